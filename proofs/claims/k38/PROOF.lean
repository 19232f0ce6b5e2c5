import PyProof.Rows.All
import Wide.All
import OpenK.AllK
import Wide.FinOn
import HandS.ForMost
import HandS.SetFor
import HandS.Strs
import HandS.SortInts
import HandS.Conv
import KE.KDictSum
import HandS.ForExc
import HandS.Wide
import HandS.Zip
import HandS.TupAny
import HandS.RaiseMore
import HandS.IsInst
import KE.KIntText
import HandS.SortRule
import HandS.SortKw
import HandS.Star
import KE.DataMinMax
import HandS.SetBool
import HandS.Walk
import KE.GoesEnum
import HandS.TupLe
import HandS.Deep
import PyProof.P3In
import PyProof.ReprRoads
import PyProof.ReprLen
import KE.DatumOrd
import KE.KTupSum
import HandS.Sort
import KE.KDictList
import HandS.Small
import HandS.Defaults
import HandS.Style
import KE.SortData
import KE.LtData
import PyProof.RowDictHeap
import KE.KDictKeyed
import KE.KDictDisplayH
import KE.KDictLaw
import HandS.Dict
import HandS.Iter
import KE.SortCalls
import HandS.ExcValue
import HandS.DictTup
import KE.KDictPairs
import KE.KDictCopyH
import PyProof.CallFns
import KE.KExcIs
import HandS.Exc
import HandS.ExcIs
import HandS.ExcField
import HandS.ExcInit
import HandS.ExcOwn
import HandS.WordsExc
import PyProof.Lay0
import HandS.EndTab
import KE.KNest
import HandS.DictComp
import KE.SortKeyHeap
import PySem.Challenge.RW_pinnedheap_k38_chains_with_the_fewest_pa
set_option Elab.async false
set_option linter.all false
set_option maxRecDepth 100000
namespace Ph
open PySem PySem.Spec PyProof.Rows L2
/-! ### set(list of ints): the members, any number of them below the line -/
abbrev sob (w : World) : Obj := { cls := .type "set", dict := none, data := .set #[] 0 (.fresh 0 0 (!w.params.followText "set-order")) }
section
variable {P : Program} {w : World} {A : Around} {E : Value → Shared → Prop} {s : Shared}
set_option maxHeartbeats 4000000 in
theorem set_of_list {l : Addr} {its : Array Value} (ns : List Int) {Q : Value → Shared → Prop} (calm : A.handled = none) (isl : s.heap.IsList l its) (ints0 : IntsAre its.toList ns) (few : ns.length + 1 < scanBound)
    (q : ∀ (g : Heap) (tk c : Nat), SetR w g s.heap.objs.size (fun j => decide (j ∈ ns)) c → c ≤ ns.length → (∀ b u, s.heap.get? b = some u → g.get? b = some u) → Q (.ref s.heap.objs.size) { s with heap := g, toks := tk }) :
    wpAny (model P w) A (call (.type "set") [.ref l]) Q E s := by
  have size : its.size = ns.length := by rw [← Array.length_toList]; exact IntsAre.length ints0
  have y1 := F.called_set.made
  have y2 := F.called_set.sub
  have y3 := F.called_set.notType
  have y4 := F.called_set.canCreate
  have y5 := F.typeCall_set_1 (.ref l)
  obtain ⟨c0, tl, y6⟩ := F.called_set.mro
  refine wpAny_call (codeAny_of_tree ?_)
  show wpAny (model P w) _ (callAny (.type "set") ⟨[.ref l], []⟩) _ _ s
  refine wpAny_pure ⟨Code.quiet_builtin _ (by decide +kernel), codeAny_builtin F.entry_type_call ?_⟩; rw [Around.under_plain (weight_type_call_type "set" [.ref l] []) rfl]
  repeat (any_goals (first | assumption | wp_step))
  refine codeAny_mono (code_set_led1 (.ref l) (E := E) (Q₁ := fun z t => z = .ref s.heap.objs.size ∧ t = { s with heap := s.heap.push (sob w) }) ⟨rfl, rfl⟩) fun r s₁ hr => ?_
  match r, hr with
  | .error e, hr => exact hr
  | .ok (.ret z), hr =>
    obtain ⟨rfl, rfl⟩ := hr
    have at0 : (s.heap.push (sob w)).get? s.heap.objs.size = some (sob w) := Heap.get?_push_size _ rfl
    have ty0 : Shared.TypeIs { s with heap := s.heap.push (sob w) } (.ref s.heap.objs.size) "set" := ⟨_, at0, rfl⟩
    have y7 := F.called_set.init.lookup
    have y8 := F.called_set.init.bind (.ref s.heap.objs.size)
    repeat (any_goals (first | assumption | wp_step))
    refine codeAny_mono (codeAny_call_builtin (R := wants (fun r t => r = .none ∧ ∃ g tk c, t = { s with heap := g, toks := tk } ∧ SetR w g s.heap.objs.size (fun j => decide (j ∈ ns)) c ∧ c ≤ ns.length ∧ (∀ b u, s.heap.get? b = some u → g.get? b = some u)) E)
      F.called_set.init.plain F.entry_set_init (check_set_init_1 ty0 ?_)) fun r₂ s₂ hr₂ => ?_
    · obtain ⟨⟨oc, od, dt, os⟩, hol, ec, nl, ed⟩ := isl
      cases ec; cases ed
      have hol1 : (s.heap.push (sob w)).get? l = some { cls := .type "list", dict := od, data := .seq its nl, slots := os } := Heap.get?_push_of_some _ hol
      have y9 := F.sub_list_set
      have y10 := F.sub_list_frozenset
      have y11 : (Value.type "list" == Value.type "dict") = false := by decide
      have isl1 : (s.heap.push (sob w)).IsList l its := ⟨_, hol1, rfl, nl, rfl⟩
      unfold Builtin.«set.__init__» noKeywords Builtin.Frozenset.updateFrom
      generalize hPI : pyIter = PI; wp_walk; subst hPI
      refine wpAny_pyIter_list isl1 (wpAny_bind (wpAny_runValue ?_))
      have lS : l < s.heap.objs.size := Heap.lt_size hol
      have sz1 : (s.heap.push (sob w)).objs.size = s.heap.objs.size + 1 := Heap.size_push ..
      have calm3 : A.in1.in1.in1.handled = none := by simp [calm]
      refine set_update_ints ((Walks.list calm3 (s.heap.push (sob w)).objs.size l (by rw [sz1]; exact Nat.ne_of_lt (Nat.lt_succ_of_lt lS)) its).toS) s.heap.objs.size ?_ ns size few ?_ (its.size - 0) 0 _ (by omega) (Nat.zero_le _) ⟨⟨_, Heap.get?_push_size _ rfl, rfl, rfl⟩, isl1.push _⟩ ?_ ?_
      · rw [sz1]
        intro z
        rcases List.mem_cons.mp z with e | e
        · exact Nat.ne_of_lt (Nat.lt_succ_self _) e
        · exact Nat.ne_of_gt lS (List.mem_singleton.mp e)
      · intro i v hv
        have hi : i < ns.length := by rw [← size]; exact (Array.getElem?_eq_some_iff.mp hv).1
        obtain ⟨t, e⟩ := PyProof.Rows.IntsAre.int_at ints0 i v (by rw [Array.getElem?_toList]; exact hv)
        exact ⟨ns[i], t, List.getElem?_eq_getElem hi, by rw [e, List.getD_eq_getElem?_getD, List.getElem?_eq_getElem hi]; rfl⟩
      · exact ⟨0, Nat.le_refl 0, setR_new_at (Heap.get?_push_of_some _ at0)⟩
      · rintro ⟨g, g2, d', tk', os'⟩ c hm hc hS
        cases (show g2 = s.gens from hm.gens)
        cases (show d' = s.drawn from hm.drawn)
        cases (show os' = s.os from hm.os)
        rw [size] at hc
        show wpAny _ _ _ _ _ _
        refine wpAny_pure ?_
        show wpAny _ _ (ret Value.none) _ _ _
        refine wpAny_pure ⟨rfl, g, tk', c, rfl, hS, hc, fun b u e => hm.heap b u (fun z => ?_) (Heap.get?_push_of_some _ (Heap.get?_push_of_some _ e))⟩
        have hb := Heap.lt_size e
        rw [sz1] at z
        rcases List.mem_cons.mp z with e | e
        · exact Nat.ne_of_lt hb e
        · exact Nat.ne_of_lt (Nat.lt_succ_of_lt hb) (List.mem_singleton.mp e)
    · match r₂, hr₂ with
      | .error e, h => exact h
      | .ok (.ret r), h =>
        obtain ⟨rfl, g, tk, c, rfl, h1, h2, h3⟩ := h
        repeat (any_goals (first | assumption | wp_step))
        exact q _ _ _ h1 h2 h3
      | .ok .next, h => exact h.elim
end
section
variable {X : Cx}
/-- set(xs), xs a list of ints -/
def rSetI (K : PySem.W.Frag) (w : World) : List V → Hp → VK → Prop := fun vs H Q => ∃ (l : Addr) (ns : List Int), vs = [V.ref l] ∧ SqL K H l (ns.map V.int) ∧ ns.length + 1 < scanBound ∧
  ∀ a c, H a = none → (ns.Nodup → c = ns.length) → Q (.ref a) (upd H a (SetO w a (fun j => decide (j ∈ ns)) c))
theorem cr_setI (hc : X.calm = true) : CallR X (.type "set") (rSetI X.K X.w) := by
  intro pins s σ H vs us Q I r h
  obtain ⟨l, ns, rfl, hl, few, q⟩ := h
  obtain ⟨its, rv, pl, hz⟩ := I.list hl
  rw [Vals.ref1 r]
  refine set_of_list ns (I.ok.hd hc) pl.isList (by simpa using rv.ints) few fun g tk c R _ k => ?_
  refine ⟨.ref _, upd H s.heap.objs.size (SetO X.w s.heap.objs.size (fun j => decide (j ∈ ns)) c), I.laid (t' := tk) k (Nat.le_refl _) (setO_new R), rfl, q _ _ (I.hok.fresh (Nat.le_refl _)) fun nd => ?_⟩
  obtain ⟨o, es, ep, t, ho, hex, hd, good, nd2, mem, _, _, hn, _⟩ := R
  have pm : (es.toList.map keyOf).Perm ns := (List.perm_ext_iff_of_nodup nd2 nd).mpr fun k => by rw [← mem k]; exact decide_eq_true_iff
  rw [← hn, ← pm.length_eq, List.length_map, Array.length_toList]
end
end Ph

namespace Ph
open PySem PySem.Spec PyProof.Rows L2
section
variable {P : Program} {w : World} {A : Around} {E : Value → Shared → Prop} {s : Shared}
/-- sorted(set of ints), any number of members -/
theorem sorted_of_set {a : Addr} {S : Int → Bool} {n : Nat} {Q : Value → Shared → Prop} (R : SetR w s.heap a S n) (calm : A.handled = none)
    (q : ∀ t p (out : Array Value) (c : Nat) (ns : List Int), (∀ b u, s.heap.get? b = some u → t.heap.get? b = some u) → t.gens = s.gens → t.os = s.os → s.heap.objs.size ≤ p → t.heap.get? p = some (seqObj "list" out c) → IntsAre out.toList ns → ns.Pairwise (· < ·) → (∀ k, k ∈ ns ↔ S k = true) → ns.length = n → Q (.ref p) t) :
    wpAny (model P w) A (call (.builtin "sorted") [.ref a]) Q E s := by
  obtain ⟨o, es, ep, t, ho, hex, hd, good, nd, mem, few, fits, hn, ris, led⟩ := R
  refine Calls.call_function_entry kind_sorted plain_sorted entry_sorted (args_sorted1 _) ?_; unfold Builtin.«sorted»
  refine wpAny_bind (m := checkCount "sorted" 1 1 _) (wpAny_pure (wpAny_bind (collect_set (A := A.in1) calm ⟨o, ho, hex.1, hd⟩ fits few ris led fun s1 vs k1 hz g1 o1 pm => ?_)))
  have lenv : vs.length = n := by rw [pm.length_eq, List.length_map, Array.length_toList]; exact hn
  have bound : vs.length ≤ sizeLine := by rw [lenv, ← hn]; exact Nat.le_trans (Nat.le_of_lt few) (by decide +kernel)
  have isI : ∀ v ∈ vs, ∃ k tk, v = Value.int k tk := fun v hv => by
    obtain ⟨e, he, q1⟩ := List.mem_map.mp (pm.mem_iff.mp hv)
    obtain ⟨k, tk, h1, _⟩ := good e he
    exact ⟨k, tk, q1 ▸ h1⟩
  have hI := SrtO.ints_iv isI
  have keys : (vs.map SrtO.iv).Perm (es.toList.map keyOf) := by
    have z := pm.map SrtO.iv
    rw [List.map_map] at z
    refine z.trans (List.Perm.of_eq (List.map_congr_left fun e he => ?_))
    obtain ⟨k, tk, h1, h2⟩ := good e he
    show SrtO.iv e.2 = keyOf e
    rw [key_vInt, h1]
    rfl
  refine wpAny_bind (wpAny_newList ?_ bound)
  have at1 : (s1.heap.push (seqObj "list" vs.toArray 0)).get? s1.heap.objs.size = some (seqObj "list" vs.toArray 0) := Heap.get?_push_size _ rfl
  refine wpAny_bind (wpAny_holding (wpAny_call_entry slot_list_sort ⟨_, at1, rfl⟩ entry_list_sort (SrtO.list_sort_ord SrtO.swo_int at1 bound (fun h2 => SrtO.ints_sortable hI h2) fun out b1 b2 => ⟨_, rfl, ?_⟩) (args_list_sort _)))
  obtain ⟨k2, k3, k4⟩ := SrtO.ints_out hI b1 b2
  obtain ⟨c, hc⟩ := sortedHeap_at (vs := vs) (out := out.toArray) at1
  have pn := k3.trans keys
  refine wpAny_pure ⟨_, rfl, q _ s1.heap.objs.size out.toArray c (out.map SrtO.iv) (fun b u e => ?_) g1 o1 hz hc (by simpa using k2) (lt_of_le_nodup _ k4 (pn.nodup_iff.mpr nd)) (fun k => by rw [pn.mem_iff, ← mem k]) ?_⟩
  · have z := k1 b u e
    have lt := Heap.lt_size z
    show (sortedHeap (s1.heap.push (seqObj "list" vs.toArray 0)) s1.heap.objs.size vs out.toArray).get? b = some u
    rw [sortedHeap_old (Nat.ne_of_lt lt) (by rw [size_push']; exact Nat.lt_succ_of_lt lt)]
    exact Heap.get?_push_of_some _ z
  · rw [pn.length_eq, List.length_map, Array.length_toList]; exact hn
end
section
variable {X : Cx}
def rSortedS2 (w : World) : List V → Hp → VK → Prop := fun vs H Q => ∃ (a : Addr) (S : Int → Bool) (n : Nat), vs = [V.ref a] ∧ H a = some (SetO w a S n) ∧
  ∀ (ns : List Int) (p : Addr), ns.Pairwise (· < ·) → (∀ k : Int, k ∈ ns ↔ S k = true) → H p = none → Q (.ref p) (upd H p (.lst (ns.map V.int)))
theorem cr_sortedS2 (hc : X.calm = true) : CallR X (.builtin "sorted") (rSortedS2 X.w) := by
  intro pins s σ H vs us Q I r h
  obtain ⟨a, S, n, rfl, ha, q⟩ := h
  have R := setO_get I ha
  have few : n < scanBound := by
    obtain ⟨_, es, _, _, _, _, _, _, _, _, few, _, hn, _⟩ := R
    rw [← hn]; exact few
  rw [Vals.ref1 r]
  refine sorted_of_set R (I.ok.hd hc) fun t p out c ns k g o hp hg hi hs hm hl => ?_
  have len : (ns.map V.int).length ≤ sizeLine := by rw [List.length_map, hl]; exact Nat.le_trans (Nat.le_of_lt few) (by decide +kernel)
  have J : Inv X pins σ (upd H p (.lst (ns.map V.int))) { s with heap := t.heap, gens := t.gens, drawn := t.drawn, toks := t.toks } :=
    I.call (ch := []) (Un.laid k hp (I.hok.fresh hp)) (I.hok.laid k hp ⟨len, out.toList, c, vals_of_ints hi, hg⟩) (g ▸ I.bare) (fun _ z => nomatch z)
  have e : t = { s with heap := t.heap, gens := t.gens, drawn := t.drawn, toks := t.toks } := by
    obtain ⟨h1, h2, h3, h4, h5⟩ := t
    cases o
    rfl
  rw [e]
  exact ⟨.ref p, _, J, rfl, q ns p hs hm (I.hok.fresh hp)⟩
/-- len(set of ints) -/
def rLenSet (w : World) : List V → Hp → VK → Prop := fun vs H Q => ∃ (a : Addr) (S : Int → Bool) (n : Nat), vs = [V.ref a] ∧ H a = some (SetO w a S n) ∧ Q (.int n) H
theorem cr_lenSet : CallR X (.builtin "len") (rLenSet X.w) := by
  intro pins s σ H vs us Q I r h
  obtain ⟨a, S, n, rfl, ha, q⟩ := h
  obtain ⟨o, es, ep, t, ho, hex, hd, _, _, _, few, fits, hn, _⟩ := setO_get I ha
  rw [Vals.ref1 r]
  refine call_len_set ho hex hd fits ?_ ⟨.int n, H, I.tok _, ⟨_, by rw [← hn]⟩, q⟩
  have h1 : (es.size : Int) < scanBound := Int.ofNat_lt.mpr few
  exact Int.lt_of_lt_of_le h1 (by decide +kernel)
/-- t.index(k), a tuple of ints: the first place -/
theorem flat_ints (ys : List Int) : (ys.map V.int).all flatV = true := by
  rw [List.all_map]
  exact List.all_eq_true.mpr fun _ _ => rfl
theorem mt_tindexI : MtR X "tuple.index" (fun x xs H Q => ∃ p, ∃ ys : List Int, ∃ z j, x = .ref p ∧ xs = [.int z] ∧ SqT X.K H p (ys.map V.int) ∧ ys[j]? = some z ∧ (∀ m, m < j → ys[m]? ≠ some z) ∧ Q (.int (j : Nat)) H) := by
  intro pins s σ H x xs v us Q I rx rs h
  obtain ⟨p, ys, z, j, rfl, rfl, hq, hy, hno, q⟩ := h
  cases rx
  obtain ⟨u, rfl, t, rfl⟩ := vals1 rs
  obtain ⟨its, r, ⟨⟨cls, dd, dt, sl⟩, ho, hc, n, hd⟩, hz⟩ := I.tuple hq
  cases hc
  cases hd
  have len : its.toArray.size = ys.length := by rw [List.size_toArray, ← r.length, List.length_map]
  have at' : ∀ (m : Nat) (hm : m < its.toArray.size), ∃ y t', ys[m]? = some y ∧ its.toArray[m] = Value.int y t' := fun m hm => by
    have hm' : m < ys.length := len ▸ hm
    obtain ⟨w, hw, t', hw'⟩ := r.get (i := m) (x := .int ys[m]) (by simp [hm'])
    refine ⟨ys[m], t', List.getElem?_eq_getElem hm', ?_⟩
    rw [← hw', ← (List.getElem?_eq_some_iff.mp hw).2]
    simp
  have hj : j < its.toArray.size := by rw [len]; exact (List.getElem?_eq_some_iff.mp hy).1
  refine call_meets PySem.F.slot_tuple_index ⟨_, ho, rfl⟩ PySem.F.entry_tuple_index (PySem.F.args_tuple_index_2 _ _) (TI.tuple_indexAt p its.toArray n dd sl (.int z t) (eqU (.int z)) j hj ?_ ?_)
    ⟨ho, fun w hw => mem_eqAt (x := .int z) ⟨t, rfl⟩ rfl r (flat_ints ys) w (by simpa using hw), ⟨.int (j : Nat), H, I.tok _, ⟨_, rfl⟩, q⟩⟩
  · obtain ⟨y, t', h1, h2⟩ := at' j hj
    rw [hy] at h1
    cases h1
    rw [h2]
    show decide (z = z) = true
    exact decide_eq_true rfl
  · intro m hm hmj
    obtain ⟨y, t', h1, h2⟩ := at' m hm
    rw [h2]
    show decide (y = z) = false
    exact decide_eq_false fun e => hno m hmj (e ▸ h1)
end
end Ph

namespace Ph
open PySem PySem.Spec PyProof.Rows L2
/-! ### a tuple whose object is known: it has no dict of its own, so its methods can be called -/
def ChAt (H : Hp) (c : Addr) (C : List Int) : Prop := ∃ o : Obj, o.dict = none ∧ H c = some (.frz o (.tup (C.map V.int)))
theorem ChAt.sq {K : PySem.W.Frag} {H : Hp} {c : Addr} {C : List Int} (h : ChAt H c C) : SqT K H c (C.map V.int) := let ⟨o, _, e⟩ := h; .inl (.inr ⟨o, e⟩)
theorem ChAt.keep {H H' : Hp} {c : Addr} {C : List Int} (h : ChAt H c C) (s : ∀ b o, H b = some o → H' b = some o) : ChAt H' c C := let ⟨o, d, e⟩ := h; ⟨o, d, s _ _ e⟩
section
variable {X : Cx}
/-- tuple(list): a new one -/
theorem call_tuple_frz : CallR X (.type "tuple") (fun xs H Q => ∃ p ys, xs = [.ref p] ∧ SqL X.K H p ys ∧ ∀ l (o : Obj), H l = none → o.dict = none → Q (.ref l) (upd H l (.frz o (.tup ys)))) := by
  intro pins s σ H xs us Q I r h
  obtain ⟨p, ys, rfl, hq, q⟩ := h
  obtain ⟨u, rfl, rx⟩ := vals1 r
  cases rx
  obtain ⟨its, r', pl, hz⟩ := I.list hq
  have len := r'.length
  refine call_tuple_list pl.isList (fun g k => ?_) (by rw [List.size_toArray]; omega)
  have J := I.kept (t' := s.toks) k
  refine ⟨.ref g.objs.size, _, J.laid (t' := s.toks) (o := .frz { cls := .type "tuple", data := .seq its.toArray } (.tup ys)) (fun b u e => Heap.get?_push_of_some _ e) (Nat.le_refl _) ⟨Heap.get?_push_size _ rfl, hz, its, r', IsTup.new _ _⟩, rfl, q _ _ (J.hok.fresh (Nat.le_refl _)) rfl⟩
variable {o e : Expr} {es : List Expr} {to : TE} {t : TA} {apos cpos : Pos} {name : Str} {id : String} {r : V → List V → Hp → VK → Prop}
/-- c.m(..), c such a tuple -/
def tBT (r : V → List V → Hp → VK → Prop) (to : TE) (t : TA) : TE := fun σ H Q => to σ H fun x H1 => (∃ c C, x = .ref c ∧ ChAt H1 c C) ∧ t σ H1 fun xs H2 => r x xs H2 Q
theorem pe_bmT (slot : Slot "tuple" name id) (hty : typeOf (.builtin id) = pure (.type "method_descriptor")) (hm : MtR X id r) (ho : PE X o to) (ha : PA X (e :: es) t)
    (hbase : attributeBase o name X.env (eval o X.env) = eval o X.env := by rfl)
    (hfew : ((backTo cpos (starEach (e :: es) X.env)).all (fun x => !x.1) && (backToKw cpos (keywordEach [] X.env)).all (fun x => x.1.isSome) && decide ((e :: es).length + ([] : List Keyword).length + (if ([] : List Keyword).isEmpty then 0 else 1) < 30)) = true := by rfl)
    (hline : (apos.endLine == cpos.line) = true := by rfl) (hse : starEach (e :: es) X.env = (false, eval e X.env) :: starEach es X.env := by rfl) (hpl : (backTo cpos (starEach es X.env)).any (·.1) = false := by rfl) :
    PE X (.Call (.Attribute o name apos) (e :: es) [] cpos) (tBT r to t) := ⟨fun pins s σ H Q I h => by
  refine wpAny_Call_method_late hbase hfew hline rfl (thn (ho.run pins s σ H _ I h) fun v s1 ⟨x, H1, I1, r1, ⟨c, C, ex, oc, od, hc⟩, q1⟩ => ?_)
  subst ex
  cases r1
  obtain ⟨g, _, its, _, ⟨u, hu, hcl, _⟩⟩ := I1.hok c _ hc
  rw [g] at hu
  cases hu
  have hA := ha.run cpos pins s1 σ H1 _ I1 q1
  refine ⟨"tuple", id, PySem.F.plainAttrs_tuple, slot, hty, ⟨oc, g, hcl⟩, fun a z => by cases z; exact ⟨oc, g, od⟩, ?_⟩
  rw [hse] at hA ⊢
  refine Calls.callWith_builtin (by show (false || (backTo cpos (starEach es X.env)).any (·.1)) = false; rw [hpl]; rfl) (Calls.evalArgs_plain (thn hA fun us s2 ⟨vs, H2, I2, r2, q2⟩ => hm pins s2 σ H2 (.ref c) vs (.ref c) us Q I2 rfl r2 q2))⟩
end
end Ph

namespace Ph
open PySem PySem.Spec PyProof.Rows L2 PySem.NumText PySem.Calls
/-! ### the limit on digits stands as it was at the beginning -/
theorem noDigits_of {K : PySem.W.Frag} {h : Heap} (X : K.In h) (L : h.NoLimit) (e : PySem.W.nsIn K cStatics "sys.int_max_str_digits" = some none) : h.NoDigits := by
  obtain ⟨mc, G, _⟩ := L
  refine ⟨mc, G, ?_⟩
  obtain ⟨o, es, ep, ho, hd, _, hf⟩ := G
  unfold PySem.W.nsIn at e
  split at e
  · rename_i c d es' n' sl q
    have := X _ _ q
    rw [ho] at this
    cases this
    cases hd
    split at e
    · cases e
    · rename_i he
      rw [← hf]
      unfold nsFind findBy
      rw [← Array.find?_toList, he]
      rfl
  · cases e
theorem wp_digits {M : Model} {A : Around} {E : Value → Shared → Prop} {s : Shared} {Q : Nat → Shared → Prop} (hn : s.heap.NoDigits) (h : Q 4300 s) : wpAny M A Builtin.intMaxStrDigits Q E s := by
  obtain ⟨mc, hns, hnone⟩ := hn
  unfold Builtin.intMaxStrDigits
  refine wpAny_bind (wpAny_nsGet hns ?_)
  rw [hnone]
  exact wpAny_pure h
/-! ### int(text) of more than 640 digits -/
theorem wp_textW {M : Model} {A : Around} {E : Value → Shared → Prop} {s : Shared} {Q : Value → Shared → Prop} {v : Value} {text : List Nat} {n : Int} (hn : s.heap.NoDigits)
    (hs : ¬ (text.takeWhile (· != 0)).length ≤ 640) (hr : (int_private% "readNumeral") 4300 10 (text.takeWhile (· != 0)) = (int_private% "Numeral.value") n)
    (ha : ((text.takeWhile (· != 0)).length == text.length) = true) (h : Q (.int n s.toks) { s with toks := s.toks + 1 }) :
    wpAny M A ((int_private% "intFromText") v text 10) Q E s := by
  show wpAny M A (if (text.takeWhile (· != 0)).length ≤ 640 then _ else (Builtin.intMaxStrDigits >>= _)) Q E s
  rw [if_neg hs]
  refine wpAny_bind (wp_digits hn ?_)
  dsimp only
  rw [hr]
  dsimp only
  rw [if_pos ha]
  exact wpAny_mkInt h
set_option maxHeartbeats 4000000 in
theorem meets_textW {x : PySem.Str} {u : Tok} {n : Int} (hs : ¬ (numSeenOf x).length ≤ 640) (hr : (int_private% "readNumeral") 4300 10 (numSeenOf x) = (int_private% "Numeral.value") n) (ha : ((numSeenOf x).length == (numTextOf x).length) = true) :
    Meets (Builtin.«int.__new__» ⟨[.type "int", .str x u], []⟩) (fun _ R s => s.heap.NoDigits ∧ R (.ok (.ret (.int n s.toks))) { s with toks := s.toks + 1 }) :=
  .of_wp fun prog w A R s h => by
    obtain ⟨hn, h⟩ := h
    obtain ⟨hp, g, d, tk, os⟩ := s
    have f1 := F.conv_sub_int
    have f2 := F.madeHere_int
    have f3 := PySem.W.KIN.str_int
    have f4 := PySem.W.KIN.str_idx
    have f5 := PySem.W.KIN.str_trunc
    have f6 : typeOf (.str x u) = pure (.type "str") := rfl
    have hk := PySem.W.KIN.Hid.mk (And.intro hs (And.intro hr ha))
    have hk2 := PySem.W.KIN.Hid.mk hn
    clear hs hr ha hn
    repeat (any_goals (first
      | assumption
      | ((with_reducible show wpAny _ _ ((int_private% "intFromText") _ _ _) _ _ _); refine wp_textW hk2.out hk.out.1 hk.out.2.1 hk.out.2.2 ?_)
      | wp_step))
    all_goals first | exact ⟨_, rfl, h⟩ | skip
def big9 : PySem.Str := (Str.ofString "1") ++ Txt.mul (Str.ofString "0") 900
theorem reps_list (c : Nat) : ∀ (k : Nat) (acc : Array Nat), ((List.replicate k (#[c] : Array Nat)).foldl (· ++ ·) acc).toList = acc.toList ++ List.replicate k c
  | 0, acc => by simp
  | k + 1, acc => by
    rw [List.replicate_succ, List.foldl_cons, reps_list c k, List.replicate_succ]
    simp
theorem zeros_list : (Txt.mul (Str.ofString "0") 900).cps.toList = List.replicate 900 48 := by
  have e : Txt.mul (Str.ofString "0") 900 = ⟨(List.replicate 900 (#[48] : Array Nat)).foldl (· ++ ·) #[]⟩ := by
    unfold Txt.mul
    rw [if_neg (by decide), if_neg (by decide +kernel)]
    rfl
  rw [e]
  exact reps_list 48 900 #[]
theorem big9_list : big9.cps.toList = 49 :: List.replicate 900 48 := by
  have e : big9.cps.toList = (Str.ofString "1").cps.toList ++ (Txt.mul (Str.ofString "0") 900).cps.toList := Array.toList_append
  rw [e, zeros_list]
  rfl
theorem big9_digits : AllDigits big9.cps.toList := by
  rw [big9_list]
  intro d hd
  rcases List.mem_cons.mp hd with e | e
  · subst e; decide
  · rw [(List.mem_replicate.mp e).2]; decide
theorem digits_zeros : ∀ (k a : Nat), (List.replicate k 48).foldl (fun acc c => acc * 10 + (c - 48)) a = a * 10 ^ k
  | 0, a => by simp
  | k + 1, a => by
    rw [List.replicate_succ, List.foldl_cons, digits_zeros k, Nat.pow_succ]
    show (a * 10 + 0) * 10 ^ k = a * (10 ^ k * 10)
    rw [Nat.add_zero, Nat.mul_assoc, Nat.mul_comm 10 (10 ^ k)]
theorem big9_val : digitsVal big9.cps.toList = 10 ^ 900 := by
  rw [big9_list]
  unfold digitsVal
  rw [List.foldl_cons, digits_zeros]
  show (0 * 10 + 1) * 10 ^ 900 = 10 ^ 900
  rw [Nat.zero_mul, Nat.zero_add, Nat.one_mul]
theorem big9_length : big9.length = 901 := by
  have e : big9.cps.toList.length = big9.length := Array.length_toList
  rw [← e, big9_list, List.length_cons, List.length_replicate]
theorem ten_ex : ∃ t : Int, intText? big9 = some t ∧ 0 < t ∧ t.natAbs < 2 ^ 3000 := by
  refine ⟨_, intText_digits big9_digits (by rw [big9_list]; exact List.cons_ne_nil _ _) (by rw [big9_length]; decide), ?_, ?_⟩
  · rw [big9_val]
    exact Int.natCast_pos.mpr (Nat.pow_pos (by decide))
  · rw [big9_val, Int.natAbs_natCast]
    decide +kernel
noncomputable def ten9 : Int := Classical.choose ten_ex
theorem big9_int : intText? big9 = some ten9 := (Classical.choose_spec ten_ex).1
theorem ten9_pos : 0 < ten9 := (Classical.choose_spec ten_ex).2.1
theorem ten9_lt : ten9.natAbs < 2 ^ 3000 := (Classical.choose_spec ten_ex).2.2
theorem big9_text : numTextOf big9 = big9.cps.toList ∧ numSeenOf big9 = big9.cps.toList := numText_signs fun c hc => Or.inr (big9_digits c hc)
theorem big9_seen : ¬ (numSeenOf big9).length ≤ 640 := by
  rw [big9_text.2, big9_list, List.length_cons, List.length_replicate]
  decide
theorem big9_all : ((numSeenOf big9).length == (numTextOf big9).length) = true := by
  rw [big9_text.1, big9_text.2]
  exact beq_self_eq_true _
theorem big9_read : (int_private% "readNumeral") 4300 10 (numSeenOf big9) = (int_private% "Numeral.value") ten9 := by
  rcases read4300 big9 (by rw [big9_length]; decide) with ⟨n, h1, h2, h3⟩ | ⟨h1, _⟩
  · rw [Option.some.inj (big9_int.symm.trans h1)]
    exact h3
  · rw [big9_int] at h1
    cases h1
theorem zeros_length : (Txt.mul (Str.ofString "0") 900).length = 900 := by
  have e : (Txt.mul (Str.ofString "0") 900).cps.toList.length = (Txt.mul (Str.ofString "0") 900).length := Array.length_toList
  rw [← e, zeros_list, List.length_replicate]
theorem big9_len : (Str.ofString "1").length + (Txt.mul (Str.ofString "0") 900).length ≤ sizeLine := by
  rw [zeros_length]
  decide +kernel
theorem zeros_ok : MulOk (Str.ofString "0") 900 := ⟨by decide, fun _ _ => by decide +kernel, fun _ _ => by decide +kernel⟩
section
variable {X : Cx}
theorem Inv.noDigits {pins : List (Addr × Obj)} {σ : List (Option V)} {H : Hp} {s : Shared} (I : Inv X pins σ H s) (e : PySem.W.nsIn X.K cStatics "sys.int_max_str_digits" = some none) : s.heap.NoDigits :=
  (noDigits_of I.ok.mod.kin I.ok.mod.nolimit e).keeps I.bk
theorem call_big9 (e : PySem.W.nsIn X.K cStatics "sys.int_max_str_digits" = some none) : CallR X (.type "int") (fun xs H Q => xs = [.str big9] ∧ Q (.int ten9) H) := by
  intro pins s σ H xs us Q I r h
  obtain ⟨rfl, q⟩ := h
  obtain ⟨u, rfl, t, rfl⟩ := vals1 r
  exact call_int_1 (meets_textW big9_seen big9_read big9_all) ⟨Inv.noDigits I e, ⟨typeIs_int _ _ _, ⟨.int ten9, H, I.tok _, ⟨_, rfl⟩, q⟩⟩⟩
/-- text * number -/
theorem op_repS : OpR X (binaryOp .Mult) (fun x y H Q => ∃ z k, x = .str z ∧ y = .int k ∧ MulOk z k ∧ Q (.str (Txt.mul z k)) H) := by
  intro pins s σ H x y v u Q I rx ry h
  obtain ⟨i, j, rfl, rfl, hz, q⟩ := h
  obtain ⟨t, rfl⟩ := rx
  obtain ⟨t', rfl⟩ := ry
  exact SB.mul hz (fun t' k => ⟨.str _, H, I.tok _, ⟨_, rfl⟩, q⟩)
theorem iop_mulW : OpR X (inplaceOp .Mult) (rI CMulW fun i j => .int (i * j)) := opI fun _ _ _ _ _ _ _ hc q => imul_int q hc.ok
theorem ip_mulW : PIp X .Mult (fun x y H Q => ∃ i j, x = .int i ∧ y = .int j ∧ CMulW i j ∧ Q (.int (i * j)) H) := by
  intro pins s σ H x y v u Q I r1 r2 h
  obtain ⟨i, j, e1, e2, hc, q⟩ := h
  subst e1; subst e2
  obtain ⟨t, rfl⟩ := r1
  obtain ⟨t', rfl⟩ := r2
  exact imul_int ⟨.int _, H, I.tok _, ⟨_, rfl⟩, q⟩ hc.ok
theorem repr_wide {prog : Program} {w : World} {A : Around} {E : Value → Shared → Prop} {s : Shared} {a : Int} {t : Tok} {Q : Value → Shared → Prop} (hn : s.heap.NoDigits) (hlt : a.natAbs < 10 ^ 4300) (h : Q (.str (toString a) s.toks) { s with toks := s.toks + 1 }) :
    wpAny (model prog w) A (call (.builtin "repr") [.int a t]) Q E s := by
  refine Calls.call_function_entry F.kind_repr F.plain_repr F.entry_repr (F.args_repr1 _) ?_
  unfold Builtin.«repr»
  refine wpAny_bind (m := oneArg "repr" _) (wpAny_pure ?_)
  have hv : [Value.int a t].any Value.onHeap = false := rfl
  simp only [cRoomFor, hv, Bool.false_eq_true, if_false, pure_bind]
  refine wpAny_bind (wpAny_specialOf (name := Str.ofString "__repr__") (typeIs_int s a t) F.slot_int_repr.lookup ?_)
  refine wpAny_bind (m := callSpecialIfBound? (.int a t) (Str.ofString "__repr__")) (wpAny_callSpecialIfBound?_slot (name := Str.ofString "__repr__") (typeIs_int s a t) F.slot_int_repr ?_)
  refine wpAny_call_entry F.slot_int_repr (typeIs_int s a t) F.entry_int_repr ?_ (F.args_int_repr_1 _)
  unfold Builtin.«int.__repr__»
  show wpAny _ _ (do let r ← Builtin.overDigitLimit? a; _) _ _ s
  refine wpAny_bind (overDigitLimit_any hn (fun hlt => ?_) (fun hge => absurd hlt (Nat.not_lt.mpr hge)))
  refine wpAny_bind (wpAny_mkStr (wpAny_pure ⟨_, rfl, ?_⟩) (int_text_fits10 hlt))
  refine wpAny_bind (wpAny_isInstance (T := "str") (b := true) rfl isSubtype_str_str ?_)
  exact wpAny_pure ⟨_, rfl, h⟩
theorem call_reprW (e : PySem.W.nsIn X.K cStatics "sys.int_max_str_digits" = some none) : CallR X (.builtin "repr") (fun xs H Q => ∃ i, xs = [.int i] ∧ i.natAbs < 10 ^ 4300 ∧ Q (.str (toString i)) H) := by
  intro pins s σ H xs us Q I r h
  obtain ⟨i, rfl, hz, q⟩ := h
  obtain ⟨u, rfl, t, rfl⟩ := vals1 r
  exact repr_wide (Inv.noDigits I e) hz ⟨.str _, H, I.tok _, ⟨_, rfl⟩, q⟩
end
end Ph

namespace Ph
open PySem PySem.Spec PyProof.Rows L2 PySem.Calls
section
variable {X : Cx}
/-- d.update(e), both tracked dicts -/
def rDUp : V → List V → Hp → VK → Prop := fun x vs H Q => ∃ (a b : Addr) (ks ls : List (Key × V)), x = .ref a ∧ vs = [.ref b] ∧ a ≠ b ∧ H a = some (.dK ks) ∧ H b = some (.dK ls) ∧ ks.length + ls.length ≤ sizeLine ∧ Q .non (upd H a (.dK (mergeK ks ls)))
theorem mtd_update : MtR X "dict.update" rDUp := by
  intro pins s σ H x vs v us Q I rx rv h
  obtain ⟨a, b, ks, ls, rfl, rfl, nab, ea, eb, hz, q⟩ := h
  cases rx
  obtain ⟨u, rfl, ru⟩ := rv.one
  cases ru
  obtain ⟨za, hda, va, ra, da⟩ := dk_of I.hok ea
  obtain ⟨zb, hdb, vb, rb, db⟩ := dk_of I.hok eb
  refine call_meetsIn PySem.F.slot_dict_update da.typeIs PySem.F.entry_dict_update (PySem.F.args_dict_update_2 _ _) (meets_dict_update (mixKind X.prog X.w) a b nab hdb) ⟨va, vb, da, db, by rw [← ra.length, ← rb.length]; exact hz, fun h' d1 d2 sb => ?_⟩
  have he : ∃ o, h'.get? a = some o := let ⟨o, _, _, ho, _⟩ := d1; ⟨o, ho⟩
  exact ⟨.non, _, d_write (t' := s.toks) I (by rw [ea]; exact True.intro) sb he (dk_new (Nat.le_trans (length_mergeK ls ks) hz) hda (rb.merge ra) d1), rfl, q⟩
end
/-- which ints are keys -/
def hasI (kvs : List (Key × V)) (i : Int) : Bool := (valV kvs (Sum.inl i)).isSome
theorem hasI_merge : ∀ (more kvs : List (Key × V)) (i : Int), hasI (mergeK kvs more) i = (hasI kvs i || more.any fun kv => decide (kv.1 = Sum.inl i))
  | [], kvs, i => by
    show hasI kvs i = (hasI kvs i || false)
    rw [Bool.or_false]
  | kv :: r, kvs, i => by
    have e : mergeK kvs (kv :: r) = mergeK (putK kvs kv.1 kv.2) r := rfl
    rw [e, hasI_merge r, List.any_cons]
    unfold hasI
    rw [valV_put]
    by_cases h : (Sum.inl i : Key) = kv.1
    · rw [if_pos h, h]
      simp
    · rw [if_neg h, decide_eq_false (fun z => h z.symm), Bool.false_or]
end Ph

namespace Ph
open PySem PySem.Spec PyProof.Rows L2
/-! ### max(ints, default=d) -/
def mxd (d : Int) : List Int → Int
  | [] => d
  | n :: r => r.foldl max n
theorem alike_ints (ns : List Int) : PySem.W.AlikeAll (ns.map PyData.int) := by
  refine ⟨fun x hx y hy => ?_, fun x hx => ?_⟩
  · obtain ⟨a, _, rfl⟩ := List.mem_map.mp hx
    obtain ⟨b, _, rfl⟩ := List.mem_map.mp hy
    rfl
  · obtain ⟨a, _, rfl⟩ := List.mem_map.mp hx
    exact fun z => nomatch z
theorem dpI {K : PySem.W.Frag} {H : Hp} : ∀ ns : List Int, DpAll K H (ns.map V.int) (ns.map PyData.int)
  | [] => .nil
  | n :: r => .cons (.int n) (dpI r)
theorem depthI : ∀ ns : List Int, PyData.depthAll (ns.map PyData.int) ≤ 1
  | [] => by simp [PyData.depthAll]
  | n :: r => by
    have h := depthI r
    simp only [List.map_cons, PyData.depthAll, PyData.depth]
    omega
section
variable {X : Cx}
def rMaxDf (K : PySem.W.Frag) : List V → List V → Hp → VK → Prop := fun xs zs H Q => ∃ (l : Addr) (ns : List Int) (d : Int), xs = [.ref l] ∧ zs = [.int d] ∧ SqL K H l (ns.map V.int) ∧ Q (.int (mxd d ns)) H
theorem cr_maxDf (hc : X.calm = true) (hu : X.A.units + 2 < cLine) : CallRK X (.builtin "max") ["default"] (rMaxDf X.K) := by
  intro pins s σ H xs zs us ws Q I r rz h
  obtain ⟨l, ns, d, rfl, rfl, hl, q⟩ := h
  obtain ⟨its, rv, pl, hz⟩ := I.list hl
  rw [Vals.ref1 r]
  obtain ⟨w, rfl, t, rfl⟩ := vals1 rz
  obtain ⟨as, rd⟩ := Dp.readsAll I _ _ its (dpI ns) rv
  have hd := depthI ns
  refine PySem.W.max_list_default (d := .int d t) (I.ok.hd hc) pl.isList (by simpa using rd) (alike_ints ns) (by omega) (fun e g tk k => ?_) (fun y ys i v g tk bs e hv rv k => ?_)
  · have e2 : ns = [] := List.map_eq_nil_iff.mp e
    rw [e2] at q
    exact ⟨.int d, H, I.kept k, ⟨t, rfl⟩, q⟩
  · cases ns with
    | nil => cases e
    | cons n r =>
      injection e with e1 e2
      subst e1
      subst e2
      rw [PySem.W.maxD_ints] at rv
      cases rv with
      | int _ t' => exact ⟨.int (r.foldl max n), H, I.kept k, ⟨t', rfl⟩, q⟩
/-! ### list(range(a, b, c)) -/
def rg3 (i c : Int) (n : Nat) : List Int := (List.range n).map fun (t : Nat) => i + (t : Int) * c
def tLst3 (ta : TA) : TE := fun σ H Q => ta σ H fun vs H1 => ∃ (i j c : Int) (n : Nat), vs = [.int i, .int j, .int c] ∧ RgC i j c n ∧ n ≤ 2 ^ 24 ∧ ∀ q, H1 q = none → Q (.ref q) (upd H1 q (.lst ((rg3 i c n).map V.int)))
theorem vals_rg3 {i c : Int} {n : Nat} {acc : Array Value} (h : ItemsOf (fun j v => ∃ t, v = .int (i + j * c) t) acc n) : Vals ((rg3 i c n).map V.int) acc.toList := by
  have e : acc.toList.length = n := by rw [Array.length_toList]; exact h.1
  unfold rg3
  rw [List.map_map, ← e]
  refine vals_of_get acc.toList _ fun j u hj => ?_
  obtain ⟨t, rfl⟩ := h.2 j u (by rw [← hj, Array.getElem?_toList])
  exact ⟨t, rfl⟩
theorem pe_listRg3 {a b c : Expr} {ta : TA} {p p2 pos pos2 : Pos} (hc : X.calm = true) (hg : Gl X "list") (hm : X.mg "list" = none) (hg2 : Gl X "range") (hm2 : X.mg "range" = none) (ha : PA X [a, b, c] ta)
    (na : starEach [Expr.Call (.Name "range" p2) [a, b, c] [] pos2] X.env = (false, eval (Expr.Call (.Name "range" p2) [a, b, c] [] pos2) X.env) :: starEach [] X.env := by rfl)
    (hs : starEach [a, b, c] X.env = (false, eval a X.env) :: starEach [b, c] X.env := by rfl) (hpl : (backTo pos2 (starEach [b, c] X.env)).any (·.1) = false := by rfl) :
    PE X (.Call (.Name "list" p) [.Call (.Name "range" p2) [a, b, c] [] pos2] [] pos) (tLst3 ta) := by
  refine ⟨fun pins s σ H Q I h => ?_⟩
  refine Call_ (ld_blt I hg hm boot_list (PyProof.Rows.callWith_type1 (args_cons ?_ na) na))
  refine Call_ (ld_blt I hg2 hm2 boot_range (PyProof.Rows.callWith_type1 (thn (ha.run pos2 pins s σ H _ I h) fun us s1 ⟨vs, H1, I1, r1, i, j, k, n, e, ⟨c0, c1, c2, c3⟩, hn, q⟩ => ?_) hs hpl))
  subst e
  obtain ⟨t1, t2, t3, rfl⟩ : ∃ t1 t2 t3, us = [Value.int i t1, .int j t2, .int k t3] := by
    cases r1 with
    | cons ra rr =>
      cases rr with
      | cons rb rr =>
        cases rr with
        | cons rd rr =>
          cases rr
          obtain ⟨t1, rfl⟩ := ra
          obtain ⟨t2, rfl⟩ := rb
          obtain ⟨t3, rfl⟩ := rd
          exact ⟨t1, t2, t3, rfl⟩
  · skip
    refine call_range_3 c0 (args_nil ?_) (.inl (PyProof.noPylong_small c1))
    have I2 : Inv X pins σ H1 { s1 with heap := s1.heap.push { cls := .type "range", data := .fields #[.int i t1, .int j t2, .int k t3] } } := I1.kept (t' := s1.toks) fun b o e => Heap.get?_push_of_some _ e
    refine call_list_range (n := n) (I2.ok.hd hc) (IsRange.new ..) c2 c3 hn fun g tk acc cc keep at' it => ?_
    refine ⟨.ref _, upd H1 _ (.lst ((rg3 i k n).map V.int)), I2.laid (t' := tk) keep (Nat.le_refl _) ⟨?_, acc.toList, cc, vals_rg3 it, ?_⟩, rfl, q _ (I2.hok.fresh (Nat.le_refl _))⟩
    · unfold rg3
      rw [List.length_map, List.length_map, List.length_range, sizeLine_eq]
      omega
    · rw [Array.toArray_toList]; exact at'
end
end Ph

set_option maxHeartbeats 2000000
namespace Ph
open PySem PySem.Spec PyProof.Rows L2
/-! ### {e for x in xs}, e an int -/
abbrev TurnI (w : World) (D : Addr) (te : TE) (σ2 : L2.St) (H3 : Hp) (Nx : Hp → Prop) : Prop :=
  te σ2 H3 fun y H4 => ∃ (c : Int) (S : Int → Bool) (n : Nat), y = .int c ∧ H4 D = some (SetO w D S n) ∧ n + 1 < scanBound ∧ Nx (upd H4 D (SetO w D (fun j => S j || decide (j = c)) (if S c = true then n else n + 1)))
def tScI (w : World) (wi : TI) (g : TG) (tt : TT) (te : TE) (vs : List Nat) : TE := fun σ H Q => wi σ H fun J H1 => ∀ D, H1 D = none → ∃ W : Nat → Nat → Hp → Prop, (∃ m, W 0 m (upd H1 D (SetO w D (fun _ => false) 0))) ∧ ∀ i m H, W i m H →
  (J.stop i H ∧ Q (.ref D) H) ∨ (J.go i H ∧ ∃ Nx : Hp → Prop, (∀ H', Nx H' → ∃ m', m' < m ∧ W (i + 1) m' H') ∧ ∀ x H', J.yld i H x H' → g x (wipe σ vs) H' fun σ2 H2 => wipe σ2 vs = wipe σ vs ∧ tt σ2 H2 fun b H3 => if b = true then TurnI w D te σ2 H3 Nx else Nx H3)
section
variable {X : Cx}
abbrev BlkG (X : Cx) (scope : Scope) (F : Cx → Prop) : Prop := ∀ (s : Shared) (H : Hp) (C : Addr) (cl : List (PySem.Str × Addr)) (fp : List Addr), F (X.blk s H scope (compEnvC scope cl C X.env) fp)
theorem pe_scI {elt tg iter : Expr} {ifs : List Expr} {scope : Scope} {own : List (PySem.Str × Nat)} {pos : Pos} {wi : TI} {g : TG} {tt : TT} {te : TE} (calm : X.calm = true) (nod : X.N.Nodup) (walk : L2.PI X tg iter wi) (blk : BlkOk X.N X.env.scope scope own)
    (gs : BlkG X scope fun Y => PG Y tg g) (ts : BlkG X scope fun Y => PTs Y ifs tt) (es : BlkG X scope fun Y => PE Y elt te) (fold : ∀ x, foldedSetIterable iter X.env x = pure x := by intro _; rfl) :
    PE X (.SetComp elt [⟨tg, iter, ifs, 0⟩] scope pos) (tScI X.w wi g tt te (own.map (·.2))) := by
  refine ⟨fun pins s σ H Q I want => ?_⟩
  rw [PpSet.eval_SetComp]
  have captured : ∀ y ∈ scope.names, y.2 = .free → ∃ c, X.env.cells.lookup y.1 = some c := fun y hy e => (blk.free y hy e).elim (fun k => I.ok.has _ (.inl k)) fun k => I.ok.has _ (.inr k)
  refine wpAny_comprehension_free rfl fold (closure_ok captured) blk.kind (fun y hy e => by rw [blk.uniq y hy, e]) (thn (walk.run pins s σ H _ I want) fun xv s1 hx => thn hx fun itv s2 h2 => ?_)
  obtain ⟨it, fp, tn, J, H2, rfl, I2, T, tn2, fp2, q⟩ := h2
  refine PpSet.newSet_ok (newEnv_comp ?_)
  have freshD : H2 s2.heap.objs.size = none := I2.hok.fresh (Nat.le_refl _)
  obtain ⟨W, ⟨m0, start⟩, step⟩ := q _ freshD
  have low : ∀ b ∈ fp, b < s2.heap.objs.size := fun b hb => let ⟨o, e, _⟩ := T.obj _ _ tn2 b hb; Heap.lt_size e
  have I3 : Inv X pins σ (upd H2 s2.heap.objs.size (SetO X.w s2.heap.objs.size (fun _ => false) 0)) { s2 with heap := s2.heap.push (sob X.w) } := I2.laid (t' := s2.toks) (fun b o e => Heap.get?_push_of_some _ e) (Nat.le_refl _) (setO_new (setR_fresh X.w))
  have fp3 : ∀ b ∈ fp, FpOk X pins (upd H2 s2.heap.objs.size (SetO X.w s2.heap.objs.size (fun _ => false) 0)) b ∧ b < (s2.heap.push (sob X.w)).objs.size := fun b hb => by
    refine ⟨⟨?_, (fp2 b hb).2⟩, by rw [Heap.size_push]; exact Nat.lt_succ_of_lt (low b hb)⟩
    rw [upd_ne (Nat.ne_of_lt (low b hb))]
    exact (fp2 b hb).1
  have tn3 : tn 0 (s2.heap.push (sob X.w)) := T.keep _ _ _ tn2 fun b _ o e => Heap.get?_push_of_some _ e
  have I4 := block_start I3 blk nod fp3
  generalize eD : s2.heap.objs.size = D at start step I3 fp3 I4 ⊢
  generalize eS : ({ s2 with heap := s2.heap.push (sob X.w) } : Shared) = s3 at I3 fp3 tn3 I4 ⊢
  generalize eH : upd H2 D (SetO X.w D (fun _ => false) 0) = H3 at start I3 fp3 I4
  have tn3' : tn 0 s3.heap := by rw [← eS]; exact tn3
  have fp3' : ∀ b ∈ fp, FpOk X pins H3 b ∧ b < s3.heap.objs.size := fun b hb => by
    have := fp3 b hb
    rw [← eS]
    exact this
  have G := gs s3 H3 s3.heap.objs.size (cellsFrom (s3.heap.objs.size + 1) scope.names (cloFrom X.env.cells scope.names [])) fp
  have Te := ts s3 H3 s3.heap.objs.size (cellsFrom (s3.heap.objs.size + 1) scope.names (cloFrom X.env.cells scope.names [])) fp
  have El := es s3 H3 s3.heap.objs.size (cellsFrom (s3.heap.objs.size + 1) scope.names (cloFrom X.env.cells scope.names [])) fp
  have shape : codeAny (model X.prog X.w) X.A (.compStart (.SetComp elt [⟨tg, iter, ifs, 0⟩] scope pos) 0 (.ref it) (.ref D) (compEnvC scope (cellsFrom (s3.heap.objs.size + 1) scope.names (cloFrom X.env.cells scope.names [])) s3.heap.objs.size X.env))
      (compPost (model X.prog X.w) X.A X.xe none (EP X pins σ Q) (.ref D) s3.heap.objs.size) { s3 with heap := pushCells (s3.heap.push { cls := .type "dict", data := .dict #[] }) scope.names } := by
    generalize eE : compEnvC scope (cellsFrom (s3.heap.objs.size + 1) scope.names (cloFrom X.env.cells scope.names [])) s3.heap.objs.size X.env = ce at I4 G Te El ⊢
    have locs : ce.locals = s3.heap.objs.size := by subst eE; rfl
    generalize e4 : ({ s3 with heap := pushCells (s3.heap.push { cls := .type "dict", data := .dict #[] }) scope.names } : Shared) = s4 at I4 ⊢
    have tn4 : tn 0 s4.heap := T.keep _ _ _ tn3' fun b _ o e => by rw [← e4]; exact pushCells_keeps _ _ _ _ (Heap.get?_push_of_some _ e)
    have off : ∀ {σ' : L2.St} {H' : Hp} {s' : Shared}, Inv (X.blk s3 H3 scope ce fp) [] σ' H' s' → (∀ b ∈ fp, H' b = none) → ∀ b ∈ fp, FpOk (X.blk s3 H3 scope ce fp) [] H' b := fun J hn b hb =>
      ⟨hn b hb, (J.ok.exf b hb).1, J.ok.exfs b hb, .inl hb, fun x c e => (J.ok.exf b hb).2 x c e, fun p hp => nomatch (show p ∈ ([] : List (Addr × Obj)) from by simpa using hp)⟩
    have loop : codeAny (model X.prog X.w) X.A (.compLoop (.SetComp elt [⟨tg, iter, ifs, 0⟩] scope pos) 0 (.ref it) (.ref D) ce) (compPost (model X.prog X.w) X.A X.xe none (EP X pins σ Q) (.ref D) s3.heap.objs.size) s4 := by
      refine PpSet.compLoopS_any (fun n s' => ∃ i H', Inv (X.blk s3 H3 scope ce fp) [] (wipe σ (own.map (·.2))) H' s' ∧ tn i s'.heap ∧ (∀ b ∈ fp, H' b = none) ∧ W i n H') ?_ m0 ⟨0, H3, I4, tn4, fun b hb => (fp3' b hb).1.1, start⟩
      rintro n s5 ⟨i, H5, I5, tn5, free5, w5⟩
      rcases step i n H5 w5 with ⟨stop, done⟩ | ⟨go, Nx, lower, turn⟩
      · refine thnF (T.done (X.blk s3 H3 scope ce fp) rfl rfl rfl calm i [] s5 _ H5 (fun _ _ => False) I5 (off I5 free5) tn5 stop) fun r s6 ⟨hr, I6⟩ => ?_
        subst hr
        have I7 : Inv X pins σ H5 s6 := I3.call' (ch := fp) I6.os I6.base I6.hok I6.bare fun b hb => let z := (fp3' b hb).1.2; ⟨z.2.2.1, z.1, z.2.2.2.1, z.2.2.2.2⟩
        obtain ⟨m, names, _⟩ := I6.loc
        have names' : s6.heap.Ns s3.heap.objs.size m := locs ▸ (show s6.heap.Ns ce.locals m from names)
        have none5 : H5 s3.heap.objs.size = none := locs ▸ (show H5 ce.locals = none from I6.free)
        obtain ⟨f0, f1, f2, f3, f4, f5⟩ := I3.fpOk (Nat.le_refl s3.heap.objs.size) none5
        exact ⟨m, names', fun g sb => ⟨.ref D, H5, I7.turned (t' := s6.toks) (fun b o hb e => (sb.2 b hb).trans e) f0 f1 f3 f4 f5, rfl, done⟩⟩
      · refine thnF (T.item (X.blk s3 H3 scope ce fp) rfl rfl rfl calm i [] s5 _ H5 (fun _ _ => False) I5 (off I5 free5) tn5 go) fun r s6 ⟨u, hr, h6⟩ => ?_
        subst hr
        refine thnF h6 fun _ s7 ⟨x, H7, I7, r7, y7, tn7, free7⟩ => ?_
        refine thnF (G.run _ s7 _ H7 x u _ (I7.pinned (off I7 free7) (T.obj _ _ tn7)) r7 (turn x H7 y7)) fun _ s8 ⟨σ8, H8, I8, wiped, q8⟩ => ?_
        refine thnF (Te.run _ s8 σ8 H8 _ I8 q8) fun b s9 ⟨H9, I9, q9⟩ => ?_
        have back : ∀ {s' : Shared} {H' : Hp}, Inv (X.blk s3 H3 scope ce fp) ([] ++ pinsAt fp s7.heap) σ8 H' s' → Nx H' → ∃ m, m < n ∧ ∃ i H', Inv (X.blk s3 H3 scope ce fp) [] (wipe σ (own.map (·.2))) H' s' ∧ tn i s'.heap ∧ (∀ b ∈ fp, H' b = none) ∧ W i m H' := fun {s' H'} J nx => by
          obtain ⟨m', less, w'⟩ := lower H' nx
          have held : ∀ b ∈ fp, ∀ o, s7.heap.get? b = some o → s'.heap.get? b = some o ∧ H' b = none := fun b hb o e => let z := J.pin (b, o) (List.mem_append_right _ (List.mem_append_right _ (mem_pinsAt hb e))); ⟨z.1, z.2.1⟩
          refine ⟨m', less, i + 1, H', (J.unpinned (pins := [])).weak (by rw [← wiped, wipe_length]) (fun j v e => (wipe_some (wiped ▸ e)).1), T.keep _ _ _ tn7 fun b hb o e => (held b hb o e).1, fun b hb => ?_, w'⟩
          obtain ⟨o, e, _⟩ := T.obj _ _ tn7 b hb
          exact (held b hb o e).2
        cases b with
        | false => exact back I9 (by simpa using q9)
        | true =>
          have q9' : TurnI X.w D te σ8 H9 Nx := by simpa using q9
          refine thnF (El.run _ s9 σ8 H9 _ I9 q9') fun z s10 ⟨yv, H10, I10, r10, c, S0, n0, ey, at10, room, nx⟩ => ?_
          subst ey
          obtain ⟨tk, rfl⟩ := r10
          refine setR_add (setO_get (X := X.blk s3 H3 scope ce fp) I10 at10) room fun g sb new => ?_
          have there : ∃ u, g.get? D = some u := let ⟨o, _, _, _, ho, _⟩ := new; ⟨o, ho⟩
          exact back (I10.write (e := D) (t' := s10.toks + 1) (by rw [at10]; trivial) (.inl rfl) (fun b u hb hu => (sb.2 b hb).trans hu) there (setO_new new)) nx
    exact PpSet.codeAny_compStart_set loop (T.self X.A 0 _ _ _ tn4 loop)
  exact shape
/-- over a tuple, the steps leave the heap as it is -/
theorem sc_tupF {w : World} {K : PySem.W.Frag} {a : Addr} {xs : List V} {g : TG} {tt : TT} {te : TE} {vs : List Nat} {σ : L2.St} {H1 : Hp} {D : Addr} {Qd : Hp → Prop} (f : V → Int) (ht : SqT K H1 a xs) (nD : H1 D = none) (few : xs.length + 1 < scanBound)
    (hs : ∀ x ∈ xs, ∀ H, (∀ b o, H1 b = some o → H b = some o) → ∀ (Y : V → Hp → Prop) (N : Hp → Prop), Y (.int (f x)) H → g x (wipe σ vs) H fun σ2 H2 => wipe σ2 vs = wipe σ vs ∧ tt σ2 H2 fun b H3 => if b = true then te σ2 H3 Y else N H3)
    (hd : ∀ H n, (∀ b o, H1 b = some o → H b = some o) → H D = some (SetO w D (fun j => decide (j ∈ xs.map f)) n) → Qd H) :
    ∃ W : Nat → Nat → Hp → Prop, (∃ m, W 0 m (upd H1 D (SetO w D (fun _ => false) 0))) ∧ ∀ i m H, W i m H →
      ((Itt K a).stop i H ∧ Qd H) ∨ ((Itt K a).go i H ∧ ∃ Nx : Hp → Prop, (∀ H', Nx H' → ∃ m', m' < m ∧ W (i + 1) m' H') ∧ ∀ x H', (Itt K a).yld i H x H' → g x (wipe σ vs) H' fun σ2 H2 => wipe σ2 vs = wipe σ vs ∧ tt σ2 H2 fun b H3 => if b = true then TurnI w D te σ2 H3 Nx else Nx H3) := by
  have tupStays : ∀ H, (∀ b o, H1 b = some o → H b = some o) → SqT K H a xs := fun H k => by
    rcases ht with (h | ⟨o, h⟩) | h
    · exact .inl (.inl (k _ _ h))
    · exact .inl (.inr ⟨o, k _ _ h⟩)
    · exact .inr h
  refine ⟨fun i m H => m = xs.length - i ∧ i ≤ xs.length ∧ (∀ b o, H1 b = some o → H b = some o) ∧ ∃ n, n ≤ i ∧ H D = some (SetO w D (fun j => decide (j ∈ (xs.take i).map f)) n), ⟨xs.length, by simp, Nat.zero_le _, fun b o e => ?_, 0, Nat.le_refl _, ?_⟩, ?_⟩
  · rw [upd_ne (ne_of_none e nD)]; exact e
  · rw [upd_same]
    congr
  rintro i m H ⟨rfl, hi, k, n, hn, hD⟩
  have hq := tupStays H k
  by_cases hlt : i < xs.length
  · refine .inr ⟨⟨xs, xs[i], hq, by simp [hlt]⟩, fun H' => (∀ b o, H1 b = some o → H' b = some o) ∧ ∃ n, n ≤ i + 1 ∧ H' D = some (SetO w D (fun j => decide (j ∈ (xs.take (i + 1)).map f)) n), fun H' p => ⟨xs.length - (i + 1), by omega, rfl, hlt, p.1, p.2⟩, fun x H' y => ?_⟩
    obtain ⟨rfl, y⟩ := y
    have hx := y xs hq
    refine hs x (List.mem_of_getElem? hx) _ k _ _ ⟨f x, _, n, rfl, hD, by omega, fun b o e => ?_, (if decide (f x ∈ (xs.take i).map f) = true then n else n + 1), ?_, ?_⟩
    · rw [upd_ne (ne_of_none e nD)]; exact k _ _ e
    · split <;> omega
    · rw [upd_same]
      congr
      funext j
      rw [List.take_add_one, hx, Bool.eq_iff_iff]
      simp
  · have e : i = xs.length := by omega
    subst e
    rw [List.take_of_length_le (Nat.le_refl _)] at hD
    exact .inl ⟨⟨xs, hq, Nat.le_refl _⟩, hd H n k hD⟩
end
end Ph

namespace Ph
open PySem PySem.Spec PyProof.Rows L2
/-! ### comprehensions whose steps leave the heap as it is -/
section
variable {K : PySem.W.Frag} {a : Addr} {xs : List V} {g : TG} {tt : TT} {te : TE} {vs : List Nat} {σ : L2.St} {H1 : Hp} {D : Addr} {Qd : Hp → Prop}
abbrev Stp (g : TG) (tt : TT) (te : TE) (vs : List Nat) (σ : L2.St) (H1 : Hp) (f : V → Option V) (x : V) : Prop :=
  ∀ H, (∀ b o, H1 b = some o → H b = some o) → ∀ (Y : V → Hp → Prop) (N : Hp → Prop), (∀ y, f x = some y → Y y H) → (f x = none → N H) →
    g x (wipe σ vs) H fun σ2 H2 => wipe σ2 vs = wipe σ vs ∧ tt σ2 H2 fun b H3 => if b = true then te σ2 H3 Y else N H3
theorem take_filterMap {α β : Type} (f : α → Option β) {l : List α} {i : Nat} {x : α} (h : l[i]? = some x) : (l.take (i + 1)).filterMap f = (l.take i).filterMap f ++ (f x).toList := by
  rw [List.take_add_one, h, List.filterMap_append]
  congr 1
theorem fm_len {α β : Type} (f : α → Option β) (l : List α) (i : Nat) : ((l.take i).filterMap f).length ≤ l.length := by
  refine Nat.le_trans (List.length_filterMap_le _ _) ?_
  rw [List.length_take]
  omega
theorem lc_tupF (f : V → Option V) (ht : SqT K H1 a xs) (nD : H1 D = none) (hlen : xs.length < sizeLine) (hs : ∀ x ∈ xs, Stp g tt te vs σ H1 f x) (hd : ∀ H, (∀ b o, H1 b = some o → H b = some o) → H D = some (.lst (xs.filterMap f)) → Qd H) :
    ∃ W : Nat → Nat → Hp → Prop, (∃ m, W 0 m (upd H1 D (.lst []))) ∧ ∀ i m H, W i m H →
      ((Itt K a).stop i H ∧ Qd H) ∨ ((Itt K a).go i H ∧ ∃ Nx : Hp → Prop, (∀ H', Nx H' → ∃ m', m' < m ∧ W (i + 1) m' H') ∧ ∀ x H', (Itt K a).yld i H x H' → g x (wipe σ vs) H' fun σ2 H2 => wipe σ2 vs = wipe σ vs ∧ tt σ2 H2 fun b H3 =>
        if b = true then te σ2 H3 fun y H4 => ∃ acc, H4 D = some (.lst acc) ∧ acc.length < sizeLine ∧ Nx (upd H4 D (.lst (acc ++ [y]))) else Nx H3) := by
  refine lc_tup (K := K) (a := a) (xs := xs) (fun i H => (∀ b o, H1 b = some o → H b = some o) ∧ H D = some (.lst ((xs.take i).filterMap f))) ⟨fun b o e => ?_, ?_⟩ (fun i H _ p => ?_) (fun i x H hx p => ?_) (fun H p => ?_)
  · rw [upd_ne (ne_of_none e nD)]; exact e
  · rw [upd_same]; rfl
  · rcases ht with (h | ⟨o, h⟩) | h
    · exact .inl (.inl (p.1 _ _ h))
    · exact .inl (.inr ⟨o, p.1 _ _ h⟩)
    · exact .inr h
  · refine hs x (List.mem_of_getElem? hx) H p.1 _ _ (fun y ey => ⟨_, p.2, Nat.lt_of_le_of_lt (fm_len f xs i) hlen, fun b o e => ?_, ?_⟩) fun en => ⟨p.1, ?_⟩
    · rw [upd_ne (ne_of_none e nD)]; exact p.1 _ _ e
    · rw [upd_same, take_filterMap f hx, ey]; rfl
    · rw [take_filterMap f hx, en]; simpa using p.2
  · refine hd H p.1 ?_
    have := p.2
    rwa [List.take_of_length_le (Nat.le_refl _)] at this
theorem lc_listF (f : V → Option V) (ht : SqL K H1 a xs) (nD : H1 D = none) (hlen : xs.length < sizeLine) (hs : ∀ x ∈ xs, Stp g tt te vs σ H1 f x) (hd : ∀ H, (∀ b o, H1 b = some o → H b = some o) → H D = some (.lst (xs.filterMap f)) → Qd H) :
    ∃ W : Nat → Nat → Hp → Prop, (∃ m, W 0 m (upd H1 D (.lst []))) ∧ ∀ i m H, W i m H →
      ((Itl K a).stop i H ∧ Qd H) ∨ ((Itl K a).go i H ∧ ∃ Nx : Hp → Prop, (∀ H', Nx H' → ∃ m', m' < m ∧ W (i + 1) m' H') ∧ ∀ x H', (Itl K a).yld i H x H' → g x (wipe σ vs) H' fun σ2 H2 => wipe σ2 vs = wipe σ vs ∧ tt σ2 H2 fun b H3 =>
        if b = true then te σ2 H3 fun y H4 => ∃ acc, H4 D = some (.lst acc) ∧ acc.length < sizeLine ∧ Nx (upd H4 D (.lst (acc ++ [y]))) else Nx H3) := by
  refine lc_list (K := K) (a := a) (xs := xs) (fun i H => (∀ b o, H1 b = some o → H b = some o) ∧ H D = some (.lst ((xs.take i).filterMap f))) ⟨fun b o e => ?_, ?_⟩ (fun i H _ p => ?_) (fun i x H hx p => ?_) (fun H p => ?_)
  · rw [upd_ne (ne_of_none e nD)]; exact e
  · rw [upd_same]; rfl
  · rcases ht with (h | ⟨o, h⟩) | h
    · exact .inl (.inl (p.1 _ _ h))
    · exact .inl (.inr ⟨o, p.1 _ _ h⟩)
    · exact .inr h
  · refine hs x (List.mem_of_getElem? hx) H p.1 _ _ (fun y ey => ⟨_, p.2, Nat.lt_of_le_of_lt (fm_len f xs i) hlen, fun b o e => ?_, ?_⟩) fun en => ⟨p.1, ?_⟩
    · rw [upd_ne (ne_of_none e nD)]; exact p.1 _ _ e
    · rw [upd_same, take_filterMap f hx, ey]; rfl
    · rw [take_filterMap f hx, en]; simpa using p.2
  · refine hd H p.1 ?_
    have := p.2
    rwa [List.take_of_length_le (Nat.le_refl _)] at this
/-- over the keys of a dict that stands still -/
theorem lc_keysF {d : Addr} {od : Obj} {kvs : List (Key × V)} (f : V → Option V) (ht : H1 d = some (.frz od (.dK kvs))) (nD : H1 D = none) (hlen : kvs.length < sizeLine) (hs : ∀ x ∈ kvs.map (fun kv => kV kv.1), Stp g tt te vs σ H1 f x) (hd : ∀ H, (∀ b o, H1 b = some o → H b = some o) → H D = some (.lst ((kvs.map fun kv => kV kv.1).filterMap f)) → Qd H) :
    ∃ W : Nat → Nat → Hp → Prop, (∃ m, W 0 m (upd H1 D (.lst []))) ∧ ∀ i m H, W i m H →
      ((Itk d od kvs).stop i H ∧ Qd H) ∨ ((Itk d od kvs).go i H ∧ ∃ Nx : Hp → Prop, (∀ H', Nx H' → ∃ m', m' < m ∧ W (i + 1) m' H') ∧ ∀ x H', (Itk d od kvs).yld i H x H' → g x (wipe σ vs) H' fun σ2 H2 => wipe σ2 vs = wipe σ vs ∧ tt σ2 H2 fun b H3 =>
        if b = true then te σ2 H3 fun y H4 => ∃ acc, H4 D = some (.lst acc) ∧ acc.length < sizeLine ∧ Nx (upd H4 D (.lst (acc ++ [y]))) else Nx H3) := by
  refine lc_it walk_keys (fun i H => (∀ b o, H1 b = some o → H b = some o) ∧ H D = some (.lst (((kvs.map fun kv => kV kv.1).take i).filterMap f))) ⟨fun b o e => ?_, ?_⟩ (fun i H _ p => p.1 _ _ ht) (fun i x H H' hi p y => ?_) (fun H p => ?_)
  · rw [upd_ne (ne_of_none e nD)]; exact e
  · rw [upd_same]; rfl
  · obtain ⟨rfl, k, v, hk, rfl⟩ := y
    have hx : (kvs.map fun kv => kV kv.1)[i]? = some (kV k) := by rw [List.getElem?_map, hk]; rfl
    refine hs _ (List.mem_of_getElem? hx) _ p.1 _ _ (fun y ey => ⟨_, p.2, Nat.lt_of_le_of_lt (fm_len f _ i) (by rw [List.length_map]; exact hlen), fun b o e => ?_, ?_⟩) fun en => ⟨p.1, ?_⟩
    · rw [upd_ne (ne_of_none e nD)]; exact p.1 _ _ e
    · rw [upd_same, take_filterMap f hx, ey]; rfl
    · rw [take_filterMap f hx, en]; simpa using p.2
  · refine hd H p.1 ?_
    have := p.2
    rwa [List.take_of_length_le (by rw [List.length_map]; exact Nat.le_refl _)] at this
end
end Ph

namespace Ph
open PySem PySem.Spec PyProof.Rows L2
/-! ### zip of a tuple and a list, in any mix (true: a tuple) -/
def SqK (k : Bool) (K : PySem.W.Frag) (H : Hp) (a : Addr) (xs : List V) : Prop := if k = true then SqT K H a xs else SqL K H a xs
def ItrK (k : Bool) (g : Heap) (j l : Addr) (n : Nat) : Prop := if k = true then g.IsTupleIter j l n else g.IsListIter j l n
def SeqK (k : Bool) (g : Heap) (l : Addr) (vs : Array Value) : Prop := if k = true then g.IsTuple l vs else g.IsList l vs
def itoK (k : Bool) (l : Addr) : Obj := if k = true then { cls := .type "tuple_iterator", data := .fields #[.ref l, .int 0 0] } else { cls := .type "list_iterator", data := .fields #[.ref l, .int 0 0] }
theorem ItrK.obj {k : Bool} {g : Heap} {j l : Addr} {n : Nat} (h : ItrK k g j l n) : ∃ o, g.get? j = some o ∧ ∀ v, o.data ≠ .cell v := by
  cases k <;> (obtain ⟨o, e, _, d⟩ := h; exact ⟨o, e, fun v q => by rw [d] at q; cases q⟩)
theorem ItrK.on {k : Bool} {g g' : Heap} {j l : Addr} {n : Nat} (h : ItrK k g j l n) (e : ∀ o, g.get? j = some o → g'.get? j = some o) : ItrK k g' j l n := by
  cases k
  · exact Heap.IsListIter.at h e
  · exact Heap.IsTupleIter.at h e
theorem drawK {P : Program} {w : World} {A : Around} (k : Bool) (hh : A.handled = none) (j l : Addr) (ne : l ≠ j) (vs : Array Value) :
    Draws P w A j [j, l] vs.size (fun i v => vs[i]? = some v) (fun i g => ItrK k g j l i ∧ SeqK k g l vs) := by
  cases k
  · exact Draws.list hh j l ne vs
  · exact Draws.tuple hh j l ne vs
theorem beginK (k : Bool) (l : Addr) (vs : Array Value) : Begins (.ref l) (itoK k l) fun g => SeqK k g l vs := by
  cases k
  · exact begins_list l vs
  · exact begins_tuple l vs
theorem itoK_it {k : Bool} {g : Heap} {j l : Addr} (h : g.get? j = some (itoK k l)) : ItrK k g j l 0 := by
  cases k <;> exact ⟨_, h, rfl, rfl⟩
theorem Inv.seqK {X : Cx} {pins : List (Addr × Obj)} {σ : L2.St} {H : Hp} {s : Shared} {k : Bool} {a : Addr} {xs : List V} (I : Inv X pins σ H s) (h : SqK k X.K H a xs) : ∃ vs : List Value, Vals xs vs ∧ SeqK k s.heap a vs.toArray ∧ a < s.heap.objs.size := by
  cases k
  · obtain ⟨vs, r, p, _⟩ := I.list h
    exact ⟨vs, r, p.isList, p.lt⟩
  · obtain ⟨vs, r, p, _⟩ := I.tuple h
    obtain ⟨o, e, _⟩ := id p
    exact ⟨vs, r, p, Heap.lt_size e⟩
theorem Inv.seqK_inj {X : Cx} {pins : List (Addr × Obj)} {σ : L2.St} {H : Hp} {s : Shared} {k : Bool} {a : Addr} {xs ys : List V} (I : Inv X pins σ H s) (h : SqK k X.K H a xs) (h2 : SqK k X.K H a ys) : xs = ys := by
  cases k
  · exact I.list_inj h h2
  · exact I.tuple_inj h h2
def ItzK (k1 k2 : Bool) (K : PySem.W.Frag) (a b : Addr) : It :=
  ⟨fun i H => ∃ (xs ys : List V) (x y : V), SqK k1 K H a xs ∧ SqK k2 K H b ys ∧ xs[i]? = some x ∧ ys[i]? = some y,
    fun i H v H2 => ∃ T x y, v = .ref T ∧ H T = none ∧ H2 = upd H T (.tup [x, y]) ∧ (∀ xs, SqK k1 K H a xs → xs[i]? = some x) ∧ ∀ ys, SqK k2 K H b ys → ys[i]? = some y,
    fun i H => ∃ xs ys : List V, SqK k1 K H a xs ∧ SqK k2 K H b ys ∧ i ≤ xs.length ∧ i ≤ ys.length ∧ (i = xs.length ∨ i = ys.length)⟩
theorem mem5 {c z t u j1 j2 : Addr} (h : c ∈ [z, t, u, j1, j2]) : c = z ∨ c = t ∨ c = u ∨ c = j1 ∨ c = j2 := by simpa using h
theorem turn_zipK {P : Program} {w : World} {K : PySem.W.Frag} {es : List Expr} {kk : Nat} {tp : Pos} {k1 k2 : Bool} {a b z t u j1 j2 : Addr} (D : ZipSep2 z t u j1 j2 [j1, a] [j2, b]) (n1 : a ≠ j1) (n2 : b ≠ j2) :
    Turn P w K (.Tuple es kk tp) (ItzK k1 k2 K a b) [z, t, u, j1, j2] z (fun i g => IsZip g z t u .none ∧ IsTupOf2 g t (.ref j1) (.ref j2) ∧ (∃ x y, IsTupOf2 g u x y) ∧ ItrK k1 g j1 a i ∧ ItrK k2 g j2 b i) where
  mem := List.mem_cons_self ..
  obj := fun i g st c hc => by
    obtain ⟨hz, ht, ⟨x, y, hu⟩, h1, h2⟩ := st
    rcases mem5 hc with rfl | rfl | rfl | rfl | rfl
    · exact ⟨_, hz, fun v q => nomatch q⟩
    · exact ⟨_, ht, fun v q => nomatch q⟩
    · exact ⟨_, hu, fun v q => nomatch q⟩
    · exact h1.obj
    · exact h2.obj
  keep := fun i g g2 st kp => by
    obtain ⟨hz, ht, ⟨x, y, hu⟩, h1, h2⟩ := st
    exact ⟨kp z (by simp) _ hz, kp t (by simp) _ ht, ⟨x, y, kp u (by simp) _ hu⟩, h1.on fun o => kp j1 (by simp) o, h2.on fun o => kp j2 (by simp) o⟩
  item := by
    intro X eP ew eK hc i pins s σ H E I hf st hg
    subst eP ew eK
    obtain ⟨hz, ht, ⟨x0, y0, hu⟩, h1, h2⟩ := st
    obtain ⟨xs, ys, x, y, qx, qy, gx, gy⟩ := hg
    obtain ⟨vs, r1, p1, _⟩ := Inv.seqK I qx
    obtain ⟨vt, r2, p2, _⟩ := Inv.seqK I qy
    obtain ⟨v1, gv1, rv1⟩ := r1.get gx
    obtain ⟨v2, gv2, rv2⟩ := r2.get gy
    have zl : z < s.heap.objs.size := Heap.lt_size hz
    have l1 : i < vs.toArray.size := by
      have := (List.getElem?_eq_some_iff.mp gv1).1
      simpa using this
    have l2 : i < vt.toArray.size := by
      have := (List.getElem?_eq_some_iff.mp gv2).1
      simpa using this
    have hh : X.A.in1.handled = none := I.ok.hd hc
    refine wpAny_pyNext_zipD2_item D (drawK k1 hh j1 a n1 vs.toArray) (drawK k2 hh j2 b n2 vt.toArray) hz ht hu ⟨h1, p1⟩ ⟨h2, p2⟩ l1 l2 fun y1 y2 g tk e1 e2 hz1 hu1 st1 st2 hT hsz hk => ?_
    have f1 : y1 = v1 := by
      have q : vs.toArray[i]? = some v1 := by simpa using gv1
      rw [q] at e1
      exact (Option.some.inj e1).symm
    have f2 : y2 = v2 := by
      have q : vt.toArray[i]? = some v2 := by simpa using gv2
      rw [q] at e2
      exact (Option.some.inj e2).symm
    subst f1 f2
    refine ⟨_, rfl, wpAny_letOwnedTupleGo_zip (s := { s with heap := g, toks := tk }) hz1 fun g2 hz2 sb => ?_⟩
    have hT2 : g2.get? s.heap.objs.size = some { cls := .type "tuple", data := .seq #[y1, y2] } := (sb.2 _ (Nat.ne_of_gt zl)).trans hT
    have new : ObjOk X.prog X.w (upd H s.heap.objs.size (.tup [x, y])) g2 s.heap.objs.size (.tup [x, y]) :=
      ⟨(by show 2 ≤ sizeLine; decide), [y1, y2], .cons rv1 (.cons rv2 .nil), ⟨_, hT2, rfl, _, rfl⟩⟩
    have I1 : Inv X pins σ (upd H s.heap.objs.size (.tup [x, y])) { s with heap := g2, toks := tk } :=
      I.turnedNew (t' := tk) (ch := [z, t, u, j1, j2]) (fun c o nb q => (sb.2 c (fun e => nb (by simp [e]))).trans (hk c o (fun e => nb (by simp [e])) (fun e => nb (by simp [e])) (fun e => nb (by simp [e])) (fun e => nb (by simp [e])) q)) hf (Nat.le_refl _) new
    refine ⟨.ref s.heap.objs.size, _, I1, rfl, ⟨_, x, y, rfl, I.hok.fresh (Nat.le_refl _), rfl, fun l hl => by rw [Inv.seqK_inj I hl qx]; exact gx, fun l hl => by rw [Inv.seqK_inj I hl qy]; exact gy⟩, ⟨hz2, ?_, ⟨y1, y2, ?_⟩, ?_, ?_⟩, fun c hm => ?_⟩
    · exact (sb.2 _ D.TIz).trans (hk _ _ D.TIz D.TITO D.TIi1 D.TIi2 ht)
    · exact (sb.2 _ D.TOz).trans hu1
    · exact st1.1.on fun o q => (sb.2 _ D.zi1.symm).trans q
    · exact st2.1.on fun o q => (sb.2 _ D.zi2.symm).trans q
    · have lt : c < s.heap.objs.size := by
        rcases mem5 hm with rfl | rfl | rfl | rfl | rfl
        · exact zl
        · exact Heap.lt_size ht
        · exact Heap.lt_size hu
        · obtain ⟨_, e, _⟩ := h1.obj
          exact Heap.lt_size e
        · obtain ⟨_, e, _⟩ := h2.obj
          exact Heap.lt_size e
      rw [upd_ne (Nat.ne_of_lt lt)]
      exact (hf c hm).1
  done := by
    intro X eP ew eK hc i pins s σ H E I hf st hg
    subst eP ew eK
    obtain ⟨hz, ht, ⟨x0, y0, hu⟩, h1, h2⟩ := st
    obtain ⟨xs, ys, qx, qy, le1, le2, hend⟩ := hg
    obtain ⟨vs, r1, p1, _⟩ := Inv.seqK I qx
    obtain ⟨vt, r2, p2, _⟩ := Inv.seqK I qy
    have m1 := r1.length
    have m2 := r2.length
    have hh : X.A.in1.handled = none := I.ok.hd hc
    have s1 : vs.toArray.size = xs.length := by simp [m1]
    have s2 : vt.toArray.size = ys.length := by simp [m2]
    exact wpAny_pyNext_zipD2_end D (drawK k1 hh j1 a n1 vs.toArray) (drawK k2 hh j2 b n2 vt.toArray) hz ht hu ⟨h1, p1⟩ ⟨h2, p2⟩ (by rw [s1]; exact le1) (by rw [s2]; exact le2) (by rw [s1, s2]; exact hend) fun g tk hk =>
      ⟨rfl, I.turnedL (t' := tk) (ch := [z, t, u, j1, j2]) (fun c o nb q => hk c o (fun e => nb (by simp [e])) (fun e => nb (by simp [e])) (fun e => nb (by simp [e])) (fun e => nb (by simp [e])) q) hf⟩
  self := fun A i s Q E st h => wpAny_pyIter_zip st.1 h
def iZipK (k1 k2 : Bool) (K : PySem.W.Frag) (ta : TA) : TI := fun σ H R => ta σ H fun us H1 => ∃ a b xs ys, us = [.ref a, .ref b] ∧ SqK k1 K H1 a xs ∧ SqK k2 K H1 b ys ∧ R (ItzK k1 k2 K a b) H1
theorem pi_zipK {k1 k2 : Bool} {X : Cx} {e e2 : Expr} {ta : TA} {p pos tp : Pos} {es : List Expr} {kk : Nat} (hg : Gl X "zip") (hm : X.mg "zip" = none) (ha : PA X [e, e2] ta)
    (hs : starEach [e, e2] X.env = (false, eval e X.env) :: starEach [e2] X.env := by rfl) (hp : (backTo pos (starEach [e2] X.env)).any (·.1) = false := by rfl) :
    L2.PI X (.Tuple es kk tp) (.Call (.Name "zip" p) [e, e2] [] pos) (iZipK k1 k2 X.K ta) := by
  refine ⟨fun pins s σ H R I h => ?_⟩
  refine Call_ (ld_blt I hg hm PyProof.Rows.boot_zip (PyProof.Rows.callWith_type1 (thn (ha.run pos pins s σ H _ I h) fun us s1 ⟨vs, H1, I1, rs, q1⟩ => ?_) hs hp))
  obtain ⟨a, b, xs, ys, rfl, qx, qy, q⟩ := q1
  cases rs with
  | cons r rr =>
    cases rr with
    | cons r2 rr =>
      cases rr
      cases r
      cases r2
      obtain ⟨va, _, p1, la⟩ := Inv.seqK I1 qx
      obtain ⟨vb, _, p2, lb⟩ := Inv.seqK I1 qy
      refine zip_begins2 (beginK k1 a va.toArray) (beginK k2 b vb.toArray) p1 p2 fun g hz ht hu g1 g2 hsz hk => wpAny_pyIter_zip hz ?_
      have I2 : Inv X pins σ H1 { s1 with heap := g } := I1.kept (t' := s1.toks) hk
      refine ⟨s1.heap.objs.size + 4, [s1.heap.objs.size + 4, s1.heap.objs.size + 2, s1.heap.objs.size + 3, s1.heap.objs.size, s1.heap.objs.size + 1], _, _, H1, rfl, I2, turn_zipK (k1 := k1) (k2 := k2) (zip_sep2 (fp1 := [a]) (fp2 := [b]) ?_ ?_) ?_ ?_, ⟨hz, ht, ⟨_, _, hu⟩, itoK_it g1, itoK_it g2⟩, fun c hm => ?_, q⟩
      · intro c hcm
        rw [List.mem_singleton.mp hcm]
        exact la
      · intro c hcm
        rw [List.mem_singleton.mp hcm]
        exact lb
      · exact Nat.ne_of_lt la
      · exact Nat.ne_of_lt (Nat.lt_succ_of_lt lb)
      · have le : s1.heap.objs.size ≤ c := by
          rcases mem5 hm with rfl | rfl | rfl | rfl | rfl <;> first | exact Nat.le_add_right _ _ | exact Nat.le_refl _
        exact I1.fpOk le (I1.hok.fresh le)
/-- a loop over such a zip -/
theorem for_zipK {k1 k2 : Bool} {K : PySem.W.Frag} {a b : Addr} {xs ys : List V} {g : TG} {tb : TS} {D : Ends} {σ : L2.St} {H : Hp} (n : Nat) (hn : n = min xs.length ys.length) (Pv : Nat → L2.St → Hp → Prop) (h0 : Pv 0 σ H) (hq : ∀ i σ H, Pv i σ H → SqK k1 K H a xs ∧ SqK k2 K H b ys)
    (hs : ∀ (i : Nat) (x y : V) (T : Addr) (σ : L2.St) (H : Hp), i < n → xs[i]? = some x → ys[i]? = some y → Pv i σ H → H T = none → g (.ref T) σ (upd H T (.tup [x, y])) fun σ2 H2 => tb { D with nx := Pv (i + 1), ct := Pv (i + 1), bk := D.nx } σ2 H2) (hd : ∀ σ H, Pv n σ H → D.nx σ H) :
    ∃ W : Nat → Nat → L2.St → Hp → Prop, (∃ m, W 0 m σ H) ∧ ∀ i m σ H, W i m σ H →
      ((ItzK k1 k2 K a b).stop i H ∧ D.nx σ H) ∨ ((ItzK k1 k2 K a b).go i H ∧ ∃ N : L2.St → Hp → Prop, (∀ σ' H', N σ' H' → ∃ m', m' < m ∧ W (i + 1) m' σ' H') ∧ ∀ v H', (ItzK k1 k2 K a b).yld i H v H' → g v σ H' fun σ2 H2 => tb { D with nx := N, ct := N, bk := D.nx } σ2 H2) := by
  refine ⟨fun i m σ H => m = n - i ∧ i ≤ n ∧ Pv i σ H, ⟨n, rfl, Nat.zero_le _, h0⟩, ?_⟩
  rintro i m σ H ⟨rfl, hi, p⟩
  obtain ⟨qx, qy⟩ := hq i σ H p
  rcases Nat.lt_or_ge i n with lt | ge
  · have l1 : i < xs.length := by omega
    have l2 : i < ys.length := by omega
    refine .inr ⟨⟨xs, ys, _, _, qx, qy, List.getElem?_eq_getElem l1, List.getElem?_eq_getElem l2⟩, Pv (i + 1), fun σ' H' p' => ⟨n - (i + 1), by omega, rfl, lt, p'⟩, fun v H' yl => ?_⟩
    obtain ⟨T, x, y, rfl, nT, rfl, f1, f2⟩ := yl
    exact hs i x y T σ H lt (f1 xs qx) (f2 ys qy) p nT
  · have e : i = n := Nat.le_antisymm hi ge
    subst e
    exact .inl ⟨⟨xs, ys, qx, qy, by omega, by omega, by omega⟩, hd σ H p⟩
end Ph

namespace Ph
/-! ### the bounds, as sums over chunks -/
def cdw (x s : Nat) : Nat := (x + s - 1) / s
theorem lt_cdw {x s k : Nat} (h : 0 < s) : k < cdw x s ↔ k * s < x := by
  unfold cdw
  show k + 1 ≤ _ ↔ _
  rw [Nat.le_div_iff_mul_le h, Nat.add_mul, Nat.one_mul]
  omega
theorem cdw_mono {x y s : Nat} (h : x ≤ y) : cdw x s ≤ cdw y s := Nat.div_le_div_right (by omega)
theorem cdw_mul {n s : Nat} (h : 0 < s) : cdw (n * s) s = n := by
  unfold cdw
  rw [Nat.div_eq_iff (by omega)]
  have : n * s + s = (n + 1) * s := by rw [Nat.add_mul, Nat.one_mul]
  omega
theorem le_cdw {x s : Nat} (h : 0 < s) : x ≤ cdw x s * s := by
  by_cases c : x ≤ cdw x s * s
  · exact c
  · have := (lt_cdw (x := x) (k := cdw x s) h).mpr (by omega)
    omega
theorem cdw_lt {x s : Nat} (h : 0 < s) : cdw x s * s < x + s := by
  cases e : cdw x s with
  | zero => omega
  | succ k =>
    have := (lt_cdw (x := x) (k := k) h).mp (by omega)
    rw [Nat.add_mul, Nat.one_mul]
    omega
def sm (f : Nat → Nat) : Nat → Nat
  | 0 => 0
  | n + 1 => sm f n + f n
theorem sm_mono {f : Nat → Nat} {a : Nat} : ∀ {c : Nat}, a ≤ c → sm f a ≤ sm f c
  | 0, h => by rw [Nat.le_zero.mp h]; exact Nat.le_refl _
  | c + 1, h => by
    rcases Nat.lt_or_ge a (c + 1) with z | z
    · exact Nat.le_trans (sm_mono (Nat.le_of_lt_succ z)) (Nat.le_add_right _ _)
    · rw [Nat.le_antisymm h z]; exact Nat.le_refl _
theorem sm_le {f g : Nat → Nat} : ∀ {n : Nat}, (∀ k, k < n → f k ≤ g k) → sm f n ≤ sm g n
  | 0, _ => Nat.le_refl _
  | n + 1, h => Nat.add_le_add (sm_le fun k hk => h k (Nat.lt_succ_of_lt hk)) (h n (Nat.lt_succ_self n))
theorem sm_congr {f g : Nat → Nat} : ∀ {n : Nat}, (∀ k, k < n → f k = g k) → sm f n = sm g n
  | 0, _ => rfl
  | n + 1, h => by
    show sm f n + f n = sm g n + g n
    rw [sm_congr fun k hk => h k (Nat.lt_succ_of_lt hk), h n (Nat.lt_succ_self n)]
theorem sm_const {f : Nat → Nat} {a v : Nat} : ∀ {c : Nat}, a ≤ c → (∀ k, a ≤ k → k < c → f k = v) → sm f c = sm f a + v * (c - a)
  | 0, h, _ => by rw [Nat.le_zero.mp h]; rfl
  | c + 1, h, hf => by
    rcases Nat.lt_or_ge a (c + 1) with z | z
    · show sm f c + f c = _
      rw [sm_const (Nat.le_of_lt_succ z) fun k h1 h2 => hf k h1 (Nat.lt_succ_of_lt h2), hf c (Nat.le_of_lt_succ z) (Nat.lt_succ_self c), Nat.succ_sub (Nat.le_of_lt_succ z), Nat.mul_succ]
      omega
    · rw [Nat.le_antisymm h z]
      simp
theorem sm_ge {f : Nat → Nat} {v : Nat} : ∀ {n : Nat}, (∀ k, k < n → v ≤ f k) → n * v ≤ sm f n
  | 0, _ => by omega
  | n + 1, h => by
    have := sm_ge (n := n) fun k hk => h k (Nat.lt_succ_of_lt hk)
    have := h n (Nat.lt_succ_self n)
    show (n + 1) * v ≤ sm f n + f n
    rw [Nat.add_mul, Nat.one_mul]
    omega
/-- every r-th number alone -/
theorem sm_step {f : Nat → Nat} {r : Nat} (hr : 1 ≤ r) : ∀ {a n : Nat}, (a = 0 ∨ (a - 1) * r < n) → sm (fun k => f (k * r)) a ≤ sm f n
  | 0, _, _ => Nat.zero_le _
  | a + 1, n, h => by
    have h1 : a * r < n := by rcases h with z | z; · omega
                              · exact z
    have ih : sm (fun k => f (k * r)) a ≤ sm f (a * r) := by
      refine sm_step hr ?_
      cases a with
      | zero => exact .inl rfl
      | succ a => 
        right
        show a * r < (a + 1) * r
        rw [Nat.add_mul, Nat.one_mul]
        omega
    show sm _ a + f (a * r) ≤ _
    exact Nat.le_trans (Nat.add_le_add_right ih _) (sm_mono (f := f) (a := a * r + 1) h1)
/-- the class of the blocks that reach x: the first below i whose number is greater -/
def cls (b : Nat → Nat) : Nat → Nat → Nat
  | 0, _ => 0
  | i + 1, x => if cls b i x < i then cls b i x else if x < b i then i else i + 1
theorem cls_le (b : Nat → Nat) : ∀ (i x : Nat), cls b i x ≤ i
  | 0, _ => Nat.le_refl _
  | i + 1, x => by
    have := cls_le b i x
    unfold cls
    split
    · omega
    · split <;> omega
theorem cls_hi {b : Nat → Nat} : ∀ {i x : Nat}, cls b i x < i → x < b (cls b i x)
  | 0, _, h => absurd h (by omega)
  | i + 1, x, h => by
    unfold cls at h ⊢
    split
    · rename_i c
      exact cls_hi c
    · rename_i c
      rw [if_neg c] at h
      split
      · rename_i c2
        exact c2
      · rename_i c2
        rw [if_neg c2] at h
        omega
theorem cls_lo {b : Nat → Nat} : ∀ {i x j : Nat}, j < cls b i x → b j ≤ x
  | 0, _, _, h => absurd h (by unfold cls; omega)
  | i + 1, x, j, h => by
    have l := cls_le b i x
    unfold cls at h
    by_cases c : cls b i x < i
    · rw [if_pos c] at h
      exact cls_lo h
    · rw [if_neg c] at h
      by_cases c2 : x < b i
      · rw [if_pos c2] at h
        exact cls_lo (i := i) (by omega)
      · rw [if_neg c2] at h
        by_cases e : j = i
        · rw [e]; omega
        · exact cls_lo (i := i) (by omega)
theorem cls_eq {b : Nat → Nat} {i x j : Nat} (hj : j ≤ i) (lo : ∀ j', j' < j → b j' ≤ x) (hi : j < i → x < b j) : cls b i x = j := by
  have l := cls_le b i x
  rcases Nat.lt_trichotomy (cls b i x) j with z | z | z
  · have h1 := cls_hi (b := b) (i := i) (x := x) (by omega)
    have h2 := lo _ z
    omega
  · exact z
  · have h1 := cls_lo z
    have h2 := hi (by omega)
    omega
theorem cls_anti {b b' : Nat → Nat} {i x : Nat} (h : ∀ j, j < i → b j ≤ b' j) : cls b' i x ≤ cls b i x := by
  rcases Nat.lt_or_ge (cls b i x) (cls b' i x) with z | z
  · have l := cls_le b' i x
    have h1 := cls_hi (b := b) (i := i) (x := x) (by omega)
    have h2 := cls_lo z
    have h3 := h (cls b i x) (by omega)
    omega
  · exact z
def pvn (b : Nat → Nat) (t : Nat) : Nat → Nat
  | 0 => 0
  | j + 1 => cdw (b j) t
/-- the words that keep busy all chunks of t words before the numbers of the first i classes -/
def Lw (s b : Nat → Nat) (t i : Nat) : Nat := sm (fun j => s j * (pvn b t (j + 1) - pvn b t j)) i
theorem lw_sum {s b : Nat → Nat} {t i : Nat} (ht : 0 < t) (hm : ∀ j, j + 1 < i → b j ≤ b (j + 1)) : ∀ j, j ≤ i → Lw s b t j = sm (fun k => s (cls b i (k * t))) (pvn b t j)
  | 0, _ => rfl
  | j + 1, hj => by
    have mm : ∀ d j', j' + d + 1 = j → b j' ≤ b (j - 1) := by
      intro d
      induction d with
      | zero => intro j' e; have : j - 1 = j' := by omega
                rw [this]; exact Nat.le_refl _
      | succ d ih => intro j' e; exact Nat.le_trans (hm j' (by omega)) (ih (j' + 1) (by omega))
    have le : pvn b t j ≤ pvn b t (j + 1) := by
      cases j with
      | zero => exact Nat.zero_le _
      | succ j => exact cdw_mono (hm j (by omega))
    show Lw s b t j + s j * _ = _
    rw [lw_sum ht hm j (by omega), sm_const le (v := s j) fun k h1 h2 => ?_]
    have e : cls b i (k * t) = j := by
      refine cls_eq (by omega) (fun j' hj' => ?_) (fun _ => (lt_cdw ht).mp h2)
      cases j with
      | zero => omega
      | succ j0 =>
        have h3 : ¬ k * t < b j0 := fun h => by
          have := (lt_cdw ht).mpr h
          have h1' : cdw (b j0) t ≤ k := h1
          omega
        have h4 := mm (j0 - j') j' (by omega)
        show b j' ≤ k * t
        have : j0 + 1 - 1 = j0 := rfl
        rw [this] at h4
        omega
    rw [e]
structure CH (s : Nat → Nat) (m : Nat) : Prop where
  s0 : s 0 = 1
  dv : ∀ i, i + 1 < m → ∃ r, 1 ≤ r ∧ s (i + 1) = s i * r
theorem CH.pos {s : Nat → Nat} {m : Nat} (c : CH s m) : ∀ {i}, i < m → 1 ≤ s i
  | 0, _ => by rw [c.s0]; exact Nat.le_refl _
  | i + 1, h => by
    obtain ⟨r, hr, e⟩ := c.dv i h
    rw [e]
    exact Nat.le_trans (Nat.le_refl 1) (Nat.mul_le_mul (c.pos (by omega)) hr)
theorem CH.mono1 {s : Nat → Nat} {m i : Nat} (c : CH s m) (h : i + 1 < m) : s i ≤ s (i + 1) := by
  obtain ⟨r, hr, e⟩ := c.dv i h
  rw [e]
  exact Nat.le_mul_of_pos_right _ hr
theorem CH.mono {s : Nat → Nat} {m i : Nat} (c : CH s m) : ∀ {j}, i ≤ j → j < m → s i ≤ s j
  | 0, h, _ => by rw [Nat.le_zero.mp h]; exact Nat.le_refl _
  | j + 1, h, hj => by
    rcases Nat.lt_or_ge i (j + 1) with z | z
    · exact Nat.le_trans (c.mono (Nat.le_of_lt_succ z) (by omega)) (c.mono1 hj)
    · rw [Nat.le_antisymm h z]; exact Nat.le_refl _
theorem CH.dvd {s : Nat → Nat} {m i : Nat} (c : CH s m) : ∀ {j}, i ≤ j → j < m → ∃ r, 1 ≤ r ∧ s j = s i * r
  | 0, h, _ => by rw [Nat.le_zero.mp h]; exact ⟨1, Nat.le_refl _, by rw [Nat.mul_one]⟩
  | j + 1, h, hj => by
    rcases Nat.lt_or_ge i (j + 1) with z | z
    · obtain ⟨r, hr, e⟩ := c.dvd (Nat.le_of_lt_succ z) (by omega)
      obtain ⟨r2, hr2, e2⟩ := c.dv j hj
      exact ⟨r * r2, Nat.le_trans (Nat.le_refl 1) (Nat.mul_le_mul hr hr2), by rw [e2, e, Nat.mul_assoc]⟩
    · rw [Nat.le_antisymm h z]; exact ⟨1, Nat.le_refl _, by rw [Nat.mul_one]⟩
structure BD (s b : Nat → Nat) (m M : Nat) : Prop where
  b0 : b 0 = M
  bs : ∀ i, i + 1 < m → b (i + 1) = s (i + 1) * (cdw (b i) (s (i + 1)) + (M - Lw s b (s (i + 1)) (i + 1)) / s (i + 1))
def SS (s b : Nat → Nat) (i n : Nat) : Nat := sm (fun k => s (cls b i (k * s i))) n
section
variable {s b : Nat → Nat} {m M : Nat} (c : CH s m) (B : BD s b m M)
include c B
theorem BD.up {i : Nat} (h : i + 1 < m) : b i ≤ b (i + 1) := by
  have p := c.pos h
  rw [B.bs i h]
  have := le_cdw (x := b i) p
  rw [Nat.mul_comm] at this
  exact Nat.le_trans this (Nat.mul_le_mul_left _ (Nat.le_add_right _ _))
theorem BD.mono {i : Nat} : ∀ {j}, i ≤ j → j < m → b i ≤ b j
  | 0, h, _ => by rw [Nat.le_zero.mp h]; exact Nat.le_refl _
  | j + 1, h, hj => by
    rcases Nat.lt_or_ge i (j + 1) with z | z
    · exact Nat.le_trans (BD.mono (Nat.le_of_lt_succ z) (by omega)) (B.up c hj)
    · rw [Nat.le_antisymm h z]; exact Nat.le_refl _
theorem BD.num {i : Nat} (h : i < m) : b i / s i * s i = b i := by
  have p := c.pos h
  cases i with
  | zero => rw [c.s0]; omega
  | succ i => rw [B.bs i h, Nat.mul_div_cancel_left _ p, Nat.mul_comm]
theorem BD.ss_lw {i : Nat} (h : i < m) : Lw s b (s i) i = SS s b i (pvn b (s i) i) := lw_sum (s := s) (b := b) (c.pos h) (fun j hj => B.up c (by omega)) i (Nat.le_refl _)
theorem BD.key : ∀ {i : Nat}, i < m → SS s b i (b i / s i) ≤ M ∧ M < SS s b i (b i / s i) + s i ∧ Lw s b (s i) i ≤ M
  | 0, h => by
    have e : ∀ n, SS s b 0 n = n := fun n => by
      unfold SS
      rw [sm_const (f := fun k => s (cls b 0 (k * s 0))) (a := 0) (v := 1) (Nat.zero_le n) fun k _ _ => c.s0]
      show 0 + _ = _
      omega
    rw [e, c.s0, B.b0]
    refine ⟨by omega, by omega, Nat.zero_le _⟩
  | i + 1, h => by
    have p := c.pos h
    obtain ⟨k1, k2, k3⟩ := BD.key (i := i) (by omega)
    have hL : Lw s b (s (i + 1)) (i + 1) ≤ M := by
      rw [B.ss_lw c h]
      show SS s b (i + 1) (cdw (b i) (s (i + 1))) ≤ M
      obtain ⟨r, hr, er⟩ := c.dv i h
      refine Nat.le_trans (Nat.le_trans (m := sm (fun k => (fun q => s (cls b i (q * s i))) (k * r)) (cdw (b i) (s (i + 1)))) (sm_le fun k hk => ?_) (sm_step (f := fun q => s (cls b i (q * s i))) hr (n := b i / s i) ?_)) k1
      · have hk2 := (lt_cdw p).mp hk
        have e : k * s (i + 1) = k * r * s i := by rw [er, Nat.mul_assoc, Nat.mul_comm (s i) r]
        dsimp only
        rw [e] at hk2 ⊢
        have : cls b (i + 1) (k * r * s i) = cls b i (k * r * s i) := by
          have l := cls_le b i (k * r * s i)
          show (if cls b i (k * r * s i) < i then cls b i (k * r * s i) else if k * r * s i < b i then i else i + 1) = _
          split
          · rfl
          · omega
        rw [this]
        exact Nat.le_refl _
      · cases e : cdw (b i) (s (i + 1)) with
        | zero => exact .inl rfl
        | succ a =>
          right
          have h1 := (lt_cdw (x := b i) (k := a) p).mp (by omega)
          rw [er, Nat.mul_comm (s i) r, ← Nat.mul_assoc, ← B.num c (i := i) (by omega)] at h1
          exact Nat.lt_of_mul_lt_mul_right h1
    have hS : SS s b (i + 1) (b (i + 1) / s (i + 1)) = Lw s b (s (i + 1)) (i + 1) + s (i + 1) * ((M - Lw s b (s (i + 1)) (i + 1)) / s (i + 1)) := by
      rw [B.bs i h, Nat.mul_div_cancel_left _ p]
      generalize (M - Lw s b (s (i + 1)) (i + 1)) / s (i + 1) = d
      rw [B.ss_lw c h]
      show SS s b (i + 1) (cdw (b i) (s (i + 1)) + d) = SS s b (i + 1) (cdw (b i) (s (i + 1))) + _
      unfold SS
      rw [sm_const (a := cdw (b i) (s (i + 1))) (v := s (i + 1)) (Nat.le_add_right _ _) fun k h1 _ => ?_, Nat.add_sub_cancel_left]
      have e : cls b (i + 1) (k * s (i + 1)) = i + 1 := by
        refine cls_eq (Nat.le_refl _) (fun j hj => ?_) (fun z => absurd z (by omega))
        have h3 : ¬ k * s (i + 1) < b i := fun z => by
          have := (lt_cdw p).mpr z
          omega
        have := B.mono c (i := j) (j := i) (by omega) (by omega)
        omega
      rw [e]
    rw [hS]
    have d1 := Nat.div_mul_le_self (M - Lw s b (s (i + 1)) (i + 1)) (s (i + 1))
    have d2 := Nat.lt_div_mul_add (a := M - Lw s b (s (i + 1)) (i + 1)) p
    rw [Nat.mul_comm] at d1 d2
    exact ⟨by omega, by omega, hL⟩
theorem BD.iff {i n : Nat} (h : i < m) : n ≤ b i / s i ↔ SS s b i n ≤ M := by
  obtain ⟨k1, k2, k3⟩ := B.key c h
  constructor
  · intro z
    exact Nat.le_trans (sm_mono z) k1
  · intro z
    rcases Nat.lt_or_ge (b i / s i) n with y | y
    · have h1 : SS s b i (b i / s i + 1) ≤ SS s b i n := sm_mono y
      have h2 : SS s b i (b i / s i + 1) = SS s b i (b i / s i) + s i := by
        show _ + s (cls b i (b i / s i * s i)) = _
        rw [B.num c h, cls_eq (Nat.le_refl i) (fun j hj => B.mono c (by omega) h) (fun z => absurd z (by omega))]
        rfl
      omega
    · exact y
theorem BD.ge {i : Nat} (h : i < m) : M ≤ b i := by
  have := B.mono c (i := 0) (Nat.zero_le i) h
  rw [B.b0] at this
  exact this
omit B in
theorem SS_anti {t b' : Nat → Nat} {i i' n : Nat} (hs : s i = t i') (h : ∀ k, t (cls b' i' (k * s i)) ≤ s (cls b i (k * s i))) : SS t b' i' n ≤ SS s b i n := by
  unfold SS
  rw [← hs]
  exact sm_le fun k _ => h k
omit B in
/-- fewer live words never reach further -/
theorem BD.le {b' : Nat → Nat} {M' : Nat} (B : BD s b m M) (B' : BD s b' m M') (h : M ≤ M') : ∀ i, i < m → b i ≤ b' i := by
  intro i
  induction i using Nat.strongRecOn with
  | ind i ih =>
    intro hi
    have h1 : b i / s i ≤ b' i / s i := by
      rw [B'.iff c hi]
      refine Nat.le_trans (SS_anti c rfl fun k => ?_) (Nat.le_trans ((B.key c hi).1) h)
      refine c.mono (cls_anti fun j hj => ih j hj (by omega)) ?_
      have := cls_le b i (k * s i)
      omega
    rw [← B.num c hi, ← B'.num c hi]
    exact Nat.mul_le_mul_right _ h1
omit B in
/-- a page more of words needs a page more -/
theorem BD.more {b' : Nat → Nat} {i : Nat} (B : BD s b m M) (hi : i < m) (B' : BD s b' m (M + s i)) : b i / s i + 1 ≤ b' i / s i := by
  rw [B'.iff c hi]
  show SS s b' i (b i / s i) + s (cls b' i (b i / s i * s i)) ≤ _
  have h1 : SS s b' i (b i / s i) ≤ M := by
    refine Nat.le_trans (SS_anti c rfl fun k => ?_) ((B.key c hi).1)
    refine c.mono (cls_anti fun j hj => BD.le c B B' (Nat.le_add_right _ _) j (by omega)) ?_
    have := cls_le b i (k * s i)
    omega
  have h2 : s (cls b' i (b i / s i * s i)) ≤ s i := c.mono (cls_le _ _ _) hi
  omega
/-- with sizes left out no class reaches further -/
theorem BD.fewer {t b' σ : Nat → Nat} {p : Nat} (ct : CH t p) (B' : BD t b' p M) (e : ∀ a, a < p → t a = s (σ a)) (lt : ∀ a, a < p → σ a < m) (up : ∀ a a', a < a' → a' < p → σ a < σ a') : ∀ a, a < p → b' a ≤ b (σ a) := by
  intro a
  induction a using Nat.strongRecOn with
  | ind a ih =>
    intro ha
    have h1 : b' a / t a ≤ b (σ a) / s (σ a) := by
      rw [B.iff c (lt a ha)]
      refine Nat.le_trans (SS_anti ct (s := t) (t := s) (b := b') (b' := b) (i := a) (i' := σ a) (e a ha) fun k => ?_) ((B'.key ct ha).1)
      have l := cls_le b' a (k * t a)
      have l2 := cls_le b (σ a) (k * t a)
      rw [e _ (Nat.lt_of_le_of_lt l ha)]
      refine c.mono ?_ (lt _ (Nat.lt_of_le_of_lt l ha))
      rcases Nat.lt_or_ge (cls b' a (k * t a)) a with z | z
      · rcases Nat.lt_or_ge (σ (cls b' a (k * t a))) (cls b (σ a) (k * t a)) with y | y
        · have h2 := cls_hi z
          have h3 := ih _ z (by omega)
          have h4 := cls_lo y
          omega
        · exact y
      · rw [Nat.le_antisymm l z]
        exact l2
    rw [← B'.num ct ha, ← B.num c (lt a ha), e a ha]
    rw [e a ha] at h1
    exact Nat.mul_le_mul_right _ h1
/-- careless rules open at least as many pages -/
theorem BD.careless {i : Nat} (hi : i < m) (h0 : 0 < b i) : ∃ j, j ≤ i ∧ s j ≤ M ∧ (b i / s i - 1) * (s i / s j) + s j ≤ M := by
  have p := c.pos hi
  have hn := B.num c hi
  have n0 : 0 < b i / s i := by
    rcases Nat.eq_zero_or_pos (b i / s i) with z | z
    · rw [z] at hn; omega
    · exact z
  generalize hx : (b i / s i - 1) * s i = x
  have l := cls_le b i x
  have hj : cls b i x < m := by omega
  have pj := c.pos hj
  obtain ⟨r, hr, er⟩ := c.dvd l hi
  have hq : s i / s (cls b i x) = r := by rw [er]; exact Nat.mul_div_cancel_left _ pj
  rw [← hx] at hq er pj hj l
  rw [← hx] at *
  generalize hc : cls b i ((b i / s i - 1) * s i) = j at *
  have ex : (b i / s i - 1) * s i = (b i / s i - 1) * r * s j := by rw [er, Nat.mul_assoc, Nat.mul_comm (s j) r]
  have lo : ∀ j', j' < j → b j' ≤ (b i / s i - 1) * r * s j := fun j' hj' => by
    rw [← ex]
    exact cls_lo (by rw [hc]; exact hj')
  have h1 : (b i / s i - 1) * r + 1 ≤ b j / s j := by
    have h2 : (b i / s i - 1) * r * s j < b j := by
      rcases Nat.lt_or_ge j i with z | z
      · rw [← ex]
        have := cls_hi (b := b) (i := i) (x := (b i / s i - 1) * s i) (by omega)
        rw [hc] at this
        exact this
      · have : j = i := by omega
        rw [← ex, this, ← hn]
        have h3 : b i / s i * s i / s i = b i / s i := Nat.mul_div_cancel _ p
        rw [h3]
        exact Nat.mul_lt_mul_of_pos_right (by omega) p
    rw [← B.num c hj] at h2
    exact Nat.lt_of_mul_lt_mul_right h2
  rw [B.iff c hj] at h1
  have h3 : SS s b j ((b i / s i - 1) * r + 1) = SS s b j ((b i / s i - 1) * r) + s j := by
    show _ + s (cls b j ((b i / s i - 1) * r * s j)) = _
    rw [cls_eq (Nat.le_refl j) lo (fun z => absurd z (by omega))]
    rfl
  have h4 : (b i / s i - 1) * r * 1 ≤ SS s b j ((b i / s i - 1) * r) := sm_ge fun k _ => c.pos (Nat.lt_of_le_of_lt (cls_le _ _ _) hj)
  refine ⟨j, l, by omega, ?_⟩
  rw [hq]
  omega

theorem pvn_dv {t t' r : Nat} (ht : 0 < t) (hr : 1 ≤ r) (e : t' = t * r) {j : Nat} (hd : ∀ j', j' < j → ∃ q, b j' = t' * q) : pvn b t j = r * pvn b t' j := by
  cases j with
  | zero => rfl
  | succ j =>
    obtain ⟨q, hq⟩ := hd j (Nat.lt_succ_self j)
    show cdw (b j) t = r * cdw (b j) t'
    have p : 0 < t' := by rw [e]; exact Nat.mul_pos ht hr
    have e1 : b j = q * t' := by rw [hq, Nat.mul_comm]
    have e2 : b j = (r * q) * t := by rw [hq, e, Nat.mul_comm r q, Nat.mul_assoc, Nat.mul_comm q, Nat.mul_assoc, Nat.mul_comm t, Nat.mul_comm r q]; simp [Nat.mul_assoc, Nat.mul_comm, Nat.mul_left_comm]
    rw [e2, cdw_mul ht, ← e2, e1, cdw_mul p]
omit c B in
theorem sm_mulL {f g : Nat → Nat} {r : Nat} : ∀ {n : Nat}, (∀ k, k < n → f k = r * g k) → sm f n = r * sm g n
  | 0, _ => rfl
  | n + 1, h => by
    show sm f n + f n = r * (sm g n + g n)
    rw [sm_mulL fun k hk => h k (Nat.lt_succ_of_lt hk), h n (Nat.lt_succ_self n), Nat.mul_add]
/-- limits that are multiples of the page times each ratio -/
theorem BD.exact {p : Nat} (hp : p + 1 = m) (hM : ∀ i, i + 1 < m → ∃ r u, 1 ≤ r ∧ s (i + 1) = s i * r ∧ M = s p * r * u) (h0 : ∃ u, M = s p * u) :
    ∀ i, i < m → (∀ j, j ≤ i → ∃ q, b j = s p * q) ∧ Lw s b (s i) (i + 1) = M ∧ ∀ j, j + 1 ≤ i → b (j + 1) + M / (s (j + 1) / s j) = b j + M := by
  intro i
  induction i with
  | zero =>
    intro h
    refine ⟨fun j hj => ?_, ?_, fun j hj => absurd hj (by omega)⟩
    · rw [Nat.le_zero.mp hj, B.b0]
      exact h0
    · show 0 + s 0 * (cdw (b 0) (s 0) - 0) = M
      rw [c.s0, B.b0]
      have := cdw_mul (n := M) (s := 1) (by omega)
      rw [Nat.mul_one] at this
      rw [this]
      omega
  | succ i ih =>
    intro h
    obtain ⟨i1, i2, i3⟩ := ih (by omega)
    obtain ⟨r, u, hr, er, eM⟩ := hM i h
    have pi := c.pos (i := i) (by omega)
    have pt := c.pos h
    obtain ⟨v, hv, ev⟩ := c.dvd (i := i + 1) (j := p) (by omega) (by omega)
    have hd : ∀ j', j' < i + 1 → ∃ q, b j' = s (i + 1) * q := fun j' hj => by
      obtain ⟨q, hq⟩ := i1 j' (by omega)
      exact ⟨v * q, by rw [hq, ev, Nat.mul_assoc]⟩
    have eL : Lw s b (s i) (i + 1) = r * Lw s b (s (i + 1)) (i + 1) := by
      unfold Lw
      refine sm_mulL fun j hj => ?_
      rw [pvn_dv c B pi hr er (j := j + 1) fun j' hj' => hd j' (by omega), pvn_dv c B pi hr er (j := j) fun j' hj' => hd j' (by omega), ← Nat.mul_sub, Nat.mul_left_comm]
    have eq : Lw s b (s (i + 1)) (i + 1) = s p * u := by
      rw [i2, eM] at eL
      have : r * (s p * u) = r * Lw s b (s (i + 1)) (i + 1) := by rw [← eL, Nat.mul_left_comm, Nat.mul_assoc]
      exact (Nat.eq_of_mul_eq_mul_left (by omega) this).symm
    have eMr : M = r * (s p * u) := by rw [eM, Nat.mul_comm (s p) r, Nat.mul_assoc]
    have hle : s p * u ≤ M := by rw [eMr]; exact Nat.le_mul_of_pos_left _ (by omega)
    have eMs : M - s p * u = s (i + 1) * (v * ((r - 1) * u)) := by
      have : M = s p * u + (r - 1) * (s p * u) := by
        rw [eMr]
        conv => lhs; rw [show r = 1 + (r - 1) by omega, Nat.add_mul, Nat.one_mul]
      rw [this, Nat.add_sub_cancel_left, ev]
      simp [Nat.mul_assoc, Nat.mul_comm, Nat.mul_left_comm]
    obtain ⟨q, hq⟩ := hd i (by omega)
    have eb : b (i + 1) = b i + (M - s p * u) := by
      rw [B.bs i h, eq, eMs, Nat.mul_div_cancel_left _ pt, hq, Nat.mul_comm (s (i + 1)) q, cdw_mul pt, Nat.mul_add, Nat.mul_comm q]
    have er2 : s (i + 1) / s i = r := by rw [er]; exact Nat.mul_div_cancel_left _ pi
    have eMd : M / r = s p * u := by rw [eMr]; exact Nat.mul_div_cancel_left _ (by omega)
    refine ⟨fun j hj => ?_, ?_, fun j hj => ?_⟩
    · rcases Nat.lt_or_ge j (i + 1) with z | z
      · exact i1 j (by omega)
      · rw [Nat.le_antisymm hj z, eb]
        obtain ⟨q2, hq2⟩ := i1 i (Nat.le_refl _)
        obtain ⟨u2, hu2⟩ := h0
        refine ⟨q2 + (u2 - u), ?_⟩
        rw [Nat.mul_add, ← hq2, Nat.mul_sub, ← hu2]
    · show Lw s b (s (i + 1)) (i + 1) + s (i + 1) * (cdw (b (i + 1)) (s (i + 1)) - cdw (b i) (s (i + 1))) = M
      have e1 : b i = q * s (i + 1) := by rw [hq, Nat.mul_comm]
      have e2 : b (i + 1) = (q + v * ((r - 1) * u)) * s (i + 1) := by rw [eb, eMs, e1, Nat.add_mul, Nat.mul_comm (s (i + 1))]
      rw [e2, e1, cdw_mul pt, cdw_mul pt, Nat.add_sub_cancel_left, ← eMs, eq]
      omega
    · rcases Nat.lt_or_ge j i with z | z
      · exact i3 j (by omega)
      · have : j = i := by omega
        rw [this, er2, eMd, eb]
        omega
omit c B in
theorem cls_up {i x y : Nat} (h : x ≤ y) : cls b i x ≤ cls b i y := by
  rcases Nat.lt_or_ge (cls b i y) (cls b i x) with z | z
  · have l := cls_le b i x
    have h1 := cls_hi (b := b) (i := i) (x := y) (by omega)
    have h2 := cls_lo z
    omega
  · exact z
omit c B in
theorem sm_group {f : Nat → Nat} {r : Nat} (hr : 1 ≤ r) (hf : ∀ x y, x ≤ y → f x ≤ f y) : ∀ K, sm f (K * r + 1) ≤ r * sm (fun k => f (k * r)) (K + 1)
  | 0 => by
    show sm f (0 * r + 1) ≤ r * (0 + f (0 * r))
    rw [Nat.zero_mul, Nat.zero_add, Nat.zero_add]
    show 0 + f 0 ≤ r * f 0
    have := Nat.mul_le_mul_right (f 0) hr
    omega
  | K + 1 => by
    have ih := sm_group hr hf K
    have h2 : ∀ n, n ≤ r → sm f (K * r + 1 + n) ≤ sm f (K * r + 1) + n * f ((K + 1) * r) := by
      intro n
      induction n with
      | zero => intro _; show sm f (K * r + 1) ≤ _; omega
      | succ n ih =>
        intro hn
        have h1 := ih (by omega)
        have h3 : f (K * r + 1 + n) ≤ f ((K + 1) * r) := hf _ _ (by rw [Nat.add_mul, Nat.one_mul]; omega)
        show sm f (K * r + 1 + n) + f (K * r + 1 + n) ≤ _
        rw [Nat.add_mul, Nat.one_mul]
        omega
    have h3 := h2 r (Nat.le_refl _)
    have e : (K + 1) * r + 1 = K * r + 1 + r := by rw [Nat.add_mul, Nat.one_mul]; omega
    rw [e]
    show _ ≤ r * (sm _ (K + 1) + f ((K + 1) * r))
    rw [Nat.mul_add]
    omega
/-- the bounds without rounding, and two sizes more -/
theorem BD.smooth {i r : Nat} (h : i + 1 < m) (hr : 1 ≤ r) (er : s (i + 1) = s i * r) : r * b (i + 1) + M ≤ r * b i + r * M + 2 * (r * s (i + 1)) := by
  have p := c.pos h
  have pi := c.pos (i := i) (by omega)
  obtain ⟨k1, k2, k3⟩ := B.key c (i := i) (by omega)
  obtain ⟨j1, j2, j3⟩ := B.key c h
  have hb : b (i + 1) + Lw s b (s (i + 1)) (i + 1) ≤ b i + s (i + 1) + M := by
    rw [B.bs i h, Nat.mul_add]
    have h1 := cdw_lt (x := b i) p
    have h2 := Nat.div_mul_le_self (M - Lw s b (s (i + 1)) (i + 1)) (s (i + 1))
    rw [Nat.mul_comm] at h1 h2
    omega
  have hf : ∀ x y, x ≤ y → s (cls b i (x * s i)) ≤ s (cls b i (y * s i)) := fun x y hxy => c.mono (cls_up (Nat.mul_le_mul_right _ hxy)) (Nat.lt_of_le_of_lt (cls_le _ _ _) (by omega))
  have hl : M ≤ r * Lw s b (s (i + 1)) (i + 1) + s (i + 1) := by
    rw [B.ss_lw c h]
    show M ≤ r * SS s b (i + 1) (cdw (b i) (s (i + 1))) + _
    have hn := B.num c (i := i) (by omega)
    cases e : cdw (b i) (s (i + 1)) with
    | zero =>
      have h1 : b i = 0 := by
        have := le_cdw (x := b i) p
        rw [e] at this
        omega
      have := B.ge c (i := i) (by omega)
      omega
    | succ K =>
      have g := sm_group hr hf K
      have e1 : SS s b (i + 1) (K + 1) = sm (fun k => s (cls b i (k * r * s i))) (K + 1) := by
        unfold SS
        refine sm_congr fun k hk => ?_
        have hk2 := (lt_cdw (x := b i) (k := k) p).mp (by omega)
        have e2 : k * s (i + 1) = k * r * s i := by rw [er, Nat.mul_assoc, Nat.mul_comm (s i) r]
        rw [e2] at hk2 ⊢
        have : cls b (i + 1) (k * r * s i) = cls b i (k * r * s i) := by
          have l := cls_le b i (k * r * s i)
          show (if cls b i (k * r * s i) < i then cls b i (k * r * s i) else if k * r * s i < b i then i else i + 1) = _
          split
          · rfl
          · omega
        rw [this]
      rw [e1]
      have hN : b i / s i ≤ (K * r + 1) + (r - 1) := by
        have h1 : b i ≤ (K + 1) * s (i + 1) := by
          have := le_cdw (x := b i) p
          rw [e] at this
          exact this
        have h2 : b i / s i * s i ≤ (K + 1) * r * s i := by
          rw [hn, Nat.mul_assoc, Nat.mul_comm r, ← er]
          exact h1
        have h3 := Nat.le_of_mul_le_mul_right h2 pi
        rw [Nat.add_mul, Nat.one_mul] at h3
        omega
      have hv : ∀ n, SS s b i ((K * r + 1) + n) ≤ SS s b i (K * r + 1) + n * s i := by
        intro n
        induction n with
        | zero => show SS s b i (K * r + 1) ≤ _; omega
        | succ n ih =>
          show SS s b i (K * r + 1 + n) + s (cls b i ((K * r + 1 + n) * s i)) ≤ _
          have := c.mono (cls_le b i ((K * r + 1 + n) * s i)) (by omega)
          have e3 : (n + 1) * s i = n * s i + s i := by rw [Nat.add_mul, Nat.one_mul]
          rw [e3]
          omega
      have h4 := hv (r - 1)
      have h5 : SS s b i (b i / s i) ≤ SS s b i ((K * r + 1) + (r - 1)) := sm_mono hN
      have h6 : (r - 1) * s i + s i = s (i + 1) := by
        rw [er, Nat.mul_comm (s i) r]
        conv => rhs; rw [show r = (r - 1) + 1 by omega, Nat.add_mul, Nat.one_mul]
      have h7 : SS s b i (K * r + 1) ≤ r * sm (fun k => s (cls b i (k * r * s i))) (K + 1) := g
      omega
  have h8 := Nat.mul_le_mul_left r hb
  rw [Nat.mul_add, Nat.mul_add, Nat.mul_add] at h8
  have h9 : s (i + 1) ≤ r * s (i + 1) := Nat.le_mul_of_pos_left _ hr
  omega
end
end Ph

namespace Ph
open PySem PySem.Spec PyProof.Rows L2
/-- the first m numbers of a row of numbers -/
def tl (s : Nat → Nat) (m : Nat) : List Int := (List.range m).map fun i => ((s i : Nat) : Int)
theorem tl_len (s : Nat → Nat) (m : Nat) : (tl s m).length = m := by unfold tl; simp
theorem tl_get {s : Nat → Nat} {m i : Nat} (h : i < m) : (tl s m)[i]? = some ((s i : Nat) : Int) := by
  unfold tl
  rw [List.getElem?_map, List.getElem?_range h]
  rfl
theorem tl_getV {s : Nat → Nat} {m i : Nat} (h : i < m) : ((tl s m).map V.int)[i]? = some (V.int ((s i : Nat) : Int)) := by
  rw [List.getElem?_map, tl_get h]
  rfl
theorem tl_succ (s : Nat → Nat) (m : Nat) : tl s (m + 1) = tl s m ++ [((s m : Nat) : Int)] := by
  unfold tl
  rw [List.range_succ, List.map_append]
  rfl
theorem tl_congr {s t : Nat → Nat} {m : Nat} (h : ∀ i, i < m → s i = t i) : tl s m = tl t m := by
  unfold tl
  refine List.map_congr_left fun i hi => ?_
  rw [h i (List.mem_range.mp hi)]
theorem tl_last {s : Nat → Nat} {m : Nat} : tl s (m + 1) = tl s m ++ [((s m : Nat) : Int)] := tl_succ s m
theorem tl_mem {s : Nat → Nat} {m : Nat} {x : Int} : x ∈ tl s m ↔ ∃ i, i < m ∧ x = ((s i : Nat) : Int) := by
  unfold tl
  rw [List.mem_map]
  constructor
  · rintro ⟨i, hi, e⟩
    exact ⟨i, List.mem_range.mp hi, e.symm⟩
  · rintro ⟨i, hi, e⟩
    exact ⟨i, List.mem_range.mpr hi, e.symm⟩
/-- every row of whole numbers from 0 is such a row -/
theorem tl_of {C : List Int} (h : ∀ x ∈ C, 0 ≤ x) : C = tl (fun i => (C.getD i 0).toNat) C.length := by
  apply List.ext_getElem?
  intro i
  rcases Nat.lt_or_ge i C.length with z | z
  · rw [tl_get z, List.getElem?_eq_getElem z]
    have h1 := h _ (List.getElem_mem z)
    have h2 : C.getD i 0 = C[i] := by simp [List.getD_eq_getElem?_getD, List.getElem?_eq_getElem z]
    rw [h2]
    congr 1
    omega
  · rw [List.getElem?_eq_none z, List.getElem?_eq_none (by rw [tl_len]; exact z)]
theorem up_cdw {n s : Nat} (hs : 0 < s) : -(-(n : Int) / (s : Int)) = ((cdw n s : Nat) : Int) := by
  have h1 := le_cdw (x := n) hs
  have h2 := cdw_lt (x := n) hs
  have e : -(n : Int) / (s : Int) = -((cdw n s : Nat) : Int) := by
    have hs' : (0 : Int) < s := by omega
    have h1' : (n : Int) ≤ (cdw n s : Nat) * (s : Int) := by exact_mod_cast h1
    have h2' : (cdw n s : Nat) * (s : Int) < (n : Int) + s := by exact_mod_cast h2
    apply Int.le_antisymm
    · have : -(n : Int) / (s : Int) < -((cdw n s : Nat) : Int) + 1 := by
        rw [Int.ediv_lt_iff_lt_mul hs', Int.add_mul, Int.neg_mul, Int.one_mul]
        omega
      omega
    · rw [Int.le_ediv_iff_mul_le hs', Int.neg_mul]
      omega
  rw [e]
  omega
theorem up2_cdw {n s : Nat} (hs : 0 < s) : ((n : Int) + (s : Int) - 1) / (s : Int) = ((cdw n s : Nat) : Int) := by
  unfold cdw
  have : (n : Int) + (s : Int) - 1 = ((n + s - 1 : Nat) : Int) := by omega
  rw [this]
  exact (Int.natCast_ediv _ _).symm
/-- the numbers, begun with reaches -/
def bls (s ρ : Nat → Nat) (M : Nat) : Nat → Nat → Nat
  | 0, _ => max M (ρ 0)
  | i + 1, j => if j = i + 1 then max (ρ (i + 1)) (s (i + 1) * (cdw (bls s ρ M i i) (s (i + 1)) + (M - Lw s (bls s ρ M i) (s (i + 1)) (i + 1)) / s (i + 1))) else bls s ρ M i j
def bfn (s ρ : Nat → Nat) (M j : Nat) : Nat := bls s ρ M j j
theorem bls_eq (s ρ : Nat → Nat) (M : Nat) : ∀ {i j : Nat}, j ≤ i → bls s ρ M i j = bfn s ρ M j
  | 0, j, h => by rw [Nat.le_zero.mp h]; rfl
  | i + 1, j, h => by
    rcases Nat.lt_or_ge j (i + 1) with z | z
    · rw [← bls_eq s ρ M (i := i) (j := j) (by omega)]
      show (if j = i + 1 then _ else _) = _
      rw [if_neg (by omega)]
    · rw [Nat.le_antisymm h z]; rfl
theorem pvn_congr {b b' : Nat → Nat} {t j : Nat} (h : ∀ i, i < j → b i = b' i) : pvn b t j = pvn b' t j := by
  cases j with
  | zero => rfl
  | succ j => show cdw _ _ = cdw _ _; rw [h j (Nat.lt_succ_self j)]
theorem lw_congr {s b b' : Nat → Nat} {t i : Nat} (h : ∀ j, j < i → b j = b' j) : Lw s b t i = Lw s b' t i := by
  unfold Lw
  refine sm_congr fun j hj => ?_
  rw [pvn_congr (j := j + 1) fun k hk => h k (by omega), pvn_congr (j := j) fun k hk => h k (by omega)]
theorem bfn_zero (s ρ : Nat → Nat) (M : Nat) : bfn s ρ M 0 = max M (ρ 0) := rfl
theorem bfn_succ (s ρ : Nat → Nat) (M i : Nat) : bfn s ρ M (i + 1) = max (ρ (i + 1)) (s (i + 1) * (cdw (bfn s ρ M i) (s (i + 1)) + (M - Lw s (bfn s ρ M) (s (i + 1)) (i + 1)) / s (i + 1))) := by
  show (if i + 1 = i + 1 then _ else _) = _
  rw [if_pos rfl, lw_congr fun j hj => bls_eq s ρ M (i := i) (j := j) (by omega)]
  rfl
theorem bd_bfn (s : Nat → Nat) (m M : Nat) : BD s (bfn s (fun _ => 0) M) m M := by
  refine ⟨?_, fun i hi => ?_⟩
  · rw [bfn_zero]; exact Nat.max_eq_left (Nat.zero_le _)
  · rw [bfn_succ]; exact Nat.max_eq_right (Nat.zero_le _)
theorem bfn_up {s ρ : Nat → Nat} {M i : Nat} (h : 0 < s (i + 1)) : bfn s ρ M i ≤ bfn s ρ M (i + 1) := by
  rw [bfn_succ]
  have := le_cdw (x := bfn s ρ M i) h
  rw [Nat.mul_comm] at this
  exact Nat.le_trans (Nat.le_trans this (Nat.mul_le_mul_left _ (Nat.le_add_right _ _))) (Nat.le_max_right _ _)
theorem BD.uniq {s b b' : Nat → Nat} {m M : Nat} (c : CH s m) (B : BD s b m M) (B' : BD s b' m M) {i : Nat} (h : i < m) : b i = b' i :=
  Nat.le_antisymm (BD.le c B B' (Nat.le_refl _) i h) (BD.le c B' B (Nat.le_refl _) i h)
end Ph

namespace Ph
open PySem PySem.Spec PyProof.Rows L2
/-! ### the pot -/
def But (p : Addr) (H H' : Hp) : Prop := ∀ b o, b ≠ p → H b = some o → H' b = some o
theorem But.refl (p : Addr) (H : Hp) : But p H H := fun _ _ _ h => h
theorem But.trans {p : Addr} {H H1 H2 : Hp} (a : But p H H1) (b : But p H1 H2) : But p H H2 := fun c o n h => b c o n (a c o n h)
theorem Same.but {p : Addr} {H H' : Hp} (a : Same H H') : But p H H' := fun b o _ h => a b o h
theorem same_upd {H : Hp} {p : Addr} {o : HO} (h : H p = none) : Same H (upd H p o) := fun b x e => by
  rw [upd_ne (ne_of_none e h)]
  exact e
theorem but_upd {H : Hp} {p : Addr} {o : HO} : But p H (upd H p o) := fun b x n e => by
  rw [upd_ne n]
  exact e
def mM : Int := 2305843009213693951
structure PotV (g r : Int) : Prop where
  g0 : 0 ≤ g
  g1 : g.natAbs < 2 ^ 3000
  r0 : 0 ≤ r
  r1 : r < 2305843009213693951
def Pot (H : Hp) (p : Addr) : Prop := ∃ g r : Int, H p = some (.lst [.int g, .int r]) ∧ PotV g r
theorem great_mod (x : Int) : 0 ≤ x % ten9 ∧ (x % ten9).natAbs < 2 ^ 3000 := by
  have p := ten9_pos
  have h0 : 0 ≤ x % ten9 := Int.emod_nonneg _ (by omega)
  exact ⟨h0, wide_le h0 (Int.le_of_lt (Int.emod_lt_of_pos _ p)) ten9_lt⟩
theorem great_mul (x : Int) (b : Bool) : CMulW (x % ten9) (if b = true then 1 else 0) :=
  wide_mul (b := 2) (great_mod x).2 (by cases b <;> decide) (by decide) (by decide) (by decide)
theorem great_pot (x : Int) (b : Bool) : 0 ≤ x % ten9 * (if b = true then 1 else 0) ∧ (x % ten9 * (if b = true then 1 else 0)).natAbs < 2 ^ 3000 := by
  cases b
  · rw [if_neg (by decide), Int.mul_zero]
    exact ⟨Int.le_refl _, Nat.pow_pos (by decide)⟩
  · rw [if_pos rfl, Int.mul_one]
    exact great_mod x
theorem But.seq {K : PySem.W.Frag} {p a : Addr} {H H' : Hp} {xs : List V} (b : But p H H') (n : a ≠ p) (h : SqL K H a xs) : SqL K H' a xs := by
  rcases h with (h | ⟨o, h⟩) | h
  · exact .inl (.inl (b _ _ n h))
  · exact .inl (.inr ⟨o, b _ _ n h⟩)
  · exact .inr h
theorem But.none {p a : Addr} {H H' : Hp} (b : But p H H') (n : a ≠ p) (h : H' a = none) : H a = none := by
  cases q : H a with
  | none => rfl
  | some o => rw [b a o n q] at h; cases h
theorem Pot.same {H H' : Hp} {p : Addr} (P : Pot H p) (s : Same H H') : Pot H' p := by
  obtain ⟨g, r, h, v⟩ := P
  exact ⟨g, r, s _ _ h, v⟩
theorem Pot.ne_none {H : Hp} {p q : Addr} (P : Pot H p) (h : H q = none) : p ≠ q := by
  obtain ⟨g, r, e, v⟩ := P
  exact ne_of_none e h
inductive Lnk (m : Int) : List Int → Int → Prop
  | one : Lnk m [1] 1
  | step {ns : List Int} {x r : Int} : Lnk m ns x → 2 ≤ r → r ≤ 6 → x * r ≤ m → ns.length < 12 → Lnk m (ns ++ [x * r]) (x * r)
theorem Lnk.pos {m x : Int} {ns : List Int} (h : Lnk m ns x) : 1 ≤ x := by
  induction h with
  | one => decide
  | step h h1 h2 h3 h4 ih =>
    have := Int.mul_le_mul ih h1 (by decide) (by omega)
    omega
theorem Lnk.last {m x : Int} {ns : List Int} (h : Lnk m ns x) : ∃ r, ns = r ++ [x] := by
  cases h with
  | one => exact ⟨[], rfl⟩
  | step h h1 h2 h3 h4 => exact ⟨_, rfl⟩
theorem Lnk.le {m x : Int} {ns : List Int} (h : Lnk m ns x) (hm : 1 ≤ m) : x ≤ m := by
  cases h with
  | one => exact hm
  | step h h1 h2 h3 h4 => exact h3
theorem Lnk.len {m x : Int} {ns : List Int} (h : Lnk m ns x) : 1 ≤ ns.length ∧ ns.length ≤ 12 := by
  cases h with
  | one => decide
  | step h h1 h2 h3 h4 => rw [List.length_append]; exact ⟨by simp, by simp; omega⟩
structure Nm5 (K : PySem.W.Frag) (mg : Str → Option Value) : Prop where
  len : mg "len" = none
  abs : mg "abs" = none
  int : mg "int" = none
  range : mg "range" = none
  tuple : mg "tuple" = none
  max : mg "max" = none
  min : mg "min" = none
  repr : mg "repr" = none
  isinstance : mg "isinstance" = none
  bool : mg "bool" = none
  all : mg "all" = none
  any : mg "any" = none
  list : mg "list" = none
  dict : mg "dict" = none
  sorted : mg "sorted" = none
  set : mg "set" = none
  sum : mg "sum" = none
  zip : mg "zip" = none
  dig : PySem.W.nsIn K cStatics "sys.int_max_str_digits" = some none
theorem _root_.L2.Same.tup {K : PySem.W.Frag} {H H' : Hp} {a : Addr} {xs : List V} (e : Same H H') (h : SqT K H a xs) : SqT K H' a xs := by
  rcases h with (h | ⟨o, h⟩) | h
  · exact .inl (.inl (e _ _ h))
  · exact .inl (.inr ⟨o, e _ _ h⟩)
  · exact .inr h
theorem But.tup {K : PySem.W.Frag} {p a : Addr} {H H' : Hp} {xs : List V} (b : But p H H') (n : a ≠ p) (h : SqT K H a xs) : SqT K H' a xs := by
  rcases h with (h | ⟨o, h⟩) | h
  · exact .inl (.inl (b _ _ n h))
  · exact .inl (.inr ⟨o, b _ _ n h⟩)
  · exact .inr h
theorem paired_imp {α β : Type} {F G : α → β → Prop} (h : ∀ a b, F a b → G a b) : ∀ {l : List α} {m : List β}, Paired F l m → Paired G l m
  | _, _, .nil => .nil
  | _, _, .cons x r => .cons (h _ _ x) (paired_imp h r)
/-! ### blocks in the heap -/
def BkAt (H : Hp) (x : V) (b : Int × Int) : Prop := ∃ t, x = .ref t ∧ H t = some (.tup [.int b.1, .int b.2])
def BL (H : Hp) (xs : List V) (bs : List (Int × Int)) : Prop := Paired (BkAt H) xs bs
theorem BL.mono {H H' : Hp} (h : ∀ t ys, H t = some (.tup ys) → H' t = some (.tup ys)) : ∀ {xs : List V} {bs : List (Int × Int)}, BL H xs bs → BL H' xs bs
  | _, _, .nil => .nil
  | _, _, .cons ⟨t, e1, e2⟩ r => .cons ⟨t, e1, h _ _ e2⟩ (BL.mono h r)
theorem BL.len {H : Hp} : ∀ {xs : List V} {bs : List (Int × Int)}, BL H xs bs → xs.length = bs.length
  | _, _, .nil => rfl
  | _, _, .cons _ r => by rw [List.length_cons, List.length_cons, BL.len r]
def kH (H : Hp) : V → Int × Int
  | .ref t => match H t with
    | some (.tup [.int a, .int s]) => (a, s)
    | _ => (0, 0)
  | _ => (0, 0)
theorem BkAt.k {H : Hp} {x : V} {b : Int × Int} (h : BkAt H x b) : kH H x = b := by
  obtain ⟨t, rfl, e⟩ := h
  show (match H t with
    | some (.tup [.int a, .int s]) => (a, s)
    | _ => (0, 0)) = b
  rw [e]
theorem BL.map {H : Hp} : ∀ {xs : List V} {bs : List (Int × Int)}, BL H xs bs → xs.map (kH H) = bs
  | _, _, .nil => rfl
  | _, _, .cons h r => by rw [List.map_cons, h.k, BL.map r]
theorem BL.all {H : Hp} : ∀ {xs : List V} {bs : List (Int × Int)}, BL H xs bs → ∀ x ∈ xs, ∃ b, BkAt H x b
  | _, _, .nil => fun x hx => by cases hx
  | _, _, .cons h r => fun x hx => by
    rcases List.mem_cons.mp hx with e | e
    · rw [e]; exact ⟨_, h⟩
    · exact BL.all r x e
theorem BL.of {H : Hp} : ∀ {xs : List V}, (∀ x ∈ xs, ∃ b, BkAt H x b) → BL H xs (xs.map (kH H))
  | [], _ => .nil
  | x :: r, h => by
    obtain ⟨b, hb⟩ := h x (List.mem_cons_self ..)
    rw [List.map_cons, hb.k]
    exact .cons hb (BL.of fun y hy => h y (List.mem_cons_of_mem _ hy))
def StAt (H : Hp) (t : Addr) (bs : List (Int × Int)) : Prop := ∃ xs, H t = some (.tup xs) ∧ BL H xs bs
theorem StAt.same {H H' : Hp} {t : Addr} {bs : List (Int × Int)} (h : StAt H t bs) (s : Same H H') : StAt H' t bs := by
  obtain ⟨xs, e, b⟩ := h
  exact ⟨xs, s _ _ e, b.mono fun t ys e => s _ _ e⟩
theorem Pot.netup {H : Hp} {p t : Addr} {xs : List V} (P : Pot H p) (e : H t = some (.tup xs)) : t ≠ p := fun z => by
  obtain ⟨g, r, e0, _⟩ := P
  rw [z, e0] at e
  cases e
theorem Pot.nefrz {H : Hp} {p t : Addr} {ob : Obj} {u : HO} (P : Pot H p) (e : H t = some (.frz ob u)) : t ≠ p := fun z => by
  obtain ⟨g, r, e0, _⟩ := P
  rw [z, e0] at e
  cases e
theorem ChAt.but {p : Addr} {H H' : Hp} {c : Addr} {C : List Int} (h : ChAt H c C) (b : But p H H') (P : Pot H p) : ChAt H' c C := let ⟨o, d, e⟩ := h; ⟨o, d, b _ _ (P.nefrz e) e⟩
theorem StAt.but {p : Addr} {H H' : Hp} {t : Addr} {bs : List (Int × Int)} (h : StAt H t bs) (b : But p H H') (P : Pot H p) : StAt H' t bs := by
  obtain ⟨xs, e, bl⟩ := h
  exact ⟨xs, b _ _ (P.netup e) e, bl.mono fun t ys e => b _ _ (P.netup e) e⟩
/-! ### states -/
def okB (C : List Int) (W : Int) (b : Int × Int) : Prop := b.2 ∈ C ∧ 1 ≤ b.2 ∧ 0 ≤ b.1 ∧ b.1 % b.2 = 0 ∧ b.1 + b.2 ≤ W
def apart (b c : Int × Int) : Prop := b.1 + b.2 ≤ c.1 ∨ c.1 + c.2 ≤ b.1
structure St (C : List Int) (W : Int) (bs : List (Int × Int)) : Prop where
  ok : ∀ b ∈ bs, okB C W b
  asc : bs.Pairwise fun b c => b.1 + b.2 ≤ c.1
theorem sorted_st {C : List Int} {W : Int} {bs cs : List (Int × Int)} (h1 : ∀ b ∈ bs, okB C W b) (h2 : bs.Pairwise apart) (hp : cs.Perm bs) (hs : cs.Pairwise fun x y => SrtO.lexB y x = false) : St C W cs := by
  have ok : ∀ b ∈ cs, okB C W b := fun b hb => h1 b (hp.mem_iff.mp hb)
  refine ⟨ok, ?_⟩
  have ap : cs.Pairwise apart := (hp.pairwise_iff (R := apart) (fun {x y} h => h.symm)).mpr h2
  refine (List.pairwise_and_iff.mpr ⟨ap, hs⟩).imp_of_mem fun {b c} hb hc h => ?_
  obtain ⟨h3, h4⟩ := h
  rcases h3 with h5 | h5
  · exact h5
  · exfalso
    obtain ⟨_, k1, _⟩ := ok c hc
    have : SrtO.lexB c b = true := by
      unfold SrtO.lexB
      simp
      rw [if_neg (by omega)]
      omega
    rw [this] at h4
    cases h4
abbrev Bk := Int × Int
def rch (l : Int) (bs : List Bk) : Int := mxd 0 ((bs.filter fun b => decide (b.2 ≤ l)).map fun b => b.1 + b.2)
theorem foldl_max : ∀ (l : List Int) (n : Int), (∀ x ∈ l, x ≤ l.foldl max n) ∧ n ≤ l.foldl max n ∧ (l.foldl max n = n ∨ l.foldl max n ∈ l)
  | [], n => ⟨(fun x hx => nomatch hx), Int.le_refl _, .inl rfl⟩
  | a :: r, n => by
    obtain ⟨h1, h2, h3⟩ := foldl_max r (max n a)
    rw [List.foldl_cons]
    refine ⟨fun x hx => ?_, by omega, ?_⟩
    · rcases List.mem_cons.mp hx with e | e
      · rw [e]; omega
      · exact h1 x e
    · rcases h3 with e | e
      · rcases (by omega : max n a = n ∨ max n a = a) with z | z
        · left; omega
        · right; rw [e, z]; exact List.mem_cons_self ..
      · right; exact List.mem_cons_of_mem _ e
theorem mxd_spec {l : List Int} (h : ∀ x ∈ l, 0 < x) : (l = [] ∧ mxd 0 l = 0) ∨ (mxd 0 l ∈ l ∧ ∀ x ∈ l, x ≤ mxd 0 l) := by
  cases l with
  | nil => exact .inl ⟨rfl, rfl⟩
  | cons n r =>
    right
    obtain ⟨h1, h2, h3⟩ := foldl_max r n
    show r.foldl max n ∈ n :: r ∧ ∀ x ∈ n :: r, x ≤ r.foldl max n
    refine ⟨?_, fun x hx => ?_⟩
    · rcases h3 with e | e
      · rw [e]; exact List.mem_cons_self ..
      · exact List.mem_cons_of_mem _ e
    · rcases List.mem_cons.mp hx with e | e
      · rw [e]; exact h2
      · exact h1 x e
/-! ### comprehensions whose steps lay new things -/
theorem lc_tupR {K : PySem.W.Frag} {a : Addr} {xs : List V} {g : TG} {te : TE} {vs : List Nat} {σ : L2.St} {H1 : Hp} {D : Addr} {Qd : Hp → Prop} (R : Hp → V → V → Prop) (mono : ∀ H H' x y, (∀ v zs, H v = some (.tup zs) → H' v = some (.tup zs)) → R H x y → R H' x y)
    (ht : SqT K H1 a xs) (nD : H1 D = none) (hlen : xs.length < sizeLine)
    (hs : ∀ x ∈ xs, ∀ H, Same H1 H → ∀ Y : V → Hp → Prop, (∀ y H', Same H H' → R H' x y → Y y H') → g x (wipe σ vs) H fun σ2 H2 => wipe σ2 vs = wipe σ vs ∧ te σ2 H2 Y)
    (hd : ∀ H ys, Same H1 H → H D = some (.lst ys) → Paired (R H) xs ys → Qd H) :
    ∃ W : Nat → Nat → Hp → Prop, (∃ m, W 0 m (upd H1 D (.lst []))) ∧ ∀ i m H, W i m H →
      ((Itt K a).stop i H ∧ Qd H) ∨ ((Itt K a).go i H ∧ ∃ Nx : Hp → Prop, (∀ H', Nx H' → ∃ m', m' < m ∧ W (i + 1) m' H') ∧ ∀ x H', (Itt K a).yld i H x H' → g x (wipe σ vs) H' fun σ2 H2 => wipe σ2 vs = wipe σ vs ∧ tYes σ2 H2 fun b H3 =>
        if b = true then te σ2 H3 fun y H4 => ∃ acc, H4 D = some (.lst acc) ∧ acc.length < sizeLine ∧ Nx (upd H4 D (.lst (acc ++ [y]))) else Nx H3) := by
  refine lc_tup (fun i H => Same H1 H ∧ ∃ ys, H D = some (.lst ys) ∧ Paired (R H) (xs.take i) ys) ⟨same_upd nD, [], upd_same, .nil⟩ (fun i H _ p => p.1.tup ht) (fun i x H hx p => ?_) (fun H p => ?_)
  · obtain ⟨sm, ys, hD, pr⟩ := p
    have hlen2 : ys.length < sizeLine := by
      have h1 := pr.length
      rw [List.length_take] at h1
      omega
    have := hs x (List.mem_of_getElem? hx) H sm (fun y H4 => ∃ acc, H4 D = some (.lst acc) ∧ acc.length < sizeLine ∧ (Same H1 (upd H4 D (.lst (acc ++ [y]))) ∧ ∃ ys, upd H4 D (.lst (acc ++ [y])) D = some (.lst ys) ∧ Paired (R (upd H4 D (.lst (acc ++ [y])))) (xs.take (i + 1)) ys)) (fun y H4 s4 r4 => ?_)
    · exact this
    · have hD4 := s4 _ _ hD
      have tk : ∀ v zs, H4 v = some (.tup zs) → upd H4 D (.lst (ys ++ [y])) v = some (.tup zs) := fun v zs e => by
        rw [upd_ne (ne_of e hD4 (by intro z; cases z))]
        exact e
      refine ⟨ys, hD4, hlen2, fun b o e => ?_, ys ++ [y], upd_same, ?_⟩
      · rw [upd_ne (ne_of_none e nD)]
        exact s4 _ _ (sm _ _ e)
      · rw [List.take_add_one, hx]
        exact Paired.snoc (paired_imp (fun a b h => mono _ _ _ _ (fun v zs e => tk v zs (s4 _ _ e)) h) pr) (mono _ _ _ _ tk r4)
  · obtain ⟨sm, ys, hD, pr⟩ := p
    rw [List.take_of_length_le (Nat.le_refl _)] at pr
    exact hd H ys sm hD pr
theorem paired_fun {α β : Type} {f : α → β} {F : α → β → Prop} (h : ∀ a b, F a b → b = f a) : ∀ {l : List α} {m : List β}, Paired F l m → m = l.map f
  | _, _, .nil => rfl
  | _, _, .cons x r => by rw [List.map_cons, h _ _ x, paired_fun h r]
theorem fm_if (p : Bk → Bool) (f : Bk → Int) (k : V → Bk) : ∀ xs : List V, xs.filterMap (fun x => if p (k x) = true then some (V.int (f (k x))) else none) = (((xs.map k).filter p).map f).map V.int
  | [] => rfl
  | x :: r => by
    have ih := fm_if p f k r
    by_cases c : p (k x) = true
    · rw [List.map_cons, List.filter_cons_of_pos c, List.map_cons, List.map_cons, ← ih, List.filterMap_cons_some (b := V.int (f (k x))) (by rw [if_pos c])]
    · rw [List.map_cons, List.filter_cons_of_neg c, ← ih, List.filterMap_cons_none (by rw [if_neg c])]
theorem u2_of {A : Around} {k : Nat} (hr : Room k A) : A.units + 2 < cLine := by have := hr.un; omega
def iV : V → Int
  | .int i => i
  | _ => 0
end Ph

namespace Ph
open PySem PySem.Spec PyProof.Rows L2
/-- a comprehension over zip of two tuples, the second one not longer -/
theorem lc_zipS {K : PySem.W.Frag} {a b : Addr} {xs ys : List V} {g : TG} {tt : TT} {te : TE} {vs : List Nat} {σ : L2.St} {H1 : Hp} {D : Addr} {Qd : Hp → Prop} (hl : ys.length ≤ xs.length) (Pv : Nat → Hp → Prop) (h0 : Pv 0 (upd H1 D (.lst []))) (hq : ∀ i H, Pv i H → SqT K H a xs ∧ SqT K H b ys)
    (hs : ∀ (i : Nat) (x y : V) (T : Addr) (H : Hp), xs[i]? = some x → ys[i]? = some y → Pv i H → H T = none → g (.ref T) (wipe σ vs) (upd H T (.tup [x, y])) fun σ2 H2 => wipe σ2 vs = wipe σ vs ∧ tt σ2 H2 fun b H3 =>
      if b = true then te σ2 H3 fun y H4 => ∃ acc, H4 D = some (.lst acc) ∧ acc.length < sizeLine ∧ Pv (i + 1) (upd H4 D (.lst (acc ++ [y]))) else Pv (i + 1) H3) (hd : ∀ H, Pv ys.length H → Qd H) :
    ∃ W : Nat → Nat → Hp → Prop, (∃ m, W 0 m (upd H1 D (.lst []))) ∧ ∀ i m H, W i m H →
      ((RZ.ItzT K a b).stop i H ∧ Qd H) ∨ ((RZ.ItzT K a b).go i H ∧ ∃ Nx : Hp → Prop, (∀ H', Nx H' → ∃ m', m' < m ∧ W (i + 1) m' H') ∧ ∀ x H', (RZ.ItzT K a b).yld i H x H' → g x (wipe σ vs) H' fun σ2 H2 => wipe σ2 vs = wipe σ vs ∧ tt σ2 H2 fun b H3 =>
        if b = true then te σ2 H3 fun y H4 => ∃ acc, H4 D = some (.lst acc) ∧ acc.length < sizeLine ∧ Nx (upd H4 D (.lst (acc ++ [y]))) else Nx H3) := by
  refine ⟨fun i m H => m = ys.length - i ∧ i ≤ ys.length ∧ Pv i H, ⟨ys.length, rfl, Nat.zero_le _, h0⟩, ?_⟩
  rintro i m H ⟨rfl, hi, p⟩
  obtain ⟨qx, qy⟩ := hq i H p
  by_cases hlt : i < ys.length
  · have hlt2 : i < xs.length := by omega
    refine .inr ⟨⟨xs, ys, _, _, qx, qy, List.getElem?_eq_getElem hlt2, List.getElem?_eq_getElem hlt⟩, Pv (i + 1), fun H' p' => ⟨ys.length - (i + 1), by omega, rfl, hlt, p'⟩, fun v H' y => ?_⟩
    obtain ⟨T, x', y', rfl, hT, rfl, f1, f2⟩ := y
    exact hs i x' y' T H (f1 xs qx) (f2 ys qy) p hT
  · have e : i = ys.length := by omega
    subst e
    exact .inl ⟨⟨xs, ys, qx, qy, Or.inr (Nat.le_refl _)⟩, hd H p⟩
end Ph

namespace Ph
open PySem PySem.Spec PyProof.Rows L2
/-! ### comprehensions whose items are known, whose steps may lay new things -/
theorem keepD {H1 H4 : Hp} {D : Addr} {o : HO} (nD : H1 D = none) (s : Same H1 H4) : Same H1 (upd H4 D o) := fun b u e => by
  rw [upd_ne (ne_of_none e nD)]
  exact s _ _ e
theorem lc_rgF {lo : Int} {n : Nat} {g : TG} {te : TE} {vs : List Nat} {σ : L2.St} {H1 : Hp} {D : Addr} {Qd : Hp → Prop} (f : Nat → V) (nD : H1 D = none) (hlen : n < sizeLine)
    (hs : ∀ i, i < n → ∀ H, Same H1 H → ∀ Y : V → Hp → Prop, (∀ H', Same H H' → Y (f i) H') → g (.int (lo + (i : Int))) (wipe σ vs) H fun σ2 H2 => wipe σ2 vs = wipe σ vs ∧ te σ2 H2 Y)
    (hd : ∀ H, Same H1 H → H D = some (.lst ((List.range n).map f)) → Qd H) :
    ∃ W : Nat → Nat → Hp → Prop, (∃ m, W 0 m (upd H1 D (.lst []))) ∧ ∀ i m H, W i m H →
      ((Itr lo n).stop i H ∧ Qd H) ∨ ((Itr lo n).go i H ∧ ∃ Nx : Hp → Prop, (∀ H', Nx H' → ∃ m', m' < m ∧ W (i + 1) m' H') ∧ ∀ x H', (Itr lo n).yld i H x H' → g x (wipe σ vs) H' fun σ2 H2 => wipe σ2 vs = wipe σ vs ∧ tYes σ2 H2 fun b H3 =>
        if b = true then te σ2 H3 fun y H4 => ∃ acc, H4 D = some (.lst acc) ∧ acc.length < sizeLine ∧ Nx (upd H4 D (.lst (acc ++ [y]))) else Nx H3) := by
  refine lc_range (fun i H => Same H1 H ∧ H D = some (.lst ((List.range i).map f))) ⟨same_upd nD, upd_same⟩ (fun i H hi p => ?_) (fun H p => hd H p.1 p.2)
  obtain ⟨sm, hD⟩ := p
  refine hs i hi H sm _ fun H4 s4 => ?_
  refine ⟨_, s4 _ _ hD, by rw [List.length_map, List.length_range]; omega, keepD nD (sm.trans s4), ?_⟩
  rw [upd_same, List.range_succ, List.map_append]
  rfl
theorem lc_lsF {K : PySem.W.Frag} {a : Addr} {xs : List V} {g : TG} {te : TE} {vs : List Nat} {σ : L2.St} {H1 : Hp} {D : Addr} {Qd : Hp → Prop} (f : V → V) (ha : SqL K H1 a xs) (nD : H1 D = none) (hlen : xs.length < sizeLine)
    (hs : ∀ x ∈ xs, ∀ H, Same H1 H → ∀ Y : V → Hp → Prop, (∀ H', Same H H' → Y (f x) H') → g x (wipe σ vs) H fun σ2 H2 => wipe σ2 vs = wipe σ vs ∧ te σ2 H2 Y)
    (hd : ∀ H, Same H1 H → H D = some (.lst (xs.map f)) → Qd H) :
    ∃ W : Nat → Nat → Hp → Prop, (∃ m, W 0 m (upd H1 D (.lst []))) ∧ ∀ i m H, W i m H →
      ((Itl K a).stop i H ∧ Qd H) ∨ ((Itl K a).go i H ∧ ∃ Nx : Hp → Prop, (∀ H', Nx H' → ∃ m', m' < m ∧ W (i + 1) m' H') ∧ ∀ x H', (Itl K a).yld i H x H' → g x (wipe σ vs) H' fun σ2 H2 => wipe σ2 vs = wipe σ vs ∧ tYes σ2 H2 fun b H3 =>
        if b = true then te σ2 H3 fun y H4 => ∃ acc, H4 D = some (.lst acc) ∧ acc.length < sizeLine ∧ Nx (upd H4 D (.lst (acc ++ [y]))) else Nx H3) := by
  refine lc_list (fun i H => Same H1 H ∧ H D = some (.lst ((xs.take i).map f))) ⟨same_upd nD, upd_same⟩ (fun i H _ p => p.1.seq ha) (fun i x H hx p => ?_) (fun H p => hd H p.1 (by rw [p.2, List.take_of_length_le (Nat.le_refl _)]))
  obtain ⟨sm, hD⟩ := p
  refine hs x (List.mem_of_getElem? hx) H sm _ fun H4 s4 => ?_
  refine ⟨_, s4 _ _ hD, by rw [List.length_map, List.length_take]; omega, keepD nD (sm.trans s4), ?_⟩
  rw [upd_same, List.take_add_one, hx, List.map_append]
  rfl
theorem lc_tpF {K : PySem.W.Frag} {a : Addr} {xs : List V} {g : TG} {te : TE} {vs : List Nat} {σ : L2.St} {H1 : Hp} {D : Addr} {Qd : Hp → Prop} (f : V → V) (ha : SqT K H1 a xs) (nD : H1 D = none) (hlen : xs.length < sizeLine)
    (hs : ∀ x ∈ xs, ∀ H, Same H1 H → ∀ Y : V → Hp → Prop, (∀ H', Same H H' → Y (f x) H') → g x (wipe σ vs) H fun σ2 H2 => wipe σ2 vs = wipe σ vs ∧ te σ2 H2 Y)
    (hd : ∀ H, Same H1 H → H D = some (.lst (xs.map f)) → Qd H) :
    ∃ W : Nat → Nat → Hp → Prop, (∃ m, W 0 m (upd H1 D (.lst []))) ∧ ∀ i m H, W i m H →
      ((Itt K a).stop i H ∧ Qd H) ∨ ((Itt K a).go i H ∧ ∃ Nx : Hp → Prop, (∀ H', Nx H' → ∃ m', m' < m ∧ W (i + 1) m' H') ∧ ∀ x H', (Itt K a).yld i H x H' → g x (wipe σ vs) H' fun σ2 H2 => wipe σ2 vs = wipe σ vs ∧ tYes σ2 H2 fun b H3 =>
        if b = true then te σ2 H3 fun y H4 => ∃ acc, H4 D = some (.lst acc) ∧ acc.length < sizeLine ∧ Nx (upd H4 D (.lst (acc ++ [y]))) else Nx H3) := by
  refine lc_tup (fun i H => Same H1 H ∧ H D = some (.lst ((xs.take i).map f))) ⟨same_upd nD, upd_same⟩ (fun i H _ p => p.1.tup ha) (fun i x H hx p => ?_) (fun H p => hd H p.1 (by rw [p.2, List.take_of_length_le (Nat.le_refl _)]))
  obtain ⟨sm, hD⟩ := p
  refine hs x (List.mem_of_getElem? hx) H sm _ fun H4 s4 => ?_
  refine ⟨_, s4 _ _ hD, by rw [List.length_map, List.length_take]; omega, keepD nD (sm.trans s4), ?_⟩
  rw [upd_same, List.take_add_one, hx, List.map_append]
  rfl
theorem lc_zpF {K : PySem.W.Frag} {a b : Addr} {xs ys : List V} {g : TG} {te : TE} {vs : List Nat} {σ : L2.St} {H1 : Hp} {D : Addr} {Qd : Hp → Prop} (n : Nat) (hn : ys.length = n) (hl : n ≤ xs.length) (f : Nat → V) (ha : SqT K H1 a xs) (hb : SqT K H1 b ys) (nD : H1 D = none) (hlen : n < sizeLine)
    (hs : ∀ i x y T, i < n → xs[i]? = some x → ys[i]? = some y → ∀ H, Same H1 H → H T = none → ∀ Y : V → Hp → Prop, (∀ H', Same H H' → Y (f i) H') → g (.ref T) (wipe σ vs) (upd H T (.tup [x, y])) fun σ2 H2 => wipe σ2 vs = wipe σ vs ∧ te σ2 H2 Y)
    (hd : ∀ H, Same H1 H → H D = some (.lst ((List.range n).map f)) → Qd H) :
    ∃ W : Nat → Nat → Hp → Prop, (∃ m, W 0 m (upd H1 D (.lst []))) ∧ ∀ i m H, W i m H →
      ((RZ.ItzT K a b).stop i H ∧ Qd H) ∨ ((RZ.ItzT K a b).go i H ∧ ∃ Nx : Hp → Prop, (∀ H', Nx H' → ∃ m', m' < m ∧ W (i + 1) m' H') ∧ ∀ x H', (RZ.ItzT K a b).yld i H x H' → g x (wipe σ vs) H' fun σ2 H2 => wipe σ2 vs = wipe σ vs ∧ tYes σ2 H2 fun b H3 =>
        if b = true then te σ2 H3 fun y H4 => ∃ acc, H4 D = some (.lst acc) ∧ acc.length < sizeLine ∧ Nx (upd H4 D (.lst (acc ++ [y]))) else Nx H3) := by
  subst hn
  refine lc_zipS hl (fun i H => Same H1 H ∧ H D = some (.lst ((List.range i).map f))) ⟨same_upd nD, upd_same⟩ (fun i H p => ⟨p.1.tup ha, p.1.tup hb⟩) (fun i x y T H hx hy p nT => ?_) (fun H p => hd H p.1 p.2)
  obtain ⟨sm, hD⟩ := p
  have hi : i < ys.length := (List.getElem?_eq_some_iff.mp hy).1
  refine hs i x y T hi hx hy H sm nT _ fun H4 s4 => ?_
  refine ⟨_, s4 _ _ hD, by rw [List.length_map, List.length_range]; omega, keepD nD (sm.trans s4), ?_⟩
  rw [upd_same, List.range_succ, List.map_append]
  rfl
/-- sums of rows of numbers -/
theorem sum_tl (f : Nat → Nat) : ∀ n, ((List.range n).map fun i => ((f i : Nat) : Int)).sum = ((sm f n : Nat) : Int)
  | 0 => rfl
  | n + 1 => by
    rw [List.range_succ, List.map_append, List.sum_append, sum_tl f n]
    show _ + (((f n : Nat) : Int) + 0) = ((sm f n + f n : Nat) : Int)
    omega
end Ph

namespace Ph
open PySem PySem.Spec PyProof.Rows L2
section
variable {X : Cx}
def rSlK (K : PySem.W.Frag) : V → Option Int → Option Int → Hp → VK → Prop := fun x lo hi H Q => ∃ a xs, x = .ref a ∧ SqT K H a xs ∧ ∀ q H', Same H H' → SqT K H' q (cutV xs lo hi) → Q (.ref q) H'
theorem cutv_whole {xs : List V} {lo hi : Option Int} (hw : HT.sIx xs.length 0 lo = 0 ∧ HT.sIx xs.length xs.length hi = xs.length) : cutV xs lo hi = xs := by
  unfold cutV
  rw [hw.1, hw.2]
  simp
theorem cutv_le {xs : List V} {lo hi : Option Int} : (cutV xs lo hi).length ≤ xs.length := by
  unfold cutV
  simp only [List.length_take, List.length_drop]
  omega
theorem sl_tupK : SlR X (rSlK X.K) := by
  intro pins s σ H x v vl vu lo hi sl Q I rx hs pl pu h
  obtain ⟨a, xs, rfl, hx, q⟩ := h
  exact sl_tupA pins s σ H _ v vl vu lo hi sl Q I rx hs pl pu ⟨a, xs, rfl, hx, fun hw => q a H (Same.refl H) (by rw [cutv_whole hw]; exact hx), fun _ p np => q p _ (same_upd np) (.inl (.inl upd_same))⟩
def rCatK (K : PySem.W.Frag) : V → V → Hp → VK → Prop := fun x y H Q => ∃ a b xs ys, x = .ref a ∧ y = .ref b ∧ SqT K H a xs ∧ SqT K H b ys ∧ xs.length + ys.length ≤ sizeLine ∧ ∀ q H', Same H H' → SqT K H' q (xs ++ ys) → Q (.ref q) H'
theorem op_catK : OpR X (binaryOp .Add) (rCatK X.K) := by
  intro pins s σ H x y v u Q I rx ry h
  obtain ⟨a, b, xs, ys, rfl, rfl, ha, hb, hz, q⟩ := h
  refine op_catA pins s σ H _ _ v u Q I rx ry ⟨a, b, xs, ys, rfl, rfl, ha, hb, hz, fun e => q b H (Same.refl H) (by rw [e]; exact hb), fun _ e => q a H (Same.refl H) (by rw [e, List.append_nil]; exact ha), fun _ _ p np => q p _ (same_upd np) (.inl (.inl upd_same))⟩
end
end Ph

namespace Ph
open PySem PySem.Spec PyProof.Rows L2
section
variable {X : Cx}
/-- x in t, t a tuple of data -/
def rInT (K : PySem.W.Frag) : R2 := fun x y H Q => ∃ d ds, Dp K H x d ∧ Dp K H y (.tuple ds) ∧ SeqAt.shaped d = true ∧ SeqAt.shaped (.tuple ds) = true ∧ Q (.bl (ds.any fun z => PyData.eqv z d)) H
theorem op_inT (hu : X.A.units + 65 < cLine) : OpR X (compareOp .In) (rInT X.K) := by
  intro pins s σ H x y v u Q I rx ry h
  obtain ⟨d, ds, dx, dy, sx, sy, q⟩ := h
  obtain ⟨_, r1⟩ := Dp.reads I d x v dx rx
  obtain ⟨_, r2⟩ := Dp.reads I (.tuple ds) y u dy ry
  exact SeqAt.in_tuple_reads r2 r1 (SeqAt.canLay_of_shaped sy) (SeqAt.canLay_of_shaped sx) (room_in_shaped sx hu) ⟨.bl _, H, I, rfl, q⟩
/-- a thing that is only read from now on -/
def tFrz (t : TE) : TE := fun σ H Q => t σ H fun v H1 => ∃ d u, v = .ref d ∧ H1 d = some u ∧ Mut (some u) ∧ ∀ od, Q v (upd H1 d (.frz od u))
theorem pe_frz {e : Expr} {t : TE} (h : PE X e t) : PE X e (tFrz t) := by
  refine ⟨fun pins s σ H Q I hw => ?_⟩
  refine thn (h.run pins s σ _ _ I hw) fun v s1 ⟨x, H1, I1, r, d, u, ex, hd, mu, q⟩ => ?_
  obtain ⟨od, I2⟩ := I1.lock hd mu
  exact ⟨x, _, I2, r, q od⟩
end
/-! ### blocks and states as data -/
def bD (b : Int × Int) : PyData := .tuple [.int b.1, .int b.2]
theorem bD_lay (b : Int × Int) : (bD b).canLay0 = true := by simp [bD, PyData.canLay0, PyData.canLayAll0]
theorem bD_depth (b : Int × Int) : (bD b).depth = 1 := by simp [bD, PyData.depth, PyData.depthAll]
theorem bDs_lay : ∀ zs : List (Int × Int), PyData.canLayAll0 (zs.map bD) = true
  | [] => by simp [PyData.canLayAll0]
  | z :: zs => by simp [PyData.canLayAll0, bD_lay z, bDs_lay zs]
theorem bDs_depth : ∀ zs : List (Int × Int), PyData.depthAll (zs.map bD) ≤ 1
  | [] => by simp [PyData.depthAll]
  | z :: zs => by
    have h1 := bDs_depth zs
    have h2 := bD_depth z
    simp only [List.map_cons, PyData.depthAll, h2]
    omega
theorem bD_shaped (b : Int × Int) : SeqAt.shaped (bD b) = true := by
  show ((bD b).canLay0 && decide ((bD b).depth ≤ 64)) = true
  rw [bD_lay, bD_depth]
  rfl
theorem sD_shaped (zs : List (Int × Int)) : SeqAt.shaped (.tuple (zs.map bD)) = true := by
  have h1 := bDs_depth zs
  have h2 : PyData.depth (.tuple (zs.map bD)) ≤ 64 := by simp only [PyData.depth]; omega
  have h3 : PyData.canLay0 (.tuple (zs.map bD)) = true := by simp only [PyData.canLay0]; exact bDs_lay zs
  show (PyData.canLay0 (.tuple (zs.map bD)) && decide (PyData.depth (.tuple (zs.map bD)) ≤ 64)) = true
  rw [h3, decide_eq_true h2]
  rfl
theorem bD_eqv (b c : Int × Int) : PyData.eqv (bD b) (bD c) = decide (b = c) := by
  obtain ⟨b1, b2⟩ := b
  obtain ⟨c1, c2⟩ := c
  have e : PyData.eqv (bD (b1, b2)) (bD (c1, c2)) = ((b1 == c1) && ((b2 == c2) && true)) := by simp only [bD, PyData.eqv, PyData.eqvAll]
  rw [e, Bool.and_true, Bool.eq_iff_iff, Bool.and_eq_true, beq_iff_eq, beq_iff_eq, decide_eq_true_iff, Prod.mk.injEq]
theorem bDs_any (b : Int × Int) : ∀ zs : List (Int × Int), ((zs.map bD).any fun z => PyData.eqv z (bD b)) = decide (b ∈ zs)
  | [] => by simp
  | z :: zs => by
    rw [List.map_cons, List.any_cons, bDs_any b zs, bD_eqv, Bool.eq_iff_iff, Bool.or_eq_true, decide_eq_true_iff, decide_eq_true_iff, decide_eq_true_iff, List.mem_cons]
    exact ⟨fun h => h.imp Eq.symm id, fun h => h.imp Eq.symm id⟩
theorem sD_eqv_refl (zs : List (Int × Int)) : PyData.eqv (.tuple (zs.map bD)) (.tuple (zs.map bD)) = true := by
  simp only [PyData.eqv]
  induction zs with
  | nil => simp [PyData.eqvAll]
  | cons z zs ih => simp [PyData.eqvAll, ih, bD_eqv]
end Ph

namespace Ph
open PySem PySem.Spec PyProof.Rows L2
/-! ### a def's promise where no repr is under way (the guards are known to be empty) -/
structure FnG (P : Program) (w : World) (K : PySem.W.Frag) (mg : Str → Option Value) (base : Heap) (CX : CXT) (k : Nat) (f : Addr) (fd : FuncData) (ps : List Str) (sp : Sp) : Prop where
  cnt : ∀ vs H Q E, sp vs H Q E → vs.length = ps.length
  go : ∀ (A : Around) (outer : List Env) (s : Shared) (H : Hp) (args : Args) (us : List Value) (vs : List V) (Q : VK) (E : XK), A.guards = some [] → Room k A →
    Env0 P w K mg base A outer s H → BindsTo s fd args (ps.zip us) → Vals vs us → sp vs H Q E → codeAny (model P w) A (.call (.ref f) args) (CR CX outer P w H s Q E) s
theorem guards_deeper (A : Around) (env : Env) : (A.deeper env).guards = A.guards := by
  first
    | rfl
    | (cases A; rfl)
section
variable {P : Program} {w : World} {K : PySem.W.Frag} {mg : Str → Option Value} {base : Heap}
theorem FnG.of {CX : CXT} {k : Nat} {f : Addr} {fd : FuncData} {ps : List Str} {sp : Sp} (F : FnOk P w K mg base CX k f fd ps sp) : FnG P w K mg base CX k f fd ps sp :=
  ⟨F.len, fun A outer s H args us vs Q E _ => F.run A outer s H args us vs Q E⟩
theorem okG {x qual : Str} {st : Stmt} {f : Addr} {fd : FuncData} {N ps : List Str} {k : Nat} {sp : Sp} (F : Fun K x qual st f fd) (S : FnScope N ps (defScope st)) (cnt : ∀ vs H Q E, sp vs H Q E → vs.length = ps.length)
    (body : ∀ (cdv : Value) (A : Around) (outer : List Env) (s : Shared) (H : Hp) (vs : List V) (Q : VK) (E : XK), (A.deeper (envOfC qual (defScope st) s.heap.objs.size f cdv)).guards = some [] → Room k (A.deeper (envOfC qual (defScope st) s.heap.objs.size f cdv)) → sp vs H Q E →
      ∃ t, PSs (cxOf CX0 P w K mg base N qual (defScope st) f cdv A outer s H E).nox (defBody st) t ∧ t { nx := fun _ H' => Q .non H', rt := Q } (start N vs) H) : FnG P w K mg base CX0 (k + 1) f fd ps sp := by
  obtain ⟨oc, od, kV, doc, pm, an, cdv, ct, osl, rfl, lk, hcd⟩ := F.ex
  refine ⟨cnt, fun A outer s H args us vs Q E hgu room env bnd vals want => ?_⟩
  have old : ∀ b o, base.get? b = some o → s.heap.get? b = some o := fun b o z => (env.bs b o z).1
  refine Att.call_fn (env.mod.kin.keeps old) (env.mod.nolimit.keeps old) lk hcd room.depth bnd ?_ (fun s1 inside => ?_) S.co S.gen S.kind
  · rw [List.all_eq_true]
    rintro ⟨n, v⟩ hy
    rcases S.par n (List.of_mem_zip hy).1 with z | z <;> simp [z]
  · obtain ⟨t, ht, hq⟩ := body cdv A outer s H vs Q E ((guards_deeper A _).trans hgu) (room.deeper _) want
    have I0 : Inv (cxOf CX0 P w K mg base N qual (defScope st) f cdv A outer s H E) [] (start N vs) H s1 := inv_start S room.hd env (cnt _ _ _ _ want) vals inside
    refine wpAny_mono (ht.nox.run [] s1 (start N vs) H _ I0 hq) (fun flow s2 done => ?_) fun e s2 bad => bad
    have fin : ∀ {σ' : L2.St} {H' : Hp} {v : V} {u : Value}, Inv (cxOf CX0 P w K mg base N qual (defScope st) f cdv A outer s H E) [] σ' H' s2 → RelV v u → Q v H' → CE outer P w H s Q u s2 :=
      fun J rel good => ⟨_, _, J.os, J.bare, J.base, J.hok, rel, good⟩
    match flow, done with
    | .ret u, ⟨v, σ', H', J, rel, good⟩ => exact fin J rel good
    | .next, ⟨σ', H', J, good⟩ => exact fin (v := V.non) (u := Value.none) J rfl good
    | .brk, ⟨_, _, _, z⟩ => exact z.elim
    | .cont, ⟨_, _, _, z⟩ => exact z.elim
end
section
variable {X : Cx} {k : Nat} {f : Addr} {fd : FuncData} {ps : List Str} {sp : Sp} {x : Str} {p pos : Pos} {e : Expr} {es : List Expr} {t : TA}
/-- f(e, ..) of such a def, no exception leaves it -/
theorem pe_callG (F : FnG X.prog X.w X.K X.mg X.base CX0 k f fd ps sp) (hgu : X.A.guards = some []) (room : Room k X.A) (hg : Gl X x) (hm : X.mg x = some (.ref f)) (hk : PySem.W.keepIn X.K (.ref f) = true) (hb : Binds X.K fd ps [])
    (ha : PA X (e :: es) t) (hdb : (x == ("__debug__" : Str)) = false := by decide) (he : starEach (e :: es) X.env = (false, eval e X.env) :: starEach es X.env := by rfl) (hpl : (backTo pos (starEach es X.env)).any (·.1) = false := by rfl) :
    PE X (.Call (.Name x p) (e :: es) [] pos) (tCall sp [] E0 t) := ⟨fun pins s σ H Q I want => by
  refine wpAny_Call_Name_kw (ld_glob I hg hm ?_ hdb)
  refine PySem.W.callWith_K (h₀ := X.base) I.ok.mod.kin hk (thn (ha.run pos pins s σ H _ I want) fun us s1 ⟨vs, H1, I1, vals, good⟩ => ⟨I1.kIn, ?_⟩) he hpl
  have n1 : (us ++ []).length = ps.length := by
    rw [← (vals.append (Paired.nil : Vals [] [])).length]
    exact F.cnt _ _ _ _ good
  refine wpAny_call (codeAny_mono (F.go X.A X.stack s1 H1 ⟨us, []⟩ (us ++ []) (vs ++ []) Q E0 hgu room I1.env0 (hb s1 us I1.kIn n1) (vals.append .nil) good) fun r s2 out => ?_)
  match r, out with
  | .ok (.ret u), out => exact I1.after out
  | .error _, out => exact out.elim⟩
/-- repr of lists and tuples of data -/
theorem call_reprD (hgu : X.A.guards = some []) (hu : X.A.units + 64 < cLine) : CallR X (.builtin "repr") (fun xs H Q => ∃ (a : Addr) (d : PyData), xs = [.ref a] ∧ Dp X.K H (.ref a) d ∧ d.showable = true ∧ d.hasDict = false ∧ d.depth ≤ 60 ∧ d.shown.length ≤ sizeLine ∧ Q (.str d.shown) H) := by
  intro pins s σ H xs us Q I r h
  obtain ⟨a, d, rfl, dp, sh, nd, dep, len, q⟩ := h
  obtain ⟨u, rfl, ru⟩ := vals1 r
  obtain ⟨as, rd⟩ := Dp.reads I d _ _ dp ru
  cases ru
  exact repr_of_reads' rd sh (PyData.noDict_hsm nd) hgu (by omega) (fun _ _ z => z) (fun h' v tk keep => ⟨.str _, H, I.kept keep, ⟨_, rfl⟩, q⟩) len
end
/-- tuples of ints as data -/
theorem dp_ints {K : PySem.W.Frag} {H : Hp} : ∀ ns : List Int, DpAll K H (ns.map V.int) (ns.map PyData.int)
  | [] => .nil
  | n :: r => .cons (.int n) (dp_ints r)
theorem showable_ints : ∀ ns : List Int, (∀ n ∈ ns, n.natAbs.log2 < 1920) → PyData.showableAll (ns.map PyData.int) = true
  | [], _ => by simp [PyData.showableAll]
  | n :: r, h => by
    have h1 := h n (List.mem_cons_self ..)
    have h2 := showable_ints r fun m hm => h m (List.mem_cons_of_mem _ hm)
    simp only [List.map_cons, PyData.showableAll, PyData.showable, h2, Bool.and_true, decide_eq_true h1]
theorem noDict_ints : ∀ ns : List Int, PyData.hasDictAll (ns.map PyData.int) = false
  | [] => by simp [PyData.hasDictAll]
  | n :: r => by
    have h2 := noDict_ints r
    simp only [List.map_cons, PyData.hasDictAll, PyData.hasDict, h2, Bool.or_self]
theorem depth_ints : ∀ ns : List Int, PyData.depthAll (ns.map PyData.int) ≤ 2
  | [] => by simp [PyData.depthAll]
  | n :: r => by
    have h2 := depth_ints r
    simp only [List.map_cons, PyData.depthAll, PyData.depth]
    omega
theorem shown_ints : ∀ ns : List Int, PyData.shownAll (ns.map PyData.int) = ns.map fun n => (toString n : Str)
  | [] => by simp [PyData.shownAll]
  | n :: r => by
    simp only [List.map_cons, PyData.shownAll, PyData.shown, shown_ints r]
end Ph

namespace Ph
open PySem PySem.Spec PyProof.Rows L2
/-! ### data that repr can show -/
structure Rp (d : PyData) : Prop where
  sh : d.showable = true
  nd : d.hasDict = false
  dp : d.depth ≤ 60
  ln : d.shown.length ≤ sizeLine
/-- short leaves, no dict -/
structure Sho (d : PyData) (n k : Nat) : Prop where
  sh : d.showable = true
  nd : d.hasDict = false
  dp : d.depth ≤ n
  lv : d.leavesShort 24 = true
  wt : d.weight ≤ k
structure ShoAll (ds : List PyData) (n k : Nat) : Prop where
  sh : PyData.showableAll ds = true
  nd : PyData.hasDictAll ds = false
  dp : PyData.depthAll ds ≤ n
  lv : PyData.leavesShortAll 24 ds = true
  wt : PyData.weightAll ds ≤ k
theorem Sho.rp {d : PyData} {n k : Nat} (s : Sho d n k) (hn : n ≤ 60) (hk : k ≤ 600000) : Rp d := by
  refine ⟨s.sh, s.nd, Nat.le_trans s.dp hn, ?_⟩
  have h := PyData.shown_le 24 (by decide) d s.lv
  have h2 := s.wt
  have h3 : sizeLine = 16777216 := by decide
  omega
theorem sho_int {i : Int} (h : i.natAbs < 10 ^ 20) : Sho (.int i) 0 67 := by
  have hl : i.natAbs.log2 < 67 := by
    by_cases z : i.natAbs = 0
    · rw [z]; decide
    · exact (Nat.log2_lt z).mpr (Nat.lt_of_lt_of_le h (by decide))
  refine ⟨?_, by simp only [PyData.hasDict], by simp only [PyData.depth]; omega, ?_, ?_⟩
  · simp only [PyData.showable, decide_eq_true_eq]
    omega
  · have e := int_text_length_le10 (a := i) (k := 20) (by decide) h
    have e2 : (PyData.shown (.int i)).length ≤ 24 := by
      show (Str.ofString (toString i)).length ≤ 24
      rw [PySem.ofString_length]
      omega
    simp only [PyData.leavesShort]
    exact decide_eq_true e2
  · simp only [PyData.weight]
    split <;> omega
theorem ShoAll.nil (n k : Nat) : ShoAll [] n k := ⟨by simp only [PyData.showableAll], by simp only [PyData.hasDictAll], by simp only [PyData.depthAll]; omega, by simp only [PyData.leavesShortAll], by simp only [PyData.weightAll]; omega⟩
theorem ShoAll.cons {d : PyData} {ds : List PyData} {n k m : Nat} (s : Sho d n k) (r : ShoAll ds n m) : ShoAll (d :: ds) n (k + 1 + m) := by
  refine ⟨by simp only [PyData.showableAll, s.sh, r.sh, Bool.and_self], by simp only [PyData.hasDictAll, s.nd, r.nd, Bool.or_self], ?_, by simp only [PyData.leavesShortAll, s.lv, r.lv, Bool.and_self], ?_⟩
  · have h1 := s.dp
    have h2 := r.dp
    simp only [PyData.depthAll]
    omega
  · have h1 := s.wt
    have h2 := r.wt
    simp only [PyData.weightAll]
    omega
theorem ShoAll.of {ds : List PyData} {n k : Nat} (h : ∀ d ∈ ds, Sho d n k) : ShoAll ds n ((k + 1) * ds.length) := by
  induction ds with
  | nil => exact .nil _ _
  | cons d r ih =>
    have s := ShoAll.cons (h d (List.mem_cons_self ..)) (ih fun x hx => h x (List.mem_cons_of_mem _ hx))
    rw [List.length_cons, Nat.mul_add, Nat.mul_one, Nat.add_comm]
    exact s
theorem ShoAll.tuple {ds : List PyData} {n k : Nat} (s : ShoAll ds n k) : Sho (.tuple ds) (n + 1) k :=
  ⟨by simp only [PyData.showable]; exact s.sh, by simp only [PyData.hasDict]; exact s.nd, by have := s.dp; simp only [PyData.depth]; omega, by simp only [PyData.leavesShort]; exact s.lv, by simp only [PyData.weight]; exact s.wt⟩
theorem ShoAll.list {ds : List PyData} {n k : Nat} (s : ShoAll ds n k) : Sho (.list ds) (n + 1) k :=
  ⟨by simp only [PyData.showable]; exact s.sh, by simp only [PyData.hasDict]; exact s.nd, by have := s.dp; simp only [PyData.depth]; omega, by simp only [PyData.leavesShort]; exact s.lv, by simp only [PyData.weight]; exact s.wt⟩
theorem sho_ints {ns : List Int} (h : ∀ n ∈ ns, n.natAbs < 10 ^ 20) : ShoAll (ns.map PyData.int) 0 (68 * ns.length) := by
  have := ShoAll.of (ds := ns.map PyData.int) (n := 0) (k := 67) fun d hd => by
    obtain ⟨i, hi, rfl⟩ := List.mem_map.mp hd
    exact sho_int (h i hi)
  rwa [List.length_map] at this
theorem rp_tupI {ns : List Int} (h : ∀ n ∈ ns, n.natAbs < 10 ^ 20) (hl : ns.length ≤ 8000) : Rp (.tuple (ns.map PyData.int)) := (sho_ints h).tuple.rp (by omega) (by omega)
theorem rp_lstI {ns : List Int} (h : ∀ n ∈ ns, n.natAbs < 10 ^ 20) (hl : ns.length ≤ 8000) : Rp (.list (ns.map PyData.int)) := (sho_ints h).list.rp (by omega) (by omega)
theorem sho_bk {b : Int × Int} (h1 : b.1.natAbs < 10 ^ 20) (h2 : b.2.natAbs < 10 ^ 20) : Sho (bD b) 1 136 := (sho_ints (ns := [b.1, b.2]) (fun n hn => by
  rcases List.mem_cons.mp hn with e | e
  · rw [e]; exact h1
  · rw [List.mem_singleton.mp e]; exact h2)).tuple
theorem rp_st {bs : List (Int × Int)} (h : ∀ b ∈ bs, b.1.natAbs < 10 ^ 20 ∧ b.2.natAbs < 10 ^ 20) (hl : bs.length ≤ 4000) : Rp (.tuple (bs.map bD)) := by
  have := ShoAll.of (ds := bs.map bD) (n := 1) (k := 136) fun d hd => by
    obtain ⟨b, hb, rfl⟩ := List.mem_map.mp hd
    exact sho_bk (h b hb).1 (h b hb).2
  rw [List.length_map] at this
  exact this.tuple.rp (by omega) (by omega)
section
variable {X : Cx}
/-- repr(e) of such data -/
def rRp (K : PySem.W.Frag) : List V → Hp → VK → Prop := fun xs H Q => ∃ (a : Addr) (d : PyData), xs = [.ref a] ∧ Dp K H (.ref a) d ∧ Rp d ∧ Q (.str d.shown) H
theorem call_rp (hgu : X.A.guards = some []) (hu : X.A.units + 64 < cLine) : CallR X (.builtin "repr") (rRp X.K) := by
  intro pins s σ H xs us Q I r h
  obtain ⟨a, d, e, dp, rp, q⟩ := h
  exact call_reprD hgu hu pins s σ H xs us Q I r ⟨a, d, e, dp, rp.sh, rp.nd, rp.dp, rp.ln, q⟩
end
end Ph

namespace Ph
open PySem PySem.Spec PyProof.Rows L2
/-! ### tuples of ints and states as data -/
theorem il_lay : ∀ ns : List Int, PyData.canLayAll0 (ns.map PyData.int) = true
  | [] => by simp [PyData.canLayAll0]
  | z :: zs => by simp [PyData.canLayAll0, PyData.canLay0, il_lay zs]
theorem il_depth : ∀ zs : List Int, PyData.depthAll (zs.map PyData.int) ≤ 1
  | [] => by simp [PyData.depthAll]
  | z :: zs => by
    have h1 := il_depth zs
    simp only [List.map_cons, PyData.depthAll, PyData.depth]
    omega
theorem tl_shaped (zs : List Int) : SeqAt.shaped (.tuple (zs.map PyData.int)) = true := by
  have h1 := il_depth zs
  have h2 : PyData.depth (.tuple (zs.map PyData.int)) ≤ 64 := by simp only [PyData.depth]; omega
  have h3 : PyData.canLay0 (.tuple (zs.map PyData.int)) = true := by simp only [PyData.canLay0]; exact il_lay zs
  show (PyData.canLay0 (.tuple (zs.map PyData.int)) && decide (PyData.depth (.tuple (zs.map PyData.int)) ≤ 64)) = true
  rw [h3, decide_eq_true h2]
  rfl
theorem il_shaped (zs : List Int) : SeqAt.shaped (.list (zs.map PyData.int)) = true := by
  have h1 := il_depth zs
  have h2 : PyData.depth (.list (zs.map PyData.int)) ≤ 64 := by simp only [PyData.depth]; omega
  have h3 : PyData.canLay0 (.list (zs.map PyData.int)) = true := by simp only [PyData.canLay0]; exact il_lay zs
  show (PyData.canLay0 (.list (zs.map PyData.int)) && decide (PyData.depth (.list (zs.map PyData.int)) ≤ 64)) = true
  rw [h3, decide_eq_true h2]
  rfl
theorem il_all (zs : List Int) : PyData.eqvAll (zs.map PyData.int) (zs.map PyData.int) = true := by
  induction zs with
  | nil => simp [PyData.eqvAll]
  | cons z zs ih => simp [PyData.eqvAll, ih, PyData.eqv]
theorem tl_eqv (zs : List Int) : PyData.eqv (.tuple (zs.map PyData.int)) (.tuple (zs.map PyData.int)) = true := by
  simp only [PyData.eqv]
  exact il_all zs
theorem il_eqv (zs : List Int) : PyData.eqv (.list (zs.map PyData.int)) (.list (zs.map PyData.int)) = true := by
  simp only [PyData.eqv]
  exact il_all zs
theorem BL.dp {K : PySem.W.Frag} {H : Hp} : ∀ {xs : List V} {bs : List Bk}, BL H xs bs → DpAll K H xs (bs.map bD)
  | _, _, .nil => .nil
  | _, _, .cons ⟨t, e1, e2⟩ r => by
    rw [List.map_cons]
    refine .cons ?_ (BL.dp r)
    rw [e1]
    exact .tup (.inl (.inl e2)) (.cons (.int _) (.cons (.int _) .nil))
theorem StAt.dp {K : PySem.W.Frag} {H : Hp} {t : Addr} {bs : List Bk} (h : StAt H t bs) : Dp K H (.ref t) (.tuple (bs.map bD)) := by
  obtain ⟨xs, e, bl⟩ := h
  exact .tup (.inl (.inl e)) bl.dp
theorem SqT.dp {K : PySem.W.Frag} {H : Hp} {t : Addr} {ns : List Int} (h : SqT K H t (ns.map V.int)) : Dp K H (.ref t) (.tuple (ns.map PyData.int)) := .tup h (dpI ns)
theorem BL.app {H : Hp} : ∀ {xs ys : List V} {bs cs : List Bk}, BL H xs bs → BL H ys cs → BL H (xs ++ ys) (bs ++ cs)
  | _, _, _, _, .nil, h => h
  | _, _, _, _, .cons h r, k => .cons h (BL.app r k)
theorem u64_of {A : Around} {k : Nat} (hr : Room k A) : A.units + 64 < cLine := by have := hr.un; omega
theorem perm_sorted : ∀ {l m : List Int}, m.Perm l → l.Pairwise (· ≤ ·) → m.Pairwise (· ≤ ·) → m = l := fun {l m} p h1 h2 => p.eq_of_pairwise (fun a b _ _ x y => Int.le_antisymm x y) h2 h1
theorem tl_pair {s : Nat → Nat} {m : Nat} (h : ∀ i, i + 1 < m → s i ≤ s (i + 1)) : (tl s m).Pairwise (· ≤ ·) := by
  induction m with
  | zero => exact List.Pairwise.nil
  | succ m ih =>
    rw [tl_succ, List.pairwise_append]
    refine ⟨ih fun i hi => h i (by omega), List.pairwise_singleton _ _, fun a ha b hb => ?_⟩
    obtain ⟨i, hi, rfl⟩ := tl_mem.mp ha
    rw [List.mem_singleton.mp hb]
    have : ∀ d i, i + d = m → s i ≤ s m := by
      intro d
      induction d with
      | zero => intro i e; rw [← e]; exact Nat.le_refl _
      | succ d ihd => intro i e; exact Nat.le_trans (h i (by omega)) (ihd (i + 1) (by omega))
    have := this (m - i) i (by omega)
    omega
/-- how far the bounds reach at the most -/
theorem BD.ub {s b : Nat → Nat} {m M : Nat} (c : CH s m) (B : BD s b m M) {S : Nat} (hS : ∀ j, j < m → s j ≤ S) : ∀ i, i < m → b i ≤ (i + 1) * M + i * S
  | 0, h => by rw [B.b0]; omega
  | i + 1, h => by
    have ih := BD.ub c B hS i (by omega)
    have p := c.pos h
    have h1 := cdw_lt (x := b i) p
    have h2 := Nat.div_mul_le_self (M - Lw s b (s (i + 1)) (i + 1)) (s (i + 1))
    have h3 := hS _ h
    rw [B.bs i h, Nat.mul_add]
    rw [Nat.mul_comm] at h1 h2
    have e1 : (i + 1 + 1) * M = (i + 1) * M + M := by rw [Nat.add_mul, Nat.one_mul]
    have e2 : (i + 1) * S = i * S + S := by rw [Nat.add_mul, Nat.one_mul]
    rw [e1, e2]
    omega
end Ph

namespace Ph
open PySem PySem.Spec PyProof.Rows L2
section
variable {P : Program} {w : World} {A : Around} {E : Value → Shared → Prop} {s : Shared}
/-- the items of a tuple, laid into a list first -/
theorem collect_tup {a : Addr} {us : List Value} {Q : List Value → Shared → Prop} (ht : s.heap.IsTuple a us.toArray) (few : us.length ≤ sizeLine)
    (q : ∀ g, (∀ b o, s.heap.get? b = some o → g.get? b = some o) → s.heap.objs.size ≤ g.objs.size → Q us { s with heap := g }) :
    wpAny (model P w) A (collect (.ref a)) Q E s := by
  obtain ⟨o, ho, hc, n, hd⟩ := id ht
  have at0 : (s.heap.push (seqObj "list" #[] 0)).get? s.heap.objs.size = some (seqObj "list" #[] 0) := Heap.get?_push_size _ rfl
  have at1 : (s.heap.push (seqObj "list" #[] 0)).get? a = some o := Heap.get?_push_of_some _ ho
  unfold collect
  refine wpAny_bind (wpAny_runValue (codeAny_builtin entry_proto_collect' ?_))
  show wpAny _ _ (do again (.builtin "list.__iadd__" ⟨[← newList [], .ref a], []⟩)) _ _ s
  refine wpAny_bind (wpAny_newList (wpAny_pure ⟨Code.quiet_builtin _ (by decide +kernel), codeAny_builtin entry_list_iadd' ?_⟩))
  show wpAny _ _ (Builtin.List.listExtendWith (.ref s.heap.objs.size) (.ref a) (.ref s.heap.objs.size)) _ _ { s with heap := s.heap.push (seqObj "list" #[] 0) }
  unfold Builtin.List.listExtendWith
  refine wpAny_bind (wpAny_typeOf (T := "tuple") ⟨o, at1, hc⟩ ?_)
  have same : (Value.type "tuple" == Value.type "tuple") = true := by rfl
  rw [if_pos (by rw [same]; simp)]
  refine wpAny_bind (listItems_at at1 hd ?_)
  refine wpAny_bind (listItems_at (xs := #[]) (n := 0) at0 rfl ?_)
  rw [if_neg (by simp)]
  refine wpAny_bind (listUpdate_at (xs := #[]) (n := 0) at0 rfl ?_ (Nat.zero_le _) (by show (#[] ++ us.toArray).size ≤ sizeLine + 1; simp only [Array.size_append, List.size_toArray, List.length_nil]; omega))
  refine wpAny_pure ?_
  refine wpAny_bind (m := load s.heap.objs.size) (wpAny_load (get?_update_seq at0 _) ?_)
  have e : ((#[] : Array Value) ++ us.toArray).toList = us := by simp
  show wpAny _ _ (pure ((#[] : Array Value) ++ us.toArray).toList) Q E _
  rw [e]
  refine wpAny_pure (q _ (fun b u hb => ?_) ?_)
  · have lt := Heap.lt_size hb
    rw [Heap.get?_update_ne _ _ _ _ (Nat.ne_of_lt lt)]
    exact Heap.get?_push_of_some _ hb
  · rw [Heap.size_update, size_push']
    exact Nat.le_succ _
theorem sorted_of_tup {a : Addr} {us : List Value} {is : List Int} {Q : Value → Shared → Prop} (ht : s.heap.IsTuple a us.toArray) (few : us.length ≤ sizeLine) (hI : IntsAre us is)
    (q : ∀ g p (out : Array Value) (c : Nat) (ns : List Int), (∀ b u, s.heap.get? b = some u → g.get? b = some u) → s.heap.objs.size ≤ p → g.get? p = some (seqObj "list" out c) → IntsAre out.toList ns → ns.Perm is → ns.Pairwise (· ≤ ·) → Q (.ref p) { s with heap := g }) :
    wpAny (model P w) A (call (.builtin "sorted") [.ref a]) Q E s := by
  refine Calls.call_function_entry kind_sorted plain_sorted entry_sorted (args_sorted1 _) ?_; unfold Builtin.«sorted»
  refine wpAny_bind (m := checkCount "sorted" 1 1 _) (wpAny_pure (wpAny_bind (collect_tup ht few fun g keep hz => ?_)))
  refine wpAny_bind (wpAny_newList ?_ few)
  have at1 : (g.push (seqObj "list" us.toArray 0)).get? g.objs.size = some (seqObj "list" us.toArray 0) := Heap.get?_push_size _ rfl
  refine wpAny_bind (wpAny_holding (wpAny_call_entry slot_list_sort ⟨_, at1, rfl⟩ entry_list_sort (SrtO.list_sort_ord SrtO.swo_int at1 few (fun h2 => SrtO.ints_sortable hI h2) fun out b1 b2 => ⟨_, rfl, ?_⟩) (args_list_sort _)))
  obtain ⟨k2, k3, k4⟩ := SrtO.ints_out hI b1 b2
  obtain ⟨c, hc⟩ := sortedHeap_at (vs := us) (out := out.toArray) at1
  refine wpAny_pure ⟨_, rfl, q _ g.objs.size out.toArray c (out.map SrtO.iv) (fun b u e => ?_) hz hc (by simpa using k2) k3 k4⟩
  have z := keep b u e
  have lt := Heap.lt_size z
  show (sortedHeap (g.push (seqObj "list" us.toArray 0)) g.objs.size us out.toArray).get? b = some u
  rw [sortedHeap_old (Nat.ne_of_lt lt) (by rw [size_push']; exact Nat.lt_succ_of_lt lt)]
  exact Heap.get?_push_of_some _ z
end
section
variable {X : Cx}
def rSortedTI (K : PySem.W.Frag) : List V → Hp → VK → Prop := fun vs H Q => ∃ (a : Addr) (ns : List Int), vs = [V.ref a] ∧ SqT K H a (ns.map V.int) ∧ ∀ (ms : List Int) (p : Addr), ms.Perm ns → ms.Pairwise (· ≤ ·) → H p = none → Q (.ref p) (upd H p (.lst (ms.map V.int)))
theorem cr_sortedTI : CallR X (.builtin "sorted") (rSortedTI X.K) := by
  intro pins s σ H vs us Q I r h
  obtain ⟨a, ns, rfl, hs, q⟩ := h
  obtain ⟨its, rv, hl, hz⟩ := I.tuple hs
  rw [Vals.ref1 r]
  have hi := rv.ints
  have few : its.length ≤ sizeLine := by rw [← rv.length]; exact hz
  refine sorted_of_tup hl few hi fun g p out c ms keep hp hg hm pm2 srt => ?_
  have len : (ms.map V.int).length ≤ sizeLine := by rw [List.length_map, pm2.length_eq, ← List.length_map (f := V.int)]; exact hz
  exact ⟨.ref p, upd H p (.lst (ms.map V.int)), I.laid (t' := s.toks) keep hp ⟨len, out.toList, c, vals_of_ints hm, hg⟩, rfl, q ms p pm2 srt (I.hok.fresh hp)⟩
end
end Ph

namespace Ph
open PySem PySem.Spec PyProof.Rows L2
/-! ### the end of a law whose promise asks for empty guards -/
section
variable {P : Program} {w : World} {K : PySem.W.Frag} {mg mb : Str → Option Value} {k : Nat} {fa a : Addr} {fd : FuncData} {x : Str} {sp : Sp} {s₁ : Shared} {vs : List Value} {ns : List Int}
abbrev LawEnd (s₁ : Shared) : Result → Shared → Prop := fun r s' => r = .ok (.ret (.bool true)) ∧ OldK s₁.heap s'.heap ∧ s'.os = s₁.os ∧ AllBare s'.gens
theorem end_core (KX : K.In s₁.heap) (hns : s₁.heap.Ns mainGlobals mg) (hb : s₁.heap.Ns builtinsNs mb) (hbb : ∀ z : Str, z ≠ "__name__" → mb z = bootBuiltins z) (lim : s₁.heap.NoLimit) (gens : s₁.gens = #[])
    (isList : ∃ o, s₁.heap.get? a = some o ∧ ∀ es ep, o.data ≠ .dict es ep) (room : Room k callerA) (F : ∀ base : Heap, K.In base → base.Ns mainGlobals mg → FnG P w K mg base CX0 k fa fd [x] sp) (bnd : ∀ (s : Shared) (u : Value), BindsTo s fd ⟨[u], []⟩ [(x, u)])
    (H : Hp) (alone : ∀ b o, H b = some o → b = a ∧ ∃ ob zs, o = .frz ob (.lst zs)) (ok : HOk P w H s₁.heap) (free : H a ≠ none → K.lookup a = none) (want : sp [.ref a] H (fun v _ => v = .bl true) fun _ _ _ => False) :
    codeAny (model P w) callerA (.call (.ref fa) ⟨[.ref a], []⟩) (LawEnd s₁) s₁ := by
  obtain ⟨oa, ha, noD⟩ := isList
  have none_of : ∀ {b : Addr}, b ≠ a → H b = none := fun {b} nb => by
    cases z : H b with
    | none => rfl
    | some o => exact absurd (alone b o z).1 nb
  have dictFree : ∀ {b : Addr} {o : Obj} {es : Array DictEntry} {ep : Nat}, s₁.heap.get? b = some o → o.data = .dict es ep → H b = none := fun {b o es ep} g d => none_of fun z => by
    subst z
    rw [ha] at g
    cases g
    exact noD es ep d
  have ns2 : ∀ {b : Addr} {m : Str → Option Value}, s₁.heap.Ns b m → (hidT s₁.heap H).Ns b m := fun ⟨o, es, ep, g, d, rest⟩ => ⟨o, es, ep, hidT_get g (dictFree g d), d, rest⟩
  have kin : K.In (hidT s₁.heap H) := fun b o g => hidT_get (KX b o g) (by
    cases z : H b with
    | none => rfl
    | some u =>
      have e1 := (alone b u z).1
      subst e1
      rw [free (by rw [z]; exact fun q => nomatch q)] at g
      cases g)
  have modu : Mod K mg (hidT s₁.heap H) := ⟨kin, ns2 hns, ⟨mb, ns2 hb, hbb⟩, let ⟨mc, z1, z2⟩ := lim; ⟨mc, ns2 z1, z2⟩⟩
  have env : Env0 P w K mg (hidT s₁.heap H) callerA [] s₁ H := ⟨rfl, modu, fun b o g => of_hidT g, Nat.le_of_eq (hidT_size _ _), trivial, fun b hb => (List.not_mem_nil hb).elim, ok, .of_eq gens⟩
  refine codeAny_mono ((F _ kin (ns2 hns)).go callerA [] s₁ H ⟨[.ref a], []⟩ [.ref a] [.ref a] _ _ rfl room env (bnd s₁ (.ref a)) (.cons rfl .nil) want) fun r s2 out => ?_
  match r, out with
  | .error _, out => exact out.elim
  | .ok (.ret u), ⟨v, H', os, bare, un, ok2, rel, good⟩ =>
    have good' : v = .bl true := good
    subst good'
    obtain rfl : u = Value.bool true := rel
    refine ⟨rfl, OldK.of_keep fun b o g => ?_, os, bare⟩
    cases z : H b with
    | none => exact un.keep b o g z (fun q => (List.not_mem_nil q).elim) (by simp)
    | some u =>
      obtain ⟨_, ob, zs, rfl⟩ := alone b u z
      obtain ⟨e1, _⟩ := ok b _ z
      obtain ⟨e2, _⟩ := ok2 b _ (un.frzs b ob _ z)
      rw [g] at e1
      cases e1
      exact e2
theorem end_call (KX : K.In s₁.heap) (hns : s₁.heap.Ns mainGlobals mg) (hb : s₁.heap.Ns builtinsNs mb) (hbb : ∀ z : Str, z ≠ "__name__" → mb z = bootBuiltins z) (lim : s₁.heap.NoLimit) (gens : s₁.gens = #[])
    (ha : s₁.heap.get? a = some { cls := .type "list", data := .seq vs.toArray }) (hi : IntsAre vs ns) (hl : ns.length ≤ sizeLine) (room : Room k callerA) (F : ∀ base : Heap, K.In base → base.Ns mainGlobals mg → FnG P w K mg base CX0 k fa fd [x] sp) (bnd : ∀ (s : Shared) (u : Value), BindsTo s fd ⟨[u], []⟩ [(x, u)])
    (want : ∀ H : Hp, SqL K H a (ns.map V.int) → sp [.ref a] H (fun v _ => v = .bl true) fun _ _ _ => False) :
    codeAny (model P w) callerA (.call (.ref fa) ⟨[.ref a], []⟩) (LawEnd s₁) s₁ := by
  have isL : ∃ o, s₁.heap.get? a = some o ∧ ∀ es ep, o.data ≠ .dict es ep := ⟨_, ha, fun _ _ z => nomatch z⟩
  cases lk : K.lookup a with
  | some o =>
    have g := KX a o lk
    rw [ha] at g
    cases g
    refine end_core KX hns hb hbb lim gens isL room F bnd (fun _ => none) (fun b o z => nomatch z) (fun b u z => nomatch z) (fun z => (z rfl).elim) (want _ (.inr ⟨_, vs.toArray, _, lk, rfl, rfl, rfl, by rw [List.size_toArray, hi.length]; exact hl, by simpa using vals_ints hi⟩))
  | none =>
    refine end_core KX hns hb hbb lim gens isL room F bnd (fun b => if b = a then some (.frz { cls := .type "list", data := .seq vs.toArray } (.lst (ns.map V.int))) else none) (fun b o z => ?_) (fun b u z => ?_) (fun _ => lk) (want _ (.inl (.inr ⟨_, if_pos rfl⟩)))
    · by_cases e : b = a
      · have z' := (if_pos e).symm.trans z
        cases z'
        exact ⟨e, _, _, rfl⟩
      · exact nomatch (if_neg e).symm.trans z
    · by_cases e : b = a
      · have z' := (if_pos e).symm.trans z
        cases z'
        subst e
        exact ⟨ha, by rw [List.length_map]; exact hl, vs, _, vals_ints hi, ha⟩
      · exact nomatch (if_neg e).symm.trans z
end
theorem walkG {l : PySem.W.OpenLaw} {n k : Nat} {q : Program} {loose : List Str} {XP : (Str → Option Value) → Heap → Prop} {YP : World → Heap → Prop} {d : DefRec} {K : Params → PySem.W.Frag} {sp : World → Sp} {x : Str}
    (hn : l.most = some n) (hn2 : n ≤ sizeLine) (hdf : d.params.defaults = []) (room : Room k callerA) (hY : ∀ (w : World) (h : Heap), YP w h → (K w.params).In h)
    (F : ∀ (w : World) (mg : Str → Option Value) (fa : Addr) (h : Heap), (K w.params).In h → h.Ns mainGlobals mg → mg d.name = some (.ref fa) →
      ∃ fd : FuncData, (∀ (s : Shared) (u : Value), BindsTo s fd ⟨[u], []⟩ [(x, u)]) ∧ ∀ base : Heap, (K w.params).In base → base.Ns mainGlobals mg → FnG l.prog w (K w.params) mg base CX0 k fa fd [x] (sp w))
    (want : ∀ (w : World) (H : Hp) (a : Addr) (ns : List Int), ns.length ≤ n → SqL (K w.params) H a (ns.map V.int) → sp w [.ref a] H (fun v _ => v = .bl true) fun _ _ _ => False) :
    PySem.W.WalkO q loose XP YP l.row.toRowW d [] (fun f vs => PySem.call f vs) := by
  refine Att.attach_call hn hdf fun w s₀ s₁ mg mb fa o pm cd doc a vs ns G Y ho hd hcd hmg hobj hints hlen hg => ?_
  obtain ⟨fd, bnd, hF⟩ := F w mg fa _ (hY w _ Y) G.T.g hmg
  exact end_call (hY w _ Y) G.T.g G.T.b G.T.builtins G.T.nolimit hg hobj hints (Nat.le_trans hlen hn2) room hF bnd fun H hS => want w H a ns hlen hS
end Ph

namespace Ph
open PySem PySem.Spec PyProof.Rows L2
section
variable {X : Cx}
/-! ### powers of wide numbers; an item of a list or a tuple -/
def CPowW (i j : Int) : Prop := 0 ≤ j ∧ (Builtin.Int.intBits i : Int) * j ≤ 2 ^ 27
theorem op_powW : OpR X (binaryOp .Pow) (rI CPowW fun i j => .int (i ^ j.toNat)) := opI fun _ _ _ _ _ _ _ hc q => pow_int hc.1 hc.2 q
def rIxA (K : PySem.W.Frag) : V → V → Hp → VK → Prop := fun x y H Q => rIxL K x y H Q ∨ rIxT K x y H Q
theorem ix_any : IxR X (rIxA X.K) := by
  intro ea eb pins s σ H x y v u Q I rx ry h hs
  rcases h with h | h
  · exact ix_list ea eb pins s σ H x y v u Q I rx ry h hs
  · exact ix_tup ea eb pins s σ H x y v u Q I rx ry h hs
end
theorem join {R G : Hp → Prop} {C : Prop} (m : (∀ Hx, R Hx → G Hx) → C) (k : ∀ Hx, R Hx → G Hx) : C := m k
/-! ### draws: digits, a mixed number, a count -/
structure DrV (c : Nat) (g r n : Int) : Prop where
  g0 : 0 ≤ g
  g1 : g.natAbs < 2 ^ 3000
  r0 : 0 ≤ r
  r1 : r < 2305843009213693921
  n0 : 0 ≤ n
  n1 : n ≤ c
def Dr (c : Nat) (H : Hp) (p : Addr) : Prop := ∃ g r n : Int, H p = some (.lst [.int g, .int r, .int n]) ∧ DrV c g r n
theorem Dr.up {c d : Nat} {H : Hp} {p : Addr} (h : Dr c H p) (le : c ≤ d) : Dr d H p := by
  obtain ⟨g, r, n, e, v⟩ := h
  exact ⟨g, r, n, e, v.g0, v.g1, v.r0, v.r1, v.n0, by have := v.n1; omega⟩
theorem Dr.same {c : Nat} {H H' : Hp} {p : Addr} (P : Dr c H p) (s : Same H H') : Dr c H' p := by
  obtain ⟨g, r, n, h, v⟩ := P
  exact ⟨g, r, n, s _ _ h, v⟩
theorem Dr.ne_none {c : Nat} {H : Hp} {p q : Addr} (P : Dr c H p) (h : H q = none) : p ≠ q := by
  obtain ⟨g, r, n, e, v⟩ := P
  exact ne_of_none e h
theorem Dr.netup {c : Nat} {H : Hp} {p t : Addr} {xs : List V} (P : Dr c H p) (e : H t = some (.tup xs)) : t ≠ p := fun z => by
  obtain ⟨g, r, n, e0, _⟩ := P
  rw [z, e0] at e
  cases e
theorem Dr.nefrz {c : Nat} {H : Hp} {p t : Addr} {ob : Obj} {u : HO} (P : Dr c H p) (e : H t = some (.frz ob u)) : t ≠ p := fun z => by
  obtain ⟨g, r, n, e0, _⟩ := P
  rw [z, e0] at e
  cases e
theorem Dr.keep {c : Nat} {H : Hp} {p o : Addr} {u : HO} (P : Dr c H p) (n : p ≠ o) : Dr c (upd H o u) p := by
  obtain ⟨g, r, k, e0, v⟩ := P
  exact ⟨g, r, k, by rw [upd_ne n]; exact e0, v⟩
def TAt (H : Hp) (c : Addr) (C : List Int) : Prop := H c = some (.tup (C.map V.int)) ∨ ChAt H c C
theorem TAt.sq {K : PySem.W.Frag} {H : Hp} {c : Addr} {C : List Int} (h : TAt H c C) : SqT K H c (C.map V.int) := by
  rcases h with h | h
  · exact .inl (.inl h)
  · exact h.sq
theorem TAt.same {H H' : Hp} {c : Addr} {C : List Int} (h : TAt H c C) (s : Same H H') : TAt H' c C := by
  rcases h with h | h
  · exact .inl (s _ _ h)
  · exact .inr (h.keep s)
theorem TAt.butD {k : Nat} {p : Addr} {H H' : Hp} {c : Addr} {C : List Int} (h : TAt H c C) (b : But p H H') (P : Dr k H p) : TAt H' c C := by
  rcases h with h | ⟨o, d, e⟩
  · exact .inl (b _ _ (P.netup h) h)
  · exact .inr ⟨o, d, b _ _ (P.nefrz e) e⟩
/-- a chain of p + 1 sizes, each one at least twice the one before, none above m -/
structure Cn (s : Nat → Nat) (p m : Nat) : Prop where
  ch : CH s (p + 1)
  two : ∀ i, i < p → ∃ r, 2 ≤ r ∧ r ≤ 1000 ∧ s (i + 1) = s i * r
  top : s p ≤ m
inductive Gnk (m : Int) : List Int → Int → Prop
  | one : Gnk m [1] 1
  | step {ns : List Int} {x r : Int} : Gnk m ns x → 2 ≤ r → r ≤ 1000 → x * r ≤ m → Gnk m (ns ++ [x * r]) (x * r)
theorem Gnk.pos {m x : Int} {ns : List Int} (h : Gnk m ns x) : 1 ≤ x := by
  induction h with
  | one => decide
  | step h h1 h2 h3 ih =>
    have := Int.mul_le_mul ih h1 (by decide) (by omega)
    omega
theorem Gnk.last {m x : Int} {ns : List Int} (h : Gnk m ns x) : ∃ r, ns = r ++ [x] := by
  cases h with
  | one => exact ⟨[], rfl⟩
  | step h h1 h2 h3 => exact ⟨_, rfl⟩
theorem Gnk.le {m x : Int} {ns : List Int} (h : Gnk m ns x) (hm : 1 ≤ m) : x ≤ m := by
  cases h with
  | one => exact hm
  | step h h1 h2 h3 => exact h3
theorem Gnk.cn {m x : Int} {ns : List Int} (h : Gnk m ns x) (hm : 1 ≤ m) : ∃ s p, ns = tl s (p + 1) ∧ x = ((s p : Nat) : Int) ∧ Cn s p m.toNat := by
  induction h with
  | one => exact ⟨fun _ => 1, 0, rfl, rfl, ⟨rfl, fun i hi => absurd hi (by omega)⟩, fun i hi => absurd hi (by omega), by show 1 ≤ _; omega⟩
  | step h h1 h2 h3 ih =>
    rename_i ns x r
    obtain ⟨s, p, e1, e2, c⟩ := ih
    obtain ⟨q, rfl⟩ : ∃ q : Nat, r = q := ⟨r.toNat, by omega⟩
    have lo : ∀ i, i ≤ p → (if i ≤ p then s i else s p * q) = s i := fun i hi => if_pos hi
    have top : (if p + 1 ≤ p then s (p + 1) else s p * q) = s p * q := if_neg (by omega)
    have st : ∀ i, i < p + 1 → ∃ r, 2 ≤ r ∧ r ≤ 1000 ∧ (fun i => if i ≤ p then s i else s p * q) (i + 1) = (fun i => if i ≤ p then s i else s p * q) i * r := fun i hi => by
      rcases Nat.lt_or_ge i p with z | z
      · obtain ⟨r, a1, a2, a3⟩ := c.two i z
        refine ⟨r, a1, a2, ?_⟩
        dsimp only
        rw [lo i (by omega), lo (i + 1) (by omega)]
        exact a3
      · have : i = p := by omega
        subst this
        refine ⟨q, by omega, by omega, ?_⟩
        dsimp only
        rw [lo i (Nat.le_refl _), top]
    refine ⟨fun i => if i ≤ p then s i else s p * q, p + 1, ?_, ?_, ⟨?_, fun i hi => ?_⟩, st, ?_⟩
    · rw [tl_succ, top, e1, e2]
      congr 1
      exact tl_congr fun i hi => (lo i (by omega)).symm
    · show _ = ((if p + 1 ≤ p then s (p + 1) else s p * q : Nat) : Int)
      rw [top, e2]
      push_cast
      rfl
    · show (if 0 ≤ p then s 0 else _) = 1
      rw [if_pos (Nat.zero_le _)]
      exact c.ch.s0
    · obtain ⟨r, a1, _, a3⟩ := st i (by omega)
      exact ⟨r, by omega, a3⟩
    · show (if p + 1 ≤ p then s (p + 1) else s p * q) ≤ _
      rw [top]
      rw [e2] at h3
      have : ((s p * q : Nat) : Int) ≤ m := by push_cast; exact h3
      omega
section
variable {X : Cx}
theorem cutv_map {C : List Int} {lo hi : Option Int} : ∃ D : List Int, D.map V.int = cutV (C.map V.int) lo hi ∧ D.length ≤ C.length := by
  unfold cutV
  refine ⟨_, by rw [← List.map_drop, ← List.map_take], ?_⟩
  rw [List.length_take, List.length_drop]
  omega
theorem map_int_inj {C D : List Int} (h : C.map V.int = D.map V.int) : C = D := by
  have := congrArg (List.map iV) h
  rw [List.map_map, List.map_map] at this
  have e : iV ∘ V.int = id := by funext x; rfl
  rw [e, List.map_id, List.map_id] at this
  exact this
def rSlJ : V → Option Int → Option Int → Hp → VK → Prop := fun x lo hi H Q => ∃ a C, x = .ref a ∧ TAt H a C ∧ ∀ q H' D, Same H H' → D.map V.int = cutV (C.map V.int) lo hi → TAt H' q D → Q (.ref q) H'
theorem sl_tupJ : SlR X rSlJ := by
  intro pins s σ H x v vl vu lo hi sl Q I rx hs pl pu h
  obtain ⟨a, C, rfl, hx, q⟩ := h
  obtain ⟨D, eD, _⟩ := cutv_map (C := C) (lo := lo) (hi := hi)
  exact sl_tupA pins s σ H _ v vl vu lo hi sl Q I rx hs pl pu ⟨a, _, rfl, hx.sq, fun hw => q a H C (Same.refl H) (cutv_whole hw).symm hx, fun _ p np => q p _ D (same_upd np) eD (.inl (by rw [upd_same, eD]))⟩
def rCatJ : V → V → Hp → VK → Prop := fun x y H Q => ∃ a b C D, x = .ref a ∧ y = .ref b ∧ TAt H a C ∧ TAt H b D ∧ C.length + D.length ≤ sizeLine ∧ ∀ q H', Same H H' → TAt H' q (C ++ D) → Q (.ref q) H'
theorem op_catJ : OpR X (binaryOp .Add) rCatJ := by
  intro pins s σ H x y v u Q I rx ry h
  obtain ⟨a, b, C, D, rfl, rfl, ha, hb, hz, q⟩ := h
  refine op_catA pins s σ H _ _ v u Q I rx ry ⟨a, b, _, _, rfl, rfl, ha.sq, hb.sq, by rw [List.length_map, List.length_map]; exact hz, fun e => ?_, fun _ e => ?_, fun _ _ p np => q p _ (same_upd np) (.inl (by rw [upd_same, List.map_append]))⟩
  · rw [List.map_eq_nil_iff.mp e] at q
    exact q b H (Same.refl H) hb
  · rw [List.map_eq_nil_iff.mp e, List.append_nil] at q
    exact q a H (Same.refl H) ha
end
theorem cut_first {s : Nat → Nat} {n : Nat} : cutV ((tl s (n + 1)).map V.int) none (some 1) = [V.int ((s 0 : Nat) : Int)] := by
  have e : (tl s (n + 1)).map V.int = V.int ((s 0 : Nat) : Int) :: (tl (fun i => s (i + 1)) n).map V.int := by
    unfold tl
    rw [List.range_succ_eq_map]
    simp [Function.comp_def]
  rw [e]
  unfold cutV HT.sIx
  simp [tl_len]
theorem cut_lastp {s : Nat → Nat} {n : Nat} : cutV ((tl s (n + 1)).map V.int) (some (-1)) none = [V.int ((s n : Nat) : Int)] := by
  have l : ((tl s (n + 1)).map V.int).length = n + 1 := by rw [List.length_map, tl_len]
  have i1 : HT.sIx ((tl s (n + 1)).map V.int).length 0 (some (-1)) = n := by
    rw [l]
    unfold HT.sIx
    simp
    try omega
  have i2 : HT.sIx ((tl s (n + 1)).map V.int).length ((tl s (n + 1)).map V.int).length none = n + 1 := by rw [l]; rfl
  unfold cutV
  rw [i1, i2, tl_succ, List.map_append, List.drop_left' (by rw [List.length_map, tl_len])]
  simp
theorem cut_mid {s : Nat → Nat} {n : Nat} : cutV ((tl s (n + 1 + 1)).map V.int) (some 1) (some (-1)) = (tl (fun i => s (i + 1)) n).map V.int := by
  have l : ((tl s (n + 1 + 1)).map V.int).length = n + 1 + 1 := by rw [List.length_map, tl_len]
  have i1 : HT.sIx ((tl s (n + 1 + 1)).map V.int).length 0 (some 1) = 1 := by
    rw [l]
    unfold HT.sIx
    simp
  have i2 : HT.sIx ((tl s (n + 1 + 1)).map V.int).length ((tl s (n + 1 + 1)).map V.int).length (some (-1)) = n + 1 := by
    rw [l]
    unfold HT.sIx
    simp
    try omega
  unfold cutV
  rw [i1, i2, tl_succ]
  have e : (tl s (n + 1)).map V.int = V.int ((s 0 : Nat) : Int) :: (tl (fun i => s (i + 1)) n).map V.int := by
    unfold tl
    rw [List.range_succ_eq_map]
    simp [Function.comp_def]
  rw [List.map_append, e]
  simp
  rw [List.take_left' (by rw [List.length_map, tl_len])]
end Ph

namespace Ph
open PySem PySem.Spec PyProof.Rows L2
/-! ### the third pot: digits, a mixed number, a count -/
structure PoV (g r n : Int) : Prop where
  g0 : 0 ≤ g
  g1 : g.natAbs < 2 ^ 3000
  r0 : 0 ≤ r
  r1 : r < 2305843009213693951
  n0 : 0 ≤ n
def Po (H : Hp) (p : Addr) : Prop := ∃ g r n : Int, H p = some (.lst [.int g, .int r, .int n]) ∧ PoV g r n
theorem Po.same {H H' : Hp} {p : Addr} (P : Po H p) (s : Same H H') : Po H' p := by
  obtain ⟨g, r, n, h, v⟩ := P
  exact ⟨g, r, n, s _ _ h, v⟩
theorem Po.ne_none {H : Hp} {p q : Addr} (P : Po H p) (h : H q = none) : p ≠ q := by
  obtain ⟨g, r, n, e, v⟩ := P
  exact ne_of_none e h
theorem Po.netup {H : Hp} {p t : Addr} {xs : List V} (P : Po H p) (e : H t = some (.tup xs)) : t ≠ p := fun z => by
  obtain ⟨g, r, n, e0, _⟩ := P
  rw [z, e0] at e
  cases e
theorem Po.nefrz {H : Hp} {p t : Addr} {ob : Obj} {u : HO} (P : Po H p) (e : H t = some (.frz ob u)) : t ≠ p := fun z => by
  obtain ⟨g, r, n, e0, _⟩ := P
  rw [z, e0] at e
  cases e
theorem Po.keep {H : Hp} {p o : Addr} {u : HO} (P : Po H p) (n : p ≠ o) : Po (upd H o u) p := by
  obtain ⟨g, r, k, e0, v⟩ := P
  exact ⟨g, r, k, by rw [upd_ne n]; exact e0, v⟩
theorem TAt.butP {p : Addr} {H H' : Hp} {c : Addr} {C : List Int} (h : TAt H c C) (b : But p H H') (P : Po H p) : TAt H' c C := by
  rcases h with h | ⟨o, d, e⟩
  · exact .inl (b _ _ (P.netup h) h)
  · exact .inr ⟨o, d, b _ _ (P.nefrz e) e⟩
/-! ### max of a list of pairs of ints -/
section
variable {X : Cx}
def rMaxP (K : PySem.W.Frag) : List V → Hp → VK → Prop := fun vs H Q => ∃ (a : Addr) (xs : List V) (k : V → Int × Int), vs = [V.ref a] ∧ SqL K H a xs ∧ (∀ x ∈ xs, ∃ t, x = V.ref t ∧ H t = some (.tup [.int (k x).1, .int (k x).2])) ∧ 0 < xs.length ∧
  ∀ x ∈ xs, (∀ y ∈ xs, SrtO.lexB (k x) (k y) = false) → Q x H
theorem maxOf_spec : ∀ (x : Int × Int) (xs : List (Int × Int)), PySem.W.maxOf x xs ∈ x :: xs ∧ ∀ y ∈ x :: xs, SrtO.lexB (PySem.W.maxOf x xs) y = false
  | x, [] => ⟨List.mem_singleton.mpr rfl, fun y hy => by
      rw [List.mem_singleton.mp hy]
      exact SrtO.lexB_no.mpr (by show ¬ (x.1 < x.1 ∨ (x.1 = x.1 ∧ x.2 < x.2)); omega)⟩
  | x, z :: zs => by
    have e : PySem.W.maxOf x (z :: zs) = PySem.W.maxOf (if PySem.W.DatumOrd.lt x z = true then z else x) zs := rfl
    rw [e]
    have l : PySem.W.DatumOrd.lt x z = SrtO.lexB x z := rfl
    rw [l]
    by_cases c : SrtO.lexB x z = true
    · rw [if_pos c]
      obtain ⟨h1, h2⟩ := maxOf_spec z zs
      refine ⟨List.mem_cons_of_mem _ h1, fun y hy => ?_⟩
      rcases List.mem_cons.mp hy with r | r
      · rw [r]
        have a := SrtO.lexB_iff.mp c
        have b := SrtO.lexB_no.mp (h2 z (List.mem_cons_self ..))
        exact SrtO.lexB_no.mpr (by omega)
      · exact h2 y r
    · rw [if_neg c]
      obtain ⟨h1, h2⟩ := maxOf_spec x zs
      refine ⟨?_, fun y hy => ?_⟩
      · rcases List.mem_cons.mp h1 with r | r
        · rw [r]; exact List.mem_cons_self ..
        · exact List.mem_cons_of_mem _ (List.mem_cons_of_mem _ r)
      · rcases List.mem_cons.mp hy with r | r
        · rw [r]; exact h2 x (List.mem_cons_self ..)
        · rcases List.mem_cons.mp r with r | r
          · rw [r]
            have a := SrtO.lexB_no.mp (by simpa using c : SrtO.lexB x z = false)
            have b := SrtO.lexB_no.mp (h2 x (List.mem_cons_self ..))
            exact SrtO.lexB_no.mpr (by omega)
          · exact h2 y (List.mem_cons_of_mem _ r)
theorem dp_prs {K : PySem.W.Frag} {H : Hp} {k : V → Int × Int} : ∀ xs : List V, (∀ x ∈ xs, ∃ t, x = V.ref t ∧ H t = some (.tup [.int (k x).1, .int (k x).2])) → DpAll K H xs (xs.map fun x => bD (k x))
  | [], _ => .nil
  | x :: r, h => by
    obtain ⟨t, e, ht⟩ := h x (List.mem_cons_self ..)
    refine .cons ?_ (dp_prs r fun y hy => h y (List.mem_cons_of_mem _ hy))
    subst e
    exact .tup (.inl (.inl ht)) (.cons (.int _) (.cons (.int _) .nil))
theorem cr_maxP (hc : X.calm = true) (hu : X.A.units + 3 < cLine) : CallR X (.builtin "max") (rMaxP X.K) := by
  intro pins s σ H vs us Q I r h
  obtain ⟨a, xs, k, rfl, hs, hx, h0, q⟩ := h
  obtain ⟨its, rv, pl, hz⟩ := I.list hs
  rw [Vals.ref1 r]
  cases xs with
  | nil => exact absurd h0 (by decide)
  | cons x0 xr =>
    obtain ⟨as, rd⟩ := Dp.readsAll I _ _ its (dp_prs _ hx) rv
    have hd : PyData.depthAll ((x0 :: xr).map fun x => bD (k x)) ≤ 1 := by
      have := bDs_depth ((x0 :: xr).map k)
      rw [List.map_map] at this
      exact this
    have ha : PySem.W.AlikeAll ((x0 :: xr).map fun x => bD (k x)) := by
      have := PySem.W.alikeAll_datum ((x0 :: xr).map k)
      rw [List.map_map] at this
      exact this
    refine PySem.W.max_list_data (x := bD (k x0)) (xs := xr.map fun x => bD (k x)) (I.ok.hd hc) pl.isList (by simpa using rd) ha (by
      have e : PyData.depthAll (bD (k x0) :: xr.map fun x => bD (k x)) ≤ 1 := hd
      omega) (fun i v g tk bs hv rr kp => ?_)
    have em : PySem.W.maxD (bD (k x0)) (xr.map fun x => bD (k x)) = bD (PySem.W.maxOf (k x0) (xr.map k)) := by
      have := PySem.W.maxD_map (k x0) (xr.map k)
      rw [List.map_map] at this
      exact this
    rw [em] at rr
    obtain ⟨hm, hb⟩ := maxOf_spec (k x0) (xr.map k)
    have hv : its[i]? = some v := by simpa using hv
    obtain ⟨x, hxi, rx⟩ : ∃ x, (x0 :: xr)[i]? = some x ∧ RelV x v := by
      have hil : i < its.length := (List.getElem?_eq_some_iff.mp hv).1
      have hxl : i < (x0 :: xr).length := by rw [rv.length]; exact hil
      obtain ⟨u, e1, e2⟩ := rv.get (List.getElem?_eq_getElem hxl)
      rw [hv] at e1
      cases e1
      exact ⟨_, List.getElem?_eq_getElem hxl, e2⟩
    have mx := List.mem_of_getElem? hxi
    obtain ⟨t, et, ht⟩ := hx x mx
    have dx : Dp X.K H x (bD (k x)) := by
      subst et
      exact .tup (.inl (.inl ht)) (.cons (.int _) (.cons (.int _) .nil))
    obtain ⟨as2, r2⟩ := Dp.reads I _ _ _ dx rx
    have e := (Reads.unique (Reads.keeps kp r2) _ _ rr).1
    have e3 : k x = PySem.W.maxOf (k x0) (xr.map k) := by
      unfold bD at e
      injection e with e
      injection e with e1 e
      injection e with e2 e
      injection e1 with e1
      injection e2 with e2
      exact Prod.ext e1 e2
    refine ⟨x, H, I.kept kp, rx, q x mx fun y hy => ?_⟩
    rw [e3]
    refine hb (k y) ?_
    rcases List.mem_cons.mp hy with z | z
    · rw [z]; exact List.mem_cons_self ..
    · exact List.mem_cons_of_mem _ (List.mem_map.mpr ⟨y, z, rfl⟩)
end
end Ph

namespace Ph
open PySem PySem.Spec PyProof.Rows L2
theorem SqK.same {k : Bool} {K : PySem.W.Frag} {H H' : Hp} {a : Addr} {xs : List V} (h : SqK k K H a xs) (s : Same H H') : SqK k K H' a xs := by
  cases k
  · exact s.seq h
  · exact s.tup h
/-- a comprehension over zip of tuples and lists, in any mix -/
theorem lc_zkF {k1 k2 : Bool} {K : PySem.W.Frag} {a b : Addr} {xs ys : List V} {g : TG} {te : TE} {vs : List Nat} {σ : L2.St} {H1 : Hp} {D : Addr} {Qd : Hp → Prop} (n : Nat) (hn : n = min xs.length ys.length) (f : Nat → V) (ha : SqK k1 K H1 a xs) (hb : SqK k2 K H1 b ys) (nD : H1 D = none) (hlen : n < sizeLine)
    (hs : ∀ i x y T, i < n → xs[i]? = some x → ys[i]? = some y → ∀ H, Same H1 H → H T = none → ∀ Y : V → Hp → Prop, (∀ H', Same H H' → Y (f i) H') → g (.ref T) (wipe σ vs) (upd H T (.tup [x, y])) fun σ2 H2 => wipe σ2 vs = wipe σ vs ∧ te σ2 H2 Y)
    (hd : ∀ H, Same H1 H → H D = some (.lst ((List.range n).map f)) → Qd H) :
    ∃ W : Nat → Nat → Hp → Prop, (∃ m, W 0 m (upd H1 D (.lst []))) ∧ ∀ i m H, W i m H →
      ((ItzK k1 k2 K a b).stop i H ∧ Qd H) ∨ ((ItzK k1 k2 K a b).go i H ∧ ∃ Nx : Hp → Prop, (∀ H', Nx H' → ∃ m', m' < m ∧ W (i + 1) m' H') ∧ ∀ x H', (ItzK k1 k2 K a b).yld i H x H' → g x (wipe σ vs) H' fun σ2 H2 => wipe σ2 vs = wipe σ vs ∧ tYes σ2 H2 fun b H3 =>
        if b = true then te σ2 H3 fun y H4 => ∃ acc, H4 D = some (.lst acc) ∧ acc.length < sizeLine ∧ Nx (upd H4 D (.lst (acc ++ [y]))) else Nx H3) := by
  refine ⟨fun i m H => m = n - i ∧ i ≤ n ∧ Same H1 H ∧ H D = some (.lst ((List.range i).map f)), ⟨n, rfl, Nat.zero_le _, same_upd nD, upd_same⟩, ?_⟩
  rintro i m H ⟨rfl, hi, sm, hD⟩
  have qx := ha.same sm
  have qy := hb.same sm
  rcases Nat.lt_or_ge i n with lt | ge
  · have l1 : i < xs.length := by omega
    have l2 : i < ys.length := by omega
    refine .inr ⟨⟨xs, ys, _, _, qx, qy, List.getElem?_eq_getElem l1, List.getElem?_eq_getElem l2⟩, fun H' => Same H1 H' ∧ H' D = some (.lst ((List.range (i + 1)).map f)), fun H' p => ⟨n - (i + 1), by omega, rfl, lt, p⟩, fun v H' yl => ?_⟩
    obtain ⟨T, x, y, rfl, nT, rfl, f1, f2⟩ := yl
    refine hs i x y T lt (f1 xs qx) (f2 ys qy) H sm nT _ fun H4 s4 => ?_
    refine ⟨_, s4 _ _ hD, by rw [List.length_map, List.length_range]; omega, keepD nD (sm.trans s4), ?_⟩
    rw [upd_same, List.range_succ, List.map_append]
    rfl
  · have e : i = n := Nat.le_antisymm hi ge
    subst e
    exact .inl ⟨⟨xs, ys, qx, qy, by omega, by omega, by omega⟩, hd H sm hD⟩
end Ph

namespace Ph
open PySem PySem.Spec PyProof.Rows L2
/-! ### walks: zip of tuples and lists; comprehensions whose items are laid anew -/
theorem walk_zipK {k1 k2 : Bool} {K : PySem.W.Frag} {a b : Addr} {xs ys : List V} {n : Nat} (hn : n = min xs.length ys.length) : Walk (ItzK k1 k2 K a b) n (fun H => SqK k1 K H a xs ∧ SqK k2 K H b ys) (YPair (fun i => xs[i]?) (fun i => ys[i]?)) := by
  subst hn
  refine ⟨fun i _ hi q => ?_, fun _ q => ⟨xs, ys, q.1, q.2, by omega, by omega, by omega⟩, fun i H v H' _ q y => ?_⟩
  · have h1 : i < xs.length := by omega
    have h2 : i < ys.length := by omega
    exact ⟨xs, ys, xs[i], ys[i], q.1, q.2, by simp [h1], by simp [h2]⟩
  · obtain ⟨T, x, z, h1, h2, h3, h4, h5⟩ := y
    exact ⟨T, x, z, h1, h2, h3, h4 xs q.1, h5 ys q.2⟩
theorem walk_enumT {K : PySem.W.Frag} {a : Addr} {xs : List V} : Walk (Itt K a) xs.length (fun H => SqT K H a xs) (YAt xs) := walk_tup
theorem YPair.same {xs ys : Nat → Option V} {i : Nat} {H H' : Hp} {v : V} (h : YPair xs ys i H v H') : Same H H' := by
  obtain ⟨T, x, y, _, nT, e, _⟩ := h
  rw [e]
  exact same_upd nT
theorem YAt.same {xs : List V} {i : Nat} {H H' : Hp} {v : V} (h : YAt xs i H v H') : Same H H' := by
  rw [h.1]; exact Same.refl _
theorem YFn.same {f : Nat → V} {i : Nat} {H H' : Hp} {v : V} (h : YFn f i H v H') : Same H H' := by
  rw [h.1]; exact Same.refl _
theorem none_of_same {H H' : Hp} {D : Addr} (s : Same H H') (n : H' D = none) : H D = none := by
  cases e : H D with
  | none => rfl
  | some o => rw [s _ _ e] at n; cases n
theorem joinS {R G : L2.St → Hp → Prop} {C : Prop} (m : (∀ σ H, R σ H → G σ H) → C) (k : ∀ σ H, R σ H → G σ H) : C := m k
abbrev KpT (H H' : Hp) : Prop := ∀ v zs, H v = some (.tup zs) → H' v = some (.tup zs)
/-- a comprehension with a test; R tells of each item that stays, by its turn -/
theorem lc_RF {J : It} {n : Nat} {G : Hp → Prop} {Y : Nat → Hp → V → Hp → Prop} (w : Walk J n G Y) (hY : ∀ i H x H', Y i H x H' → Same H H') {g : TG} {tt : TT} {te : TE} {vs : List Nat} {σ : L2.St} {H1 : Hp} {D : Addr} {Qd : Hp → Prop}
    (p : Nat → Bool) (R : Hp → Nat → V → Prop) (mono : ∀ H H' i y, KpT H H' → R H i y → R H' i y) (nD : H1 D = none) (hlen : n < sizeLine) (hG : ∀ H, Same H1 H → G H)
    (hs : ∀ i x H H', i < n → Same H1 H → Y i H x H' → ∀ (Z : V → Hp → Prop) (N : Hp → Prop), (∀ y H4, Same H' H4 → p i = true → R H4 i y → Z y H4) → (∀ H4, Same H' H4 → p i = false → N H4) →
      g x (wipe σ vs) H' fun σ2 H2 => wipe σ2 vs = wipe σ vs ∧ tt σ2 H2 fun b H3 => if b = true then te σ2 H3 Z else N H3)
    (hd : ∀ H ys, Same H1 H → H D = some (.lst ys) → Paired (R H) ((List.range n).filter p) ys → Qd H) :
    ∃ W : Nat → Nat → Hp → Prop, (∃ m, W 0 m (upd H1 D (.lst []))) ∧ ∀ i m H, W i m H →
      (J.stop i H ∧ Qd H) ∨ (J.go i H ∧ ∃ Nx : Hp → Prop, (∀ H', Nx H' → ∃ m', m' < m ∧ W (i + 1) m' H') ∧ ∀ x H', J.yld i H x H' → g x (wipe σ vs) H' fun σ2 H2 => wipe σ2 vs = wipe σ vs ∧ tt σ2 H2 fun b H3 =>
        if b = true then te σ2 H3 fun y H4 => ∃ acc, H4 D = some (.lst acc) ∧ acc.length < sizeLine ∧ Nx (upd H4 D (.lst (acc ++ [y]))) else Nx H3) := by
  refine lc_it w (fun i H => Same H1 H ∧ ∃ ys, H D = some (.lst ys) ∧ Paired (R H) ((List.range i).filter p) ys) ⟨same_upd nD, [], upd_same, .nil⟩ (fun i H _ q => hG H q.1) (fun i x H H' hi q y => ?_) (fun H q => ?_)
  · obtain ⟨sm, ys, hD, pr⟩ := q
    have s' := hY _ _ _ _ y
    have hlen2 : ys.length < sizeLine := by
      have h1 := pr.length
      have h2 := List.length_filter_le p (List.range i)
      rw [List.length_range] at h2
      omega
    refine hs i x H H' hi sm y _ _ (fun y H4 s4 pi r4 => ?_) (fun H4 s4 pi => ?_)
    · have hD4 := s4 _ _ (s' _ _ hD)
      have tk : KpT H4 (upd H4 D (.lst (ys ++ [y]))) := fun v zs e => by
        rw [upd_ne (ne_of e hD4 (by intro z; cases z))]
        exact e
      refine ⟨ys, hD4, hlen2, fun b o e => ?_, ys ++ [y], upd_same, ?_⟩
      · rw [upd_ne (ne_of_none e nD)]
        exact s4 _ _ (s' _ _ (sm _ _ e))
      · rw [List.range_succ, List.filter_append, List.filter_cons_of_pos (by simpa using pi)]
        exact Paired.snoc (paired_imp (fun a b h => mono _ _ _ _ (fun v zs e => tk v zs (s4 _ _ (s' _ _ e))) h) pr) (mono _ _ _ _ tk r4)
    · refine ⟨(sm.trans s').trans s4, ys, s4 _ _ (s' _ _ hD), ?_⟩
      rw [List.range_succ, List.filter_append, List.filter_cons_of_neg (by simp [pi]), List.filter_nil, List.append_nil]
      exact paired_imp (fun a b h => mono _ _ _ _ (fun v zs e => s4 _ _ (s' _ _ e)) h) pr
  · obtain ⟨sm, ys, hD, pr⟩ := q
    exact hd H ys sm hD pr
theorem lc_R {J : It} {n : Nat} {G : Hp → Prop} {Y : Nat → Hp → V → Hp → Prop} (w : Walk J n G Y) (hY : ∀ i H x H', Y i H x H' → Same H H') {g : TG} {te : TE} {vs : List Nat} {σ : L2.St} {H1 : Hp} {D : Addr} {Qd : Hp → Prop}
    (R : Hp → Nat → V → Prop) (mono : ∀ H H' i y, KpT H H' → R H i y → R H' i y) (nD : H1 D = none) (hlen : n < sizeLine) (hG : ∀ H, Same H1 H → G H)
    (hs : ∀ i x H H', i < n → Same H1 H → Y i H x H' → ∀ (Z : V → Hp → Prop), (∀ y H4, Same H' H4 → R H4 i y → Z y H4) →
      g x (wipe σ vs) H' fun σ2 H2 => wipe σ2 vs = wipe σ vs ∧ te σ2 H2 Z)
    (hd : ∀ H ys, Same H1 H → H D = some (.lst ys) → Paired (R H) (List.range n) ys → Qd H) :
    ∃ W : Nat → Nat → Hp → Prop, (∃ m, W 0 m (upd H1 D (.lst []))) ∧ ∀ i m H, W i m H →
      (J.stop i H ∧ Qd H) ∨ (J.go i H ∧ ∃ Nx : Hp → Prop, (∀ H', Nx H' → ∃ m', m' < m ∧ W (i + 1) m' H') ∧ ∀ x H', J.yld i H x H' → g x (wipe σ vs) H' fun σ2 H2 => wipe σ2 vs = wipe σ vs ∧ tYes σ2 H2 fun b H3 =>
        if b = true then te σ2 H3 fun y H4 => ∃ acc, H4 D = some (.lst acc) ∧ acc.length < sizeLine ∧ Nx (upd H4 D (.lst (acc ++ [y]))) else Nx H3) :=
  lc_RF w hY (fun _ => true) R mono nD hlen hG (fun i x H H' hi sm y Z N hZ hN => hs i x H H' hi sm y Z fun y H4 s4 r => hZ y H4 s4 rfl r)
    (fun H ys sm hD pr => hd H ys sm hD (by
      have e : (List.range n).filter (fun _ => true) = List.range n := List.filter_eq_self.mpr fun _ _ => rfl
      rw [e] at pr
      exact pr))
theorem Paired.get {α β : Type} {F : α → β → Prop} : ∀ {l : List α} {m : List β} {i : Nat} {a : α}, Paired F l m → l[i]? = some a → ∃ b, m[i]? = some b ∧ F a b
  | _, _, _, _, .nil, h => by simp at h
  | _, _, 0, _, .cons x _, h => by simp at h; subst h; exact ⟨_, rfl, x⟩
  | _, _, i + 1, _, .cons _ r, h => by
    obtain ⟨b, e, f⟩ := Paired.get (i := i) r (by simpa using h)
    exact ⟨b, by simpa using e, f⟩
theorem Paired.get2 {α β : Type} {F : α → β → Prop} : ∀ {l : List α} {m : List β} {i : Nat} {b : β}, Paired F l m → m[i]? = some b → ∃ a, l[i]? = some a ∧ F a b
  | _, _, _, _, .nil, h => by simp at h
  | _, _, 0, _, .cons x _, h => by simp at h; subst h; exact ⟨_, rfl, x⟩
  | _, _, i + 1, _, .cons _ r, h => by
    obtain ⟨b, e, f⟩ := Paired.get2 (i := i) r (by simpa using h)
    exact ⟨b, by simpa using e, f⟩
/-- the items are a function of the turn -/
theorem paired_eq {α β : Type} {f : α → β} : ∀ {l : List α} {m : List β}, Paired (fun a b => b = f a) l m → m = l.map f
  | _, _, .nil => rfl
  | _, _, .cons h r => by rw [h, paired_eq r]; rfl
theorem SqT.butL {K : PySem.W.Frag} {H H' : Hp} {u D : Addr} {xs l : List V} (h : SqT K H u xs) (b : But D H H') (hD : H D = some (.lst l)) : SqT K H' u xs := by
  rcases h with (h | ⟨o, h⟩) | h
  · exact .inl (.inl (b _ _ (ne_of h hD (by intro z; cases z)) h))
  · exact .inl (.inr ⟨o, b _ _ (ne_of h hD (by intro z; cases z)) h⟩)
  · exact .inr h
/-- names of built-ins -/
structure Nm6 (K : PySem.W.Frag) (mg : Str → Option Value) : Prop where
  len : mg "len" = none
  abs : mg "abs" = none
  int : mg "int" = none
  range : mg "range" = none
  tuple : mg "tuple" = none
  max : mg "max" = none
  min : mg "min" = none
  repr : mg "repr" = none
  isinstance : mg "isinstance" = none
  bool : mg "bool" = none
  all : mg "all" = none
  any : mg "any" = none
  list : mg "list" = none
  dict : mg "dict" = none
  sorted : mg "sorted" = none
  set : mg "set" = none
  sum : mg "sum" = none
  zip : mg "zip" = none
  enumerate : mg "enumerate" = none
  reversed : mg "reversed" = none
  str : mg "str" = none
  dig : PySem.W.nsIn K cStatics "sys.int_max_str_digits" = some none
end Ph

namespace Ph
open PySem PySem.Spec PyProof.Rows L2
/-! ### loops that count up; any(ints) -/
theorem while_n {c : TT} {tb : TS} {D : Ends} {σ : L2.St} {H : Hp} (n : Nat) (Pv : Nat → L2.St → Hp → Prop) (h0 : Pv 0 σ H)
    (hs : ∀ i σ H, i ≤ n → Pv i σ H → c σ H fun b H1 => if b = true then ∃ N : L2.St → Hp → Prop, (∀ σ' H', N σ' H' → ∃ m', m' < n - i ∧ ∃ i', i' ≤ n ∧ m' = n - i' ∧ Pv i' σ' H') ∧ tb { D with nx := N, ct := N, bk := D.nx } σ H1 else D.nx σ H1) : tWhile c tb D σ H :=
  ⟨fun m σ H => ∃ i, i ≤ n ∧ m = n - i ∧ Pv i σ H, ⟨n - 0, 0, Nat.zero_le _, rfl, h0⟩, fun m σ H ⟨i, hi, e, p⟩ => e ▸ hs i σ H hi p⟩
theorem wn_next {n i : Nat} {Pv : Nat → L2.St → Hp → Prop} (h : i < n) : ∀ σ' H', Pv (i + 1) σ' H' → ∃ m', m' < n - i ∧ ∃ i', i' ≤ n ∧ m' = n - i' ∧ Pv i' σ' H' := fun σ' H' p => ⟨n - (i + 1), by omega, i + 1, by omega, rfl, p⟩
theorem ints_at {vs : List Value} {ns : List Int} (h : IntsAre vs ns) : ∀ {i : Nat} {v : Value}, vs[i]? = some v → ∃ t, v = .int (ns.getD i 0) t := by
  induction h with
  | nil => intro i v e; simp at e
  | cons n t h ih =>
    intro i v e
    cases i with
    | zero =>
      simp at e
      exact ⟨t, e.symm⟩
    | succ i =>
      simp at e
      obtain ⟨t', e'⟩ := ih e
      exact ⟨t', by rw [e']; simp⟩
theorem truth_ints {P : Program} {w : World} {A : Around} {ns : List Int} {vs : List Value} (h : IntsAre vs ns) :
    TruthOf P w A (fun i v => vs.toArray[i]? = some v) (fun i => (ns.getD i 0 != 0)) := fun i v s Q E hv hq => by
  have hv2 : vs[i]? = some v := by simpa using hv
  obtain ⟨t, rfl⟩ := ints_at h hv2
  exact PyProof.Rows.truthy_int hq
section
variable {X : Cx}
def rAnyI (K : PySem.W.Frag) : List V → Hp → VK → Prop := fun vs H Q => ∃ (a : Addr) (ns : List Int), vs = [V.ref a] ∧ SqL K H a (ns.map V.int) ∧ Q (.bl ((List.range ns.length).any fun i => (ns.getD i 0 != 0))) H
theorem cr_anyI (hc : X.calm = true) : CallR X (.builtin "any") (rAnyI X.K) := by
  intro pins s σ H vs us Q I r h
  obtain ⟨a, ns, rfl, hs, q⟩ := h
  obtain ⟨its, rv, hl, _⟩ := I.list hs
  rw [Vals.ref1 r]
  have hb := rv.ints
  have len : its.length = ns.length := by rw [← rv.length, List.length_map]
  refine call_any_walk (iter_any hl.isList fun s2 e2 st hne => ?_)
  subst e2
  refine ⟨_, _, _, _, _, _, _, rfl, Walks.list (A := X.A.in1) (I.ok.hd hc) _ a hne its.toArray, st, truth_ints hb, fun g tk hk => ?_⟩
  refine ⟨.bl _, H, I.kept fun b o eo => hk b o (fun hm => ?_) (Heap.get?_push_of_some _ eo), ?_, q⟩
  · rcases List.mem_cons.mp hm with e1 | hm
    · exact absurd (e1 ▸ Heap.lt_size eo) (Nat.lt_irrefl _)
    · cases hm
  · show Value.bool _ = Value.bool _
    rw [List.size_toArray, len]
end
end Ph

namespace Ph
open PySem PySem.Spec PyProof.Rows L2
section
variable {X : Cx}
/-! ### sum of a tuple of ints -/
def rSumT (K : PySem.W.Frag) : List V → Hp → VK → Prop := fun vs H Q => ∃ (a : Addr) (ns : List Int), vs = [V.ref a] ∧ SqT K H a (ns.map V.int) ∧ Q (.int ns.sum) H
theorem cr_sumT (hc : X.calm = true) : CallR X (.builtin "sum") (rSumT X.K) := by
  intro pins s σ H vs us Q I r h
  obtain ⟨a, ns, rfl, hs, q⟩ := h
  obtain ⟨its, rv, hl, _⟩ := I.tuple hs
  rw [Vals.ref1 r]
  have hi := rv.ints
  obtain ⟨xs, e⟩ := hi.allInts.items
  have hn : numsOf (intItems xs).toList = ns := by rw [← e]; exact hi.numsOf
  rw [nums_intItems] at hn
  rw [e] at hl
  refine PySem.W.ktm_sumG (I.ok.hd hc) hl fun h' tk t' hk => ?_
  refine ⟨.int _, H, I.kept hk, ⟨_, rfl⟩, ?_⟩
  have e2 : preSum (numAt xs) xs.size = ns.sum := by rw [preSum_eq, List.take_of_length_le (by simp), hn]
  rw [e2]
  exact q
theorem u3_of {A : Around} {k : Nat} (hr : Room k A) : A.units + 3 < cLine := by
  have := u64_of hr
  omega
end
end Ph

namespace Ph
open PySem PySem.Spec PyProof.Rows L2
/-! ### numbers begun with reaches: more reach, more words, never less -/
theorem ov_iff {s b : Nat → Nat} {i n M : Nat} (ht : 0 < s (i + 1)) (hm : ∀ j, j + 1 < i + 1 → b j ≤ b (j + 1)) :
    n ≤ cdw (b i) (s (i + 1)) + (M - Lw s b (s (i + 1)) (i + 1)) / s (i + 1) ↔ n ≤ cdw (b i) (s (i + 1)) ∨ sm (fun k => s (cls b (i + 1) (k * s (i + 1)))) n ≤ M := by
  have lw : Lw s b (s (i + 1)) (i + 1) = sm (fun k => s (cls b (i + 1) (k * s (i + 1)))) (cdw (b i) (s (i + 1))) := lw_sum (s := s) (b := b) ht hm (i + 1) (Nat.le_refl _)
  have mono : ∀ d j, j + d = i → b j ≤ b i := by
    intro d
    induction d with
    | zero => intro j e; have : j = i := by omega
              rw [this]; exact Nat.le_refl _
    | succ d ih => intro j e; exact Nat.le_trans (hm j (by omega)) (ih (j + 1) (by omega))
  have tail : ∀ n, cdw (b i) (s (i + 1)) ≤ n → sm (fun k => s (cls b (i + 1) (k * s (i + 1)))) n = Lw s b (s (i + 1)) (i + 1) + s (i + 1) * (n - cdw (b i) (s (i + 1))) := fun n hn => by
    rw [lw]
    refine sm_const hn fun k h1 _ => ?_
    have e : cls b (i + 1) (k * s (i + 1)) = i + 1 := by
      refine cls_eq (Nat.le_refl _) (fun j hj => ?_) (fun z => absurd z (by omega))
      have h3 : ¬ k * s (i + 1) < b i := fun z => by
        have := (lt_cdw ht).mpr z
        omega
      have := mono (i - j) j (by omega)
      omega
    rw [e]
  generalize cdw (b i) (s (i + 1)) = C at lw tail ⊢
  generalize Lw s b (s (i + 1)) (i + 1) = L at lw tail ⊢
  constructor
  · intro h
    rcases Nat.lt_or_ge C n with z | z
    · right
      rw [tail n (by omega)]
      have h1 : n - C ≤ (M - L) / s (i + 1) := by omega
      rw [Nat.le_div_iff_mul_le ht, Nat.mul_comm] at h1
      have h2 : s (i + 1) * 1 ≤ s (i + 1) * (n - C) := Nat.mul_le_mul_left _ (by omega)
      omega
    · exact .inl z
  · intro h
    rcases Nat.lt_or_ge C n with z | z
    · rcases h with h | h
      · omega
      · rw [tail n (by omega)] at h
        have h1 : n - C ≤ (M - L) / s (i + 1) := by
          rw [Nat.le_div_iff_mul_le ht, Nat.mul_comm]
          omega
        omega
    · exact Nat.le_trans z (Nat.le_add_right _ _)
theorem bfn_mono {s ρ ρ' : Nat → Nat} {m M M' : Nat} (c : CH s m) (hρ : ∀ i, i < m → ρ' i ≤ ρ i) (hM : M' ≤ M) : ∀ i, i < m → bfn s ρ' M' i ≤ bfn s ρ M i := by
  intro i
  induction i using Nat.strongRecOn with
  | ind i ih =>
    intro hi
    cases i with
    | zero =>
      rw [bfn_zero, bfn_zero]
      have := hρ 0 hi
      omega
    | succ i =>
      have ht := c.pos hi
      have up : ∀ (ρ : Nat → Nat) (M : Nat) j, j + 1 < i + 1 → bfn s ρ M j ≤ bfn s ρ M (j + 1) := fun ρ M j hj => bfn_up (c.pos (by omega))
      rw [bfn_succ, bfn_succ]
      have h1 : cdw (bfn s ρ' M' i) (s (i + 1)) + (M' - Lw s (bfn s ρ' M') (s (i + 1)) (i + 1)) / s (i + 1) ≤ cdw (bfn s ρ M i) (s (i + 1)) + (M - Lw s (bfn s ρ M) (s (i + 1)) (i + 1)) / s (i + 1) := by
        rw [ov_iff ht (up ρ M)]
        rcases (ov_iff (n := cdw (bfn s ρ' M' i) (s (i + 1)) + (M' - Lw s (bfn s ρ' M') (s (i + 1)) (i + 1)) / s (i + 1)) ht (up ρ' M')).mp (Nat.le_refl _) with z | z
        · exact .inl (Nat.le_trans z (cdw_mono (ih i (by omega) (by omega))))
        · refine .inr (Nat.le_trans (sm_le fun k _ => ?_) (Nat.le_trans z hM))
          refine c.mono (cls_anti fun j hj => ih j (by omega) (by omega)) ?_
          have := cls_le (bfn s ρ' M') (i + 1) (k * s (i + 1))
          omega
      have h2 := Nat.mul_le_mul_left (s (i + 1)) h1
      have h3 := hρ (i + 1) hi
      omega
theorem bfn_ge {s ρ : Nat → Nat} {M i : Nat} : ρ i ≤ bfn s ρ M i := by
  cases i with
  | zero => rw [bfn_zero]; exact Nat.le_max_right _ _
  | succ i => rw [bfn_succ]; exact Nat.le_max_left _ _
/-- how far the numbers can lie out -/
theorem bfn_ub {s ρ : Nat → Nat} {m M S R : Nat} (c : CH s m) (hS : ∀ j, j < m → s j ≤ S) (hR : ∀ j, j < m → ρ j ≤ R) : ∀ i, i < m → bfn s ρ M i ≤ (i + 1) * M + i * S + R
  | 0, h => by
    rw [bfn_zero]
    have := hR 0 h
    omega
  | i + 1, h => by
    have ih := bfn_ub (M := M) c hS hR i (by omega)
    have p := c.pos h
    have h1 := cdw_lt (x := bfn s ρ M i) p
    have h2 := Nat.div_mul_le_self (M - Lw s (bfn s ρ M) (s (i + 1)) (i + 1)) (s (i + 1))
    have h3 := hS _ h
    have h4 := hR _ h
    rw [bfn_succ, Nat.mul_add]
    rw [Nat.mul_comm] at h1 h2
    have e1 : (i + 1 + 1) * M = (i + 1) * M + M := by rw [Nat.add_mul, Nat.one_mul]
    have e2 : (i + 1) * S = i * S + S := by rw [Nat.add_mul, Nat.one_mul]
    rw [e1, e2]
    omega
end Ph

namespace Ph
open PySem PySem.Spec PyProof.Rows L2
section
variable {P : Program} {w : World} {A : Around} {E : Value → Shared → Prop} {s : Shared}
/-- sorted(tuple of pairs of ints) -/
theorem sorted_of_tupP {a : Addr} {us : List Value} {k : Value → Int × Int} {Q : Value → Shared → Prop} (ht : s.heap.IsTuple a us.toArray) (few : us.length ≤ sizeLine) (hp : ∀ v, v ∈ us → Srt.IsPair s.heap v (k v).1 (k v).2)
    (q : ∀ g p (out : List Value) (c : Nat), (∀ b u, s.heap.get? b = some u → g.get? b = some u) → s.heap.objs.size ≤ p → g.get? p = some (seqObj "list" out.toArray c) → SrtO.Srtd (fun v u => SrtO.lexB (k v) (k u)) out → SrtO.Stb (fun v u => SrtO.lexB (k v) (k u)) out us → Q (.ref p) { s with heap := g }) :
    wpAny (model P w) A (call (.builtin "sorted") [.ref a]) Q E s := by
  refine Calls.call_function_entry kind_sorted plain_sorted entry_sorted (args_sorted1 _) ?_; unfold Builtin.«sorted»
  refine wpAny_bind (m := checkCount "sorted" 1 1 _) (wpAny_pure (wpAny_bind (collect_tup ht few fun g keep hz => ?_)))
  refine wpAny_bind (wpAny_newList ?_ few)
  have at1 : (g.push (seqObj "list" us.toArray 0)).get? g.objs.size = some (seqObj "list" us.toArray 0) := Heap.get?_push_size _ rfl
  refine wpAny_bind (wpAny_holding (wpAny_call_entry slot_list_sort ⟨_, at1, rfl⟩ entry_list_sort (SrtO.list_sort_ord (SrtO.swo_lex k) at1 few (fun h2 => ?_) fun out b1 b2 => ⟨_, rfl, ?_⟩) (args_list_sort _)))
  · refine SrtO.pairs_sortableO (by omega) (fun v hv => (hp v hv).keeps fun b o e _ => Heap.get?_push_of_some _ (keep b o e)) fun o e => ?_
    have e2 : some o = some (seqObj "list" us.toArray 0) := e.symm.trans at1
    cases e2
    intro z
    exact absurd (Value.type.inj z) (by decide)
  · obtain ⟨c, hc⟩ := sortedHeap_at (vs := us) (out := out.toArray) at1
    refine wpAny_pure ⟨_, rfl, q _ g.objs.size out c (fun b u e => ?_) hz hc b1 b2⟩
    have z := keep b u e
    have lt := Heap.lt_size z
    show (sortedHeap (g.push (seqObj "list" us.toArray 0)) g.objs.size us out.toArray).get? b = some u
    rw [sortedHeap_old (Nat.ne_of_lt lt) (by rw [size_push']; exact Nat.lt_succ_of_lt lt)]
    exact Heap.get?_push_of_some _ z
end
section
variable {X : Cx}
def rSortedPT (K : PySem.W.Frag) : List V → Hp → VK → Prop := fun vs H Q => ∃ (a : Addr) (xs : List V) (k : V → Int × Int), vs = [V.ref a] ∧ SqT K H a xs ∧ (∀ x ∈ xs, ∃ t, x = V.ref t ∧ H t = some (.tup [.int (k x).1, .int (k x).2])) ∧
  ∀ ys p, SrtO.Srtd (ltP k) ys → SrtO.Stb (ltP k) ys xs → H p = none → Q (.ref p) (upd H p (.lst ys))
theorem cr_sortedPT : CallR X (.builtin "sorted") (rSortedPT X.K) := by
  intro pins s σ H vs us Q I r h
  obtain ⟨a, xs, k, rfl, hs, hx, q⟩ := h
  obtain ⟨its, rv, hl, hz⟩ := I.tuple hs
  rw [Vals.ref1 r]
  obtain ⟨e1, e2⟩ := refs_back rv fun x m => by
    obtain ⟨t, e, _⟩ := hx x m
    exact ⟨t, e⟩
  refine sorted_of_tupP (k := fun u => k (backV u)) hl (by rw [← rv.length]; exact hz) (fun v hv => ?_) fun g p out c keep hp hg h1 h2 => ?_
  · obtain ⟨t, rfl⟩ := e2 v hv
    have hm : V.ref t ∈ xs := by rw [e1]; exact List.mem_map.mpr ⟨_, hv, rfl⟩
    obtain ⟨t2, e, ht⟩ := hx _ hm
    cases e
    obtain ⟨_, its2, r2, o, ho, hc, n, hd⟩ := I.hok _ _ ht
    obtain ⟨u1, u2, rfl, ri, rj⟩ := vals2 r2
    obtain ⟨t1, rfl⟩ := ri
    obtain ⟨t3, rfl⟩ := rj
    exact ⟨t, o, t1, t3, n, rfl, ho, hc, hd⟩
  · have h3 : ∀ u ∈ out, ∃ a, u = Value.ref a := fun u hu => e2 u (h2.perm.mem_iff.mp hu)
    have hb : SrtO.Stb (ltP k) (out.map backV) xs := by
      rw [e1]
      exact SrtO.Stb.map (ltP_swo k) backV h2
    refine ⟨.ref p, upd H p (.lst (out.map backV)), I.laid (t' := s.toks) keep hp ⟨?_, out, c, vals_back h3, hg⟩, rfl, q _ p (SrtO.srtd_map h1) hb (I.hok.fresh hp)⟩
    rw [hb.len]
    exact hz
end
end Ph

namespace Ph
open PySem PySem.Spec PyProof.Rows L2
section
variable {P : Program} {w : World} {A : Around} {E : Value → Shared → Prop} {s : Shared} {T : String} {r d : Addr} {n : Nat} {Pv : Nat → Value → Prop} {OK : Heap → Prop}
/-- tuple(x), x walked as the library's source of a list -/
theorem code_tuple_src {Q₁ : Value → Shared → Prop} (S : PySem.W.KdlSrc P w T r d n Pv OK) (calm : A.handled = none) (ok : OK s.heap) (hn : n ≤ sizeLine) (nT : (Value.type T == Value.type "tuple") = false) (nL : (Value.type T == Value.type "list") = false)
    (q : ∀ (g : Heap) (tk : Nat) (acc : Array Value), (∀ b u, s.heap.get? b = some u → g.get? b = some u) → ItemsOf Pv acc n → Q₁ (.ref g.objs.size) { s with heap := g.push { cls := .type "tuple", data := .seq acc }, toks := tk }) :
    codeAny (model P w) A (.call (.builtin "tuple.__new__") ⟨[.type "tuple", .ref r], []⟩) (wants Q₁ E) s := by
  refine codeAny_of_tree ?_
  show wpAny (model P w) A.in1 (do checkBuiltinCall "tuple.__new__" ⟨[.type "tuple", .ref r], []⟩; again (.builtin "tuple.__new__" ⟨[.type "tuple", .ref r], []⟩)) _ _ s
  refine wpAny_bind (wpAny_of_eq (F.newCall_tuple_1 _) (wpAny_pure ⟨plainId_quiet F.plain_tuple_new _, codeAny_builtin F.entry_tuple_new ?_⟩)); rw [Around.under_plainId F.plain_tuple_new _]
  have y1 := sub_tuple_self
  have y2 := init_tuple_lookup
  have y3 := madeHere_tuple
  have ty := S.type _ ok
  have calm1 : A.in1.handled = none := calm
  wp_walk using wpAny_typeOf ty, PySem.W.kdu_collect (A := A.in1) S calm1 ok hn
  intro g tk acc k it
  show wpAny (model P w) _ (Builtin.Tuple.tupleExact acc.toList.toArray >>= fun v => ret v) _ _ _
  unfold Builtin.Tuple.tupleExact
  refine wpAny_bind (wpAny_newObj_type ?_ (by show acc.toList.toArray.size ≤ sizeLine; rw [Array.toArray_toList, it.1]; exact hn))
  rw [Array.toArray_toList]
  exact wpAny_pure (q g tk acc k it)
theorem call_tuple_src {Q : Value → Shared → Prop} (S : PySem.W.KdlSrc P w T r d n Pv OK) (calm : A.handled = none) (ok : OK s.heap) (hn : n ≤ sizeLine) (nT : (Value.type T == Value.type "tuple") = false) (nL : (Value.type T == Value.type "list") = false)
    (q : ∀ (g : Heap) (tk : Nat) (acc : Array Value), (∀ b u, s.heap.get? b = some u → g.get? b = some u) → ItemsOf Pv acc n → Q (.ref g.objs.size) { s with heap := g.push { cls := .type "tuple", data := .seq acc }, toks := tk }) :
    wpAny (model P w) A (call (.type "tuple") [.ref r]) Q E s := by
  refine callType_codes (Q₁ := fun z t => t.TypeIs z "tuple" ∧ Q z t) F.called_tuple (F.typeCall_tuple_1 _) F.entry_object_init (code_tuple_src (A := A.in1) S calm ok hn nT nL fun g tk acc k it => ⟨⟨_, Heap.get?_push_size _ rfl, rfl⟩, q g tk acc k it⟩) fun z t h => ?_
  exact ⟨h.1, F.args_object_init_2 z _, object_init_meets F.called_tuple.init.lookup F.called_tuple.made (by decide) P w A.in1 _ t ⟨h.1, rfl, h.2⟩⟩
end
section
variable {X : Cx} {o : Expr} {p pos apos mpos : Pos} {td : TE}
/-- tuple(d.values()) -/
def tTupVals (td : TE) : TE := fun σ H Q => td σ H fun x H1 => ∃ a kvs, x = V.ref a ∧ H1 a = some (.dK kvs) ∧ ∀ q, H1 q = none → Q (.ref q) (upd H1 q (.tup (kvs.map (·.2))))
theorem pe_tupVals (hc : X.calm = true) (hg : Gl X "tuple") (hm : X.mg "tuple" = none) (hd : PE X o td) (hbase : attributeBase o "values" X.env (eval o X.env) = eval o X.env := by rfl) (hline : (apos.endLine == mpos.line) = true := by rfl)
    (hse : starEach [Expr.Call (.Attribute o "values" apos) [] [] mpos] X.env = [(false, eval (Expr.Call (.Attribute o "values" apos) [] [] mpos) X.env)] := by rfl) :
    PE X (.Call (.Name "tuple" p) [.Call (.Attribute o "values" apos) [] [] mpos] [] pos) (tTupVals td) := by
  refine ⟨fun pins s σ H Q I h => ?_⟩
  refine Call_ (ld_blt I hg hm boot_tuple ?_)
  refine PyProof.Rows.callWith_type1 (PyProof.Rows.args_cons (wpAny_Call_method0_late hbase hline (thn (hd.run pins s σ H _ I h) fun v s1 ⟨x, H1, I1, r1, a, kvs, ex, ha, q⟩ => ?_)) hse) hse rfl
  subst ex
  obtain rfl : v = Value.ref a := r1
  obtain ⟨z, hsys, vs, rel, dof⟩ := dk_of I1.hok ha
  obtain ⟨ep, dat⟩ := dof.dictAt
  obtain ⟨ob, es, ho, ex, _⟩ := id dat
  refine ⟨"dict", "dict.values", F.plainAttrs_dict, F.slot_dict_values, F.type_dict_values, ⟨ob, ho, ex.1⟩, fun b e => by cases e; exact ⟨ob, ho, ex.2.1⟩, Calls.callWith_builtin rfl (PySem.evalArgs_none ?_)⟩
  refine call_meetsIn F.slot_dict_values ⟨ob, ho, ex.1⟩ F.entry_dict_values (F.args_dict_values_1 _) (meets_dict_values (mixKind X.prog X.w) a hsys) ⟨⟨vs, dof⟩, ?_⟩
  refine PyProof.Rows.args_nil ?_
  have lv : kvs.length = vs.length := KV.length rel
  refine call_tuple_src (PySem.W.kdl_values (knd := mixKind X.prog X.w) (kvs := vs) (ep := ep) (r := s1.heap.objs.size) (d := a)) (I.ok.hd hc) ⟨⟨_, Heap.get?_push_size _ rfl, rfl, rfl⟩, dat.keep fun b u e => Heap.get?_push_of_some _ e⟩ (by rw [← lv]; exact z) (by decide) (by decide) fun g tk acc k it => ?_
  have keep : ∀ b u, s1.heap.get? b = some u → (g.push { cls := .type "tuple", data := .seq acc }).get? b = some u := fun b u e => Heap.get?_push_of_some _ (k b u (Heap.get?_push_of_some _ e))
  have low : s1.heap.objs.size ≤ g.objs.size := by
    have := k s1.heap.objs.size _ (Heap.get?_push_size _ rfl)
    exact Nat.le_of_lt (Heap.lt_size this)
  have rv : Vals (kvs.map (·.2)) acc.toList := vals_of_at ((List.length_map _).trans (lv.trans (it.1.symm.trans Array.length_toList.symm))) fun j x u h1 h2 => by
    obtain ⟨kk, hk⟩ := it.2 j u (by rw [← Array.getElem?_toList]; exact h2)
    obtain ⟨x', h3, h4⟩ := KV.at' rel hk
    rw [List.getElem?_map, h3] at h1
    cases h1
    exact h4
  refine ⟨.ref _, upd H1 g.objs.size (.tup (kvs.map (·.2))), I1.laid (t' := tk) keep low ?_, rfl, q _ (I1.hok.fresh low)⟩
  exact ⟨by rw [List.length_map]; exact z, acc.toList, rv, ⟨_, Heap.get?_push_size _ rfl, rfl, 0, by rw [Array.toArray_toList]⟩⟩
end
end Ph

namespace Ph
open PySem PySem.Spec PyProof.Rows L2
theorem BL.get {H : Hp} : ∀ {xs : List V} {bs : List (Int × Int)} {i : Nat} {x : V}, BL H xs bs → xs[i]? = some x → ∃ b, bs[i]? = some b ∧ BkAt H x b
  | _, _, _, _, .nil, h => by simp at h
  | _, _, 0, _, .cons hb r, h => by
    have e := Option.some.inj h
    rw [← e]
    exact ⟨_, rfl, hb⟩
  | _ :: l1, _ :: l2, i + 1, x, .cons hb r, h => by
    have h' : l1[i]? = some x := h
    obtain ⟨b, e1, e2⟩ := BL.get (H := H) (xs := l1) (bs := l2) r h'
    exact ⟨b, e1, e2⟩
def ent (s : Int) (E : List Bk) (ys : List V) : List (Key × V) := List.zipWith (fun b y => (Sum.inl (b.1 / s), y)) E ys
theorem ent_snoc (s : Int) (E : List Bk) (ys : List V) (b : Bk) (y : V) (h : E.length = ys.length) : ent s (E ++ [b]) (ys ++ [y]) = ent s E ys ++ [(Sum.inl (b.1 / s), y)] := by
  unfold ent
  rw [List.zipWith_append h]
  rfl
theorem ent_snd (s : Int) : ∀ (E : List Bk) (ys : List V), E.length = ys.length → (ent s E ys).map (·.2) = ys
  | [], [], _ => rfl
  | _ :: E, y :: ys, h => by
    show y :: (ent s E ys).map (·.2) = y :: ys
    rw [ent_snd s E ys (by simpa using h)]
  | [], _ :: _, h => by simp at h
  | _ :: _, [], h => by simp at h
theorem ent_none (s q : Int) : ∀ (E : List Bk) (ys : List V), (∀ b ∈ E, b.1 / s ≠ q) → valV (ent s E ys) (Sum.inl q) = none
  | [], ys, _ => by cases ys <;> rfl
  | _ :: _, [], _ => rfl
  | b :: E, y :: ys, h => by
    have e : ent s (b :: E) (y :: ys) = (Sum.inl (b.1 / s), y) :: ent s E ys := rfl
    rw [e, valV_neg (fun z => h b (List.mem_cons_self ..) (Sum.inl.inj z))]
    exact ent_none s q E ys fun c hc => h c (List.mem_cons_of_mem _ hc)
theorem ent_len (s : Int) (E : List Bk) (ys : List V) : (ent s E ys).length ≤ E.length := by
  unfold ent
  rw [List.length_zipWith]
  omega
theorem put_snoc {kvs : List (Key × V)} {k : Key} {y v : V} (h : valV kvs k = none) : putK (kvs ++ [(k, y)]) k v = kvs ++ [(k, v)] := by
  have h1 : (kvs.any fun kv => decide (kv.1 = k)) = false := by
    rw [valV_any, h]
    rfl
  unfold putK
  rw [if_pos (by rw [List.any_append, h1]; simp), List.map_append]
  congr 1
  · have h2 := List.any_eq_false.mp h1
    conv => rhs; rw [← List.map_id kvs]
    refine List.map_congr_left fun kv hkv => ?_
    have h3 := h2 kv hkv
    rw [if_neg (by simpa using h3)]
    rfl
  · simp
theorem BL.snoc_inv {H : Hp} : ∀ {E0 : List Bk} {m : Bk} {ys : List V}, BL H ys (E0 ++ [m]) → ∃ ys0 y, ys = ys0 ++ [y] ∧ BL H ys0 E0 ∧ BkAt H y m
  | [], _, _, .cons h .nil => ⟨[], _, rfl, .nil, h⟩
  | _ :: _, _, _, .cons h r => by
    obtain ⟨ys0, y, e, b, k⟩ := BL.snoc_inv r
    exact ⟨_ :: ys0, y, by rw [e]; rfl, .cons h b, k⟩
section
variable {X : Cx} {o : Expr} {p pos apos mpos : Pos} {td : TE}
/-- list(d.values()) -/
def tLstVals (td : TE) : TE := fun σ H Q => td σ H fun x H1 => ∃ a kvs, x = V.ref a ∧ H1 a = some (.dK kvs) ∧ ∀ q, H1 q = none → Q (.ref q) (upd H1 q (.lst (kvs.map (·.2))))
theorem pe_lstVals (hc : X.calm = true) (hg : Gl X "list") (hm : X.mg "list" = none) (hd : PE X o td) (hbase : attributeBase o "values" X.env (eval o X.env) = eval o X.env := by rfl) (hline : (apos.endLine == mpos.line) = true := by rfl)
    (hse : starEach [Expr.Call (.Attribute o "values" apos) [] [] mpos] X.env = [(false, eval (Expr.Call (.Attribute o "values" apos) [] [] mpos) X.env)] := by rfl) :
    PE X (.Call (.Name "list" p) [.Call (.Attribute o "values" apos) [] [] mpos] [] pos) (tLstVals td) := by
  refine ⟨fun pins s σ H Q I h => ?_⟩
  refine Call_ (ld_blt I hg hm boot_list ?_)
  refine PyProof.Rows.callWith_type1 (PyProof.Rows.args_cons (wpAny_Call_method0_late hbase hline (thn (hd.run pins s σ H _ I h) fun v s1 ⟨x, H1, I1, r1, a, kvs, ex, ha, q⟩ => ?_)) hse) hse rfl
  subst ex
  obtain rfl : v = Value.ref a := r1
  obtain ⟨z, hsys, vs, rel, dof⟩ := dk_of I1.hok ha
  obtain ⟨ep, dat⟩ := dof.dictAt
  obtain ⟨ob, es, ho, ex, _⟩ := id dat
  refine ⟨"dict", "dict.values", F.plainAttrs_dict, F.slot_dict_values, F.type_dict_values, ⟨ob, ho, ex.1⟩, fun b e => by cases e; exact ⟨ob, ho, ex.2.1⟩, Calls.callWith_builtin rfl (PySem.evalArgs_none ?_)⟩
  refine call_meetsIn F.slot_dict_values ⟨ob, ho, ex.1⟩ F.entry_dict_values (F.args_dict_values_1 _) (meets_dict_values (mixKind X.prog X.w) a hsys) ⟨⟨vs, dof⟩, ?_⟩
  refine PyProof.Rows.args_nil ?_
  have lv : kvs.length = vs.length := KV.length rel
  refine PySem.W.kdl_call (PySem.W.kdl_values (knd := mixKind X.prog X.w) (kvs := vs) (ep := ep) (r := s1.heap.objs.size) (d := a)) (I.ok.hd hc) ⟨⟨_, Heap.get?_push_size _ rfl, rfl, rfl⟩, dat.keep fun b u e => Heap.get?_push_of_some _ e⟩ (by rw [← lv]; exact z) fun g tk acc cc k hob it => ?_
  have keep : ∀ b u, s1.heap.get? b = some u → g.get? b = some u := fun b u e => k b u (Heap.get?_push_of_some _ e)
  have rv : Vals (kvs.map (·.2)) acc.toList := vals_of_at ((List.length_map _).trans (lv.trans (it.1.symm.trans Array.length_toList.symm))) fun j x u h1 h2 => by
    obtain ⟨kk, hk⟩ := it.2 j u (by rw [← Array.getElem?_toList]; exact h2)
    obtain ⟨x', h3, h4⟩ := KV.at' rel hk
    rw [List.getElem?_map, h3] at h1
    cases h1
    exact h4
  have low : s1.heap.objs.size ≤ (s1.heap.push { cls := .type "dict_values", data := .fields #[.ref a] }).objs.size := by rw [size_push']; exact Nat.le_succ _
  refine ⟨.ref _, upd H1 _ (.lst (kvs.map (·.2))), I1.laid (t' := tk) keep low ⟨by rw [List.length_map]; exact z, acc.toList, cc, rv, ?_⟩, rfl, q _ (I1.hok.fresh low)⟩
  rw [Array.toArray_toList]
  exact hob

end
end Ph

namespace Ph
open PySem PySem.Spec PyProof.Rows L2
theorem BL.kp {H H' : Hp} {xs : List V} {bs : List Bk} (h : BL H xs bs) (kp : KpT H H') : BL H' xs bs := BL.mono kp h
theorem catSt {K : PySem.W.Frag} {H : Hp} {a b : Addr} {bs cs : List Bk} {Q : VK} (h1 : StAt H a bs) (h2 : StAt H b cs) (hl : bs.length + cs.length ≤ 10000) (q : ∀ H' p, Same H H' → StAt H' p (bs ++ cs) → Q (.ref p) H') : rCatA K (.ref a) (.ref b) H Q := by
  obtain ⟨xs, e1, b1⟩ := id h1
  obtain ⟨ys, e2, b2⟩ := id h2
  have l1 := b1.len
  have l2 := b2.len
  refine ⟨a, b, xs, ys, rfl, rfl, .inl (.inl e1), .inl (.inl e2), Nat.le_trans (show _ ≤ 10000 by omega) (by decide), fun z => ?_, fun _ z => ?_, fun _ _ p np => ?_⟩
  · have : bs = [] := by
      rw [z] at l1
      exact List.length_eq_zero_iff.mp l1.symm
    rw [this] at q
    exact q _ _ (Same.refl _) h2
  · have : cs = [] := by
      rw [z] at l2
      exact List.length_eq_zero_iff.mp l2.symm
    rw [this, List.append_nil] at q
    exact q _ _ (Same.refl _) h1
  · have s := same_upd (o := .tup (xs ++ ys)) np
    exact q _ _ s ⟨_, upd_same, (b1.app b2).mono fun t zs e => s _ _ e⟩
theorem perm_lex {l m : List Bk} (p : l.Perm m) (h1 : l.Pairwise fun x y => SrtO.lexB y x = false) (h2 : m.Pairwise fun x y => SrtO.lexB y x = false) : l = m :=
  p.eq_of_pairwise (fun a b _ _ x y => by
    have h3 := SrtO.lexB_no.mp x
    have h4 := SrtO.lexB_no.mp y
    exact Prod.ext (by omega) (by omega)) h1 h2
/-- blocks at 0, t, 2 t ..; the k-th has f k words -/
def bkl (t : Nat) (f : Nat → Nat) (n : Nat) : List Bk := (List.range n).map fun k => (((k * t : Nat) : Int), ((f k : Nat) : Int))
theorem bkl_succ (t : Nat) (f : Nat → Nat) (n : Nat) : bkl t f (n + 1) = bkl t f n ++ [(((n * t : Nat) : Int), ((f n : Nat) : Int))] := by
  unfold bkl
  rw [List.range_succ, List.map_append]
  rfl
theorem bkl_len (t : Nat) (f : Nat → Nat) (n : Nat) : (bkl t f n).length = n := by
  unfold bkl
  rw [List.length_map, List.length_range]
theorem bkl_get {t : Nat} {f : Nat → Nat} {n k : Nat} (h : k < n) : (bkl t f n)[k]? = some (((k * t : Nat) : Int), ((f k : Nat) : Int)) := by
  unfold bkl
  rw [List.getElem?_map, List.getElem?_range h]
  rfl
theorem bkl_mem {t : Nat} {f : Nat → Nat} {n : Nat} {b : Bk} : b ∈ bkl t f n ↔ ∃ k, k < n ∧ b = (((k * t : Nat) : Int), ((f k : Nat) : Int)) := by
  unfold bkl
  rw [List.mem_map]
  constructor
  · rintro ⟨k, hk, rfl⟩
    exact ⟨k, List.mem_range.mp hk, rfl⟩
  · rintro ⟨k, hk, rfl⟩
    exact ⟨k, List.mem_range.mpr hk, rfl⟩
theorem bkl_congr {t : Nat} {f g : Nat → Nat} {n : Nat} (h : ∀ k, k < n → f k = g k) : bkl t f n = bkl t g n := by
  unfold bkl
  refine List.map_congr_left fun k hk => ?_
  rw [h k (List.mem_range.mp hk)]
theorem bkl_sorted {t : Nat} (ht : 0 < t) (f : Nat → Nat) : ∀ n, (bkl t f n).Pairwise fun x y => SrtO.lexB y x = false
  | 0 => List.Pairwise.nil
  | n + 1 => by
    rw [bkl_succ, List.pairwise_append]
    refine ⟨bkl_sorted ht f n, List.pairwise_singleton _ _, fun a ha b hb => ?_⟩
    obtain ⟨k, hk, rfl⟩ := bkl_mem.mp ha
    rw [List.mem_singleton.mp hb]
    have : k * t < n * t := Nat.mul_lt_mul_of_pos_right hk ht
    exact SrtO.lexB_no.mpr (by dsimp only; omega)
theorem cdw_step {j r : Nat} (hr : 0 < r) : (j % r = 0 ∧ cdw j r = j / r ∧ cdw (j + 1) r = j / r + 1) ∨ (j % r ≠ 0 ∧ cdw j r = j / r + 1 ∧ cdw (j + 1) r = j / r + 1) := by
  have e : j = r * (j / r) + j % r := (Nat.div_add_mod j r).symm
  have m := Nat.mod_lt j hr
  generalize j / r = q at *
  generalize j % r = c at *
  subst e
  have h1 : ∀ x, x < r → cdw (r * q + 1 + x) r = q + 1 := fun x hx => by
    unfold cdw
    have : r * q + 1 + x + r - 1 = x + r * (q + 1) := by rw [Nat.mul_add, Nat.mul_one]; omega
    rw [this, Nat.add_mul_div_left _ _ hr, Nat.div_eq_of_lt hx]
    omega
  rcases Nat.eq_zero_or_pos c with z | z
  · subst z
    refine .inl ⟨rfl, ?_, ?_⟩
    · unfold cdw
      have : r * q + 0 + r - 1 = (r - 1) + r * q := by omega
      rw [this, Nat.add_mul_div_left _ _ hr, Nat.div_eq_of_lt (by omega)]
      omega
    · exact h1 0 hr
  · refine .inr ⟨by omega, ?_, ?_⟩
    · have := h1 (c - 1) (by omega)
      have e : r * q + 1 + (c - 1) = r * q + c := by omega
      rw [e] at this
      exact this
    · have := h1 c m
      have e : r * q + 1 + c = r * q + c + 1 := by omega
      rw [e] at this
      exact this
section
variable {X : Cx}
def rSetJ (K : PySem.W.Frag) (w : World) : List V → Hp → VK → Prop := fun vs H Q => ∃ (l : Addr) (ns : List Int), vs = [V.ref l] ∧ SqL K H l (ns.map V.int) ∧ ns.length + 1 < scanBound ∧ ∀ H' a c, Same H H' → H' a = some (SetO w a (fun j => decide (j ∈ ns)) c) → (ns.Nodup → c = ns.length) → Q (.ref a) H'
theorem cr_setJ (hc : X.calm = true) : CallR X (.type "set") (rSetJ X.K X.w) := fun pins s σ H vs us Q I r h => cr_setI hc pins s σ H vs us Q I r (by
  obtain ⟨l, ns, e, h1, h2, q⟩ := h
  exact ⟨l, ns, e, h1, h2, fun a c na hc => q _ a c (same_upd na) upd_same hc⟩)
end
theorem paired_mapL {α β γ : Type} {F : γ → β → Prop} {f : α → β} : ∀ {l : List α} {m : List γ}, Paired (fun a c => F c (f a)) l m → Paired F m (l.map f)
  | _, _, .nil => .nil
  | _, _, .cons h r => .cons h (paired_mapL r)
theorem inc_ext : ∀ {l m : List Int}, l.Pairwise (· < ·) → m.Pairwise (· < ·) → (∀ k, k ∈ l ↔ k ∈ m) → l = m
  | [], [], _, _, _ => rfl
  | [], y :: m, _, _, h => by have := (h y).mpr (List.mem_cons_self ..); cases this
  | x :: l, [], _, _, h => by have := (h x).mp (List.mem_cons_self ..); cases this
  | x :: l, y :: m, hl, hm, h => by
    obtain ⟨l1, l2⟩ := List.pairwise_cons.mp hl
    obtain ⟨m1, m2⟩ := List.pairwise_cons.mp hm
    have e : x = y := by
      have a := List.mem_cons.mp ((h x).mp (List.mem_cons_self ..))
      have b := List.mem_cons.mp ((h y).mpr (List.mem_cons_self ..))
      rcases a with a | a
      · exact a
      · rcases b with b | b
        · exact b.symm
        · have := m1 x a
          have := l1 y b
          omega
    subst e
    rw [inc_ext l2 m2 fun k => ?_]
    constructor
    · intro hk
      have := l1 k hk
      rcases List.mem_cons.mp ((h k).mp (List.mem_cons_of_mem _ hk)) with z | z
      · omega
      · exact z
    · intro hk
      have := m1 k hk
      rcases List.mem_cons.mp ((h k).mpr (List.mem_cons_of_mem _ hk)) with z | z
      · omega
      · exact z
end Ph

namespace Ph
open PySem PySem.Spec PyProof.Rows L2
/-! ### ranges with a step -/
def upS (x s : Int) : Int := -(-x / s) * s
theorem upS_ge {x s : Int} (hs : 0 < s) : x ≤ upS x s := by
  unfold upS
  have := Int.ediv_mul_le (-x) (b := s) (by omega)
  rw [Int.neg_mul]
  omega
theorem upS_lt {x s : Int} (hs : 0 < s) : upS x s < x + s := by
  unfold upS
  have := Int.lt_ediv_add_one_mul_self (-x) hs
  rw [Int.add_mul, Int.one_mul] at this
  rw [Int.neg_mul]
  omega
theorem upS_mod {x s : Int} : upS x s % s = 0 := by
  unfold upS
  exact Int.mul_emod_left _ _
/-- how many numbers a range gives -/
def rgN (i j c : Int) : Nat := (Builtin.Range.rangeSize i j c).toNat
theorem rgN_nonneg {i j c : Int} (hc : 0 < c) : 0 ≤ Builtin.Range.rangeSize i j c := by
  unfold Builtin.Range.rangeSize
  rw [if_pos hc]
  split
  · have : 0 ≤ (j - i - 1) / c := Int.ediv_nonneg (by omega) (by omega)
    omega
  · exact Int.le_refl _
theorem rgN_le {i j c : Int} (hc : 0 < c) : rgN i j c ≤ (j - i).toNat := by
  unfold rgN Builtin.Range.rangeSize
  rw [if_pos hc]
  split
  · have : (j - i - 1) / c ≤ j - i - 1 := Int.ediv_le_self _ (by omega)
    omega
  · simp
theorem rg3_inc {i c : Int} (hc : 0 < c) (n : Nat) : (rg3 i c n).Pairwise (· < ·) := by
  unfold rg3
  rw [List.pairwise_map]
  refine List.pairwise_lt_range.imp fun {a b} h => ?_
  have : (a : Int) * c < b * c := Int.mul_lt_mul_of_pos_right (by omega) hc
  omega
theorem mem_rg3 {i j c k : Int} (hc : 0 < c) : k ∈ rg3 i c (rgN i j c) ↔ i ≤ k ∧ k < j ∧ (k - i) % c = 0 := by
  have hn := rgN_nonneg (i := i) (j := j) hc
  unfold rg3
  rw [List.mem_map]
  constructor
  · rintro ⟨t, ht, rfl⟩
    have ht := List.mem_range.mp ht
    have t0 : 0 ≤ (t : Int) * c := Int.mul_nonneg (by omega) (by omega)
    have hl : (t : Int) < Builtin.Range.rangeSize i j c := by unfold rgN at ht; omega
    unfold Builtin.Range.rangeSize at hl
    rw [if_pos hc] at hl
    refine ⟨by omega, ?_, ?_⟩
    · split at hl
      · have h1 : (t : Int) * c ≤ (j - i - 1) / c * c := Int.mul_le_mul_of_nonneg_right (by omega) (by omega)
        have h2 := Int.ediv_mul_le (j - i - 1) (b := c) (by omega)
        omega
      · omega
    · rw [show i + (t : Int) * c - i = t * c by omega]
      exact Int.mul_emod_left _ _
  · rintro ⟨h1, h2, h3⟩
    obtain ⟨t, ht⟩ := Int.dvd_of_emod_eq_zero h3
    have t0 : 0 ≤ t := by
      by_cases z : 0 ≤ t
      · exact z
      · have : c * t < 0 := Int.mul_neg_of_pos_of_neg hc (by omega)
        omega
    refine ⟨t.toNat, List.mem_range.mpr ?_, ?_⟩
    · have hl : t < Builtin.Range.rangeSize i j c := by
        unfold Builtin.Range.rangeSize
        rw [if_pos hc, if_pos (by omega)]
        have : t ≤ (j - i - 1) / c := by
          rw [Int.le_ediv_iff_mul_le hc]
          rw [Int.mul_comm]
          omega
        omega
      unfold rgN
      omega
    · rw [Int.toNat_of_nonneg t0, Int.mul_comm]
      omega
theorem inc_append {l m : List Int} (hl : l.Pairwise (· < ·)) (hm : m.Pairwise (· < ·)) (h : ∀ a ∈ l, ∀ b ∈ m, a < b) : (l ++ m).Pairwise (· < ·) := List.pairwise_append.mpr ⟨hl, hm, h⟩
/-! ### places -/
def plf (s : Int) : Int → List Bk → List Int
  | _, [] => []
  | ff, b :: r => rg3 (upS ff s) s (rgN (upS ff s) (b.1 - s + 1) s) ++ plf s (b.1 + b.2) r
def free (s : Int) (bs : List Bk) (W k : Int) : Prop := k % s = 0 ∧ 0 ≤ k ∧ k + s ≤ W ∧ ∀ b ∈ bs, k + s ≤ b.1 ∨ b.1 + b.2 ≤ k
theorem up_mod {s ff k : Int} (hs : 0 < s) : upS ff s ≤ k ∧ (k - upS ff s) % s = 0 ↔ ff ≤ k ∧ k % s = 0 := by
  have h1 := upS_ge (x := ff) hs
  have h2 := upS_lt (x := ff) hs
  have h3 := upS_mod (x := ff) (s := s)
  obtain ⟨q, hq⟩ := Int.dvd_of_emod_eq_zero h3
  constructor
  · rintro ⟨a, b⟩
    refine ⟨by omega, ?_⟩
    obtain ⟨r, hr⟩ := Int.dvd_of_emod_eq_zero b
    have : k = s * (q + r) := by rw [Int.mul_add]; omega
    rw [this]
    exact Int.mul_emod_right _ _
  · rintro ⟨a, b⟩
    obtain ⟨r, hr⟩ := Int.dvd_of_emod_eq_zero b
    have e : k - upS ff s = s * (r - q) := by rw [Int.mul_sub]; omega
    refine ⟨?_, by rw [e]; exact Int.mul_emod_right _ _⟩
    by_cases z : upS ff s ≤ k
    · exact z
    · exfalso
      have : r - q < 0 := by
        by_cases z2 : r - q < 0
        · exact z2
        · have : 0 ≤ s * (r - q) := Int.mul_nonneg (by omega) (by omega)
          omega
      have h5 : s * (r - q) ≤ s * (-1) := Int.mul_le_mul_of_nonneg_left (by omega) (by omega)
      omega
theorem plf_mem {s W : Int} (hs : 0 < s) : ∀ (bs : List Bk) (ff : Int), (∀ b ∈ bs, ff ≤ b.1 ∧ 1 ≤ b.2 ∧ b.1 + b.2 ≤ W) → bs.Pairwise (fun b c => b.1 + b.2 ≤ c.1) → ff ≤ W → ∀ k, k ∈ plf s ff (bs ++ [(W, 0)]) ↔ k % s = 0 ∧ ff ≤ k ∧ k + s ≤ W ∧ ∀ b ∈ bs, k + s ≤ b.1 ∨ b.1 + b.2 ≤ k
  | [], ff, _, _, _, k => by
    show k ∈ rg3 (upS ff s) s (rgN (upS ff s) (W - s + 1) s) ++ [] ↔ _
    rw [List.append_nil, mem_rg3 hs]
    have h := up_mod (ff := ff) (k := k) hs
    constructor
    · rintro ⟨a, b, c⟩
      obtain ⟨d, e⟩ := h.mp ⟨a, c⟩
      exact ⟨e, d, by omega, fun b hb => by cases hb⟩
    · rintro ⟨a, b, c, _⟩
      obtain ⟨d, e⟩ := h.mpr ⟨b, a⟩
      exact ⟨d, by omega, e⟩
  | b :: r, ff, hb, hp, hW, k => by
    obtain ⟨p1, p2⟩ := List.pairwise_cons.mp hp
    obtain ⟨b1, b2, b3⟩ := hb b (List.mem_cons_self ..)
    have ih := plf_mem hs r (b.1 + b.2) (fun c hc => ⟨p1 c hc, (hb c (List.mem_cons_of_mem _ hc)).2⟩) p2 b3 k
    show k ∈ rg3 (upS ff s) s (rgN (upS ff s) (b.1 - s + 1) s) ++ plf s (b.1 + b.2) (r ++ [(W, 0)]) ↔ _
    rw [List.mem_append, mem_rg3 hs, ih]
    have h := up_mod (ff := ff) (k := k) hs
    constructor
    · rintro (⟨a, c, d⟩ | ⟨a, c, d, e⟩)
      · obtain ⟨f, g⟩ := h.mp ⟨a, d⟩
        refine ⟨g, f, by omega, fun x hx => ?_⟩
        rcases List.mem_cons.mp hx with z | z
        · rw [z]; left; omega
        · have := p1 x z
          left; omega
      · refine ⟨a, by omega, d, fun x hx => ?_⟩
        rcases List.mem_cons.mp hx with z | z
        · rw [z]; right; exact c
        · exact e x z
    · rintro ⟨a, c, d, e⟩
      rcases e b (List.mem_cons_self ..) with z | z
      · obtain ⟨f, g⟩ := h.mpr ⟨c, a⟩
        exact .inl ⟨f, by omega, g⟩
      · exact .inr ⟨a, z, d, fun x hx => e x (List.mem_cons_of_mem _ hx)⟩
theorem plf_inc {s W : Int} (hs : 0 < s) : ∀ (bs : List Bk) (ff : Int), (∀ b ∈ bs, ff ≤ b.1 ∧ 1 ≤ b.2 ∧ b.1 + b.2 ≤ W) → bs.Pairwise (fun b c => b.1 + b.2 ≤ c.1) → ff ≤ W → (plf s ff (bs ++ [(W, 0)])).Pairwise (· < ·)
  | [], ff, _, _, _ => by
    show (rg3 (upS ff s) s (rgN (upS ff s) (W - s + 1) s) ++ []).Pairwise (· < ·)
    rw [List.append_nil]
    exact rg3_inc hs _
  | b :: r, ff, hb, hp, hW => by
    obtain ⟨p1, p2⟩ := List.pairwise_cons.mp hp
    obtain ⟨b1, b2, b3⟩ := hb b (List.mem_cons_self ..)
    have hb' : ∀ c ∈ r, b.1 + b.2 ≤ c.1 ∧ 1 ≤ c.2 ∧ c.1 + c.2 ≤ W := fun c hc => ⟨p1 c hc, (hb c (List.mem_cons_of_mem _ hc)).2⟩
    refine inc_append (rg3_inc hs _) (plf_inc hs r (b.1 + b.2) hb' p2 b3) fun x hx y hy => ?_
    have h1 := ((mem_rg3 hs).mp hx).2.1
    have h2 := ((plf_mem hs r (b.1 + b.2) hb' p2 b3 y).mp hy).2.1
    omega
theorem St.bnd {C : List Int} {W : Int} {bs : List Bk} (st : St C W bs) : ∀ b ∈ bs, 0 ≤ b.1 ∧ 1 ≤ b.2 ∧ b.1 + b.2 ≤ W := fun b hb => let ⟨_, h1, h2, _, h3⟩ := st.ok b hb; ⟨h2, h1, h3⟩
/-! ### a state behind another one -/
def fin : Int → List Bk → Int
  | ff, [] => ff
  | _, b :: r => fin (b.1 + b.2) r
theorem fin_snoc : ∀ (l : List Bk) (ff : Int) (b : Bk), fin ff (l ++ [b]) = b.1 + b.2
  | [], _, _ => rfl
  | _ :: r, _, b => fin_snoc r _ b
theorem plf_snoc (s : Int) : ∀ (l : List Bk) (ff : Int) (b : Bk), plf s ff (l ++ [b]) = plf s ff l ++ rg3 (upS (fin ff l) s) s (rgN (upS (fin ff l) s) (b.1 - s + 1) s)
  | [], ff, b => by
    show rg3 _ _ _ ++ [] = [] ++ _
    rw [List.append_nil]
    rfl
  | c :: r, ff, b => by
    show rg3 _ _ _ ++ plf s (c.1 + c.2) (r ++ [b]) = (rg3 _ _ _ ++ plf s (c.1 + c.2) r) ++ _
    rw [plf_snoc s r, List.append_assoc]
    rfl
theorem rg3_len (i c : Int) (n : Nat) : (rg3 i c n).length = n := by unfold rg3; simp
theorem plf_len {s : Int} (hs : 0 < s) : ∀ (l : List Bk) (ff e : Int), (∀ b ∈ l, ff ≤ b.1 ∧ 0 ≤ b.2 ∧ b.1 + b.2 ≤ e) → l.Pairwise (fun b c => b.1 + b.2 ≤ c.1) → ff ≤ e → (plf s ff l).length ≤ (e - ff).toNat
  | [], ff, e, _, _, _ => by show 0 ≤ _; omega
  | b :: r, ff, e, hb, hp, he => by
    obtain ⟨p1, p2⟩ := List.pairwise_cons.mp hp
    obtain ⟨b1, b2, b3⟩ := hb b (List.mem_cons_self ..)
    have ih := plf_len hs r (b.1 + b.2) e (fun c hc => ⟨p1 c hc, (hb c (List.mem_cons_of_mem _ hc)).2⟩) p2 b3
    show (rg3 _ _ _ ++ plf s (b.1 + b.2) r).length ≤ _
    rw [List.length_append, rg3_len]
    have h1 := rgN_le (i := upS ff s) (j := b.1 - s + 1) hs
    have h2 := upS_ge (x := ff) hs
    omega
theorem fin_bnd : ∀ (l : List Bk) (ff e : Int), (∀ b ∈ l, ff ≤ b.1 ∧ 0 ≤ b.2 ∧ b.1 + b.2 ≤ e) → ff ≤ e → l.Pairwise (fun b c => b.1 + b.2 ≤ c.1) → ff ≤ fin ff l ∧ fin ff l ≤ e
  | [], ff, e, _, he, _ => ⟨Int.le_refl _, he⟩
  | b :: r, ff, e, hb, he, hp => by
    obtain ⟨p1, p2⟩ := List.pairwise_cons.mp hp
    obtain ⟨b1, b2, b3⟩ := hb b (List.mem_cons_self ..)
    have ih := fin_bnd r (b.1 + b.2) e (fun c hc => ⟨p1 c hc, (hb c (List.mem_cons_of_mem _ hc)).2⟩) b3 p2
    show ff ≤ fin (b.1 + b.2) r ∧ _
    exact ⟨by omega, ih.2⟩
theorem RgC.up {i j c : Int} (hc : 0 < c) (hc2 : c < 1073741824) (hi : -(2 ^ 61) ≤ i ∧ i < 2 ^ 61) (hj : -(2 ^ 61) ≤ j ∧ j < 2 ^ 61) : RgC i j c (rgN i j c) := by
  have h1 := rgN_le (i := i) (j := j) hc
  have h0 := rgN_nonneg (i := i) (j := j) hc
  have h2 : Builtin.Range.rangeSize i j c = ((rgN i j c : Nat) : Int) := by unfold rgN; omega
  refine ⟨by omega, by omega, ?_, h2⟩
  unfold Builtin.Range.small
  rw [h2]
  simp only [Builtin.Range.rangeFitsLong, Bool.and_eq_true, Bool.or_eq_true, decide_eq_true_eq, beq_iff_eq, if_pos hc]
  omega
theorem St.asc0 {C : List Int} {W : Int} {bs : List Bk} (st : St C W bs) (h0 : 0 ≤ W) : (∀ b ∈ bs ++ [(W, 0)], 0 ≤ b.1 ∧ 0 ≤ b.2 ∧ b.1 + b.2 ≤ W) ∧ (bs ++ [(W, 0)]).Pairwise (fun b c : Bk => b.1 + b.2 ≤ c.1) := by
  refine ⟨fun b hb => ?_, List.pairwise_append.mpr ⟨st.asc, by simp, fun b hb c hc => ?_⟩⟩
  · rcases List.mem_append.mp hb with z | z
    · have := st.bnd b z
      omega
    · rw [List.mem_singleton.mp z]
      dsimp only
      omega
  · rw [List.mem_singleton.mp hc]
    exact (st.bnd b hb).2.2
theorem plf_gap {s x : Int} (hs : 0 < s) (ff a : Int) : rg3 (upS ff s) s (rgN (upS ff s) (a - s + 1) s) = if upS ff s ≤ (a - s) / s * s then rg3 (upS ff s) s (rgN (upS ff s) ((a - s) / s * s + 1) s) else [] := by
  have key : ∀ k, k % s = 0 → (k ≤ a - s ↔ k ≤ (a - s) / s * s) := fun k hk => by
    have e : k = k / s * s := by
      have := Int.mul_ediv_add_emod k s
      rw [hk, Int.mul_comm] at this
      omega
    constructor
    · intro h
      have h1 : k / s ≤ (a - s) / s := Int.ediv_le_ediv hs h
      have := Int.mul_le_mul_of_nonneg_right h1 (Int.le_of_lt hs)
      omega
    · intro h
      have := Int.ediv_mul_le (a - s) (b := s) (by omega)
      omega
  have um : upS ff s % s = 0 := upS_mod
  have mm : ∀ k, (k - upS ff s) % s = 0 → k % s = 0 := fun k h => by
    have e : k = (k - upS ff s) + upS ff s := by omega
    rw [e, Int.add_emod, h, um]
    simp
  split
  · refine inc_ext (rg3_inc hs _) (rg3_inc hs _) fun k => ?_
    rw [mem_rg3 hs, mem_rg3 hs]
    constructor
    · rintro ⟨h1, h2, h3⟩
      have := (key k (mm k h3)).mp (by omega)
      exact ⟨h1, by omega, h3⟩
    · rintro ⟨h1, h2, h3⟩
      have := (key k (mm k h3)).mpr (by omega)
      exact ⟨h1, by omega, h3⟩
  · rename_i h
    cases e : rg3 (upS ff s) s (rgN (upS ff s) (a - s + 1) s) with
    | nil => rfl
    | cons k r =>
      have hk : k ∈ rg3 (upS ff s) s (rgN (upS ff s) (a - s + 1) s) := by rw [e]; exact List.mem_cons_self ..
      rw [mem_rg3 hs] at hk
      have := (key (upS ff s) um).mp (by omega)
      omega
def gp1 (s ff : Int) (b : Bk) : List Bk := if upS ff s ≤ (b.1 - s) / s * s then [(upS ff s, (b.1 - s) / s * s)] else []
def gpf (s : Int) : Int → List Bk → List Bk
  | _, [] => []
  | ff, b :: r => gp1 s ff b ++ gpf s (b.1 + b.2) r
theorem gpf_snoc (s : Int) : ∀ (l : List Bk) (ff : Int) (b : Bk), gpf s ff (l ++ [b]) = gpf s ff l ++ gp1 s (fin ff l) b
  | [], ff, b => by show gp1 s ff b ++ [] = [] ++ _; rw [List.append_nil]; rfl
  | c :: r, ff, b => by
    show gp1 s ff c ++ gpf s (c.1 + c.2) (r ++ [b]) = gp1 s ff c ++ gpf s (c.1 + c.2) r ++ _
    rw [gpf_snoc s r, List.append_assoc]
    rfl
def gpr (s : Int) (g : Bk) : List Int := rg3 g.1 s (rgN g.1 (g.2 + 1) s)
theorem plf_gpf {s : Int} (hs : 0 < s) : ∀ (l : List Bk) (ff : Int), plf s ff l = (gpf s ff l).flatMap (gpr s)
  | [], _ => rfl
  | b :: r, ff => by
    show rg3 (upS ff s) s (rgN (upS ff s) (b.1 - s + 1) s) ++ plf s (b.1 + b.2) r = (gp1 s ff b ++ gpf s (b.1 + b.2) r).flatMap (gpr s)
    rw [plf_gpf hs r, plf_gap (x := 0) hs, List.flatMap_append]
    congr 1
    unfold gp1
    split
    · rw [List.flatMap_cons, List.flatMap_nil, List.append_nil]
      rfl
    · rfl
theorem gpf_bnd {s W : Int} (hs : 0 < s) : ∀ (l : List Bk) (ff : Int), (∀ b ∈ l, 0 ≤ b.1 ∧ 0 ≤ b.2 ∧ b.1 + b.2 ≤ W) → 0 ≤ ff → ∀ g ∈ gpf s ff l, 0 ≤ g.1 ∧ g.1 ≤ g.2 ∧ g.2 ≤ W
  | [], _, _, _, g, hg => by cases hg
  | b :: r, ff, h, hf, g, hg => by
    obtain ⟨b1, b2, b3⟩ := h b (List.mem_cons_self ..)
    rcases List.mem_append.mp hg with z | z
    · unfold gp1 at z
      split at z
      · rename_i c
        rw [List.mem_singleton.mp z]
        have := upS_ge (x := ff) hs
        have := Int.ediv_mul_le (b.1 - s) (b := s) (by omega)
        exact ⟨by show 0 ≤ upS ff s; omega, c, by show (b.1 - s) / s * s ≤ W; omega⟩
      · cases z
    · exact gpf_bnd hs r (b.1 + b.2) (fun c hc => h c (List.mem_cons_of_mem _ hc)) (by omega) g z
theorem gpf_len (s : Int) : ∀ (l : List Bk) (ff : Int), (gpf s ff l).length ≤ l.length
  | [], _ => Nat.le_refl _
  | b :: r, ff => by
    show (gp1 s ff b ++ _).length ≤ _
    have h1 := gpf_len s r (b.1 + b.2)
    have h2 : (gp1 s ff b).length ≤ 1 := by unfold gp1; split <;> simp
    rw [List.length_append, List.length_cons]
    omega
end Ph

namespace Ph
open PySem PySem.Spec PyProof.Rows L2
/-! ### the lowest place: guarantees (a) and (c) -/
theorem sm_addR (f : Nat → Nat) (a : Nat) : ∀ c, sm f (a + c) = sm f a + sm (fun x => f (a + x)) c
  | 0 => rfl
  | c + 1 => by
    show sm f (a + c) + f (a + c) = sm f a + (sm (fun x => f (a + x)) c + f (a + c))
    rw [sm_addR f a c]
    omega
theorem sm_chunks (f : Nat → Nat) (S : Nat) : ∀ n, sm f (n * S) = sm (fun k => sm (fun x => f (k * S + x)) S) n
  | 0 => by rw [Nat.zero_mul]; rfl
  | n + 1 => by
    rw [Nat.add_mul, Nat.one_mul, sm_addR, sm_chunks f S n]
    rfl
theorem sm_plus (f g : Nat → Nat) : ∀ n, sm (fun x => f x + g x) n = sm f n + sm g n
  | 0 => rfl
  | n + 1 => by
    show sm (fun x => f x + g x) n + (f n + g n) = sm f n + f n + (sm g n + g n)
    rw [sm_plus f g n]
    omega
def ind (a l x : Nat) : Nat := if a ≤ x ∧ x < a + l then 1 else 0
theorem sm_ind (a l : Nat) : ∀ n, sm (ind a l) n = min n (a + l) - min n a
  | 0 => by show 0 = _; omega
  | n + 1 => by
    show sm (ind a l) n + ind a l n = _
    rw [sm_ind a l n]
    unfold ind
    split <;> omega
def ocB (b : Bk) (x : Nat) : Nat := ind b.1.toNat b.2.toNat x
def occ (bs : List Bk) (x : Nat) : Nat := if bs.any (fun b => decide (ocB b x = 1)) = true then 1 else 0
theorem ocB_le (b : Bk) (x : Nat) : ocB b x ≤ 1 := by unfold ocB ind; split <;> omega
theorem occ_cons (b : Bk) (r : List Bk) (x : Nat) : occ (b :: r) x ≤ ocB b x + occ r x := by
  unfold occ
  rw [List.any_cons]
  have := ocB_le b x
  by_cases h : ocB b x = 1
  · rw [h]; split <;> split <;> omega
  · have e : decide (ocB b x = 1) = false := decide_eq_false h
    rw [e, Bool.false_or]
    omega
theorem occ_ge {b : Bk} {bs : List Bk} (h : b ∈ bs) (x : Nat) : ocB b x ≤ occ bs x := by
  unfold occ
  by_cases e : ocB b x = 1
  · rw [if_pos (List.any_eq_true.mpr ⟨b, h, decide_eq_true e⟩)]
    omega
  · have := ocB_le b x
    omega
def totN (bs : List Bk) : Nat := (bs.map fun b => b.2.toNat).sum
theorem occ_sum (N : Nat) : ∀ bs : List Bk, sm (occ bs) N ≤ totN bs
  | [] => by
    have : sm (occ []) N ≤ sm (fun _ => 0) N := sm_le fun k _ => by unfold occ; simp
    have z : ∀ n, sm (fun _ => 0) n = 0 := fun n => by
      induction n with
      | zero => rfl
      | succ n ih => show sm (fun _ => 0) n + 0 = 0; omega
    rw [z] at this
    exact Nat.le_trans this (Nat.zero_le _)
  | b :: r => by
    have h1 : sm (occ (b :: r)) N ≤ sm (fun x => ocB b x + occ r x) N := sm_le fun k _ => occ_cons b r k
    rw [sm_plus] at h1
    have h2 := occ_sum N r
    have h3 : sm (ocB b) N ≤ b.2.toNat := by
      show sm (ind b.1.toNat b.2.toNat) N ≤ _
      rw [sm_ind]
      omega
    unfold totN at *
    rw [List.map_cons, List.sum_cons]
    omega
/-- blocks of a chain, at their multiples -/
def Bok (s : Nat → Nat) (p : Nat) (bs : List Bk) : Prop := ∀ b ∈ bs, ∃ (a j : Nat), j ≤ p ∧ b = (((a * s j : Nat) : Int), ((s j : Nat) : Int))
/-- a chunk with a block has at least as many words as the block, or all -/
theorem chunk_ge {s : Nat → Nat} {p i j k a : Nat} {bs : List Bk} (c : CH s (p + 1)) (hi : i ≤ p) (hj : j ≤ p) (hb : (((a * s j : Nat) : Int), ((s j : Nat) : Int)) ∈ bs) (o1 : a * s j < (k + 1) * s i) (o2 : k * s i < a * s j + s j) :
    (j ≤ i ∧ k * s i ≤ a * s j ∧ s j ≤ sm (fun x => occ bs (k * s i + x)) (s i)) ∨ (i ≤ j ∧ s i ≤ sm (fun x => occ bs (k * s i + x)) (s i)) := by
  have pi := c.pos (i := i) (by omega)
  have pj := c.pos (i := j) (by omega)
  have low : sm (fun x => ind (a * s j) (s j) (k * s i + x)) (s i) ≤ sm (fun x => occ bs (k * s i + x)) (s i) := sm_le fun x _ => by
    have := occ_ge hb (k * s i + x)
    unfold ocB at this
    simp only [Int.toNat_natCast] at this
    exact this
  have val : sm (fun x => ind (a * s j) (s j) (k * s i + x)) (s i) = (min (k * s i + s i) (a * s j + s j) - min (k * s i + s i) (a * s j)) - (min (k * s i) (a * s j + s j) - min (k * s i) (a * s j)) := by
    have h := sm_addR (ind (a * s j) (s j)) (k * s i) (s i)
    rw [sm_ind, sm_ind] at h
    omega
  rw [val] at low
  rw [Nat.add_mul, Nat.one_mul] at o1
  rcases Nat.le_total j i with h | h
  · obtain ⟨r, r1, er⟩ := c.dvd h (by omega)
    left
    have e1 : k * s i = k * r * s j := by rw [er, Nat.mul_comm (s j) r, Nat.mul_assoc]
    have e2 : k * s i + s i = (k * r + r) * s j := by rw [Nat.add_mul, ← e1, er, Nat.mul_comm (s j) r]
    have l1 : k * r ≤ a := by
      rw [e1] at o2
      have : k * r * s j < (a + 1) * s j := by rw [Nat.add_mul, Nat.one_mul]; exact o2
      exact Nat.le_of_lt_succ (Nat.lt_of_mul_lt_mul_right this)
    have l2 : a + 1 ≤ k * r + r := by
      rw [e2] at o1
      exact Nat.lt_of_mul_lt_mul_right o1
    have m1 : k * s i ≤ a * s j := by rw [e1]; exact Nat.mul_le_mul_right _ l1
    have m2 : a * s j + s j ≤ k * s i + s i := by
      rw [e2]
      have := Nat.mul_le_mul_right (s j) l2
      rw [Nat.add_mul, Nat.one_mul] at this
      exact this
    refine ⟨h, m1, ?_⟩
    omega
  · obtain ⟨r, r1, er⟩ := c.dvd h (by omega)
    right
    have e1 : a * s j = a * r * s i := by rw [er, Nat.mul_comm (s i) r, Nat.mul_assoc]
    have e2 : a * s j + s j = (a * r + r) * s i := by rw [Nat.add_mul, ← e1, er, Nat.mul_comm (s i) r]
    have l1 : a * r ≤ k := by
      rw [e1] at o1
      have : a * r * s i < (k + 1) * s i := by rw [Nat.add_mul, Nat.one_mul]; exact o1
      exact Nat.le_of_lt_succ (Nat.lt_of_mul_lt_mul_right this)
    have l2 : k + 1 ≤ a * r + r := by
      rw [e2] at o2
      exact Nat.lt_of_mul_lt_mul_right o2
    have m1 : a * s j ≤ k * s i := by rw [e1]; exact Nat.mul_le_mul_right _ l1
    have m2 : k * s i + s i ≤ a * s j + s j := by
      rw [e2]
      have := Nat.mul_le_mul_right (s i) l2
      rw [Nat.add_mul, Nat.one_mul] at this
      exact this
    refine ⟨h, ?_⟩
    omega
theorem bfn_mono1 {s ρ : Nat → Nat} {M p : Nat} (c : CH s (p + 1)) {i : Nat} : ∀ {j}, i ≤ j → j ≤ p → bfn s ρ M i ≤ bfn s ρ M j
  | 0, h, _ => by rw [Nat.le_zero.mp h]; exact Nat.le_refl _
  | j + 1, h, h2 => by
    rcases Nat.lt_or_ge i (j + 1) with z | z
    · exact Nat.le_trans (bfn_mono1 c (by omega) (by omega)) (bfn_up (c.pos (by omega)))
    · have : i = j + 1 := by omega
      rw [this]; exact Nat.le_refl _
/-- all chunks below are taken and the limit allows one more block: it ends within the outlook -/
theorem low_end {s ρ : Nat → Nat} {p i n M : Nat} {bs : List Bk} (c : CH s (p + 1)) (hi : i ≤ p) (ok : Bok s p bs) (rc : ∀ (a j : Nat), j ≤ p → (((a * s j : Nat) : Int), ((s j : Nat) : Int)) ∈ bs → a * s j + s j ≤ ρ j)
    (full : ∀ k, k < n → ∃ b ∈ bs, b.1 < (((k + 1) * s i : Nat) : Int) ∧ ((k * s i : Nat) : Int) < b.1 + b.2) (lim : totN bs + s i ≤ M) : (n + 1) * s i ≤ bfn s ρ M i := by
  have sum1 : sm (fun k => s (cls (bfn s ρ M) i (k * s i))) n ≤ totN bs := by
    refine Nat.le_trans ?_ (occ_sum (n * s i) bs)
    rw [sm_chunks]
    refine sm_le fun k hk => ?_
    obtain ⟨b, hb, o1, o2⟩ := full k hk
    obtain ⟨a, j, hj, rfl⟩ := ok b hb
    dsimp only at o1 o2
    rcases chunk_ge (k := k) c hi hj hb (by omega) (by omega) with ⟨h1, h2, h3⟩ | ⟨h1, h2⟩
    · refine Nat.le_trans ?_ h3
      have r := rc a j hj hb
      have g : ρ j ≤ bfn s ρ M j := bfn_ge
      have pj := c.pos (i := j) (by omega)
      have : cls (bfn s ρ M) i (k * s i) ≤ j := by
        rcases Nat.lt_or_ge j (cls (bfn s ρ M) i (k * s i)) with z | z
        · have := cls_lo z
          omega
        · exact z
      exact c.mono this (by omega)
    · exact Nat.le_trans (c.mono (cls_le _ _ _) (by omega)) h2
  have last : s (cls (bfn s ρ M) i (n * s i)) ≤ s i := c.mono (cls_le _ _ _) (by omega)
  have sum2 : sm (fun k => s (cls (bfn s ρ M) i (k * s i))) (n + 1) ≤ M := by
    show sm (fun k => s (cls (bfn s ρ M) i (k * s i))) n + s (cls (bfn s ρ M) i (n * s i)) ≤ M
    omega
  cases i with
  | zero =>
    rw [bfn_zero, c.s0, Nat.mul_one]
    have : (n + 1) * 1 ≤ sm (fun k => s (cls (bfn s ρ M) 0 (k * s 0))) (n + 1) := sm_ge fun k _ => by
      show 1 ≤ s 0
      rw [c.s0]; exact Nat.le_refl _
    have := Nat.le_max_left M (ρ 0)
    omega
  | succ i =>
    have S0 := c.pos (i := i + 1) (by omega)
    have h := (ov_iff (s := s) (b := bfn s ρ M) (i := i) (n := n + 1) (M := M) S0 (fun j hj => bfn_up (c.pos (by omega)))).mpr (.inr sum2)
    rw [bfn_succ]
    refine Nat.le_trans ?_ (Nat.le_max_right _ _)
    rw [Nat.mul_comm]
    exact Nat.mul_le_mul_left _ h
/-- reaches within an outlook do not raise it -/
theorem bfn_idem {s ρ : Nat → Nat} {M : Nat} : ∀ i, bfn s (bfn s ρ M) M i = bfn s ρ M i := by
  have key : ∀ n i, i ≤ n → bfn s (bfn s ρ M) M i = bfn s ρ M i := by
    intro n
    induction n with
    | zero =>
      intro i h
      rw [Nat.le_zero.mp h, bfn_zero, bfn_zero]
      omega
    | succ n ih =>
      intro i h
      rcases Nat.lt_or_ge i (n + 1) with z | z
      · exact ih i (by omega)
      · have e : i = n + 1 := by omega
        subst e
        rw [bfn_succ s (bfn s ρ M), ih n (by omega), lw_congr (b' := bfn s ρ M) (fun j hj => ih j (by omega)), bfn_succ s ρ]
        omega
  exact fun i => key i i (Nat.le_refl _)
theorem bfn_within {s ρ ρ' : Nat → Nat} {m M : Nat} (c : CH s m) (h : ∀ i, i < m → ρ' i ≤ bfn s ρ M i) : ∀ i, i < m → bfn s ρ' M i ≤ bfn s ρ M i := fun i hi => by
  have := bfn_mono (s := s) (ρ := bfn s ρ M) (ρ' := ρ') (M := M) (M' := M) c h (Nat.le_refl _) i hi
  rw [bfn_idem] at this
  exact this
theorem cut_oneL {s : Nat → Nat} {p : Nat} : cutV ((tl s (p + 1)).map V.int) (some 1) none = (tl (fun i => s (i + 1)) p).map V.int := by
  have e : (tl s (p + 1)).map V.int = V.int ((s 0 : Nat) : Int) :: (tl (fun i => s (i + 1)) p).map V.int := by
    unfold tl
    rw [List.range_succ_eq_map, List.map_cons, List.map_cons, List.map_map, List.map_map, List.map_map]
    rfl
  rw [e]
  unfold cutV HT.sIx
  simp [tl_len]
  exact List.take_of_length_le (by rw [List.length_map, tl_len]; exact Nat.le_refl _)
theorem BL.at0 {H : Hp} {xs : List V} {b : Bk} {bs : List Bk} (h : BL H xs (b :: bs)) : ∃ x, xs[0]? = some x ∧ BkAt H x b := Paired.get2 h (i := 0) rfl
end Ph

namespace Ph
open PySem PySem.Spec PyProof.Rows L2
/-! ### heaps as objects -/
def hf (c : Addr) (pg M : Int) (t l : Addr) : List (Str × V) := [("chain", .ref c), ("pages", .int pg), ("limit", .int M), ("rule", .str "lowest"), ("blocks", .ref t), ("steps", .ref l)]
theorem hf_chain {c t l : Addr} {pg M : Int} : (hf c pg M t l).lookup ("chain" : Str) = some (.ref c) := rfl
theorem hf_pages {c t l : Addr} {pg M : Int} : (hf c pg M t l).lookup ("pages" : Str) = some (.int pg) := rfl
theorem hf_limit {c t l : Addr} {pg M : Int} : (hf c pg M t l).lookup ("limit" : Str) = some (.int M) := rfl
theorem hf_rule {c t l : Addr} {pg M : Int} : (hf c pg M t l).lookup ("rule" : Str) = some (.str "lowest") := rfl
theorem hf_blocks {c t l : Addr} {pg M : Int} : (hf c pg M t l).lookup ("blocks" : Str) = some (.ref t) := rfl
theorem hf_steps {c t l : Addr} {pg M : Int} : (hf c pg M t l).lookup ("steps" : Str) = some (.ref l) := rfl
theorem hf_put {c t l u : Addr} {pg M : Int} : putF "blocks" (.ref u) (hf c pg M t l) = hf c pg M u l := rfl
/-- what changes at h and at l alone -/
def Fr (h l : Addr) (H H' : Hp) : Prop := ∀ b o, b ≠ h → b ≠ l → H b = some o → H' b = some o
theorem Fr.refl (h l : Addr) (H : Hp) : Fr h l H H := fun _ _ _ _ e => e
theorem Fr.trans {h l : Addr} {H H1 H2 : Hp} (a : Fr h l H H1) (b : Fr h l H1 H2) : Fr h l H H2 := fun c o n1 n2 e => b c o n1 n2 (a c o n1 n2 e)
theorem _root_.L2.Same.fr {h l : Addr} {H H' : Hp} (s : Same H H') : Fr h l H H' := fun _ _ _ _ e => s _ _ e
/-- a heap object at h, its steps at l -/
structure HpA (C : Addr) (H : Hp) (h l c : Addr) (s : Nat → Nat) (p pg M : Nat) (bs : List Bk) (n : Nat) (dx t : Addr) (xs : List V) : Prop where
  ob : H h = some (.ins C dx (hf c pg M t l))
  ch : ChAt H c (tl s (p + 1))
  st : StAt H t bs
  ls : H l = some (.lst xs)
  ln : xs.length ≤ n
def HpAt (C : Addr) (H : Hp) (h l c : Addr) (s : Nat → Nat) (p pg M : Nat) (bs : List Bk) (n : Nat) : Prop := ∃ dx t xs, HpA C H h l c s p pg M bs n dx t xs
theorem HpAt.same {C : Addr} {H H' : Hp} {h l c : Addr} {s : Nat → Nat} {p pg M : Nat} {bs : List Bk} {n : Nat} (a : HpAt C H h l c s p pg M bs n) (sm : Same H H') : HpAt C H' h l c s p pg M bs n := by
  obtain ⟨dx, t, xs, a⟩ := a
  exact ⟨dx, t, xs, sm _ _ a.ob, a.ch.keep sm, a.st.same sm, sm _ _ a.ls, a.ln⟩
theorem HpAt.up {C : Addr} {H : Hp} {h l c : Addr} {s : Nat → Nat} {p pg M : Nat} {bs : List Bk} {n m : Nat} (a : HpAt C H h l c s p pg M bs n) (le : n ≤ m) : HpAt C H h l c s p pg M bs m := by
  obtain ⟨dx, t, xs, a⟩ := a
  exact ⟨dx, t, xs, a.ob, a.ch, a.st, a.ls, Nat.le_trans a.ln le⟩
theorem StAt.mono {H H' : Hp} {t : Addr} {bs : List Bk} (h : StAt H t bs) (kp : KpT H H') : StAt H' t bs := by
  obtain ⟨xs, e, b⟩ := h
  exact ⟨xs, kp _ _ e, BL.kp b kp⟩
theorem ChAt.frz {H H' : Hp} {c : Addr} {C : List Int} (h : ChAt H c C) (kp : ∀ o u, H c = some (.frz o u) → H' c = some (.frz o u)) : ChAt H' c C := let ⟨o, d, e⟩ := h; ⟨o, d, kp _ _ e⟩
theorem Fr.kpT {h l : Addr} {H H' : Hp} {C dx : Addr} {fs : List (Str × V)} {xs : List V} (f : Fr h l H H') (e1 : H h = some (.ins C dx fs)) (e2 : H l = some (.lst xs)) : KpT H H' := fun v zs e => f _ _ (ne_of e e1 (by intro z; cases z)) (ne_of e e2 (by intro z; cases z)) e
theorem Fr.frz {h l c : Addr} {H H' : Hp} {C dx : Addr} {fs : List (Str × V)} {xs : List V} (f : Fr h l H H') (e1 : H h = some (.ins C dx fs)) (e2 : H l = some (.lst xs)) : ∀ o u, H c = some (.frz o u) → H' c = some (.frz o u) := fun o u e => f _ _ (ne_of e e1 (by intro z; cases z)) (ne_of e e2 (by intro z; cases z)) e
theorem But.kpT {p : Addr} {H H' : Hp} {xs : List V} (b : But p H H') (e : H p = some (.lst xs)) : KpT H H' := fun v zs h => b _ _ (ne_of h e (by intro z; cases z)) h
/-- a heap beside another list that changes -/
theorem HpAt.but {C : Addr} {H H' : Hp} {h l c q : Addr} {s : Nat → Nat} {p pg M : Nat} {bs : List Bk} {n : Nat} {ys : List V} (a : HpAt C H h l c s p pg M bs n) (b : But q H H') (e : H q = some (.lst ys)) (nq : l ≠ q) : HpAt C H' h l c s p pg M bs n := by
  obtain ⟨dx, t, xs, a⟩ := a
  refine ⟨dx, t, xs, b _ _ (ne_of a.ob e (by intro z; cases z)) a.ob, a.ch.frz fun o u h => b _ _ (ne_of h e (by intro z; cases z)) h, a.st.mono (b.kpT e), b _ _ nq a.ls, a.ln⟩
end Ph

namespace Ph
open PySem PySem.Spec PyProof.Rows L2
/-! ### a get by the lowest place, a free: what becomes of the state and of the outlook -/
theorem totN_int : ∀ {bs : List Bk}, (∀ b ∈ bs, 0 ≤ b.2) → (bs.map fun b => b.2).sum = ((totN bs : Nat) : Int)
  | [], _ => rfl
  | b :: r, h => by
    have h1 := h b (List.mem_cons_self ..)
    have ih := totN_int (bs := r) fun c hc => h c (List.mem_cons_of_mem _ hc)
    unfold totN at *
    rw [List.map_cons, List.map_cons, List.sum_cons, List.sum_cons, ih]
    omega
theorem St.bok {s : Nat → Nat} {p : Nat} {W : Int} {bs : List Bk} (st : St (tl s (p + 1)) W bs) : Bok s p bs := fun b hb => by
  obtain ⟨h1, h2, h3, h4, h5⟩ := st.ok b hb
  obtain ⟨j, hj, e⟩ := tl_mem.mp h1
  obtain ⟨b1, b2⟩ := b
  dsimp only at *
  subst e
  refine ⟨(b1 / ((s j : Nat) : Int)).toNat, j, by omega, ?_⟩
  have q : 0 ≤ b1 / ((s j : Nat) : Int) := Int.ediv_nonneg h3 (by omega)
  have e2 := Int.mul_ediv_add_emod b1 ((s j : Nat) : Int)
  rw [h4] at e2
  congr 1
  rw [Int.natCast_mul, Int.toNat_of_nonneg q, Int.mul_comm]
  omega
theorem rch_ge {l : Int} {bs : List Bk} {b : Bk} (pos : ∀ b ∈ bs, 0 < b.1 + b.2) (hb : b ∈ bs) (h : b.2 ≤ l) : b.1 + b.2 ≤ rch l bs := by
  unfold rch
  have m : b.1 + b.2 ∈ (bs.filter fun b => decide (b.2 ≤ l)).map fun b => b.1 + b.2 := List.mem_map.mpr ⟨b, List.mem_filter.mpr ⟨hb, decide_eq_true h⟩, rfl⟩
  rcases mxd_spec (l := (bs.filter fun b => decide (b.2 ≤ l)).map fun b => b.1 + b.2) (fun x hx => by
    obtain ⟨c, hc, rfl⟩ := List.mem_map.mp hx
    exact pos c (List.mem_filter.mp hc).1) with ⟨e, _⟩ | ⟨_, e⟩
  · rw [e] at m; cases m
  · exact e _ m
theorem rch_le {l u : Int} {bs : List Bk} (pos : ∀ b ∈ bs, 0 < b.1 + b.2) (u0 : 0 ≤ u) (h : ∀ b ∈ bs, b.2 ≤ l → b.1 + b.2 ≤ u) : 0 ≤ rch l bs ∧ rch l bs ≤ u := by
  unfold rch
  rcases mxd_spec (l := (bs.filter fun b => decide (b.2 ≤ l)).map fun b => b.1 + b.2) (fun x hx => by
    obtain ⟨c, hc, rfl⟩ := List.mem_map.mp hx
    exact pos c (List.mem_filter.mp hc).1) with ⟨_, e⟩ | ⟨m, _⟩
  · rw [e]; exact ⟨Int.le_refl _, u0⟩
  · obtain ⟨c, hc, e⟩ := List.mem_map.mp m
    obtain ⟨h1, h2⟩ := List.mem_filter.mp hc
    have hh := h c h1 (of_decide_eq_true h2)
    have pp := pos c h1
    rw [← e]
    exact ⟨by omega, hh⟩
/-- the reaches, as numbers -/
def Rho (s : Nat → Nat) (p : Nat) (bs : List Bk) (ρ : Nat → Nat) : Prop := ((tl s (p + 1)).map fun l => rch l bs) = tl ρ (p + 1)
theorem Rho.at_ {s ρ : Nat → Nat} {p j : Nat} {bs : List Bk} (h : Rho s p bs ρ) (hj : j ≤ p) : rch ((s j : Nat) : Int) bs = ((ρ j : Nat) : Int) := by
  have e : ((tl s (p + 1)).map fun l => rch l bs)[j]? = (tl ρ (p + 1))[j]? := by rw [h]
  rw [List.getElem?_map, tl_get (by omega), tl_get (by omega)] at e
  exact Option.some.inj e
theorem St.posE {C : List Int} {W : Int} {bs : List Bk} (st : St C W bs) : ∀ b ∈ bs, 0 < b.1 + b.2 := fun b hb => by
  obtain ⟨_, h2, h3, _⟩ := st.ok b hb
  omega
theorem Rho.ex {s : Nat → Nat} {p : Nat} {W : Int} {bs : List Bk} (st : St (tl s (p + 1)) W bs) : ∃ ρ, Rho s p bs ρ := by
  refine ⟨fun j => (rch ((s j : Nat) : Int) bs).toNat, ?_⟩
  unfold Rho tl
  rw [List.map_map]
  refine List.map_congr_left fun j _ => ?_
  show rch ((s j : Nat) : Int) bs = (((rch ((s j : Nat) : Int) bs).toNat : Nat) : Int)
  have h0 : 0 ≤ rch ((s j : Nat) : Int) bs := by
    unfold rch
    rcases mxd_spec (l := (bs.filter fun b => decide (b.2 ≤ ((s j : Nat) : Int))).map fun b => b.1 + b.2) (fun x hx => by
      obtain ⟨c, hc, rfl⟩ := List.mem_map.mp hx
      exact st.posE c (List.mem_filter.mp hc).1) with ⟨_, e⟩ | ⟨m, _⟩
    · rw [e]; exact Int.le_refl _
    · obtain ⟨c, hc, e⟩ := List.mem_map.mp m
      have := st.posE c (List.mem_filter.mp hc).1
      omega
  omega
theorem Rho.nil (s : Nat → Nat) (p : Nat) : Rho s p [] (fun _ => 0) := by
  unfold Rho tl
  rw [List.map_map]
  rfl
/-- where the lowest place lies, and why -/
structure LowP (z : Int) (bs : List Bk) (W x : Int) : Prop where
  mod : x % z = 0
  pos : 0 ≤ x
  fit : x + z ≤ W
  free : ∀ b ∈ bs, x + z ≤ b.1 ∨ b.1 + b.2 ≤ x
  full : ∀ k : Int, 0 ≤ k → k % z = 0 → k < x → ∃ b ∈ bs, b.1 < k + z ∧ k < b.1 + b.2
theorem lowp_of {C : List Int} {z W x : Int} {bs : List Bk} {r : List Int} (hz : 0 < z) (hW : 0 ≤ W) (st : St C W bs) (e : plf z 0 (bs ++ [(W, 0)]) = x :: r) : LowP z bs W x := by
  have mem := plf_mem (s := z) (W := W) hz bs 0 (fun b hb => st.bnd b hb) st.asc hW
  have inc := plf_inc (s := z) (W := W) hz bs 0 (fun b hb => st.bnd b hb) st.asc hW
  rw [e] at mem inc
  obtain ⟨m1, m2, m3, m4⟩ := (mem x).mp (List.mem_cons_self ..)
  refine ⟨m1, m2, m3, m4, fun k k0 km kx => ?_⟩
  have nin : ¬ k ∈ x :: r := fun h => by
    rcases List.mem_cons.mp h with z | z
    · omega
    · have := (List.pairwise_cons.mp inc).1 k z
      omega
  have nf : ¬ ∀ b ∈ bs, k + z ≤ b.1 ∨ b.1 + b.2 ≤ k := fun h => nin ((mem k).mpr ⟨km, k0, by omega, h⟩)
  exact Classical.byContradiction fun no => nf fun b hb => Classical.byContradiction fun h2 => no ⟨b, hb, by omega, by omega⟩
section
variable {s ρ : Nat → Nat} {p M : Nat} {W : Int} {bs : List Bk}
theorem St.rc (c : CH s (p + 1)) (st : St (tl s (p + 1)) W bs) (hρ : Rho s p bs ρ) : ∀ (a j : Nat), j ≤ p → (((a * s j : Nat) : Int), ((s j : Nat) : Int)) ∈ bs → a * s j + s j ≤ ρ j := fun a j hj hb => by
  have h := rch_ge st.posE hb (l := ((s j : Nat) : Int)) (Int.le_refl _)
  rw [hρ.at_ hj] at h
  dsimp only at h
  omega
/-- guarantee (c), one get: it ends within the outlook -/
theorem LowP.ends {i : Nat} {x : Int} (c : CH s (p + 1)) (hi : i ≤ p) (st : St (tl s (p + 1)) W bs) (hρ : Rho s p bs ρ) (lim : (bs.map fun b => b.2).sum + ((s i : Nat) : Int) ≤ M) (lp : LowP ((s i : Nat) : Int) bs W x) :
    ∃ n : Nat, x = ((n * s i : Nat) : Int) ∧ (n + 1) * s i ≤ bfn s ρ M i := by
  have S0 := c.pos (i := i) (by omega)
  have q : 0 ≤ x / ((s i : Nat) : Int) := Int.ediv_nonneg lp.pos (by omega)
  have e2 := Int.mul_ediv_add_emod x ((s i : Nat) : Int)
  rw [lp.mod] at e2
  have ex : x = (((x / ((s i : Nat) : Int)).toNat * s i : Nat) : Int) := by
    rw [Int.natCast_mul, Int.toNat_of_nonneg q, Int.mul_comm]
    omega
  refine ⟨_, ex, ?_⟩
  generalize (x / ((s i : Nat) : Int)).toNat = n at ex
  subst ex
  refine low_end c hi st.bok (st.rc c hρ) (fun k hk => ?_) ?_
  · have kn : k * s i < n * s i := Nat.mul_lt_mul_of_pos_right hk S0
    obtain ⟨b, hb, o1, o2⟩ := lp.full ((k * s i : Nat) : Int) (by omega) (by rw [Int.natCast_mul]; exact Int.mul_emod_left _ _) (by omega)
    refine ⟨b, hb, ?_, o2⟩
    rw [Nat.add_mul, Nat.one_mul]
    omega
  · rw [totN_int fun b hb => by have := (st.ok b hb).2.1; omega] at lim
    omega
/-- guarantee (a), one get: a heap as far as the outlook has a place -/
theorem has_place {i : Nat} (c : CH s (p + 1)) (hi : i ≤ p) (W0 : 0 ≤ W) (st : St (tl s (p + 1)) W bs) (hρ : Rho s p bs ρ) (lim : (bs.map fun b => b.2).sum + ((s i : Nat) : Int) ≤ M) (room : ((bfn s ρ M p : Nat) : Int) ≤ W) :
    ∃ x r, plf ((s i : Nat) : Int) 0 (bs ++ [(W, 0)]) = x :: r := by
  have S0 := c.pos (i := i) (by omega)
  have hz : (0 : Int) < ((s i : Nat) : Int) := by omega
  cases e : plf ((s i : Nat) : Int) 0 (bs ++ [(W, 0)]) with
  | cons x r => exact ⟨x, r, rfl⟩
  | nil =>
    exfalso
    have mem := plf_mem (s := ((s i : Nat) : Int)) (W := W) hz bs 0 (fun b hb => st.bnd b hb) st.asc W0
    rw [e] at mem
    have h := low_end (n := (W / ((s i : Nat) : Int)).toNat) (M := M) c hi st.bok (st.rc c hρ) (fun k hk => ?_) ?_
    · have h2 := bfn_mono1 (s := s) (ρ := ρ) (M := M) c hi (Nat.le_refl p)
      have q : 0 ≤ W / ((s i : Nat) : Int) := Int.ediv_nonneg W0 (by omega)
      have l1 := Int.lt_ediv_add_one_mul_self W hz
      have e1 : (((W / ((s i : Nat) : Int)).toNat + 1) * s i : Nat) ≤ bfn s ρ M p := Nat.le_trans h h2
      have e2 : ((((W / ((s i : Nat) : Int)).toNat + 1) * s i : Nat) : Int) = (W / ((s i : Nat) : Int) + 1) * ((s i : Nat) : Int) := by
        rw [Int.natCast_mul, Int.natCast_add, Int.toNat_of_nonneg q]
        rfl
      have e3 : ((((W / ((s i : Nat) : Int)).toNat + 1) * s i : Nat) : Int) ≤ ((bfn s ρ M p : Nat) : Int) := Int.ofNat_le.mpr e1
      rw [e2] at e3
      omega
    · have q : 0 ≤ W / ((s i : Nat) : Int) := Int.ediv_nonneg W0 (by omega)
      have l1 := Int.ediv_mul_le W (b := ((s i : Nat) : Int)) (by omega)
      have k1 : (((k + 1) * s i : Nat) : Int) ≤ W := by
        have : (((k + 1 : Nat) : Int)) ≤ W / ((s i : Nat) : Int) := by omega
        have := Int.mul_le_mul_of_nonneg_right this (Int.le_of_lt hz)
        rw [Int.natCast_mul]
        omega
      have nf : ¬ ∀ b ∈ bs, ((k * s i : Nat) : Int) + ((s i : Nat) : Int) ≤ b.1 ∨ b.1 + b.2 ≤ ((k * s i : Nat) : Int) := fun h => by
        have := (mem ((k * s i : Nat) : Int)).mpr ⟨by rw [Int.natCast_mul]; exact Int.mul_emod_left _ _, by omega, by rw [Nat.add_mul, Nat.one_mul] at k1; omega, h⟩
        cases this
      exact Classical.byContradiction fun no => nf fun b hb => Classical.byContradiction fun h2 => no ⟨b, hb, by rw [Nat.add_mul, Nat.one_mul]; omega, by omega⟩
    · rw [totN_int fun b hb => by have := (st.ok b hb).2.1; omega] at lim
      omega
theorem get_st {i : Nat} {x : Int} {cs : List Bk} (c : CH s (p + 1)) (hi : i ≤ p) (st : St (tl s (p + 1)) W bs) (lp : LowP ((s i : Nat) : Int) bs W x) (pm : cs.Perm (bs ++ [(x, ((s i : Nat) : Int))])) (srt : cs.Pairwise fun x y => SrtO.lexB y x = false) : St (tl s (p + 1)) W cs := by
  have S0 := c.pos (i := i) (by omega)
  refine sorted_st (fun b hb => ?_) ?_ pm srt
  · rcases List.mem_append.mp hb with z | z
    · exact st.ok b z
    · rw [List.mem_singleton.mp z]
      exact ⟨tl_mem.mpr ⟨i, by omega, rfl⟩, by dsimp only; omega, lp.pos, lp.mod, lp.fit⟩
  · refine List.pairwise_append.mpr ⟨st.asc.imp fun h => .inl h, List.pairwise_singleton _ _, fun b hb d hd => ?_⟩
    rw [List.mem_singleton.mp hd]
    rcases lp.free b hb with h | h
    · exact .inr h
    · exact .inl h
/-- guarantee (c): no number of the outlook rises by a get -/
theorem get_outlook {m i n : Nat} {x : Int} {cs : List Bk} {ρ' : Nat → Nat} (cn : Cn s p m) (hi : i ≤ p) (st : St (tl s (p + 1)) W bs) (hρ : Rho s p bs ρ) (st' : St (tl s (p + 1)) W cs) (hρ' : Rho s p cs ρ') (ex : x = ((n * s i : Nat) : Int)) (en : (n + 1) * s i ≤ bfn s ρ M i) (pm : cs.Perm (bs ++ [(x, ((s i : Nat) : Int))])) :
    ∀ j, j ≤ p → bfn s ρ' M j ≤ bfn s ρ M j := fun j hj => by
  refine bfn_within (m := p + 1) cn.ch (fun j hj => ?_) j (by omega)
  have h := rch_le (l := ((s j : Nat) : Int)) (u := ((bfn s ρ M j : Nat) : Int)) st'.posE (by omega) (fun b hb hl => ?_)
  · rw [hρ'.at_ (by omega)] at h
    omega
  · rcases List.mem_append.mp (pm.mem_iff.mp hb) with z | z
    · have h1 := rch_ge st.posE z hl
      rw [hρ.at_ (by omega)] at h1
      have : ρ j ≤ bfn s ρ M j := bfn_ge
      omega
    · rw [List.mem_singleton.mp z] at hl ⊢
      dsimp only at hl ⊢
      have ij : i ≤ j := by
        rcases Nat.lt_or_ge j i with z2 | z2
        · have : s j < s i := by
            have mono := cn.ch.mono (i := j) (j := i - 1) (by omega) (by omega)
            obtain ⟨r, r2, _, er⟩ := cn.two (i - 1) (by omega)
            have e1 : i - 1 + 1 = i := by omega
            rw [e1] at er
            have pz := cn.ch.pos (i := i - 1) (by omega)
            have : s (i - 1) * 2 ≤ s (i - 1) * r := Nat.mul_le_mul_left _ r2
            omega
          omega
        · exact z2
      have h2 := bfn_mono1 (s := s) (ρ := ρ) (M := M) cn.ch ij (show j ≤ p by omega)
      rw [ex]
      rw [Nat.add_mul, Nat.one_mul] at en
      omega
theorem St.filter {C : List Int} (q : Bk → Bool) (st : St C W bs) : St C W (bs.filter q) := ⟨fun b hb => st.ok b (List.mem_filter.mp hb).1, st.asc.sublist List.filter_sublist⟩
theorem free_outlook {q : Bk → Bool} {ρ' : Nat → Nat} (c : CH s (p + 1)) (st : St (tl s (p + 1)) W bs) (hρ : Rho s p bs ρ) (hρ' : Rho s p (bs.filter q) ρ') : ∀ j, j ≤ p → bfn s ρ' M j ≤ bfn s ρ M j := fun j hj => by
  refine bfn_mono (m := p + 1) c (fun j hj => ?_) (Nat.le_refl _) j (by omega)
  have h := rch_le (l := ((s j : Nat) : Int)) (u := ((ρ j : Nat) : Int)) (st.filter q).posE (by omega) (fun b hb hl => ?_)
  · rw [hρ'.at_ (by omega)] at h
    omega
  · have h1 := rch_ge st.posE (List.mem_filter.mp hb).1 hl
    rw [hρ.at_ (by omega)] at h1
    exact h1
theorem sum_filter {C : List Int} (q : Bk → Bool) (st : St C W bs) : ((bs.filter q).map fun b => b.2).sum ≤ (bs.map fun b => b.2).sum := by
  have h : ∀ b ∈ bs, 0 ≤ b.2 := fun b hb => by have := (st.ok b hb).2.1; omega
  clear st
  induction bs with
  | nil => exact Int.le_refl _
  | cons b r ih =>
    have ih := ih fun c hc => h c (List.mem_cons_of_mem _ hc)
    have := h b (List.mem_cons_self ..)
    by_cases e : q b = true
    · rw [List.filter_cons_of_pos e, List.map_cons, List.map_cons, List.sum_cons, List.sum_cons]
      omega
    · rw [List.filter_cons_of_neg e, List.map_cons, List.sum_cons]
      omega
theorem sum_perm {l m : List Bk} (h : l.Perm m) : (l.map fun b => b.2).sum = (m.map fun b => b.2).sum := by
  have := h.map (fun b : Bk => b.2)
  generalize l.map (fun b : Bk => b.2) = a at this
  generalize m.map (fun b : Bk => b.2) = b at this
  induction this with
  | nil => rfl
  | cons x _ ih => rw [List.sum_cons, List.sum_cons, ih]
  | swap x y l => rw [List.sum_cons, List.sum_cons, List.sum_cons, List.sum_cons]; omega
  | trans _ _ a b => rw [a, b]
end
end Ph

namespace Ph
open PySem PySem.Spec PyProof.Rows L2
section
variable {X : Cx}
/-! ### block not in blocks -/
def rNotInL (K : PySem.W.Frag) : R2 := fun x y H Q => ∃ (b : Bk) (a : Addr) (ys : List V) (cs : List Bk), BkAt H x b ∧ y = .ref a ∧ SqL K H a ys ∧ BL H ys cs ∧ Q (.bl (!decide (b ∈ cs))) H
theorem op_notInL (hu : X.A.units + 64 < cLine) : OpR X (compareOp .NotIn) (rNotInL X.K) := by
  intro pins s σ H x y v u Q I rx ry h
  obtain ⟨b, a, ys, cs, hb, rfl, hl, bl, q⟩ := h
  have dx : Dp X.K H x (bD b) := by
    obtain ⟨t, rfl, e⟩ := hb
    exact .tup (.inl (.inl e)) (.cons (.int _) (.cons (.int _) .nil))
  obtain ⟨_, r1⟩ := Dp.reads I (bD b) x v dx rx
  obtain ⟨_, r2⟩ := Dp.reads I (.list (cs.map bD)) (.ref a) u (.lst hl bl.dp) ry
  refine SeqAt.notIn_list_reads r2 r1 (bDs_lay cs) (bD_lay b) ?_ ⟨.bl _, H, I, rfl, ?_⟩
  · have := bDs_depth cs
    omega
  · rw [bDs_any]
    exact q
end
theorem valV_mem {kvs : List (Key × V)} {k : Key} {v : V} (h : valV kvs k = some v) : ∃ kv ∈ kvs, kv.2 = v := by
  unfold valV at h
  obtain ⟨kv, h1, h2⟩ := Option.map_eq_some_iff.mp h
  exact ⟨kv, List.mem_of_find?_eq_some h1, h2⟩
theorem putK_mem {kvs : List (Key × V)} {k : Key} {v : V} {kv : Key × V} (h : kv ∈ putK kvs k v) : kv ∈ kvs ∨ kv.2 = v := by
  unfold putK at h
  split at h
  · obtain ⟨kv2, h1, h2⟩ := List.mem_map.mp h
    split at h2
    · rw [← h2]; exact .inr rfl
    · rw [← h2]; exact .inl h1
  · rcases List.mem_append.mp h with z | z
    · exact .inl z
    · rw [List.mem_singleton.mp z]; exact .inr rfl
theorem putK_len {kvs : List (Key × V)} {k : Key} {v : V} : (putK kvs k v).length ≤ kvs.length + 1 := by
  unfold putK
  split
  · rw [List.length_map]; omega
  · rw [List.length_append]; exact Nat.le_refl _
/-- the items of a list that stay by a test, and their blocks -/
theorem BL.sub {H : Hp} {xs : List V} {bs : List Bk} (h : BL H xs bs) (q : Nat → Bool) : ∀ n, n ≤ xs.length → ∃ ds, Paired (fun i d => bs[i]? = some d) ((List.range n).filter q) ds ∧ ds.Sublist (bs.take n)
  | 0, _ => ⟨[], .nil, List.Sublist.slnil⟩
  | n + 1, hn => by
    obtain ⟨ds, h1, h2⟩ := BL.sub h q n (by omega)
    obtain ⟨b, hb, _⟩ := BL.get h (List.getElem?_eq_getElem (show n < xs.length by omega))
    have et : bs.take (n + 1) = bs.take n ++ [b] := by rw [List.take_add_one, hb]; rfl
    rw [List.range_succ, List.filter_append, et]
    by_cases e : q n = true
    · rw [List.filter_cons_of_pos e]
      exact ⟨ds ++ [b], Paired.snoc h1 hb, h2.append (List.Sublist.refl _)⟩
    · rw [List.filter_cons_of_neg e, List.filter_nil, List.append_nil]
      exact ⟨ds, h1, h2.trans (List.sublist_append_left _ _)⟩
theorem paired_two {α β γ : Type} {F : α → β → Prop} {G : α → γ → Prop} {R : β → γ → Prop} (h : ∀ a b c, F a b → G a c → R b c) : ∀ {l : List α} {m : List β} {n : List γ}, Paired F l m → Paired G l n → Paired R m n
  | _, _, _, .nil, .nil => .nil
  | _, _, _, .cons x r, .cons y q => .cons (h _ _ _ x y) (paired_two h r q)
end Ph

namespace Ph
open PySem PySem.Spec PyProof.Rows L2
/-! ### a written tuple, known to have no dict of its own -/
def tTupF (t : TA) : TE := fun σ H Q => t σ H fun xs H1 => xs.length ≤ sizeLine ∧ ∀ (p : Addr) (o : Obj), H1 p = none → o.dict = none → Q (.ref p) (upd H1 p (.frz o (.tup xs)))
theorem pe_tupF {X : Cx} {es : List Expr} {t : TA} {x1 : Nat} {pos : Pos} (h : PA X es t) : PE X (.Tuple es x1 pos) (tTupF t) := by
  refine ⟨fun pins s σ H Q I hq => ?_⟩
  refine wpAny_Tuple_spliced (thn (h.run pos pins s σ H _ I hq) fun us s1 ⟨xs, H1, I1, r, z, q⟩ => ⟨by rw [← r.length]; exact z, ?_⟩)
  have hf : H1 s1.heap.objs.size = none := I1.hok.fresh (Nat.le_refl _)
  refine ⟨.ref s1.heap.objs.size, _, I1.laid (t' := s1.toks) (o := .frz { cls := .type "tuple", data := .seq us.toArray } (.tup xs)) (fun b u e => Heap.get?_push_of_some _ e) (Nat.le_refl _) ⟨Heap.get?_push_size _ rfl, z, us, r, IsTup.new _ _⟩, rfl, q _ _ hf rfl⟩
end Ph

namespace Ph
open PySem PySem.Spec PyProof.Rows L2
/-! ### sum(d.values()) -/
theorem preSum_getD : ∀ is : List Int, preSum (fun i => is.getD i 0) is.length = is.sum
  | [] => rfl
  | x :: r => by
    rw [List.length_cons, PySem.W.kdu_shift, List.sum_cons, ← preSum_getD r]
    rfl
section
variable {X : Cx} {o : Expr} {p pos apos mpos : Pos} {td : TE}
/-- sum(o.values()), a dict with int values -/
def tSumVals (td : TE) : TE := fun σ H Q => td σ H fun x H1 => ∃ (a : Addr) (kvs : List (Key × V)) (is : List Int), x = V.ref a ∧ H1 a = some (.dK kvs) ∧ kvs.map (·.2) = is.map V.int ∧ Q (.int is.sum) H1
theorem pe_sumVals (hc : X.calm = true) (hg : Gl X "sum") (hm : X.mg "sum" = none) (hd : PE X o td) (hbase : attributeBase o "values" X.env (eval o X.env) = eval o X.env := by rfl) (hline : (apos.endLine == mpos.line) = true := by rfl)
    (hse : starEach [Expr.Call (.Attribute o "values" apos) [] [] mpos] X.env = [(false, eval (Expr.Call (.Attribute o "values" apos) [] [] mpos) X.env)] := by rfl) :
    PE X (.Call (.Name "sum" p) [.Call (.Attribute o "values" apos) [] [] mpos] [] pos) (tSumVals td) := by
  refine ⟨fun pins s σ H Q I h => ?_⟩
  refine wpAny_Call_Name_kw (ld_blt I hg hm (u := .builtin "sum") (by first | rfl | decide +kernel) ?_ (by first | decide +kernel | decide) (by first | decide +kernel | decide))
  rw [hse]
  refine PySem.callWith_builtin1 (wpAny_Call_method0_late hbase hline (thn (hd.run pins s σ H _ I h) fun v s1 ⟨x, H1, I1, r1, a, kvs, is, ex, ha, hv, q⟩ => ?_))
  subst ex
  obtain rfl : v = Value.ref a := r1
  obtain ⟨_, hsys, vs, rel, dof⟩ := dk_of I1.hok ha
  obtain ⟨ep, dat⟩ := dof.dictAt
  have dat' := dat
  obtain ⟨ob, es, ho, ex, hdat, hko, hpr, hnd⟩ := dat'
  refine ⟨"dict", "dict.values", F.plainAttrs_dict, F.slot_dict_values, F.type_dict_values, ⟨ob, ho, ex.1⟩, fun b e => ?_, Calls.callWith_builtin rfl (PySem.evalArgs_none ?_)⟩
  · cases e
    exact ⟨ob, ho, ex.2.1⟩
  refine call_meetsIn F.slot_dict_values ⟨ob, ho, ex.1⟩ F.entry_dict_values (F.args_dict_values_1 _) (meets_dict_values (mixKind X.prog X.w) a hsys) ⟨⟨vs, dof⟩, ?_⟩
  have k1 : ∀ b u, s1.heap.get? b = some u → (s1.heap.push { cls := .type "dict_values", data := .fields #[.ref a] }).get? b = some u := fun b u e => Heap.get?_push_of_some _ e
  have dat1 : (s1.heap.push { cls := .type "dict_values", data := .fields #[.ref a] }).DictAt (mixKind X.prog X.w) a vs ep := dat.keep k1
  have hlv : vs.length = is.length := by
    have e1 := congrArg List.length hv
    rw [List.length_map, List.length_map] at e1
    rw [← e1]
    exact (KV.length rel).symm
  have hval : ∀ (i : Nat) (v : Value), (∃ k, vs[i]? = some (k, v)) → ∃ t, v = Value.int (is.getD i 0) t := fun i v ⟨k, hk⟩ => by
    obtain ⟨x, h1, h2⟩ := KV.at' rel hk
    have e1 : (kvs.map (·.2))[i]? = some x := by rw [List.getElem?_map, h1] <;> rfl
    rw [hv, List.getElem?_map] at e1
    obtain ⟨j, hj, e2⟩ := Option.map_eq_some_iff.mp e1
    subst e2
    obtain ⟨t, e3⟩ := h2
    refine ⟨t, ?_⟩
    rw [e3, List.getD_eq_getElem?_getD, hj] <;> rfl
  have S := PySem.W.kdl_values (prog := X.prog) (w := X.w) (knd := mixKind X.prog X.w) (kvs := vs) (ep := ep) (r := s1.heap.objs.size) (d := a)
  have ok : (s1.heap.push { cls := .type "dict_values", data := .fields #[.ref a] }).IsValuesView s1.heap.objs.size a ∧ (s1.heap.push { cls := .type "dict_values", data := .fields #[.ref a] }).DictAt (mixKind X.prog X.w) a vs ep := ⟨⟨_, Heap.get?_push_size _ rfl, rfl, rfl⟩, dat1⟩
  refine call_sum_walkAnyS ?_
  obtain ⟨oI, St, hit, W, st⟩ := S.iter X.A.in1 { s1 with heap := s1.heap.push { cls := .type "dict_values", data := .fields #[.ref a] } } (I.ok.hd hc) ok
  refine hit _ _ ⟨_, _, _, _, vs.length, _, _, fun i => is.getD i 0, rfl, W.toS, st, fun b hb => ?_, hval, fun s' t' hm => ?_⟩
  · show b < ((s1.heap.push { cls := .type "dict_values", data := .fields #[.ref a] }).push oI).objs.size
    rw [Heap.size_push]
    rcases List.mem_cons.mp hb with e | hb
    · rw [e]; exact Nat.lt_succ_self _
    · rw [List.mem_singleton.mp hb]; exact Nat.lt_succ_of_lt (S.there _ ok).2
  · have hk : ∀ b o, s1.heap.get? b = some o → s'.heap.get? b = some o := fun b o e =>
      hm.heap b o (fun hI => absurd (Heap.lt_size (k1 b o e)) (by rw [List.mem_singleton.mp hI]; exact Nat.lt_irrefl _)) (Heap.get?_push_of_some _ (k1 b o e))
    rw [Moved.eq_with hm]
    rw [hlv, preSum_getD]
    exact ⟨.int _, H1, I1.kept (t' := s'.toks) hk, ⟨_, rfl⟩, q⟩
end
end Ph

namespace Ph
open PySem PySem.Spec PyProof.Rows L2
/-! ### min of a list of pairs of ints -/
section
variable {X : Cx}
def rMinP (K : PySem.W.Frag) : List V → Hp → VK → Prop := fun vs H Q => ∃ (a : Addr) (xs : List V) (k : V → Int × Int), vs = [V.ref a] ∧ SqL K H a xs ∧ (∀ x ∈ xs, ∃ t, x = V.ref t ∧ H t = some (.tup [.int (k x).1, .int (k x).2])) ∧ 0 < xs.length ∧
  ∀ x ∈ xs, (∀ y ∈ xs, SrtO.lexB (k y) (k x) = false) → Q x H
theorem minOf_spec : ∀ (x : Int × Int) (xs : List (Int × Int)), PySem.W.minOf x xs ∈ x :: xs ∧ ∀ y ∈ x :: xs, SrtO.lexB y (PySem.W.minOf x xs) = false
  | x, [] => ⟨List.mem_singleton.mpr rfl, fun y hy => by
      rw [List.mem_singleton.mp hy]
      exact SrtO.lexB_no.mpr (by show ¬ (x.1 < x.1 ∨ (x.1 = x.1 ∧ x.2 < x.2)); omega)⟩
  | x, z :: zs => by
    have e : PySem.W.minOf x (z :: zs) = PySem.W.minOf (if PySem.W.DatumOrd.lt z x = true then z else x) zs := rfl
    rw [e]
    have l : PySem.W.DatumOrd.lt z x = SrtO.lexB z x := rfl
    rw [l]
    by_cases c : SrtO.lexB z x = true
    · rw [if_pos c]
      obtain ⟨h1, h2⟩ := minOf_spec z zs
      refine ⟨List.mem_cons_of_mem _ h1, fun y hy => ?_⟩
      rcases List.mem_cons.mp hy with r | r
      · rw [r]
        have a := SrtO.lexB_iff.mp c
        have b := SrtO.lexB_no.mp (h2 z (List.mem_cons_self ..))
        exact SrtO.lexB_no.mpr (by omega)
      · exact h2 y r
    · rw [if_neg c]
      obtain ⟨h1, h2⟩ := minOf_spec x zs
      refine ⟨?_, fun y hy => ?_⟩
      · rcases List.mem_cons.mp h1 with r | r
        · rw [r]; exact List.mem_cons_self ..
        · exact List.mem_cons_of_mem _ (List.mem_cons_of_mem _ r)
      · rcases List.mem_cons.mp hy with r | r
        · rw [r]; exact h2 x (List.mem_cons_self ..)
        · rcases List.mem_cons.mp r with r | r
          · rw [r]
            have a := SrtO.lexB_no.mp (by simpa using c : SrtO.lexB z x = false)
            have b := SrtO.lexB_no.mp (h2 x (List.mem_cons_self ..))
            exact SrtO.lexB_no.mpr (by omega)
          · exact h2 y (List.mem_cons_of_mem _ r)
theorem cr_minP (hc : X.calm = true) (hu : X.A.units + 3 < cLine) : CallR X (.builtin "min") (rMinP X.K) := by
  intro pins s σ H vs us Q I r h
  obtain ⟨a, xs, k, rfl, hs, hx, h0, q⟩ := h
  obtain ⟨its, rv, pl, hz⟩ := I.list hs
  rw [Vals.ref1 r]
  cases xs with
  | nil => exact absurd h0 (by decide)
  | cons x0 xr =>
    obtain ⟨as, rd⟩ := Dp.readsAll I _ _ its (dp_prs _ hx) rv
    have hd : PyData.depthAll ((x0 :: xr).map fun x => bD (k x)) ≤ 1 := by
      have := bDs_depth ((x0 :: xr).map k)
      rw [List.map_map] at this
      exact this
    have ha : PySem.W.AlikeAll ((x0 :: xr).map fun x => bD (k x)) := by
      have := PySem.W.alikeAll_datum ((x0 :: xr).map k)
      rw [List.map_map] at this
      exact this
    refine PySem.W.min_list_data (x := bD (k x0)) (xs := xr.map fun x => bD (k x)) (I.ok.hd hc) pl.isList (by simpa using rd) ha (by
      have e : PyData.depthAll (bD (k x0) :: xr.map fun x => bD (k x)) ≤ 1 := hd
      omega) (fun i v g tk bs hv rr kp => ?_)
    have em : PySem.W.minD (bD (k x0)) (xr.map fun x => bD (k x)) = bD (PySem.W.minOf (k x0) (xr.map k)) := by
      have := PySem.W.minD_map (k x0) (xr.map k)
      rw [List.map_map] at this
      exact this
    rw [em] at rr
    obtain ⟨hm, hb⟩ := minOf_spec (k x0) (xr.map k)
    have hv : its[i]? = some v := by simpa using hv
    obtain ⟨x, hxi, rx⟩ : ∃ x, (x0 :: xr)[i]? = some x ∧ RelV x v := by
      have hil : i < its.length := (List.getElem?_eq_some_iff.mp hv).1
      have hxl : i < (x0 :: xr).length := by rw [rv.length]; exact hil
      obtain ⟨u, e1, e2⟩ := rv.get (List.getElem?_eq_getElem hxl)
      rw [hv] at e1
      cases e1
      exact ⟨_, List.getElem?_eq_getElem hxl, e2⟩
    have mx := List.mem_of_getElem? hxi
    obtain ⟨t, et, ht⟩ := hx x mx
    have dx : Dp X.K H x (bD (k x)) := by
      subst et
      exact .tup (.inl (.inl ht)) (.cons (.int _) (.cons (.int _) .nil))
    obtain ⟨as2, r2⟩ := Dp.reads I _ _ _ dx rx
    have e := (Reads.unique (Reads.keeps kp r2) _ _ rr).1
    have e3 : k x = PySem.W.minOf (k x0) (xr.map k) := by
      unfold bD at e
      injection e with e
      injection e with e1 e
      injection e with e2 e
      injection e1 with e1
      injection e2 with e2
      exact Prod.ext e1 e2
    refine ⟨x, H, I.kept kp, rx, q x mx fun y hy => ?_⟩
    rw [e3]
    refine hb (k y) ?_
    rcases List.mem_cons.mp hy with z | z
    · rw [z]; exact List.mem_cons_self ..
    · exact List.mem_cons_of_mem _ (List.mem_map.mpr ⟨y, z, rfl⟩)
/-! ### sorted of data of any kind that compare: the same items -/
theorem each_of {α : Type} {R : Value → α → Prop} : ∀ {vs : List Value} {bs : List α}, Paired (fun b v => R v b) bs vs → PySem.W.EachIs R vs bs
  | _, _, .nil => .nil
  | _, _, .cons h t => .cons h (each_of t)
theorem of_each {α : Type} {R : Value → α → Prop} : ∀ {vs : List Value} {bs : List α}, PySem.W.EachIs R vs bs → Paired (fun b v => R v b) bs vs
  | _, _, .nil => .nil
  | _, _, .cons h t => .cons h (of_each t)
def rSortedD (K : PySem.W.Frag) : List V → Hp → VK → Prop := fun vs H Q => ∃ (a : Addr) (xs : List V) (D : V → PyData), vs = [V.ref a] ∧ SqL K H a xs ∧ (∀ x ∈ xs, Dp K H x (D x)) ∧ PySem.W.AllAlike (xs.map D) ∧ PySem.W.Sortable (xs.map D) ∧ (∀ x ∈ xs, (D x).depth ≤ 40) ∧
  ∀ (ys : List V) (p : Addr), ys.Perm xs → ys = xs.mergeSort (PySem.W.dataLe false D) → H p = none → Q (.ref p) (upd H p (.lst ys))
theorem cr_sortedD (hu : X.A.units + 64 < cLine) : CallR X (.builtin "sorted") (rSortedD X.K) := by
  intro pins s σ H vs us Q I r h
  obtain ⟨a, xs, D, rfl, hs, hd, al, sb, dp, q⟩ := h
  obtain ⟨its, rv, pl, hz⟩ := I.list hs
  rw [Vals.ref1 r]
  have rd : ∀ {xs : List V} {its : List Value}, Vals xs its → (∀ x ∈ xs, Dp X.K H x (D x)) → Paired (fun b v => ∃ as, Reads s.heap v (D b) as) xs its := fun {xs its} rv => by
    induction rv with
    | nil => exact fun _ => .nil
    | cons r t ih => exact fun hd => .cons (Dp.reads I _ _ _ (hd _ (List.mem_cons_self ..)) r) (ih fun x hx => hd x (List.mem_cons_of_mem _ hx))
  refine PySem.W.sorted_data (R := fun v x => RelV x v) (enc := D) (bs := xs) (vs := its) pl.isList (each_of rv) (each_of (rd rv hd)) al sb (by have := rv.length; omega) (fun b hb => by have := dp b hb; omega) fun out len e => ?_
  have rv2 : Vals (xs.mergeSort (PySem.W.dataLe false D)) out := of_each e
  obtain ⟨c, hc⟩ := PyProof.Rows.sortedAll_at s.heap its out.toArray
  have hz2 : s.heap.objs.size ≤ s.heap.objs.size + 1 := Nat.le_succ _
  have hn : H (s.heap.objs.size + 1) = none := I.hok.fresh hz2
  have hl2 : (xs.mergeSort (PySem.W.dataLe false D)).length ≤ sizeLine := by rw [List.length_mergeSort]; have := rv.length; omega
  exact ⟨.ref (s.heap.objs.size + 1), _, I.laid (t' := s.toks) (o := .lst (xs.mergeSort (PySem.W.dataLe false D))) (fun _ _ => PyProof.Rows.sortedAll_old) hz2 ⟨hl2, out, c, rv2, hc⟩, rfl, q _ _ (List.mergeSort_perm ..) rfl hn⟩
/-! ### min of data of any kind that compare: one of the items -/
def rMinW (K : PySem.W.Frag) : List V → Hp → VK → Prop := fun vs H Q => ∃ (a : Addr) (xs : List V) (D : V → PyData), vs = [V.ref a] ∧ SqL K H a xs ∧ (∀ x ∈ xs, Dp K H x (D x)) ∧ PySem.W.AlikeAll (xs.map D) ∧ PyData.depthAll (xs.map D) ≤ 40 ∧ 0 < xs.length ∧ ∀ x ∈ xs, Q x H
theorem dpl_of {K : PySem.W.Frag} {H : Hp} {D : V → PyData} : ∀ xs : List V, (∀ x ∈ xs, Dp K H x (D x)) → DpAll K H xs (xs.map D)
  | [], _ => .nil
  | x :: r, h => .cons (h x (List.mem_cons_self ..)) (dpl_of r fun y hy => h y (List.mem_cons_of_mem _ hy))
theorem cr_minW (hc : X.calm = true) (hu : X.A.units + 64 < cLine) : CallR X (.builtin "min") (rMinW X.K) := by
  intro pins s σ H vs us Q I r h
  obtain ⟨a, xs, D, rfl, hs, hd, al, dp, h0, q⟩ := h
  obtain ⟨its, rv, pl, _⟩ := I.list hs
  rw [Vals.ref1 r]
  cases xs with
  | nil => exact absurd h0 (by decide)
  | cons x0 xr =>
    obtain ⟨as, rd⟩ := Dp.readsAll I _ _ its (dpl_of _ hd) rv
    refine PySem.W.min_list_data (x := D x0) (xs := xr.map D) (I.ok.hd hc) pl.isList (by simpa using rd) al (by
      have e : PyData.depthAll (D x0 :: xr.map D) ≤ 40 := dp
      omega) (fun i v g tk bs hv rr kp => ?_)
    have hv : its[i]? = some v := by simpa using hv
    have hil : i < its.length := (List.getElem?_eq_some_iff.mp hv).1
    have hxl : i < (x0 :: xr).length := by rw [rv.length]; exact hil
    obtain ⟨u, e1, e2⟩ := rv.get (List.getElem?_eq_getElem hxl)
    rw [hv] at e1
    cases e1
    exact ⟨_, H, I.kept kp, e2, q _ (List.getElem_mem hxl)⟩
end
end Ph

/-! PhDr2: repr of data with dicts; only the dicts themselves must not be sys.modules. -/
namespace Ph
open PySem PySem.Spec PyProof.Rows L2
section
variable (P : Program) (w : World) (h : Heap)
/-- u holds d, and shows it within other data -/
def Sh1 (u : Value) (d : PyData) : Prop := (∃ as, Reads h u d as) ∧ (d.showable = true → d.shown.length ≤ sizeLine → ∃ bs, ReadAtMost h d.depth bs ∧ ReprK P w bs h d.depth u d.shown)
def ShA (us : List Value) (ds : List PyData) : Prop := (∃ as, ReadsAll h us ds as) ∧
  (PyData.showableAll ds = true → (∀ t ∈ PyData.shownAll ds, t.length ≤ sizeLine) → ∃ bs, ReadAtMost h (PyData.depthAll ds) bs ∧ ReprAllK P w bs h (PyData.depthAll ds) us (PyData.shownAll ds))
/-- repr(u) -/
def Top (u : Value) (d : PyData) : Prop := ∀ (A : Around) (E : Value → Shared → Prop) (s : Shared) (Q : Value → Shared → Prop), A.guards = some [] → A.units + (d.depth + 1) < cLine → (∀ b o, h.get? b = some o → s.heap.get? b = some o) →
  (∀ h' t k, (∀ b o, s.heap.get? b = some o → h'.get? b = some o) → Q (.str d.shown t) { s with heap := h', toks := k }) → wpAny (model P w) A (call (.builtin "repr") [u]) Q E s
end
section
variable {P : Program} {w : World} {h : Heap}
theorem ShA.nil : ShA P w h [] [] := ⟨⟨_, .nil⟩, fun _ _ => ⟨[], (fun _ z => nomatch z), by simp only [PyData.shownAll]; exact .nil⟩⟩
theorem ShA.cons {u : Value} {us : List Value} {d : PyData} {ds : List PyData} (x : Sh1 P w h u d) (y : ShA P w h us ds) : ShA P w h (u :: us) (d :: ds) := by
  obtain ⟨⟨as, ra⟩, sa⟩ := x
  obtain ⟨⟨bs, rb⟩, sb⟩ := y
  refine ⟨⟨_, .cons ra rb⟩, fun s1 s2 => ?_⟩
  rw [PyData.showableAll, Bool.and_eq_true] at s1
  rw [PyData.shownAll] at s2
  obtain ⟨b1, r1, k1⟩ := sa s1.1 (s2 _ (List.mem_cons_self ..))
  obtain ⟨b2, r2, k2⟩ := sb s1.2 fun t ht => s2 t (List.mem_cons_of_mem _ ht)
  rw [PyData.shownAll, PyData.depthAll]
  refine ⟨b1 ++ b2, (r1.mono (Nat.le_max_left ..)).append (r2.mono (Nat.le_max_right ..)), .cons ?_ ?_⟩
  · exact (k1.more fun b z => List.mem_append_left _ z).level_le (Nat.le_max_left ..)
  · exact k2.more_le (fun b z => List.mem_append_right _ z) (Nat.le_max_right ..)
theorem lst_rd {a : Addr} {o : Obj} {its : List Value} {n : Nat} {ds : List PyData} (ho : h.get? a = some o) (hc : o.cls = .type "list") (hd : o.data = .seq its.toArray n) (x : ShA P w h its ds) : ∃ as, Reads h (.ref a) (.list ds) as := by
  obtain ⟨⟨as, r⟩, _⟩ := x
  exact ⟨_, .list ho hc hd r⟩
theorem sh_lst {a : Addr} {o : Obj} {its : List Value} {n : Nat} {ds : List PyData} (ho : h.get? a = some o) (hc : o.cls = .type "list") (hd : o.data = .seq its.toArray n) (x : ShA P w h its ds) :
    Sh1 P w h (.ref a) (.list ds) ∧ ((PyData.list ds).showable = true → (PyData.list ds).shown.length ≤ sizeLine → Top P w h (.ref a) (.list ds)) := by
  have rr := lst_rd ho hc hd x
  have get : (PyData.list ds).showable = true → (PyData.list ds).shown.length ≤ sizeLine → ∃ bs, ReadAtMost h (PyData.depthAll ds) bs ∧ a ∉ bs ∧ ReprAllK P w bs h (PyData.depthAll ds) its (PyData.shownAll ds) := fun s1 s2 => by
    rw [PyData.showable] at s1
    rw [PyData.shown] at s2
    obtain ⟨bs, b1, k⟩ := x.2 s1 fun t ht => Nat.le_trans (listText_mem_le ht) s2
    obtain ⟨as, r⟩ := rr
    exact ⟨bs, b1, not_mem_of_deeper r (by rw [PyData.depth]; omega) b1, k⟩
  refine ⟨⟨rr, fun s1 s2 => ?_⟩, fun s1 s2 => ?_⟩
  · obtain ⟨bs, b1, na, k⟩ := get s1 s2
    obtain ⟨as, r⟩ := rr
    refine ⟨a :: bs, ReadAtMost.cons r (by rw [PyData.depth]; omega) b1, ?_⟩
    rw [PyData.depth, PyData.shown]
    cases its with
    | nil =>
      have e : PyData.shownAll ds = [] := by
        have := k.length_eq
        exact List.length_eq_zero_iff.mp this
      rw [e, listText_nil]
      exact ReprK.listEmpty ho hc hd
    | cons y l => exact ReprK.list ho hc hd na (by have := k.length_eq; simpa using this) fun i z e => k.item i z (by simpa using e)
  · intro A E s Q hg hu kp hQ
    obtain ⟨bs, b1, na, k⟩ := get s1 s2
    rw [PyData.shown] at s2 hQ
    rw [PyData.depth] at hu
    refine call_repr_slot (by omega) (T := "list") ⟨o, kp _ _ ho, hc⟩ F.slot_list_repr.toG ?_
    cases its with
    | nil =>
      have e : PyData.shownAll ds = [] := by
        have := k.length_eq
        exact List.length_eq_zero_iff.mp this
      rw [e, listText_nil] at hQ
      exact call_list_repr_empty ⟨o, kp _ _ ho, hc⟩ (kp _ _ ho) hd ⟨_, _, rfl, hQ s.heap _ _ fun _ _ z => z⟩
    | cons y l =>
      exact call_list_reprK ho hc hd na (by have := k.length_eq; simpa using this) (fun i z e => k.item i z (by simpa using e)) hg (fun b _ => Clear.nil b) (by show A.units + 1 + (PyData.depthAll ds + 1) < cLine; omega) kp (fun h' t q z => ⟨_, _, rfl, hQ h' t q z⟩) s2
theorem sh_tup {a : Addr} {o : Obj} {its : Array Value} {n : Nat} {ds : List PyData} (ho : h.get? a = some o) (hc : o.cls = .type "tuple") (hd : o.data = .seq its n) (x : ShA P w h its.toList ds) :
    Sh1 P w h (.ref a) (.tuple ds) ∧ ((PyData.tuple ds).showable = true → (PyData.tuple ds).shown.length ≤ sizeLine → Top P w h (.ref a) (.tuple ds)) := by
  obtain ⟨as, r0⟩ := x.1
  have r : Reads h (.ref a) (.tuple ds) as := .tuple ho hc hd r0
  have get : (PyData.tuple ds).showable = true → (PyData.tuple ds).shown.length ≤ sizeLine → ∃ bs, ReadAtMost h (PyData.depthAll ds) bs ∧ a ∉ bs ∧ ReprAllK P w bs h (PyData.depthAll ds) its.toList (PyData.shownAll ds) := fun s1 s2 => by
    rw [PyData.showable] at s1
    rw [PyData.shown] at s2
    obtain ⟨bs, b1, k⟩ := x.2 s1 fun t ht => Nat.le_trans (tupleText_mem_le ht) s2
    exact ⟨bs, b1, not_mem_of_deeper r (by rw [PyData.depth]; omega) b1, k⟩
  refine ⟨⟨⟨_, r⟩, fun s1 s2 => ?_⟩, fun s1 s2 A E s Q hg hu kp hQ => ?_⟩
  · obtain ⟨bs, b1, na, k⟩ := get s1 s2
    refine ⟨a :: bs, ReadAtMost.cons r (by rw [PyData.depth]; omega) b1, ?_⟩
    rw [PyData.depth, PyData.shown]
    exact ReprK.tuple ho hc hd na k
  · obtain ⟨bs, b1, na, k⟩ := get s1 s2
    rw [PyData.shown] at s2 hQ
    rw [PyData.depth] at hu
    refine call_repr_slot (by omega) (T := "tuple") ⟨o, kp _ _ ho, hc⟩ F.slot_tuple_repr ?_
    exact call_tuple_reprK ho hc hd na k hg (fun b _ => Clear.nil b) (by show A.units + 1 + (PyData.depthAll ds + 1) < cLine; omega) kp (fun h' t q z => ⟨_, _, rfl, hQ h' t q z⟩) s2
theorem sh_dct {a : Addr} {o : Obj} {es : Array DictEntry} {n : Nat} {D : List (PyData × PyData)} (ho : h.get? a = some o) (hc : o.cls = .type "dict") (hd : o.data = .dict es n) (ne : (a == sysModules) = false)
    (x : ShA P w h (es.toList.map (·.key)) (D.map (·.1))) (y : ShA P w h (es.toList.map (·.val)) (D.map (·.2))) :
    Sh1 P w h (.ref a) (.dict D) ∧ ((PyData.dict D).showable = true → (PyData.dict D).shown.length ≤ sizeLine → Top P w h (.ref a) (.dict D)) := by
  obtain ⟨a1, r1⟩ := x.1
  obtain ⟨a2, r2⟩ := y.1
  have r : Reads h (.ref a) (.dict D) _ := .dict ho hc hd r1 r2
  have get : (PyData.dict D).showable = true → (PyData.dict D).shown.length ≤ sizeLine → ∃ bs, ReadAtMost h (PyData.depthKv D) bs ∧ a ∉ bs ∧ ReprEntriesK P w bs h (PyData.depthKv D) es.toList (PyData.shownKv D) := fun s1 s2 => by
    rw [PyData.showable] at s1
    rw [PyData.shown] at s2
    obtain ⟨q1, q2⟩ := PyData.showableKv_split D s1
    obtain ⟨b1, m1, k1⟩ := x.2 q1 fun t ht => by
      obtain ⟨p, hp, l⟩ := PyData.shownKv_key_le D t ht
      exact Nat.le_trans l (Nat.le_trans (dictText_mem_le hp) s2)
    obtain ⟨b2, m2, k2⟩ := y.2 q2 fun t ht => by
      obtain ⟨p, hp, l⟩ := PyData.shownKv_val_le D t ht
      exact Nat.le_trans l (Nat.le_trans (dictText_mem_le hp) s2)
    have m := (m1.mono (PyData.depthAll_keys_le D)).append (m2.mono (PyData.depthAll_vals_le D))
    refine ⟨b1 ++ b2, m, not_mem_of_deeper r (by rw [PyData.depth]; omega) m, ?_⟩
    rw [PyData.shownKv_eq]
    refine ReprEntriesK.of_two es.toList _ _ ?_ ?_
    · exact k1.more_le (fun b z => List.mem_append_left _ z) (PyData.depthAll_keys_le D)
    · exact k2.more_le (fun b z => List.mem_append_right _ z) (PyData.depthAll_vals_le D)
  refine ⟨⟨⟨_, r⟩, fun s1 s2 => ?_⟩, fun s1 s2 A E s Q hg hu kp hQ => ?_⟩
  · obtain ⟨bs, b1, na, k⟩ := get s1 s2
    refine ⟨a :: bs, ReadAtMost.cons r (by rw [PyData.depth]; omega) b1, ?_⟩
    rw [PyData.depth, PyData.shown]
    exact ReprK.dict ho hc hd ne na k
  · obtain ⟨bs, b1, na, k⟩ := get s1 s2
    rw [PyData.shown] at s2 hQ
    rw [PyData.depth] at hu
    refine call_repr_slot (by omega) (T := "dict") ⟨o, kp _ _ ho, hc⟩ F.slot_dict_repr ?_
    exact call_dict_reprK ho hc hd ne na k hg (fun b _ => Clear.nil b) (by show A.units + 1 + (PyData.depthKv D + 1) < cLine; omega) kp (fun h' t q z => ⟨_, _, rfl, hQ h' t q z⟩) s2
end
end Ph

/-! PhDk: data with dicts (keys: ints and texts): read off the heap, and repr of it. -/
namespace Ph
open PySem PySem.Spec PyProof.Rows L2
def keyD : Key → PyData
  | .inl i => .int i
  | .inr x => .str x
mutual
inductive Dq (K : PySem.W.Frag) (H : Hp) : V → PyData → Prop
  | non : Dq K H .non .none
  | bl (b : Bool) : Dq K H (.bl b) (.bool b)
  | int (i : Int) : Dq K H (.int i) (.int i)
  | str (x : Str) : Dq K H (.str x) (.str x)
  | lst {a : Addr} {xs : List V} {ds : List PyData} (hs : SqL K H a xs) (ha : DqAll K H xs ds) : Dq K H (.ref a) (.list ds)
  | tup {a : Addr} {xs : List V} {ds : List PyData} (hs : SqT K H a xs) (ha : DqAll K H xs ds) : Dq K H (.ref a) (.tuple ds)
  | dct {a : Addr} {kvs : List (Key × V)} {ds : List (PyData × PyData)} (hs : Rd H a (.dK kvs)) (ha : DqKvs K H kvs ds) : Dq K H (.ref a) (.dict ds)
inductive DqAll (K : PySem.W.Frag) (H : Hp) : List V → List PyData → Prop
  | nil : DqAll K H [] []
  | cons {v : V} {vs : List V} {d : PyData} {ds : List PyData} (h : Dq K H v d) (r : DqAll K H vs ds) : DqAll K H (v :: vs) (d :: ds)
inductive DqKvs (K : PySem.W.Frag) (H : Hp) : List (Key × V) → List (PyData × PyData) → Prop
  | nil : DqKvs K H [] []
  | cons {k : Key} {v : V} {r : List (Key × V)} {d : PyData} {ds : List (PyData × PyData)} (h : Dq K H v d) (t : DqKvs K H r ds) : DqKvs K H ((k, v) :: r) ((keyD k, d) :: ds)
end
theorem sh_key {P : Program} {w : World} {h : Heap} (k : Key) (u : Value) (e : (mixKind P w).is k u = true) (hi : ∀ i, k = .inl i → (PyData.int i).showable = true → i.natAbs.log2 < 1920) : Sh1 P w h u (keyD k) := by
  rcases keyIs_shape e with ⟨i, t, rfl, rfl⟩ | ⟨x, t, rfl, rfl⟩
  · exact ⟨⟨_, .int i t⟩, fun s1 _ => ⟨[], (fun _ z => nomatch z), by simp only [keyD, PyData.shown]; exact .of_is (ReprIs.int t (hi i rfl s1)) _ _ _⟩⟩
  · exact ⟨⟨_, .str x t⟩, fun _ s2 => ⟨[], (fun _ z => nomatch z), by simp only [keyD, PyData.shown] at s2 ⊢; exact .of_is (ReprIs.str x t s2) _ _ _⟩⟩
theorem int_sh {i : Int} (h : (PyData.int i).showable = true) : i.natAbs.log2 < 1920 := by simpa [PyData.showable] using h
section
variable {X : Cx} {pins : List (Addr × Obj)} {σ : L2.St} {H : Hp} {s : Shared}
theorem Dq.sh (I : Inv X pins σ H s) {v : V} {d : PyData} (h : Dq X.K H v d) : ∀ u, RelV v u → Sh1 X.prog X.w s.heap u d ∧ ∀ a, v = .ref a → d.showable = true → d.shown.length ≤ sizeLine → Top X.prog X.w s.heap u d := by
  refine @Dq.rec X.K H (fun v d _ => ∀ u, RelV v u → Sh1 X.prog X.w s.heap u d ∧ ∀ a, v = .ref a → d.showable = true → d.shown.length ≤ sizeLine → Top X.prog X.w s.heap u d) (fun vs ds _ => ∀ us, Vals vs us → ShA X.prog X.w s.heap us ds)
    (fun kvs D _ => ∀ es us, Pairs (mixKind X.prog X.w) es us → KV kvs us → ShA X.prog X.w s.heap (es.map (·.key)) (D.map (·.1)) ∧ ShA X.prog X.w s.heap (es.map (·.val)) (D.map (·.2))) ?_ ?_ ?_ ?_ ?_ ?_ ?_ ?_ ?_ ?_ ?_ v d h
  · intro u r
    obtain rfl : u = Value.none := r
    exact ⟨⟨⟨_, .none⟩, fun _ _ => ⟨[], (fun _ z => nomatch z), by simp only [PyData.shown]; exact .of_is ReprIs.none _ _ _⟩⟩, fun a z => nomatch z⟩
  · intro b u r
    obtain rfl : u = Value.bool b := r
    exact ⟨⟨⟨_, .bool b⟩, fun _ _ => ⟨[], (fun _ z => nomatch z), by simp only [PyData.shown]; exact .of_is (ReprIs.bool b) _ _ _⟩⟩, fun a z => nomatch z⟩
  · rintro i u ⟨t, rfl⟩
    exact ⟨⟨⟨_, .int i t⟩, fun s1 _ => ⟨[], (fun _ z => nomatch z), by simp only [PyData.shown]; exact .of_is (ReprIs.int t (int_sh s1)) _ _ _⟩⟩, fun a z => nomatch z⟩
  · rintro x u ⟨t, rfl⟩
    exact ⟨⟨⟨_, .str x t⟩, fun _ s2 => ⟨[], (fun _ z => nomatch z), by simp only [PyData.shown] at s2 ⊢; exact .of_is (ReprIs.str x t s2) _ _ _⟩⟩, fun a z => nomatch z⟩
  · intro a xs ds hs _ ih u r
    obtain rfl : u = Value.ref a := r
    obtain ⟨its, rv, ⟨o, n, ho, hc, _, hd⟩, _⟩ := I.list hs
    obtain ⟨x1, x2⟩ := sh_lst ho hc hd (ih _ rv)
    exact ⟨x1, fun _ _ => x2⟩
  · intro a xs ds hs _ ih u r
    obtain rfl : u = Value.ref a := r
    obtain ⟨its, rv, ⟨o, ho, hc, n, hd⟩, _⟩ := I.tuple hs
    obtain ⟨x1, x2⟩ := sh_tup ho hc hd (by simpa using ih _ rv)
    exact ⟨x1, fun _ _ => x2⟩
  · intro a kvs D hs _ ih u r
    obtain rfl : u = Value.ref a := r
    obtain ⟨_, ne, vs, kv, o, es, ep, ho, hx, hdat, _, hp, _⟩ := hs.ok I.hok
    obtain ⟨k1, k2⟩ := ih _ _ hp kv
    obtain ⟨x1, x2⟩ := sh_dct ho hx.1 hdat ne k1 k2
    exact ⟨x1, fun _ _ => x2⟩
  · intro us r
    cases r
    exact .nil
  · intro v vs d ds _ _ i1 i2 us r
    cases r with
    | cons r1 r2 => exact .cons (i1 _ r1).1 (i2 _ r2)
  · intro es us p r
    cases r
    cases p
    exact ⟨.nil, .nil⟩
  · intro k v r d ds _ _ i1 i2 es us p rr
    cases rr with
    | @cons _ q _ _ r1 r2 =>
      obtain ⟨k', u⟩ := q
      obtain ⟨e, ru⟩ := r1
      obtain rfl : k = k' := e
      cases p with
      | cons hk hv p2 =>
        obtain ⟨j1, j2⟩ := i2 _ _ p2 r2
        refine ⟨.cons (sh_key k _ hk fun i _ z => int_sh z) j1, .cons ?_ j2⟩
        show Sh1 _ _ _ (DictEntry.val _) d
        rw [hv]
        exact (i1 _ ru).1
end
section
variable {X : Cx}
/-- repr(x), x any data -/
def rRqA (K : PySem.W.Frag) : List V → Hp → VK → Prop := fun xs H Q => ∃ (x : V) (d : PyData), xs = [x] ∧ Dq K H x d ∧ d.showable = true ∧ d.depth ≤ 60 ∧ d.shown.length ≤ sizeLine ∧ Q (.str d.shown) H
theorem call_rqA (hgu : X.A.guards = some []) (hu : X.A.units + 64 < cLine) : CallR X (.builtin "repr") (rRqA X.K) := by
  intro pins s σ H xs us Q I r h
  obtain ⟨x, d, rfl, dq, sh, dp, ln, q⟩ := h
  obtain ⟨u, rfl, ru⟩ := vals1 r
  have ref : ∀ a, x = .ref a → wpAny (model X.prog X.w) X.A (call (.builtin "repr") [u]) (EP X pins σ Q) X.xe s := fun a e =>
    (dq.sh I u ru).2 a e sh ln X.A X.xe s _ hgu (by omega) (fun _ _ z => z) fun h' t k keep => ⟨.str _, H, I.kept keep, ⟨_, rfl⟩, q⟩
  cases dq with
  | non =>
    obtain rfl : u = Value.none := ru
    exact P.repr_of_none ⟨.str _, H, I.tok _, ⟨_, rfl⟩, by simpa only [PyData.shown] using q⟩
  | bl b =>
    obtain rfl : u = Value.bool b := ru
    exact P.repr_of_bool ⟨.str _, H, I.tok _, ⟨_, rfl⟩, by simpa only [PyData.shown] using q⟩
  | int i =>
    obtain ⟨t, rfl⟩ := ru
    exact P.repr_of_int (int_sh sh) ⟨.str _, H, I.tok _, ⟨_, rfl⟩, by simpa only [PyData.shown] using q⟩
  | str y =>
    obtain ⟨t, rfl⟩ := ru
    exact P.repr_of_str ⟨.str _, H, I.tok _, ⟨_, rfl⟩, by simpa only [PyData.shown] using q⟩ (by simpa only [PyData.shown] using ln)
  | lst _ _ => exact ref _ rfl
  | tup _ _ => exact ref _ rfl
  | dct _ _ => exact ref _ rfl
end
end Ph

set_option maxHeartbeats 4000000
/-! PhKd: dicts whose keys are tuples of tuples (KD): {}, {k: v}, k in d, k not in d, d[k], d[k] = v. -/
namespace Ph
open PySem PySem.Spec PyProof.Rows L2
/-- a tuple, plain or frozen -/
def TuH (H : Hp) (a : Addr) (xs : List V) : Prop := H a = some (.tup xs) ∨ ∃ o, H a = some (.frz o (.tup xs))
theorem TuH.same {H H' : Hp} {a : Addr} {xs : List V} (h : TuH H a xs) (s : Same H H') : TuH H' a xs := h.imp (s _ _) fun ⟨o, e⟩ => ⟨o, s _ _ e⟩
mutual
/-- a value as a key -/
inductive Nk (H : Hp) : V → NestedKey → Prop
  | non : Nk H .non .none
  | int (i : Int) : Nk H (.int i) (.num i)
  | str (x : Str) : Nk H (.str x) (.text x)
  | tup {a : Addr} {xs : List V} {ks : List NestedKey} : TuH H a xs → NkAll H xs ks → Nk H (.ref a) (.tup ks)
inductive NkAll (H : Hp) : List V → List NestedKey → Prop
  | nil : NkAll H [] []
  | cons {x : V} {xs : List V} {k : NestedKey} {ks : List NestedKey} : Nk H x k → NkAll H xs ks → NkAll H (x :: xs) (k :: ks)
end
theorem Nk.keeps {H H' : Hp} (s : ∀ a xs, TuH H a xs → TuH H' a xs) {v : V} {k : NestedKey} (h : Nk H v k) : Nk H' v k := by
  refine @Nk.rec H (fun v k _ => Nk H' v k) (fun vs ks _ => NkAll H' vs ks) ?_ ?_ ?_ ?_ ?_ ?_ v k h
  · exact .non
  · exact .int
  · exact .str
  · exact fun e _ ih => .tup (s _ _ e) ih
  · exact .nil
  · exact fun _ _ i1 i2 => .cons i1 i2
theorem Nk.same {H H' : Hp} (s : Same H H') {v : V} {k : NestedKey} (h : Nk H v k) : Nk H' v k := h.keeps fun _ _ e => e.same s
theorem tuH_is {P : Program} {w : World} {H : Hp} {h : Heap} (ok : HOk P w H h) {a : Addr} {xs : List V} (e : TuH H a xs) : ∃ o its n, h.get? a = some o ∧ o.cls = .type "tuple" ∧ o.data = .seq its n ∧ Vals xs its.toList := by
  have x : ObjOk P w H h a (.tup xs) := by
    rcases e with e | ⟨o, e⟩
    · exact ok a _ e
    · exact (show ObjOk P w H h a (.frz o (.tup xs)) from ok a _ e).2
  obtain ⟨_, its, rv, o, ho, hc, n, hdat⟩ := x
  exact ⟨o, its.toArray, n, ho, hc, hdat, by simpa using rv⟩
theorem Nk.is {P : Program} {w : World} {H : Hp} {h : Heap} (ok : HOk P w H h) {v : V} {k : NestedKey} (n : Nk H v k) : ∀ u, RelV v u → NestedIs h k u := by
  refine @Nk.rec H (fun v k _ => ∀ u, RelV v u → NestedIs h k u) (fun vs ks _ => ∀ us, Vals vs us → NestedAll h ks us) ?_ ?_ ?_ ?_ ?_ ?_ v k n
  · intro u r
    cases (show u = Value.none from r)
    exact .none
  · intro i u r
    obtain ⟨t, rfl⟩ := (show ∃ t, u = Value.int i t from r)
    exact .int i t
  · intro x u r
    obtain ⟨t, rfl⟩ := (show ∃ t, u = Value.str x t from r)
    exact .text x t
  · intro a xs ks e _ ih u r
    cases (show u = Value.ref a from r)
    obtain ⟨o, its, m, ho, hc, hd, rv⟩ := tuH_is ok e
    exact .tup ho hc hd (ih _ rv)
  · intro us r
    cases r
    exact .nil
  · intro x xs k ks _ _ i1 i2 us r
    cases r with
    | cons r1 r2 => exact .cons (i1 _ r1) (i2 _ r2)
/-! ### the dict as an object -/
abbrev KAV := NestedKey × Addr × V
abbrev NR : List KAV → List (NestedKey × Addr × Value) → Prop := Paired fun p q => p.1 = q.1 ∧ p.2.1 = q.2.1 ∧ RelV p.2.2 q.2.2
def kv2 (x : KAV) : NestedKey × V := (x.1, x.2.2)
def enK (w : World) (x : NestedKey × Addr × Value) : DictEntry := ⟨x.1.hash w, .ref x.2.1, x.2.2⟩
def dkO (w : World) (d : Addr) (xs : List KAV) : HO := .ext fun h => ∃ o es ep, h.get? d = some o ∧ o.ExactDict ∧ o.data = .dict es ep ∧ ∃ ys, es.toList = ys.map (enK w) ∧ NR xs ys
/-- a dict with the keys and values kvs, in this order -/
def KD (w : World) (H : Hp) (d : Addr) (kvs : List (NestedKey × V)) : Prop := ∃ xs, H d = some (dkO w d xs) ∧ (d == sysModules) = false ∧ xs.map kv2 = kvs ∧ (∀ x ∈ xs, Nk H (.ref x.2.1) x.1 ∧ x.1.depth ≤ 8) ∧ (xs.map (·.1)).Nodup ∧ xs.length ≤ sizeLine
theorem KD.len {w : World} {H : Hp} {d : Addr} {kvs : List (NestedKey × V)} (k : KD w H d kvs) : kvs.length ≤ sizeLine := by
  obtain ⟨xs, _, _, rfl, _, _, l⟩ := k
  rw [List.length_map]
  exact l
theorem KD.nodup {w : World} {H : Hp} {d : Addr} {kvs : List (NestedKey × V)} (k : KD w H d kvs) : (kvs.map (·.1)).Nodup := by
  obtain ⟨xs, _, _, rfl, _, n, _⟩ := k
  rw [List.map_map]
  exact n
/-- what keeps d and all tuples keeps the dict -/
theorem KD.keeps {w : World} {H H' : Hp} {d : Addr} {kvs : List (NestedKey × V)} (k : KD w H d kvs) (s : ∀ a xs, TuH H a xs → TuH H' a xs) (e : ∀ u, H d = some u → H' d = some u) : KD w H' d kvs := by
  obtain ⟨xs, hd, hs, he, hk, hn, hl⟩ := k
  exact ⟨xs, e _ hd, hs, he, fun x hx => ⟨(hk x hx).1.keeps s, (hk x hx).2⟩, hn, hl⟩
theorem KD.same {w : World} {H H' : Hp} {d : Addr} {kvs : List (NestedKey × V)} (k : KD w H d kvs) (s : Same H H') : KD w H' d kvs := k.keeps (fun _ _ e => e.same s) fun _ e => s _ _ e
theorem KD.ext {w : World} {H : Hp} {d : Addr} {kvs : List (NestedKey × V)} (k : KD w H d kvs) : ∃ φ, H d = some (.ext φ) := by
  obtain ⟨xs, hd, _⟩ := k
  exact ⟨_, hd⟩
theorem NR.keys {xs : List KAV} {ys : List (NestedKey × Addr × Value)} (r : NR xs ys) : xs.map (·.1) = ys.map (·.1) := by
  induction r with
  | nil => rfl
  | cons h _ ih => rw [List.map_cons, List.map_cons, ih, h.1]
theorem NR.mem {xs : List KAV} {ys : List (NestedKey × Addr × Value)} (r : NR xs ys) {y : NestedKey × Addr × Value} (hy : y ∈ ys) : ∃ x ∈ xs, x.1 = y.1 ∧ x.2.1 = y.2.1 ∧ RelV x.2.2 y.2.2 := by
  induction r with
  | nil => exact nomatch hy
  | cons q _ ih =>
    rcases List.mem_cons.mp hy with e | hy
    · rw [e]
      exact ⟨_, List.mem_cons_self, q⟩
    · obtain ⟨x, hx, z⟩ := ih hy
      exact ⟨x, List.mem_cons_of_mem _ hx, z⟩
theorem kd_of {P : Program} {w : World} {H : Hp} {h : Heap} {d : Addr} {xs : List KAV} (ok : HOk P w H h) (hd : H d = some (dkO w d xs)) (hk : ∀ x ∈ xs, Nk H (.ref x.2.1) x.1 ∧ x.1.depth ≤ 8) (hn : (xs.map (·.1)).Nodup) :
    ∃ ys, NR xs ys ∧ h.DictOfH (nestedKind P w) d ys := by
  obtain ⟨⟨o, es, ep, ho, hc, hdat, ys, he, r⟩, _⟩ := (show ObjOk P w H h d (dkO w d xs) from ok d _ hd)
  refine ⟨ys, r, o, es, ep, ho, hc, hdat, he, fun y hy => ?_, by rw [← r.keys]; exact hn⟩
  obtain ⟨x, hx, e1, e2, _⟩ := r.mem hy
  have := hk x hx
  rw [e1, e2] at this
  exact ⟨this.1.is ok _ rfl, this.2⟩
theorem NR.val {xs : List KAV} {ys : List (NestedKey × Addr × Value)} (r : NR xs ys) (k : NestedKey) : RelO (valV (xs.map kv2) k) ((atKey ys k).map (·.2)) := by
  induction r with
  | nil => exact True.intro
  | @cons p q ps qs z t ih =>
    obtain ⟨z1, _, z3⟩ := z
    rw [List.map_cons]
    by_cases e : p.1 = k
    · have e' : q.1 = k := z1.symm.trans e
      have b : atKey (q :: qs) k = some q.2 := by simp [atKey, List.find?_cons, e']
      rw [valV_pos (show (kv2 p).1 = k from e), b]
      exact z3
    · have e' : ¬ q.1 = k := fun y => e (z1.trans y)
      have b : atKey (q :: qs) k = atKey qs k := by simp [atKey, List.find?_cons, e']
      rw [valV_neg (show ¬ (kv2 p).1 = k from e), b]
      exact ih
/-- the table behind d[k] = v -/
def putX (xs : List KAV) (k : NestedKey) (b : Addr) (v : V) : List KAV := if (valV (xs.map kv2) k).isSome then xs.map (fun x => if x.1 = k then (x.1, x.2.1, v) else x) else xs ++ [(k, b, v)]
theorem NR.put {xs : List KAV} {ys : List (NestedKey × Addr × Value)} (r : NR xs ys) {k : NestedKey} {b : Addr} {v : V} {u : Value} (rv : RelV v u) : NR (putX xs k b v) (storedH ys k b u) := by
  have e : (valV (xs.map kv2) k).isSome = (atKey ys k).isSome := by rw [(r.val k).isSome_eq, Option.isSome_map]
  unfold putX storedH
  rw [e]
  by_cases c : (atKey ys k).isSome = true
  · rw [if_pos c, if_pos c]
    clear e c
    induction r with
    | nil => exact .nil
    | @cons p q ps qs z t ih =>
      rw [List.map_cons, List.map_cons]
      refine .cons ?_ ih
      obtain ⟨z1, z2, z3⟩ := z
      unfold putAt
      by_cases e : p.1 = k
      · rw [if_pos e, if_pos (z1.symm.trans e)]
        exact ⟨z1, z2, rv⟩
      · rw [if_neg e, if_neg (fun y => e (z1.trans y))]
        exact ⟨z1, z2, z3⟩
  · rw [if_neg c, if_neg c]
    exact Paired.snoc r ⟨rfl, rfl, rv⟩
theorem putX_map (xs : List KAV) (k : NestedKey) (b : Addr) (v : V) : (putX xs k b v).map kv2 = putK (xs.map kv2) k v := by
  unfold putX putK
  rw [valV_any]
  by_cases c : (valV (xs.map kv2) k).isSome = true
  · rw [if_pos c, if_pos c, List.map_map, List.map_map]
    refine List.map_congr_left fun x _ => ?_
    show kv2 (if x.1 = k then (x.1, x.2.1, v) else x) = if (kv2 x).1 = k then ((kv2 x).1, v) else kv2 x
    by_cases e : x.1 = k
    · rw [if_pos e, if_pos (show (kv2 x).1 = k from e)]
      rfl
    · rw [if_neg e, if_neg (show ¬ (kv2 x).1 = k from e)]
  · rw [if_neg c, if_neg c, List.map_append]
    rfl
theorem putX_mem {xs : List KAV} {k : NestedKey} {b : Addr} {v : V} {x : KAV} (h : x ∈ putX xs k b v) : (x.1 = k ∧ x.2.1 = b) ∨ ∃ y ∈ xs, x.1 = y.1 ∧ x.2.1 = y.2.1 := by
  unfold putX at h
  split at h
  · obtain ⟨y, hy, rfl⟩ := List.mem_map.mp h
    refine .inr ⟨y, hy, ?_⟩
    split <;> exact ⟨rfl, rfl⟩
  · rcases List.mem_append.mp h with h | h
    · exact .inr ⟨x, h, rfl, rfl⟩
    · rw [List.mem_singleton.mp h]
      exact .inl ⟨rfl, rfl⟩
theorem putX_len (xs : List KAV) (k : NestedKey) (b : Addr) (v : V) : (putX xs k b v).length ≤ xs.length + 1 := by
  unfold putX
  split
  · rw [List.length_map]
    omega
  · rw [List.length_append]
    exact Nat.le_refl _
theorem dkO_ok {P : Program} {w : World} {H : Hp} {h : Heap} {d : Addr} {xs : List KAV} {ys : List (NestedKey × Addr × Value)} (r : NR xs ys) (x : h.DictOfH (nestedKind P w) d ys) : ObjOk P w H h d (dkO w d xs) := by
  obtain ⟨o, es, ep, ho, hc, hdat, he, _, _⟩ := x
  refine ⟨⟨o, es, ep, ho, hc, hdat, ys, he, r⟩, ⟨o, ho⟩, fun h1 h2 z k => ?_⟩
  obtain ⟨o2, es2, ep2, ho2, z2⟩ := z
  exact ⟨o2, es2, ep2, k _ ho2, z2⟩
section
variable {X : Cx} {pins : List (Addr × Obj)} {σ : L2.St} {H : Hp} {s : Shared} {d b : Addr} {v : V} {kvs : List (NestedKey × V)} {k : NestedKey} {A : Around} {E : Value → Shared → Prop}
theorem nk_room {P : Program} {w : World} {A : Around} (hu : A.units + 64 < cLine) : (nestedKind P w).room A.in1 := by
  show A.units + 1 + 8 < cLine
  omega
theorem nk_roomD {P : Program} {w : World} {A : Around} (hu : A.units + 64 < cLine) : (nestedKind P w).room A := by
  show A.units + 8 < cLine
  omega
theorem nk_key (I : Inv X pins σ H s) (n : Nk H (.ref b) k) (dp : k.depth ≤ 8) : (nestedKind X.prog X.w).is s.heap k b := ⟨n.is I.hok _ rfl, dp⟩
theorem kd_get {Q : Value → Shared → Prop} (hu : A.units + 64 < cLine) (I : Inv X pins σ H s) (D : KD X.w H d kvs) (n : Nk H (.ref b) k) (dp : k.depth ≤ 8) (hv : valV kvs k = some v) (h : ∀ w' s', Inv X pins σ H s' → RelV v w' → Q w' s') :
    s.TypeIs (.ref d) "dict" ∧ wpAny (model X.prog X.w) A (getItem (.ref d) (.ref b)) Q E s := by
  obtain ⟨xs, hd, hs, rfl, hk, hn, hl⟩ := D
  obtain ⟨ys, r, dd⟩ := kd_of I.hok hd hk hn
  obtain ⟨w', hw, rw'⟩ := RelO.some_of (v := v) (o := (atKey ys k).map (·.2)) (by rw [← hv]; exact r.val k)
  obtain ⟨p, hp, hp2⟩ := Option.map_eq_some_iff.mp hw
  refine ⟨dd.typeIs, wpAny_getItem_heap (nk_room hu) (nk_key I n dp) dd hp ?_⟩
  rw [hp2]
  exact h w' _ (I.tok _) rw'
theorem kd_in {Q : Value → Shared → Prop} (hu : A.units + 64 < cLine) (I : Inv X pins σ H s) (D : KD X.w H d kvs) (n : Nk H (.ref b) k) (dp : k.depth ≤ 8) (h : ∀ s', Inv X pins σ H s' → Q (.bool (valV kvs k).isSome) s') :
    wpAny (model X.prog X.w) A (compareOp .In (.ref b) (.ref d)) Q E s := by
  obtain ⟨xs, hd, hs, rfl, hk, hn, hl⟩ := D
  obtain ⟨ys, r, dd⟩ := kd_of I.hok hd hk hn
  refine wpAny_in_heap (nk_room hu) (nk_key I n dp) hs dd ?_
  have e := (r.val k).isSome_eq
  rw [Option.isSome_map] at e
  rw [← e]
  exact h _ (I.tok _)
theorem kd_notIn {Q : Value → Shared → Prop} (hu : A.units + 64 < cLine) (I : Inv X pins σ H s) (D : KD X.w H d kvs) (n : Nk H (.ref b) k) (dp : k.depth ≤ 8) (h : ∀ s', Inv X pins σ H s' → Q (.bool (!(valV kvs k).isSome)) s') :
    wpAny (model X.prog X.w) A (compareOp .NotIn (.ref b) (.ref d)) Q E s := by
  obtain ⟨xs, hd, hs, rfl, hk, hn, hl⟩ := D
  obtain ⟨ys, r, dd⟩ := kd_of I.hok hd hk hn
  refine wpAny_notIn_heap (nk_room hu) (nk_key I n dp) hs dd ?_
  have e := (r.val k).isSome_eq
  rw [Option.isSome_map] at e
  rw [← e]
  exact h _ (I.tok _)
/-- the dict written: what the heap is then -/
theorem kd_new {w : World} {H : Hp} {xs : List KAV} {k : NestedKey} {b : Addr} {v : V} (hs : (d == sysModules) = false) (hk : ∀ x ∈ xs, Nk H (.ref x.2.1) x.1 ∧ x.1.depth ≤ 8) (n : Nk H (.ref b) k) (dp : k.depth ≤ 8) (hd : ∀ a zs, TuH H a zs → a ≠ d) (nd : ((putX xs k b v).map (·.1)).Nodup) (hl : xs.length < sizeLine) :
    KD w (upd H d (dkO w d (putX xs k b v))) d (putK (xs.map kv2) k v) := by
  have st : ∀ a zs, TuH H a zs → TuH (upd H d (dkO w d (putX xs k b v))) a zs := fun a zs e => by
    have ne := hd a zs e
    rcases e with e | ⟨o, e⟩
    · exact .inl ((upd_ne ne).trans e)
    · exact .inr ⟨o, (upd_ne ne).trans e⟩
  refine ⟨putX xs k b v, upd_same, hs, putX_map xs k b v, fun x hx => ?_, nd, Nat.le_trans (putX_len xs k b v) hl⟩
  rcases putX_mem hx with ⟨e1, e2⟩ | ⟨y, hy, e1, e2⟩
  · rw [e1, e2]
    exact ⟨n.keeps st, dp⟩
  · rw [e1, e2]
    exact ⟨(hk y hy).1.keeps st, (hk y hy).2⟩
theorem kd_set {Q : Unit → Shared → Prop} {r : Value} (hu : A.units + 64 < cLine) (I : Inv X pins σ H s) (D : KD X.w H d kvs) (n : Nk H (.ref b) k) (dp : k.depth ≤ 8) (hl : kvs.length < sizeLine) (rv : RelV v r)
    (h : ∀ H' s', But d H H' → KD X.w H' d (putK kvs k v) → Inv X pins σ H' s' → Q () s') : wpAny (model X.prog X.w) A (setItem (.ref d) (.ref b) r) Q E s := by
  obtain ⟨xs, hd, hs, rfl, hk, hn, hl0⟩ := D
  rw [List.length_map] at hl
  obtain ⟨ys, rr, dd⟩ := kd_of I.hok hd hk hn
  have yl : ys.length ≤ sizeLine := by rw [← Paired.length rr]; exact hl0
  refine wpAny_setItem_heap (hsz := yl) (nk_room hu) (nk_key I n dp) dd fun h' dd' hsb => ?_
  have r2 := rr.put (k := k) (b := b) rv
  have nd : ((putX xs k b v).map (·.1)).Nodup := by
    obtain ⟨_, _, _, _, _, _, _, _, q⟩ := id dd'
    rw [r2.keys]
    exact q
  have tn : ∀ a zs, TuH H a zs → a ≠ d := fun a zs e z => by
    rw [z] at e
    rcases e with e | ⟨o, e⟩ <;> rw [hd] at e <;> cases e
  refine h _ _ (fun c o nc e => (upd_ne nc).trans e) (kd_new hs hk n dp tn nd hl) (I.write (x := d) (e := d) (by rw [hd]; exact True.intro) (.inl rfl) (fun c q hc z => (hsb.2 c hc).trans z) ?_ (dkO_ok r2 dd'))
  obtain ⟨q, _, _, hq, _⟩ := dd'
  exact ⟨q, hq⟩
end
/-! ### rules -/
/-- d[k] -/
def rKGet (w : World) : R2 := fun x y H Q => ∃ d b kvs k v, x = .ref d ∧ y = .ref b ∧ KD w H d kvs ∧ Nk H (.ref b) k ∧ k.depth ≤ 8 ∧ valV kvs k = some v ∧ Q v H
def tKGet (w : World) (td ty : TE) : TE := fun σ H Q => td σ H fun x H1 => ty σ H1 fun y H2 => rKGet w x y H2 Q
def rKIn (w : World) : R2 := fun y x H Q => ∃ d b kvs k, x = .ref d ∧ y = .ref b ∧ KD w H d kvs ∧ Nk H (.ref b) k ∧ k.depth ≤ 8 ∧ Q (.bl (valV kvs k).isSome) H
def rKNotIn (w : World) : R2 := fun y x H Q => ∃ d b kvs k, x = .ref d ∧ y = .ref b ∧ KD w H d kvs ∧ Nk H (.ref b) k ∧ k.depth ≤ 8 ∧ Q (.bl (!(valV kvs k).isSome)) H
def sKPut (w : World) (td ty tv : TE) : TS := fun D σ H => tv σ H fun v H1 => td σ H1 fun x H2 => ty σ H2 fun y H3 => ∃ d b kvs k, x = .ref d ∧ y = .ref b ∧ KD w H3 d kvs ∧ Nk H3 (.ref b) k ∧ k.depth ≤ 8 ∧ kvs.length < sizeLine ∧
  ∀ H4, But d H3 H4 → KD w H4 d (putK kvs k v) → D.nx σ H4
section
variable {X : Cx} {o i value : Expr} {pos pos' : Pos} {td ty tv : TE}
theorem pe_kget (hu : X.A.units + 64 < cLine) (ho : PE X o td) (hi : PE X i ty) (hs : NoSl i) : PE X (.Subscript o i pos) (tKGet X.w td ty) := by
  refine ⟨fun pins s σ H Q I h => ?_⟩
  refine subD_of PySem.F.slot_dict_getitem.lookup hs (thn (ho.run pins s σ H _ I h) fun u s1 ⟨x, H1, I1, rx, q1⟩ => thn (hi.run pins s1 σ H1 _ I1 q1) fun iv s2 w2 => ?_)
  obtain ⟨y, H2, I2, ry, d, b, kvs, k, v, rfl, rfl, D, n, dp, hv, q⟩ := w2
  obtain rfl : u = Value.ref d := rx
  obtain rfl : iv = Value.ref b := ry
  exact kd_get hu I2 D n dp hv fun w' s3 I3 rw' => ⟨v, H2, I3, rw', q⟩
theorem op_kIn (hu : X.A.units + 64 < cLine) : OpR X (compareOp .In) (rKIn X.w) := by
  intro pins s σ H x y v u Q I rx ry h
  obtain ⟨d, b, kvs, k, rfl, rfl, D, n, dp, q⟩ := h
  obtain rfl : v = Value.ref b := rx
  obtain rfl : u = Value.ref d := ry
  exact kd_in hu I D n dp fun s3 I3 => ⟨.bl _, H, I3, rfl, q⟩
theorem op_kNotIn (hu : X.A.units + 64 < cLine) : OpR X (compareOp .NotIn) (rKNotIn X.w) := by
  intro pins s σ H x y v u Q I rx ry h
  obtain ⟨d, b, kvs, k, rfl, rfl, D, n, dp, q⟩ := h
  obtain rfl : v = Value.ref b := rx
  obtain rfl : u = Value.ref d := ry
  exact kd_notIn hu I D n dp fun s3 I3 => ⟨.bl _, H, I3, rfl, q⟩
theorem ps_kput (hu : X.A.units + 64 < cLine) (ho : PE X o td) (hi : PE X i ty) (hv : PE X value tv) (hs : swapsWith value (some (.Subscript o i pos')) pos.line X.env = pure false) : PS X (.Assign [.Subscript o i pos'] value pos) (sKPut X.w td ty tv) := by
  refine ⟨fun pins s σ H D I h => ?_⟩
  refine wpAny_Assign_Subscript (thn (hv.run pins s σ H _ I h) fun r s1 ⟨v, H1, I1, rv, q1⟩ => thn (ho.run pins s1 σ H1 _ I1 q1) fun u s2 ⟨x, H2, I2, rx, q2⟩ => thn (hi.run pins s2 σ H2 _ I2 q2) fun iv s3 w3 => ?_) hs
  obtain ⟨y, H3, I3, ry, d, b, kvs, k, rfl, rfl, K, n, dp, hl, q⟩ := w3
  obtain rfl : u = Value.ref d := rx
  obtain rfl : iv = Value.ref b := ry
  exact kd_set hu I3 K n dp hl rv fun H4 s4 b4 k4 I4 => ⟨σ, H4, I4, q H4 b4 k4⟩
/-- {}, to be such a dict -/
def tKNew (w : World) : TE := fun _ H Q => ∀ d H', H d = none → Same H H' → KD w H' d [] → Q (.ref d) H'
theorem kd_nil {w : World} {H : Hp} {d : Addr} (hs : (d == sysModules) = false) : KD w (upd H d (dkO w d [])) d [] := ⟨[], upd_same, hs, rfl, (fun _ z => nomatch z), List.nodup_nil, Nat.zero_le _⟩
theorem kd_laid {pins : List (Addr × Obj)} {σ : L2.St} {H : Hp} {s : Shared} (I : Inv X pins σ H s) : (s.heap.objs.size == sysModules) = false ∧ Inv X pins σ (upd H s.heap.objs.size (dkO X.w s.heap.objs.size [])) { s with heap := s.heap.push { cls := .type "dict", data := .dict #[] } } := by
  have hd : (s.heap.objs.size == sysModules) = false := beq_eq_false_iff_ne.mpr (Ne.symm (Nat.ne_of_lt I.big))
  exact ⟨hd, I.laid (t' := s.toks) (fun _ _ q => Heap.get?_push_of_some _ q) (Nat.le_refl _) (dkO_ok (P := X.prog) .nil (Heap.DictOfH.new (knd := nestedKind X.prog X.w) s.heap))⟩
theorem pe_knew : PE X (.Dict [] [] pos) (tKNew X.w) := ⟨fun pins s σ H Q I h => by
  obtain ⟨hd, I1⟩ := kd_laid I
  exact wpAny_Dict_empty ⟨.ref s.heap.objs.size, _, I1, rfl, h _ _ (I.hok.fresh (Nat.le_refl _)) (same_upd (I.hok.fresh (Nat.le_refl _))) (kd_nil hd)⟩⟩
/-- {k: v}; the new dict stands empty while the pair is made -/
def tKOne (w : World) (tk tv : TE) : TE := fun σ H Q => ∀ d H0, H d = none → Same H H0 → KD w H0 d [] → tk σ H0 fun y H1 => tv σ H1 fun v H2 => ∃ b k, y = .ref b ∧ KD w H2 d [] ∧ Nk H2 (.ref b) k ∧ k.depth ≤ 8 ∧ ∀ H3, But d H2 H3 → KD w H3 d [(k, v)] → Q (.ref d) H3
theorem pe_kone {ke ve : Expr} {tk tv : TE} (hu : X.A.units + 64 < cLine) (hk : PE X ke tk) (hv : PE X ve tv) : PE X (.Dict [some ke] [ve] pos) (tKOne X.w tk tv) := by
  refine ⟨fun pins s σ H Q I h => ?_⟩
  obtain ⟨hd, I1⟩ := kd_laid I
  have fresh := I.hok.fresh (Nat.le_refl s.heap.objs.size)
  have wish := h _ _ fresh (same_upd fresh) (kd_nil hd)
  rw [arm_eval_Dict, zip_pairTrees [some ke] [ve] X.env pos rfl rfl, dictDisplay_pairs _ (by intro z; cases z) (by show 1 < _; decide)]
  refine wpAny_bind (wpAny_standAt (wpAny_bind (wpAny_subDictH (knd := nestedKind X.prog X.w) (nk_roomD hu) (by show 1 ≤ 15; decide) ?_)))
  refine pairTrees_cons_walk (thn (hk.run pins _ σ _ _ I1 wish) fun u s1 w1 => ?_)
  obtain ⟨y, H1, J1, ry, q1⟩ := w1
  refine thn (hv.run pins s1 σ H1 _ J1 q1) fun r s2 w2 => ?_
  obtain ⟨v, H2, J2, rv, b, k, rfl, D, n, dp, q⟩ := w2
  obtain rfl : u = Value.ref b := ry
  refine pairTrees_nil_walk ⟨[(k, b, r)], ⟨rfl, rfl, nk_key J2 n dp, trivial⟩, ?_⟩
  obtain ⟨xs, ed, hs, ex, xk, xn, _⟩ := D
  obtain rfl : xs = [] := List.map_eq_nil_iff.mp ex
  obtain ⟨ys, rr, dd⟩ := kd_of J2.hok ed xk xn
  cases rr
  refine ⟨dd, fun h' tk dd' hsb => wpAny_pure ?_⟩
  have tn : ∀ a zs, TuH H2 a zs → a ≠ s.heap.objs.size := fun a zs e z => by
    rw [z] at e
    rcases e with e | ⟨o, e⟩ <;> rw [ed] at e <;> cases e
  have r2 := NR.put (xs := []) (ys := []) .nil (k := k) (b := b) rv
  have nd : ((putX [] k b v).map (·.1)).Nodup := by
    show [k].Nodup
    exact List.nodup_cons.mpr ⟨(fun z => nomatch z), List.nodup_nil⟩
  obtain ⟨o, ho⟩ : ∃ o, h'.get? s.heap.objs.size = some o := by
    obtain ⟨o, _, _, ho, _⟩ := id dd'
    exact ⟨o, ho⟩
  have J3 := J2.write (t' := tk) (x := s.heap.objs.size) (e := s.heap.objs.size) (by rw [ed]; exact True.intro) (.inl rfl) (fun c o hc z => (hsb.2 c hc).trans z) ⟨o, ho⟩ (dkO_ok r2 dd')
  exact ⟨.ref s.heap.objs.size, _, J3, rfl, q _ (fun c o nc e => (upd_ne nc).trans e) (kd_new hs xk n dp tn nd (by show 0 < sizeLine; decide))⟩
end
end Ph

namespace Ph
open PySem PySem.Spec PyProof.Rows L2 PySem.Calls
section
variable {X : Cx}
/-- d.pop(k), there -/
def rDPop : V → List V → Hp → VK → Prop := fun x vs H Q => ∃ (a : Addr) (kvs : List (Key × V)) (k : Key) (v : V), x = .ref a ∧ vs = [kV k] ∧ H a = some (.dK kvs) ∧ valV kvs k = some v ∧ Q v (upd H a (.dK (dropK kvs k)))
theorem mtd_pop : MtR X "dict.pop" rDPop := by
  intro pins s σ H x vs v us Q I rx rv h
  obtain ⟨a, kvs, k, y, rfl, rfl, ea, hv, q⟩ := h
  cases rx
  obtain ⟨u, rfl, ru⟩ := rv.one
  exact d_pop (more := []) I ea ru hv (.inl rfl) fun w' s' I' r' => ⟨y, _, I', r', q⟩
end
theorem valV_drop {kvs : List (Key × V)} {k j : Key} : valV (dropK kvs k) j = if j = k then none else valV kvs j := by
  unfold valV dropK
  induction kvs with
  | nil => simp
  | cons p r ih =>
    by_cases h : p.1 = k
    · rw [List.filter_cons_of_neg (by simp [h]), ih]
      by_cases h2 : j = k
      · rw [if_pos h2, if_pos h2]
      · rw [if_neg h2, if_neg h2, List.find?_cons_of_neg (by simpa [h] using fun z => h2 z.symm)]
    · rw [List.filter_cons_of_pos (by simpa using h)]
      by_cases h3 : p.1 = j
      · have h2 : ¬ j = k := fun z => h (h3.trans z)
        rw [if_neg h2, List.find?_cons_of_pos (by simpa using h3), List.find?_cons_of_pos (by simpa using h3)]
      · rw [List.find?_cons_of_neg (by simpa using h3), List.find?_cons_of_neg (by simpa using h3)]
        exact ih
/-- which ints are keys behind a pop -/
theorem hasI_drop {kvs : List (Key × V)} {a i : Int} : hasI (dropK kvs (Sum.inl a)) i = (hasI kvs i && decide (i ≠ a)) := by
  unfold hasI
  rw [valV_drop]
  by_cases h : i = a
  · subst h
    simp
  · rw [if_neg (by simpa using h)]
    simp [h]
/-! ### keys without doubles, and how many there are -/
def KNd (kvs : List (Key × V)) : Prop := (kvs.map (·.1)).Nodup
theorem KNd.drop {kvs : List (Key × V)} (h : KNd kvs) (k : Key) : KNd (dropK kvs k) := h.sublist (List.filter_sublist.map _)
theorem KNd.drop_len {kvs : List (Key × V)} {k : Key} : KNd kvs → (valV kvs k).isSome = true → (dropK kvs k).length + 1 = kvs.length := by
  unfold KNd valV dropK
  induction kvs with
  | nil => intro _ h; simp at h
  | cons p r ih =>
    intro nd h
    obtain ⟨n1, n2⟩ := List.nodup_cons.mp nd
    by_cases e : p.1 = k
    · have none : (r.filter fun kv => decide (kv.1 ≠ k)) = r := List.filter_eq_self.mpr fun kv hkv => decide_eq_true fun z => n1 (by show p.1 ∈ _; rw [e, ← z]; exact List.mem_map.mpr ⟨kv, hkv, rfl⟩)
      rw [List.filter_cons_of_neg (by simp [e]), none, List.length_cons]
    · rw [List.find?_cons_of_neg (by simpa using e)] at h
      rw [List.filter_cons_of_pos (by simpa using e), List.length_cons, List.length_cons, ih n2 h]
theorem KNd.put {kvs : List (Key × V)} {k : Key} {v : V} (h : KNd kvs) (n : valV kvs k = none) : KNd (putK kvs k v) ∧ (putK kvs k v).length = kvs.length + 1 := by
  rw [putK_new v n]
  refine ⟨?_, by rw [List.length_append]; rfl⟩
  unfold KNd at h ⊢
  rw [List.map_append]
  refine List.nodup_append.mpr ⟨h, by simp, fun a ha b hb z => ?_⟩
  rw [List.map_cons, List.map_nil, List.mem_singleton] at hb
  subst z
  obtain ⟨kv, hkv, e⟩ := List.mem_map.mp ha
  unfold valV at n
  rw [Option.map_eq_none_iff] at n
  have := List.find?_eq_none.mp n kv hkv
  simp [e, hb] at this
theorem KNd.merge : ∀ {more kvs : List (Key × V)}, KNd kvs → KNd more → (∀ kv ∈ more, valV kvs kv.1 = none) → KNd (mergeK kvs more) ∧ (mergeK kvs more).length = kvs.length + more.length
  | [], kvs, h, _, _ => ⟨h, rfl⟩
  | kv :: r, kvs, h, hm, hn => by
    have hm' : (kv.1 :: r.map (·.1)).Nodup := hm
    obtain ⟨n1, n2⟩ := List.nodup_cons.mp hm'
    obtain ⟨p1, p2⟩ := h.put (v := kv.2) (hn kv (List.mem_cons_self ..))
    obtain ⟨m1, m2⟩ := KNd.merge (more := r) p1 n2 fun kv' h' => by
      rw [valV_put, if_neg (fun z => n1 (by rw [← z]; exact List.mem_map.mpr ⟨kv', h', rfl⟩))]
      exact hn kv' (List.mem_cons_of_mem _ h')
    refine ⟨m1, ?_⟩
    show (mergeK (putK kvs kv.1 kv.2) r).length = _
    rw [m2, p2, List.length_cons]
    omega
end Ph

/-! PhSk: states as keys of dicts and as elements of lists -/
namespace Ph
open PySem PySem.Spec PyProof.Rows L2
/-! ### states as keys -/
def bkey (b : Bk) : NestedKey := .tup [.num b.1, .num b.2]
def skey (bs : List Bk) : NestedKey := .tup (bs.map bkey)
theorem bkey_inj {a b : Bk} (h : bkey a = bkey b) : a = b := by
  obtain ⟨a1, a2⟩ := a
  obtain ⟨b1, b2⟩ := b
  unfold bkey at h
  injection h with h
  injection h with h1 h
  injection h with h2 _
  injection h1 with h1
  injection h2 with h2
  dsimp only at h1 h2
  rw [h1, h2]
theorem skey_inj {a b : List Bk} (h : skey a = skey b) : a = b := by
  unfold skey at h
  injection h with h
  have : ∀ x y : List Bk, x.map bkey = y.map bkey → x = y := fun x => by
    induction x with
    | nil =>
      intro y e
      cases y with
      | nil => rfl
      | cons b r => cases e
    | cons a r ih =>
      intro y e
      cases y with
      | nil => cases e
      | cons b t =>
        rw [List.map_cons, List.map_cons] at e
        injection e with e1 e2
        rw [bkey_inj e1, ih t e2]
  exact this _ _ h
theorem bkeys_depth : ∀ bs : List Bk, NestedKey.depthAll (bs.map bkey) ≤ 1
  | [] => by simp [NestedKey.depthAll]
  | b :: r => by
    have h := bkeys_depth r
    have e : NestedKey.depth (bkey b) = 1 := by simp [bkey, NestedKey.depth, NestedKey.depthAll]
    rw [List.map_cons, NestedKey.depthAll, e]
    omega
theorem skey_depth (bs : List Bk) : (skey bs).depth ≤ 8 := by
  have h := bkeys_depth bs
  unfold skey
  rw [NestedKey.depth]
  omega
theorem bk_nk {H : Hp} {x : V} {b : Bk} (h : BkAt H x b) : Nk H x (bkey b) := by
  obtain ⟨t, rfl, e⟩ := h
  exact .tup (.inl e) (.cons (.int _) (.cons (.int _) .nil))
theorem bl_nk {H : Hp} : ∀ {xs : List V} {bs : List Bk}, BL H xs bs → NkAll H xs (bs.map bkey)
  | _, _, .nil => .nil
  | _, _, .cons h r => .cons (bk_nk h) (bl_nk r)
theorem StAt.nk {H : Hp} {t : Addr} {bs : List Bk} (h : StAt H t bs) : Nk H (.ref t) (skey bs) := by
  obtain ⟨xs, e, bl⟩ := h
  exact .tup (.inl e) (bl_nk bl)
/-! ### there are not many states -/
def allL (L : List Bk) : Nat → List (List Bk)
  | 0 => [[]]
  | n + 1 => [] :: L.flatMap fun x => (allL L n).map (x :: ·)
theorem flat_len2 {α β : Type} (l : List α) (m : List β) (f : α → β → β) : (l.flatMap fun x => m.map (f x)).length = l.length * m.length := by
  induction l with
  | nil => simp
  | cons a r ih => rw [List.flatMap_cons, List.length_append, ih, List.length_map, List.length_cons, Nat.add_mul, Nat.one_mul, Nat.add_comm]
theorem allL_len (L : List Bk) : ∀ n, (allL L n).length ≤ (L.length + 1) ^ n
  | 0 => Nat.le_refl _
  | n + 1 => by
    have h := allL_len L n
    show (L.flatMap fun x => (allL L n).map (x :: ·)).length + 1 ≤ _
    rw [flat_len2, Nat.pow_succ, Nat.mul_comm]
    have h1 : 1 ≤ (L.length + 1) ^ n := Nat.one_le_pow _ _ (by omega)
    have h2 : (allL L n).length * L.length ≤ (L.length + 1) ^ n * L.length := Nat.mul_le_mul_right _ h
    rw [Nat.mul_add, Nat.mul_one]
    omega
theorem mem_allL {L : List Bk} : ∀ {n : Nat} {bs : List Bk}, bs.length ≤ n → (∀ b ∈ bs, b ∈ L) → bs ∈ allL L n
  | 0, bs, h, _ => by
    have e : bs = [] := List.length_eq_zero_iff.mp (Nat.le_zero.mp h)
    rw [e]
    exact List.mem_singleton.mpr rfl
  | n + 1, [], _, _ => List.mem_cons_self
  | n + 1, b :: r, h, m => List.mem_cons_of_mem _ (List.mem_flatMap.mpr ⟨b, m b List.mem_cons_self, List.mem_map.mpr ⟨r, mem_allL (by rw [List.length_cons] at h; omega) fun c hc => m c (List.mem_cons_of_mem _ hc), rfl⟩⟩)
theorem nodup_le {α : Type} [DecidableEq α] : ∀ {l m : List α}, l.Nodup → (∀ x ∈ l, x ∈ m) → l.length ≤ m.length
  | [], _, _, _ => Nat.zero_le _
  | a :: r, m, h, s => by
    obtain ⟨h1, h2⟩ := List.nodup_cons.mp h
    have ha := s a List.mem_cons_self
    have := nodup_le (l := r) (m := m.erase a) h2 fun x hx => by
      have ne : x ≠ a := fun e => h1 (by rw [← e]; exact hx)
      exact (List.mem_erase_of_ne ne).mpr (s x (List.mem_cons_of_mem _ hx))
    rw [List.length_erase_of_mem ha] at this
    have := List.length_pos_of_mem ha
    rw [List.length_cons]
    omega
/-! ### what keeps everything but lists and tables -/
def Kt (H H' : Hp) : Prop := ∀ a o, H a = some o → (∀ φ, o ≠ .ext φ) → (∀ xs, o ≠ .lst xs) → H' a = some o
theorem Kt.refl (H : Hp) : Kt H H := fun _ _ e _ _ => e
theorem Kt.trans {H H1 H2 : Hp} (a : Kt H H1) (b : Kt H1 H2) : Kt H H2 := fun c o e n1 n2 => b c o (a c o e n1 n2) n1 n2
theorem Same.kt {H H' : Hp} (s : Same H H') : Kt H H' := fun a o e _ _ => s a o e
theorem But.ktD {H H' : Hp} {d : Addr} {w : World} {kvs : List (NestedKey × V)} (b : But d H H') (k : KD w H d kvs) : Kt H H' := fun a o e n1 _ => b a o (fun z => by
  obtain ⟨ψ, e2⟩ := k.ext
  rw [z, e2] at e
  exact n1 _ (Option.some.inj e).symm) e
theorem kt_upd {H : Hp} {l : Addr} {xs ys : List V} (e : H l = some (.lst xs)) : Kt H (upd H l (.lst ys)) := fun a o h _ n => by
  rw [upd_ne (fun z => by rw [z, e] at h; exact n _ (Option.some.inj h).symm)]
  exact h
theorem Kt.kpT {H H' : Hp} (k : Kt H H') : KpT H H' := fun a xs e => k a _ e (fun _ z => by cases z) (fun _ z => by cases z)
theorem Kt.tuH {H H' : Hp} (k : Kt H H') {a : Addr} {xs : List V} (e : TuH H a xs) : TuH H' a xs := by
  rcases e with e | ⟨o, e⟩
  · exact .inl (k a _ e (fun _ z => by cases z) (fun _ z => by cases z))
  · exact .inr ⟨o, k a _ e (fun _ z => by cases z) (fun _ z => by cases z)⟩
theorem Kt.sqT {H H' : Hp} (k : Kt H H') {K : PySem.W.Frag} {a : Addr} {xs : List V} (h : SqT K H a xs) : SqT K H' a xs := by
  rcases h with (e | ⟨o, e⟩) | h
  · exact .inl (.inl (k a _ e (fun _ z => by cases z) (fun _ z => by cases z)))
  · exact .inl (.inr ⟨o, k a _ e (fun _ z => by cases z) (fun _ z => by cases z)⟩)
  · exact .inr h
theorem Kt.st {H H' : Hp} (k : Kt H H') {t : Addr} {bs : List Bk} (h : StAt H t bs) : StAt H' t bs := by
  obtain ⟨xs, e, b⟩ := h
  exact ⟨xs, k.kpT _ _ e, BL.kp b k.kpT⟩
theorem pairedG {α β : Type} {F : α → β → Prop} : ∀ {l : List α} {m : List β}, l.length = m.length → (∀ (i : Nat) (a : α) (b : β), l[i]? = some a → m[i]? = some b → F a b) → Paired F l m
  | [], [], _, _ => .nil
  | [], _ :: _, e, _ => by cases e
  | _ :: _, [], e, _ => by cases e
  | a :: l, b :: m, e, h => .cons (h 0 a b rfl rfl) (pairedG (Nat.succ.inj e) fun i x y hx hy => h (i + 1) x y hx hy)
theorem pairedApp {α β : Type} {F : α → β → Prop} : ∀ {l l' : List α} {m m' : List β}, Paired F l m → Paired F l' m' → Paired F (l ++ l') (m ++ m')
  | _, _, _, _, .nil, h => h
  | _, _, _, _, .cons h r, k => .cons h (pairedApp r k)
/-! ### lists of states -/
/-- a value that is a state -/
def StV (H : Hp) (x : V) (bs : List Bk) : Prop := ∃ t, x = .ref t ∧ StAt H t bs
theorem StV.kt {H H' : Hp} {x : V} {bs : List Bk} (h : StV H x bs) (k : Kt H H') : StV H' x bs := by
  obtain ⟨t, rfl, h⟩ := h
  exact ⟨t, rfl, k.st h⟩
theorem StV.nk {H : Hp} {x : V} {bs : List Bk} (h : StV H x bs) : Nk H x (skey bs) := by
  obtain ⟨t, rfl, h⟩ := h
  exact h.nk
/-- the values that are these states, one by one -/
abbrev StVs (H : Hp) : List V → List (List Bk) → Prop := Paired (StV H)
theorem StVs.kt {H H' : Hp} {xs : List V} {bss : List (List Bk)} (h : StVs H xs bss) (k : Kt H H') : StVs H' xs bss := Paired.mono (fun _ _ z => z.kt k) h
theorem StVs.snoc {H : Hp} {xs : List V} {bss : List (List Bk)} {x : V} {bs : List Bk} (h : StVs H xs bss) (z : StV H x bs) : StVs H (xs ++ [x]) (bss ++ [bs]) := Paired.snoc h z
theorem StVs.unsnoc {H : Hp} : ∀ {l : List V} {m : List (List Bk)} {b : List Bk}, StVs H l (m ++ [b]) → ∃ l' a, l = l' ++ [a] ∧ StVs H l' m ∧ StV H a b
  | [], m, b, h => by cases m <;> cases h
  | [x], [], b, .cons h .nil => ⟨[], x, rfl, .nil, h⟩
  | x :: l, c :: m, b, .cons h r => by
    obtain ⟨l', a, rfl, r', h'⟩ := StVs.unsnoc (l := l) (m := m) r
    exact ⟨x :: l', a, rfl, .cons h r', h'⟩
def stD (bs : List Bk) : PyData := .tuple (bs.map bD)
theorem stD_lay (bs : List Bk) : (stD bs).canLay0 = true := by unfold stD; simp only [PyData.canLay0]; exact bDs_lay bs
theorem stD_depth (bs : List Bk) : (stD bs).depth ≤ 2 := by
  have h1 := bDs_depth bs
  unfold stD
  simp only [PyData.depth]
  omega
theorem stD_shaped (bs : List Bk) : SeqAt.shaped (stD bs) = true := sD_shaped bs
theorem stDs_lay : ∀ zs : List (List Bk), PyData.canLayAll0 (zs.map stD) = true
  | [] => by simp [PyData.canLayAll0]
  | z :: zs => by simp only [List.map_cons, PyData.canLayAll0, stD_lay, stDs_lay zs, Bool.and_self]
theorem stDs_depth : ∀ zs : List (List Bk), PyData.depthAll (zs.map stD) ≤ 2
  | [] => by simp [PyData.depthAll]
  | z :: zs => by
    have h1 := stDs_depth zs
    have h2 := stD_depth z
    simp only [List.map_cons, PyData.depthAll]
    omega
theorem stDs_shaped (zs : List (List Bk)) : SeqAt.shaped (.list (zs.map stD)) = true := by
  have h1 := stDs_depth zs
  have h2 : PyData.depth (.list (zs.map stD)) ≤ 64 := by simp only [PyData.depth]; omega
  have h3 : PyData.canLay0 (.list (zs.map stD)) = true := by simp only [PyData.canLay0]; exact stDs_lay zs
  show (PyData.canLay0 (.list (zs.map stD)) && decide (PyData.depth (.list (zs.map stD)) ≤ 64)) = true
  rw [h3, decide_eq_true h2]
  rfl
theorem StVs.dp {K : PySem.W.Frag} {H : Hp} : ∀ {xs : List V} {bss : List (List Bk)}, StVs H xs bss → DpAll K H xs (bss.map stD)
  | _, _, .nil => .nil
  | _, _, .cons ⟨t, e, h⟩ r => by
    rw [List.map_cons]
    refine .cons ?_ (StVs.dp r)
    rw [e]
    exact h.dp
theorem stDs_nil (zs : List (List Bk)) : PyData.eqv (.list (zs.map stD)) (.list []) = decide (zs = []) := by
  cases zs with
  | nil => simp [PyData.eqv, PyData.eqvAll]
  | cons z zs => simp [PyData.eqv, PyData.eqvAll]
/-! ### settings: pairs of a tuple of ints and an int, from a written list -/
def SetV (S : List (List Int × Int)) (H : Hp) (x : V) : Prop := ∃ T c L z, x = .ref T ∧ H T = some (.tup [.ref c, .int z]) ∧ H c = some (.tup (L.map V.int)) ∧ (L, z) ∈ S
theorem SetV.kp {S : List (List Int × Int)} {H H' : Hp} {x : V} (h : SetV S H x) (k : KpT H H') : SetV S H' x := by
  obtain ⟨T, c, L, z, e, hT, hc, d⟩ := h
  exact ⟨T, c, L, z, e, k _ _ hT, k _ _ hc, d⟩
theorem setV_new {H : Hp} {a b : Addr} {xs : List V} {z : Int} (n : H a = none) (m : upd H a (.tup xs) b = none) (S : List (List Int × Int)) (L : List Int) (d : (L, z) ∈ S) (ex : xs = L.map V.int) :
    Same H (upd (upd H a (.tup xs)) b (.tup [.ref a, .int z])) ∧ SetV S (upd (upd H a (.tup xs)) b (.tup [.ref a, .int z])) (.ref b) := by
  subst ex
  exact ⟨Same.trans (same_upd n) (same_upd m), b, a, L, z, rfl, upd_same, same_upd m _ _ upd_same, d⟩
/-- *xs in a comprehension -/
theorem pa_starK {X : Cx} {K : PySem.W.Frag} {e : Expr} {es : List Expr} {te : TE} {t : TA} {p : Pos} (ek : X.K = K) (he : PE X e te) (hr : PA X es t) (hs : starEach (.Starred e p :: es) X.env = (true, eval e X.env) :: starEach es X.env := by rfl) : PA X (.Starred e p :: es) (StX.tStar K te t) := by
  subst ek
  exact StX.pa_star he hr hs
theorem sqT_butO {K : PySem.W.Frag} {H H' : Hp} {a d : Addr} {xs : List V} {o : HO} (h : SqT K H a xs) (b : But d H H') (e : H d = some o) (n1 : ∀ ys, o ≠ .tup ys) (n2 : ∀ u ys, o ≠ .frz u (.tup ys)) : SqT K H' a xs := by
  rcases h with (h | ⟨u, h⟩) | h
  · exact .inl (.inl (b a _ (fun z => by rw [z, e] at h; exact n1 _ (Option.some.inj h)) h))
  · exact .inl (.inr ⟨u, b a _ (fun z => by rw [z, e] at h; exact n2 _ _ (Option.some.inj h)) h⟩)
  · exact .inr h
end Ph

set_option maxHeartbeats 4000000
/-! PhKx: dicts keyed by tuples of tuples, told with the keys' own tuples (KDx); read only, also when locked (KDr); walked. -/
namespace Ph
open PySem PySem.Spec PyProof.Rows L2
structure KDx (w : World) (H : Hp) (d : Addr) (xs : List KAV) : Prop where
  ob : H d = some (dkO w d xs)
  sm : (d == sysModules) = false
  ks : ∀ x ∈ xs, Nk H (.ref x.2.1) x.1 ∧ x.1.depth ≤ 8
  nd : (xs.map (·.1)).Nodup
  ln : xs.length ≤ sizeLine
structure KDr (w : World) (H : Hp) (d : Addr) (xs : List KAV) : Prop where
  ob : H d = some (dkO w d xs) ∨ ∃ o, H d = some (.frz o (dkO w d xs))
  sm : (d == sysModules) = false
  ks : ∀ x ∈ xs, Nk H (.ref x.2.1) x.1 ∧ x.1.depth ≤ 8
  nd : (xs.map (·.1)).Nodup
  ln : xs.length ≤ sizeLine
section
variable {w : World} {H H' : Hp} {d : Addr} {xs : List KAV}
theorem KDx.r (k : KDx w H d xs) : KDr w H d xs := ⟨.inl k.ob, k.sm, k.ks, k.nd, k.ln⟩
theorem KDx.keeps (k : KDx w H d xs) (s : ∀ a ys, TuH H a ys → TuH H' a ys) (e : ∀ u, H d = some u → H' d = some u) : KDx w H' d xs :=
  ⟨e _ k.ob, k.sm, fun x hx => ⟨(k.ks x hx).1.keeps s, (k.ks x hx).2⟩, k.nd, k.ln⟩
theorem KDr.keeps (k : KDr w H d xs) (s : ∀ a ys, TuH H a ys → TuH H' a ys) (e : ∀ u, H d = some u → H' d = some u) : KDr w H' d xs :=
  ⟨k.ob.imp (e _) fun ⟨o, h⟩ => ⟨o, e _ h⟩, k.sm, fun x hx => ⟨(k.ks x hx).1.keeps s, (k.ks x hx).2⟩, k.nd, k.ln⟩
theorem KDx.same (k : KDx w H d xs) (s : Same H H') : KDx w H' d xs := k.keeps (fun _ _ e => e.same s) fun _ e => s _ _ e
theorem KDr.same (k : KDr w H d xs) (s : Same H H') : KDr w H' d xs := k.keeps (fun _ _ e => e.same s) fun _ e => s _ _ e
theorem KDx.tu (k : KDx w H d xs) {a : Addr} {zs : List V} (e : TuH H a zs) : a ≠ d := fun z => by
  rw [z] at e
  rcases e with e | ⟨o, e⟩ <;> rw [k.ob] at e <;> cases e
/-- the dict is locked from now on -/
theorem KDx.frz (k : KDx w H d xs) (o : Obj) : KDr w (upd H d (.frz o (dkO w d xs))) d xs :=
  ⟨.inr ⟨o, upd_same⟩, k.sm, fun x hx => ⟨(k.ks x hx).1.keeps fun a zs e => by
    have ne := k.tu e
    rcases e with e | ⟨o, e⟩
    · exact .inl ((upd_ne ne).trans e)
    · exact .inr ⟨o, (upd_ne ne).trans e⟩, (k.ks x hx).2⟩, k.nd, k.ln⟩
theorem KDx.mut (k : KDx w H d xs) : Mut (some (dkO w d xs)) := True.intro
theorem But.ktX (b : But d H H') (k : KDx w H d xs) : Kt H H' := fun a o e n1 _ => b a o (fun z => by
  rw [z, k.ob] at e
  exact n1 _ (Option.some.inj e).symm) e
theorem valV_kv2 {k : NestedKey} {x : KAV} (nd : (xs.map (·.1)).Nodup) (hx : x ∈ xs) (e : x.1 = k) : valV (xs.map kv2) k = some x.2.2 := by
  induction xs with
  | nil => cases hx
  | cons y r ih =>
    rw [List.map_cons] at nd
    obtain ⟨n1, n2⟩ := List.nodup_cons.mp nd
    rcases List.mem_cons.mp hx with z | z
    · rw [← z, List.map_cons]
      exact valV_pos (show (kv2 x).1 = k from e)
    · rw [List.map_cons, valV_neg (show ¬ (kv2 y).1 = k from fun q => n1 (by
        rw [show y.1 = k from q, ← e]
        exact List.mem_map.mpr ⟨x, z, rfl⟩))]
      exact ih n2 z
theorem valV_mem2 {k : NestedKey} {v : V} (h : valV (xs.map kv2) k = some v) : ∃ x ∈ xs, x.1 = k ∧ x.2.2 = v := by
  unfold valV at h
  obtain ⟨kv, h1, h2⟩ := Option.map_eq_some_iff.mp h
  have e := List.find?_some h1
  obtain ⟨x, hx, rfl⟩ := List.mem_map.mp (List.mem_of_find?_eq_some h1)
  exact ⟨x, hx, of_decide_eq_true e, h2⟩
theorem valV_none2 {k : NestedKey} (h : valV (xs.map kv2) k = none) : ∀ x ∈ xs, x.1 ≠ k := fun x hx z => by
  unfold valV at h
  have := List.find?_eq_none.mp (Option.map_eq_none_iff.mp h) (kv2 x) (List.mem_map.mpr ⟨x, hx, rfl⟩)
  exact this (decide_eq_true z)
theorem putX_new {k : NestedKey} {b : Addr} {v : V} (h : valV (xs.map kv2) k = none) : putX xs k b v = xs ++ [(k, b, v)] := by
  unfold putX
  rw [h]
  rfl
theorem putX_old {k : NestedKey} {b : Addr} {v : V} (h : (valV (xs.map kv2) k).isSome = true) : putX xs k b v = xs.map (fun x => if x.1 = k then (x.1, x.2.1, v) else x) := by
  unfold putX
  rw [if_pos h]
theorem valV_putX {k j : NestedKey} {b : Addr} {v : V} : valV ((putX xs k b v).map kv2) j = if j = k then some v else valV (xs.map kv2) j := by
  rw [putX_map, valV_put]
end
section
variable {X : Cx} {pins : List (Addr × Obj)} {σ : L2.St} {H : Hp} {s : Shared} {d b : Addr} {v : V} {xs : List KAV} {k : NestedKey} {A : Around} {E : Value → Shared → Prop}
theorem kdr_of {P : Program} {w : World} {H : Hp} {h : Heap} {d : Addr} {xs : List KAV} (ok : HOk P w H h) (D : KDr w H d xs) : ∃ ys, NR xs ys ∧ h.DictOfH (nestedKind P w) d ys := by
  have x : ObjOk P w H h d (dkO w d xs) := by
    rcases D.ob with e | ⟨o, e⟩
    · exact ok d _ e
    · exact (show ObjOk P w H h d (.frz o (dkO w d xs)) from ok d _ e).2
  obtain ⟨⟨o, es, ep, ho, hc, hdat, ys, he, r⟩, _⟩ := x
  refine ⟨ys, r, o, es, ep, ho, hc, hdat, he, fun y hy => ?_, by rw [← r.keys]; exact D.nd⟩
  obtain ⟨x, hx, e1, e2, _⟩ := r.mem hy
  have := D.ks x hx
  rw [e1, e2] at this
  exact ⟨this.1.is ok _ rfl, this.2⟩
theorem kdr_get {Q : Value → Shared → Prop} (hu : A.units + 64 < cLine) (I : Inv X pins σ H s) (D : KDr X.w H d xs) (n : Nk H (.ref b) k) (dp : k.depth ≤ 8) (hv : valV (xs.map kv2) k = some v) (h : ∀ w' s', Inv X pins σ H s' → RelV v w' → Q w' s') :
    s.TypeIs (.ref d) "dict" ∧ wpAny (model X.prog X.w) A (getItem (.ref d) (.ref b)) Q E s := by
  obtain ⟨ys, r, dd⟩ := kdr_of I.hok D
  obtain ⟨w', hw, rw'⟩ := RelO.some_of (v := v) (o := (atKey ys k).map (·.2)) (by rw [← hv]; exact r.val k)
  obtain ⟨p, hp, hp2⟩ := Option.map_eq_some_iff.mp hw
  refine ⟨dd.typeIs, wpAny_getItem_heap (nk_room hu) (nk_key I n dp) dd hp ?_⟩
  rw [hp2]
  exact h w' _ (I.tok _) rw'
theorem kdr_in {Q : Value → Shared → Prop} (hu : A.units + 64 < cLine) (I : Inv X pins σ H s) (D : KDr X.w H d xs) (n : Nk H (.ref b) k) (dp : k.depth ≤ 8) (h : ∀ s', Inv X pins σ H s' → Q (.bool (valV (xs.map kv2) k).isSome) s') :
    wpAny (model X.prog X.w) A (compareOp .In (.ref b) (.ref d)) Q E s := by
  obtain ⟨ys, r, dd⟩ := kdr_of I.hok D
  refine wpAny_in_heap (nk_room hu) (nk_key I n dp) D.sm dd ?_
  have e := (r.val k).isSome_eq
  rw [Option.isSome_map] at e
  rw [← e]
  exact h _ (I.tok _)
theorem kdr_notIn {Q : Value → Shared → Prop} (hu : A.units + 64 < cLine) (I : Inv X pins σ H s) (D : KDr X.w H d xs) (n : Nk H (.ref b) k) (dp : k.depth ≤ 8) (h : ∀ s', Inv X pins σ H s' → Q (.bool (!(valV (xs.map kv2) k).isSome)) s') :
    wpAny (model X.prog X.w) A (compareOp .NotIn (.ref b) (.ref d)) Q E s := by
  obtain ⟨ys, r, dd⟩ := kdr_of I.hok D
  refine wpAny_notIn_heap (nk_room hu) (nk_key I n dp) D.sm dd ?_
  have e := (r.val k).isSome_eq
  rw [Option.isSome_map] at e
  rw [← e]
  exact h _ (I.tok _)
theorem kdx_new {w : World} {H : Hp} {xs : List KAV} {k : NestedKey} {b : Addr} {v : V} (hs : (d == sysModules) = false) (hk : ∀ x ∈ xs, Nk H (.ref x.2.1) x.1 ∧ x.1.depth ≤ 8) (n : Nk H (.ref b) k) (dp : k.depth ≤ 8) (hd : ∀ a zs, TuH H a zs → a ≠ d) (nd : ((putX xs k b v).map (·.1)).Nodup) (hl : xs.length < sizeLine) :
    KDx w (upd H d (dkO w d (putX xs k b v))) d (putX xs k b v) := by
  have st : ∀ a zs, TuH H a zs → TuH (upd H d (dkO w d (putX xs k b v))) a zs := fun a zs e => by
    have ne := hd a zs e
    rcases e with e | ⟨o, e⟩
    · exact .inl ((upd_ne ne).trans e)
    · exact .inr ⟨o, (upd_ne ne).trans e⟩
  refine ⟨upd_same, hs, fun x hx => ?_, nd, Nat.le_trans (putX_len xs k b v) hl⟩
  rcases putX_mem hx with ⟨e1, e2⟩ | ⟨y, hy, e1, e2⟩
  · rw [e1, e2]
    exact ⟨n.keeps st, dp⟩
  · rw [e1, e2]
    exact ⟨(hk y hy).1.keeps st, (hk y hy).2⟩
theorem kdx_set {Q : Unit → Shared → Prop} {r : Value} (hu : A.units + 64 < cLine) (I : Inv X pins σ H s) (D : KDx X.w H d xs) (n : Nk H (.ref b) k) (dp : k.depth ≤ 8) (hl : xs.length < sizeLine) (rv : RelV v r)
    (h : ∀ H' s', But d H H' → KDx X.w H' d (putX xs k b v) → Inv X pins σ H' s' → Q () s') : wpAny (model X.prog X.w) A (setItem (.ref d) (.ref b) r) Q E s := by
  obtain ⟨ys, rr, dd⟩ := kdr_of I.hok D.r
  have yl : ys.length ≤ sizeLine := by rw [← Paired.length rr]; exact D.ln
  refine wpAny_setItem_heap (hsz := yl) (nk_room hu) (nk_key I n dp) dd fun h' dd' hsb => ?_
  have r2 := rr.put (k := k) (b := b) rv
  have nd : ((putX xs k b v).map (·.1)).Nodup := by
    obtain ⟨_, _, _, _, _, _, _, _, q⟩ := id dd'
    rw [r2.keys]
    exact q
  refine h _ _ (fun c o nc e => (upd_ne nc).trans e) (kdx_new D.sm D.ks n dp (fun a zs e => D.tu e) nd hl) (I.write (x := d) (e := d) (by rw [D.ob]; exact True.intro) (.inl rfl) (fun c q hc z => (hsb.2 c hc).trans z) ?_ (dkO_ok r2 dd'))
  obtain ⟨q, _, _, hq, _⟩ := dd'
  exact ⟨q, hq⟩
end
/-! ### rules -/
def rXGet (w : World) : R2 := fun x y H Q => ∃ d b xs k v, x = .ref d ∧ y = .ref b ∧ KDr w H d xs ∧ Nk H (.ref b) k ∧ k.depth ≤ 8 ∧ valV (xs.map kv2) k = some v ∧ Q v H
def tXGet (w : World) (td ty : TE) : TE := fun σ H Q => td σ H fun x H1 => ty σ H1 fun y H2 => rXGet w x y H2 Q
def rXIn (w : World) : R2 := fun y x H Q => ∃ d b xs k, x = .ref d ∧ y = .ref b ∧ KDr w H d xs ∧ Nk H (.ref b) k ∧ k.depth ≤ 8 ∧ Q (.bl (valV (xs.map kv2) k).isSome) H
def rXNotIn (w : World) : R2 := fun y x H Q => ∃ d b xs k, x = .ref d ∧ y = .ref b ∧ KDr w H d xs ∧ Nk H (.ref b) k ∧ k.depth ≤ 8 ∧ Q (.bl (!(valV (xs.map kv2) k).isSome)) H
def sXPut (w : World) (td ty tv : TE) : TS := fun D σ H => tv σ H fun v H1 => td σ H1 fun x H2 => ty σ H2 fun y H3 => ∃ d b xs k, x = .ref d ∧ y = .ref b ∧ KDx w H3 d xs ∧ Nk H3 (.ref b) k ∧ k.depth ≤ 8 ∧ xs.length < sizeLine ∧
  ∀ H4, But d H3 H4 → KDx w H4 d (putX xs k b v) → D.nx σ H4
section
variable {X : Cx} {o i value : Expr} {pos pos' : Pos} {td ty tv : TE}
theorem pe_xget (hu : X.A.units + 64 < cLine) (ho : PE X o td) (hi : PE X i ty) (hs : NoSl i) : PE X (.Subscript o i pos) (tXGet X.w td ty) := by
  refine ⟨fun pins s σ H Q I h => ?_⟩
  refine subD_of PySem.F.slot_dict_getitem.lookup hs (thn (ho.run pins s σ H _ I h) fun u s1 ⟨x, H1, I1, rx, q1⟩ => thn (hi.run pins s1 σ H1 _ I1 q1) fun iv s2 w2 => ?_)
  obtain ⟨y, H2, I2, ry, d, b, xs, k, v, rfl, rfl, D, n, dp, hv, q⟩ := w2
  obtain rfl : u = Value.ref d := rx
  obtain rfl : iv = Value.ref b := ry
  exact kdr_get hu I2 D n dp hv fun w' s3 I3 rw' => ⟨v, H2, I3, rw', q⟩
theorem op_xIn (hu : X.A.units + 64 < cLine) : OpR X (compareOp .In) (rXIn X.w) := by
  intro pins s σ H x y v u Q I rx ry h
  obtain ⟨d, b, xs, k, rfl, rfl, D, n, dp, q⟩ := h
  obtain rfl : v = Value.ref b := rx
  obtain rfl : u = Value.ref d := ry
  exact kdr_in hu I D n dp fun s3 I3 => ⟨.bl _, H, I3, rfl, q⟩
theorem op_xNotIn (hu : X.A.units + 64 < cLine) : OpR X (compareOp .NotIn) (rXNotIn X.w) := by
  intro pins s σ H x y v u Q I rx ry h
  obtain ⟨d, b, xs, k, rfl, rfl, D, n, dp, q⟩ := h
  obtain rfl : v = Value.ref b := rx
  obtain rfl : u = Value.ref d := ry
  exact kdr_notIn hu I D n dp fun s3 I3 => ⟨.bl _, H, I3, rfl, q⟩
theorem ps_xput (hu : X.A.units + 64 < cLine) (ho : PE X o td) (hi : PE X i ty) (hv : PE X value tv) (hs : swapsWith value (some (.Subscript o i pos')) pos.line X.env = pure false) : PS X (.Assign [.Subscript o i pos'] value pos) (sXPut X.w td ty tv) := by
  refine ⟨fun pins s σ H D I h => ?_⟩
  refine wpAny_Assign_Subscript (thn (hv.run pins s σ H _ I h) fun r s1 ⟨v, H1, I1, rv, q1⟩ => thn (ho.run pins s1 σ H1 _ I1 q1) fun u s2 ⟨x, H2, I2, rx, q2⟩ => thn (hi.run pins s2 σ H2 _ I2 q2) fun iv s3 w3 => ?_) hs
  obtain ⟨y, H3, I3, ry, d, b, xs, k, rfl, rfl, K, n, dp, hl, q⟩ := w3
  obtain rfl : u = Value.ref d := rx
  obtain rfl : iv = Value.ref b := ry
  exact kdx_set hu I3 K n dp hl rv fun H4 s4 b4 k4 I4 => ⟨σ, H4, I4, q H4 b4 k4⟩
def tXNew (w : World) : TE := fun _ H Q => ∀ d H', H d = none → Same H H' → KDx w H' d [] → Q (.ref d) H'
theorem kdx_nil {w : World} {H : Hp} {d : Addr} (hs : (d == sysModules) = false) : KDx w (upd H d (dkO w d [])) d [] := ⟨upd_same, hs, (fun _ z => nomatch z), List.nodup_nil, Nat.zero_le _⟩
theorem pe_xnew : PE X (.Dict [] [] pos) (tXNew X.w) := ⟨fun pins s σ H Q I h => by
  obtain ⟨hd, I1⟩ := kd_laid I
  exact wpAny_Dict_empty ⟨.ref s.heap.objs.size, _, I1, rfl, h _ _ (I.hok.fresh (Nat.le_refl _)) (same_upd (I.hok.fresh (Nat.le_refl _))) (kdx_nil hd)⟩⟩
/-- {k: v} -/
def tXOne (w : World) (tk tv : TE) : TE := fun σ H Q => ∀ d H0, H d = none → Same H H0 → KDx w H0 d [] → tk σ H0 fun y H1 => tv σ H1 fun v H2 => ∃ b k, y = .ref b ∧ KDx w H2 d [] ∧ Nk H2 (.ref b) k ∧ k.depth ≤ 8 ∧ ∀ H3, But d H2 H3 → KDx w H3 d [(k, b, v)] → Q (.ref d) H3
theorem pe_xone {ke ve : Expr} {tk tv : TE} (hu : X.A.units + 64 < cLine) (hk : PE X ke tk) (hv : PE X ve tv) : PE X (.Dict [some ke] [ve] pos) (tXOne X.w tk tv) := by
  refine ⟨fun pins s σ H Q I h => ?_⟩
  obtain ⟨hd, I1⟩ := kd_laid I
  have fresh := I.hok.fresh (Nat.le_refl s.heap.objs.size)
  have wish := h _ _ fresh (same_upd fresh) (kdx_nil hd)
  rw [arm_eval_Dict, zip_pairTrees [some ke] [ve] X.env pos rfl rfl, dictDisplay_pairs _ (by intro z; cases z) (by show 1 < _; decide)]
  refine wpAny_bind (wpAny_standAt (wpAny_bind (wpAny_subDictH (knd := nestedKind X.prog X.w) (nk_roomD hu) (by show 1 ≤ 15; decide) ?_)))
  refine pairTrees_cons_walk (thn (hk.run pins _ σ _ _ I1 wish) fun u s1 w1 => ?_)
  obtain ⟨y, H1, J1, ry, q1⟩ := w1
  refine thn (hv.run pins s1 σ H1 _ J1 q1) fun r s2 w2 => ?_
  obtain ⟨v, H2, J2, rv, b, k, rfl, D, n, dp, q⟩ := w2
  obtain rfl : u = Value.ref b := ry
  refine pairTrees_nil_walk ⟨[(k, b, r)], ⟨rfl, rfl, nk_key J2 n dp, trivial⟩, ?_⟩
  obtain ⟨ys, rr, dd⟩ := kdr_of J2.hok D.r
  cases rr
  refine ⟨dd, fun h' tk dd' hsb => wpAny_pure ?_⟩
  have r2 := NR.put (xs := []) (ys := []) .nil (k := k) (b := b) rv
  have nd : ((putX [] k b v).map (·.1)).Nodup := by
    show [k].Nodup
    exact List.nodup_cons.mpr ⟨(fun z => nomatch z), List.nodup_nil⟩
  obtain ⟨o, ho⟩ : ∃ o, h'.get? s.heap.objs.size = some o := by
    obtain ⟨o, _, _, ho, _⟩ := id dd'
    exact ⟨o, ho⟩
  have J3 := J2.write (t' := tk) (x := s.heap.objs.size) (e := s.heap.objs.size) (by rw [D.ob]; exact True.intro) (.inl rfl) (fun c o hc z => (hsb.2 c hc).trans z) ⟨o, ho⟩ (dkO_ok r2 dd')
  exact ⟨.ref s.heap.objs.size, _, J3, rfl, q _ (fun c o nc e => (upd_ne nc).trans e) (kdx_new D.sm D.ks n dp (fun a zs e => D.tu e) nd (by show 0 < sizeLine; decide))⟩
end
/-! ### for k in d -/
/-- the keys of the locked dict at d, in their order -/
def Itx (w : World) (d : Addr) (o : Obj) (xs : List KAV) : It :=
  ⟨fun i H => H d = some (.frz o (dkO w d xs)) ∧ i < xs.length, fun i H x H' => H' = H ∧ ∃ e, xs[i]? = some e ∧ x = .ref e.2.1, fun i H => H d = some (.frz o (dkO w d xs)) ∧ xs.length ≤ i⟩
theorem nr_get {xs : List KAV} {ys : List (NestedKey × Addr × Value)} {i : Nat} {e : KAV} (r : NR xs ys) (h : xs[i]? = some e) : ∃ y, ys[i]? = some y ∧ e.2.1 = y.2.1 := by
  obtain ⟨y, hy, z⟩ := Paired.get r h
  exact ⟨y, hy, z.2.1⟩
section
variable {P : Program} {w : World} {K : PySem.W.Frag} {tg : Expr} {d : Addr} {o : Obj} {es : Array DictEntry} {ep : Nat}
theorem inv_frzX {X : Cx} {pins : List (Addr × Obj)} {σ : L2.St} {H : Hp} {s : Shared} {xs : List KAV} (I : Inv X pins σ H s) (h : H d = some (.frz o (dkO w d xs))) :
    s.heap.get? d = some o ∧ o.ExactDict ∧ ∃ (es : Array DictEntry) (ep : Nat), o.data = .dict es ep ∧ es.size = xs.length ∧ ∀ (i : Nat) (e : KAV), xs[i]? = some e → ∃ en : DictEntry, es[i]? = some en ∧ en.key = .ref e.2.1 := by
  obtain ⟨hd, ⟨⟨o', es, ep, ho, hx, hdt, ys, he, r⟩, _⟩⟩ := (show ObjOk X.prog X.w H s.heap d (.frz o (dkO w d xs)) from I.hok d _ h)
  rw [hd] at ho
  cases ho
  have l1 : es.size = ys.length := by
    have := congrArg List.length he
    rw [List.length_map] at this
    simpa using this
  have l2 := Paired.length r
  refine ⟨hd, hx, es, ep, hdt, by omega, fun i e z => ?_⟩
  obtain ⟨y, hy, ey⟩ := nr_get r z
  have q : es.toList[i]? = some (enK w y) := by rw [he, List.getElem?_map, hy]; rfl
  rw [Array.getElem?_toList] at q
  exact ⟨_, q, by rw [ey]; rfl⟩
theorem turn_keysX {xs : List KAV} (it : Addr) (hod : o.data = .dict es ep) : Turn P w K tg (Itx w d o xs) [it] it (fun i h => h.IsKeyIter it d i xs.length ep) where
  mem := by simp
  obj := fun i h st b hb => by
    have e : b = it := by simpa using hb
    subst e
    obtain ⟨oi, e, c, dd⟩ := st
    exact ⟨oi, e, fun v z => by rw [dd] at z; cases z⟩
  keep := fun i h h' st k => st.at fun oi e => k it (by simp) oi e
  item := by
    intro X hP hw hK hc i pins s σ H E I hf st hg
    subst hP hw hK
    obtain ⟨hd, hi⟩ := hg
    obtain ⟨f0, f1, f2, f3, f4, f5⟩ := hf it (by simp)
    obtain ⟨hgd, hx, es', ep', hdt, hsz, ent⟩ := inv_frzX I hd
    obtain ⟨rfl, rfl⟩ := dict_ep hod hdt
    obtain ⟨e0, he0⟩ : ∃ p, xs[i]? = some p := ⟨xs[i], List.getElem?_eq_getElem hi⟩
    obtain ⟨en, hen, hkey⟩ := ent i e0 he0
    refine next_key_item st hgd hdt hsz hen fun h' st' sb => ?_
    have I1 : Inv X pins σ H { s with heap := h' } := I.turned (t' := s.toks) (fun b ob hb e => (sb.2 b hb).trans e) f0 f1 f3 f4 f5
    obtain ⟨oi, e, c, dd⟩ := id st'
    exact ⟨en.key, rfl, go_of (s := { s with heap := h' }) e c dd (by decide) ⟨.ref e0.2.1, H, I1, hkey, ⟨rfl, e0, he0, rfl⟩, st', fun b hb => (hf b hb).1⟩⟩
  done := by
    intro X hP hw hK hc i pins s σ H E I hf st hg
    subst hP hw hK
    obtain ⟨hd, hi⟩ := hg
    obtain ⟨f0, f1, f2, f3, f4, f5⟩ := hf it (by simp)
    obtain ⟨hgd, hx, es', ep', hdt, hsz, ent⟩ := inv_frzX I hd
    obtain ⟨rfl, rfl⟩ := dict_ep hod hdt
    exact next_key_end (I.ok.hd hc) st hgd hdt hsz hi fun h' eb => ⟨rfl, I.turned (t' := s.toks) (fun b ob hb e => eb b ob hb e) f0 f1 f3 f4 f5⟩
  self := fun A i s Q E st h => by
    refine wpAny_pyIter_slot st.typeIs F.slot_dict_keyiterator_iter (wpAny_call_entry F.slot_dict_keyiterator_iter st.typeIs F.entry_dict_keyiterator_iter ?_ (F.args_dict_keyiterator_iter_1 _))
    show wpAny _ _ (ret (.ref it)) _ _ s
    exact wpAny_pure ⟨_, rfl, "dict_keyiterator", _, st.typeIs, F.slot_dict_keyiterator_next.lookup, h⟩
end
def iXKeys (w : World) (td : TE) : TI := fun σ H R => td σ H fun x H1 => ∃ d o xs, x = .ref d ∧ (d == sysModules) = false ∧ H1 d = some (.frz o (dkO w d xs)) ∧ R (Itx w d o xs) H1
theorem pi_xkeys {X : Cx} {tg e : Expr} {td : TE} (he : PE X e td) : L2.PI X tg e (iXKeys X.w td) := by
  refine ⟨fun pins s σ H R I h => ?_⟩
  refine thn (he.run pins s σ H _ I h) fun u s1 ⟨x, H1, I1, rx, d, o, xs, ex, sm, hd, q⟩ => ?_
  subst ex
  obtain rfl : u = Value.ref d := rx
  obtain ⟨hgd, hx, es, ep, hdt, hsz, ent⟩ := inv_frzX I1 hd
  refine iter_keys sm hgd hx hdt (pi_one (tk := s1.toks) I1 _ (turn_keysX _ hdt) ⟨_, Heap.get?_push_size _ rfl, rfl, ?_⟩ q)
  rw [hsz] <;> rfl
theorem walk_xkeys {w : World} {d : Addr} {o : Obj} {xs : List KAV} : Walk (Itx w d o xs) xs.length (fun H => H d = some (.frz o (dkO w d xs))) (fun i H x H' => H' = H ∧ ∃ e, xs[i]? = some e ∧ x = .ref e.2.1) :=
  ⟨fun i _ hi q => ⟨q, hi⟩, fun _ q => ⟨q, Nat.le_refl _⟩, fun _ _ _ _ _ q y => y⟩
end Ph

set_option maxHeartbeats 4000000
/-! PhSt: sorted of tuples that compare, empty ones too. -/
namespace Ph
open PySem PySem.Spec PyProof.Rows L2 PySem.W SeqAt
section
variable {prog : Program} {w : World} {A : Around} {E : Value → Shared → Prop} {s : Shared}
/-- a tuple's own < -/
theorem call_tuple_ltT {Q : Value → Shared → Prop} {l b : Addr} {us vs : Array Value} {e r : Nat → Bool} (hl : s.heap.IsTuple l us) (hb : s.heap.IsTuple b vs)
    (he : ∀ j (j1 : j < us.size) (j2 : j < vs.size), EqAt A.in1 s us[j] vs[j] (e j)) (hr : ∀ j (j1 : j < us.size) (j2 : j < vs.size), e j = false → RcLt A.in1 s us[j] vs[j] (r j))
    (h : Q (.bool (firstLt e r (decide (us.size < vs.size)) (List.range (min us.size vs.size)))) s) : wpAny (model prog w) A (call (.builtin "tuple.__lt__") [.ref l, .ref b]) Q E s := by
  obtain ⟨⟨k1, d1, t1, s1⟩, o1, c1, n1, e1⟩ := id hl
  obtain ⟨⟨k2, d2, t2, s2⟩, o2, c2, n2, e2⟩ := id hb
  dsimp only at c1 e1 c2 e2
  subst c1 e1 c2 e2
  refine call_meets F.slot_tuple_lt ⟨_, o1, rfl⟩ F.entry_tuple_lt (F.args_tuple_lt_2 _ _) (tuple_ltAt l b us vs n1 n2 d1 d2 s1 s2 e r) ?_
  exact ⟨o1, o2, he, hr, h⟩
theorem oneLt_alikeT {f : Bool} {xs ys : List PyData} {a b : Value} {as bs : List Addr} {Q : Bool → Shared → Prop} (ra : Reads s.heap a (.tuple xs) as) (rb : Reads s.heap b (.tuple ys) bs) (h : alike (.tuple xs) (.tuple ys) = true)
    (hu : A.units + min (PyData.tuple xs).depth (PyData.tuple ys).depth < cLine) (hq : Q (dataLt (.tuple xs) (.tuple ys)) s) : wpAny (model prog w) A (oneLt' f a b) Q E s := by
  cases f with
  | false => exact oneLt_alike (fun z => by cases z) ra rb h (fun z => by cases z) hu hq
  | true =>
    have hal : alikeAll xs ys = true := by simpa [alike] using h
    cases ra with
    | @tuple l o vs n _ as₁ h1 h2 h3 h4 =>
      cases rb with
      | @tuple l' o' vs' n' _ bs₁ k1 k2 k3 k4 =>
        have n1 : vs.size = xs.length := by simpa using ReadsAll.length _ _ _ h4
        have n2 : vs'.size = ys.length := by simpa using ReadsAll.length _ _ _ k4
        rw [dataLt_tuple, ← firstLt_toks xs ys hal, ← n1, ← n2] at hq
        rw [oneLt'_eq]
        simp only [if_true]
        refine wpAny_bind (wpAny_cRoomFor (room_here hu) ?_)
        refine wpAny_bind (wpAny_callSpecialIfBound?_slot (T := "tuple") ⟨_, h1, h2⟩ F.slot_tuple_lt (call_tuple_ltT (e := pairEq xs ys) (r := fun j => dataLt (xs.getD j .none) (ys.getD j .none)) ⟨_, h1, h2, _, h3⟩ ⟨_, k1, k2, _, k3⟩ (fun j j1 j2 => ?_) (fun j j1 j2 hj => ?_) ?_))
        · have := eqAt_alikeAll xs ys A.in1 s vs.toList vs'.toList _ _ h4 k4 hal (room_in hu) j (by simpa using j1) (by simpa using j2)
          simpa using this
        · have := rcLt_alikeAll xs ys A.in1 s vs.toList vs'.toList _ _ h4 k4 hal (room_in hu) j (by simpa using j1) (by simpa using j2) hj
          simpa using this
        · exact wpAny_truthy_bool hq
def noItem : PyData → Bool
  | .tuple [] => true
  | _ => false
theorem firsts_any {M : Model} : ∀ (vs : List Value) (ds : List PyData) {Q : List (Option Value) → Shared → Prop}, EachIs (fun v d => ∃ as, Reads s.heap v d as) vs ds → (∀ d ∈ ds, ∃ xs, d = .tuple xs) →
    (∀ fs, Paired (fun f d => Option.isSome f = !noItem d) fs ds → Q fs s) → wpAny M A (vs.mapM firstOfTuple') Q E s
  | [], _, _, .nil, _, h => by rw [List.mapM_nil]; exact wpAny_pure (h _ .nil)
  | v :: vs, d :: ds, Q, .cons ⟨as, r⟩ t, ht, h => by
    obtain ⟨xs, rfl⟩ := ht d (List.mem_cons_self ..)
    cases r with
    | @tuple a o ys n _ _ ho hc hd hr =>
      rw [List.mapM_cons]
      refine wpAny_bind ?_
      rw [kas_first_eq]
      refine wpAny_bind (Looks.here (show Looks M s.heap (typeOf (.ref a)) o.cls from (Looks.ld ho).andThen .now) ?_)
      rw [hc, if_neg (by first | decide | simp)]
      refine wpAny_bind (listItems_at ho hd (wpAny_pure ?_))
      refine wpAny_bind (firsts_any vs ds (Q := fun bs s' => wpAny M A (pure (ys[0]? :: bs)) Q E s') t (fun d hd => ht d (List.mem_cons_of_mem _ hd)) fun fs hf => wpAny_pure (h _ (.cons ?_ hf)))
      have l := ReadsAll.length _ _ _ hr
      cases xs with
      | nil =>
        have : ys.size = 0 := by simpa using l
        rw [Array.getElem?_eq_none (by omega)]
        rfl
      | cons x r =>
        have : ys.size = r.length + 1 := by simpa using l
        rw [Array.getElem?_eq_getElem (by omega)]
        rfl
theorem SortsAt.dataT {vs : List Value} {ds : List PyData} (e : EachIs (fun v d => ∃ as, Reads s.heap v d as) vs ds) (hal : AllAlike ds) (ht : ∀ d ∈ ds, ∃ xs, d = .tuple xs) (hu : ∀ d, d ∈ ds → A.units + d.depth < cLine) : SortsAt prog w A s (dataKind s.heap ds) vs := by
  by_cases all : ∀ d ∈ ds, noItem d = false
  · refine SortsAt.data e hal (.inl fun d hd => ?_) hu
    obtain ⟨xs, rfl⟩ := ht d hd
    have := all _ hd
    cases xs with
    | nil => cases this
    | cons x r => exact ⟨x, r, rfl⟩
  · have room : ∀ {d d' : PyData}, d ∈ ds → A.units + min d.depth d'.depth < cLine := fun {d d'} hd => Nat.lt_of_le_of_lt (Nat.add_le_add_left (Nat.min_le_left _ _) _) (hu d hd)
    have lt : ∀ f, ∀ (E : Value → Shared → Prop) (x y : Value) (a b : List (Int ⊕ List Nat)) (Q : Bool → Shared → Prop), (dataKind s.heap ds).keyOf x = some a → (dataKind s.heap ds).keyOf y = some b → Q (PyProof.Rows.lexLt itemOrd a b) s → wpAny (model prog w) A (oneLt' f x y) Q E s := by
      intro f E x y a b Q ha hb hq
      obtain ⟨d, as, hd, ra, rfl⟩ := dataKind_inv ha
      obtain ⟨d', as', hd', rb, rfl⟩ := dataKind_inv hb
      obtain ⟨xs, rfl⟩ := ht d hd
      obtain ⟨ys, rfl⟩ := ht d' hd'
      exact oneLt_alikeT ra rb (hal _ hd _ hd') (room hd) hq
    have types : ∀ v ∈ vs, Looks (model prog w) s.heap (typeOf v) (Value.type "tuple") := fun v hv => by
      obtain ⟨d, hd, as, r⟩ := e.left v hv
      obtain ⟨xs, rfl⟩ := ht d hd
      exact looks_reads r
    have some_no : ∀ {fs : List (Option Value)}, Paired (fun f d => Option.isSome f = !noItem d) fs ds → ¬ (fs.toArray.all fun x => x.isSome) = true := fun {fs} hf z => all fun d hd => by
      obtain ⟨f, hfm, e2⟩ : ∃ f ∈ fs, Option.isSome f = !noItem d := by
        clear e hal ht hu all room lt types z
        induction hf with
        | nil => cases hd
        | @cons f' d' fs' ds' h t ih =>
          rcases List.mem_cons.mp hd with q | q
          · subst q; exact ⟨f', List.mem_cons_self .., h⟩
          · obtain ⟨f, h1, h2⟩ := ih q
            exact ⟨f, List.mem_cons_of_mem _ h1, h2⟩
      have z2 : ∀ x ∈ fs, x.isSome = true := by simpa using z
      rw [z2 f hfm] at e2
      simpa using e2.symm
    refine ⟨fun v hv => ?_, ?_⟩
    · obtain ⟨d, hd, as, r⟩ := e.left v hv
      exact ⟨_, dataKind_some hal hd r⟩
    · cases ds with
      | nil => exact absurd (fun d hd => nomatch hd) all
      | cons d₀ ds₀ =>
        by_cases f0 : noItem d₀ = true
        · refine ⟨oneType', fun E x y a b Q ha hb hq => ?_, fun h2 E Q hq => ?_⟩
          · rw [keyLt'_oneType]
            exact lt true E x y a b Q ha hb hq
          · rw [keyKind'_eq, List.mapM_toArray, map_eq_pure_bind]
            refine wpAny_bind (wpAny_bind (firsts_any vs _ e ht fun fs hf => wpAny_pure ?_))
            rw [if_neg (some_no hf)]
            cases hf with
            | @cons f' _ fs' _ h t =>
              rw [f0] at h
              have e0 : f' = none := by cases f' with | none => rfl | some x => cases h
              subst e0
              rw [if_neg (by simp)]
              rw [oneTypeOnly'_eq, List.mapM_toArray, map_eq_pure_bind]
              refine wpAny_bind (wpAny_bind (wpAny_bind (kas_mapM (r := Value.type "tuple") _ (fun v hv Q' hq => (types v hv).here hq) (wpAny_pure ?_))))
              obtain ⟨v₁, rest, rfl⟩ : ∃ v₁ rest, vs = v₁ :: rest := by
                cases vs with
                | nil => simp at h2
                | cons v r => exact ⟨v, r, rfl⟩
              have hall : ((List.map (fun _ => Value.type "tuple") (v₁ :: rest)).toArray.all fun x => x == Value.type "tuple") = true := by
                simp only [List.all_toArray, List.all_map, List.all_eq_true]
                intro _ _
                exact beq_self_eq_true _
              have h0 : (List.map (fun _ => Value.type "tuple") (v₁ :: rest)).toArray[0]? = some (Value.type "tuple") := by simp
              rw [h0]
              simp only [hall, if_true]
              exact wpAny_pure (wpAny_pure hq)
        · refine ⟨general', fun E x y a b Q ha hb hq => lt false E x y a b Q ha hb hq, fun h2 E Q hq => ?_⟩
          rw [keyKind'_eq, List.mapM_toArray, map_eq_pure_bind]
          refine wpAny_bind (wpAny_bind (firsts_any vs _ e ht fun fs hf => wpAny_pure ?_))
          rw [if_neg (some_no hf)]
          cases hf with
          | @cons f' _ fs' _ h t =>
            have f0 : noItem d₀ = false := by simpa using f0
            rw [f0] at h
            rw [if_pos (by simpa using h)]
            exact wpAny_pure hq
end
/-! ### sorted of tuples -/
def rSortedT (K : PySem.W.Frag) : List V → Hp → VK → Prop := fun vs H Q => ∃ (a : Addr) (xs : List V) (D : V → PyData), vs = [V.ref a] ∧ SqL K H a xs ∧ (∀ x ∈ xs, Dp K H x (D x)) ∧ AllAlike (xs.map D) ∧ (∀ x ∈ xs, ∃ ds, D x = .tuple ds) ∧ (∀ x ∈ xs, (D x).depth ≤ 40) ∧
  ∀ (ys : List V) (p : Addr), ys.Perm xs → ys = xs.mergeSort (dataLe false D) → H p = none → Q (.ref p) (upd H p (.lst ys))
theorem reads_each {X : Cx} {pins : List (Addr × Obj)} {σ : L2.St} {H : Hp} {s : Shared} (I : Inv X pins σ H s) {D : V → PyData} {xs : List V} {its : List Value} (rv : Vals xs its) (hd : ∀ x ∈ xs, Dp X.K H x (D x)) : EachIs (fun v x => ∃ as, Reads s.heap v (D x) as) its xs := by
  induction rv with
  | nil => exact .nil
  | cons r t ih => exact .cons (Dp.reads I _ _ _ (hd _ (List.mem_cons_self ..)) r) (ih fun x hx => hd x (List.mem_cons_of_mem _ hx))
theorem cr_sortedT' {X : Cx} (hu : X.A.units + 64 < cLine) : CallR X (.builtin "sorted") (rSortedT X.K) := by
  intro pins s σ H vs us Q I r h
  obtain ⟨a, xs, D, rfl, hs, hd, al, tp, dp, q⟩ := h
  obtain ⟨its, rv, pl, hz⟩ := I.list hs
  rw [Vals.ref1 r]
  have ln := rv.length
  have er := reads_each I rv hd
  have er2 : EachIs (fun v x => ∃ as, Reads (sortingHeap (copyHeap s.heap its) (s.heap.objs.size + 1) its) v (D x) as) its xs := er.mono fun _ _ ⟨as, z⟩ => ⟨as, PyProof.Rows.Reads.keeps (fun _ _ => sorting_copy_old) z⟩
  have tps : ∀ d ∈ xs.map D, ∃ ds, d = PyData.tuple ds := fun d hd => by
    obtain ⟨x, hx, rfl⟩ := List.mem_map.mp hd
    exact tp x hx
  have room : ∀ d, d ∈ xs.map D → X.A.in1.in1.units + d.depth < cLine := fun d hd => by
    obtain ⟨x, hx, rfl⟩ := List.mem_map.mp hd
    have := dp x hx
    show X.A.units + 1 + 1 + _ < cLine
    omega
  have rel : EachIs (fun v x => RelV x v) its xs := each_of rv
  refine sorted_vals (prog := X.prog) (w := X.w) (A := X.A) (κ := dataKind _ (xs.map D)) pl.isList (SortsAt.dataT (s := { s with heap := sortingHeap (copyHeap s.heap its) (s.heap.objs.size + 1) its }) (each_map (R := fun v d => ∃ as, Reads (sortingHeap (copyHeap s.heap its) (s.heap.objs.size + 1) its) v d as) D er2) al tps room) (by rw [← ln]; exact hz) ?_
  have rv2 : Vals (xs.mergeSort (dataLe false D)) (sortVals (dataKind (sortingHeap (copyHeap s.heap its) (s.heap.objs.size + 1) its) (xs.map D)) false its its) := of_each (sortVals_data false rel er2 al)
  generalize sortVals (dataKind (sortingHeap (copyHeap s.heap its) (s.heap.objs.size + 1) its) (xs.map D)) false its its = out at *
  obtain ⟨c, hc⟩ := PyProof.Rows.sortedAll_at s.heap its out.toArray
  have hz2 : s.heap.objs.size ≤ s.heap.objs.size + 1 := Nat.le_succ _
  have hl2 : (xs.mergeSort (dataLe false D)).length ≤ sizeLine := by rw [List.length_mergeSort, ln]; omega
  exact ⟨.ref (s.heap.objs.size + 1), _, I.laid (t' := s.toks) (o := .lst (xs.mergeSort (dataLe false D))) (fun _ _ => PyProof.Rows.sortedAll_old) hz2 ⟨hl2, out, c, rv2, hc⟩, rfl, q _ _ (List.mergeSort_perm ..) rfl (I.hok.fresh hz2)⟩
/-! ### states sorted -/
theorem bD_alike (a b : Int × Int) : alike (bD a) (bD b) = true := by simp [bD, alike, alikeAll]
theorem bDs_alike : ∀ (l m : List (Int × Int)), alikeAll (l.map bD) (m.map bD) = true
  | [], _ => by simp [alikeAll]
  | _ :: _, [] => by simp [alikeAll]
  | a :: l, b :: m => by
    rw [List.map_cons, List.map_cons]
    simp only [alikeAll, bD_alike, bDs_alike l m, Bool.and_self]
theorem paired_perm {α β : Type} {R : α → β → Prop} {xs ys : List α} (p : ys.Perm xs) : ∀ {bs : List β}, Paired R xs bs → ∃ cs, Paired R ys cs ∧ cs.Perm bs := by
  induction p with
  | nil => exact fun h => ⟨_, h, .refl _⟩
  | cons x _ ih =>
    intro bs h
    cases h with
    | cons h t =>
      obtain ⟨cs, h1, h2⟩ := ih t
      exact ⟨_, .cons h h1, h2.cons _⟩
  | swap x y l =>
    intro bs h
    cases h with
    | cons h t =>
      cases t with
      | cons h' t => exact ⟨_, .cons h' (.cons h t), .swap ..⟩
  | trans _ _ i1 i2 =>
    intro bs h
    obtain ⟨cs, h1, h2⟩ := i2 h
    obtain ⟨ds, h3, h4⟩ := i1 h1
    exact ⟨ds, h3, h4.trans h2⟩
end Ph

set_option maxHeartbeats 4000000
/-! PhKy: list(d) of such a dict; d[k] op= e. -/
namespace Ph
open PySem PySem.Spec PyProof.Rows L2
theorem kdr_raw {P : Program} {w : World} {H : Hp} {h : Heap} {d : Addr} {xs : List KAV} (ok : HOk P w H h) (D : KDr w H d xs) :
    ∃ (o : Obj) (es : Array DictEntry) (ep : Nat), h.get? d = some o ∧ o.ExactDict ∧ o.data = .dict es ep ∧ es.size = xs.length ∧ ∀ (i : Nat) (en : DictEntry), es[i]? = some en → ∃ e, xs[i]? = some e ∧ en.key = .ref e.2.1 ∧ RelV e.2.2 en.val := by
  have x : ObjOk P w H h d (dkO w d xs) := by
    rcases D.ob with e | ⟨o, e⟩
    · exact ok d _ e
    · exact (show ObjOk P w H h d (.frz o (dkO w d xs)) from ok d _ e).2
  obtain ⟨⟨o, es, ep, ho, hc, hdat, ys, he, r⟩, _⟩ := x
  have l1 : es.size = ys.length := by
    have := congrArg List.length he
    rw [List.length_map] at this
    simpa using this
  have l2 := Paired.length r
  refine ⟨o, es, ep, ho, hc, hdat, by omega, fun i en h => ?_⟩
  have q : es.toList[i]? = some en := by rw [Array.getElem?_toList]; exact h
  rw [he, List.getElem?_map] at q
  obtain ⟨y, hy, e2⟩ := Option.map_eq_some_iff.mp q
  obtain ⟨e, h1, _, h3, h4⟩ := Paired.get2 r hy
  exact ⟨e, h1, by rw [← e2, h3]; rfl, by rw [← e2]; exact h4⟩
section
variable {X : Cx}
theorem call_listX (hc : X.calm = true) : CallR X (.type "list") (fun vs H Q => ∃ d xs, vs = [V.ref d] ∧ KDr X.w H d xs ∧ ∀ p, H p = none → Q (.ref p) (upd H p (.lst (xs.map fun x => V.ref x.2.1)))) := by
  intro pins s σ H vs us Q I r h
  obtain ⟨d, xs, rfl, D, q⟩ := h
  obtain ⟨u, rfl, rx⟩ := r.one
  cases rx
  obtain ⟨o, es, ep, ho, hx, hdt, hsz, ent⟩ := kdr_raw I.hok D
  have ln := D.ln
  refine PySem.W.kdl_call (kdl_raw D.sm hx hdt) (I.ok.hd hc) ho (by omega) fun h' tk acc' c' kp e it => ?_
  have rv : Vals (xs.map fun x => V.ref x.2.1) acc'.toList := vals_of_at (by rw [List.length_map, Array.length_toList]; exact hsz.symm.trans it.1.symm) fun j x u h1 h2 => by
    obtain ⟨en, hen, hv⟩ := it.2 j u (by rw [← Array.getElem?_toList]; exact h2)
    obtain ⟨e0, h3, h4, _⟩ := ent j en hen
    rw [List.getElem?_map, h3] at h1
    cases h1
    rw [hv, h4]
    rfl
  have hz : (xs.map fun x => V.ref x.2.1).length ≤ sizeLine := by rw [List.length_map]; exact ln
  refine ⟨.ref s.heap.objs.size, _, I.laid (t' := tk) (o := .lst (xs.map fun x => V.ref x.2.1)) kp (Nat.le_refl _) ?_, rfl, q _ (I.hok.fresh (Nat.le_refl _))⟩
  exact ⟨hz, acc'.toList, c', rv, by rw [Array.toArray_toList]; exact e⟩
end
/-- d[k] op= e -/
def sKAug (w : World) (td ty tv : TE) (rd : V → V → Hp → VK → Prop) : TS := fun D σ H => td σ H fun x H1 => ty σ H1 fun y H2 => ∃ d b kvs k v, x = .ref d ∧ y = .ref b ∧ KD w H2 d kvs ∧ Nk H2 (.ref b) k ∧ k.depth ≤ 8 ∧ valV kvs k = some v ∧
  tv σ H2 fun y2 H3 => rd v y2 H3 fun z H4 => KD w H4 d kvs ∧ Nk H4 (.ref b) k ∧ kvs.length < sizeLine ∧ ∀ H5, But d H4 H5 → KD w H5 d (putK kvs k z) → D.nx σ H5
section
variable {X : Cx} {o i value : Expr} {pos tpos : Pos} {td ty tv : TE}
theorem ps_kaug {op : Operator} {rd : V → V → Hp → VK → Prop} (hu : X.A.units + 64 < cLine) (ho : PE X o td) (hi : PE X i ty) (hv : PE X value tv) (hop : InOp X op rd)
    (ha : ∀ ov iv new, augStore i ov iv new = (do holding [new, ov, iv] (setItem ov iv new); release [new, ov, iv] []; pure .next) := by intros; rfl) : PS X (.AugAssign (.Subscript o i tpos) op value pos) (sKAug X.w td ty tv rd) := by
  refine ⟨fun pins s σ H D I h => ?_⟩
  refine wpAny_AugAssign_SubscriptAny (thn (ho.run pins s σ H _ I h) fun u s1 ⟨x, H1, I1, rx, q1⟩ => thn (hi.run pins s1 σ H1 _ I1 q1) fun iv s2 ⟨y, H2, I2, ry, d, b, kvs, k, v, ex, ey, K, n, dp, hk, q2⟩ => ?_) ha
  subst ex ey
  obtain rfl : u = Value.ref d := rx
  obtain rfl : iv = Value.ref b := ry
  refine (kd_get hu I2 K n dp hk fun w' s3 I3 rw' => thn (hv.run pins s3 σ H2 _ I3 q2) fun w2 s4 ⟨y2, H3, I4, ry2, q3⟩ => thn (hop pins s4 σ H3 v y2 w' w2 _ I4 rw' ry2 q3) fun w3 s5 ⟨z, H4, I5, rz, K4, n4, hl, q4⟩ => ?_).2
  exact kd_set hu I5 K4 n4 dp hl rz fun H5 s6 b5 k5 I6 => ⟨σ, H5, I6, q4 H5 b5 k5⟩
end
/-! ### sorted of a list of states -/
open Classical in
noncomputable def stOf (H : Hp) (x : V) : List Bk := if h : ∃ bs, StV H x bs then h.choose else []
theorem stOf_eq {H : Hp} {x : V} {bs : List Bk} (h : StV H x bs) : stOf H x = bs := by
  have ex : ∃ bs, StV H x bs := ⟨bs, h⟩
  unfold stOf
  rw [dif_pos ex]
  obtain ⟨t, e1, st1⟩ := ex.choose_spec
  obtain ⟨u, e2, st2⟩ := h
  rw [e1] at e2
  cases e2
  obtain ⟨xs, h1, b1⟩ := st1
  obtain ⟨ys, h2, b2⟩ := st2
  rw [h1] at h2
  cases h2
  rw [← b1.map, ← b2.map]
def rSortedS (K : PySem.W.Frag) : List V → Hp → VK → Prop := fun vs H Q => ∃ (a : Addr) (xs : List V) (bss : List (List Bk)), vs = [V.ref a] ∧ SqL K H a xs ∧ StVs H xs bss ∧ ∀ ys css p, css.Perm bss → StVs H ys css → H p = none → Q (.ref p) (upd H p (.lst ys))
theorem cr_sortedS {X : Cx} (hu : X.A.units + 64 < cLine) : CallR X (.builtin "sorted") (rSortedS X.K) := by
  intro pins s σ H vs us Q I r h
  obtain ⟨a, xs, bss, rfl, hs, hb, q⟩ := h
  have key : ∀ x ∈ xs, ∃ bs, StV H x bs := fun x hx => by
    obtain ⟨i, hi, e⟩ := List.getElem_of_mem hx
    obtain ⟨b, _, st⟩ := Paired.get hb (i := i) (by rw [List.getElem?_eq_getElem hi, e])
    exact ⟨b, st⟩
  refine cr_sortedT' hu pins s σ H _ us Q I r ⟨a, xs, fun x => stD (stOf H x), rfl, hs, fun x hx => ?_, fun d hd d' hd' => ?_, fun x _ => ⟨_, rfl⟩, fun x _ => Nat.le_trans (stD_depth _) (by decide), fun ys p pm _ np => ?_⟩
  · obtain ⟨bs, t, rfl, st⟩ := key x hx
    show Dp X.K H (.ref t) (stD (stOf H (.ref t)))
    rw [stOf_eq ⟨t, rfl, st⟩]
    exact st.dp
  · obtain ⟨x, _, rfl⟩ := List.mem_map.mp hd
    obtain ⟨y, _, rfl⟩ := List.mem_map.mp hd'
    unfold stD
    simp only [PySem.W.alike]
    exact bDs_alike _ _
  · obtain ⟨css, h1, h2⟩ := paired_perm pm hb
    exact q ys css p h2 h1 np
/-! ### what keeps everything but a table and a list -/
structure KG (N L : Addr) (H H' : Hp) : Prop where
  kt : Kt H H'
  fr : ∀ a o, a ≠ N → a ≠ L → H a = some o → H' a = some o
section
variable {N L : Addr} {H H1 H2 : Hp}
theorem KG.refl (H : Hp) : KG N L H H := ⟨Kt.refl H, fun _ _ _ _ e => e⟩
theorem KG.trans (a : KG N L H H1) (b : KG N L H1 H2) : KG N L H H2 := ⟨a.kt.trans b.kt, fun c o n1 n2 e => b.fr c o n1 n2 (a.fr c o n1 n2 e)⟩
theorem KG.same (s : Same H H1) : KG N L H H1 := ⟨Same.kt s, fun c o _ _ e => s c o e⟩
theorem KG.putD {w : World} {kvs : List (NestedKey × V)} (b : But N H H1) (k : KD w H N kvs) : KG N L H H1 := ⟨b.ktD k, fun c o n _ e => b c o n e⟩
theorem KG.putX {w : World} {xs : List KAV} (b : But N H H1) (k : KDx w H N xs) : KG N L H H1 := ⟨b.ktX k, fun c o n _ e => b c o n e⟩
theorem KG.list {xs ys : List V} (e : H L = some (.lst xs)) : KG N L H (upd H L (.lst ys)) := ⟨kt_upd e, fun c o _ n h => by rw [upd_ne n]; exact h⟩
theorem KG.kpT (k : KG N L H H1) : KpT H H1 := k.kt.kpT
theorem KG.st (k : KG N L H H1) {t : Addr} {bs : List Bk} (h : StAt H t bs) : StAt H1 t bs := k.kt.st h
end
theorem KD.kt {w : World} {H H' : Hp} {d : Addr} {kvs : List (NestedKey × V)} (k : KD w H d kvs) (t : Kt H H') (e : ∀ u, H d = some u → H' d = some u) : KD w H' d kvs := k.keeps (fun _ _ h => t.tuH h) e
theorem KDx.kt {w : World} {H H' : Hp} {d : Addr} {xs : List KAV} (k : KDx w H d xs) (t : Kt H H') (e : ∀ u, H d = some u → H' d = some u) : KDx w H' d xs := k.keeps (fun _ _ h => t.tuH h) e
/-! ### a state with a size as a key -/
def ekey (bs : List Bk) (z : Int) : NestedKey := .tup [skey bs, .num z]
theorem ekey_inj {a b : List Bk} {x y : Int} (h : ekey a x = ekey b y) : a = b ∧ x = y := by
  unfold ekey at h
  injection h with h
  injection h with h1 h
  injection h with h2 _
  injection h2 with h2
  exact ⟨skey_inj h1, h2⟩
theorem ekey_depth (bs : List Bk) (z : Int) : (ekey bs z).depth ≤ 8 := by
  have h := bkeys_depth bs
  unfold ekey skey
  simp only [NestedKey.depth, NestedKey.depthAll]
  omega
theorem ekey_nk {H : Hp} {T u : Addr} {bs : List Bk} {z : Int} (hT : H T = some (.tup [.ref u, .int z])) (hu : StAt H u bs) : Nk H (.ref T) (ekey bs z) := .tup (.inl hT) (.cons hu.nk (.cons (.int z) .nil))
theorem Kt.ch {H H' : Hp} (k : Kt H H') {c : Addr} {C : List Int} (h : ChAt H c C) : ChAt H' c C := by
  obtain ⟨o, d, e⟩ := h
  exact ⟨o, d, k c _ e (fun _ z => by cases z) (fun _ z => by cases z)⟩
theorem but_ktE {H H' : Hp} {d : Addr} {φ : Heap → Prop} (b : But d H H') (e : H d = some (.ext φ)) : Kt H H' := fun a o h n1 _ => b a o (fun z => by
  rw [z, e] at h
  exact n1 _ (Option.some.inj h).symm) h
/-- the state stands in the table -/
def InK (xs : List KAV) (bs : List Bk) : Prop := (valV (xs.map kv2) (skey bs)).isSome = true
section
variable {xs : List KAV} {bs cs : List Bk} {k : NestedKey} {b : Addr} {v : V}
theorem InK.put (h : InK xs bs) : InK (putX xs k b v) bs := by
  unfold InK at h ⊢
  rw [valV_putX]
  split
  · rfl
  · exact h
theorem InK.new : InK (putX xs (skey bs) b v) bs := by
  unfold InK
  rw [valV_putX, if_pos rfl]
  rfl
theorem InK.inv (h : InK (putX xs (skey cs) b v) bs) : bs = cs ∨ InK xs bs := by
  unfold InK at h
  rw [valV_putX] at h
  split at h
  · rename_i e
    exact .inl (skey_inj e)
  · exact .inr h
theorem InK.mem (h : InK xs bs) : ∃ x ∈ xs, x.1 = skey bs := by
  obtain ⟨v, e⟩ := Option.isSome_iff_exists.mp h
  obtain ⟨x, hx, e1, _⟩ := valV_mem2 e
  exact ⟨x, hx, e1⟩
theorem InK.of {x : KAV} (nd : (xs.map (·.1)).Nodup) (hx : x ∈ xs) (e : x.1 = skey bs) : InK xs bs := by
  unfold InK
  rw [valV_kv2 nd hx e]
  rfl
theorem InK.not (h : (!(valV (xs.map kv2) (skey bs)).isSome) = true) : valV (xs.map kv2) (skey bs) = none ∧ ¬ InK xs bs := by
  unfold InK
  cases e : valV (xs.map kv2) (skey bs) with
  | none => exact ⟨rfl, fun z => by cases z⟩
  | some x => rw [e] at h; cases h
theorem InK.yes (h : ¬ (!(valV (xs.map kv2) (skey bs)).isSome) = true) : InK xs bs := by
  unfold InK
  cases e : valV (xs.map kv2) (skey bs) with
  | none => rw [e] at h; exact absurd rfl h
  | some x => rfl
end
/-- tables of states of a list are not longer than the list -/
theorem keys_few {xs : List KAV} {bss : List (List Bk)} (nd : (xs.map (·.1)).Nodup) (h : ∀ x ∈ xs, ∃ bs ∈ bss, x.1 = skey bs) : xs.length ≤ bss.length := by
  have := nodup_le (l := xs.map (·.1)) (m := bss.map skey) nd fun k hk => by
    obtain ⟨x, hx, rfl⟩ := List.mem_map.mp hk
    obtain ⟨bs, hb, e⟩ := h x hx
    rw [e]
    exact List.mem_map.mpr ⟨bs, hb, rfl⟩
  rw [List.length_map, List.length_map] at this
  exact this
end Ph

set_option maxHeartbeats 4000000
/-! PhKz: sorted(d) of a dict whose keys are states. -/
namespace Ph
open PySem PySem.Calls PyProof.V PySem.Spec PyProof.Rows L2 PySem.W SeqAt
theorem cr_sortedX {X : Cx} (hc : X.calm = true) (hu : X.A.units + 64 < cLine) : CallR X (.builtin "sorted") (fun vs H Q => ∃ d xs bss, vs = [V.ref d] ∧ KDr X.w H d xs ∧ StVs H (xs.map fun x => V.ref x.2.1) bss ∧
    ∀ ys css p, css.Perm bss → StVs H ys css → H p = none → Q (.ref p) (upd H p (.lst ys))) := by
  intro pins s σ H vs us Q I r h
  obtain ⟨d, kxs, bss, rfl, K, hb, q⟩ := h
  obtain rfl := Vals.ref1 r
  obtain ⟨o, es, ep, ho, hx, hdt, hsz, ent⟩ := kdr_raw I.hok K
  have ln := K.ln
  generalize hxs : (kxs.map fun x => V.ref x.2.1) = xs at *
  have xl : xs.length = kxs.length := by rw [← hxs, List.length_map]
  refine call_function_entry kind_sorted plain_sorted entry_sorted (args_sorted1 _) ?_
  unfold Builtin.«sorted»
  refine wpAny_bind (m := checkCount "sorted" 1 1 _) (wpAny_pure ?_)
  refine wpAny_bind (kdu_collect (A := X.A.in1) (kdl_raw K.sm hx hdt) (I.ok.hd hc) ho (by omega) fun h' tk acc hk it => ?_)
  have rv : Vals xs acc.toList := vals_of_at (by rw [xl, Array.length_toList]; exact hsz.symm.trans it.1.symm) fun j x u h1 h2 => by
    obtain ⟨en, hen, hv⟩ := it.2 j u (by rw [← Array.getElem?_toList]; exact h2)
    obtain ⟨e0, h3, h4, _⟩ := ent j en hen
    rw [← hxs, List.getElem?_map, h3] at h1
    cases h1
    rw [hv, h4]
    rfl
  generalize acc.toList = its at *
  have il : its.length = kxs.length := by rw [← rv.length, xl]
  have hL : its.length ≤ sizeLine := by omega
  refine wpAny_bind (wpAny_newList ?_ hL)
  have hob : (h'.push { cls := .type "list", data := .seq its.toArray }).get? h'.objs.size = some (seqObj "list" its.toArray 0) := Heap.get?_push_size _ rfl
  have kb : ∀ b o, s.heap.get? b = some o → (h'.push { cls := .type "list", data := .seq its.toArray }).get? b = some o := fun b o e => Heap.get?_push_of_some _ (hk b o e)
  have ne0 : ∀ b o, s.heap.get? b = some o → b ≠ h'.objs.size := fun b o e => Nat.ne_of_lt (Heap.lt_size (hk b o e))
  generalize (h'.push { cls := .type "list", data := .seq its.toArray }) = h2 at hob kb ⊢
  have key : ∀ x ∈ xs, ∃ bs, StV H x bs := fun x hx => by
    obtain ⟨i, hi, e⟩ := List.getElem_of_mem hx
    obtain ⟨b, _, st⟩ := Paired.get hb (i := i) (by rw [List.getElem?_eq_getElem hi, e])
    exact ⟨b, st⟩
  have hd : ∀ x ∈ xs, Dp X.K H x (stD (stOf H x)) := fun x hx => by
    obtain ⟨bs, t, rfl, st⟩ := key x hx
    rw [stOf_eq ⟨t, rfl, st⟩]
    exact st.dp
  have er := reads_each I rv hd
  have er2 : EachIs (fun v x => ∃ as, Reads (sortingHeap h2 h'.objs.size its) v (stD (stOf H x)) as) its xs := er.mono fun _ _ ⟨as, z⟩ => ⟨as, PyProof.Rows.Reads.keeps (fun b o e => sortingHeap_old (ne0 b o e) (kb b o e)) z⟩
  have al : AllAlike (xs.map fun x => stD (stOf H x)) := fun d hd d' hd' => by
    obtain ⟨x, _, rfl⟩ := List.mem_map.mp hd
    obtain ⟨y, _, rfl⟩ := List.mem_map.mp hd'
    unfold stD
    simp only [PySem.W.alike]
    exact bDs_alike _ _
  have tps : ∀ d ∈ xs.map (fun x => stD (stOf H x)), ∃ ds, d = PyData.tuple ds := fun d hd => by
    obtain ⟨x, hx, rfl⟩ := List.mem_map.mp hd
    exact ⟨_, rfl⟩
  have room : ∀ d, d ∈ xs.map (fun x => stD (stOf H x)) → X.A.in1.in1.units + d.depth < cLine := fun d hd => by
    obtain ⟨x, hx, rfl⟩ := List.mem_map.mp hd
    have : (stD (stOf H x)).depth ≤ 40 := Nat.le_trans (stD_depth _) (by decide)
    show X.A.units + 1 + 1 + _ < cLine
    omega
  have rel : EachIs (fun v x => RelV x v) its xs := each_of rv
  refine wpAny_bind (wpAny_holding (wpAny_call_entry PyProof.Rows.slot_list_sort ⟨_, hob, rfl⟩ PyProof.Rows.entry_list_sort ?body (PyProof.Rows.args_list_sort _)))
  case body =>
    refine list_sort_vals (s := { s with heap := h2, toks := tk }) (κ := dataKind _ (xs.map fun x => stD (stOf H x))) hob (SortsAt.dataT (s := { s with heap := sortingHeap h2 h'.objs.size its, toks := tk }) (each_map (R := fun v d => ∃ as, Reads (sortingHeap h2 h'.objs.size its) v d as) (fun x => stD (stOf H x)) er2) al tps room) hL ?_
    refine ⟨_, rfl, wpAny_pure ⟨_, rfl, ?_⟩⟩
    have rv2 : Vals (xs.mergeSort (dataLe false fun x => stD (stOf H x))) (sortVals (dataKind (sortingHeap h2 h'.objs.size its) (xs.map fun x => stD (stOf H x))) false its its) := of_each (sortVals_data false rel er2 al)
    generalize sortVals (dataKind (sortingHeap h2 h'.objs.size its) (xs.map fun x => stD (stOf H x))) false its its = out at *
    obtain ⟨c, hcF⟩ := PyProof.Rows.sortedHeap_at (vs := its) (out := out.toArray) hob
    have kS : ∀ b o, s.heap.get? b = some o → (sortedHeap h2 h'.objs.size its out.toArray).get? b = some o := fun b o e => (PyProof.Rows.sortedHeap_old (ne0 b o e) (Heap.lt_size (kb b o e))).trans (kb b o e)
    have hn0 : H h'.objs.size = none := (I.hok.kept hk).fresh (Nat.le_refl _)
    have hs0 : s.heap.get? h'.objs.size = none := by
      cases e : s.heap.get? h'.objs.size with
      | none => rfl
      | some o => exact absurd rfl (ne0 _ _ e)
    obtain ⟨css, h1, h2'⟩ := paired_perm (List.mergeSort_perm xs (dataLe false fun x => stD (stOf H x))) hb
    have hl2 : (xs.mergeSort (dataLe false fun x => stD (stOf H x))).length ≤ sizeLine := by rw [List.length_mergeSort]; omega
    exact ⟨.ref h'.objs.size, _, I.laidN (t' := tk) (o := .lst (xs.mergeSort (dataLe false fun x => stD (stOf H x)))) kS hs0 hn0 ⟨hl2, out, c, rv2, hcF⟩, rfl, q _ css _ h2' h1 hn0⟩
end Ph

set_option maxHeartbeats 4000000
/-! PhIx: d.items() and sorted(d.items()) of dicts keyed by states. -/
namespace Ph
open PySem PySem.Calls PyProof.V PySem.Spec PyProof.Rows L2 PySem.W SeqAt
theorem dp_same {K : PySem.W.Frag} {H H' : Hp} (s : Same H H') {v : V} {d : PyData} (h : Dp K H v d) : Dp K H' v d := by
  refine @Dp.rec K H (fun v d _ => Dp K H' v d) (fun vs ds _ => DpAll K H' vs ds) ?_ ?_ ?_ ?_ ?_ ?_ ?_ ?_ v d h
  · exact .non
  · exact .bl
  · exact .int
  · exact .str
  · exact fun e _ ih => .lst (s.seq e) ih
  · exact fun e _ ih => .tup (s.tup e) ih
  · exact .nil
  · exact fun _ _ i1 i2 => .cons i1 i2
def rItemsX (w : World) : V → List V → Hp → VK → Prop := fun x xs H Q => ∃ (a : Addr) (es : List KAV), x = .ref a ∧ xs = [] ∧ KDr w H a es ∧ ∀ p, H p = none → Q (.ref p) (upd H p (DX.itemsO p a))
theorem mt_itemsX {X : Cx} : MtR X "dict.items" (rItemsX X.w) := by
  intro pins s σ H x xs v us Q I rx rxs h
  obtain ⟨a, es, rfl, rfl, K, q⟩ := h
  cases rx
  cases rxs
  obtain ⟨o, des, ep, ho, hx, hdt, hsz, ent⟩ := kdr_raw I.hok K
  refine DT.callItems (es := des) (ep := ep) K.sm ⟨o, ho, hx, hdt⟩ ?_
  have hf : H s.heap.objs.size = none := I.hok.fresh (Nat.le_refl _)
  exact ⟨.ref s.heap.objs.size, upd H s.heap.objs.size (DX.itemsO s.heap.objs.size a), I.laid (t' := s.toks) (fun b u e => Heap.get?_push_of_some _ e) (Nat.le_refl _) (DX.itemsO_ok (Heap.get?_push_size _ rfl)), rfl, q _ hf⟩
def tXItems (w : World) (td : TE) : TE := fun σ H Q => td σ H fun x H1 => ∃ (a : Addr) (es : List KAV), x = .ref a ∧ KDr w H1 a es ∧ ∀ p, H1 p = none → Q (.ref p) (upd H1 p (DX.itemsO p a))
theorem pe_xitems {X : Cx} {o : Expr} {apos cpos : Pos} {td : TE} (ho : PE X o td) (hbase : attributeBase o "items" X.env (eval o X.env) = eval o X.env := by rfl) (hline : (apos.endLine == cpos.line) = true := by rfl) : PE X (.Call (.Attribute o "items" apos) [] [] cpos) (tXItems X.w td) := by
  refine ⟨fun pins s σ H Q I h => ?_⟩
  refine wpAny_Call_method0_late hbase hline (thn (ho.run pins s σ H _ I h) fun v s1 ⟨x, H1, I1, r1, a, es, ex, D, q1⟩ => ?_)
  subst ex
  obtain rfl : v = Value.ref a := r1
  obtain ⟨ob, _, _, hob, exd, _⟩ := kdr_raw I1.hok D
  exact ⟨"dict", "dict.items", PySem.F.plainAttrs_dict, PySem.F.slot_dict_items, PySem.F.type_dict_items, ⟨ob, hob, exd.1⟩, fun b e => by cases e; exact ⟨ob, hob, exd.2.1⟩, Calls.callWith_builtin rfl (PySem.evalArgs_none (mt_itemsX pins s1 σ H1 (.ref a) [] (.ref a) [] Q I1 rfl .nil ⟨a, es, rfl, rfl, D, q1⟩))⟩
/-- the pairs of such a dict, sorted as data -/
def rSortIX (w : World) (K : PySem.W.Frag) : List V → Hp → VK → Prop := fun vs H Q => ∃ (p d : Addr) (xs : List KAV) (kd vd : KAV → PyData), vs = [.ref p] ∧ H p = some (DX.itemsO p d) ∧ KDr w H d xs ∧
  (∀ e ∈ xs, Dp K H (.ref e.2.1) (kd e) ∧ Dp K H e.2.2 (vd e)) ∧ AllAlike (xs.map fun e => PyData.tuple [kd e, vd e]) ∧ (∀ e ∈ xs, (PyData.tuple [kd e, vd e]).depth ≤ 40) ∧
  ∀ H' l (zs : List (Addr × KAV)), Same H H' → (zs.map (·.2)).Perm xs → H' l = some (.lst (zs.map fun z => V.ref z.1)) → (∀ z ∈ zs, H' z.1 = some (.tup [.ref z.2.2.1, z.2.2.2])) → Q (.ref l) H'
open Classical in
noncomputable def dOf (L : List (Addr × PyData)) (x : V) : PyData := match x with
  | .ref a => ((L.find? fun p => p.1 == a).map (·.2)).getD .none
  | _ => .none
theorem dOf_at {L : List (Addr × PyData)} (nd : (L.map (·.1)).Nodup) {p : Addr × PyData} (h : p ∈ L) : dOf L (.ref p.1) = p.2 := by
  unfold dOf
  dsimp only
  have : L.find? (fun q => q.1 == p.1) = some p := by
    induction L with
    | nil => cases h
    | cons a r ih =>
      rw [List.map_cons] at nd
      obtain ⟨n1, n2⟩ := List.nodup_cons.mp nd
      rcases List.mem_cons.mp h with e | e
      · rw [e, List.find?_cons_of_pos (by simp)]
      · rw [List.find?_cons_of_neg (by
          simp only [beq_iff_eq]
          intro z
          exact n1 (by rw [z]; exact List.mem_map.mpr ⟨p, e, rfl⟩))]
        exact ih n2 e
  rw [this]
  rfl
theorem cr_sortedIX {X : Cx} (hc : X.calm = true) (hu : X.A.units + 64 < cLine) : CallR X (.builtin "sorted") (rSortIX X.w X.K) := by
  intro pins s σ H vs us Q I r h
  obtain ⟨p, d, xs, kd, vd, rfl, hp, K, hd, al, dpt, q⟩ := h
  obtain rfl := Vals.ref1 r
  have view : s.heap.IsItemsView p d := (show ObjOk X.prog X.w H s.heap p (DX.itemsO p d) from I.hok p _ hp).1
  obtain ⟨o, es, ep, ho, hx, hdt, hsz, ent⟩ := kdr_raw I.hok K
  have ln := K.ln
  have hh : X.A.handled = none := I.ok.hd hc
  refine DT.sortedI (es := es) (ep := ep) hh view ⟨o, ho, hx, hdt⟩ (by omega) fun h' tk as hk hlt hl hG => ?_
  have lak : as.length = xs.length := by omega
  have nd : as.Nodup := List.Pairwise.imp (fun h => Nat.ne_of_lt h) hG.rise
  have pr : ∀ (j : Nat) (b : Addr), as[j]? = some b → ∃ e v, xs[j]? = some e ∧ RelV e.2.2 v ∧ h'.get? b = some { cls := .type "tuple", data := .seq #[Value.ref e.2.1, v] } := fun j b hj => by
    obtain ⟨en, he, hg⟩ := hG.pairs j b hj
    obtain ⟨e, h1, h2, h3⟩ := ent j en he
    exact ⟨e, en.val, h1, h3, by rw [hg, h2]⟩
  -- the pairs are tracked
  have Ib : Inv X pins σ H { s with heap := h', toks := tk } := I.kept (t' := tk) hk
  obtain ⟨H2, I2, g2, qt⟩ := DX.takeT (P := fun b vs => ∃ (j : Nat) (e : KAV), as[j]? = some b ∧ xs[j]? = some e ∧ vs = [.ref e.2.1, e.2.2]) I as H Ib nd fun b hb => by
    obtain ⟨j, hj⟩ := List.mem_iff_getElem?.mp hb
    obtain ⟨e, v, he, rv, hg⟩ := pr j b hj
    have hbl : s.heap.objs.size ≤ b := Nat.le_of_lt (hG.above b hb)
    exact ⟨hbl, I.hok.fresh hbl, [.ref e.2.1, e.2.2], ⟨j, e, hj, he, rfl⟩, fun H3 => ⟨(by rw [sizeLine_eq]; show 2 ≤ 16777216; omega), [Value.ref e.2.1, v], .cons rfl (.cons rv .nil), ⟨_, hg, rfl, 0, rfl⟩⟩⟩
  have atj : ∀ (j : Nat) (b : Addr) (e : KAV), as[j]? = some b → xs[j]? = some e → H2 b = some (.tup [.ref e.2.1, e.2.2]) := fun j b e hj he => by
    obtain ⟨vs, ⟨j', e', h1, h2, ev⟩, hb⟩ := qt b (List.mem_of_getElem? hj)
    have ej : j = j' := (List.getElem?_inj (List.getElem?_eq_some_iff.mp hj).1 nd).mp (hj.trans h1.symm)
    subst ej
    obtain rfl : e' = e := Option.some.inj (h2.symm.trans he)
    rw [hb, ev]
  -- their data
  let L : List (Addr × PyData) := (as.zip xs).map fun z => (z.1, PyData.tuple [kd z.2, vd z.2])
  have Lk : L.map (·.1) = as := by
    show ((as.zip xs).map fun z => (z.1, PyData.tuple [kd z.2, vd z.2])).map (·.1) = as
    rw [List.map_map]
    show (as.zip xs).map (fun z => z.1) = as
    exact List.map_fst_zip (by omega)
  have Dat : ∀ (j : Nat) (b : Addr) (e : KAV), as[j]? = some b → xs[j]? = some e → dOf L (.ref b) = .tuple [kd e, vd e] := fun j b e hj he =>
    dOf_at (p := (b, PyData.tuple [kd e, vd e])) (by rw [Lk]; exact nd) (List.mem_map.mpr ⟨(b, e), List.mem_of_getElem? (i := j) (List.getElem?_zip_eq_some.mpr ⟨hj, he⟩), rfl⟩)
  have at_ : ∀ x ∈ as.map V.ref, ∃ (j : Nat) (b : Addr) (e : KAV), x = .ref b ∧ as[j]? = some b ∧ xs[j]? = some e := fun x hx => by
    obtain ⟨b, hb, rfl⟩ := List.mem_map.mp hx
    obtain ⟨j, hj⟩ := List.mem_iff_getElem?.mp hb
    obtain ⟨e, _, he, _⟩ := pr j b hj
    exact ⟨j, b, e, rfl, hj, he⟩
  have Dps : ∀ x ∈ as.map V.ref, Dp X.K H2 x (dOf L x) := fun x hx => by
    obtain ⟨j, b, e, rfl, hj, he⟩ := at_ x hx
    rw [Dat j b e hj he]
    obtain ⟨d1, d2⟩ := hd e (List.mem_of_getElem? he)
    exact .tup (.inl (.inl (atj j b e hj he))) (.cons (dp_same g2 d1) (.cons (dp_same g2 d2) .nil))
  have al2 : AllAlike ((as.map V.ref).map (dOf L)) := fun d1 h1 d2 h2 => by
    obtain ⟨x1, hx1, rfl⟩ := List.mem_map.mp h1
    obtain ⟨x2, hx2, rfl⟩ := List.mem_map.mp h2
    obtain ⟨j1, b1, e1, rfl, hj1, he1⟩ := at_ x1 hx1
    obtain ⟨j2, b2, e2, rfl, hj2, he2⟩ := at_ x2 hx2
    rw [Dat j1 b1 e1 hj1 he1, Dat j2 b2 e2 hj2 he2]
    exact al _ (List.mem_map.mpr ⟨e1, List.mem_of_getElem? he1, rfl⟩) _ (List.mem_map.mpr ⟨e2, List.mem_of_getElem? he2, rfl⟩)
  have dp2 : ∀ dd ∈ (as.map V.ref).map (dOf L), (∃ ds, dd = PyData.tuple ds) ∧ dd.depth ≤ 40 := fun dd h1 => by
    obtain ⟨x1, hx1, rfl⟩ := List.mem_map.mp h1
    obtain ⟨j1, b1, e1, rfl, hj1, he1⟩ := at_ x1 hx1
    rw [Dat j1 b1 e1 hj1 he1]
    exact ⟨⟨_, rfl⟩, dpt e1 (List.mem_of_getElem? he1)⟩
  -- the sort
  have rv : Vals (as.map V.ref) (as.map Value.ref) := vals_maps V.ref Value.ref as fun _ _ => rfl
  have hL : (as.map Value.ref).length ≤ sizeLine := by rw [List.length_map]; omega
  have hob : (h'.push { cls := .type "list", data := .seq (as.map Value.ref).toArray }).get? h'.objs.size = some (seqObj "list" (as.map Value.ref).toArray 0) := Heap.get?_push_size _ rfl
  have kb : ∀ b o, h'.get? b = some o → (h'.push { cls := .type "list", data := .seq (as.map Value.ref).toArray }).get? b = some o := fun b o e => Heap.get?_push_of_some _ e
  have ne0 : ∀ b o, h'.get? b = some o → b ≠ h'.objs.size := fun b o e => Nat.ne_of_lt (Heap.lt_size e)
  generalize (h'.push { cls := .type "list", data := .seq (as.map Value.ref).toArray }) = h2 at hob kb ⊢
  have er := reads_each I2 rv Dps
  have er2 : EachIs (fun v x => ∃ as', Reads (sortingHeap h2 h'.objs.size (as.map Value.ref)) v (dOf L x) as') (as.map Value.ref) (as.map V.ref) := er.mono fun _ _ ⟨as', z⟩ => ⟨as', PyProof.Rows.Reads.keeps (fun b o e => sortingHeap_old (ne0 b o e) (kb b o e)) z⟩
  have rel : EachIs (fun v x => RelV x v) (as.map Value.ref) (as.map V.ref) := each_of rv
  refine wpAny_call_entry PyProof.Rows.slot_list_sort ⟨_, hob, rfl⟩ PyProof.Rows.entry_list_sort ?body (PyProof.Rows.args_list_sort _)
  case body =>
    refine list_sort_vals (s := { s with heap := h2, toks := tk }) (κ := dataKind _ ((as.map V.ref).map (dOf L))) hob (SortsAt.dataT (s := { s with heap := sortingHeap h2 h'.objs.size (as.map Value.ref), toks := tk }) (each_map (R := fun v d => ∃ as', Reads (sortingHeap h2 h'.objs.size (as.map Value.ref)) v d as') (dOf L) er2) al2 (fun dd h1 => (dp2 dd h1).1) (fun dd h1 => by
      have := (dp2 dd h1).2
      show X.A.units + 1 + 1 + _ < cLine
      omega)) hL ?_
    refine ⟨_, rfl, ?_⟩
    have rv2 : Vals ((as.map V.ref).mergeSort (dataLe false (dOf L))) (sortVals (dataKind (sortingHeap h2 h'.objs.size (as.map Value.ref)) ((as.map V.ref).map (dOf L))) false (as.map Value.ref) (as.map Value.ref)) := of_each (sortVals_data false rel er2 al2)
    generalize sortVals (dataKind (sortingHeap h2 h'.objs.size (as.map Value.ref)) ((as.map V.ref).map (dOf L))) false (as.map Value.ref) (as.map Value.ref) = out at *
    obtain ⟨c, hcF⟩ := PyProof.Rows.sortedHeap_at (vs := as.map Value.ref) (out := out.toArray) hob
    have kS : ∀ b o, h'.get? b = some o → (sortedHeap h2 h'.objs.size (as.map Value.ref) out.toArray).get? b = some o := fun b o e => (PyProof.Rows.sortedHeap_old (ne0 b o e) (Heap.lt_size (kb b o e))).trans (kb b o e)
    have hn0 : H2 h'.objs.size = none := I2.hok.fresh (Nat.le_refl _)
    have hs0 : h'.get? h'.objs.size = none := by
      cases e : h'.get? h'.objs.size with
      | none => rfl
      | some o => exact absurd rfl (ne0 _ _ e)
    have hl2 : ((as.map V.ref).mergeSort (dataLe false (dOf L))).length ≤ sizeLine := by rw [List.length_mergeSort, List.length_map]; omega
    obtain ⟨zs, pz, ez⟩ := perm_lift (fun z : Addr × KAV => V.ref z.1) (List.mergeSort_perm (as.map V.ref) (dataLe false (dOf L))) (as.zip xs) (by
      have e1 : (as.zip xs).map (fun z => V.ref z.1) = ((as.zip xs).map fun z => z.1).map V.ref := by rw [List.map_map]; rfl
      have e2 : (as.zip xs).map (fun z => z.1) = as := List.map_fst_zip (by omega)
      rw [e1, e2])
    have sm : Same H (upd H2 h'.objs.size (.lst ((as.map V.ref).mergeSort (dataLe false (dOf L))))) := fun b o e => by rw [upd_ne (ne_of_none (g2 b o e) hn0)]; exact g2 b o e
    have idx : ∀ z ∈ zs, ∃ j : Nat, as[j]? = some z.1 ∧ xs[j]? = some z.2 := fun z hz => by
      obtain ⟨j, hj⟩ := List.mem_iff_getElem?.mp (pz.mem_iff.mp hz)
      exact ⟨j, List.getElem?_zip_eq_some.mp hj⟩
    have hperm : (zs.map (·.2)).Perm xs := by
      have e := pz.map (·.2)
      have m2 : (as.zip xs).map (·.2) = xs := List.map_snd_zip (by omega)
      rw [m2] at e
      exact e
    refine ⟨.ref h'.objs.size, _, I2.laidN (t' := tk) (o := .lst ((as.map V.ref).mergeSort (dataLe false (dOf L)))) kS hs0 hn0 ⟨hl2, out, c, rv2, hcF⟩, rfl, q _ h'.objs.size zs sm hperm (by rw [upd_same, ez]) fun z hz => ?_⟩
    obtain ⟨j, h1, h3⟩ := idx z hz
    have := atj j z.1 z.2 h1 h3
    rw [upd_ne (ne_of_none this hn0)]
    exact this
end Ph

set_option maxHeartbeats 4000000
/-! PhKv: dict(list of pairs) whose keys are tuples of tuples. -/
namespace Ph
open PySem PySem.Calls PyProof.V PySem.Spec PyProof.Rows L2 PySem.W
def putAllX (xs es : List KAV) : List KAV := es.foldl (fun acc e => putX acc e.1 e.2.1 e.2.2) xs
theorem NR.putAll : ∀ {es : List KAV} {ps : List (NestedKey × Addr × Value)} {xs : List KAV} {ys : List (NestedKey × Addr × Value)}, NR es ps → NR xs ys → NR (putAllX xs es) (storedAllH ys ps)
  | _, _, _, _, .nil, r => r
  | _, _, xs, ys, .cons (a := e) (b := p) h t, r => by
    obtain ⟨h1, h2, h3⟩ := h
    have r2 := NR.put (k := e.1) (b := e.2.1) (v := e.2.2) (u := p.2.2) r h3
    show NR (putAllX (putX xs e.1 e.2.1 e.2.2) _) (storedAllH (storedH ys p.1 p.2.1 p.2.2) _)
    rw [← h1, ← h2]
    exact NR.putAll t r2
theorem putAllX_mem : ∀ {es xs : List KAV} {x : KAV}, x ∈ putAllX xs es → (∃ y ∈ xs, x.1 = y.1 ∧ x.2.1 = y.2.1) ∨ ∃ y ∈ es, x.1 = y.1 ∧ x.2.1 = y.2.1
  | [], _, x, h => .inl ⟨x, h, rfl, rfl⟩
  | e :: es, xs, x, h => by
    rcases putAllX_mem (es := es) (xs := putX xs e.1 e.2.1 e.2.2) h with ⟨y, hy, a, b⟩ | ⟨y, hy, a, b⟩
    · rcases putX_mem hy with ⟨e1, e2⟩ | ⟨z, hz, e1, e2⟩
      · exact .inr ⟨e, List.mem_cons_self, a.trans e1, b.trans e2⟩
      · exact .inl ⟨z, hz, a.trans e1, b.trans e2⟩
    · exact .inr ⟨y, List.mem_cons_of_mem _ hy, a, b⟩
theorem putAllX_len : ∀ (es xs : List KAV), (putAllX xs es).length ≤ xs.length + es.length
  | [], xs => Nat.le_refl _
  | e :: es, xs => by
    have h1 := putAllX_len es (putX xs e.1 e.2.1 e.2.2)
    have h2 := putX_len xs e.1 e.2.1 e.2.2
    show (putAllX (putX xs e.1 e.2.1 e.2.2) es).length ≤ xs.length + (es.length + 1)
    omega
theorem valV_putAllX : ∀ {es xs : List KAV} {j : NestedKey}, (es.map (·.1)).Nodup → (valV (es.map kv2) j).isSome = true → valV ((putAllX xs es).map kv2) j = valV (es.map kv2) j
  | [], xs, j, _, h => by cases h
  | e :: es, xs, j, nd, h => by
    rw [List.map_cons] at nd
    obtain ⟨n1, n2⟩ := List.nodup_cons.mp nd
    show valV ((putAllX (putX xs e.1 e.2.1 e.2.2) es).map kv2) j = _
    rw [List.map_cons]
    by_cases c : (valV (es.map kv2) j).isSome = true
    · have ne : ¬ (kv2 e).1 = j := fun z => by
        obtain ⟨v, hv⟩ := Option.isSome_iff_exists.mp c
        obtain ⟨x, hx, ex, _⟩ := valV_mem2 hv
        exact n1 (List.mem_map.mpr ⟨x, hx, ex.trans z.symm⟩)
      rw [valV_putAllX n2 c, valV_neg ne]
    · have none2 : valV (es.map kv2) j = none := by
        cases q : valV (es.map kv2) j with
        | none => rfl
        | some v => rw [q] at c; exact absurd rfl c
      have key : ∀ {l xs : List KAV}, valV (l.map kv2) j = none → valV ((putAllX xs l).map kv2) j = valV (xs.map kv2) j := fun {l} => by
        induction l with
        | nil => exact fun _ => rfl
        | cons a l ih =>
          intro xs hl
          have na : ¬ a.1 = j := valV_none2 hl a List.mem_cons_self
          rw [List.map_cons, valV_neg (show ¬ (kv2 a).1 = j from na)] at hl
          show valV ((putAllX (putX xs a.1 a.2.1 a.2.2) l).map kv2) j = _
          rw [ih hl, valV_putX, if_neg (fun z => na z.symm)]
      rw [key none2, valV_putX]
      rw [List.map_cons] at h
      by_cases ej : (kv2 e).1 = j
      · rw [valV_pos ej, if_pos (show j = e.1 from ej.symm)]
        rfl
      · rw [valV_neg ej, none2] at h
        cases h
section
variable {X : Cx}
theorem pairsX_of {pins : List (Addr × Obj)} {σ : L2.St} {H : Hp} {s : Shared} (I : Inv X pins σ H s) : ∀ {ps : List Addr} {es : List KAV}, Paired (fun p (e : KAV) => SqT X.K H p [.ref e.2.1, e.2.2]) ps es →
    ∃ qs : List (NestedKey × Addr × Value), NR es qs ∧ qs.length = ps.length ∧ ∀ (j : Nat) (q : NestedKey × Addr × Value), qs[j]? = some q → ∃ b : Addr, ps[j]? = some b ∧ IsTup s.heap b #[.ref q.2.1, q.2.2]
  | _, _, .nil => ⟨[], .nil, rfl, fun j q e => by simp at e⟩
  | _, _, .cons (a := p) (b := e) h t => by
    obtain ⟨qs, r, hl, hp⟩ := pairsX_of I t
    obtain ⟨its, rv, ht, _⟩ := I.tuple h
    obtain ⟨u, y, ei, ru, ry⟩ := vals2 rv
    obtain rfl : u = Value.ref e.2.1 := ru
    subst ei
    refine ⟨(e.1, e.2.1, y) :: qs, .cons ⟨rfl, rfl, ry⟩ r, by simp [hl], fun j q hq => ?_⟩
    cases j with
    | zero =>
      have := Option.some.inj hq
      subst this
      exact ⟨p, rfl, ht⟩
    | succ j =>
      obtain ⟨b, h1, h2⟩ := hp j q (by simpa using hq)
      exact ⟨b, by simpa using h1, h2⟩
theorem call_dictX (calm : X.calm = true) (hu : X.A.units + 64 < cLine) : CallR X (.type "dict") (fun xs H Q => ∃ (a : Addr) (ps : List Addr) (es : List KAV), xs = [.ref a] ∧ SqL X.K H a (ps.map V.ref) ∧ Paired (fun p (e : KAV) => SqT X.K H p [.ref e.2.1, e.2.2]) ps es ∧ (∀ e ∈ es, Nk H (.ref e.2.1) e.1 ∧ e.1.depth ≤ 8) ∧
    ∀ d H', H d = none → Same H H' → KDx X.w H' d (putAllX [] es) → Q (.ref d) H') := by
  intro pins s σ H xs us Q I r q
  obtain ⟨a, ps, es, rfl, hq, hp, hk, q⟩ := q
  rw [Vals.ref1 r]
  obtain ⟨its, rv, pl, hz⟩ := I.list hq
  have ei := refs_at rv
  subst ei
  rw [List.length_map] at hz
  obtain ⟨qs, rel, hl, hpr⟩ := pairsX_of I hp
  obtain ⟨o, n, ho, hc, hd, hdat⟩ := pl
  obtain ⟨hsm, _⟩ := kd_laid I
  have fresh := I.hok.fresh (Nat.le_refl s.heap.objs.size)
  have el : es.length = qs.length := Paired.length rel
  refine call_dict_pairsH (knd := nestedKind X.prog X.w) (ps := qs) (PairArg.list a ((ps.map Value.ref).toArray) (fun j => ps.getD j 0) (qs.map fun q => (Value.ref q.2.1, q.2.2))) (I.ok.hd calm) (by show X.A.units + 1 + 1 + 8 < cLine; omega) ⟨⟨o, n, ho, hc, hd, hdat⟩, by simp [hl], fun j k v e => ?_⟩ ⟨by rw [List.length_map], fun i k v e => ?_⟩ (fun h' keep x hx => ?_) (by rw [List.length_map, hl]; exact hz) fun h' tk dd keep => ?_
  · rw [List.getElem?_map] at e
    obtain ⟨z, hz2, ez⟩ := Option.map_eq_some_iff.mp e
    cases ez
    obtain ⟨b, h1, h2⟩ := hpr j z hz2
    have eb : ps.getD j 0 = b := by rw [List.getD_eq_getElem?_getD, h1]; rfl
    dsimp only
    rw [eb]
    refine ⟨by simp [h1], .inl ?_⟩
    obtain ⟨ot, h3, h4, n', h5⟩ := h2
    exact ⟨ot, h3, h4, n', h5⟩
  · have e : (qs.map fun q => (Value.ref q.2.1, q.2.2))[i]? = some (k, v) := e
    rw [List.getElem?_map] at e
    obtain ⟨z, hz2, ez⟩ := Option.map_eq_some_iff.mp e
    cases ez
    exact ⟨z.1, z.2.1, hz2, rfl⟩
  · have hok : HOk X.prog X.w H h' := I.hok.kept fun b u e => keep b u (Nat.ne_of_lt (Heap.lt_size e)) (fun z => nomatch z) e
    obtain ⟨e, he, e1, e2, _⟩ := NR.mem rel hx
    have := hk e he
    rw [e1, e2] at this
    exact ⟨this.1.is hok _ rfl, this.2⟩
  · have r2 := NR.putAll rel (.nil : NR [] [])
    have nd : ((putAllX [] es).map (·.1)).Nodup := by
      obtain ⟨_, _, _, _, _, _, _, _, z⟩ := id dd
      rw [NR.keys r2]
      exact z
    have sm := same_upd (o := dkO X.w s.heap.objs.size (putAllX [] es)) fresh
    refine ⟨.ref s.heap.objs.size, _, I.laid (t' := tk) (fun b u e => keep b u (fun z => nomatch z) e) (Nat.le_refl _) (dkO_ok r2 dd), rfl, q _ _ fresh sm ⟨upd_same, hsm, fun x hx => ?_, nd, ?_⟩⟩
    · rcases putAllX_mem hx with ⟨y, hy, _⟩ | ⟨y, hy, e1, e2⟩
      · cases hy
      · rw [e1, e2]
        exact ⟨(hk y hy).1.keeps fun c zs e => e.same sm, (hk y hy).2⟩
    · have := putAllX_len es []
      simp at this
      omega
end
end Ph

set_option maxHeartbeats 4000000
/-! PhKw2: d.get(k), d.update(e) of dicts keyed by tuples of tuples. -/
namespace Ph
open PySem PySem.Calls PyProof.V PySem.Spec PyProof.Rows L2 PySem.W
def tXGet1 (w : World) (td ty : TE) : TE := fun σ H Q => td σ H fun x H1 => ∃ d xs, x = .ref d ∧ KDr w H1 d xs ∧ ty σ H1 fun y H2 => ∃ b k, y = .ref b ∧ KDr w H2 d xs ∧ Nk H2 (.ref b) k ∧ k.depth ≤ 8 ∧ Q ((valV (xs.map kv2) k).getD .non) H2
def tXUpd (w : World) (td ty : TE) : TE := fun σ H Q => td σ H fun x H1 => ∃ d xs, x = .ref d ∧ KDr w H1 d xs ∧ ty σ H1 fun y H2 => ∃ b es, y = .ref b ∧ d ≠ b ∧ KDx w H2 d xs ∧ KDr w H2 b es ∧ (xs ≠ [] ∨ (es.map fun e => e.1.hash w).Nodup) ∧ xs.length + es.length ≤ sizeLine ∧
  ∀ H3, But d H2 H3 → KDx w H3 d (putAllX xs es) → Q .non H3
section
variable {X : Cx} {o e : Expr} {apos cpos : Pos} {td ty : TE}
theorem pe_xget1 (hu : X.A.units + 64 < cLine) (ho : PE X o td) (he : PE X e ty) (m : M1 X o "get" apos e cpos) : PE X (.Call (.Attribute o "get" apos) [e] [] cpos) (tXGet1 X.w td ty) := by
  refine ⟨fun pins s σ H Q I h => ?_⟩
  refine wpAny_Call_method m.base m.few m.line PySem.F.plainAttrs_dict PySem.F.slot_dict_get PySem.F.type_dict_get (thn (ho.run pins s σ H _ I h) fun u s1 ⟨x, H1, I1, rx, d, xs, ex, D, q1⟩ => ?_)
  subst ex
  obtain rfl : u = Value.ref d := rx
  obtain ⟨ob, _, _, hob, exd, _⟩ := kdr_raw I1.hok D
  refine ⟨⟨ob, hob, exd.1⟩, fun b e => by cases e; exact ⟨ob, hob, exd.2.1⟩, ?_⟩
  rw [m.trees]
  refine Calls.callWith_builtin rfl (Calls.evalArgs_plain (Calls.spliced_cons (thn (he.run pins s1 σ H1 _ I1 q1) fun iv s2 ⟨y, H2, I2, ry, b, k, ey, D2, n, dp, q2⟩ => Calls.spliced_nil ?_)))
  subst ey
  obtain rfl : iv = Value.ref b := ry
  obtain ⟨ys, r, dd⟩ := kdr_of I2.hok D2
  refine get_keyed (knd := nestedKind X.prog X.w) (nk_room hu) (nk_key I2 n dp) D2.sm ⟨ys, dd, rfl⟩ ?_
  have rv := r.val k
  rw [valueAt_pairsH]
  refine ⟨(valV (xs.map kv2) k).getD .non, H2, I2.tok _, ?_, q2⟩
  cases e1 : valV (xs.map kv2) k with
  | none =>
    rw [e1] at rv
    cases e2 : (atKey ys k).map (·.2) with
    | none => exact rfl
    | some v => rw [e2] at rv; exact rv.elim
  | some v =>
    rw [e1] at rv
    cases e2 : (atKey ys k).map (·.2) with
    | none => rw [e2] at rv; exact rv.elim
    | some v2 => rw [e2] at rv; exact rv
theorem pe_xupd (hu : X.A.units + 64 < cLine) (ho : PE X o td) (he : PE X e ty) (m : M1 X o "update" apos e cpos) : PE X (.Call (.Attribute o "update" apos) [e] [] cpos) (tXUpd X.w td ty) := by
  refine ⟨fun pins s σ H Q I h => ?_⟩
  refine wpAny_Call_method m.base m.few m.line PySem.F.plainAttrs_dict PySem.F.slot_dict_update PySem.F.type_dict_update (thn (ho.run pins s σ H _ I h) fun u s1 ⟨x, H1, I1, rx, d, xs, ex, D, q1⟩ => ?_)
  subst ex
  obtain rfl : u = Value.ref d := rx
  obtain ⟨ob, _, _, hob, exd, _⟩ := kdr_raw I1.hok D
  refine ⟨⟨ob, hob, exd.1⟩, fun b e => by cases e; exact ⟨ob, hob, exd.2.1⟩, ?_⟩
  rw [m.trees]
  refine Calls.callWith_builtin rfl (Calls.evalArgs_plain (Calls.spliced_cons (thn (he.run pins s1 σ H1 _ I1 q1) fun iv s2 ⟨y, H2, I2, ry, b, es, ey, db, D2, E2, hap, hz, q2⟩ => Calls.spliced_nil ?_)))
  subst ey
  obtain rfl : iv = Value.ref b := ry
  obtain ⟨ys, r, dd⟩ := kdr_of I2.hok D2.r
  obtain ⟨zs, r', dd'⟩ := kdr_of I2.hok E2
  have l1 := Paired.length r
  have l2 := Paired.length r'
  refine call_update_dictH (knd := nestedKind X.prog X.w) (nk_room hu) db E2.sm dd dd' ?_ (by omega) fun h' d1 _ hsb => ?_
  · rcases hap with h | h
    · exact .inl fun z => h (by rw [z] at l1; exact List.length_eq_zero_iff.mp l1)
    · refine .inr ⟨fun x hx => ?_, ?_⟩
      · obtain ⟨e, he, _, e2, _⟩ := NR.mem r' hx
        have n := (E2.ks e he).1
        rw [e2] at n
        generalize e.1 = ke at n
        cases n with
        | tup h _ =>
          obtain ⟨_, _, ⟨ot, h1, h2, _⟩, _⟩ := I2.tuple (show SqT X.K H2 x.2.1 _ from .inl h)
          exact ⟨ot, h1, h2⟩
      · have : (zs.map fun x => NestedKey.hash X.w x.1) = es.map fun e => e.1.hash X.w := by
          have hk := NR.keys r'
          have := congrArg (List.map (NestedKey.hash X.w)) hk
          rw [List.map_map, List.map_map] at this
          exact this.symm
        show (zs.map fun x => NestedKey.hash X.w x.1).Nodup
        rw [this]
        exact h
  · have r2 := NR.putAll r' r
    have nd : ((putAllX xs es).map (·.1)).Nodup := by
      obtain ⟨_, _, _, _, _, _, _, _, z⟩ := id d1
      rw [NR.keys r2]
      exact z
    have I3 := I2.write (t' := s2.toks) (x := d) (e := d) (o := dkO X.w d (putAllX xs es)) (by rw [D2.ob]; exact True.intro) (.inl rfl) (fun c q hc z => (hsb.2 c hc).trans z) (by
      obtain ⟨q, _, _, hq, _⟩ := id d1
      exact ⟨q, hq⟩) (dkO_ok r2 d1)
    refine ⟨.non, _, I3, rfl, q2 _ (fun c o nc e => (upd_ne nc).trans e) ⟨upd_same, D2.sm, fun x hx => ?_, nd, Nat.le_trans (putAllX_len es xs) hz⟩⟩
    have st : ∀ a zs, TuH H2 a zs → TuH (upd H2 d (dkO X.w d (putAllX xs es))) a zs := fun a zs e => by
      have ne := D2.tu e
      rcases e with e | ⟨o, e⟩
      · exact .inl ((upd_ne ne).trans e)
      · exact .inr ⟨o, (upd_ne ne).trans e⟩
    rcases putAllX_mem hx with ⟨y, hy, e1, e2⟩ | ⟨y, hy, e1, e2⟩
    · rw [e1, e2]
      exact ⟨(D2.ks y hy).1.keeps st, (D2.ks y hy).2⟩
    · rw [e1, e2]
      exact ⟨(E2.ks y hy).1.keeps st, (E2.ks y hy).2⟩
end
/-! ### the same inside a comprehension (the program's world named from outside) -/
theorem pe_xgetV {X : Cx} {w : World} {o i : Expr} {pos : Pos} {td ty : TE} (e : X.w = w) (hu : X.A.units + 64 < cLine) (ho : PE X o td) (hi : PE X i ty) (hs : NoSl i) : PE X (.Subscript o i pos) (tXGet w td ty) := by
  subst e
  exact pe_xget hu ho hi hs
theorem op_xInV {X : Cx} {w : World} (e : X.w = w) (hu : X.A.units + 64 < cLine) : OpR X (compareOp .In) (rXIn w) := by
  subst e
  exact op_xIn hu
theorem op_xNotInV {X : Cx} {w : World} (e : X.w = w) (hu : X.A.units + 64 < cLine) : OpR X (compareOp .NotIn) (rXNotIn w) := by
  subst e
  exact op_xNotIn hu
end Ph

namespace Ph
open PySem PySem.Spec PyProof.Rows L2
/-! ### keepers: the smallest block of each chunk, then the lowest one -/
def btr (b c : Bk) : Prop := b.2 < c.2 ∨ (b.2 = c.2 ∧ b.1 ≤ c.1)
instance (b c : Bk) : Decidable (btr b c) := inferInstanceAs (Decidable (_ ∨ _))
def best (s : Int) (bs : List Bk) (b : Bk) : Prop := ∀ c ∈ bs, c.1 / s = b.1 / s → btr b c
instance (s : Int) (bs : List Bk) (b : Bk) : Decidable (best s bs b) := inferInstanceAs (Decidable (∀ c ∈ bs, _))
def kp (s : Int) (bs : List Bk) : List Bk := bs.filter fun b => decide (best s bs b)
theorem btr.refl (b : Bk) : btr b b := .inr ⟨rfl, Int.le_refl _⟩
theorem btr.anti {b c : Bk} (h : btr b c) (k : btr c b) : b = c := by
  unfold btr at h k
  exact Prod.ext (by omega) (by omega)
theorem btr.trans {b c d : Bk} (h : btr b c) (k : btr c d) : btr b d := by
  unfold btr at *
  omega
theorem btr.total (b c : Bk) : btr b c ∨ btr c b := by
  unfold btr
  omega
theorem mem_kp {s : Int} {bs : List Bk} {b : Bk} : b ∈ kp s bs ↔ b ∈ bs ∧ best s bs b := by
  unfold kp
  rw [List.mem_filter, decide_eq_true_iff]
theorem kp_sub (s : Int) (bs : List Bk) : (kp s bs).Sublist bs := List.filter_sublist
/-- the best one of a chunk -/
theorem best_ex (s : Int) (q : Int) : ∀ bs : List Bk, (∃ c ∈ bs, c.1 / s = q) → ∃ b ∈ bs, b.1 / s = q ∧ ∀ c ∈ bs, c.1 / s = q → btr b c
  | [], h => by obtain ⟨c, hc, _⟩ := h; cases hc
  | x :: r, h => by
    by_cases hr : ∃ c ∈ r, c.1 / s = q
    · obtain ⟨b, hb, hq, hbest⟩ := best_ex s q r hr
      by_cases hx : x.1 / s = q
      · rcases btr.total b x with t | t
        · refine ⟨b, List.mem_cons_of_mem _ hb, hq, fun c hc e => ?_⟩
          rcases List.mem_cons.mp hc with z | z
          · rw [z]; exact t
          · exact hbest c z e
        · refine ⟨x, List.mem_cons_self .., hx, fun c hc e => ?_⟩
          rcases List.mem_cons.mp hc with z | z
          · rw [z]; exact btr.refl _
          · exact t.trans (hbest c z e)
      · refine ⟨b, List.mem_cons_of_mem _ hb, hq, fun c hc e => ?_⟩
        rcases List.mem_cons.mp hc with z | z
        · rw [z] at e; exact absurd e hx
        · exact hbest c z e
    · obtain ⟨c, hc, e⟩ := h
      rcases List.mem_cons.mp hc with z | z
      · rw [z] at e
        refine ⟨x, List.mem_cons_self .., e, fun d hd ed => ?_⟩
        rcases List.mem_cons.mp hd with z | z
        · rw [z]; exact btr.refl _
        · exact absurd ⟨d, z, ed⟩ hr
      · exact absurd ⟨c, z, e⟩ hr
theorem kp_ex {s : Int} {bs : List Bk} {c : Bk} (hc : c ∈ bs) : ∃ b ∈ kp s bs, b.1 / s = c.1 / s ∧ btr b c := by
  obtain ⟨b, hb, hq, hbest⟩ := best_ex s (c.1 / s) bs ⟨c, hc, rfl⟩
  exact ⟨b, mem_kp.mpr ⟨hb, fun d hd e => hbest d hd (e.trans hq)⟩, hq, hbest c hc rfl⟩
theorem kp_uniq {s : Int} {bs : List Bk} {b c : Bk} (hb : b ∈ kp s bs) (hc : c ∈ kp s bs) (e : b.1 / s = c.1 / s) : b = c := by
  obtain ⟨b1, b2⟩ := mem_kp.mp hb
  obtain ⟨c1, c2⟩ := mem_kp.mp hc
  exact (b2 c c1 e.symm).anti (c2 b b1 e)
abbrev Asc (bs : List Bk) : Prop := bs.Pairwise fun b c => b.1 < c.1
theorem Asc.kp {s : Int} {bs : List Bk} (h : Asc bs) : Asc (kp s bs) := h.sublist (kp_sub s bs)
/-- one step of the program's dict -/
def stp (s : Int) (E : List Bk) (b : Bk) : List Bk := match E.getLast? with
  | none => [b]
  | some m => if m.1 / s = b.1 / s then (if b.2 < m.2 then E.dropLast ++ [b] else E) else E ++ [b]
theorem kp_snoc {s : Int} (hs : 0 < s) {l : List Bk} {b : Bk} (h : Asc (l ++ [b])) : kp s (l ++ [b]) = stp s (kp s l) b := by
  have hlb : ∀ c ∈ l, c.1 < b.1 := fun c hc => (List.pairwise_append.mp h).2.2 c hc b (List.mem_singleton.mpr rfl)
  have hl : Asc l := (List.pairwise_append.mp h).1
  have hmono : ∀ c ∈ l, c.1 / s ≤ b.1 / s := fun c hc => Int.ediv_le_ediv hs (Int.le_of_lt (hlb c hc))
  have bestsn : ∀ c, best s (l ++ [b]) c ↔ best s l c ∧ (b.1 / s = c.1 / s → btr c b) := fun c => by
    unfold best
    constructor
    · intro z
      exact ⟨fun d hd => z d (List.mem_append_left _ hd), z b (List.mem_append_right _ (List.mem_singleton.mpr rfl))⟩
    · rintro ⟨z1, z2⟩ d hd
      rcases List.mem_append.mp hd with e | e
      · exact z1 d e
      · rw [List.mem_singleton.mp e]; exact z2
  have split : kp s (l ++ [b]) = (kp s l).filter (fun c => decide (b.1 / s = c.1 / s → btr c b)) ++ (if best s l b then [b] else []) := by
    unfold kp
    rw [List.filter_append, List.filter_filter]
    congr 1
    · refine List.filter_congr fun c hc => ?_
      rw [Bool.eq_iff_iff, Bool.and_eq_true, decide_eq_true_iff, decide_eq_true_iff, decide_eq_true_iff, bestsn]
      exact And.comm
    · have e : best s (l ++ [b]) b ↔ best s l b := (bestsn b).trans ⟨fun z => z.1, fun z => ⟨z, fun _ => btr.refl _⟩⟩
      by_cases z : best s l b
      · rw [if_pos z, List.filter_cons, if_pos (decide_eq_true (e.mpr z)), List.filter_nil]
      · rw [if_neg z, List.filter_cons_of_neg (by rw [decide_eq_true_iff]; exact fun q => z (e.mp q)), List.filter_nil]
  rw [split]
  unfold stp
  cases hg : (kp s l).getLast? with
  | none =>
    have e0 := List.getLast?_eq_none_iff.mp hg
    have l0 : l = [] := by
      cases l with
      | nil => rfl
      | cons x r =>
        obtain ⟨y, hy, _⟩ := kp_ex (s := s) (List.mem_cons_self (a := x) (l := r))
        rw [e0] at hy
        cases hy
    subst l0
    rfl
  | some m =>
    obtain ⟨E0, eE⟩ := List.getLast?_eq_some_iff.mp hg
    have hm : m ∈ kp s l := by rw [eE]; exact List.mem_append_right _ (List.mem_singleton.mpr rfl)
    obtain ⟨hml, hmb⟩ := mem_kp.mp hm
    have ascE : Asc (E0 ++ [m]) := eE ▸ hl.kp
    have hE0 : ∀ c ∈ E0, c.1 < m.1 := fun c hc => (List.pairwise_append.mp ascE).2.2 c hc m (List.mem_singleton.mpr rfl)
    have hE0k : ∀ c ∈ E0, c ∈ kp s l := fun c hc => by rw [eE]; exact List.mem_append_left _ hc
    dsimp only
    by_cases hq : m.1 / s = b.1 / s
    · rw [if_pos hq]
      have other : ∀ c ∈ E0, b.1 / s ≠ c.1 / s := fun c hc z => by
        have e := kp_uniq (hE0k c hc) hm (z.symm.trans hq.symm)
        have := hE0 c hc
        rw [e] at this
        omega
      have keepE0 : E0.filter (fun c => decide (b.1 / s = c.1 / s → btr c b)) = E0 := List.filter_eq_self.mpr fun c hc => decide_eq_true fun z => absurd z (other c hc)
      by_cases hlt : b.2 < m.2
      · rw [if_pos hlt, eE, List.filter_append, keepE0, List.filter_cons_of_neg (by rw [decide_eq_true_iff]; intro z; have := z hq.symm; unfold btr at this; omega), List.filter_nil, List.append_nil, List.dropLast_concat, if_pos]
        intro c hc e
        have := hmb c hc (e.trans hq.symm)
        unfold btr at this ⊢
        omega
      · have hmlt := hlb m hml
        have hmbt : btr m b := by unfold btr; omega
        rw [if_neg hlt, eE, List.filter_append, keepE0, List.filter_cons, if_pos (decide_eq_true fun _ => hmbt), List.filter_nil, if_neg, List.append_nil]
        intro z
        have := z m hml hq
        unfold btr at this
        omega
    · rw [if_neg hq]
      have noc : ∀ c ∈ l, c.1 / s ≠ b.1 / s := fun c hc z => by
        obtain ⟨y, hy, ey, _⟩ := kp_ex (s := s) hc
        have h1 := (mem_kp.mp hm).1
        have h2 := hmono m h1
        rw [eE] at hy
        rcases List.mem_append.mp hy with e | e
        · have h3 := Int.ediv_le_ediv hs (Int.le_of_lt (hE0 y e))
          omega
        · rw [List.mem_singleton.mp e] at ey
          exact hq (ey.trans z)
      have keepAll : (kp s l).filter (fun c => decide (b.1 / s = c.1 / s → btr c b)) = kp s l := List.filter_eq_self.mpr fun c hc => decide_eq_true fun z => absurd z.symm (noc c (mem_kp.mp hc).1)
      rw [keepAll, if_pos]
      intro c hc e
      exact absurd e (noc c hc)
structure Chn (C : List Int) : Prop where
  pos : ∀ c ∈ C, 1 ≤ c
  dvd : ∀ c ∈ C, ∀ d ∈ C, c ≤ d → d % c = 0
theorem ediv_same {s t a b : Int} (hs : 0 < s) (ht : t % s = 0) (e : a / s = b / s) (h0 : 0 < t) : a / t = b / t := by
  obtain ⟨k, hk⟩ := Int.dvd_of_emod_eq_zero ht
  rw [hk, ← Int.ediv_ediv_of_nonneg (Int.le_of_lt hs), ← Int.ediv_ediv_of_nonneg (Int.le_of_lt hs), e]
theorem St.ascL {C : List Int} {W : Int} {bs : List Bk} (h : St C W bs) : Asc bs := h.asc.imp_of_mem fun {b c} hb hc z => by
  obtain ⟨_, h1, _⟩ := h.ok b hb
  omega
theorem St.sub {C : List Int} {W : Int} {bs cs : List Bk} (h : St C W bs) (k : cs.Sublist bs) : St C W cs := ⟨fun b hb => h.ok b (k.subset hb), h.asc.sublist k⟩
/-- blocks at least as large as the size: each in its own chunk -/
theorem great_lt {C : List Int} {W s : Int} {bs : List Bk} (hC : Chn C) (hs : s ∈ C) (h : St C W bs) {b c : Bk} (hb : b ∈ bs) (hc : c ∈ bs) (hbs : s ≤ b.2) (hlt : b.1 + b.2 ≤ c.1) : b.1 / s < c.1 / s := by
  have h1 := hC.pos s hs
  have h2 : (b.1 + s) / s = b.1 / s + 1 := by rw [Int.add_ediv_of_dvd_right (Int.dvd_refl s), Int.ediv_self (by omega)]
  have h3 : (b.1 + s) / s ≤ c.1 / s := Int.ediv_le_ediv (by omega) (by omega)
  omega
/-- a block at most as large as the size lies within one chunk -/
theorem small_in {C : List Int} {W s : Int} {bs : List Bk} (hC : Chn C) (hs : s ∈ C) (h : St C W bs) {b : Bk} (hb : b ∈ bs) (hbs : b.2 ≤ s) {w : Int} (h1 : b.1 ≤ w) (h2 : w < b.1 + b.2) : w / s = b.1 / s := by
  obtain ⟨hbC, b1, b0, bm, _⟩ := h.ok b hb
  have e : w / b.2 = b.1 / b.2 := by
    obtain ⟨k, hk⟩ := Int.dvd_of_emod_eq_zero bm
    rw [hk, Int.mul_ediv_cancel_left _ (by omega)]
    rw [Int.ediv_eq_iff_of_pos (by omega)]
    rw [hk] at h1 h2
    rw [Int.mul_comm] at h1 h2
    constructor
    · exact h1
    · exact h2
  exact ediv_same (by omega) (hC.dvd _ hbC s hs hbs) e (by have := hC.pos s hs; omega)
theorem kp_kp {C : List Int} {s t : Int} {bs : List Bk} (hC : Chn C) (hs : s ∈ C) (ht : t ∈ C) (hst : s ≤ t) : kp t (kp s bs) = kp t bs := by
  have p1 := hC.pos s hs
  have p2 := hC.pos t ht
  have up : ∀ {a b : Int}, a / s = b / s → a / t = b / t := fun e => ediv_same (by omega) (hC.dvd s hs t ht hst) e (by omega)
  unfold kp
  rw [List.filter_filter]
  refine List.filter_congr fun b hb => ?_
  rw [Bool.eq_iff_iff, Bool.and_eq_true, decide_eq_true_iff, decide_eq_true_iff, decide_eq_true_iff]
  constructor
  · rintro ⟨z1, z2⟩ c hc e
    obtain ⟨y, hy, ey, hyc⟩ := kp_ex (s := s) hc
    exact (z1 y hy ((up ey).trans e)).trans hyc
  · intro z
    exact ⟨fun c hc e => z c (List.mem_filter.mp hc).1 e, fun c hc e => z c hc (up e)⟩
theorem pair_or {α : Type} {R : α → α → Prop} : ∀ {l : List α}, l.Pairwise R → ∀ b ∈ l, ∀ c ∈ l, b = c ∨ R b c ∨ R c b
  | [], _, b, hb, _, _ => by cases hb
  | x :: r, h, b, hb, c, hc => by
    obtain ⟨h1, h2⟩ := List.pairwise_cons.mp h
    rcases List.mem_cons.mp hb with e | e <;> rcases List.mem_cons.mp hc with e2 | e2
    · exact .inl (e.trans e2.symm)
    · rw [e]; exact .inr (.inl (h1 c e2))
    · rw [e2]; exact .inr (.inr (h1 b e))
    · exact pair_or h2 b e c e2
/-- a block at least as large as the size is kept -/
theorem great_kept {C : List Int} {W s : Int} {bs : List Bk} (hC : Chn C) (hs : s ∈ C) (h : St C W bs) {b : Bk} (hb : b ∈ bs) (hg : s ≤ b.2) : b ∈ kp s bs := by
  refine mem_kp.mpr ⟨hb, fun c hc e => ?_⟩
  have p1 := hC.pos s hs
  rcases pair_or h.asc b hb c hc with z | z | z
  · rw [z]; exact btr.refl _
  · have := great_lt hC hs h hb hc hg z
    omega
  · exfalso
    obtain ⟨hbC, b1, b0, bm, _⟩ := h.ok b hb
    obtain ⟨_, c1, _⟩ := h.ok c hc
    have hd : s ∣ b.1 := Int.dvd_trans (Int.dvd_of_emod_eq_zero (hC.dvd s hs _ hbC hg)) (Int.dvd_of_emod_eq_zero bm)
    have e2 : b.1 / s * s = b.1 := Int.ediv_mul_cancel hd
    have e3 : c.1 / s * s ≤ c.1 := Int.ediv_mul_le _ (by omega)
    rw [e] at e3
    omega
theorem kp_great {C : List Int} {W s : Int} {bs : List Bk} (hC : Chn C) (hs : s ∈ C) (h : St C W bs) (hg : ∀ b ∈ bs, s ≤ b.2) : kp s bs = bs :=
  List.filter_eq_self.mpr fun b hb => decide_eq_true (mem_kp.mp (great_kept hC hs h hb (hg b hb))).2
/-- the starts of the chunks that are not empty -/
def chk0 (s : Int) (bs : List Bk) (k : Int) : Prop := ∃ b ∈ bs, ∃ w, b.1 ≤ w ∧ w < b.1 + b.2 ∧ k = w / s * s
theorem kp_chk {C : List Int} {W s : Int} {bs : List Bk} (hC : Chn C) (hs : s ∈ C) (h : St C W bs) (k : Int) : chk0 s (kp s bs) k ↔ chk0 s bs k := by
  constructor
  · rintro ⟨b, hb, r⟩
    exact ⟨b, (mem_kp.mp hb).1, r⟩
  · rintro ⟨b, hb, w, w1, w2, rfl⟩
    by_cases hg : s ≤ b.2
    · exact ⟨b, great_kept hC hs h hb hg, w, w1, w2, rfl⟩
    · obtain ⟨y, hy, ey, _⟩ := kp_ex (s := s) hb
      have y1 := (h.ok y (mem_kp.mp hy).1).2.1
      refine ⟨y, hy, y.1, Int.le_refl _, by omega, ?_⟩
      rw [small_in hC hs h hb (by omega) w1 w2, ey]
theorem sum_sub : ∀ {l m : List Int}, l.Sublist m → (∀ x ∈ m, 0 ≤ x) → l.sum ≤ m.sum
  | _, _, .slnil, _ => Int.le_refl _
  | _, _, .cons a r, h => by
    have := sum_sub r fun x hx => h x (List.mem_cons_of_mem _ hx)
    have := h a (List.mem_cons_self ..)
    rw [List.sum_cons]
    omega
  | _, _, .cons_cons a r, h => by
    have := sum_sub r fun x hx => h x (List.mem_cons_of_mem _ hx)
    rw [List.sum_cons, List.sum_cons]
    omega
theorem kp_live {C : List Int} {W s : Int} {bs : List Bk} (h : St C W bs) : ((kp s bs).map (·.2)).sum ≤ (bs.map (·.2)).sum :=
  sum_sub ((kp_sub s bs).map _) fun x hx => by
    obtain ⟨b, hb, e⟩ := List.mem_map.mp hx
    have := (h.ok b hb).2.1
    omega
theorem kp_nodup {C : List Int} {W s : Int} {bs : List Bk} (h : St C W bs) (p : Bk → Bool) : (((kp s bs).filter p).map fun b => b.1 / s).Nodup := by
  have a : Asc ((kp s bs).filter p) := h.ascL.kp.sublist List.filter_sublist
  refine List.pairwise_map.mpr (a.imp_of_mem fun {b c} hb hc z e => ?_)
  have := kp_uniq (List.mem_filter.mp hb).1 (List.mem_filter.mp hc).1 e
  rw [this] at z
  omega
theorem kp_noc {s : Int} (hs : 0 < s) {l : List Bk} {b m : Bk} (h : Asc (l ++ [b])) (hg : (kp s l).getLast? = some m) (hq : m.1 / s ≠ b.1 / s) : ∀ c ∈ kp s l, c.1 / s ≠ b.1 / s := by
  obtain ⟨E0, eE⟩ := List.getLast?_eq_some_iff.mp hg
  have hl : Asc l := (List.pairwise_append.mp h).1
  have ascE : Asc (E0 ++ [m]) := eE ▸ hl.kp
  have hm : m ∈ l := (mem_kp.mp (by rw [eE]; exact List.mem_append_right _ (List.mem_singleton.mpr rfl) : m ∈ kp s l)).1
  have hmb := (List.pairwise_append.mp h).2.2 m hm b (List.mem_singleton.mpr rfl)
  have h2 : m.1 / s ≤ b.1 / s := Int.ediv_le_ediv hs (Int.le_of_lt hmb)
  intro c hc
  rw [eE] at hc
  rcases List.mem_append.mp hc with e | e
  · have h1 : c.1 / s ≤ m.1 / s := Int.ediv_le_ediv hs (Int.le_of_lt ((List.pairwise_append.mp ascE).2.2 c e m (List.mem_singleton.mpr rfl)))
    omega
  · rw [List.mem_singleton.mp e]
    exact hq
theorem kp_last {s : Int} {l E0 : List Bk} {m : Bk} (h : Asc l) (eE : kp s l = E0 ++ [m]) : ∀ c ∈ E0, c.1 / s ≠ m.1 / s := fun c hc z => by
  have ascE : Asc (E0 ++ [m]) := eE ▸ h.kp
  have h1 := (List.pairwise_append.mp ascE).2.2 c hc m (List.mem_singleton.mpr rfl)
  have e := kp_uniq (s := s) (bs := l) (b := c) (c := m) (by rw [eE]; exact List.mem_append_left _ hc) (by rw [eE]; exact List.mem_append_right _ (List.mem_singleton.mpr rfl)) z
  rw [e] at h1
  omega
end Ph

namespace Ph
open PySem PySem.Spec PyProof.Rows L2
/-! ### the request program: its phases in numbers -/
def totB (bs : List Bk) : Int := (bs.map fun b => b.2).sum
/-- the blocks that a phase frees -/
def nkB (z : Int) (bs : List Bk) : List Bk := bs.filter fun b => !decide (b ∈ kp z bs)
theorem mem_nkB {z : Int} {bs : List Bk} {b : Bk} : b ∈ nkB z bs ↔ b ∈ bs ∧ b ∉ kp z bs := by
  unfold nkB
  rw [List.mem_filter]
  simp
theorem nkB_nil {z : Int} {bs : List Bk} : nkB z bs = [] ↔ ∀ b ∈ bs, b ∈ kp z bs := by
  constructor
  · intro h b hb
    rcases Classical.em (b ∈ kp z bs) with c | c
    · exact c
    · have : b ∈ nkB z bs := mem_nkB.mpr ⟨hb, c⟩
      rw [h] at this
      cases this
  · intro h
    cases e : nkB z bs with
    | nil => rfl
    | cons b r =>
      have : b ∈ nkB z bs := by rw [e]; exact List.mem_cons_self ..
      obtain ⟨h1, h2⟩ := mem_nkB.mp this
      exact absurd (h b h1) h2
/-- n chunks of t words with a block of at most x words -/
def Wt (bs : List Bk) (x t : Int) (n : Nat) : Prop := ∃ L : List Int, L.Nodup ∧ n ≤ L.length ∧ ∀ q ∈ L, ∃ b ∈ bs, b.2 ≤ x ∧ b.1 / t = q
theorem Wt.sub {bs cs : List Bk} {x t : Int} {n : Nat} (w : Wt bs x t n) (h : ∀ b ∈ bs, b.2 ≤ x → ∃ c ∈ cs, c.2 ≤ x ∧ c.1 / t = b.1 / t) : Wt cs x t n := by
  obtain ⟨L, nd, hn, hq⟩ := w
  refine ⟨L, nd, hn, fun q hq' => ?_⟩
  obtain ⟨b, hb, h1, h2⟩ := hq q hq'
  obtain ⟨c, hc, h3, h4⟩ := h b hb h1
  exact ⟨c, hc, h3, h4.trans h2⟩
theorem set_of (l : List Int) : ∃ l' : List Int, l'.Nodup ∧ ∀ x, x ∈ l' ↔ x ∈ l := by
  induction l with
  | nil => exact ⟨[], List.nodup_nil, fun x => Iff.rfl⟩
  | cons a l ih =>
    obtain ⟨l', nd, h⟩ := ih
    by_cases c : a ∈ l'
    · exact ⟨l', nd, fun x => by
        rw [h x, List.mem_cons]
        constructor
        · exact fun z => .inr z
        · rintro (z | z)
          · rw [z]; exact (h a).mp c
          · exact z⟩
    · exact ⟨a :: l', List.nodup_cons.mpr ⟨c, nd⟩, fun x => by rw [List.mem_cons, List.mem_cons, h x]⟩
theorem nd_le {l m : List Int} (nd : l.Nodup) (h : ∀ x ∈ l, x ∈ m) : l.length ≤ m.length := nd.length_le_of_subset fun x hx => h x hx
theorem flat_len {α : Type} {r : Nat} (f : α → List Int) (h : ∀ q, (f q).length = r) : ∀ l : List α, (l.flatMap f).length = l.length * r
  | [] => by simp
  | a :: l => by
    have := flat_len f h l
    rw [List.flatMap_cons, List.length_append, h, this, List.length_cons, Nat.add_mul]
    omega
/-- chunks taken together, r at a time -/
theorem grp {L : List Int} {r : Nat} (hr : 1 ≤ r) (nd : L.Nodup) : ∃ L' : List Int, L'.Nodup ∧ L.length ≤ L'.length * r ∧ ∀ q ∈ L', ∃ k ∈ L, k / (r : Int) = q := by
  obtain ⟨L', nd', h⟩ := set_of (L.map fun k => k / (r : Int))
  refine ⟨L', nd', ?_, fun q hq => ?_⟩
  · have hl := flat_len (r := r) (fun q : Int => (List.range r).map fun (j : Nat) => q * r + (j : Int)) (fun q => by simp) L'
    rw [← hl]
    refine nd_le nd fun x hx => ?_
    refine List.mem_flatMap.mpr ⟨x / (r : Int), (h _).mpr (List.mem_map.mpr ⟨x, hx, rfl⟩), List.mem_map.mpr ⟨(x % (r : Int)).toNat, List.mem_range.mpr ?_, ?_⟩⟩
    · have := Int.emod_lt_of_pos x (show (0 : Int) < r by omega)
      omega
    · have h0 := Int.emod_nonneg x (show (r : Int) ≠ 0 by omega)
      have h1 := Int.mul_ediv_add_emod x r
      rw [Int.mul_comm] at h1
      omega
  · obtain ⟨k, hk, e⟩ := List.mem_map.mp ((h q).mp hq)
    exact ⟨k, hk, e⟩
/-- numbers whose counts are known add up to no more -/
theorem sum_le_of : ∀ (n : Nat) (l : List Nat) (f : Nat → Nat), l.length = n → (∀ i j, i ≤ j → f i ≤ f j) → (∀ k, k < n → k < (l.filter fun x => decide (x ≤ f k)).length) → l.sum ≤ sm f n
  | 0, l, f, hl, _, _ => by rw [List.length_eq_zero_iff.mp hl]; exact Nat.zero_le _
  | n + 1, l, f, hl, mo, hc => by
    obtain ⟨x, hx, mx⟩ : ∃ x ∈ l, ∀ y ∈ l, y ≤ x := by
      have : ∀ l : List Nat, l ≠ [] → ∃ x ∈ l, ∀ y ∈ l, y ≤ x := by
        intro l
        induction l with
        | nil => exact fun z => absurd rfl z
        | cons a l ih =>
          intro _
          by_cases c : l = []
          · rw [c]
            exact ⟨a, List.mem_singleton.mpr rfl, fun y hy => by rw [List.mem_singleton.mp hy]; exact Nat.le_refl _⟩
          · obtain ⟨x, hx, mx⟩ := ih c
            rcases Nat.le_total a x with h | h
            · exact ⟨x, List.mem_cons_of_mem _ hx, fun y hy => (List.mem_cons.mp hy).elim (fun z => by rw [z]; exact h) (mx y)⟩
            · exact ⟨a, List.mem_cons_self .., fun y hy => (List.mem_cons.mp hy).elim (fun z => by rw [z]; exact Nat.le_refl _) fun z => Nat.le_trans (mx y z) h⟩
      exact this l (fun z => by rw [z] at hl; simp at hl)
    have pm := List.perm_cons_erase hx
    have xle : x ≤ f n := by
      have h1 := hc n (by omega)
      rcases Nat.lt_or_ge (f n) x with c | c
      · exfalso
        have h2 : (l.filter fun y => decide (y ≤ f n)).length ≤ ((l.erase x).filter fun y => decide (y ≤ f n)).length := by
          have := (pm.filter fun y => decide (y ≤ f n)).length_eq
          rw [List.filter_cons_of_neg (by simpa using c)] at this
          omega
        have h3 := List.length_filter_le (fun y => decide (y ≤ f n)) (l.erase x)
        have h4 := pm.length_eq
        rw [List.length_cons] at h4
        omega
      · exact c
    have ih := sum_le_of n (l.erase x) f (by have := pm.length_eq; rw [List.length_cons] at this; omega) mo fun k hk => by
      have h1 := hc k (by omega)
      have h2 := (pm.filter fun y => decide (y ≤ f k)).length_eq
      by_cases c : x ≤ f k
      · have : (l.erase x).filter (fun y => decide (y ≤ f k)) = l.erase x := List.filter_eq_self.mpr fun y hy => decide_eq_true (Nat.le_trans (mx y (List.mem_of_mem_erase hy)) c)
        rw [this]
        have h4 := pm.length_eq
        rw [List.length_cons] at h4
        omega
      · rw [List.filter_cons_of_neg (by simpa using c)] at h2
        omega
    have e := pm.sum_nat
    rw [List.sum_cons] at e
    show l.sum ≤ sm f n + f n
    omega
/-- the request program in phase i, its live blocks bs -/
structure PI (s : Nat → Nat) (p M : Nat) (W : Int) (B : Nat → Nat) (i : Nat) (bs : List Bk) : Prop where
  st : St (tl s (i + 1)) W bs
  le : totB bs ≤ M
  wt : ∀ j, j < i → ∀ k, i ≤ k → k ≤ p → Wt bs ((s j : Nat) : Int) ((s k : Nat) : Int) (cdw (B j) (s k))
theorem CH.chn {s : Nat → Nat} {p i : Nat} (c : CH s (p + 1)) (hi : i ≤ p) : Chn (tl s (i + 1)) := by
  refine ⟨fun x hx => ?_, fun x hx y hy hxy => ?_⟩
  · obtain ⟨j, hj, rfl⟩ := tl_mem.mp hx
    have := c.pos (i := j) (by omega)
    omega
  · obtain ⟨j, hj, rfl⟩ := tl_mem.mp hx
    obtain ⟨l, hl, rfl⟩ := tl_mem.mp hy
    rcases Nat.le_total j l with h | h
    · obtain ⟨r, _, e⟩ := c.dvd (i := j) (j := l) h (by omega)
      rw [e, Int.natCast_mul]
      exact Int.mul_emod_right _ _
    · have := c.mono (i := l) (j := j) h (by omega)
      have e : s l = s j := by omega
      rw [e]
      exact Int.emod_self
def OneB (z : Int) (bs : List Bk) : Prop := ∀ b ∈ bs, ∀ c ∈ bs, b.1 / z = c.1 / z → b = c
theorem one_iff {z : Int} {bs : List Bk} : nkB z bs = [] ↔ OneB z bs := by
  rw [nkB_nil]
  constructor
  · exact fun h b hb c hc e => kp_uniq (h b hb) (h c hc) e
  · exact fun h b hb => mem_kp.mpr ⟨hb, fun c hc e => by rw [h c hc b hb e]; exact btr.refl _⟩
theorem Asc.addr {bs : List Bk} (h : Asc bs) {b c : Bk} (hb : b ∈ bs) (hc : c ∈ bs) (e : b.1 = c.1) : b = c := by
  rcases pair_or h b hb c hc with z | z | z
  · exact z
  · exact absurd z (by have : b.1 < c.1 := z; omega)
  · exact absurd z (by have : c.1 < b.1 := z; omega)
theorem totB_cons (b : Bk) (bs : List Bk) : totB (b :: bs) = b.2 + totB bs := by
  unfold totB
  rw [List.map_cons, List.sum_cons]
theorem totB_perm {bs cs : List Bk} (h : bs.Perm cs) : totB bs = totB cs := by
  induction h with
  | nil => rfl
  | cons b _ ih => rw [totB_cons, totB_cons, ih]
  | swap a b l => rw [totB_cons, totB_cons, totB_cons, totB_cons]; omega
  | trans _ _ h1 h2 => exact h1.trans h2
theorem totB_snoc (bs : List Bk) (b : Bk) : totB (bs ++ [b]) = totB bs + b.2 := by
  unfold totB
  rw [List.map_append, List.sum_append]
  simp
theorem totB_out : ∀ {bs : List Bk} {b : Bk}, Asc bs → b ∈ bs → totB (bs.filter fun c => decide (c.1 ≠ b.1)) + b.2 = totB bs
  | [], _, _, h => by cases h
  | a :: l, b, asc, h => by
    obtain ⟨h1, h2⟩ := List.pairwise_cons.mp asc
    rcases List.mem_cons.mp h with z | z
    · subst z
      have e : (b :: l).filter (fun c => decide (c.1 ≠ b.1)) = l := by
        rw [List.filter_cons_of_neg (by simp)]
        exact List.filter_eq_self.mpr fun c hc => decide_eq_true (by have := h1 c hc; omega)
      rw [e, totB_cons]
      omega
    · have := h1 b z
      rw [List.filter_cons_of_pos (by simp; omega), totB_cons, totB_cons]
      have := totB_out h2 z
      omega
section
variable {s B : Nat → Nat} {p M i : Nat} {W : Int} {bs : List Bk} (c : CH s (p + 1)) (hi : i ≤ p)
include c hi
theorem PI.free {b : Bk} {r : List Bk} (h : PI s p M W B i bs) (e : nkB ((s i : Nat) : Int) bs = b :: r) :
    b ∈ bs ∧ PI s p M W B i (bs.filter fun c => decide (c.1 ≠ b.1)) ∧ nkB ((s i : Nat) : Int) (bs.filter fun c => decide (c.1 ≠ b.1)) = r ∧ totB (bs.filter fun c => decide (c.1 ≠ b.1)) + b.2 = totB bs := by
  have zp := c.pos (i := i) (by omega)
  have asc := h.st.ascL
  obtain ⟨hb, nb⟩ := mem_nkB.mp (show b ∈ nkB ((s i : Nat) : Int) bs by rw [e]; exact List.mem_cons_self ..)
  obtain ⟨k, hk, k1, k2⟩ := kp_ex (s := ((s i : Nat) : Int)) hb
  have hkb := (mem_kp.mp hk).1
  have nkb : k.1 ≠ b.1 := fun z => nb (by rw [← asc.addr hkb hb z]; exact hk)
  have inC : ∀ d ∈ bs, d.1 ≠ b.1 → d ∈ bs.filter fun c => decide (c.1 ≠ b.1) := fun d hd n => List.mem_filter.mpr ⟨hd, decide_eq_true n⟩
  have tb := totB_out asc hb
  have b1 := (h.st.bnd b hb).2.1
  have kpE : ∀ d ∈ bs.filter (fun c => decide (c.1 ≠ b.1)), (d ∈ kp ((s i : Nat) : Int) (bs.filter fun c => decide (c.1 ≠ b.1)) ↔ d ∈ kp ((s i : Nat) : Int) bs) := fun d hd => by
    have hd' := (List.mem_filter.mp hd).1
    rw [mem_kp, mem_kp]
    constructor
    · rintro ⟨_, bst⟩
      refine ⟨hd', fun f hf ef => ?_⟩
      by_cases n : f.1 = b.1
      · obtain rfl := asc.addr hf hb n
        exact (bst k (inC k hkb nkb) (k1.trans ef)).trans k2
      · exact bst f (inC f hf n) ef
    · rintro ⟨_, bst⟩
      exact ⟨hd, fun f hf ef => bst f (List.mem_filter.mp hf).1 ef⟩
  refine ⟨hb, ⟨h.st.sub List.filter_sublist, ?_, fun j hj l hl1 hl2 => ?_⟩, ?_, tb⟩
  · have := h.le
    omega
  · refine (h.wt j hj l hl1 hl2).sub fun d hd hx => ?_
    by_cases n : d.1 = b.1
    · obtain rfl := asc.addr hd hb n
      refine ⟨k, inC k hkb nkb, ?_, ?_⟩
      · unfold btr at k2
        omega
      · obtain ⟨rr, hr, er⟩ := c.dvd (i := i) (j := l) hl1 (by omega)
        have lp := c.pos (i := l) (by omega)
        exact ediv_same (s := ((s i : Nat) : Int)) (by omega) (by rw [er, Int.natCast_mul]; exact Int.mul_emod_right _ _) k1 (by omega)
    · exact ⟨d, inC d hd n, hx, rfl⟩
  · have e1 : nkB ((s i : Nat) : Int) (bs.filter fun c => decide (c.1 ≠ b.1)) = (nkB ((s i : Nat) : Int) bs).filter fun c => decide (c.1 ≠ b.1) := by
      unfold nkB
      rw [List.filter_filter, List.filter_filter]
      refine List.filter_congr fun d hd => ?_
      by_cases n : d.1 = b.1
      · simp [n]
      · have := kpE d (inC d hd n)
        have e2 : decide (d ∈ kp ((s i : Nat) : Int) (bs.filter fun c => decide (c.1 ≠ b.1))) = decide (d ∈ kp ((s i : Nat) : Int) bs) := by
          by_cases q : d ∈ kp ((s i : Nat) : Int) bs
          · rw [decide_eq_true q, decide_eq_true (this.mpr q)]
          · rw [decide_eq_false q, decide_eq_false fun z => q (this.mp z)]
        rw [e2, Bool.and_comm]
    rw [e1, e, List.filter_cons_of_neg (by simp)]
    have asc2 : Asc (b :: r) := by rw [← e]; exact asc.sublist List.filter_sublist
    exact List.filter_eq_self.mpr fun d hd => decide_eq_true (by have := (List.pairwise_cons.mp asc2).1 d hd; omega)
theorem PI.get {a : Int} {cs : List Bk} (h : PI s p M W B i bs) (e : nkB ((s i : Nat) : Int) bs = []) (a0 : 0 ≤ a) (am : a % ((s i : Nat) : Int) = 0) (aW : a + ((s i : Nat) : Int) ≤ W) (ap : ∀ b ∈ bs, b.1 + b.2 ≤ a ∨ a + ((s i : Nat) : Int) ≤ b.1) (hM : totB bs + ((s i : Nat) : Int) ≤ M)
    (pm : cs.Perm (bs ++ [(a, ((s i : Nat) : Int))])) (so : cs.Pairwise fun x y => SrtO.lexB y x = false) : PI s p M W B i cs ∧ nkB ((s i : Nat) : Int) cs = [] ∧ totB cs = totB bs + ((s i : Nat) : Int) := by
  have zp := c.pos (i := i) (by omega)
  have zin : ((s i : Nat) : Int) ∈ tl s (i + 1) := tl_mem.mpr ⟨i, by omega, rfl⟩
  have et : totB cs = totB bs + ((s i : Nat) : Int) := by rw [totB_perm pm, totB_snoc]
  have sub : ∀ b ∈ bs, b ∈ cs := fun b hb => pm.mem_iff.mpr (List.mem_append_left _ hb)
  have inv : ∀ b ∈ cs, b ∈ bs ∨ b = (a, ((s i : Nat) : Int)) := fun b hb => (List.mem_append.mp (pm.mem_iff.mp hb)).imp id List.mem_singleton.mp
  have st2 : St (tl s (i + 1)) W cs := sorted_st (bs := bs ++ [(a, ((s i : Nat) : Int))]) (fun b hb => by
      rcases List.mem_append.mp hb with z | z
      · exact h.st.ok b z
      · rw [List.mem_singleton.mp z]
        exact ⟨zin, by dsimp only; omega, a0, am, aW⟩) (List.pairwise_append.mpr ⟨h.st.asc.imp fun z => .inl z, List.pairwise_singleton _ _, fun b hb d hd => by
      rw [List.mem_singleton.mp hd]
      exact ap b hb⟩) pm so
  have one := one_iff.mp e
  have far : ∀ b ∈ bs, b.1 / ((s i : Nat) : Int) ≠ a / ((s i : Nat) : Int) := fun b hb z => by
    have bb := h.st.bnd b hb
    obtain ⟨hC, _⟩ := h.st.ok b hb
    obtain ⟨j, hj, ej⟩ := tl_mem.mp hC
    have := c.mono (i := j) (j := i) (by omega) (by omega)
    have w := small_in (c.chn hi) zin h.st hb (by omega) (w := b.1 + b.2 - 1) (by omega) (by omega)
    have l1 := Int.ediv_mul_cancel (Int.dvd_of_emod_eq_zero am)
    have l2 := Int.ediv_mul_le b.1 (show ((s i : Nat) : Int) ≠ 0 by omega)
    have l3 := Int.lt_ediv_add_one_mul_self (b.1 + b.2 - 1) (show (0 : Int) < ((s i : Nat) : Int) by omega)
    rw [w, z, Int.add_mul, l1, Int.one_mul] at l3
    rw [z, l1] at l2
    have := ap b hb
    omega
  refine ⟨⟨st2, by rw [et]; exact hM, fun j hj l h1 h2 => (h.wt j hj l h1 h2).sub fun b hb hx => ⟨b, sub b hb, hx, rfl⟩⟩, one_iff.mpr fun b hb d hd z => ?_, et⟩
  rcases inv b hb with u | u <;> rcases inv d hd with v | v
  · exact one b u d v z
  · rw [v] at z
    exact absurd z (far b u)
  · rw [u] at z
    exact absurd z.symm (far d v)
  · rw [u, v]
theorem PI.fin (BB : BD s B (p + 1) M) (h : PI s p M W B i bs) (e : nkB ((s i : Nat) : Int) bs = []) (hM : (M : Int) < totB bs + ((s i : Nat) : Int)) : B i ≤ bs.length * s i := by
  have zp := c.pos (i := i) (by omega)
  have cnt : ∀ j, j < i → cdw (B j) (s i) ≤ (bs.filter fun b => decide (b.2 ≤ ((s j : Nat) : Int))).length := fun j hj => by
    obtain ⟨L, nd, hn, hq⟩ := h.wt j hj i (Nat.le_refl _) hi
    refine Nat.le_trans hn ?_
    rw [← List.length_map (f := fun b : Bk => b.1 / ((s i : Nat) : Int))]
    refine nd_le nd fun q hq' => ?_
    obtain ⟨b, hb, h1, h2⟩ := hq q hq'
    exact List.mem_map.mpr ⟨b, List.mem_filter.mpr ⟨hb, decide_eq_true h1⟩, h2⟩
  have num := BB.num c (i := i) (by omega)
  rcases Nat.lt_or_ge bs.length (B i / s i) with q | q
  · exfalso
    have h1 := (BB.iff c (i := i) (n := bs.length + 1) (by omega)).mp q
    have ecl : cls B i (bs.length * s i) = i := cls_eq (Nat.le_refl _) (fun j hj => by
      have h2 := cnt j hj
      have h3 := List.length_filter_le (fun b : Bk => decide (b.2 ≤ ((s j : Nat) : Int))) bs
      have h4 := le_cdw (x := B j) (s := s i) (by omega)
      exact Nat.le_trans h4 (Nat.mul_le_mul_right _ (by omega))) (fun z => absurd z (Nat.lt_irrefl _))
    have h2 : SS s B i (bs.length + 1) = SS s B i bs.length + s i := by
      show sm _ _ + _ = _
      unfold SS
      dsimp only
      rw [ecl]
    have h3 : (bs.map fun b => b.2.toNat).sum ≤ SS s B i bs.length := by
      refine sum_le_of bs.length _ _ (List.length_map _) (fun x y hxy => ?_) fun k hk => ?_
      · exact c.mono (cls_up (Nat.mul_le_mul_right _ hxy)) (by have := cls_le B i (y * s i); omega)
      · have hcl := cls_le B i (k * s i)
        have pos : ∀ b ∈ bs, 1 ≤ b.2 := fun b hb => (h.st.bnd b hb).2.1
        have ef : ((bs.map fun b => b.2.toNat).filter fun x => decide (x ≤ s (cls B i (k * s i)))).length = (bs.filter fun b => decide (b.2 ≤ ((s (cls B i (k * s i)) : Nat) : Int))).length := by
          rw [List.filter_map, List.length_map]
          refine congrArg List.length (List.filter_congr fun b hb => ?_)
          have := pos b hb
          show decide (b.2.toNat ≤ _) = decide (b.2 ≤ _)
          exact decide_eq_decide.mpr (by omega)
        rw [ef]
        rcases Nat.lt_or_ge (cls B i (k * s i)) i with z | z
        · have h4 := cls_hi z
          have h5 := (lt_cdw (x := B (cls B i (k * s i))) (s := s i) (k := k) (by omega)).mpr h4
          have h6 := cnt _ z
          omega
        · have ec : cls B i (k * s i) = i := by omega
          rw [ec, List.filter_eq_self.mpr fun b hb => ?_]
          · exact hk
          · obtain ⟨hC, _⟩ := h.st.ok b hb
            obtain ⟨j, hj, ej⟩ := tl_mem.mp hC
            have := c.mono (i := j) (j := i) (by omega) (by omega)
            exact decide_eq_true (by omega)
    have h4 : totB bs = (((bs.map fun b => b.2.toNat).sum : Nat) : Int) := by
      have pos : ∀ b ∈ bs, 1 ≤ b.2 := fun b hb => (h.st.bnd b hb).2.1
      clear h3 h2 ecl h1 q num cnt hM e h
      unfold totB
      induction bs with
      | nil => rfl
      | cons b l ih =>
        have h1 := ih fun d hd => pos d (List.mem_cons_of_mem _ hd)
        have h2 := pos b (List.mem_cons_self ..)
        rw [List.map_cons, List.sum_cons, List.map_cons, List.sum_cons, h1]
        omega
    omega
  · have := Nat.mul_le_mul_right (s i) q
    omega
theorem PI.next (BB : BD s B (p + 1) M) (h : PI s p M W B i bs) (e : nkB ((s i : Nat) : Int) bs = []) (hM : (M : Int) < totB bs + ((s i : Nat) : Int)) (hp : i < p) : PI s p M W B (i + 1) bs := by
  have zp := c.pos (i := i) (by omega)
  have fin := PI.fin c hi BB h e hM
  have one := one_iff.mp e
  refine ⟨⟨fun b hb => ?_, h.st.asc⟩, h.le, fun j hj k h1 h2 => ?_⟩
  · obtain ⟨q1, q2⟩ := h.st.ok b hb
    obtain ⟨l, hl, el⟩ := tl_mem.mp q1
    exact ⟨tl_mem.mpr ⟨l, by omega, el⟩, q2⟩
  · rcases Nat.lt_or_ge j i with z | z
    · exact h.wt j z k (by omega) h2
    · obtain rfl : j = i := by omega
      obtain ⟨r, hr, er⟩ := c.dvd (i := j) (j := k) (by omega) (by omega)
      have nd : (bs.map fun b => b.1 / ((s j : Nat) : Int)).Nodup := by
        refine List.pairwise_map.mpr (h.st.ascL.imp_of_mem fun {b d} hb hd hlt q => ?_)
        have := one b hb d hd q
        rw [this] at hlt
        exact absurd hlt (by have : ¬ d.1 < d.1 := by omega
                             exact this)
      obtain ⟨L', nd', len, hq⟩ := grp hr nd
      refine ⟨L', nd', ?_, fun q hq' => ?_⟩
      · rw [List.length_map] at len
        have h3 : B j ≤ L'.length * s k := by
          rw [er]
          have := Nat.mul_le_mul_right (s j) len
          rw [Nat.mul_assoc, Nat.mul_comm r (s j)] at this
          omega
        have h4 := cdw_mono (s := s k) h3
        rw [cdw_mul (c.pos (by omega))] at h4
        exact h4
      · obtain ⟨k0, hk0, ek⟩ := hq q hq'
        obtain ⟨b, hb, eb⟩ := List.mem_map.mp hk0
        obtain ⟨hC, _⟩ := h.st.ok b hb
        obtain ⟨l, hl, el⟩ := tl_mem.mp hC
        have := c.mono (i := l) (j := j) (by omega) (by omega)
        refine ⟨b, hb, by omega, ?_⟩
        rw [er, Int.natCast_mul, ← Int.ediv_ediv_of_nonneg (by omega), eb, ek]
end
theorem PI.start {s B : Nat → Nat} {p M : Nat} {W : Int} : PI s p M W B 0 [] := ⟨⟨(fun b h => nomatch h), List.Pairwise.nil⟩, by unfold totB; simp, fun j h => absurd h (by omega)⟩
theorem nkB_empty {z : Int} : nkB z [] = [] := rfl
end Ph

/-! PhPg: the request program against any set of states that the requester cannot leave -/
namespace Ph
open PySem PySem.Spec PyProof.Rows L2
/-- every free stays within, and every get that the limit allows has an answer that stays within -/
structure Stays (s : Nat → Nat) (p M : Nat) (W : Int) (F : List Bk → Prop) : Prop where
  free : ∀ bs, F bs → ∀ b ∈ bs, F (bs.filter fun c => decide (c.1 ≠ b.1))
  get : ∀ bs, F bs → ∀ j, j ≤ p → totB bs + ((s j : Nat) : Int) ≤ M → ∃ a cs, 0 ≤ a ∧ a % ((s j : Nat) : Int) = 0 ∧ a + ((s j : Nat) : Int) ≤ W ∧ (∀ b ∈ bs, b.1 + b.2 ≤ a ∨ a + ((s j : Nat) : Int) ≤ b.1) ∧
    cs.Perm (bs ++ [(a, ((s j : Nat) : Int))]) ∧ (cs.Pairwise fun x y => SrtO.lexB y x = false) ∧ F cs
section
variable {s B : Nat → Nat} {p M : Nat} {W : Int} {F : List Bk → Prop}
theorem Stays.frees (S : Stays s p M W F) (c : CH s (p + 1)) {i : Nat} (hi : i ≤ p) : ∀ (n : Nat) (bs : List Bk), (nkB ((s i : Nat) : Int) bs).length = n → F bs → PI s p M W B i bs → ∃ cs, F cs ∧ PI s p M W B i cs ∧ nkB ((s i : Nat) : Int) cs = [] := by
  intro n
  induction n with
  | zero => exact fun bs h f q => ⟨bs, f, q, List.length_eq_zero_iff.mp h⟩
  | succ n ih =>
    intro bs h f q
    cases e : nkB ((s i : Nat) : Int) bs with
    | nil => rw [e] at h; cases h
    | cons b r =>
      obtain ⟨hb, q', e', _⟩ := PI.free c hi q e
      refine ih _ ?_ (S.free bs f b hb) q'
      rw [e']
      rw [e] at h
      exact Nat.succ.inj h
theorem Stays.gets (S : Stays s p M W F) (c : CH s (p + 1)) {i : Nat} (hi : i ≤ p) : ∀ (n : Nat) (bs : List Bk), ((M : Int) - totB bs).toNat ≤ n → F bs → PI s p M W B i bs → nkB ((s i : Nat) : Int) bs = [] → ∃ cs, F cs ∧ PI s p M W B i cs ∧ nkB ((s i : Nat) : Int) cs = [] ∧ (M : Int) < totB cs + ((s i : Nat) : Int) := by
  have zp := c.pos (i := i) (by omega)
  intro n
  induction n with
  | zero =>
    intro bs h f q e
    exact ⟨bs, f, q, e, by omega⟩
  | succ n ih =>
    intro bs h f q e
    by_cases l : totB bs + ((s i : Nat) : Int) ≤ M
    · obtain ⟨a, cs, a0, am, aW, ap, pm, so, fc⟩ := S.get bs f i hi l
      obtain ⟨q', e', t'⟩ := PI.get c hi q e a0 am aW ap l pm so
      exact ih cs (by omega) fc q' e'
    · exact ⟨bs, f, q, e, by omega⟩
theorem Stays.phase (S : Stays s p M W F) (c : CH s (p + 1)) (BB : BD s B (p + 1) M) (f0 : F []) : ∀ i, i ≤ p → ∃ cs, F cs ∧ PI s p M W B i cs ∧ nkB ((s i : Nat) : Int) cs = [] ∧ (M : Int) < totB cs + ((s i : Nat) : Int)
  | 0, h => S.gets c h _ [] (Nat.le_refl _) f0 PI.start nkB_empty
  | i + 1, h => by
    obtain ⟨bs, f, q, e, l⟩ := S.phase c BB f0 i (by omega)
    obtain ⟨cs, f', q', e'⟩ := S.frees c h _ bs rfl f (PI.next c (by omega) BB q e l (by omega))
    exact S.gets c h _ cs (Nat.le_refl _) f' q' e'
/-- blocks of different chunks within n chunks are at most n -/
theorem one_len {C : List Int} {z : Int} {n : Nat} {bs : List Bk} (hz : 0 < z) (st : St C (n * z) bs) (one : OneB z bs) : bs.length ≤ n := by
  have nd : (bs.map fun b => b.1 / z).Nodup := by
    refine List.pairwise_map.mpr (st.ascL.imp_of_mem fun {b d} hb hd hlt q => ?_)
    have := one b hb d hd q
    rw [this] at hlt
    exact absurd hlt (Int.lt_irrefl _)
  have := nd_le (m := (List.range n).map fun i : Nat => (i : Int)) nd fun q hq => by
    obtain ⟨b, hb, rfl⟩ := List.mem_map.mp hq
    obtain ⟨_, h1, h2, _, h3⟩ := st.ok b hb
    have q0 : 0 ≤ b.1 / z := Int.ediv_nonneg h2 (by omega)
    have q1 : b.1 / z < n := Int.ediv_lt_of_lt_mul hz (by omega)
    exact List.mem_map.mpr ⟨(b.1 / z).toNat, List.mem_range.mpr (by omega), by omega⟩
  rw [List.length_map, List.length_map, List.length_range] at this
  exact this
/-- guarantee (b): where the requester cannot be stopped there are as many pages as needed -/
theorem Stays.pages {n : Nat} (S : Stays s p M (n * ((s p : Nat) : Int)) F) (c : CH s (p + 1)) (f0 : F []) : bfn s (fun _ => 0) M p ≤ n * s p := by
  have zp := c.pos (i := p) (by omega)
  have BB := bd_bfn s (p + 1) M
  obtain ⟨cs, f, q, e, l⟩ := S.phase c BB f0 p (Nat.le_refl _)
  have h1 := PI.fin c (Nat.le_refl _) BB q e l
  have h2 := one_len (n := n) (by omega) q.st (one_iff.mp e)
  exact Nat.le_trans h1 (Nat.mul_le_mul_right _ h2)
end
end Ph

/-! PhGm: games: which states are lost, within how many moves; how many answers are left -/
namespace Ph
open PySem PySem.Spec PyProof.Rows L2
/-! ### a block put, a block taken away -/
def ins (b : Bk) : List Bk → List Bk
  | [] => [b]
  | c :: r => if SrtO.lexB c b then c :: ins b r else b :: c :: r
/-- the state with one more block -/
def wb (bs : List Bk) (a z : Int) : List Bk := ins (a, z) bs
/-- the state without the block at a -/
def ct (bs : List Bk) (a : Int) : List Bk := bs.filter fun c => decide (c.1 ≠ a)
theorem ins_perm (b : Bk) : ∀ l : List Bk, (ins b l).Perm (l ++ [b])
  | [] => .refl _
  | c :: r => by
    unfold ins
    split
    · exact (ins_perm b r).cons c
    · exact (List.perm_append_comm (l₁ := [b]) (l₂ := c :: r))
abbrev Srt (l : List Bk) : Prop := l.Pairwise fun x y => SrtO.lexB y x = false
theorem ins_srt {b : Bk} : ∀ {l : List Bk}, Srt l → Srt (ins b l)
  | [], _ => List.pairwise_singleton _ _
  | c :: r, h => by
    obtain ⟨h1, h2⟩ := List.pairwise_cons.mp h
    unfold ins
    split
    · rename_i lt
      refine List.pairwise_cons.mpr ⟨fun x hx => ?_, ins_srt h2⟩
      rcases List.mem_append.mp ((ins_perm b r).mem_iff.mp hx) with z | z
      · exact h1 x z
      · rw [List.mem_singleton.mp z]
        have := SrtO.lexB_iff.mp lt
        exact SrtO.lexB_no.mpr (by omega)
    · rename_i nl
      have nl : SrtO.lexB c b = false := by simpa using nl
      refine List.pairwise_cons.mpr ⟨fun x hx => ?_, h⟩
      rcases List.mem_cons.mp hx with z | z
      · rw [z]; exact nl
      · have e1 := SrtO.lexB_no.mp nl
        have e2 := SrtO.lexB_no.mp (h1 x z)
        exact SrtO.lexB_no.mpr (by omega)
theorem St.srt {C : List Int} {W : Int} {bs : List Bk} (st : St C W bs) : Srt bs := st.asc.imp_of_mem fun {b c} hb hc h => by
  have := (st.ok b hb).2.1
  exact SrtO.lexB_no.mpr (by omega)
theorem wb_of {C : List Int} {W : Int} {bs cs : List Bk} {a z : Int} (st : St C W bs) (pm : cs.Perm (bs ++ [(a, z)])) (so : Srt cs) : cs = wb bs a z :=
  perm_lex (pm.trans (ins_perm (a, z) bs).symm) so (ins_srt st.srt)
/-- a is a place for a size -/
def Plc (W : Int) (bs : List Bk) (z a : Int) : Prop := 0 ≤ a ∧ a % z = 0 ∧ a + z ≤ W ∧ ∀ b ∈ bs, b.1 + b.2 ≤ a ∨ a + z ≤ b.1
/-- all places for a size, ascending -/
def plcs (W : Int) (bs : List Bk) (z : Int) : List Int := plf z 0 (bs ++ [(W, 0)])
theorem mem_plcs {C : List Int} {W z a : Int} {bs : List Bk} (hz : 0 < z) (hW : 0 ≤ W) (st : St C W bs) : a ∈ plcs W bs z ↔ Plc W bs z a := by
  have := plf_mem (s := z) (W := W) hz bs 0 (fun b hb => st.bnd b hb) st.asc hW a
  unfold plcs Plc
  rw [this]
  constructor
  · rintro ⟨h1, h2, h3, h4⟩
    exact ⟨h2, h1, h3, fun b hb => (h4 b hb).symm⟩
  · rintro ⟨h1, h2, h3, h4⟩
    exact ⟨h2, h1, h3, fun b hb => (h4 b hb).symm⟩
theorem plcs_nodup {C : List Int} {W z : Int} {bs : List Bk} (hz : 0 < z) (hW : 0 ≤ W) (st : St C W bs) : (plcs W bs z).Nodup :=
  (plf_inc (s := z) (W := W) hz bs 0 (fun b hb => st.bnd b hb) st.asc hW).imp fun h => Int.ne_of_lt h
theorem plcs_len {C : List Int} {W z : Int} {bs : List Bk} (hz : 0 < z) (hW : 0 ≤ W) (st : St C W bs) : (plcs W bs z).length ≤ W.toNat := by
  have := plf_len hz (bs ++ [(W, 0)]) 0 W (fun b hb => by
    rcases List.mem_append.mp hb with h | h
    · obtain ⟨_, h2, h3, _, h5⟩ := st.ok b h
      omega
    · rw [List.mem_singleton.mp h]
      exact ⟨hW, Int.le_refl _, by show W + 0 ≤ W; omega⟩) (List.pairwise_append.mpr ⟨st.asc, List.pairwise_singleton _ _, fun b hb c hc => by
    rw [List.mem_singleton.mp hc]
    exact (st.ok b hb).2.2.2.2⟩) hW
  unfold plcs
  omega
/-- a state within the limit -/
structure Gst (s : Nat → Nat) (p M : Nat) (W : Int) (bs : List Bk) : Prop where
  st : St (tl s (p + 1)) W bs
  lim : totB bs ≤ M
section
variable {s : Nat → Nat} {p M : Nat} {W : Int} {bs cs : List Bk} {a z : Int} {j : Nat}
theorem totB_wb : totB (wb bs a z) = totB bs + z := by
  show totB (ins (a, z) bs) = _
  rw [totB_perm (ins_perm (a, z) bs), totB_snoc]
theorem mem_wb {b : Bk} : b ∈ wb bs a z ↔ b ∈ bs ∨ b = (a, z) := by
  unfold wb
  rw [(ins_perm (a, z) bs).mem_iff, List.mem_append, List.mem_singleton]
theorem Gst.put (c : CH s (p + 1)) (g : Gst s p M W bs) (hj : j ≤ p) (l : totB bs + ((s j : Nat) : Int) ≤ M) (h : Plc W bs ((s j : Nat) : Int) a) : Gst s p M W (wb bs a ((s j : Nat) : Int)) := by
  have zp := c.pos (i := j) (by omega)
  refine ⟨sorted_st (bs := bs ++ [(a, ((s j : Nat) : Int))]) (fun b hb => ?_) ?_ (ins_perm _ _) (ins_srt g.st.srt), by rw [totB_wb]; exact l⟩
  · rcases List.mem_append.mp hb with h' | h'
    · exact g.st.ok b h'
    · rw [List.mem_singleton.mp h']
      exact ⟨tl_mem.mpr ⟨j, by omega, rfl⟩, by dsimp only; omega, h.1, h.2.1, h.2.2.1⟩
  · refine List.pairwise_append.mpr ⟨g.st.asc.imp fun h => .inl h, List.pairwise_singleton _ _, fun b hb d hd => ?_⟩
    rw [List.mem_singleton.mp hd]
    exact h.2.2.2 b hb
theorem totB_filter {C : List Int} (q : Bk → Bool) (st : St C W bs) : totB (bs.filter q) ≤ totB bs := sum_filter q st
theorem Gst.cut (g : Gst s p M W bs) : Gst s p M W (ct bs a) := ⟨g.st.filter _, Int.le_trans (totB_filter _ g.st) g.lim⟩
theorem Gst.nil : Gst s p M W [] := ⟨⟨(fun _ h => nomatch h), .nil⟩, by show (0 : Int) ≤ M; omega⟩
/-- no block of the state begins at a place -/
theorem Plc.ne {C : List Int} (st : St C W bs) (hz : 0 < z) (h : Plc W bs z a) : ∀ b ∈ bs, b.1 ≠ a := fun b hb e => by
  have := h.2.2.2 b hb
  have := (st.ok b hb).2.1
  omega
theorem ct_wb {C : List Int} (st : St C W bs) (hz : 0 < z) (h : Plc W bs z a) : ct (wb bs a z) a = bs := by
  have ne := h.ne st hz
  refine perm_lex (l := ct (wb bs a z) a) ?_ ((ins_srt st.srt).sublist List.filter_sublist) st.srt
  unfold ct
  refine ((ins_perm (a, z) bs).filter _).trans ?_
  rw [List.filter_append, List.filter_eq_self.mpr fun b hb => decide_eq_true (ne b hb), List.filter_cons_of_neg (by simp), List.filter_nil, List.append_nil]
theorem wb_ct {C : List Int} {b : Bk} (st : St C W bs) (hb : b ∈ bs) : wb (ct bs b.1) b.1 b.2 = bs := by
  have asc := st.ascL
  refine (wb_of (bs := ct bs b.1) (st.filter _) ?_ st.srt).symm
  have key : ∀ l : List Bk, Asc l → b ∈ l → l.Perm (ct l b.1 ++ [b]) := fun l => by
    induction l with
    | nil => intro _ h; cases h
    | cons d r ih =>
      intro asc h
      obtain ⟨h1, h2⟩ := List.pairwise_cons.mp asc
      rcases List.mem_cons.mp h with e | e
      · subst e
        have : ct (b :: r) b.1 = r := by
          unfold ct
          rw [List.filter_cons_of_neg (by simp)]
          exact List.filter_eq_self.mpr fun c hc => decide_eq_true (by have := h1 c hc; omega)
        rw [this]
        exact List.perm_append_comm (l₁ := [b]) (l₂ := r)
      · have := h1 b e
        have e2 : ct (d :: r) b.1 = d :: ct r b.1 := by
          unfold ct
          rw [List.filter_cons_of_pos (by simp; omega)]
        rw [e2]
        exact (ih h2 e).cons d
  exact key bs asc hb
theorem ct_plc {C : List Int} {b : Bk} (st : St C W bs) (hb : b ∈ bs) : Plc W (ct bs b.1) b.2 b.1 := by
  obtain ⟨_, h2, h3, h4, h5⟩ := st.ok b hb
  refine ⟨h3, h4, h5, fun c hc => ?_⟩
  obtain ⟨hc, ne⟩ := List.mem_filter.mp hc
  have ne := of_decide_eq_true ne
  have : b = c ∨ b.1 + b.2 ≤ c.1 ∨ c.1 + c.2 ≤ b.1 := pair_or (R := fun b c => b.1 + b.2 ≤ c.1) st.asc b hb c hc
  rcases this with e | e | e
  · rw [e] at ne; exact absurd rfl ne
  · exact .inr e
  · exact .inl e
theorem totB_ct {C : List Int} {b : Bk} (st : St C W bs) (hb : b ∈ bs) : totB (ct bs b.1) + b.2 = totB bs := totB_out st.ascL hb
/-! ### lost states -/
/-- the requester makes every allocator fail within so many moves -/
def Lst (s : Nat → Nat) (p M : Nat) (W : Int) : Nat → List Bk → Prop
  | 0, _ => False
  | n + 1, bs => (∃ j, j ≤ p ∧ totB bs + ((s j : Nat) : Int) ≤ M ∧ ∀ a, Plc W bs ((s j : Nat) : Int) a → Lst s p M W n (wb bs a ((s j : Nat) : Int))) ∨ ∃ b ∈ bs, Lst s p M W n (ct bs b.1)
theorem Lst.up : ∀ {n : Nat} {bs : List Bk}, Lst s p M W n bs → Lst s p M W (n + 1) bs
  | 0, _, h => h.elim
  | n + 1, bs, h => by
    rcases h with ⟨j, hj, l, h⟩ | ⟨b, hb, h⟩
    · exact .inl ⟨j, hj, l, fun a ha => (h a ha).up⟩
    · exact .inr ⟨b, hb, h.up⟩
theorem Lst.mono {n m : Nat} (h : Lst s p M W n bs) (le : n ≤ m) : Lst s p M W m bs := by
  induction le with
  | refl => exact h
  | step _ ih => exact ih.up
/-- nothing new in one round, nothing new for ever -/
theorem Lst.stop (c : CH s (p + 1)) {m : Nat} (h : ∀ bs, Gst s p M W bs → Lst s p M W (m + 1) bs → Lst s p M W m bs) : ∀ {n : Nat} {bs : List Bk}, m ≤ n → Gst s p M W bs → Lst s p M W n bs → Lst s p M W m bs := by
  intro n
  induction n with
  | zero =>
    intro bs le _ l
    exact l.elim
  | succ n ih =>
    intro bs le g l
    rcases Nat.lt_or_ge n m with z | z
    · have : m = n + 1 := by omega
      rw [this]; exact l
    · refine h bs g ?_
      rcases l with ⟨j, hj, lim, l⟩ | ⟨b, hb, l⟩
      · exact .inl ⟨j, hj, lim, fun a ha => ih z (g.put c hj lim ha) (l a ha)⟩
      · exact .inr ⟨b, hb, ih z g.cut l⟩
/-- where the requester cannot leave a set of states none of them is lost -/
theorem Stays.safe {F : List Bk → Prop} (S : Stays s p M W F) (gF : ∀ bs, F bs → Gst s p M W bs) : ∀ (n : Nat) (bs : List Bk), F bs → ¬ Lst s p M W n bs := by
  intro n
  induction n with
  | zero => exact fun _ _ h => h
  | succ n ih =>
    rintro bs f (⟨j, hj, l, h⟩ | ⟨b, hb, h⟩)
    · obtain ⟨a, cs, a0, am, aW, ap, pm, so, fc⟩ := S.get bs f j hj l
      have e := wb_of (gF bs f).st pm so
      subst e
      exact ih _ fc (h a ⟨a0, am, aW, ap⟩)
    · exact ih _ (S.free bs f b hb) h
/-- the states that are never lost cannot be left -/
theorem safe_stays (c : CH s (p + 1)) (hW : 0 ≤ W) : Stays s p M W (fun bs => Gst s p M W bs ∧ ∀ n, ¬ Lst s p M W n bs) := by
  refine ⟨fun bs ⟨g, h⟩ b hb => ⟨g.cut, fun n l => h (n + 1) (.inr ⟨b, hb, l⟩)⟩, fun bs ⟨g, h⟩ j hj l => ?_⟩
  have zp := c.pos (i := j) (by omega)
  have : ∃ a, Plc W bs ((s j : Nat) : Int) a ∧ ∀ n, ¬ Lst s p M W n (wb bs a ((s j : Nat) : Int)) := Classical.byContradiction fun no => by
    have all : ∀ a, Plc W bs ((s j : Nat) : Int) a → ∃ n, Lst s p M W n (wb bs a ((s j : Nat) : Int)) := fun a ha => Classical.byContradiction fun q => no ⟨a, ha, fun n ln => q ⟨n, ln⟩⟩
    have bound : ∀ L : List Int, (∀ a ∈ L, Plc W bs ((s j : Nat) : Int) a) → ∃ n, ∀ a ∈ L, Lst s p M W n (wb bs a ((s j : Nat) : Int)) := fun L => by
      induction L with
      | nil => exact fun _ => ⟨0, fun _ h => nomatch h⟩
      | cons a r ih =>
        intro hL
        obtain ⟨n1, h1⟩ := ih fun x hx => hL x (List.mem_cons_of_mem _ hx)
        obtain ⟨n2, h2⟩ := all a (hL a List.mem_cons_self)
        refine ⟨max n1 n2, fun x hx => ?_⟩
        rcases List.mem_cons.mp hx with e | e
        · rw [e]; exact h2.mono (Nat.le_max_right _ _)
        · exact (h1 x e).mono (Nat.le_max_left _ _)
    obtain ⟨n, hn⟩ := bound (plcs W bs ((s j : Nat) : Int)) fun a ha => (mem_plcs (by omega) hW g.st).mp ha
    exact h (n + 1) (.inl ⟨j, hj, l, fun a ha => hn a ((mem_plcs (by omega) hW g.st).mpr ha)⟩)
  obtain ⟨a, ha, hn⟩ := this
  exact ⟨a, _, ha.1, ha.2.1, ha.2.2.1, ha.2.2.2, ins_perm _ _, ins_srt g.st.srt, g.put c hj l ha, hn⟩
/-- guarantee (b) of games: with fewer pages than needed the empty state is lost -/
theorem few_lost {n : Nat} (c : CH s (p + 1)) (h : n * s p < bfn s (fun _ => 0) M p) : ∃ k, Lst s p M (n * ((s p : Nat) : Int)) k [] := Classical.byContradiction fun no => by
  have := (safe_stays (M := M) (W := n * ((s p : Nat) : Int)) c (by rw [← Int.natCast_mul]; omega)).pages c ⟨Gst.nil, fun k l => no ⟨k, l⟩⟩
  omega
/-- the states whose outlook ends within the heap -/
def Out (s : Nat → Nat) (p M : Nat) (W : Int) (bs : List Bk) : Prop := Gst s p M W bs ∧ ∀ ρ, Rho s p bs ρ → ((bfn s ρ M p : Nat) : Int) ≤ W
/-- guarantee (c) of games: they cannot be left -/
theorem out_stays {m : Nat} (cn : Cn s p m) (hW : 0 ≤ W) : Stays s p M W (Out s p M W) := by
  refine ⟨fun bs ⟨g, h⟩ b hb => ⟨g.cut, fun ρ' h' => ?_⟩, fun bs ⟨g, h⟩ j hj l => ?_⟩
  · obtain ⟨ρ, hρ⟩ := Rho.ex g.st
    have := free_outlook (M := M) cn.ch g.st hρ h' p (Nat.le_refl _)
    have := h ρ hρ
    omega
  · have zp := cn.ch.pos (i := j) (by omega)
    obtain ⟨ρ, hρ⟩ := Rho.ex g.st
    obtain ⟨x, r, ex⟩ := has_place (W := W) cn.ch (i := j) (by omega) hW g.st hρ l (h ρ hρ)
    have lp := lowp_of (by omega) hW g.st ex
    have pl : Plc W bs ((s j : Nat) : Int) x := ⟨lp.pos, lp.mod, lp.fit, fun b hb => (lp.free b hb).symm⟩
    have gp := g.put cn.ch hj l pl
    refine ⟨x, _, pl.1, pl.2.1, pl.2.2.1, pl.2.2.2, ins_perm _ _, ins_srt g.st.srt, gp, fun ρ' h' => ?_⟩
    obtain ⟨n, ex, en⟩ := lp.ends cn.ch hj g.st hρ l
    have := get_outlook cn hj g.st hρ gp.st h' ex en (ins_perm _ _) p (Nat.le_refl _)
    have := h ρ hρ
    omega
theorem Out.safe {m : Nat} (cn : Cn s p m) (hW : 0 ≤ W) (h : Out s p M W bs) (n : Nat) : ¬ Lst s p M W n bs := (out_stays cn hW).safe (fun _ h => h.1) n bs h
/-- with as many pages as needed the empty state is not lost -/
theorem enough_safe {m n : Nat} (cn : Cn s p m) (h : bfn s (fun _ => 0) M p ≤ n * s p) (k : Nat) : ¬ Lst s p M (n * ((s p : Nat) : Int)) k [] := by
  refine Out.safe cn (by rw [← Int.natCast_mul]; omega) ⟨Gst.nil, fun ρ hρ => ?_⟩ k
  have := bfn_mono (M := M) (M' := M) cn.ch (ρ := fun _ => 0) (ρ' := ρ) (fun i hi => by
    have h1 := hρ.at_ (show i ≤ p by omega)
    have h2 := (Rho.nil s p).at_ (show i ≤ p by omega)
    rw [h1] at h2
    omega) (Nat.le_refl _) p (by omega)
  rw [← Int.natCast_mul]
  omega
/-! ### how many answers are left -/
/-- how many answers to a get lead to none of the states ps -/
def cnt (W : Int) (ps : List (List Bk)) (bs : List Bk) (z : Int) : Nat := ((plcs W bs z).filter fun a => decide (wb bs a z ∉ ps)).length
theorem cnt_zero {C : List Int} {ps : List (List Bk)} (hz : 0 < z) (hW : 0 ≤ W) (st : St C W bs) : cnt W ps bs z = 0 ↔ ∀ a, Plc W bs z a → wb bs a z ∈ ps := by
  unfold cnt
  rw [List.length_eq_zero_iff, List.filter_eq_nil_iff]
  constructor
  · intro h a ha
    have := h a ((mem_plcs hz hW st).mpr ha)
    exact Classical.byContradiction fun n => this (decide_eq_true n)
  · intro h a ha
    simpa using h a ((mem_plcs hz hW st).mp ha)
theorem cnt_nil : cnt W [] bs z = (plcs W bs z).length := by
  unfold cnt
  rw [List.filter_eq_self.mpr fun a _ => by simp]
theorem filter_one {α : Type} [DecidableEq α] {x : α} {f g : α → Bool} : ∀ {l : List α}, l.Nodup → x ∈ l → f x = true → g x = false → (∀ y ∈ l, y ≠ x → f y = g y) → (l.filter g).length + 1 = (l.filter f).length
  | [], _, h, _, _, _ => by cases h
  | y :: r, nd, h, fx, gx, e => by
    obtain ⟨n1, n2⟩ := List.nodup_cons.mp nd
    rcases List.mem_cons.mp h with q | q
    · subst q
      have : r.filter f = r.filter g := List.filter_congr fun z hz => e z (List.mem_cons_of_mem _ hz) fun w => n1 (by rw [← w]; exact hz)
      rw [List.filter_cons_of_pos fx, List.filter_cons_of_neg (by rw [gx]; decide), this, List.length_cons]
    · have ne : y ≠ x := fun w => n1 (by rw [w]; exact q)
      have ih := filter_one n2 q fx gx fun z hz => e z (List.mem_cons_of_mem _ hz)
      have ey := e y List.mem_cons_self ne
      by_cases fy : f y = true
      · rw [List.filter_cons_of_pos fy, List.filter_cons_of_pos (by rw [← ey]; exact fy), List.length_cons, List.length_cons, ih]
      · rw [List.filter_cons_of_neg fy, List.filter_cons_of_neg (by rw [← ey]; exact fy)]
        exact ih
/-- one more state looked at: one answer less for the gets that lead to it -/
theorem cnt_hit {C : List Int} {ps : List (List Bk)} {b : Bk} (hW : 0 ≤ W) (st : St C W cs) (hb : b ∈ cs) (n : cs ∉ ps) : cnt W (ps ++ [cs]) (ct cs b.1) b.2 + 1 = cnt W ps (ct cs b.1) b.2 := by
  have stc : St C W (ct cs b.1) := st.filter _
  have b1 := (st.ok b hb).2.1
  have back := wb_ct st hb
  refine filter_one (x := b.1) (plcs_nodup (by omega) hW stc) ((mem_plcs (by omega) hW stc).mpr (ct_plc st hb)) (decide_eq_true (by rw [back]; exact n)) (decide_eq_false (by rw [back]; simp)) fun y hy ne => ?_
  have hy := (mem_plcs (by omega) hW stc).mp hy
  refine decide_eq_decide.mpr ?_
  rw [List.mem_append, List.mem_singleton]
  constructor
  · rintro h (q | q)
    · exact h q
    · have h1 : (y, b.2) ∈ cs := by rw [← q]; exact mem_wb.mpr (.inr rfl)
      have h2 := ct_wb stc (by omega) hy
      rw [q] at h2
      have h3 : b ∈ ct cs y := List.mem_filter.mpr ⟨hb, decide_eq_true (Ne.symm ne)⟩
      rw [h2] at h3
      exact absurd rfl (of_decide_eq_true (List.mem_filter.mp h3).2)
  · exact fun h q => h (.inl q)
/-- the others have as many as before -/
theorem cnt_miss {C : List Int} {ps : List (List Bk)} (hz : 0 < z) (hW : 0 ≤ W) (stb : St C W bs) (st : St C W cs) (n : ∀ b ∈ cs, (ct cs b.1, b.2) ≠ (bs, z)) : cnt W (ps ++ [cs]) bs z = cnt W ps bs z := by
  unfold cnt
  congr 1
  refine List.filter_congr fun a ha => decide_eq_decide.mpr ?_
  have ha := (mem_plcs hz hW stb).mp ha
  rw [List.mem_append, List.mem_singleton]
  constructor
  · exact fun h q => h (.inl q)
  · rintro h (q | q)
    · exact h q
    · refine n (a, z) (by rw [← q]; exact mem_wb.mpr (.inr rfl)) ?_
      rw [← q]
      show (ct (wb bs a z) a, z) = (bs, z)
      rw [ct_wb stb hz ha]
theorem cnt_perm {ps qs : List (List Bk)} (h : ∀ x, x ∈ ps ↔ x ∈ qs) : cnt W ps bs z = cnt W qs bs z := by
  unfold cnt
  congr 1
  exact List.filter_congr fun a _ => decide_eq_decide.mpr (not_congr (h _))
end
end Ph

/-! PhGn: how many states there are: the numbers that the program counts; the states from a word on -/
namespace Ph
open PySem PySem.Spec PyProof.Rows L2
/-- the states of one page -/
def cst (s : Nat → Nat) : Nat → Nat
  | 0 => 2
  | i + 1 => cst s i ^ (s (i + 1) / s i) + 1
/-- a small heap: so few states that the program goes through all of them -/
structure Sml (s : Nat → Nat) (p n : Nat) : Prop where
  w : n * s p ≤ 12
  k : ∀ i, i ≤ p → cst s i ≤ 20000
  c : cst s p ^ n ≤ 20000
  q : p ≤ 5
  z : s p ≤ 12
  n : n ≤ 12
theorem mulB_ok {b i n : Nat} (h : b ≤ 20000) (hi : i ≤ n) (hn : n ≤ 1000) : CMulW ((b ^ i : Nat) : Int) (b : Nat) := by
  have hb : b < 2 ^ 15 := Nat.lt_of_le_of_lt h (by decide)
  refine wide_mul (a := 15 * i + 1) (b := 15) ?_ ?_ (by omega) (by omega) (by omega)
  · rw [Int.natAbs_natCast]
    have h1 : b ^ i ≤ (2 ^ 15) ^ i := Nat.pow_le_pow_left (Nat.le_of_lt hb) i
    rw [← Nat.pow_mul] at h1
    exact Nat.lt_of_le_of_lt h1 (Nat.pow_lt_pow_right (by decide) (Nat.lt_succ_self _))
  · rw [Int.natAbs_natCast]
    exact hb
/-! ### the states whose blocks begin at a or later -/
def From (C : List Int) (W a : Int) (bs : List Bk) : Prop := St C W bs ∧ ∀ b ∈ bs, a ≤ b.1
theorem from_end {C : List Int} {W : Int} {bs : List Bk} : From C W W bs ↔ bs = [] := by
  constructor
  · rintro ⟨st, h⟩
    cases bs with
    | nil => rfl
    | cons b r =>
      have := h b List.mem_cons_self
      obtain ⟨_, h2, _, _, h5⟩ := st.ok b List.mem_cons_self
      omega
  · rintro rfl
    exact ⟨⟨(fun _ h => nomatch h), .nil⟩, fun _ h => nomatch h⟩
theorem from_step {C : List Int} {W a : Int} {bs : List Bk} (h0 : 0 ≤ a) : From C W a bs ↔ From C W (a + 1) bs ∨ ∃ z r, z ∈ C ∧ 1 ≤ z ∧ a % z = 0 ∧ a + z ≤ W ∧ From C W (a + z) r ∧ bs = (a, z) :: r := by
  constructor
  · rintro ⟨st, h⟩
    cases bs with
    | nil => exact .inl ⟨st, fun _ h => nomatch h⟩
    | cons b r =>
      have hb := h b List.mem_cons_self
      obtain ⟨h1, h2, h3, h4, h5⟩ := st.ok b List.mem_cons_self
      obtain ⟨p1, p2⟩ := List.pairwise_cons.mp st.asc
      rcases Int.lt_or_le a b.1 with lt | ge
      · refine .inl ⟨st, fun c hc => ?_⟩
        rcases List.mem_cons.mp hc with e | e
        · rw [e]; omega
        · have := p1 c e
          omega
      · have e : b.1 = a := by omega
        refine .inr ⟨b.2, r, h1, h2, by rw [← e]; exact h4, by omega, ⟨⟨fun c hc => st.ok c (List.mem_cons_of_mem _ hc), p2⟩, fun c hc => by have := p1 c hc; omega⟩, by rw [← e]⟩
  · rintro (⟨st, h⟩ | ⟨z, r, h1, h2, h3, h4, ⟨st, h⟩, rfl⟩)
    · exact ⟨st, fun b hb => by have := h b hb; omega⟩
    · refine ⟨⟨fun b hb => ?_, List.pairwise_cons.mpr ⟨fun c hc => by have := h c hc; exact this, st.asc⟩⟩, fun b hb => ?_⟩
      · rcases List.mem_cons.mp hb with e | e
        · rw [e]; exact ⟨h1, h2, h0, h3, h4⟩
        · exact st.ok b e
      · rcases List.mem_cons.mp hb with e | e
        · rw [e]; exact Int.le_refl _
        · have := h b e
          omega
/-- how long the list may get on the way -/
def bsm (n : Nat) : Nat → Nat
  | 0 => 3 ^ (n - 1)
  | i + 1 => bsm n i + (if i < n then 3 ^ (n - 1 - i) else 0)
theorem bsm_le {n : Nat} (hn : 1 ≤ n) : ∀ i, bsm n i ≤ 3 ^ n := by
  have key : ∀ i, i ≤ n → 2 * bsm n i + 3 ^ (n - i) ≤ 2 * 3 ^ (n - 1) + 3 ^ n := fun i => by
    induction i with
    | zero => intro _; show 2 * 3 ^ (n - 1) + 3 ^ (n - 0) ≤ _; rw [Nat.sub_zero]; exact Nat.le_refl _
    | succ i ih =>
      intro hi
      have h1 := ih (by omega)
      have e : bsm n (i + 1) = bsm n i + 3 ^ (n - 1 - i) := by show bsm n i + (if i < n then _ else 0) = _; rw [if_pos (by omega)]
      have e2 : 3 ^ (n - i) = 3 * 3 ^ (n - 1 - i) := by rw [show n - i = (n - 1 - i) + 1 by omega, Nat.pow_succ, Nat.mul_comm]
      rw [e, show n - (i + 1) = n - 1 - i by omega]
      omega
  have e3 : 3 ^ n = 3 * 3 ^ (n - 1) := by rw [show n = (n - 1) + 1 by omega, Nat.pow_succ, Nat.mul_comm]; simp
  have top : ∀ i, i ≤ n → bsm n i ≤ 3 ^ n := fun i hi => by
    have := key i hi
    rw [e3] at this ⊢
    generalize 3 ^ (n - i) = e at *
    generalize 3 ^ (n - 1) = d at *
    omega
  intro i
  rcases Nat.le_total i n with h | h
  · exact top i h
  · have : ∀ d, bsm n (n + d) = bsm n n := fun d => by
      induction d with
      | zero => rfl
      | succ d ih =>
        show bsm n (n + d) + (if n + d < n then _ else 0) = _
        rw [if_neg (by omega), ih]
        rfl
    rw [show i = n + (i - n) by omega, this]
    exact top n (Nat.le_refl _)
theorem bsm_up {n i : Nat} : bsm n i ≤ bsm n (i + 1) := Nat.le_add_right _ _
theorem CH.ge {s : Nat → Nat} {p m : Nat} (cn : Cn s p m) : ∀ {i}, i ≤ p → i + 1 ≤ s i
  | 0, _ => by rw [cn.ch.s0]; exact Nat.le_refl _
  | i + 1, h => by
    obtain ⟨r, r2, _, e⟩ := cn.two i (by omega)
    have ih := CH.ge cn (i := i) (by omega)
    rw [e]
    have := Nat.mul_le_mul ih r2
    omega
theorem st_lenA {C : List Int} {W : Int} : ∀ (bs : List Bk) (a : Int), St C W bs → (∀ b ∈ bs, a ≤ b.1) → a ≤ W → a + (bs.length : Int) ≤ W
  | [], a, _, _, h => by show a + ((0 : Nat) : Int) ≤ W; omega
  | b :: r, a, st, h, _ => by
    obtain ⟨p1, p2⟩ := List.pairwise_cons.mp st.asc
    obtain ⟨_, h2, _, _, h5⟩ := st.ok b List.mem_cons_self
    have hb := h b List.mem_cons_self
    have := st_lenA r (b.1 + b.2) ⟨fun c hc => st.ok c (List.mem_cons_of_mem _ hc), p2⟩ p1 h5
    rw [List.length_cons]
    omega
theorem st_len {C : List Int} {W : Int} {bs : List Bk} (st : St C W bs) (hW : 0 ≤ W) : (bs.length : Int) ≤ W := by
  have := st_lenA bs 0 st (fun b hb => (st.ok b hb).2.2.1) hW
  omega
end Ph

/-! PhGo: the rounds in which the lost states are found -/
namespace Ph
open PySem PySem.Spec PyProof.Rows L2
/-- a request: the block at an address is freed, a size is asked for -/
inductive Rqt where
  | fr (a : Int)
  | gt (z : Int)
section
variable (s : Nat → Nat) (p M : Nat) (W : Int)
/-- the fewest moves -/
def Rnk (r : Nat) (bs : List Bk) : Prop := Lst s p M W r bs ∧ ∀ k, k < r → ¬ Lst s p M W k bs
/-- the request can be made, and leads to states that are lost in fewer moves -/
def Goes (r : Nat) (bs : List Bk) : Rqt → Prop
  | .fr a => ∃ b ∈ bs, b.1 = a ∧ ∃ k, k + 1 = r ∧ Lst s p M W k (ct bs a)
  | .gt z => ∃ j, j ≤ p ∧ z = ((s j : Nat) : Int) ∧ totB bs + ((s j : Nat) : Int) ≤ M ∧ ∃ k, k + 1 = r ∧ ∀ a, Plc W bs z a → Lst s p M W k (wb bs a z)
/-- a request from bs that may lead to cs, all whose answers lead to states of ps -/
def Into (ps : List (List Bk)) (cs bs : List Bk) : Rqt → Prop
  | .fr a => ∃ b ∈ bs, b.1 = a ∧ ct bs a = cs
  | .gt z => ∃ j, j ≤ p ∧ z = ((s j : Nat) : Int) ∧ totB bs + ((s j : Nat) : Int) ≤ M ∧ (∀ a, Plc W bs z a → wb bs a z ∈ ps) ∧ ∃ a, Plc W bs z a ∧ wb bs a z = cs
end
section
variable {s : Nat → Nat} {p M : Nat} {W : Int}
theorem Rnk.uniq {r t : Nat} {bs : List Bk} (h : Rnk s p M W r bs) (k : Rnk s p M W t bs) : r = t := by
  rcases Nat.lt_trichotomy r t with z | z | z
  · exact absurd h.1 (k.2 r z)
  · exact z
  · exact absurd k.1 (h.2 t z)
theorem Rnk.le {r n : Nat} {bs : List Bk} (h : Rnk s p M W r bs) (k : Lst s p M W n bs) : r ≤ n := by
  rcases Nat.lt_or_ge n r with z | z
  · exact absurd k (h.2 n z)
  · exact z
theorem Rnk.ex {n : Nat} {bs : List Bk} (h : Lst s p M W n bs) : ∃ r, r ≤ n ∧ Rnk s p M W r bs := by
  induction n with
  | zero => exact h.elim
  | succ n ih =>
    rcases Classical.em (Lst s p M W n bs) with z | z
    · obtain ⟨r, h1, h2⟩ := ih z
      exact ⟨r, by omega, h2⟩
    · exact ⟨n + 1, Nat.le_refl _, h, fun k hk l => z (l.mono (by omega))⟩
/-- at the first round: just where some get that the limit allows has no place -/
theorem lst_one {bs : List Bk} : Lst s p M W 1 bs ↔ ∃ j, j ≤ p ∧ totB bs + ((s j : Nat) : Int) ≤ M ∧ ∀ a, ¬ Plc W bs ((s j : Nat) : Int) a := by
  constructor
  · rintro (⟨j, hj, l, h⟩ | ⟨b, _, h⟩)
    · exact ⟨j, hj, l, fun a ha => h a ha⟩
    · exact h.elim
  · rintro ⟨j, hj, l, h⟩
    exact .inl ⟨j, hj, l, fun a ha => (h a ha).elim⟩
theorem rnk_one {bs : List Bk} (h : Lst s p M W 1 bs) : Rnk s p M W 1 bs := ⟨h, fun k hk l => by
  obtain rfl : k = 0 := by omega
  exact l⟩
/-- what leads into states lost within m moves is lost within one more -/
theorem Into.lst {m : Nat} {ps : List (List Bk)} {cs bs : List Bk} {q : Rqt} (h : Into s p M W ps cs bs q) (hp : ∀ x ∈ ps, Lst s p M W m x) (hc : Lst s p M W m cs) : Lst s p M W (m + 1) bs ∧ Goes s p M W (m + 1) bs q := by
  cases q with
  | fr a =>
    obtain ⟨b, hb, rfl, e⟩ := h
    exact ⟨.inr ⟨b, hb, by rw [e]; exact hc⟩, b, hb, rfl, m, rfl, by rw [e]; exact hc⟩
  | gt z =>
    obtain ⟨j, hj, rfl, l, h1, _⟩ := h
    exact ⟨.inl ⟨j, hj, l, fun a ha => hp _ (h1 a ha)⟩, j, hj, rfl, l, m, rfl, fun a ha => hp _ (h1 a ha)⟩
/-- all states of the next round lead into the newest ones, one after another -/
theorem into_all {m : Nat} (c : CH s (p + 1)) (hW : 0 ≤ W) {ps ns : List (List Bk)} (hm : 1 ≤ m) (hp : ∀ x, x ∈ ps ↔ Gst s p M W x ∧ Lst s p M W (m - 1) x) (hn : ∀ x, x ∈ ns ↔ Gst s p M W x ∧ Rnk s p M W m x) {bs : List Bk} (g : Gst s p M W bs) (l : Lst s p M W (m + 1) bs) (nl : ¬ Lst s p M W m bs) :
    ∃ i cs q, ns[i]? = some cs ∧ Into s p M W (ps ++ ns.take (i + 1)) cs bs q := by
  obtain ⟨k, rfl⟩ : ∃ k, m = k + 1 := ⟨m - 1, by omega⟩
  rw [Nat.add_sub_cancel] at hp
  have new : ∀ x, Gst s p M W x → Lst s p M W (k + 1) x → x ∉ ps → x ∈ ns := fun x gx lx nx => (hn x).mpr ⟨gx, lx, fun t ht lt => nx ((hp x).mpr ⟨gx, lt.mono (by omega)⟩)⟩
  rcases l with ⟨j, hj, lim, h⟩ | ⟨b, hb, h⟩
  · have zp := c.pos (i := j) (by omega)
    -- an answer that is new
    have ex : ∃ a, Plc W bs ((s j : Nat) : Int) a ∧ wb bs a ((s j : Nat) : Int) ∉ ps := Classical.byContradiction fun no => nl (.inl ⟨j, hj, lim, fun a ha => ((hp _).mp (Classical.byContradiction fun q => no ⟨a, ha, q⟩)).2⟩)
    -- how many of the newest must be looked at for all answers
    have key : ∀ n, (∀ a, Plc W bs ((s j : Nat) : Int) a → wb bs a ((s j : Nat) : Int) ∈ ps ++ ns.take n) → ∃ i cs, ns[i]? = some cs ∧ (∀ a, Plc W bs ((s j : Nat) : Int) a → wb bs a ((s j : Nat) : Int) ∈ ps ++ ns.take (i + 1)) ∧ ∃ a, Plc W bs ((s j : Nat) : Int) a ∧ wb bs a ((s j : Nat) : Int) = cs := fun n => by
      induction n with
      | zero =>
        intro h
        obtain ⟨a, ha, na⟩ := ex
        have := h a ha
        rw [List.take_zero, List.append_nil] at this
        exact absurd this na
      | succ n ih =>
        intro h
        rcases Classical.em (∀ a, Plc W bs ((s j : Nat) : Int) a → wb bs a ((s j : Nat) : Int) ∈ ps ++ ns.take n) with z | z
        · exact ih z
        · have : ∃ a, Plc W bs ((s j : Nat) : Int) a ∧ wb bs a ((s j : Nat) : Int) ∉ ps ++ ns.take n := Classical.byContradiction fun no => z fun a ha => Classical.byContradiction fun q => no ⟨a, ha, q⟩
          obtain ⟨a, ha, na⟩ := this
          have ina := h a ha
          rw [List.take_add_one, ← List.append_assoc] at ina
          rcases List.mem_append.mp ina with q | q
          · exact absurd q na
          · cases e : ns[n]? with
            | none => rw [e] at q; cases q
            | some cs =>
              rw [e] at q
              exact ⟨n, cs, e, h, a, ha, List.mem_singleton.mp q⟩
    obtain ⟨i, cs, e, h1, h2⟩ := key ns.length fun a ha => by
      rw [List.take_length]
      rcases Classical.em (wb bs a ((s j : Nat) : Int) ∈ ps) with z | z
      · exact List.mem_append_left _ z
      · exact List.mem_append_right _ (new _ (g.put c hj lim ha) (h a ha) z)
    exact ⟨i, cs, .gt ((s j : Nat) : Int), e, j, hj, rfl, lim, h1, h2⟩
  · have hn2 : ct bs b.1 ∈ ns := new _ g.cut h fun q => nl (.inr ⟨b, hb, ((hp _).mp q).2⟩)
    obtain ⟨i, hi, e⟩ := List.getElem_of_mem hn2
    exact ⟨i, ct bs b.1, .fr b.1, by rw [List.getElem?_eq_getElem hi, e], b, hb, rfl, rfl⟩
end
/-! ### keys of states with a size -/
theorem putK_old_len {κ : Type} [DecidableEq κ] {kvs : List (κ × V)} {k : κ} {v : V} (h : (valV kvs k).isSome = true) : (putK kvs k v).length = kvs.length := by
  unfold putK
  rw [valV_any, if_pos h, List.length_map]
end Ph

set_option maxHeartbeats 4000000
/-! PhGs: the settings of the games' laws: written chains with numbers; what has to be checked of them. -/
namespace Ph
open PySem PySem.Spec PyProof.Rows L2
def sqL (L : List Nat) (i : Nat) : Nat := L.getD i 0
def okSet (L : List Nat) (n : Nat) : Bool :=
  decide (1 ≤ L.length) && decide (sqL L 0 = 1) && (List.range (L.length - 1)).all (fun i => decide (2 ≤ sqL L (i + 1) / sqL L i ∧ sqL L (i + 1) / sqL L i ≤ 1000 ∧ sqL L (i + 1) = sqL L i * (sqL L (i + 1) / sqL L i))) &&
  decide (sqL L (L.length - 1) ≤ 12 ∧ L.length ≤ 6 ∧ n * sqL L (L.length - 1) ≤ 12 ∧ n ≤ 12) && (List.range L.length).all (fun i => decide (cst (sqL L) i ≤ 20000)) && decide (cst (sqL L) (L.length - 1) ^ n ≤ 20000)
theorem sqL_tl (L : List Nat) : L.map (fun i : Nat => (i : Int)) = tl (sqL L) L.length := by
  unfold tl
  refine List.ext_getElem (by simp) fun i h1 h2 => ?_
  rw [List.length_map] at h1
  rw [List.getElem_map, List.getElem_map, List.getElem_range]
  unfold sqL
  rw [List.getD_eq_getElem?_getD, List.getElem?_eq_getElem h1]
  rfl
theorem set_ok {L : List Nat} {n : Nat} (h : okSet L n = true) : ∃ s p, L.map (fun i : Nat => (i : Int)) = tl s (p + 1) ∧ Cn s p 12 ∧ Sml s p n := by
  unfold okSet at h
  simp only [Bool.and_eq_true, List.all_eq_true, List.mem_range, decide_eq_true_eq] at h
  obtain ⟨⟨⟨⟨⟨h1, h2⟩, h3⟩, h4, h5, h6, h7⟩, h8⟩, h9⟩ := h
  have e : L.length - 1 + 1 = L.length := by omega
  refine ⟨sqL L, L.length - 1, by rw [e]; exact sqL_tl L, ⟨⟨h2, fun i hi => ?_⟩, fun i hi => ?_, h4⟩, ⟨h6, fun i hi => h8 i (by omega), h9, by omega, h4, h7⟩⟩
  · obtain ⟨a, b, c⟩ := h3 i (by omega)
    exact ⟨_, by omega, c⟩
  · obtain ⟨a, b, c⟩ := h3 i hi
    exact ⟨_, a, b, c⟩
def SetF (S : List (List Nat × List Nat)) (H : Hp) (x : V) : Prop := ∃ T c L zs, x = .ref T ∧ H T = some (.tup (.ref c :: zs.map fun z : Nat => V.int (z : Int))) ∧ ChAt H c (L.map fun i : Nat => (i : Int)) ∧ (L, zs) ∈ S
theorem SetF.kt {S : List (List Nat × List Nat)} {H H' : Hp} {x : V} (h : SetF S H x) (k : Kt H H') : SetF S H' x := by
  obtain ⟨T, c, L, z, e, hT, hc, d⟩ := h
  exact ⟨T, c, L, z, e, k.kpT _ _ hT, k.ch hc, d⟩
theorem setF_new {H : Hp} {a b : Addr} {o : Obj} {xs ys : List V} (n : H a = none) (od : o.dict = none) (m : upd H a (.frz o (.tup xs)) b = none) (S : List (List Nat × List Nat)) (L zs : List Nat) (d : (L, zs) ∈ S) (ex : xs = (L.map fun i : Nat => (i : Int)).map V.int) (ey : ys = .ref a :: zs.map fun z : Nat => V.int (z : Int)) :
    Same H (upd (upd H a (.frz o (.tup xs))) b (.tup ys)) ∧ SetF S (upd (upd H a (.frz o (.tup xs))) b (.tup ys)) (.ref b) := by
  subst ex
  subst ey
  exact ⟨Same.trans (same_upd n) (same_upd m), b, a, L, zs, rfl, upd_same, ⟨o, od, same_upd m _ _ upd_same⟩, d⟩
theorem bfn_le {s : Nat → Nat} {p M m n : Nat} (cn : Cn s p m) (sml : Sml s p n) (hM : M ≤ 100) : bfn s (fun _ => 0) M p ≤ 1000 := by
  have B := bd_bfn s (p + 1) M
  have := B.ub cn.ch (S := 12) (fun j hj => Nat.le_trans (cn.ch.mono (i := j) (j := p) (by omega) (by omega)) sml.z) p (by omega)
  have p5 := sml.q
  have h1 : (p + 1) * M ≤ 6 * 100 := Nat.mul_le_mul (by omega) hM
  have h2 : p * 12 ≤ 60 := by omega
  omega
end Ph

set_option maxHeartbeats 4000000
/-! PhSpt: places as the laws name them (Spot), the lowest place within the outlook (Out.low), frames of draws. -/
namespace Ph
open PySem PySem.Spec PyProof.Rows L2
structure Spot (z : Int) (bs : List Bk) (W x : Int) : Prop where
  mod : x % z = 0
  pos : 0 ≤ x
  fit : x + z ≤ W
  free : ∀ b ∈ bs, x + z ≤ b.1 ∨ b.1 + b.2 ≤ x
theorem Spot.plc {z W x : Int} {bs : List Bk} (h : Spot z bs W x) : Plc W bs z x := ⟨h.pos, h.mod, h.fit, fun b hb => (h.free b hb).symm⟩
theorem Spot.of {z W x : Int} {bs : List Bk} (h : Plc W bs z x) : Spot z bs W x := ⟨h.2.1, h.1, h.2.2.1, fun b hb => (h.2.2.2 b hb).symm⟩
def TqF (H : Hp) (a : Addr) (xs : List V) : Prop := H a = some (.tup xs) ∨ ∃ o, H a = some (.frz o (.tup xs))
theorem TqF.sq {K : PySem.W.Frag} {H : Hp} {a : Addr} {xs : List V} (h : TqF H a xs) : SqT K H a xs := .inl h
theorem TqF.same {H H' : Hp} {a : Addr} {xs : List V} (h : TqF H a xs) (s : Same H H') : TqF H' a xs := h.imp (s _ _) fun ⟨o, e⟩ => ⟨o, s _ _ e⟩
theorem TqF.ne {H : Hp} {a q : Addr} {xs : List V} {c : Nat} (h : TqF H a xs) (hq : Dr c H q) : a ≠ q := h.elim (fun e => hq.netup e) fun ⟨_, e⟩ => hq.nefrz e
theorem ChAt.tq {H : Hp} {c : Addr} {C : List Int} (h : ChAt H c C) : TqF H c (C.map V.int) := let ⟨o, _, e⟩ := h; .inr ⟨o, e⟩
theorem but_ktD {H H' : Hp} {q : Addr} {cn : Nat} (hq : Dr cn H q) (b : But q H H') : Kt H H' := fun a o e _ n => b a o (fun z => by
  obtain ⟨g, r, l, h, _⟩ := hq
  rw [z, h] at e
  exact n _ (Option.some.inj e).symm) e
theorem cutV_mem {xs : List V} {lo hi : Option Int} {x : V} (h : x ∈ cutV xs lo hi) : x ∈ xs := by
  unfold cutV at h
  exact List.mem_of_mem_drop (List.mem_of_mem_take h)
theorem Out.low {s : Nat → Nat} {p M m j : Nat} {W : Int} {bs : List Bk} (cn : Cn s p m) (hW : 0 ≤ W) (h : Out s p M W bs) (hj : j ≤ p) (l : totB bs + ((s j : Nat) : Int) ≤ M) : ∃ x, LowP ((s j : Nat) : Int) bs W x ∧ Out s p M W (wb bs x ((s j : Nat) : Int)) := by
  obtain ⟨g, h⟩ := h
  have zp := cn.ch.pos (i := j) (by omega)
  obtain ⟨ρ, hρ⟩ := Rho.ex g.st
  obtain ⟨x, r, ex⟩ := has_place (W := W) cn.ch (i := j) (by omega) hW g.st hρ l (h ρ hρ)
  have lp := lowp_of (by omega) hW g.st ex
  have pl : Plc W bs ((s j : Nat) : Int) x := ⟨lp.pos, lp.mod, lp.fit, fun b hb => (lp.free b hb).symm⟩
  have gp := g.put cn.ch hj l pl
  refine ⟨x, lp, gp, fun ρ' h' => ?_⟩
  obtain ⟨n, ex, en⟩ := lp.ends cn.ch hj g.st hρ l
  have := get_outlook cn hj g.st hρ gp.st h' ex en (ins_perm _ _) p (Nat.le_refl _)
  have := h ρ hρ
  omega
theorem Out.nil {s : Nat → Nat} {p M m : Nat} (cn : Cn s p m) {W : Int} (hW : ((bfn s (fun _ => 0) M p : Nat) : Int) ≤ W) : Out s p M W [] := ⟨Gst.nil, fun ρ hρ => by
  have := bfn_mono (M := M) (M' := M) cn.ch (ρ := fun _ => 0) (ρ' := ρ) (fun i hi => by
    have h1 := hρ.at_ (show i ≤ p by omega)
    have h2 := (Rho.nil s p).at_ (show i ≤ p by omega)
    rw [h1] at h2
    omega) (Nat.le_refl _) p (by omega)
  omega⟩
theorem Out.mono {s : Nat → Nat} {p M : Nat} {W W' : Int} {bs : List Bk} (h : Out s p M W bs) (le : W ≤ W') : Out s p M W' bs :=
  ⟨⟨⟨fun b hb => by
    obtain ⟨h1, h2, h3, h4, h5⟩ := h.1.st.ok b hb
    exact ⟨h1, h2, h3, h4, by omega⟩, h.1.st.asc⟩, h.1.lim⟩, fun ρ hρ => Int.le_trans (h.2 ρ hρ) le⟩
section
variable {X : Cx}
def rSlF : V → Option Int → Option Int → Hp → VK → Prop := fun x lo hi H Q => ∃ a xs, x = .ref a ∧ TqF H a xs ∧ ∀ p H', Same H H' → TqF H' p (cutV xs lo hi) → Q (.ref p) H'
theorem sl_tupF : SlR X rSlF := by
  intro pins s σ H x v vl vu lo hi sl Q I rx hs pl pu h
  obtain ⟨a, xs, rfl, hx, q⟩ := h
  exact sl_tupA pins s σ H _ v vl vu lo hi sl Q I rx hs pl pu ⟨a, xs, rfl, hx.sq, fun hw => q a H (Same.refl H) (by rw [cutv_whole hw]; exact hx), fun _ p np => q p _ (same_upd np) (.inl upd_same)⟩
def rCatG : R2 := fun x y H Q => ∃ a b xs ys, x = .ref a ∧ y = .ref b ∧ TqF H a xs ∧ TqF H b ys ∧ xs.length + ys.length ≤ 1000 ∧ ∀ p H', Same H H' → TqF H' p (xs ++ ys) → Q (.ref p) H'
theorem op_catG : OpR X (binaryOp .Add) rCatG := by
  intro pins s σ H x y v u Q I rx ry h
  obtain ⟨a, b, xs, ys, rfl, rfl, ha, hb, hz, q⟩ := h
  refine op_catA pins s σ H _ _ v u Q I rx ry ⟨a, b, xs, ys, rfl, rfl, ha.sq, hb.sq, Nat.le_trans hz (by decide), fun e => q b H (Same.refl H) (by rw [e]; exact hb), fun _ e => q a H (Same.refl H) (by rw [e, List.append_nil]; exact ha), fun _ _ p np => q p _ (same_upd np) (.inl upd_same)⟩
end
theorem set_at {L : List Nat} {n : Nat} (h : okSet L n = true) : L.map (fun i : Nat => (i : Int)) = tl (sqL L) (L.length - 1 + 1) ∧ Cn (sqL L) (L.length - 1) 12 ∧ Sml (sqL L) (L.length - 1) n := by
  unfold okSet at h
  simp only [Bool.and_eq_true, List.all_eq_true, List.mem_range, decide_eq_true_eq] at h
  obtain ⟨⟨⟨⟨⟨h1, h2⟩, h3⟩, h4, h5, h6, h7⟩, h8⟩, h9⟩ := h
  have e : L.length - 1 + 1 = L.length := by omega
  refine ⟨by rw [e]; exact sqL_tl L, ⟨⟨h2, fun i hi => ?_⟩, fun i hi => ?_, h4⟩, ⟨h6, fun i hi => h8 i (by omega), h9, by omega, h4, h7⟩⟩
  · obtain ⟨a, b, c⟩ := h3 i (by omega)
    exact ⟨_, by omega, c⟩
  · obtain ⟨a, b, c⟩ := h3 i hi
    exact ⟨_, a, b, c⟩
/-! ### so few states -/
theorem flat3_len {α : Type} {f : Nat → List α} {g : Nat → α → α} : ∀ m, (∀ i, i < m → (f i).length ≤ 3 ^ i) → 2 * ((List.range m).flatMap fun i => (f i).map (g i)).length + 1 ≤ 3 ^ m
  | 0, _ => by simp
  | m + 1, h => by
    have ih := flat3_len (g := g) m fun i hi => h i (by omega)
    have hm := h m (by omega)
    rw [List.range_succ, List.flatMap_append, List.length_append, List.flatMap_cons, List.flatMap_nil, List.append_nil, List.length_map, Nat.pow_succ]
    omega
theorem from_list {C : List Int} {W : Int} (n : Nat) : ∃ bss : List (List Bk), (0 ≤ W - n → ∀ bs, From C W (W - n) bs → bs ∈ bss) ∧ bss.length ≤ 3 ^ n := by
  induction n using Nat.strongRecOn with
  | _ n ih =>
    cases n with
    | zero => exact ⟨[[]], fun _ bs h => by
        have h : From C W W bs := by have e : W - ((0 : Nat) : Int) = W := by omega
                                     rw [e] at h; exact h
        rw [from_end.mp h]; exact List.mem_singleton.mpr rfl, by simp⟩
    | succ n =>
      have ex : ∀ i : Nat, ∃ bss : List (List Bk), i < n + 1 → (0 ≤ W - i → ∀ bs, From C W (W - i) bs → bs ∈ bss) ∧ bss.length ≤ 3 ^ i := fun i => by
        rcases Nat.lt_or_ge i (n + 1) with h | h
        · obtain ⟨b, hb⟩ := ih i h
          exact ⟨b, fun _ => hb⟩
        · exact ⟨[], fun z => absurd z (by omega)⟩
      obtain ⟨f, hf⟩ := Classical.axiomOfChoice ex
      obtain ⟨g, hg⟩ : ∃ g : Nat → List Bk → List Bk, g = fun i r => (W - ((n + 1 : Nat) : Int), ((n + 1 - i : Nat) : Int)) :: r := ⟨_, rfl⟩
      have fl := flat3_len (f := f) (g := g) (n + 1) fun i hi => (hf i hi).2
      refine ⟨f n ++ (List.range (n + 1)).flatMap fun i => (f i).map (g i), fun hW bs h => ?_, ?_⟩
      · rw [List.mem_append]
        rcases (from_step hW).mp h with h | ⟨z, r, hz, z1, hm, hz2, hr, rfl⟩
        · refine .inl ((hf n (by omega)).1 (by omega) bs ?_)
          have e : W - ((n : Nat) : Int) = W - ((n + 1 : Nat) : Int) + 1 := by omega
          rw [e]
          exact h
        · refine .inr (List.mem_flatMap.mpr ⟨n + 1 - z.toNat, List.mem_range.mpr (by omega), List.mem_map.mpr ⟨r, (hf _ (by omega)).1 (by omega) r ?_, ?_⟩⟩)
          · have e : W - ((n + 1 - z.toNat : Nat) : Int) = W - ((n + 1 : Nat) : Int) + z := by omega
            rw [e]
            exact hr
          · have e : ((n + 1 - (n + 1 - z.toNat) : Nat) : Int) = z := by omega
            rw [hg]
            dsimp only
            rw [e]
      · rw [List.length_append]
        have := (hf n (by omega)).2
        rw [Nat.pow_succ] at fl ⊢
        omega
theorem gst_list {s : Nat → Nat} {p M W : Nat} (hW : W ≤ 12) : ∃ bss : List (List Bk), (∀ bs, Gst s p M (W : Int) bs → bs ∈ bss) ∧ bss.length ≤ 531441 ∧ bss.length ≤ 3 ^ W := by
  obtain ⟨bss, h1, h2⟩ := from_list (C := tl s (p + 1)) (W := (W : Int)) W
  refine ⟨bss, fun bs g => h1 (by omega) bs ⟨g.st, fun b hb => ?_⟩, Nat.le_trans h2 (Nat.le_trans (Nat.pow_le_pow_right (by decide) hW) (by decide)), h2⟩
  have := (g.st.ok b hb).2.2.1
  omega
end Ph

set_option maxHeartbeats 4000000
/-! PhHs: all states of a small heap as a list that can be computed; their hashes. -/
namespace Ph
open PySem PySem.Spec PyProof.Rows L2
/-- Python's hash of a state -/
def hashB (b : Bk) : Int := PySem.reduceHash (PySem.Builtin.Tuple.tupleHashOf [PySem.hashInt b.1, PySem.hashInt b.2])
def hashS (bs : List Bk) : Int := PySem.reduceHash (PySem.Builtin.Tuple.tupleHashOf (bs.map hashB))
theorem hash_skey (w : World) (bs : List Bk) : (skey bs).hash w = hashS bs := by
  have key : ∀ l : List Bk, NestedKey.hashes w (l.map bkey) = l.map hashB := fun l => by
    induction l with
    | nil => rfl
    | cons b r ih => rw [List.map_cons, List.map_cons, NestedKey.hashes, ih]; rfl
  unfold skey hashS
  rw [NestedKey.hash, key]
def nextL (C : List Int) (W : Int) (n : Nat) (t : List (List (List Bk))) : List (List Bk) :=
  t.headD [] ++ C.flatMap fun z => if 1 ≤ z ∧ z ≤ ((n + 1 : Nat) : Int) ∧ (W - ((n + 1 : Nat) : Int)) % z = 0 then (t.getD (z.toNat - 1) []).map fun r => (W - ((n + 1 : Nat) : Int), z) :: r else []
def tabL (C : List Int) (W : Int) : Nat → List (List (List Bk))
  | 0 => [[[]]]
  | n + 1 => nextL C W n (tabL C W n) :: tabL C W n
def stL (C : List Int) (W : Nat) : List (List Bk) := (tabL C W W).headD []
theorem tab_len (C : List Int) (W : Int) : ∀ n, (tabL C W n).length = n + 1
  | 0 => rfl
  | n + 1 => by show (tabL C W n).length + 1 = _; rw [tab_len C W n]
theorem tab_mem {C : List Int} {W : Int} : ∀ (n k : Nat), k ≤ n → 0 ≤ W - n → ∀ bs, From C W (W - k) bs → bs ∈ (tabL C W n).getD (n - k) []
  | 0, k, hk, hW, bs, h => by
    obtain rfl : k = 0 := by omega
    have e : W - ((0 : Nat) : Int) = W := by omega
    rw [e] at h
    rw [from_end.mp h]
    exact List.mem_singleton.mpr rfl
  | n + 1, k, hk, hW, bs, h => by
    rcases Nat.lt_or_ge k (n + 1) with w | w
    · have ih := tab_mem (C := C) (W := W) n k (by omega) (by omega) bs h
      have e : n + 1 - k = (n - k) + 1 := by omega
      rw [e]
      exact ih
    · obtain rfl : k = n + 1 := by omega
      rw [Nat.sub_self]
      show bs ∈ nextL C W n (tabL C W n)
      unfold nextL
      rw [List.mem_append]
      rcases (from_step hW).mp h with h | ⟨z, r, hz, z1, hm, hz2, hr, rfl⟩
      · left
        have ih := tab_mem (C := C) (W := W) n n (Nat.le_refl _) (by omega) bs (by
          have e : W - ((n : Nat) : Int) = W - ((n + 1 : Nat) : Int) + 1 := by omega
          rw [e]
          exact h)
        rw [Nat.sub_self] at ih
        cases ht : tabL C W n with
        | nil => rw [ht] at ih; cases ih
        | cons a t => rw [ht] at ih; exact ih
      · right
        refine List.mem_flatMap.mpr ⟨z, hz, ?_⟩
        rw [if_pos ⟨z1, by omega, hm⟩]
        refine List.mem_map.mpr ⟨r, ?_, rfl⟩
        have ih := tab_mem (C := C) (W := W) n (n + 1 - z.toNat) (by omega) (by omega) r (by
          have e : W - ((n + 1 - z.toNat : Nat) : Int) = W - ((n + 1 : Nat) : Int) + z := by omega
          rw [e]
          exact hr)
        have e : n - (n + 1 - z.toNat) = z.toNat - 1 := by omega
        rw [e] at ih
        exact ih
theorem st_all {C : List Int} {W : Nat} {bs : List Bk} (st : St C (W : Int) bs) : bs ∈ stL C W := by
  have := tab_mem W W (Nat.le_refl _) (by omega) bs ⟨st, fun b hb => by have := (st.ok b hb).2.2.1; omega⟩
  rw [Nat.sub_self] at this
  unfold stL
  cases ht : tabL C (W : Int) W with
  | nil => rw [ht] at this; cases this
  | cons a t => rw [ht] at this; exact this
/-- where the hashes of all states differ, those of some do -/
theorem hash_nodup {C : List Int} {W : Nat} (h : ((stL C W).map hashS).Nodup) {bss : List (List Bk)} (nd : bss.Nodup) (st : ∀ bs ∈ bss, St C (W : Int) bs) : (bss.map hashS).Nodup := by
  refine List.pairwise_map.mpr (nd.imp_of_mem fun {a b} ha hb ne e => ne ?_)
  have ma := st_all (st a ha)
  have mb := st_all (st b hb)
  obtain ⟨i, hi, ei⟩ := List.getElem_of_mem ma
  obtain ⟨j, hj, ej⟩ := List.getElem_of_mem mb
  have := (List.getElem_inj (i := i) (j := j) (h₀ := by rw [List.length_map]; exact hi) (h₁ := by rw [List.length_map]; exact hj) h).mp (by rw [List.getElem_map, List.getElem_map, ei, ej, e])
  subst this
  rw [← ei, ej]
/-- no two states of these settings have one hash -/
def okHash (L : List Nat) (n : Nat) : Bool := decide ((stL (L.map fun i : Nat => (i : Int)) (n * sqL L (L.length - 1))).map hashS).Nodup
end Ph

set_option maxHeartbeats 4000000
/-! PhRb: comprehensions whose items hold lists; tables of states put together without a key twice; lists of lists of states. -/
namespace Ph
open PySem PySem.Spec PyProof.Rows L2
theorem but_ktL {H H' : Hp} {G : Addr} {xs : List V} (hd : H G = some (.lst xs)) (b : But G H H') : Kt H H' := fun a o e _ n => b a o (fun z => by rw [z, hd] at e; exact n _ (Option.some.inj e).symm) e
/-- a comprehension with a test; R tells of each item that stays, by its turn; items may hold lists -/
theorem lc_RFB {J : It} {n : Nat} {G : Hp → Prop} {Y : Nat → Hp → V → Hp → Prop} (w : Walk J n G Y) (hY : ∀ i H x H', Y i H x H' → Same H H') {g : TG} {tt : TT} {te : TE} {vs : List Nat} {σ : L2.St} {H1 : Hp} {D : Addr} {Qd : Hp → Prop}
    (p : Nat → Bool) (R : Hp → Nat → V → Prop) (mono : ∀ H H' i y, Kt H H' → But D H H' → R H i y → R H' i y) (nD : H1 D = none) (hlen : n < sizeLine) (hG : ∀ H, Same H1 H → G H)
    (hs : ∀ i x H H', i < n → Same H1 H → (∃ l, H D = some (.lst l)) → Y i H x H' → ∀ (Z : V → Hp → Prop) (N : Hp → Prop), (∀ y H4, Same H' H4 → p i = true → R H4 i y → Z y H4) → (∀ H4, Same H' H4 → p i = false → N H4) →
      g x (wipe σ vs) H' fun σ2 H2 => wipe σ2 vs = wipe σ vs ∧ tt σ2 H2 fun b H3 => if b = true then te σ2 H3 Z else N H3)
    (hd : ∀ H ys, Same H1 H → H D = some (.lst ys) → Paired (R H) ((List.range n).filter p) ys → Qd H) :
    ∃ W : Nat → Nat → Hp → Prop, (∃ m, W 0 m (upd H1 D (.lst []))) ∧ ∀ i m H, W i m H →
      (J.stop i H ∧ Qd H) ∨ (J.go i H ∧ ∃ Nx : Hp → Prop, (∀ H', Nx H' → ∃ m', m' < m ∧ W (i + 1) m' H') ∧ ∀ x H', J.yld i H x H' → g x (wipe σ vs) H' fun σ2 H2 => wipe σ2 vs = wipe σ vs ∧ tt σ2 H2 fun b H3 =>
        if b = true then te σ2 H3 fun y H4 => ∃ acc, H4 D = some (.lst acc) ∧ acc.length < sizeLine ∧ Nx (upd H4 D (.lst (acc ++ [y]))) else Nx H3) := by
  refine lc_it w (fun i H => Same H1 H ∧ ∃ ys, H D = some (.lst ys) ∧ Paired (R H) ((List.range i).filter p) ys) ⟨same_upd nD, [], upd_same, .nil⟩ (fun i H _ q => hG H q.1) (fun i x H H' hi q y => ?_) (fun H q => ?_)
  · obtain ⟨sm, ys, hD, pr⟩ := q
    have s' := hY _ _ _ _ y
    have hlen2 : ys.length < sizeLine := by
      have h1 := pr.length
      have h2 := List.length_filter_le p (List.range i)
      rw [List.length_range] at h2
      omega
    refine hs i x H H' hi sm ⟨ys, hD⟩ y _ _ (fun y H4 s4 pi r4 => ?_) (fun H4 s4 pi => ?_)
    · have hD4 := s4 _ _ (s' _ _ hD)
      have kt := kt_upd (ys := ys ++ [y]) hD4
      have bt : But D H4 (upd H4 D (.lst (ys ++ [y]))) := fun a o ne e => by rw [upd_ne ne]; exact e
      have s14 := s'.trans s4
      refine ⟨ys, hD4, hlen2, fun b o e => bt b o (ne_of_none e nD) (s14 _ _ (sm _ _ e)), ys ++ [y], upd_same, ?_⟩
      rw [List.range_succ, List.filter_append, List.filter_cons_of_pos (by simpa using pi)]
      exact Paired.snoc (paired_imp (fun a b h => mono _ _ _ _ kt bt (mono _ _ _ _ (Same.kt s14) (Same.but s14) h)) pr) (mono _ _ _ _ kt bt r4)
    · have s14 := s'.trans s4
      refine ⟨sm.trans s14, ys, s14 _ _ hD, ?_⟩
      rw [List.range_succ, List.filter_append, List.filter_cons_of_neg (by simp [pi]), List.filter_nil, List.append_nil]
      exact paired_imp (fun a b h => mono _ _ _ _ (Same.kt s14) (Same.but s14) h) pr
  · obtain ⟨sm, ys, hD, pr⟩ := q
    exact hd H ys sm hD pr
theorem lc_RB {J : It} {n : Nat} {G : Hp → Prop} {Y : Nat → Hp → V → Hp → Prop} (w : Walk J n G Y) (hY : ∀ i H x H', Y i H x H' → Same H H') {g : TG} {te : TE} {vs : List Nat} {σ : L2.St} {H1 : Hp} {D : Addr} {Qd : Hp → Prop}
    (R : Hp → Nat → V → Prop) (mono : ∀ H H' i y, Kt H H' → But D H H' → R H i y → R H' i y) (nD : H1 D = none) (hlen : n < sizeLine) (hG : ∀ H, Same H1 H → G H)
    (hs : ∀ i x H H', i < n → Same H1 H → (∃ l, H D = some (.lst l)) → Y i H x H' → ∀ (Z : V → Hp → Prop), (∀ y H4, Same H' H4 → R H4 i y → Z y H4) →
      g x (wipe σ vs) H' fun σ2 H2 => wipe σ2 vs = wipe σ vs ∧ te σ2 H2 Z)
    (hd : ∀ H ys, Same H1 H → H D = some (.lst ys) → Paired (R H) (List.range n) ys → Qd H) :
    ∃ W : Nat → Nat → Hp → Prop, (∃ m, W 0 m (upd H1 D (.lst []))) ∧ ∀ i m H, W i m H →
      (J.stop i H ∧ Qd H) ∨ (J.go i H ∧ ∃ Nx : Hp → Prop, (∀ H', Nx H' → ∃ m', m' < m ∧ W (i + 1) m' H') ∧ ∀ x H', J.yld i H x H' → g x (wipe σ vs) H' fun σ2 H2 => wipe σ2 vs = wipe σ vs ∧ tYes σ2 H2 fun b H3 =>
        if b = true then te σ2 H3 fun y H4 => ∃ acc, H4 D = some (.lst acc) ∧ acc.length < sizeLine ∧ Nx (upd H4 D (.lst (acc ++ [y]))) else Nx H3) :=
  lc_RFB w hY (fun _ => true) R mono nD hlen hG (fun i x H H' hi sm hl y Z N hZ hN => hs i x H H' hi sm hl y Z fun y H4 s4 r => hZ y H4 s4 rfl r)
    (fun H ys sm hD pr => hd H ys sm hD (by
      have e : (List.range n).filter (fun _ => true) = List.range n := List.filter_eq_self.mpr fun _ _ => rfl
      rw [e] at pr
      exact pr))
/-! ### new keys alone -/
theorem valV_notin {xs : List KAV} {k : NestedKey} (h : k ∉ xs.map (·.1)) : valV (xs.map kv2) k = none := by
  cases e : valV (xs.map kv2) k with
  | none => rfl
  | some v =>
    obtain ⟨x, hx, ex, _⟩ := valV_mem2 e
    exact absurd (List.mem_map.mpr ⟨x, hx, ex⟩) h
theorem putAllX_nd : ∀ {es xs : List KAV}, ((xs ++ es).map (·.1)).Nodup → putAllX xs es = xs ++ es
  | [], xs, _ => by rw [List.append_nil]; rfl
  | e :: es, xs, nd => by
    have n1 : e.1 ∉ xs.map (·.1) := by
      rw [List.map_append, List.map_cons] at nd
      intro h
      exact (List.pairwise_append.mp nd).2.2 _ h _ List.mem_cons_self rfl
    have e1 := putX_new (b := e.2.1) (v := e.2.2) (valV_notin n1)
    show putAllX (putX xs e.1 e.2.1 e.2.2) es = _
    rw [e1, show (e.1, e.2.1, e.2.2) = e from rfl, putAllX_nd (by rw [List.append_assoc]; exact nd), List.append_assoc]
    rfl
theorem InK.iff {xs : List KAV} {bs : List Bk} (nd : (xs.map (·.1)).Nodup) : InK xs bs ↔ ∃ x ∈ xs, x.1 = skey bs := ⟨InK.mem, fun ⟨_, hx, e⟩ => InK.of nd hx e⟩
/-! ### data of lists of states -/
def lotD (l : List (List Bk)) : PyData := .list (l.map stD)
theorem lotDs_lay : ∀ zs : List (List (List Bk)), PyData.canLayAll0 (zs.map lotD) = true
  | [] => by simp [PyData.canLayAll0]
  | z :: zs => by
    have h : (lotD z).canLay0 = true := by unfold lotD; simp only [PyData.canLay0]; exact stDs_lay z
    simp only [List.map_cons, PyData.canLayAll0, h, lotDs_lay zs, Bool.and_self]
theorem lotDs_depth : ∀ zs : List (List (List Bk)), PyData.depthAll (zs.map lotD) ≤ 3
  | [] => by simp [PyData.depthAll]
  | z :: zs => by
    have h1 := lotDs_depth zs
    have h2 : (lotD z).depth ≤ 3 := by
      have := stDs_depth z
      unfold lotD
      simp only [PyData.depth]
      omega
    simp only [List.map_cons, PyData.depthAll]
    omega
theorem lotDs_shaped (zs : List (List (List Bk))) : SeqAt.shaped (.list (zs.map lotD)) = true := by
  have h1 := lotDs_depth zs
  have h2 : PyData.depth (.list (zs.map lotD)) ≤ 64 := by simp only [PyData.depth]; omega
  have h3 : PyData.canLay0 (.list (zs.map lotD)) = true := by simp only [PyData.canLay0]; exact lotDs_lay zs
  show (PyData.canLay0 (.list (zs.map lotD)) && decide (PyData.depth (.list (zs.map lotD)) ≤ 64)) = true
  rw [h3, decide_eq_true h2]
  rfl
theorem lotDs_nil (zs : List (List (List Bk))) : PyData.eqv (.list (zs.map lotD)) (.list []) = decide (zs = []) := by
  cases zs with
  | nil => simp [PyData.eqv, PyData.eqvAll]
  | cons z zs => simp [PyData.eqv, PyData.eqvAll]
end Ph

set_option maxHeartbeats 4000000
/-! PhLt: the order of states; sorted with its order; `<` of data. -/
namespace Ph
open PySem PySem.Calls PyProof.V PySem.Spec PyProof.Rows L2 PySem.W SeqAt
/-- the order of states -/
def stLt (a b : List Bk) : Bool := PySem.W.dataLt (stD a) (stD b)
theorem stLt_irr (a : List Bk) : stLt a a = false := PySem.W.dataLt_self _
theorem dLt_trans {x y z : PyData} (h1 : PySem.W.dataLt x y = true) (h2 : PySem.W.dataLt y z = true) : PySem.W.dataLt x z = true := PyProof.Rows.lex_trans _ _ _ h1 h2
theorem dLt_neg {x y z : PyData} (h : PySem.W.dataLt x z = true) : PySem.W.dataLt x y = true ∨ PySem.W.dataLt y z = true := PyProof.Rows.lex_negTrans _ _ _ h
theorem dLt_asym {x y : PyData} (h : PySem.W.dataLt x y = true) : PySem.W.dataLt y x = false := by
  cases e : PySem.W.dataLt y x with
  | false => rfl
  | true => have := dLt_trans h e; rw [PySem.W.dataLt_self] at this; cases this
theorem mergeS_pairwise {α : Type} (f : α → PyData) (xs : List α) : (xs.mergeSort (dataLe false f)).Pairwise fun x y => PySem.W.dataLt (f y) (f x) = false := by
  have e : dataLe false f = fun a b => !PySem.W.dataLt (f b) (f a) := PySem.W.dataLe_eq false f
  have := List.pairwise_mergeSort (le := dataLe false f) (fun a b c h1 h2 => by
    rw [e] at h1 h2 ⊢
    simp only [Bool.not_eq_true'] at h1 h2 ⊢
    cases q : PySem.W.dataLt (f c) (f a) with
    | false => rfl
    | true =>
      rcases dLt_neg (y := f b) q with h | h
      · rw [h] at h2; cases h2
      · rw [h] at h1; cases h1) (fun a b => by
    rw [e]
    simp only [Bool.or_eq_true, Bool.not_eq_true']
    cases q : PySem.W.dataLt (f b) (f a) with
    | false => exact .inl rfl
    | true => exact .inr (dLt_asym q)) xs
  refine this.imp fun {a b} h => ?_
  rw [e] at h
  simpa using h
theorem toks_same {x y : PyData} (al : PySem.W.alike x y = true) (e : PySem.W.keyToks x = PySem.W.keyToks y) : PyData.eqv x y = true := by
  cases q : PyData.eqv x y with
  | true => rfl
  | false =>
    have h := (PySem.W.toks_eqv x y al).2 q [] [Sum.inl 1]
    rw [e] at h
    rw [PySem.W.lex_pre, PyProof.Rows.lex_irrefl] at h
    exact h.symm
theorem stD_alike (a b : List Bk) : PySem.W.alike (stD a) (stD b) = true := by
  unfold stD
  simp only [PySem.W.alike]
  exact bDs_alike _ _
theorem eqv_bDs : ∀ a b : List Bk, PyData.eqvAll (a.map bD) (b.map bD) = true → a = b
  | [], [], _ => rfl
  | [], _ :: _, h => by simp [PyData.eqvAll] at h
  | _ :: _, [], h => by simp [PyData.eqvAll] at h
  | (x1, x2) :: xs, (y1, y2) :: ys, h => by
    rw [List.map_cons, List.map_cons, PySem.W.eqv_all_cons, Bool.and_eq_true] at h
    have := eqv_bDs xs ys h.2
    have h1 := h.1
    unfold bD at h1
    simp [PyData.eqv, PyData.eqvAll] at h1
    rw [this, h1.1, h1.2]
theorem stLt_tot {a b : List Bk} (ne : a ≠ b) (h : stLt b a = false) : stLt a b = true := by
  cases q : stLt a b with
  | true => rfl
  | false =>
    have e := toks_same (stD_alike a b) (PyProof.Rows.lex_total _ _ q h)
    unfold stD at e
    simp only [PyData.eqv] at e
    exact absurd (eqv_bDs a b e) ne
theorem srt_states {H : Hp} {ys : List V} {css : List (List Bk)} (h : StVs H ys css) (p : ys.Pairwise fun x y => PySem.W.dataLt (stD (stOf H y)) (stD (stOf H x)) = false) : css.Pairwise fun a b => stLt b a = false := by
  induction h with
  | nil => exact .nil
  | cons hx r ih =>
    obtain ⟨p1, p2⟩ := List.pairwise_cons.mp p
    refine List.pairwise_cons.mpr ⟨fun b hb => ?_, ih p2⟩
    obtain ⟨i, hi, ei⟩ := List.getElem_of_mem hb
    obtain ⟨y, hy, st⟩ := Paired.get2 r (b := b) (i := i) (by rw [List.getElem?_eq_getElem hi, ei])
    have := p1 y (List.mem_of_getElem? hy)
    rw [stOf_eq hx, stOf_eq st] at this
    exact this
def rLtD (K : PySem.W.Frag) : R2 := fun x y H Q => ∃ d e, Dp K H x d ∧ Dp K H y e ∧ PySem.W.alike d e = true ∧ d ≠ .none ∧ d.depth ≤ 64 ∧ Q (.bl (PySem.W.dataLt d e)) H
theorem op_ltD {X : Cx} (hu : X.A.units + 64 < cLine) : OpR X (compareOp .Lt) (rLtD X.K) := by
  intro pins s σ H x y v u Q I rx ry h
  obtain ⟨d, e, hd, he, al, nn, dp, q⟩ := h
  obtain ⟨as, r1⟩ := Dp.reads I d x v hd rx
  obtain ⟨bs, r2⟩ := Dp.reads I e y u he ry
  exact PySem.W.lt_data r1 r2 al nn (by have := Nat.min_le_left d.depth e.depth; omega) ⟨.bl _, H, I, rfl, q⟩
theorem cr_sortedXo {X : Cx} (hc : X.calm = true) (hu : X.A.units + 64 < cLine) : CallR X (.builtin "sorted") (fun vs H Q => ∃ d xs bss, vs = [V.ref d] ∧ KDr X.w H d xs ∧ StVs H (xs.map fun x => V.ref x.2.1) bss ∧
    ∀ ys css p, css.Perm bss → (css.Pairwise fun a b => stLt b a = false) → StVs H ys css → H p = none → Q (.ref p) (upd H p (.lst ys))) := by
  intro pins s σ H vs us Q I r h
  obtain ⟨d, kxs, bss, rfl, K, hb, q⟩ := h
  obtain rfl := Vals.ref1 r
  obtain ⟨o, es, ep, ho, hx, hdt, hsz, ent⟩ := kdr_raw I.hok K
  have ln := K.ln
  generalize hxs : (kxs.map fun x => V.ref x.2.1) = xs at *
  have xl : xs.length = kxs.length := by rw [← hxs, List.length_map]
  refine call_function_entry kind_sorted plain_sorted entry_sorted (args_sorted1 _) ?_
  unfold Builtin.«sorted»
  refine wpAny_bind (m := checkCount "sorted" 1 1 _) (wpAny_pure ?_)
  refine wpAny_bind (kdu_collect (A := X.A.in1) (kdl_raw K.sm hx hdt) (I.ok.hd hc) ho (by omega) fun h' tk acc hk it => ?_)
  have rv : Vals xs acc.toList := vals_of_at (by rw [xl, Array.length_toList]; exact hsz.symm.trans it.1.symm) fun j x u h1 h2 => by
    obtain ⟨en, hen, hv⟩ := it.2 j u (by rw [← Array.getElem?_toList]; exact h2)
    obtain ⟨e0, h3, h4, _⟩ := ent j en hen
    rw [← hxs, List.getElem?_map, h3] at h1
    cases h1
    rw [hv, h4]
    rfl
  generalize acc.toList = its at *
  have il : its.length = kxs.length := by rw [← rv.length, xl]
  have hL : its.length ≤ sizeLine := by omega
  refine wpAny_bind (wpAny_newList ?_ hL)
  have hob : (h'.push { cls := .type "list", data := .seq its.toArray }).get? h'.objs.size = some (seqObj "list" its.toArray 0) := Heap.get?_push_size _ rfl
  have kb : ∀ b o, s.heap.get? b = some o → (h'.push { cls := .type "list", data := .seq its.toArray }).get? b = some o := fun b o e => Heap.get?_push_of_some _ (hk b o e)
  have ne0 : ∀ b o, s.heap.get? b = some o → b ≠ h'.objs.size := fun b o e => Nat.ne_of_lt (Heap.lt_size (hk b o e))
  generalize (h'.push { cls := .type "list", data := .seq its.toArray }) = h2 at hob kb ⊢
  have key : ∀ x ∈ xs, ∃ bs, StV H x bs := fun x hx => by
    obtain ⟨i, hi, e⟩ := List.getElem_of_mem hx
    obtain ⟨b, _, st⟩ := Paired.get hb (i := i) (by rw [List.getElem?_eq_getElem hi, e])
    exact ⟨b, st⟩
  have hd : ∀ x ∈ xs, Dp X.K H x (stD (stOf H x)) := fun x hx => by
    obtain ⟨bs, t, rfl, st⟩ := key x hx
    rw [stOf_eq ⟨t, rfl, st⟩]
    exact st.dp
  have er := reads_each I rv hd
  have er2 : EachIs (fun v x => ∃ as, Reads (sortingHeap h2 h'.objs.size its) v (stD (stOf H x)) as) its xs := er.mono fun _ _ ⟨as, z⟩ => ⟨as, PyProof.Rows.Reads.keeps (fun b o e => sortingHeap_old (ne0 b o e) (kb b o e)) z⟩
  have al : AllAlike (xs.map fun x => stD (stOf H x)) := fun d hd d' hd' => by
    obtain ⟨x, _, rfl⟩ := List.mem_map.mp hd
    obtain ⟨y, _, rfl⟩ := List.mem_map.mp hd'
    unfold stD
    simp only [PySem.W.alike]
    exact bDs_alike _ _
  have tps : ∀ d ∈ xs.map (fun x => stD (stOf H x)), ∃ ds, d = PyData.tuple ds := fun d hd => by
    obtain ⟨x, hx, rfl⟩ := List.mem_map.mp hd
    exact ⟨_, rfl⟩
  have room : ∀ d, d ∈ xs.map (fun x => stD (stOf H x)) → X.A.in1.in1.units + d.depth < cLine := fun d hd => by
    obtain ⟨x, hx, rfl⟩ := List.mem_map.mp hd
    have : (stD (stOf H x)).depth ≤ 40 := Nat.le_trans (stD_depth _) (by decide)
    show X.A.units + 1 + 1 + _ < cLine
    omega
  have rel : EachIs (fun v x => RelV x v) its xs := each_of rv
  refine wpAny_bind (wpAny_holding (wpAny_call_entry PyProof.Rows.slot_list_sort ⟨_, hob, rfl⟩ PyProof.Rows.entry_list_sort ?body (PyProof.Rows.args_list_sort _)))
  case body =>
    refine list_sort_vals (s := { s with heap := h2, toks := tk }) (κ := dataKind _ (xs.map fun x => stD (stOf H x))) hob (SortsAt.dataT (s := { s with heap := sortingHeap h2 h'.objs.size its, toks := tk }) (each_map (R := fun v d => ∃ as, Reads (sortingHeap h2 h'.objs.size its) v d as) (fun x => stD (stOf H x)) er2) al tps room) hL ?_
    refine ⟨_, rfl, wpAny_pure ⟨_, rfl, ?_⟩⟩
    have rv2 : Vals (xs.mergeSort (dataLe false fun x => stD (stOf H x))) (sortVals (dataKind (sortingHeap h2 h'.objs.size its) (xs.map fun x => stD (stOf H x))) false its its) := of_each (sortVals_data false rel er2 al)
    generalize sortVals (dataKind (sortingHeap h2 h'.objs.size its) (xs.map fun x => stD (stOf H x))) false its its = out at *
    obtain ⟨c, hcF⟩ := PyProof.Rows.sortedHeap_at (vs := its) (out := out.toArray) hob
    have kS : ∀ b o, s.heap.get? b = some o → (sortedHeap h2 h'.objs.size its out.toArray).get? b = some o := fun b o e => (PyProof.Rows.sortedHeap_old (ne0 b o e) (Heap.lt_size (kb b o e))).trans (kb b o e)
    have hn0 : H h'.objs.size = none := (I.hok.kept hk).fresh (Nat.le_refl _)
    have hs0 : s.heap.get? h'.objs.size = none := by
      cases e : s.heap.get? h'.objs.size with
      | none => rfl
      | some o => exact absurd rfl (ne0 _ _ e)
    obtain ⟨css, h1, h2'⟩ := paired_perm (List.mergeSort_perm xs (dataLe false fun x => stD (stOf H x))) hb
    have hl2 : (xs.mergeSort (dataLe false fun x => stD (stOf H x))).length ≤ sizeLine := by rw [List.length_mergeSort]; omega
    exact ⟨.ref h'.objs.size, _, I.laidN (t' := tk) (o := .lst (xs.mergeSort (dataLe false fun x => stD (stOf H x)))) kS hs0 hn0 ⟨hl2, out, c, rv2, hcF⟩, rfl, q _ css _ h2' (srt_states h1 (mergeS_pairwise (fun x => stD (stOf H x)) _)) h1 hn0⟩
def rSortIXo (w : World) (K : PySem.W.Frag) : List V → Hp → VK → Prop := fun vs H Q => ∃ (p d : Addr) (xs : List KAV) (kd vd : KAV → PyData), vs = [.ref p] ∧ H p = some (DX.itemsO p d) ∧ KDr w H d xs ∧
  (∀ e ∈ xs, Dp K H (.ref e.2.1) (kd e) ∧ Dp K H e.2.2 (vd e)) ∧ AllAlike (xs.map fun e => PyData.tuple [kd e, vd e]) ∧ (∀ e ∈ xs, (PyData.tuple [kd e, vd e]).depth ≤ 40) ∧
  ∀ H' l (zs : List (Addr × KAV)), Same H H' → (zs.map (·.2)).Perm xs → (zs.Pairwise fun z1 z2 => PySem.W.dataLt (.tuple [kd z2.2, vd z2.2]) (.tuple [kd z1.2, vd z1.2]) = false) → H' l = some (.lst (zs.map fun z => V.ref z.1)) → (∀ z ∈ zs, H' z.1 = some (.tup [.ref z.2.2.1, z.2.2.2])) → Q (.ref l) H'
theorem cr_sortedIXo {X : Cx} (hc : X.calm = true) (hu : X.A.units + 64 < cLine) : CallR X (.builtin "sorted") (rSortIXo X.w X.K) := by
  intro pins s σ H vs us Q I r h
  obtain ⟨p, d, xs, kd, vd, rfl, hp, K, hd, al, dpt, q⟩ := h
  obtain rfl := Vals.ref1 r
  have view : s.heap.IsItemsView p d := (show ObjOk X.prog X.w H s.heap p (DX.itemsO p d) from I.hok p _ hp).1
  obtain ⟨o, es, ep, ho, hx, hdt, hsz, ent⟩ := kdr_raw I.hok K
  have ln := K.ln
  have hh : X.A.handled = none := I.ok.hd hc
  refine DT.sortedI (es := es) (ep := ep) hh view ⟨o, ho, hx, hdt⟩ (by omega) fun h' tk as hk hlt hl hG => ?_
  have lak : as.length = xs.length := by omega
  have nd : as.Nodup := List.Pairwise.imp (fun h => Nat.ne_of_lt h) hG.rise
  have pr : ∀ (j : Nat) (b : Addr), as[j]? = some b → ∃ e v, xs[j]? = some e ∧ RelV e.2.2 v ∧ h'.get? b = some { cls := .type "tuple", data := .seq #[Value.ref e.2.1, v] } := fun j b hj => by
    obtain ⟨en, he, hg⟩ := hG.pairs j b hj
    obtain ⟨e, h1, h2, h3⟩ := ent j en he
    exact ⟨e, en.val, h1, h3, by rw [hg, h2]⟩
  -- the pairs are tracked
  have Ib : Inv X pins σ H { s with heap := h', toks := tk } := I.kept (t' := tk) hk
  obtain ⟨H2, I2, g2, qt⟩ := DX.takeT (P := fun b vs => ∃ (j : Nat) (e : KAV), as[j]? = some b ∧ xs[j]? = some e ∧ vs = [.ref e.2.1, e.2.2]) I as H Ib nd fun b hb => by
    obtain ⟨j, hj⟩ := List.mem_iff_getElem?.mp hb
    obtain ⟨e, v, he, rv, hg⟩ := pr j b hj
    have hbl : s.heap.objs.size ≤ b := Nat.le_of_lt (hG.above b hb)
    exact ⟨hbl, I.hok.fresh hbl, [.ref e.2.1, e.2.2], ⟨j, e, hj, he, rfl⟩, fun H3 => ⟨(by rw [sizeLine_eq]; show 2 ≤ 16777216; omega), [Value.ref e.2.1, v], .cons rfl (.cons rv .nil), ⟨_, hg, rfl, 0, rfl⟩⟩⟩
  have atj : ∀ (j : Nat) (b : Addr) (e : KAV), as[j]? = some b → xs[j]? = some e → H2 b = some (.tup [.ref e.2.1, e.2.2]) := fun j b e hj he => by
    obtain ⟨vs, ⟨j', e', h1, h2, ev⟩, hb⟩ := qt b (List.mem_of_getElem? hj)
    have ej : j = j' := (List.getElem?_inj (List.getElem?_eq_some_iff.mp hj).1 nd).mp (hj.trans h1.symm)
    subst ej
    obtain rfl : e' = e := Option.some.inj (h2.symm.trans he)
    rw [hb, ev]
  -- their data
  let L : List (Addr × PyData) := (as.zip xs).map fun z => (z.1, PyData.tuple [kd z.2, vd z.2])
  have Lk : L.map (·.1) = as := by
    show ((as.zip xs).map fun z => (z.1, PyData.tuple [kd z.2, vd z.2])).map (·.1) = as
    rw [List.map_map]
    show (as.zip xs).map (fun z => z.1) = as
    exact List.map_fst_zip (by omega)
  have Dat : ∀ (j : Nat) (b : Addr) (e : KAV), as[j]? = some b → xs[j]? = some e → dOf L (.ref b) = .tuple [kd e, vd e] := fun j b e hj he =>
    dOf_at (p := (b, PyData.tuple [kd e, vd e])) (by rw [Lk]; exact nd) (List.mem_map.mpr ⟨(b, e), List.mem_of_getElem? (i := j) (List.getElem?_zip_eq_some.mpr ⟨hj, he⟩), rfl⟩)
  have at_ : ∀ x ∈ as.map V.ref, ∃ (j : Nat) (b : Addr) (e : KAV), x = .ref b ∧ as[j]? = some b ∧ xs[j]? = some e := fun x hx => by
    obtain ⟨b, hb, rfl⟩ := List.mem_map.mp hx
    obtain ⟨j, hj⟩ := List.mem_iff_getElem?.mp hb
    obtain ⟨e, _, he, _⟩ := pr j b hj
    exact ⟨j, b, e, rfl, hj, he⟩
  have Dps : ∀ x ∈ as.map V.ref, Dp X.K H2 x (dOf L x) := fun x hx => by
    obtain ⟨j, b, e, rfl, hj, he⟩ := at_ x hx
    rw [Dat j b e hj he]
    obtain ⟨d1, d2⟩ := hd e (List.mem_of_getElem? he)
    exact .tup (.inl (.inl (atj j b e hj he))) (.cons (dp_same g2 d1) (.cons (dp_same g2 d2) .nil))
  have al2 : AllAlike ((as.map V.ref).map (dOf L)) := fun d1 h1 d2 h2 => by
    obtain ⟨x1, hx1, rfl⟩ := List.mem_map.mp h1
    obtain ⟨x2, hx2, rfl⟩ := List.mem_map.mp h2
    obtain ⟨j1, b1, e1, rfl, hj1, he1⟩ := at_ x1 hx1
    obtain ⟨j2, b2, e2, rfl, hj2, he2⟩ := at_ x2 hx2
    rw [Dat j1 b1 e1 hj1 he1, Dat j2 b2 e2 hj2 he2]
    exact al _ (List.mem_map.mpr ⟨e1, List.mem_of_getElem? he1, rfl⟩) _ (List.mem_map.mpr ⟨e2, List.mem_of_getElem? he2, rfl⟩)
  have dp2 : ∀ dd ∈ (as.map V.ref).map (dOf L), (∃ ds, dd = PyData.tuple ds) ∧ dd.depth ≤ 40 := fun dd h1 => by
    obtain ⟨x1, hx1, rfl⟩ := List.mem_map.mp h1
    obtain ⟨j1, b1, e1, rfl, hj1, he1⟩ := at_ x1 hx1
    rw [Dat j1 b1 e1 hj1 he1]
    exact ⟨⟨_, rfl⟩, dpt e1 (List.mem_of_getElem? he1)⟩
  -- the sort
  have rv : Vals (as.map V.ref) (as.map Value.ref) := vals_maps V.ref Value.ref as fun _ _ => rfl
  have hL : (as.map Value.ref).length ≤ sizeLine := by rw [List.length_map]; omega
  have hob : (h'.push { cls := .type "list", data := .seq (as.map Value.ref).toArray }).get? h'.objs.size = some (seqObj "list" (as.map Value.ref).toArray 0) := Heap.get?_push_size _ rfl
  have kb : ∀ b o, h'.get? b = some o → (h'.push { cls := .type "list", data := .seq (as.map Value.ref).toArray }).get? b = some o := fun b o e => Heap.get?_push_of_some _ e
  have ne0 : ∀ b o, h'.get? b = some o → b ≠ h'.objs.size := fun b o e => Nat.ne_of_lt (Heap.lt_size e)
  generalize (h'.push { cls := .type "list", data := .seq (as.map Value.ref).toArray }) = h2 at hob kb ⊢
  have er := reads_each I2 rv Dps
  have er2 : EachIs (fun v x => ∃ as', Reads (sortingHeap h2 h'.objs.size (as.map Value.ref)) v (dOf L x) as') (as.map Value.ref) (as.map V.ref) := er.mono fun _ _ ⟨as', z⟩ => ⟨as', PyProof.Rows.Reads.keeps (fun b o e => sortingHeap_old (ne0 b o e) (kb b o e)) z⟩
  have rel : EachIs (fun v x => RelV x v) (as.map Value.ref) (as.map V.ref) := each_of rv
  refine wpAny_call_entry PyProof.Rows.slot_list_sort ⟨_, hob, rfl⟩ PyProof.Rows.entry_list_sort ?body (PyProof.Rows.args_list_sort _)
  case body =>
    refine list_sort_vals (s := { s with heap := h2, toks := tk }) (κ := dataKind _ ((as.map V.ref).map (dOf L))) hob (SortsAt.dataT (s := { s with heap := sortingHeap h2 h'.objs.size (as.map Value.ref), toks := tk }) (each_map (R := fun v d => ∃ as', Reads (sortingHeap h2 h'.objs.size (as.map Value.ref)) v d as') (dOf L) er2) al2 (fun dd h1 => (dp2 dd h1).1) (fun dd h1 => by
      have := (dp2 dd h1).2
      show X.A.units + 1 + 1 + _ < cLine
      omega)) hL ?_
    refine ⟨_, rfl, ?_⟩
    have rv2 : Vals ((as.map V.ref).mergeSort (dataLe false (dOf L))) (sortVals (dataKind (sortingHeap h2 h'.objs.size (as.map Value.ref)) ((as.map V.ref).map (dOf L))) false (as.map Value.ref) (as.map Value.ref)) := of_each (sortVals_data false rel er2 al2)
    generalize sortVals (dataKind (sortingHeap h2 h'.objs.size (as.map Value.ref)) ((as.map V.ref).map (dOf L))) false (as.map Value.ref) (as.map Value.ref) = out at *
    obtain ⟨c, hcF⟩ := PyProof.Rows.sortedHeap_at (vs := as.map Value.ref) (out := out.toArray) hob
    have kS : ∀ b o, h'.get? b = some o → (sortedHeap h2 h'.objs.size (as.map Value.ref) out.toArray).get? b = some o := fun b o e => (PyProof.Rows.sortedHeap_old (ne0 b o e) (Heap.lt_size (kb b o e))).trans (kb b o e)
    have hn0 : H2 h'.objs.size = none := I2.hok.fresh (Nat.le_refl _)
    have hs0 : h'.get? h'.objs.size = none := by
      cases e : h'.get? h'.objs.size with
      | none => rfl
      | some o => exact absurd rfl (ne0 _ _ e)
    have hl2 : ((as.map V.ref).mergeSort (dataLe false (dOf L))).length ≤ sizeLine := by rw [List.length_mergeSort, List.length_map]; omega
    obtain ⟨zs, pz, ez⟩ := perm_lift (fun z : Addr × KAV => V.ref z.1) (List.mergeSort_perm (as.map V.ref) (dataLe false (dOf L))) (as.zip xs) (by
      have e1 : (as.zip xs).map (fun z => V.ref z.1) = ((as.zip xs).map fun z => z.1).map V.ref := by rw [List.map_map]; rfl
      have e2 : (as.zip xs).map (fun z => z.1) = as := List.map_fst_zip (by omega)
      rw [e1, e2])
    have sm : Same H (upd H2 h'.objs.size (.lst ((as.map V.ref).mergeSort (dataLe false (dOf L))))) := fun b o e => by rw [upd_ne (ne_of_none (g2 b o e) hn0)]; exact g2 b o e
    have idx : ∀ z ∈ zs, ∃ j : Nat, as[j]? = some z.1 ∧ xs[j]? = some z.2 := fun z hz => by
      obtain ⟨j, hj⟩ := List.mem_iff_getElem?.mp (pz.mem_iff.mp hz)
      exact ⟨j, List.getElem?_zip_eq_some.mp hj⟩
    have hperm : (zs.map (·.2)).Perm xs := by
      have e := pz.map (·.2)
      have m2 : (as.zip xs).map (·.2) = xs := List.map_snd_zip (by omega)
      rw [m2] at e
      exact e
    refine ⟨.ref h'.objs.size, _, I2.laidN (t' := tk) (o := .lst ((as.map V.ref).mergeSort (dataLe false (dOf L)))) kS hs0 hn0 ⟨hl2, out, c, rv2, hcF⟩, rfl, q _ h'.objs.size zs sm hperm ?_ (by rw [upd_same, ez]) fun z hz => ?_⟩
    · have ps := mergeS_pairwise (dOf L) (as.map V.ref)
      rw [← ez] at ps
      refine (List.pairwise_map.mp ps).imp_of_mem fun {z1 z2} m1 m2 h => ?_
      obtain ⟨j1, a1, b1⟩ := idx z1 m1
      obtain ⟨j2, a2, b2⟩ := idx z2 m2
      rw [Dat j1 z1.1 z1.2 a1 b1, Dat j2 z2.1 z2.2 a2 b2] at h
      exact h
    obtain ⟨j, h1, h3⟩ := idx z hz
    have := atj j z.1 z.2 h1 h3
    rw [upd_ne (ne_of_none this hn0)]
    exact this
end Ph

namespace Ph
open PySem PySem.Spec PyProof.Rows L2
section
variable {X : Cx}
/-! ### block not in a tuple of blocks -/
def rNotInT (K : PySem.W.Frag) : R2 := fun x y H Q => ∃ (b : Bk) (a : Addr) (ys : List V) (cs : List Bk), BkAt H x b ∧ y = .ref a ∧ SqT K H a ys ∧ BL H ys cs ∧ Q (.bl (!decide (b ∈ cs))) H
theorem op_notInT (hu : X.A.units + 64 < cLine) : OpR X (compareOp .NotIn) (rNotInT X.K) := by
  intro pins s σ H x y v u Q I rx ry h
  obtain ⟨b, a, ys, cs, hb, rfl, hl, bl, q⟩ := h
  have dx : Dp X.K H x (bD b) := by
    obtain ⟨t, rfl, e⟩ := hb
    exact .tup (.inl (.inl e)) (.cons (.int _) (.cons (.int _) .nil))
  obtain ⟨_, r1⟩ := Dp.reads I (bD b) x v dx rx
  obtain ⟨_, r2⟩ := Dp.reads I (.tuple (cs.map bD)) (.ref a) u (.tup hl bl.dp) ry
  refine SeqAt.notIn_tuple_reads r2 r1 (bDs_lay cs) (bD_lay b) ?_ ⟨.bl _, H, I, rfl, ?_⟩
  · have := bDs_depth cs
    omega
  · rw [bDs_any]
    exact q
end
end Ph

namespace Ph
open PySem PySem.Spec PyProof.Rows L2
section
variable {X : Cx}
/-! ### repr of data or of None -/
def rRpN (K : PySem.W.Frag) : List V → Hp → VK → Prop := fun xs H Q => (xs = [.non] ∧ Q (.str "None") H) ∨ rRp K xs H Q
theorem call_rpN (hgu : X.A.guards = some []) (hu : X.A.units + 64 < cLine) : CallR X (.builtin "repr") (rRpN X.K) := by
  intro pins s σ H xs us Q I r h
  rcases h with ⟨rfl, q⟩ | h
  · obtain ⟨u, rfl, ru⟩ := vals1 r
    cases ru
    exact P.repr_of_none ⟨.str _, H, I.tok _, ⟨_, rfl⟩, q⟩
  · exact call_rp hgu hu pins s σ H xs us Q I r h
end
/-! ### lists of blocks, and lists of such -/
def lD (bs : List (Int × Int)) : PyData := .list (bs.map bD)
theorem lD_lay (zs : List (Int × Int)) : (lD zs).canLay0 = true := by unfold lD; simp only [PyData.canLay0]; exact bDs_lay zs
theorem lD_depth (zs : List (Int × Int)) : (lD zs).depth ≤ 2 := by
  have h1 := bDs_depth zs
  unfold lD
  simp only [PyData.depth]
  omega
theorem lD_shaped (zs : List (Int × Int)) : SeqAt.shaped (lD zs) = true := by
  have h1 := lD_depth zs
  show ((lD zs).canLay0 && decide ((lD zs).depth ≤ 64)) = true
  rw [lD_lay, decide_eq_true (by omega)]
  rfl
theorem lDs_lay : ∀ zs : List (List (Int × Int)), PyData.canLayAll0 (zs.map lD) = true
  | [] => by simp [PyData.canLayAll0]
  | z :: zs => by simp only [List.map_cons, PyData.canLayAll0, lD_lay, lDs_lay zs, Bool.and_self]
theorem lDs_depth : ∀ zs : List (List (Int × Int)), PyData.depthAll (zs.map lD) ≤ 2
  | [] => by simp [PyData.depthAll]
  | z :: zs => by
    have h1 := lDs_depth zs
    have h2 := lD_depth z
    simp only [List.map_cons, PyData.depthAll]
    omega
theorem lDs_shaped (zs : List (List (Int × Int))) : SeqAt.shaped (.list (zs.map lD)) = true := by
  have h1 := lDs_depth zs
  have h2 : PyData.depth (.list (zs.map lD)) ≤ 64 := by simp only [PyData.depth]; omega
  have h3 : PyData.canLay0 (.list (zs.map lD)) = true := by simp only [PyData.canLay0]; exact lDs_lay zs
  show (PyData.canLay0 (.list (zs.map lD)) && decide (PyData.depth (.list (zs.map lD)) ≤ 64)) = true
  rw [h3, decide_eq_true h2]
  rfl
theorem lD_nil (zs : List (Int × Int)) : PyData.eqv (lD zs) (lD []) = decide (zs = []) := by
  cases zs with
  | nil => simp [lD, PyData.eqv, PyData.eqvAll]
  | cons z zs => simp [lD, PyData.eqv, PyData.eqvAll]
theorem lDs_any (zs : List (List (Int × Int))) : ((zs.map lD).any fun z => PyData.eqv z (lD [])) = decide ([] ∈ zs) := by
  induction zs with
  | nil => simp
  | cons z zs ih =>
    rw [List.map_cons, List.any_cons, ih, lD_nil, Bool.eq_iff_iff, Bool.or_eq_true, decide_eq_true_iff, decide_eq_true_iff, decide_eq_true_iff, List.mem_cons]
    constructor
    · rintro (h | h)
      · exact .inl h.symm
      · exact .inr h
    · rintro (h | h)
      · exact .inl h.symm
      · exact .inr h
end Ph

set_option maxHeartbeats 4000000
/-! PhErr: own errors: isinstance of a caught error that may have a dict, by one class or a tuple of classes; a class called without arguments. -/
namespace Ph
open PySem PySem.Spec PyProof.Rows L2
/-- the dict of a caught error: none, or one that is told -/
def DictK (H : Hp) (d : Option Addr) : Prop := d = none ∨ ∃ dd fs, d = some dd ∧ H dd = some (.xd fs)
section
variable {X : Cx}
theorem inst_of {pins : List (Addr × Obj)} {σ : L2.St} {H : Hp} {s : Shared} {a D : Addr} {d : Option Addr} {oe : Obj} (I : Inv X pins σ H s) (hget : s.heap.get? a = some oe) (hz : Zc (.ref D) d oe) (hf : ∃ vs, oe.data = .fields vs) (k : DictK H d) :
    ∃ od, PySem.W.InstAt s.heap a oe D od := by
  obtain ⟨vs, hv⟩ := hf
  have no : PySem.W.notCls oe = true := by
    unfold PySem.W.notCls
    rw [hv]
  rcases k with rfl | ⟨dd, fs, rfl, e⟩
  · exact ⟨none, hget, hz.1, no, by rw [hz.2]; trivial⟩
  · have hx : ObjOk X.prog X.w H s.heap dd (.xd fs) := I.hok dd _ e
    obtain ⟨mA, hns, _⟩ := hx
    obtain ⟨od, ho, _⟩ := lookIn_ns hns
    exact ⟨some od, hget, hz.1, no, by rw [hz.2]; exact ho⟩
/-- isinstance(e, c): e at a, of the class cls, with the dict d -/
def rIsX (K : PySem.W.Frag) (a : Addr) (cls : Value) (d : Option Addr) : List V → Hp → VK → Prop := fun xs H Q => ∃ (D : Addr) (c : V) (cv : Value) (b : Bool), xs = [.ref a, c] ∧ cls = .ref D ∧ ExcC K D ∧ DictK H d ∧ (∀ u, RelV c u → u = cv) ∧ PySem.W.kitOne K (.ref D) cv = some b ∧ Q (.bl b) H
theorem call_isX {a : Addr} {oe : Obj} {cls : Value} {d : Option Addr} {pn : List (Addr × Obj)} (hz : Zc cls d oe) (hf : ∃ vs, oe.data = .fields vs) : CallR (X.suite a ((a, oe) :: pn)) (.builtin "isinstance") (rIsX X.K a cls d) := by
  intro pins s σ H xs us Q I r h
  obtain ⟨D, c, cv, b, rfl, rfl, C, k, hcv, e, q⟩ := h
  obtain ⟨ua, uc, rfl, ra, rc⟩ : ∃ ua uc, us = [ua, uc] ∧ RelV (.ref a) ua ∧ RelV c uc := by
    cases r with
    | cons r1 r2 => cases r2 with
      | cons r3 r4 =>
        cases r4
        exact ⟨_, _, rfl, r1, r3⟩
  obtain rfl : ua = Value.ref a := ra
  obtain rfl := hcv _ rc
  obtain ⟨hget, _⟩ := I.pin (a, oe) (List.mem_append.mpr (.inl List.mem_cons_self))
  obtain ⟨od, J⟩ := inst_of I hget hz hf k
  have cl : (PySem.W.clsIn X.K D).isSome = true := by
    obtain ⟨cd, hc, _⟩ := PySem.W.any_some C.hd
    rw [hc]
    rfl
  exact PySem.W.kia_one (PySem.W.kitx_exc (od := od) cl C.hg C.hk C.hs C.ha C.hn C.ht C.hm) I.kIn J e (fun z => nomatch z) fun tk => ⟨.bl b, H, I.kept (t' := tk) fun _ _ z => z, rfl, q⟩
/-- isinstance(e, (c, ..)) -/
def rIsXt (K : PySem.W.Frag) (a : Addr) (cls : Value) (d : Option Addr) : List V → Hp → VK → Prop := fun xs H Q => ∃ (D t : Addr) (cs : List V) (cvs : List Value) (b : Bool), xs = [.ref a, .ref t] ∧ cls = .ref D ∧ ExcC K D ∧ DictK H d ∧ H t = some (.tup cs) ∧
  (∀ us, Vals cs us → us = cvs) ∧ PySem.W.kitAny K (.ref D) cvs = some b ∧ Q (.bl b) H
theorem call_isXt {a : Addr} {oe : Obj} {cls : Value} {d : Option Addr} {pn : List (Addr × Obj)} (hz : Zc cls d oe) (hf : ∃ vs, oe.data = .fields vs) : CallR (X.suite a ((a, oe) :: pn)) (.builtin "isinstance") (rIsXt X.K a cls d) := by
  intro pins s σ H xs us Q I r h
  obtain ⟨D, t, cs, cvs, b, rfl, rfl, C, k, ht, hcv, e, q⟩ := h
  obtain ⟨ua, uc, rfl, ra, rc⟩ : ∃ ua uc, us = [ua, uc] ∧ RelV (.ref a) ua ∧ RelV (.ref t) uc := by
    cases r with
    | cons r1 r2 => cases r2 with
      | cons r3 r4 =>
        cases r4
        exact ⟨_, _, rfl, r1, r3⟩
  obtain rfl : ua = Value.ref a := ra
  obtain rfl : uc = Value.ref t := rc
  obtain ⟨hget, _⟩ := I.pin (a, oe) (List.mem_append.mpr (.inl List.mem_cons_self))
  obtain ⟨od, J⟩ := inst_of I hget hz hf k
  have cl : (PySem.W.clsIn X.K D).isSome = true := by
    obtain ⟨cd, hc, _⟩ := PySem.W.any_some C.hd
    rw [hc]
    rfl
  have hx : ObjOk X.prog X.w H s.heap t (.tup cs) := I.hok t _ ht
  obtain ⟨_, its, rv, o, ho, hc, n, hdat⟩ := hx
  obtain rfl := hcv _ rv
  obtain ⟨oc, odd, oda, osl⟩ := o
  dsimp only at hc hdat
  subst hc hdat
  exact PySem.W.kia_tup (PySem.W.kitx_exc (od := od) cl C.hg C.hk C.hs C.ha C.hn C.ht C.hm) I.kIn J ho e (fun z => nomatch z) fun tk => ⟨.bl b, H, I.kept (t' := tk) fun _ _ z => z, rfl, q⟩
/-! ### C(), C's own __init__ doing nothing -/
def spIni0 : Sp := fun vs H Q _ => ∃ a : Addr, vs = [.ref a] ∧ Q .non H
/-- the way out: class C, no dict -/
def tMk0 (C : Addr) : L2.St → Hp → XK → Prop := fun _ H Q => Q (.ref C) none H
theorem pmk_own0 {CX : CXT} {x : Str} {C fI : Addr} {k : Nat} {fd : FuncData} {ps : List Str} {p pos : Pos} (T : OexC X.K C) (iC : PySem.W.findIn X.K (.ref C) "__init__" = some (some (.ref fI))) (tI : PySem.W.typeIn X.K (.ref fI) = some (.type "function"))
    (F1 : FnOk X.prog X.w X.K X.mg X.base CX k fI fd ps spIni0) (hr : Room (k + 1) X.A) (hb : Binds X.K fd ps []) (hx : Passes CX X (fun _ _ _ => False)) (hg : Gl X x) (hm : X.mg x = some (.ref C))
    (hdb : (x == ("__debug__" : Str)) = false := by decide) : PMk X (.Call (.Name x p) [] [] pos) (tMk0 C) := by
  intro pins s σ H Q I q
  obtain ⟨nm, qn, N, bs, bm, sn, sub, ab, col, dd, k0, k1, k2, k3, k5, hC, hbm⟩ := T.cls
  refine wpAny_Call_Name_kw (ld_glob I hg hm (PySem.W.callWith_K0 I.kIn T.kC ?_) hdb)
  show wpAny _ _ (call (.ref C) []) _ _ _
  obtain ⟨hp, g, dr, tk, os⟩ := s
  obtain ⟨z, ez⟩ : ∃ z, z = hp.objs.size := ⟨_, rfl⟩
  have hsz : hp.objs.size ≤ z + 1 := by omega
  have hn : H (z + 1) = none := I.hok.fresh hsz
  obtain ⟨h1, e1⟩ : ∃ h1, h1 = (hp.push (PySem.W.kdv_tup [])).push (PySem.HandSPX.excO C z) := ⟨_, rfl⟩
  have kk : ∀ b o, hp.get? b = some o → h1.get? b = some o := fun b o e => by
    rw [e1]
    exact Heap.get?_push_of_some _ (Heap.get?_push_of_some _ e)
  have hget : h1.get? (z + 1) = some (PySem.HandSPX.excO C z) := by
    subst ez e1
    heap_get
  obtain ⟨H1, eH⟩ : ∃ H1, H1 = upd H (z + 1) (exo (z + 1) C none) := ⟨_, rfl⟩
  have I2 : Inv X pins σ H1 ⟨h1, g, dr, tk, os⟩ := by
    rw [eH]
    exact I.laid (t' := tk) kk hsz (exo_ok hget)
  have r2 : Vals [V.ref (z + 1)] [Value.ref (z + 1)] := .cons rfl .nil
  have wish : spIni0 [.ref (z + 1)] H1 (fun v H2 => v = .non ∧ H2 = H1) (fun _ _ _ => False) := ⟨_, rfl, rfl, rfl⟩
  have hl : ([Value.ref (z + 1)] ++ []).length = ps.length := (F1.len _ _ _ _ wish)
  have run := F1.run _ X.stack ⟨h1, g, dr, tk, os⟩ H1 ⟨[Value.ref (z + 1)], []⟩ [Value.ref (z + 1)] _ _ (fun _ _ _ => False) (hr.make C [] []) (I2.env0.make C [] []) (hb _ [Value.ref (z + 1)] I2.kIn hl) r2 wish
  subst e1
  subst ez
  refine wpAny_call (PySem.HandSPX.call_own F.excBase_ValueError (fun Y => PySem.HandSPX.refsVE_contains Y bm hbm) (I.kIn _ _ hC) (PySem.W.looks_findIn I.kIn iC) (fun self => PySem.W.bind_fn I.kIn self tI) (Nat.zero_le _) (codeAny_mono run fun r s' hq' => ?_))
  cases r with
  | error er => exact hx pins σ _ _ er s' I2 hq'
  | ok fl =>
    cases fl with
    | next => exact hq'.elim
    | brk => exact hq'.elim
    | cont => exact hq'.elim
    | ret u =>
      obtain ⟨v, H2, os2, bare2, un2, hok2, rv, rfl, rfl⟩ := hq'
      obtain ⟨h2, g2, d2, t2, os'⟩ := s'
      refine ⟨rv, ?_⟩
      have ea : H2 (hp.objs.size + 1) = some (exo (hp.objs.size + 1) C none) := by
        rw [eH]
        exact upd_same
      have eo : ∀ {b : Addr}, b ≠ hp.objs.size + 1 → H2 b = H b := fun {b} n => by
        rw [eH]
        exact upd_ne n
      obtain ⟨t0, hoe⟩ := exo_at hok2 ea
      obtain ⟨G, gs, gn⟩ := restrict h2 fun b => !decide (b = hp.objs.size + 1)
      have gk : ∀ {b : Addr}, b ≠ hp.objs.size + 1 → G.get? b = h2.get? b := fun {b} n => gs b (by simp [n])
      have ga : G.get? (hp.objs.size + 1) = none := gn _ (by simp)
      have nb : ∀ {b : Addr} {o : Obj}, hp.get? b = some o → b ≠ hp.objs.size + 1 := fun {b o} e => by
        have l := Heap.lt_size e
        exact Nat.ne_of_lt (Nat.lt_succ_of_lt l)
      have nH : ∀ {b : Addr} {o : HO}, H b = some o → b ≠ hp.objs.size + 1 := fun {b o} e n => by
        rw [n, hn] at e
        cases e
      have U : Un (frs X.stack) [] H H hp G := {
        keep := fun b o e n hf hx => (gk (nb e)).trans (un2.keep b o (kk b o e) ((eo (nb e)).trans n) hf hx)
        slot := fun b o e n hf hx => by
          obtain ⟨sl, q1⟩ := un2.slot b o (kk b o e) ((eo (nb e)).trans n) hf hx
          exact ⟨sl, (gk (nb e)).trans q1⟩
        free := fun b o e n hx => n
        there := fun b o e hx => by
          obtain ⟨o2, q1⟩ := un2.there b o (kk b o e) hx
          exact ⟨o2, (gk (nb e)).trans q1⟩
        tups := fun b xs e => e
        frzs := fun b o v e => e
        tbls := fun b ps e => ⟨#[], by rw [e]; simp⟩ }
      have hok3 : HOk X.prog X.w H G := fun b o e => by
        refine (hok2 b o ((eo (nH e)).trans e)).stay (fun c v hc y => ?_) (fun c hc => ?_) (fun c xs hc => ?_)
        · have nc : c ≠ hp.objs.size + 1 := by
            rcases hc with hc | hc
            · rw [hc]
              exact nH e
            · exact at_ne ea hc exo_own
          exact (gk nc).trans y
        · exact (eo (at_ne ea hc exo_own)).symm.trans hc
        · exact (eo (at_ne ea hc exo_tup)).symm.trans hc
      have J : Inv X pins σ H ⟨G, g2, d2, t2, os'⟩ := I.call' (ch := []) os2 U hok3 bare2 (fun b z => absurd z (by simp))
      refine ⟨_, _, _, ⟨G, g2, d2, t2, os'⟩, H, .ref C, none, rfl, J, fun b o e => ?_, ga, hoe, ⟨rfl, rfl⟩, rfl, rfl, hn, rfl, bare2, raises_own T.exC T.tyC, q⟩
      have n : b ≠ hp.objs.size + 1 := fun n => by
        have e' : G.get? b = some o := e
        rw [n, ga] at e'
        cases e'
      exact (gk n).symm.trans e
end
end Ph

/-! PhErm: a method called where its errors are caught: what leaves may speak of the slots. -/
namespace Ph
open PySem PySem.Spec PyProof.Rows L2
def tMethE (C : Addr) (m : Str) (sp : Sp) (E : L2.St → XK) (ta : TE) (t : TA) : TE := fun σ H Q => ta σ H fun x H1 => ∃ a dx fs, x = .ref a ∧ H1 a = some (.ins C dx fs) ∧ fs.lookup m = none ∧ t σ H1 fun vs H2 => sp (.ref a :: vs) H2 Q (E σ)
section
variable {X : Cx} {CX : CXT} {k : Nat} {f C : Addr} {fd : FuncData} {ps : List Str} {sp : Sp} {E : L2.St → XK} {m : Str} {pos apos : Pos} {e o : Expr} {es : List Expr} {ta : TE} {t : TA}
theorem pe_methE {pl : Sem Bool} (he : PE X o ta) (c : Cls X.K C) (hm : Meth X.K C m f) (F : FnOk X.prog X.w X.K X.mg X.base CX k f fd ps sp) (hr : Room k X.A) (hb : Binds X.K fd ps []) (hx : ∀ σ, PassesAt CX X σ (E σ)) (ha : PA X (e :: es) t)
    (hst : starEach (e :: es) X.env = (false, eval e X.env) :: starEach es X.env := by rfl) (hpl : (backTo pos (starEach es X.env)).any (·.1) = false := by rfl)
    (ht : eval (.Call (.Attribute o m apos) (e :: es) [] pos) X.env = (do
      let ov ← eval o X.env
      standAt apos.atName
      let (f, first) ← holding [ov] (getMethod ov m pl)
      callWith pos f first (backTo pos (starEach (e :: es) X.env)) (backToKw pos (keywordEach [] X.env))) := by rfl) :
    PE X (.Call (.Attribute o m apos) (e :: es) [] pos) (tMethE C m sp E ta t) := by
  constructor
  intro pins s σ H Q I h
  refine PySem.W.methodCall_KW (pl := pl) (thn (he.run pins s σ H _ I h) fun u s1 w => ?_) ht
  obtain ⟨x, H1, I1, rx, a, dx, fs, rfl, ea, l, q⟩ := w
  obtain rfl : u = Value.ref a := rx
  refine getmeth_ok I1 ea c hm l (PySem.W.callWith_K (first := [.ref a]) (h₀ := X.base) I.ok.mod.kin hm.kp (thn (ha.run pos pins s1 σ H1 _ I1 q) fun us s2 w2 => ?_) hst hpl)
  obtain ⟨vs, H2, I2, r, q2⟩ := w2
  exact ⟨I2.kIn, run_fnS (us := .ref a :: us) (vs := .ref a :: vs) F hr hb (hx σ) I2 (.cons rfl r) q2⟩
theorem takesNo : Takes X (fun _ _ _ _ => False) := fun _ _ ⟨_, _, _, _, _, _, _, _, _, _, _, _, _, _, _, _, z⟩ => z.elim
end
end Ph

/-! PhCp: the text that repr gives holds code points only. -/
namespace Ph
open PySem PySem.Spec PyProof.Rows L2
/-- all signs are code points -/
def Cp (x : Str) : Prop := ∀ c ∈ x.cps.toList, c < 0x110000
theorem cp_of {s : String} : Cp (Str.ofString s) := by
  rw [Str.ofString_eq_toList]
  intro c hc
  have hc' : c ∈ s.toList.map Char.toNat := by simpa using hc
  obtain ⟨d, _, rfl⟩ := List.mem_map.mp hc'
  have h := d.valid
  show d.val.toNat < 0x110000
  rcases h with h | h
  · have : d.val.toNat < 55296 := h
    omega
  · exact h.2
theorem Cp.app {x y : Str} (a : Cp x) (b : Cp y) : Cp (x ++ y) := fun c hc => by
  have hc' : c ∈ (x.cps ++ y.cps).toList := hc
  rw [Array.toList_append, List.mem_append] at hc'
  exact hc'.elim (a c) (b c)
theorem cp_join {s : Str} (hs : Cp s) : ∀ {ts : List Str}, (∀ t ∈ ts, Cp t) → Cp (Str.join s ts)
  | [], _ => fun c hc => by
    have : c ∈ (#[] : Array Nat).toList := hc
    simp at this
  | [x], h => h x (List.mem_cons_self ..)
  | x :: y :: r, h => ((h x (List.mem_cons_self ..)).app hs).app (cp_join hs fun t ht => h t (List.mem_cons_of_mem _ ht))
theorem cp_from : ∀ {ts : List Str} {k : Nat} {acc : Str}, Cp acc → (∀ t ∈ ts, Cp t) → Cp (textFrom k acc ts)
  | [], _, _, a, _ => a
  | t :: ts, k, acc, a, h => cp_from (ts := ts) ((a.app cp_of).app (h t (List.mem_cons_self ..))) fun u hu => h u (List.mem_cons_of_mem _ hu)
theorem cp_hex {c n : Nat} : ∀ d ∈ List.replicate n 48 ++ (Nat.toDigits 16 c).map Char.toNat, d < 0x110000 := fun d hd => by
  rcases List.mem_append.mp hd with h | h
  · rw [List.eq_of_mem_replicate h]; decide
  · obtain ⟨e, _, rfl⟩ := List.mem_map.mp h
    show e.val.toNat < 0x110000
    rcases e.valid with h | h
    · have : e.val.toNat < 55296 := h
      omega
    · exact h.2
theorem cp_char {q c : Nat} (hc : c < 0x110000) : ∀ d ∈ Builtin.Str.reprChar q c, d < 0x110000 := fun d hd => by
  unfold Builtin.Str.reprChar at hd
  dsimp only at hd
  repeat' split at hd
  all_goals first
    | (simp only [List.mem_cons, List.not_mem_nil, or_false] at hd; omega)
    | (rcases List.mem_append.mp hd with h | h
       · simp only [List.mem_cons, List.not_mem_nil, or_false] at h; omega
       · exact cp_hex d h)
theorem cp_fold {q : Nat} : ∀ {l : List Nat} {acc : Array Nat}, (∀ c ∈ l, c < 0x110000) → (∀ c ∈ acc.toList, c < 0x110000) → ∀ c ∈ (l.foldl (fun out c => out ++ (Builtin.Str.reprChar q c).toArray) acc).toList, c < 0x110000
  | [], acc, _, h => h
  | c :: r, acc, hl, h => cp_fold (l := r) (fun d hd => hl d (List.mem_cons_of_mem _ hd)) fun d hd => by
    rw [Array.toList_append, List.mem_append] at hd
    exact hd.elim (h d) (cp_char (hl c (List.mem_cons_self ..)) d)
theorem cp_repr {x : Str} (h : Cp x) : Cp (reprText x) := fun c hc => by
  have q : reprQuote x < 0x110000 := by
    unfold reprQuote
    split <;> decide
  unfold reprText at hc
  dsimp only at hc
  rw [← Array.foldl_toList, Array.toList_push, List.mem_append] at hc
  rcases hc with h1 | h1
  · exact cp_fold h (fun d hd => by
      have : d = reprQuote x := by simpa using hd
      rw [this]; exact q) c h1
  · rw [List.mem_singleton.mp h1]; exact q
mutual
/-- all texts within hold code points only -/
def cpD : PyData → Bool
  | .none | .bool _ | .int _ => true
  | .str x => PyData.strOk x
  | .list xs | .tuple xs => cpAll xs
  | .dict kvs => cpKv kvs
def cpAll : List PyData → Bool
  | [] => true
  | x :: xs => cpD x && cpAll xs
def cpKv : List (PyData × PyData) → Bool
  | [] => true
  | (k, v) :: r => cpD k && cpD v && cpKv r
end
mutual
theorem cp_shown : ∀ d : PyData, cpD d = true → Cp d.shown
  | .none, _ => cp_of
  | .bool b, _ => by cases b <;> exact cp_of
  | .int i, _ => cp_of
  | .str x, h => by
    rw [PyData.shown]
    refine cp_repr fun c hc => ?_
    have h' : x.cps.all (· < 0x110000) = true := by simpa only [cpD, PyData.strOk] using h
    rw [Array.all_eq_true_iff_forall_mem] at h'
    simpa using h' c (Array.mem_def.mpr hc)
  | .list xs, h => by
    rw [PyData.shown]
    exact (cp_from cp_of (cp_all xs (by simpa only [cpD] using h))).app cp_of
  | .tuple xs, h => by
    rw [PyData.shown]
    exact (Cp.app cp_of (cp_join cp_of (cp_all xs (by simpa only [cpD] using h)))).app cp_of
  | .dict kvs, h => by
    rw [PyData.shown]
    exact (Cp.app cp_of (cp_join cp_of (cp_kvs kvs (by simpa only [cpD] using h)))).app cp_of
theorem cp_all : ∀ xs : List PyData, cpAll xs = true → ∀ t ∈ PyData.shownAll xs, Cp t
  | [], _, t, ht => by simp [PyData.shownAll] at ht
  | x :: r, h, t, ht => by
    rw [cpAll, Bool.and_eq_true] at h
    rw [PyData.shownAll] at ht
    rcases List.mem_cons.mp ht with rfl | z
    · exact cp_shown x h.1
    · exact cp_all r h.2 t z
theorem cp_kvs : ∀ kvs : List (PyData × PyData), cpKv kvs = true → ∀ t ∈ PyData.shownKv kvs, Cp t
  | [], _, t, ht => by simp [PyData.shownKv] at ht
  | (k, v) :: r, h, t, ht => by
    rw [cpKv, Bool.and_eq_true, Bool.and_eq_true] at h
    rw [PyData.shownKv] at ht
    rcases List.mem_cons.mp ht with rfl | z
    · exact ((cp_shown k h.1.1).app cp_of).app (cp_shown v h.1.2)
    · exact cp_kvs r h.2 t z
end
theorem cp_ok {x : Str} (h : Cp x) : PyData.strOk x = true := by
  unfold PyData.strOk
  rw [Array.all_eq_true_iff_forall_mem]
  intro c hc
  exact decide_eq_true (h c (Array.mem_def.mp hc))
theorem shp_str2 {v w : Str} (hv : PyData.strOk v = true) (hw : PyData.strOk w = true) : SeqAt.shaped (.tuple [.str v, .str w]) = true := by
  simp [SeqAt.shaped, PyData.canLay0, PyData.canLayAll0, hv, hw, PyData.depth, PyData.depthAll]
theorem eqv_str2 {v w : Str} : PyData.eqv (.tuple [.str v, .str w]) (.tuple [.str v, .str w]) = true := by simp [PyData.eqv, PyData.eqvAll]
end Ph

/-! PhOdd: data with dicts: kept where what it reaches is kept; bounds of its text. -/
namespace Ph
open PySem PySem.Spec PyProof.Rows L2
theorem sqL_same {K : PySem.W.Frag} {H H' : Hp} {a : Addr} {xs : List V} (s : Same H H') (h : SqL K H a xs) : SqL K H' a xs := s.seq h
theorem sqT_same {K : PySem.W.Frag} {H H' : Hp} {a : Addr} {xs : List V} (s : Same H H') (h : SqT K H a xs) : SqT K H' a xs := by
  rcases h with (h | ⟨o, h⟩) | h
  · exact .inl (.inl (s _ _ h))
  · exact .inl (.inr ⟨o, s _ _ h⟩)
  · exact .inr h
theorem Dq.same {K : PySem.W.Frag} {H H' : Hp} (s : Same H H') {v : V} {d : PyData} (h : Dq K H v d) : Dq K H' v d := by
  refine @Dq.rec K H (fun v d _ => Dq K H' v d) (fun vs ds _ => DqAll K H' vs ds) (fun kvs D _ => DqKvs K H' kvs D) ?_ ?_ ?_ ?_ ?_ ?_ ?_ ?_ ?_ ?_ ?_ v d h
  · exact .non
  · exact .bl
  · exact .int
  · exact .str
  · exact fun hs _ ih => .lst (sqL_same s hs) ih
  · exact fun hs _ ih => .tup (sqT_same s hs) ih
  · exact fun hs _ ih => .dct (hs.elim (fun e => .inl (s _ _ e)) fun ⟨o, e⟩ => .inr ⟨o, s _ _ e⟩) ih
  · exact .nil
  · exact fun _ _ i1 i2 => .cons i1 i2
  · exact .nil
  · exact fun _ _ i1 i2 => .cons i1 i2
/-- a heap without q: what changes at q alone leaves it as it is -/
theorem del_sub {H : Hp} {q : Addr} : Same (del H q) H := fun b o e => by
  by_cases h : b = q
  · rw [h, del_same] at e
    cases e
  · rw [del_ne h] at e
    exact e
structure Shd (d : PyData) (n k : Nat) : Prop where
  sh : d.showable = true
  dp : d.depth ≤ n
  lv : d.leavesShort 40 = true
  wt : d.weight ≤ k
  cp : cpD d = true
theorem Shd.ln {d : PyData} {n k : Nat} (s : Shd d n k) (hk : k ≤ 390000) : d.shown.length ≤ sizeLine := by
  have h := PyData.shown_le 40 (by decide) d s.lv
  have h2 := s.wt
  have h3 : sizeLine = 16777216 := by decide
  omega
theorem Shd.tup1 {d : PyData} {n k : Nat} (s : Shd d n k) : Shd (.tuple [d]) (n + 1) (k + 100) := by
  obtain ⟨h1, h2, h3, h4, h5⟩ := s
  refine ⟨by simp [PyData.showable, PyData.showableAll, h1], by simp [PyData.depth, PyData.depthAll]; omega, by simp [PyData.leavesShort, PyData.leavesShortAll, h3], by simp [PyData.weight, PyData.weightAll]; omega, by simp [cpD, cpAll, h5]⟩
theorem Shd.lst1 {d : PyData} {n k : Nat} (s : Shd d n k) : Shd (.list [d]) (n + 1) (k + 100) := by
  obtain ⟨h1, h2, h3, h4, h5⟩ := s
  refine ⟨by simp [PyData.showable, PyData.showableAll, h1], by simp [PyData.depth, PyData.depthAll]; omega, by simp [PyData.leavesShort, PyData.leavesShortAll, h3], by simp [PyData.weight, PyData.weightAll]; omega, by simp [cpD, cpAll, h5]⟩
theorem Shd.dct1 {d : PyData} {n k : Nat} (s : Shd d n k) : Shd (.dict [(.str "a", d)]) (n + 1) (k + 200) := by
  obtain ⟨h1, h2, h3, h4, h5⟩ := s
  have a1 : (PyData.str "a").showable = true := by decide +kernel
  have a2 : (PyData.str "a").depth = 0 := by decide +kernel
  have a3 : (PyData.str "a").leavesShort 40 = true := by decide +kernel
  have a4 : (PyData.str "a").weight ≤ 100 := by decide +kernel
  refine ⟨by simp [PyData.showable, PyData.showableKv, h1], by simp [PyData.depth, PyData.depthKv]; omega, by rw [PyData.leavesShort, PyData.leavesShortKv, PyData.leavesShortKv, a3, h3]; rfl, ?_, by rw [cpD, cpKv, cpKv, h5]; decide +kernel⟩
  simp [PyData.weight, PyData.weightKv]
  simp [PyData.weight] at a4
  omega
theorem but_del {H H' : Hp} {q : Addr} (b : But q H H') : Same (del H q) (del H' q) := fun c o e => by
  by_cases h : c = q
  · rw [h, del_same] at e
    cases e
  · rw [del_ne h] at e ⊢
    exact b _ _ h e
end Ph

/-! PhOd: odd values: nested data, kept whatever becomes of the addresses S (draws, tables). -/
namespace Ph
open PySem PySem.Spec PyProof.Rows L2
/-- a value that is no integer -/
inductive NoInt (K : PySem.W.Frag) (H : Hp) : V → Prop
  | bl (b : Bool) : NoInt K H (.bl b)
  | ty {x : V} {t : String} (h : TyX K H x (.type t)) (n : kitB t "int" = some false) : NoInt K H x
theorem tyX_same {K : PySem.W.Frag} {H H' : Hp} {x : V} {t : String} (s : Same H H') (h : TyX K H x (.type t)) : TyX K H' x (.type t) := by
  generalize ev : Value.type t = v at h
  cases h with
  | base b =>
    refine .base ?_
    cases b with
    | non => exact .non
    | bl x => exact .bl x
    | int i => exact .int i
    | str x => exact .str x
    | flt x => exact .flt x
    | lst e => exact .lst (s _ _ e)
    | frz e => exact .frz (s _ _ e)
    | tup e => exact .tup (s _ _ e)
    | dK e => exact .dK (s _ _ e)
    | dT e => exact .dT (s _ _ e)
    | ins e c a b d f => exact .ins (s _ _ e) c a b d f
  | byt b => exact .byt b
  | set e => exact .set (s _ _ e)
  | kList e c => exact .kList e c
  | kTuple e c => exact .kTuple e c
  | kDict e c => exact .kDict e c
  | fTuple e => exact .fTuple (s _ _ e)
  | fDict e => exact .fDict (s _ _ e)
theorem NoInt.same {K : PySem.W.Frag} {H H' : Hp} {x : V} (s : Same H H') (h : NoInt K H x) : NoInt K H' x := by
  cases h with
  | bl b => exact .bl b
  | ty h n => exact .ty (tyX_same s h) n
theorem NoInt.ne {K : PySem.W.Frag} {H : Hp} {i : Int} : ¬ NoInt K H (.int i) := fun h => by
  cases h with
  | ty h n =>
    generalize ev : Value.type _ = v at h
    cases h with
    | base b =>
      cases b
      cases ev
      exact absurd n (by decide +kernel)
/-- the heap without the addresses S -/
def hid (S : List Addr) (H : Hp) : Hp := fun b => if b ∈ S then none else H b
theorem hid_at {S : List Addr} {H : Hp} {b : Addr} (n : b ∉ S) : hid S H b = H b := if_neg n
theorem hid_sub {S : List Addr} {H : Hp} : Same (hid S H) H := fun b o e => by
  by_cases h : b ∈ S
  · rw [hid, if_pos h] at e
    cases e
  · rwa [hid_at h] at e
/-- all but S is kept -/
def ButS (S : List Addr) (H H' : Hp) : Prop := ∀ b o, b ∉ S → H b = some o → H' b = some o
theorem ButS.trans {S : List Addr} {H H1 H2 : Hp} (a : ButS S H H1) (b : ButS S H1 H2) : ButS S H H2 := fun c o n e => b c o n (a c o n e)
theorem ButS.refl (S : List Addr) (H : Hp) : ButS S H H := fun _ _ _ e => e
theorem ButS.of {S : List Addr} {H H' : Hp} (s : Same H H') : ButS S H H' := fun b o _ e => s b o e
theorem ButS.but {q : Addr} {H H' : Hp} (b : But q H H') : ButS [q] H H' := fun c o n e => b c o (fun z => n (by rw [z]; exact List.mem_singleton.mpr rfl)) e
theorem ButS.up {S T : List Addr} {H H' : Hp} (b : ButS S H H') (i : ∀ a ∈ S, a ∈ T) : ButS T H H' := fun c o n e => b c o (fun z => n (i c z)) e
theorem hid_but {S : List Addr} {H H' : Hp} (k : ButS S H H') : Same (hid S H) (hid S H') := fun b o e => by
  by_cases h : b ∈ S
  · rw [hid, if_pos h] at e
    cases e
  · rw [hid_at h] at e ⊢
    exact k b o h e
structure OdV (K : PySem.W.Frag) (S : List Addr) (H : Hp) (n : Nat) (x : V) (d : PyData) : Prop where
  dq : Dq K (hid S H) x d
  sd : Shd d (n + 2) (2000 + 200 * n)
  ty : NoInt K (hid S H) x ∨ ∃ i : Int, x = .int i
theorem Shd.up {d : PyData} {n m k l : Nat} (s : Shd d n k) (h1 : n ≤ m) (h2 : k ≤ l) : Shd d m l := ⟨s.sh, Nat.le_trans s.dp h1, s.lv, Nat.le_trans s.wt h2, s.cp⟩
theorem shd_intB {i : Int} (h : i.natAbs < 10 ^ 35) : Shd (.int i) 0 120 := by
  have hl : i.natAbs.log2 < 120 := by
    by_cases z : i.natAbs = 0
    · rw [z]; decide
    · exact (Nat.log2_lt z).mpr (Nat.lt_of_lt_of_le h (by decide))
  refine ⟨?_, by simp only [PyData.depth]; omega, ?_, ?_, by rw [cpD]⟩
  · simp only [PyData.showable, decide_eq_true_eq]
    omega
  · have e := int_text_length_le10 (a := i) (k := 35) (by decide) h
    have e2 : (PyData.shown (.int i)).length ≤ 40 := by
      show (Str.ofString (toString i)).length ≤ 40
      rw [PySem.ofString_length]
      omega
    simp only [PyData.leavesShort]
    exact decide_eq_true e2
  · simp only [PyData.weight]
    split <;> omega
theorem shd_int {i : Int} (h : i.natAbs < 10 ^ 20) : Shd (.int i) 0 120 := shd_intB (Nat.lt_trans h (by decide))
section
variable {K : PySem.W.Frag} {S : List Addr} {H H' : Hp} {n : Nat} {x : V} {d : PyData}
theorem OdV.keep (v : OdV K S H n x d) (k : ButS S H H') : OdV K S H' n x d := ⟨v.dq.same (hid_but k), v.sd, v.ty.elim (fun z => .inl (z.same (hid_but k))) .inr⟩
theorem OdV.same (v : OdV K S H n x d) (s : Same H H') : OdV K S H' n x d := v.keep (.of s)
theorem OdV.up {m : Nat} (v : OdV K S H n x d) (h : n ≤ m) : OdV K S H m x d := ⟨v.dq, v.sd.up (by omega) (by omega), v.ty⟩
theorem OdV.now (v : OdV K S H n x d) : Dq K H x d := v.dq.same hid_sub
theorem OdV.tyn (v : OdV K S H n x d) : NoInt K H x ∨ ∃ i : Int, x = .int i := v.ty.elim (fun z => .inl (z.same hid_sub)) .inr
theorem OdV.int {i : Int} (h : i.natAbs < 10 ^ 20) : OdV K S H 0 (.int i) (.int i) := ⟨.int i, (shd_int h).up (by omega) (by omega), .inr ⟨i, rfl⟩⟩
theorem OdV.intB {i : Int} (h : i.natAbs < 10 ^ 35) : OdV K S H 0 (.int i) (.int i) := ⟨.int i, (shd_intB h).up (by omega) (by omega), .inr ⟨i, rfl⟩⟩
theorem OdV.bl (b : Bool) : OdV K S H 0 (.bl b) (.bool b) := ⟨.bl b, by cases b <;> exact ⟨by decide +kernel, by decide +kernel, by decide +kernel, by decide +kernel, by decide +kernel⟩, .inl (.bl b)⟩
theorem OdV.non : OdV K S H 0 .non .none := ⟨.non, ⟨by decide +kernel, by decide +kernel, by decide +kernel, by decide +kernel, by decide +kernel⟩, .inl (.ty (.base .non) (by decide +kernel))⟩
theorem OdV.str (y : Str) (s : Shd (.str y) 2 2000) : OdV K S H 0 (.str y) (.str y) := ⟨.str y, s, .inl (.ty (.base (.str y)) (by decide +kernel))⟩
theorem OdV.tup {t : Addr} {xs : List V} {ds : List PyData} (e : H t = some (.tup xs)) (nt : t ∉ S) (a : DqAll K (hid S H) xs ds) (s : Shd (.tuple ds) (n + 2) (2000 + 200 * n)) : OdV K S H n (.ref t) (.tuple ds) :=
  have e' : hid S H t = some (.tup xs) := (hid_at nt).trans e
  ⟨.tup (.inl (.inl e')) a, s, .inl (.ty (.base (.tup e')) (by decide +kernel))⟩
theorem OdV.lst {t : Addr} {xs : List V} {ds : List PyData} (e : H t = some (.lst xs)) (nt : t ∉ S) (a : DqAll K (hid S H) xs ds) (s : Shd (.list ds) (n + 2) (2000 + 200 * n)) : OdV K S H n (.ref t) (.list ds) :=
  have e' : hid S H t = some (.lst xs) := (hid_at nt).trans e
  ⟨.lst (.inl (.inl e')) a, s, .inl (.ty (.base (.lst e')) (by decide +kernel))⟩
theorem OdV.dct {t : Addr} {kvs : List (Key × V)} {ds : List (PyData × PyData)} (e : H t = some (.dK kvs)) (nt : t ∉ S) (a : DqKvs K (hid S H) kvs ds) (s : Shd (.dict ds) (n + 2) (2000 + 200 * n)) : OdV K S H n (.ref t) (.dict ds) :=
  have e' : hid S H t = some (.dK kvs) := (hid_at nt).trans e
  ⟨.dct (.inl e') a, s, .inl (.ty (.base (.dK e')) (by decide +kernel))⟩
theorem OdV.tup1 {t : Addr} (v : OdV K S H n x d) (e : H t = some (.tup [x])) (nt : t ∉ S) : OdV K S H (n + 1) (.ref t) (.tuple [d]) := .tup e nt (.cons v.dq .nil) (v.sd.tup1.up (by omega) (by omega))
theorem OdV.lst1 {t : Addr} (v : OdV K S H n x d) (e : H t = some (.lst [x])) (nt : t ∉ S) : OdV K S H (n + 1) (.ref t) (.list [d]) := .lst e nt (.cons v.dq .nil) (v.sd.lst1.up (by omega) (by omega))
theorem OdV.dct1 {t : Addr} (v : OdV K S H n x d) (e : H t = some (.dK [(Sum.inr "a", x)])) (nt : t ∉ S) : OdV K S H (n + 1) (.ref t) (.dict [(.str "a", d)]) := .dct e nt (.cons (k := Sum.inr "a") v.dq .nil) (v.sd.dct1.up (by omega) (by omega))
theorem Shd.tup2 {m k : Nat} (s : Shd d m k) : Shd (.tuple [d, .int 1]) (m + 1) (k + 200) := by
  obtain ⟨h1, h2, h3, h4, h5⟩ := s
  have a1 : (PyData.int 1).showable = true := by decide +kernel
  have a2 : (PyData.int 1).depth = 0 := by decide +kernel
  have a3 : (PyData.int 1).leavesShort 40 = true := by decide +kernel
  have a4 : (PyData.int 1).weight ≤ 100 := by decide +kernel
  refine ⟨by rw [PyData.showable, PyData.showableAll, PyData.showableAll, PyData.showableAll, h1, a1]; rfl, by simp [PyData.depth, PyData.depthAll]; omega, by rw [PyData.leavesShort, PyData.leavesShortAll, PyData.leavesShortAll, PyData.leavesShortAll, a3, h3]; rfl, by simp [PyData.weight, PyData.weightAll]; simp [PyData.weight] at a4; omega, by simp [cpD, cpAll, h5]⟩
theorem OdV.tup2 {t : Addr} (v : OdV K S H n x d) (e : H t = some (.tup [x, .int 1])) (nt : t ∉ S) : OdV K S H (n + 1) (.ref t) (.tuple [d, .int 1]) := .tup e nt (.cons v.dq (.cons (.int 1) .nil)) (v.sd.tup2.up (by omega) (by omega))
end
theorem same_upd2 {H : Hp} {a : Addr} {o o' : HO} (n : H a = none) : Same H (upd (upd H a o) a o') := fun b u e => by
  rw [upd_upd, upd_ne (ne_of_none e n)]
  exact e
/-- the list of what is drawn from -/
def OdL (K : PySem.W.Frag) (S : List Addr) (H : Hp) (xs : List V) : Prop := ∀ x ∈ xs, ∃ d, OdV K S H 0 x d
theorem OdL.keep {K : PySem.W.Frag} {S : List Addr} {H H' : Hp} {xs : List V} (h : OdL K S H xs) (k : ButS S H H') : OdL K S H' xs := fun x hx => (h x hx).elim fun d o => ⟨d, o.keep k⟩
theorem OdL.app {K : PySem.W.Frag} {S : List Addr} {H : Hp} {xs ys : List V} (h : OdL K S H xs) (h' : OdL K S H ys) : OdL K S H (xs ++ ys) := fun x hx => (List.mem_append.mp hx).elim (h x) (h' x)
theorem OdL.nil {K : PySem.W.Frag} {S : List Addr} {H : Hp} : OdL K S H [] := fun x hx => nomatch hx
theorem OdL.cons {K : PySem.W.Frag} {S : List Addr} {H : Hp} {x : V} {xs : List V} {d : PyData} (o : OdV K S H 0 x d) (h : OdL K S H xs) : OdL K S H (x :: xs) := fun y hy => (List.mem_cons.mp hy).elim (fun e => ⟨d, e ▸ o⟩) (h y)
theorem OdL.ints {K : PySem.W.Frag} {S : List Addr} {H : Hp} : ∀ {ns : List Int}, (∀ n ∈ ns, n.natAbs < 10 ^ 20) → OdL K S H (ns.map V.int)
  | [], _ => .nil
  | n :: r, h => .cons (.int (h n (List.mem_cons_self ..))) (OdL.ints fun m hm => h m (List.mem_cons_of_mem _ hm))
end Ph

set_option maxHeartbeats 4000000
/-! PhTry: try .. except X as e: the error kept as a value behind the suite; isinstance and fields of it there. -/
namespace Ph
open PySem PySem.Spec PyProof.Rows L2
/-- a caught error that a name still holds: its class, its dict -/
def ExK (cls : Value) (d : Option Addr) (a : Addr) : HO := .ext fun g => ∃ (ob : Obj) (fs : Array Value), g.get? a = some ob ∧ Zc cls d ob ∧ ob.data = .fields fs
section
variable {X : Cx} {pins : List (Addr × Obj)} {σ : L2.St} {H : Hp} {s : Shared}
theorem exK_at {cls : Value} {d : Option Addr} {a : Addr} (I : Inv X pins σ H s) (e : H a = some (ExK cls d a)) : ∃ ob, s.heap.get? a = some ob ∧ Zc cls d ob ∧ ∃ fs, ob.data = .fields fs := by
  obtain ⟨⟨ob, fs, e1, e2, e3⟩, _⟩ := I.hok a _ e
  exact ⟨ob, e1, e2, fs, e3⟩
/-- an object that came up in this call is tracked from now on -/
theorem track_of {a : Addr} {ob : Obj} {fs : Array Value} {cls : Value} {d : Option Addr} (I : Inv X ((a, ob) :: pins) σ H s) (z : Zc cls d ob) (hf : ob.data = .fields fs) (fresh : X.s_0.heap.get? a = none) (apart : ∀ p ∈ X.pn ++ pins, p.1 ≠ a) :
    Inv X pins σ (upd H a (ExK cls d a)) s := by
  obtain ⟨get, none_, notL, _, _⟩ := I.pin (a, ob) (List.mem_append_right _ List.mem_cons_self)
  have keepH : ∀ {b u}, H b = some u → upd H a (ExK cls d a) b = some u := fun {b u} e => (upd_ne (ne_of_none e none_)).trans e
  have notC : ∀ y c, X.env.cells.lookup y = some c → c ≠ a := fun y c e q => by
    obtain ⟨v, o2, g2, d2⟩ := I.cell y c e
    rw [q, get] at g2
    cases g2
    rw [hf] at d2
    cases d2
  have old : ∀ {b o}, X.s_0.heap.get? b = some o → b ≠ a := fun {b o} e q => by
    rw [q, fresh] at e
    cases e
  exact {
    ok := I.ok
    os := I.os
    bare := I.bare
    base := {
      keep := I.base.keep
      slot := I.base.slot
      free := fun b o e n x => (upd_ne (old e)).trans (I.base.free b o e n x)
      there := I.base.there
      tups := fun b xs e => keepH (I.base.tups b xs e)
      frzs := fun b o u e => keepH (I.base.frzs b o u e)
      tbls := fun b ps e => (I.base.tbls b ps e).elim fun m q => ⟨m, keepH q⟩ }
    loc := I.loc
    cell := I.cell
    free := (upd_ne notL.symm).trans I.free
    freeC := fun y c e => (upd_ne (notC y c e)).trans (I.freeC y c e)
    pin := fun p hp => by
      obtain ⟨q1, q2, q3⟩ := I.pin p ((List.mem_append.mp hp).elim (fun y => List.mem_append_left _ y) fun y => List.mem_append_right _ (List.mem_cons_of_mem _ y))
      exact ⟨q1, (upd_ne (apart p hp)).trans q2, q3⟩
    hok := fun b u e => by
      by_cases h : b = a
      · subst h
        rw [upd_same] at e
        cases e
        exact ⟨⟨ob, fs, get, z, hf⟩, ⟨ob, get⟩, fun g1 g2 ⟨o2, f2, y1, y2⟩ y3 => ⟨o2, f2, y3 _ y1, y2⟩⟩
      · rw [upd_ne h] at e
        exact (I.hok b u e).stay (fun _ _ _ y => y) (fun _ y => keepH y) fun _ _ y => keepH y
    len := I.len }
end
/-- the wish of 'except X as n' (slot i), the error still known behind the suite -/
def wKept (K : PySem.W.Frag) (c : Value) (i : Nat) (ts : Addr → Value → Option Addr → TS) (D : Ends) : WX := fun cls d σ H =>
  PySem.W.exmOne K cls c = some true ∧ ∀ a, H a = none → ts a cls d ⟨fun σ' H' => H' a = none → D.nx (σ'.set i none) (upd H' a (ExK cls d a)), D.rt, fun σ' H' => D.bk (σ'.set i none) H', fun σ' H' => D.ct (σ'.set i none) H'⟩ (σ.set i (some (.ref a))) H
section
variable {X : Cx} {x n : Str} {c : Value} {i : Nat} {body suite : List Stmt} {st₀ : Stmt} {np pos pos' : Pos} {tb : WX → TS} {ts : Addr → Value → Option Addr → TS}
theorem ps_try_keep (stk : X.stack = X.env :: X.outer) (fr : X.env.frame = some X.env.locals) (hex : X.ex = []) (nd : X.N.Nodup) (slot : X.N[i]? = some n) (kd : X.env.kindOf n = some .local) (hc : Names X x c)
    (hbody : ∀ (W : WX) (pn : List (Addr × Obj)) (xe : Value → Shared → Prop), Takes (X.tr pn xe) W → PassesOwn (model X.prog X.w) X.A X.env xe → PSs (X.tr pn xe) body (tb W))
    (hsuite : ∀ (a : Addr) (oe : Obj) (cls : Value) (d : Option Addr) (pn : List (Addr × Obj)), Zc cls d oe → (∃ fs, oe.data = .fields fs) → PSs (X.suite a ((a, oe) :: pn)) (st₀ :: suite) (ts a cls d)) :
    PS X (.Try body [.ExceptHandler (some (.Name x np)) (some n) (st₀ :: suite) pos'] [] [] pos) (fun D σ H => tb (wKept X.K c i ts D) D σ H) := by
  constructor
  intro pins s σ H D I want
  have allFr : X.A.frames = some (X.env :: X.outer) := by rw [← stk]; exact I.ok.frames
  let Xt : Value → Shared → Prop := fun e t1 => wpAny (model X.prog X.w) X.A (noteFrame e X.env) (fun _ t2 => wpAny (model X.prog X.w) X.A (setFlight e none) (fun _ t3 =>
    wpAny (model X.prog X.w) X.A (handleBy e X.env [.ExceptHandler (some (.Name x np)) (some n) (st₀ :: suite) pos']) (SP X pins D) X.xe t3) X.xe t2) X.xe t1
  have catch_ : Takes (X.tr (X.pn ++ pins) Xt) (wKept X.K c i ts D) := by
    rintro u s' ⟨a, B, sI, pins', σ', H', cls, d, rfl, J', inB, up, sky, na, hos, bare, hexm, hyes⟩
    have J : Inv X pins σ' H' sI := J'.ofTry I.ok
    have sky2 : Sky B (X.env :: X.outer) a (Zc cls d) X.env.locals s'.heap := stk ▸ sky
    show wpAny (model X.prog X.w) X.A (noteFrame (.ref a) X.env) _ _ _
    refine Sky.land Zc.steady allFr fr sky2 fun g3 fly3 up3 => ?_
    have J3 : Inv X pins σ' H' { s' with heap := g3 } := J.landed inB fly3.1 (up.trans up3) hos bare
    obtain ⟨o3, f3, at3, z3, d3⟩ := fly3.there
    have offFr : ∀ {g : Heap} {o : Obj} {f : Array Value}, g.FunFrames B (X.env :: X.outer) → g.get? a = some o → o.data = .fields f → a ∉ frs (X.env :: X.outer) := fun ff e dd hm => by
      obtain ⟨_, o2, e2, no2⟩ := ff.mem hm
      rw [e] at e2
      cases e2
      exact no2 _ dd
    have off := offFr fly3.2.2.1 at3 d3
    have offL : a ≠ X.env.locals := fun z => off (List.mem_filterMap.mpr ⟨X.env, List.mem_cons_self, by rw [fr, z]⟩)
    have offO : a ∉ X.fs := fun hm => (List.mem_filterMap.mp hm).elim fun e q => off (List.mem_filterMap.mpr ⟨e, List.mem_cons_of_mem _ q.1, q.2⟩)
    have newI : sI.heap.get? a = none := by
      cases q : sI.heap.get? a with
      | none => rfl
      | some o =>
        have := inB a o q (by rw [stk]; exact off)
        rw [fly3.2.1] at this
        cases this
    have new0 : X.s_0.heap.get? a = none := by
      cases q : X.s_0.heap.get? a with
      | none => rfl
      | some o =>
        obtain ⟨o2, q2⟩ := J.base.there a o q (by rw [hex]; exact fun y => nomatch y)
        rw [newI] at q2
        cases q2
    have apart : ∀ p ∈ X.pn ++ pins, p.1 ≠ a := fun p hp q => by
      have := (J.pin p hp).1
      rw [q, newI] at this
      cases this
    have S3 := J3.suite at3 d3 na offL offO
    refine wpAny_handleBy_cons (codeAny_handlers_test ?_) (fun q => nomatch q)
    have typ : PySem.W.Looks (model X.prog X.w) g3 (typeOf (.ref a)) cls := fun A Q E s k q => wpAny_typeOf_ref (k _ _ at3) (z3.1.symm ▸ q)
    have asks := PySem.W.exm_one (M := model X.prog X.w) J3.kIn typ hexm
    have named : ∀ {Q E : Value → Shared → Prop}, Q c { s' with heap := g3 } → wpAny (model X.prog X.w) (X.A.mark (some (.ref a))) (eval (.Name x np) X.env) Q E { s' with heap := g3 } := fun {Q E} q => by
      rcases hc with ⟨gl, dbg, own | ⟨out, boot, nn⟩⟩
      · exact ld_glob (X := X.suite a ((a, o3) :: (X.pn ++ pins))) S3 gl own q dbg
      · exact ld_blt (X := X.suite a ((a, o3) :: (X.pn ++ pins))) S3 gl out boot q nn dbg
    refine named (asks.here ?_)
    refine codeAny_handlers_suite_as (HandSPX.lands_againZ fly3 fun g4 fly4 up4 => ?_)
    have J4 : Inv X pins σ' H' { s' with heap := g4 } := J.landed inB fly4.1 ((up.trans up3).trans up4) hos bare
    obtain ⟨o4, f4, at4, z4, d4⟩ := fly4.there
    have S4 := J4.suite at4 d4 na offL offO
    refine store_ok (X := X.suite a ((a, o4) :: (X.pn ++ pins))) (v := .ref a) S4 nd slot (.inl kd) rfl (fun s5 S5 => ?_) (.inr kd)
    refine wpAny_mono ((hsuite a o4 cls d (X.pn ++ pins) z4 ⟨_, d4⟩).run [] s5 _ H' _ S5 (hyes a na)) (fun flow s6 out => ?_) (fun _ _ y => y.elim)
    have plain : ∀ {σ6 : L2.St} {H6 : Hp} {Q : Shared → Prop}, Inv (X.suite a ((a, o4) :: (X.pn ++ pins))) [] σ6 H6 s6 → (∀ s7, Inv X pins (σ6.set i none) H6 s7 → Q s7) →
        wpAny (model X.prog X.w) X.A (do bindName X.env n .none; unbindBehindTheSuite X.env n pos') (fun _ s7 => Q s7) X.xe s6 := fun S6 hq => gone_ok (S6.unsuite I.ok) nd slot kd hq
    match flow, out with
    | .next, ⟨σ6, H6, S6, q6⟩ =>
      have P6 : Inv X ((a, o4) :: pins) σ6 H6 s6 := (S6.unsuite I.ok).pins_of fun p hp => S6.pin p (List.mem_append_left _ ((List.mem_cons.mp hp).elim (fun e => e ▸ List.mem_cons_self) fun e => List.mem_cons_of_mem _ (List.mem_append_right _ e)))
      exact gone_ok P6 nd slot kd fun s7 J7 => ⟨_, _, track_of J7 z4 d4 new0 apart, q6 (J7.pin (a, o4) (List.mem_append_right _ List.mem_cons_self)).2.1⟩
    | .brk, ⟨σ6, H6, S6, q6⟩ => exact plain S6 fun s7 J7 => ⟨_, _, J7, q6⟩
    | .cont, ⟨σ6, H6, S6, q6⟩ => exact plain S6 fun s7 J7 => ⟨_, _, J7, q6⟩
    | .ret u, ⟨v6, σ6, H6, S6, r6, q6⟩ => exact plain S6 fun s7 J7 => ⟨_, _, _, J7, r6, q6⟩
  refine wpAny_Try_except (wpAny_mono ((hbody _ _ _ catch_ PassesOwn.looking).run [] s σ H D (I.toTry _) want) (fun f s1 out => ?_) fun e s1 he => he)
  match f, out with
  | .next, ⟨σ', H', J, q⟩ => exact wpAny_execs_nil ⟨_, _, J.ofTry I.ok, q⟩
  | .brk, ⟨σ', H', J, q⟩ => exact ⟨_, _, J.ofTry I.ok, q⟩
  | .cont, ⟨σ', H', J, q⟩ => exact ⟨_, _, J.ofTry I.ok, q⟩
  | .ret u, ⟨v, σ', H', J, r, q⟩ => exact ⟨_, _, _, J.ofTry I.ok, r, q⟩
end
/-! ### isinstance and fields of a kept error -/
section
variable {X : Cx}
theorem inst_at {h : Heap} {a D : Addr} {d : Option Addr} {oe : Obj} {P : Program} {w : World} {H : Hp} (hok : HOk P w H h) (hget : h.get? a = some oe) (hz : Zc (.ref D) d oe) (hf : ∃ vs, oe.data = .fields vs) (k : DictK H d) : ∃ od, PySem.W.InstAt h a oe D od := by
  obtain ⟨vs, hv⟩ := hf
  have no : PySem.W.notCls oe = true := by
    unfold PySem.W.notCls
    rw [hv]
  rcases k with rfl | ⟨dd, fs, rfl, e⟩
  · exact ⟨none, hget, hz.1, no, by rw [hz.2]; trivial⟩
  · obtain ⟨mA, hns, _⟩ : ObjOk P w H h dd (.xd fs) := hok dd _ e
    obtain ⟨od, ho, _⟩ := lookIn_ns hns
    exact ⟨some od, hget, hz.1, no, by rw [hz.2]; exact ho⟩
/-- isinstance(e, c), e a kept error -/
def rIsK (K : PySem.W.Frag) : List V → Hp → VK → Prop := fun xs H Q => ∃ (a D : Addr) (d : Option Addr) (c : V) (cv : Value) (b : Bool), xs = [.ref a, c] ∧ H a = some (ExK (.ref D) d a) ∧ ExcC K D ∧ DictK H d ∧ (∀ u, RelV c u → u = cv) ∧ PySem.W.kitOne K (.ref D) cv = some b ∧ Q (.bl b) H
theorem call_isK : CallR X (.builtin "isinstance") (rIsK X.K) := by
  intro pins s σ H xs us Q I r h
  obtain ⟨a, D, d, c, cv, b, rfl, ea, C, k, hcv, e, q⟩ := h
  obtain ⟨ua, uc, rfl, ra, rc⟩ : ∃ ua uc, us = [ua, uc] ∧ RelV (.ref a) ua ∧ RelV c uc := by
    cases r with
    | cons r1 r2 => cases r2 with
      | cons r3 r4 =>
        cases r4
        exact ⟨_, _, rfl, r1, r3⟩
  obtain rfl : ua = Value.ref a := ra
  obtain rfl := hcv _ rc
  obtain ⟨oe, hget, hz, hf⟩ := exK_at I ea
  obtain ⟨od, J⟩ := inst_at I.hok hget hz hf k
  have cl : (PySem.W.clsIn X.K D).isSome = true := by
    obtain ⟨cd, hc, _⟩ := PySem.W.any_some C.hd
    rw [hc]
    rfl
  exact PySem.W.kia_one (PySem.W.kitx_exc (od := od) cl C.hg C.hk C.hs C.ha C.hn C.ht C.hm) I.kIn J e (fun z => nomatch z) fun tk => ⟨.bl b, H, I.kept (t' := tk) fun _ _ z => z, rfl, q⟩
/-- e.f, e a kept error of the class C -/
def tXk (C : Addr) (f : Str) (te : TE) : TE := fun σ H Q => te σ H fun x H1 => ∃ (a dd : Addr) (fs : List (Str × V)) (v : V), x = .ref a ∧ H1 a = some (ExK (.ref C) (some dd) a) ∧ H1 dd = some (.xd fs) ∧ fs.lookup f = some v ∧ Q v H1
theorem pe_xk {C : Addr} {e : Expr} {te : TE} {pos : Pos} {n : Str} (T : XfC X.K C) (hno : PySem.W.findIn X.K (.ref C) n = some none) (he : PE X e te) (hb : attributeBase e n X.env (eval e X.env) = eval e X.env := by rfl) : PE X (.Attribute e n pos) (tXk C n te) := by
  constructor
  intro pins s σ H Q I h
  refine attr_of hb (thn (he.run pins s σ H _ I h) fun u s1 ⟨x, H1, I1, rx, a, dd, fs, v, ex, ea, ed, l, q⟩ => ?_)
  subst ex
  obtain rfl : u = Value.ref a := rx
  obtain ⟨oe, hget, hz, vs, hd⟩ := exK_at I1 ea
  obtain ⟨mA, hns, hr⟩ : ObjOk X.prog X.w H1 s1.heap dd (.xd fs) := I1.hok dd _ ed
  obtain ⟨od, ho, hl⟩ := lookIn_ns hns
  obtain ⟨u, hu, ru⟩ := RelO.some_of (v := v) (o := mA n) (by rw [← l]; exact hr n)
  have J : PySem.W.InstAt s1.heap a oe C (some od) := ⟨hget, hz.1, by unfold PySem.W.notCls; rw [hd], by rw [hz.2]; exact ho⟩
  exact HandSPX.exc_get I1.kIn J T.ga T.gg T.exC (PySem.W.findObj_own T.hdC hno rfl (by rw [hl, hu])) (handed_of ru) ⟨v, H1, I1.tok _, ru, q⟩
end
end Ph

set_option maxHeartbeats 4000000
/-! PhTab: the end of a law whose defs make lambdas or defs (their code objects' tables are tracked), the guards known. -/
namespace Ph
open PySem PySem.Spec PyProof.Rows L2 LamX
/-- code objects and their tables: empty at the start, no part of the written part -/
structure TabsE (K : PySem.W.Frag) (h : Heap) (cs : List (Addr × Addr)) : Prop where
  em : ∀ p ∈ cs, h.get? p.2 = some { cls := .none, data := .fields #[] }
  out : ∀ p ∈ cs, K.lookup p.2 = none
  cd : ∀ p ∈ cs, PySem.W.CodeHd h p.1 p.2
theorem TabsE.at {K : PySem.W.Frag} {h : Heap} {cs : List (Addr × Addr)} (T : TabsE K h cs) {b : Addr} (hb : b ∈ cs.map (·.2)) : h.get? b = some { cls := .none, data := .fields #[] } ∧ K.lookup b = none ∧ ∃ c, PySem.W.CodeHd h c b := by
  obtain ⟨p, hp, rfl⟩ := List.mem_map.mp hb
  exact ⟨T.em p hp, T.out p hp, p.1, T.cd p hp⟩
section
variable {P : Program} {w : World} {K : PySem.W.Frag} {mg mb : Str → Option Value} {k : Nat} {fa a : Addr} {fd : FuncData} {x : Str} {sp : Sp} {s₁ : Shared} {vs : List Value} {ns : List Int} {cs : List (Addr × Addr)}
theorem end_coreT (T : TabsE K s₁.heap cs) (KX : K.In s₁.heap) (hns : s₁.heap.Ns mainGlobals mg) (hb : s₁.heap.Ns builtinsNs mb) (hbb : ∀ z : Str, z ≠ "__name__" → mb z = bootBuiltins z) (lim : s₁.heap.NoLimit) (gens : s₁.gens = #[])
    (hbm : ∃ (bm : Addr) (ob : Obj), mg "__builtins__" = some (.ref bm) ∧ bm ≠ builtinsNs ∧ s₁.heap.get? bm = some ob ∧ ob.cls = .type "module" ∧ ob.dict = some builtinsNs ∧ ob.data = .plain)
    (isList : ∃ (vz : Array Value) (nz : Nat), s₁.heap.get? a = some { cls := .type "list", data := .seq vz nz }) (room : Room k callerA) (F : ∀ base : Heap, K.In base → base.Ns mainGlobals mg → (∀ p ∈ cs, TabB base mg p.1 p.2) → FnG P w K mg base CX0 k fa fd [x] sp) (bnd : ∀ (s : Shared) (u : Value), BindsTo s fd ⟨[u], []⟩ [(x, u)])
    (H : Hp) (alone : ∀ b o, H b = some o → (b = a ∧ ∃ ob zs, o = .frz ob (.lst zs)) ∨ (b ∈ cs.map (·.2) ∧ o = .tbl #[])) (tabs : ∀ p ∈ cs, H p.2 = some (.tbl #[])) (ok : HOk P w H s₁.heap) (free : H a ≠ none → K.lookup a = none) (want : sp [.ref a] H (fun v _ => v = .bl true) fun _ _ _ => False) :
    codeAny (model P w) callerA (.call (.ref fa) ⟨[.ref a], []⟩) (LawEnd s₁) s₁ := by
  obtain ⟨vz, nz, ha⟩ := isList
  -- what is neither a list nor an empty table is not tracked
  have plain : ∀ {b : Addr} {o : Obj}, s₁.heap.get? b = some o → (∀ v m, o.data ≠ .seq v m) → o.data ≠ .fields #[] → H b = none := fun {b o} g n1 n2 => by
    cases z : H b with
    | none => rfl
    | some u =>
      rcases alone b u z with ⟨e, _⟩ | ⟨e, _⟩
      · rw [e, ha] at g
        cases g
        exact absurd rfl (n1 vz nz)
      · rw [(T.at e).1] at g
        cases g
        exact absurd rfl n2
  have dictFree : ∀ {b : Addr} {o : Obj} {es : Array DictEntry} {ep : Nat}, s₁.heap.get? b = some o → o.data = .dict es ep → H b = none := fun g d => plain g (fun v m z => by rw [d] at z; cases z) fun z => by rw [d] at z; cases z
  have ns2 : ∀ {b : Addr} {m : Str → Option Value}, s₁.heap.Ns b m → (hidT s₁.heap H).Ns b m := fun ⟨o, es, ep, g, d, rest⟩ => ⟨o, es, ep, hidT_get g (dictFree g d), d, rest⟩
  have kin : K.In (hidT s₁.heap H) := fun b o g => hidT_get (KX b o g) (by
    cases z : H b with
    | none => rfl
    | some u =>
      rcases alone b u z with ⟨e, _⟩ | ⟨e, _⟩
      · subst e
        rw [free (by rw [z]; exact fun q => nomatch q)] at g
        cases g
      · rw [(T.at e).2.1] at g
        cases g)
  have modu : L2.Mod K mg (hidT s₁.heap H) := ⟨kin, ns2 hns, ⟨mb, ns2 hb, hbb⟩, let ⟨mc, z1, z2⟩ := lim; ⟨mc, ns2 z1, z2⟩⟩
  have made : ∀ p ∈ cs, TabB (hidT s₁.heap H) mg p.1 p.2 := fun p hp => by
    constructor
    · obtain ⟨o, us, file, tf, flags, tg, inF, text, tt, e1, r1, r2, r3, rest⟩ := T.cd p hp
      refine ⟨o, us, file, tf, flags, tg, inF, text, tt, hidT_get e1 (plain e1 (fun v m z => by rw [r2] at z; cases z) fun z => ?_), r1, r2, r3, rest⟩
      rw [r2] at z
      cases z
      simp at r3
    · obtain ⟨bm, ob, b1, b2, b3, b4, b5, b6⟩ := hbm
      refine ⟨bm, ob, b1, b2, fun q => ?_, fun q => ?_, hidT_get b3 (plain b3 (fun v m z => by rw [b6] at z; cases z) fun z => by rw [b6] at z; cases z), b4, b5, b6⟩
      · obtain ⟨o, es, ep, e, hd, _⟩ := hns
        rw [q, e] at b3
        cases b3
        rw [hd] at b6
        cases b6
      · rw [q, T.em p hp] at b3
        cases b3
        cases b6
    · intro z
      obtain ⟨o, es, ep, e, hd, _⟩ := hns
      rw [z, T.em p hp] at e
      cases e
      cases hd
  have env : Env0 P w K mg (hidT s₁.heap H) callerA [] s₁ H := ⟨rfl, modu, fun b o g => of_hidT g, Nat.le_of_eq (hidT_size _ _), trivial, fun b hb => (List.not_mem_nil hb).elim, ok, .of_eq gens⟩
  refine codeAny_mono ((F _ kin (ns2 hns) made).go callerA [] s₁ H ⟨[.ref a], []⟩ [.ref a] [.ref a] _ _ rfl room env (bnd s₁ (.ref a)) (.cons rfl .nil) want) fun r s2 out => ?_
  match r, out with
  | .error _, out => exact out.elim
  | .ok (.ret u), ⟨v, H', os, bare, un, ok2, rel, good⟩ =>
    have good' : v = .bl true := good
    subst good'
    obtain rfl : u = Value.bool true := rel
    have fixed : ∀ {b : Addr} {o : Obj}, b ∉ cs.map (·.2) → s₁.heap.get? b = some o → s2.heap.get? b = some o := fun {b o} nb g => by
      cases z : H b with
      | none => exact un.keep b o g z (fun q => (List.not_mem_nil q).elim) (by simp)
      | some u =>
        rcases alone b u z with ⟨_, ob, zs, rfl⟩ | ⟨e, _⟩
        · obtain ⟨e1, _⟩ := ok b _ z
          obtain ⟨e2, _⟩ := ok2 b _ (un.frzs b ob _ z)
          rw [g] at e1
          cases e1
          exact e2
        · exact absurd e nb
    have more : ∀ {b : Addr}, b ∈ cs.map (·.2) → ∃ vs2 : Array Value, s2.heap.get? b = some { cls := .none, data := .fields vs2 } := fun {b} hb => by
      obtain ⟨p, hp, rfl⟩ := List.mem_map.mp hb
      obtain ⟨m2, z⟩ := un.tbls p.2 #[] (tabs p hp)
      exact ⟨_, ok2 p.2 _ z⟩
    refine ⟨rfl, ⟨fun b o g => ?_, fun b o g => ?_⟩, os, bare⟩
    · by_cases hb : b ∈ cs.map (·.2)
      · obtain ⟨em, _, c, cd⟩ := T.at hb
        obtain ⟨vs2, g2⟩ := more hb
        rw [em] at g
        cases g
        exact .inr (.inl ⟨(cd.tab em).isCodeTable, rfl, #[], vs2, rfl, by rw [Array.empty_append]; exact g2⟩)
      · exact .inl (fixed hb g)
    · by_cases hb : b ∈ cs.map (·.2)
      · exact (more hb).elim fun vs2 g2 => ⟨_, g2⟩
      · exact ⟨o, fixed hb g⟩
theorem end_callT (T : TabsE K s₁.heap cs) (KX : K.In s₁.heap) (hns : s₁.heap.Ns mainGlobals mg) (hb : s₁.heap.Ns builtinsNs mb) (hbb : ∀ z : Str, z ≠ "__name__" → mb z = bootBuiltins z) (lim : s₁.heap.NoLimit) (gens : s₁.gens = #[])
    (hbm : ∃ (bm : Addr) (ob : Obj), mg "__builtins__" = some (.ref bm) ∧ bm ≠ builtinsNs ∧ s₁.heap.get? bm = some ob ∧ ob.cls = .type "module" ∧ ob.dict = some builtinsNs ∧ ob.data = .plain)
    (ha : s₁.heap.get? a = some { cls := .type "list", data := .seq vs.toArray }) (hi : IntsAre vs ns) (hl : ns.length ≤ sizeLine) (room : Room k callerA) (F : ∀ base : Heap, K.In base → base.Ns mainGlobals mg → (∀ p ∈ cs, TabB base mg p.1 p.2) → FnG P w K mg base CX0 k fa fd [x] sp) (bnd : ∀ (s : Shared) (u : Value), BindsTo s fd ⟨[u], []⟩ [(x, u)])
    (want : ∀ H : Hp, (∀ p ∈ cs, H p.2 = some (.tbl #[])) → SqL K H a (ns.map V.int) → sp [.ref a] H (fun v _ => v = .bl true) fun _ _ _ => False) :
    codeAny (model P w) callerA (.call (.ref fa) ⟨[.ref a], []⟩) (LawEnd s₁) s₁ := by
  have notT : a ∉ cs.map (·.2) := fun z => by
    have g := (T.at z).1
    rw [ha] at g
    cases g
  have memT : ∀ p ∈ cs, p.2 ∈ cs.map (·.2) := fun p hp => List.mem_map_of_mem hp
  let HT : Hp := fun b => if b ∈ cs.map (·.2) then some (.tbl #[]) else none
  have HTy : ∀ {b}, b ∈ cs.map (·.2) → HT b = some (.tbl #[]) := fun h => if_pos h
  have HTn : ∀ {b}, b ∉ cs.map (·.2) → HT b = none := fun h => if_neg h
  cases lk : K.lookup a with
  | some o =>
    have g := KX a o lk
    rw [ha] at g
    cases g
    refine end_coreT T KX hns hb hbb lim gens hbm ⟨_, _, ha⟩ room F bnd HT (fun b o z => ?_) (fun p hp => HTy (memT p hp)) (fun b u z => ?_) (fun z => absurd (HTn notT) z) (want _ (fun p hp => HTy (memT p hp)) (.inr ⟨_, vs.toArray, _, lk, rfl, rfl, rfl, by rw [List.size_toArray, hi.length]; exact hl, by simpa using vals_ints hi⟩))
    · by_cases h : b ∈ cs.map (·.2)
      · exact .inr ⟨h, (Option.some.inj ((HTy h).symm.trans z)).symm⟩
      · rw [HTn h] at z
        cases z
    · by_cases h : b ∈ cs.map (·.2)
      · have e := Option.some.inj ((HTy h).symm.trans z)
        subst e
        exact (T.at h).1
      · rw [HTn h] at z
        cases z
  | none =>
    let HS : Hp := upd HT a (.frz { cls := .type "list", data := .seq vs.toArray } (.lst (ns.map V.int)))
    have onT : ∀ p ∈ cs, HS p.2 = some (.tbl #[]) := fun p hp => (upd_ne (fun z => notT (by rw [← z]; exact memT p hp))).trans (HTy (memT p hp))
    refine end_coreT T KX hns hb hbb lim gens hbm ⟨_, _, ha⟩ room F bnd HS (fun b o z => ?_) onT (fun b u z => ?_) (fun _ => lk) (want _ onT (.inl (.inr ⟨_, upd_same⟩)))
    · by_cases e : b = a
      · subst e
        have z' := Option.some.inj (upd_same.symm.trans z)
        exact .inl ⟨rfl, _, _, z'.symm⟩
      · have z1 : HT b = some o := (upd_ne e).symm.trans z
        by_cases h : b ∈ cs.map (·.2)
        · exact .inr ⟨h, (Option.some.inj ((HTy h).symm.trans z1)).symm⟩
        · rw [HTn h] at z1
          cases z1
    · by_cases e : b = a
      · subst e
        have z' := Option.some.inj (upd_same.symm.trans z)
        subst z'
        exact ⟨ha, by rw [List.length_map]; exact hl, vs, _, vals_ints hi, ha⟩
      · have z1 : HT b = some u := (upd_ne e).symm.trans z
        by_cases h : b ∈ cs.map (·.2)
        · have e2 := Option.some.inj ((HTy h).symm.trans z1)
          subst e2
          exact (T.at h).1
        · rw [HTn h] at z1
          cases z1
end
/-- what the head tells of the tables of the defs that are named -/
def TabsTold (q : Program) (K : PySem.W.Frag) (h : Heap) : Prop := ∀ (x : Str) (c P : Addr), ((recsOf q).find? fun e => e.name == x).isSome = true → PySem.W.tabIn K x = some (c, P) → PySem.W.CodeHd h c P ∧ h.get? P = some { cls := .none, data := .fields #[] }
theorem walkTG {l : PySem.W.OpenLaw} {n k : Nat} {q : Program} {loose : List Str} {XP : (Str → Option Value) → Heap → Prop} {YP : World → Heap → Prop} {d : DefRec} {K : Params → PySem.W.Frag} {sp : PySem.W.Frag → List (Addr × Addr) → Sp} {x : Str}
    (hn : l.most = some n) (hn2 : n ≤ sizeLine) (hdf : d.params.defaults = []) (room : Room k callerA) (hY : ∀ (w : World) (h : Heap), YP w h → (K w.params).In h)
    (F : ∀ (w : World) (mg : Str → Option Value) (fa : Addr) (h : Heap), (K w.params).In h → h.Ns mainGlobals mg → mg d.name = some (.ref fa) → TabsTold q (K w.params) h →
      ∃ (fd : FuncData) (cs : List (Addr × Addr)), TabsE (K w.params) h cs ∧ (∀ (s : Shared) (u : Value), BindsTo s fd ⟨[u], []⟩ [(x, u)]) ∧
        (∀ (H : Hp) (a : Addr) (ns : List Int), ns.length ≤ n → (∀ p ∈ cs, H p.2 = some (.tbl #[])) → SqL (K w.params) H a (ns.map V.int) → sp (K w.params) cs [.ref a] H (fun v _ => v = .bl true) fun _ _ _ => False) ∧
        ∀ base : Heap, (K w.params).In base → base.Ns mainGlobals mg → (∀ p ∈ cs, TabB base mg p.1 p.2) → FnG l.prog w (K w.params) mg base CX0 k fa fd [x] (sp (K w.params) cs)) :
    PySem.W.WalkO q loose XP YP l.row.toRowW d [] (fun f vs => PySem.call f vs) := by
  refine Att.attach_call hn hdf fun w s₀ s₁ mg mb fa o pm cd doc a vs ns G Y ho hd hcd hmg hobj hints hlen hg => ?_
  obtain ⟨fd, cs, T, bnd, want, hF⟩ := F w mg fa _ (hY w _ Y) G.T.g hmg fun y c P hr ht => by
    obtain ⟨d2, hd2⟩ := Option.isSome_iff_exists.mp hr
    exact PySem.W.tab_of G.T (hY w _ Y) hd2 ht
  exact end_callT T (hY w _ Y) G.T.g G.T.b G.T.builtins G.T.nolimit hg G.T.bmain hobj hints (Nat.le_trans hlen hn2) room hF bnd fun H hT hS => want H a ns hlen hT hS
end Ph

set_option maxHeartbeats 8000000
namespace Ph
open PySem PySem.Spec PyProof.Rows L2
def topS (i : Nat) : Stmt := PySem.Challenge.pw_pinnedheap_k38_chains_with_the_fewest_pa.main.body.getD i (.Pass ⟨0, 0, 0, 0⟩)
structure Fns (K : PySem.W.Frag) (mg : Str → Option Value) where
  N : Nm6 K mg
  nve : mg "ValueError" = none
  CHeapError : Addr
  gcHeapError : mg "HeapError" = some (.ref CHeapError)
  CBadChain : Addr
  gcBadChain : mg "BadChain" = some (.ref CBadChain)
  CBadPages : Addr
  gcBadPages : mg "BadPages" = some (.ref CBadPages)
  CBadSize : Addr
  gcBadSize : mg "BadSize" = some (.ref CBadSize)
  oxBadSize : OexC K CBadSize
  ecBadSize : ExcC K CBadSize
  xfBadSize : XfC K CBadSize
  nfBadSize_size : PySem.W.findIn K (.ref CBadSize) "size" = some none
  isBadSize_HeapError : PySem.W.kitOne K (.ref CBadSize) (.ref CHeapError) = some true
  isBadSize_BadChain : PySem.W.kitOne K (.ref CBadSize) (.ref CBadChain) = some false
  isBadSize_BadPages : PySem.W.kitOne K (.ref CBadSize) (.ref CBadPages) = some false
  isBadSize_BadSize : PySem.W.kitOne K (.ref CBadSize) (.ref CBadSize) = some true
  isBadSize_ValueError : PySem.W.kitOne K (.ref CBadSize) (.type "ValueError") = some true
  exBadSize : PySem.W.exmOne K (.ref CBadSize) (.ref CHeapError) = some true
  exBadSize_BadSize : PySem.W.exmOne K (.ref CBadSize) (.ref CBadSize) = some true
  k_MOST_SIZES : ∃ t : Tok, mg "MOST_SIZES" = some (.int 12 t)
  k_LARGEST_PAGE : ∃ t : Tok, mg "LARGEST_PAGE" = some (.int 4096 t)
  fBs : Addr
  fdBs : FuncData
  FBs : Fun K "__init__" "BadSize.__init__" (inClass (topS 7) 0) fBs fdBs
  bBs : Binds K fdBs ["self", "size"] []
  iBs : PySem.W.findIn K (.ref CBadSize) "__init__" = some (some (.ref fBs))
  tBs : PySem.W.typeIn K (.ref fBs) = some (.type "function")
  fI : Addr
  fdI : FuncData
  FI : Fun K "is_integer" "is_integer" (topS 1) fI fdI
  bI : Binds K fdI ["value"] []
  gI : mg "is_integer" = some (.ref fI)
  fDu : Addr
  fdDu : FuncData
  FDu : Fun K "divided_up" "divided_up" (topS 2) fDu fdDu
  bDu : Binds K fdDu ["number", "divisor"] []
  gDu : mg "divided_up" = some (.ref fDu)
  fMf : Addr
  fdMf : FuncData
  FMf : Fun K "may_follow" "may_follow" (topS 11) fMf fdMf
  bMf : Binds K fdMf ["larger", "size"] []
  gMf : mg "may_follow" = some (.ref fMf)
  fCo : Addr
  fdCo : FuncData
  FCo : Fun K "chains_of" "chains_of" (topS 12) fCo fdCo
  bCo : Binds K fdCo ["page"] []
  gCo : mg "chains_of" = some (.ref fCo)
  fCf : Addr
  fdCf : FuncData
  FCf : Fun K "chains_from" "chains_from" (topS 13) fCf fdCf
  bCf : Binds K fdCf ["begun", "page", "followers"] []
  gCf : mg "chains_from" = some (.ref fCf)
  fRs : Addr
  fdRs : FuncData
  FRs : Fun K "reaches" "reaches" (topS 15) fRs fdRs
  bRs : Binds K fdRs ["chain", "state"] []
  gRs : mg "reaches" = some (.ref fRs)
  fR : Addr
  fdR : FuncData
  FR : Fun K "reach" "reach" (topS 16) fR fdR
  bR : Binds K fdR ["state", "largest"] []
  gR : mg "reach" = some (.ref fR)
  fBo : Addr
  fdBo : FuncData
  FBo : Fun K "bounds" "bounds" (topS 18) fBo fdBo
  bBo : Binds K fdBo ["chain", "limit"] []
  gBo : mg "bounds" = some (.ref fBo)
  fNf : Addr
  fdNf : FuncData
  FNf : Fun K "numbers_from" "numbers_from" (topS 19) fNf fdNf
  bNf : Binds K fdNf ["chain", "limit", "reached"] []
  gNf : mg "numbers_from" = some (.ref fNf)
  fLw : Addr
  fdLw : FuncData
  FLw : Fun K "least_words" "least_words" (topS 20) fLw fdLw
  bLw : Binds K fdLw ["chain", "numbers", "size"] []
  gLw : mg "least_words" = some (.ref fLw)
  fPn : Addr
  fdPn : FuncData
  FPn : Fun K "pages_needed" "pages_needed" (topS 21) fPn fdPn
  bPn : Binds K fdPn ["chain", "limit"] []
  gPn : mg "pages_needed" = some (.ref fPn)
  fMl : Addr
  fdMl : FuncData
  FMl : Fun K "most_live" "most_live" (topS 23) fMl fdMl
  bMl : Binds K fdMl ["chain", "words"] []
  gMl : mg "most_live" = some (.ref fMl)
  fBr : Addr
  fdBr : FuncData
  FBr : Fun K "best_requests" "best_requests" (topS 24) fBr fdBr
  bBr : Binds K fdBr ["chain", "words"] []
  gBr : mg "best_requests" = some (.ref fBr)
  fLr : Addr
  fdLr : FuncData
  FLr : Fun K "least_requests" "least_requests" (topS 25) fLr fdLr
  bLr : Binds K fdLr ["chain"] []
  gLr : mg "least_requests" = some (.ref fLr)
  fEp : Addr
  fdEp : FuncData
  FEp : Fun K "enough_pages" "enough_pages" (topS 26) fEp fdEp
  bEp : Binds K fdEp ["chain", "words"] []
  gEp : mg "enough_pages" = some (.ref fEp)
  fBc : Addr
  fdBc : FuncData
  FBc : Fun K "best_chain" "best_chain" (topS 27) fBc fdBc
  bBc : Binds K fdBc ["page", "words"] []
  gBc : mg "best_chain" = some (.ref fBc)
  fFp : Addr
  fdFp : FuncData
  FFp : Fun K "fewest_pages" "fewest_pages" (topS 28) fFp fdFp
  bFp : Binds K fdFp ["chain", "words"] []
  gFp : mg "fewest_pages" = some (.ref fFp)
  fSl : Addr
  fdSl : FuncData
  FSl : Fun K "some_live" "some_live" (topS 29) fSl fdSl
  bSl : Binds K fdSl ["chain", "words"] []
  gSl : mg "some_live" = some (.ref fSl)
  fGa : Addr
  fdGa : FuncData
  FGa : Fun K "gain" "gain" (topS 30) fGa fdGa
  bGa : Binds K fdGa ["pair"] []
  gGa : mg "gain" = some (.ref fGa)
  fDw : Addr
  fdDw : FuncData
  FDw : Fun K "_law_pot" "_law_pot" (topS 32) fDw fdDw
  bDw : Binds K fdDw ["_law_script", "_law_index"] []
  gDw : mg "_law_pot" = some (.ref fDw)
  fNx : Addr
  fdNx : FuncData
  FNx : Fun K "_law_draw" "_law_draw" (topS 33) fNx fdNx
  bNx : Binds K fdNx ["_law_pot_here", "_law_count_here"] []
  gNx : mg "_law_draw" = some (.ref fNx)
  fPk : Addr
  fdPk : FuncData
  FPk : Fun K "_law_pick" "_law_pick" (topS 34) fPk fdPk
  bPk : Binds K fdPk ["_law_pot_here", "_law_some"] []
  gPk : mg "_law_pick" = some (.ref fPk)
  fEr : Addr
  fdEr : FuncData
  FEr : Fun K "_law_error" "_law_error" (topS 35) fEr fdEr
  bEr : Binds K fdEr ["_law_ask"] []
  gEr : mg "_law_error" = some (.ref fEr)
  fUp : Addr
  fdUp : FuncData
  FUp : Fun K "_law_count" "_law_count" (topS 36) fUp fdUp
  bUp : Binds K fdUp ["_law_words", "_law_many"] []
  gUp : mg "_law_count" = some (.ref fUp)
  fLb : Addr
  fdLb : FuncData
  FLb : Fun K "_law_bounds" "_law_bounds" (topS 37) fLb fdLb
  bLb : Binds K fdLb ["_law_sizes", "_law_cap"] []
  gLb : mg "_law_bounds" = some (.ref fLb)
  fLs : Addr
  fdLs : FuncData
  FLs : Fun K "_law_chains" "_law_chains" (topS 38) fLs fdLs
  bLs : Binds K fdLs ["_law_many"] []
  gLs : mg "_law_chains" = some (.ref fLs)
  fMo : Addr
  fdMo : FuncData
  FMo : Fun K "_law_most" "_law_most" (topS 39) fMo fdMo
  bMo : Binds K fdMo ["_law_sizes", "_law_words"] []
  gMo : mg "_law_most" = some (.ref fMo)
  fPr : Addr
  fdPr : FuncData
  FPr : Fun K "_law_page_right" "_law_page_right" (topS 40) fPr fdPr
  bPr : Binds K fdPr ["_law_many", "_law_words"] []
  gPr : mg "_law_page_right" = some (.ref fPr)
  fRe : Addr
  fdRe : FuncData
  FRe : Fun K "_law_refused" "_law_refused" (topS 41) fRe fdRe
  bRe : Binds K fdRe ["_law_many"] []
  gRe : mg "_law_refused" = some (.ref fRe)
  fLaw : Addr
  fdLaw : FuncData
  FLaw : Fun K "law" "law" (topS 42) fLaw fdLaw
  bLaw : Binds K fdLaw ["_law_script"] []
  gLaw : mg "law" = some (.ref fLaw)
  cRe : Addr
  pRe : Addr
  eRe : fdRe.code = .ref cRe
abbrev sBs : Stmt := (inClass (topS 7) 0)
abbrev scBsS : Stmt := sBs
abbrev scBsN : List Str := ["self", "size"]
theorem scBs : FnScope ["self", "size"] ["self", "size"] (defScope sBs) := ⟨rfl, rfl, rfl, by decide +kernel, rfl, by decide +kernel, by decide +kernel⟩
abbrev sI : Stmt := (topS 1)
abbrev scIS : Stmt := sI
abbrev scIN : List Str := ["value"]
theorem scI : FnScope ["value"] ["value"] (defScope sI) := ⟨rfl, rfl, rfl, by decide +kernel, rfl, by decide +kernel, by decide +kernel⟩
abbrev sDu : Stmt := (topS 2)
abbrev scDuS : Stmt := sDu
abbrev scDuN : List Str := ["number", "divisor"]
theorem scDu : FnScope ["number", "divisor"] ["number", "divisor"] (defScope sDu) := ⟨rfl, rfl, rfl, by decide +kernel, rfl, by decide +kernel, by decide +kernel⟩
abbrev sMf : Stmt := (topS 11)
abbrev scMfS : Stmt := sMf
abbrev scMfN : List Str := ["larger", "size"]
theorem scMf : FnScope ["larger", "size"] ["larger", "size"] (defScope sMf) := ⟨rfl, rfl, rfl, by decide +kernel, rfl, by decide +kernel, by decide +kernel⟩
abbrev sCo : Stmt := (topS 12)
abbrev scCoS : Stmt := sCo
abbrev scCoN : List Str := ["page", "divisors", "followers", "size", "larger"]
theorem scCo : FnScope ["page", "divisors", "followers", "size", "larger"] ["page"] (defScope sCo) := ⟨rfl, rfl, rfl, by decide +kernel, rfl, by decide +kernel, by decide +kernel⟩
abbrev sCf : Stmt := (topS 13)
abbrev scCfS : Stmt := sCf
abbrev scCfN : List Str := ["begun", "page", "followers", "found", "size"]
theorem scCf : FnScope ["begun", "page", "followers", "found", "size"] ["begun", "page", "followers"] (defScope sCf) := ⟨rfl, rfl, rfl, by decide +kernel, rfl, by decide +kernel, by decide +kernel⟩
abbrev sRs : Stmt := (topS 15)
abbrev scRsS : Stmt := sRs
abbrev scRsN : List Str := ["chain", "state", "largest"]
theorem scRs : FnScope ["chain", "state", "largest"] ["chain", "state"] (defScope sRs) := ⟨rfl, rfl, rfl, by decide +kernel, rfl, by decide +kernel, by decide +kernel⟩
abbrev sR : Stmt := (topS 16)
abbrev scRS : Stmt := sR
abbrev scRN : List Str := ["state", "largest", "address", "size"]
theorem scR : FnScope ["state", "largest", "address", "size"] ["state", "largest"] (defScope sR) := ⟨rfl, rfl, rfl, by decide +kernel, rfl, by decide +kernel, by decide +kernel⟩
abbrev sBo : Stmt := (topS 18)
abbrev scBoS : Stmt := sBo
abbrev scBoN : List Str := ["chain", "limit"]
theorem scBo : FnScope ["chain", "limit"] ["chain", "limit"] (defScope sBo) := ⟨rfl, rfl, rfl, by decide +kernel, rfl, by decide +kernel, by decide +kernel⟩
abbrev sNf : Stmt := (topS 19)
abbrev scNfS : Stmt := sNf
abbrev scNfN : List Str := ["chain", "limit", "reached", "numbers", "index", "size", "left", "chunks"]
theorem scNf : FnScope ["chain", "limit", "reached", "numbers", "index", "size", "left", "chunks"] ["chain", "limit", "reached"] (defScope sNf) := ⟨rfl, rfl, rfl, by decide +kernel, rfl, by decide +kernel, by decide +kernel⟩
abbrev sLw : Stmt := (topS 20)
abbrev scLwS : Stmt := sLw
abbrev scLwN : List Str := ["chain", "numbers", "size", "words", "before", "smaller", "number", "chunks"]
theorem scLw : FnScope ["chain", "numbers", "size", "words", "before", "smaller", "number", "chunks"] ["chain", "numbers", "size"] (defScope sLw) := ⟨rfl, rfl, rfl, by decide +kernel, rfl, by decide +kernel, by decide +kernel⟩
abbrev sPn : Stmt := (topS 21)
abbrev scPnS : Stmt := sPn
abbrev scPnN : List Str := ["chain", "limit"]
theorem scPn : FnScope ["chain", "limit"] ["chain", "limit"] (defScope sPn) := ⟨rfl, rfl, rfl, by decide +kernel, rfl, by decide +kernel, by decide +kernel⟩
abbrev sMl : Stmt := (topS 23)
abbrev scMlS : Stmt := sMl
abbrev scMlN : List Str := ["chain", "words"]
theorem scMl : FnScope ["chain", "words"] ["chain", "words"] (defScope sMl) := ⟨rfl, rfl, rfl, by decide +kernel, rfl, by decide +kernel, by decide +kernel⟩
abbrev sBr : Stmt := (topS 24)
abbrev scBrS : Stmt := sBr
abbrev scBrN : List Str := ["chain", "words", "requests", "best", "total", "request", "size"]
theorem scBr : FnScope ["chain", "words", "requests", "best", "total", "request", "size"] ["chain", "words"] (defScope sBr) := ⟨rfl, rfl, rfl, by decide +kernel, rfl, by decide +kernel, by decide +kernel⟩
abbrev sLr : Stmt := (topS 25)
abbrev scLrS : Stmt := sLr
abbrev scLrN : List Str := ["chain", "smaller", "size"]
theorem scLr : FnScope ["chain", "smaller", "size"] ["chain"] (defScope sLr) := ⟨rfl, rfl, rfl, by decide +kernel, rfl, by decide +kernel, by decide +kernel⟩
abbrev sEp : Stmt := (topS 26)
abbrev scEpS : Stmt := sEp
abbrev scEpN : List Str := ["chain", "words"]
theorem scEp : FnScope ["chain", "words"] ["chain", "words"] (defScope sEp) := ⟨rfl, rfl, rfl, by decide +kernel, rfl, by decide +kernel, by decide +kernel⟩
abbrev sBc : Stmt := (topS 27)
abbrev scBcS : Stmt := sBc
abbrev scBcN : List Str := ["page", "words", "best", "rows", "fewest", "many", "candidate", "found", "chain"]
theorem scBc : FnScope ["page", "words", "best", "rows", "fewest", "many", "candidate", "found", "chain"] ["page", "words"] (defScope sBc) := ⟨rfl, rfl, rfl, by decide +kernel, rfl, by decide +kernel, by decide +kernel⟩
abbrev sFp : Stmt := (topS 28)
abbrev scFpS : Stmt := sFp
abbrev scFpN : List Str := ["chain", "words"]
theorem scFp : FnScope ["chain", "words"] ["chain", "words"] (defScope sFp) := ⟨rfl, rfl, rfl, by decide +kernel, rfl, by decide +kernel, by decide +kernel⟩
abbrev sSl : Stmt := (topS 29)
abbrev scSlS : Stmt := sSl
abbrev scSlN : List Str := ["chain", "words", "live", "left", "request", "size"]
theorem scSl : FnScope ["chain", "words", "live", "left", "request", "size"] ["chain", "words"] (defScope sSl) := ⟨rfl, rfl, rfl, by decide +kernel, rfl, by decide +kernel, by decide +kernel⟩
abbrev sGa : Stmt := (topS 30)
abbrev scGaS : Stmt := sGa
abbrev scGaN : List Str := ["pair", "request", "size"]
theorem scGa : FnScope ["pair", "request", "size"] ["pair"] (defScope sGa) := ⟨rfl, rfl, rfl, by decide +kernel, rfl, by decide +kernel, by decide +kernel⟩
abbrev sDw : Stmt := (topS 32)
abbrev scDwS : Stmt := sDw
abbrev scDwN : List Str := ["_law_script", "_law_index", "_law_cell", "_law_own"]
theorem scDw : FnScope ["_law_script", "_law_index", "_law_cell", "_law_own"] ["_law_script", "_law_index"] (defScope sDw) := ⟨rfl, rfl, rfl, by decide +kernel, rfl, by decide +kernel, by decide +kernel⟩
abbrev sNx : Stmt := (topS 33)
abbrev scNxS : Stmt := sNx
abbrev scNxN : List Str := ["_law_pot_here", "_law_count_here", "_law_digit", "_law_mixed"]
theorem scNx : FnScope ["_law_pot_here", "_law_count_here", "_law_digit", "_law_mixed"] ["_law_pot_here", "_law_count_here"] (defScope sNx) := ⟨rfl, rfl, rfl, by decide +kernel, rfl, by decide +kernel, by decide +kernel⟩
abbrev sPk : Stmt := (topS 34)
abbrev scPkS : Stmt := sPk
abbrev scPkN : List Str := ["_law_pot_here", "_law_some"]
theorem scPk : FnScope ["_law_pot_here", "_law_some"] ["_law_pot_here", "_law_some"] (defScope sPk) := ⟨rfl, rfl, rfl, by decide +kernel, rfl, by decide +kernel, by decide +kernel⟩
abbrev sEr : Stmt := (topS 35)
abbrev scErS : Stmt := sEr
abbrev scErN : List Str := ["_law_ask", "_law_caught", "e"]
theorem scEr : FnScope ["_law_ask", "_law_caught", "e"] ["_law_ask"] (defScope sEr) := ⟨rfl, rfl, rfl, by decide +kernel, rfl, by decide +kernel, by decide +kernel⟩
abbrev sUp : Stmt := (topS 36)
abbrev scUpS : Stmt := sUp
abbrev scUpN : List Str := ["_law_words", "_law_many"]
theorem scUp : FnScope ["_law_words", "_law_many"] ["_law_words", "_law_many"] (defScope sUp) := ⟨rfl, rfl, rfl, by decide +kernel, rfl, by decide +kernel, by decide +kernel⟩
abbrev sLb : Stmt := (topS 37)
abbrev scLbS : Stmt := sLb
abbrev scLbN : List Str := ["_law_sizes", "_law_cap", "_law_numbers", "_law_many", "_law_low", "_law_at", "_law_number", "_law_ahead"]
theorem scLb : FnScope ["_law_sizes", "_law_cap", "_law_numbers", "_law_many", "_law_low", "_law_at", "_law_number", "_law_ahead"] ["_law_sizes", "_law_cap"] (defScope sLb) := ⟨rfl, rfl, rfl, by decide +kernel, rfl, by decide +kernel, by decide +kernel⟩
abbrev sLs : Stmt := (topS 38)
abbrev scLsS : Stmt := sLs
abbrev scLsN : List Str := ["_law_many", "_law_found", "_law_smaller", "_law_some"]
theorem scLs : FnScope ["_law_many", "_law_found", "_law_smaller", "_law_some"] ["_law_many"] (defScope sLs) := ⟨rfl, rfl, rfl, by decide +kernel, rfl, by decide +kernel, by decide +kernel⟩
abbrev sMo : Stmt := (topS 39)
abbrev scMoS : Stmt := sMo
abbrev scMoN : List Str := ["_law_sizes", "_law_words", "_law_found", "_law_steps", "_law_smaller", "_law_many", "_law_total", "_law_some", "_law_least"]
theorem scMo : FnScope ["_law_sizes", "_law_words", "_law_found", "_law_steps", "_law_smaller", "_law_many", "_law_total", "_law_some", "_law_least"] ["_law_sizes", "_law_words"] (defScope sMo) := ⟨rfl, rfl, rfl, by decide +kernel, rfl, by decide +kernel, by decide +kernel⟩
abbrev sPr : Stmt := (topS 40)
abbrev scPrS : Stmt := sPr
abbrev scPrN : List Str := ["_law_many", "_law_words", "_law_some", "_law_sizes", "_law_need"]
theorem scPr : FnScope ["_law_many", "_law_words", "_law_some", "_law_sizes", "_law_need"] ["_law_many", "_law_words"] (defScope sPr) := ⟨rfl, rfl, rfl, by decide +kernel, rfl, by decide +kernel, by decide +kernel⟩
abbrev sRe : Stmt := (topS 41)
abbrev scReS : Stmt := sRe
abbrev scReN : List Str := ["_law_many", "_law_caught"]
theorem scRe : FnScope ["_law_many", "_law_caught"] ["_law_many"] (defScope sRe) := ⟨rfl, rfl, rfl, by decide +kernel, rfl, by decide +kernel, by decide +kernel⟩
abbrev sLaw : Stmt := (topS 42)
abbrev scLawS : Stmt := sLaw
abbrev scLawN : List Str := ["_law_script", "_law_pot_here", "_law_index", "_law_turn", "_law_many"]
theorem scLaw : FnScope ["_law_script", "_law_pot_here", "_law_index", "_law_turn", "_law_many"] ["_law_script"] (defScope sLaw) := ⟨rfl, rfl, rfl, by decide +kernel, rfl, by decide +kernel, by decide +kernel⟩
end Ph

set_option maxHeartbeats 8000000
namespace Ph
open PySem PySem.Spec PyProof.Rows L2
/-! ### the program's bounds -/
theorem tl_atI {s : Nat → Nat} {m i : Nat} (h : i < m) : atI ((tl s m).map V.int) (i : Int) = some (.int (s i)) := atI_nat (tl_getV h)
theorem tl_atL {s : Nat → Nat} {m : Nat} : atI ((tl s (m + 1)).map V.int) (-1) = some (.int (s m)) := by
  rw [tl_succ, List.map_append]
  exact atI_last _ _
section
variable {P : Program} {w : World} {K : PySem.W.Frag} {mg : Str → Option Value} {base : Heap}
def spDu : Sp := fun vs H Q _ => ∃ n d : Int, vs = [.int n, .int d] ∧ 0 < d ∧ d < 1073741824 ∧ Q (.int (-(-n / d))) H
theorem ok_Du {k : Nat} (Z : Fns K mg) : FnOk P w K mg base CX0 (k + 1) Z.fDu Z.fdDu ["number", "divisor"] spDu := by
  refine Z.FDu.ok scDu (fun vs H Q E h => ?_) (fun cdv A outer s H vs Q E hr h => ?_)
  · obtain ⟨n, d, rfl, _⟩ := h
    rfl
  · obtain ⟨n, d, rfl, d0, d1, q⟩ := h
    refine ⟨_, (pss_one (ps_ret (pe_un un_neg (pe_op op_fdiv (pe_un un_neg (pv 0)) (pv 1))))), ?_⟩
    exact ⟨.int n, rfl, n, rfl, .int d, rfl, -n, d, rfl, rfl, ⟨d0, d1⟩, _, rfl, q⟩
def spLw (K : PySem.W.Frag) : Sp := fun vs H Q _ => ∃ (c l : Addr) (s b : Nat → Nat) (m i t : Nat), vs = [.ref c, .ref l, .int t] ∧ SqT K H c ((tl s m).map V.int) ∧ SqL K H l ((tl b i).map V.int) ∧ i ≤ m ∧ 0 < t ∧ t < 1073741824 ∧ (∀ j, j < m → s j < 1073741824) ∧ (∀ j, j + 1 < i → b j ≤ b (j + 1)) ∧
  ∀ H', Same H H' → Q (.int (Lw s b t i)) H'
theorem ok_Lw {k : Nat} (Z : Fns K mg) : FnOk P w K mg base CX0 (k + 1 + 1) Z.fLw Z.fdLw ["chain", "numbers", "size"] (spLw K) := by
  have GDu : FnOk P w K mg base CX0 (k + 1) Z.fDu Z.fdDu ["number", "divisor"] spDu := ok_Du Z
  refine Z.FLw.ok scLw (fun vs H Q E h => ?_) (fun cdv A outer s H vs Q E hr h => ?_)
  · obtain ⟨c, l, s, b, m, i, t, rfl, _⟩ := h
    rfl
  · obtain ⟨c, l, sz, b, m, n, t, rfl, hc, hl, hnm, t0, t1, hs, hb, q⟩ := h
    refine ⟨_, (pss_cons (ps_set (i := 3) scLw.nd rfl (.inl rfl) pe_int)
 (pss_cons (ps_set (i := 4) scLw.nd rfl (.inl rfl) pe_int)
 (pss_cons (ps_for PassesOwn.never rfl (pi_zipK (k1 := true) (k2 := false) (by rfl) Z.N.zip (pa_cons (pv 0) (pa_cons (pv 1) pa_nil))) (pg_tup (by rfl) (pgs_cons (pg_name (i := 5) scLw.nd rfl (.inl rfl)) (pgs_cons (pg_name (i := 6) scLw.nd rfl (.inl rfl)) pgs_nil)))
 (pss_cons (ps_set (i := 7) scLw.nd rfl (.inl rfl) (pe_call GDu (hr.mono (by omega)) (by rfl) Z.gDu Z.FDu.kp Z.bDu .nil pass0 (pa_cons (pv 6) (pa_cons (pv 2) pa_nil))))
 (pss_cons (ps_aug (i := 3) scLw.nd rfl (.inl rfl) (pe_op op_mul (pv 5) (pe_op op_sub (pv 7) (pv 4))) ip_add)
 (pss_one (ps_set (i := 4) scLw.nd rfl (.inl rfl) (pv 7))))))
 (pss_one (ps_ret (pv 3)))))), ?_⟩
    refine ⟨.ref c, rfl, .ref l, rfl, c, l, _, _, rfl, hc, hl, ?_⟩
    refine for_zipK (k1 := true) (k2 := false) (K := K) (a := c) (b := l) (xs := (tl sz m).map V.int) (ys := (tl b n).map V.int) n (by rw [List.length_map, List.length_map, tl_len, tl_len]; omega)
      (fun i σ H2 => ∃ y5 y6 y7, σ = [some (.ref c), some (.ref l), some (.int t), some (.int ((Lw sz b t i : Nat) : Int)), some (.int ((pvn b t i : Nat) : Int)), y5, y6, y7] ∧ Same H H2) ⟨none, none, none, rfl, Same.refl _⟩ ?_ ?_ ?_
    · rintro i σ H2 ⟨_, _, _, _, sm⟩
      exact ⟨sm.tup hc, sm.seq hl⟩
    · rintro i x y T σ H2 hi hx hy ⟨y5, y6, y7, rfl, sm⟩ nT
      rw [tl_getV (by omega)] at hx
      rw [tl_getV hi] at hy
      cases hx
      cases hy
      have h1 := hs i (by omega)
      refine ⟨T, _, rfl, .inl (.inl upd_same), rfl, _, _, rfl, _, _, rfl, rfl, ?_⟩
      refine ⟨.int (b i), rfl, .int t, rfl, b i, t, rfl, by omega, by omega, ?_⟩
      rw [up_cdw t0]
      refine ⟨_, rfl, .int (sz i), rfl, .int (cdw (b i) t : Nat), rfl, .int (pvn b t i : Nat), rfl, _, _, rfl, rfl, _, _, rfl, rfl, .inl ⟨by omega, by omega⟩, _, _, rfl, rfl, .int (cdw (b i) t : Nat), rfl, some (.int (sz i)), some (.int (b i)), some (.int (cdw (b i) t : Nat)), ?_, Same.trans sm (same_upd nT)⟩
      have le : pvn b t i ≤ cdw (b i) t := by
        cases i with
        | zero => exact Nat.zero_le _
        | succ j => exact cdw_mono (hb j (by omega))
      have e : ((Lw sz b t i : Nat) : Int) + (sz i : Int) * (((cdw (b i) t : Nat) : Int) - ((pvn b t i : Nat) : Int)) = ((Lw sz b t (i + 1) : Nat) : Int) := by
        show _ = ((Lw sz b t i + sz i * (cdw (b i) t - pvn b t i) : Nat) : Int)
        rw [Int.natCast_add, Int.natCast_mul, Int.natCast_sub le]
      dsimp only
      rw [e]
      rfl
    · rintro σ H2 ⟨y5, y6, y7, rfl, sm⟩
      exact ⟨_, rfl, q _ sm⟩
def spR : Sp := fun vs H Q _ => ∃ (t : Addr) (l : Int) (bs : List Bk), vs = [.ref t, .int l] ∧ StAt H t bs ∧ bs.length ≤ 5000 ∧ ∀ H', Same H H' → Q (.int (rch l bs)) H'
theorem ok_R {k : Nat} (Z : Fns K mg) : FnOk P w K mg base CX0 (k + 1) Z.fR Z.fdR ["state", "largest"] spR := by
  refine Z.FR.ok scR (fun vs H Q E h => ?_) (fun cdv A outer s H vs Q E hr h => ?_)
  · obtain ⟨t, l, bs, rfl, _⟩ := h
    rfl
  · obtain ⟨t, l, bs, rfl, ⟨xs, ht, bl⟩, hl, q⟩ := h
    have hu2 := u2_of hr
    refine ⟨_, (pss_one (ps_ret (pe_callBK (cr_maxDf rfl hu2) (by rfl) Z.N.max (by decide +kernel) (pa_cons (pe_lc (own := [("address", 2), ("size", 3)]) (g := (gTup K 2 (gCons (gName 2) (gCons (gName 3) gNil)))) (by rfl) scR.nd (pi_tup (pv 0)) (blkOk_by (N := scRN) (sc := defScope scRS) (by decide +kernel)) (fun _ _ _ _ _ => (pg_tup (by rfl) (pgs_cons (pg_name (i := 2) scR.nd rfl (.inl rfl)) (pgs_cons (pg_name (i := 3) scR.nd rfl (.inl rfl)) pgs_nil)))) (fun _ _ _ _ _ => (pts_one (pt_cmpR op_le (pv 3) (pv 1) (nomark _)))) (fun _ _ _ _ _ => (pe_op op_add (pv 2) (pv 3)))) pa_nil) (pk_cons pe_int pk_nil)))), ?_⟩
    refine ⟨.ref t, rfl, t, rfl, ⟨_, .inl (.inl ht)⟩, fun D nD => ?_⟩
    refine lc_tupF (xs := xs) (fun x => if decide ((kH H x).2 ≤ l) = true then some (.int ((kH H x).1 + (kH H x).2)) else none) (.inl (.inl ht)) nD (by rw [bl.len]; exact Nat.lt_of_le_of_lt hl (by decide)) (fun x hx H2 sm Y N hY hN => ?_) (fun H2 sm hD => ?_)
    · obtain ⟨b, hb⟩ := bl.all x hx
      have e := hb.k
      obtain ⟨u, rfl, hu⟩ := hb
      refine ⟨u, _, rfl, .inl (.inl (sm _ _ hu)), rfl, _, _, rfl, _, _, rfl, rfl, rfl, .int b.2, rfl, .int l, rfl, b.2, l, rfl, rfl, _, rfl, ite2 (fun cc => ⟨.int b.1, rfl, .int b.2, rfl, b.1, b.2, rfl, rfl, ?_⟩) (fun cc => ?_)⟩
      · exact hY _ (by dsimp only; rw [e]; exact if_pos cc)
      · exact hN (by dsimp only; rw [e]; exact if_neg cc)
    · have e : xs.filterMap (fun x => if decide ((kH H x).2 ≤ l) = true then some (V.int ((kH H x).1 + (kH H x).2)) else none) = ((bs.filter fun b => decide (b.2 ≤ l)).map fun b => b.1 + b.2).map V.int := by
        rw [← bl.map]
        exact fm_if (fun b => decide (b.2 ≤ l)) (fun b => b.1 + b.2) (kH H) xs
      rw [e] at hD
      exact ⟨D, _, 0, rfl, rfl, .inl (.inl hD), q _ sm⟩
def spRs (K : PySem.W.Frag) : Sp := fun vs H Q _ => ∃ (c t : Addr) (C : List Int) (bs : List Bk), vs = [.ref c, .ref t] ∧ SqT K H c (C.map V.int) ∧ C.length ≤ 1000 ∧ StAt H t bs ∧ bs.length ≤ 5000 ∧ ∀ H' u, Same H H' → H' u = some (.tup ((C.map fun l => rch l bs).map V.int)) → Q (.ref u) H'
theorem ok_Rs {k : Nat} (Z : Fns K mg) : FnOk P w K mg base CX0 (k + 1 + 1) Z.fRs Z.fdRs ["chain", "state"] (spRs K) := by
  have GR : FnOk P w K mg base CX0 (k + 1) Z.fR Z.fdR ["state", "largest"] spR := ok_R Z
  refine Z.FRs.ok scRs (fun vs H Q E h => ?_) (fun cdv A outer s H vs Q E hr h => ?_)
  · obtain ⟨c, t, C, bs, rfl, _⟩ := h
    rfl
  · obtain ⟨c, t, C, bs, rfl, hc, hC, ht, hl, q⟩ := h
    refine ⟨_, (pss_one (ps_ret (pe_callTy call_tuple_of (by rfl) Z.N.tuple (by decide +kernel) (pa_cons (pe_lc (own := [("largest", 2)]) (g := (gName 2)) (tt := tYes) (by rfl) scRs.nd (pi_tup (pv 0)) (blkOk_by (N := scRsN) (sc := defScope scRsS) (by decide +kernel)) (fun _ _ _ _ _ => (pg_name (i := 2) scRs.nd rfl (.inl rfl))) (fun _ _ _ _ _ => pts_nil) (fun _ _ _ _ _ => (pe_call GR (hr.mono (by omega)) (by rfl) Z.gR Z.FR.kp Z.bR .nil pass0 (pa_cons (pv 1) (pa_cons (pv 2) pa_nil))))) pa_nil)))), ?_⟩
    refine ⟨.ref c, rfl, c, rfl, ⟨_, hc⟩, fun D nD => ?_⟩
    refine lc_tupR (xs := C.map V.int) (fun _ x y => y = .int (rch (iV x) bs)) (fun _ _ _ _ _ h => h) hc nD (by rw [List.length_map]; exact Nat.lt_of_le_of_lt hC (by decide)) (fun x hx H2 sm Y hY => ?_) (fun H2 ys sm hD pr => ?_)
    · obtain ⟨z, hz, rfl⟩ := List.mem_map.mp hx
      exact ⟨rfl, .ref t, rfl, .int z, rfl, t, z, bs, rfl, ht.same sm, hl, fun H3 s3 => hY _ _ s3 rfl⟩
    · have e : ys = (C.map fun l => rch l bs).map V.int := by
        rw [paired_fun (f := fun x => V.int (rch (iV x) bs)) (fun a b h => h) pr, List.map_map, List.map_map]
        rfl
      rw [e] at hD
      exact ⟨D, _, rfl, .inl ⟨.inl (.inl hD), fun v nv => q _ v (Same.trans sm (same_upd nv)) upd_same⟩⟩
theorem mx2 (i j : Nat) : (if (j : Int) > (i : Int) then (j : Int) else (i : Int)) = ((max i j : Nat) : Int) := by
  split <;> omega
theorem mx0 (M L : Nat) : (if (M : Int) - (L : Int) > 0 then (M : Int) - (L : Int) else 0) = ((M - L : Nat) : Int) := by
  split <;> omega
def spNf (K : PySem.W.Frag) : Sp := fun vs H Q _ => ∃ (c r : Addr) (s ρ : Nat → Nat) (m M : Nat), vs = [.ref c, .int M, .ref r] ∧ SqT K H c ((tl s m).map V.int) ∧ SqT K H r ((tl ρ m).map V.int) ∧ 1 ≤ m ∧ m ≤ 1000 ∧ (∀ j, j < m → 0 < s j ∧ s j < 1073741824) ∧
  ∀ H' u, Same H H' → H' u = some (.tup ((tl (bfn s ρ M) m).map V.int)) → Q (.ref u) H'
theorem ok_Nf {k : Nat} (Z : Fns K mg) : FnOk P w K mg base CX0 (k + 1 + 1 + 1) Z.fNf Z.fdNf ["chain", "limit", "reached"] (spNf K) := by
  have GDu : FnOk P w K mg base CX0 (k + 1) Z.fDu Z.fdDu ["number", "divisor"] spDu := ok_Du Z
  have GLw : FnOk P w K mg base CX0 (k + 1 + 1) Z.fLw Z.fdLw ["chain", "numbers", "size"] (spLw K) := ok_Lw Z
  refine Z.FNf.ok scNf (fun vs H Q E h => ?_) (fun cdv A outer s H vs Q E hr h => ?_)
  · obtain ⟨c, r, s, ρ, m, M, rfl, _⟩ := h
    rfl
  · obtain ⟨c, r, sz, ρ, m, M, rfl, hc, hrr, m1, m2, hs, q⟩ := h
    refine ⟨_, (pss_cons (ps_set (i := 3) scNf.nd rfl (.inl rfl) (pe_lst (pa_cons (pe_callB (call_max2 rfl) (by rfl) Z.N.max (by decide +kernel) (pa_cons (pv 1) (pa_cons (pe_ix ix_tup (pv 2) pe_int (fun _ _ => rfl)) pa_nil))) pa_nil)))
 (pss_cons (ps_for PassesOwn.never rfl (pi_range2 (by rfl) Z.N.range (pa_cons pe_int (pa_cons (pe_callB call_len_seq (by rfl) Z.N.len (by decide +kernel) (pa_cons (pv 0) pa_nil)) pa_nil))) (pg_name (i := 4) scNf.nd rfl (.inl rfl))
 (pss_cons (ps_set (i := 5) scNf.nd rfl (.inl rfl) (pe_ix ix_tup (pv 0) (pv 4) (fun _ _ => rfl)))
 (pss_cons (ps_set (i := 6) scNf.nd rfl (.inl rfl) (pe_callB (call_max2 rfl) (by rfl) Z.N.max (by decide +kernel) (pa_cons pe_int (pa_cons (pe_op op_sub (pv 1) (pe_call GLw (hr.mono (by omega)) (by rfl) Z.gLw Z.FLw.kp Z.bLw .nil pass0 (pa_cons (pv 0) (pa_cons (pv 3) (pa_cons (pv 5) pa_nil))))) pa_nil))))
 (pss_cons (ps_set (i := 7) scNf.nd rfl (.inl rfl) (pe_op op_add (pe_call GDu (hr.mono (by omega)) (by rfl) Z.gDu Z.FDu.kp Z.bDu .nil pass0 (pa_cons (pe_ix ix_list (pv 3) (pe_un un_neg pe_int) (fun _ _ => rfl)) (pa_cons (pv 5) pa_nil))) (pe_op op_fdiv (pv 6) (pv 5))))
 (pss_one (ps_expr (pe_bm PySem.F.plainAttrs_list PySem.F.slot_list_append PySem.F.type_list_append mt_append (pv 3) (pa_cons (pe_callB (call_max2 rfl) (by rfl) Z.N.max (by decide +kernel) (pa_cons (pe_ix ix_tup (pv 2) (pv 4) (fun _ _ => rfl)) (pa_cons (pe_op op_mul (pv 5) (pv 7)) pa_nil))) pa_nil))))))))
 (pss_one (ps_ret (pe_callTy call_tuple_of (by rfl) Z.N.tuple (by decide +kernel) (pa_cons (pv 3) pa_nil)))))), ?_⟩
    refine ⟨.int M, rfl, .ref r, rfl, r, _, 0, _, rfl, rfl, hrr, tl_atI (i := 0) m1, _, _, rfl, ?_⟩
    rw [mx2]
    refine ⟨(by show 1 ≤ sizeLine; decide), fun D nD => ?_⟩
    have sD := same_upd (o := .lst [.int ((max M (ρ 0) : Nat) : Int)]) nD
    have hcD := sD.tup hc
    refine ⟨.ref c, rfl, c, _, rfl, .inr hcD, ?_⟩
    rw [List.length_map, tl_len]
    refine ⟨1, m, rfl, ⟨by omega, by omega, by omega, by omega⟩, ?_⟩
    rw [show ((m : Int) - 1).toNat = m - 1 by omega]
    refine for_range (lo := 1) (n := m - 1) (fun i σ H2 => ∃ y4 y5 y6 y7, σ = [some (.ref c), some (.int M), some (.ref r), some (.ref D), y4, y5, y6, y7] ∧ (∀ b o, b ≠ D → H b = some o → H2 b = some o) ∧ H2 D = some (.lst ((tl (bfn sz ρ M) (i + 1)).map V.int)))
      ⟨none, none, none, none, rfl, fun b o nb e => sD _ _ e, upd_same⟩ ?_ ?_
    · rintro i σ H2 hi ⟨y4, y5, y6, y7, rfl, kp, hD⟩
      have im : i + 1 < m := by omega
      obtain ⟨s0, s1⟩ := hs (i + 1) im
      have sm0 : Same H H2 := fun b o e => kp b o (ne_of_none e nD) e
      have e1 : (1 : Int) + (i : Int) = ((i + 1 : Nat) : Int) := by omega
      rw [e1]
      refine ⟨.ref c, rfl, .int _, rfl, c, _, _, _, rfl, rfl, sm0.tup hc, tl_atI im, ?_⟩
      refine ⟨.int M, rfl, .ref c, rfl, .ref D, rfl, .int _, rfl, c, D, sz, bfn sz ρ M, m, i + 1, sz (i + 1), rfl, sm0.tup hc, .inl (.inl hD), by omega, s0, s1, fun j hj => (hs j hj).2, fun j hj => bfn_up (hs (j + 1) (by omega)).1, fun H3 s3 => ?_⟩
      have hD3 := s3 _ _ hD
      have sm3 : Same H H3 := sm0.trans s3
      refine ⟨_, _, rfl, rfl, _, _, rfl, ?_⟩
      rw [mx0]
      refine ⟨.ref D, rfl, 1, rfl, D, _, -1, _, rfl, rfl, .inl (.inl hD3), tl_atL, .int _, rfl, _, _, rfl, by omega, by omega, ?_⟩
      rw [up_cdw s0]
      refine ⟨.int _, rfl, .int _, rfl, _, _, rfl, rfl, ⟨by omega, by omega⟩, _, _, rfl, rfl, ?_⟩
      refine ⟨.ref D, rfl, .inl ⟨rfl, _, .inl (.inl hD3)⟩, .ref r, rfl, .int _, rfl, r, _, _, _, rfl, rfl, sm3.tup hrr, tl_atI im, .int _, rfl, .int _, rfl, _, _, rfl, rfl, .inl ⟨by omega, by omega⟩, _, _, rfl, ?_⟩
      have e2 : (sz (i + 1) : Int) * (((cdw (bfn sz ρ M i) (sz (i + 1)) : Nat) : Int) + ((M - Lw sz (bfn sz ρ M) (sz (i + 1)) (i + 1) : Nat) : Int) / (sz (i + 1) : Int)) = ((sz (i + 1) * (cdw (bfn sz ρ M i) (sz (i + 1)) + (M - Lw sz (bfn sz ρ M) (sz (i + 1)) (i + 1)) / sz (i + 1)) : Nat) : Int) := by
        rw [Int.natCast_mul, Int.natCast_add, Int.natCast_ediv]
      rw [e2, mx2, ← bfn_succ]
      refine ⟨D, _, _, rfl, rfl, hD3, ?_, some (.int ((i + 1 : Nat) : Int)), some (.int (sz (i + 1))), some (.int ((M - Lw sz (bfn sz ρ M) (sz (i + 1)) (i + 1) : Nat) : Int)), _, rfl, fun b o nb e => ?_, ?_⟩
      · rw [List.length_map, tl_len]
        exact Nat.lt_of_le_of_lt (show i + 1 ≤ 1000 by omega) (by decide)
      · rw [upd_ne nb]
        exact sm3 _ _ e
      · rw [upd_same, tl_succ _ (i + 1), List.map_append]
        rfl
    · rintro σ H2 ⟨y4, y5, y6, y7, rfl, kp, hD⟩
      have e1 : m - 1 + 1 = m := by omega
      rw [e1] at hD
      refine ⟨.ref D, rfl, D, _, rfl, .inl ⟨.inl (.inl hD), fun v nv => q _ v (fun a o ha => ?_) upd_same⟩⟩
      exact same_upd nv _ _ (kp _ _ (ne_of_none ha nD) ha)
abbrev bb (s : Nat → Nat) (M : Nat) : Nat → Nat := bfn s (fun _ => 0) M
theorem rch_nil (s : Nat → Nat) (m : Nat) : ((tl s m).map fun l => rch l []) = tl (fun _ => 0) m := by
  unfold tl
  rw [List.map_map]
  rfl
def Szs (s : Nat → Nat) (m : Nat) : Prop := 1 ≤ m ∧ m ≤ 1000 ∧ ∀ j, j < m → 0 < s j ∧ s j < 1073741824
def spBo (K : PySem.W.Frag) : Sp := fun vs H Q _ => ∃ (c : Addr) (s : Nat → Nat) (m M : Nat), vs = [.ref c, .int M] ∧ SqT K H c ((tl s m).map V.int) ∧ Szs s m ∧ ∀ H' u, Same H H' → H' u = some (.tup ((tl (bb s M) m).map V.int)) → Q (.ref u) H'
theorem ok_Bo {k : Nat} (Z : Fns K mg) : FnOk P w K mg base CX0 (k + 1 + 1 + 1 + 1) Z.fBo Z.fdBo ["chain", "limit"] (spBo K) := by
  have GRs : FnOk P w K mg base CX0 (k + 1 + 1) Z.fRs Z.fdRs ["chain", "state"] (spRs K) := ok_Rs Z
  have GNf : FnOk P w K mg base CX0 (k + 1 + 1 + 1) Z.fNf Z.fdNf ["chain", "limit", "reached"] (spNf K) := ok_Nf Z
  refine Z.FBo.ok scBo (fun vs H Q E h => ?_) (fun cdv A outer s H vs Q E hr h => ?_)
  · obtain ⟨c, s, m, M, rfl, _⟩ := h
    rfl
  · obtain ⟨c, sz, m, M, rfl, hc, ⟨m1, m2, hs⟩, q⟩ := h
    refine ⟨_, (pss_one (ps_ret (pe_call GNf (hr.mono (by omega)) (by rfl) Z.gNf Z.FNf.kp Z.bNf .nil pass0 (pa_cons (pv 0) (pa_cons (pv 1) (pa_cons (pe_call GRs (hr.mono (by omega)) (by rfl) Z.gRs Z.FRs.kp Z.bRs .nil pass0 (pa_cons (pv 0) (pa_cons (pe_tup pa_nil) pa_nil))) pa_nil)))))), ?_⟩
    refine ⟨.ref c, rfl, .int M, rfl, .ref c, rfl, (by show 0 ≤ sizeLine; decide), fun T nT => ?_⟩
    have sT := same_upd (o := .tup []) nT
    refine ⟨c, T, tl sz m, [], rfl, sT.tup hc, by rw [tl_len]; exact m2, ⟨[], upd_same, .nil⟩, by decide, fun H2 u s2 hu => ?_⟩
    rw [rch_nil] at hu
    have sm : Same H H2 := sT.trans s2
    exact ⟨c, u, sz, fun _ => 0, m, M, rfl, sm.tup hc, .inl (.inl hu), m1, m2, hs, fun H3 v s3 hv => q _ v (sm.trans s3) hv⟩
def spPn (K : PySem.W.Frag) : Sp := fun vs H Q _ => ∃ (c : Addr) (s : Nat → Nat) (p M : Nat), vs = [.ref c, .int M] ∧ SqT K H c ((tl s (p + 1)).map V.int) ∧ Szs s (p + 1) ∧ ∀ H', Same H H' → Q (.int ((bb s M p / s p : Nat) : Int)) H'
theorem ok_Pn {k : Nat} (Z : Fns K mg) : FnOk P w K mg base CX0 (k + 1 + 1 + 1 + 1 + 1) Z.fPn Z.fdPn ["chain", "limit"] (spPn K) := by
  have GBo : FnOk P w K mg base CX0 (k + 1 + 1 + 1 + 1) Z.fBo Z.fdBo ["chain", "limit"] (spBo K) := ok_Bo Z
  refine Z.FPn.ok scPn (fun vs H Q E h => ?_) (fun cdv A outer s H vs Q E hr h => ?_)
  · obtain ⟨c, s, m, M, rfl, _⟩ := h
    rfl
  · obtain ⟨c, sz, p, M, rfl, hc, hs, q⟩ := h
    refine ⟨_, (pss_one (ps_ret (pe_op op_fdiv (pe_ix ix_tup (pe_call GBo (hr.mono (by omega)) (by rfl) Z.gBo Z.FBo.kp Z.bBo .nil pass0 (pa_cons (pv 0) (pa_cons (pv 1) pa_nil))) (pe_un un_neg pe_int) (fun _ _ => rfl)) (pe_ix ix_tup (pv 0) (pe_un un_neg pe_int) (fun _ _ => rfl))))), ?_⟩
    obtain ⟨s0, s1⟩ := hs.2.2 p (by omega)
    refine ⟨.ref c, rfl, .int M, rfl, c, sz, p + 1, M, rfl, hc, hs, fun H2 u s2 hu => ?_⟩
    refine ⟨1, rfl, u, _, -1, _, rfl, rfl, .inl (.inl hu), tl_atL, .ref c, rfl, 1, rfl, c, _, -1, _, rfl, rfl, s2.tup hc, tl_atL, _, _, rfl, rfl, ⟨by omega, by omega⟩, ?_⟩
    have e : ((bb sz M p / sz p : Nat) : Int) = (bb sz M p : Int) / (sz p : Int) := Int.natCast_ediv _ _
    have := q _ s2
    rw [e] at this
    exact this
def cpl (s : Nat → Nat) (p M : Nat) : List Int := ((tl s (p + 1)).filter fun x => decide (x ≤ (M : Int))).map fun x => 1 + ((M : Int) - x) / ((s p : Int) / x)
end
/-! ### requests of any size -/
def rqn (s : Nat → Nat) : Nat → Nat
  | 0 => 1
  | j + 1 => s j + 1
def rqs (s : Nat → Nat) (p : Nat) : List Bk := (List.range (p + 1)).map fun j => (((rqn s j : Nat) : Int), ((s j : Nat) : Int))
/-- f: the most words in blocks for t requested words; ch: the request that comes last -/
structure Best (s : Nat → Nat) (p : Nat) (f ch : Nat → Nat) (W : Nat) : Prop where
  f0 : f 0 = 0
  at_ : ∀ t, 1 ≤ t → t ≤ W → ∃ j, j ≤ p ∧ ch t = rqn s j ∧ ch t ≤ t ∧ f t = f (t - ch t) + s j
  le : ∀ t j, 1 ≤ t → t ≤ W → j ≤ p → rqn s j ≤ t → f (t - rqn s j) + s j ≤ f t
def bst (f ch : Nat → Nat) (n : Nat) : List Bk := (List.range n).map fun t => (((f t : Nat) : Int), ((ch t : Nat) : Int))
theorem bst_succ (f ch : Nat → Nat) (n : Nat) : bst f ch (n + 1) = bst f ch n ++ [(((f n : Nat) : Int), ((ch n : Nat) : Int))] := by
  unfold bst
  rw [List.range_succ, List.map_append]
  rfl
theorem bst_congr {f ch f' ch' : Nat → Nat} {n : Nat} (h : ∀ t, t < n → f t = f' t ∧ ch t = ch' t) : bst f ch n = bst f' ch' n := by
  unfold bst
  refine List.map_congr_left fun t ht => ?_
  obtain ⟨a, b⟩ := h t (List.mem_range.mp ht)
  rw [a, b]
theorem bst_get {f ch : Nat → Nat} {n t : Nat} (h : t < n) : (bst f ch n)[t]? = some (((f t : Nat) : Int), ((ch t : Nat) : Int)) := by
  unfold bst
  rw [List.getElem?_map, List.getElem?_range h]
  rfl
theorem bst_len (f ch : Nat → Nat) (n : Nat) : (bst f ch n).length = n := by
  unfold bst
  rw [List.length_map, List.length_range]
theorem BL.at' {H : Hp} : ∀ {xs : List V} {bs : List Bk} {i : Nat} {b : Bk}, BL H xs bs → bs[i]? = some b → ∃ x, xs[i]? = some x ∧ BkAt H x b := fun h e => Paired.get2 h e
theorem Best.lt {s : Nat → Nat} {p : Nat} {f ch : Nat → Nat} {W : Nat} (b : Best s p f ch W) {S : Nat} (hS : ∀ j, j ≤ p → s j ≤ S) : ∀ n t, t ≤ n → t ≤ W → f t ≤ S * t
  | 0, t, h, _ => by rw [Nat.le_zero.mp h, b.f0]; exact Nat.zero_le _
  | n + 1, t, h, hw => by
    rcases Nat.eq_zero_or_pos t with z | z
    · rw [z, b.f0]; exact Nat.zero_le _
    · obtain ⟨j, hj, e1, e2, e3⟩ := b.at_ t z hw
      have c1 : 1 ≤ ch t := by rw [e1]; cases j <;> simp [rqn]
      have ih := Best.lt b hS n (t - ch t) (by omega) (by omega)
      have h1 := hS j hj
      have h2 : S * (t - ch t) + S ≤ S * t := by
        have : S * (t - ch t + 1) ≤ S * t := Nat.mul_le_mul_left _ (by omega)
        rw [Nat.mul_add, Nat.mul_one] at this
        exact this
      omega
theorem paired_map {α β γ : Type} {F : γ → β → Prop} {f : α → β} : ∀ {l : List α} {m : List γ}, Paired (fun a c => F c (f a)) l m → Paired F m (l.map f)
  | _, _, .nil => .nil
  | _, _, .cons h r => .cons h (paired_map r)
section
variable {P : Program} {w : World} {K : PySem.W.Frag} {mg : Str → Option Value} {base : Heap}
theorem tl_cons0 {s : Nat → Nat} {m i : Nat} (h : i < m) : ([V.int 0] ++ ((tl s m).map V.int ++ []))[i]? = some (V.int (((rqn s i : Nat) : Int) - 1)) := by
  cases i with
  | zero => rfl
  | succ j =>
    rw [List.append_nil]
    show ((tl s m).map V.int)[j]? = _
    rw [tl_getV (by omega)]
    show some (V.int ((s j : Nat) : Int)) = some (V.int (((s j + 1 : Nat) : Int) - 1))
    congr 2
    omega
def spLr (K : PySem.W.Frag) : Sp := fun vs H Q _ => ∃ (c : Addr) (s : Nat → Nat) (p : Nat), vs = [.ref c] ∧ SqT K H c ((tl s (p + 1)).map V.int) ∧ p < 1000 ∧ ∀ H' D xs, Same H H' → H D = none → H' D = some (.lst xs) → BL H' xs (rqs s p) → Q (.ref D) H'
theorem ok_Lr {k : Nat} (Z : Fns K mg) : FnOk P w K mg base CX0 (k + 1) Z.fLr Z.fdLr ["chain"] (spLr K) := by
  refine Z.FLr.ok scLr (fun vs H Q E h => ?_) (fun cdv A outer s H vs Q E hr h => ?_)
  · obtain ⟨c, s, p, rfl, _⟩ := h
    rfl
  · obtain ⟨c, sz, p, rfl, hc, hp, q⟩ := h
    refine ⟨_, (pss_one (ps_ret (pe_lc (own := [("smaller", 1), ("size", 2)]) (g := (gTup K 2 (gCons (gName 1) (gCons (gName 2) gNil)))) (tt := tYes) (by rfl) scLr.nd (pi_zipK (k1 := true) (k2 := true) (by rfl) Z.N.zip (pa_cons (pe_tup (pa_cons pe_int (StX.pa_star (pv 0) pa_nil))) (pa_cons (pv 0) pa_nil))) (blkOk_by (N := scLrN) (sc := defScope scLrS) (by decide +kernel)) (fun _ _ _ _ _ => (pg_tup (by rfl) (pgs_cons (pg_name (i := 1) scLr.nd rfl (.inl rfl)) (pgs_cons (pg_name (i := 2) scLr.nd rfl (.inl rfl)) pgs_nil)))) (fun _ _ _ _ _ => pts_nil) (fun _ _ _ _ _ => (pe_tup (pa_cons (pe_op op_add (pv 1) pe_int) (pa_cons (pv 2) pa_nil))))))), ?_⟩
    refine ⟨.ref c, rfl, c, _, rfl, .inl hc, ?_⟩
    refine ⟨?_, fun T nT => ?_⟩
    · simp [tl_len]
      exact Nat.le_trans (show p + 1 + 1 ≤ 2000 by omega) (by decide)
    have sT := same_upd (o := .tup ([V.int 0] ++ ((tl sz (p + 1)).map V.int ++ []))) nT
    refine ⟨.ref c, rfl, T, c, _, _, rfl, .inl (.inl upd_same), sT.tup hc, fun D nD => ?_⟩
    refine lc_R (walk_zipK (k1 := true) (k2 := true) (K := K) (a := T) (b := c) (xs := [V.int 0] ++ ((tl sz (p + 1)).map V.int ++ [])) (ys := (tl sz (p + 1)).map V.int) (n := p + 1) (by simp [tl_len])) (fun _ _ _ _ y => YPair.same y)
      (fun H2 i y => BkAt H2 y (((rqn sz i : Nat) : Int), ((sz i : Nat) : Int))) (fun H H' i y kp => fun ⟨t, e1, e2⟩ => ⟨t, e1, kp _ _ e2⟩) nD (Nat.lt_of_le_of_lt (show p + 1 ≤ 1000 by omega) (by decide)) (fun H2 s2 => ⟨s2.tup (.inl (.inl upd_same)), s2.tup (sT.tup hc)⟩) (fun i x H2 H3 hi s2 y Z hZ => ?_) (fun H2 ys s2 hD pr => ?_)
    · obtain ⟨U, x1, y1, rfl, nU, rfl, g1, g2⟩ := y
      have g1' : ([V.int 0] ++ ((tl sz (p + 1)).map V.int ++ []))[i]? = some x1 := g1
      rw [tl_cons0 hi] at g1'
      have g2' : ((tl sz (p + 1)).map V.int)[i]? = some y1 := g2
      rw [tl_getV hi] at g2'
      cases g1'
      cases g2'
      refine ⟨U, _, rfl, .inl (.inl upd_same), rfl, _, _, rfl, _, _, rfl, rfl, rfl, ?_⟩
      refine ⟨.int _, rfl, _, _, rfl, rfl, .int _, rfl, (by show 2 ≤ sizeLine; decide), fun t nt => ?_⟩
      refine hZ _ _ (same_upd nt) ⟨t, rfl, ?_⟩
      rw [upd_same]
      show some (HO.tup [V.int (((rqn sz i : Nat) : Int) - 1 + 1), V.int ((sz i : Nat) : Int)]) = _
      rw [Int.sub_add_cancel]
    · refine q _ D ys (sT.trans s2) ?_ hD ?_
      · exact none_of_same sT nD
      · unfold rqs BL
        have := paired_map (F := BkAt H2) (f := fun j => (((rqn sz j : Nat) : Int), ((sz j : Nat) : Int))) (l := List.range (p + 1)) pr
        exact this
end
section
variable {P : Program} {w : World} {K : PySem.W.Frag} {mg : Str → Option Value} {base : Heap}
theorem BL.keep {H H' : Hp} {xs : List V} {bs : List Bk} (h : BL H xs bs) (kp : KpT H H') : BL H' xs bs := BL.mono kp h
theorem rqs_get {s : Nat → Nat} {p j : Nat} (h : j < p + 1) : (rqs s p)[j]? = some (((rqn s j : Nat) : Int), ((s j : Nat) : Int)) := by
  unfold rqs
  rw [List.getElem?_map, List.getElem?_range h]
  rfl
theorem rqn_pos (s : Nat → Nat) (j : Nat) : 1 ≤ rqn s j := by cases j <;> simp [rqn]
def spBr (K : PySem.W.Frag) : Sp := fun vs H Q _ => ∃ (c : Addr) (s : Nat → Nat) (p W : Nat), vs = [.ref c, .int W] ∧ SqT K H c ((tl s (p + 1)).map V.int) ∧ p < 1000 ∧ W ≤ 100000 ∧ ∀ H' D xs f ch, Same H H' → H D = none → H' D = some (.lst xs) → BL H' xs (bst f ch (W + 1)) → Best s p f ch W → Q (.ref D) H'
theorem ok_Br {k : Nat} (Z : Fns K mg) : FnOk P w K mg base CX0 (k + 1 + 1) Z.fBr Z.fdBr ["chain", "words"] (spBr K) := by
  have GLr : FnOk P w K mg base CX0 (k + 1) Z.fLr Z.fdLr ["chain"] (spLr K) := ok_Lr Z
  refine Z.FBr.ok scBr (fun vs H Q E h => ?_) (fun cdv A outer s H vs Q E hr h => ?_)
  · obtain ⟨c, s, p, W, rfl, _⟩ := h
    rfl
  · obtain ⟨c, sz, p, W, rfl, hc, hp, hW, q⟩ := h
    have hu3 := u3_of hr
    refine ⟨_, (pss_cons (ps_set (i := 2) scBr.nd rfl (.inl rfl) (pe_call GLr (hr.mono (by omega)) (by rfl) Z.gLr Z.FLr.kp Z.bLr .nil pass0 (pa_cons (pv 0) pa_nil)))
 (pss_cons (ps_set (i := 3) scBr.nd rfl (.inr rfl) (pe_lst (pa_cons (pe_tup (pa_cons pe_int (pa_cons pe_int pa_nil))) pa_nil)))
 (pss_cons (ps_for PassesOwn.never rfl (pi_range2 (by rfl) Z.N.range (pa_cons pe_int (pa_cons (pe_op op_add (pv 1) pe_int) pa_nil))) (pg_name (i := 4) scBr.nd rfl (.inr rfl))
 (pss_one (ps_expr (pe_bm PySem.F.plainAttrs_list PySem.F.slot_list_append PySem.F.type_list_append mt_append (pv 3) (pa_cons (pe_callB (cr_maxP rfl hu3) (by rfl) Z.N.max (by decide +kernel) (pa_cons (pe_lc (own := [("request", 5), ("size", 6)]) (g := (gTup K 2 (gCons (gName 5) (gCons (gName 6) gNil)))) (by rfl) scBr.nd (pi_list (pv 2)) (blkOk_by (N := scBrN) (sc := defScope scBrS) (by decide +kernel)) (fun _ _ _ _ _ => (pg_tup (by rfl) (pgs_cons (pg_name (i := 5) scBr.nd rfl (.inl rfl)) (pgs_cons (pg_name (i := 6) scBr.nd rfl (.inl rfl)) pgs_nil)))) (fun _ _ _ _ _ => (pts_one (pt_cmpR op_le (pv 5) (pv 4) (nomark _)))) (fun _ _ _ _ _ => (pe_tup (pa_cons (pe_op op_add (pe_ix (r := rIxT K) ix_tup (pe_ix (r := rIxL K) ix_list (pv 3) (pe_op op_sub (pv 4) (pv 5)) (fun _ _ => rfl)) pe_int (fun _ _ => rfl)) (pv 6)) (pa_cons (pv 5) pa_nil))))) pa_nil)) pa_nil)))))
 (pss_one (ps_ret (pv 3)))))), ?_⟩
    refine ⟨.ref c, rfl, c, sz, p, rfl, hc, hp, fun H1 D xs s1 nD0 hD bD => ?_⟩
    refine ⟨(by show 2 ≤ sizeLine; decide), fun t0 nt0 => ⟨(by show 1 ≤ sizeLine; decide), fun B nB => ?_⟩⟩
    have st0 := same_upd (o := .tup [.int 0, .int 0]) nt0
    have ht0 : upd H1 t0 (.tup [.int 0, .int 0]) t0 = some (.tup [.int 0, .int 0]) := upd_same
    generalize upd H1 t0 (.tup [.int 0, .int 0]) = H2 at *
    refine ⟨.int W, rfl, _, _, rfl, rfl, _, _, rfl, ⟨by omega, by omega, by omega, by omega⟩, ?_⟩
    have nBt : ∀ H3 : Hp, (∀ b o, b ≠ B → H2 b = some o → H3 b = some o) → Same H2 H3 := fun H3 kp b o e => kp b o (ne_of_none e nB) e
    refine for_range (lo := 1) (n := ((W : Int) + 1 - 1).toNat) (fun i σ H3 => ∃ y4 y5 y6 ys f ch, σ = [some (.ref c), some (.int W), some (.ref D), some (.ref B), y4, y5, y6] ∧ (∀ b o, b ≠ B → H2 b = some o → H3 b = some o) ∧ H3 B = some (.lst ys) ∧ BL H3 ys (bst f ch (i + 1)) ∧ Best sz p f ch i)
      ⟨none, none, none, [.ref t0], fun _ => 0, fun _ => 0, rfl, fun b o nb e => by rw [upd_ne nb]; exact e, upd_same, .cons ⟨t0, rfl, by rw [upd_ne (ne_of_none ht0 nB)]; exact ht0⟩ .nil, rfl, fun t h1 h2 => absurd h1 (by omega), fun t j h1 h2 => absurd h1 (by omega)⟩ ?_ ?_
    · rintro i σ H3 hi ⟨y4, y5, y6, ys, f, ch, rfl, kp, hB, bl, bs⟩
      have s3 := nBt H3 kp
      have hD3 := s3 _ _ (st0 _ _ hD)
      have bD3 := bD.keep fun v zs e => s3 _ _ (st0 _ _ e)
      have xl : xs.length = p + 1 := by
        have := bD.len
        unfold rqs at this
        rw [List.length_map, List.length_range] at this
        exact this
      refine ⟨.ref B, rfl, .inl ⟨rfl, _, .inl (.inl hB)⟩, .ref D, rfl, D, rfl, ⟨_, .inl (.inl hD3)⟩, fun E2 nE => ?_⟩
      refine lc_RF (walk_list (K := K) (a := D) (xs := xs)) (fun _ _ _ _ y => YAt.same y) (fun j => decide (rqn sz j ≤ i + 1)) (fun H4 j y => BkAt H4 y (((f (i + 1 - rqn sz j) + sz j : Nat) : Int), ((rqn sz j : Nat) : Int))) (fun H H' i y kp => fun ⟨t, e1, e2⟩ => ⟨t, e1, kp _ _ e2⟩) nE (by rw [xl]; exact Nat.lt_of_le_of_lt (show p + 1 ≤ 1000 by omega) (by decide)) (fun H4 s4 => .inl (.inl (s4 _ _ hD3))) (fun j x H4 H5 hj s4 y Z N hZ hN => ?_) (fun H4 zs s4 hE pr => ?_)
      · obtain ⟨rfl, hx⟩ := y
        obtain ⟨b, hb, U, rfl, hU⟩ := Paired.get (bD3 : Paired (BkAt H3) xs (rqs sz p)) hx
        rw [rqs_get (by omega)] at hb
        cases hb
        refine ⟨U, _, rfl, .inl (.inl (s4 _ _ hU)), rfl, _, _, rfl, _, _, rfl, rfl, rfl, ?_⟩
        refine ⟨.int _, rfl, .int _, rfl, _, _, rfl, rfl, _, rfl, ite2 (fun c0 => ?_) (fun c0 => ?_)⟩
        · have c1 : ((rqn sz j : Nat) : Int) ≤ 1 + (i : Int) := of_decide_eq_true c0
          have c2 : rqn sz j ≤ i + 1 := by omega
          have r1 := rqn_pos sz j
          obtain ⟨x, hx2, V2, rfl, hV⟩ := BL.at' bl (bst_get (f := f) (ch := ch) (n := i + 1) (t := i + 1 - rqn sz j) (by omega))
          refine ⟨.ref B, rfl, .int _, rfl, .int _, rfl, _, _, rfl, rfl, B, ys, ((i + 1 - rqn sz j : Nat) : Int), _, rfl, ?_, .inl (.inl (s4 _ _ hB)), atI_nat hx2, V2, _, 0, _, rfl, rfl, .inl (.inl (s4 _ _ hV)), atI_nat (j := 0) rfl, .int _, rfl, _, _, rfl, rfl, .int _, rfl, (by show 2 ≤ sizeLine; decide), fun t nt => ?_⟩
          · show V.int (1 + (i : Int) - ((rqn sz j : Nat) : Int)) = _
            congr 1
            omega
          · refine hZ _ _ (same_upd nt) (decide_eq_true c2) ⟨t, rfl, ?_⟩
            rw [upd_same]
            rfl
        · have c1 : ¬ ((rqn sz j : Nat) : Int) ≤ 1 + (i : Int) := of_decide_eq_false (by simpa using c0)
          exact hN _ (Same.refl _) (decide_eq_false (by omega))
      · have nil0 : zs ≠ [] := fun e => by
          rw [e] at pr
          have h0 : (0 : Nat) ∈ (List.range xs.length).filter fun j => decide (rqn sz j ≤ i + 1) := List.mem_filter.mpr ⟨List.mem_range.mpr (by omega), decide_eq_true (by show 1 ≤ i + 1; omega)⟩
          have := pr.length
          rw [List.length_eq_zero_iff.mp this] at h0
          cases h0
        have all : ∀ z ∈ zs, ∃ j, j ≤ p ∧ rqn sz j ≤ i + 1 ∧ BkAt H4 z (((f (i + 1 - rqn sz j) + sz j : Nat) : Int), ((rqn sz j : Nat) : Int)) := fun z hz => by
          obtain ⟨m, hm⟩ := List.getElem?_of_mem hz
          obtain ⟨j, hj, b⟩ := Paired.get2 pr hm
          obtain ⟨h1, h2⟩ := List.mem_filter.mp (List.mem_of_getElem? hj)
          exact ⟨j, by have := List.mem_range.mp h1; omega, of_decide_eq_true h2, b⟩
        have has : ∀ j, j ≤ p → rqn sz j ≤ i + 1 → ∃ z ∈ zs, BkAt H4 z (((f (i + 1 - rqn sz j) + sz j : Nat) : Int), ((rqn sz j : Nat) : Int)) := fun j h1 h2 => by
          have hj : j ∈ (List.range xs.length).filter fun j => decide (rqn sz j ≤ i + 1) := List.mem_filter.mpr ⟨List.mem_range.mpr (by omega), decide_eq_true h2⟩
          obtain ⟨m, hm⟩ := List.getElem?_of_mem hj
          obtain ⟨z, hz, b⟩ := Paired.get pr hm
          exact ⟨z, List.mem_of_getElem? hz, b⟩
        refine ⟨E2, zs, kH H4, rfl, .inl (.inl hE), fun z hz => ?_, List.length_pos_iff.mpr nil0, fun z hz mx => ?_⟩
        · obtain ⟨j, _, _, b⟩ := all z hz
          rw [b.k]
          exact b
        · obtain ⟨j, j1, j2, b⟩ := all z hz
          have r1 := rqn_pos sz j
          have hB4 := s4 _ _ hB
          have kpB : KpT H4 (upd H4 B (.lst (ys ++ [z]))) := fun v us e => by
            rw [upd_ne (ne_of e hB4 (by intro z; cases z))]
            exact e
          refine ⟨B, _, _, rfl, rfl, hB4, ?_, some (.int (1 + (i : Int))), _, _, ys ++ [z], fun t => if t = i + 1 then f (i + 1 - rqn sz j) + sz j else f t, fun t => if t = i + 1 then rqn sz j else ch t, rfl, fun b o nb e => ?_, upd_same, ?_, ?_⟩
          · have := bl.len
            rw [bst_len] at this
            rw [this]
            exact Nat.lt_of_le_of_lt (show i + 1 ≤ 200000 by omega) (by decide)
          · rw [upd_ne nb]
            exact s4 _ _ (kp b o nb e)
          · rw [bst_succ]
            refine BL.app ?_ (.cons ?_ .nil)
            · rw [bst_congr (f' := f) (ch' := ch) (fun t ht => ⟨if_neg (by omega), if_neg (by omega)⟩)]
              exact bl.keep fun v us e => kpB v us (s4 _ _ e)
            · obtain ⟨t, e1, e2⟩ := b
              refine ⟨t, e1, ?_⟩
              rw [if_pos rfl, if_pos rfl]
              exact kpB _ _ e2
          · refine ⟨by show (if 0 = i + 1 then _ else f 0) = 0; rw [if_neg (by omega)]; exact bs.f0, fun t h1 h2 => ?_, fun t j' h1 h2 h3 h4 => ?_⟩
            · rcases Nat.lt_or_ge t (i + 1) with z1 | z1
              · obtain ⟨j', e1, e2, e3, e4⟩ := bs.at_ t h1 (by omega)
                have n1 : ¬ t = i + 1 := by omega
                have n2 : ¬ t - ch t = i + 1 := by omega
                refine ⟨j', e1, ?_, ?_, ?_⟩
                · show (if t = i + 1 then _ else ch t) = _
                  rw [if_neg n1]; exact e2
                · show (if t = i + 1 then _ else ch t) ≤ _
                  rw [if_neg n1]; exact e3
                · show (if t = i + 1 then _ else f t) = (if t - (if t = i + 1 then _ else ch t) = i + 1 then _ else f (t - (if t = i + 1 then _ else ch t))) + _
                  rw [if_neg n1, if_neg n1, if_neg n2]; exact e4
              · have e : t = i + 1 := by omega
                subst e
                refine ⟨j, j1, if_pos rfl, ?_, ?_⟩
                · show (if i + 1 = i + 1 then _ else ch (i + 1)) ≤ _
                  rw [if_pos rfl]; exact j2
                · show (if i + 1 = i + 1 then _ else f (i + 1)) = (if i + 1 - (if i + 1 = i + 1 then _ else ch (i + 1)) = i + 1 then _ else f (i + 1 - (if i + 1 = i + 1 then _ else ch (i + 1)))) + _
                  rw [if_pos rfl, if_pos rfl, if_neg (by omega)]
            · have r2 := rqn_pos sz j'
              show (if t - rqn sz j' = i + 1 then _ else f (t - rqn sz j')) + sz j' ≤ (if t = i + 1 then _ else f t)
              rw [if_neg (by omega)]
              rcases Nat.lt_or_ge t (i + 1) with z1 | z1
              · rw [if_neg (by omega)]
                exact bs.le t j' h1 (by omega) h3 h4
              · have e : t = i + 1 := by omega
                subst e
                rw [if_pos rfl]
                obtain ⟨z', hz', b'⟩ := has j' h3 h4
                have m2 := SrtO.lexB_no.mp (mx z' hz')
                rw [b.k, b'.k] at m2
                dsimp only at m2
                omega
    · rintro σ H3 ⟨y4, y5, y6, ys, f, ch, rfl, kp, hB, bl, bs⟩
      have e : ((W : Int) + 1 - 1).toNat = W := by omega
      rw [e] at bl bs
      exact ⟨.ref B, rfl, q _ B ys f ch (s1.trans (st0.trans (nBt H3 kp))) (none_of_same (s1.trans st0) nB) hB bl bs⟩
def spMl (K : PySem.W.Frag) : Sp := fun vs H Q _ => ∃ (c : Addr) (s : Nat → Nat) (p W : Nat), vs = [.ref c, .int W] ∧ SqT K H c ((tl s (p + 1)).map V.int) ∧ p < 1000 ∧ W ≤ 100000 ∧ ∀ H' f ch, Same H H' → Best s p f ch W → Q (.int ((f W : Nat) : Int)) H'
theorem ok_Ml {k : Nat} (Z : Fns K mg) : FnOk P w K mg base CX0 (k + 1 + 1 + 1) Z.fMl Z.fdMl ["chain", "words"] (spMl K) := by
  have GBr : FnOk P w K mg base CX0 (k + 1 + 1) Z.fBr Z.fdBr ["chain", "words"] (spBr K) := ok_Br Z
  refine Z.FMl.ok scMl (fun vs H Q E h => ?_) (fun cdv A outer s H vs Q E hr h => ?_)
  · obtain ⟨c, s, p, W, rfl, _⟩ := h
    rfl
  · obtain ⟨c, sz, p, W, rfl, hc, hp, hW, q⟩ := h
    refine ⟨_, (pss_one (ps_ret (pe_ix ix_tup (pe_ix ix_list (pe_call GBr (hr.mono (by omega)) (by rfl) Z.gBr Z.FBr.kp Z.bBr .nil pass0 (pa_cons (pv 0) (pa_cons (pv 1) pa_nil))) (pv 1) (fun _ _ => rfl)) pe_int (fun _ _ => rfl)))), ?_⟩
    refine ⟨.ref c, rfl, .int W, rfl, c, sz, p, W, rfl, hc, hp, hW, fun H1 D xs f ch s1 nD hD bl bs => ?_⟩
    obtain ⟨x, hx, V2, rfl, hV⟩ := BL.at' bl (bst_get (f := f) (ch := ch) (n := W + 1) (t := W) (by omega))
    exact ⟨.int W, rfl, D, xs, W, _, rfl, rfl, .inl (.inl hD), atI_nat hx, V2, _, 0, _, rfl, rfl, .inl (.inl hV), atI_nat (j := 0) rfl, q _ f ch s1 bs⟩
end
/-! ### most_live by trying: the same numbers -/
def Rnd (s : Nat → Nat) (p m j : Nat) : Prop := j ≤ p ∧ m ≤ s j ∧ ∀ i, i < j → s i < m
structure Most (s : Nat → Nat) (p : Nat) (f : Nat → Nat) (W : Nat) : Prop where
  f0 : f 0 = 0
  at_ : ∀ t, 1 ≤ t → t ≤ W → ∃ m j, 1 ≤ m ∧ m ≤ t ∧ m ≤ s p ∧ Rnd s p m j ∧ f t = s j + f (t - m)
  le : ∀ t m j, 1 ≤ t → t ≤ W → 1 ≤ m → m ≤ t → m ≤ s p → Rnd s p m j → s j + f (t - m) ≤ f t
theorem Cn.lt {s : Nat → Nat} {p m i : Nat} (c : Cn s p m) (h : i < p) : s i < s (i + 1) := by
  obtain ⟨r, r2, _, e⟩ := c.two i h
  have := c.ch.pos (i := i) (by omega)
  rw [e]
  have : s i * 2 ≤ s i * r := Nat.mul_le_mul_left _ r2
  omega
theorem Cn.smono {s : Nat → Nat} {p m i : Nat} (c : Cn s p m) : ∀ {j}, i < j → j ≤ p → s i < s j
  | 0, h, _ => absurd h (by omega)
  | j + 1, h, h2 => by
    have h3 := c.lt (i := j) (by omega)
    rcases Nat.lt_or_ge i j with z | z
    · exact Nat.lt_trans (c.smono z (by omega)) h3
    · have : i = j := by omega
      rw [this]; exact h3
theorem rnd_rqn {s : Nat → Nat} {p m j : Nat} (c : Cn s p m) (h : j ≤ p) : Rnd s p (rqn s j) j := by
  refine ⟨h, ?_, fun i hi => ?_⟩
  · cases j with
    | zero => show 1 ≤ s 0; rw [c.ch.s0]; exact Nat.le_refl _
    | succ j => exact c.lt (by omega)
  · cases j with
    | zero => exact absurd hi (by omega)
    | succ j =>
      show s i < s j + 1
      rcases Nat.lt_or_ge i j with z | z
      · have := c.smono z (by omega)
        omega
      · have : i = j := by omega
        rw [this]; omega
theorem rqn_le {s : Nat → Nat} {p m j : Nat} (h : Rnd s p m j) (h1 : 1 ≤ m) : rqn s j ≤ m := by
  cases j with
  | zero => exact h1
  | succ j => exact h.2.2 j (by omega)
theorem Best.up {s : Nat → Nat} {p : Nat} {f ch : Nat → Nat} {W : Nat} (b : Best s p f ch W) : ∀ {u t}, t ≤ u → u ≤ W → f t ≤ f u
  | 0, t, h, _ => by rw [Nat.le_zero.mp h]; exact Nat.le_refl _
  | u + 1, t, h, hw => by
    rcases Nat.lt_or_ge t (u + 1) with z | z
    · have h1 := b.up (u := u) (t := t) (by omega) (by omega)
      have h2 := b.le (u + 1) 0 (by omega) hw (Nat.zero_le _) (by show 1 ≤ u + 1; omega)
      have h3 : u + 1 - rqn s 0 = u := rfl
      rw [h3] at h2
      omega
    · have : t = u + 1 := by omega
      rw [this]; exact Nat.le_refl _
theorem best_most {s : Nat → Nat} {p m W W' : Nat} {f ch g : Nat → Nat} (c : Cn s p m) (b : Best s p f ch W) (q : Most s p g W') : ∀ n t, t ≤ n → t ≤ W → t ≤ W' → f t = g t
  | 0, t, h, _, _ => by rw [Nat.le_zero.mp h, b.f0, q.f0]
  | n + 1, t, h, h1, h2 => by
    rcases Nat.eq_zero_or_pos t with z | z
    · rw [z, b.f0, q.f0]
    · refine Nat.le_antisymm ?_ ?_
      · obtain ⟨j, hj, e1, e2, e3⟩ := b.at_ t z h1
        have r1 := rqn_pos s j
        have rn := rnd_rqn c hj
        have sp : s j ≤ s p := c.ch.mono hj (by omega)
        have := q.le t (rqn s j) j z h2 r1 (by omega) (Nat.le_trans rn.2.1 sp) rn
        rw [← best_most c b q n (t - rqn s j) (by omega) (by omega) (by omega)] at this
        rw [e3, e1]
        omega
      · obtain ⟨k, j, k1, k2, k3, rn, e⟩ := q.at_ t z h2
        have r1 := rqn_pos s j
        have rl := rqn_le rn k1
        have h3 := b.le t j z h1 rn.1 (by omega)
        have h4 := b.up (u := t - rqn s j) (t := t - k) (by omega) (by omega)
        rw [e, ← best_most c b q n (t - k) (by omega) (by omega) (by omega)]
        omega
theorem best_uniq {s : Nat → Nat} {p m W W' : Nat} {f ch g ch' : Nat → Nat} (c : Cn s p m) (b : Best s p f ch W) (q : Best s p g ch' W') : ∀ n t, t ≤ n → t ≤ W → t ≤ W' → f t = g t
  | 0, t, h, _, _ => by rw [Nat.le_zero.mp h, b.f0, q.f0]
  | n + 1, t, h, h1, h2 => by
    rcases Nat.eq_zero_or_pos t with z | z
    · rw [z, b.f0, q.f0]
    · refine Nat.le_antisymm ?_ ?_
      · obtain ⟨j, hj, e1, e2, e3⟩ := b.at_ t z h1
        have r1 := rqn_pos s j
        have := q.le t j z h2 hj (by omega)
        rw [← best_uniq c b q n (t - rqn s j) (by omega) (by omega) (by omega)] at this
        rw [e3, e1]
        omega
      · obtain ⟨j, hj, e1, e2, e3⟩ := q.at_ t z h2
        have r1 := rqn_pos s j
        have := b.le t j z h1 hj (by omega)
        rw [best_uniq c b q n (t - rqn s j) (by omega) (by omega) (by omega)] at this
        rw [e3, e1]
        omega
theorem fst_filter {p : Nat → Bool} : ∀ {n : Nat}, (∃ j, j < n ∧ p j = true) → ∃ j r, (List.range n).filter p = j :: r ∧ j < n ∧ p j = true ∧ ∀ i, i < j → p i = false
  | 0, ⟨j, h, _⟩ => absurd h (by omega)
  | n + 1, ⟨j, h, hp⟩ => by
    rw [List.range_succ, List.filter_append]
    by_cases e : ∃ j, j < n ∧ p j = true
    · obtain ⟨j, r, e1, e2, e3, e4⟩ := fst_filter e
      exact ⟨j, r ++ [n].filter p, by rw [e1]; rfl, by omega, e3, e4⟩
    · have all : ∀ i, i < n → p i = false := fun i hi => by
        cases hq : p i with
        | false => rfl
        | true => exact absurd ⟨i, hi, hq⟩ e
      have e0 : (List.range n).filter p = [] := List.filter_eq_nil_iff.mpr fun a ha => by
        rw [all a (List.mem_range.mp ha)]; decide
      have jn : j = n := by
        rcases Nat.lt_or_ge j n with z | z
        · rw [all j z] at hp; cases hp
        · omega
      subst jn
      exact ⟨j, [], by rw [e0, List.filter_cons_of_pos hp]; rfl, by omega, hp, all⟩
section
variable {P : Program} {w : World} {K : PySem.W.Frag} {mg : Str → Option Value} {base : Heap}
def spEp (K : PySem.W.Frag) : Sp := fun vs H Q _ => ∃ (c : Addr) (s : Nat → Nat) (p W : Nat), vs = [.ref c, .int W] ∧ SqT K H c ((tl s (p + 1)).map V.int) ∧ Szs s (p + 1) ∧ W ≤ 100000 ∧ ∀ H' f ch, Same H H' → Best s p f ch W → Q (.int ((bb s (f W) p / s p : Nat) : Int)) H'
theorem ok_Ep {k : Nat} (Z : Fns K mg) : FnOk P w K mg base CX0 (k + 1 + 1 + 1 + 1 + 1 + 1) Z.fEp Z.fdEp ["chain", "words"] (spEp K) := by
  have GPn : FnOk P w K mg base CX0 (k + 1 + 1 + 1 + 1 + 1) Z.fPn Z.fdPn ["chain", "limit"] (spPn K) := ok_Pn Z
  have GMl : FnOk P w K mg base CX0 (k + 1 + 1 + 1) Z.fMl Z.fdMl ["chain", "words"] (spMl K) := ok_Ml Z
  refine Z.FEp.ok scEp (fun vs H Q E h => ?_) (fun cdv A outer s H vs Q E hr h => ?_)
  · obtain ⟨c, s, p, W, rfl, _⟩ := h
    rfl
  · obtain ⟨c, sz, p, W, rfl, hc, hs, hW, q⟩ := h
    refine ⟨_, (pss_one (ps_ret (pe_call GPn (hr.mono (by omega)) (by rfl) Z.gPn Z.FPn.kp Z.bPn .nil pass0 (pa_cons (pv 0) (pa_cons (pe_call GMl (hr.mono (by omega)) (by rfl) Z.gMl Z.FMl.kp Z.bMl .nil pass0 (pa_cons (pv 0) (pa_cons (pv 1) pa_nil))) pa_nil))))), ?_⟩
    refine ⟨.ref c, rfl, .ref c, rfl, .int W, rfl, c, sz, p, W, rfl, hc, by have := hs.2.1; omega, hW, fun H1 f ch s1 bs => ?_⟩
    exact ⟨c, sz, p, f W, rfl, s1.tup hc, hs, fun H2 s2 => q _ f ch (s1.trans s2) bs⟩
end
section
variable {P : Program} {w : World} {K : PySem.W.Frag} {mg : Str → Option Value} {base : Heap}
structure Mix (s : Nat → Nat) (p : Nat) (f : Nat → Nat) (W : Nat) (ms : List Int) (js : List Nat) : Prop where
  srt : ms.Pairwise (· ≤ ·)
  prm : ms.Perm (js.map fun j => ((rqn s j : Nat) : Int))
  le : ∀ j ∈ js, j ≤ p
  sum : (js.map (rqn s)).sum = W
  all : (js.map s).sum = f W
/-- the law's own numbers -/
structure Mst (s : Nat → Nat) (p : Nat) (g : Nat → Nat) (W : Nat) : Prop where
  g0 : g 0 = 0
  at_ : ∀ t, 1 ≤ t → t ≤ W → g t = g (t - 1) ∨ ∃ j, j ≤ p ∧ rqn s j ≤ t ∧ g t = g (t - rqn s j) + s j
  up : ∀ t, 1 ≤ t → t ≤ W → g (t - 1) ≤ g t
  le : ∀ t j, 1 ≤ t → t ≤ W → j ≤ p → rqn s j ≤ t → g (t - rqn s j) + s j ≤ g t
theorem best_mst {s : Nat → Nat} {p W : Nat} {f ch g : Nat → Nat} (b : Best s p f ch W) (q : Mst s p g W) : ∀ n t, t ≤ n → t ≤ W → f t = g t
  | 0, t, h, _ => by rw [Nat.le_zero.mp h, b.f0, q.g0]
  | n + 1, t, h, h1 => by
    rcases Nat.eq_zero_or_pos t with z | z
    · rw [z, b.f0, q.g0]
    · refine Nat.le_antisymm ?_ ?_
      · obtain ⟨j, hj, e1, e2, e3⟩ := b.at_ t z h1
        have r1 := rqn_pos s j
        have := q.le t j z h1 hj (by omega)
        rw [← best_mst b q n (t - rqn s j) (by omega) (by omega)] at this
        rw [e3, e1]
        omega
      · rcases q.at_ t z h1 with e | ⟨j, hj, e1, e2⟩
        · rw [e, ← best_mst b q n (t - 1) (by omega) (by omega)]
          exact b.up (by omega) h1
        · have r1 := rqn_pos s j
          have := b.le t j z h1 hj e1
          rw [best_mst b q n (t - rqn s j) (by omega) (by omega)] at this
          omega
end
end Ph

set_option maxHeartbeats 8000000
namespace Ph
open PySem PySem.Spec PyProof.Rows L2
/-! ### the program: sizes, gaps, the lowest place, states with and without a block -/
theorem in_intsL (x : Int) : ∀ C : List Int, inV (.int x) (C.map V.int) = decide (x ∈ C)
  | [] => by simp [inV]
  | c :: r => by
    have ih := in_intsL x r
    unfold inV at *
    rw [List.map_cons, List.any_cons, ih]
    have e : eqV (.int c) (.int x) = decide (c = x) := rfl
    rw [e]
    by_cases h : c = x
    · subst h; simp
    · have h2 : ¬ x = c := fun z => h z.symm
      simp [h, h2]
theorem first_atL {x : Int} : ∀ {C : List Int}, x ∈ C → ∃ j : Nat, C[j]? = some x ∧ ∀ m, m < j → C[m]? ≠ some x
  | c :: r, h => by
    by_cases e : c = x
    · subst e
      exact ⟨0, rfl, fun m hm => absurd hm (by omega)⟩
    · rcases List.mem_cons.mp h with z | z
      · exact absurd z.symm e
      · obtain ⟨j, h1, h2⟩ := first_atL z
        refine ⟨j + 1, by simpa using h1, fun m hm => ?_⟩
        cases m with
        | zero => simp [e]
        | succ m => simpa using h2 m (by omega)
section
variable {P : Program} {w : World} {K : PySem.W.Frag} {mg : Str → Option Value} {base : Heap}
def spI : Sp := fun vs H Q _ => ∃ i : Int, vs = [.int i] ∧ Q (.bl true) H
theorem ok_I {k : Nat} (Z : Fns K mg) : FnOk P w K mg base CX0 (k + 1) Z.fI Z.fdI ["value"] spI := by
  refine Z.FI.ok scI (fun vs H Q E h => ?_) (fun cdv A outer s H vs Q E hr h => ?_)
  · obtain ⟨m, rfl, _⟩ := h
    rfl
  · obtain ⟨m, rfl, q⟩ := h
    refine ⟨_, (pss_one (ps_ret (pe_and (pe_callB call_isi (by rfl) Z.N.isinstance (by decide +kernel) (pa_cons (pv 0) (pa_cons (pe_bltn (v := .ty "int") (by rfl) Z.N.int (by decide +kernel) rfl) pa_nil))) (pe_one (pe_not (pe_callB call_isi (by rfl) Z.N.isinstance (by decide +kernel) (pa_cons (pv 0) (pa_cons (pe_bltn (v := .ty "bool") (by rfl) Z.N.bool (by decide +kernel) rfl) pa_nil)))))))), ?_⟩
    refine ⟨.int m, rfl, .int m, .ty "int", .type "int", .type "int", true, rfl, .ty _, .base (.int _), kit_ty (by decide +kernel), _, rfl, ite2 (fun _ => ?_) (fun c => absurd rfl c)⟩
    exact ⟨.int m, rfl, .int m, .ty "bool", .type "int", .type "bool", false, rfl, .ty _, .base (.int _), kit_ty (by decide +kernel), _, rfl, q⟩
def tot (bs : List Bk) : Int := (bs.map fun b => b.2).sum
end
section
variable {P : Program} {w : World} {K : PySem.W.Frag} {mg : Str → Option Value} {base : Heap}
def spMf : Sp := fun vs H Q _ => ∃ a r : Nat, vs = [.int ((a * r : Nat) : Int), .int (a : Int)] ∧ 0 < a ∧ 2 ≤ r ∧ Q (.bl true) H
theorem ok_Mf {k : Nat} (Z : Fns K mg) : FnOk P w K mg base CX0 (k + 1) Z.fMf Z.fdMf ["larger", "size"] spMf := by
  refine Z.FMf.ok scMf (fun vs H Q E h => ?_) (fun cdv A outer s H vs Q E hr h => ?_)
  · obtain ⟨a, r, rfl, _⟩ := h
    rfl
  · obtain ⟨a, r, rfl, a0, r2, q⟩ := h
    refine ⟨_, (pss_one (ps_ret (pe_and (pe_chain op_lt op_lt pe_int (pv 1) (pv 0)) (pe_one (pe_cmpR op_eq (pe_op op_mod (pv 0) (pv 1)) pe_int (nomark _)))))), ?_⟩
    have lt : a < a * r := by
      have : a * 2 ≤ a * r := Nat.mul_le_mul_left a r2
      omega
    refine ⟨.int _, rfl, _, _, rfl, rfl, _, rfl, ite2 (fun _ => ?_) (fun c => absurd (decide_eq_true (show (0 : Int) < (a : Int) by omega)) c)⟩
    refine ⟨.int _, rfl, _, _, rfl, rfl, _, rfl, ite2 (fun _ => ?_) (fun c => absurd (decide_eq_true (show (a : Int) < ((a * r : Nat) : Int) by omega)) c)⟩
    refine ⟨.int _, rfl, .int _, rfl, _, _, rfl, rfl, (by omega : (0 : Int) < (a : Int)), rfl, ?_⟩
    have e : ((a * r : Nat) : Int) % (a : Int) = 0 := by
      rw [Int.natCast_mul]
      exact Int.mul_emod_right _ _
    show Q (.bl (decide (V.int (((a * r : Nat) : Int) % (a : Int)) = V.int 0))) H
    rw [e, decide_eq_true rfl]
    exact q
end
end Ph

set_option maxHeartbeats 8000000
namespace Ph
open PySem PySem.Spec PyProof.Rows L2
/-! ### the draws -/
section
variable {P : Program} {w : World} {K : PySem.W.Frag} {mg : Str → Option Value} {base : Heap}
theorem dig_mod (x y : Int) (hy : 0 < y) (hw : y.natAbs < 2 ^ 3000) : 0 ≤ x % y ∧ (x % y).natAbs < 2 ^ 3000 := by
  have h0 : 0 ≤ x % y := Int.emod_nonneg _ (by omega)
  exact ⟨h0, wide_le h0 (Int.le_of_lt (Int.emod_lt_of_pos _ hy)) hw⟩
theorem dig_mul {x : Int} (h : 0 ≤ x ∧ x.natAbs < 2 ^ 3000) (b : Bool) : CMulW x (if b = true then 1 else 0) :=
  wide_mul (b := 2) h.2 (by cases b <;> decide) (by decide) (by decide) (by decide)
theorem dig_ok {x : Int} (h : 0 ≤ x ∧ x.natAbs < 2 ^ 3000) (b : Bool) : 0 ≤ x * (if b = true then 1 else 0) ∧ (x * (if b = true then 1 else 0)).natAbs < 2 ^ 3000 := by
  cases b
  · rw [if_neg (by decide), Int.mul_zero]
    exact ⟨Int.le_refl _, Nat.pow_pos (by decide)⟩
  · rw [if_pos rfl, Int.mul_one]
    exact h
def spDw (K : PySem.W.Frag) : Sp := fun vs H Q _ => ∃ (a : Addr) (ns : List Int) (k : Nat), vs = [.ref a, .int k] ∧ SqL K H a (ns.map V.int) ∧ k ≤ 1000 ∧ ∀ H' p, Same H H' → H p = none → Po H' p → Q (.ref p) H'
theorem ok_Dw {k : Nat} (Z : Fns K mg) : FnOk P w K mg base CX0 (k + 1) Z.fDw Z.fdDw ["_law_script", "_law_index"] (spDw K) := by
  refine Z.FDw.ok scDw (fun vs H Q E h => ?_) (fun cdv A outer s H vs Q E hr h => ?_)
  · obtain ⟨a, ns, k, rfl, _⟩ := h
    rfl
  · obtain ⟨a, ns, n, rfl, hS, hn, q⟩ := h
    refine ⟨_, (pss_cons (ps_set (i := 2) scDw.nd rfl (.inl rfl) (pe_ifExp (pt_cmpR op_lt (pv 1) (pe_callB call_len_seq (by rfl) Z.N.len (by decide +kernel) (pa_cons (pv 0) pa_nil)) (nomark _)) (pe_ix ix_list (pv 0) (pv 1) (fun _ _ => rfl)) (pe_op op_add (pe_op op_mul pe_int (pv 1)) pe_int)))
 (pss_cons (ps_set (i := 3) scDw.nd rfl (.inl rfl) (pe_op op_mulW (pe_op op_mod (pe_callB call_abs (by rfl) Z.N.abs (by decide +kernel) (pa_cons (pv 2) pa_nil)) (pe_op op_powW (pe_op op_pow pe_int pe_int) pe_int)) (pe_callTy call_int1 (by rfl) Z.N.int (by decide +kernel) (pa_cons (pe_cmpR op_ge (pe_callB call_abs (by rfl) Z.N.abs (by decide +kernel) (pa_cons (pv 2) pa_nil)) (pe_op op_pow pe_int pe_int) (nomark _)) pa_nil))))
 (pss_one (ps_ret (pe_lst (pa_cons (pv 3) (pa_cons (pe_op op_mod (pe_op op_mul (pe_op op_add (pe_op op_add (pe_op op_mod (pv 2) pe_int) (pe_op op_mul (pe_op op_mul pe_int (pv 1)) (pv 1))) pe_int) pe_int) pe_int) (pa_cons pe_int pa_nil)))))))), ?_⟩
    have big : (0 : Int) < ((10 : Int) ^ (60 : Int).toNat) ^ (5 : Int).toNat ∧ (((10 : Int) ^ (60 : Int).toNat) ^ (5 : Int).toNat).natAbs < 2 ^ 3000 := by decide +kernel
    have pw : CPowW ((10 : Int) ^ (60 : Int).toNat) 5 := ⟨by decide, by decide +kernel⟩
    refine ⟨.int n, rfl, .ref a, rfl, a, _, rfl, .inl hS, _, _, rfl, rfl, _, rfl, ite2 (fun e => ?_) (fun e => ?_)⟩
    · have e1 : (n : Int) < ((ns.map V.int).length : Nat) := of_decide_eq_true e
      have e2 : n < ns.length := by
        rw [List.length_map] at e1
        omega
      refine ⟨.ref a, rfl, .int n, rfl, a, ns.map V.int, n, .int ns[n], rfl, rfl, hS, atI_nat (j := n) (by rw [List.getElem?_map, List.getElem?_eq_getElem e2]; rfl), ?_⟩
      refine ⟨.int _, rfl, _, rfl, _, _, rfl, rfl, ⟨by decide, by decide, by decide⟩, _, _, rfl, rfl, pw, _, _, rfl, rfl, big.1, .int _, rfl, _, rfl, _, _, rfl, rfl, ⟨by decide, by decide, by decide⟩, _, _, rfl, rfl, .inr ⟨_, rfl, _, _, rfl, rfl, dig_mul (dig_mod _ _ big.1 big.2) _, ?_⟩⟩
      refine ⟨.int _, rfl, .int _, rfl, _, _, rfl, rfl, (by decide : (0 : Int) < 2305843009213693951), .int n, rfl, _, _, rfl, rfl, .inl ⟨by decide, by decide⟩, .int n, rfl, _, _, rfl, rfl, .inr ⟨by omega, by omega⟩, _, _, rfl, rfl, _, _, rfl, rfl, _, _, rfl, rfl, .inr ⟨by decide, by decide⟩, _, _, rfl, rfl, (by decide : (0 : Int) < 2305843009213693951), (by show 3 ≤ sizeLine; decide), fun p np => ?_⟩
      exact q _ p (same_upd np) np ⟨_, _, _, upd_same, (dig_ok (dig_mod _ _ big.1 big.2) _).1, (dig_ok (dig_mod _ _ big.1 big.2) _).2, Int.emod_nonneg _ (by decide), Int.emod_lt_of_pos _ (by decide), by decide⟩
    · refine ⟨.int n, rfl, _, _, rfl, rfl, .inl ⟨by decide, by decide⟩, _, _, rfl, rfl, ?_⟩
      refine ⟨.int _, rfl, _, rfl, _, _, rfl, rfl, ⟨by decide, by decide, by decide⟩, _, _, rfl, rfl, pw, _, _, rfl, rfl, big.1, .int _, rfl, _, rfl, _, _, rfl, rfl, ⟨by decide, by decide, by decide⟩, _, _, rfl, rfl, .inr ⟨_, rfl, _, _, rfl, rfl, dig_mul (dig_mod _ _ big.1 big.2) _, ?_⟩⟩
      refine ⟨.int _, rfl, .int _, rfl, _, _, rfl, rfl, (by decide : (0 : Int) < 2305843009213693951), .int n, rfl, _, _, rfl, rfl, .inl ⟨by decide, by decide⟩, .int n, rfl, _, _, rfl, rfl, .inr ⟨by omega, by omega⟩, _, _, rfl, rfl, _, _, rfl, rfl, _, _, rfl, rfl, .inr ⟨by decide, by decide⟩, _, _, rfl, rfl, (by decide : (0 : Int) < 2305843009213693951), (by show 3 ≤ sizeLine; decide), fun p np => ?_⟩
      exact q _ p (same_upd np) np ⟨_, _, _, upd_same, (dig_ok (dig_mod _ _ big.1 big.2) _).1, (dig_ok (dig_mod _ _ big.1 big.2) _).2, Int.emod_nonneg _ (by decide), Int.emod_lt_of_pos _ (by decide), by decide⟩
def spNx : Sp := fun vs H Q _ => ∃ (p : Addr) (b : Int), vs = [.ref p, .int b] ∧ Po H p ∧ 0 < b ∧ b < 4611686018427387904 ∧ ∀ H' d, But p H H' → Po H' p → 0 ≤ d → d < b → Q (.int d) H'
theorem ok_Nx {k : Nat} (Z : Fns K mg) : FnOk P w K mg base CX0 (k + 1) Z.fNx Z.fdNx ["_law_pot_here", "_law_count_here"] spNx := by
  refine Z.FNx.ok scNx (fun vs H Q E h => ?_) (fun cdv A outer s H vs Q E hr h => ?_)
  · obtain ⟨p, n, rfl, _⟩ := h
    rfl
  · obtain ⟨p, n, rfl, ⟨g, r, m, hp, hv⟩, hn0, hn1, q⟩ := h
    refine ⟨_, (pss_cons (ps_if (pt_cmpR op_gt (pe_ix ix_list (pv 0) pe_int (fun _ _ => rfl)) pe_int (nomark _))
 (pss_cons (ps_set (i := 2) scNx.nd rfl (.inl rfl) (pe_op op_mod (pe_ix ix_list (pv 0) pe_int (fun _ _ => rfl)) (pv 1)))
 (pss_cons (ps_asg (pe_op op_fdivW (pe_ix ix_list (pv 0) pe_int (fun _ _ => rfl)) (pv 1)) (pg_sub (pv 0) pe_int set_list))
 (pss_one (ps_ret (pv 2))))) pss_nil)
 (pss_cons (ps_asg (pe_op op_add (pe_ix ix_list (pv 0) pe_int (fun _ _ => rfl)) pe_int) (pg_sub (pv 0) pe_int set_list))
 (pss_cons (ps_set (i := 3) scNx.nd rfl (.inl rfl) (pe_op op_add (pe_op op_add (pe_op op_mul (pe_ix ix_list (pv 0) pe_int (fun _ _ => rfl)) pe_int) (pe_op op_mul pe_int (pe_ix ix_list (pv 0) pe_int (fun _ _ => rfl)))) pe_int))
 (pss_cons (ps_asg (pe_op op_mod (pv 3) pe_int) (pg_sub (pv 0) pe_int set_list))
 (pss_one (ps_ret (pe_op op_mod (pe_op op_fdiv (pe_op op_mod (pe_op op_mul (pe_op op_fdiv (pe_ix ix_list (pv 0) pe_int (fun _ _ => rfl)) pe_int) (pe_op op_add (pe_op op_mod (pe_ix ix_list (pv 0) pe_int (fun _ _ => rfl)) pe_int) pe_int)) pe_int) pe_int) (pv 1)))))))), ?_⟩
    have hL : SqL K H p [.int g, .int r, .int m] := .inl (.inl hp)
    refine ⟨.ref p, rfl, p, _, 0, .int g, rfl, rfl, hL, atI_nat (j := 0) rfl, g, 0, rfl, rfl, _, rfl, ite2 (fun e => ?_) (fun e => ?_)⟩
    · refine ⟨.ref p, rfl, p, _, 0, .int g, rfl, rfl, hL, atI_nat (j := 0) rfl, .int n, rfl, g, n, rfl, rfl, hn0, ?_⟩
      refine ⟨.ref p, rfl, p, _, 0, .int g, rfl, rfl, hL, atI_nat (j := 0) rfl, .int n, rfl, g, n, rfl, rfl, wide_div (b := 62) hn0 ?_ (by decide) (by decide), .ref p, rfl, p, _, 0, 0, rfl, rfl, hp, rfl, _, rfl, ?_⟩
      · have : (2 : Nat) ^ 62 = 4611686018427387904 := by decide
        rw [this]
        omega
      · have d0 : 0 ≤ g / n := Int.ediv_nonneg hv.g0 (by omega)
        have d1 : g / n ≤ g := Int.ediv_le_self _ hv.g0
        refine q _ _ but_upd ⟨_, _, _, upd_same, d0, wide_le d0 d1 hv.g1, hv.r0, hv.r1, hv.n0⟩ (Int.emod_nonneg _ (by omega)) (Int.emod_lt_of_pos _ hn0)
    · have n0 := hv.n0
      have r0 := hv.r0
      have r1 := hv.r1
      refine ⟨.ref p, rfl, p, _, 2, .int m, rfl, rfl, hL, atI_nat (j := 2) rfl, _, _, rfl, rfl, .ref p, rfl, p, _, 2, 2, rfl, rfl, hp, rfl, ?_⟩
      have hp2 : upd H p (.lst [.int g, .int r, .int (m + 1)]) p = some (.lst [.int g, .int r, .int (m + 1)]) := upd_same
      have hL2 : SqL K (upd H p (.lst [.int g, .int r, .int (m + 1)])) p [.int g, .int r, .int (m + 1)] := .inl (.inl hp2)
      refine ⟨.ref p, rfl, p, _, 1, .int r, rfl, rfl, hL2, atI_nat (j := 1) rfl, _, _, rfl, rfl, .inl ⟨by omega, by omega⟩, .ref p, rfl, p, _, 2, .int (m + 1), rfl, rfl, hL2, atI_nat (j := 2) rfl, _, _, rfl, rfl, .inl ⟨by decide, by decide⟩, _, _, rfl, rfl, _, _, rfl, rfl, ?_⟩
      refine ⟨.int _, rfl, _, _, rfl, rfl, (by decide : (0 : Int) < 2305843009213693951), .ref p, rfl, p, _, 1, 1, rfl, rfl, hp2, rfl, ?_⟩
      generalize r * 1181783497276652981 + 97531 * (m + 1) + 13 = y
      have m0 : 0 ≤ y % 2305843009213693951 := Int.emod_nonneg _ (by decide)
      have m1 : y % 2305843009213693951 < 2305843009213693951 := Int.emod_lt_of_pos _ (by decide)
      have hp3 : upd (upd H p (.lst [.int g, .int r, .int (m + 1)])) p (.lst [.int g, .int (y % 2305843009213693951), .int (m + 1)]) p = some (.lst [.int g, .int (y % 2305843009213693951), .int (m + 1)]) := upd_same
      have hL3 : SqL K (upd (upd H p (.lst [.int g, .int r, .int (m + 1)])) p (.lst [.int g, .int (y % 2305843009213693951), .int (m + 1)])) p [.int g, .int (y % 2305843009213693951), .int (m + 1)] := .inl (.inl hp3)
      refine ⟨.ref p, rfl, p, _, 1, .int (y % 2305843009213693951), rfl, rfl, hL3, atI_nat (j := 1) rfl, _, _, rfl, rfl, ⟨by decide, by decide⟩, .ref p, rfl, p, _, 1, .int (y % 2305843009213693951), rfl, rfl, hL3, atI_nat (j := 1) rfl, _, _, rfl, rfl, (by decide : (0 : Int) < 65537), _, _, rfl, rfl, _, _, rfl, rfl, .inl ⟨by omega, by omega⟩, _, _, rfl, rfl, (by decide : (0 : Int) < 2305843009213693921), _, _, rfl, rfl, ⟨by decide, by decide⟩, .int n, rfl, _, _, rfl, rfl, hn0, ?_⟩
      exact q _ _ (But.trans but_upd but_upd) ⟨_, _, _, hp3, hv.g0, hv.g1, m0, m1, by omega⟩ (Int.emod_nonneg _ (by omega)) (Int.emod_lt_of_pos _ hn0)
def spPk (K : PySem.W.Frag) : Sp := fun vs H Q _ => ∃ (p l : Addr) (xs : List V), vs = [.ref p, .ref l] ∧ Po H p ∧ (SqL K H l xs ∨ SqT K H l xs) ∧ l ≠ p ∧ xs ≠ [] ∧ xs.length ≤ 100000 ∧ ∀ H' x, But p H H' → Po H' p → x ∈ xs → Q x H'
theorem ok_Pk {k : Nat} (Z : Fns K mg) : FnOk P w K mg base CX0 (k + 1 + 1) Z.fPk Z.fdPk ["_law_pot_here", "_law_some"] (spPk K) := by
  have GNx : FnOk P w K mg base CX0 (k + 1) Z.fNx Z.fdNx ["_law_pot_here", "_law_count_here"] spNx := ok_Nx Z
  refine Z.FPk.ok scPk (fun vs H Q E h => ?_) (fun cdv A outer s H vs Q E hr h => ?_)
  · obtain ⟨p, l, xs, rfl, _⟩ := h
    rfl
  · obtain ⟨p, l, xs, rfl, hp, hl, hne, hx, hlen, q⟩ := h
    refine ⟨_, (pss_one (ps_ret (pe_ix ix_any (pv 1) (pe_call GNx (hr.mono (by omega)) (by rfl) Z.gNx Z.FNx.kp Z.bNx .nil pass0 (pa_cons (pv 0) (pa_cons (pe_callB call_len_seq (by rfl) Z.N.len (by decide +kernel) (pa_cons (pv 1) pa_nil)) pa_nil))) (fun _ _ => rfl)))), ?_⟩
    have hx0 : 0 < xs.length := List.length_pos_iff.mpr hx
    refine ⟨.ref l, rfl, .ref p, rfl, .ref l, rfl, l, xs, rfl, hl, p, _, rfl, hp, ?_, ?_, fun H' d hb hp' d0 d1 => ?_⟩
    · omega
    · omega
    · obtain ⟨j, rfl⟩ : ∃ j : Nat, d = j := ⟨d.toNat, by omega⟩
      have hd : j < xs.length := by omega
      rcases hl with hl | hl
      · exact .inl ⟨l, xs, j, xs[j], rfl, rfl, hb.seq hne hl, atI_nat (List.getElem?_eq_getElem hd), q _ _ hb hp' (List.getElem_mem hd)⟩
      · exact .inr ⟨l, xs, j, xs[j], rfl, rfl, hb.tup hne hl, atI_nat (List.getElem?_eq_getElem hd), q _ _ hb hp' (List.getElem_mem hd)⟩
end
section
variable {P : Program} {w : World} {K : PySem.W.Frag} {mg : Str → Option Value} {base : Heap}
end
end Ph

set_option maxHeartbeats 4000000
/-! PhDcI: a dict comprehension (keys ints or texts) over any walk. -/
namespace Ph
open PySem PySem.Spec PyProof.Rows L2
theorem dc_it {J : It} {n : Nat} {G : Hp → Prop} {Y : Nat → Hp → V → Hp → Prop} (w : Walk J n G Y) {g : TG} {tt : TT} {tk tv : TE} {vs : List Nat} {σ : L2.St} {H1 : Hp} {D : Addr} {Qd : Hp → Prop} (Pv : Nat → Hp → Prop) (start : Pv 0 (upd H1 D (.dK []))) (stands : ∀ i H, i ≤ n → Pv i H → G H)
    (turn : ∀ i x H H', i < n → Pv i H → Y i H x H' → g x (wipe σ vs) H' fun σ2 H2 => wipe σ2 vs = wipe σ vs ∧ tt σ2 H2 fun b H3 => if b = true then tk σ2 H3 fun y H4 => tv σ2 H4 fun z H5 => ∃ kvs k, y = kV k ∧ H5 D = some (.dK kvs) ∧ kvs.length < sizeLine ∧ Pv (i + 1) (upd H5 D (.dK (putK kvs k z))) else Pv (i + 1) H3)
    (fin : ∀ H, Pv n H → Qd H) : ∃ W : Nat → Nat → Hp → Prop, (∃ m, W 0 m (upd H1 D (.dK []))) ∧ ∀ i m H, W i m H → (J.stop i H ∧ Qd H) ∨ (J.go i H ∧ ∃ Nx : Hp → Prop, (∀ H', Nx H' → ∃ m', m' < m ∧ W (i + 1) m' H') ∧ ∀ x H', J.yld i H x H' → g x (wipe σ vs) H' fun σ2 H2 => wipe σ2 vs = wipe σ vs ∧ tt σ2 H2 fun b H3 => if b = true then tk σ2 H3 fun y H4 => tv σ2 H4 fun z H5 => ∃ kvs k, y = kV k ∧ H5 D = some (.dK kvs) ∧ kvs.length < sizeLine ∧ Nx (upd H5 D (.dK (putK kvs k z))) else Nx H3) := by
  refine ⟨fun i m H => m + i = n ∧ Pv i H, ⟨n, by omega, start⟩, fun i m H ⟨e, p⟩ => ?_⟩
  have q := stands i H (by omega) p
  cases m with
  | zero =>
    obtain rfl : i = n := by omega
    exact .inl ⟨w.stops H q, fin H p⟩
  | succ m => exact .inr ⟨w.goes i H (by omega) q, Pv (i + 1), fun H' p' => ⟨m, by omega, by omega, p'⟩, fun x H' y => turn i x H H' (by omega) p (w.yields i H x H' (by omega) q y)⟩
theorem sw_dict {key val : Expr} {gens : List Comprehension} {sc : Scope} {at1 at2 : Pos} {nm : Str} {line : Nat} {en : Env} (kind : en.scope.kind = .function) (loc : en.scope.names.lookup nm = some .local) (same : (at2.line == at1.line) = true)
    (free : (sc.names.any fun (n, k) => n == nm && (k == .local || k == .cell)) = false) : swapsWith (.DictComp key val gens sc at1) (some (.Name nm at2)) line en = pure true := by
  have e1 : en.kindOf nm = some .local := loc
  have e2 : en.blockKind = .function := by unfold Env.blockKind; rw [kind]; rfl
  unfold swapsWith
  simp only [e2, e1, free, Expr.pos, same]
  rfl
theorem ps_setDc {X : Cx} {i : Nat} {nm : Str} {at2 : Pos} {key val tg iter : Expr} {ifs : List Expr} {sc : Scope} {own : List (Str × Nat)} {at1 at3 : Pos} {wi : TI} {g : TG} {tt : TT} {tk tv : TE} (calm : X.calm = true) (nd : X.N.Nodup) (hi : X.N[i]? = some nm) (loc : X.env.scope.names.lookup nm = some .local)
    (sw : swapsWith (.DictComp key val [⟨tg, iter, ifs, 0⟩] sc at1) (some (.Name nm at2)) at3.line X.env = pure true) (over : L2.PI X tg iter wi) (ok : BlkOk X.N X.env.scope sc own)
    (ptg : ∀ (s : Shared) (H : Hp) (C : Addr) (cl : List (Str × Addr)) (fp : List Addr), PG (X.blk s H sc (compEnvC sc cl C X.env) fp) tg g) (pif : ∀ (s : Shared) (H : Hp) (C : Addr) (cl : List (Str × Addr)) (fp : List Addr), PTs (X.blk s H sc (compEnvC sc cl C X.env) fp) ifs tt)
    (pkey : ∀ (s : Shared) (H : Hp) (C : Addr) (cl : List (Str × Addr)) (fp : List Addr), PE (X.blk s H sc (compEnvC sc cl C X.env) fp) key tk) (pval : ∀ (s : Shared) (H : Hp) (C : Addr) (cl : List (Str × Addr)) (fp : List Addr), PE (X.blk s H sc (compEnvC sc cl C X.env) fp) val tv)
    (fold : ∀ x, foldedSetIterable iter X.env x = pure x := by intro _; rfl) : PS X (.Assign [.Name nm at2] (.DictComp key val [⟨tg, iter, ifs, 0⟩] sc at1) at3) (tAsg (tDc wi g tt tk tv (own.map (·.2))) (gName i)) := by
  refine ⟨fun pins s σ H D I want => ?_⟩
  rw [exec_Assign_Name_used _ _ _ _ sw]
  refine wpAny_bind (wpAny_standAt (wpAny_bind ?_))
  have want : tDc wi g tt tk tv (own.map (·.2)) σ H (fun x H1 => gName i x σ H1 D.nx) := want
  refine wpAny_bind (thn (dc_core (use := some (assign (.Name nm at2) X.env)) (Qf := fun _ t => SP X pins D .next t) calm nd I over ok ptg pif pkey pval fold want fun D1 C1 t m H2 I2 q ns f => ?_) fun _ t z => wpAny_pure (wpAny_pure z))
  show wpAny _ _ (assign (.Name nm at2) X.env (.ref D1)) _ _ _
  refine wpAny_assign_Name (store_ok2 (v := V.ref D1) I2 nd hi (.inl loc) rfl (fun t2 J ⟨c, sb, hc⟩ => ?_) (.inr loc))
  obtain ⟨g0, g1, g2, g3, g4, g5⟩ := f
  have apart : C1 ≠ c := hc.elim (fun z => by rw [z]; exact g1) fun z e => g4 nm c z e.symm
  exact ⟨m, ns.sameBut sb apart, fun h3 sb3 => ⟨_, H2, J.turned (t' := t2.toks) (fun b o hb e => (sb3.2 b hb).trans e) g0 g1 g3 g4 g5, q⟩⟩
theorem pi_listE {X : Cx} {K : PySem.W.Frag} {tg e : Expr} {te : TE} (eK : X.K = K) (pe : PE X e te) : L2.PI X tg e (iList K te) := by
  subst eK
  exact pi_list pe
end Ph

set_option maxHeartbeats 8000000
namespace Ph
open PySem PySem.Spec PyProof.Rows L2
/-! ### all chains of a page -/
def dvs (page : Nat) : List Nat := ((List.range page).map fun j => 1 + j).filter fun b => decide (page % b = 0)
def fol (page a : Nat) : List Nat := (dvs page).filter fun b => decide (a < b) && decide (b % a = 0)
def cfr (page : Nat) : Nat → List Nat → Nat → List (List Nat)
  | 0, D, a => if a = page then [D ++ [a]] else []
  | d + 1, D, a => if a = page then [D ++ [a]] else (fol page a).flatMap fun b => cfr page d (D ++ [a]) b
theorem mem_dvs {page b : Nat} : b ∈ dvs page ↔ 1 ≤ b ∧ b ≤ page ∧ page % b = 0 := by
  unfold dvs
  rw [List.mem_filter, List.mem_map]
  constructor
  · rintro ⟨⟨j, hj, rfl⟩, h⟩
    exact ⟨by omega, by have := List.mem_range.mp hj; omega, of_decide_eq_true h⟩
  · rintro ⟨h1, h2, h3⟩
    exact ⟨⟨b - 1, List.mem_range.mpr (by omega), by omega⟩, decide_eq_true h3⟩
theorem mem_fol {page a b : Nat} : b ∈ fol page a ↔ 1 ≤ b ∧ b ≤ page ∧ page % b = 0 ∧ a < b ∧ b % a = 0 := by
  unfold fol
  rw [List.mem_filter, mem_dvs, Bool.and_eq_true, decide_eq_true_eq, decide_eq_true_eq]
  constructor
  · rintro ⟨⟨h1, h2, h3⟩, h4, h5⟩
    exact ⟨h1, h2, h3, h4, h5⟩
  · rintro ⟨h1, h2, h3, h4, h5⟩
    exact ⟨⟨h1, h2, h3⟩, h4, h5⟩
/-! how many there are at most -/
def sqs (page a K : Nat) : Nat := ((((List.range K).map fun j => 1 + j).filter fun b => decide (page % b = 0) && (decide (a < b) && decide (b % a = 0))).map fun b => (page / b) * (page / b)).sum
theorem sqs_succ (page a K : Nat) : sqs page a (K + 1) = sqs page a K + if page % (K + 1) = 0 ∧ a < K + 1 ∧ (K + 1) % a = 0 then (page / (K + 1)) * (page / (K + 1)) else 0 := by
  unfold sqs
  rw [List.range_succ, List.map_append, List.filter_append, List.map_append, List.sum_append]
  congr 1
  by_cases h : page % (K + 1) = 0 ∧ a < K + 1 ∧ (K + 1) % a = 0
  · rw [if_pos h]
    obtain ⟨h1, h2, h3⟩ := h
    have e : 1 + K = K + 1 := by omega
    simp [e, h1, h2, h3]
  · rw [if_neg h]
    have e : 1 + K = K + 1 := by omega
    have : (decide (page % (1 + K) = 0) && (decide (a < 1 + K) && decide ((1 + K) % a = 0))) = false := by
      rw [e]
      refine Bool.eq_false_iff.mpr fun z => h ?_
      simpa [Bool.and_eq_true, decide_eq_true_eq] using z
    simp only [List.map_cons, List.map_nil, List.filter_cons, this, List.filter_nil]
    rfl
theorem sqs_bound {page a m : Nat} (a0 : 0 < a) (hm : page = a * m) (m0 : 0 < m) : ∀ K, a ≤ K → sqs page a K * (K / a) + m * m ≤ m * m * (K / a) := by
  intro K hK
  induction K with
  | zero => omega
  | succ K ih =>
    rw [sqs_succ]
    by_cases hb : a ≤ K
    · have ih := ih hb
      by_cases h3 : (K + 1) % a = 0
      · obtain ⟨j, ej⟩ : ∃ j, K + 1 = a * (j + 1) := by
          obtain ⟨q, hq⟩ := Nat.dvd_of_mod_eq_zero h3
          cases q with
          | zero => omega
          | succ j => exact ⟨j, hq⟩
        have e1 : (K + 1) / a = j + 1 := by rw [ej, Nat.mul_div_cancel_left _ a0]
        have ea : a * (j + 1) = a * j + a := Nat.mul_succ a j
        have e2 : K / a = j := by
          have : K = a * j + (a - 1) := by omega
          rw [this, Nat.mul_add_div a0, Nat.div_eq_of_lt (by omega)]
          rfl
        have j0 : 0 < j := by
          rw [← e2]
          exact Nat.div_pos hb a0
        rw [e1]
        rw [e2] at ih
        generalize sqs page a K = S at *
        by_cases h1 : page % (K + 1) = 0
        · rw [if_pos ⟨h1, by omega, h3⟩]
          obtain ⟨q, hq⟩ := Nat.dvd_of_mod_eq_zero h1
          have eq : page / (K + 1) = q := by rw [hq, Nat.mul_div_cancel_left _ (by omega)]
          rw [eq]
          have em : m = (j + 1) * q := by
            have : a * m = a * ((j + 1) * q) := by rw [← hm, hq, ej, Nat.mul_assoc]
            exact Nat.eq_of_mul_eq_mul_left a0 this
          have emm : m * m = (q * q) * ((j + 1) * (j + 1)) := by rw [em, Nat.mul_comm (j + 1) q, Nat.mul_mul_mul_comm]
          generalize m * m = X at *
          generalize q * q = Y at *
          refine Nat.le_of_mul_le_mul_right ?_ j0
          have t1 : (S * j + X) * (j + 1) ≤ X * j * (j + 1) := Nat.mul_le_mul_right _ ih
          have t2 : Y * (j + 1) * j ≤ X := by
            rw [emm, ← Nat.mul_assoc]
            exact Nat.mul_le_mul_left _ (Nat.le_succ j)
          have n1 : ((S + Y) * (j + 1) + X) * j = S * j * j + S * j + (Y * (j + 1) * j + X * j) := by
            simp only [Nat.add_mul, Nat.mul_add, Nat.mul_one]
            have : S * j * j + S * j = S * j * j + S * j := rfl
            omega
          have n2 : (S * j + X) * (j + 1) = S * j * j + S * j + (X * j + X) := by
            simp only [Nat.add_mul, Nat.mul_add, Nat.mul_one]
            omega
          have n3 : X * (j + 1) * j = X * j * (j + 1) := by rw [Nat.mul_right_comm]
          omega
        · rw [if_neg (fun z => h1 z.1), Nat.add_zero, Nat.mul_succ, Nat.mul_succ]
          have : S ≤ m * m := by
            have t : S * j ≤ m * m * j := by omega
            exact Nat.le_of_mul_le_mul_right t j0
          omega
      · rw [if_neg (fun z => h3 z.2.2), Nat.add_zero]
        have e : (K + 1) / a = K / a := by
          rw [Nat.succ_div]
          rw [if_neg (fun z => h3 (Nat.mod_eq_zero_of_dvd z))]
          rfl
        rw [e]
        exact ih
    · have eK : K + 1 = a := by omega
      rw [if_neg (fun z => by omega), Nat.add_zero, eK, Nat.div_self a0]
      have : sqs page a K = 0 := by
        unfold sqs
        rw [List.filter_eq_nil_iff.mpr fun x hx => ?_]
        · rfl
        · obtain ⟨j, hj, rfl⟩ := List.mem_map.mp hx
          have := List.mem_range.mp hj
          have : ¬ a < 1 + j := by omega
          simp [this]
      rw [this]
      omega
theorem flat_sum {α β : Type} (f : α → List β) : ∀ l : List α, (l.flatMap f).length = (l.map fun x => (f x).length).sum
  | [] => rfl
  | a :: r => by rw [List.flatMap_cons, List.length_append, flat_sum f r, List.map_cons, List.sum_cons]
theorem sum_le {α : Type} {f g : α → Nat} : ∀ {l : List α}, (∀ x ∈ l, f x ≤ g x) → (l.map f).sum ≤ (l.map g).sum
  | [], _ => Nat.le_refl _
  | a :: r, h => by
    rw [List.map_cons, List.map_cons, List.sum_cons, List.sum_cons]
    exact Nat.add_le_add (h a List.mem_cons_self) (sum_le fun x hx => h x (List.mem_cons_of_mem _ hx))
theorem fol_sqs (page a : Nat) : ((fol page a).map fun b => (page / b) * (page / b)).sum = sqs page a page := by
  unfold fol dvs sqs
  rw [List.filter_filter]
  congr 2
  refine List.filter_congr fun b _ => ?_
  rw [Bool.and_comm]
theorem cfr_len {page : Nat} : ∀ (d : Nat) (D : List Nat) (a : Nat), 0 < a → page % a = 0 → 0 < page → (cfr page d D a).length ≤ (page / a) * (page / a)
  | 0, D, a, a0, h, p0 => by
    unfold cfr
    split
    · rename_i e
      rw [e, Nat.div_self p0]
      exact Nat.le_refl _
    · exact Nat.zero_le _
  | d + 1, D, a, a0, h, p0 => by
    unfold cfr
    split
    · rename_i e
      rw [e, Nat.div_self p0]
      exact Nat.le_refl _
    · obtain ⟨m, hm⟩ := Nat.dvd_of_mod_eq_zero h
      have m0 : 0 < m := Nat.pos_of_ne_zero fun z => by rw [z] at hm; omega
      have e : page / a = m := by rw [hm, Nat.mul_div_cancel_left _ a0]
      rw [flat_sum]
      refine Nat.le_trans (sum_le (g := fun b => (page / b) * (page / b)) fun b hb => ?_) ?_
      · obtain ⟨h1, h2, h3, _⟩ := mem_fol.mp hb
        exact cfr_len d _ b (by omega) h3 p0
      · rw [fol_sqs, e]
        have sb := sqs_bound a0 hm m0 page (by rw [hm]; exact Nat.le_mul_of_pos_right _ m0)
        rw [e] at sb
        have t : sqs page a page * m ≤ m * m * m := by omega
        exact Nat.le_of_mul_le_mul_right t m0
theorem flat_take {α β : Type} (f : α → List β) (l : List α) (i : Nat) : ((l.take i).flatMap f).length ≤ (l.flatMap f).length := by
  have : (l.flatMap f).length = ((l.take i).flatMap f).length + ((l.drop i).flatMap f).length := by
    rw [← List.length_append, ← List.flatMap_append, List.take_append_drop]
  omega
end Ph

set_option maxHeartbeats 8000000
namespace Ph
open PySem PySem.Spec PyProof.Rows L2
abbrev nI (C : List Nat) : List Int := C.map fun n : Nat => (n : Int)
abbrev nV (C : List Nat) : List V := C.map fun n : Nat => V.int (n : Int)
/-- a list of tuples of numbers -/
def Chs (H : Hp) (xs : List V) (css : List (List Nat)) : Prop := Paired (fun v (C : List Nat) => ∃ t, v = V.ref t ∧ ChAt H t (nI C)) xs css
theorem Chs.kp {H H' : Hp} {xs : List V} {css : List (List Nat)} (h : Chs H xs css) (k : ∀ t o u, H t = some (.frz o u) → H' t = some (.frz o u)) : Chs H' xs css := Paired.mono (fun _ _ ⟨t, e, c⟩ => ⟨t, e, c.frz fun o u e => k _ _ _ e⟩) h
theorem Chs.same {H H' : Hp} {xs : List V} {css : List (List Nat)} (h : Chs H xs css) (s : Same H H') : Chs H' xs css := h.kp fun _ _ _ e => s _ _ e
theorem Chs.app {H : Hp} : ∀ {xs ys : List V} {cs ds : List (List Nat)}, Chs H xs cs → Chs H ys ds → Chs H (xs ++ ys) (cs ++ ds)
  | _, _, _, _, .nil, h => h
  | _, _, _, _, .cons a r, h => .cons a (Chs.app r h)
/-- the dict of the followers -/
def Fol (page : Nat) (H : Hp) (F : Addr) : Prop := ∃ kvs, H F = some (.dK kvs) ∧ ∀ a ∈ dvs page, ∃ l, valV kvs (Sum.inl (a : Int)) = some (V.ref l) ∧ H l = some (.lst (nV (fol page a)))
theorem Fol.same {page : Nat} {H H' : Hp} {F : Addr} (h : Fol page H F) (s : Same H H') : Fol page H' F := by
  obtain ⟨kvs, e, r⟩ := h
  exact ⟨kvs, s _ _ e, fun a ha => by
    obtain ⟨l, h1, h2⟩ := r a ha
    exact ⟨l, h1, s _ _ h2⟩⟩
section
variable {P : Program} {w : World} {K : PySem.W.Frag} {mg : Str → Option Value} {base : Heap}
def spCf (d : Nat) : Sp := fun vs H Q _ => ∃ (t F : Addr) (page a : Nat) (D : List Nat), vs = [.ref t, .int (page : Int), .ref F] ∧ ChAt H t (nI (D ++ [a])) ∧ D.length + 1 + d = 12 ∧ a ∈ dvs page ∧ page ≤ 4096 ∧ Fol page H F ∧
  ∀ H' L xs, Same H H' → H' L = some (.lst xs) → Chs H' xs (cfr page d D a) → Q (.ref L) H'
def spPrev : Nat → Sp
  | 0 => fun _ _ _ _ => False
  | d + 1 => spCf d
theorem ok_Cf {k : Nat} (Z : Fns K mg) : ∀ d, FnOk P w K mg base CX0 (k + 1 + d + 1) Z.fCf Z.fdCf ["begun", "page", "followers"] (spCf d) := by
  intro d
  have GCf : FnOk P w K mg base CX0 (k + 1 + d) Z.fCf Z.fdCf ["begun", "page", "followers"] (spPrev d) := by
    cases d with
    | zero => exact ⟨fun _ _ _ _ h => h.elim, fun _ _ _ _ _ _ _ _ _ _ _ _ _ h => h.elim⟩
    | succ d => exact ok_Cf Z d
  refine Z.FCf.ok scCf (fun vs H Q E h => ?_) (fun cdv A outer s H vs Q E hr h => ?_)
  · obtain ⟨t, F, page, a, D, rfl, _⟩ := h
    rfl
  · obtain ⟨t, F, page, a, D, rfl, ht, dl, ha, p4, hF, q⟩ := h
    refine ⟨_, (pss_cons (ps_if (pt_cmpR op_eq (pe_ix ix_tup (pv 0) (pe_un un_neg pe_int) (fun _ _ => rfl)) (pv 1) (nomark _))
 (pss_one (ps_ret (pe_lst (pa_cons (pv 0) pa_nil)))) pss_nil)
 (pss_cons (ps_if (pt_cmpR op_eq (pe_callB call_len_seq (by rfl) Z.N.len (by decide +kernel) (pa_cons (pv 0) pa_nil)) (pe_glob (v := .int 12) (by rfl) Z.k_MOST_SIZES.choose_spec ⟨_, rfl⟩) (nomark _))
 (pss_one (ps_ret (pe_lst pa_nil))) pss_nil)
 (pss_cons (ps_set (i := 3) scCf.nd rfl (.inl rfl) (pe_lst pa_nil))
 (pss_cons (ps_for PassesOwn.never rfl (pi_list (pe_dget (hu_of hr) (pv 2) (pe_ix ix_tup (pv 0) (pe_un un_neg pe_int) (fun _ _ => rfl)) (fun _ _ => rfl))) (pg_name (i := 4) scCf.nd rfl (.inl rfl))
 (pss_one (ps_expr (pe_bm PySem.F.plainAttrs_list PySem.F.slot_list_extend PySem.F.type_list_extend mt_extend (pv 3) (pa_cons (pe_call GCf (hr.mono (by omega)) (by rfl) Z.gCf Z.FCf.kp Z.bCf .nil pass0 (pa_cons (pe_tupF (StX.pa_star (pv 0) (pa_cons (pv 4) pa_nil))) (pa_cons (pv 1) (pa_cons (pv 2) pa_nil)))) pa_nil)))))
 (pss_one (ps_ret (pv 3))))))), ?_⟩
    obtain ⟨a1, a2, a3⟩ := mem_dvs.mp ha
    have em : (nI (D ++ [a])).map V.int = nV D ++ [V.int (a : Int)] := by
      unfold nI nV
      rw [List.map_append, List.map_append, List.map_map]
      rfl
    have hsq : SqT K H t (nV D ++ [V.int (a : Int)]) := by rw [← em]; exact ht.sq
    have hlen : (nV D ++ [V.int (a : Int)]).length = D.length + 1 := by rw [List.length_append, List.length_map]; rfl
    refine ⟨.ref t, rfl, 1, rfl, t, _, -1, _, rfl, rfl, hsq, atI_last _ _, .int (page : Int), rfl, rfl, _, rfl, ite2 (fun c => ?_) (fun c => ?_)⟩
    · have e : a = page := by
        have := of_decide_eq_true c
        have := V.int.inj this
        omega
      refine ⟨.ref t, rfl, (by show 1 ≤ sizeLine; decide), fun L nL => ?_⟩
      have sL := same_upd (o := .lst [V.ref t]) nL
      refine q _ L _ sL upd_same ?_
      have ec : cfr page d D a = [D ++ [a]] := by cases d <;> simp [cfr, e]
      rw [ec]
      exact .cons ⟨t, rfl, ht.keep sL⟩ .nil
    · have ne : a ≠ page := fun z => c (by rw [z]; exact decide_eq_true rfl)
      refine ⟨.ref t, rfl, t, _, rfl, .inr hsq, rfl, _, rfl, ite2 (fun c2 => ?_) (fun c2 => ?_)⟩
      · have e : D.length + 1 = 12 := by
          have := V.int.inj (of_decide_eq_true c2)
          rw [hlen] at this
          omega
        obtain rfl : d = 0 := by omega
        refine ⟨(by show 0 ≤ sizeLine; decide), fun L nL => ?_⟩
        have sL := same_upd (o := .lst []) nL
        refine q _ L _ sL upd_same ?_
        have ec : cfr page 0 D a = [] := by simp [cfr, ne]
        rw [ec]
        exact .nil
      · obtain ⟨d, rfl⟩ : ∃ d', d = d' + 1 := by
          cases d with
          | zero =>
            exfalso
            refine c2 (decide_eq_true ?_)
            rw [hlen, show D.length + 1 = 12 from by omega]
            rfl
          | succ d => exact ⟨d, rfl⟩
        have ec : cfr page (d + 1) D a = (fol page a).flatMap fun b => cfr page d (D ++ [a]) b := by simp [cfr, ne]
        refine ⟨(by show 0 ≤ sizeLine; decide), fun B nB => ?_⟩
        have sB := same_upd (o := .lst []) nB
        have hB : upd H B (.lst []) B = some (.lst []) := upd_same
        obtain ⟨kvs, eF0, rows⟩ := id hF
        obtain ⟨l, vl, hl0⟩ := rows a ha
        have eF := sB _ _ eF0
        have hl := sB _ _ hl0
        have nlB : l ≠ B := ne_of_none hl0 nB
        have hsqB := sB.tup hsq
        generalize upd H B (.lst []) = H1 at *
        dsimp only [gName]
        refine ⟨.ref F, rfl, .ref t, rfl, 1, rfl, t, _, -1, _, rfl, rfl, hsqB, atI_last _ _, F, .ref l, rfl, (by have := DGet.k (k := (Sum.inl (a : Int) : Key)) eF; rw [vl] at this; exact this), l, rfl, ⟨_, .inl (.inl hl)⟩, ?_⟩
        refine for_it (walk_list (K := K) (a := l) (xs := nV (fol page a))) (fun i σ H' => ∃ y4 ys, σ = [some (.ref t), some (.int page), some (.ref F), some (.ref B), y4] ∧ But B H1 H' ∧ H' B = some (.lst ys) ∧ Chs H' ys (((fol page a).take i).flatMap fun b => cfr page d (D ++ [a]) b)) ⟨none, [], rfl, But.refl _ _, hB, .nil⟩ (fun i σ H' _ q => ?_) ?_ ?_
        · obtain ⟨_, _, _, b, _⟩ := q
          exact .inl (.inl (b _ _ nlB hl))
        · rintro i x σ H3a H3 hi ⟨y4, ys, rfl, b3, hB3, ch3⟩ ⟨rfl, hx⟩
          obtain ⟨b, hb, rfl⟩ : ∃ b, (fol page a)[i]? = some b ∧ x = V.int (b : Nat) := by
            rw [List.getElem?_map] at hx
            obtain ⟨z, h1, h2⟩ := Option.map_eq_some_iff.mp hx
            exact ⟨z, h1, h2.symm⟩
          obtain ⟨b1, b2, b3', b4, b5⟩ := mem_fol.mp (List.mem_of_getElem? hb)
          have s3 : Same H H3 := fun c o e => b3 _ _ (ne_of_none e nB) (sB _ _ e)
          dsimp only [gName]
          have hsq3 : SqT K H3 t (nV D ++ [V.int (a : Int)]) := s3.tup hsq
          refine ⟨.ref B, rfl, .inl ⟨rfl, ys, .inl (.inl hB3)⟩, .ref t, rfl, t, _, rfl, .inl hsq3, .int (b : Nat), rfl, ?_, fun T o nT od => ?_⟩
          · rw [List.length_append, hlen]
            exact Nat.le_trans (show D.length + 1 + 1 ≤ 20 by omega) (by decide)
          have sT := same_upd (o := .frz o (.tup (nV D ++ [V.int (a : Int)] ++ [V.int (b : Int)]))) nT
          have hT : ChAt (upd H3 T (.frz o (.tup (nV D ++ [V.int (a : Int)] ++ [V.int (b : Int)])))) T (nI ((D ++ [a]) ++ [b])) := ⟨o, od, by
            rw [upd_same]
            unfold nI nV
            simp only [List.map_append, List.map_map, List.map_cons, List.map_nil]
            rfl⟩
          generalize upd H3 T _ = H4 at *
          have s4 := s3.trans sT
          refine ⟨.int (page : Nat), rfl, .ref F, rfl, T, F, page, b, D ++ [a], rfl, hT, by rw [List.length_append]; simp; omega, mem_dvs.mpr ⟨b1, b2, b3'⟩, p4, hF.same s4, fun H5 L zs s5 hL chL => ?_⟩
          have hB5 := s5 _ _ (sT _ _ hB3)
          have hi2 : i < (fol page a).length := by rw [List.length_map] at hi; exact hi
          have etake : (fol page a).take (i + 1) = (fol page a).take i ++ [b] := by
            rw [List.take_add_one, hb]
            rfl
          have ch5 : Chs H5 (ys ++ zs) (((fol page a).take (i + 1)).flatMap fun b => cfr page d (D ++ [a]) b) := by
            rw [etake, List.flatMap_append, List.flatMap_singleton]
            exact ((ch3.same sT).same s5).app chL
          have lb : (ys ++ zs).length ≤ sizeLine := by
            rw [Paired.length ch5]
            refine Nat.le_trans (flat_take _ _ _) ?_
            rw [← ec]
            refine Nat.le_trans (cfr_len _ _ _ a1 a3 (by omega)) ?_
            have : page / a ≤ 4096 := Nat.le_trans (Nat.div_le_self _ _) p4
            exact Nat.le_trans (Nat.mul_le_mul this this) (by decide)
          rw [List.length_append] at lb
          refine ⟨B, L, ys, zs, rfl, rfl, hB5, hL, lb, ?_⟩
          refine ⟨_, _, rfl, fun c o nc e => by rw [upd_ne nc]; exact s5 _ _ (sT _ _ (b3 _ _ nc e)), upd_same, ch5.kp fun t o u e => ?_⟩
          rw [upd_ne fun z => by rw [z, hB5] at e; cases e]
          exact e
        · rintro σ H3 ⟨y4, ys, rfl, b3, hB3, ch3⟩
          have s3 : Same H H3 := fun c o e => b3 _ _ (ne_of_none e nB) (sB _ _ e)
          rw [List.length_map, List.take_length] at ch3
          exact ⟨.ref B, rfl, q _ B _ s3 hB3 (by rw [ec]; exact ch3)⟩
end
end Ph

set_option maxHeartbeats 8000000
namespace Ph
open PySem PySem.Spec PyProof.Rows L2
section
variable {P : Program} {w : World} {K : PySem.W.Frag} {mg : Str → Option Value} {base : Heap}
def spMf2 : Sp := fun vs H Q _ => ∃ a b : Nat, vs = [.int (b : Int), .int (a : Int)] ∧ 0 < a ∧ Q (.bl (decide (a < b) && decide (b % a = 0))) H
theorem ok_Mf2 {k : Nat} (Z : Fns K mg) : FnOk P w K mg base CX0 (k + 1) Z.fMf Z.fdMf ["larger", "size"] spMf2 := by
  refine Z.FMf.ok scMf (fun vs H Q E h => ?_) (fun cdv A outer s H vs Q E hr h => ?_)
  · obtain ⟨a, b, rfl, _⟩ := h
    rfl
  · obtain ⟨a, b, rfl, a0, q⟩ := h
    refine ⟨_, (pss_one (ps_ret (pe_and (pe_chain op_lt op_lt pe_int (pv 1) (pv 0)) (pe_one (pe_cmpR op_eq (pe_op op_mod (pv 0) (pv 1)) pe_int (nomark _)))))), ?_⟩
    refine ⟨.int _, rfl, _, _, rfl, rfl, _, rfl, ite2 (fun _ => ?_) (fun c => absurd (decide_eq_true (show (0 : Int) < (a : Int) by omega)) c)⟩
    refine ⟨.int _, rfl, _, _, rfl, rfl, _, rfl, ite2 (fun c => ?_) (fun c => ?_)⟩
    · have lt : a < b := by
        have := of_decide_eq_true c
        omega
      refine ⟨.int _, rfl, .int _, rfl, _, _, rfl, rfl, (by omega : (0 : Int) < (a : Int)), rfl, ?_⟩
      show Q (.bl (decide (V.int ((b : Int) % (a : Int)) = V.int 0))) H
      have e : (V.bl (decide (V.int ((b : Int) % (a : Int)) = V.int 0))) = V.bl (decide (a < b) && decide (b % a = 0)) := by
        rw [decide_eq_true lt, Bool.true_and]
        congr 1
        refine decide_eq_decide.mpr ⟨fun h => ?_, fun h => ?_⟩
        · have := V.int.inj h
          omega
        · congr 1
          omega
      rw [e]
      exact q
    · have lt : ¬ a < b := fun z => c (decide_eq_true (by omega))
      rw [decide_eq_false lt, Bool.false_and] at q
      exact q
def spCo : Sp := fun vs H Q _ => ∃ page : Nat, vs = [.int (page : Int)] ∧ 1 ≤ page ∧ page ≤ 4096 ∧ ∀ H' T xs, Same H H' → H' T = some (.tup xs) → Chs H' xs (cfr page 11 [] 1) → Q (.ref T) H'
theorem ok_Co {k : Nat} (Z : Fns K mg) : FnOk P w K mg base CX0 (k + 1 + 11 + 1 + 1) Z.fCo Z.fdCo ["page"] spCo := by
  have GI : FnOk P w K mg base CX0 (k + 1) Z.fI Z.fdI ["value"] spI := ok_I Z
  have GMf : FnOk P w K mg base CX0 (k + 1) Z.fMf Z.fdMf ["larger", "size"] spMf2 := ok_Mf2 Z
  have GCf : FnOk P w K mg base CX0 (k + 1 + 11 + 1) Z.fCf Z.fdCf ["begun", "page", "followers"] (spCf 11) := ok_Cf Z 11
  refine Z.FCo.ok scCo (fun vs H Q E h => ?_) (fun cdv A outer s H vs Q E hr h => ?_)
  · obtain ⟨page, rfl, _⟩ := h
    rfl
  · obtain ⟨page, rfl, p1, p4, q⟩ := h
    have hu64 := u64_of hr
    refine ⟨_, (pss_cons (ps_if (PW.pt (pw_or (pt_not (pt_val (pe_call GI (hr.mono (by omega)) (by rfl) Z.gI Z.FI.kp Z.bI .nil pass0 (pa_cons (pv 0) pa_nil)))) (pw_or1 (pt_not (pt_chain op_le op_le pe_int (pv 0) (pe_glob (v := .int 4096) (by rfl) Z.k_LARGEST_PAGE.choose_spec ⟨_, rfl⟩))))))
 (pss_one ps_never) pss_nil)
 (pss_cons (ps_set (i := 1) scCo.nd rfl (.inr rfl) (pe_lc (own := [("size", 3)]) (g := (gName 3)) (by rfl) scCo.nd (pi_range2 (by rfl) Z.N.range (pa_cons pe_int (pa_cons (pe_op op_add (pv 0) pe_int) pa_nil))) (blkOk_by (N := scCoN) (sc := defScope scCoS) (by decide +kernel)) (fun _ _ _ _ _ => (pg_name (i := 3) scCo.nd rfl (.inl rfl))) (fun _ _ _ _ _ => (pts_one (pt_cmpR op_eq (pe_op op_mod (pv 0) (pv 3)) pe_int (nomark _)))) (fun _ _ _ _ _ => (pv 3))))
 (pss_cons (ps_setDc (i := 2) (own := [("size", 3)]) (g := (gName 3)) (tt := tYes) (by rfl) scCo.nd rfl rfl (sw_dict rfl rfl rfl (by decide +kernel)) (pi_listE (K := K) rfl (pv 1)) (blkOk_by (N := scCoN) (sc := defScope scCoS) (by decide +kernel)) (fun _ _ _ _ _ => (pg_name (i := 3) scCo.nd rfl (.inr rfl))) (fun _ _ _ _ _ => pts_nil) (fun _ _ _ _ _ => (pv 3)) (fun _ _ _ _ _ => (pe_lc (own := [("larger", 4)]) (g := (gName 4)) (by rfl) scCo.nd (pi_listE (K := K) rfl (pv 1)) (blkOk_by (N := scCoN) (by rfl)) (fun _ _ _ _ _ => (pg_name (i := 4) scCo.nd rfl (.inl rfl))) (fun _ _ _ _ _ => (pts_one (pt_val (pe_call GMf (hr.mono (by omega)) (by rfl) Z.gMf Z.FMf.kp Z.bMf .nil pass0 (pa_cons (pv 4) (pa_cons (pv 3) pa_nil)))))) (fun _ _ _ _ _ => (pv 4)))))
 (pss_one (ps_ret (pe_callTy call_tuple_of (by rfl) Z.N.tuple (by decide +kernel) (pa_cons (pe_call GCf (hr.mono (by omega)) (by rfl) Z.gCf Z.FCf.kp Z.bCf .nil pass0 (pa_cons (pe_tupF (pa_cons pe_int pa_nil)) (pa_cons (pv 0) (pa_cons (pv 2) pa_nil)))) pa_nil))))))), ?_⟩
    refine ⟨.int page, rfl, page, rfl, ?_⟩
    refine ⟨true, rfl, ite2 (fun c => absurd c (by decide)) (fun _ => ?_)⟩
    refine ⟨.int page, rfl, _, _, rfl, rfl, _, rfl, ite2 (fun _ => ?_) (fun c => absurd (decide_eq_true (show (1 : Int) ≤ (page : Int) by omega)) c)⟩
    refine ⟨_, _, rfl, rfl, _, rfl, ite2 (fun c => absurd c (by rw [decide_eq_true (show (page : Int) ≤ (4096 : Int) by omega)]; decide)) (fun _ => ?_)⟩
    have en : ((page : Int) + 1 - 1).toNat = page := by omega
    refine ⟨.int page, rfl, _, _, rfl, rfl, 1, (page : Int) + 1, rfl, ⟨by decide, by decide, by omega, by omega⟩, ?_⟩
    rw [en]
    refine fun L nL => ?_
    refine lc_RF (walk_range (lo := 1) (n := page)) (fun _ _ _ _ y => by rw [y.1]; exact Same.refl _) (fun j => decide (page % (1 + j) = 0)) (fun _ j y => y = V.int ((1 + j : Nat) : Int)) (fun _ _ _ _ _ h => h) nL (Nat.lt_of_le_of_lt p4 (by decide)) (fun _ _ => True.intro) (fun j y H8 H9 hj s8 yy Z N hZ hN => ?_) (fun H2 rs s2 hL pr => ?_)
    · obtain ⟨rfl, rfl⟩ := yy
      have ej : (1 : Int) + (j : Int) = ((1 + j : Nat) : Int) := by omega
      refine ⟨rfl, .int page, rfl, .int _, rfl, _, _, rfl, rfl, (by omega : (0 : Int) < 1 + (j : Int)), rfl, _, rfl, ite2 (fun c => ?_) (fun c => ?_)⟩
      · have c1 := V.int.inj (of_decide_eq_true c)
        exact ⟨.int _, rfl, hZ _ _ (Same.refl _) (decide_eq_true (by rw [ej, ← Int.natCast_emod] at c1; exact Int.ofNat_eq_zero.mp c1)) (by rw [ej])⟩
      · refine hN _ (Same.refl _) (decide_eq_false fun z => c (decide_eq_true ?_))
        show V.int ((page : Int) % (1 + (j : Int))) = V.int 0
        rw [ej, ← Int.natCast_emod, z]
        rfl
    have er : rs = nV (dvs page) := by
      unfold nV dvs
      rw [List.filter_map, List.map_map]
      exact paired_eq (f := fun j => V.int ((1 + j : Nat) : Int)) pr
    subst er
    have hlen : (nV (dvs page)).length = (dvs page).length := List.length_map _
    have dl : (dvs page).length ≤ page := by
      unfold dvs
      refine Nat.le_trans (List.length_filter_le _ _) ?_
      rw [List.length_map, List.length_range]
      exact Nat.le_refl _
    dsimp only [gName]
    refine ⟨.ref L, rfl, L, rfl, ⟨_, .inl (.inl hL)⟩, fun F nF => ?_⟩
    have nLF : L ≠ F := ne_of_none hL nF
    refine dc_it (walk_list (K := K) (a := L) (xs := nV (dvs page))) (fun i H' => ∃ kvs, H' F = some (.dK kvs) ∧ But F H2 H' ∧ kvs.length ≤ i ∧ ∀ a ∈ (dvs page).take i, ∃ l, valV kvs (Sum.inl (a : Int)) = some (V.ref l) ∧ l ≠ F ∧ H' l = some (.lst (nV (fol page a))))
      ⟨[], upd_same, fun c o nc e => by rw [upd_ne nc]; exact e, Nat.le_refl _, fun a h => nomatch h⟩ (fun i H' _ ⟨_, _, b, _⟩ => .inl (.inl (b _ _ nLF hL))) (fun i x H8 H9 hi ⟨kvs, hF, b8, kl, rows⟩ yy => ?_) (fun H3 ⟨kvs, hF, b3, kl, rows⟩ => ?_)
    · obtain ⟨rfl, hx⟩ := yy
      obtain ⟨a, ha, rfl⟩ : ∃ a, (dvs page)[i]? = some a ∧ x = V.int (a : Nat) := by
        rw [List.getElem?_map] at hx
        obtain ⟨z, h1, h2⟩ := Option.map_eq_some_iff.mp hx
        exact ⟨z, h1, h2.symm⟩
      obtain ⟨a1, a2, a3⟩ := mem_dvs.mp (List.mem_of_getElem? ha)
      have hL9 := b8 _ _ nLF hL
      refine ⟨rfl, ?_⟩
      delta tYes
      refine ite2 (fun _ => ?_) (fun c => absurd rfl c)
      refine ⟨.int _, rfl, .ref L, rfl, L, rfl, ⟨_, .inl (.inl hL9)⟩, fun G nG => ?_⟩
      have nFG : F ≠ G := ne_of_none hF nG
      refine lc_RF (walk_list (K := K) (a := L) (xs := nV (dvs page))) (fun _ _ _ _ y => YAt.same y) (fun j => decide (a < (dvs page).getD j 0) && decide ((dvs page).getD j 0 % a = 0)) (fun _ j y => y = V.int (((dvs page).getD j 0 : Nat) : Int)) (fun _ _ _ _ _ h => h) nG (by rw [hlen]; exact Nat.lt_of_le_of_lt (Nat.le_trans dl p4) (by decide)) (fun H7 s7 => .inl (.inl (s7 _ _ hL9))) (fun j y H10 H11 hj s10 yy Z N hZ hN => ?_) (fun H4 rs s4 hG pr => ?_)
      · obtain ⟨rfl, hx⟩ := yy
        obtain ⟨b, hb, rfl⟩ : ∃ b, (dvs page)[j]? = some b ∧ y = V.int (b : Nat) := by
          rw [List.getElem?_map] at hx
          obtain ⟨z, h1, h2⟩ := Option.map_eq_some_iff.mp hx
          exact ⟨z, h1, h2.symm⟩
        have eb : (dvs page).getD j 0 = b := by rw [List.getD_eq_getElem?_getD, hb]; rfl
        refine ⟨rfl, .int _, rfl, .int _, rfl, a, b, rfl, by omega, _, rfl, ite2 (fun c => ?_) (fun c => ?_)⟩
        · exact ⟨.int _, rfl, hZ _ _ (Same.refl _) (by rw [eb]; exact c) (by rw [eb])⟩
        · exact hN _ (Same.refl _) (by rw [eb]; exact Bool.eq_false_iff.mpr c)
      have er : rs = nV (fol page a) := by
        rw [hlen] at pr
        have e1 := paired_eq (f := fun j => V.int (((dvs page).getD j 0 : Nat) : Int)) pr
        rw [e1]
        unfold nV fol
        have e2 : dvs page = (List.range (dvs page).length).map fun j => (dvs page).getD j 0 := by
          refine List.ext_getElem (by rw [List.length_map, List.length_range]) fun n h1 h2 => ?_
          rw [List.getElem_map, List.getElem_range, List.getD_eq_getElem?_getD, List.getElem?_eq_getElem h1]
          rfl
        conv => rhs; rw [e2]
        rw [List.filter_map, List.map_map]
        rfl
      subst er
      refine ⟨kvs, Sum.inl (a : Int), rfl, s4 _ _ hF, Nat.lt_of_le_of_lt (show kvs.length ≤ 4096 by rw [hlen] at hi; omega) (by decide), _, upd_same, fun c o nc e => by rw [upd_ne nc]; exact s4 _ _ (b8 _ _ nc e), ?_, fun b hb => ?_⟩
      · have := length_putK kvs (Sum.inl (a : Int)) (V.ref G)
        omega
      · by_cases eb : b = a
        · subst eb
          exact ⟨G, by rw [valV_put, if_pos rfl], nFG.symm, by rw [upd_ne nFG.symm]; exact hG⟩
        · rw [List.take_add_one, ha] at hb
          rcases List.mem_append.mp hb with h | h
          · obtain ⟨l, h1, h2, h3⟩ := rows b h
            exact ⟨l, by rw [valV_put, if_neg (fun z => eb (by injection z with z; omega))]; exact h1, h2, by rw [upd_ne h2]; exact s4 _ _ h3⟩
          · exact absurd (List.mem_singleton.mp h) eb
    rw [hlen, List.take_length] at rows
    have s13 : Same H H3 := fun c o e => b3 _ _ (ne_of_none (s2 _ _ e) nF) (s2 _ _ e)
    dsimp only [gName]
    refine ⟨(by show 1 ≤ sizeLine; decide), fun T o nT od => ?_⟩
    have sT := same_upd (o := .frz o (.tup [V.int 1])) nT
    have hT : ChAt (upd H3 T (.frz o (.tup [V.int 1]))) T (nI ([] ++ [1])) := ⟨o, od, upd_same⟩
    generalize upd H3 T _ = H4 at *
    refine ⟨.int page, rfl, .ref F, rfl, T, F, page, 1, [], rfl, hT, rfl, mem_dvs.mpr ⟨Nat.le_refl _, p1, Nat.mod_one _⟩, p4, ⟨kvs, sT _ _ hF, fun a ha => ?_⟩, fun H5 L5 xs s5 hL5 ch5 => ?_⟩
    · obtain ⟨l, h1, _, h3⟩ := rows a ha
      exact ⟨l, h1, sT _ _ h3⟩
    · refine ⟨L5, xs, rfl, .inl ⟨.inl (.inl hL5), fun U nU => ?_⟩⟩
      have sU := same_upd (o := .tup xs) nU
      exact q _ U xs (((s13.trans sT).trans s5).trans sU) upd_same (ch5.same sU)
end
end Ph

set_option maxHeartbeats 8000000
namespace Ph
open PySem PySem.Spec PyProof.Rows L2
/-! ### gain(pair), step by step: nothing that stood is changed -/
section
variable {P : Program} {w : World} {K : PySem.W.Frag} {mg : Str → Option Value} {base : Heap}
theorem gain_raw {f : Addr} {fd : FuncData} (F : Fun K "gain" "gain" sGa f fd) {A : Around} {s : Shared} {t : Addr} {q z : Int} {k1 k2 : Tok} (hd : A.handled = none) (dp : A.depth < recursionLimit) (KX : K.In s.heap) (lim : s.heap.NoLimit) (ht : IsTup s.heap t #[.int q k1, .int z k2]) (q0 : 0 < q) (q1 : q < 1073741824) (z0 : 0 ≤ z) (z1 : z < 1073741824) :
    wpAny (model P w) A (call (.ref f) [.ref t]) (PySem.W.KeyPure (.int (z * 1000 / q)) s) (fun _ _ => False) s := by
  obtain ⟨oc, od, kV, doc, pm, an, cdv, ct, osl, rfl, lk, hcd⟩ := F.ex
  refine wpAny_call (codeAny_mono (codeAny_call_straight (R := fun r s' => ∃ u, r = .ok (.ret u) ∧ PySem.W.KeyPure (.int (z * 1000 / q)) s u s') dp (KX _ _ lk) rfl lim (PySem.W.codeRec_of KX hcd) rfl (binds := [("pair", .ref t)]) rfl ?_ ?_ fun s1 x => ?_) fun r s' hq => ?_)
  · show ∀ x ∈ (defScope sGa).names, x.2 ≠ NameKind.cell
    decide +kernel
  · intro x hx
    obtain rfl := List.mem_singleton.mp hx
    show (defScope sGa).names.lookup (Str.ofString "pair") = some NameKind.local
    decide +kernel
  · show wpAny _ _ (execs (defBody sGa) _) _ _ _
    generalize hfd : PySem.W.fnOf "gain" "gain" (defArgs sGa) (defBody sGa) (defScope sGa) .none kV doc pm an cdv ct = fd at *
    have esc : fd.scope = defScope sGa := by rw [← hfd]
    have kk : ((callEnv fd s.heap.objs.size f).scope.kind == .class || ((callEnv fd s.heap.objs.size f).scope.kind == .module && (callEnv fd s.heap.objs.size f).locals != (callEnv fd s.heap.objs.size f).globals)) = false := by
      have e : (callEnv fd s.heap.objs.size f).scope.kind = ScopeKind.function := by
        show fd.scope.kind = _
        rw [esc]
        rfl
      rw [e]
      rfl
    refine wpAny_execs_cons (wpAny_Assign_stores (ldI x (by rw [esc]; rfl) (by show fd.scope.names.lookup _ = _; rw [esc]; rfl) rfl ?_ (by decide)) (by rfl) (by rfl))
    have ht1 : IsTup s1.heap t #[.int q k1, .int z k2] := by
      obtain ⟨o, ho, r⟩ := ht
      exact ⟨o, x.keep _ _ ho, r⟩
    refine assign_Tuple_tuple (x1 := 0) (A := A.deeper _) hd ht1 (by rfl) (by rfl) fun h' hx => ?_
    have x1 : InCall s s.heap.objs.size (fun x => List.lookup x [((Str.ofString "pair"), Value.ref t)].reverse) { s1 with heap := h' } := ⟨by
      obtain ⟨h0, tk, e⟩ := x.same
      exact ⟨h', tk, by rw [e]⟩, x.ns.keeps fun b o e => hx b o (Nat.ne_of_lt (Heap.lt_size e)) e, fun b o e => hx b o (Nat.ne_of_lt (Heap.lt_size (x.keep b o e))) (x.keep b o e), x.fresh⟩
    refine assignInOrder_cons (wpAny_assign_Name (stI x1 (by show fd.scope.names.lookup _ = _; rw [esc]; rfl) kk fun s2 x2 => ?_))
    refine assignInOrder_cons (wpAny_assign_Name (stI x2 (by show fd.scope.names.lookup _ = _; rw [esc]; rfl) kk fun s3 x3 => assignInOrder_nil ?_))
    refine wpAny_execs_cons (wpAny_Return_some (wpAny_BinOp (wpAny_BinOp (ldI x3 (by rw [esc]; rfl) (by show fd.scope.names.lookup _ = _; rw [esc]; rfl) (v := .int z k2) (by rfl) ?_ (by decide)))))
    refine wpAny_Constant_int (mul_int ?_ (CMul.ok (.inr ⟨by decide, by decide⟩)))
    refine ldI (x3.tok _) (by rw [esc]; rfl) (by show fd.scope.names.lookup _ = _; rw [esc]; rfl) (v := .int q k1) (by rfl) ?_ (by decide)
    refine floordiv_int (by omega) ?_ (.inl (PyProof.noPylong_small (by omega)))
    refine ⟨_, rfl, ?_⟩
    obtain ⟨h9, tk9, e9, kp9⟩ := x3.done
    subst e9
    refine ⟨h9, _, rfl, kp9, ?_⟩
    rw [Int.fdiv_eq_ediv_of_nonneg _ (by omega)]
    exact .int _ _
  · obtain ⟨u, rfl, h⟩ := hq
    exact h
/-! ### sorted(pairs, key=gain, reverse=True) -/
def rSortG (K : PySem.W.Frag) (g : Addr) : List V → List V → Hp → VK → Prop := fun vs zs H Q => ∃ (a : Addr) (xs : List V) (bs : List Bk), vs = [.ref a] ∧ zs = [.ref g, .bl true] ∧ SqL K H a xs ∧ BL H xs bs ∧ (∀ b ∈ bs, 0 < b.1 ∧ b.1 < 1073741824 ∧ 0 ≤ b.2 ∧ b.2 < 1073741824) ∧
  ∀ H' D ys (cs : List Bk), Same H H' → H D = none → H' D = some (.lst ys) → BL H' ys cs → cs.Perm bs → Q (.ref D) H'
def PrR (H : Hp) (h : Heap) (v : Value) (b : Bk) : Prop := ∃ t k1 k2, v = .ref t ∧ H t = some (.tup [.int b.1, .int b.2]) ∧ IsTup h t #[.int b.1 k1, .int b.2 k2]
theorem pr_each {X : Cx} {pins : List (Addr × Obj)} {σ : L2.St} {H : Hp} {s : Shared} (I : L2.Inv X pins σ H s) : ∀ {xs : List V} {us : List Value} {bs : List Bk}, Vals xs us → BL H xs bs → PySem.W.EachIs (PrR H s.heap) us bs
  | _, _, _, .nil, .nil => .nil
  | _, _, _, .cons r rs, .cons ⟨t, e, ht⟩ bl => by
    subst e
    obtain rfl := r
    obtain ⟨its, rv, tup, _⟩ := I.tuple (.inl (.inl ht))
    obtain ⟨u1, u2, rfl, ⟨k1, rfl⟩, ⟨k2, rfl⟩⟩ := vals2 rv
    exact .cons ⟨t, k1, k2, rfl, ht, tup⟩ (pr_each I rs bl)
theorem bl_each {H H' : Hp} {h : Heap} (s : Same H H') : ∀ {out : List Value} {bs : List Bk}, PySem.W.EachIs (PrR H h) out bs → ∃ ys, Vals ys out ∧ BL H' ys bs
  | _, _, .nil => ⟨[], .nil, .nil⟩
  | _, _, .cons ⟨t, k1, k2, e, ht, _⟩ r => by
    obtain ⟨ys, h1, h2⟩ := bl_each s r
    exact ⟨.ref t :: ys, .cons (by rw [e]; rfl) h1, .cons ⟨t, rfl, s _ _ ht⟩ h2⟩
theorem cr_sortedGain {X : Cx} {k : Nat} {g : Addr} {fd : FuncData} (F : Fun X.K "gain" "gain" sGa g fd) (calm : X.calm = true) (hr : Room k X.A) : CallRK X (.builtin "sorted") [Str.ofString "key", Str.ofString "reverse"] (rSortG X.K g) := by
  intro pins s σ H vs zs us ws Q I r rz h
  obtain ⟨a, xs, bs, rfl, rfl, hs, bl, hb, q⟩ := h
  obtain rfl := Vals.ref1 r
  obtain ⟨w1, w2, rfl, e1, e2⟩ := vals2 rz
  obtain rfl : w1 = Value.ref g := e1
  obtain rfl : w2 = Value.bool true := e2
  obtain ⟨its, rv, hl, hz⟩ := I.list hs
  have each := pr_each I rv bl
  have len := each.length
  have hlim : s.heap.NoLimit := I.ok.mod.nolimit.keeps I.bk
  refine PySem.W.sorted_key_data (R := PrR H s.heap) (b := true) (vs := its) (bs := bs) (fun b : Bk => .int (b.2 * 1000 / b.1)) hl.isList each (PySem.W.AllAlike.of fun _ _ => by simp [PySem.W.alike]) (PySem.W.Sortable.others fun _ => ⟨(fun z => nomatch z), fun _ z => nomatch z⟩) (by rw [← len, ← rv.length]; exact hz)
    (fun b _ => by have := hr.un; simp only [PyData.depth]; omega) (PyProof.Rows.ksk_s2 _ _ _) (fun _ => PyProof.Rows.ksk_l2 _ _ _) (fun _ => PyProof.Rows.ksk_t2 _ _ _) (fun v b ⟨t, k1, k2, e, _, ht⟩ hm h tk kp => ?_) fun out c h' tk kp fresh hD _ eo => ?_
  · subst e
    obtain ⟨b1, b2, b3, b4⟩ := hb b hm
    exact gain_raw F (A := X.A.in1.in1) (s := { s with heap := h, toks := tk }) (I.ok.hd calm) (by have := hr.dp; show X.A.depth < _; omega) (I.kIn.keeps kp) (hlim.keeps kp) (ht.keeps kp) b1 b2 b3 b4
  · have nD : H (s.heap.objs.size + 1) = none := I.hok.fresh (Nat.le_succ _)
    have mk : ∀ l, Same H (upd H (s.heap.objs.size + 1) (.lst l)) := fun l => same_upd nD
    obtain ⟨ys, rv2, bl2⟩ := bl_each (mk []) eo
    have bl3 : BL (upd H (s.heap.objs.size + 1) (.lst ys)) ys _ := BL.kp bl2 fun v us e => by
      by_cases z : v = s.heap.objs.size + 1
      · rw [z, upd_same] at e
        cases e
      · rw [upd_ne z] at e ⊢
        exact e
    have hzy : ys.length ≤ sizeLine := by
      rw [rv2.length, eo.length, List.length_mergeSort, ← len, ← rv.length]
      exact hz
    exact ⟨.ref _, _, I.laid (a := s.heap.objs.size + 1) (o := .lst ys) (t' := tk) kp (Nat.le_succ _) ⟨hzy, _, c, rv2, hD⟩, rfl, q _ _ ys _ (mk ys) nD upd_same bl3 (List.mergeSort_perm _ _)⟩
end
end Ph

set_option maxHeartbeats 8000000
namespace Ph
open PySem PySem.Spec PyProof.Rows L2
/-! ### the chains are chains -/
inductive Lnk2 : List Nat → Nat → Prop
  | one : Lnk2 [] 1
  | step {D : List Nat} {a b : Nat} : Lnk2 D a → a < b → b % a = 0 → Lnk2 (D ++ [a]) b
theorem Lnk2.pos {D : List Nat} {a : Nat} (h : Lnk2 D a) : 1 ≤ a := by
  cases h with
  | one => exact Nat.le_refl _
  | step _ h _ => omega
theorem cfr_sound {page : Nat} : ∀ (d : Nat) (D : List Nat) (a : Nat) (C : List Nat), Lnk2 D a → C ∈ cfr page d D a → ∃ D', C = D' ++ [page] ∧ Lnk2 D' page ∧ D'.length ≤ D.length + d
  | 0, D, a, C, h, hC => by
    unfold cfr at hC
    split at hC
    · rename_i e
      exact ⟨D, by rw [List.mem_singleton.mp hC, e], by rw [← e]; exact h, by omega⟩
    · cases hC
  | d + 1, D, a, C, h, hC => by
    unfold cfr at hC
    split at hC
    · rename_i e
      exact ⟨D, by rw [List.mem_singleton.mp hC, e], by rw [← e]; exact h, by omega⟩
    · obtain ⟨b, hb, hC⟩ := List.mem_flatMap.mp hC
      obtain ⟨_, _, _, h4, h5⟩ := mem_fol.mp hb
      obtain ⟨D', e1, e2, e3⟩ := cfr_sound d (D ++ [a]) b C (.step h h4 h5) hC
      exact ⟨D', e1, e2, by rw [List.length_append] at e3; simp at e3; omega⟩
theorem Lnk2.cn {D : List Nat} {a : Nat} (h : Lnk2 D a) : ∀ {m : Nat}, a ≤ m → m ≤ 1000 → ∃ s p, nI (D ++ [a]) = tl s (p + 1) ∧ s p = a ∧ Cn s p m ∧ p = D.length := by
  induction h with
  | one => exact fun h1 h2 => ⟨fun _ => 1, 0, rfl, rfl, ⟨⟨rfl, fun i hi => absurd hi (by omega)⟩, fun i hi => absurd hi (by omega), h1⟩, rfl⟩
  | @step D a b hc hab hba ih =>
    intro m h1 h2
    obtain ⟨s, p, e1, e2, c, ep⟩ := ih (m := m) (by omega) h2
    obtain ⟨q, hq⟩ := Nat.dvd_of_mod_eq_zero hba
    have a1 := hc.pos
    have q2 : 2 ≤ q := by
      rcases Nat.lt_or_ge q 2 with z | z
      · have : a * q ≤ a * 1 := Nat.mul_le_mul_left a (by omega)
        omega
      · exact z
    have q3 : q ≤ 1000 := by
      have : 1 * q ≤ a * q := Nat.mul_le_mul_right q a1
      omega
    have lo : ∀ i, i ≤ p → (if i ≤ p then s i else b) = s i := fun i hi => if_pos hi
    have hi : (if p + 1 ≤ p then s (p + 1) else b) = b := if_neg (by omega)
    have st : ∀ i, i < p + 1 → ∃ r, 2 ≤ r ∧ r ≤ 1000 ∧ (fun i => if i ≤ p then s i else b) (i + 1) = (fun i => if i ≤ p then s i else b) i * r := fun i hi2 => by
      rcases Nat.lt_or_ge i p with z | z
      · obtain ⟨r, r2, r3, e⟩ := c.two i z
        exact ⟨r, r2, r3, by dsimp only; rw [lo i (by omega), lo (i + 1) (by omega)]; exact e⟩
      · obtain rfl : i = p := by omega
        exact ⟨q, q2, q3, by dsimp only; rw [lo i (Nat.le_refl _), hi, e2]; exact hq⟩
    refine ⟨fun i => if i ≤ p then s i else b, p + 1, ?_, hi, ⟨⟨?_, fun i hi2 => ?_⟩, st, ?_⟩, by rw [List.length_append, ← ep]; rfl⟩
    · rw [tl_succ]
      unfold nI at e1 ⊢
      rw [List.map_append, e1]
      show _ ++ [((b : Nat) : Int)] = _ ++ [(((if p + 1 ≤ p then s (p + 1) else b) : Nat) : Int)]
      rw [hi]
      congr 1
      exact tl_congr fun i hi => (lo i (by omega)).symm
    · show (if 0 ≤ p then s 0 else b) = 1
      rw [if_pos (Nat.zero_le _)]
      exact c.ch.s0
    · obtain ⟨r, r2, _, e⟩ := st i (by omega)
      exact ⟨r, by omega, e⟩
    · show (if p + 1 ≤ p then s (p + 1) else b) ≤ m
      rw [hi]
      exact h1
theorem cfr_cn {page m : Nat} {C : List Nat} (hC : C ∈ cfr page 11 [] 1) (h1 : page ≤ m) (h2 : m ≤ 1000) : ∃ s p, nI C = tl s (p + 1) ∧ s p = page ∧ Cn s p m ∧ p + 1 ≤ 12 := by
  obtain ⟨D, e, h, hl⟩ := cfr_sound 11 [] 1 C .one hC
  obtain ⟨s, p, e1, e2, c, e3⟩ := h.cn h1 h2
  exact ⟨s, p, by rw [e, e1], e2, c, by simp at hl; omega⟩
theorem cfr_some {page : Nat} (h : 1 ≤ page) : cfr page 11 [] 1 ≠ [] := by
  unfold cfr
  split
  · exact List.cons_ne_nil _ _
  · rename_i ne
    intro z
    have mem : page ∈ fol page 1 := mem_fol.mpr ⟨h, Nat.le_refl _, Nat.mod_self _, by omega, Nat.mod_one _⟩
    have := List.flatMap_eq_nil_iff.mp z page mem
    unfold cfr at this
    rw [if_pos rfl] at this
    cases this
/-! ### some_live -/
theorem best_rep {s : Nat → Nat} {p : Nat} {f ch : Nat → Nat} {W : Nat} (b : Best s p f ch W) {j : Nat} (hj : j ≤ p) (r1 : 1 ≤ rqn s j) : ∀ n R, R ≤ W → n * rqn s j ≤ R → n * s j + f (R - n * rqn s j) ≤ f R
  | 0, R, _, _ => by rw [Nat.zero_mul, Nat.zero_mul, Nat.zero_add]; exact Nat.le_refl _
  | n + 1, R, hR, hn => by
    rw [Nat.add_mul, Nat.one_mul] at hn ⊢
    have h1 := best_rep b hj r1 n R hR (by omega)
    have h2 := b.le (R - n * rqn s j) j (by omega) (by omega) hj (by omega)
    rw [Nat.sub_sub] at h2
    rw [Nat.add_mul, Nat.one_mul]
    omega
section
variable {P : Program} {w : World} {K : PySem.W.Frag} {mg : Str → Option Value} {base : Heap}
def spSl (K : PySem.W.Frag) : Sp := fun vs H Q _ => ∃ (c : Addr) (s : Nat → Nat) (p W : Nat), vs = [.ref c, .int W] ∧ SqT K H c ((tl s (p + 1)).map V.int) ∧ p < 1000 ∧ W ≤ 100000 ∧ (∀ j, j ≤ p → 0 < s j ∧ s j ≤ 4096) ∧ ∀ H' (L : Nat), Same H H' → (∀ f ch, Best s p f ch W → L ≤ f W) → Q (.int (L : Int)) H'
theorem ok_Sl {k : Nat} (Z : Fns K mg) : FnOk P w K mg base CX0 (k + 1 + 1) Z.fSl Z.fdSl ["chain", "words"] (spSl K) := by
  have GLr : FnOk P w K mg base CX0 (k + 1) Z.fLr Z.fdLr ["chain"] (spLr K) := ok_Lr Z
  refine Z.FSl.ok scSl (fun vs H Q E h => ?_) (fun cdv A outer s H vs Q E hr h => ?_)
  · obtain ⟨c, s, p, W, rfl, _⟩ := h
    rfl
  · obtain ⟨c, sz, p, W, rfl, hc, p1, W1, szp, q⟩ := h
    refine ⟨_, (pss_cons (ps_set (i := 2) scSl.nd rfl (.inl rfl) pe_int)
 (pss_cons (ps_set (i := 3) scSl.nd rfl (.inl rfl) (pv 1))
 (pss_cons (ps_for PassesOwn.never rfl (pi_list (pe_callBK (cr_sortedGain Z.FGa rfl hr) (by rfl) Z.N.sorted (by decide +kernel) (pa_cons (pe_call GLr (hr.mono (by omega)) (by rfl) Z.gLr Z.FLr.kp Z.bLr .nil pass0 (pa_cons (pv 0) pa_nil)) pa_nil) (pk_cons (pe_glob (v := .ref Z.fGa) (by rfl) Z.gGa rfl) (pk_cons pe_bl pk_nil)))) (pg_tup (by rfl) (pgs_cons (pg_name (i := 4) scSl.nd rfl (.inl rfl)) (pgs_cons (pg_name (i := 5) scSl.nd rfl (.inl rfl)) pgs_nil)))
 (pss_cons (ps_aug (i := 2) scSl.nd rfl (.inl rfl) (pe_op op_mul (pe_op op_fdiv (pv 3) (pv 4)) (pv 5)) ip_add)
 (pss_one (ps_aug (i := 3) scSl.nd rfl (.inl rfl) (pe_op op_mul (pe_op op_fdiv (pv 3) (pv 4)) (pv 4)) ip_sub))))
 (pss_one (ps_ret (pv 2)))))), ?_⟩
    have B0 : ∀ f ch, Best sz p f ch W → 0 + f W ≤ f W := fun f ch b => by omega
    refine ⟨.int W, rfl, ?_⟩
    dsimp only [gName]
    refine ⟨.ref c, rfl, c, sz, p, rfl, hc, p1, fun H1 D xs s1 nD hD bl => ⟨D, xs, rqs sz p, rfl, rfl, .inl (.inl hD), bl, ?_, fun H2 F ys cs s2 nF hF bl2 pm => ?_⟩⟩
    · intro b hb
      obtain ⟨j, hj, rfl⟩ := List.mem_map.mp hb
      have hj := List.mem_range.mp hj
      obtain ⟨h1, h2⟩ := szp j (by omega)
      have h3 : 1 ≤ rqn sz j ∧ rqn sz j ≤ 4097 := by
        cases j with
        | zero => exact ⟨Nat.le_refl _, by show 1 ≤ 4097; decide⟩
        | succ i =>
          have := szp i (by omega)
          show 1 ≤ sz i + 1 ∧ sz i + 1 ≤ 4097
          omega
      dsimp only
      omega
    refine ⟨F, rfl, ⟨_, .inl (.inl hF)⟩, ?_⟩
    refine for_it (walk_list (K := K) (a := F) (xs := ys)) (fun i σ H' => ∃ (y4 y5 : Option V) (L R : Nat), σ = [some (.ref c), some (.int W), some (.int (L : Int)), some (.int (R : Int)), y4, y5] ∧ H' = H2 ∧ R ≤ W ∧ ∀ f ch, Best sz p f ch W → L + f R ≤ f W) ⟨none, none, 0, W, rfl, rfl, Nat.le_refl _, B0⟩ (fun i σ H' _ q => ?_) ?_ ?_
    · obtain ⟨_, _, _, _, _, rfl, _⟩ := q
      exact .inl (.inl hF)
    · rintro i x σ H3a H3 hi ⟨y4, y5, L, R, rfl, rfl, hR, hL⟩ ⟨rfl, hx⟩
      obtain ⟨b, hb, T, rfl, hT⟩ := Paired.get bl2 hx
      obtain ⟨j, hj, rfl⟩ := List.mem_map.mp (pm.mem_iff.mp (List.mem_of_getElem? hb))
      have hj := List.mem_range.mp hj
      obtain ⟨z1, z2⟩ := szp j (by omega)
      have r1 : 1 ≤ rqn sz j ∧ rqn sz j ≤ 4097 := by
        cases j with
        | zero => exact ⟨Nat.le_refl _, by show 1 ≤ 4097; decide⟩
        | succ i =>
          have := szp i (by omega)
          show 1 ≤ sz i + 1 ∧ sz i + 1 ≤ 4097
          omega
      dsimp only at hT
      obtain ⟨n, en⟩ : ∃ n, R / rqn sz j = n := ⟨_, rfl⟩
      have hq : n ≤ R := by rw [← en]; exact Nat.div_le_self _ _
      have hm : n * rqn sz j ≤ R := by rw [← en]; exact Nat.div_mul_le_self _ _
      have e1 : ((R : Int)) / ((rqn sz j : Nat) : Int) = (n : Int) := by rw [← en]; exact (Int.natCast_ediv _ _).symm
      have e2 : (n : Int) * ((sz j : Nat) : Int) = ((n * sz j : Nat) : Int) := (Int.natCast_mul _ _).symm
      have e3 : (n : Int) * ((rqn sz j : Nat) : Int) = ((n * rqn sz j : Nat) : Int) := (Int.natCast_mul _ _).symm
      refine ⟨T, _, rfl, .inl (.inl hT), rfl, _, _, rfl, _, _, rfl, rfl, ?_⟩
      dsimp only [gName]
      refine ⟨.int L, rfl, .int R, rfl, .int _, rfl, _, _, rfl, rfl, ⟨by omega, by omega⟩, .int _, rfl, _, _, rfl, rfl, .inl ?_, _, _, rfl, rfl, .int R, rfl, .int R, rfl, .int _, rfl, _, _, rfl, rfl, ⟨by omega, by omega⟩, .int _, rfl, _, _, rfl, rfl, .inl ?_, _, _, rfl, rfl, ?_⟩
      · rw [e1]; omega
      · rw [e1]; omega
      refine ⟨some (.int ((rqn sz j : Nat) : Int)), some (.int ((sz j : Nat) : Int)), L + n * sz j, R - n * rqn sz j, ?_, rfl, by omega, fun f ch b => ?_⟩
      · have e4 : (L : Int) + ((n * sz j : Nat) : Int) = ((L + n * sz j : Nat) : Int) := (Int.natCast_add _ _).symm
        have e5 : (R : Int) - ((n * rqn sz j : Nat) : Int) = ((R - n * rqn sz j : Nat) : Int) := (Int.natCast_sub hm).symm
        dsimp only [List.set]
        rw [e1, e2, e3, e4, e5]
      · have h1 := best_rep b (j := j) (by omega) r1.1 n R hR hm
        have h2 := hL f ch b
        omega
    · rintro σ H3 ⟨y4, y5, L, R, rfl, rfl, hR, hL⟩
      exact ⟨.int L, rfl, q _ L (s1.trans s2) fun f ch b => by have := hL f ch b; omega⟩
end
end Ph

set_option maxHeartbeats 8000000
namespace Ph
open PySem PySem.Spec PyProof.Rows L2
/-! ### best_chain: a chain with this page -/
def rLenK (K : PySem.W.Frag) : List V → Hp → VK → Prop := fun xs H Q => ∃ p ys, xs = [.ref p] ∧ (SqL K H p ys ∨ SqT K H p ys) ∧ Q (.int ys.length) H
theorem call_lenE {X : Cx} {K : PySem.W.Frag} (e : X.K = K) : CallR X (.builtin "len") (rLenK K) := by
  subst e
  exact call_len_seq

def R3 (H : Hp) (v : V) (z : Nat × Nat × List Nat) : Prop := ∃ T t, v = V.ref T ∧ H T = some (.tup [.int (z.1 : Int), .int (z.2.1 : Int), .ref t]) ∧ ChAt H t (nI z.2.2)
theorem R3.kt {H H' : Hp} {v : V} {z : Nat × Nat × List Nat} (h : R3 H v z) (k : Kt H H') : R3 H' v z := by
  obtain ⟨T, t, e, hT, c⟩ := h
  exact ⟨T, t, e, k _ _ hT (fun _ z => nomatch z) (fun _ z => nomatch z), c.frz fun o u e => k _ _ e (fun _ z => nomatch z) (fun _ z => nomatch z)⟩
def t3 (z : Nat × Nat × List Nat) : PyData := .tuple [.int (z.1 : Int), .int (z.2.1 : Int), .tuple ((nI z.2.2).map PyData.int)]
theorem ints_alike : ∀ C D : List Int, PySem.W.alikeAll (C.map PyData.int) (D.map PyData.int) = true
  | [], [] => by simp [PySem.W.alikeAll]
  | [], _ :: _ => by simp [PySem.W.alikeAll]
  | _ :: _, [] => by simp [PySem.W.alikeAll]
  | a :: C, b :: D => by
    have := ints_alike C D
    simp [PySem.W.alikeAll, PySem.W.alike, this]
theorem t3_alike (a b : Nat × Nat × List Nat) : PySem.W.alike (t3 a) (t3 b) = true := by
  unfold t3
  generalize nI a.2.2 = x
  generalize nI b.2.2 = y
  simp [PySem.W.alikeAll, PySem.W.alike, ints_alike]
theorem ints_depth : ∀ C : List Int, PyData.depthAll (C.map PyData.int) = 0
  | [] => by simp [PyData.depthAll]
  | a :: C => by
    have := ints_depth C
    simp [PyData.depthAll, PyData.depth, this]
theorem t3_depth (a : Nat × Nat × List Nat) : (t3 a).depth ≤ 40 := by
  unfold t3
  generalize nI a.2.2 = x
  simp [PyData.depthAll, PyData.depth, ints_depth]
theorem R3.dp {K : PySem.W.Frag} {H : Hp} {v : V} {z : Nat × Nat × List Nat} (h : R3 H v z) : Dp K H v (t3 z) := by
  obtain ⟨T, t, e, hT, c⟩ := h
  rw [e]
  exact .tup (.inl (.inl hT)) (.cons (.int _) (.cons (.int _) (.cons (SqT.dp c.sq) .nil)))
open Classical in
noncomputable def dat3 (H : Hp) (v : V) : PyData := if h : ∃ z, R3 H v z then t3 (Classical.choose h) else .none
theorem dat3_is {H : Hp} {v : V} (h : ∃ z, R3 H v z) : ∃ z, R3 H v z ∧ dat3 H v = t3 z := ⟨Classical.choose h, Classical.choose_spec h, dif_pos h⟩
/-! ### the order of the rows -/
theorem t3_toks (z : Nat × Nat × List Nat) : ∃ R, PySem.W.keyToks (t3 z) = .inl 1 :: .inl (z.1 : Int) :: R ∧ R = PySem.W.keyToksAll [.int (z.2.1 : Int), .tuple ((nI z.2.2).map PyData.int)] := ⟨_, by
  unfold t3
  generalize nI z.2.2 = x
  simp only [PySem.W.keyToks, PySem.W.keyToksAll, List.cons_append, List.nil_append], rfl⟩
theorem t3_le {n m l : Nat} {C : List Nat} (h : n ≤ m) : PySem.W.dataLt (t3 (m, l, C)) (t3 (n, l, C)) = false := by
  rcases Nat.lt_or_ge n m with z | z
  · obtain ⟨R, e1, e2⟩ := t3_toks (m, l, C)
    obtain ⟨S, e3, e4⟩ := t3_toks (n, l, C)
    unfold PySem.W.dataLt
    rw [e1, e3]
    refine (PySem.W.lex_pre [.inl 1] _ _).trans (PyProof.Rows.lex_false.mpr ⟨?_, .inl ?_⟩)
    · show decide ((m : Int) < (n : Int)) = false
      exact decide_eq_false (by omega)
    · show decide ((n : Int) < (m : Int)) = true
      exact decide_eq_true (by omega)
  · obtain rfl : n = m := by omega
    exact PyProof.Rows.lex_irrefl _
theorem t3_ge {n m l l' : Nat} {C D : List Nat} (h : PySem.W.dataLt (t3 (m, l, C)) (t3 (n, l', D)) = false) : n ≤ m := by
  refine Classical.byContradiction fun no => ?_
  obtain ⟨R, e1, e2⟩ := t3_toks (m, l, C)
  obtain ⟨S, e3, e4⟩ := t3_toks (n, l', D)
  unfold PySem.W.dataLt at h
  rw [e1, e3] at h
  have h := (PySem.W.lex_pre [.inl 1] _ _).symm.trans h
  rw [PyProof.Rows.lex_true.mpr (.inl (show decide ((m : Int) < (n : Int)) = true from decide_eq_true (by omega)))] at h
  cases h
theorem R3.uniq {H : Hp} {v : V} {z z' : Nat × Nat × List Nat} (h : R3 H v z) (h' : R3 H v z') : z = z' := by
  obtain ⟨T, t, rfl, hT, c⟩ := h
  obtain ⟨T', t', e, hT', c'⟩ := h'
  cases e
  rw [hT] at hT'
  obtain ⟨o, _, c⟩ := c
  obtain ⟨o', _, c'⟩ := c'
  obtain ⟨n, l, C⟩ := z
  obtain ⟨n', l', C'⟩ := z'
  dsimp only at hT' c c'
  have e1 := Option.some.inj hT'
  injection e1 with e1
  injection e1 with a1 e1
  injection e1 with a2 e1
  injection e1 with a3 _
  injection a1 with a1
  injection a2 with a2
  injection a3 with a3
  subst a3
  rw [c] at c'
  have e2 := Option.some.inj c'
  injection e2 with _ e2
  injection e2 with e2
  have e3 : C = C' := by
    have inj : ∀ {x y : List Nat}, (nI x).map V.int = (nI y).map V.int → x = y := by
      intro x
      induction x with
      | nil =>
        intro y h
        cases y with
        | nil => rfl
        | cons b y => cases h
      | cons a x ih =>
        intro y h
        cases y with
        | nil => cases h
        | cons b y =>
          simp only [nI, List.map_cons, List.cons.injEq, V.int.injEq] at h
          rw [ih (by simpa [nI] using h.2)]
          congr 1
          omega
    exact inj e2
  have e4 : n = n' := by omega
  have e5 : l = l' := by omega
  rw [e3, e4, e5]
/-! ### a chain's numbers -/
def cs (C : List Nat) (i : Nat) : Nat := C.getD i 0
theorem cs_tl (C : List Nat) : nI C = tl (cs C) C.length := by
  unfold tl nI
  refine List.ext_getElem? fun j => ?_
  rw [List.getElem?_map, List.getElem?_map]
  rcases Nat.lt_or_ge j C.length with h | h
  · rw [List.getElem?_range h, List.getElem?_eq_getElem h]
    simp [cs, List.getD_eq_getElem?_getD, h]
  · rw [List.getElem?_eq_none h, List.getElem?_eq_none (by rw [List.length_range]; exact h)]
    rfl
theorem Cn.eqs {s s' : Nat → Nat} {p m : Nat} (c : Cn s p m) (e : ∀ j, j ≤ p → s' j = s j) : Cn s' p m := by
  refine ⟨⟨by rw [e 0 (by omega)]; exact c.ch.s0, fun i hi => ?_⟩, fun i hi => ?_, by rw [e p (Nat.le_refl _)]; exact c.top⟩
  · obtain ⟨r, h1, h2⟩ := c.ch.dv i hi
    exact ⟨r, h1, by rw [e _ (by omega), e _ (by omega)]; exact h2⟩
  · obtain ⟨r, h1, h2, h3⟩ := c.two i hi
    exact ⟨r, h1, h2, by rw [e _ (by omega), e _ (by omega)]; exact h3⟩
theorem tl_eqs {s s' : Nat → Nat} {n : Nat} (h : tl s n = tl s' n) : ∀ j, j < n → s j = s' j := fun j hj => by
  have h1 : (tl s n)[j]? = (tl s' n)[j]? := by rw [h]
  rw [tl_get hj, tl_get hj] at h1
  have := Option.some.inj h1
  omega
structure CsOk (C : List Nat) (page m : Nat) : Prop where
  len : C.length - 1 + 1 = C.length
  l12 : C.length ≤ 12
  eq : nI C = tl (cs C) (C.length - 1 + 1)
  top : cs C (C.length - 1) = page
  cn : Cn (cs C) (C.length - 1) m
theorem cs_of {C : List Nat} {s : Nat → Nat} {p m : Nat} (e : nI C = tl s (p + 1)) (c : Cn s p m) (h : p + 1 ≤ 12) : CsOk C (s p) m := by
  have l : C.length = p + 1 := by
    have := congrArg List.length e
    unfold nI at this
    rw [List.length_map, tl_len] at this
    exact this
  have e2 := tl_eqs ((cs_tl C).symm.trans (by rw [l]; exact e) : tl (cs C) C.length = tl s C.length)
  have e3 : C.length - 1 = p := by omega
  refine ⟨by omega, by omega, by rw [e3, ← l]; exact cs_tl C, by rw [e3]; exact e2 p (by omega), ?_⟩
  rw [e3]
  exact c.eqs fun j hj => e2 j (by omega)
theorem cfr_cs {page m : Nat} {C : List Nat} (hC : C ∈ cfr page 11 [] 1) (h1 : page ≤ m) (h2 : m ≤ 1000) : CsOk C page m := by
  obtain ⟨s, p, e1, e2, c, h⟩ := cfr_cn hC h1 h2
  rw [← e2]
  exact cs_of e1 c h
/-- all chains that begin so are found -/
theorem cfr_all {page : Nat} : ∀ (d : Nat) (D : List Nat) (a : Nat) (E : List Nat), page % a = 0 → 1 ≤ page → (∀ (i : Nat) (x y : Nat), (a :: E)[i]? = some x → (a :: E)[i + 1]? = some y → x < y ∧ y % x = 0) → (a :: E).getLast? = some page → E.length ≤ d → (∀ x ∈ E, 1 ≤ x ∧ page % x = 0) → D ++ a :: E ∈ cfr page d D a
  | d, D, a, [], _, _, _, hl, _, _ => by
    have e : a = page := by simpa using hl
    have : cfr page d D a = [D ++ [a]] := by cases d <;> simp [cfr, e]
    rw [this]
    exact List.mem_singleton.mpr rfl
  | 0, D, a, b :: E, _, _, _, _, hd, _ => by simp at hd
  | d + 1, D, a, b :: E, ha, p1, hs, hl, hd, hp => by
    obtain ⟨ab, ba⟩ := hs 0 a b rfl rfl
    obtain ⟨b1, b2⟩ := hp b List.mem_cons_self
    have ble : b ≤ page := Nat.le_of_dvd p1 (Nat.dvd_of_mod_eq_zero b2)
    have ne : a ≠ page := by omega
    have : cfr page (d + 1) D a = (fol page a).flatMap fun b => cfr page d (D ++ [a]) b := by simp [cfr, ne]
    rw [this]
    refine List.mem_flatMap.mpr ⟨b, mem_fol.mpr ⟨b1, ble, b2, ab, ba⟩, ?_⟩
    have := cfr_all d (D ++ [a]) b E b2 p1 (fun i x y h1 h2 => hs (i + 1) x y (by simpa using h1) (by simpa using h2)) (by simpa using hl) (by simp at hd; omega) (fun x hx => hp x (List.mem_cons_of_mem _ hx))
    simpa using this
end Ph

set_option maxHeartbeats 8000000
namespace Ph
open PySem PySem.Spec PyProof.Rows L2
/-- what enough_pages tells of a chain -/
def ndP (C : List Nat) (f : Nat → Nat) (W : Nat) : Nat := bb (cs C) (f W) (C.length - 1) / cs C (C.length - 1)
def BestC (C : List Nat) (f ch : Nat → Nat) (W : Nat) : Prop := Best (cs C) (C.length - 1) f ch W
/-- a row: a lower bound, the number of sizes, the chain -/
def RowOk (page W : Nat) (z : Nat × Nat × List Nat) : Prop := z.2.2 ∈ cfr page 11 [] 1 ∧ z.2.1 = z.2.2.length ∧ ∀ f ch, BestC z.2.2 f ch W → z.1 ≤ ndP z.2.2 f W
def GoodZ (page W : Nat) (z : Nat × Nat × List Nat) : Prop := z.2.2 ∈ cfr page 11 [] 1 ∧ z.2.1 = z.2.2.length ∧ ∀ f ch, BestC z.2.2 f ch W → z.1 = ndP z.2.2 f W
/-- the chain is no better than z -/
def NoB (W : Nat) (z : Nat × Nat × List Nat) (D : List Nat) : Prop := ∀ f ch, BestC D f ch W → PySem.W.dataLt (t3 (ndP D f W, D.length, D)) (t3 z) = false
theorem ndP_mono {C : List Nat} {page m M N : Nat} (c : CsOk C page m) (h : M ≤ N) : bb (cs C) M (C.length - 1) / cs C (C.length - 1) ≤ bb (cs C) N (C.length - 1) / cs C (C.length - 1) :=
  Nat.div_le_div_right ((bd_bfn (cs C) (C.length - 1 + 1) M).le c.cn.ch (bd_bfn (cs C) (C.length - 1 + 1) N) h _ (by omega))
section
variable {P : Program} {w : World} {K : PySem.W.Frag} {mg : Str → Option Value} {base : Heap}
def spFp (K : PySem.W.Frag) : Sp := fun vs H Q _ => ∃ (c : Addr) (s : Nat → Nat) (p W : Nat), vs = [.ref c, .int W] ∧ SqT K H c ((tl s (p + 1)).map V.int) ∧ Szs s (p + 1) ∧ p < 1000 ∧ W ≤ 100000 ∧ (∀ j, j ≤ p → 0 < s j ∧ s j ≤ 4096) ∧ ∀ H' (L : Nat), Same H H' → (∀ f ch, Best s p f ch W → L ≤ f W) → Q (.int ((bb s L p / s p : Nat) : Int)) H'
theorem ok_Fp {k : Nat} (Z : Fns K mg) : FnOk P w K mg base CX0 (k + 1 + 1 + 1 + 1 + 1 + 1) Z.fFp Z.fdFp ["chain", "words"] (spFp K) := by
  have GSl : FnOk P w K mg base CX0 (k + 1 + 1) Z.fSl Z.fdSl ["chain", "words"] (spSl K) := ok_Sl Z
  have GPn : FnOk P w K mg base CX0 (k + 1 + 1 + 1 + 1 + 1) Z.fPn Z.fdPn ["chain", "limit"] (spPn K) := ok_Pn Z
  refine Z.FFp.ok scFp (fun vs H Q E h => ?_) (fun cdv A outer s H vs Q E hr h => ?_)
  · obtain ⟨c, s, p, W, rfl, _⟩ := h
    rfl
  · obtain ⟨c, sz, p, W, rfl, hc, szs, p1, W1, szp, q⟩ := h
    refine ⟨_, (pss_one (ps_ret (pe_call GPn (hr.mono (by omega)) (by rfl) Z.gPn Z.FPn.kp Z.bPn .nil pass0 (pa_cons (pv 0) (pa_cons (pe_call GSl (hr.mono (by omega)) (by rfl) Z.gSl Z.FSl.kp Z.bSl .nil pass0 (pa_cons (pv 0) (pa_cons (pv 1) pa_nil))) pa_nil))))), ?_⟩
    exact ⟨.ref c, rfl, .ref c, rfl, .int W, rfl, c, sz, p, W, rfl, hc, p1, W1, szp, fun H1 L s1 hL => ⟨c, sz, p, L, rfl, s1.tup hc, szs, fun H2 s2 => q _ L (s1.trans s2) hL⟩⟩
def spBc : Sp := fun vs H Q _ => ∃ (page W : Nat), vs = [.int (page : Int), .int (W : Int)] ∧ 1 ≤ page ∧ page ≤ 1000 ∧ W ≤ 100000 ∧ ∀ H' t z, Same H H' → ChAt H' t (nI z.2.2) → GoodZ page W z → (∀ D ∈ cfr page 11 [] 1, NoB W z D) → Q (.ref t) H'
theorem ok_Bc {k : Nat} (Z : Fns K mg) : FnOk P w K mg base CX0 (k + 1 + 1 + 11 + 1 + 1) Z.fBc Z.fdBc ["page", "words"] spBc := by
  have GCo : FnOk P w K mg base CX0 (k + 1 + 11 + 1 + 1) Z.fCo Z.fdCo ["page"] spCo := ok_Co Z
  have GFp : FnOk P w K mg base CX0 (k + 1 + 1 + 1 + 1 + 1 + 1) Z.fFp Z.fdFp ["chain", "words"] (spFp K) := ok_Fp Z
  have GEp : FnOk P w K mg base CX0 (k + 1 + 1 + 1 + 1 + 1 + 1) Z.fEp Z.fdEp ["chain", "words"] (spEp K) := ok_Ep Z
  refine Z.FBc.ok scBc (fun vs H Q E h => ?_) (fun cdv A outer s H vs Q E hr h => ?_)
  · obtain ⟨page, W, rfl, _⟩ := h
    rfl
  · obtain ⟨page, W, rfl, p1, p4, W1, q⟩ := h
    have hu64 := u64_of hr
    refine ⟨_, (pss_cons (ps_set (i := 2) scBc.nd rfl (.inl rfl) pe_non)
 (pss_cons (ps_setLc (i := 3) (own := [("chain", 8)]) (g := (gName 8)) (tt := tYes) (by rfl) scBc.nd rfl rfl (sw_true rfl rfl rfl (by decide +kernel)) (pi_tup (pe_call GCo (hr.mono (by omega)) (by rfl) Z.gCo Z.FCo.kp Z.bCo .nil pass0 (pa_cons (pv 0) pa_nil))) (blkOk_by (N := scBcN) (sc := defScope scBcS) (by decide +kernel)) (fun _ _ _ _ _ => (pg_name (i := 8) scBc.nd rfl (.inl rfl))) (fun _ _ _ _ _ => pts_nil) (fun _ _ _ _ _ => (pe_tup (pa_cons (pe_call GFp (hr.mono (by omega)) (by rfl) Z.gFp Z.FFp.kp Z.bFp .nil pass0 (pa_cons (pv 8) (pa_cons (pv 1) pa_nil))) (pa_cons (pe_callB (call_lenE (K := K) rfl) (by rfl) Z.N.len (by decide +kernel) (pa_cons (pv 8) pa_nil)) (pa_cons (pv 8) pa_nil))))))
 (pss_cons (ps_for PassesOwn.never rfl (pi_list (pe_callB (cr_sortedD hu64) (by rfl) Z.N.sorted (by decide +kernel) (pa_cons (pv 3) pa_nil))) (pg_tup (by rfl) (pgs_cons (pg_name (i := 4) scBc.nd rfl (.inl rfl)) (pgs_cons (pg_name (i := 5) scBc.nd rfl (.inl rfl)) (pgs_cons (pg_name (i := 6) scBc.nd rfl (.inl rfl)) pgs_nil))))
 (pss_cons (ps_if (PW.pt (pw_and (pt_cmpR op_notN (pv 2) pe_non (nomark _)) (pw_and1 (pt_cmpR (op_ltD hu64) (pv 2) (pe_tup (pa_cons (pv 4) (pa_cons (pv 5) (pa_cons (pv 6) pa_nil)))) (nomark _)))))
 (pss_one ps_break) pss_nil)
 (pss_cons (ps_set (i := 7) scBc.nd rfl (.inl rfl) (pe_tup (pa_cons (pe_call GEp (hr.mono (by omega)) (by rfl) Z.gEp Z.FEp.kp Z.bEp .nil pass0 (pa_cons (pv 6) (pa_cons (pv 1) pa_nil))) (pa_cons (pv 5) (pa_cons (pv 6) pa_nil)))))
 (pss_one (ps_if (PW.pt (pw_or (pt_cmpR op_isN (pv 2) pe_non (nomark _)) (pw_or1 (pt_cmpR (op_ltD hu64) (pv 7) (pv 2) (nomark _)))))
 (pss_one (ps_set (i := 2) scBc.nd rfl (.inl rfl) (pv 7))) pss_nil)))))
 (pss_one (ps_ret (pe_ix ix_tup (pv 2) pe_int (fun _ _ => rfl))))))), ?_⟩
    have okC : ∀ C ∈ cfr page 11 [] 1, CsOk C page page := fun C hC => cfr_cs hC (Nat.le_refl _) p4
    refine ⟨.int page, rfl, page, rfl, p1, by omega, fun H1 T xs s1 hT ch1 => ⟨T, rfl, ⟨_, .inl (.inl hT)⟩, fun L nL => ?_⟩⟩
    have T3 : ∀ i C, (cfr page 11 [] 1)[i]? = some C → C ∈ cfr page 11 [] 1 := fun i C e => List.mem_of_getElem? e
    have hlx : xs.length ≤ 1000000 := by
      rw [Paired.length ch1]
      refine Nat.le_trans (cfr_len _ _ _ (Nat.le_refl _) (Nat.mod_one _) p1) ?_
      rw [Nat.div_one]
      exact Nat.le_trans (Nat.mul_le_mul p4 p4) (by decide)
    have szO : ∀ C ∈ cfr page 11 [] 1, ∀ j, j ≤ C.length - 1 → 0 < cs C j ∧ cs C j ≤ 4096 := fun C hC j hj => by
      have ok := okC C hC
      have l := ok.len
      have := ok.cn.ch.pos (i := j) (by omega)
      have := ok.cn.ch.mono (i := j) (j := C.length - 1) hj (by omega)
      have := ok.cn.top
      omega
    have szsO : ∀ C ∈ cfr page 11 [] 1, Szs (cs C) (C.length - 1 + 1) := fun C hC => ⟨by omega, by have := (okC C hC).l12; omega, fun j hj => ⟨(szO C hC j (by omega)).1, Nat.lt_of_le_of_lt (szO C hC j (by omega)).2 (by decide)⟩⟩
    refine lc_RB (walk_tup (K := K) (a := T) (xs := xs)) (fun _ _ _ _ y => YAt.same y) (fun H2 j y => ∃ z, R3 H2 y z ∧ RowOk page W z ∧ (cfr page 11 [] 1)[j]? = some z.2.2) (fun H2 H3 j y k b ⟨z, h, m⟩ => ⟨z, h.kt k, m⟩) nL (Nat.lt_of_le_of_lt hlx (by decide)) (fun H2 s2 => .inl (.inl (s2 _ _ hT))) (fun j y H2 H3 hj s2 hl yy Z hZ => ?_) (fun H2 rows s2 hL pr => ?_)
    · obtain ⟨rfl, hx⟩ := yy
      obtain ⟨C, hC, t, rfl, ht⟩ := Paired.get ch1 hx
      have mC := T3 _ _ hC
      have ok := okC C mC
      have ht3 : ChAt H3 t (nI C) := ht.keep s2
      have sq3 : SqT K H3 t ((tl (cs C) (C.length - 1 + 1)).map V.int) := by rw [← ok.eq]; exact ht3.sq
      refine ⟨rfl, .ref t, rfl, .int W, rfl, t, cs C, C.length - 1, W, rfl, sq3, szsO C mC, by have := ok.l12; omega, W1, szO C mC, fun H4 M s4 hM => ⟨.ref t, rfl, ?_⟩⟩
      have sq4 : SqT K H4 t ((nI C).map V.int) := (ht3.keep s4).sq
      refine ⟨t, _, rfl, .inr sq4, .ref t, rfl, (by show 3 ≤ sizeLine; decide), fun U nU => ?_⟩
      have el : ((nI C).map V.int).length = C.length := by rw [List.length_map, List.length_map]
      rw [el]
      have sU := same_upd (o := .tup [.int ((bb (cs C) M (C.length - 1) / cs C (C.length - 1) : Nat) : Int), .int (C.length : Int), .ref t]) nU
      exact hZ _ _ (s4.trans sU) ⟨(bb (cs C) M (C.length - 1) / cs C (C.length - 1), C.length, C), ⟨U, t, rfl, upd_same, (ht3.keep s4).keep sU⟩, ⟨mC, rfl, fun f ch b => ndP_mono ok (hM f ch b)⟩, hC⟩
    have rowz : ∀ x ∈ rows, ∃ z, R3 H2 x z ∧ RowOk page W z := fun x hx => by
      obtain ⟨i, hi, ei⟩ := List.getElem_of_mem hx
      obtain ⟨_, _, z, h, r, _⟩ := Paired.get2 pr (b := x) (i := i) (by rw [List.getElem?_eq_getElem hi, ei])
      exact ⟨z, h, r⟩
    have rowd : ∀ x ∈ rows, ∃ z, R3 H2 x z ∧ dat3 H2 x = t3 z := fun x hx => dat3_is (by
      obtain ⟨z, h, _⟩ := rowz x hx
      exact ⟨z, h⟩)
    have rowa : ∀ D ∈ cfr page 11 [] 1, ∃ x ∈ rows, ∃ z, R3 H2 x z ∧ z.2.2 = D := fun D hD => by
      obtain ⟨i, hi, ei⟩ := List.getElem_of_mem hD
      obtain ⟨x, hx, z, h, _, e⟩ := Paired.get pr (List.getElem?_range (show i < xs.length by rw [Paired.length ch1]; exact hi))
      refine ⟨x, List.mem_of_getElem? hx, z, h, ?_⟩
      rw [List.getElem?_eq_getElem hi, ei] at e
      exact (Option.some.inj e).symm
    dsimp only [gName]
    refine ⟨.ref L, rfl, L, rows, dat3 H2, rfl, .inl (.inl hL), fun x hx => ?_, fun d hd e he => ?_, .inl fun d hd => ?_, fun x hx => ?_, fun ys F pm eys nF => ⟨F, rfl, ⟨_, .inl (.inl upd_same)⟩, ?_⟩⟩
    · obtain ⟨z, h, e⟩ := rowd x hx
      rw [e]
      exact h.dp
    · obtain ⟨x, hx, rfl⟩ := List.mem_map.mp hd
      obtain ⟨y, hy, rfl⟩ := List.mem_map.mp he
      obtain ⟨z1, _, e1⟩ := rowd x hx
      obtain ⟨z2, _, e2⟩ := rowd y hy
      rw [e1, e2]
      exact t3_alike _ _
    · obtain ⟨x, hx, rfl⟩ := List.mem_map.mp hd
      obtain ⟨z1, _, e1⟩ := rowd x hx
      exact ⟨_, _, e1⟩
    · obtain ⟨z1, _, e1⟩ := rowd x hx
      rw [e1]
      exact t3_depth _
    have pwy : ys.Pairwise fun x y => PySem.W.dataLt (dat3 H2 y) (dat3 H2 x) = false := by rw [eys]; exact mergeS_pairwise (dat3 H2) rows
    have sF := same_upd (o := .lst ys) nF
    have hF : upd H2 F (.lst ys) F = some (.lst ys) := upd_same
    have rowy : ∀ x ∈ ys, ∃ z, R3 H2 x z ∧ R3 (upd H2 F (.lst ys)) x z ∧ RowOk page W z ∧ dat3 H2 x = t3 z := fun x hx => by
      obtain ⟨z, h, r⟩ := rowz x (pm.mem_iff.mp hx)
      obtain ⟨z', h', e⟩ := rowd x (pm.mem_iff.mp hx)
      rw [h'.uniq h] at e
      exact ⟨z, h, h.kt (Same.kt sF), r, e⟩
    have some1 : 1 ≤ ys.length := by
      rw [pm.length_eq, Paired.length pr |>.symm, List.length_range, Paired.length ch1]
      exact List.length_pos_iff.mpr (cfr_some p1)
    have s13 := (s1.trans s2).trans sF
    generalize upd H2 F (.lst ys) = H3 at *
    -- of two rows, the later is no less
    have later : ∀ i j x y z z', i < j → ys[i]? = some x → ys[j]? = some y → R3 H2 x z → R3 H2 y z' → PySem.W.dataLt (t3 z') (t3 z) = false := fun i j x y z z' hij hx hy h h' => by
      obtain ⟨hi, ei⟩ := List.getElem?_eq_some_iff.mp hx
      obtain ⟨hj, ej⟩ := List.getElem?_eq_some_iff.mp hy
      have := List.pairwise_iff_getElem.mp pwy i j hi hj hij
      rw [ei, ej] at this
      obtain ⟨z1, h1, _, _, e1⟩ := rowy x (List.mem_of_getElem? hx)
      obtain ⟨z2, h2, _, _, e2⟩ := rowy y (List.mem_of_getElem? hy)
      rw [e1, e2, h1.uniq h, h2.uniq h'] at this
      exact this
    refine for_it (walk_list (K := K) (a := F) (xs := ys)) (fun i σ H' => ∃ y2 y4 y5 y6 y7 y8 : Option V, σ = [some (.int page), some (.int W), y2, some (.ref L), y4, y5, y6, y7, y8] ∧ Same H3 H' ∧ ((i = 0 ∧ y2 = some .non) ∨ ∃ B z, y2 = some (.ref B) ∧ R3 H' (.ref B) z ∧ GoodZ page W z ∧ ∀ (i' : Nat) x z', i' < i → ys[i']? = some x → R3 H2 x z' → NoB W z z'.2.2)) ⟨_, _, _, _, _, _, rfl, Same.refl _, .inl ⟨rfl, rfl⟩⟩ (fun i σ H' _ q => ?_) ?_ ?_
    · obtain ⟨_, _, _, _, _, _, _, s3, _⟩ := q
      exact .inl (.inl (s3 _ _ hF))
    · rintro i x σ H4a H4 hi ⟨y2, y4, y5, y6, y7, y8, rfl, s4, hb⟩ ⟨rfl, hx⟩
      obtain ⟨z, hz2, hz3, rz, _⟩ := rowy x (List.mem_of_getElem? hx)
      obtain ⟨mz, lz, bz⟩ := rz
      obtain ⟨T1, t1, rfl, hT1, ht1⟩ := hz3.kt (Same.kt s4)
      refine ⟨T1, _, rfl, .inl (.inl hT1), rfl, _, _, rfl, _, _, rfl, _, _, rfl, rfl, ?_⟩
      dsimp only [gName]
      have ok := okC _ mz
      -- the row's own number
      have good : ∀ f ch, BestC z.2.2 f ch W → GoodZ page W (ndP z.2.2 f W, z.2.1, z.2.2) := fun f ch b => ⟨mz, lz, fun f' ch' b' => by
        show bb _ (f W) _ / _ = bb _ (f' W) _ / _
        rw [best_uniq ok.cn b b' W W (Nat.le_refl _) (Nat.le_refl _) (Nat.le_refl _)]⟩
      have self : ∀ f ch, BestC z.2.2 f ch W → NoB W (ndP z.2.2 f W, z.2.1, z.2.2) z.2.2 := fun f ch b f' ch' b' => by
        have : ndP z.2.2 f' W = ndP z.2.2 f W := by
          show bb _ (f' W) _ / _ = bb _ (f W) _ / _
          rw [best_uniq ok.cn b b' W W (Nat.le_refl _) (Nat.le_refl _) (Nat.le_refl _)]
        rw [this, lz]
        exact PyProof.Rows.lex_irrefl _
      rcases hb with ⟨i0, rfl⟩ | ⟨B, z', rfl, hB, gz', nb⟩
      · refine ⟨.non, rfl, rfl, _, rfl, ite2 (fun c => absurd c (by simp)) (fun _ => ?_)⟩
        refine ite2 (fun c => nomatch c) (fun _ => ?_)
        dsimp only [tNext]
        refine ⟨.ref t1, rfl, .int W, rfl, t1, cs z.2.2, z.2.2.length - 1, W, rfl, by rw [← ok.eq]; exact ht1.sq, szsO _ mz, W1, fun H5 f ch s5 bf => ⟨.int _, rfl, .ref t1, rfl, (by show 3 ≤ sizeLine; decide), fun U nU => ?_⟩⟩
        have sU := same_upd (o := .tup [.int ((ndP z.2.2 f W : Nat) : Int), .int (z.2.1 : Int), .ref t1]) nU
        dsimp only [gName]
        refine ⟨.non, rfl, rfl, _, rfl, ite2 (fun _ => ?_) (fun c => absurd (by simp) c)⟩
        refine ite2 (fun _ => ?_) (fun c => absurd rfl c)
        refine ⟨.ref U, rfl, _, _, _, _, _, _, rfl, (s4.trans s5).trans sU, .inr ⟨U, (ndP z.2.2 f W, z.2.1, z.2.2), rfl, ⟨U, t1, rfl, upd_same, (ht1.keep s5).keep sU⟩, good f ch bf, fun i' x' z9 hi' hx' hz9 => ?_⟩⟩
        obtain rfl : i' = i := by omega
        rw [hx] at hx'
        cases hx'
        rw [hz9.uniq hz2]
        exact self f ch bf
      · refine ⟨.ref B, rfl, rfl, _, rfl, ite2 (fun _ => ?_) (fun c => absurd (by simp) c)⟩
        refine ⟨.ref B, rfl, .int _, rfl, .int _, rfl, .ref t1, rfl, (by show 3 ≤ sizeLine; decide), fun U0 nU0 => ?_⟩
        have sU0 := same_upd (o := .tup [.int (z.1 : Int), .int (z.2.1 : Int), .ref t1]) nU0
        have hU0 : R3 (upd H4 U0 (.tup [.int (z.1 : Int), .int (z.2.1 : Int), .ref t1])) (.ref U0) z := ⟨U0, t1, rfl, upd_same, ht1.keep sU0⟩
        have hB0 := hB.kt (Same.kt sU0)
        have ht0 := ht1.keep sU0
        have s40 := s4.trans sU0
        generalize upd H4 U0 _ = H5 at *
        refine ⟨t3 z', t3 z, hB0.dp, hU0.dp, t3_alike _ _, (fun z => nomatch z), Nat.le_trans (t3_depth _) (by decide), _, rfl, ite2 (fun lt => ?_) (fun _ => ?_)⟩
        · obtain ⟨B', tb, eB, hB1, htb⟩ := id hB0
          cases eB
          refine ⟨.ref B, rfl, B, _, 2, _, rfl, rfl, .inl (.inl hB1), atI_nat (j := 2) rfl, q _ tb z' (s13.trans s40) htb gz' fun D hD f ch b => ?_⟩
          obtain ⟨x9, hx9, z9, h9, rfl⟩ := rowa D hD
          obtain ⟨i9, hi9, ei9⟩ := List.getElem_of_mem (pm.mem_iff.mpr hx9)
          have hx9' : ys[i9]? = some x9 := by rw [List.getElem?_eq_getElem hi9, ei9]
          rcases Nat.lt_or_ge i9 i with lt9 | ge9
          · exact nb i9 x9 z9 lt9 hx9' h9 f ch b
          · -- z' < the row here <= that row <= what it is found to need
            have le9 : PySem.W.dataLt (t3 z9) (t3 z) = false := by
              rcases Nat.lt_or_ge i i9 with l | g
              · exact later i i9 _ _ _ _ l hx hx9' hz2 h9
              · obtain rfl : i9 = i := by omega
                rw [hx] at hx9'
                cases hx9'
                rw [h9.uniq hz2]
                exact PyProof.Rows.lex_irrefl _
            have lt1 : PySem.W.dataLt (t3 z') (t3 z9) = true := (dLt_neg (y := t3 z9) lt).elim id fun h => by rw [h] at le9; cases le9
            obtain ⟨za, ha, _, ⟨m9, l9, b9⟩, _⟩ := rowy x9 (List.mem_of_getElem? hx9')
            have ea := ha.uniq h9
            subst ea
            have le10 : PySem.W.dataLt (t3 (ndP za.2.2 f W, za.2.2.length, za.2.2)) (t3 za) = false := by
              have := t3_le (l := za.2.1) (C := za.2.2) (b9 f ch b)
              rw [l9] at this
              have e9 : za = (za.1, za.2.2.length, za.2.2) := by rw [← l9]
              rw [e9]
              exact this
            have lt2 : PySem.W.dataLt (t3 z') (t3 (ndP za.2.2 f W, za.2.2.length, za.2.2)) = true := (dLt_neg (y := t3 (ndP za.2.2 f W, za.2.2.length, za.2.2)) lt1).elim id fun h => by rw [h] at le10; cases le10
            exact dLt_asym lt2
        · dsimp only [tNext]
          refine ⟨.ref t1, rfl, .int W, rfl, t1, cs z.2.2, z.2.2.length - 1, W, rfl, by rw [← ok.eq]; exact ht0.sq, szsO _ mz, W1, fun H6 f ch s6 bf => ⟨.int _, rfl, .ref t1, rfl, (by show 3 ≤ sizeLine; decide), fun U nU => ?_⟩⟩
          have sU := same_upd (o := .tup [.int ((ndP z.2.2 f W : Nat) : Int), .int (z.2.1 : Int), .ref t1]) nU
          have hU : R3 (upd H6 U (.tup [.int ((ndP z.2.2 f W : Nat) : Int), .int (z.2.1 : Int), .ref t1])) (.ref U) (ndP z.2.2 f W, z.2.1, z.2.2) := ⟨U, t1, rfl, upd_same, (ht0.keep s6).keep sU⟩
          have hB1 := hB0.kt (Same.kt (s6.trans sU))
          have s47 := s40.trans (s6.trans sU)
          show (tSeq _ _) _ _ (upd H6 U (.tup [.int ((ndP z.2.2 f W : Nat) : Int), .int (z.2.1 : Int), .ref t1]))
          generalize upd H6 U (.tup [.int ((ndP z.2.2 f W : Nat) : Int), .int (z.2.1 : Int), .ref t1]) = H7 at *
          refine ⟨.ref B, rfl, rfl, _, rfl, ite2 (fun c => absurd c (by simp)) (fun _ => ?_)⟩
          refine ⟨.ref U, rfl, .ref B, rfl, _, _, hU.dp, hB1.dp, t3_alike _ _, (fun z => nomatch z), Nat.le_trans (t3_depth _) (by decide), _, rfl, ite2 (fun lt => ?_) (fun nlt => ?_)⟩
          · refine ⟨.ref U, rfl, _, _, _, _, _, _, rfl, s47, .inr ⟨U, _, rfl, hU, good f ch bf, fun i' x' z9 hi' hx' hz9 => ?_⟩⟩
            rcases Nat.lt_or_ge i' i with l | g
            · intro f' ch' b'
              have h1 := nb i' x' z9 l hx' hz9 f' ch' b'
              cases e : PySem.W.dataLt (t3 (ndP z9.2.2 f' W, z9.2.2.length, z9.2.2)) (t3 (ndP z.2.2 f W, z.2.1, z.2.2)) with
              | false => rfl
              | true => rw [dLt_trans e lt] at h1; cases h1
            · obtain rfl : i' = i := by omega
              rw [hx] at hx'
              cases hx'
              rw [hz9.uniq hz2]
              exact self f ch bf
          · refine ⟨_, _, _, _, _, _, rfl, s47, .inr ⟨B, _, rfl, hB1, gz', fun i' x' z9 hi' hx' hz9 => ?_⟩⟩
            rcases Nat.lt_or_ge i' i with l | g
            · exact nb i' x' z9 l hx' hz9
            · obtain rfl : i' = i := by omega
              rw [hx] at hx'
              cases hx'
              rw [hz9.uniq hz2]
              intro f' ch' b'
              have : ndP z.2.2 f' W = ndP z.2.2 f W := by
                show bb _ (f' W) _ / _ = bb _ (f W) _ / _
                rw [best_uniq ok.cn bf b' W W (Nat.le_refl _) (Nat.le_refl _) (Nat.le_refl _)]
              rw [this, ← lz]
              exact Bool.eq_false_iff.mpr nlt
    · rintro σ H4 ⟨y2, y4, y5, y6, y7, y8, rfl, s4, hb⟩
      rcases hb with ⟨e, _⟩ | ⟨B, z, rfl, ⟨B', t1, eB, hB, ht1⟩, gz, nb⟩
      · omega
      · cases eB
        refine ⟨.ref B, rfl, B, _, 2, _, rfl, rfl, .inl (.inl hB), atI_nat (j := 2) rfl, q _ t1 z (s13.trans s4) ht1 gz fun D hD => ?_⟩
        obtain ⟨x9, hx9, z9, h9, rfl⟩ := rowa D hD
        obtain ⟨i9, hi9, ei9⟩ := List.getElem_of_mem (pm.mem_iff.mpr hx9)
        exact nb i9 x9 z9 hi9 (by rw [List.getElem?_eq_getElem hi9, ei9]) h9
end
end Ph

set_option maxHeartbeats 8000000
namespace Ph
open PySem PySem.Spec PyProof.Rows L2
section
variable {P : Program} {w : World} {K : PySem.W.Frag} {mg : Str → Option Value} {base : Heap}
def spUp : Sp := fun vs H Q _ => ∃ n s : Nat, vs = [.int n, .int s] ∧ 0 < s ∧ s < 1073741824 ∧ Q (.int ((cdw n s : Nat) : Int)) H
theorem ok_Up {k : Nat} (Z : Fns K mg) : FnOk P w K mg base CX0 (k + 1) Z.fUp Z.fdUp ["_law_words", "_law_many"] spUp := by
  refine Z.FUp.ok scUp (fun vs H Q E h => ?_) (fun cdv A outer s H vs Q E hr h => ?_)
  · obtain ⟨n, d, rfl, _⟩ := h
    rfl
  · obtain ⟨n, d, rfl, d0, d1, q⟩ := h
    refine ⟨_, (pss_one (ps_ret (pe_op op_fdiv (pe_op op_sub (pe_op op_add (pv 0) (pv 1)) pe_int) (pv 1)))), ?_⟩
    refine ⟨.int n, rfl, .int d, rfl, _, _, rfl, rfl, _, _, rfl, rfl, .int d, rfl, _, _, rfl, rfl, ⟨by omega, by omega⟩, ?_⟩
    rw [← up2_cdw d0] at q
    exact q
end
theorem cut_oneLb {s : Nat → Nat} {p : Nat} : cutV ((tl s (p + 1)).map V.int) (some 1) none = (tl (fun i => s (i + 1)) p).map V.int := by
  have e : (tl s (p + 1)).map V.int = V.int ((s 0 : Nat) : Int) :: (tl (fun i => s (i + 1)) p).map V.int := by
    unfold tl
    rw [List.range_succ_eq_map, List.map_cons, List.map_cons, List.map_map, List.map_map, List.map_map]
    rfl
  rw [e]
  unfold cutV HT.sIx
  simp [tl_len]
  exact List.take_of_length_le (by rw [List.length_map, tl_len]; exact Nat.le_refl _)
section
variable {P : Program} {w : World} {K : PySem.W.Frag} {mg : Str → Option Value} {base : Heap}
def spLb (K : PySem.W.Frag) : Sp := fun vs H Q _ => ∃ (c : Addr) (s : Nat → Nat) (p M : Nat), vs = [.ref c, .int M] ∧ SqT K H c ((tl s (p + 1)).map V.int) ∧ Szs s (p + 1) ∧ CH s (p + 1) ∧ ∀ H' D, Same H H' → H D = none → H' D = some (.lst ((tl (bb s M) (p + 1)).map V.int)) → Q (.ref D) H'
theorem ok_Lb {k : Nat} (Z : Fns K mg) : FnOk P w K mg base CX0 (k + 1 + 1) Z.fLb Z.fdLb ["_law_sizes", "_law_cap"] (spLb K) := by
  have GUp : FnOk P w K mg base CX0 (k + 1) Z.fUp Z.fdUp ["_law_words", "_law_many"] spUp := ok_Up Z
  refine Z.FLb.ok scLb (fun vs H Q E h => ?_) (fun cdv A outer s H vs Q E hr h => ?_)
  · obtain ⟨c, s, p, M, rfl, _⟩ := h
    rfl
  · obtain ⟨c, sz, p, M, rfl, hc, hs, ch, q⟩ := h
    refine ⟨_, (pss_cons (ps_set (i := 2) scLb.nd rfl (.inl rfl) (pe_lst (pa_cons (pv 1) pa_nil)))
 (pss_cons (ps_for PassesOwn.never rfl (pi_tup (pe_slice sl_tupK (pv 0) (po_some pe_int) po_none)) (pg_name (i := 3) scLb.nd rfl (.inl rfl))
 (pss_cons (ps_set (i := 4) scLb.nd rfl (.inl rfl) pe_int)
 (pss_cons (ps_for PassesOwn.never rfl (pi_enum (by rfl) Z.N.enumerate (pa_cons (pv 2) pa_nil)) (pg_tup (by rfl) (pgs_cons (pg_name (i := 5) scLb.nd rfl (.inl rfl)) (pgs_cons (pg_name (i := 6) scLb.nd rfl (.inl rfl)) pgs_nil)))
 (pss_cons (ps_set (i := 7) scLb.nd rfl (.inl rfl) (pe_ifExp (pt_cmpR op_gt (pv 5) pe_int (nomark _)) (pe_call GUp (hr.mono (by omega)) (by rfl) Z.gUp Z.FUp.kp Z.bUp .nil pass0 (pa_cons (pe_ix ix_list (pv 2) (pe_op op_sub (pv 5) pe_int) (fun _ _ => rfl)) (pa_cons (pv 3) pa_nil))) pe_int))
 (pss_one (ps_set (i := 4) scLb.nd rfl (.inl rfl) (pe_op op_add (pv 4) (pe_op op_mul (pe_ix ix_tup (pv 0) (pv 5) (fun _ _ => rfl)) (pe_op op_sub (pe_call GUp (hr.mono (by omega)) (by rfl) Z.gUp Z.FUp.kp Z.bUp .nil pass0 (pa_cons (pv 6) (pa_cons (pv 3) pa_nil))) (pv 7))))))))
 (pss_one (ps_expr (pe_bm PySem.F.plainAttrs_list PySem.F.slot_list_append PySem.F.type_list_append mt_append (pv 2) (pa_cons (pe_op op_mul (pv 3) (pe_op op_add (pe_call GUp (hr.mono (by omega)) (by rfl) Z.gUp Z.FUp.kp Z.bUp .nil pass0 (pa_cons (pe_ix ix_list (pv 2) (pe_un un_neg pe_int) (fun _ _ => rfl)) (pa_cons (pv 3) pa_nil))) (pe_op op_fdiv (pe_op op_sub (pv 1) (pv 4)) (pv 3)))) pa_nil)))))))
 (pss_one (ps_ret (pv 2))))), ?_⟩
    have B : BD sz (bb sz M) (p + 1) M := bd_bfn sz (p + 1) M
    refine ⟨.int M, rfl, (by show 1 ≤ sizeLine; decide), fun D nD => ?_⟩
    have sD := same_upd (o := .lst [.int M]) nD
    have hD0 : upd H D (.lst [.int M]) D = some (.lst [.int M]) := upd_same
    refine ⟨.ref c, rfl, 1, rfl, c, _, rfl, sD.tup hc, fun u H2 s2 hu => ?_⟩
    rw [cut_oneLb] at hu
    have s12 := sD.trans s2
    refine ⟨u, rfl, ⟨_, hu⟩, ?_⟩
    have hD2 := s2 _ _ hD0
    refine for_it (walk_tup (K := K) (a := u) (xs := (tl (fun i => sz (i + 1)) p).map V.int)) (fun i σ H3 => ∃ y3 y4 y5 y6 y7, σ = [some (.ref c), some (.int M), some (.ref D), y3, y4, y5, y6, y7] ∧ But D H2 H3 ∧ H3 D = some (.lst ((tl (bb sz M) (i + 1)).map V.int)))
      ⟨none, none, none, none, none, rfl, But.refl _ _, (by rw [hD2]; show some (HO.lst [V.int M]) = some (HO.lst [V.int ((bb sz M 0 : Nat) : Int)]); rw [B.b0])⟩ ?_ ?_ ?_
    · rintro i σ H3 _ ⟨_, _, _, _, _, _, kp, _⟩
      exact SqT.butL hu kp hD2
    · rintro i x σ H0 H3 hi ⟨y3, y4, y5, y6, y7, rfl, kp, hD⟩ ⟨rfl, hx⟩
      rw [List.length_map, tl_len] at hi
      rw [tl_getV hi] at hx
      cases hx
      have hc3 := SqT.butL (s12.tup hc) kp hD2
      obtain ⟨m0, m1⟩ := hs.2.2 (i + 1) (by omega)
      have pvm : ∀ j, j < i + 1 → pvn (bb sz M) (sz (i + 1)) j ≤ pvn (bb sz M) (sz (i + 1)) (j + 1) := fun j hj => by
        cases j with
        | zero => exact Nat.zero_le _
        | succ j => exact cdw_mono (B.up ch (by omega))
      refine ⟨.ref D, rfl, D, _, rfl, .inl (.inl hD), ?_⟩
      refine for_it (walk_enum (K := K) (a := D) (xs := (tl (bb sz M) (i + 1)).map V.int)) (fun j σ H5 => ∃ y5 y6 y7 l, σ = [some (.ref c), some (.int M), some (.ref D), some (.int ((sz (i + 1) : Nat) : Int)), some (.int l), y5, y6, y7] ∧ l = ((Lw sz (bb sz M) (sz (i + 1)) j : Nat) : Int) ∧ Same H3 H5)
        ⟨y5, y6, y7, _, rfl, rfl, Same.refl _⟩ ?_ ?_ ?_
      · rintro j σ H5 _ ⟨_, _, _, _, _, _, s5⟩
        exact .inl (.inl (s5 _ _ hD))
      · rintro j x σ H5 H6 hj ⟨y5, y6, y7, _, rfl, rfl, s5⟩ ⟨T, x1, x2, rfl, nT, rfl, e1, e2⟩
        rw [List.length_map, tl_len] at hj
        cases e1
        have e2' : ((tl (bb sz M) (i + 1)).map V.int)[j]? = some x2 := e2
        rw [tl_getV hj] at e2'
        cases e2'
        have sT := same_upd (o := .tup [.int (j : Int), .int ((bb sz M j : Nat) : Int)]) nT
        have s6 := s5.trans sT
        refine ⟨T, _, rfl, .inl (.inl upd_same), rfl, _, _, rfl, _, _, rfl, rfl, ?_⟩
        have cont : ∀ ah : Int, ah = ((pvn (bb sz M) (sz (i + 1)) j : Nat) : Int) → ((Lw sz (bb sz M) (sz (i + 1)) j : Nat) : Int) + ((sz j : Nat) : Int) * (((cdw (bb sz M j) (sz (i + 1)) : Nat) : Int) - ah) = ((Lw sz (bb sz M) (sz (i + 1)) (j + 1) : Nat) : Int) := fun ah e => by
          rw [e]
          show _ = ((Lw sz (bb sz M) (sz (i + 1)) j + sz j * (pvn (bb sz M) (sz (i + 1)) (j + 1) - pvn (bb sz M) (sz (i + 1)) j) : Nat) : Int)
          rw [Int.natCast_add, Int.natCast_mul, Int.natCast_sub (pvm j (by omega))]
          rfl
        obtain ⟨q0, q1⟩ := hs.2.2 j (by omega)
        refine ⟨.int j, rfl, _, _, rfl, rfl, _, rfl, ite2 (fun c0 => ?_) (fun c0 => ?_)⟩
        · have c1 : (0 : Int) < (j : Int) := of_decide_eq_true c0
          obtain ⟨j', rfl⟩ : ∃ j', j = j' + 1 := ⟨j - 1, by omega⟩
          refine ⟨.ref D, rfl, .int _, rfl, _, _, rfl, rfl, D, _, ((j' : Nat) : Int), _, rfl, ?_, .inl (.inl (s6 _ _ hD)), tl_atI (by omega), .int _, rfl, bb sz M j', sz (i + 1), rfl, m0, m1, ?_⟩
          · show V.int (((j' + 1 : Nat) : Int) - 1) = _
            congr 1
            omega
          refine ⟨.int _, rfl, .ref c, rfl, .int _, rfl, c, _, ((j' + 1 : Nat) : Int), _, rfl, rfl, s6.tup hc3, tl_atI (by omega), .int _, rfl, .int _, rfl, bb sz M (j' + 1), sz (i + 1), rfl, m0, m1, .int _, rfl, _, _, rfl, rfl, _, _, rfl, rfl, .inl ⟨by omega, by omega⟩, _, _, rfl, rfl, ?_⟩
          exact ⟨_, _, _, _, rfl, cont _ rfl, s6⟩
        · have c1 : ¬ (0 : Int) < (j : Int) := of_decide_eq_false (by simpa using c0)
          have z : j = 0 := by omega
          subst z
          refine ⟨.int _, rfl, .ref c, rfl, .int _, rfl, c, _, ((0 : Nat) : Int), _, rfl, rfl, s6.tup hc3, tl_atI (by omega), .int _, rfl, .int _, rfl, bb sz M 0, sz (i + 1), rfl, m0, m1, .int _, rfl, _, _, rfl, rfl, _, _, rfl, rfl, .inl ⟨by omega, by omega⟩, _, _, rfl, rfl, ?_⟩
          exact ⟨_, _, _, _, rfl, cont 0 rfl, s6⟩
      · rintro σ H5 ⟨y5, y6, y7, _, rfl, rfl, s5⟩
        rw [List.length_map, tl_len]
        have hD5 := s5 _ _ hD
        have kl := (B.key ch (i := i + 1) (by omega)).2.2
        refine ⟨.ref D, rfl, .inl ⟨rfl, _, .inl (.inl hD5)⟩, .int _, rfl, .ref D, rfl, 1, rfl, D, _, -1, _, rfl, rfl, .inl (.inl hD5), tl_atL, .int _, rfl, bb sz M i, sz (i + 1), rfl, m0, m1, .int M, rfl, .int _, rfl, _, _, rfl, rfl, .int _, rfl, _, _, rfl, rfl, ⟨by omega, by omega⟩, _, _, rfl, rfl, _, _, rfl, rfl, .inl ⟨by omega, by omega⟩, D, _, _, rfl, rfl, hD5, ?_, ?_⟩
        · rw [List.length_map, tl_len]
          exact Nat.lt_of_le_of_lt (show i + 1 ≤ 1000 by have := hs.2.1; omega) (by decide)
        · refine ⟨_, _, _, _, _, rfl, kp.trans ((Same.but s5).trans but_upd), ?_⟩
          rw [upd_same, tl_succ _ (i + 1), List.map_append]
          congr 3
          show [V.int (((sz (i + 1) : Nat) : Int) * (((cdw (bb sz M i) (sz (i + 1)) : Nat) : Int) + ((M : Int) - ((Lw sz (bb sz M) (sz (i + 1)) (i + 1) : Nat) : Int)) / ((sz (i + 1) : Nat) : Int)))] = [V.int ((bb sz M (i + 1) : Nat) : Int)]
          rw [B.bs i (by omega), Int.natCast_mul, Int.natCast_add, Int.natCast_ediv, Int.natCast_sub kl]
    · rintro σ H3 ⟨y3, y4, y5, y6, y7, rfl, kp, hD⟩
      rw [List.length_map, tl_len] at hD
      refine ⟨.ref D, rfl, q _ D (fun b o e => kp _ _ (ne_of_none e nD) (s12 _ _ e)) nD hD⟩
end
end Ph

set_option maxHeartbeats 8000000
namespace Ph
open PySem PySem.Spec PyProof.Rows L2
theorem seqS {t u : TS} {D : Ends} {σ : L2.St} {H : Hp} (R : L2.St → Hp → Prop) (h1 : ∀ D' : Ends, (∀ σ' H', R σ' H' → D'.nx σ' H') → t D' σ H) (h2 : ∀ σ' H', R σ' H' → u D σ' H') : tSeq t u D σ H := h1 _ h2
theorem rqs_one (s : Nat → Nat) (p : Nat) : rqs s (p + 1) = rqs s p ++ [(((rqn s (p + 1) : Nat) : Int), ((s (p + 1) : Nat) : Int))] := by
  unfold rqs
  rw [List.range_succ, List.map_append]
  rfl
section
variable {P : Program} {w : World} {K : PySem.W.Frag} {mg : Str → Option Value} {base : Heap}
def spMo (K : PySem.W.Frag) : Sp := fun vs H Q _ => ∃ (c : Addr) (s : Nat → Nat) (p W : Nat), vs = [.ref c, .int W] ∧ SqT K H c ((tl s (p + 1)).map V.int) ∧ s 0 = 1 ∧ p < 1000 ∧ W ≤ 100000 ∧ ∀ H' f ch, Same H H' → Best s p f ch W → Q (.int ((f W : Nat) : Int)) H'
theorem ok_Mo {k : Nat} (Z : Fns K mg) : FnOk P w K mg base CX0 (k + 1) Z.fMo Z.fdMo ["_law_sizes", "_law_words"] (spMo K) := by
  refine Z.FMo.ok scMo (fun vs H Q E h => ?_) (fun cdv A outer s H vs Q E hr h => ?_)
  · obtain ⟨c, s, p, W, rfl, _⟩ := h
    rfl
  · obtain ⟨c, sz, p, W, rfl, hc, z0, hp, hW, q⟩ := h
    refine ⟨_, (pss_cons (ps_asg (pe_tup (pa_cons (pe_lst (pa_cons pe_int pa_nil)) (pa_cons (pe_lst (pa_cons (pe_tup (pa_cons pe_int (pa_cons pe_int pa_nil))) pa_nil)) pa_nil))) (pg_tup (by rfl) (pgs_cons (pg_name (i := 2) scMo.nd rfl (.inr rfl)) (pgs_cons (pg_name (i := 3) scMo.nd rfl (.inl rfl)) pgs_nil))))
 (pss_cons (ps_for PassesOwn.never rfl (pi_zipK (k1 := true) (k2 := true) (by rfl) Z.N.zip (pa_cons (pv 0) (pa_cons (pe_slice sl_tupK (pv 0) (po_some pe_int) po_none) pa_nil))) (pg_tup (by rfl) (pgs_cons (pg_name (i := 4) scMo.nd rfl (.inl rfl)) (pgs_cons (pg_name (i := 5) scMo.nd rfl (.inl rfl)) pgs_nil)))
 (pss_one (ps_expr (pe_bm PySem.F.plainAttrs_list PySem.F.slot_list_append PySem.F.type_list_append mt_append (pv 3) (pa_cons (pe_tup (pa_cons (pe_op op_add (pv 4) pe_int) (pa_cons (pv 5) pa_nil))) pa_nil)))))
 (pss_cons (ps_for PassesOwn.never rfl (pi_range2 (by rfl) Z.N.range (pa_cons pe_int (pa_cons (pe_op op_add (pv 1) pe_int) pa_nil))) (pg_name (i := 6) scMo.nd rfl (.inr rfl))
 (pss_cons (ps_set (i := 7) scMo.nd rfl (.inl rfl) (pe_op op_cat (pe_lst (pa_cons (pe_ix ix_list (pv 2) (pe_un un_neg pe_int) (fun _ _ => rfl)) pa_nil)) (pe_lc (own := [("_law_least", 8), ("_law_many", 5)]) (g := (gTup K 2 (gCons (gName 8) (gCons (gName 5) gNil)))) (by rfl) scMo.nd (pi_list (pv 3)) (blkOk_by (N := scMoN) (sc := defScope scMoS) (by decide +kernel)) (fun _ _ _ _ _ => (pg_tup (by rfl) (pgs_cons (pg_name (i := 8) scMo.nd rfl (.inl rfl)) (pgs_cons (pg_name (i := 5) scMo.nd rfl (.inl rfl)) pgs_nil)))) (fun _ _ _ _ _ => (pts_one (pt_cmpR op_le (pv 8) (pv 6) (nomark _)))) (fun _ _ _ _ _ => (pe_op op_add (pe_ix (r := rIxL K) ix_list (pv 2) (pe_op op_sub (pv 6) (pv 8)) (fun _ _ => rfl)) (pv 5))))))
 (pss_one (ps_expr (pe_bm PySem.F.plainAttrs_list PySem.F.slot_list_append PySem.F.type_list_append mt_append (pv 2) (pa_cons (pe_callB (cr_max rfl) (by rfl) Z.N.max (by decide +kernel) (pa_cons (pv 7) pa_nil)) pa_nil))))))
 (pss_one (ps_ret (pe_ix ix_list (pv 2) (pv 1) (fun _ _ => rfl))))))), ?_⟩
    refine ⟨(by show 1 ≤ sizeLine; decide), fun F nF => ⟨(by show 2 ≤ sizeLine; decide), fun u0 nu0 => ⟨(by show 1 ≤ sizeLine; decide), fun S nS => ⟨(by show 2 ≤ sizeLine; decide), fun T nT => ?_⟩⟩⟩⟩
    have sF := same_upd (o := .lst [.int 0]) nF
    have hF1 : upd H F (.lst [.int 0]) F = some (.lst [.int 0]) := upd_same
    generalize upd H F (.lst [.int 0]) = H1 at *
    have su := same_upd (o := .tup [.int 1, .int 1]) nu0
    have hu1 : upd H1 u0 (.tup [.int 1, .int 1]) u0 = some (.tup [.int 1, .int 1]) := upd_same
    generalize upd H1 u0 (.tup [.int 1, .int 1]) = H2 at *
    have sS := same_upd (o := .lst [.ref u0]) nS
    have hS1 : upd H2 S (.lst [.ref u0]) S = some (.lst [.ref u0]) := upd_same
    have nFS : F ≠ S := ne_of_none (su _ _ hF1) nS
    generalize upd H2 S (.lst [.ref u0]) = H3 at *
    have sT := same_upd (o := .tup [.ref F, .ref S]) nT
    refine ⟨T, _, rfl, .inl (.inl upd_same), rfl, _, _, rfl, _, _, rfl, rfl, ?_⟩
    have hF4 := sT _ _ (sS _ _ (su _ _ hF1))
    have hS4 := sT _ _ hS1
    have hu4 := sT _ _ (sS _ _ hu1)
    have s14 := sF.trans (su.trans (sS.trans sT))
    have nSH : H S = none := none_of_same (sF.trans su) nS
    generalize upd H3 T (.tup [.ref F, .ref S]) = H4 at *
    dsimp only [gName]
    refine seqS (fun σ' H' => ∃ y4 y5 xs, σ' = [some (.ref c), some (.int W), some (.ref F), some (.ref S), y4, y5, none, none, none] ∧ (∀ b o, b ≠ S → H4 b = some o → H' b = some o) ∧ H' S = some (.lst xs) ∧ BL H' xs (rqs sz p)) (fun D' hD' => ?_) ?_
    · refine ⟨.ref c, rfl, .ref c, rfl, 1, rfl, c, _, rfl, s14.tup hc, fun u H5 s5 hu => ?_⟩
      rw [show cutV ((tl sz (p + 1)).map V.int) (some 1) none = (tl (fun i => sz (i + 1)) p).map V.int from cut_oneL] at hu
      have hc5 := s5.tup (s14.tup hc)
      have hS5 := s5 _ _ hS4
      refine ⟨c, u, _, _, rfl, hc5, hu, ?_⟩
      refine for_it (walk_zipK (k1 := true) (k2 := true) (K := K) (a := c) (b := u) (xs := (tl sz (p + 1)).map V.int) (ys := (tl (fun i => sz (i + 1)) p).map V.int) (n := p) (by rw [List.length_map, List.length_map, tl_len, tl_len]; omega)) (fun i σ H' => ∃ y4 y5 xs, σ = [some (.ref c), some (.int W), some (.ref F), some (.ref S), y4, y5, none, none, none] ∧ But S H5 H' ∧ H' S = some (.lst xs) ∧ BL H' xs (rqs sz i))
        ⟨_, _, _, rfl, But.refl _ _, hS5, .cons ⟨u0, rfl, by show H5 u0 = some (.tup [.int ((1 : Nat) : Int), .int ((sz 0 : Nat) : Int)]); rw [z0]; exact s5 _ _ hu4⟩ .nil⟩ (fun i σ H' _ q => ?_) ?_ ?_
      · obtain ⟨_, _, _, _, kp, _⟩ := q
        exact ⟨SqT.butL hc5 kp hS5, SqT.butL hu kp hS5⟩
      · rintro i x σ H6a H6 hi ⟨y4, y5, xs, rfl, kp, hS6, bl⟩ ⟨T1, x1, x2, rfl, nT1, rfl, e1, e2⟩
        have e1' : ((tl sz (p + 1)).map V.int)[i]? = some x1 := e1
        rw [tl_getV (by omega)] at e1'
        have e2' : ((tl (fun i => sz (i + 1)) p).map V.int)[i]? = some x2 := e2
        rw [tl_getV hi] at e2'
        cases e1'
        cases e2'
        have s7 := same_upd (o := .tup [.int ((sz i : Nat) : Int), .int ((sz (i + 1) : Nat) : Int)]) nT1
        refine ⟨T1, _, rfl, .inl (.inl upd_same), rfl, _, _, rfl, _, _, rfl, rfl, ?_⟩
        have hS7 := s7 _ _ hS6
        have bl7 := bl.keep fun v us e => s7 _ _ e
        have kp7 : But S H5 _ := fun b o nb e => s7 _ _ (kp b o nb e)
        generalize upd H6a T1 _ = H7 at *
        dsimp only [gName]
        refine ⟨.ref S, rfl, .inl ⟨rfl, _, .inl (.inl hS7)⟩, .int _, rfl, _, _, rfl, rfl, .int _, rfl, (by show 2 ≤ sizeLine; decide), fun T2 nT2 => ?_⟩
        have s8 := same_upd (o := .tup [.int (((sz i : Nat) : Int) + 1), .int ((sz (i + 1) : Nat) : Int)]) nT2
        have hT2 : upd H7 T2 (.tup [.int (((sz i : Nat) : Int) + 1), .int ((sz (i + 1) : Nat) : Int)]) T2 = _ := upd_same
        have hS8 := s8 _ _ hS7
        have bl8 := bl7.keep fun v us e => s8 _ _ e
        have kp8 : But S H5 _ := fun b o nb e => s8 _ _ (kp7 b o nb e)
        generalize upd H7 T2 _ = H8 at *
        have ln := bl8.len
        unfold rqs at ln
        rw [List.length_map, List.length_range] at ln
        refine ⟨S, _, _, rfl, rfl, hS8, Nat.lt_of_le_of_lt (show xs.length ≤ 1000 by omega) (by decide), _, _, xs ++ [.ref T2], rfl, kp8.trans (fun b o nb e => by rw [upd_ne nb]; exact e), upd_same, ?_⟩
        rw [rqs_one]
        have nST2 : T2 ≠ S := (ne_of_none hS7 nT2).symm
        refine BL.app (bl8.keep fun v us e => ?_) (.cons ⟨T2, rfl, ?_⟩ .nil)
        · rw [upd_ne (ne_of e hS8 (by intro z; cases z))]
          exact e
        · rw [upd_ne nST2, hT2]
          rfl
      · rintro σ H6 ⟨y4, y5, xs, rfl, kp, hS6, bl⟩
        exact hD' _ _ ⟨_, _, xs, rfl, fun b o nb e => kp b o nb (s5 _ _ e), hS6, bl⟩
    rintro σ5 H5 ⟨y4, y5, xs, rfl, kp5, hS5, bl5⟩
    have xl : xs.length = p + 1 := by
      have := bl5.len
      unfold rqs at this
      rw [List.length_map, List.length_range] at this
      exact this
    refine ⟨.int W, rfl, _, _, rfl, rfl, _, _, rfl, ⟨by omega, by omega, by omega, by omega⟩, ?_⟩
    refine for_range (lo := 1) (n := ((W : Int) + 1 - 1).toNat) (fun i σ H6 => ∃ y4 y5 y6 y7 y8 f ch, σ = [some (.ref c), some (.int W), some (.ref F), some (.ref S), y4, y5, y6, y7, y8] ∧ But F H5 H6 ∧ H6 F = some (.lst (((List.range (i + 1)).map fun t => ((f t : Nat) : Int)).map V.int)) ∧ Best sz p f ch i)
      ⟨_, _, _, _, _, fun _ => 0, fun _ => 0, rfl, But.refl _ _, (show H5 F = some (.lst (((List.range (0 + 1)).map fun t => (((fun _ => 0 : Nat → Nat) t : Nat) : Int)).map V.int)) from kp5 _ _ nFS hF4), rfl, fun t h1 h2 => absurd h1 (by omega), fun t j h1 h2 => absurd h1 (by omega)⟩ ?_ ?_
    · rintro i σ H6 hi ⟨y4, y5, y6, y7, y8, f, ch, rfl, kp, hF, bs⟩
      have hS6 := kp _ _ nFS.symm hS5
      have bl6 := bl5.keep fun v us e => kp _ _ (fun z => by rw [z] at e; rw [kp5 _ _ nFS hF4] at e; cases e) e
      dsimp only [gName]
      have gl : atI (((List.range (i + 1)).map fun t => ((f t : Nat) : Int)).map V.int) (-1) = some (.int ((f i : Nat) : Int)) := by
        rw [List.range_succ, List.map_append, List.map_append]
        exact atI_last _ _
      refine ⟨.ref F, rfl, 1, rfl, F, _, -1, _, rfl, rfl, .inl (.inl hF), gl, (by show 1 ≤ sizeLine; decide), fun A nA => ?_⟩
      have sA := same_upd (o := .lst [.int ((f i : Nat) : Int)]) nA
      have hA : upd H6 A (.lst [.int ((f i : Nat) : Int)]) A = some (.lst [.int ((f i : Nat) : Int)]) := upd_same
      have hF7 := sA _ _ hF
      have hS7 := sA _ _ hS6
      have bl7 := bl6.keep fun v us e => sA _ _ e
      generalize upd H6 A (.lst [.int ((f i : Nat) : Int)]) = H7 at *
      refine ⟨.ref S, rfl, S, rfl, ⟨_, .inl (.inl hS7)⟩, fun E2 nE => ?_⟩
      have lF : ((((List.range (i + 1)).map fun t => ((f t : Nat) : Int)).map V.int)).length = i + 1 := by rw [List.length_map, List.length_map, List.length_range]
      refine lc_RF (walk_list (K := K) (a := S) (xs := xs)) (fun _ _ _ _ y => YAt.same y) (fun j => decide (rqn sz j ≤ i + 1)) (fun H4 j y => y = V.int ((f (i + 1 - rqn sz j) + sz j : Nat) : Int)) (fun _ _ _ _ _ h => h) nE (by rw [xl]; exact Nat.lt_of_le_of_lt (show p + 1 ≤ 1000 by omega) (by decide)) (fun H4 s4 => .inl (.inl (s4 _ _ hS7))) (fun j x H8 H9 hj s8 y Z N hZ hN => ?_) (fun H8 zs s8 hE pr => ?_)
      · obtain ⟨rfl, hx⟩ := y
        obtain ⟨b, hb, U, rfl, hU⟩ := Paired.get (bl7 : Paired (BkAt H7) xs (rqs sz p)) hx
        rw [rqs_get (by omega)] at hb
        cases hb
        refine ⟨U, _, rfl, .inl (.inl (s8 _ _ hU)), rfl, _, _, rfl, _, _, rfl, rfl, rfl, ?_⟩
        refine ⟨.int _, rfl, .int _, rfl, _, _, rfl, rfl, _, rfl, ite2 (fun c0 => ?_) (fun c0 => ?_)⟩
        · have c1 : ((rqn sz j : Nat) : Int) ≤ 1 + (i : Int) := of_decide_eq_true c0
          have c2 : rqn sz j ≤ i + 1 := by omega
          have r1 := rqn_pos sz j
          refine ⟨.ref F, rfl, .int _, rfl, .int _, rfl, _, _, rfl, rfl, F, _, ((i + 1 - rqn sz j : Nat) : Int), .int ((f (i + 1 - rqn sz j) : Nat) : Int), rfl, ?_, .inl (.inl (s8 _ _ hF7)), atI_nat ?_, .int _, rfl, _, _, rfl, rfl, ?_⟩
          · show V.int (1 + (i : Int) - ((rqn sz j : Nat) : Int)) = _
            congr 1
            omega
          · rw [List.getElem?_map, List.getElem?_map, List.getElem?_range (by omega)]
            rfl
          · exact hZ _ _ (Same.refl _) (decide_eq_true c2) rfl
        · have c1 : ¬ ((rqn sz j : Nat) : Int) ≤ 1 + (i : Int) := of_decide_eq_false (by simpa using c0)
          exact hN _ (Same.refl _) (decide_eq_false (by omega))
      · rw [xl] at pr
        have ez : zs = (((List.range (p + 1)).filter fun j => decide (rqn sz j ≤ i + 1)).map fun j => ((f (i + 1 - rqn sz j) + sz j : Nat) : Int)).map V.int := by
          rw [List.map_map]
          exact paired_eq (f := fun j => V.int ((f (i + 1 - rqn sz j) + sz j : Nat) : Int)) pr
        subst ez
        have hA8 := s8 _ _ hA
        refine ⟨A, E2, _, _, rfl, rfl, hA8, hE, ?_, fun C nC => ?_⟩
        · have := List.length_filter_le (fun j => decide (rqn sz j ≤ i + 1)) (List.range (p + 1))
          rw [List.length_range] at this
          rw [List.length_map, List.length_map]
          exact Nat.le_trans (show _ ≤ 2000 by show 1 + _ ≤ 2000; omega) (by decide)
        have sC := same_upd (o := .lst ([V.int ((f i : Nat) : Int)] ++ (((List.range (p + 1)).filter fun j => decide (rqn sz j ≤ i + 1)).map fun j => ((f (i + 1 - rqn sz j) + sz j : Nat) : Int)).map V.int)) nC
        have hC : upd H8 C (.lst ([V.int ((f i : Nat) : Int)] ++ (((List.range (p + 1)).filter fun j => decide (rqn sz j ≤ i + 1)).map fun j => ((f (i + 1 - rqn sz j) + sz j : Nat) : Int)).map V.int)) C = some (.lst ((((f i : Nat) : Int) :: (((List.range (p + 1)).filter fun j => decide (rqn sz j ≤ i + 1)).map fun j => ((f (i + 1 - rqn sz j) + sz j : Nat) : Int))).map V.int)) := upd_same
        have hF9 := sC _ _ (s8 _ _ hF7)
        have s79 : Same H6 _ := sA.trans (s8.trans sC)
        generalize upd H8 C _ = H9 at *
        dsimp only [gName]
        refine ⟨.ref F, rfl, .inl ⟨rfl, _, .inl (.inl hF9)⟩, .ref C, rfl, C, _, rfl, .inl (.inl hC), Nat.succ_pos _, fun z hz hmax => ?_⟩
        have r0 : rqn sz 0 ≤ i + 1 := by show 1 ≤ i + 1; omega
        have mem : ∀ j, j ≤ p → rqn sz j ≤ i + 1 → ((f (i + 1 - rqn sz j) + sz j : Nat) : Int) ≤ z := fun j h1 h2 => hmax _ (List.mem_cons_of_mem _ (List.mem_map.mpr ⟨j, List.mem_filter.mpr ⟨List.mem_range.mpr (by omega), decide_eq_true h2⟩, rfl⟩))
        obtain ⟨j, j1, j2, ej⟩ : ∃ j, j ≤ p ∧ rqn sz j ≤ i + 1 ∧ z = ((f (i + 1 - rqn sz j) + sz j : Nat) : Int) := by
          rcases List.mem_cons.mp hz with h | h
          · have := mem 0 (Nat.zero_le _) r0
            have e0 : i + 1 - rqn sz 0 = i := by show i + 1 - 1 = i; omega
            rw [e0, h, z0] at this
            omega
          · obtain ⟨j, h1, h2⟩ := List.mem_map.mp h
            obtain ⟨h3, h4⟩ := List.mem_filter.mp h1
            exact ⟨j, by have := List.mem_range.mp h3; omega, of_decide_eq_true h4, h2.symm⟩
        subst ej
        have r1 := rqn_pos sz j
        refine ⟨F, _, _, rfl, rfl, hF9, ?_, _, _, _, _, _, fun t => if t = i + 1 then f (i + 1 - rqn sz j) + sz j else f t, fun t => if t = i + 1 then rqn sz j else ch t, rfl, fun b o nb e => ?_, ?_, ?_⟩
        · rw [lF]
          exact Nat.lt_of_le_of_lt (show i + 1 ≤ 200000 by omega) (by decide)
        · rw [upd_ne nb]
          exact s79 _ _ (kp b o nb e)
        · rw [upd_same, List.range_succ (n := i + 1), List.map_append, List.map_append]
          congr 2
          congr 1
          · congr 1
            refine List.map_congr_left fun t ht => ?_
            show ((f t : Nat) : Int) = ((if t = i + 1 then f (i + 1 - rqn sz j) + sz j else f t : Nat) : Int)
            rw [if_neg (by have := List.mem_range.mp ht; omega)]
          · show [V.int _] = [V.int ((if i + 1 = i + 1 then f (i + 1 - rqn sz j) + sz j else f (i + 1) : Nat) : Int)]
            rw [if_pos rfl]
        · refine ⟨by show (if 0 = i + 1 then _ else f 0) = 0; rw [if_neg (by omega)]; exact bs.f0, fun t h1 h2 => ?_, fun t j' h1 h2 h3 h4 => ?_⟩
          · rcases Nat.lt_or_ge t (i + 1) with z1 | z1
            · obtain ⟨j', e1, e2, e3, e4⟩ := bs.at_ t h1 (by omega)
              have n1 : ¬ t = i + 1 := by omega
              have n2 : ¬ t - ch t = i + 1 := by omega
              refine ⟨j', e1, ?_, ?_, ?_⟩
              · show (if t = i + 1 then _ else ch t) = _
                rw [if_neg n1]; exact e2
              · show (if t = i + 1 then _ else ch t) ≤ _
                rw [if_neg n1]; exact e3
              · show (if t = i + 1 then _ else f t) = (if t - (if t = i + 1 then _ else ch t) = i + 1 then _ else f (t - (if t = i + 1 then _ else ch t))) + _
                rw [if_neg n1, if_neg n1, if_neg n2]; exact e4
            · have e : t = i + 1 := by omega
              subst e
              refine ⟨j, j1, if_pos rfl, ?_, ?_⟩
              · show (if i + 1 = i + 1 then _ else ch (i + 1)) ≤ _
                rw [if_pos rfl]; exact j2
              · show (if i + 1 = i + 1 then _ else f (i + 1)) = (if i + 1 - (if i + 1 = i + 1 then _ else ch (i + 1)) = i + 1 then _ else f (i + 1 - (if i + 1 = i + 1 then _ else ch (i + 1)))) + _
                rw [if_pos rfl, if_pos rfl, if_neg (by omega)]
          · have r2 := rqn_pos sz j'
            show (if t - rqn sz j' = i + 1 then _ else f (t - rqn sz j')) + sz j' ≤ (if t = i + 1 then _ else f t)
            rw [if_neg (by omega)]
            rcases Nat.lt_or_ge t (i + 1) with z1 | z1
            · rw [if_neg (by omega)]
              exact bs.le t j' h1 (by omega) h3 h4
            · have e : t = i + 1 := by omega
              subst e
              rw [if_pos rfl]
              have := mem j' h3 h4
              omega
    · rintro σ H6 ⟨y4, y5, y6, y7, y8, f, ch, rfl, kp, hF, bs⟩
      have e : ((W : Int) + 1 - 1).toNat = W := by omega
      rw [e] at hF bs
      have nF5 : Same H H6 := fun b o e => kp _ _ (ne_of_none e nF) (kp5 _ _ (ne_of_none e nSH) (s14 _ _ e))
      refine ⟨.ref F, rfl, .int W, rfl, F, _, W, _, rfl, rfl, .inl (.inl hF), atI_nat (v := .int ((f W : Nat) : Int)) ?_, q _ f ch nF5 bs⟩
      rw [List.getElem?_map, List.getElem?_map, List.getElem?_range (by omega)]
      rfl
end
end Ph

namespace Ph
open PySem PySem.Spec PyProof.Rows L2
section
variable {X : Cx}
/-! ### t + u of two that are not empty: a new one whose object is known -/
def rCatF (K : PySem.W.Frag) : R2 := fun x y H Q => ∃ a b xs ys, x = .ref a ∧ y = .ref b ∧ SqT K H a xs ∧ SqT K H b ys ∧ xs ≠ [] ∧ ys ≠ [] ∧ xs.length + ys.length ≤ sizeLine ∧
  ∀ p (o : Obj), H p = none → o.dict = none → Q (.ref p) (upd H p (.frz o (.tup (xs ++ ys))))
theorem op_catF : OpR X (binaryOp .Add) (rCatF X.K) := by
  intro pins s σ H x y v u Q I rx ry h
  obtain ⟨a, b, xs, ys, rfl, rfl, ha, hb, hx, hy, hz, q⟩ := h
  cases rx
  cases ry
  obtain ⟨its, r1, p1, _⟩ := I.tuple ha
  obtain ⟨its2, r2, p2, _⟩ := I.tuple hb
  refine HT.cat_tup p1 p2 (fun z => hx (r1.nil_iff.mp z)) (fun z => absurd (r2.nil_iff.mp z) hy) (fun z => ?_) (by rw [← r1.length, ← r2.length]; exact hz)
  exact ⟨.ref s.heap.objs.size, _, I.laid (t' := s.toks) (o := .frz _ (.tup (xs ++ ys))) (fun b ob q => Heap.get?_push_of_some _ q) (Nat.le_refl _) ⟨Heap.get?_push_size _ rfl, by rw [List.length_append]; exact hz, _, r1.append r2, IsTup.new _ _⟩, rfl, q _ _ (I.hok.fresh (Nat.le_refl _)) rfl⟩
end
/-! ### the fourth pot: digits, a seed, a count that is bounded -/
def So (N : Nat) (H : Hp) (p : Addr) : Prop := ∃ g r n : Int, H p = some (.lst [.int g, .int r, .int n]) ∧ PoV g r n ∧ n ≤ N
theorem So.po {N : Nat} {H : Hp} {p : Addr} (s : So N H p) : Po H p := let ⟨g, r, n, e, v, _⟩ := s; ⟨g, r, n, e, v⟩
theorem So.same {N : Nat} {H H' : Hp} {p : Addr} (P : So N H p) (s : Same H H') : So N H' p := by
  obtain ⟨g, r, n, h, v⟩ := P
  exact ⟨g, r, n, s _ _ h, v⟩
theorem So.keep {N : Nat} {H : Hp} {p o : Addr} {u : HO} (P : So N H p) (n : p ≠ o) : So N (upd H o u) p := by
  obtain ⟨g, r, k, e0, v⟩ := P
  exact ⟨g, r, k, by rw [upd_ne n]; exact e0, v⟩
theorem So.but {N : Nat} {H H' : Hp} {p q : Addr} (P : So N H p) (b : But q H H') (n : p ≠ q) : So N H' p := by
  obtain ⟨g, r, k, e0, v⟩ := P
  exact ⟨g, r, k, b _ _ n e0, v⟩
theorem So.up {N M : Nat} {H : Hp} {p : Addr} (P : So N H p) (h : N ≤ M) : So M H p := by
  obtain ⟨g, r, k, e0, v, l⟩ := P
  exact ⟨g, r, k, e0, v, by omega⟩
theorem gm_mod {T x : Int} (h : 0 < T) (hT : T.natAbs < 2 ^ 3000) : 0 ≤ x % T ∧ (x % T).natAbs < 2 ^ 3000 := by
  have h0 : 0 ≤ x % T := Int.emod_nonneg _ (by omega)
  exact ⟨h0, wide_le h0 (Int.le_of_lt (Int.emod_lt_of_pos _ h)) hT⟩
theorem gm_mul {T x : Int} (h : 0 < T) (hT : T.natAbs < 2 ^ 3000) (b : Bool) : CMulW (x % T) (if b = true then 1 else 0) :=
  wide_mul (b := 2) (gm_mod h hT).2 (by cases b <;> decide) (by decide) (by decide) (by decide)
theorem gm_pot {T x : Int} (h : 0 < T) (hT : T.natAbs < 2 ^ 3000) (b : Bool) : 0 ≤ x % T * (if b = true then 1 else 0) ∧ (x % T * (if b = true then 1 else 0)).natAbs < 2 ^ 3000 := by
  cases b
  · rw [if_neg (by decide), Int.mul_zero]
    exact ⟨Int.le_refl _, Nat.pow_pos (by decide)⟩
  · rw [if_pos rfl, Int.mul_one]
    exact gm_mod h hT
def ten300 : Int := (10 ^ (60 : Int).toNat) ^ (5 : Int).toNat
theorem ten300_pos : 0 < ten300 := by unfold ten300; decide +kernel
theorem ten300_lt : ten300.natAbs < 2 ^ 3000 := by unfold ten300; decide +kernel
theorem pow_ok60 : CPowW (10 ^ (60 : Int).toNat) 5 := ⟨by decide, by decide +kernel⟩
end Ph

set_option maxHeartbeats 8000000
namespace Ph
open PySem PySem.Spec PyProof.Rows L2
def adjC : List Nat → Prop
  | [] => True
  | [_] => True
  | x :: y :: r => (x < y ∧ y % x = 0) ∧ adjC (y :: r)
theorem adjC_snoc {b h : Nat} : ∀ {S : List Nat}, adjC (S ++ [b, h]) ↔ adjC (S ++ [b]) ∧ b < h ∧ h % b = 0
  | [] => by simp [adjC]
  | [x] => by
    simp only [List.cons_append, List.nil_append, adjC, and_true]
    try (constructor <;> intro z <;> simp_all)
  | x :: y :: S => by
    have ih := adjC_snoc (b := b) (h := h) (S := y :: S)
    simp only [List.cons_append, adjC] at ih ⊢
    rw [ih, and_assoc, and_assoc, and_assoc]
theorem adjC_lt : ∀ {x : Nat} {S : List Nat}, adjC (x :: S) → ∀ y ∈ S, x < y
  | x, [], _ => fun y h => nomatch h
  | x, z :: S, h => fun y hy => by
    rcases List.mem_cons.mp hy with r | r
    · rw [r]; exact h.1.1
    · exact Nat.lt_trans h.1.1 (adjC_lt h.2 y r)
theorem adjC_below {h : Nat} : ∀ {S : List Nat}, adjC (S ++ [h]) → ∀ y ∈ S, y < h
  | [], _ => fun y h => nomatch h
  | x :: S, hs => fun y hy => by
    rcases List.mem_cons.mp hy with r | r
    · rw [r]; exact adjC_lt hs h (List.mem_append_right _ (List.mem_singleton.mpr rfl))
    · refine adjC_below (S := S) ?_ y r
      cases S with
      | nil => exact True.intro
      | cons z S => exact hs.2
theorem mem_cfr {page : Nat} (p1 : 1 ≤ page) : ∀ (d : Nat) (D : List Nat) (a : Nat) (C : List Nat), a ∈ dvs page → (C ∈ cfr page d D a ↔ ∃ E, C = D ++ a :: E ∧ adjC (a :: E) ∧ (a :: E).getLast? = some page ∧ E.length ≤ d ∧ ∀ x ∈ E, x ∈ dvs page)
  | d, D, a, C, ha => by
    by_cases e : a = page
    · have ec : cfr page d D a = [D ++ [a]] := by cases d <;> simp [cfr, e]
      rw [ec, List.mem_singleton]
      constructor
      · rintro rfl
        exact ⟨[], rfl, True.intro, by rw [e]; rfl, Nat.zero_le _, fun x h => nomatch h⟩
      · rintro ⟨E, rfl, hs, hl, _, hx⟩
        cases E with
        | nil => rfl
        | cons b E =>
          have := adjC_lt hs b List.mem_cons_self
          have := (mem_dvs.mp (hx b List.mem_cons_self)).2.1
          omega
    · cases d with
      | zero =>
        have ec : cfr page 0 D a = [] := by simp [cfr, e]
        rw [ec]
        refine ⟨(fun h => nomatch h), ?_⟩
        rintro ⟨E, rfl, hs, hl, hd, hx⟩
        cases E with
        | nil => exact absurd (by simpa using hl) e
        | cons b E => simp at hd
      | succ d =>
        have ec : cfr page (d + 1) D a = (fol page a).flatMap fun b => cfr page d (D ++ [a]) b := by simp [cfr, e]
        rw [ec, List.mem_flatMap]
        constructor
        · rintro ⟨b, hb, hC⟩
          obtain ⟨b1, b2, b3, b4, b5⟩ := mem_fol.mp hb
          obtain ⟨E, e1, e2, e3, e4, e5⟩ := (mem_cfr p1 d (D ++ [a]) b C (mem_dvs.mpr ⟨b1, b2, b3⟩)).mp hC
          refine ⟨b :: E, by rw [e1]; simp, ⟨⟨b4, b5⟩, e2⟩, by simpa using e3, by simp; omega, fun x hx => ?_⟩
          rcases List.mem_cons.mp hx with r | r
          · rw [r]; exact mem_dvs.mpr ⟨b1, b2, b3⟩
          · exact e5 x r
        · rintro ⟨E, rfl, hs, hl, hd, hx⟩
          cases E with
          | nil => exact absurd (by simpa using hl) e
          | cons b E =>
            obtain ⟨b1, b2, b3⟩ := mem_dvs.mp (hx b List.mem_cons_self)
            refine ⟨b, mem_fol.mpr ⟨b1, b2, b3, hs.1.1, hs.1.2⟩, (mem_cfr p1 d (D ++ [a]) b _ (hx b List.mem_cons_self)).mpr ⟨E, by simp, hs.2, by simpa using hl, by simp at hd; omega, fun x h => hx x (List.mem_cons_of_mem _ h)⟩⟩
def pdv (page : Nat) : List Nat := ((List.range (page - 1)).map fun j => 1 + j).filter fun b => decide (page % b = 0)
def dfl (page h : Nat) : List Nat := (pdv page).filter fun b => decide (b < h) && decide (h % b = 0)
theorem mem_pdv {page b : Nat} : b ∈ pdv page ↔ 1 ≤ b ∧ b < page ∧ page % b = 0 := by
  unfold pdv
  rw [List.mem_filter, List.mem_map]
  constructor
  · rintro ⟨⟨j, hj, rfl⟩, h⟩
    exact ⟨by omega, by have := List.mem_range.mp hj; omega, of_decide_eq_true h⟩
  · rintro ⟨h1, h2, h3⟩
    exact ⟨⟨b - 1, List.mem_range.mpr (by omega), by omega⟩, decide_eq_true h3⟩
theorem mem_dfl {page h b : Nat} : b ∈ dfl page h ↔ (1 ≤ b ∧ b < page ∧ page % b = 0) ∧ b < h ∧ h % b = 0 := by
  unfold dfl
  rw [List.mem_filter, mem_pdv, Bool.and_eq_true, decide_eq_true_eq, decide_eq_true_eq]
theorem lt_pw (n : Nat) (p : Nat → Bool) : (((List.range n).map fun j => 1 + j).filter p).Pairwise (· < ·) :=
  (List.pairwise_map.mpr (List.pairwise_lt_range.imp fun h => by omega)).filter _
theorem sum_permN {a b : List Nat} (p : a.Perm b) : a.sum = b.sum := by
  induction p with
  | nil => rfl
  | cons x _ ih => rw [List.sum_cons, List.sum_cons, ih]
  | swap x y l => simp only [List.sum_cons]; omega
  | trans _ _ h1 h2 => exact h1.trans h2
theorem sum_subN {f : Nat → Nat} : ∀ {l m : List Nat}, l.Nodup → (∀ x ∈ l, x ∈ m) → (l.map f).sum ≤ (m.map f).sum
  | [], _, _, _ => Nat.zero_le _
  | a :: r, m, nd, h => by
    obtain ⟨n1, n2⟩ := List.nodup_cons.mp nd
    have pm := List.perm_cons_erase (h a List.mem_cons_self)
    rw [sum_permN (pm.map f), List.map_cons, List.map_cons, List.sum_cons, List.sum_cons]
    refine Nat.add_le_add_left (sum_subN n2 fun x hx => ?_) _
    exact (List.mem_erase_of_ne (fun z => n1 (by rw [← z]; exact hx))).mpr (h x (List.mem_cons_of_mem _ hx))
theorem heavy {page h : Nat} (h1 : 1 ≤ h) : ((dfl page h).map fun b => b * b).sum ≤ h * h := by
  have e1 : ∀ b ∈ dfl page h, b * b = (h / (h / b)) * (h / (h / b)) := fun b hb => by
    obtain ⟨⟨b1, _⟩, lt, m⟩ := mem_dfl.mp hb
    obtain ⟨q, hq⟩ := Nat.dvd_of_mod_eq_zero m
    have q0 : 0 < q := Nat.pos_of_ne_zero fun z => by rw [z] at hq; omega
    have : h / (h / b) = b := by rw [hq, Nat.mul_div_cancel_left _ b1, Nat.mul_div_cancel _ q0]
    rw [this]
  have e2 : ((dfl page h).map fun b => b * b) = ((dfl page h).map fun b => h / b).map fun c => (h / c) * (h / c) := by
    rw [List.map_map]
    exact List.map_congr_left fun b hb => e1 b hb
  rw [e2]
  have pw : (dfl page h).Pairwise (· < ·) := (lt_pw _ _).filter _
  have nd : ((dfl page h).map fun b => h / b).Nodup := by
    refine List.pairwise_map.mpr (pw.imp_of_mem fun {b c} hb hc lt z => ?_)
    have r : ∀ {b}, b ∈ dfl page h → h / (h / b) = b := fun {b} hb => by
      obtain ⟨⟨b1, _⟩, lt, m⟩ := mem_dfl.mp hb
      obtain ⟨q, hq⟩ := Nat.dvd_of_mod_eq_zero m
      have q0 : 0 < q := Nat.pos_of_ne_zero fun z => by rw [z] at hq; omega
      rw [hq, Nat.mul_div_cancel_left _ b1, Nat.mul_div_cancel _ q0]
    have e1 := r hb
    have e2 := r hc
    rw [z] at e1
    omega
  have le := sum_subN (f := fun c => (h / c) * (h / c)) (m := ((List.range h).map fun j => 1 + j).filter fun b => decide (h % b = 0) && (decide (1 < b) && decide (b % 1 = 0))) nd fun x hx => by
    obtain ⟨b, hb, rfl⟩ := List.mem_map.mp hx
    obtain ⟨⟨b1, _⟩, lt, m⟩ := mem_dfl.mp hb
    obtain ⟨q, hq⟩ := Nat.dvd_of_mod_eq_zero m
    have eq : h / b = q := by rw [hq, Nat.mul_div_cancel_left _ b1]
    have q1 : 1 < q := by
      refine Classical.byContradiction fun z => ?_
      have : q = 0 ∨ q = 1 := by omega
      rcases this with r | r
      · rw [r] at hq; omega
      · rw [r] at hq; omega
    have qh : q ≤ h := by rw [hq]; exact Nat.le_mul_of_pos_left _ b1
    rw [eq]
    refine List.mem_filter.mpr ⟨List.mem_map.mpr ⟨q - 1, List.mem_range.mpr (by omega), by omega⟩, ?_⟩
    have m0 : h % q = 0 := by rw [hq]; exact Nat.mul_mod_left _ _
    simp [m0, q1, Nat.mod_one]
  have sb := sqs_bound (page := h) (a := 1) (m := h) Nat.one_pos (by omega) h1 h h1
  rw [Nat.div_one] at sb
  have : sqs h 1 h ≤ h * h := by
    refine Nat.le_of_mul_le_mul_right ?_ h1
    exact Nat.le_trans (Nat.le_add_right _ _) sb
  exact Nat.le_trans le this
def ChV (H : Hp) (v : V) (C : List Nat) : Prop := ∃ t, v = V.ref t ∧ ChAt H t (nI C)
theorem Chs.mem {H : Hp} : ∀ {xs : List V} {css : List (List Nat)}, Chs H xs css → ∀ x ∈ xs, ∃ C ∈ css, ChV H x C
  | _, _, .nil => fun x h => nomatch h
  | _, _, .cons a r => fun x h => by
    rcases List.mem_cons.mp h with z | z
    · exact ⟨_, List.mem_cons_self, by rw [z]; exact a⟩
    · obtain ⟨C, h1, h2⟩ := Chs.mem r x z
      exact ⟨C, List.mem_cons_of_mem _ h1, h2⟩
theorem nI_inj : ∀ {x y : List Nat}, (nI x).map V.int = (nI y).map V.int → x = y
  | [], [], _ => rfl
  | [], _ :: _, h => by cases h
  | _ :: _, [], h => by cases h
  | a :: x, b :: y, h => by
    simp only [nI, List.map_cons, List.cons.injEq, V.int.injEq] at h
    rw [nI_inj (x := x) (y := y) (by simpa [nI] using h.2)]
    congr 1
    omega
theorem ChV.uniq {H : Hp} {v : V} {C D : List Nat} (h : ChV H v C) (h' : ChV H v D) : C = D := by
  obtain ⟨t, rfl, o, _, c⟩ := h
  obtain ⟨t', e, o', _, c'⟩ := h'
  cases e
  rw [c] at c'
  have e2 := Option.some.inj c'
  injection e2 with _ e2
  injection e2 with e2
  exact nI_inj e2
theorem op_catFE {X : Cx} {K : PySem.W.Frag} (e : X.K = K) : OpR X (binaryOp .Add) (rCatF K) := by subst e; exact op_catF
/-! ### all chains with a last size, of any length -/
def chu : Nat → Nat → List (List Nat)
  | 0, m => if m = 1 then [[1]] else []
  | d + 1, m => if m = 1 then [[1]] else (pdv m).flatMap fun s => (chu d s).map fun C => C ++ [m]
theorem chu_one (d : Nat) : chu d 1 = [[1]] := by cases d <;> simp [chu]
theorem pdv_half {m s : Nat} (h : s ∈ pdv m) : 1 ≤ s ∧ s < m ∧ m % s = 0 ∧ 2 * s ≤ m := by
  obtain ⟨h1, h2, h3⟩ := mem_pdv.mp h
  obtain ⟨q, hq⟩ := Nat.dvd_of_mod_eq_zero h3
  have : q ≠ 0 := fun z => by rw [z] at hq; omega
  have : q ≠ 1 := fun z => by rw [z] at hq; omega
  have : s * 2 ≤ s * q := Nat.mul_le_mul_left s (by omega)
  exact ⟨h1, h2, h3, by omega⟩
theorem chu_last : ∀ (d m : Nat), ∀ C ∈ chu d m, ∃ D, C = D ++ [m]
  | d, m => fun C hC => by
    by_cases e : m = 1
    · subst e
      rw [chu_one] at hC
      exact ⟨[], List.mem_singleton.mp hC⟩
    · cases d with
      | zero => simp [chu, e] at hC
      | succ d =>
        have ec : chu (d + 1) m = (pdv m).flatMap fun s => (chu d s).map fun C => C ++ [m] := by simp [chu, e]
        rw [ec] at hC
        obtain ⟨s, _, h⟩ := List.mem_flatMap.mp hC
        obtain ⟨D, _, rfl⟩ := List.mem_map.mp h
        exact ⟨D, rfl⟩
theorem adjC_app {m s : Nat} {D : List Nat} (h : adjC (D ++ [s])) (lt : s < m) (d : m % s = 0) : adjC ((D ++ [s]) ++ [m]) := by
  rw [List.append_assoc]
  exact adjC_snoc.mpr ⟨h, lt, d⟩
theorem mem_chu : ∀ (d m : Nat) (C : List Nat), 1 ≤ m → m ≤ 2 ^ d → (C ∈ chu d m ↔ adjC C ∧ C.head? = some 1 ∧ ∃ D, C = D ++ [m])
  | d, m, C, m1, md => by
    by_cases e : m = 1
    · subst e
      rw [chu_one, List.mem_singleton]
      constructor
      · rintro rfl
        exact ⟨True.intro, rfl, [], rfl⟩
      · rintro ⟨h1, h2, D, rfl⟩
        cases D with
        | nil => rfl
        | cons a D =>
          have ea : a = 1 := by simpa using h2
          have := adjC_below (S := a :: D) h1 a List.mem_cons_self
          omega
    · cases d with
      | zero => rw [Nat.pow_zero] at md; omega
      | succ d =>
        have ec : chu (d + 1) m = (pdv m).flatMap fun s => (chu d s).map fun C => C ++ [m] := by simp [chu, e]
        rw [ec, List.mem_flatMap]
        rw [Nat.pow_succ] at md
        constructor
        · rintro ⟨s, hs, hC⟩
          obtain ⟨D, hD, rfl⟩ := List.mem_map.mp hC
          obtain ⟨s1, s2, s3, s4⟩ := pdv_half hs
          obtain ⟨h1, h2, D', rfl⟩ := (mem_chu d s D s1 (by omega)).mp hD
          refine ⟨adjC_app h1 s2 s3, ?_, _, rfl⟩
          cases D' <;> simpa using h2
        · rintro ⟨h1, h2, D, rfl⟩
          rcases List.eq_nil_or_concat D with rfl | ⟨D, s, rfl⟩
          · exact absurd (by simpa using h2) e
          · rw [List.concat_eq_append] at *
            rw [List.append_assoc] at h1
            obtain ⟨q1, q2, q3⟩ := adjC_snoc.mp h1
            have s1 : 1 ≤ s := by
              cases D with
              | nil =>
                have : s = 1 := by simpa using h2
                omega
              | cons a D =>
                have := adjC_below (S := a :: D) q1 a List.mem_cons_self
                omega
            have hs : s ∈ pdv m := mem_pdv.mpr ⟨s1, q2, q3⟩
            have h4 := (pdv_half hs).2.2.2
            refine ⟨s, hs, List.mem_map.mpr ⟨D ++ [s], (mem_chu d s _ s1 (by omega)).mpr ⟨q1, ?_, D, rfl⟩, by simp⟩⟩
            cases D <;> simpa using h2
theorem chu_ln : ∀ (d m : Nat), ∀ C ∈ chu d m, C.length ≤ d + 1
  | d, m => fun C hC => by
    by_cases e : m = 1
    · subst e
      rw [chu_one] at hC
      rw [List.mem_singleton.mp hC]
      exact Nat.succ_le_succ (Nat.zero_le _)
    · cases d with
      | zero => simp [chu, e] at hC
      | succ d =>
        have ec : chu (d + 1) m = (pdv m).flatMap fun s => (chu d s).map fun C => C ++ [m] := by simp [chu, e]
        rw [ec] at hC
        obtain ⟨s, _, h⟩ := List.mem_flatMap.mp hC
        obtain ⟨D, hD, rfl⟩ := List.mem_map.mp h
        have := chu_ln d s D hD
        rw [List.length_append, List.length_singleton]
        omega
theorem adjC_dvs : ∀ {C : List Nat} {m : Nat}, adjC C → C.getLast? = some m → (∀ x ∈ C, 1 ≤ x) → ∀ x ∈ C, m % x = 0
  | [], _, _, h, _ => by simp at h
  | [a], m, _, h, _ => fun x hx => by
    have : a = m := by simpa using h
    rw [List.mem_singleton.mp hx, this]
    exact Nat.mod_self _
  | a :: b :: r, m, hc, h, ps => fun x hx => by
    have ih := adjC_dvs (C := b :: r) (m := m) hc.2 (by simpa using h) fun y hy => ps y (List.mem_cons_of_mem _ hy)
    rcases List.mem_cons.mp hx with z | z
    · rw [z]
      have h1 := Nat.dvd_of_mod_eq_zero (ih b List.mem_cons_self)
      have h2 := Nat.dvd_of_mod_eq_zero hc.1.2
      exact Nat.mod_eq_zero_of_dvd (Nat.dvd_trans h2 h1)
    · exact ih x z
theorem chu_cfr {d m : Nat} (m1 : 1 ≤ m) (md : m ≤ 2 ^ d) (dl : d ≤ 11) (C : List Nat) : C ∈ chu d m ↔ C ∈ cfr m 11 [] 1 ∧ C.length ≤ d + 1 := by
  rw [mem_cfr m1 11 [] 1 C (mem_dvs.mpr ⟨Nat.le_refl _, m1, Nat.mod_one _⟩)]
  constructor
  · intro hC
    have ln := chu_ln d m C hC
    obtain ⟨h1, h2, D, e⟩ := (mem_chu d m C m1 md).mp hC
    refine ⟨?_, ln⟩
    cases C with
    | nil => simp at h2
    | cons a E =>
      have ea : a = 1 := by simpa using h2
      subst ea
      have gl : (1 :: E).getLast? = some m := by rw [e]; simp
      have ps : ∀ x ∈ 1 :: E, 1 ≤ x := fun x hx => by
        rcases List.mem_cons.mp hx with z | z
        · omega
        · have := adjC_lt h1 x z
          omega
      have dv := adjC_dvs h1 gl ps
      rw [List.length_cons] at ln
      refine ⟨E, rfl, h1, gl, by omega, fun x hx => ?_⟩
      have hx' := List.mem_cons_of_mem 1 hx
      exact mem_dvs.mpr ⟨ps x hx', Nat.le_of_dvd m1 (Nat.dvd_of_mod_eq_zero (dv x hx')), dv x hx'⟩
  · rintro ⟨⟨E, rfl, h1, h2, _, _⟩, ln⟩
    exact (mem_chu d m _ m1 md).mpr ⟨h1, rfl, List.getLast?_eq_some_iff.mp h2⟩
theorem chu_few : ∀ (d m : Nat), 1 ≤ m → (chu d m).length ≤ m * m
  | d, m, m1 => by
    by_cases e : m = 1
    · subst e
      rw [chu_one]
      exact Nat.le_refl _
    · cases d with
      | zero => simp [chu, e]
      | succ d =>
        have ec : chu (d + 1) m = (pdv m).flatMap fun s => (chu d s).map fun C => C ++ [m] := by simp [chu, e]
        rw [ec, flat_sum]
        refine Nat.le_trans (sum_le (g := fun s => s * s) fun s hs => ?_) ?_
        · rw [List.length_map]
          exact chu_few d s (mem_pdv.mp hs).1
        · have h := heavy (page := m) (h := m) m1
          have e2 : dfl m m = pdv m := List.filter_eq_self.mpr fun b hb => by
            obtain ⟨b1, b2, b3⟩ := mem_pdv.mp hb
            rw [decide_eq_true b2, decide_eq_true b3]
            rfl
          rw [e2] at h
          exact h
end Ph

set_option maxHeartbeats 8000000
namespace Ph
open PySem PySem.Spec PyProof.Rows L2
section
variable {P : Program} {w : World} {K : PySem.W.Frag} {mg : Str → Option Value} {base : Heap}
def spLs (d : Nat) : Sp := fun vs H Q _ => ∃ m : Nat, vs = [.int (m : Int)] ∧ 1 ≤ m ∧ m ≤ 2 ^ d ∧ m ≤ 1000 ∧ d ≤ 11 ∧ ∀ H' L xs, Same H H' → H L = none → H' L = some (.lst xs) → Chs H' xs (chu d m) → Q (.ref L) H'
def spPrL : Nat → Sp
  | 0 => fun _ _ _ _ => False
  | d + 1 => spLs d
theorem ok_Ls {k : Nat} (Z : Fns K mg) : ∀ d, FnOk P w K mg base CX0 (k + d + 1) Z.fLs Z.fdLs ["_law_many"] (spLs d) := by
  intro d
  have GLs : FnOk P w K mg base CX0 (k + d) Z.fLs Z.fdLs ["_law_many"] (spPrL d) := by
    cases d with
    | zero => exact ⟨fun _ _ _ _ h => h.elim, fun _ _ _ _ _ _ _ _ _ _ _ _ _ h => h.elim⟩
    | succ d => exact ok_Ls Z d
  refine Z.FLs.ok scLs (fun vs H Q E h => ?_) (fun cdv A outer s H vs Q E hr h => ?_)
  · obtain ⟨m, rfl, _⟩ := h
    rfl
  · obtain ⟨m, rfl, m1, md, m4, d11, q⟩ := h
    refine ⟨_, (pss_cons (ps_if (pt_cmpR op_eq (pv 0) pe_int (nomark _))
 (pss_one (ps_ret (pe_lst (pa_cons (pe_tupF (pa_cons pe_int pa_nil)) pa_nil)))) pss_nil)
 (pss_cons (ps_set (i := 1) scLs.nd rfl (.inl rfl) (pe_lst pa_nil))
 (pss_cons (ps_for PassesOwn.never rfl (pi_range2 (by rfl) Z.N.range (pa_cons pe_int (pa_cons (pv 0) pa_nil))) (pg_name (i := 2) scLs.nd rfl (.inl rfl))
 (pss_one (ps_if (pt_cmpR op_eq (pe_op op_mod (pv 0) (pv 2)) pe_int (nomark _))
 (pss_one (ps_expr (pe_bm PySem.F.plainAttrs_list PySem.F.slot_list_extend PySem.F.type_list_extend mt_extend (pv 1) (pa_cons (pe_lc (own := [("_law_some", 3)]) (g := (gName 3)) (tt := tYes) (by rfl) scLs.nd (pi_list (pe_call GLs (hr.mono (by omega)) (by rfl) Z.gLs Z.FLs.kp Z.bLs .nil pass0 (pa_cons (pv 2) pa_nil))) (blkOk_by (N := scLsN) (sc := defScope scLsS) (by decide +kernel)) (fun _ _ _ _ _ => (pg_name (i := 3) scLs.nd rfl (.inl rfl))) (fun _ _ _ _ _ => pts_nil) (fun _ _ _ _ _ => (pe_op (op_catFE (K := K) rfl) (pv 3) (pe_tup (pa_cons (pv 0) pa_nil))))) pa_nil)))) pss_nil)))
 (pss_one (ps_ret (pv 1)))))), ?_⟩
    refine ⟨.int m, rfl, rfl, _, rfl, ite2 (fun c => ?_) (fun c => ?_)⟩
    · have e : m = 1 := by
        have := V.int.inj (of_decide_eq_true c)
        omega
      subst e
      refine ⟨(by show 1 ≤ sizeLine; decide), fun T o nT od => ⟨(by show 1 ≤ sizeLine; decide), fun L nL => ?_⟩⟩
      have sT := same_upd (o := .frz o (.tup [V.int 1])) nT
      have sL := same_upd (o := .lst [V.ref T]) nL
      refine q _ L _ (sT.trans sL) (none_of_same sT nL) upd_same ?_
      rw [chu_one]
      exact .cons ⟨T, rfl, o, od, sL _ _ upd_same⟩ .nil
    · have ne : m ≠ 1 := fun z => c (by rw [z]; exact decide_eq_true rfl)
      obtain ⟨d, rfl⟩ : ∃ d', d = d' + 1 := by
        cases d with
        | zero => exfalso; rw [Nat.pow_zero] at md; omega
        | succ d => exact ⟨d, rfl⟩
      have ec : chu (d + 1) m = (pdv m).flatMap fun s => (chu d s).map fun C => C ++ [m] := by simp [chu, ne]
      refine ⟨(by show 0 ≤ sizeLine; decide), fun B nB => ?_⟩
      have sB := same_upd (o := .lst []) nB
      have hB : upd H B (.lst []) B = some (.lst []) := upd_same
      generalize upd H B (.lst []) = H1 at *
      dsimp only [gName]
      have en : ((m : Int) - 1).toNat = m - 1 := by omega
      refine ⟨.int m, rfl, 1, (m : Int), rfl, ⟨by decide, by decide, by omega, by omega⟩, ?_⟩
      rw [en]
      have few := chu_few (d + 1) m m1
      rw [ec] at few
      refine for_range (lo := 1) (n := m - 1) (fun i σ H' => ∃ y2 y3 ys, σ = [some (.int m), some (.ref B), y2, y3] ∧ But B H1 H' ∧ H' B = some (.lst ys) ∧ Chs H' ys (((((List.range i).map fun j => 1 + j).filter fun b => decide (m % b = 0))).flatMap fun s => (chu d s).map fun C => C ++ [m]))
        ⟨none, none, [], rfl, But.refl _ _, hB, .nil⟩ ?_ ?_
      · rintro i σ H3 hi ⟨y2, y3, ys, rfl, b3, hB3, ch3⟩
        have ei : (1 : Int) + (i : Int) = ((1 + i : Nat) : Int) := by omega
        have etake : ∀ (b : Bool), decide (m % (1 + i) = 0) = b → (((List.range (i + 1)).map fun j => 1 + j).filter fun b => decide (m % b = 0)) = (((List.range i).map fun j => 1 + j).filter fun b => decide (m % b = 0)) ++ if b = true then [1 + i] else [] := fun b hb => by
          rw [List.range_succ, List.map_append, List.filter_append]
          congr 1
          cases b <;> simp [hb]
        dsimp only [gName]
        refine ⟨.int m, rfl, .int _, rfl, _, _, rfl, rfl, (by omega : (0 : Int) < 1 + (i : Int)), rfl, _, rfl, ite2 (fun c => ?_) (fun c => ?_)⟩
        rotate_left
        · have nd : ¬ m % (1 + i) = 0 := fun z => c (decide_eq_true (by show V.int ((m : Int) % (1 + (i : Int))) = V.int 0; rw [ei, ← Int.natCast_emod, z]; rfl))
          refine ⟨_, _, ys, rfl, b3, hB3, ?_⟩
          rw [etake false (decide_eq_false nd), if_neg Bool.false_ne_true, List.append_nil]
          exact ch3
        have dv : m % (1 + i) = 0 := by
          have := V.int.inj (of_decide_eq_true c)
          rw [ei, ← Int.natCast_emod] at this
          exact Int.ofNat_eq_zero.mp this
        have hs : 1 + i ∈ pdv m := mem_pdv.mpr ⟨by omega, by omega, dv⟩
        obtain ⟨s1, s2, _, s4⟩ := pdv_half hs
        rw [Nat.pow_succ] at md
        refine ⟨.ref B, rfl, .inl ⟨rfl, ys, .inl (.inl hB3)⟩, .int _, rfl, 1 + i, by rw [ei]; rfl, s1, by omega, by omega, by omega, fun H4 L xs s34 nL hL ch4 => ?_⟩
        refine ⟨L, rfl, ⟨_, .inl (.inl hL)⟩, fun D nD => ?_⟩
        have lx := Paired.length ch4
        have lcs : (((chu d (1 + i)).map fun C => C ++ [m])).length = xs.length := by rw [List.length_map, lx]
        have fw := chu_few d (1 + i) s1
        have fw2 : (1 + i) * (1 + i) ≤ 1000 * 1000 := Nat.mul_le_mul (by omega) (by omega)
        refine lc_RB (walk_list (K := K) (a := L) (xs := xs)) (fun _ _ _ _ y => YAt.same y) (fun H j y => ChV H y (((chu d (1 + i)).map fun C => C ++ [m]).getD j [])) (fun H H' j y k _ ⟨u, e, c⟩ => ⟨u, e, k.ch c⟩) nD (Nat.lt_of_le_of_lt (show xs.length ≤ 1000 * 1000 by omega) (by decide)) (fun H7 s7 => .inl (.inl (s7 _ _ hL))) (fun j y H5 H6 hj s5 hl yy Z' hZ => ?_) (fun H5 rs s5 hD pr => ?_)
        · obtain ⟨rfl, hx⟩ := yy
          obtain ⟨C, hC, t, rfl, ht⟩ := Paired.get ch4 hx
          have ht5 := ht.keep s5
          have eg : ((chu d (1 + i)).map fun C => C ++ [m]).getD j [] = C ++ [m] := by
            rw [List.getD_eq_getElem?_getD, List.getElem?_map, hC]
            rfl
          rw [eg] at hZ
          have lC := chu_ln d _ C (List.mem_of_getElem? hC)
          obtain ⟨D', eD⟩ := chu_last d _ C (List.mem_of_getElem? hC)
          refine ⟨rfl, .ref t, rfl, .int m, rfl, (by show 1 ≤ sizeLine; decide), fun U nU => ?_⟩
          have sU := same_upd (o := .tup [V.int (m : Int)]) nU
          refine ⟨t, U, _, [V.int (m : Int)], rfl, rfl, (ht5.keep sU).sq, .inl (.inl upd_same), ?_, (fun z => nomatch z), ?_, fun p o np od => ?_⟩
          · rw [eD]
            simp [nI]
          · rw [List.length_map, List.length_map]
            exact Nat.le_trans (show C.length + 1 ≤ 20 by omega) (by decide)
          · refine hZ _ _ (sU.trans (same_upd np)) ⟨p, rfl, o, od, ?_⟩
            rw [upd_same]
            simp [nI]
        have chD : Chs H5 rs ((chu d (1 + i)).map fun C => C ++ [m]) := by
          have e2 : ((chu d (1 + i)).map fun C => C ++ [m]) = (List.range xs.length).map fun j => ((chu d (1 + i)).map fun C => C ++ [m]).getD j [] := by
            refine List.ext_getElem (by rw [lcs, List.length_map, List.length_range]) fun n h1 h2 => ?_
            rw [List.getElem_map (f := fun j => ((chu d (1 + i)).map fun C => C ++ [m]).getD j []), List.getElem_range, List.getD_eq_getElem?_getD, List.getElem?_eq_getElem h1]
            rfl
          rw [e2]
          clear hD
          generalize List.range xs.length = js at pr
          generalize ((chu d (1 + i)).map fun C => C ++ [m]) = cc at pr
          induction pr with
          | nil => exact .nil
          | cons a r ih => exact .cons a ih
        have s35 := s34.trans s5
        have hB5 := s35 _ _ hB3
        have lr := Paired.length chD
        have l3 := Paired.length ch3
        have nxt : Chs (upd H5 B (.lst (ys ++ rs))) (ys ++ rs) ((((List.range (i + 1)).map fun j => 1 + j).filter fun b => decide (m % b = 0)).flatMap fun s => (chu d s).map fun C => C ++ [m]) := by
          rw [etake true (decide_eq_true dv), if_pos rfl, List.flatMap_append, List.flatMap_singleton]
          refine ((ch3.same s35).app chD).kp fun t o u e => ?_
          rw [upd_ne fun z => by rw [z, hB5] at e; cases e]
          exact e
        have ln := Paired.length nxt
        refine ⟨B, D, ys, rs, rfl, rfl, hB5, hD, ?_, _, _, ys ++ rs, rfl, fun c o nc e => by rw [upd_ne nc]; exact s35 _ _ (b3 _ _ nc e), upd_same, nxt⟩
        have sub : ((((List.range (i + 1)).map fun j => 1 + j).filter fun b => decide (m % b = 0)).flatMap fun s => (chu d s).map fun C => C ++ [m]).length ≤ ((pdv m).flatMap fun s => (chu d s).map fun C => C ++ [m]).length := by
          have e : pdv m = (((List.range (i + 1)).map fun j => 1 + j).filter fun b => decide (m % b = 0)) ++ ((((List.range (m - 1)).drop (i + 1)).map fun j => 1 + j).filter fun b => decide (m % b = 0)) := by
            unfold pdv
            rw [← List.filter_append, ← List.map_append]
            congr 2
            have : List.range (i + 1) = (List.range (m - 1)).take (i + 1) := by rw [List.take_range]; congr 1; omega
            rw [this, List.take_append_drop]
          rw [e, List.flatMap_append, List.length_append]
          exact Nat.le_add_right _ _
        have mm : m * m ≤ 1000 * 1000 := Nat.mul_le_mul m4 m4
        rw [← List.length_append]
        exact Nat.le_trans (show (ys ++ rs).length ≤ 1000 * 1000 by omega) (by decide)
      · rintro σ H3 ⟨y2, y3, ys, rfl, b3, hB3, ch3⟩
        have s3 : Same H H3 := fun c o e => b3 _ _ (ne_of_none e nB) (sB _ _ e)
        exact ⟨.ref B, rfl, q _ B _ s3 nB hB3 (by rw [ec]; exact ch3)⟩
end
end Ph

set_option maxHeartbeats 8000000
namespace Ph
open PySem PySem.Spec PyProof.Rows L2
/-! ### min of data of any kind that compare: no item is smaller -/
theorem minD_spec : ∀ (xs : List PyData) (x : PyData), ∀ y ∈ x :: xs, PySem.W.dataLt y (PySem.W.minD x xs) = false
  | [], x => fun y hy => by
    rw [List.mem_singleton.mp hy]
    exact PySem.W.dataLt_self _
  | z :: xs, x => fun y hy => by
    have e : PySem.W.minD x (z :: xs) = PySem.W.minD (if PySem.W.dataLt z x = true then z else x) xs := rfl
    rw [e]
    have ih := minD_spec xs (if PySem.W.dataLt z x = true then z else x)
    have hd := ih _ List.mem_cons_self
    have neg : ∀ {a b c : PyData}, PySem.W.dataLt a b = false → PySem.W.dataLt b c = false → PySem.W.dataLt a c = false := fun {a b c} h1 h2 => by
      cases q : PySem.W.dataLt a c with
      | false => rfl
      | true =>
        rcases dLt_neg (y := b) q with h | h
        · rw [h] at h1; cases h1
        · rw [h] at h2; cases h2
    rcases List.mem_cons.mp hy with r | r
    · rw [r]
      by_cases c : PySem.W.dataLt z x = true
      · rw [if_pos c] at hd ⊢
        exact neg (dLt_asym c) hd
      · rw [if_neg c] at hd ⊢
        exact hd
    · rcases List.mem_cons.mp r with r | r
      · rw [r]
        by_cases c : PySem.W.dataLt z x = true
        · rw [if_pos c] at hd ⊢
          exact hd
        · rw [if_neg c] at hd ⊢
          exact neg (by simpa using c) hd
      · exact ih y (List.mem_cons_of_mem _ r)
section
variable {X : Cx}
def rMinX (K : PySem.W.Frag) : List V → Hp → VK → Prop := fun vs H Q => ∃ (a : Addr) (xs : List V) (D : V → PyData), vs = [V.ref a] ∧ SqL K H a xs ∧ (∀ x ∈ xs, Dp K H x (D x)) ∧ PySem.W.AlikeAll (xs.map D) ∧ PyData.depthAll (xs.map D) ≤ 40 ∧ 0 < xs.length ∧
  ∀ x ∈ xs, (∀ y ∈ xs, PySem.W.dataLt (D y) (D x) = false) → Q x H
theorem cr_minX (hc : X.calm = true) (hu : X.A.units + 64 < cLine) : CallR X (.builtin "min") (rMinX X.K) := by
  intro pins s σ H vs us Q I r h
  obtain ⟨a, xs, D, rfl, hs, hd, al, dp, h0, q⟩ := h
  obtain ⟨its, rv, pl, _⟩ := I.list hs
  rw [Vals.ref1 r]
  cases xs with
  | nil => exact absurd h0 (by decide)
  | cons x0 xr =>
    obtain ⟨as, rd⟩ := Dp.readsAll I _ _ its (dpl_of _ hd) rv
    refine PySem.W.min_list_data (x := D x0) (xs := xr.map D) (I.ok.hd hc) pl.isList (by simpa using rd) al (by
      have e : PyData.depthAll (D x0 :: xr.map D) ≤ 40 := dp
      omega) (fun i v g tk bs hv rr kp => ?_)
    have hv : its[i]? = some v := by simpa using hv
    have hil : i < its.length := (List.getElem?_eq_some_iff.mp hv).1
    have hxl : i < (x0 :: xr).length := by rw [rv.length]; exact hil
    obtain ⟨u, e1, e2⟩ := rv.get (List.getElem?_eq_getElem hxl)
    rw [hv] at e1
    cases e1
    obtain ⟨as2, r2⟩ := Dp.reads I _ _ _ (hd _ (List.getElem_mem hxl)) e2
    have e := (Reads.unique (Reads.keeps kp r2) _ _ rr).1
    refine ⟨_, H, I.kept kp, e2, q _ (List.getElem_mem hxl) fun y hy => ?_⟩
    rw [e]
    refine minD_spec _ _ _ ?_
    have : D y ∈ (x0 :: xr).map D := List.mem_map.mpr ⟨y, hy, rfl⟩
    exact this
end
theorem eqv_ints : ∀ a b : List Nat, PyData.eqvAll ((nI a).map PyData.int) ((nI b).map PyData.int) = true → a = b
  | [], [], _ => rfl
  | [], _ :: _, h => by simp [PyData.eqvAll, nI] at h
  | _ :: _, [], h => by simp [PyData.eqvAll, nI] at h
  | x :: xs, y :: ys, h => by
    simp only [nI, List.map_cons] at h
    rw [PySem.W.eqv_all_cons, Bool.and_eq_true] at h
    have := eqv_ints xs ys h.2
    have h1 := h.1
    simp [PyData.eqv] at h1
    rw [this]
    congr 1
    omega
theorem ints_ok : ∀ C : List Nat, (∀ x ∈ C, x ≤ 4096) → PyData.showableAll ((nI C).map PyData.int) = true ∧ PyData.leavesShortAll 40 ((nI C).map PyData.int) = true ∧ PyData.bulkAll ((nI C).map PyData.int) = C.length
  | [], _ => ⟨rfl, rfl, rfl⟩
  | a :: C, h => by
    obtain ⟨h1, h2, h3⟩ := ints_ok C fun x hx => h x (List.mem_cons_of_mem _ hx)
    have ha := h a List.mem_cons_self
    have s := shd_int (i := (a : Int)) (Nat.lt_of_le_of_lt (show _ ≤ 4096 by omega) (by decide))
    have s1 := s.sh
    have s2 := s.lv
    simp only [nI, List.map_cons] at h1 h2 h3 ⊢
    refine ⟨?_, ?_, ?_⟩
    · rw [PyData.showableAll, s1, h1]; rfl
    · rw [PyData.leavesShortAll, s2, h2]; rfl
    · rw [PyData.bulkAll, h3, PyData.bulk, List.length_cons]; omega
theorem dq_ints {K : PySem.W.Frag} {H : Hp} : ∀ C : List Int, DqAll K H (C.map V.int) (C.map PyData.int)
  | [] => .nil
  | a :: C => .cons (.int a) (dq_ints C)
theorem t3_anti {z z' : Nat × Nat × List Nat} (h1 : PySem.W.dataLt (t3 z) (t3 z') = false) (h2 : PySem.W.dataLt (t3 z') (t3 z) = false) : z.2.2 = z'.2.2 := by
  have e := toks_same (t3_alike z z') (PyProof.Rows.lex_total _ _ h1 h2)
  unfold t3 at e
  simp only [PyData.eqv, PyData.eqvAll, Bool.and_eq_true] at e
  exact eqv_ints _ _ e.2.2.1
theorem cD_txt {C : List Nat} (l : C.length ≤ 12) (h : ∀ x ∈ C, x ≤ 4096) : (PyData.tuple ((nI C).map PyData.int)).showable = true ∧ (PyData.tuple ((nI C).map PyData.int)).depth ≤ 60 ∧ (PyData.tuple ((nI C).map PyData.int)).shown.length ≤ sizeLine := by
  obtain ⟨h1, h2, h3⟩ := ints_ok C h
  refine ⟨by rw [PyData.showable]; exact h1, ?_, ?_⟩
  · have := ints_depth (nI C)
    rw [PyData.depth]
    omega
  · have := PyData.shown_le_bulk 40 (by decide) (PyData.tuple ((nI C).map PyData.int)) (by rw [PyData.leavesShort]; exact h2)
    have e : (PyData.tuple ((nI C).map PyData.int)).bulk = C.length := by rw [PyData.bulk]; exact h3
    have e2 : sizeLine = 16777216 := by decide
    rw [e] at this
    omega
theorem cfr_sm {page : Nat} (p1 : 1 ≤ page) (p4 : page ≤ 4096) {C : List Nat} (hC : C ∈ cfr page 11 [] 1) : C.length ≤ 12 ∧ ∀ x ∈ C, x ≤ 4096 := by
  obtain ⟨E, rfl, h1, h2, h3, h4⟩ := (mem_cfr p1 11 [] 1 C (mem_dvs.mpr ⟨Nat.le_refl _, p1, Nat.mod_one _⟩)).mp hC
  refine ⟨by simp; omega, fun x hx => ?_⟩
  rcases List.mem_cons.mp hx with r | r
  · omega
  · have := (mem_dvs.mp (h4 x r)).2.1
    omega
/-- a row of the law: what a chain needs -/
def Rw (W : Nat) (H : Hp) (y : V) (C : List Nat) : Prop := ∃ n f ch, R3 H y (n, C.length, C) ∧ BestC C f ch W ∧ n = ndP C f W
theorem Rw.kt {W : Nat} {H H' : Hp} {y : V} {C : List Nat} (h : Rw W H y C) (k : Kt H H') : Rw W H' y C := by
  obtain ⟨n, f, ch, r, b⟩ := h
  exact ⟨n, f, ch, r.kt k, b⟩
theorem rws_kt {W : Nat} {H H' : Hp} {ys : List V} {cs : List (List Nat)} (h : Paired (Rw W H) ys cs) (k : Kt H H') : Paired (Rw W H') ys cs := Paired.mono (fun _ _ r => Rw.kt r k) h
theorem rws_app {F : V → List Nat → Prop} : ∀ {l l' : List V} {m m' : List (List Nat)}, Paired F l m → Paired F l' m' → Paired F (l ++ l') (m ++ m')
  | _, _, _, _, .nil, h => h
  | _, _, _, _, .cons a r, h => .cons a (rws_app r h)
section
variable {P : Program} {w : World} {K : PySem.W.Frag} {mg : Str → Option Value} {base : Heap}
def spPr : Sp := fun vs H Q _ => ∃ (page W : Nat), vs = [.int (page : Int), .int (W : Int)] ∧ 1 ≤ page ∧ page ≤ 360 ∧ W ≤ 1000 ∧ ∀ H', Same H H' → Q (.bl true) H'
theorem ok_Pr {k : Nat} (Z : Fns K mg) : FnG P w K mg base CX0 (k + 1 + 1 + 1 + 11 + 1 + 1) Z.fPr Z.fdPr ["_law_many", "_law_words"] spPr := by
  have GLs : FnOk P w K mg base CX0 (k + 9 + 1) Z.fLs Z.fdLs ["_law_many"] (spLs 9) := ok_Ls Z 9
  have GLb : FnOk P w K mg base CX0 (k + 1 + 1) Z.fLb Z.fdLb ["_law_sizes", "_law_cap"] (spLb K) := ok_Lb Z
  have GMo : FnOk P w K mg base CX0 (k + 1) Z.fMo Z.fdMo ["_law_sizes", "_law_words"] (spMo K) := ok_Mo Z
  have GBc : FnOk P w K mg base CX0 (k + 1 + 1 + 11 + 1 + 1) Z.fBc Z.fdBc ["page", "words"] spBc := ok_Bc Z
  refine okG Z.FPr scPr (fun vs H Q E h => ?_) (fun cdv A outer s H vs Q E hgu hr h => ?_)
  · obtain ⟨page, W, rfl, _⟩ := h
    rfl
  · obtain ⟨page, W, rfl, p1, p4, W4, q⟩ := h
    have hu64 := u64_of hr
    refine ⟨_, (pss_cons (ps_set (i := 2) scPr.nd rfl (.inl rfl) (pe_lst pa_nil))
 (pss_cons (ps_for PassesOwn.never rfl (pi_list (pe_call GLs (hr.mono (by omega)) (by rfl) Z.gLs Z.FLs.kp Z.bLs .nil pass0 (pa_cons (pv 0) pa_nil))) (pg_name (i := 3) scPr.nd rfl (.inl rfl))
 (pss_cons (ps_set (i := 4) scPr.nd rfl (.inl rfl) (pe_op op_fdiv (pe_ix ix_list (pe_call GLb (hr.mono (by omega)) (by rfl) Z.gLb Z.FLb.kp Z.bLb .nil pass0 (pa_cons (pv 3) (pa_cons (pe_call GMo (hr.mono (by omega)) (by rfl) Z.gMo Z.FMo.kp Z.bMo .nil pass0 (pa_cons (pv 3) (pa_cons (pv 1) pa_nil))) pa_nil))) (pe_un un_neg pe_int) (fun _ _ => rfl)) (pv 0)))
 (pss_one (ps_expr (pe_bm PySem.F.plainAttrs_list PySem.F.slot_list_append PySem.F.type_list_append mt_append (pv 2) (pa_cons (pe_tup (pa_cons (pv 4) (pa_cons (pe_callB call_len_seq (by rfl) Z.N.len (by decide +kernel) (pa_cons (pv 3) pa_nil)) (pa_cons (pv 3) pa_nil)))) pa_nil))))))
 (pss_one (ps_ret (pe_cmpR op_eq (pe_callB (call_rqA hgu hu64) (by rfl) Z.N.repr (by decide +kernel) (pa_cons (pe_call GBc (hr.mono (by omega)) (by rfl) Z.gBc Z.FBc.kp Z.bBc .nil pass0 (pa_cons (pv 0) (pa_cons (pv 1) pa_nil))) pa_nil)) (pe_callB (call_rqA hgu hu64) (by rfl) Z.N.repr (by decide +kernel) (pa_cons (pe_ix ix_tup (pe_callB (cr_minX rfl hu64) (by rfl) Z.N.min (by decide +kernel) (pa_cons (pv 2) pa_nil)) pe_int (fun _ _ => rfl)) pa_nil)) (nomark _)))))), ?_⟩
    refine ⟨(by show 0 ≤ sizeLine; decide), fun B nB => ?_⟩
    have sB := same_upd (o := .lst []) nB
    have hB : upd H B (.lst []) B = some (.lst []) := upd_same
    generalize upd H B (.lst []) = H1 at *
    dsimp only [gName]
    have p29 : page ≤ 2 ^ 9 := Nat.le_trans p4 (by decide)
    have few := chu_few 9 page p1
    have mm : page * page ≤ 360 * 360 := Nat.mul_le_mul p4 p4
    have okC : ∀ C ∈ chu 9 page, CsOk C page page ∧ C ∈ cfr page 11 [] 1 := fun C hC => by
      have h := ((chu_cfr p1 p29 (by omega) C).mp hC).1
      exact ⟨cfr_cs h (Nat.le_refl _) (by omega), h⟩
    refine seqS (fun σ' H' => ∃ y3 y4 rows, σ' = [some (.int page), some (.int W), some (.ref B), y3, y4] ∧ Same H H' ∧ H' B = some (.lst rows) ∧ Paired (Rw W H') rows (chu 9 page)) (fun D' hD' => ?_) ?_
    · refine ⟨.int page, rfl, page, rfl, p1, Nat.le_trans p4 (by decide), by omega, by omega, fun H2 L xs s2 nL hL ch2 => ⟨L, rfl, ⟨_, .inl (.inl hL)⟩, ?_⟩⟩
      have hB2 := s2 _ _ hB
      have nLB : L ≠ B := fun z => by rw [z, hB] at nL; cases nL
      have lx := Paired.length ch2
      refine for_it (walk_list (K := K) (a := L) (xs := xs)) (fun i σ H' => ∃ y3 y4 rows, σ = [some (.int page), some (.int W), some (.ref B), y3, y4] ∧ But B H2 H' ∧ H' B = some (.lst rows) ∧ Paired (Rw W H') rows ((chu 9 page).take i))
        ⟨_, _, [], rfl, But.refl _ _, hB2, .nil⟩ (fun i σ H' _ q => ?_) ?_ ?_
      · obtain ⟨_, _, _, _, b, _⟩ := q
        exact .inl (.inl (b _ _ nLB hL))
      · rintro i x σ H0 H3 hi ⟨y3, y4, rows, rfl, b3, hB3, rw3⟩ ⟨rfl, hx⟩
        obtain ⟨C, hC, t, rfl, ht2⟩ := Paired.get ch2 hx
        obtain ⟨ok, hcf⟩ := okC C (List.mem_of_getElem? hC)
        have ht3 : ChAt H3 t (nI C) := ht2.frz fun u v e => b3 _ _ (fun z => by rw [z, hB2] at e; cases e) e
        have sq3 : SqT K H3 t ((tl (cs C) (C.length - 1 + 1)).map V.int) := by rw [← ok.eq]; exact ht3.sq
        have l12 := ok.l12
        have szO : ∀ j, j ≤ C.length - 1 → 0 < cs C j ∧ cs C j ≤ 4096 := fun j hj => by
          have l := ok.len
          have := ok.cn.ch.pos (i := j) (by omega)
          have := ok.cn.ch.mono (i := j) (j := C.length - 1) hj (by omega)
          have := ok.cn.top
          omega
        have szs : Szs (cs C) (C.length - 1 + 1) := ⟨by omega, by omega, fun j hj => ⟨(szO j (by omega)).1, Nat.lt_of_le_of_lt (szO j (by omega)).2 (by decide)⟩⟩
        dsimp only [gName]
        refine ⟨.ref t, rfl, .ref t, rfl, .int W, rfl, t, cs C, C.length - 1, W, rfl, sq3, ok.cn.ch.s0, by omega, by omega, fun H4 f ch s4 bs => ?_⟩
        refine ⟨t, cs C, C.length - 1, f W, rfl, s4.tup sq3, szs, ok.cn.ch, fun H5 D s5 nD hD => ?_⟩
        refine ⟨1, rfl, D, _, -1, _, rfl, rfl, .inl (.inl hD), tl_atL, .int page, rfl, _, _, rfl, rfl, ⟨by omega, by omega⟩, ?_⟩
        have en : ((bb (cs C) (f W) (C.length - 1) : Nat) : Int) / (page : Int) = ((ndP C f W : Nat) : Int) := by
          unfold ndP
          rw [ok.top, Int.natCast_ediv]
        have s35 := s4.trans s5
        have hB5 := s35 _ _ hB3
        have ht5 := ht3.keep s35
        dsimp only [gName]
        refine ⟨.ref B, rfl, .inl ⟨rfl, _, .inl (.inl hB5)⟩, .int _, rfl, .ref t, rfl, t, _, rfl, .inr ht5.sq, .ref t, rfl, (by show 3 ≤ sizeLine; decide), fun T nT => ?_⟩
        have sT := same_upd (o := .tup [V.int (((bb (cs C) (f W) (C.length - 1) : Nat) : Int) / (page : Int)), .int (((nI C).map V.int).length : Nat), .ref t]) nT
        have hT : upd H5 T (.tup [V.int (((bb (cs C) (f W) (C.length - 1) : Nat) : Int) / (page : Int)), .int (((nI C).map V.int).length : Nat), .ref t]) T = some (.tup [.int ((ndP C f W : Nat) : Int), .int ((C.length : Nat) : Int), .ref t]) := by
          rw [upd_same, en, List.length_map, List.length_map]
        have hB6 := sT _ _ hB5
        have ht6 := ht5.keep sT
        have s36 := s35.trans sT
        generalize upd H5 T _ = H6 at *
        have lr := Paired.length rw3
        rw [List.length_take] at lr
        have kB : Kt H6 (upd H6 B (.lst (rows ++ [.ref T]))) := fun a o e n1 n2 => by
          rw [upd_ne fun z => by rw [z, hB6] at e; exact n2 _ (Option.some.inj e).symm]
          exact e
        have row : Rw W H6 (.ref T) C := ⟨_, f, ch, ⟨T, t, rfl, hT, ht6⟩, bs, rfl⟩
        refine ⟨B, _, _, rfl, rfl, hB6, Nat.lt_of_le_of_lt (show rows.length ≤ 360 * 360 by omega) (by decide), _, _, rows ++ [.ref T], rfl, b3.trans (fun a o na e => by rw [upd_ne na]; exact s36 _ _ e), upd_same, ?_⟩
        rw [List.take_add_one, hC]
        exact rws_app (rws_kt rw3 (Kt.trans (Same.kt s36) kB)) (.cons (row.kt kB) .nil)
      · rintro σ H3 ⟨y3, y4, rows, rfl, b3, hB3, rw3⟩
        rw [lx, List.take_length] at rw3
        exact hD' _ _ ⟨_, _, rows, rfl, fun a o e => b3 _ _ (ne_of_none e nB) (s2 _ _ (sB _ _ e)), hB3, rw3⟩
    rintro σ3 H3 ⟨y3, y4, rows, rfl, s3, hB3, rw3⟩
    refine ⟨.int page, rfl, .int W, rfl, page, W, rfl, p1, by omega, by omega, fun H7 u z s7 hu gz nb => ?_⟩
    have rw7 := rws_kt rw3 (Same.kt s7)
    have all : ∀ x ∈ rows, ∃ C ∈ chu 9 page, Rw W H7 x C := fun x hx => by
      obtain ⟨m, hm⟩ := List.getElem?_of_mem hx
      obtain ⟨C, hC, r⟩ := Paired.get rw7 hm
      exact ⟨C, List.mem_of_getElem? hC, r⟩
    have dat : ∀ {x : V} {C : List Nat} {n : Nat}, R3 H7 x (n, C.length, C) → dat3 H7 x = t3 (n, C.length, C) := fun {x C n} r => by
      obtain ⟨z', h1, h2⟩ := dat3_is ⟨_, r⟩
      rw [h2, r.uniq h1]
    obtain ⟨g1, g2, g3⟩ := gz
    obtain ⟨t1, t2⟩ := cfr_sm p1 (by omega) g1
    obtain ⟨q1, q2, q3⟩ := cD_txt t1 t2
    have zin : z.2.2 ∈ chu 9 page := by
      obtain ⟨E, e1, e2, e3, _⟩ := (mem_cfr p1 11 [] 1 z.2.2 (mem_dvs.mpr ⟨Nat.le_refl _, p1, Nat.mod_one _⟩)).mp g1
      rw [e1]
      exact (mem_chu 9 page _ p1 p29).mpr ⟨e2, rfl, List.getLast?_eq_some_iff.mp e3⟩
    obtain ⟨mz, hmz⟩ := List.getElem?_of_mem zin
    obtain ⟨yz, hyz, nz, fz, cz, rz, bz, enz⟩ := Paired.get2 rw7 hmz
    have ez := g3 fz cz bz
    have lr := Paired.length rw7
    have fewr : rows.length ≤ 360 * 360 := by omega
    refine ⟨.ref u, _, rfl, .tup hu.sq (dq_ints _), q1, q2, q3, .ref B, rfl, B, rows, dat3 H7, rfl, .inl (.inl (s7 _ _ hB3)), fun x hx => ?_, ⟨fun d hd d' hd' => ?_, fun d hd => ?_⟩, ?_, List.length_pos_of_mem (List.mem_of_getElem? hyz), fun x hx mn => ?_⟩
    · obtain ⟨C, _, n, f, ch, r, _⟩ := all x hx
      rw [dat r]
      exact r.dp
    · obtain ⟨x, hx, rfl⟩ := List.mem_map.mp hd
      obtain ⟨y, hy, rfl⟩ := List.mem_map.mp hd'
      obtain ⟨C, _, n, f, ch, r, _⟩ := all x hx
      obtain ⟨C', _, n', f', ch', r', _⟩ := all y hy
      rw [dat r, dat r']
      exact t3_alike _ _
    · obtain ⟨x, hx, rfl⟩ := List.mem_map.mp hd
      obtain ⟨C, _, n, f, ch, r, _⟩ := all x hx
      rw [dat r]
      exact fun z => nomatch z
    · have : ∀ ys : List V, (∀ x ∈ ys, x ∈ rows) → PyData.depthAll (ys.map (dat3 H7)) ≤ 40 := fun ys => by
        induction ys with
        | nil => exact fun _ => Nat.zero_le _
        | cons y ys ih =>
          intro h
          have h1 := ih fun x hx => h x (List.mem_cons_of_mem _ hx)
          obtain ⟨C, _, n, f, ch, r, _⟩ := all y (h y List.mem_cons_self)
          have h2 := t3_depth (n, C.length, C)
          rw [List.map_cons, dat r]
          simp only [PyData.depthAll]
          omega
      exact this rows fun x hx => hx
    · obtain ⟨C, hC, n, f, ch, r, bs, en⟩ := all x hx
      have m1 := mn yz (List.mem_of_getElem? hyz)
      rw [dat r, dat rz] at m1
      have m2 := nb C (okC C hC).2 f ch bs
      rw [← en] at m2
      have zt : t3 (nz, z.2.2.length, z.2.2) = t3 z := by
        obtain ⟨a, b, c⟩ := z
        dsimp only at *
        rw [enz, ← ez, g2]
      rw [zt] at m1
      have eC : z.2.2 = C := t3_anti m1 m2
      obtain ⟨T, t, rfl, hT, ht⟩ := r
      refine ⟨T, _, 2, _, rfl, rfl, .inl (.inl hT), atI_nat (j := 2) rfl, .ref t, _, rfl, .tup ht.sq (dq_ints _), by rw [← eC]; exact q1, by rw [← eC]; exact q2, by rw [← eC]; exact q3, rfl, ?_⟩
      rw [← eC]
      show Q (.bl (decide (V.str (PyData.tuple ((nI z.2.2).map PyData.int)).shown = V.str (PyData.tuple ((nI z.2.2).map PyData.int)).shown))) H7
      rw [decide_eq_true rfl]
      exact q _ (s3.trans s7)
end
end Ph

/-! PhEi: own errors of one field: their __init__, raising them. -/
namespace Ph
open PySem PySem.Spec PyProof.Rows L2
/-- E(x): the field f is x -/
def spEi (C : Addr) (f : Str) : Sp := fun vs H Q _ => ∃ (a : Addr) (x : V), vs = [.ref a, x] ∧ H a = some (exo a C none) ∧ ∀ dx, H dx = none → dx ≠ a → Q .non (upd (upd H dx (exd dx [(f, x)])) a (exo a C (some dx)))
/-- what a raised error is to who catches it -/
def ErrX (C : Addr) (f : Str) (x : V) (H : Hp) (E : XK) : Prop := ∀ H' d, Same H H' → H' d = some (.xd [(f, x)]) → E (.ref C) (some d) H'
theorem ErrX.from {C : Addr} {f : Str} {x : V} {H H1 : Hp} {E : XK} (q : ErrX C f x H E) (s : Same H H1) : ErrX C f x H1 E := fun H' d s' e => q H' d (s.trans s') e
theorem ei_out {H : Hp} {C : Addr} {f : Str} {x : V} {E : XK} (q : ErrX C f x H E) (a : Addr) (na : H a = none) :
    spEi C f [.ref a, x] (upd H a (exo a C none)) (fun v H2 => v = .non ∧ ∃ (d : Addr) (fs : List (Str × V)), H2 a = some (exo a C (some d)) ∧ H2 d = some (exd d fs) ∧ H d = none ∧ E (.ref C) (some d) (upd (del H2 a) d (.xd fs))) (fun _ _ _ => False) := by
  refine ⟨a, x, rfl, upd_same, fun dx ndx ne => ?_⟩
  have nd : H dx = none := by
    rw [upd_ne ne] at ndx
    exact ndx
  refine ⟨rfl, dx, [(f, x)], upd_same, by rw [upd_ne ne]; exact upd_same, nd, q _ dx (fun b o e => ?_) upd_same⟩
  have n1 : b ≠ dx := ne_of_none e nd
  have n2 : b ≠ a := ne_of_none e na
  rw [upd_ne n1, del_ne n2, upd_ne n2, upd_ne n1, upd_ne n2]
  exact e
/-- is_integer of any value -/
def spI2 (K : PySem.W.Frag) : Sp := fun vs H Q _ => ∃ x : V, vs = [x] ∧ ((∃ i : Int, x = .int i ∧ Q (.bl true) H) ∨ (NoInt K H x ∧ Q (.bl false) H))
/-- a def that keeps one promise and another, the second by raising -/
theorem fn_or {P : Program} {w : World} {K : PySem.W.Frag} {mg : Str → Option Value} {base : Heap} {k : Nat} {f : Addr} {fd : FuncData} {ps : List Str} {s1 s2 : Sp} (F1 : FnOk P w K mg base CX0 k f fd ps s1) (F2 : FnOk P w K mg base (L2.CX P w) k f fd ps s2) :
    FnOk P w K mg base (L2.CX P w) k f fd ps (fun vs H Q E => s1 vs H Q E ∨ s2 vs H Q E) :=
  ⟨fun vs H Q E h => h.elim (F1.len vs H Q E) (F2.len vs H Q E), fun A outer s H args us vs Q E hr e0 hb r h => h.elim (fun h => codeAny_mono (F1.run A outer s H args us vs Q E hr e0 hb r h) fun r s' out => match r, out with
    | .error _, out => (show False from out).elim
    | .ok (.ret _), out => out) (F2.run A outer s H args us vs Q E hr e0 hb r)⟩
/-- an argument that is no size; one that is no address -/
def BadZ (K : PySem.W.Frag) (H : Hp) (C : List Int) (x : V) : Prop := NoInt K H x ∨ ∃ i : Int, x = .int i ∧ i ∉ C
def BadA (K : PySem.W.Frag) (H : Hp) (z : Int) (y : V) : Prop := NoInt K H y ∨ ∃ A : Int, y = .int A ∧ (A < 0 ∨ A % z ≠ 0)
theorem BadZ.same {K : PySem.W.Frag} {H H' : Hp} {C : List Int} {x : V} (s : Same H H') (b : BadZ K H C x) : BadZ K H' C x := b.elim (fun n => .inl (n.same s)) .inr
theorem BadA.same {K : PySem.W.Frag} {H H' : Hp} {z : Int} {y : V} (s : Same H H') (b : BadA K H z y) : BadA K H' z y := b.elim (fun n => .inl (n.same s)) .inr
/-- what check_address raises -/
def BadC (K : PySem.W.Frag) (CB CP : Addr) (H : Hp) (c : Addr) (x y : V) (E : XK) : Prop := ∃ C, ChAt H c C ∧ ((BadZ K H C x ∧ ErrX CB "size" x H E) ∨ ∃ z : Int, x = .int z ∧ z ∈ C ∧ 0 < z ∧ BadA K H z y ∧ ErrX CP "address" y H E)
end Ph

set_option maxHeartbeats 8000000
namespace Ph
open PySem PySem.Spec PyProof.Rows L2
section
variable {P : Program} {w : World} {K : PySem.W.Frag} {mg : Str → Option Value} {base : Heap}
theorem ok_Bs {k : Nat} (Z : Fns K mg) : FnOk P w K mg base CX0 (k + 1) Z.fBs Z.fdBs ["self", "size"] (spEi Z.CBadSize "size") := by
  refine Z.FBs.ok scBs (fun vs H Q E h => ?_) (fun cdv A outer s H vs Q E hr h => ?_)
  · obtain ⟨a, x, rfl, _⟩ := h
    rfl
  · obtain ⟨a, x, rfl, ha, q⟩ := h
    refine ⟨_, (pss_one (ps_ost (pv 0) (pv 1) rfl)), ?_⟩
    exact ⟨x, rfl, .ref a, rfl, a, Z.CBadSize, rfl, Z.oxBadSize, Z.nfBadSize_size, .inl ⟨ha, q⟩⟩
theorem ok_I2 {k : Nat} (Z : Fns K mg) : FnOk P w K mg base CX0 (k + 1) Z.fI Z.fdI ["value"] (spI2 K) := by
  refine Z.FI.ok scI (fun vs H Q E h => ?_) (fun cdv A outer s H vs Q E hr h => ?_)
  · obtain ⟨x, rfl, _⟩ := h
    rfl
  · obtain ⟨x, rfl, h⟩ := h
    refine ⟨_, (pss_one (ps_ret (pe_and (pe_callB call_isi (by rfl) Z.N.isinstance (by decide +kernel) (pa_cons (pv 0) (pa_cons (pe_bltn (v := .ty "int") (by rfl) Z.N.int (by decide +kernel) rfl) pa_nil))) (pe_one (pe_not (pe_callB call_isi (by rfl) Z.N.isinstance (by decide +kernel) (pa_cons (pv 0) (pa_cons (pe_bltn (v := .ty "bool") (by rfl) Z.N.bool (by decide +kernel) rfl) pa_nil)))))))), ?_⟩
    rcases h with ⟨i, rfl, q⟩ | ⟨n, q⟩
    · refine ⟨.int i, rfl, .int i, .ty "int", .type "int", .type "int", true, rfl, .ty _, .base (.int _), kit_ty (by decide +kernel), _, rfl, ite2 (fun _ => ?_) (fun c => absurd rfl c)⟩
      exact ⟨.int i, rfl, .int i, .ty "bool", .type "int", .type "bool", false, rfl, .ty _, .base (.int _), kit_ty (by decide +kernel), _, rfl, q⟩
    cases n with
    | bl b =>
      refine ⟨.bl b, rfl, .bl b, .ty "int", .type "bool", .type "int", true, rfl, .ty _, .base (.bl _), kit_ty (by decide +kernel), _, rfl, ite2 (fun _ => ?_) (fun c => absurd rfl c)⟩
      exact ⟨.bl b, rfl, .bl b, .ty "bool", .type "bool", .type "bool", true, rfl, .ty _, .base (.bl _), kit_ty (by decide +kernel), _, rfl, q⟩
    | @ty _ t h n =>
      exact ⟨x, rfl, x, .ty "int", .type t, .type "int", false, rfl, .ty _, h, kit_ty n, _, rfl, ite2 (fun c => absurd c (by decide)) (fun _ => q)⟩
/-- a size of the chain, or not -/
def spCoR (K : PySem.W.Frag) (CB : Addr) : Sp := fun vs H Q E => ∃ x : V, vs = [x] ∧ (NoInt K H x ∨ ∃ i : Int, x = .int i ∧ ¬ (1 ≤ i ∧ i ≤ 4096)) ∧ ErrX CB "size" x H E
theorem okX_Co {k : Nat} (Z : Fns K mg) : FnOk P w K mg base (L2.CX P w) (k + 1 + 11 + 1 + 1) Z.fCo Z.fdCo ["page"] (spCoR K Z.CBadSize) := by
  have GI : FnOk P w K mg base CX0 (k + 1) Z.fI Z.fdI ["value"] (spI2 K) := ok_I2 Z
  have GBs : FnOk P w K mg base CX0 (k + 1) Z.fBs Z.fdBs ["self", "size"] (spEi Z.CBadSize "size") := ok_Bs Z
  have GMf : FnOk P w K mg base CX0 (k + 1) Z.fMf Z.fdMf ["larger", "size"] spMf2 := ok_Mf2 Z
  have GCf : FnOk P w K mg base CX0 (k + 1 + 11 + 1) Z.fCf Z.fdCf ["begun", "page", "followers"] (spCf 11) := ok_Cf Z 11
  refine Z.FCo.okX scCo (fun vs H Q E h => ?_) (fun cdv A outer s H vs Q E hr h => ?_)
  · obtain ⟨x, rfl, _⟩ := h
    rfl
  · obtain ⟨x, rfl, n, q⟩ := h
    have hu64 := u64_of hr
    refine ⟨_, (pss_cons (ps_if (PW.pt (pw_or (pt_not (pt_val (pe_call GI (hr.mono (by omega)) (by rfl) Z.gI Z.FI.kp Z.bI .nil pass0 (pa_cons (pv 0) pa_nil)))) (pw_or1 (pt_not (pt_chain op_le op_le pe_int (pv 0) (pe_glob (v := .int 4096) (by rfl) Z.k_LARGEST_PAGE.choose_spec ⟨_, rfl⟩))))))
 (pss_one (ps_raise rfl (takes_of rfl rfl rfl rfl) (pmk_oex Z.oxBadSize Z.iBs Z.tBs GBs (hr.mono (by omega)) Z.bBs .nil pass0 (by rfl) Z.gcBadSize (pa_cons (pv 0) pa_nil)))) pss_nil)
 (pss_cons (ps_set (i := 1) scCo.nd rfl (.inr rfl) (pe_lc (own := [("size", 3)]) (g := (gName 3)) (by rfl) scCo.nd (pi_range2 (by rfl) Z.N.range (pa_cons pe_int (pa_cons (pe_op op_add (pv 0) pe_int) pa_nil))) (blkOk_by (N := scCoN) (sc := defScope scCoS) (by decide +kernel)) (fun _ _ _ _ _ => (pg_name (i := 3) scCo.nd rfl (.inl rfl))) (fun _ _ _ _ _ => (pts_one (pt_cmpR op_eq (pe_op op_mod (pv 0) (pv 3)) pe_int (nomark _)))) (fun _ _ _ _ _ => (pv 3))))
 (pss_cons (ps_setDc (i := 2) (own := [("size", 3)]) (g := (gName 3)) (tt := tYes) (by rfl) scCo.nd rfl rfl (sw_dict rfl rfl rfl (by decide +kernel)) (pi_listE (K := K) rfl (pv 1)) (blkOk_by (N := scCoN) (sc := defScope scCoS) (by decide +kernel)) (fun _ _ _ _ _ => (pg_name (i := 3) scCo.nd rfl (.inr rfl))) (fun _ _ _ _ _ => pts_nil) (fun _ _ _ _ _ => (pv 3)) (fun _ _ _ _ _ => (pe_lc (own := [("larger", 4)]) (g := (gName 4)) (by rfl) scCo.nd (pi_listE (K := K) rfl (pv 1)) (blkOk_by (N := scCoN) (by rfl)) (fun _ _ _ _ _ => (pg_name (i := 4) scCo.nd rfl (.inl rfl))) (fun _ _ _ _ _ => (pts_one (pt_val (pe_call GMf (hr.mono (by omega)) (by rfl) Z.gMf Z.FMf.kp Z.bMf .nil pass0 (pa_cons (pv 4) (pa_cons (pv 3) pa_nil)))))) (fun _ _ _ _ _ => (pv 4)))))
 (pss_one (ps_ret (pe_callTy call_tuple_of (by rfl) Z.N.tuple (by decide +kernel) (pa_cons (pe_call GCf (hr.mono (by omega)) (by rfl) Z.gCf Z.FCf.kp Z.bCf .nil pass0 (pa_cons (pe_tupF (pa_cons pe_int pa_nil)) (pa_cons (pv 0) (pa_cons (pv 2) pa_nil)))) pa_nil))))))), ?_⟩
    rcases n with n | ⟨i, rfl, ni⟩
    · exact ⟨x, rfl, x, rfl, .inr ⟨n, _, rfl, ite2 (fun _ => ⟨x, rfl, (by show 1 ≤ 1000; decide), fun a0 na => ei_out q a0 na⟩) (fun c => absurd rfl c)⟩⟩
    · refine ⟨.int i, rfl, .int i, rfl, .inl ⟨i, rfl, _, rfl, ite2 (fun c => absurd c (by decide)) (fun _ => ?_)⟩⟩
      refine ⟨.int i, rfl, _, _, rfl, rfl, _, rfl, ite2 (fun c1 => ?_) (fun c1 => ?_)⟩
      · have c1 : (1 : Int) ≤ i := of_decide_eq_true c1
        refine ⟨_, _, rfl, rfl, _, rfl, ite2 (fun _ => ?_) (fun c => absurd (by rw [decide_eq_false (show ¬ i ≤ 4096 by omega)]; decide) c)⟩
        exact ⟨.int i, rfl, (by show 1 ≤ 1000; decide), fun a0 na => ei_out q a0 na⟩
      · exact ⟨_, rfl, ite2 (fun _ => ⟨.int i, rfl, (by show 1 ≤ 1000; decide), fun a0 na => ei_out q a0 na⟩) (fun c => absurd rfl c)⟩
def spBcR (K : PySem.W.Frag) (CB : Addr) : Sp := fun vs H Q E => ∃ x y : V, vs = [x, y] ∧ (NoInt K H x ∨ ∃ i : Int, x = .int i ∧ ¬ (1 ≤ i ∧ i ≤ 4096)) ∧ ErrX CB "size" x H E
theorem okX_Bc {k : Nat} (Z : Fns K mg) : FnOk P w K mg base (L2.CX P w) (k + 1 + 1 + 11 + 1 + 1) Z.fBc Z.fdBc ["page", "words"] (spBcR K Z.CBadSize) := by
  have XCo : FnOk P w K mg base (L2.CX P w) (k + 1 + 11 + 1 + 1) Z.fCo Z.fdCo ["page"] (spCoR K Z.CBadSize) := okX_Co Z
  have GFp : FnOk P w K mg base CX0 (k + 1 + 1 + 1 + 1 + 1 + 1) Z.fFp Z.fdFp ["chain", "words"] (spFp K) := ok_Fp Z
  have GEp : FnOk P w K mg base CX0 (k + 1 + 1 + 1 + 1 + 1 + 1) Z.fEp Z.fdEp ["chain", "words"] (spEp K) := ok_Ep Z
  refine Z.FBc.okX scBc (fun vs H Q E h => ?_) (fun cdv A outer s H vs Q E hr h => ?_)
  · obtain ⟨x, y, rfl, _⟩ := h
    rfl
  · obtain ⟨x, y, rfl, n, q⟩ := h
    have hu64 := u64_of hr
    refine ⟨_, (pss_cons (ps_set (i := 2) scBc.nd rfl (.inl rfl) pe_non)
 (pss_cons (ps_setLc (i := 3) (own := [("chain", 8)]) (g := (gName 8)) (tt := tYes) (by rfl) scBc.nd rfl rfl (sw_true rfl rfl rfl (by decide +kernel)) (pi_tup (pe_call XCo (hr.mono (by omega)) (by rfl) Z.gCo Z.FCo.kp Z.bCo .nil (passes_call (takes_of rfl rfl rfl rfl) (fun _ _ _ _ h => h)) (pa_cons (pv 0) pa_nil))) (blkOk_by (N := scBcN) (sc := defScope scBcS) (by decide +kernel)) (fun _ _ _ _ _ => (pg_name (i := 8) scBc.nd rfl (.inl rfl))) (fun _ _ _ _ _ => pts_nil) (fun _ _ _ _ _ => (pe_tup (pa_cons (pe_call GFp (hr.mono (by omega)) (by rfl) Z.gFp Z.FFp.kp Z.bFp .nil pass0 (pa_cons (pv 8) (pa_cons (pv 1) pa_nil))) (pa_cons (pe_callB (call_lenE (K := K) rfl) (by rfl) Z.N.len (by decide +kernel) (pa_cons (pv 8) pa_nil)) (pa_cons (pv 8) pa_nil))))))
 (pss_cons (ps_for (passes_of rfl) rfl (pi_list (pe_callB (cr_sortedD hu64) (by rfl) Z.N.sorted (by decide +kernel) (pa_cons (pv 3) pa_nil))) (pg_tup (by rfl) (pgs_cons (pg_name (i := 4) scBc.nd rfl (.inl rfl)) (pgs_cons (pg_name (i := 5) scBc.nd rfl (.inl rfl)) (pgs_cons (pg_name (i := 6) scBc.nd rfl (.inl rfl)) pgs_nil))))
 (pss_cons (ps_if (PW.pt (pw_and (pt_cmpR op_notN (pv 2) pe_non (nomark _)) (pw_and1 (pt_cmpR (op_ltD hu64) (pv 2) (pe_tup (pa_cons (pv 4) (pa_cons (pv 5) (pa_cons (pv 6) pa_nil)))) (nomark _)))))
 (pss_one ps_break) pss_nil)
 (pss_cons (ps_set (i := 7) scBc.nd rfl (.inl rfl) (pe_tup (pa_cons (pe_call GEp (hr.mono (by omega)) (by rfl) Z.gEp Z.FEp.kp Z.bEp .nil pass0 (pa_cons (pv 6) (pa_cons (pv 1) pa_nil))) (pa_cons (pv 5) (pa_cons (pv 6) pa_nil)))))
 (pss_one (ps_if (PW.pt (pw_or (pt_cmpR op_isN (pv 2) pe_non (nomark _)) (pw_or1 (pt_cmpR (op_ltD hu64) (pv 7) (pv 2) (nomark _)))))
 (pss_one (ps_set (i := 2) scBc.nd rfl (.inl rfl) (pv 7))) pss_nil)))))
 (pss_one (ps_ret (pe_ix ix_tup (pv 2) pe_int (fun _ _ => rfl))))))), ?_⟩
    exact ⟨x, rfl, x, rfl, n, q⟩
end
end Ph

/-! PhLam: defs that make lambdas: the heap without the tables, the tables kept, the code object known. -/
namespace Ph
open PySem PySem.Spec PyProof.Rows L2 LamX
/-- the heap without the tables of code objects -/
def ntb (H : Hp) : Hp := fun b => match H b with
  | some (.tbl _) => none
  | x => x
theorem ntb_at {H : Hp} {b : Addr} {o : HO} (e : H b = some o) (n : ∀ ps, o ≠ .tbl ps) : ntb H b = some o := by
  unfold ntb
  rw [e]
  cases o <;> first
    | rfl
    | exact absurd rfl (n _)
theorem ntb_of {H : Hp} {b : Addr} {o : HO} (e : ntb H b = some o) : H b = some o ∧ ∀ ps, o ≠ .tbl ps := by
  unfold ntb at e
  split at e
  · cases e
  · refine ⟨e, fun ps z => ?_⟩
    rename_i h
    exact h ps (e.trans (by rw [z]))
theorem ntb_sub {H : Hp} : Same (ntb H) H := fun b o e => (ntb_of e).1
theorem ntb_ext {H H' : Hp} (x : ExtN H H') : Same (ntb H) (ntb H') := fun b o e => by
  obtain ⟨e1, n⟩ := ntb_of e
  exact ntb_at (x b o e1 n) n
theorem ntb_same {H H' : Hp} (s : Same H H') : Same (ntb H) (ntb H') := ntb_ext (.of s)
theorem ntb_but {q : Addr} {H H' : Hp} (x : But q H H') : ButS [q] (ntb H) (ntb H') := fun b o nb e => by
  obtain ⟨e1, n⟩ := ntb_of e
  exact ntb_at (x b o (fun z => nb (List.mem_singleton.mpr z)) e1) n
section
variable {T : List (Addr × Str)} {H H' : Hp}
theorem tabs_but {q : Addr} {xs : List V} (t : Tabs T H) (b : But q H H') (e : H q = some (.lst xs)) : Tabs T H' := fun p hp => by
  obtain ⟨ps, h1, h2, h3⟩ := t p hp
  refine ⟨ps, b _ _ (fun z => ?_) h1, h2, fun pos cv hc => ?_⟩
  · rw [z, e] at h1
    cases h1
  · obtain ⟨c, e1, e2⟩ := h3 pos cv hc
    refine ⟨c, e1, b _ _ (fun z => ?_) e2⟩
    rw [z, e] at e2
    unfold CodeO at e2
    cases e2
theorem tabs_same (t : Tabs T H) (s : Same H H') : Tabs T H' := t.ext s
theorem ext_tup {t : Addr} {xs : List V} (x : ExtN H H') (e : H t = some (.tup xs)) : H' t = some (.tup xs) := x _ _ e fun _ z => nomatch z
theorem ext_lst {t : Addr} {xs : List V} (x : ExtN H H') (e : H t = some (.lst xs)) : H' t = some (.lst xs) := x _ _ e fun _ z => nomatch z
theorem ext_frz {t : Addr} {o : Obj} {u : HO} (x : ExtN H H') (e : H t = some (.frz o u)) : H' t = some (.frz o u) := x _ _ e fun _ z => nomatch z
theorem ext_seq {K : PySem.W.Frag} {t : Addr} {xs : List V} (x : ExtN H H') (e : SqL K H t xs) : SqL K H' t xs := by
  rcases e with (e | ⟨o, e⟩) | e
  · exact .inl (.inl (ext_lst x e))
  · exact .inl (.inr ⟨o, ext_frz x e⟩)
  · exact .inr e
theorem pot_ext {q : Addr} (x : ExtN H H') (p : Pot H q) : Pot H' q := by
  obtain ⟨g, r, e, v⟩ := p
  exact ⟨g, r, ext_lst x e, v⟩
theorem pot_tabs {q : Addr} (t : Tabs T H) (b : But q H H') (p : Pot H q) : Tabs T H' := by
  obtain ⟨g, r, e, v⟩ := p
  exact tabs_but t b e
end
/-- okG, the code object known -/
theorem okGC {P : Program} {w : World} {K : PySem.W.Frag} {mg : Str → Option Value} {base : Heap} {x qual : Str} {st : Stmt} {f : Addr} {fd : FuncData} {N ps : List Str} {k : Nat} {sp : Sp} {c : Addr} (F : Fun K x qual st f fd) (hc : fd.code = .ref c) (S : FnScope N ps (defScope st)) (cnt : ∀ vs H Q E, sp vs H Q E → vs.length = ps.length)
    (body : ∀ (A : Around) (outer : List Env) (s : Shared) (H : Hp) (vs : List V) (Q : VK) (E : XK), (A.deeper (envOfC qual (defScope st) s.heap.objs.size f (.ref c))).guards = some [] → Room k (A.deeper (envOfC qual (defScope st) s.heap.objs.size f (.ref c))) → sp vs H Q E →
      ∃ t, PSs (cxOf CX0 P w K mg base N qual (defScope st) f (.ref c) A outer s H E).nox (defBody st) t ∧ t { nx := fun _ H' => Q .non H', rt := Q } (start N vs) H) : FnG P w K mg base CX0 (k + 1) f fd ps sp := by
  obtain ⟨oc, od, kV, doc, pm, an, cdv, ct, osl, rfl, lk, hcd⟩ := F.ex
  obtain rfl : cdv = Value.ref c := hc
  refine ⟨cnt, fun A outer s H args us vs Q E hgu room env bnd vals want => ?_⟩
  have old : ∀ b o, base.get? b = some o → s.heap.get? b = some o := fun b o z => (env.bs b o z).1
  refine Att.call_fn (env.mod.kin.keeps old) (env.mod.nolimit.keeps old) lk hcd room.depth bnd ?_ (fun s1 inside => ?_) S.co S.gen S.kind
  · rw [List.all_eq_true]
    rintro ⟨n, v⟩ hy
    rcases S.par n (List.of_mem_zip hy).1 with z | z <;> simp [z]
  · obtain ⟨t, ht, hq⟩ := body A outer s H vs Q E ((guards_deeper A _).trans hgu) (room.deeper _) want
    have I0 : Inv (cxOf CX0 P w K mg base N qual (defScope st) f (.ref c) A outer s H E) [] (start N vs) H s1 := inv_start S room.hd env (cnt _ _ _ _ want) vals inside
    refine wpAny_mono (ht.nox.run [] s1 (start N vs) H _ I0 hq) (fun flow s2 done => ?_) fun e s2 bad => bad
    have fin : ∀ {σ' : L2.St} {H' : Hp} {v : V} {u : Value}, Inv (cxOf CX0 P w K mg base N qual (defScope st) f (.ref c) A outer s H E) [] σ' H' s2 → RelV v u → Q v H' → CE outer P w H s Q u s2 :=
      fun J rel good => ⟨_, _, J.os, J.bare, J.base, J.hok, rel, good⟩
    match flow, done with
    | .ret u, ⟨v, σ', H', J, rel, good⟩ => exact fin J rel good
    | .next, ⟨σ', H', J, good⟩ => exact fin (v := V.non) (u := Value.none) J rfl good
    | .brk, ⟨_, _, _, z⟩ => exact z.elim
    | .cont, ⟨_, _, _, z⟩ => exact z.elim
/-- tabIn's code object is the def's -/
theorem tab_code {K : PySem.W.Frag} {x : Str} {c P f : Addr} {oc : Value} {od : Option Addr} {fd : FuncData} {sl : Array (Option Value)} (t : PySem.W.tabIn K x = some (c, P)) (n : PySem.W.nsIn K mainGlobals x = some (some (.ref f))) (l : K.lookup f = some ⟨oc, od, .func fd, sl⟩) : fd.code = .ref c := by
  unfold PySem.W.tabIn at t
  rw [n] at t
  simp only [l] at t
  split at t
  · rename_i c' e
    split at t
    · split at t
      · cases t
        exact e
      · cases t
    · cases t
  · cases t
end Ph

set_option maxHeartbeats 4000000
/-! PhAct: a lambda handed to a def that calls it within try: what is raised may speak of the slots of that def. -/
namespace Ph
open PySem PySem.Spec PyProof.Rows L2 LamX
section
variable {X : Cx} {pins : List (Addr × Obj)} {σ : L2.St} {H : Hp} {s : Shared}
/-- the context of the def that got the lambda -/
abbrev gotCx (X : Cx) (Ng : List Str) (x : Str) (sg : Scope) (g : Addr) (cdg : Value) (s : Shared) (H : Hp) : Cx := cxOf C8.CX0 X.prog X.w X.K X.mg X.base Ng x sg g cdg X.A X.stack s H C8.E0
/-- what a() reads there -/
def tAct (f c' : Addr) (q : Str) (tl : XK → Hp → VK → Prop) (W : WX) : TE := fun σZ HZ Q => σZ[0]? = some (some (.ref f)) ∧ HZ c' = some (CodeO c' q) ∧ ∃ E : XK, (∀ cls d H', E cls d H' → W cls d σZ H') ∧ tl E HZ Q
theorem pe_actS {Ng : List Str} {x : Str} {sg : Scope} {g f c' : Addr} {cdg pm ctv : Value} {params : Arguments} {body : Expr} {scope : Scope} {k : Nat} {a : Str} {pn : List (Addr × Obj)} {xe : Value → Shared → Prop} {W : WX} {p1 p2 : Pos} {t : XK → TE}
    (I : Inv X pins σ H s) (L : LamS X.env.scope scope) (obj : s.heap.get? f = some (PySem.W.kla_obj "<lambda>" (X.env.qual ++ "<lambda>") params body scope (cloFrom X.env.cells scope.names []) pm c' ctv)) (untr : H f = none) (offF : f ∉ frs X.stack)
    (bnd : bindArgs (PySem.W.kla_fn "<lambda>" (X.env.qual ++ "<lambda>") params body scope (cloFrom X.env.cells scope.names []) pm (.ref c') ctv) ⟨[], []⟩ = pure [])
    (tk : Takes ((gotCx X Ng x sg g cdg s H).tr pn xe) W) (room : Room (k + 1) (X.A.deeper (envOfC x sg s.heap.objs.size g cdg)))
    (hbody : ∀ (A : Around) (outer : List Env) (s : Shared) (H : Hp) (E : XK), Room k (A.deeper (lamEnv X scope s.heap.objs.size f c')) → PE (lamCx X A outer s H E scope f c') body (t E))
    (hN : Ng[0]? = some a) (hv : Vis sg a) (hd : (a == ("__debug__" : Str)) = false) (hcd : (a == ("__classdict__" : Str)) = false) :
    PE ((gotCx X Ng x sg g cdg s H).tr pn xe) (.Call (.Name a p1) [] [] p2) (tAct f c' (X.env.qual ++ "<lambda>") (fun E H' Q' => t E σ H' Q') W) := by
  constructor
  rintro pinsZ sZ σZ HZ Q IZ ⟨at0, code, E, hW, want⟩
  refine wpAny_Call_Name_kw (thn ((pe_var (pos := p1) (i := 0) hN hv hd hcd).run pinsZ sZ σZ HZ (fun v G => v = .ref f ∧ G = HZ) IZ ⟨.ref f, at0, rfl, rfl⟩) fun u s1 ⟨v, G, I1, rel, hval⟩ => ?_)
  obtain ⟨rfl, rfl⟩ := hval
  obtain rfl : u = Value.ref f := rel
  have un : Un (frs X.stack) [] H G s.heap s1.heap := I1.base
  have still := un.keep f _ obj untr offF (fun z => List.not_mem_nil z)
  obtain ⟨⟨oc, vs, tq, get, dat, nm⟩, _, _⟩ := I1.hok c' _ code
  refine PySem.W.callWith_F0 ⟨_, _, _, _, still⟩ (wpAny_call ?_)
  have run : codeAny (model X.prog X.w) (X.A.deeper (envOfC x sg s.heap.objs.size g cdg)) (.call (.ref f) ⟨[], []⟩) (CR (L2.CX X.prog X.w) (envOfC x sg s.heap.objs.size g cdg :: X.stack) X.prog X.w G s1 Q E) s1 := by
    refine PySem.W.kla_callFunE room.depth still rfl L.co L.gen rfl ⟨c', oc, vs, tq, rfl, get, dat, nm⟩ ?_
    rw [bnd]
    refine wpAny_pure (wpAny_newFunctionEnv (fun y hy => (L.own y hy).2) (fun y hy => (List.not_mem_nil hy).elim) (fun h₁ ns sub => ⟨I1.nolimit.fresh _ sub, ?_⟩) L.kind)
    show codeAny _ _ (.expr body (lamEnv X scope s1.heap.objs.size f c')) _ _
    have grows : ∀ b o, s1.heap.get? b = some o → h₁.get? b = some o := fun b o e => sub.extBut b o (Nat.ne_of_lt (Heap.lt_size e)) (Heap.get?_push_of_some _ e)
    have J := lam_start2 (A := X.A.deeper (envOfC x sg s.heap.objs.size g cdg)) (outer := envOfC x sg s.heap.objs.size g cdg :: X.stack) (E := E) (f := f) (c' := c') (tk := s1.toks + ([] : List (Str × Value)).length) I L I1.env0 room.hd un ns grows
    exact PySem.W.kla_codeExpr (wpAny_mono ((hbody _ _ s1 G E (room.deeper _)).run [] _ _ G Q J want) (fun v s' ⟨y, G', J', r', q'⟩ => ⟨y, G', J'.os, J'.bare, J'.base, J'.hok, r', q'⟩) fun e s' hq => hq)
  refine codeAny_mono run fun r s' out => ?_
  match r, out with
  | .error e, out => exact tk e s' (XE.of_call I1 (fun cls d H' h => hW cls d H' h) out)
  | .ok (.ret u), out => exact I1.after out
end
/-- the def that calls what it got within try -/
def GivesS (X : Cx) (Ng : List Str) (x : Str) (sg : Scope) (g : Addr) (cdg : Value) (bg : List Stmt) (a : Str) (q : Str) (TT : (XK → Hp → VK → Prop) → Hp → VK → Prop) : Prop :=
  ∀ (f c' : Addr) (s : Shared) (H : Hp) (Q : VK) (tl : XK → Hp → VK → Prop),
    (∀ (W : WX) (pn : List (Addr × Obj)) (xe : Value → Shared → Prop) (p1 p2 : Pos), Takes ((gotCx X Ng x sg g cdg s H).tr pn xe) W → PE ((gotCx X Ng x sg g cdg s H).tr pn xe) (.Call (.Name a p1) [] [] p2) (tAct f c' q tl W)) →
    H c' = some (CodeO c' q) → TT tl H Q →
    ∃ t, PSs (gotCx X Ng x sg g cdg s H).nox bg t ∧ t { nx := fun _ H' => Q .non H', rt := Q } (L2.start Ng [.ref f]) H
section
variable {X : Cx}
/-- x(lambda: body), x a def of the top that is known as Fun -/
theorem pe_lamS {T : List (Addr × Str)} {TT : (XK → Hp → VK → Prop) → Hp → VK → Prop} {x a : Str} {g c P : Addr} {k : Nat} {st : Stmt} {fd : FuncData} {Ng : List Str} {params : Arguments} {body : Expr} {scope : Scope} {t : XK → TE} {p lpos pos : Pos}
    (gl : Gl X x) (hm : X.mg x = some (.ref g)) (F : Fun X.K x x st g fd) (hb : L2.Binds X.K fd [a] []) (Sg : FnScope Ng [a] (defScope st)) (at0 : Ng[0]? = some a) (vis : Vis (defScope st) a)
    (gives : ∀ cdv : Value, GivesS X Ng x (defScope st) g cdv (defBody st) a (X.env.qual ++ "<lambda>") TT) (TB : TabB X.base X.mg c P) (hcode : X.env.code = .ref c) (inT : (P, X.env.qual ++ "<lambda>") ∈ T) (one : ∀ p ∈ T, p.1 = P → p.2 = X.env.qual ++ "<lambda>")
    (room : Room (k + 2) X.A) (L : LamS X.env.scope scope) (hdef : defaultsOf params X.env = ([], [])) (bnd : ∀ (q : Str) (cl : List (Str × Addr)) (pm cv ctv : Value), bindArgs (PySem.W.kla_fn "<lambda>" q params body scope cl pm cv ctv) ⟨[], []⟩ = pure [])
    (hbody : ∀ (A : Around) (outer : List Env) (s : Shared) (H : Hp) (E : XK) (f c' : Addr), Room k (A.deeper (lamEnv X scope s.heap.objs.size f c')) → PE (lamCx X A outer s H E scope f c') body (t E))
    (hdb : (x == ("__debug__" : Str)) = false := by decide) (hd : (a == ("__debug__" : Str)) = false := by decide) (hcd : (a == ("__classdict__" : Str)) = false := by decide) :
    PE X (.Call (.Name x p) [.Lambda params body scope lpos] [] pos) (tLam T TT t) := by
  obtain ⟨oc, od, kV, doc, pm, an, cdv, ct, osl, rfl, lk, hcd2⟩ := F.ex
  constructor
  rintro pins s σ H Q I ⟨tabs, want⟩
  refine wpAny_Call_Name_kw (ld_glob I gl hm ?_ hdb)
  refine PySem.W.callWith_K (h₀ := X.base) I.ok.mod.kin F.kp ?_ (by rfl) (by rfl)
  show wpAny _ _ (spliced ((false, eval (.Lambda params body scope lpos) X.env) :: backTo pos (starEach [] X.env))) _ _ s
  refine Calls.spliced_cons (lam_make2 I TB hcode inT one tabs hdef (L.has I.ok) fun f c' pm' ctv H1 s' I1 grown tabs1 obj untr offF code => Calls.spliced_nil ⟨I1.kIn, ?_⟩)
  refine wpAny_call (codeAny_mono (R := CR C8.CX0 X.stack X.prog X.w H1 s' Q C8.E0) ?_ fun r s2 out => ?_)
  · refine run_ofS (N := Ng) (ps := [a]) (us := [.ref f]) (vs := [.ref f]) lk hcd2 Sg room I1.env0 (hb s' [.ref f] I1.kIn rfl) (.cons rfl .nil) rfl fun room2 => ?_
    obtain ⟨t', ht', hq'⟩ := gives cdv f c' s' H1 Q (fun E H' Q' => t E σ H' Q') (fun W pn xe p1 p2 tk => pe_actS I1 L obj untr offF (bnd _ _ _ _ _) tk room2 (fun A outer s H E hr2 => hbody A outer s H E f c' hr2) at0 vis hd hcd) code (want H1 grown tabs1)
    exact ⟨t', ht'.nox, hq'⟩
  · match r, out with
    | .error e, out => exact (show False from out).elim
    | .ok (.ret u), out => exact I1.after out
end
end Ph

/-! PhKt: isinstance of a kept error by a tuple of classes. -/
namespace Ph
open PySem PySem.Spec PyProof.Rows L2
section
variable {X : Cx}
def rIsKt (K : PySem.W.Frag) : List V → Hp → VK → Prop := fun xs H Q => ∃ (a D t : Addr) (d : Option Addr) (cs : List V) (cvs : List Value) (b : Bool), xs = [.ref a, .ref t] ∧ H a = some (ExK (.ref D) d a) ∧ ExcC K D ∧ DictK H d ∧ H t = some (.tup cs) ∧
  (∀ us, Vals cs us → us = cvs) ∧ PySem.W.kitAny K (.ref D) cvs = some b ∧ Q (.bl b) H
theorem call_isKt : CallR X (.builtin "isinstance") (rIsKt X.K) := by
  intro pins s σ H xs us Q I r h
  obtain ⟨a, D, t, d, cs, cvs, b, rfl, ea, C, k, ht, hcv, e, q⟩ := h
  obtain ⟨ua, uc, rfl, ra, rc⟩ : ∃ ua uc, us = [ua, uc] ∧ RelV (.ref a) ua ∧ RelV (.ref t) uc := by
    cases r with
    | cons r1 r2 => cases r2 with
      | cons r3 r4 =>
        cases r4
        exact ⟨_, _, rfl, r1, r3⟩
  obtain rfl : ua = Value.ref a := ra
  obtain rfl : uc = Value.ref t := rc
  obtain ⟨oe, hget, hz, hf⟩ := exK_at I ea
  obtain ⟨od, J⟩ := inst_at I.hok hget hz hf k
  have cl : (PySem.W.clsIn X.K D).isSome = true := by
    obtain ⟨cd, hc, _⟩ := PySem.W.any_some C.hd
    rw [hc]
    rfl
  have hx : ObjOk X.prog X.w H s.heap t (.tup cs) := I.hok t _ ht
  obtain ⟨_, its, rv, o, ho, hc, n, hdat⟩ := hx
  obtain rfl := hcv _ rv
  obtain ⟨oc, odd, oda, osl⟩ := o
  dsimp only at hc hdat
  subst hc hdat
  exact PySem.W.kia_tup (PySem.W.kitx_exc (od := od) cl C.hg C.hk C.hs C.ha C.hn C.ht C.hm) I.kIn J ho e (fun z => nomatch z) fun tk => ⟨.bl b, H, I.kept (t' := tk) fun _ _ z => z, rfl, q⟩
def rIsV (K : PySem.W.Frag) : List V → Hp → VK → Prop := fun xs H Q => rIsK K xs H Q ∨ rIsKt K xs H Q
theorem call_isV : CallR X (.builtin "isinstance") (rIsV X.K) := fun pins s σ H xs us Q I r h => h.elim (call_isK pins s σ H xs us Q I r) (call_isKt pins s σ H xs us Q I r)
end
end Ph

set_option maxHeartbeats 8000000
namespace Ph
open PySem PySem.Spec PyProof.Rows L2
section
/-- what _law_error makes of what it asks: None, or the caught BadSize -/
def TErr (CS : Addr) : (XK → Hp → VK → Prop) → Hp → VK → Prop := fun tl H Q => ∀ (H2 : Hp) (E' : XK) (Q' : VK), Same H H2 →
  (∀ d x H', H' d = some (.xd [("size", x)]) → (∀ H'' a, Same H' H'' → H'' a = some (ExK (.ref CS) (some d) a) → H'' d = some (.xd [("size", x)]) → Q (.ref a) H'') → E' (.ref CS) (some d) H') →
  (∀ v H1, Q .non H1 → Q' v H1) → tl E' H2 Q'
theorem er_gives {X : Cx} (Z : Fns X.K X.mg) {cdg : Value} {q : Str} : GivesS X scErN "_law_error" (defScope sEr) Z.fEr cdg (defBody sEr) "_law_ask" q (TErr Z.CBadSize) := by
  intro f c' s H Q tl act hc h
  refine ⟨_, (pss_cons (ps_set (i := 1) scEr.nd rfl (.inl rfl) pe_non)
 (pss_cons (ps_try_keep (X := (cxOf C8.CX0 X.prog X.w X.K X.mg X.base scErN "_law_error" (defScope sEr) Z.fEr cdg X.A X.stack s H C8.E0).nox) (i := 2) (c := .ref Z.CHeapError) (tb := fun W D σ H => tAct f c' q tl W σ H (fun v H1 => D.nx σ H1)) rfl rfl rfl scEr.nd rfl rfl ⟨by rfl, by decide, .inl Z.gcHeapError⟩ (fun W pn xe tk _ => pss_one (ps_expr (act W pn xe _ _ tk))) (fun a oe cls d pn hz hf => pss_one (ps_set (i := 1) scEr.nd rfl (.inl rfl) (pv 2))))
 (pss_one (ps_ret (pv 1))))), ?_⟩
  refine ⟨rfl, hc, _, fun cls d H' hh => hh, h H _ _ (Same.refl _) (fun d x H1 hd fin => ?_) (fun v H1 fin => ?_)⟩
  · refine ⟨Z.exBadSize, fun a na => ?_⟩
    refine ⟨.ref a, rfl, fun na1 => ?_⟩
    have s1 := same_upd (o := ExK (.ref Z.CBadSize) (some d) a) na1
    exact ⟨.ref a, rfl, fin _ a s1 upd_same (s1 _ _ hd)⟩
  · exact ⟨.non, rfl, fin⟩
end
abbrev lamT (P : Addr) : List (Addr × Str) := [(P, (envOfC "_law_refused" (defScope sRe) 0 0 (.ref 0)).qual ++ "<lambda>")]
section
variable {P : Program} {w : World} {K : PySem.W.Frag} {mg : Str → Option Value} {base : Heap}
theorem tabsAt {H : Hp} {p c : Addr} (h : ∀ q ∈ [(c, p)], H q.2 = some (.tbl #[])) : LamX.Tabs (lamT p) H := fun q hq => by
  rw [List.mem_singleton.mp hq]
  exact LamX.TabS.nil (h (c, p) (List.mem_singleton.mpr rfl))
def spRe (K : PySem.W.Frag) (P : Addr) : Sp := fun vs H Q _ => ∃ (x : V) (d : PyData), vs = [x] ∧ LamX.Tabs (lamT P) H ∧ (∀ G, LamX.ExtN H G → NoInt K G x ∨ ∃ i : Int, x = .int i ∧ ¬ (1 ≤ i ∧ i ≤ 4096)) ∧ (∀ G, LamX.ExtN H G → Dq K G x d) ∧ d.showable = true ∧ d.depth ≤ 60 ∧ d.shown.length ≤ sizeLine ∧ ∀ H', LamX.ExtN H H' → LamX.Tabs (lamT P) H' → Q (.bl true) H'
theorem ok_Re {k : Nat} (Z : Fns K mg) (TB : LamX.TabB base mg Z.cRe Z.pRe) : FnG P w K mg base CX0 (k + 1 + 1 + 11 + 1 + 1 + 1 + 1 + 1) Z.fRe Z.fdRe ["_law_many"] (spRe K Z.pRe) := by
  have XBc : FnOk P w K mg base (L2.CX P w) (k + 1 + 1 + 11 + 1 + 1) Z.fBc Z.fdBc ["page", "words"] (spBcR K Z.CBadSize) := okX_Bc Z
  refine okGC Z.FRe Z.eRe scRe (fun vs H Q E h => ?_) (fun A outer s H vs Q E hgu hr h => ?_)
  · obtain ⟨x, d, rfl, _⟩ := h
    rfl
  · obtain ⟨x, d, rfl, tabs, bad, dq, r1, r2, r3, q⟩ := h
    have hu64 := u64_of hr
    refine ⟨_, (pss_cons (ps_set (i := 1) scRe.nd rfl (.inl rfl) (pe_lamS (T := lamT Z.pRe) (by rfl) Z.gEr Z.FEr Z.bEr scEr rfl (.inl rfl) (fun cdv => er_gives (X := (cxOf CX0 P w K mg base scReN "_law_refused" (defScope sRe) Z.fRe (.ref Z.cRe) A outer s H E).nox) Z) TB rfl (.head _) (fun p hp _ => by rw [List.mem_singleton.mp hp]; rfl) (hr.mono (by omega)) (LamX.lamS_by (sc := defScope sRe) (by decide +kernel)) rfl (fun _ _ _ _ _ => rfl) (fun A outer s H E f c' hr2 => pe_call XBc hr2 (by rfl) Z.gBc Z.FBc.kp Z.bBc .nil (passes_call (takes_of rfl rfl rfl rfl) (fun _ _ _ _ h => h)) (pa_cons (pv 0) (pa_cons pe_int pa_nil)))))
 (pss_cons (ps_if (PW.pt (pw_or (pt_not (pt_val (pe_callB call_isV (by rfl) Z.N.isinstance (by decide +kernel) (pa_cons (pv 1) (pa_cons (pe_glob (v := .ref Z.CBadSize) (by rfl) Z.gcBadSize rfl) pa_nil))))) (pw_or1 (pt_val (pe_callB call_isV (by rfl) Z.N.isinstance (by decide +kernel) (pa_cons (pv 1) (pa_cons (pe_tup (pa_cons (pe_glob (v := .ref Z.CBadChain) (by rfl) Z.gcBadChain rfl) (pa_cons (pe_glob (v := .ref Z.CBadPages) (by rfl) Z.gcBadPages rfl) pa_nil))) pa_nil)))))))
 (pss_one (ps_ret pe_bl)) pss_nil)
 (pss_one (ps_ret (pe_cmpR op_eq (pe_callB (call_rqA hgu hu64) (by rfl) Z.N.repr (by decide +kernel) (pa_cons (pe_xk Z.xfBadSize Z.nfBadSize_size (pv 1)) pa_nil)) (pe_callB (call_rqA hgu hu64) (by rfl) Z.N.repr (by decide +kernel) (pa_cons (pv 0) pa_nil)) (nomark _)))))), ?_⟩
    refine ⟨tabs, fun H10 x10 t10 H11 E' Q' s11 hE hQ => ?_⟩
    have x11 := x10.trans (LamX.ExtN.of s11)
    refine ⟨x, rfl, x, .int 5, rfl, bad H11 x11, fun H12 dd s12 hdd => hE dd x H12 hdd fun H13 a s13 ha hd13 => ?_⟩
    have x13 := x11.trans (LamX.ExtN.of (s12.trans s13))
    have t13 := tabs_same (tabs_same t10 s11) (s12.trans s13)
    dsimp only [gName]
    have two : ∀ us, Vals [V.ref Z.CBadChain, V.ref Z.CBadPages] us → us = [Value.ref Z.CBadChain, Value.ref Z.CBadPages] := fun us r => by
      cases r with
      | cons r1 r2 => cases r2 with
        | cons r3 r4 =>
          cases r4
          cases r1
          cases r3
          rfl
    refine ⟨.ref a, rfl, .inl ⟨a, _, _, _, _, true, rfl, ha, Z.ecBadSize, .inr ⟨dd, _, rfl, hd13⟩, (fun u r => r), Z.isBadSize_BadSize, _, rfl, ite2 (fun c => absurd c (by decide)) (fun _ => ?_)⟩⟩
    refine ⟨.ref a, rfl, (by show 2 ≤ sizeLine; decide), fun T nT => .inr ⟨a, Z.CBadSize, T, some dd, _, _, false, rfl, same_upd nT _ _ ha, Z.ecBadSize, .inr ⟨dd, _, rfl, same_upd nT _ _ hd13⟩, upd_same, two, kitAny_cons Z.isBadSize_BadChain (fun _ => kitAny_cons Z.isBadSize_BadPages (fun _ => rfl) (fun z => nomatch z)) (fun z => nomatch z), _, rfl, ite2 (fun z => nomatch z) (fun _ => ?_)⟩⟩
    have sT := same_upd (o := .tup [V.ref Z.CBadChain, V.ref Z.CBadPages]) nT
    have x14 := x13.trans (LamX.ExtN.of sT)
    refine ⟨.ref a, rfl, a, dd, _, x, rfl, sT _ _ ha, sT _ _ hd13, rfl, x, d, rfl, dq _ x14, r1, r2, r3, x, rfl, x, d, rfl, dq _ x14, r1, r2, r3, rfl, ?_⟩
    show Q (.bl (decide (V.str d.shown = V.str d.shown))) _
    rw [decide_eq_true rfl]
    exact q _ x14 (tabs_same t13 sT)
end
end Ph

set_option maxHeartbeats 8000000
namespace Ph
open PySem PySem.Spec PyProof.Rows L2
theorem ext_but {q : Addr} {H H1 H2 : Hp} (x : LamX.ExtN H H1) (n : H q = none) (b : But q H1 H2) : LamX.ExtN H H2 := fun c o e t => b c o (ne_of_none e n) (x c o e t)
theorem po_tabs {T : List (Addr × Str)} {q : Addr} {H H' : Hp} (t : LamX.Tabs T H) (b : But q H H') (p : Po H q) : LamX.Tabs T H' := by
  obtain ⟨g, r, n, e, _⟩ := p
  exact tabs_but t b e
section
variable {P : Program} {w : World} {K : PySem.W.Frag} {mg : Str → Option Value} {base : Heap}
def spLaw (K : PySem.W.Frag) (P : Addr) : Sp := fun vs H Q _ => ∃ (a : Addr) (ns : List Int), vs = [.ref a] ∧ SqL K H a (ns.map V.int) ∧ ns.length ≤ 63 ∧ LamX.Tabs (lamT P) H ∧ ∀ H', Q (.bl true) H'
theorem ok_Law {k : Nat} (Z : Fns K mg) (TB : LamX.TabB base mg Z.cRe Z.pRe) : FnG P w K mg base CX0 (k + 1 + 1 + 1 + 11 + 1 + 1 + 1 + 1 + 1) Z.fLaw Z.fdLaw ["_law_script"] (spLaw K Z.pRe) := by
  have GDw : FnOk P w K mg base CX0 (k + 1) Z.fDw Z.fdDw ["_law_script", "_law_index"] (spDw K) := ok_Dw Z
  have GNx : FnOk P w K mg base CX0 (k + 1) Z.fNx Z.fdNx ["_law_pot_here", "_law_count_here"] spNx := ok_Nx Z
  have GPk : FnOk P w K mg base CX0 (k + 1 + 1) Z.fPk Z.fdPk ["_law_pot_here", "_law_some"] (spPk K) := ok_Pk Z
  have GPr : FnG P w K mg base CX0 (k + 1 + 1 + 1 + 11 + 1 + 1) Z.fPr Z.fdPr ["_law_many", "_law_words"] spPr := ok_Pr Z
  have GRe : FnG P w K mg base CX0 (k + 1 + 1 + 11 + 1 + 1 + 1 + 1 + 1) Z.fRe Z.fdRe ["_law_many"] (spRe K Z.pRe) := ok_Re Z TB
  refine okG Z.FLaw scLaw (fun vs H Q E h => ?_) (fun cdv A outer s H vs Q E hgu hr h => ?_)
  · obtain ⟨a, ns, rfl, _⟩ := h
    rfl
  · obtain ⟨a, ns, rfl, hS, hl, tabs, fin⟩ := h
    have hu64 := u64_of hr
    refine ⟨_, (pss_cons (ps_set (i := 1) scLaw.nd rfl (.inl rfl) (pe_call GDw (hr.mono (by omega)) (by rfl) Z.gDw Z.FDw.kp Z.bDw .nil pass0 (pa_cons (pv 0) (pa_cons pe_int pa_nil))))
 (pss_cons (ps_if (pt_not (pt_val (pe_callG GPr hgu (hr.mono (by omega)) (by rfl) Z.gPr Z.FPr.kp Z.bPr (pa_cons (pe_call GPk (hr.mono (by omega)) (by rfl) Z.gPk Z.FPk.kp Z.bPk .nil pass0 (pa_cons (pv 1) (pa_cons (pe_lst (pa_cons pe_int (pa_cons pe_int (pa_cons pe_int (pa_cons pe_int (pa_cons pe_int pa_nil)))))) pa_nil))) (pa_cons (pe_call GNx (hr.mono (by omega)) (by rfl) Z.gNx Z.FNx.kp Z.bNx .nil pass0 (pa_cons (pv 1) (pa_cons pe_int pa_nil))) pa_nil)))))
 (pss_one (ps_ret pe_bl)) pss_nil)
 (pss_cons (ps_for PassesOwn.never rfl (pi_range1 (by rfl) Z.N.range (pa_cons (pe_callB (call_max2 rfl) (by rfl) Z.N.max (by decide +kernel) (pa_cons pe_int (pa_cons (pe_callB (call_min2 rfl) (by rfl) Z.N.min (by decide +kernel) (pa_cons pe_int (pa_cons (pe_callB call_len_seq (by rfl) Z.N.len (by decide +kernel) (pa_cons (pv 0) pa_nil)) pa_nil))) pa_nil))) pa_nil)) (pg_name (i := 2) scLaw.nd rfl (.inl rfl))
 (pss_cons (ps_set (i := 1) scLaw.nd rfl (.inl rfl) (pe_call GDw (hr.mono (by omega)) (by rfl) Z.gDw Z.FDw.kp Z.bDw .nil pass0 (pa_cons (pv 0) (pa_cons (pv 2) pa_nil))))
 (pss_one (ps_for PassesOwn.never rfl (pi_range1 (by rfl) Z.N.range (pa_cons pe_int pa_nil)) (pg_name (i := 3) scLaw.nd rfl (.inl rfl))
 (pss_cons (ps_set (i := 4) scLaw.nd rfl (.inl rfl) (pe_call GPk (hr.mono (by omega)) (by rfl) Z.gPk Z.FPk.kp Z.bPk .nil pass0 (pa_cons (pv 1) (pa_cons (pe_lst (pa_cons pe_int (pa_cons pe_int (pa_cons pe_int (pa_cons pe_int (pa_cons pe_int (pa_cons pe_int (pa_cons pe_int (pa_cons pe_int (pa_cons pe_int (pa_cons pe_int (pa_cons (pe_op op_add pe_int (pe_call GNx (hr.mono (by omega)) (by rfl) Z.gNx Z.FNx.kp Z.bNx .nil pass0 (pa_cons (pv 1) (pa_cons pe_int pa_nil)))) (pa_cons pe_int (pa_cons pe_int (pa_cons pe_int pa_nil))))))))))))))) pa_nil))))
 (pss_one (ps_if (pt_not (pt_val (pe_callG GPr hgu (hr.mono (by omega)) (by rfl) Z.gPr Z.FPr.kp Z.bPr (pa_cons (pv 4) (pa_cons (pe_call GNx (hr.mono (by omega)) (by rfl) Z.gNx Z.FNx.kp Z.bNx .nil pass0 (pa_cons (pv 1) (pa_cons (pe_ifExp (pt_cmpR op_lt (pv 4) pe_int (nomark _)) pe_int pe_int) pa_nil))) pa_nil)))))
 (pss_one (ps_ret pe_bl)) pss_nil)))))))
 (pss_one (ps_ret (pe_callB (cr_all rfl) (by rfl) Z.N.all (by decide +kernel) (pa_cons (pe_lc (own := [("_law_many", 4)]) (g := (gName 4)) (tt := tYes) (by rfl) scLaw.nd (pi_tup (pe_tup (pa_cons pe_int (pa_cons (pe_un un_neg pe_int) (pa_cons pe_int (pa_cons pe_bl (pa_cons pe_non (pa_cons pe_str (pa_cons (pe_tup (pa_cons pe_int pa_nil)) (pa_cons (pe_lst pa_nil) (pa_cons pe_dnewK (pa_cons (pe_op op_pow pe_int pe_int) pa_nil)))))))))))) (blkOk_by (N := scLawN) (sc := defScope scLawS) (by decide +kernel)) (fun _ _ _ _ _ => (pg_name (i := 4) scLaw.nd rfl (.inl rfl))) (fun _ _ _ _ _ => pts_nil) (fun _ _ _ _ _ => (pe_callG GRe hgu (hr.mono (by omega)) (by rfl) Z.gRe Z.FRe.kp Z.bRe (pa_cons (pv 4) pa_nil)))) pa_nil))))))), ?_⟩
    refine ⟨.ref a, rfl, a, ns, 0, rfl, hS, by omega, fun H1 p s1 np hp => ?_⟩
    have tb1 := tabs_same tabs s1
    have x1 : LamX.ExtN H H1 := .of s1
    dsimp only [gName]
    refine ⟨.ref p, rfl, (by show 5 ≤ sizeLine; decide), fun l nl => ⟨p, l, _, rfl, hp.same (same_upd nl), .inl (.inl (.inl upd_same)), (hp.ne_none nl).symm, List.cons_ne_nil _ _, by simp, fun H2 v b2 hp2 hv => ?_⟩⟩
    have sl := same_upd (o := .lst [.int 180, .int 240, .int 360, .int 210, .int 192]) nl
    have x2 : LamX.ExtN H H2 := ext_but (x1.trans (.of sl)) np b2
    have tb2 := po_tabs (tabs_same tb1 sl) b2 (hp.same sl)
    obtain ⟨g, rfl, g1, g2⟩ : ∃ g : Nat, v = .int (g : Int) ∧ 1 ≤ g ∧ g ≤ 360 := by
      simp only [List.mem_cons, List.not_mem_nil, or_false] at hv
      rcases hv with h | h | h | h | h
      · exact ⟨180, h, by decide, by decide⟩
      · exact ⟨240, h, by decide, by decide⟩
      · exact ⟨360, h, by decide, by decide⟩
      · exact ⟨210, h, by decide, by decide⟩
      · exact ⟨192, h, by decide, by decide⟩
    refine ⟨.ref p, rfl, p, 16, rfl, hp2, by decide, by decide, fun H3 d b3 hp3 d0 d1 => ?_⟩
    obtain ⟨e, rfl⟩ : ∃ e : Nat, d = e := ⟨d.toNat, by omega⟩
    refine ⟨g, e, rfl, g1, g2, by omega, fun H4 s4 => ⟨_, rfl, ite2 (fun c => absurd c (by decide)) (fun _ => ?_)⟩⟩
    have x4 : LamX.ExtN H H4 := (ext_but x2 np b3).trans (.of s4)
    have tb4 := tabs_same (po_tabs tb2 b3 hp2) s4
    have hS4 := ext_seq x4 hS
    delta tNext
    dsimp only
    refine seqS (fun σ' H' => ∃ y1 y2 y3 y4, σ' = [some (.ref a), y1, y2, y3, y4] ∧ LamX.ExtN H H' ∧ LamX.Tabs (lamT Z.pRe) H') (fun D' hD' => ?_) ?_
    · refine ⟨.ref a, rfl, a, _, rfl, .inl hS4, _, _, rfl, _, _, rfl, ?_⟩
      rw [List.length_map]
      generalize hz : (if (if (ns.length : Int) < 3 then (ns.length : Int) else 3) > 1 then (if (ns.length : Int) < 3 then (ns.length : Int) else 3) else (1 : Int)) = z
      have z3 : 0 ≤ z ∧ z ≤ 3 := by
        rw [← hz]
        split <;> split <;> omega
      refine ⟨z, rfl, by omega, by omega, ?_⟩
      refine for_range (lo := 0) (n := z.toNat) (fun i σ H5 => ∃ y1 y2 y3 y4, σ = [some (.ref a), y1, y2, y3, y4] ∧ LamX.ExtN H H5 ∧ LamX.Tabs (lamT Z.pRe) H5) ⟨_, _, _, _, rfl, x4, tb4⟩ ?_ ?_
      · rintro i σ H5 hi ⟨y1, y2, y3, y4, rfl, x5, tb5⟩
        have e : (0 : Int) + (i : Int) = ((i : Nat) : Int) := by omega
        rw [e]
        refine ⟨.ref a, rfl, .int i, rfl, a, ns, i, rfl, ext_seq x5 hS, by omega, fun H6 p s6 np hp => ?_⟩
        have tb6 := tabs_same tb5 s6
        dsimp only [gName]
        refine ⟨4, rfl, by decide, by decide, ?_⟩
        refine for_range (lo := 0) (n := 4) (fun j σ H7 => ∃ y3 y4, σ = [some (.ref a), some (.ref p), some (.int i), y3, y4] ∧ LamX.ExtN H5 H7 ∧ LamX.Tabs (lamT Z.pRe) H7 ∧ Po H7 p) ⟨_, _, rfl, .of s6, tb6, hp⟩ ?_ ?_
        · rintro j σ H7 hj ⟨y3, y4, rfl, x7, tb7, hp7⟩
          refine ⟨.ref p, rfl, .ref p, rfl, p, 48, rfl, hp7, by decide, by decide, fun H8 d b8 hp8 d0 d1 => ?_⟩
          refine ⟨_, _, rfl, rfl, (by show 14 ≤ sizeLine; decide), fun l nl => ⟨p, l, _, rfl, hp8.same (same_upd nl), .inl (.inl (.inl upd_same)), (hp8.ne_none nl).symm, List.cons_ne_nil _ _, by simp, fun H9 v b9 hp9 hv => ?_⟩⟩
          have sl := same_upd (o := .lst [.int 1, .int 2, .int 4, .int 6, .int 8, .int 12, .int 16, .int 24, .int 36, .int 48, .int (1 + d), .int 64, .int 72, .int 96]) nl
          have x9 : LamX.ExtN H5 H9 := ext_but ((ext_but x7 np b8).trans (.of sl)) np b9
          have tb9 := po_tabs (tabs_same (po_tabs tb7 b8 hp7) sl) b9 (hp8.same sl)
          obtain ⟨g, rfl, g1, g2⟩ : ∃ g : Nat, v = .int (g : Int) ∧ 1 ≤ g ∧ g ≤ 360 := by
            have : ∃ z : Int, v = .int z ∧ 1 ≤ z ∧ z ≤ 360 := by
              simp only [List.mem_cons, List.not_mem_nil, or_false] at hv
              rcases hv with h | h | h | h | h | h | h | h | h | h | h | h | h | h <;> exact ⟨_, h, by omega, by omega⟩
            obtain ⟨z, h, h1, h2⟩ := this
            exact ⟨z.toNat, by rw [h]; congr 1; omega, by omega, by omega⟩
          dsimp only [gName]
          refine ⟨.int g, rfl, .ref p, rfl, .int g, rfl, _, _, rfl, rfl, _, rfl, ite2 (fun _ => ?_) (fun _ => ?_)⟩
          · refine ⟨p, 61, rfl, hp9, by decide, by decide, fun HA e bA hpA e0 e1 => ?_⟩
            obtain ⟨e, rfl⟩ : ∃ e' : Nat, e = e' := ⟨e.toNat, by omega⟩
            exact ⟨g, e, rfl, g1, g2, by omega, fun HB sB => ⟨_, rfl, ite2 (fun c => absurd c (by decide)) (fun _ => ⟨_, _, rfl, (ext_but x9 np bA).trans (.of sB), tabs_same (po_tabs tb9 bA hp9) sB, hpA.same sB⟩)⟩⟩
          · refine ⟨p, 31, rfl, hp9, by decide, by decide, fun HA e bA hpA e0 e1 => ?_⟩
            obtain ⟨e, rfl⟩ : ∃ e' : Nat, e = e' := ⟨e.toNat, by omega⟩
            exact ⟨g, e, rfl, g1, g2, by omega, fun HB sB => ⟨_, rfl, ite2 (fun c => absurd c (by decide)) (fun _ => ⟨_, _, rfl, (ext_but x9 np bA).trans (.of sB), tabs_same (po_tabs tb9 bA hp9) sB, hpA.same sB⟩)⟩⟩
        · rintro σ H7 ⟨y3, y4, rfl, x7, tb7, hp7⟩
          exact ⟨_, _, _, _, rfl, x5.trans x7, tb7⟩
      · rintro σ H5 ⟨y1, y2, y3, y4, rfl, x5, tb5⟩
        exact hD' _ _ ⟨_, _, _, _, rfl, x5, tb5⟩
    rintro σ5 H5 ⟨y1, y2, y3, y4, rfl, x5, tb5⟩
    refine ⟨1, rfl, (by show 1 ≤ sizeLine; decide), fun t4 n4 => ⟨(by show 0 ≤ sizeLine; decide), fun l0 m0 => fun k0 nk => ⟨_, _, rfl, rfl, ⟨by decide, by decide, by decide⟩, (by show 10 ≤ sizeLine; decide), fun T nT => ⟨T, rfl, ⟨_, .inl (.inl upd_same)⟩, fun D nD => ?_⟩⟩⟩⟩
    have u1 := same_upd (o := .tup [.int 4]) n4
    have e1 : upd H5 t4 (.tup [.int 4]) t4 = some (.tup [.int 4]) := upd_same
    generalize upd H5 t4 (.tup [.int 4]) = H6 at *
    have u2 := same_upd (o := .lst []) m0
    have e2 : upd H6 l0 (.lst []) l0 = some (.lst []) := upd_same
    generalize upd H6 l0 (.lst []) = H7 at *
    have u3 := same_upd (o := .dK []) nk
    have e3 : upd H7 k0 (.dK []) k0 = some (.dK []) := upd_same
    generalize upd H7 k0 (.dK []) = H8 at *
    have u4 := same_upd (o := .tup [.int 0, .int (-1), .int 4097, .bl true, .non, .str "4", .ref t4, .ref l0, .ref k0, .int (10 ^ (20 : Int).toNat)]) nT
    have e4 : upd H8 T (.tup [.int 0, .int (-1), .int 4097, .bl true, .non, .str "4", .ref t4, .ref l0, .ref k0, .int (10 ^ (20 : Int).toNat)]) T = some (.tup [.int 0, .int (-1), .int 4097, .bl true, .non, .str "4", .ref t4, .ref l0, .ref k0, .int (10 ^ (20 : Int).toNat)]) := upd_same
    generalize upd H8 T (.tup [.int 0, .int (-1), .int 4097, .bl true, .non, .str "4", .ref t4, .ref l0, .ref k0, .int (10 ^ (20 : Int).toNat)]) = H9 at *
    have tb9 := tabs_same tb5 (u1.trans (u2.trans (u3.trans u4)))
    have sd : ∀ {d : PyData}, d.showable = true ∧ d.depth ≤ 2 ∧ d.leavesShort 40 = true ∧ d.weight ≤ 2000 ∧ cpD d = true → Shd d 2 2000 := fun h => ⟨h.1, h.2.1, h.2.2.1, h.2.2.2.1, h.2.2.2.2⟩
    have f1 : ntb H9 t4 = some (.tup [.int 4]) := ntb_at (u4 _ _ (u3 _ _ (u2 _ _ e1))) fun _ z => nomatch z
    have f2 : ntb H9 l0 = some (.lst []) := ntb_at (u4 _ _ (u3 _ _ e2)) fun _ z => nomatch z
    have f3 : ntb H9 k0 = some (.dK []) := ntb_at (u4 _ _ e3) fun _ z => nomatch z
    have mk : ∀ {x : V} {d : PyData}, OdV K [] (ntb H9) 0 x d → (∀ i : Int, x = .int i → ¬ (1 ≤ i ∧ i ≤ 4096)) → ∃ d : PyData, (∀ G, LamX.ExtN H9 G → NoInt K G x ∨ ∃ i : Int, x = .int i ∧ ¬ (1 ≤ i ∧ i ≤ 4096)) ∧ (∀ G, LamX.ExtN H9 G → Dq K G x d) ∧ d.showable = true ∧ d.depth ≤ 60 ∧ d.shown.length ≤ sizeLine := fun {x d} ox h => by
      refine ⟨d, fun G e => ?_, fun G e => ((ox.same (ntb_ext e)).now).same ntb_sub, ox.sd.sh, Nat.le_trans ox.sd.dp (by decide), ox.sd.ln (by decide)⟩
      rcases ox.tyn with n | ⟨i, rfl⟩
      · exact .inl ((n.same (ntb_ext e)).same ntb_sub)
      · exact .inr ⟨i, rfl, h i rfl⟩
    have iv : ∀ {i : Int}, ¬ (1 ≤ i ∧ i ≤ 4096) → ∀ j : Int, V.int i = .int j → ¬ (1 ≤ j ∧ j ≤ 4096) := fun {i} h j z => by cases z; exact h
    have pv : ∀ x ∈ [V.int 0, .int (-1), .int 4097, .bl true, .non, .str "4", .ref t4, .ref l0, .ref k0, .int (10 ^ (20 : Int).toNat)], ∃ d : PyData, (∀ G, LamX.ExtN H9 G → NoInt K G x ∨ ∃ i : Int, x = .int i ∧ ¬ (1 ≤ i ∧ i ≤ 4096)) ∧ (∀ G, LamX.ExtN H9 G → Dq K G x d) ∧ d.showable = true ∧ d.depth ≤ 60 ∧ d.shown.length ≤ sizeLine := fun x hx => by
      simp only [List.mem_cons, List.not_mem_nil, or_false] at hx
      rcases hx with rfl | rfl | rfl | rfl | rfl | rfl | rfl | rfl | rfl | rfl
      · exact mk (OdV.int (by decide)) (iv (by decide))
      · exact mk (OdV.int (by decide)) (iv (by decide))
      · exact mk (OdV.int (by decide)) (iv (by decide))
      · exact mk (OdV.bl _) (fun _ z => nomatch z)
      · exact mk OdV.non (fun _ z => nomatch z)
      · exact mk (OdV.str _ (sd (by decide +kernel))) (fun _ z => nomatch z)
      · exact mk (OdV.tup f1 (fun z => nomatch z) (.cons (.int 4) .nil) (sd (by decide +kernel))) (fun _ z => nomatch z)
      · exact mk (OdV.lst f2 (fun z => nomatch z) .nil (sd (by decide +kernel))) (fun _ z => nomatch z)
      · exact mk (OdV.dct f3 (fun z => nomatch z) .nil (sd (by decide +kernel))) (fun _ z => nomatch z)
      · exact mk (OdV.intB (by decide)) (iv (by decide))
    have lv : ([V.int 0, .int (-1), .int 4097, .bl true, .non, .str "4", .ref t4, .ref l0, .ref k0, .int (10 ^ (20 : Int).toNat)]).length = 10 := rfl
    generalize [V.int 0, .int (-1), .int 4097, .bl true, .non, .str "4", .ref t4, .ref l0, .ref k0, .int (10 ^ (20 : Int).toNat)] = vals at *
    refine lc_it (walk_tup (K := K) (a := T) (xs := vals)) (fun i G => LamX.ExtN H9 G ∧ LamX.Tabs (lamT Z.pRe) G ∧ G D = some (.lst ((List.replicate i true).map V.bl))) ⟨.of (same_upd nD), tabs_same tb9 (same_upd nD), upd_same⟩ (fun i G _ q => .inl (.inl (q.1 _ _ e4 fun _ z => nomatch z))) (fun i x G G' hi q yy => ?_) (fun G q => ?_)
    · obtain ⟨rfl, hx⟩ := yy
      obtain ⟨d, bad, dq, r1, r2, r3⟩ := pv x (List.mem_of_getElem? hx)
      obtain ⟨xG, tbG, hDG⟩ := q
      refine ⟨rfl, ?_⟩
      delta tYes
      refine ite2 (fun _ => ?_) (fun c => absurd rfl c)
      refine ⟨x, rfl, x, d, rfl, tbG, fun K e => bad _ (xG.trans e), fun K e => dq _ (xG.trans e), r1, r2, r3, fun G4 xx tb4 => ?_⟩
      have hD4 := xx _ _ hDG (fun _ z => nomatch z)
      rw [lv] at hi
      refine ⟨_, hD4, by rw [List.length_map, List.length_replicate]; exact Nat.lt_trans hi (by decide), fun c o e nt => by rw [upd_ne (ne_of_none e nD)]; exact xx _ _ (xG _ _ e nt) nt, tabs_but tb4 (fun c o nc e => (upd_ne nc).trans e) hD4, ?_⟩
      rw [upd_same, List.replicate_succ', List.map_append]
      rfl
    · refine ⟨D, List.replicate vals.length true, rfl, .inl (.inl q.2.2), ?_⟩
      have e : (List.replicate vals.length true).all id = true := by simp
      show Q (.bl ((List.replicate vals.length true).all id)) _
      rw [e]
      exact fin _
end
end Ph

set_option maxHeartbeats 8000000
namespace Ph
open PySem PySem.Spec PyProof.Rows L2
theorem all_mk {l : PySem.W.OpenLaw} {w : World} {K : PySem.W.Frag} {h : Heap} {mg : Str → Option Value} {fa : Addr} (X : K.In h) (G : h.Ns mainGlobals mg) (hfa : mg "law" = some (.ref fa)) {q : Program} (TT : TabsTold q K h)
    {CHeapError : Addr} (aCHeapError : PySem.W.nsIn K mainGlobals "HeapError" = some (some (.ref CHeapError)))
    {CBadChain : Addr} (aCBadChain : PySem.W.nsIn K mainGlobals "BadChain" = some (some (.ref CBadChain)))
    {CBadPages : Addr} (aCBadPages : PySem.W.nsIn K mainGlobals "BadPages" = some (some (.ref CBadPages)))
    {CBadSize : Addr} (aCBadSize : PySem.W.nsIn K mainGlobals "BadSize" = some (some (.ref CBadSize)))
    (bxH : PySem.W.subIn K (.ref CHeapError) (.type "BaseException") = some true) (hdH : PySem.W.hasDictIn K CHeapError = true) (tyH : PySem.W.typeIn K (.ref CHeapError) = some (.type "type"))
    (zve : PySem.W.nsIn K mainGlobals "ValueError" = some none)
    (cgX : PySem.W.specialIn K (.builtin "object.__class__") "__get__" = some (some (.builtin "getset_descriptor.__get__"))) (ctX : PySem.W.takesIn K (.builtin "object.__class__") = some true)
    {nmBadSize qBadSize : Str} {NBadSize : Addr} {bsBadSize : List Value} {snBadSize : List Str} {subBadSize : List Value} {abBadSize : Bool} {colBadSize : Option Bool} {ddBadSize : Option Addr} {m0BadSize m1BadSize m2BadSize m3BadSize m5BadSize : Option Value}
    (xLBadSize : K.lookup CBadSize = some (excClassObj nmBadSize qBadSize CBadSize NBadSize bsBadSize [.ref CHeapError, .type "ValueError", .type "Exception", .type "BaseException", .type "object"] true snBadSize subBadSize abBadSize colBadSize ddBadSize m0BadSize m1BadSize m2BadSize m3BadSize m5BadSize "ValueError.__new__"))
    (saBadSize : PySem.W.findIn K (.ref CBadSize) "__setattr__" = some (some (.builtin "object.__setattr__"))) (bxBadSize : PySem.W.subIn K (.ref CBadSize) (.type "BaseException") = some true) (tyBadSize : PySem.W.typeIn K (.ref CBadSize) = some (.type "type")) (kpBadSize : PySem.W.keepIn K (.ref CBadSize) = true)
    (gaBadSize : PySem.W.findIn K (.ref CBadSize) "__getattribute__" = some (some (.builtin "BaseException.__getattribute__"))) (ggBadSize : PySem.W.findIn K (.ref CBadSize) "__getattr__" = some none) (hdBadSize : PySem.W.hasDictIn K CBadSize = true) (caBadSize : PySem.W.findIn K (.ref CBadSize) "__class__" = some (some (.builtin "object.__class__"))) (moBadSize : PySem.W.mroIn K CBadSize (.type "object") = some true)
    (sHBadSize : PySem.W.subIn K (.ref CBadSize) (.ref CHeapError) = some true) (isBadSize_ValueError : PySem.W.kitOne K (.ref CBadSize) (.type "ValueError") = some true)
    (nfBadSize_size : PySem.W.findIn K (.ref CBadSize) "size" = some none)
    (isBadSize_HeapError : PySem.W.kitOne K (.ref CBadSize) (.ref CHeapError) = some true)
    (isBadSize_BadChain : PySem.W.kitOne K (.ref CBadSize) (.ref CBadChain) = some false)
    (isBadSize_BadPages : PySem.W.kitOne K (.ref CBadSize) (.ref CBadPages) = some false)
    (isBadSize_BadSize : PySem.W.kitOne K (.ref CBadSize) (.ref CBadSize) = some true)
    (ssBadSize_BadSize : PySem.W.subIn K (.ref CBadSize) (.ref CBadSize) = some true)
    {t_MOST_SIZES : Tok} (v_MOST_SIZES : PySem.W.nsIn K mainGlobals "MOST_SIZES" = some (some (.int 12 t_MOST_SIZES)))
    {t_LARGEST_PAGE : Tok} (v_LARGEST_PAGE : PySem.W.nsIn K mainGlobals "LARGEST_PAGE" = some (some (.int 4096 t_LARGEST_PAGE)))
    {f1 : Addr} {od1 an1 : Option Addr} {sl1 : Array (Option Value)} {oc1 kV1 dc1 pm1 cd1 ct1 : Value} (a1 : PySem.W.findIn K (.ref CBadSize) "__init__" = some (some (.ref f1))) (i1 : PySem.W.typeIn K (.ref f1) = some (.type "function")) (l1 : K.lookup f1 = some ⟨oc1, od1, .func (PySem.W.fnOf "__init__" "BadSize.__init__" (defArgs (inClass (topS 7) 0)) (defBody (inClass (topS 7) 0)) (defScope (inClass (topS 7) 0)) .none kV1 dc1 pm1 an1 cd1 ct1), sl1⟩) (c1 : PySem.W.codeIn K cd1 "BadSize.__init__" = true) (k1 : PySem.W.keepIn K (.ref f1) = true)
    {f2 : Addr} {od2 an2 : Option Addr} {sl2 : Array (Option Value)} {oc2 kV2 dc2 pm2 cd2 ct2 : Value} (a2 : PySem.W.nsIn K mainGlobals "is_integer" = some (some (.ref f2))) (l2 : K.lookup f2 = some ⟨oc2, od2, .func (PySem.W.fnOf "is_integer" "is_integer" (defArgs (topS 1)) (defBody (topS 1)) (defScope (topS 1)) .none kV2 dc2 pm2 an2 cd2 ct2), sl2⟩) (c2 : PySem.W.codeIn K cd2 "is_integer" = true) (k2 : PySem.W.keepIn K (.ref f2) = true)
    {f3 : Addr} {od3 an3 : Option Addr} {sl3 : Array (Option Value)} {oc3 kV3 dc3 pm3 cd3 ct3 : Value} (a3 : PySem.W.nsIn K mainGlobals "divided_up" = some (some (.ref f3))) (l3 : K.lookup f3 = some ⟨oc3, od3, .func (PySem.W.fnOf "divided_up" "divided_up" (defArgs (topS 2)) (defBody (topS 2)) (defScope (topS 2)) .none kV3 dc3 pm3 an3 cd3 ct3), sl3⟩) (c3 : PySem.W.codeIn K cd3 "divided_up" = true) (k3 : PySem.W.keepIn K (.ref f3) = true)
    {f4 : Addr} {od4 an4 : Option Addr} {sl4 : Array (Option Value)} {oc4 kV4 dc4 pm4 cd4 ct4 : Value} (a4 : PySem.W.nsIn K mainGlobals "may_follow" = some (some (.ref f4))) (l4 : K.lookup f4 = some ⟨oc4, od4, .func (PySem.W.fnOf "may_follow" "may_follow" (defArgs (topS 11)) (defBody (topS 11)) (defScope (topS 11)) .none kV4 dc4 pm4 an4 cd4 ct4), sl4⟩) (c4 : PySem.W.codeIn K cd4 "may_follow" = true) (k4 : PySem.W.keepIn K (.ref f4) = true)
    {f5 : Addr} {od5 an5 : Option Addr} {sl5 : Array (Option Value)} {oc5 kV5 dc5 pm5 cd5 ct5 : Value} (a5 : PySem.W.nsIn K mainGlobals "chains_of" = some (some (.ref f5))) (l5 : K.lookup f5 = some ⟨oc5, od5, .func (PySem.W.fnOf "chains_of" "chains_of" (defArgs (topS 12)) (defBody (topS 12)) (defScope (topS 12)) .none kV5 dc5 pm5 an5 cd5 ct5), sl5⟩) (c5 : PySem.W.codeIn K cd5 "chains_of" = true) (k5 : PySem.W.keepIn K (.ref f5) = true)
    {f6 : Addr} {od6 an6 : Option Addr} {sl6 : Array (Option Value)} {oc6 kV6 dc6 pm6 cd6 ct6 : Value} (a6 : PySem.W.nsIn K mainGlobals "chains_from" = some (some (.ref f6))) (l6 : K.lookup f6 = some ⟨oc6, od6, .func (PySem.W.fnOf "chains_from" "chains_from" (defArgs (topS 13)) (defBody (topS 13)) (defScope (topS 13)) .none kV6 dc6 pm6 an6 cd6 ct6), sl6⟩) (c6 : PySem.W.codeIn K cd6 "chains_from" = true) (k6 : PySem.W.keepIn K (.ref f6) = true)
    {f7 : Addr} {od7 an7 : Option Addr} {sl7 : Array (Option Value)} {oc7 kV7 dc7 pm7 cd7 ct7 : Value} (a7 : PySem.W.nsIn K mainGlobals "reaches" = some (some (.ref f7))) (l7 : K.lookup f7 = some ⟨oc7, od7, .func (PySem.W.fnOf "reaches" "reaches" (defArgs (topS 15)) (defBody (topS 15)) (defScope (topS 15)) .none kV7 dc7 pm7 an7 cd7 ct7), sl7⟩) (c7 : PySem.W.codeIn K cd7 "reaches" = true) (k7 : PySem.W.keepIn K (.ref f7) = true)
    {f8 : Addr} {od8 an8 : Option Addr} {sl8 : Array (Option Value)} {oc8 kV8 dc8 pm8 cd8 ct8 : Value} (a8 : PySem.W.nsIn K mainGlobals "reach" = some (some (.ref f8))) (l8 : K.lookup f8 = some ⟨oc8, od8, .func (PySem.W.fnOf "reach" "reach" (defArgs (topS 16)) (defBody (topS 16)) (defScope (topS 16)) .none kV8 dc8 pm8 an8 cd8 ct8), sl8⟩) (c8 : PySem.W.codeIn K cd8 "reach" = true) (k8 : PySem.W.keepIn K (.ref f8) = true)
    {f9 : Addr} {od9 an9 : Option Addr} {sl9 : Array (Option Value)} {oc9 kV9 dc9 pm9 cd9 ct9 : Value} (a9 : PySem.W.nsIn K mainGlobals "bounds" = some (some (.ref f9))) (l9 : K.lookup f9 = some ⟨oc9, od9, .func (PySem.W.fnOf "bounds" "bounds" (defArgs (topS 18)) (defBody (topS 18)) (defScope (topS 18)) .none kV9 dc9 pm9 an9 cd9 ct9), sl9⟩) (c9 : PySem.W.codeIn K cd9 "bounds" = true) (k9 : PySem.W.keepIn K (.ref f9) = true)
    {f10 : Addr} {od10 an10 : Option Addr} {sl10 : Array (Option Value)} {oc10 kV10 dc10 pm10 cd10 ct10 : Value} (a10 : PySem.W.nsIn K mainGlobals "numbers_from" = some (some (.ref f10))) (l10 : K.lookup f10 = some ⟨oc10, od10, .func (PySem.W.fnOf "numbers_from" "numbers_from" (defArgs (topS 19)) (defBody (topS 19)) (defScope (topS 19)) .none kV10 dc10 pm10 an10 cd10 ct10), sl10⟩) (c10 : PySem.W.codeIn K cd10 "numbers_from" = true) (k10 : PySem.W.keepIn K (.ref f10) = true)
    {f11 : Addr} {od11 an11 : Option Addr} {sl11 : Array (Option Value)} {oc11 kV11 dc11 pm11 cd11 ct11 : Value} (a11 : PySem.W.nsIn K mainGlobals "least_words" = some (some (.ref f11))) (l11 : K.lookup f11 = some ⟨oc11, od11, .func (PySem.W.fnOf "least_words" "least_words" (defArgs (topS 20)) (defBody (topS 20)) (defScope (topS 20)) .none kV11 dc11 pm11 an11 cd11 ct11), sl11⟩) (c11 : PySem.W.codeIn K cd11 "least_words" = true) (k11 : PySem.W.keepIn K (.ref f11) = true)
    {f12 : Addr} {od12 an12 : Option Addr} {sl12 : Array (Option Value)} {oc12 kV12 dc12 pm12 cd12 ct12 : Value} (a12 : PySem.W.nsIn K mainGlobals "pages_needed" = some (some (.ref f12))) (l12 : K.lookup f12 = some ⟨oc12, od12, .func (PySem.W.fnOf "pages_needed" "pages_needed" (defArgs (topS 21)) (defBody (topS 21)) (defScope (topS 21)) .none kV12 dc12 pm12 an12 cd12 ct12), sl12⟩) (c12 : PySem.W.codeIn K cd12 "pages_needed" = true) (k12 : PySem.W.keepIn K (.ref f12) = true)
    {f13 : Addr} {od13 an13 : Option Addr} {sl13 : Array (Option Value)} {oc13 kV13 dc13 pm13 cd13 ct13 : Value} (a13 : PySem.W.nsIn K mainGlobals "most_live" = some (some (.ref f13))) (l13 : K.lookup f13 = some ⟨oc13, od13, .func (PySem.W.fnOf "most_live" "most_live" (defArgs (topS 23)) (defBody (topS 23)) (defScope (topS 23)) .none kV13 dc13 pm13 an13 cd13 ct13), sl13⟩) (c13 : PySem.W.codeIn K cd13 "most_live" = true) (k13 : PySem.W.keepIn K (.ref f13) = true)
    {f14 : Addr} {od14 an14 : Option Addr} {sl14 : Array (Option Value)} {oc14 kV14 dc14 pm14 cd14 ct14 : Value} (a14 : PySem.W.nsIn K mainGlobals "best_requests" = some (some (.ref f14))) (l14 : K.lookup f14 = some ⟨oc14, od14, .func (PySem.W.fnOf "best_requests" "best_requests" (defArgs (topS 24)) (defBody (topS 24)) (defScope (topS 24)) .none kV14 dc14 pm14 an14 cd14 ct14), sl14⟩) (c14 : PySem.W.codeIn K cd14 "best_requests" = true) (k14 : PySem.W.keepIn K (.ref f14) = true)
    {f15 : Addr} {od15 an15 : Option Addr} {sl15 : Array (Option Value)} {oc15 kV15 dc15 pm15 cd15 ct15 : Value} (a15 : PySem.W.nsIn K mainGlobals "least_requests" = some (some (.ref f15))) (l15 : K.lookup f15 = some ⟨oc15, od15, .func (PySem.W.fnOf "least_requests" "least_requests" (defArgs (topS 25)) (defBody (topS 25)) (defScope (topS 25)) .none kV15 dc15 pm15 an15 cd15 ct15), sl15⟩) (c15 : PySem.W.codeIn K cd15 "least_requests" = true) (k15 : PySem.W.keepIn K (.ref f15) = true)
    {f16 : Addr} {od16 an16 : Option Addr} {sl16 : Array (Option Value)} {oc16 kV16 dc16 pm16 cd16 ct16 : Value} (a16 : PySem.W.nsIn K mainGlobals "enough_pages" = some (some (.ref f16))) (l16 : K.lookup f16 = some ⟨oc16, od16, .func (PySem.W.fnOf "enough_pages" "enough_pages" (defArgs (topS 26)) (defBody (topS 26)) (defScope (topS 26)) .none kV16 dc16 pm16 an16 cd16 ct16), sl16⟩) (c16 : PySem.W.codeIn K cd16 "enough_pages" = true) (k16 : PySem.W.keepIn K (.ref f16) = true)
    {f17 : Addr} {od17 an17 : Option Addr} {sl17 : Array (Option Value)} {oc17 kV17 dc17 pm17 cd17 ct17 : Value} (a17 : PySem.W.nsIn K mainGlobals "best_chain" = some (some (.ref f17))) (l17 : K.lookup f17 = some ⟨oc17, od17, .func (PySem.W.fnOf "best_chain" "best_chain" (defArgs (topS 27)) (defBody (topS 27)) (defScope (topS 27)) .none kV17 dc17 pm17 an17 cd17 ct17), sl17⟩) (c17 : PySem.W.codeIn K cd17 "best_chain" = true) (k17 : PySem.W.keepIn K (.ref f17) = true)
    {f18 : Addr} {od18 an18 : Option Addr} {sl18 : Array (Option Value)} {oc18 kV18 dc18 pm18 cd18 ct18 : Value} (a18 : PySem.W.nsIn K mainGlobals "fewest_pages" = some (some (.ref f18))) (l18 : K.lookup f18 = some ⟨oc18, od18, .func (PySem.W.fnOf "fewest_pages" "fewest_pages" (defArgs (topS 28)) (defBody (topS 28)) (defScope (topS 28)) .none kV18 dc18 pm18 an18 cd18 ct18), sl18⟩) (c18 : PySem.W.codeIn K cd18 "fewest_pages" = true) (k18 : PySem.W.keepIn K (.ref f18) = true)
    {f19 : Addr} {od19 an19 : Option Addr} {sl19 : Array (Option Value)} {oc19 kV19 dc19 pm19 cd19 ct19 : Value} (a19 : PySem.W.nsIn K mainGlobals "some_live" = some (some (.ref f19))) (l19 : K.lookup f19 = some ⟨oc19, od19, .func (PySem.W.fnOf "some_live" "some_live" (defArgs (topS 29)) (defBody (topS 29)) (defScope (topS 29)) .none kV19 dc19 pm19 an19 cd19 ct19), sl19⟩) (c19 : PySem.W.codeIn K cd19 "some_live" = true) (k19 : PySem.W.keepIn K (.ref f19) = true)
    {f20 : Addr} {od20 an20 : Option Addr} {sl20 : Array (Option Value)} {oc20 kV20 dc20 pm20 cd20 ct20 : Value} (a20 : PySem.W.nsIn K mainGlobals "gain" = some (some (.ref f20))) (l20 : K.lookup f20 = some ⟨oc20, od20, .func (PySem.W.fnOf "gain" "gain" (defArgs (topS 30)) (defBody (topS 30)) (defScope (topS 30)) .none kV20 dc20 pm20 an20 cd20 ct20), sl20⟩) (c20 : PySem.W.codeIn K cd20 "gain" = true) (k20 : PySem.W.keepIn K (.ref f20) = true)
    {f21 : Addr} {od21 an21 : Option Addr} {sl21 : Array (Option Value)} {oc21 kV21 dc21 pm21 cd21 ct21 : Value} (a21 : PySem.W.nsIn K mainGlobals "_law_pot" = some (some (.ref f21))) (l21 : K.lookup f21 = some ⟨oc21, od21, .func (PySem.W.fnOf "_law_pot" "_law_pot" (defArgs (topS 32)) (defBody (topS 32)) (defScope (topS 32)) .none kV21 dc21 pm21 an21 cd21 ct21), sl21⟩) (c21 : PySem.W.codeIn K cd21 "_law_pot" = true) (k21 : PySem.W.keepIn K (.ref f21) = true)
    {f22 : Addr} {od22 an22 : Option Addr} {sl22 : Array (Option Value)} {oc22 kV22 dc22 pm22 cd22 ct22 : Value} (a22 : PySem.W.nsIn K mainGlobals "_law_draw" = some (some (.ref f22))) (l22 : K.lookup f22 = some ⟨oc22, od22, .func (PySem.W.fnOf "_law_draw" "_law_draw" (defArgs (topS 33)) (defBody (topS 33)) (defScope (topS 33)) .none kV22 dc22 pm22 an22 cd22 ct22), sl22⟩) (c22 : PySem.W.codeIn K cd22 "_law_draw" = true) (k22 : PySem.W.keepIn K (.ref f22) = true)
    {f23 : Addr} {od23 an23 : Option Addr} {sl23 : Array (Option Value)} {oc23 kV23 dc23 pm23 cd23 ct23 : Value} (a23 : PySem.W.nsIn K mainGlobals "_law_pick" = some (some (.ref f23))) (l23 : K.lookup f23 = some ⟨oc23, od23, .func (PySem.W.fnOf "_law_pick" "_law_pick" (defArgs (topS 34)) (defBody (topS 34)) (defScope (topS 34)) .none kV23 dc23 pm23 an23 cd23 ct23), sl23⟩) (c23 : PySem.W.codeIn K cd23 "_law_pick" = true) (k23 : PySem.W.keepIn K (.ref f23) = true)
    {f24 : Addr} {od24 an24 : Option Addr} {sl24 : Array (Option Value)} {oc24 kV24 dc24 pm24 cd24 ct24 : Value} (a24 : PySem.W.nsIn K mainGlobals "_law_error" = some (some (.ref f24))) (l24 : K.lookup f24 = some ⟨oc24, od24, .func (PySem.W.fnOf "_law_error" "_law_error" (defArgs (topS 35)) (defBody (topS 35)) (defScope (topS 35)) .none kV24 dc24 pm24 an24 cd24 ct24), sl24⟩) (c24 : PySem.W.codeIn K cd24 "_law_error" = true) (k24 : PySem.W.keepIn K (.ref f24) = true)
    {f25 : Addr} {od25 an25 : Option Addr} {sl25 : Array (Option Value)} {oc25 kV25 dc25 pm25 cd25 ct25 : Value} (a25 : PySem.W.nsIn K mainGlobals "_law_count" = some (some (.ref f25))) (l25 : K.lookup f25 = some ⟨oc25, od25, .func (PySem.W.fnOf "_law_count" "_law_count" (defArgs (topS 36)) (defBody (topS 36)) (defScope (topS 36)) .none kV25 dc25 pm25 an25 cd25 ct25), sl25⟩) (c25 : PySem.W.codeIn K cd25 "_law_count" = true) (k25 : PySem.W.keepIn K (.ref f25) = true)
    {f26 : Addr} {od26 an26 : Option Addr} {sl26 : Array (Option Value)} {oc26 kV26 dc26 pm26 cd26 ct26 : Value} (a26 : PySem.W.nsIn K mainGlobals "_law_bounds" = some (some (.ref f26))) (l26 : K.lookup f26 = some ⟨oc26, od26, .func (PySem.W.fnOf "_law_bounds" "_law_bounds" (defArgs (topS 37)) (defBody (topS 37)) (defScope (topS 37)) .none kV26 dc26 pm26 an26 cd26 ct26), sl26⟩) (c26 : PySem.W.codeIn K cd26 "_law_bounds" = true) (k26 : PySem.W.keepIn K (.ref f26) = true)
    {f27 : Addr} {od27 an27 : Option Addr} {sl27 : Array (Option Value)} {oc27 kV27 dc27 pm27 cd27 ct27 : Value} (a27 : PySem.W.nsIn K mainGlobals "_law_chains" = some (some (.ref f27))) (l27 : K.lookup f27 = some ⟨oc27, od27, .func (PySem.W.fnOf "_law_chains" "_law_chains" (defArgs (topS 38)) (defBody (topS 38)) (defScope (topS 38)) .none kV27 dc27 pm27 an27 cd27 ct27), sl27⟩) (c27 : PySem.W.codeIn K cd27 "_law_chains" = true) (k27 : PySem.W.keepIn K (.ref f27) = true)
    {f28 : Addr} {od28 an28 : Option Addr} {sl28 : Array (Option Value)} {oc28 kV28 dc28 pm28 cd28 ct28 : Value} (a28 : PySem.W.nsIn K mainGlobals "_law_most" = some (some (.ref f28))) (l28 : K.lookup f28 = some ⟨oc28, od28, .func (PySem.W.fnOf "_law_most" "_law_most" (defArgs (topS 39)) (defBody (topS 39)) (defScope (topS 39)) .none kV28 dc28 pm28 an28 cd28 ct28), sl28⟩) (c28 : PySem.W.codeIn K cd28 "_law_most" = true) (k28 : PySem.W.keepIn K (.ref f28) = true)
    {f29 : Addr} {od29 an29 : Option Addr} {sl29 : Array (Option Value)} {oc29 kV29 dc29 pm29 cd29 ct29 : Value} (a29 : PySem.W.nsIn K mainGlobals "_law_page_right" = some (some (.ref f29))) (l29 : K.lookup f29 = some ⟨oc29, od29, .func (PySem.W.fnOf "_law_page_right" "_law_page_right" (defArgs (topS 40)) (defBody (topS 40)) (defScope (topS 40)) .none kV29 dc29 pm29 an29 cd29 ct29), sl29⟩) (c29 : PySem.W.codeIn K cd29 "_law_page_right" = true) (k29 : PySem.W.keepIn K (.ref f29) = true)
    {f30 : Addr} {od30 an30 : Option Addr} {sl30 : Array (Option Value)} {oc30 kV30 dc30 pm30 cd30 ct30 : Value} (a30 : PySem.W.nsIn K mainGlobals "_law_refused" = some (some (.ref f30))) (l30 : K.lookup f30 = some ⟨oc30, od30, .func (PySem.W.fnOf "_law_refused" "_law_refused" (defArgs (topS 41)) (defBody (topS 41)) (defScope (topS 41)) .none kV30 dc30 pm30 an30 cd30 ct30), sl30⟩) (c30 : PySem.W.codeIn K cd30 "_law_refused" = true) (k30 : PySem.W.keepIn K (.ref f30) = true)
    {f31 : Addr} {od31 an31 : Option Addr} {sl31 : Array (Option Value)} {oc31 kV31 dc31 pm31 cd31 ct31 : Value} (a31 : PySem.W.nsIn K mainGlobals "law" = some (some (.ref f31))) (l31 : K.lookup f31 = some ⟨oc31, od31, .func (PySem.W.fnOf "law" "law" (defArgs (topS 42)) (defBody (topS 42)) (defScope (topS 42)) .none kV31 dc31 pm31 an31 cd31 ct31), sl31⟩) (c31 : PySem.W.codeIn K cd31 "law" = true) (k31 : PySem.W.keepIn K (.ref f31) = true)
    {tcRe tpRe : Addr} (ttRe : PySem.W.tabIn K "_law_refused" = some (tcRe, tpRe)) (toRe : K.lookup tpRe = none) (rqRe : ((recsOf q).find? fun e => e.name == ("_law_refused" : Str)).isSome = true)
    (z1 : PySem.W.nsIn K mainGlobals "len" = some none)
    (z2 : PySem.W.nsIn K mainGlobals "abs" = some none)
    (z3 : PySem.W.nsIn K mainGlobals "int" = some none)
    (z4 : PySem.W.nsIn K mainGlobals "range" = some none)
    (z5 : PySem.W.nsIn K mainGlobals "tuple" = some none)
    (z6 : PySem.W.nsIn K mainGlobals "max" = some none)
    (z7 : PySem.W.nsIn K mainGlobals "min" = some none)
    (z8 : PySem.W.nsIn K mainGlobals "repr" = some none)
    (z9 : PySem.W.nsIn K mainGlobals "isinstance" = some none)
    (z10 : PySem.W.nsIn K mainGlobals "bool" = some none)
    (z11 : PySem.W.nsIn K mainGlobals "all" = some none)
    (z12 : PySem.W.nsIn K mainGlobals "any" = some none)
    (z13 : PySem.W.nsIn K mainGlobals "list" = some none)
    (z14 : PySem.W.nsIn K mainGlobals "dict" = some none)
    (z15 : PySem.W.nsIn K mainGlobals "sorted" = some none)
    (z16 : PySem.W.nsIn K mainGlobals "set" = some none)
    (z17 : PySem.W.nsIn K mainGlobals "sum" = some none)
    (z18 : PySem.W.nsIn K mainGlobals "zip" = some none)
    (z19 : PySem.W.nsIn K mainGlobals "enumerate" = some none)
    (z20 : PySem.W.nsIn K mainGlobals "reversed" = some none)
    (z21 : PySem.W.nsIn K mainGlobals "str" = some none)
    (zd : PySem.W.nsIn K cStatics "sys.int_max_str_digits" = some none) :
    ∃ (fd : FuncData) (cs : List (Addr × Addr)), TabsE K h cs ∧ (∀ (s : Shared) (v : Value), BindsTo s fd ⟨[v], []⟩ [("_law_script", v)]) ∧ (∀ (H : Hp) (a : Addr) (ns : List Int), ns.length ≤ 63 → (∀ p ∈ cs, H p.2 = some (.tbl #[])) → SqL K H a (ns.map V.int) → spLaw K (cs.getD 0 (0, 0)).2 [.ref a] H (fun v _ => v = .bl true) fun _ _ _ => False) ∧ ∀ base : Heap, K.In base → base.Ns mainGlobals mg → (∀ p ∈ cs, LamX.TabB base mg p.1 p.2) → FnG l.prog w K mg base CX0 (0 + 1 + 1 + 1 + 1 + 1 + 1 + 1 + 1 + 1 + 1 + 1 + 1 + 1 + 1 + 1 + 1 + 1 + 1 + 1) fa fd ["_law_script"] (spLaw K (cs.getD 0 (0, 0)).2) := by
  have e := hfa.symm.trans (PySem.W.mg_of X G a31)
  cases e
  have F1 := fun_mk (x := "__init__") (qual := "BadSize.__init__") (st := (inClass (topS 7) 0)) l1 c1 k1
  have F2 := fun_mk (x := "is_integer") (qual := "is_integer") (st := (topS 1)) l2 c2 k2
  have F3 := fun_mk (x := "divided_up") (qual := "divided_up") (st := (topS 2)) l3 c3 k3
  have F4 := fun_mk (x := "may_follow") (qual := "may_follow") (st := (topS 11)) l4 c4 k4
  have F5 := fun_mk (x := "chains_of") (qual := "chains_of") (st := (topS 12)) l5 c5 k5
  have F6 := fun_mk (x := "chains_from") (qual := "chains_from") (st := (topS 13)) l6 c6 k6
  have F7 := fun_mk (x := "reaches") (qual := "reaches") (st := (topS 15)) l7 c7 k7
  have F8 := fun_mk (x := "reach") (qual := "reach") (st := (topS 16)) l8 c8 k8
  have F9 := fun_mk (x := "bounds") (qual := "bounds") (st := (topS 18)) l9 c9 k9
  have F10 := fun_mk (x := "numbers_from") (qual := "numbers_from") (st := (topS 19)) l10 c10 k10
  have F11 := fun_mk (x := "least_words") (qual := "least_words") (st := (topS 20)) l11 c11 k11
  have F12 := fun_mk (x := "pages_needed") (qual := "pages_needed") (st := (topS 21)) l12 c12 k12
  have F13 := fun_mk (x := "most_live") (qual := "most_live") (st := (topS 23)) l13 c13 k13
  have F14 := fun_mk (x := "best_requests") (qual := "best_requests") (st := (topS 24)) l14 c14 k14
  have F15 := fun_mk (x := "least_requests") (qual := "least_requests") (st := (topS 25)) l15 c15 k15
  have F16 := fun_mk (x := "enough_pages") (qual := "enough_pages") (st := (topS 26)) l16 c16 k16
  have F17 := fun_mk (x := "best_chain") (qual := "best_chain") (st := (topS 27)) l17 c17 k17
  have F18 := fun_mk (x := "fewest_pages") (qual := "fewest_pages") (st := (topS 28)) l18 c18 k18
  have F19 := fun_mk (x := "some_live") (qual := "some_live") (st := (topS 29)) l19 c19 k19
  have F20 := fun_mk (x := "gain") (qual := "gain") (st := (topS 30)) l20 c20 k20
  have F21 := fun_mk (x := "_law_pot") (qual := "_law_pot") (st := (topS 32)) l21 c21 k21
  have F22 := fun_mk (x := "_law_draw") (qual := "_law_draw") (st := (topS 33)) l22 c22 k22
  have F23 := fun_mk (x := "_law_pick") (qual := "_law_pick") (st := (topS 34)) l23 c23 k23
  have F24 := fun_mk (x := "_law_error") (qual := "_law_error") (st := (topS 35)) l24 c24 k24
  have F25 := fun_mk (x := "_law_count") (qual := "_law_count") (st := (topS 36)) l25 c25 k25
  have F26 := fun_mk (x := "_law_bounds") (qual := "_law_bounds") (st := (topS 37)) l26 c26 k26
  have F27 := fun_mk (x := "_law_chains") (qual := "_law_chains") (st := (topS 38)) l27 c27 k27
  have F28 := fun_mk (x := "_law_most") (qual := "_law_most") (st := (topS 39)) l28 c28 k28
  have F29 := fun_mk (x := "_law_page_right") (qual := "_law_page_right") (st := (topS 40)) l29 c29 k29
  have F30 := fun_mk (x := "_law_refused") (qual := "_law_refused") (st := (topS 41)) l30 c30 k30
  have F31 := fun_mk (x := "law") (qual := "law") (st := (topS 42)) l31 c31 k31
  let Z : Fns K mg := {
    N := ⟨PySem.W.mg_none_of X G z1, PySem.W.mg_none_of X G z2, PySem.W.mg_none_of X G z3, PySem.W.mg_none_of X G z4, PySem.W.mg_none_of X G z5, PySem.W.mg_none_of X G z6, PySem.W.mg_none_of X G z7, PySem.W.mg_none_of X G z8, PySem.W.mg_none_of X G z9, PySem.W.mg_none_of X G z10, PySem.W.mg_none_of X G z11, PySem.W.mg_none_of X G z12, PySem.W.mg_none_of X G z13, PySem.W.mg_none_of X G z14, PySem.W.mg_none_of X G z15, PySem.W.mg_none_of X G z16, PySem.W.mg_none_of X G z17, PySem.W.mg_none_of X G z18, PySem.W.mg_none_of X G z19, PySem.W.mg_none_of X G z20, PySem.W.mg_none_of X G z21, zd⟩,
    CHeapError := CHeapError,
    gcHeapError := PySem.W.mg_of X G aCHeapError,
    CBadChain := CBadChain,
    gcBadChain := PySem.W.mg_of X G aCBadChain,
    CBadPages := CBadPages,
    gcBadPages := PySem.W.mg_of X G aCBadPages,
    CBadSize := CBadSize,
    gcBadSize := PySem.W.mg_of X G aCBadSize,
    nve := PySem.W.mg_none_of X G zve,
    exBadSize_BadSize := PySem.W.exm_ref bxBadSize hdBadSize tyBadSize ssBadSize_BadSize,
    oxBadSize := ⟨⟨nmBadSize, qBadSize, NBadSize, bsBadSize, _, snBadSize, subBadSize, abBadSize, colBadSize, ddBadSize, m0BadSize, m1BadSize, m2BadSize, m3BadSize, m5BadSize, xLBadSize, rfl⟩, saBadSize, bxBadSize, tyBadSize, kpBadSize⟩,
    ecBadSize := ⟨gaBadSize, ggBadSize, bxBadSize, hdBadSize, caBadSize, cgX, ctX, moBadSize⟩,
    xfBadSize := ⟨gaBadSize, ggBadSize, bxBadSize, hdBadSize⟩,
    exBadSize := PySem.W.exm_ref bxH hdH tyH sHBadSize,
    isBadSize_ValueError := isBadSize_ValueError,
    nfBadSize_size := nfBadSize_size,
    isBadSize_HeapError := isBadSize_HeapError,
    isBadSize_BadChain := isBadSize_BadChain,
    isBadSize_BadPages := isBadSize_BadPages,
    isBadSize_BadSize := isBadSize_BadSize,
    k_MOST_SIZES := ⟨t_MOST_SIZES, PySem.W.mg_of X G v_MOST_SIZES⟩,
    k_LARGEST_PAGE := ⟨t_LARGEST_PAGE, PySem.W.mg_of X G v_LARGEST_PAGE⟩,
    fBs := f1, fdBs := _, FBs := F1, bBs := (F1.binds (ps := ["self", "size"]) fun _ _ _ _ _ _ us hl => match us, hl with | [_, _], _ => rfl), iBs := a1, tBs := i1,
    fI := f2, fdI := _, FI := F2, bI := (F2.binds (ps := ["value"]) fun _ _ _ _ _ _ us hl => match us, hl with | [_], _ => rfl), gI := PySem.W.mg_of X G a2,
    fDu := f3, fdDu := _, FDu := F3, bDu := (F3.binds (ps := ["number", "divisor"]) fun _ _ _ _ _ _ us hl => match us, hl with | [_, _], _ => rfl), gDu := PySem.W.mg_of X G a3,
    fMf := f4, fdMf := _, FMf := F4, bMf := (F4.binds (ps := ["larger", "size"]) fun _ _ _ _ _ _ us hl => match us, hl with | [_, _], _ => rfl), gMf := PySem.W.mg_of X G a4,
    fCo := f5, fdCo := _, FCo := F5, bCo := (F5.binds (ps := ["page"]) fun _ _ _ _ _ _ us hl => match us, hl with | [_], _ => rfl), gCo := PySem.W.mg_of X G a5,
    fCf := f6, fdCf := _, FCf := F6, bCf := (F6.binds (ps := ["begun", "page", "followers"]) fun _ _ _ _ _ _ us hl => match us, hl with | [_, _, _], _ => rfl), gCf := PySem.W.mg_of X G a6,
    fRs := f7, fdRs := _, FRs := F7, bRs := (F7.binds (ps := ["chain", "state"]) fun _ _ _ _ _ _ us hl => match us, hl with | [_, _], _ => rfl), gRs := PySem.W.mg_of X G a7,
    fR := f8, fdR := _, FR := F8, bR := (F8.binds (ps := ["state", "largest"]) fun _ _ _ _ _ _ us hl => match us, hl with | [_, _], _ => rfl), gR := PySem.W.mg_of X G a8,
    fBo := f9, fdBo := _, FBo := F9, bBo := (F9.binds (ps := ["chain", "limit"]) fun _ _ _ _ _ _ us hl => match us, hl with | [_, _], _ => rfl), gBo := PySem.W.mg_of X G a9,
    fNf := f10, fdNf := _, FNf := F10, bNf := (F10.binds (ps := ["chain", "limit", "reached"]) fun _ _ _ _ _ _ us hl => match us, hl with | [_, _, _], _ => rfl), gNf := PySem.W.mg_of X G a10,
    fLw := f11, fdLw := _, FLw := F11, bLw := (F11.binds (ps := ["chain", "numbers", "size"]) fun _ _ _ _ _ _ us hl => match us, hl with | [_, _, _], _ => rfl), gLw := PySem.W.mg_of X G a11,
    fPn := f12, fdPn := _, FPn := F12, bPn := (F12.binds (ps := ["chain", "limit"]) fun _ _ _ _ _ _ us hl => match us, hl with | [_, _], _ => rfl), gPn := PySem.W.mg_of X G a12,
    fMl := f13, fdMl := _, FMl := F13, bMl := (F13.binds (ps := ["chain", "words"]) fun _ _ _ _ _ _ us hl => match us, hl with | [_, _], _ => rfl), gMl := PySem.W.mg_of X G a13,
    fBr := f14, fdBr := _, FBr := F14, bBr := (F14.binds (ps := ["chain", "words"]) fun _ _ _ _ _ _ us hl => match us, hl with | [_, _], _ => rfl), gBr := PySem.W.mg_of X G a14,
    fLr := f15, fdLr := _, FLr := F15, bLr := (F15.binds (ps := ["chain"]) fun _ _ _ _ _ _ us hl => match us, hl with | [_], _ => rfl), gLr := PySem.W.mg_of X G a15,
    fEp := f16, fdEp := _, FEp := F16, bEp := (F16.binds (ps := ["chain", "words"]) fun _ _ _ _ _ _ us hl => match us, hl with | [_, _], _ => rfl), gEp := PySem.W.mg_of X G a16,
    fBc := f17, fdBc := _, FBc := F17, bBc := (F17.binds (ps := ["page", "words"]) fun _ _ _ _ _ _ us hl => match us, hl with | [_, _], _ => rfl), gBc := PySem.W.mg_of X G a17,
    fFp := f18, fdFp := _, FFp := F18, bFp := (F18.binds (ps := ["chain", "words"]) fun _ _ _ _ _ _ us hl => match us, hl with | [_, _], _ => rfl), gFp := PySem.W.mg_of X G a18,
    fSl := f19, fdSl := _, FSl := F19, bSl := (F19.binds (ps := ["chain", "words"]) fun _ _ _ _ _ _ us hl => match us, hl with | [_, _], _ => rfl), gSl := PySem.W.mg_of X G a19,
    fGa := f20, fdGa := _, FGa := F20, bGa := (F20.binds (ps := ["pair"]) fun _ _ _ _ _ _ us hl => match us, hl with | [_], _ => rfl), gGa := PySem.W.mg_of X G a20,
    fDw := f21, fdDw := _, FDw := F21, bDw := (F21.binds (ps := ["_law_script", "_law_index"]) fun _ _ _ _ _ _ us hl => match us, hl with | [_, _], _ => rfl), gDw := PySem.W.mg_of X G a21,
    fNx := f22, fdNx := _, FNx := F22, bNx := (F22.binds (ps := ["_law_pot_here", "_law_count_here"]) fun _ _ _ _ _ _ us hl => match us, hl with | [_, _], _ => rfl), gNx := PySem.W.mg_of X G a22,
    fPk := f23, fdPk := _, FPk := F23, bPk := (F23.binds (ps := ["_law_pot_here", "_law_some"]) fun _ _ _ _ _ _ us hl => match us, hl with | [_, _], _ => rfl), gPk := PySem.W.mg_of X G a23,
    fEr := f24, fdEr := _, FEr := F24, bEr := (F24.binds (ps := ["_law_ask"]) fun _ _ _ _ _ _ us hl => match us, hl with | [_], _ => rfl), gEr := PySem.W.mg_of X G a24,
    fUp := f25, fdUp := _, FUp := F25, bUp := (F25.binds (ps := ["_law_words", "_law_many"]) fun _ _ _ _ _ _ us hl => match us, hl with | [_, _], _ => rfl), gUp := PySem.W.mg_of X G a25,
    fLb := f26, fdLb := _, FLb := F26, bLb := (F26.binds (ps := ["_law_sizes", "_law_cap"]) fun _ _ _ _ _ _ us hl => match us, hl with | [_, _], _ => rfl), gLb := PySem.W.mg_of X G a26,
    fLs := f27, fdLs := _, FLs := F27, bLs := (F27.binds (ps := ["_law_many"]) fun _ _ _ _ _ _ us hl => match us, hl with | [_], _ => rfl), gLs := PySem.W.mg_of X G a27,
    fMo := f28, fdMo := _, FMo := F28, bMo := (F28.binds (ps := ["_law_sizes", "_law_words"]) fun _ _ _ _ _ _ us hl => match us, hl with | [_, _], _ => rfl), gMo := PySem.W.mg_of X G a28,
    fPr := f29, fdPr := _, FPr := F29, bPr := (F29.binds (ps := ["_law_many", "_law_words"]) fun _ _ _ _ _ _ us hl => match us, hl with | [_, _], _ => rfl), gPr := PySem.W.mg_of X G a29,
    fRe := f30, fdRe := _, FRe := F30, bRe := (F30.binds (ps := ["_law_many"]) fun _ _ _ _ _ _ us hl => match us, hl with | [_], _ => rfl), gRe := PySem.W.mg_of X G a30,
    fLaw := fa, fdLaw := _, FLaw := F31, bLaw := (F31.binds (ps := ["_law_script"]) fun _ _ _ _ _ _ us hl => match us, hl with | [_], _ => rfl), gLaw := PySem.W.mg_of X G a31,
    cRe := tcRe, pRe := tpRe, eRe := tab_code ttRe a30 l30 }
  have te : TabsE K h [(tcRe, tpRe)] := ⟨fun p hp => ?_, fun p hp => ?_, fun p hp => ?_⟩
  refine ⟨PySem.W.fnOf "law" "law" (defArgs (topS 42)) (defBody (topS 42)) (defScope (topS 42)) .none kV31 dc31 pm31 an31 cd31 ct31, [(tcRe, tpRe)], te, fun s v => .of_eq rfl, fun H a ns hl hT hS => ?_, fun base _ _ hB => ok_Law (k := 0) Z (hB (tcRe, tpRe) (by simp))⟩
  · exact ⟨a, ns, rfl, hS, hl, tabsAt hT, fun _ => rfl⟩
  · simp only [List.mem_cons, List.not_mem_nil, or_false] at hp
    rcases hp with rfl
    · exact (TT _ _ _ rqRe ttRe).2
  · simp only [List.mem_cons, List.not_mem_nil, or_false] at hp
    rcases hp with rfl
    · exact toRe
  · simp only [List.mem_cons, List.not_mem_nil, or_false] at hp
    rcases hp with rfl
    · exact (TT _ _ _ rqRe ttRe).1
end Ph
open PySem PySem.W PyProof.Rows
set_option maxHeartbeats 0 in
theorem PySem.Challenge.cw_pinnedheap_k38_chains_with_the_fewest_pa_holds : PySem.Challenge.rw_pinnedheap_k38_chains_with_the_fewest_pa.Holds := by
  w_on; o_law; k_head; (case hw => w_witness2)
  k_fill
  refine Ph.walkTG (l := PySem.Challenge.rw_pinnedheap_k38_chains_with_the_fewest_pa) (n := 63) (k := (0 + 1 + 1 + 1 + 1 + 1 + 1 + 1 + 1 + 1 + 1 + 1 + 1 + 1 + 1 + 1 + 1 + 1 + 1 + 1)) (x := "_law_script") (sp := fun K cs => Ph.spLaw K (cs.getD 0 (0, 0)).2) rfl (by decide) rfl ⟨rfl, by decide, by decide⟩ (fun w h Y => by first | exact PySem.W.kIn_of Y | exact PySem.W.km_in_of Y) ?F
  case F =>
    intro w mg fa h KX G hmg TT
    refine' Ph.all_mk KX G hmg TT ?aCHeapError ?aCBadChain ?aCBadPages ?aCBadSize ?bxH ?hdH ?tyH ?zve ?cgX ?ctX ?xLBadSize ?saBadSize ?bxBadSize ?tyBadSize ?kpBadSize ?gaBadSize ?ggBadSize ?hdBadSize ?caBadSize ?moBadSize ?sHBadSize ?isBadSize_ValueError ?nfBadSize_size ?isBadSize_HeapError ?isBadSize_BadChain ?isBadSize_BadPages ?isBadSize_BadSize ?ssBadSize_BadSize ?v_MOST_SIZES ?v_LARGEST_PAGE ?a1 ?i1 ?l1 ?c1 ?k1 ?a2 ?l2 ?c2 ?k2 ?a3 ?l3 ?c3 ?k3 ?a4 ?l4 ?c4 ?k4 ?a5 ?l5 ?c5 ?k5 ?a6 ?l6 ?c6 ?k6 ?a7 ?l7 ?c7 ?k7 ?a8 ?l8 ?c8 ?k8 ?a9 ?l9 ?c9 ?k9 ?a10 ?l10 ?c10 ?k10 ?a11 ?l11 ?c11 ?k11 ?a12 ?l12 ?c12 ?k12 ?a13 ?l13 ?c13 ?k13 ?a14 ?l14 ?c14 ?k14 ?a15 ?l15 ?c15 ?k15 ?a16 ?l16 ?c16 ?k16 ?a17 ?l17 ?c17 ?k17 ?a18 ?l18 ?c18 ?k18 ?a19 ?l19 ?c19 ?k19 ?a20 ?l20 ?c20 ?k20 ?a21 ?l21 ?c21 ?k21 ?a22 ?l22 ?c22 ?k22 ?a23 ?l23 ?c23 ?k23 ?a24 ?l24 ?c24 ?k24 ?a25 ?l25 ?c25 ?k25 ?a26 ?l26 ?c26 ?k26 ?a27 ?l27 ?c27 ?k27 ?a28 ?l28 ?c28 ?k28 ?a29 ?l29 ?c29 ?k29 ?a30 ?l30 ?c30 ?k30 ?a31 ?l31 ?c31 ?k31 ?ttRe ?toRe ?rqRe ?z1 ?z2 ?z3 ?z4 ?z5 ?z6 ?z7 ?z8 ?z9 ?z10 ?z11 ?z12 ?z13 ?z14 ?z15 ?z16 ?z17 ?z18 ?z19 ?z20 ?z21 ?zd
    (case aCHeapError => first | k_is | kit_is | rfl | decide +kernel); (case aCBadChain => first | k_is | kit_is | rfl | decide +kernel); (case aCBadPages => first | k_is | kit_is | rfl | decide +kernel); (case aCBadSize => first | k_is | kit_is | rfl | decide +kernel); (case bxH => first | k_is | kit_is | rfl | decide +kernel); (case hdH => first | k_is | kit_is | rfl | decide +kernel); (case tyH => first | k_is | kit_is | rfl | decide +kernel); (case zve => first | k_is | kit_is | rfl | decide +kernel); (case cgX => first | k_is | kit_is | rfl | decide +kernel); (case ctX => first | k_is | kit_is | rfl | decide +kernel); (case xLBadSize => first | k_is | kit_is | rfl | decide +kernel); (case saBadSize => first | k_is | kit_is | rfl | decide +kernel); (case bxBadSize => first | k_is | kit_is | rfl | decide +kernel); (case tyBadSize => first | k_is | kit_is | rfl | decide +kernel); (case kpBadSize => first | k_is | kit_is | rfl | decide +kernel); (case gaBadSize => first | k_is | kit_is | rfl | decide +kernel); (case ggBadSize => first | k_is | kit_is | rfl | decide +kernel); (case hdBadSize => first | k_is | kit_is | rfl | decide +kernel); (case caBadSize => first | k_is | kit_is | rfl | decide +kernel); (case moBadSize => first | k_is | kit_is | rfl | decide +kernel); (case sHBadSize => first | k_is | kit_is | rfl | decide +kernel); (case isBadSize_ValueError => first | k_is | kit_is | rfl | decide +kernel); (case nfBadSize_size => first | k_is | kit_is | rfl | decide +kernel); (case isBadSize_HeapError => first | k_is | kit_is | rfl | decide +kernel); (case isBadSize_BadChain => first | k_is | kit_is | rfl | decide +kernel); (case isBadSize_BadPages => first | k_is | kit_is | rfl | decide +kernel); (case isBadSize_BadSize => first | k_is | kit_is | rfl | decide +kernel); (case ssBadSize_BadSize => first | k_is | kit_is | rfl | decide +kernel); (case v_MOST_SIZES => first | k_is | kit_is | rfl | decide +kernel); (case v_LARGEST_PAGE => first | k_is | kit_is | rfl | decide +kernel); (case a1 => first | k_is | kit_is | rfl | decide +kernel); (case i1 => first | k_is | kit_is | rfl | decide +kernel); (case l1 => first | k_is | kit_is | rfl | decide +kernel); (case c1 => first | k_is | kit_is | rfl | decide +kernel); (case k1 => first | k_is | kit_is | rfl | decide +kernel); (case a2 => first | k_is | kit_is | rfl | decide +kernel); (case l2 => first | k_is | kit_is | rfl | decide +kernel); (case c2 => first | k_is | kit_is | rfl | decide +kernel); (case k2 => first | k_is | kit_is | rfl | decide +kernel); (case a3 => first | k_is | kit_is | rfl | decide +kernel); (case l3 => first | k_is | kit_is | rfl | decide +kernel); (case c3 => first | k_is | kit_is | rfl | decide +kernel); (case k3 => first | k_is | kit_is | rfl | decide +kernel); (case a4 => first | k_is | kit_is | rfl | decide +kernel); (case l4 => first | k_is | kit_is | rfl | decide +kernel); (case c4 => first | k_is | kit_is | rfl | decide +kernel); (case k4 => first | k_is | kit_is | rfl | decide +kernel); (case a5 => first | k_is | kit_is | rfl | decide +kernel); (case l5 => first | k_is | kit_is | rfl | decide +kernel); (case c5 => first | k_is | kit_is | rfl | decide +kernel); (case k5 => first | k_is | kit_is | rfl | decide +kernel); (case a6 => first | k_is | kit_is | rfl | decide +kernel); (case l6 => first | k_is | kit_is | rfl | decide +kernel); (case c6 => first | k_is | kit_is | rfl | decide +kernel); (case k6 => first | k_is | kit_is | rfl | decide +kernel); (case a7 => first | k_is | kit_is | rfl | decide +kernel); (case l7 => first | k_is | kit_is | rfl | decide +kernel); (case c7 => first | k_is | kit_is | rfl | decide +kernel); (case k7 => first | k_is | kit_is | rfl | decide +kernel); (case a8 => first | k_is | kit_is | rfl | decide +kernel); (case l8 => first | k_is | kit_is | rfl | decide +kernel); (case c8 => first | k_is | kit_is | rfl | decide +kernel); (case k8 => first | k_is | kit_is | rfl | decide +kernel); (case a9 => first | k_is | kit_is | rfl | decide +kernel); (case l9 => first | k_is | kit_is | rfl | decide +kernel); (case c9 => first | k_is | kit_is | rfl | decide +kernel); (case k9 => first | k_is | kit_is | rfl | decide +kernel); (case a10 => first | k_is | kit_is | rfl | decide +kernel); (case l10 => first | k_is | kit_is | rfl | decide +kernel); (case c10 => first | k_is | kit_is | rfl | decide +kernel); (case k10 => first | k_is | kit_is | rfl | decide +kernel); (case a11 => first | k_is | kit_is | rfl | decide +kernel); (case l11 => first | k_is | kit_is | rfl | decide +kernel); (case c11 => first | k_is | kit_is | rfl | decide +kernel); (case k11 => first | k_is | kit_is | rfl | decide +kernel); (case a12 => first | k_is | kit_is | rfl | decide +kernel); (case l12 => first | k_is | kit_is | rfl | decide +kernel); (case c12 => first | k_is | kit_is | rfl | decide +kernel); (case k12 => first | k_is | kit_is | rfl | decide +kernel); (case a13 => first | k_is | kit_is | rfl | decide +kernel); (case l13 => first | k_is | kit_is | rfl | decide +kernel); (case c13 => first | k_is | kit_is | rfl | decide +kernel); (case k13 => first | k_is | kit_is | rfl | decide +kernel); (case a14 => first | k_is | kit_is | rfl | decide +kernel); (case l14 => first | k_is | kit_is | rfl | decide +kernel); (case c14 => first | k_is | kit_is | rfl | decide +kernel); (case k14 => first | k_is | kit_is | rfl | decide +kernel); (case a15 => first | k_is | kit_is | rfl | decide +kernel); (case l15 => first | k_is | kit_is | rfl | decide +kernel); (case c15 => first | k_is | kit_is | rfl | decide +kernel); (case k15 => first | k_is | kit_is | rfl | decide +kernel); (case a16 => first | k_is | kit_is | rfl | decide +kernel); (case l16 => first | k_is | kit_is | rfl | decide +kernel); (case c16 => first | k_is | kit_is | rfl | decide +kernel); (case k16 => first | k_is | kit_is | rfl | decide +kernel); (case a17 => first | k_is | kit_is | rfl | decide +kernel); (case l17 => first | k_is | kit_is | rfl | decide +kernel); (case c17 => first | k_is | kit_is | rfl | decide +kernel); (case k17 => first | k_is | kit_is | rfl | decide +kernel); (case a18 => first | k_is | kit_is | rfl | decide +kernel); (case l18 => first | k_is | kit_is | rfl | decide +kernel); (case c18 => first | k_is | kit_is | rfl | decide +kernel); (case k18 => first | k_is | kit_is | rfl | decide +kernel); (case a19 => first | k_is | kit_is | rfl | decide +kernel); (case l19 => first | k_is | kit_is | rfl | decide +kernel); (case c19 => first | k_is | kit_is | rfl | decide +kernel); (case k19 => first | k_is | kit_is | rfl | decide +kernel); (case a20 => first | k_is | kit_is | rfl | decide +kernel); (case l20 => first | k_is | kit_is | rfl | decide +kernel); (case c20 => first | k_is | kit_is | rfl | decide +kernel); (case k20 => first | k_is | kit_is | rfl | decide +kernel); (case a21 => first | k_is | kit_is | rfl | decide +kernel); (case l21 => first | k_is | kit_is | rfl | decide +kernel); (case c21 => first | k_is | kit_is | rfl | decide +kernel); (case k21 => first | k_is | kit_is | rfl | decide +kernel); (case a22 => first | k_is | kit_is | rfl | decide +kernel); (case l22 => first | k_is | kit_is | rfl | decide +kernel); (case c22 => first | k_is | kit_is | rfl | decide +kernel); (case k22 => first | k_is | kit_is | rfl | decide +kernel); (case a23 => first | k_is | kit_is | rfl | decide +kernel); (case l23 => first | k_is | kit_is | rfl | decide +kernel); (case c23 => first | k_is | kit_is | rfl | decide +kernel); (case k23 => first | k_is | kit_is | rfl | decide +kernel); (case a24 => first | k_is | kit_is | rfl | decide +kernel); (case l24 => first | k_is | kit_is | rfl | decide +kernel); (case c24 => first | k_is | kit_is | rfl | decide +kernel); (case k24 => first | k_is | kit_is | rfl | decide +kernel); (case a25 => first | k_is | kit_is | rfl | decide +kernel); (case l25 => first | k_is | kit_is | rfl | decide +kernel); (case c25 => first | k_is | kit_is | rfl | decide +kernel); (case k25 => first | k_is | kit_is | rfl | decide +kernel); (case a26 => first | k_is | kit_is | rfl | decide +kernel); (case l26 => first | k_is | kit_is | rfl | decide +kernel); (case c26 => first | k_is | kit_is | rfl | decide +kernel); (case k26 => first | k_is | kit_is | rfl | decide +kernel); (case a27 => first | k_is | kit_is | rfl | decide +kernel); (case l27 => first | k_is | kit_is | rfl | decide +kernel); (case c27 => first | k_is | kit_is | rfl | decide +kernel); (case k27 => first | k_is | kit_is | rfl | decide +kernel); (case a28 => first | k_is | kit_is | rfl | decide +kernel); (case l28 => first | k_is | kit_is | rfl | decide +kernel); (case c28 => first | k_is | kit_is | rfl | decide +kernel); (case k28 => first | k_is | kit_is | rfl | decide +kernel); (case a29 => first | k_is | kit_is | rfl | decide +kernel); (case l29 => first | k_is | kit_is | rfl | decide +kernel); (case c29 => first | k_is | kit_is | rfl | decide +kernel); (case k29 => first | k_is | kit_is | rfl | decide +kernel); (case a30 => first | k_is | kit_is | rfl | decide +kernel); (case l30 => first | k_is | kit_is | rfl | decide +kernel); (case c30 => first | k_is | kit_is | rfl | decide +kernel); (case k30 => first | k_is | kit_is | rfl | decide +kernel); (case a31 => first | k_is | kit_is | rfl | decide +kernel); (case l31 => first | k_is | kit_is | rfl | decide +kernel); (case c31 => first | k_is | kit_is | rfl | decide +kernel); (case k31 => first | k_is | kit_is | rfl | decide +kernel); (case ttRe => first | k_is | kit_is | rfl | decide +kernel); (case toRe => first | k_is | kit_is | rfl | decide +kernel); (case rqRe => first | k_is | kit_is | rfl | decide +kernel); (case z1 => first | k_is | kit_is | rfl | decide +kernel); (case z2 => first | k_is | kit_is | rfl | decide +kernel); (case z3 => first | k_is | kit_is | rfl | decide +kernel); (case z4 => first | k_is | kit_is | rfl | decide +kernel); (case z5 => first | k_is | kit_is | rfl | decide +kernel); (case z6 => first | k_is | kit_is | rfl | decide +kernel); (case z7 => first | k_is | kit_is | rfl | decide +kernel); (case z8 => first | k_is | kit_is | rfl | decide +kernel); (case z9 => first | k_is | kit_is | rfl | decide +kernel); (case z10 => first | k_is | kit_is | rfl | decide +kernel); (case z11 => first | k_is | kit_is | rfl | decide +kernel); (case z12 => first | k_is | kit_is | rfl | decide +kernel); (case z13 => first | k_is | kit_is | rfl | decide +kernel); (case z14 => first | k_is | kit_is | rfl | decide +kernel); (case z15 => first | k_is | kit_is | rfl | decide +kernel); (case z16 => first | k_is | kit_is | rfl | decide +kernel); (case z17 => first | k_is | kit_is | rfl | decide +kernel); (case z18 => first | k_is | kit_is | rfl | decide +kernel); (case z19 => first | k_is | kit_is | rfl | decide +kernel); (case z20 => first | k_is | kit_is | rfl | decide +kernel); (case z21 => first | k_is | kit_is | rfl | decide +kernel); (case zd => first | k_is | kit_is | rfl | decide +kernel)
