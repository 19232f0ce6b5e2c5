import PyProof.Rows.All
import Wide.All
import OpenK.AllK
import Wide.FinOn
import HandS.ForMost
import HandS.SetFor
import HandS.Strs
import HandS.SortInts
import HandS.Conv
import KE.KDictSum
import HandS.ForExc
import HandS.Wide
import HandS.Zip
import HandS.TupAny
import HandS.RaiseMore
import HandS.IsInst
import KE.KIntText
import HandS.SortRule
import HandS.SortKw
import HandS.Star
import KE.DataMinMax
import HandS.SetBool
import HandS.Walk
import KE.GoesEnum
import HandS.TupLe
import HandS.Deep
import PyProof.P3In
import PyProof.ReprRoads
import PyProof.ReprLen
import KE.DatumOrd
import KE.SortData
import KE.LtData
import HandS.DictComp
import PyProof.RowDictHeap
import PyProof.EqKinds
import PyProof.FactsAll.dict_1
import PyProof.FactsAll.subtypes_4
import KE.KTupSum
import HandS.Sort
import KE.KDictList
import HandS.Small
import HandS.Defaults
import HandS.Style
import KE.KExcIs
import HandS.Exc
import HandS.ExcIs
import HandS.ExcField
import HandS.ExcInit
import HandS.ExcOwn
import HandS.WordsExc
import PyProof.Lay0
import PyProof.EnumMake
import PyProof.Draws
import PyProof.CallFns
import HandS.MakeKwOnly
import HandS.NestedK
import HandS.Iter
import KE.DataMinKey
import KE.KMinKey
import HandS.EndTab
import KE.KNest
import HandS.SlotsOwn
import HandS.TupSets
import KE.KRevSl
import PySem.Challenge.RW_pinnedheap_k01_each_error_alone
set_option Elab.async false
set_option linter.all false
set_option maxRecDepth 100000
namespace Ph
open PySem PySem.Spec PyProof.Rows L2
/-! ### set(list of ints): the members, any number of them below the line -/
abbrev sob (w : World) : Obj := { cls := .type "set", dict := none, data := .set #[] 0 (.fresh 0 0 (!w.params.followText "set-order")) }
section
variable {P : Program} {w : World} {A : Around} {E : Value → Shared → Prop} {s : Shared}
set_option maxHeartbeats 4000000 in
theorem set_of_list {l : Addr} {its : Array Value} (ns : List Int) {Q : Value → Shared → Prop} (calm : A.handled = none) (isl : s.heap.IsList l its) (ints0 : IntsAre its.toList ns) (few : ns.length + 1 < scanBound)
    (q : ∀ (g : Heap) (tk c : Nat), SetR w g s.heap.objs.size (fun j => decide (j ∈ ns)) c → c ≤ ns.length → (∀ b u, s.heap.get? b = some u → g.get? b = some u) → Q (.ref s.heap.objs.size) { s with heap := g, toks := tk }) :
    wpAny (model P w) A (call (.type "set") [.ref l]) Q E s := by
  have size : its.size = ns.length := by rw [← Array.length_toList]; exact IntsAre.length ints0
  have y1 := F.called_set.made
  have y2 := F.called_set.sub
  have y3 := F.called_set.notType
  have y4 := F.called_set.canCreate
  have y5 := F.typeCall_set_1 (.ref l)
  obtain ⟨c0, tl, y6⟩ := F.called_set.mro
  refine wpAny_call (codeAny_of_tree ?_)
  show wpAny (model P w) _ (callAny (.type "set") ⟨[.ref l], []⟩) _ _ s
  refine wpAny_pure ⟨Code.quiet_builtin _ (by decide +kernel), codeAny_builtin F.entry_type_call ?_⟩; rw [Around.under_plain (weight_type_call_type "set" [.ref l] []) rfl]
  repeat (any_goals (first | assumption | wp_step))
  refine codeAny_mono (code_set_led1 (.ref l) (E := E) (Q₁ := fun z t => z = .ref s.heap.objs.size ∧ t = { s with heap := s.heap.push (sob w) }) ⟨rfl, rfl⟩) fun r s₁ hr => ?_
  match r, hr with
  | .error e, hr => exact hr
  | .ok (.ret z), hr =>
    obtain ⟨rfl, rfl⟩ := hr
    have at0 : (s.heap.push (sob w)).get? s.heap.objs.size = some (sob w) := Heap.get?_push_size _ rfl
    have ty0 : Shared.TypeIs { s with heap := s.heap.push (sob w) } (.ref s.heap.objs.size) "set" := ⟨_, at0, rfl⟩
    have y7 := F.called_set.init.lookup
    have y8 := F.called_set.init.bind (.ref s.heap.objs.size)
    repeat (any_goals (first | assumption | wp_step))
    refine codeAny_mono (codeAny_call_builtin (R := wants (fun r t => r = .none ∧ ∃ g tk c, t = { s with heap := g, toks := tk } ∧ SetR w g s.heap.objs.size (fun j => decide (j ∈ ns)) c ∧ c ≤ ns.length ∧ (∀ b u, s.heap.get? b = some u → g.get? b = some u)) E)
      F.called_set.init.plain F.entry_set_init (check_set_init_1 ty0 ?_)) fun r₂ s₂ hr₂ => ?_
    · obtain ⟨⟨oc, od, dt, os⟩, hol, ec, nl, ed⟩ := isl
      cases ec; cases ed
      have hol1 : (s.heap.push (sob w)).get? l = some { cls := .type "list", dict := od, data := .seq its nl, slots := os } := Heap.get?_push_of_some _ hol
      have y9 := F.sub_list_set
      have y10 := F.sub_list_frozenset
      have y11 : (Value.type "list" == Value.type "dict") = false := by decide
      have isl1 : (s.heap.push (sob w)).IsList l its := ⟨_, hol1, rfl, nl, rfl⟩
      unfold Builtin.«set.__init__» noKeywords Builtin.Frozenset.updateFrom
      generalize hPI : pyIter = PI; wp_walk; subst hPI
      refine wpAny_pyIter_list isl1 (wpAny_bind (wpAny_runValue ?_))
      have lS : l < s.heap.objs.size := Heap.lt_size hol
      have sz1 : (s.heap.push (sob w)).objs.size = s.heap.objs.size + 1 := Heap.size_push ..
      have calm3 : A.in1.in1.in1.handled = none := by simp [calm]
      refine set_update_ints ((Walks.list calm3 (s.heap.push (sob w)).objs.size l (by rw [sz1]; exact Nat.ne_of_lt (Nat.lt_succ_of_lt lS)) its).toS) s.heap.objs.size ?_ ns size few ?_ (its.size - 0) 0 _ (by omega) (Nat.zero_le _) ⟨⟨_, Heap.get?_push_size _ rfl, rfl, rfl⟩, isl1.push _⟩ ?_ ?_
      · rw [sz1]
        intro z
        rcases List.mem_cons.mp z with e | e
        · exact Nat.ne_of_lt (Nat.lt_succ_self _) e
        · exact Nat.ne_of_gt lS (List.mem_singleton.mp e)
      · intro i v hv
        have hi : i < ns.length := by rw [← size]; exact (Array.getElem?_eq_some_iff.mp hv).1
        obtain ⟨t, e⟩ := PyProof.Rows.IntsAre.int_at ints0 i v (by rw [Array.getElem?_toList]; exact hv)
        exact ⟨ns[i], t, List.getElem?_eq_getElem hi, by rw [e, List.getD_eq_getElem?_getD, List.getElem?_eq_getElem hi]; rfl⟩
      · exact ⟨0, Nat.le_refl 0, setR_new_at (Heap.get?_push_of_some _ at0)⟩
      · rintro ⟨g, g2, d', tk', os'⟩ c hm hc hS
        cases (show g2 = s.gens from hm.gens)
        cases (show d' = s.drawn from hm.drawn)
        cases (show os' = s.os from hm.os)
        rw [size] at hc
        show wpAny _ _ _ _ _ _
        refine wpAny_pure ?_
        show wpAny _ _ (ret Value.none) _ _ _
        refine wpAny_pure ⟨rfl, g, tk', c, rfl, hS, hc, fun b u e => hm.heap b u (fun z => ?_) (Heap.get?_push_of_some _ (Heap.get?_push_of_some _ e))⟩
        have hb := Heap.lt_size e
        rw [sz1] at z
        rcases List.mem_cons.mp z with e | e
        · exact Nat.ne_of_lt hb e
        · exact Nat.ne_of_lt (Nat.lt_succ_of_lt hb) (List.mem_singleton.mp e)
    · match r₂, hr₂ with
      | .error e, h => exact h
      | .ok (.ret r), h =>
        obtain ⟨rfl, g, tk, c, rfl, h1, h2, h3⟩ := h
        repeat (any_goals (first | assumption | wp_step))
        exact q _ _ _ h1 h2 h3
      | .ok .next, h => exact h.elim
end
section
variable {X : Cx}
/-- set(xs), xs a list of ints -/
def rSetI (K : PySem.W.Frag) (w : World) : List V → Hp → VK → Prop := fun vs H Q => ∃ (l : Addr) (ns : List Int), vs = [V.ref l] ∧ SqL K H l (ns.map V.int) ∧ ns.length + 1 < scanBound ∧
  ∀ a c, H a = none → (ns.Nodup → c = ns.length) → Q (.ref a) (upd H a (SetO w a (fun j => decide (j ∈ ns)) c))
theorem cr_setI (hc : X.calm = true) : CallR X (.type "set") (rSetI X.K X.w) := by
  intro pins s σ H vs us Q I r h
  obtain ⟨l, ns, rfl, hl, few, q⟩ := h
  obtain ⟨its, rv, pl, hz⟩ := I.list hl
  rw [Vals.ref1 r]
  refine set_of_list ns (I.ok.hd hc) pl.isList (by simpa using rv.ints) few fun g tk c R _ k => ?_
  refine ⟨.ref _, upd H s.heap.objs.size (SetO X.w s.heap.objs.size (fun j => decide (j ∈ ns)) c), I.laid (t' := tk) k (Nat.le_refl _) (setO_new R), rfl, q _ _ (I.hok.fresh (Nat.le_refl _)) fun nd => ?_⟩
  obtain ⟨o, es, ep, t, ho, hex, hd, good, nd2, mem, _, _, hn, _⟩ := R
  have pm : (es.toList.map keyOf).Perm ns := (List.perm_ext_iff_of_nodup nd2 nd).mpr fun k => by rw [← mem k]; exact decide_eq_true_iff
  rw [← hn, ← pm.length_eq, List.length_map, Array.length_toList]
end
end Ph

namespace Ph
open PySem PySem.Spec PyProof.Rows L2
section
variable {P : Program} {w : World} {A : Around} {E : Value → Shared → Prop} {s : Shared}
/-- sorted(set of ints), any number of members -/
theorem sorted_of_set {a : Addr} {S : Int → Bool} {n : Nat} {Q : Value → Shared → Prop} (R : SetR w s.heap a S n) (calm : A.handled = none)
    (q : ∀ t p (out : Array Value) (c : Nat) (ns : List Int), (∀ b u, s.heap.get? b = some u → t.heap.get? b = some u) → t.gens = s.gens → t.os = s.os → s.heap.objs.size ≤ p → t.heap.get? p = some (seqObj "list" out c) → IntsAre out.toList ns → ns.Pairwise (· < ·) → (∀ k, k ∈ ns ↔ S k = true) → ns.length = n → Q (.ref p) t) :
    wpAny (model P w) A (call (.builtin "sorted") [.ref a]) Q E s := by
  obtain ⟨o, es, ep, t, ho, hex, hd, good, nd, mem, few, fits, hn, ris, led⟩ := R
  refine Calls.call_function_entry kind_sorted plain_sorted entry_sorted (args_sorted1 _) ?_; unfold Builtin.«sorted»
  refine wpAny_bind (m := checkCount "sorted" 1 1 _) (wpAny_pure (wpAny_bind (collect_set (A := A.in1) calm ⟨o, ho, hex.1, hd⟩ fits few ris led fun s1 vs k1 hz g1 o1 pm => ?_)))
  have lenv : vs.length = n := by rw [pm.length_eq, List.length_map, Array.length_toList]; exact hn
  have bound : vs.length ≤ sizeLine := by rw [lenv, ← hn]; exact Nat.le_trans (Nat.le_of_lt few) (by decide +kernel)
  have isI : ∀ v ∈ vs, ∃ k tk, v = Value.int k tk := fun v hv => by
    obtain ⟨e, he, q1⟩ := List.mem_map.mp (pm.mem_iff.mp hv)
    obtain ⟨k, tk, h1, _⟩ := good e he
    exact ⟨k, tk, q1 ▸ h1⟩
  have hI := SrtO.ints_iv isI
  have keys : (vs.map SrtO.iv).Perm (es.toList.map keyOf) := by
    have z := pm.map SrtO.iv
    rw [List.map_map] at z
    refine z.trans (List.Perm.of_eq (List.map_congr_left fun e he => ?_))
    obtain ⟨k, tk, h1, h2⟩ := good e he
    show SrtO.iv e.2 = keyOf e
    rw [key_vInt, h1]
    rfl
  refine wpAny_bind (wpAny_newList ?_ bound)
  have at1 : (s1.heap.push (seqObj "list" vs.toArray 0)).get? s1.heap.objs.size = some (seqObj "list" vs.toArray 0) := Heap.get?_push_size _ rfl
  refine wpAny_bind (wpAny_holding (wpAny_call_entry slot_list_sort ⟨_, at1, rfl⟩ entry_list_sort (SrtO.list_sort_ord SrtO.swo_int at1 bound (fun h2 => SrtO.ints_sortable hI h2) fun out b1 b2 => ⟨_, rfl, ?_⟩) (args_list_sort _)))
  obtain ⟨k2, k3, k4⟩ := SrtO.ints_out hI b1 b2
  obtain ⟨c, hc⟩ := sortedHeap_at (vs := vs) (out := out.toArray) at1
  have pn := k3.trans keys
  refine wpAny_pure ⟨_, rfl, q _ s1.heap.objs.size out.toArray c (out.map SrtO.iv) (fun b u e => ?_) g1 o1 hz hc (by simpa using k2) (lt_of_le_nodup _ k4 (pn.nodup_iff.mpr nd)) (fun k => by rw [pn.mem_iff, ← mem k]) ?_⟩
  · have z := k1 b u e
    have lt := Heap.lt_size z
    show (sortedHeap (s1.heap.push (seqObj "list" vs.toArray 0)) s1.heap.objs.size vs out.toArray).get? b = some u
    rw [sortedHeap_old (Nat.ne_of_lt lt) (by rw [size_push']; exact Nat.lt_succ_of_lt lt)]
    exact Heap.get?_push_of_some _ z
  · rw [pn.length_eq, List.length_map, Array.length_toList]; exact hn
end
section
variable {X : Cx}
def rSortedS2 (w : World) : List V → Hp → VK → Prop := fun vs H Q => ∃ (a : Addr) (S : Int → Bool) (n : Nat), vs = [V.ref a] ∧ H a = some (SetO w a S n) ∧
  ∀ (ns : List Int) (p : Addr), ns.Pairwise (· < ·) → (∀ k : Int, k ∈ ns ↔ S k = true) → H p = none → Q (.ref p) (upd H p (.lst (ns.map V.int)))
theorem cr_sortedS2 (hc : X.calm = true) : CallR X (.builtin "sorted") (rSortedS2 X.w) := by
  intro pins s σ H vs us Q I r h
  obtain ⟨a, S, n, rfl, ha, q⟩ := h
  have R := setO_get I ha
  have few : n < scanBound := by
    obtain ⟨_, es, _, _, _, _, _, _, _, _, few, _, hn, _⟩ := R
    rw [← hn]; exact few
  rw [Vals.ref1 r]
  refine sorted_of_set R (I.ok.hd hc) fun t p out c ns k g o hp hg hi hs hm hl => ?_
  have len : (ns.map V.int).length ≤ sizeLine := by rw [List.length_map, hl]; exact Nat.le_trans (Nat.le_of_lt few) (by decide +kernel)
  have J : Inv X pins σ (upd H p (.lst (ns.map V.int))) { s with heap := t.heap, gens := t.gens, drawn := t.drawn, toks := t.toks } :=
    I.call (ch := []) (Un.laid k hp (I.hok.fresh hp)) (I.hok.laid k hp ⟨len, out.toList, c, vals_of_ints hi, hg⟩) (g ▸ I.bare) (fun _ z => nomatch z)
  have e : t = { s with heap := t.heap, gens := t.gens, drawn := t.drawn, toks := t.toks } := by
    obtain ⟨h1, h2, h3, h4, h5⟩ := t
    cases o
    rfl
  rw [e]
  exact ⟨.ref p, _, J, rfl, q ns p hs hm (I.hok.fresh hp)⟩
/-- len(set of ints) -/
def rLenSet (w : World) : List V → Hp → VK → Prop := fun vs H Q => ∃ (a : Addr) (S : Int → Bool) (n : Nat), vs = [V.ref a] ∧ H a = some (SetO w a S n) ∧ Q (.int n) H
theorem cr_lenSet : CallR X (.builtin "len") (rLenSet X.w) := by
  intro pins s σ H vs us Q I r h
  obtain ⟨a, S, n, rfl, ha, q⟩ := h
  obtain ⟨o, es, ep, t, ho, hex, hd, _, _, _, few, fits, hn, _⟩ := setO_get I ha
  rw [Vals.ref1 r]
  refine call_len_set ho hex hd fits ?_ ⟨.int n, H, I.tok _, ⟨_, by rw [← hn]⟩, q⟩
  have h1 : (es.size : Int) < scanBound := Int.ofNat_lt.mpr few
  exact Int.lt_of_lt_of_le h1 (by decide +kernel)
/-- t.index(k), a tuple of ints: the first place -/
theorem flat_ints (ys : List Int) : (ys.map V.int).all flatV = true := by
  rw [List.all_map]
  exact List.all_eq_true.mpr fun _ _ => rfl
theorem mt_tindexI : MtR X "tuple.index" (fun x xs H Q => ∃ p, ∃ ys : List Int, ∃ z j, x = .ref p ∧ xs = [.int z] ∧ SqT X.K H p (ys.map V.int) ∧ ys[j]? = some z ∧ (∀ m, m < j → ys[m]? ≠ some z) ∧ Q (.int (j : Nat)) H) := by
  intro pins s σ H x xs v us Q I rx rs h
  obtain ⟨p, ys, z, j, rfl, rfl, hq, hy, hno, q⟩ := h
  cases rx
  obtain ⟨u, rfl, t, rfl⟩ := vals1 rs
  obtain ⟨its, r, ⟨⟨cls, dd, dt, sl⟩, ho, hc, n, hd⟩, hz⟩ := I.tuple hq
  cases hc
  cases hd
  have len : its.toArray.size = ys.length := by rw [List.size_toArray, ← r.length, List.length_map]
  have at' : ∀ (m : Nat) (hm : m < its.toArray.size), ∃ y t', ys[m]? = some y ∧ its.toArray[m] = Value.int y t' := fun m hm => by
    have hm' : m < ys.length := len ▸ hm
    obtain ⟨w, hw, t', hw'⟩ := r.get (i := m) (x := .int ys[m]) (by simp [hm'])
    refine ⟨ys[m], t', List.getElem?_eq_getElem hm', ?_⟩
    rw [← hw', ← (List.getElem?_eq_some_iff.mp hw).2]
    simp
  have hj : j < its.toArray.size := by rw [len]; exact (List.getElem?_eq_some_iff.mp hy).1
  refine call_meets PySem.F.slot_tuple_index ⟨_, ho, rfl⟩ PySem.F.entry_tuple_index (PySem.F.args_tuple_index_2 _ _) (TI.tuple_indexAt p its.toArray n dd sl (.int z t) (eqU (.int z)) j hj ?_ ?_)
    ⟨ho, fun w hw => mem_eqAt (x := .int z) ⟨t, rfl⟩ rfl r (flat_ints ys) w (by simpa using hw), ⟨.int (j : Nat), H, I.tok _, ⟨_, rfl⟩, q⟩⟩
  · obtain ⟨y, t', h1, h2⟩ := at' j hj
    rw [hy] at h1
    cases h1
    rw [h2]
    show decide (z = z) = true
    exact decide_eq_true rfl
  · intro m hm hmj
    obtain ⟨y, t', h1, h2⟩ := at' m hm
    rw [h2]
    show decide (y = z) = false
    exact decide_eq_false fun e => hno m hmj (e ▸ h1)
end
end Ph

namespace Ph
open PySem PySem.Spec PyProof.Rows L2
/-! ### a tuple whose object is known: it has no dict of its own, so its methods can be called -/
def ChAt (H : Hp) (c : Addr) (C : List Int) : Prop := ∃ o : Obj, o.dict = none ∧ H c = some (.frz o (.tup (C.map V.int)))
theorem ChAt.sq {K : PySem.W.Frag} {H : Hp} {c : Addr} {C : List Int} (h : ChAt H c C) : SqT K H c (C.map V.int) := let ⟨o, _, e⟩ := h; .inl (.inr ⟨o, e⟩)
theorem ChAt.keep {H H' : Hp} {c : Addr} {C : List Int} (h : ChAt H c C) (s : ∀ b o, H b = some o → H' b = some o) : ChAt H' c C := let ⟨o, d, e⟩ := h; ⟨o, d, s _ _ e⟩
section
variable {X : Cx}
/-- tuple(list): a new one -/
theorem call_tuple_frz : CallR X (.type "tuple") (fun xs H Q => ∃ p ys, xs = [.ref p] ∧ SqL X.K H p ys ∧ ∀ l (o : Obj), H l = none → o.dict = none → Q (.ref l) (upd H l (.frz o (.tup ys)))) := by
  intro pins s σ H xs us Q I r h
  obtain ⟨p, ys, rfl, hq, q⟩ := h
  obtain ⟨u, rfl, rx⟩ := vals1 r
  cases rx
  obtain ⟨its, r', pl, hz⟩ := I.list hq
  have len := r'.length
  refine call_tuple_list pl.isList (fun g k => ?_) (by rw [List.size_toArray]; omega)
  have J := I.kept (t' := s.toks) k
  refine ⟨.ref g.objs.size, _, J.laid (t' := s.toks) (o := .frz { cls := .type "tuple", data := .seq its.toArray } (.tup ys)) (fun b u e => Heap.get?_push_of_some _ e) (Nat.le_refl _) ⟨Heap.get?_push_size _ rfl, hz, its, r', IsTup.new _ _⟩, rfl, q _ _ (J.hok.fresh (Nat.le_refl _)) rfl⟩
variable {o e : Expr} {es : List Expr} {to : TE} {t : TA} {apos cpos : Pos} {name : Str} {id : String} {r : V → List V → Hp → VK → Prop}
/-- c.m(..), c such a tuple -/
def tBT (r : V → List V → Hp → VK → Prop) (to : TE) (t : TA) : TE := fun σ H Q => to σ H fun x H1 => (∃ c C, x = .ref c ∧ ChAt H1 c C) ∧ t σ H1 fun xs H2 => r x xs H2 Q
theorem pe_bmT (slot : Slot "tuple" name id) (hty : typeOf (.builtin id) = pure (.type "method_descriptor")) (hm : MtR X id r) (ho : PE X o to) (ha : PA X (e :: es) t)
    (hbase : attributeBase o name X.env (eval o X.env) = eval o X.env := by rfl)
    (hfew : ((backTo cpos (starEach (e :: es) X.env)).all (fun x => !x.1) && (backToKw cpos (keywordEach [] X.env)).all (fun x => x.1.isSome) && decide ((e :: es).length + ([] : List Keyword).length + (if ([] : List Keyword).isEmpty then 0 else 1) < 30)) = true := by rfl)
    (hline : (apos.endLine == cpos.line) = true := by rfl) (hse : starEach (e :: es) X.env = (false, eval e X.env) :: starEach es X.env := by rfl) (hpl : (backTo cpos (starEach es X.env)).any (·.1) = false := by rfl) :
    PE X (.Call (.Attribute o name apos) (e :: es) [] cpos) (tBT r to t) := ⟨fun pins s σ H Q I h => by
  refine wpAny_Call_method_late hbase hfew hline rfl (thn (ho.run pins s σ H _ I h) fun v s1 ⟨x, H1, I1, r1, ⟨c, C, ex, oc, od, hc⟩, q1⟩ => ?_)
  subst ex
  cases r1
  obtain ⟨g, _, its, _, ⟨u, hu, hcl, _⟩⟩ := I1.hok c _ hc
  rw [g] at hu
  cases hu
  have hA := ha.run cpos pins s1 σ H1 _ I1 q1
  refine ⟨"tuple", id, PySem.F.plainAttrs_tuple, slot, hty, ⟨oc, g, hcl⟩, fun a z => by cases z; exact ⟨oc, g, od⟩, ?_⟩
  rw [hse] at hA ⊢
  refine Calls.callWith_builtin (by show (false || (backTo cpos (starEach es X.env)).any (·.1)) = false; rw [hpl]; rfl) (Calls.evalArgs_plain (thn hA fun us s2 ⟨vs, H2, I2, r2, q2⟩ => hm pins s2 σ H2 (.ref c) vs (.ref c) us Q I2 rfl r2 q2))⟩
end
end Ph

namespace Ph
open PySem PySem.Spec PyProof.Rows L2 PySem.NumText PySem.Calls
/-! ### the limit on digits stands as it was at the beginning -/
theorem noDigits_of {K : PySem.W.Frag} {h : Heap} (X : K.In h) (L : h.NoLimit) (e : PySem.W.nsIn K cStatics "sys.int_max_str_digits" = some none) : h.NoDigits := by
  obtain ⟨mc, G, _⟩ := L
  refine ⟨mc, G, ?_⟩
  obtain ⟨o, es, ep, ho, hd, _, hf⟩ := G
  unfold PySem.W.nsIn at e
  split at e
  · rename_i c d es' n' sl q
    have := X _ _ q
    rw [ho] at this
    cases this
    cases hd
    split at e
    · cases e
    · rename_i he
      rw [← hf]
      unfold nsFind findBy
      rw [← Array.find?_toList, he]
      rfl
  · cases e
theorem wp_digits {M : Model} {A : Around} {E : Value → Shared → Prop} {s : Shared} {Q : Nat → Shared → Prop} (hn : s.heap.NoDigits) (h : Q 4300 s) : wpAny M A Builtin.intMaxStrDigits Q E s := by
  obtain ⟨mc, hns, hnone⟩ := hn
  unfold Builtin.intMaxStrDigits
  refine wpAny_bind (wpAny_nsGet hns ?_)
  rw [hnone]
  exact wpAny_pure h
/-! ### int(text) of more than 640 digits -/
theorem wp_textW {M : Model} {A : Around} {E : Value → Shared → Prop} {s : Shared} {Q : Value → Shared → Prop} {v : Value} {text : List Nat} {n : Int} (hn : s.heap.NoDigits)
    (hs : ¬ (text.takeWhile (· != 0)).length ≤ 640) (hr : (int_private% "readNumeral") 4300 10 (text.takeWhile (· != 0)) = (int_private% "Numeral.value") n)
    (ha : ((text.takeWhile (· != 0)).length == text.length) = true) (h : Q (.int n s.toks) { s with toks := s.toks + 1 }) :
    wpAny M A ((int_private% "intFromText") v text 10) Q E s := by
  show wpAny M A (if (text.takeWhile (· != 0)).length ≤ 640 then _ else (Builtin.intMaxStrDigits >>= _)) Q E s
  rw [if_neg hs]
  refine wpAny_bind (wp_digits hn ?_)
  dsimp only
  rw [hr]
  dsimp only
  rw [if_pos ha]
  exact wpAny_mkInt h
set_option maxHeartbeats 4000000 in
theorem meets_textW {x : PySem.Str} {u : Tok} {n : Int} (hs : ¬ (numSeenOf x).length ≤ 640) (hr : (int_private% "readNumeral") 4300 10 (numSeenOf x) = (int_private% "Numeral.value") n) (ha : ((numSeenOf x).length == (numTextOf x).length) = true) :
    Meets (Builtin.«int.__new__» ⟨[.type "int", .str x u], []⟩) (fun _ R s => s.heap.NoDigits ∧ R (.ok (.ret (.int n s.toks))) { s with toks := s.toks + 1 }) :=
  .of_wp fun prog w A R s h => by
    obtain ⟨hn, h⟩ := h
    obtain ⟨hp, g, d, tk, os⟩ := s
    have f1 := F.conv_sub_int
    have f2 := F.madeHere_int
    have f3 := PySem.W.KIN.str_int
    have f4 := PySem.W.KIN.str_idx
    have f5 := PySem.W.KIN.str_trunc
    have f6 : typeOf (.str x u) = pure (.type "str") := rfl
    have hk := PySem.W.KIN.Hid.mk (And.intro hs (And.intro hr ha))
    have hk2 := PySem.W.KIN.Hid.mk hn
    clear hs hr ha hn
    repeat (any_goals (first
      | assumption
      | ((with_reducible show wpAny _ _ ((int_private% "intFromText") _ _ _) _ _ _); refine wp_textW hk2.out hk.out.1 hk.out.2.1 hk.out.2.2 ?_)
      | wp_step))
    all_goals first | exact ⟨_, rfl, h⟩ | skip
def big9 : PySem.Str := (Str.ofString "1") ++ Txt.mul (Str.ofString "0") 900
theorem reps_list (c : Nat) : ∀ (k : Nat) (acc : Array Nat), ((List.replicate k (#[c] : Array Nat)).foldl (· ++ ·) acc).toList = acc.toList ++ List.replicate k c
  | 0, acc => by simp
  | k + 1, acc => by
    rw [List.replicate_succ, List.foldl_cons, reps_list c k, List.replicate_succ]
    simp
theorem zeros_list : (Txt.mul (Str.ofString "0") 900).cps.toList = List.replicate 900 48 := by
  have e : Txt.mul (Str.ofString "0") 900 = ⟨(List.replicate 900 (#[48] : Array Nat)).foldl (· ++ ·) #[]⟩ := by
    unfold Txt.mul
    rw [if_neg (by decide), if_neg (by decide +kernel)]
    rfl
  rw [e]
  exact reps_list 48 900 #[]
theorem big9_list : big9.cps.toList = 49 :: List.replicate 900 48 := by
  have e : big9.cps.toList = (Str.ofString "1").cps.toList ++ (Txt.mul (Str.ofString "0") 900).cps.toList := Array.toList_append
  rw [e, zeros_list]
  rfl
theorem big9_digits : AllDigits big9.cps.toList := by
  rw [big9_list]
  intro d hd
  rcases List.mem_cons.mp hd with e | e
  · subst e; decide
  · rw [(List.mem_replicate.mp e).2]; decide
theorem digits_zeros : ∀ (k a : Nat), (List.replicate k 48).foldl (fun acc c => acc * 10 + (c - 48)) a = a * 10 ^ k
  | 0, a => by simp
  | k + 1, a => by
    rw [List.replicate_succ, List.foldl_cons, digits_zeros k, Nat.pow_succ]
    show (a * 10 + 0) * 10 ^ k = a * (10 ^ k * 10)
    rw [Nat.add_zero, Nat.mul_assoc, Nat.mul_comm 10 (10 ^ k)]
theorem big9_val : digitsVal big9.cps.toList = 10 ^ 900 := by
  rw [big9_list]
  unfold digitsVal
  rw [List.foldl_cons, digits_zeros]
  show (0 * 10 + 1) * 10 ^ 900 = 10 ^ 900
  rw [Nat.zero_mul, Nat.zero_add, Nat.one_mul]
theorem big9_length : big9.length = 901 := by
  have e : big9.cps.toList.length = big9.length := Array.length_toList
  rw [← e, big9_list, List.length_cons, List.length_replicate]
theorem ten_ex : ∃ t : Int, intText? big9 = some t ∧ 0 < t ∧ t.natAbs < 2 ^ 3000 := by
  refine ⟨_, intText_digits big9_digits (by rw [big9_list]; exact List.cons_ne_nil _ _) (by rw [big9_length]; decide), ?_, ?_⟩
  · rw [big9_val]
    exact Int.natCast_pos.mpr (Nat.pow_pos (by decide))
  · rw [big9_val, Int.natAbs_natCast]
    decide +kernel
noncomputable def ten9 : Int := Classical.choose ten_ex
theorem big9_int : intText? big9 = some ten9 := (Classical.choose_spec ten_ex).1
theorem ten9_pos : 0 < ten9 := (Classical.choose_spec ten_ex).2.1
theorem ten9_lt : ten9.natAbs < 2 ^ 3000 := (Classical.choose_spec ten_ex).2.2
theorem big9_text : numTextOf big9 = big9.cps.toList ∧ numSeenOf big9 = big9.cps.toList := numText_signs fun c hc => Or.inr (big9_digits c hc)
theorem big9_seen : ¬ (numSeenOf big9).length ≤ 640 := by
  rw [big9_text.2, big9_list, List.length_cons, List.length_replicate]
  decide
theorem big9_all : ((numSeenOf big9).length == (numTextOf big9).length) = true := by
  rw [big9_text.1, big9_text.2]
  exact beq_self_eq_true _
theorem big9_read : (int_private% "readNumeral") 4300 10 (numSeenOf big9) = (int_private% "Numeral.value") ten9 := by
  rcases read4300 big9 (by rw [big9_length]; decide) with ⟨n, h1, h2, h3⟩ | ⟨h1, _⟩
  · rw [Option.some.inj (big9_int.symm.trans h1)]
    exact h3
  · rw [big9_int] at h1
    cases h1
theorem zeros_length : (Txt.mul (Str.ofString "0") 900).length = 900 := by
  have e : (Txt.mul (Str.ofString "0") 900).cps.toList.length = (Txt.mul (Str.ofString "0") 900).length := Array.length_toList
  rw [← e, zeros_list, List.length_replicate]
theorem big9_len : (Str.ofString "1").length + (Txt.mul (Str.ofString "0") 900).length ≤ sizeLine := by
  rw [zeros_length]
  decide +kernel
theorem zeros_ok : MulOk (Str.ofString "0") 900 := ⟨by decide, fun _ _ => by decide +kernel, fun _ _ => by decide +kernel⟩
section
variable {X : Cx}
theorem Inv.noDigits {pins : List (Addr × Obj)} {σ : List (Option V)} {H : Hp} {s : Shared} (I : Inv X pins σ H s) (e : PySem.W.nsIn X.K cStatics "sys.int_max_str_digits" = some none) : s.heap.NoDigits :=
  (noDigits_of I.ok.mod.kin I.ok.mod.nolimit e).keeps I.bk
theorem call_big9 (e : PySem.W.nsIn X.K cStatics "sys.int_max_str_digits" = some none) : CallR X (.type "int") (fun xs H Q => xs = [.str big9] ∧ Q (.int ten9) H) := by
  intro pins s σ H xs us Q I r h
  obtain ⟨rfl, q⟩ := h
  obtain ⟨u, rfl, t, rfl⟩ := vals1 r
  exact call_int_1 (meets_textW big9_seen big9_read big9_all) ⟨Inv.noDigits I e, ⟨typeIs_int _ _ _, ⟨.int ten9, H, I.tok _, ⟨_, rfl⟩, q⟩⟩⟩
/-- text * number -/
theorem op_repS : OpR X (binaryOp .Mult) (fun x y H Q => ∃ z k, x = .str z ∧ y = .int k ∧ MulOk z k ∧ Q (.str (Txt.mul z k)) H) := by
  intro pins s σ H x y v u Q I rx ry h
  obtain ⟨i, j, rfl, rfl, hz, q⟩ := h
  obtain ⟨t, rfl⟩ := rx
  obtain ⟨t', rfl⟩ := ry
  exact SB.mul hz (fun t' k => ⟨.str _, H, I.tok _, ⟨_, rfl⟩, q⟩)
theorem iop_mulW : OpR X (inplaceOp .Mult) (rI CMulW fun i j => .int (i * j)) := opI fun _ _ _ _ _ _ _ hc q => imul_int q hc.ok
theorem ip_mulW : PIp X .Mult (fun x y H Q => ∃ i j, x = .int i ∧ y = .int j ∧ CMulW i j ∧ Q (.int (i * j)) H) := by
  intro pins s σ H x y v u Q I r1 r2 h
  obtain ⟨i, j, e1, e2, hc, q⟩ := h
  subst e1; subst e2
  obtain ⟨t, rfl⟩ := r1
  obtain ⟨t', rfl⟩ := r2
  exact imul_int ⟨.int _, H, I.tok _, ⟨_, rfl⟩, q⟩ hc.ok
theorem repr_wide {prog : Program} {w : World} {A : Around} {E : Value → Shared → Prop} {s : Shared} {a : Int} {t : Tok} {Q : Value → Shared → Prop} (hn : s.heap.NoDigits) (hlt : a.natAbs < 10 ^ 4300) (h : Q (.str (toString a) s.toks) { s with toks := s.toks + 1 }) :
    wpAny (model prog w) A (call (.builtin "repr") [.int a t]) Q E s := by
  refine Calls.call_function_entry F.kind_repr F.plain_repr F.entry_repr (F.args_repr1 _) ?_
  unfold Builtin.«repr»
  refine wpAny_bind (m := oneArg "repr" _) (wpAny_pure ?_)
  have hv : [Value.int a t].any Value.onHeap = false := rfl
  simp only [cRoomFor, hv, Bool.false_eq_true, if_false, pure_bind]
  refine wpAny_bind (wpAny_specialOf (name := Str.ofString "__repr__") (typeIs_int s a t) F.slot_int_repr.lookup ?_)
  refine wpAny_bind (m := callSpecialIfBound? (.int a t) (Str.ofString "__repr__")) (wpAny_callSpecialIfBound?_slot (name := Str.ofString "__repr__") (typeIs_int s a t) F.slot_int_repr ?_)
  refine wpAny_call_entry F.slot_int_repr (typeIs_int s a t) F.entry_int_repr ?_ (F.args_int_repr_1 _)
  unfold Builtin.«int.__repr__»
  show wpAny _ _ (do let r ← Builtin.overDigitLimit? a; _) _ _ s
  refine wpAny_bind (overDigitLimit_any hn (fun hlt => ?_) (fun hge => absurd hlt (Nat.not_lt.mpr hge)))
  refine wpAny_bind (wpAny_mkStr (wpAny_pure ⟨_, rfl, ?_⟩) (int_text_fits10 hlt))
  refine wpAny_bind (wpAny_isInstance (T := "str") (b := true) rfl isSubtype_str_str ?_)
  exact wpAny_pure ⟨_, rfl, h⟩
theorem call_reprW (e : PySem.W.nsIn X.K cStatics "sys.int_max_str_digits" = some none) : CallR X (.builtin "repr") (fun xs H Q => ∃ i, xs = [.int i] ∧ i.natAbs < 10 ^ 4300 ∧ Q (.str (toString i)) H) := by
  intro pins s σ H xs us Q I r h
  obtain ⟨i, rfl, hz, q⟩ := h
  obtain ⟨u, rfl, t, rfl⟩ := vals1 r
  exact repr_wide (Inv.noDigits I e) hz ⟨.str _, H, I.tok _, ⟨_, rfl⟩, q⟩
end
end Ph

namespace Ph
open PySem PySem.Spec PyProof.Rows L2 PySem.Calls
section
variable {X : Cx}
/-- d.update(e), both tracked dicts -/
def rDUp : V → List V → Hp → VK → Prop := fun x vs H Q => ∃ (a b : Addr) (ks ls : List (Key × V)), x = .ref a ∧ vs = [.ref b] ∧ a ≠ b ∧ H a = some (.dK ks) ∧ H b = some (.dK ls) ∧ ks.length + ls.length ≤ sizeLine ∧ Q .non (upd H a (.dK (mergeK ks ls)))
theorem mtd_update : MtR X "dict.update" rDUp := by
  intro pins s σ H x vs v us Q I rx rv h
  obtain ⟨a, b, ks, ls, rfl, rfl, nab, ea, eb, hz, q⟩ := h
  cases rx
  obtain ⟨u, rfl, ru⟩ := rv.one
  cases ru
  obtain ⟨za, hda, va, ra, da⟩ := dk_of I.hok ea
  obtain ⟨zb, hdb, vb, rb, db⟩ := dk_of I.hok eb
  refine call_meetsIn PySem.F.slot_dict_update da.typeIs PySem.F.entry_dict_update (PySem.F.args_dict_update_2 _ _) (meets_dict_update (mixKind X.prog X.w) a b nab hdb) ⟨va, vb, da, db, by rw [← ra.length, ← rb.length]; exact hz, fun h' d1 d2 sb => ?_⟩
  have he : ∃ o, h'.get? a = some o := let ⟨o, _, _, ho, _⟩ := d1; ⟨o, ho⟩
  exact ⟨.non, _, d_write (t' := s.toks) I (by rw [ea]; exact True.intro) sb he (dk_new (Nat.le_trans (length_mergeK ls ks) hz) hda (rb.merge ra) d1), rfl, q⟩
end
/-- which ints are keys -/
def hasI (kvs : List (Key × V)) (i : Int) : Bool := (valV kvs (Sum.inl i)).isSome
theorem hasI_merge : ∀ (more kvs : List (Key × V)) (i : Int), hasI (mergeK kvs more) i = (hasI kvs i || more.any fun kv => decide (kv.1 = Sum.inl i))
  | [], kvs, i => by
    show hasI kvs i = (hasI kvs i || false)
    rw [Bool.or_false]
  | kv :: r, kvs, i => by
    have e : mergeK kvs (kv :: r) = mergeK (putK kvs kv.1 kv.2) r := rfl
    rw [e, hasI_merge r, List.any_cons]
    unfold hasI
    rw [valV_put]
    by_cases h : (Sum.inl i : Key) = kv.1
    · rw [if_pos h, h]
      simp
    · rw [if_neg h, decide_eq_false (fun z => h z.symm), Bool.false_or]
end Ph

namespace Ph
open PySem PySem.Spec PyProof.Rows L2
/-! ### max(ints, default=d) -/
def mxd (d : Int) : List Int → Int
  | [] => d
  | n :: r => r.foldl max n
theorem alike_ints (ns : List Int) : PySem.W.AlikeAll (ns.map PyData.int) := by
  refine ⟨fun x hx y hy => ?_, fun x hx => ?_⟩
  · obtain ⟨a, _, rfl⟩ := List.mem_map.mp hx
    obtain ⟨b, _, rfl⟩ := List.mem_map.mp hy
    rfl
  · obtain ⟨a, _, rfl⟩ := List.mem_map.mp hx
    exact fun z => nomatch z
theorem dpI {K : PySem.W.Frag} {H : Hp} : ∀ ns : List Int, DpAll K H (ns.map V.int) (ns.map PyData.int)
  | [] => .nil
  | n :: r => .cons (.int n) (dpI r)
theorem depthI : ∀ ns : List Int, PyData.depthAll (ns.map PyData.int) ≤ 1
  | [] => by simp [PyData.depthAll]
  | n :: r => by
    have h := depthI r
    simp only [List.map_cons, PyData.depthAll, PyData.depth]
    omega
section
variable {X : Cx}
def rMaxDf (K : PySem.W.Frag) : List V → List V → Hp → VK → Prop := fun xs zs H Q => ∃ (l : Addr) (ns : List Int) (d : Int), xs = [.ref l] ∧ zs = [.int d] ∧ SqL K H l (ns.map V.int) ∧ Q (.int (mxd d ns)) H
theorem cr_maxDf (hc : X.calm = true) (hu : X.A.units + 2 < cLine) : CallRK X (.builtin "max") ["default"] (rMaxDf X.K) := by
  intro pins s σ H xs zs us ws Q I r rz h
  obtain ⟨l, ns, d, rfl, rfl, hl, q⟩ := h
  obtain ⟨its, rv, pl, hz⟩ := I.list hl
  rw [Vals.ref1 r]
  obtain ⟨w, rfl, t, rfl⟩ := vals1 rz
  obtain ⟨as, rd⟩ := Dp.readsAll I _ _ its (dpI ns) rv
  have hd := depthI ns
  refine PySem.W.max_list_default (d := .int d t) (I.ok.hd hc) pl.isList (by simpa using rd) (alike_ints ns) (by omega) (fun e g tk k => ?_) (fun y ys i v g tk bs e hv rv k => ?_)
  · have e2 : ns = [] := List.map_eq_nil_iff.mp e
    rw [e2] at q
    exact ⟨.int d, H, I.kept k, ⟨t, rfl⟩, q⟩
  · cases ns with
    | nil => cases e
    | cons n r =>
      injection e with e1 e2
      subst e1
      subst e2
      rw [PySem.W.maxD_ints] at rv
      cases rv with
      | int _ t' => exact ⟨.int (r.foldl max n), H, I.kept k, ⟨t', rfl⟩, q⟩
/-! ### list(range(a, b, c)) -/
def rg3 (i c : Int) (n : Nat) : List Int := (List.range n).map fun (t : Nat) => i + (t : Int) * c
def tLst3 (ta : TA) : TE := fun σ H Q => ta σ H fun vs H1 => ∃ (i j c : Int) (n : Nat), vs = [.int i, .int j, .int c] ∧ RgC i j c n ∧ n ≤ 2 ^ 24 ∧ ∀ q, H1 q = none → Q (.ref q) (upd H1 q (.lst ((rg3 i c n).map V.int)))
theorem vals_rg3 {i c : Int} {n : Nat} {acc : Array Value} (h : ItemsOf (fun j v => ∃ t, v = .int (i + j * c) t) acc n) : Vals ((rg3 i c n).map V.int) acc.toList := by
  have e : acc.toList.length = n := by rw [Array.length_toList]; exact h.1
  unfold rg3
  rw [List.map_map, ← e]
  refine vals_of_get acc.toList _ fun j u hj => ?_
  obtain ⟨t, rfl⟩ := h.2 j u (by rw [← hj, Array.getElem?_toList])
  exact ⟨t, rfl⟩
theorem pe_listRg3 {a b c : Expr} {ta : TA} {p p2 pos pos2 : Pos} (hc : X.calm = true) (hg : Gl X "list") (hm : X.mg "list" = none) (hg2 : Gl X "range") (hm2 : X.mg "range" = none) (ha : PA X [a, b, c] ta)
    (na : starEach [Expr.Call (.Name "range" p2) [a, b, c] [] pos2] X.env = (false, eval (Expr.Call (.Name "range" p2) [a, b, c] [] pos2) X.env) :: starEach [] X.env := by rfl)
    (hs : starEach [a, b, c] X.env = (false, eval a X.env) :: starEach [b, c] X.env := by rfl) (hpl : (backTo pos2 (starEach [b, c] X.env)).any (·.1) = false := by rfl) :
    PE X (.Call (.Name "list" p) [.Call (.Name "range" p2) [a, b, c] [] pos2] [] pos) (tLst3 ta) := by
  refine ⟨fun pins s σ H Q I h => ?_⟩
  refine Call_ (ld_blt I hg hm boot_list (PyProof.Rows.callWith_type1 (args_cons ?_ na) na))
  refine Call_ (ld_blt I hg2 hm2 boot_range (PyProof.Rows.callWith_type1 (thn (ha.run pos2 pins s σ H _ I h) fun us s1 ⟨vs, H1, I1, r1, i, j, k, n, e, ⟨c0, c1, c2, c3⟩, hn, q⟩ => ?_) hs hpl))
  subst e
  obtain ⟨t1, t2, t3, rfl⟩ : ∃ t1 t2 t3, us = [Value.int i t1, .int j t2, .int k t3] := by
    cases r1 with
    | cons ra rr =>
      cases rr with
      | cons rb rr =>
        cases rr with
        | cons rd rr =>
          cases rr
          obtain ⟨t1, rfl⟩ := ra
          obtain ⟨t2, rfl⟩ := rb
          obtain ⟨t3, rfl⟩ := rd
          exact ⟨t1, t2, t3, rfl⟩
  · skip
    refine call_range_3 c0 (args_nil ?_) (.inl (PyProof.noPylong_small c1))
    have I2 : Inv X pins σ H1 { s1 with heap := s1.heap.push { cls := .type "range", data := .fields #[.int i t1, .int j t2, .int k t3] } } := I1.kept (t' := s1.toks) fun b o e => Heap.get?_push_of_some _ e
    refine call_list_range (n := n) (I2.ok.hd hc) (IsRange.new ..) c2 c3 hn fun g tk acc cc keep at' it => ?_
    refine ⟨.ref _, upd H1 _ (.lst ((rg3 i k n).map V.int)), I2.laid (t' := tk) keep (Nat.le_refl _) ⟨?_, acc.toList, cc, vals_rg3 it, ?_⟩, rfl, q _ (I2.hok.fresh (Nat.le_refl _))⟩
    · unfold rg3
      rw [List.length_map, List.length_map, List.length_range, sizeLine_eq]
      omega
    · rw [Array.toArray_toList]; exact at'
end
end Ph

set_option maxHeartbeats 2000000
namespace Ph
open PySem PySem.Spec PyProof.Rows L2
/-! ### {e for x in xs}, e an int -/
abbrev TurnI (w : World) (D : Addr) (te : TE) (σ2 : L2.St) (H3 : Hp) (Nx : Hp → Prop) : Prop :=
  te σ2 H3 fun y H4 => ∃ (c : Int) (S : Int → Bool) (n : Nat), y = .int c ∧ H4 D = some (SetO w D S n) ∧ n + 1 < scanBound ∧ Nx (upd H4 D (SetO w D (fun j => S j || decide (j = c)) (if S c = true then n else n + 1)))
def tScI (w : World) (wi : TI) (g : TG) (tt : TT) (te : TE) (vs : List Nat) : TE := fun σ H Q => wi σ H fun J H1 => ∀ D, H1 D = none → ∃ W : Nat → Nat → Hp → Prop, (∃ m, W 0 m (upd H1 D (SetO w D (fun _ => false) 0))) ∧ ∀ i m H, W i m H →
  (J.stop i H ∧ Q (.ref D) H) ∨ (J.go i H ∧ ∃ Nx : Hp → Prop, (∀ H', Nx H' → ∃ m', m' < m ∧ W (i + 1) m' H') ∧ ∀ x H', J.yld i H x H' → g x (wipe σ vs) H' fun σ2 H2 => wipe σ2 vs = wipe σ vs ∧ tt σ2 H2 fun b H3 => if b = true then TurnI w D te σ2 H3 Nx else Nx H3)
section
variable {X : Cx}
abbrev BlkG (X : Cx) (scope : Scope) (F : Cx → Prop) : Prop := ∀ (s : Shared) (H : Hp) (C : Addr) (cl : List (PySem.Str × Addr)) (fp : List Addr), F (X.blk s H scope (compEnvC scope cl C X.env) fp)
theorem pe_scI {elt tg iter : Expr} {ifs : List Expr} {scope : Scope} {own : List (PySem.Str × Nat)} {pos : Pos} {wi : TI} {g : TG} {tt : TT} {te : TE} (calm : X.calm = true) (nod : X.N.Nodup) (walk : PI X tg iter wi) (blk : BlkOk X.N X.env.scope scope own)
    (gs : BlkG X scope fun Y => PG Y tg g) (ts : BlkG X scope fun Y => PTs Y ifs tt) (es : BlkG X scope fun Y => PE Y elt te) (fold : ∀ x, foldedSetIterable iter X.env x = pure x := by intro _; rfl) :
    PE X (.SetComp elt [⟨tg, iter, ifs, 0⟩] scope pos) (tScI X.w wi g tt te (own.map (·.2))) := by
  refine ⟨fun pins s σ H Q I want => ?_⟩
  rw [PpSet.eval_SetComp]
  have captured : ∀ y ∈ scope.names, y.2 = .free → ∃ c, X.env.cells.lookup y.1 = some c := fun y hy e => (blk.free y hy e).elim (fun k => I.ok.has _ (.inl k)) fun k => I.ok.has _ (.inr k)
  refine wpAny_comprehension_free rfl fold (closure_ok captured) blk.kind (fun y hy e => by rw [blk.uniq y hy, e]) (thn (walk.run pins s σ H _ I want) fun xv s1 hx => thn hx fun itv s2 h2 => ?_)
  obtain ⟨it, fp, tn, J, H2, rfl, I2, T, tn2, fp2, q⟩ := h2
  refine PpSet.newSet_ok (newEnv_comp ?_)
  have freshD : H2 s2.heap.objs.size = none := I2.hok.fresh (Nat.le_refl _)
  obtain ⟨W, ⟨m0, start⟩, step⟩ := q _ freshD
  have low : ∀ b ∈ fp, b < s2.heap.objs.size := fun b hb => let ⟨o, e, _⟩ := T.obj _ _ tn2 b hb; Heap.lt_size e
  have I3 : Inv X pins σ (upd H2 s2.heap.objs.size (SetO X.w s2.heap.objs.size (fun _ => false) 0)) { s2 with heap := s2.heap.push (sob X.w) } := I2.laid (t' := s2.toks) (fun b o e => Heap.get?_push_of_some _ e) (Nat.le_refl _) (setO_new (setR_fresh X.w))
  have fp3 : ∀ b ∈ fp, FpOk X pins (upd H2 s2.heap.objs.size (SetO X.w s2.heap.objs.size (fun _ => false) 0)) b ∧ b < (s2.heap.push (sob X.w)).objs.size := fun b hb => by
    refine ⟨⟨?_, (fp2 b hb).2⟩, by rw [Heap.size_push]; exact Nat.lt_succ_of_lt (low b hb)⟩
    rw [upd_ne (Nat.ne_of_lt (low b hb))]
    exact (fp2 b hb).1
  have tn3 : tn 0 (s2.heap.push (sob X.w)) := T.keep _ _ _ tn2 fun b _ o e => Heap.get?_push_of_some _ e
  have I4 := block_start I3 blk nod fp3
  generalize eD : s2.heap.objs.size = D at start step I3 fp3 I4 ⊢
  generalize eS : ({ s2 with heap := s2.heap.push (sob X.w) } : Shared) = s3 at I3 fp3 tn3 I4 ⊢
  generalize eH : upd H2 D (SetO X.w D (fun _ => false) 0) = H3 at start I3 fp3 I4
  have tn3' : tn 0 s3.heap := by rw [← eS]; exact tn3
  have fp3' : ∀ b ∈ fp, FpOk X pins H3 b ∧ b < s3.heap.objs.size := fun b hb => by
    have := fp3 b hb
    rw [← eS]
    exact this
  have G := gs s3 H3 s3.heap.objs.size (cellsFrom (s3.heap.objs.size + 1) scope.names (cloFrom X.env.cells scope.names [])) fp
  have Te := ts s3 H3 s3.heap.objs.size (cellsFrom (s3.heap.objs.size + 1) scope.names (cloFrom X.env.cells scope.names [])) fp
  have El := es s3 H3 s3.heap.objs.size (cellsFrom (s3.heap.objs.size + 1) scope.names (cloFrom X.env.cells scope.names [])) fp
  have shape : codeAny (model X.prog X.w) X.A (.compStart (.SetComp elt [⟨tg, iter, ifs, 0⟩] scope pos) 0 (.ref it) (.ref D) (compEnvC scope (cellsFrom (s3.heap.objs.size + 1) scope.names (cloFrom X.env.cells scope.names [])) s3.heap.objs.size X.env))
      (compPost (model X.prog X.w) X.A X.xe none (EP X pins σ Q) (.ref D) s3.heap.objs.size) { s3 with heap := pushCells (s3.heap.push { cls := .type "dict", data := .dict #[] }) scope.names } := by
    generalize eE : compEnvC scope (cellsFrom (s3.heap.objs.size + 1) scope.names (cloFrom X.env.cells scope.names [])) s3.heap.objs.size X.env = ce at I4 G Te El ⊢
    have locs : ce.locals = s3.heap.objs.size := by subst eE; rfl
    generalize e4 : ({ s3 with heap := pushCells (s3.heap.push { cls := .type "dict", data := .dict #[] }) scope.names } : Shared) = s4 at I4 ⊢
    have tn4 : tn 0 s4.heap := T.keep _ _ _ tn3' fun b _ o e => by rw [← e4]; exact pushCells_keeps _ _ _ _ (Heap.get?_push_of_some _ e)
    have off : ∀ {σ' : L2.St} {H' : Hp} {s' : Shared}, Inv (X.blk s3 H3 scope ce fp) [] σ' H' s' → (∀ b ∈ fp, H' b = none) → ∀ b ∈ fp, FpOk (X.blk s3 H3 scope ce fp) [] H' b := fun J hn b hb =>
      ⟨hn b hb, (J.ok.exf b hb).1, J.ok.exfs b hb, .inl hb, fun x c e => (J.ok.exf b hb).2 x c e, fun p hp => nomatch (show p ∈ ([] : List (Addr × Obj)) from by simpa using hp)⟩
    have loop : codeAny (model X.prog X.w) X.A (.compLoop (.SetComp elt [⟨tg, iter, ifs, 0⟩] scope pos) 0 (.ref it) (.ref D) ce) (compPost (model X.prog X.w) X.A X.xe none (EP X pins σ Q) (.ref D) s3.heap.objs.size) s4 := by
      refine PpSet.compLoopS_any (fun n s' => ∃ i H', Inv (X.blk s3 H3 scope ce fp) [] (wipe σ (own.map (·.2))) H' s' ∧ tn i s'.heap ∧ (∀ b ∈ fp, H' b = none) ∧ W i n H') ?_ m0 ⟨0, H3, I4, tn4, fun b hb => (fp3' b hb).1.1, start⟩
      rintro n s5 ⟨i, H5, I5, tn5, free5, w5⟩
      rcases step i n H5 w5 with ⟨stop, done⟩ | ⟨go, Nx, lower, turn⟩
      · refine thnF (T.done (X.blk s3 H3 scope ce fp) rfl rfl rfl calm i [] s5 _ H5 (fun _ _ => False) I5 (off I5 free5) tn5 stop) fun r s6 ⟨hr, I6⟩ => ?_
        subst hr
        have I7 : Inv X pins σ H5 s6 := I3.call' (ch := fp) I6.os I6.base I6.hok I6.bare fun b hb => let z := (fp3' b hb).1.2; ⟨z.2.2.1, z.1, z.2.2.2.1, z.2.2.2.2⟩
        obtain ⟨m, names, _⟩ := I6.loc
        have names' : s6.heap.Ns s3.heap.objs.size m := locs ▸ (show s6.heap.Ns ce.locals m from names)
        have none5 : H5 s3.heap.objs.size = none := locs ▸ (show H5 ce.locals = none from I6.free)
        obtain ⟨f0, f1, f2, f3, f4, f5⟩ := I3.fpOk (Nat.le_refl s3.heap.objs.size) none5
        exact ⟨m, names', fun g sb => ⟨.ref D, H5, I7.turned (t' := s6.toks) (fun b o hb e => (sb.2 b hb).trans e) f0 f1 f3 f4 f5, rfl, done⟩⟩
      · refine thnF (T.item (X.blk s3 H3 scope ce fp) rfl rfl rfl calm i [] s5 _ H5 (fun _ _ => False) I5 (off I5 free5) tn5 go) fun r s6 ⟨u, hr, h6⟩ => ?_
        subst hr
        refine thnF h6 fun _ s7 ⟨x, H7, I7, r7, y7, tn7, free7⟩ => ?_
        refine thnF (G.run _ s7 _ H7 x u _ (I7.pinned (off I7 free7) (T.obj _ _ tn7)) r7 (turn x H7 y7)) fun _ s8 ⟨σ8, H8, I8, wiped, q8⟩ => ?_
        refine thnF (Te.run _ s8 σ8 H8 _ I8 q8) fun b s9 ⟨H9, I9, q9⟩ => ?_
        have back : ∀ {s' : Shared} {H' : Hp}, Inv (X.blk s3 H3 scope ce fp) ([] ++ pinsAt fp s7.heap) σ8 H' s' → Nx H' → ∃ m, m < n ∧ ∃ i H', Inv (X.blk s3 H3 scope ce fp) [] (wipe σ (own.map (·.2))) H' s' ∧ tn i s'.heap ∧ (∀ b ∈ fp, H' b = none) ∧ W i m H' := fun {s' H'} J nx => by
          obtain ⟨m', less, w'⟩ := lower H' nx
          have held : ∀ b ∈ fp, ∀ o, s7.heap.get? b = some o → s'.heap.get? b = some o ∧ H' b = none := fun b hb o e => let z := J.pin (b, o) (List.mem_append_right _ (List.mem_append_right _ (mem_pinsAt hb e))); ⟨z.1, z.2.1⟩
          refine ⟨m', less, i + 1, H', (J.unpinned (pins := [])).weak (by rw [← wiped, wipe_length]) (fun j v e => (wipe_some (wiped ▸ e)).1), T.keep _ _ _ tn7 fun b hb o e => (held b hb o e).1, fun b hb => ?_, w'⟩
          obtain ⟨o, e, _⟩ := T.obj _ _ tn7 b hb
          exact (held b hb o e).2
        cases b with
        | false => exact back I9 (by simpa using q9)
        | true =>
          have q9' : TurnI X.w D te σ8 H9 Nx := by simpa using q9
          refine thnF (El.run _ s9 σ8 H9 _ I9 q9') fun z s10 ⟨yv, H10, I10, r10, c, S0, n0, ey, at10, room, nx⟩ => ?_
          subst ey
          obtain ⟨tk, rfl⟩ := r10
          refine setR_add (setO_get (X := X.blk s3 H3 scope ce fp) I10 at10) room fun g sb new => ?_
          have there : ∃ u, g.get? D = some u := let ⟨o, _, _, _, ho, _⟩ := new; ⟨o, ho⟩
          exact back (I10.write (e := D) (t' := s10.toks + 1) (by rw [at10]; trivial) (.inl rfl) (fun b u hb hu => (sb.2 b hb).trans hu) there (setO_new new)) nx
    exact PpSet.codeAny_compStart_set loop (T.self X.A 0 _ _ _ tn4 loop)
  exact shape
/-- over a tuple, the steps leave the heap as it is -/
theorem sc_tupF {w : World} {K : PySem.W.Frag} {a : Addr} {xs : List V} {g : TG} {tt : TT} {te : TE} {vs : List Nat} {σ : L2.St} {H1 : Hp} {D : Addr} {Qd : Hp → Prop} (f : V → Int) (ht : SqT K H1 a xs) (nD : H1 D = none) (few : xs.length + 1 < scanBound)
    (hs : ∀ x ∈ xs, ∀ H, (∀ b o, H1 b = some o → H b = some o) → ∀ (Y : V → Hp → Prop) (N : Hp → Prop), Y (.int (f x)) H → g x (wipe σ vs) H fun σ2 H2 => wipe σ2 vs = wipe σ vs ∧ tt σ2 H2 fun b H3 => if b = true then te σ2 H3 Y else N H3)
    (hd : ∀ H n, (∀ b o, H1 b = some o → H b = some o) → H D = some (SetO w D (fun j => decide (j ∈ xs.map f)) n) → Qd H) :
    ∃ W : Nat → Nat → Hp → Prop, (∃ m, W 0 m (upd H1 D (SetO w D (fun _ => false) 0))) ∧ ∀ i m H, W i m H →
      ((Itt K a).stop i H ∧ Qd H) ∨ ((Itt K a).go i H ∧ ∃ Nx : Hp → Prop, (∀ H', Nx H' → ∃ m', m' < m ∧ W (i + 1) m' H') ∧ ∀ x H', (Itt K a).yld i H x H' → g x (wipe σ vs) H' fun σ2 H2 => wipe σ2 vs = wipe σ vs ∧ tt σ2 H2 fun b H3 => if b = true then TurnI w D te σ2 H3 Nx else Nx H3) := by
  have tupStays : ∀ H, (∀ b o, H1 b = some o → H b = some o) → SqT K H a xs := fun H k => by
    rcases ht with (h | ⟨o, h⟩) | h
    · exact .inl (.inl (k _ _ h))
    · exact .inl (.inr ⟨o, k _ _ h⟩)
    · exact .inr h
  refine ⟨fun i m H => m = xs.length - i ∧ i ≤ xs.length ∧ (∀ b o, H1 b = some o → H b = some o) ∧ ∃ n, n ≤ i ∧ H D = some (SetO w D (fun j => decide (j ∈ (xs.take i).map f)) n), ⟨xs.length, by simp, Nat.zero_le _, fun b o e => ?_, 0, Nat.le_refl _, ?_⟩, ?_⟩
  · rw [upd_ne (ne_of_none e nD)]; exact e
  · rw [upd_same]
    congr
  rintro i m H ⟨rfl, hi, k, n, hn, hD⟩
  have hq := tupStays H k
  by_cases hlt : i < xs.length
  · refine .inr ⟨⟨xs, xs[i], hq, by simp [hlt]⟩, fun H' => (∀ b o, H1 b = some o → H' b = some o) ∧ ∃ n, n ≤ i + 1 ∧ H' D = some (SetO w D (fun j => decide (j ∈ (xs.take (i + 1)).map f)) n), fun H' p => ⟨xs.length - (i + 1), by omega, rfl, hlt, p.1, p.2⟩, fun x H' y => ?_⟩
    obtain ⟨rfl, y⟩ := y
    have hx := y xs hq
    refine hs x (List.mem_of_getElem? hx) _ k _ _ ⟨f x, _, n, rfl, hD, by omega, fun b o e => ?_, (if decide (f x ∈ (xs.take i).map f) = true then n else n + 1), ?_, ?_⟩
    · rw [upd_ne (ne_of_none e nD)]; exact k _ _ e
    · split <;> omega
    · rw [upd_same]
      congr
      funext j
      rw [List.take_add_one, hx, Bool.eq_iff_iff]
      simp
  · have e : i = xs.length := by omega
    subst e
    rw [List.take_of_length_le (Nat.le_refl _)] at hD
    exact .inl ⟨⟨xs, hq, Nat.le_refl _⟩, hd H n k hD⟩
end
end Ph

namespace Ph
open PySem PySem.Spec PyProof.Rows L2
/-! ### comprehensions whose steps leave the heap as it is -/
section
variable {K : PySem.W.Frag} {a : Addr} {xs : List V} {g : TG} {tt : TT} {te : TE} {vs : List Nat} {σ : L2.St} {H1 : Hp} {D : Addr} {Qd : Hp → Prop}
abbrev Stp (g : TG) (tt : TT) (te : TE) (vs : List Nat) (σ : L2.St) (H1 : Hp) (f : V → Option V) (x : V) : Prop :=
  ∀ H, (∀ b o, H1 b = some o → H b = some o) → ∀ (Y : V → Hp → Prop) (N : Hp → Prop), (∀ y, f x = some y → Y y H) → (f x = none → N H) →
    g x (wipe σ vs) H fun σ2 H2 => wipe σ2 vs = wipe σ vs ∧ tt σ2 H2 fun b H3 => if b = true then te σ2 H3 Y else N H3
theorem take_filterMap {α β : Type} (f : α → Option β) {l : List α} {i : Nat} {x : α} (h : l[i]? = some x) : (l.take (i + 1)).filterMap f = (l.take i).filterMap f ++ (f x).toList := by
  rw [List.take_add_one, h, List.filterMap_append]
  congr 1
theorem fm_len {α β : Type} (f : α → Option β) (l : List α) (i : Nat) : ((l.take i).filterMap f).length ≤ l.length := by
  refine Nat.le_trans (List.length_filterMap_le _ _) ?_
  rw [List.length_take]
  omega
theorem lc_tupF (f : V → Option V) (ht : SqT K H1 a xs) (nD : H1 D = none) (hlen : xs.length < sizeLine) (hs : ∀ x ∈ xs, Stp g tt te vs σ H1 f x) (hd : ∀ H, (∀ b o, H1 b = some o → H b = some o) → H D = some (.lst (xs.filterMap f)) → Qd H) :
    ∃ W : Nat → Nat → Hp → Prop, (∃ m, W 0 m (upd H1 D (.lst []))) ∧ ∀ i m H, W i m H →
      ((Itt K a).stop i H ∧ Qd H) ∨ ((Itt K a).go i H ∧ ∃ Nx : Hp → Prop, (∀ H', Nx H' → ∃ m', m' < m ∧ W (i + 1) m' H') ∧ ∀ x H', (Itt K a).yld i H x H' → g x (wipe σ vs) H' fun σ2 H2 => wipe σ2 vs = wipe σ vs ∧ tt σ2 H2 fun b H3 =>
        if b = true then te σ2 H3 fun y H4 => ∃ acc, H4 D = some (.lst acc) ∧ acc.length < sizeLine ∧ Nx (upd H4 D (.lst (acc ++ [y]))) else Nx H3) := by
  refine lc_tup (K := K) (a := a) (xs := xs) (fun i H => (∀ b o, H1 b = some o → H b = some o) ∧ H D = some (.lst ((xs.take i).filterMap f))) ⟨fun b o e => ?_, ?_⟩ (fun i H _ p => ?_) (fun i x H hx p => ?_) (fun H p => ?_)
  · rw [upd_ne (ne_of_none e nD)]; exact e
  · rw [upd_same]; rfl
  · rcases ht with (h | ⟨o, h⟩) | h
    · exact .inl (.inl (p.1 _ _ h))
    · exact .inl (.inr ⟨o, p.1 _ _ h⟩)
    · exact .inr h
  · refine hs x (List.mem_of_getElem? hx) H p.1 _ _ (fun y ey => ⟨_, p.2, Nat.lt_of_le_of_lt (fm_len f xs i) hlen, fun b o e => ?_, ?_⟩) fun en => ⟨p.1, ?_⟩
    · rw [upd_ne (ne_of_none e nD)]; exact p.1 _ _ e
    · rw [upd_same, take_filterMap f hx, ey]; rfl
    · rw [take_filterMap f hx, en]; simpa using p.2
  · refine hd H p.1 ?_
    have := p.2
    rwa [List.take_of_length_le (Nat.le_refl _)] at this
theorem lc_listF (f : V → Option V) (ht : SqL K H1 a xs) (nD : H1 D = none) (hlen : xs.length < sizeLine) (hs : ∀ x ∈ xs, Stp g tt te vs σ H1 f x) (hd : ∀ H, (∀ b o, H1 b = some o → H b = some o) → H D = some (.lst (xs.filterMap f)) → Qd H) :
    ∃ W : Nat → Nat → Hp → Prop, (∃ m, W 0 m (upd H1 D (.lst []))) ∧ ∀ i m H, W i m H →
      ((Itl K a).stop i H ∧ Qd H) ∨ ((Itl K a).go i H ∧ ∃ Nx : Hp → Prop, (∀ H', Nx H' → ∃ m', m' < m ∧ W (i + 1) m' H') ∧ ∀ x H', (Itl K a).yld i H x H' → g x (wipe σ vs) H' fun σ2 H2 => wipe σ2 vs = wipe σ vs ∧ tt σ2 H2 fun b H3 =>
        if b = true then te σ2 H3 fun y H4 => ∃ acc, H4 D = some (.lst acc) ∧ acc.length < sizeLine ∧ Nx (upd H4 D (.lst (acc ++ [y]))) else Nx H3) := by
  refine lc_list (K := K) (a := a) (xs := xs) (fun i H => (∀ b o, H1 b = some o → H b = some o) ∧ H D = some (.lst ((xs.take i).filterMap f))) ⟨fun b o e => ?_, ?_⟩ (fun i H _ p => ?_) (fun i x H hx p => ?_) (fun H p => ?_)
  · rw [upd_ne (ne_of_none e nD)]; exact e
  · rw [upd_same]; rfl
  · rcases ht with (h | ⟨o, h⟩) | h
    · exact .inl (.inl (p.1 _ _ h))
    · exact .inl (.inr ⟨o, p.1 _ _ h⟩)
    · exact .inr h
  · refine hs x (List.mem_of_getElem? hx) H p.1 _ _ (fun y ey => ⟨_, p.2, Nat.lt_of_le_of_lt (fm_len f xs i) hlen, fun b o e => ?_, ?_⟩) fun en => ⟨p.1, ?_⟩
    · rw [upd_ne (ne_of_none e nD)]; exact p.1 _ _ e
    · rw [upd_same, take_filterMap f hx, ey]; rfl
    · rw [take_filterMap f hx, en]; simpa using p.2
  · refine hd H p.1 ?_
    have := p.2
    rwa [List.take_of_length_le (Nat.le_refl _)] at this
/-- over the keys of a dict that stands still -/
theorem lc_keysF {d : Addr} {od : Obj} {kvs : List (Key × V)} (f : V → Option V) (ht : H1 d = some (.frz od (.dK kvs))) (nD : H1 D = none) (hlen : kvs.length < sizeLine) (hs : ∀ x ∈ kvs.map (fun kv => kV kv.1), Stp g tt te vs σ H1 f x) (hd : ∀ H, (∀ b o, H1 b = some o → H b = some o) → H D = some (.lst ((kvs.map fun kv => kV kv.1).filterMap f)) → Qd H) :
    ∃ W : Nat → Nat → Hp → Prop, (∃ m, W 0 m (upd H1 D (.lst []))) ∧ ∀ i m H, W i m H →
      ((Itk d od kvs).stop i H ∧ Qd H) ∨ ((Itk d od kvs).go i H ∧ ∃ Nx : Hp → Prop, (∀ H', Nx H' → ∃ m', m' < m ∧ W (i + 1) m' H') ∧ ∀ x H', (Itk d od kvs).yld i H x H' → g x (wipe σ vs) H' fun σ2 H2 => wipe σ2 vs = wipe σ vs ∧ tt σ2 H2 fun b H3 =>
        if b = true then te σ2 H3 fun y H4 => ∃ acc, H4 D = some (.lst acc) ∧ acc.length < sizeLine ∧ Nx (upd H4 D (.lst (acc ++ [y]))) else Nx H3) := by
  refine lc_it walk_keys (fun i H => (∀ b o, H1 b = some o → H b = some o) ∧ H D = some (.lst (((kvs.map fun kv => kV kv.1).take i).filterMap f))) ⟨fun b o e => ?_, ?_⟩ (fun i H _ p => p.1 _ _ ht) (fun i x H H' hi p y => ?_) (fun H p => ?_)
  · rw [upd_ne (ne_of_none e nD)]; exact e
  · rw [upd_same]; rfl
  · obtain ⟨rfl, k, v, hk, rfl⟩ := y
    have hx : (kvs.map fun kv => kV kv.1)[i]? = some (kV k) := by rw [List.getElem?_map, hk]; rfl
    refine hs _ (List.mem_of_getElem? hx) _ p.1 _ _ (fun y ey => ⟨_, p.2, Nat.lt_of_le_of_lt (fm_len f _ i) (by rw [List.length_map]; exact hlen), fun b o e => ?_, ?_⟩) fun en => ⟨p.1, ?_⟩
    · rw [upd_ne (ne_of_none e nD)]; exact p.1 _ _ e
    · rw [upd_same, take_filterMap f hx, ey]; rfl
    · rw [take_filterMap f hx, en]; simpa using p.2
  · refine hd H p.1 ?_
    have := p.2
    rwa [List.take_of_length_le (by rw [List.length_map]; exact Nat.le_refl _)] at this
end
end Ph

namespace Ph
open PySem PySem.Spec PyProof.Rows L2
/-! ### zip of a tuple and a list, in any mix (true: a tuple) -/
def SqK (k : Bool) (K : PySem.W.Frag) (H : Hp) (a : Addr) (xs : List V) : Prop := if k = true then SqT K H a xs else SqL K H a xs
def ItrK (k : Bool) (g : Heap) (j l : Addr) (n : Nat) : Prop := if k = true then g.IsTupleIter j l n else g.IsListIter j l n
def SeqK (k : Bool) (g : Heap) (l : Addr) (vs : Array Value) : Prop := if k = true then g.IsTuple l vs else g.IsList l vs
def itoK (k : Bool) (l : Addr) : Obj := if k = true then { cls := .type "tuple_iterator", data := .fields #[.ref l, .int 0 0] } else { cls := .type "list_iterator", data := .fields #[.ref l, .int 0 0] }
theorem ItrK.obj {k : Bool} {g : Heap} {j l : Addr} {n : Nat} (h : ItrK k g j l n) : ∃ o, g.get? j = some o ∧ ∀ v, o.data ≠ .cell v := by
  cases k <;> (obtain ⟨o, e, _, d⟩ := h; exact ⟨o, e, fun v q => by rw [d] at q; cases q⟩)
theorem ItrK.on {k : Bool} {g g' : Heap} {j l : Addr} {n : Nat} (h : ItrK k g j l n) (e : ∀ o, g.get? j = some o → g'.get? j = some o) : ItrK k g' j l n := by
  cases k
  · exact Heap.IsListIter.at h e
  · exact Heap.IsTupleIter.at h e
theorem drawK {P : Program} {w : World} {A : Around} (k : Bool) (hh : A.handled = none) (j l : Addr) (ne : l ≠ j) (vs : Array Value) :
    Draws P w A j [j, l] vs.size (fun i v => vs[i]? = some v) (fun i g => ItrK k g j l i ∧ SeqK k g l vs) := by
  cases k
  · exact Draws.list hh j l ne vs
  · exact Draws.tuple hh j l ne vs
theorem beginK (k : Bool) (l : Addr) (vs : Array Value) : Begins (.ref l) (itoK k l) fun g => SeqK k g l vs := by
  cases k
  · exact begins_list l vs
  · exact begins_tuple l vs
theorem itoK_it {k : Bool} {g : Heap} {j l : Addr} (h : g.get? j = some (itoK k l)) : ItrK k g j l 0 := by
  cases k <;> exact ⟨_, h, rfl, rfl⟩
theorem Inv.seqK {X : Cx} {pins : List (Addr × Obj)} {σ : L2.St} {H : Hp} {s : Shared} {k : Bool} {a : Addr} {xs : List V} (I : Inv X pins σ H s) (h : SqK k X.K H a xs) : ∃ vs : List Value, Vals xs vs ∧ SeqK k s.heap a vs.toArray ∧ a < s.heap.objs.size := by
  cases k
  · obtain ⟨vs, r, p, _⟩ := I.list h
    exact ⟨vs, r, p.isList, p.lt⟩
  · obtain ⟨vs, r, p, _⟩ := I.tuple h
    obtain ⟨o, e, _⟩ := id p
    exact ⟨vs, r, p, Heap.lt_size e⟩
theorem Inv.seqK_inj {X : Cx} {pins : List (Addr × Obj)} {σ : L2.St} {H : Hp} {s : Shared} {k : Bool} {a : Addr} {xs ys : List V} (I : Inv X pins σ H s) (h : SqK k X.K H a xs) (h2 : SqK k X.K H a ys) : xs = ys := by
  cases k
  · exact I.list_inj h h2
  · exact I.tuple_inj h h2
def ItzK (k1 k2 : Bool) (K : PySem.W.Frag) (a b : Addr) : It :=
  ⟨fun i H => ∃ (xs ys : List V) (x y : V), SqK k1 K H a xs ∧ SqK k2 K H b ys ∧ xs[i]? = some x ∧ ys[i]? = some y,
    fun i H v H2 => ∃ T x y, v = .ref T ∧ H T = none ∧ H2 = upd H T (.tup [x, y]) ∧ (∀ xs, SqK k1 K H a xs → xs[i]? = some x) ∧ ∀ ys, SqK k2 K H b ys → ys[i]? = some y,
    fun i H => ∃ xs ys : List V, SqK k1 K H a xs ∧ SqK k2 K H b ys ∧ i ≤ xs.length ∧ i ≤ ys.length ∧ (i = xs.length ∨ i = ys.length)⟩
theorem mem5 {c z t u j1 j2 : Addr} (h : c ∈ [z, t, u, j1, j2]) : c = z ∨ c = t ∨ c = u ∨ c = j1 ∨ c = j2 := by simpa using h
theorem turn_zipK {P : Program} {w : World} {K : PySem.W.Frag} {es : List Expr} {kk : Nat} {tp : Pos} {k1 k2 : Bool} {a b z t u j1 j2 : Addr} (D : ZipSep2 z t u j1 j2 [j1, a] [j2, b]) (n1 : a ≠ j1) (n2 : b ≠ j2) :
    Turn P w K (.Tuple es kk tp) (ItzK k1 k2 K a b) [z, t, u, j1, j2] z (fun i g => IsZip g z t u .none ∧ IsTupOf2 g t (.ref j1) (.ref j2) ∧ (∃ x y, IsTupOf2 g u x y) ∧ ItrK k1 g j1 a i ∧ ItrK k2 g j2 b i) where
  mem := List.mem_cons_self ..
  obj := fun i g st c hc => by
    obtain ⟨hz, ht, ⟨x, y, hu⟩, h1, h2⟩ := st
    rcases mem5 hc with rfl | rfl | rfl | rfl | rfl
    · exact ⟨_, hz, fun v q => nomatch q⟩
    · exact ⟨_, ht, fun v q => nomatch q⟩
    · exact ⟨_, hu, fun v q => nomatch q⟩
    · exact h1.obj
    · exact h2.obj
  keep := fun i g g2 st kp => by
    obtain ⟨hz, ht, ⟨x, y, hu⟩, h1, h2⟩ := st
    exact ⟨kp z (by simp) _ hz, kp t (by simp) _ ht, ⟨x, y, kp u (by simp) _ hu⟩, h1.on fun o => kp j1 (by simp) o, h2.on fun o => kp j2 (by simp) o⟩
  item := by
    intro X eP ew eK hc i pins s σ H E I hf st hg
    subst eP ew eK
    obtain ⟨hz, ht, ⟨x0, y0, hu⟩, h1, h2⟩ := st
    obtain ⟨xs, ys, x, y, qx, qy, gx, gy⟩ := hg
    obtain ⟨vs, r1, p1, _⟩ := Inv.seqK I qx
    obtain ⟨vt, r2, p2, _⟩ := Inv.seqK I qy
    obtain ⟨v1, gv1, rv1⟩ := r1.get gx
    obtain ⟨v2, gv2, rv2⟩ := r2.get gy
    have zl : z < s.heap.objs.size := Heap.lt_size hz
    have l1 : i < vs.toArray.size := by
      have := (List.getElem?_eq_some_iff.mp gv1).1
      simpa using this
    have l2 : i < vt.toArray.size := by
      have := (List.getElem?_eq_some_iff.mp gv2).1
      simpa using this
    have hh : X.A.in1.handled = none := I.ok.hd hc
    refine wpAny_pyNext_zipD2_item D (drawK k1 hh j1 a n1 vs.toArray) (drawK k2 hh j2 b n2 vt.toArray) hz ht hu ⟨h1, p1⟩ ⟨h2, p2⟩ l1 l2 fun y1 y2 g tk e1 e2 hz1 hu1 st1 st2 hT hsz hk => ?_
    have f1 : y1 = v1 := by
      have q : vs.toArray[i]? = some v1 := by simpa using gv1
      rw [q] at e1
      exact (Option.some.inj e1).symm
    have f2 : y2 = v2 := by
      have q : vt.toArray[i]? = some v2 := by simpa using gv2
      rw [q] at e2
      exact (Option.some.inj e2).symm
    subst f1 f2
    refine ⟨_, rfl, wpAny_letOwnedTupleGo_zip (s := { s with heap := g, toks := tk }) hz1 fun g2 hz2 sb => ?_⟩
    have hT2 : g2.get? s.heap.objs.size = some { cls := .type "tuple", data := .seq #[y1, y2] } := (sb.2 _ (Nat.ne_of_gt zl)).trans hT
    have new : ObjOk X.prog X.w (upd H s.heap.objs.size (.tup [x, y])) g2 s.heap.objs.size (.tup [x, y]) :=
      ⟨(by show 2 ≤ sizeLine; decide), [y1, y2], .cons rv1 (.cons rv2 .nil), ⟨_, hT2, rfl, _, rfl⟩⟩
    have I1 : Inv X pins σ (upd H s.heap.objs.size (.tup [x, y])) { s with heap := g2, toks := tk } :=
      I.turnedNew (t' := tk) (ch := [z, t, u, j1, j2]) (fun c o nb q => (sb.2 c (fun e => nb (by simp [e]))).trans (hk c o (fun e => nb (by simp [e])) (fun e => nb (by simp [e])) (fun e => nb (by simp [e])) (fun e => nb (by simp [e])) q)) hf (Nat.le_refl _) new
    refine ⟨.ref s.heap.objs.size, _, I1, rfl, ⟨_, x, y, rfl, I.hok.fresh (Nat.le_refl _), rfl, fun l hl => by rw [Inv.seqK_inj I hl qx]; exact gx, fun l hl => by rw [Inv.seqK_inj I hl qy]; exact gy⟩, ⟨hz2, ?_, ⟨y1, y2, ?_⟩, ?_, ?_⟩, fun c hm => ?_⟩
    · exact (sb.2 _ D.TIz).trans (hk _ _ D.TIz D.TITO D.TIi1 D.TIi2 ht)
    · exact (sb.2 _ D.TOz).trans hu1
    · exact st1.1.on fun o q => (sb.2 _ D.zi1.symm).trans q
    · exact st2.1.on fun o q => (sb.2 _ D.zi2.symm).trans q
    · have lt : c < s.heap.objs.size := by
        rcases mem5 hm with rfl | rfl | rfl | rfl | rfl
        · exact zl
        · exact Heap.lt_size ht
        · exact Heap.lt_size hu
        · obtain ⟨_, e, _⟩ := h1.obj
          exact Heap.lt_size e
        · obtain ⟨_, e, _⟩ := h2.obj
          exact Heap.lt_size e
      rw [upd_ne (Nat.ne_of_lt lt)]
      exact (hf c hm).1
  done := by
    intro X eP ew eK hc i pins s σ H E I hf st hg
    subst eP ew eK
    obtain ⟨hz, ht, ⟨x0, y0, hu⟩, h1, h2⟩ := st
    obtain ⟨xs, ys, qx, qy, le1, le2, hend⟩ := hg
    obtain ⟨vs, r1, p1, _⟩ := Inv.seqK I qx
    obtain ⟨vt, r2, p2, _⟩ := Inv.seqK I qy
    have m1 := r1.length
    have m2 := r2.length
    have hh : X.A.in1.handled = none := I.ok.hd hc
    have s1 : vs.toArray.size = xs.length := by simp [m1]
    have s2 : vt.toArray.size = ys.length := by simp [m2]
    exact wpAny_pyNext_zipD2_end D (drawK k1 hh j1 a n1 vs.toArray) (drawK k2 hh j2 b n2 vt.toArray) hz ht hu ⟨h1, p1⟩ ⟨h2, p2⟩ (by rw [s1]; exact le1) (by rw [s2]; exact le2) (by rw [s1, s2]; exact hend) fun g tk hk =>
      ⟨rfl, I.turnedL (t' := tk) (ch := [z, t, u, j1, j2]) (fun c o nb q => hk c o (fun e => nb (by simp [e])) (fun e => nb (by simp [e])) (fun e => nb (by simp [e])) (fun e => nb (by simp [e])) q) hf⟩
  self := fun A i s Q E st h => wpAny_pyIter_zip st.1 h
def iZipK (k1 k2 : Bool) (K : PySem.W.Frag) (ta : TA) : TI := fun σ H R => ta σ H fun us H1 => ∃ a b xs ys, us = [.ref a, .ref b] ∧ SqK k1 K H1 a xs ∧ SqK k2 K H1 b ys ∧ R (ItzK k1 k2 K a b) H1
theorem pi_zipK {k1 k2 : Bool} {X : Cx} {e e2 : Expr} {ta : TA} {p pos tp : Pos} {es : List Expr} {kk : Nat} (hg : Gl X "zip") (hm : X.mg "zip" = none) (ha : PA X [e, e2] ta)
    (hs : starEach [e, e2] X.env = (false, eval e X.env) :: starEach [e2] X.env := by rfl) (hp : (backTo pos (starEach [e2] X.env)).any (·.1) = false := by rfl) :
    PI X (.Tuple es kk tp) (.Call (.Name "zip" p) [e, e2] [] pos) (iZipK k1 k2 X.K ta) := by
  refine ⟨fun pins s σ H R I h => ?_⟩
  refine Call_ (ld_blt I hg hm PyProof.Rows.boot_zip (PyProof.Rows.callWith_type1 (thn (ha.run pos pins s σ H _ I h) fun us s1 ⟨vs, H1, I1, rs, q1⟩ => ?_) hs hp))
  obtain ⟨a, b, xs, ys, rfl, qx, qy, q⟩ := q1
  cases rs with
  | cons r rr =>
    cases rr with
    | cons r2 rr =>
      cases rr
      cases r
      cases r2
      obtain ⟨va, _, p1, la⟩ := Inv.seqK I1 qx
      obtain ⟨vb, _, p2, lb⟩ := Inv.seqK I1 qy
      refine zip_begins2 (beginK k1 a va.toArray) (beginK k2 b vb.toArray) p1 p2 fun g hz ht hu g1 g2 hsz hk => wpAny_pyIter_zip hz ?_
      have I2 : Inv X pins σ H1 { s1 with heap := g } := I1.kept (t' := s1.toks) hk
      refine ⟨s1.heap.objs.size + 4, [s1.heap.objs.size + 4, s1.heap.objs.size + 2, s1.heap.objs.size + 3, s1.heap.objs.size, s1.heap.objs.size + 1], _, _, H1, rfl, I2, turn_zipK (k1 := k1) (k2 := k2) (zip_sep2 (fp1 := [a]) (fp2 := [b]) ?_ ?_) ?_ ?_, ⟨hz, ht, ⟨_, _, hu⟩, itoK_it g1, itoK_it g2⟩, fun c hm => ?_, q⟩
      · intro c hcm
        rw [List.mem_singleton.mp hcm]
        exact la
      · intro c hcm
        rw [List.mem_singleton.mp hcm]
        exact lb
      · exact Nat.ne_of_lt la
      · exact Nat.ne_of_lt (Nat.lt_succ_of_lt lb)
      · have le : s1.heap.objs.size ≤ c := by
          rcases mem5 hm with rfl | rfl | rfl | rfl | rfl <;> first | exact Nat.le_add_right _ _ | exact Nat.le_refl _
        exact I1.fpOk le (I1.hok.fresh le)
/-- a loop over such a zip -/
theorem for_zipK {k1 k2 : Bool} {K : PySem.W.Frag} {a b : Addr} {xs ys : List V} {g : TG} {tb : TS} {D : Ends} {σ : L2.St} {H : Hp} (n : Nat) (hn : n = min xs.length ys.length) (Pv : Nat → L2.St → Hp → Prop) (h0 : Pv 0 σ H) (hq : ∀ i σ H, Pv i σ H → SqK k1 K H a xs ∧ SqK k2 K H b ys)
    (hs : ∀ (i : Nat) (x y : V) (T : Addr) (σ : L2.St) (H : Hp), i < n → xs[i]? = some x → ys[i]? = some y → Pv i σ H → H T = none → g (.ref T) σ (upd H T (.tup [x, y])) fun σ2 H2 => tb { D with nx := Pv (i + 1), ct := Pv (i + 1), bk := D.nx } σ2 H2) (hd : ∀ σ H, Pv n σ H → D.nx σ H) :
    ∃ W : Nat → Nat → L2.St → Hp → Prop, (∃ m, W 0 m σ H) ∧ ∀ i m σ H, W i m σ H →
      ((ItzK k1 k2 K a b).stop i H ∧ D.nx σ H) ∨ ((ItzK k1 k2 K a b).go i H ∧ ∃ N : L2.St → Hp → Prop, (∀ σ' H', N σ' H' → ∃ m', m' < m ∧ W (i + 1) m' σ' H') ∧ ∀ v H', (ItzK k1 k2 K a b).yld i H v H' → g v σ H' fun σ2 H2 => tb { D with nx := N, ct := N, bk := D.nx } σ2 H2) := by
  refine ⟨fun i m σ H => m = n - i ∧ i ≤ n ∧ Pv i σ H, ⟨n, rfl, Nat.zero_le _, h0⟩, ?_⟩
  rintro i m σ H ⟨rfl, hi, p⟩
  obtain ⟨qx, qy⟩ := hq i σ H p
  rcases Nat.lt_or_ge i n with lt | ge
  · have l1 : i < xs.length := by omega
    have l2 : i < ys.length := by omega
    refine .inr ⟨⟨xs, ys, _, _, qx, qy, List.getElem?_eq_getElem l1, List.getElem?_eq_getElem l2⟩, Pv (i + 1), fun σ' H' p' => ⟨n - (i + 1), by omega, rfl, lt, p'⟩, fun v H' yl => ?_⟩
    obtain ⟨T, x, y, rfl, nT, rfl, f1, f2⟩ := yl
    exact hs i x y T σ H lt (f1 xs qx) (f2 ys qy) p nT
  · have e : i = n := Nat.le_antisymm hi ge
    subst e
    exact .inl ⟨⟨xs, ys, qx, qy, by omega, by omega, by omega⟩, hd σ H p⟩
end Ph

namespace Ph
/-! ### the bounds, as sums over chunks -/
def cdw (x s : Nat) : Nat := (x + s - 1) / s
theorem lt_cdw {x s k : Nat} (h : 0 < s) : k < cdw x s ↔ k * s < x := by
  unfold cdw
  show k + 1 ≤ _ ↔ _
  rw [Nat.le_div_iff_mul_le h, Nat.add_mul, Nat.one_mul]
  omega
theorem cdw_mono {x y s : Nat} (h : x ≤ y) : cdw x s ≤ cdw y s := Nat.div_le_div_right (by omega)
theorem cdw_mul {n s : Nat} (h : 0 < s) : cdw (n * s) s = n := by
  unfold cdw
  rw [Nat.div_eq_iff (by omega)]
  have : n * s + s = (n + 1) * s := by rw [Nat.add_mul, Nat.one_mul]
  omega
theorem le_cdw {x s : Nat} (h : 0 < s) : x ≤ cdw x s * s := by
  by_cases c : x ≤ cdw x s * s
  · exact c
  · have := (lt_cdw (x := x) (k := cdw x s) h).mpr (by omega)
    omega
theorem cdw_lt {x s : Nat} (h : 0 < s) : cdw x s * s < x + s := by
  cases e : cdw x s with
  | zero => omega
  | succ k =>
    have := (lt_cdw (x := x) (k := k) h).mp (by omega)
    rw [Nat.add_mul, Nat.one_mul]
    omega
def sm (f : Nat → Nat) : Nat → Nat
  | 0 => 0
  | n + 1 => sm f n + f n
theorem sm_mono {f : Nat → Nat} {a : Nat} : ∀ {c : Nat}, a ≤ c → sm f a ≤ sm f c
  | 0, h => by rw [Nat.le_zero.mp h]; exact Nat.le_refl _
  | c + 1, h => by
    rcases Nat.lt_or_ge a (c + 1) with z | z
    · exact Nat.le_trans (sm_mono (Nat.le_of_lt_succ z)) (Nat.le_add_right _ _)
    · rw [Nat.le_antisymm h z]; exact Nat.le_refl _
theorem sm_le {f g : Nat → Nat} : ∀ {n : Nat}, (∀ k, k < n → f k ≤ g k) → sm f n ≤ sm g n
  | 0, _ => Nat.le_refl _
  | n + 1, h => Nat.add_le_add (sm_le fun k hk => h k (Nat.lt_succ_of_lt hk)) (h n (Nat.lt_succ_self n))
theorem sm_congr {f g : Nat → Nat} : ∀ {n : Nat}, (∀ k, k < n → f k = g k) → sm f n = sm g n
  | 0, _ => rfl
  | n + 1, h => by
    show sm f n + f n = sm g n + g n
    rw [sm_congr fun k hk => h k (Nat.lt_succ_of_lt hk), h n (Nat.lt_succ_self n)]
theorem sm_const {f : Nat → Nat} {a v : Nat} : ∀ {c : Nat}, a ≤ c → (∀ k, a ≤ k → k < c → f k = v) → sm f c = sm f a + v * (c - a)
  | 0, h, _ => by rw [Nat.le_zero.mp h]; rfl
  | c + 1, h, hf => by
    rcases Nat.lt_or_ge a (c + 1) with z | z
    · show sm f c + f c = _
      rw [sm_const (Nat.le_of_lt_succ z) fun k h1 h2 => hf k h1 (Nat.lt_succ_of_lt h2), hf c (Nat.le_of_lt_succ z) (Nat.lt_succ_self c), Nat.succ_sub (Nat.le_of_lt_succ z), Nat.mul_succ]
      omega
    · rw [Nat.le_antisymm h z]
      simp
theorem sm_ge {f : Nat → Nat} {v : Nat} : ∀ {n : Nat}, (∀ k, k < n → v ≤ f k) → n * v ≤ sm f n
  | 0, _ => by omega
  | n + 1, h => by
    have := sm_ge (n := n) fun k hk => h k (Nat.lt_succ_of_lt hk)
    have := h n (Nat.lt_succ_self n)
    show (n + 1) * v ≤ sm f n + f n
    rw [Nat.add_mul, Nat.one_mul]
    omega
/-- every r-th number alone -/
theorem sm_step {f : Nat → Nat} {r : Nat} (hr : 1 ≤ r) : ∀ {a n : Nat}, (a = 0 ∨ (a - 1) * r < n) → sm (fun k => f (k * r)) a ≤ sm f n
  | 0, _, _ => Nat.zero_le _
  | a + 1, n, h => by
    have h1 : a * r < n := by rcases h with z | z; · omega
                              · exact z
    have ih : sm (fun k => f (k * r)) a ≤ sm f (a * r) := by
      refine sm_step hr ?_
      cases a with
      | zero => exact .inl rfl
      | succ a => 
        right
        show a * r < (a + 1) * r
        rw [Nat.add_mul, Nat.one_mul]
        omega
    show sm _ a + f (a * r) ≤ _
    exact Nat.le_trans (Nat.add_le_add_right ih _) (sm_mono (f := f) (a := a * r + 1) h1)
/-- the class of the blocks that reach x: the first below i whose number is greater -/
def cls (b : Nat → Nat) : Nat → Nat → Nat
  | 0, _ => 0
  | i + 1, x => if cls b i x < i then cls b i x else if x < b i then i else i + 1
theorem cls_le (b : Nat → Nat) : ∀ (i x : Nat), cls b i x ≤ i
  | 0, _ => Nat.le_refl _
  | i + 1, x => by
    have := cls_le b i x
    unfold cls
    split
    · omega
    · split <;> omega
theorem cls_hi {b : Nat → Nat} : ∀ {i x : Nat}, cls b i x < i → x < b (cls b i x)
  | 0, _, h => absurd h (by omega)
  | i + 1, x, h => by
    unfold cls at h ⊢
    split
    · rename_i c
      exact cls_hi c
    · rename_i c
      rw [if_neg c] at h
      split
      · rename_i c2
        exact c2
      · rename_i c2
        rw [if_neg c2] at h
        omega
theorem cls_lo {b : Nat → Nat} : ∀ {i x j : Nat}, j < cls b i x → b j ≤ x
  | 0, _, _, h => absurd h (by unfold cls; omega)
  | i + 1, x, j, h => by
    have l := cls_le b i x
    unfold cls at h
    by_cases c : cls b i x < i
    · rw [if_pos c] at h
      exact cls_lo h
    · rw [if_neg c] at h
      by_cases c2 : x < b i
      · rw [if_pos c2] at h
        exact cls_lo (i := i) (by omega)
      · rw [if_neg c2] at h
        by_cases e : j = i
        · rw [e]; omega
        · exact cls_lo (i := i) (by omega)
theorem cls_eq {b : Nat → Nat} {i x j : Nat} (hj : j ≤ i) (lo : ∀ j', j' < j → b j' ≤ x) (hi : j < i → x < b j) : cls b i x = j := by
  have l := cls_le b i x
  rcases Nat.lt_trichotomy (cls b i x) j with z | z | z
  · have h1 := cls_hi (b := b) (i := i) (x := x) (by omega)
    have h2 := lo _ z
    omega
  · exact z
  · have h1 := cls_lo z
    have h2 := hi (by omega)
    omega
theorem cls_anti {b b' : Nat → Nat} {i x : Nat} (h : ∀ j, j < i → b j ≤ b' j) : cls b' i x ≤ cls b i x := by
  rcases Nat.lt_or_ge (cls b i x) (cls b' i x) with z | z
  · have l := cls_le b' i x
    have h1 := cls_hi (b := b) (i := i) (x := x) (by omega)
    have h2 := cls_lo z
    have h3 := h (cls b i x) (by omega)
    omega
  · exact z
def pvn (b : Nat → Nat) (t : Nat) : Nat → Nat
  | 0 => 0
  | j + 1 => cdw (b j) t
/-- the words that keep busy all chunks of t words before the numbers of the first i classes -/
def Lw (s b : Nat → Nat) (t i : Nat) : Nat := sm (fun j => s j * (pvn b t (j + 1) - pvn b t j)) i
theorem lw_sum {s b : Nat → Nat} {t i : Nat} (ht : 0 < t) (hm : ∀ j, j + 1 < i → b j ≤ b (j + 1)) : ∀ j, j ≤ i → Lw s b t j = sm (fun k => s (cls b i (k * t))) (pvn b t j)
  | 0, _ => rfl
  | j + 1, hj => by
    have mm : ∀ d j', j' + d + 1 = j → b j' ≤ b (j - 1) := by
      intro d
      induction d with
      | zero => intro j' e; have : j - 1 = j' := by omega
                rw [this]; exact Nat.le_refl _
      | succ d ih => intro j' e; exact Nat.le_trans (hm j' (by omega)) (ih (j' + 1) (by omega))
    have le : pvn b t j ≤ pvn b t (j + 1) := by
      cases j with
      | zero => exact Nat.zero_le _
      | succ j => exact cdw_mono (hm j (by omega))
    show Lw s b t j + s j * _ = _
    rw [lw_sum ht hm j (by omega), sm_const le (v := s j) fun k h1 h2 => ?_]
    have e : cls b i (k * t) = j := by
      refine cls_eq (by omega) (fun j' hj' => ?_) (fun _ => (lt_cdw ht).mp h2)
      cases j with
      | zero => omega
      | succ j0 =>
        have h3 : ¬ k * t < b j0 := fun h => by
          have := (lt_cdw ht).mpr h
          have h1' : cdw (b j0) t ≤ k := h1
          omega
        have h4 := mm (j0 - j') j' (by omega)
        show b j' ≤ k * t
        have : j0 + 1 - 1 = j0 := rfl
        rw [this] at h4
        omega
    rw [e]
structure CH (s : Nat → Nat) (m : Nat) : Prop where
  s0 : s 0 = 1
  dv : ∀ i, i + 1 < m → ∃ r, 1 ≤ r ∧ s (i + 1) = s i * r
theorem CH.pos {s : Nat → Nat} {m : Nat} (c : CH s m) : ∀ {i}, i < m → 1 ≤ s i
  | 0, _ => by rw [c.s0]; exact Nat.le_refl _
  | i + 1, h => by
    obtain ⟨r, hr, e⟩ := c.dv i h
    rw [e]
    exact Nat.le_trans (Nat.le_refl 1) (Nat.mul_le_mul (c.pos (by omega)) hr)
theorem CH.mono1 {s : Nat → Nat} {m i : Nat} (c : CH s m) (h : i + 1 < m) : s i ≤ s (i + 1) := by
  obtain ⟨r, hr, e⟩ := c.dv i h
  rw [e]
  exact Nat.le_mul_of_pos_right _ hr
theorem CH.mono {s : Nat → Nat} {m i : Nat} (c : CH s m) : ∀ {j}, i ≤ j → j < m → s i ≤ s j
  | 0, h, _ => by rw [Nat.le_zero.mp h]; exact Nat.le_refl _
  | j + 1, h, hj => by
    rcases Nat.lt_or_ge i (j + 1) with z | z
    · exact Nat.le_trans (c.mono (Nat.le_of_lt_succ z) (by omega)) (c.mono1 hj)
    · rw [Nat.le_antisymm h z]; exact Nat.le_refl _
theorem CH.dvd {s : Nat → Nat} {m i : Nat} (c : CH s m) : ∀ {j}, i ≤ j → j < m → ∃ r, 1 ≤ r ∧ s j = s i * r
  | 0, h, _ => by rw [Nat.le_zero.mp h]; exact ⟨1, Nat.le_refl _, by rw [Nat.mul_one]⟩
  | j + 1, h, hj => by
    rcases Nat.lt_or_ge i (j + 1) with z | z
    · obtain ⟨r, hr, e⟩ := c.dvd (Nat.le_of_lt_succ z) (by omega)
      obtain ⟨r2, hr2, e2⟩ := c.dv j hj
      exact ⟨r * r2, Nat.le_trans (Nat.le_refl 1) (Nat.mul_le_mul hr hr2), by rw [e2, e, Nat.mul_assoc]⟩
    · rw [Nat.le_antisymm h z]; exact ⟨1, Nat.le_refl _, by rw [Nat.mul_one]⟩
structure BD (s b : Nat → Nat) (m M : Nat) : Prop where
  b0 : b 0 = M
  bs : ∀ i, i + 1 < m → b (i + 1) = s (i + 1) * (cdw (b i) (s (i + 1)) + (M - Lw s b (s (i + 1)) (i + 1)) / s (i + 1))
def SS (s b : Nat → Nat) (i n : Nat) : Nat := sm (fun k => s (cls b i (k * s i))) n
section
variable {s b : Nat → Nat} {m M : Nat} (c : CH s m) (B : BD s b m M)
include c B
theorem BD.up {i : Nat} (h : i + 1 < m) : b i ≤ b (i + 1) := by
  have p := c.pos h
  rw [B.bs i h]
  have := le_cdw (x := b i) p
  rw [Nat.mul_comm] at this
  exact Nat.le_trans this (Nat.mul_le_mul_left _ (Nat.le_add_right _ _))
theorem BD.mono {i : Nat} : ∀ {j}, i ≤ j → j < m → b i ≤ b j
  | 0, h, _ => by rw [Nat.le_zero.mp h]; exact Nat.le_refl _
  | j + 1, h, hj => by
    rcases Nat.lt_or_ge i (j + 1) with z | z
    · exact Nat.le_trans (BD.mono (Nat.le_of_lt_succ z) (by omega)) (B.up c hj)
    · rw [Nat.le_antisymm h z]; exact Nat.le_refl _
theorem BD.num {i : Nat} (h : i < m) : b i / s i * s i = b i := by
  have p := c.pos h
  cases i with
  | zero => rw [c.s0]; omega
  | succ i => rw [B.bs i h, Nat.mul_div_cancel_left _ p, Nat.mul_comm]
theorem BD.ss_lw {i : Nat} (h : i < m) : Lw s b (s i) i = SS s b i (pvn b (s i) i) := lw_sum (s := s) (b := b) (c.pos h) (fun j hj => B.up c (by omega)) i (Nat.le_refl _)
theorem BD.key : ∀ {i : Nat}, i < m → SS s b i (b i / s i) ≤ M ∧ M < SS s b i (b i / s i) + s i ∧ Lw s b (s i) i ≤ M
  | 0, h => by
    have e : ∀ n, SS s b 0 n = n := fun n => by
      unfold SS
      rw [sm_const (f := fun k => s (cls b 0 (k * s 0))) (a := 0) (v := 1) (Nat.zero_le n) fun k _ _ => c.s0]
      show 0 + _ = _
      omega
    rw [e, c.s0, B.b0]
    refine ⟨by omega, by omega, Nat.zero_le _⟩
  | i + 1, h => by
    have p := c.pos h
    obtain ⟨k1, k2, k3⟩ := BD.key (i := i) (by omega)
    have hL : Lw s b (s (i + 1)) (i + 1) ≤ M := by
      rw [B.ss_lw c h]
      show SS s b (i + 1) (cdw (b i) (s (i + 1))) ≤ M
      obtain ⟨r, hr, er⟩ := c.dv i h
      refine Nat.le_trans (Nat.le_trans (m := sm (fun k => (fun q => s (cls b i (q * s i))) (k * r)) (cdw (b i) (s (i + 1)))) (sm_le fun k hk => ?_) (sm_step (f := fun q => s (cls b i (q * s i))) hr (n := b i / s i) ?_)) k1
      · have hk2 := (lt_cdw p).mp hk
        have e : k * s (i + 1) = k * r * s i := by rw [er, Nat.mul_assoc, Nat.mul_comm (s i) r]
        dsimp only
        rw [e] at hk2 ⊢
        have : cls b (i + 1) (k * r * s i) = cls b i (k * r * s i) := by
          have l := cls_le b i (k * r * s i)
          show (if cls b i (k * r * s i) < i then cls b i (k * r * s i) else if k * r * s i < b i then i else i + 1) = _
          split
          · rfl
          · omega
        rw [this]
        exact Nat.le_refl _
      · cases e : cdw (b i) (s (i + 1)) with
        | zero => exact .inl rfl
        | succ a =>
          right
          have h1 := (lt_cdw (x := b i) (k := a) p).mp (by omega)
          rw [er, Nat.mul_comm (s i) r, ← Nat.mul_assoc, ← B.num c (i := i) (by omega)] at h1
          exact Nat.lt_of_mul_lt_mul_right h1
    have hS : SS s b (i + 1) (b (i + 1) / s (i + 1)) = Lw s b (s (i + 1)) (i + 1) + s (i + 1) * ((M - Lw s b (s (i + 1)) (i + 1)) / s (i + 1)) := by
      rw [B.bs i h, Nat.mul_div_cancel_left _ p]
      generalize (M - Lw s b (s (i + 1)) (i + 1)) / s (i + 1) = d
      rw [B.ss_lw c h]
      show SS s b (i + 1) (cdw (b i) (s (i + 1)) + d) = SS s b (i + 1) (cdw (b i) (s (i + 1))) + _
      unfold SS
      rw [sm_const (a := cdw (b i) (s (i + 1))) (v := s (i + 1)) (Nat.le_add_right _ _) fun k h1 _ => ?_, Nat.add_sub_cancel_left]
      have e : cls b (i + 1) (k * s (i + 1)) = i + 1 := by
        refine cls_eq (Nat.le_refl _) (fun j hj => ?_) (fun z => absurd z (by omega))
        have h3 : ¬ k * s (i + 1) < b i := fun z => by
          have := (lt_cdw p).mpr z
          omega
        have := B.mono c (i := j) (j := i) (by omega) (by omega)
        omega
      rw [e]
    rw [hS]
    have d1 := Nat.div_mul_le_self (M - Lw s b (s (i + 1)) (i + 1)) (s (i + 1))
    have d2 := Nat.lt_div_mul_add (a := M - Lw s b (s (i + 1)) (i + 1)) p
    rw [Nat.mul_comm] at d1 d2
    exact ⟨by omega, by omega, hL⟩
theorem BD.iff {i n : Nat} (h : i < m) : n ≤ b i / s i ↔ SS s b i n ≤ M := by
  obtain ⟨k1, k2, k3⟩ := B.key c h
  constructor
  · intro z
    exact Nat.le_trans (sm_mono z) k1
  · intro z
    rcases Nat.lt_or_ge (b i / s i) n with y | y
    · have h1 : SS s b i (b i / s i + 1) ≤ SS s b i n := sm_mono y
      have h2 : SS s b i (b i / s i + 1) = SS s b i (b i / s i) + s i := by
        show _ + s (cls b i (b i / s i * s i)) = _
        rw [B.num c h, cls_eq (Nat.le_refl i) (fun j hj => B.mono c (by omega) h) (fun z => absurd z (by omega))]
        rfl
      omega
    · exact y
theorem BD.ge {i : Nat} (h : i < m) : M ≤ b i := by
  have := B.mono c (i := 0) (Nat.zero_le i) h
  rw [B.b0] at this
  exact this
omit B in
theorem SS_anti {t b' : Nat → Nat} {i i' n : Nat} (hs : s i = t i') (h : ∀ k, t (cls b' i' (k * s i)) ≤ s (cls b i (k * s i))) : SS t b' i' n ≤ SS s b i n := by
  unfold SS
  rw [← hs]
  exact sm_le fun k _ => h k
omit B in
/-- fewer live words never reach further -/
theorem BD.le {b' : Nat → Nat} {M' : Nat} (B : BD s b m M) (B' : BD s b' m M') (h : M ≤ M') : ∀ i, i < m → b i ≤ b' i := by
  intro i
  induction i using Nat.strongRecOn with
  | ind i ih =>
    intro hi
    have h1 : b i / s i ≤ b' i / s i := by
      rw [B'.iff c hi]
      refine Nat.le_trans (SS_anti c rfl fun k => ?_) (Nat.le_trans ((B.key c hi).1) h)
      refine c.mono (cls_anti fun j hj => ih j hj (by omega)) ?_
      have := cls_le b i (k * s i)
      omega
    rw [← B.num c hi, ← B'.num c hi]
    exact Nat.mul_le_mul_right _ h1
omit B in
/-- a page more of words needs a page more -/
theorem BD.more {b' : Nat → Nat} {i : Nat} (B : BD s b m M) (hi : i < m) (B' : BD s b' m (M + s i)) : b i / s i + 1 ≤ b' i / s i := by
  rw [B'.iff c hi]
  show SS s b' i (b i / s i) + s (cls b' i (b i / s i * s i)) ≤ _
  have h1 : SS s b' i (b i / s i) ≤ M := by
    refine Nat.le_trans (SS_anti c rfl fun k => ?_) ((B.key c hi).1)
    refine c.mono (cls_anti fun j hj => BD.le c B B' (Nat.le_add_right _ _) j (by omega)) ?_
    have := cls_le b i (k * s i)
    omega
  have h2 : s (cls b' i (b i / s i * s i)) ≤ s i := c.mono (cls_le _ _ _) hi
  omega
/-- with sizes left out no class reaches further -/
theorem BD.fewer {t b' σ : Nat → Nat} {p : Nat} (ct : CH t p) (B' : BD t b' p M) (e : ∀ a, a < p → t a = s (σ a)) (lt : ∀ a, a < p → σ a < m) (up : ∀ a a', a < a' → a' < p → σ a < σ a') : ∀ a, a < p → b' a ≤ b (σ a) := by
  intro a
  induction a using Nat.strongRecOn with
  | ind a ih =>
    intro ha
    have h1 : b' a / t a ≤ b (σ a) / s (σ a) := by
      rw [B.iff c (lt a ha)]
      refine Nat.le_trans (SS_anti ct (s := t) (t := s) (b := b') (b' := b) (i := a) (i' := σ a) (e a ha) fun k => ?_) ((B'.key ct ha).1)
      have l := cls_le b' a (k * t a)
      have l2 := cls_le b (σ a) (k * t a)
      rw [e _ (Nat.lt_of_le_of_lt l ha)]
      refine c.mono ?_ (lt _ (Nat.lt_of_le_of_lt l ha))
      rcases Nat.lt_or_ge (cls b' a (k * t a)) a with z | z
      · rcases Nat.lt_or_ge (σ (cls b' a (k * t a))) (cls b (σ a) (k * t a)) with y | y
        · have h2 := cls_hi z
          have h3 := ih _ z (by omega)
          have h4 := cls_lo y
          omega
        · exact y
      · rw [Nat.le_antisymm l z]
        exact l2
    rw [← B'.num ct ha, ← B.num c (lt a ha), e a ha]
    rw [e a ha] at h1
    exact Nat.mul_le_mul_right _ h1
/-- careless rules open at least as many pages -/
theorem BD.careless {i : Nat} (hi : i < m) (h0 : 0 < b i) : ∃ j, j ≤ i ∧ s j ≤ M ∧ (b i / s i - 1) * (s i / s j) + s j ≤ M := by
  have p := c.pos hi
  have hn := B.num c hi
  have n0 : 0 < b i / s i := by
    rcases Nat.eq_zero_or_pos (b i / s i) with z | z
    · rw [z] at hn; omega
    · exact z
  generalize hx : (b i / s i - 1) * s i = x
  have l := cls_le b i x
  have hj : cls b i x < m := by omega
  have pj := c.pos hj
  obtain ⟨r, hr, er⟩ := c.dvd l hi
  have hq : s i / s (cls b i x) = r := by rw [er]; exact Nat.mul_div_cancel_left _ pj
  rw [← hx] at hq er pj hj l
  rw [← hx] at *
  generalize hc : cls b i ((b i / s i - 1) * s i) = j at *
  have ex : (b i / s i - 1) * s i = (b i / s i - 1) * r * s j := by rw [er, Nat.mul_assoc, Nat.mul_comm (s j) r]
  have lo : ∀ j', j' < j → b j' ≤ (b i / s i - 1) * r * s j := fun j' hj' => by
    rw [← ex]
    exact cls_lo (by rw [hc]; exact hj')
  have h1 : (b i / s i - 1) * r + 1 ≤ b j / s j := by
    have h2 : (b i / s i - 1) * r * s j < b j := by
      rcases Nat.lt_or_ge j i with z | z
      · rw [← ex]
        have := cls_hi (b := b) (i := i) (x := (b i / s i - 1) * s i) (by omega)
        rw [hc] at this
        exact this
      · have : j = i := by omega
        rw [← ex, this, ← hn]
        have h3 : b i / s i * s i / s i = b i / s i := Nat.mul_div_cancel _ p
        rw [h3]
        exact Nat.mul_lt_mul_of_pos_right (by omega) p
    rw [← B.num c hj] at h2
    exact Nat.lt_of_mul_lt_mul_right h2
  rw [B.iff c hj] at h1
  have h3 : SS s b j ((b i / s i - 1) * r + 1) = SS s b j ((b i / s i - 1) * r) + s j := by
    show _ + s (cls b j ((b i / s i - 1) * r * s j)) = _
    rw [cls_eq (Nat.le_refl j) lo (fun z => absurd z (by omega))]
    rfl
  have h4 : (b i / s i - 1) * r * 1 ≤ SS s b j ((b i / s i - 1) * r) := sm_ge fun k _ => c.pos (Nat.lt_of_le_of_lt (cls_le _ _ _) hj)
  refine ⟨j, l, by omega, ?_⟩
  rw [hq]
  omega

theorem pvn_dv {t t' r : Nat} (ht : 0 < t) (hr : 1 ≤ r) (e : t' = t * r) {j : Nat} (hd : ∀ j', j' < j → ∃ q, b j' = t' * q) : pvn b t j = r * pvn b t' j := by
  cases j with
  | zero => rfl
  | succ j =>
    obtain ⟨q, hq⟩ := hd j (Nat.lt_succ_self j)
    show cdw (b j) t = r * cdw (b j) t'
    have p : 0 < t' := by rw [e]; exact Nat.mul_pos ht hr
    have e1 : b j = q * t' := by rw [hq, Nat.mul_comm]
    have e2 : b j = (r * q) * t := by rw [hq, e, Nat.mul_comm r q, Nat.mul_assoc, Nat.mul_comm q, Nat.mul_assoc, Nat.mul_comm t, Nat.mul_comm r q]; simp [Nat.mul_assoc, Nat.mul_comm, Nat.mul_left_comm]
    rw [e2, cdw_mul ht, ← e2, e1, cdw_mul p]
omit c B in
theorem sm_mulL {f g : Nat → Nat} {r : Nat} : ∀ {n : Nat}, (∀ k, k < n → f k = r * g k) → sm f n = r * sm g n
  | 0, _ => rfl
  | n + 1, h => by
    show sm f n + f n = r * (sm g n + g n)
    rw [sm_mulL fun k hk => h k (Nat.lt_succ_of_lt hk), h n (Nat.lt_succ_self n), Nat.mul_add]
/-- limits that are multiples of the page times each ratio -/
theorem BD.exact {p : Nat} (hp : p + 1 = m) (hM : ∀ i, i + 1 < m → ∃ r u, 1 ≤ r ∧ s (i + 1) = s i * r ∧ M = s p * r * u) (h0 : ∃ u, M = s p * u) :
    ∀ i, i < m → (∀ j, j ≤ i → ∃ q, b j = s p * q) ∧ Lw s b (s i) (i + 1) = M ∧ ∀ j, j + 1 ≤ i → b (j + 1) + M / (s (j + 1) / s j) = b j + M := by
  intro i
  induction i with
  | zero =>
    intro h
    refine ⟨fun j hj => ?_, ?_, fun j hj => absurd hj (by omega)⟩
    · rw [Nat.le_zero.mp hj, B.b0]
      exact h0
    · show 0 + s 0 * (cdw (b 0) (s 0) - 0) = M
      rw [c.s0, B.b0]
      have := cdw_mul (n := M) (s := 1) (by omega)
      rw [Nat.mul_one] at this
      rw [this]
      omega
  | succ i ih =>
    intro h
    obtain ⟨i1, i2, i3⟩ := ih (by omega)
    obtain ⟨r, u, hr, er, eM⟩ := hM i h
    have pi := c.pos (i := i) (by omega)
    have pt := c.pos h
    obtain ⟨v, hv, ev⟩ := c.dvd (i := i + 1) (j := p) (by omega) (by omega)
    have hd : ∀ j', j' < i + 1 → ∃ q, b j' = s (i + 1) * q := fun j' hj => by
      obtain ⟨q, hq⟩ := i1 j' (by omega)
      exact ⟨v * q, by rw [hq, ev, Nat.mul_assoc]⟩
    have eL : Lw s b (s i) (i + 1) = r * Lw s b (s (i + 1)) (i + 1) := by
      unfold Lw
      refine sm_mulL fun j hj => ?_
      rw [pvn_dv c B pi hr er (j := j + 1) fun j' hj' => hd j' (by omega), pvn_dv c B pi hr er (j := j) fun j' hj' => hd j' (by omega), ← Nat.mul_sub, Nat.mul_left_comm]
    have eq : Lw s b (s (i + 1)) (i + 1) = s p * u := by
      rw [i2, eM] at eL
      have : r * (s p * u) = r * Lw s b (s (i + 1)) (i + 1) := by rw [← eL, Nat.mul_left_comm, Nat.mul_assoc]
      exact (Nat.eq_of_mul_eq_mul_left (by omega) this).symm
    have eMr : M = r * (s p * u) := by rw [eM, Nat.mul_comm (s p) r, Nat.mul_assoc]
    have hle : s p * u ≤ M := by rw [eMr]; exact Nat.le_mul_of_pos_left _ (by omega)
    have eMs : M - s p * u = s (i + 1) * (v * ((r - 1) * u)) := by
      have : M = s p * u + (r - 1) * (s p * u) := by
        rw [eMr]
        conv => lhs; rw [show r = 1 + (r - 1) by omega, Nat.add_mul, Nat.one_mul]
      rw [this, Nat.add_sub_cancel_left, ev]
      simp [Nat.mul_assoc, Nat.mul_comm, Nat.mul_left_comm]
    obtain ⟨q, hq⟩ := hd i (by omega)
    have eb : b (i + 1) = b i + (M - s p * u) := by
      rw [B.bs i h, eq, eMs, Nat.mul_div_cancel_left _ pt, hq, Nat.mul_comm (s (i + 1)) q, cdw_mul pt, Nat.mul_add, Nat.mul_comm q]
    have er2 : s (i + 1) / s i = r := by rw [er]; exact Nat.mul_div_cancel_left _ pi
    have eMd : M / r = s p * u := by rw [eMr]; exact Nat.mul_div_cancel_left _ (by omega)
    refine ⟨fun j hj => ?_, ?_, fun j hj => ?_⟩
    · rcases Nat.lt_or_ge j (i + 1) with z | z
      · exact i1 j (by omega)
      · rw [Nat.le_antisymm hj z, eb]
        obtain ⟨q2, hq2⟩ := i1 i (Nat.le_refl _)
        obtain ⟨u2, hu2⟩ := h0
        refine ⟨q2 + (u2 - u), ?_⟩
        rw [Nat.mul_add, ← hq2, Nat.mul_sub, ← hu2]
    · show Lw s b (s (i + 1)) (i + 1) + s (i + 1) * (cdw (b (i + 1)) (s (i + 1)) - cdw (b i) (s (i + 1))) = M
      have e1 : b i = q * s (i + 1) := by rw [hq, Nat.mul_comm]
      have e2 : b (i + 1) = (q + v * ((r - 1) * u)) * s (i + 1) := by rw [eb, eMs, e1, Nat.add_mul, Nat.mul_comm (s (i + 1))]
      rw [e2, e1, cdw_mul pt, cdw_mul pt, Nat.add_sub_cancel_left, ← eMs, eq]
      omega
    · rcases Nat.lt_or_ge j i with z | z
      · exact i3 j (by omega)
      · have : j = i := by omega
        rw [this, er2, eMd, eb]
        omega
omit c B in
theorem cls_up {i x y : Nat} (h : x ≤ y) : cls b i x ≤ cls b i y := by
  rcases Nat.lt_or_ge (cls b i y) (cls b i x) with z | z
  · have l := cls_le b i x
    have h1 := cls_hi (b := b) (i := i) (x := y) (by omega)
    have h2 := cls_lo z
    omega
  · exact z
omit c B in
theorem sm_group {f : Nat → Nat} {r : Nat} (hr : 1 ≤ r) (hf : ∀ x y, x ≤ y → f x ≤ f y) : ∀ K, sm f (K * r + 1) ≤ r * sm (fun k => f (k * r)) (K + 1)
  | 0 => by
    show sm f (0 * r + 1) ≤ r * (0 + f (0 * r))
    rw [Nat.zero_mul, Nat.zero_add, Nat.zero_add]
    show 0 + f 0 ≤ r * f 0
    have := Nat.mul_le_mul_right (f 0) hr
    omega
  | K + 1 => by
    have ih := sm_group hr hf K
    have h2 : ∀ n, n ≤ r → sm f (K * r + 1 + n) ≤ sm f (K * r + 1) + n * f ((K + 1) * r) := by
      intro n
      induction n with
      | zero => intro _; show sm f (K * r + 1) ≤ _; omega
      | succ n ih =>
        intro hn
        have h1 := ih (by omega)
        have h3 : f (K * r + 1 + n) ≤ f ((K + 1) * r) := hf _ _ (by rw [Nat.add_mul, Nat.one_mul]; omega)
        show sm f (K * r + 1 + n) + f (K * r + 1 + n) ≤ _
        rw [Nat.add_mul, Nat.one_mul]
        omega
    have h3 := h2 r (Nat.le_refl _)
    have e : (K + 1) * r + 1 = K * r + 1 + r := by rw [Nat.add_mul, Nat.one_mul]; omega
    rw [e]
    show _ ≤ r * (sm _ (K + 1) + f ((K + 1) * r))
    rw [Nat.mul_add]
    omega
/-- the bounds without rounding, and two sizes more -/
theorem BD.smooth {i r : Nat} (h : i + 1 < m) (hr : 1 ≤ r) (er : s (i + 1) = s i * r) : r * b (i + 1) + M ≤ r * b i + r * M + 2 * (r * s (i + 1)) := by
  have p := c.pos h
  have pi := c.pos (i := i) (by omega)
  obtain ⟨k1, k2, k3⟩ := B.key c (i := i) (by omega)
  obtain ⟨j1, j2, j3⟩ := B.key c h
  have hb : b (i + 1) + Lw s b (s (i + 1)) (i + 1) ≤ b i + s (i + 1) + M := by
    rw [B.bs i h, Nat.mul_add]
    have h1 := cdw_lt (x := b i) p
    have h2 := Nat.div_mul_le_self (M - Lw s b (s (i + 1)) (i + 1)) (s (i + 1))
    rw [Nat.mul_comm] at h1 h2
    omega
  have hf : ∀ x y, x ≤ y → s (cls b i (x * s i)) ≤ s (cls b i (y * s i)) := fun x y hxy => c.mono (cls_up (Nat.mul_le_mul_right _ hxy)) (Nat.lt_of_le_of_lt (cls_le _ _ _) (by omega))
  have hl : M ≤ r * Lw s b (s (i + 1)) (i + 1) + s (i + 1) := by
    rw [B.ss_lw c h]
    show M ≤ r * SS s b (i + 1) (cdw (b i) (s (i + 1))) + _
    have hn := B.num c (i := i) (by omega)
    cases e : cdw (b i) (s (i + 1)) with
    | zero =>
      have h1 : b i = 0 := by
        have := le_cdw (x := b i) p
        rw [e] at this
        omega
      have := B.ge c (i := i) (by omega)
      omega
    | succ K =>
      have g := sm_group hr hf K
      have e1 : SS s b (i + 1) (K + 1) = sm (fun k => s (cls b i (k * r * s i))) (K + 1) := by
        unfold SS
        refine sm_congr fun k hk => ?_
        have hk2 := (lt_cdw (x := b i) (k := k) p).mp (by omega)
        have e2 : k * s (i + 1) = k * r * s i := by rw [er, Nat.mul_assoc, Nat.mul_comm (s i) r]
        rw [e2] at hk2 ⊢
        have : cls b (i + 1) (k * r * s i) = cls b i (k * r * s i) := by
          have l := cls_le b i (k * r * s i)
          show (if cls b i (k * r * s i) < i then cls b i (k * r * s i) else if k * r * s i < b i then i else i + 1) = _
          split
          · rfl
          · omega
        rw [this]
      rw [e1]
      have hN : b i / s i ≤ (K * r + 1) + (r - 1) := by
        have h1 : b i ≤ (K + 1) * s (i + 1) := by
          have := le_cdw (x := b i) p
          rw [e] at this
          exact this
        have h2 : b i / s i * s i ≤ (K + 1) * r * s i := by
          rw [hn, Nat.mul_assoc, Nat.mul_comm r, ← er]
          exact h1
        have h3 := Nat.le_of_mul_le_mul_right h2 pi
        rw [Nat.add_mul, Nat.one_mul] at h3
        omega
      have hv : ∀ n, SS s b i ((K * r + 1) + n) ≤ SS s b i (K * r + 1) + n * s i := by
        intro n
        induction n with
        | zero => show SS s b i (K * r + 1) ≤ _; omega
        | succ n ih =>
          show SS s b i (K * r + 1 + n) + s (cls b i ((K * r + 1 + n) * s i)) ≤ _
          have := c.mono (cls_le b i ((K * r + 1 + n) * s i)) (by omega)
          have e3 : (n + 1) * s i = n * s i + s i := by rw [Nat.add_mul, Nat.one_mul]
          rw [e3]
          omega
      have h4 := hv (r - 1)
      have h5 : SS s b i (b i / s i) ≤ SS s b i ((K * r + 1) + (r - 1)) := sm_mono hN
      have h6 : (r - 1) * s i + s i = s (i + 1) := by
        rw [er, Nat.mul_comm (s i) r]
        conv => rhs; rw [show r = (r - 1) + 1 by omega, Nat.add_mul, Nat.one_mul]
      have h7 : SS s b i (K * r + 1) ≤ r * sm (fun k => s (cls b i (k * r * s i))) (K + 1) := g
      omega
  have h8 := Nat.mul_le_mul_left r hb
  rw [Nat.mul_add, Nat.mul_add, Nat.mul_add] at h8
  have h9 : s (i + 1) ≤ r * s (i + 1) := Nat.le_mul_of_pos_left _ hr
  omega
end
end Ph

namespace Ph
open PySem PySem.Spec PyProof.Rows L2
/-- the first m numbers of a row of numbers -/
def tl (s : Nat → Nat) (m : Nat) : List Int := (List.range m).map fun i => ((s i : Nat) : Int)
theorem tl_len (s : Nat → Nat) (m : Nat) : (tl s m).length = m := by unfold tl; simp
theorem tl_get {s : Nat → Nat} {m i : Nat} (h : i < m) : (tl s m)[i]? = some ((s i : Nat) : Int) := by
  unfold tl
  rw [List.getElem?_map, List.getElem?_range h]
  rfl
theorem tl_getV {s : Nat → Nat} {m i : Nat} (h : i < m) : ((tl s m).map V.int)[i]? = some (V.int ((s i : Nat) : Int)) := by
  rw [List.getElem?_map, tl_get h]
  rfl
theorem tl_succ (s : Nat → Nat) (m : Nat) : tl s (m + 1) = tl s m ++ [((s m : Nat) : Int)] := by
  unfold tl
  rw [List.range_succ, List.map_append]
  rfl
theorem tl_congr {s t : Nat → Nat} {m : Nat} (h : ∀ i, i < m → s i = t i) : tl s m = tl t m := by
  unfold tl
  refine List.map_congr_left fun i hi => ?_
  rw [h i (List.mem_range.mp hi)]
theorem tl_last {s : Nat → Nat} {m : Nat} : tl s (m + 1) = tl s m ++ [((s m : Nat) : Int)] := tl_succ s m
theorem tl_mem {s : Nat → Nat} {m : Nat} {x : Int} : x ∈ tl s m ↔ ∃ i, i < m ∧ x = ((s i : Nat) : Int) := by
  unfold tl
  rw [List.mem_map]
  constructor
  · rintro ⟨i, hi, e⟩
    exact ⟨i, List.mem_range.mp hi, e.symm⟩
  · rintro ⟨i, hi, e⟩
    exact ⟨i, List.mem_range.mpr hi, e.symm⟩
/-- every row of whole numbers from 0 is such a row -/
theorem tl_of {C : List Int} (h : ∀ x ∈ C, 0 ≤ x) : C = tl (fun i => (C.getD i 0).toNat) C.length := by
  apply List.ext_getElem?
  intro i
  rcases Nat.lt_or_ge i C.length with z | z
  · rw [tl_get z, List.getElem?_eq_getElem z]
    have h1 := h _ (List.getElem_mem z)
    have h2 : C.getD i 0 = C[i] := by simp [List.getD_eq_getElem?_getD, List.getElem?_eq_getElem z]
    rw [h2]
    congr 1
    omega
  · rw [List.getElem?_eq_none z, List.getElem?_eq_none (by rw [tl_len]; exact z)]
theorem up_cdw {n s : Nat} (hs : 0 < s) : -(-(n : Int) / (s : Int)) = ((cdw n s : Nat) : Int) := by
  have h1 := le_cdw (x := n) hs
  have h2 := cdw_lt (x := n) hs
  have e : -(n : Int) / (s : Int) = -((cdw n s : Nat) : Int) := by
    have hs' : (0 : Int) < s := by omega
    have h1' : (n : Int) ≤ (cdw n s : Nat) * (s : Int) := by exact_mod_cast h1
    have h2' : (cdw n s : Nat) * (s : Int) < (n : Int) + s := by exact_mod_cast h2
    apply Int.le_antisymm
    · have : -(n : Int) / (s : Int) < -((cdw n s : Nat) : Int) + 1 := by
        rw [Int.ediv_lt_iff_lt_mul hs', Int.add_mul, Int.neg_mul, Int.one_mul]
        omega
      omega
    · rw [Int.le_ediv_iff_mul_le hs', Int.neg_mul]
      omega
  rw [e]
  omega
theorem up2_cdw {n s : Nat} (hs : 0 < s) : ((n : Int) + (s : Int) - 1) / (s : Int) = ((cdw n s : Nat) : Int) := by
  unfold cdw
  have : (n : Int) + (s : Int) - 1 = ((n + s - 1 : Nat) : Int) := by omega
  rw [this]
  exact (Int.natCast_ediv _ _).symm
/-- the numbers, begun with reaches -/
def bls (s ρ : Nat → Nat) (M : Nat) : Nat → Nat → Nat
  | 0, _ => max M (ρ 0)
  | i + 1, j => if j = i + 1 then max (ρ (i + 1)) (s (i + 1) * (cdw (bls s ρ M i i) (s (i + 1)) + (M - Lw s (bls s ρ M i) (s (i + 1)) (i + 1)) / s (i + 1))) else bls s ρ M i j
def bfn (s ρ : Nat → Nat) (M j : Nat) : Nat := bls s ρ M j j
theorem bls_eq (s ρ : Nat → Nat) (M : Nat) : ∀ {i j : Nat}, j ≤ i → bls s ρ M i j = bfn s ρ M j
  | 0, j, h => by rw [Nat.le_zero.mp h]; rfl
  | i + 1, j, h => by
    rcases Nat.lt_or_ge j (i + 1) with z | z
    · rw [← bls_eq s ρ M (i := i) (j := j) (by omega)]
      show (if j = i + 1 then _ else _) = _
      rw [if_neg (by omega)]
    · rw [Nat.le_antisymm h z]; rfl
theorem pvn_congr {b b' : Nat → Nat} {t j : Nat} (h : ∀ i, i < j → b i = b' i) : pvn b t j = pvn b' t j := by
  cases j with
  | zero => rfl
  | succ j => show cdw _ _ = cdw _ _; rw [h j (Nat.lt_succ_self j)]
theorem lw_congr {s b b' : Nat → Nat} {t i : Nat} (h : ∀ j, j < i → b j = b' j) : Lw s b t i = Lw s b' t i := by
  unfold Lw
  refine sm_congr fun j hj => ?_
  rw [pvn_congr (j := j + 1) fun k hk => h k (by omega), pvn_congr (j := j) fun k hk => h k (by omega)]
theorem bfn_zero (s ρ : Nat → Nat) (M : Nat) : bfn s ρ M 0 = max M (ρ 0) := rfl
theorem bfn_succ (s ρ : Nat → Nat) (M i : Nat) : bfn s ρ M (i + 1) = max (ρ (i + 1)) (s (i + 1) * (cdw (bfn s ρ M i) (s (i + 1)) + (M - Lw s (bfn s ρ M) (s (i + 1)) (i + 1)) / s (i + 1))) := by
  show (if i + 1 = i + 1 then _ else _) = _
  rw [if_pos rfl, lw_congr fun j hj => bls_eq s ρ M (i := i) (j := j) (by omega)]
  rfl
theorem bd_bfn (s : Nat → Nat) (m M : Nat) : BD s (bfn s (fun _ => 0) M) m M := by
  refine ⟨?_, fun i hi => ?_⟩
  · rw [bfn_zero]; exact Nat.max_eq_left (Nat.zero_le _)
  · rw [bfn_succ]; exact Nat.max_eq_right (Nat.zero_le _)
theorem bfn_up {s ρ : Nat → Nat} {M i : Nat} (h : 0 < s (i + 1)) : bfn s ρ M i ≤ bfn s ρ M (i + 1) := by
  rw [bfn_succ]
  have := le_cdw (x := bfn s ρ M i) h
  rw [Nat.mul_comm] at this
  exact Nat.le_trans (Nat.le_trans this (Nat.mul_le_mul_left _ (Nat.le_add_right _ _))) (Nat.le_max_right _ _)
theorem BD.uniq {s b b' : Nat → Nat} {m M : Nat} (c : CH s m) (B : BD s b m M) (B' : BD s b' m M) {i : Nat} (h : i < m) : b i = b' i :=
  Nat.le_antisymm (BD.le c B B' (Nat.le_refl _) i h) (BD.le c B' B (Nat.le_refl _) i h)
end Ph

namespace Ph
open PySem PySem.Spec PyProof.Rows L2
/-! ### the pot -/
def But (p : Addr) (H H' : Hp) : Prop := ∀ b o, b ≠ p → H b = some o → H' b = some o
theorem But.refl (p : Addr) (H : Hp) : But p H H := fun _ _ _ h => h
theorem But.trans {p : Addr} {H H1 H2 : Hp} (a : But p H H1) (b : But p H1 H2) : But p H H2 := fun c o n h => b c o n (a c o n h)
theorem Same.but {p : Addr} {H H' : Hp} (a : Same H H') : But p H H' := fun b o _ h => a b o h
theorem same_upd {H : Hp} {p : Addr} {o : HO} (h : H p = none) : Same H (upd H p o) := fun b x e => by
  rw [upd_ne (ne_of_none e h)]
  exact e
theorem but_upd {H : Hp} {p : Addr} {o : HO} : But p H (upd H p o) := fun b x n e => by
  rw [upd_ne n]
  exact e
def mM : Int := 2305843009213693951
structure PotV (g r : Int) : Prop where
  g0 : 0 ≤ g
  g1 : g.natAbs < 2 ^ 3000
  r0 : 0 ≤ r
  r1 : r < 2305843009213693951
def Pot (H : Hp) (p : Addr) : Prop := ∃ g r : Int, H p = some (.lst [.int g, .int r]) ∧ PotV g r
theorem great_mod (x : Int) : 0 ≤ x % ten9 ∧ (x % ten9).natAbs < 2 ^ 3000 := by
  have p := ten9_pos
  have h0 : 0 ≤ x % ten9 := Int.emod_nonneg _ (by omega)
  exact ⟨h0, wide_le h0 (Int.le_of_lt (Int.emod_lt_of_pos _ p)) ten9_lt⟩
theorem great_mul (x : Int) (b : Bool) : CMulW (x % ten9) (if b = true then 1 else 0) :=
  wide_mul (b := 2) (great_mod x).2 (by cases b <;> decide) (by decide) (by decide) (by decide)
theorem great_pot (x : Int) (b : Bool) : 0 ≤ x % ten9 * (if b = true then 1 else 0) ∧ (x % ten9 * (if b = true then 1 else 0)).natAbs < 2 ^ 3000 := by
  cases b
  · rw [if_neg (by decide), Int.mul_zero]
    exact ⟨Int.le_refl _, Nat.pow_pos (by decide)⟩
  · rw [if_pos rfl, Int.mul_one]
    exact great_mod x
theorem But.seq {K : PySem.W.Frag} {p a : Addr} {H H' : Hp} {xs : List V} (b : But p H H') (n : a ≠ p) (h : SqL K H a xs) : SqL K H' a xs := by
  rcases h with (h | ⟨o, h⟩) | h
  · exact .inl (.inl (b _ _ n h))
  · exact .inl (.inr ⟨o, b _ _ n h⟩)
  · exact .inr h
theorem But.none {p a : Addr} {H H' : Hp} (b : But p H H') (n : a ≠ p) (h : H' a = none) : H a = none := by
  cases q : H a with
  | none => rfl
  | some o => rw [b a o n q] at h; cases h
theorem Pot.same {H H' : Hp} {p : Addr} (P : Pot H p) (s : Same H H') : Pot H' p := by
  obtain ⟨g, r, h, v⟩ := P
  exact ⟨g, r, s _ _ h, v⟩
theorem Pot.ne_none {H : Hp} {p q : Addr} (P : Pot H p) (h : H q = none) : p ≠ q := by
  obtain ⟨g, r, e, v⟩ := P
  exact ne_of_none e h
inductive Lnk (m : Int) : List Int → Int → Prop
  | one : Lnk m [1] 1
  | step {ns : List Int} {x r : Int} : Lnk m ns x → 2 ≤ r → r ≤ 6 → x * r ≤ m → ns.length < 12 → Lnk m (ns ++ [x * r]) (x * r)
theorem Lnk.pos {m x : Int} {ns : List Int} (h : Lnk m ns x) : 1 ≤ x := by
  induction h with
  | one => decide
  | step h h1 h2 h3 h4 ih =>
    have := Int.mul_le_mul ih h1 (by decide) (by omega)
    omega
theorem Lnk.last {m x : Int} {ns : List Int} (h : Lnk m ns x) : ∃ r, ns = r ++ [x] := by
  cases h with
  | one => exact ⟨[], rfl⟩
  | step h h1 h2 h3 h4 => exact ⟨_, rfl⟩
theorem Lnk.le {m x : Int} {ns : List Int} (h : Lnk m ns x) (hm : 1 ≤ m) : x ≤ m := by
  cases h with
  | one => exact hm
  | step h h1 h2 h3 h4 => exact h3
theorem Lnk.len {m x : Int} {ns : List Int} (h : Lnk m ns x) : 1 ≤ ns.length ∧ ns.length ≤ 12 := by
  cases h with
  | one => decide
  | step h h1 h2 h3 h4 => rw [List.length_append]; exact ⟨by simp, by simp; omega⟩
structure Nm5 (K : PySem.W.Frag) (mg : Str → Option Value) : Prop where
  len : mg "len" = none
  abs : mg "abs" = none
  int : mg "int" = none
  range : mg "range" = none
  tuple : mg "tuple" = none
  max : mg "max" = none
  min : mg "min" = none
  repr : mg "repr" = none
  isinstance : mg "isinstance" = none
  bool : mg "bool" = none
  all : mg "all" = none
  any : mg "any" = none
  list : mg "list" = none
  dict : mg "dict" = none
  sorted : mg "sorted" = none
  set : mg "set" = none
  sum : mg "sum" = none
  zip : mg "zip" = none
  dig : PySem.W.nsIn K cStatics "sys.int_max_str_digits" = some none
theorem _root_.L2.Same.tup {K : PySem.W.Frag} {H H' : Hp} {a : Addr} {xs : List V} (e : Same H H') (h : SqT K H a xs) : SqT K H' a xs := by
  rcases h with (h | ⟨o, h⟩) | h
  · exact .inl (.inl (e _ _ h))
  · exact .inl (.inr ⟨o, e _ _ h⟩)
  · exact .inr h
theorem But.tup {K : PySem.W.Frag} {p a : Addr} {H H' : Hp} {xs : List V} (b : But p H H') (n : a ≠ p) (h : SqT K H a xs) : SqT K H' a xs := by
  rcases h with (h | ⟨o, h⟩) | h
  · exact .inl (.inl (b _ _ n h))
  · exact .inl (.inr ⟨o, b _ _ n h⟩)
  · exact .inr h
theorem paired_imp {α β : Type} {F G : α → β → Prop} (h : ∀ a b, F a b → G a b) : ∀ {l : List α} {m : List β}, Paired F l m → Paired G l m
  | _, _, .nil => .nil
  | _, _, .cons x r => .cons (h _ _ x) (paired_imp h r)
/-! ### blocks in the heap -/
def BkAt (H : Hp) (x : V) (b : Int × Int) : Prop := ∃ t, x = .ref t ∧ H t = some (.tup [.int b.1, .int b.2])
def BL (H : Hp) (xs : List V) (bs : List (Int × Int)) : Prop := Paired (BkAt H) xs bs
theorem BL.mono {H H' : Hp} (h : ∀ t ys, H t = some (.tup ys) → H' t = some (.tup ys)) : ∀ {xs : List V} {bs : List (Int × Int)}, BL H xs bs → BL H' xs bs
  | _, _, .nil => .nil
  | _, _, .cons ⟨t, e1, e2⟩ r => .cons ⟨t, e1, h _ _ e2⟩ (BL.mono h r)
theorem BL.len {H : Hp} : ∀ {xs : List V} {bs : List (Int × Int)}, BL H xs bs → xs.length = bs.length
  | _, _, .nil => rfl
  | _, _, .cons _ r => by rw [List.length_cons, List.length_cons, BL.len r]
def kH (H : Hp) : V → Int × Int
  | .ref t => match H t with
    | some (.tup [.int a, .int s]) => (a, s)
    | _ => (0, 0)
  | _ => (0, 0)
theorem BkAt.k {H : Hp} {x : V} {b : Int × Int} (h : BkAt H x b) : kH H x = b := by
  obtain ⟨t, rfl, e⟩ := h
  show (match H t with
    | some (.tup [.int a, .int s]) => (a, s)
    | _ => (0, 0)) = b
  rw [e]
theorem BL.map {H : Hp} : ∀ {xs : List V} {bs : List (Int × Int)}, BL H xs bs → xs.map (kH H) = bs
  | _, _, .nil => rfl
  | _, _, .cons h r => by rw [List.map_cons, h.k, BL.map r]
theorem BL.all {H : Hp} : ∀ {xs : List V} {bs : List (Int × Int)}, BL H xs bs → ∀ x ∈ xs, ∃ b, BkAt H x b
  | _, _, .nil => fun x hx => by cases hx
  | _, _, .cons h r => fun x hx => by
    rcases List.mem_cons.mp hx with e | e
    · rw [e]; exact ⟨_, h⟩
    · exact BL.all r x e
theorem BL.of {H : Hp} : ∀ {xs : List V}, (∀ x ∈ xs, ∃ b, BkAt H x b) → BL H xs (xs.map (kH H))
  | [], _ => .nil
  | x :: r, h => by
    obtain ⟨b, hb⟩ := h x (List.mem_cons_self ..)
    rw [List.map_cons, hb.k]
    exact .cons hb (BL.of fun y hy => h y (List.mem_cons_of_mem _ hy))
def StAt (H : Hp) (t : Addr) (bs : List (Int × Int)) : Prop := ∃ xs, H t = some (.tup xs) ∧ BL H xs bs
theorem StAt.same {H H' : Hp} {t : Addr} {bs : List (Int × Int)} (h : StAt H t bs) (s : Same H H') : StAt H' t bs := by
  obtain ⟨xs, e, b⟩ := h
  exact ⟨xs, s _ _ e, b.mono fun t ys e => s _ _ e⟩
theorem Pot.netup {H : Hp} {p t : Addr} {xs : List V} (P : Pot H p) (e : H t = some (.tup xs)) : t ≠ p := fun z => by
  obtain ⟨g, r, e0, _⟩ := P
  rw [z, e0] at e
  cases e
theorem Pot.nefrz {H : Hp} {p t : Addr} {ob : Obj} {u : HO} (P : Pot H p) (e : H t = some (.frz ob u)) : t ≠ p := fun z => by
  obtain ⟨g, r, e0, _⟩ := P
  rw [z, e0] at e
  cases e
theorem ChAt.but {p : Addr} {H H' : Hp} {c : Addr} {C : List Int} (h : ChAt H c C) (b : But p H H') (P : Pot H p) : ChAt H' c C := let ⟨o, d, e⟩ := h; ⟨o, d, b _ _ (P.nefrz e) e⟩
theorem StAt.but {p : Addr} {H H' : Hp} {t : Addr} {bs : List (Int × Int)} (h : StAt H t bs) (b : But p H H') (P : Pot H p) : StAt H' t bs := by
  obtain ⟨xs, e, bl⟩ := h
  exact ⟨xs, b _ _ (P.netup e) e, bl.mono fun t ys e => b _ _ (P.netup e) e⟩
/-! ### states -/
def okB (C : List Int) (W : Int) (b : Int × Int) : Prop := b.2 ∈ C ∧ 1 ≤ b.2 ∧ 0 ≤ b.1 ∧ b.1 % b.2 = 0 ∧ b.1 + b.2 ≤ W
def apart (b c : Int × Int) : Prop := b.1 + b.2 ≤ c.1 ∨ c.1 + c.2 ≤ b.1
structure St (C : List Int) (W : Int) (bs : List (Int × Int)) : Prop where
  ok : ∀ b ∈ bs, okB C W b
  asc : bs.Pairwise fun b c => b.1 + b.2 ≤ c.1
theorem sorted_st {C : List Int} {W : Int} {bs cs : List (Int × Int)} (h1 : ∀ b ∈ bs, okB C W b) (h2 : bs.Pairwise apart) (hp : cs.Perm bs) (hs : cs.Pairwise fun x y => SrtO.lexB y x = false) : St C W cs := by
  have ok : ∀ b ∈ cs, okB C W b := fun b hb => h1 b (hp.mem_iff.mp hb)
  refine ⟨ok, ?_⟩
  have ap : cs.Pairwise apart := (hp.pairwise_iff (R := apart) (fun {x y} h => h.symm)).mpr h2
  refine (List.pairwise_and_iff.mpr ⟨ap, hs⟩).imp_of_mem fun {b c} hb hc h => ?_
  obtain ⟨h3, h4⟩ := h
  rcases h3 with h5 | h5
  · exact h5
  · exfalso
    obtain ⟨_, k1, _⟩ := ok c hc
    have : SrtO.lexB c b = true := by
      unfold SrtO.lexB
      simp
      rw [if_neg (by omega)]
      omega
    rw [this] at h4
    cases h4
abbrev Bk := Int × Int
def rch (l : Int) (bs : List Bk) : Int := mxd 0 ((bs.filter fun b => decide (b.2 ≤ l)).map fun b => b.1 + b.2)
theorem foldl_max : ∀ (l : List Int) (n : Int), (∀ x ∈ l, x ≤ l.foldl max n) ∧ n ≤ l.foldl max n ∧ (l.foldl max n = n ∨ l.foldl max n ∈ l)
  | [], n => ⟨(fun x hx => nomatch hx), Int.le_refl _, .inl rfl⟩
  | a :: r, n => by
    obtain ⟨h1, h2, h3⟩ := foldl_max r (max n a)
    rw [List.foldl_cons]
    refine ⟨fun x hx => ?_, by omega, ?_⟩
    · rcases List.mem_cons.mp hx with e | e
      · rw [e]; omega
      · exact h1 x e
    · rcases h3 with e | e
      · rcases (by omega : max n a = n ∨ max n a = a) with z | z
        · left; omega
        · right; rw [e, z]; exact List.mem_cons_self ..
      · right; exact List.mem_cons_of_mem _ e
theorem mxd_spec {l : List Int} (h : ∀ x ∈ l, 0 < x) : (l = [] ∧ mxd 0 l = 0) ∨ (mxd 0 l ∈ l ∧ ∀ x ∈ l, x ≤ mxd 0 l) := by
  cases l with
  | nil => exact .inl ⟨rfl, rfl⟩
  | cons n r =>
    right
    obtain ⟨h1, h2, h3⟩ := foldl_max r n
    show r.foldl max n ∈ n :: r ∧ ∀ x ∈ n :: r, x ≤ r.foldl max n
    refine ⟨?_, fun x hx => ?_⟩
    · rcases h3 with e | e
      · rw [e]; exact List.mem_cons_self ..
      · exact List.mem_cons_of_mem _ e
    · rcases List.mem_cons.mp hx with e | e
      · rw [e]; exact h2
      · exact h1 x e
/-! ### comprehensions whose steps lay new things -/
theorem lc_tupR {K : PySem.W.Frag} {a : Addr} {xs : List V} {g : TG} {te : TE} {vs : List Nat} {σ : L2.St} {H1 : Hp} {D : Addr} {Qd : Hp → Prop} (R : Hp → V → V → Prop) (mono : ∀ H H' x y, (∀ v zs, H v = some (.tup zs) → H' v = some (.tup zs)) → R H x y → R H' x y)
    (ht : SqT K H1 a xs) (nD : H1 D = none) (hlen : xs.length < sizeLine)
    (hs : ∀ x ∈ xs, ∀ H, Same H1 H → ∀ Y : V → Hp → Prop, (∀ y H', Same H H' → R H' x y → Y y H') → g x (wipe σ vs) H fun σ2 H2 => wipe σ2 vs = wipe σ vs ∧ te σ2 H2 Y)
    (hd : ∀ H ys, Same H1 H → H D = some (.lst ys) → Paired (R H) xs ys → Qd H) :
    ∃ W : Nat → Nat → Hp → Prop, (∃ m, W 0 m (upd H1 D (.lst []))) ∧ ∀ i m H, W i m H →
      ((Itt K a).stop i H ∧ Qd H) ∨ ((Itt K a).go i H ∧ ∃ Nx : Hp → Prop, (∀ H', Nx H' → ∃ m', m' < m ∧ W (i + 1) m' H') ∧ ∀ x H', (Itt K a).yld i H x H' → g x (wipe σ vs) H' fun σ2 H2 => wipe σ2 vs = wipe σ vs ∧ tYes σ2 H2 fun b H3 =>
        if b = true then te σ2 H3 fun y H4 => ∃ acc, H4 D = some (.lst acc) ∧ acc.length < sizeLine ∧ Nx (upd H4 D (.lst (acc ++ [y]))) else Nx H3) := by
  refine lc_tup (fun i H => Same H1 H ∧ ∃ ys, H D = some (.lst ys) ∧ Paired (R H) (xs.take i) ys) ⟨same_upd nD, [], upd_same, .nil⟩ (fun i H _ p => p.1.tup ht) (fun i x H hx p => ?_) (fun H p => ?_)
  · obtain ⟨sm, ys, hD, pr⟩ := p
    have hlen2 : ys.length < sizeLine := by
      have h1 := pr.length
      rw [List.length_take] at h1
      omega
    have := hs x (List.mem_of_getElem? hx) H sm (fun y H4 => ∃ acc, H4 D = some (.lst acc) ∧ acc.length < sizeLine ∧ (Same H1 (upd H4 D (.lst (acc ++ [y]))) ∧ ∃ ys, upd H4 D (.lst (acc ++ [y])) D = some (.lst ys) ∧ Paired (R (upd H4 D (.lst (acc ++ [y])))) (xs.take (i + 1)) ys)) (fun y H4 s4 r4 => ?_)
    · exact this
    · have hD4 := s4 _ _ hD
      have tk : ∀ v zs, H4 v = some (.tup zs) → upd H4 D (.lst (ys ++ [y])) v = some (.tup zs) := fun v zs e => by
        rw [upd_ne (ne_of e hD4 (by intro z; cases z))]
        exact e
      refine ⟨ys, hD4, hlen2, fun b o e => ?_, ys ++ [y], upd_same, ?_⟩
      · rw [upd_ne (ne_of_none e nD)]
        exact s4 _ _ (sm _ _ e)
      · rw [List.take_add_one, hx]
        exact Paired.snoc (paired_imp (fun a b h => mono _ _ _ _ (fun v zs e => tk v zs (s4 _ _ e)) h) pr) (mono _ _ _ _ tk r4)
  · obtain ⟨sm, ys, hD, pr⟩ := p
    rw [List.take_of_length_le (Nat.le_refl _)] at pr
    exact hd H ys sm hD pr
theorem paired_fun {α β : Type} {f : α → β} {F : α → β → Prop} (h : ∀ a b, F a b → b = f a) : ∀ {l : List α} {m : List β}, Paired F l m → m = l.map f
  | _, _, .nil => rfl
  | _, _, .cons x r => by rw [List.map_cons, h _ _ x, paired_fun h r]
theorem fm_if (p : Bk → Bool) (f : Bk → Int) (k : V → Bk) : ∀ xs : List V, xs.filterMap (fun x => if p (k x) = true then some (V.int (f (k x))) else none) = (((xs.map k).filter p).map f).map V.int
  | [] => rfl
  | x :: r => by
    have ih := fm_if p f k r
    by_cases c : p (k x) = true
    · rw [List.map_cons, List.filter_cons_of_pos c, List.map_cons, List.map_cons, ← ih, List.filterMap_cons_some (b := V.int (f (k x))) (by rw [if_pos c])]
    · rw [List.map_cons, List.filter_cons_of_neg c, ← ih, List.filterMap_cons_none (by rw [if_neg c])]
theorem u2_of {A : Around} {k : Nat} (hr : Room k A) : A.units + 2 < cLine := by have := hr.un; omega
def iV : V → Int
  | .int i => i
  | _ => 0
end Ph

namespace Ph
open PySem PySem.Spec PyProof.Rows L2
/-- a comprehension over zip of two tuples, the second one not longer -/
theorem lc_zipS {K : PySem.W.Frag} {a b : Addr} {xs ys : List V} {g : TG} {tt : TT} {te : TE} {vs : List Nat} {σ : L2.St} {H1 : Hp} {D : Addr} {Qd : Hp → Prop} (hl : ys.length ≤ xs.length) (Pv : Nat → Hp → Prop) (h0 : Pv 0 (upd H1 D (.lst []))) (hq : ∀ i H, Pv i H → SqT K H a xs ∧ SqT K H b ys)
    (hs : ∀ (i : Nat) (x y : V) (T : Addr) (H : Hp), xs[i]? = some x → ys[i]? = some y → Pv i H → H T = none → g (.ref T) (wipe σ vs) (upd H T (.tup [x, y])) fun σ2 H2 => wipe σ2 vs = wipe σ vs ∧ tt σ2 H2 fun b H3 =>
      if b = true then te σ2 H3 fun y H4 => ∃ acc, H4 D = some (.lst acc) ∧ acc.length < sizeLine ∧ Pv (i + 1) (upd H4 D (.lst (acc ++ [y]))) else Pv (i + 1) H3) (hd : ∀ H, Pv ys.length H → Qd H) :
    ∃ W : Nat → Nat → Hp → Prop, (∃ m, W 0 m (upd H1 D (.lst []))) ∧ ∀ i m H, W i m H →
      ((RZ.ItzT K a b).stop i H ∧ Qd H) ∨ ((RZ.ItzT K a b).go i H ∧ ∃ Nx : Hp → Prop, (∀ H', Nx H' → ∃ m', m' < m ∧ W (i + 1) m' H') ∧ ∀ x H', (RZ.ItzT K a b).yld i H x H' → g x (wipe σ vs) H' fun σ2 H2 => wipe σ2 vs = wipe σ vs ∧ tt σ2 H2 fun b H3 =>
        if b = true then te σ2 H3 fun y H4 => ∃ acc, H4 D = some (.lst acc) ∧ acc.length < sizeLine ∧ Nx (upd H4 D (.lst (acc ++ [y]))) else Nx H3) := by
  refine ⟨fun i m H => m = ys.length - i ∧ i ≤ ys.length ∧ Pv i H, ⟨ys.length, rfl, Nat.zero_le _, h0⟩, ?_⟩
  rintro i m H ⟨rfl, hi, p⟩
  obtain ⟨qx, qy⟩ := hq i H p
  by_cases hlt : i < ys.length
  · have hlt2 : i < xs.length := by omega
    refine .inr ⟨⟨xs, ys, _, _, qx, qy, List.getElem?_eq_getElem hlt2, List.getElem?_eq_getElem hlt⟩, Pv (i + 1), fun H' p' => ⟨ys.length - (i + 1), by omega, rfl, hlt, p'⟩, fun v H' y => ?_⟩
    obtain ⟨T, x', y', rfl, hT, rfl, f1, f2⟩ := y
    exact hs i x' y' T H (f1 xs qx) (f2 ys qy) p hT
  · have e : i = ys.length := by omega
    subst e
    exact .inl ⟨⟨xs, ys, qx, qy, Or.inr (Nat.le_refl _)⟩, hd H p⟩
end Ph

namespace Ph
open PySem PySem.Spec PyProof.Rows L2
/-! ### comprehensions whose items are known, whose steps may lay new things -/
theorem keepD {H1 H4 : Hp} {D : Addr} {o : HO} (nD : H1 D = none) (s : Same H1 H4) : Same H1 (upd H4 D o) := fun b u e => by
  rw [upd_ne (ne_of_none e nD)]
  exact s _ _ e
theorem lc_rgF {lo : Int} {n : Nat} {g : TG} {te : TE} {vs : List Nat} {σ : L2.St} {H1 : Hp} {D : Addr} {Qd : Hp → Prop} (f : Nat → V) (nD : H1 D = none) (hlen : n < sizeLine)
    (hs : ∀ i, i < n → ∀ H, Same H1 H → ∀ Y : V → Hp → Prop, (∀ H', Same H H' → Y (f i) H') → g (.int (lo + (i : Int))) (wipe σ vs) H fun σ2 H2 => wipe σ2 vs = wipe σ vs ∧ te σ2 H2 Y)
    (hd : ∀ H, Same H1 H → H D = some (.lst ((List.range n).map f)) → Qd H) :
    ∃ W : Nat → Nat → Hp → Prop, (∃ m, W 0 m (upd H1 D (.lst []))) ∧ ∀ i m H, W i m H →
      ((Itr lo n).stop i H ∧ Qd H) ∨ ((Itr lo n).go i H ∧ ∃ Nx : Hp → Prop, (∀ H', Nx H' → ∃ m', m' < m ∧ W (i + 1) m' H') ∧ ∀ x H', (Itr lo n).yld i H x H' → g x (wipe σ vs) H' fun σ2 H2 => wipe σ2 vs = wipe σ vs ∧ tYes σ2 H2 fun b H3 =>
        if b = true then te σ2 H3 fun y H4 => ∃ acc, H4 D = some (.lst acc) ∧ acc.length < sizeLine ∧ Nx (upd H4 D (.lst (acc ++ [y]))) else Nx H3) := by
  refine lc_range (fun i H => Same H1 H ∧ H D = some (.lst ((List.range i).map f))) ⟨same_upd nD, upd_same⟩ (fun i H hi p => ?_) (fun H p => hd H p.1 p.2)
  obtain ⟨sm, hD⟩ := p
  refine hs i hi H sm _ fun H4 s4 => ?_
  refine ⟨_, s4 _ _ hD, by rw [List.length_map, List.length_range]; omega, keepD nD (sm.trans s4), ?_⟩
  rw [upd_same, List.range_succ, List.map_append]
  rfl
theorem lc_lsF {K : PySem.W.Frag} {a : Addr} {xs : List V} {g : TG} {te : TE} {vs : List Nat} {σ : L2.St} {H1 : Hp} {D : Addr} {Qd : Hp → Prop} (f : V → V) (ha : SqL K H1 a xs) (nD : H1 D = none) (hlen : xs.length < sizeLine)
    (hs : ∀ x ∈ xs, ∀ H, Same H1 H → ∀ Y : V → Hp → Prop, (∀ H', Same H H' → Y (f x) H') → g x (wipe σ vs) H fun σ2 H2 => wipe σ2 vs = wipe σ vs ∧ te σ2 H2 Y)
    (hd : ∀ H, Same H1 H → H D = some (.lst (xs.map f)) → Qd H) :
    ∃ W : Nat → Nat → Hp → Prop, (∃ m, W 0 m (upd H1 D (.lst []))) ∧ ∀ i m H, W i m H →
      ((Itl K a).stop i H ∧ Qd H) ∨ ((Itl K a).go i H ∧ ∃ Nx : Hp → Prop, (∀ H', Nx H' → ∃ m', m' < m ∧ W (i + 1) m' H') ∧ ∀ x H', (Itl K a).yld i H x H' → g x (wipe σ vs) H' fun σ2 H2 => wipe σ2 vs = wipe σ vs ∧ tYes σ2 H2 fun b H3 =>
        if b = true then te σ2 H3 fun y H4 => ∃ acc, H4 D = some (.lst acc) ∧ acc.length < sizeLine ∧ Nx (upd H4 D (.lst (acc ++ [y]))) else Nx H3) := by
  refine lc_list (fun i H => Same H1 H ∧ H D = some (.lst ((xs.take i).map f))) ⟨same_upd nD, upd_same⟩ (fun i H _ p => p.1.seq ha) (fun i x H hx p => ?_) (fun H p => hd H p.1 (by rw [p.2, List.take_of_length_le (Nat.le_refl _)]))
  obtain ⟨sm, hD⟩ := p
  refine hs x (List.mem_of_getElem? hx) H sm _ fun H4 s4 => ?_
  refine ⟨_, s4 _ _ hD, by rw [List.length_map, List.length_take]; omega, keepD nD (sm.trans s4), ?_⟩
  rw [upd_same, List.take_add_one, hx, List.map_append]
  rfl
theorem lc_tpF {K : PySem.W.Frag} {a : Addr} {xs : List V} {g : TG} {te : TE} {vs : List Nat} {σ : L2.St} {H1 : Hp} {D : Addr} {Qd : Hp → Prop} (f : V → V) (ha : SqT K H1 a xs) (nD : H1 D = none) (hlen : xs.length < sizeLine)
    (hs : ∀ x ∈ xs, ∀ H, Same H1 H → ∀ Y : V → Hp → Prop, (∀ H', Same H H' → Y (f x) H') → g x (wipe σ vs) H fun σ2 H2 => wipe σ2 vs = wipe σ vs ∧ te σ2 H2 Y)
    (hd : ∀ H, Same H1 H → H D = some (.lst (xs.map f)) → Qd H) :
    ∃ W : Nat → Nat → Hp → Prop, (∃ m, W 0 m (upd H1 D (.lst []))) ∧ ∀ i m H, W i m H →
      ((Itt K a).stop i H ∧ Qd H) ∨ ((Itt K a).go i H ∧ ∃ Nx : Hp → Prop, (∀ H', Nx H' → ∃ m', m' < m ∧ W (i + 1) m' H') ∧ ∀ x H', (Itt K a).yld i H x H' → g x (wipe σ vs) H' fun σ2 H2 => wipe σ2 vs = wipe σ vs ∧ tYes σ2 H2 fun b H3 =>
        if b = true then te σ2 H3 fun y H4 => ∃ acc, H4 D = some (.lst acc) ∧ acc.length < sizeLine ∧ Nx (upd H4 D (.lst (acc ++ [y]))) else Nx H3) := by
  refine lc_tup (fun i H => Same H1 H ∧ H D = some (.lst ((xs.take i).map f))) ⟨same_upd nD, upd_same⟩ (fun i H _ p => p.1.tup ha) (fun i x H hx p => ?_) (fun H p => hd H p.1 (by rw [p.2, List.take_of_length_le (Nat.le_refl _)]))
  obtain ⟨sm, hD⟩ := p
  refine hs x (List.mem_of_getElem? hx) H sm _ fun H4 s4 => ?_
  refine ⟨_, s4 _ _ hD, by rw [List.length_map, List.length_take]; omega, keepD nD (sm.trans s4), ?_⟩
  rw [upd_same, List.take_add_one, hx, List.map_append]
  rfl
theorem lc_zpF {K : PySem.W.Frag} {a b : Addr} {xs ys : List V} {g : TG} {te : TE} {vs : List Nat} {σ : L2.St} {H1 : Hp} {D : Addr} {Qd : Hp → Prop} (n : Nat) (hn : ys.length = n) (hl : n ≤ xs.length) (f : Nat → V) (ha : SqT K H1 a xs) (hb : SqT K H1 b ys) (nD : H1 D = none) (hlen : n < sizeLine)
    (hs : ∀ i x y T, i < n → xs[i]? = some x → ys[i]? = some y → ∀ H, Same H1 H → H T = none → ∀ Y : V → Hp → Prop, (∀ H', Same H H' → Y (f i) H') → g (.ref T) (wipe σ vs) (upd H T (.tup [x, y])) fun σ2 H2 => wipe σ2 vs = wipe σ vs ∧ te σ2 H2 Y)
    (hd : ∀ H, Same H1 H → H D = some (.lst ((List.range n).map f)) → Qd H) :
    ∃ W : Nat → Nat → Hp → Prop, (∃ m, W 0 m (upd H1 D (.lst []))) ∧ ∀ i m H, W i m H →
      ((RZ.ItzT K a b).stop i H ∧ Qd H) ∨ ((RZ.ItzT K a b).go i H ∧ ∃ Nx : Hp → Prop, (∀ H', Nx H' → ∃ m', m' < m ∧ W (i + 1) m' H') ∧ ∀ x H', (RZ.ItzT K a b).yld i H x H' → g x (wipe σ vs) H' fun σ2 H2 => wipe σ2 vs = wipe σ vs ∧ tYes σ2 H2 fun b H3 =>
        if b = true then te σ2 H3 fun y H4 => ∃ acc, H4 D = some (.lst acc) ∧ acc.length < sizeLine ∧ Nx (upd H4 D (.lst (acc ++ [y]))) else Nx H3) := by
  subst hn
  refine lc_zipS hl (fun i H => Same H1 H ∧ H D = some (.lst ((List.range i).map f))) ⟨same_upd nD, upd_same⟩ (fun i H p => ⟨p.1.tup ha, p.1.tup hb⟩) (fun i x y T H hx hy p nT => ?_) (fun H p => hd H p.1 p.2)
  obtain ⟨sm, hD⟩ := p
  have hi : i < ys.length := (List.getElem?_eq_some_iff.mp hy).1
  refine hs i x y T hi hx hy H sm nT _ fun H4 s4 => ?_
  refine ⟨_, s4 _ _ hD, by rw [List.length_map, List.length_range]; omega, keepD nD (sm.trans s4), ?_⟩
  rw [upd_same, List.range_succ, List.map_append]
  rfl
/-- sums of rows of numbers -/
theorem sum_tl (f : Nat → Nat) : ∀ n, ((List.range n).map fun i => ((f i : Nat) : Int)).sum = ((sm f n : Nat) : Int)
  | 0 => rfl
  | n + 1 => by
    rw [List.range_succ, List.map_append, List.sum_append, sum_tl f n]
    show _ + (((f n : Nat) : Int) + 0) = ((sm f n + f n : Nat) : Int)
    omega
end Ph

namespace Ph
open PySem PySem.Spec PyProof.Rows L2
section
variable {X : Cx}
def rSlK (K : PySem.W.Frag) : V → Option Int → Option Int → Hp → VK → Prop := fun x lo hi H Q => ∃ a xs, x = .ref a ∧ SqT K H a xs ∧ ∀ q H', Same H H' → SqT K H' q (cutV xs lo hi) → Q (.ref q) H'
theorem cutv_whole {xs : List V} {lo hi : Option Int} (hw : HT.sIx xs.length 0 lo = 0 ∧ HT.sIx xs.length xs.length hi = xs.length) : cutV xs lo hi = xs := by
  unfold cutV
  rw [hw.1, hw.2]
  simp
theorem cutv_le {xs : List V} {lo hi : Option Int} : (cutV xs lo hi).length ≤ xs.length := by
  unfold cutV
  simp only [List.length_take, List.length_drop]
  omega
theorem sl_tupK : SlR X (rSlK X.K) := by
  intro pins s σ H x v vl vu lo hi sl Q I rx hs pl pu h
  obtain ⟨a, xs, rfl, hx, q⟩ := h
  exact sl_tupA pins s σ H _ v vl vu lo hi sl Q I rx hs pl pu ⟨a, xs, rfl, hx, fun hw => q a H (Same.refl H) (by rw [cutv_whole hw]; exact hx), fun _ p np => q p _ (same_upd np) (.inl (.inl upd_same))⟩
def rCatK (K : PySem.W.Frag) : V → V → Hp → VK → Prop := fun x y H Q => ∃ a b xs ys, x = .ref a ∧ y = .ref b ∧ SqT K H a xs ∧ SqT K H b ys ∧ xs.length + ys.length ≤ sizeLine ∧ ∀ q H', Same H H' → SqT K H' q (xs ++ ys) → Q (.ref q) H'
theorem op_catK : OpR X (binaryOp .Add) (rCatK X.K) := by
  intro pins s σ H x y v u Q I rx ry h
  obtain ⟨a, b, xs, ys, rfl, rfl, ha, hb, hz, q⟩ := h
  refine op_catA pins s σ H _ _ v u Q I rx ry ⟨a, b, xs, ys, rfl, rfl, ha, hb, hz, fun e => q b H (Same.refl H) (by rw [e]; exact hb), fun _ e => q a H (Same.refl H) (by rw [e, List.append_nil]; exact ha), fun _ _ p np => q p _ (same_upd np) (.inl (.inl upd_same))⟩
end
end Ph

namespace Ph
open PySem PySem.Spec PyProof.Rows L2
section
variable {X : Cx}
/-- x in t, t a tuple of data -/
def rInT (K : PySem.W.Frag) : R2 := fun x y H Q => ∃ d ds, Dp K H x d ∧ Dp K H y (.tuple ds) ∧ SeqAt.shaped d = true ∧ SeqAt.shaped (.tuple ds) = true ∧ Q (.bl (ds.any fun z => PyData.eqv z d)) H
theorem op_inT (hu : X.A.units + 65 < cLine) : OpR X (compareOp .In) (rInT X.K) := by
  intro pins s σ H x y v u Q I rx ry h
  obtain ⟨d, ds, dx, dy, sx, sy, q⟩ := h
  obtain ⟨_, r1⟩ := Dp.reads I d x v dx rx
  obtain ⟨_, r2⟩ := Dp.reads I (.tuple ds) y u dy ry
  exact SeqAt.in_tuple_reads r2 r1 (SeqAt.canLay_of_shaped sy) (SeqAt.canLay_of_shaped sx) (room_in_shaped sx hu) ⟨.bl _, H, I, rfl, q⟩
/-- a thing that is only read from now on -/
def tFrz (t : TE) : TE := fun σ H Q => t σ H fun v H1 => ∃ d u, v = .ref d ∧ H1 d = some u ∧ Mut (some u) ∧ ∀ od, Q v (upd H1 d (.frz od u))
theorem pe_frz {e : Expr} {t : TE} (h : PE X e t) : PE X e (tFrz t) := by
  refine ⟨fun pins s σ H Q I hw => ?_⟩
  refine thn (h.run pins s σ _ _ I hw) fun v s1 ⟨x, H1, I1, r, d, u, ex, hd, mu, q⟩ => ?_
  obtain ⟨od, I2⟩ := I1.lock hd mu
  exact ⟨x, _, I2, r, q od⟩
end
/-! ### blocks and states as data -/
def bD (b : Int × Int) : PyData := .tuple [.int b.1, .int b.2]
theorem bD_lay (b : Int × Int) : (bD b).canLay0 = true := by simp [bD, PyData.canLay0, PyData.canLayAll0]
theorem bD_depth (b : Int × Int) : (bD b).depth = 1 := by simp [bD, PyData.depth, PyData.depthAll]
theorem bDs_lay : ∀ zs : List (Int × Int), PyData.canLayAll0 (zs.map bD) = true
  | [] => by simp [PyData.canLayAll0]
  | z :: zs => by simp [PyData.canLayAll0, bD_lay z, bDs_lay zs]
theorem bDs_depth : ∀ zs : List (Int × Int), PyData.depthAll (zs.map bD) ≤ 1
  | [] => by simp [PyData.depthAll]
  | z :: zs => by
    have h1 := bDs_depth zs
    have h2 := bD_depth z
    simp only [List.map_cons, PyData.depthAll, h2]
    omega
theorem bD_shaped (b : Int × Int) : SeqAt.shaped (bD b) = true := by
  show ((bD b).canLay0 && decide ((bD b).depth ≤ 64)) = true
  rw [bD_lay, bD_depth]
  rfl
theorem sD_shaped (zs : List (Int × Int)) : SeqAt.shaped (.tuple (zs.map bD)) = true := by
  have h1 := bDs_depth zs
  have h2 : PyData.depth (.tuple (zs.map bD)) ≤ 64 := by simp only [PyData.depth]; omega
  have h3 : PyData.canLay0 (.tuple (zs.map bD)) = true := by simp only [PyData.canLay0]; exact bDs_lay zs
  show (PyData.canLay0 (.tuple (zs.map bD)) && decide (PyData.depth (.tuple (zs.map bD)) ≤ 64)) = true
  rw [h3, decide_eq_true h2]
  rfl
theorem bD_eqv (b c : Int × Int) : PyData.eqv (bD b) (bD c) = decide (b = c) := by
  obtain ⟨b1, b2⟩ := b
  obtain ⟨c1, c2⟩ := c
  have e : PyData.eqv (bD (b1, b2)) (bD (c1, c2)) = ((b1 == c1) && ((b2 == c2) && true)) := by simp only [bD, PyData.eqv, PyData.eqvAll]
  rw [e, Bool.and_true, Bool.eq_iff_iff, Bool.and_eq_true, beq_iff_eq, beq_iff_eq, decide_eq_true_iff, Prod.mk.injEq]
theorem bDs_any (b : Int × Int) : ∀ zs : List (Int × Int), ((zs.map bD).any fun z => PyData.eqv z (bD b)) = decide (b ∈ zs)
  | [] => by simp
  | z :: zs => by
    rw [List.map_cons, List.any_cons, bDs_any b zs, bD_eqv, Bool.eq_iff_iff, Bool.or_eq_true, decide_eq_true_iff, decide_eq_true_iff, decide_eq_true_iff, List.mem_cons]
    exact ⟨fun h => h.imp Eq.symm id, fun h => h.imp Eq.symm id⟩
theorem sD_eqv_refl (zs : List (Int × Int)) : PyData.eqv (.tuple (zs.map bD)) (.tuple (zs.map bD)) = true := by
  simp only [PyData.eqv]
  induction zs with
  | nil => simp [PyData.eqvAll]
  | cons z zs ih => simp [PyData.eqvAll, ih, bD_eqv]
end Ph

namespace Ph
open PySem PySem.Spec PyProof.Rows L2
/-! ### a def's promise where no repr is under way (the guards are known to be empty) -/
structure FnG (P : Program) (w : World) (K : PySem.W.Frag) (mg : Str → Option Value) (base : Heap) (CX : CXT) (k : Nat) (f : Addr) (fd : FuncData) (ps : List Str) (sp : Sp) : Prop where
  cnt : ∀ vs H Q E, sp vs H Q E → vs.length = ps.length
  go : ∀ (A : Around) (outer : List Env) (s : Shared) (H : Hp) (args : Args) (us : List Value) (vs : List V) (Q : VK) (E : XK), A.guards = some [] → Room k A →
    Env0 P w K mg base A outer s H → BindsTo s fd args (ps.zip us) → Vals vs us → sp vs H Q E → codeAny (model P w) A (.call (.ref f) args) (CR CX outer P w H s Q E) s
theorem guards_deeper (A : Around) (env : Env) : (A.deeper env).guards = A.guards := by
  first
    | rfl
    | (cases A; rfl)
section
variable {P : Program} {w : World} {K : PySem.W.Frag} {mg : Str → Option Value} {base : Heap}
theorem FnG.of {CX : CXT} {k : Nat} {f : Addr} {fd : FuncData} {ps : List Str} {sp : Sp} (F : FnOk P w K mg base CX k f fd ps sp) : FnG P w K mg base CX k f fd ps sp :=
  ⟨F.len, fun A outer s H args us vs Q E _ => F.run A outer s H args us vs Q E⟩
theorem okG {x qual : Str} {st : Stmt} {f : Addr} {fd : FuncData} {N ps : List Str} {k : Nat} {sp : Sp} (F : Fun K x qual st f fd) (S : FnScope N ps (defScope st)) (cnt : ∀ vs H Q E, sp vs H Q E → vs.length = ps.length)
    (body : ∀ (cdv : Value) (A : Around) (outer : List Env) (s : Shared) (H : Hp) (vs : List V) (Q : VK) (E : XK), (A.deeper (envOfC qual (defScope st) s.heap.objs.size f cdv)).guards = some [] → Room k (A.deeper (envOfC qual (defScope st) s.heap.objs.size f cdv)) → sp vs H Q E →
      ∃ t, PSs (cxOf CX0 P w K mg base N qual (defScope st) f cdv A outer s H E).nox (defBody st) t ∧ t { nx := fun _ H' => Q .non H', rt := Q } (start N vs) H) : FnG P w K mg base CX0 (k + 1) f fd ps sp := by
  obtain ⟨oc, od, kV, doc, pm, an, cdv, ct, osl, rfl, lk, hcd⟩ := F.ex
  refine ⟨cnt, fun A outer s H args us vs Q E hgu room env bnd vals want => ?_⟩
  have old : ∀ b o, base.get? b = some o → s.heap.get? b = some o := fun b o z => (env.bs b o z).1
  refine Att.call_fn (env.mod.kin.keeps old) (env.mod.nolimit.keeps old) lk hcd room.depth bnd ?_ (fun s1 inside => ?_) S.co S.gen S.kind
  · rw [List.all_eq_true]
    rintro ⟨n, v⟩ hy
    rcases S.par n (List.of_mem_zip hy).1 with z | z <;> simp [z]
  · obtain ⟨t, ht, hq⟩ := body cdv A outer s H vs Q E ((guards_deeper A _).trans hgu) (room.deeper _) want
    have I0 : Inv (cxOf CX0 P w K mg base N qual (defScope st) f cdv A outer s H E) [] (start N vs) H s1 := inv_start S room.hd env (cnt _ _ _ _ want) vals inside
    refine wpAny_mono (ht.nox.run [] s1 (start N vs) H _ I0 hq) (fun flow s2 done => ?_) fun e s2 bad => bad
    have fin : ∀ {σ' : L2.St} {H' : Hp} {v : V} {u : Value}, Inv (cxOf CX0 P w K mg base N qual (defScope st) f cdv A outer s H E) [] σ' H' s2 → RelV v u → Q v H' → CE outer P w H s Q u s2 :=
      fun J rel good => ⟨_, _, J.os, J.bare, J.base, J.hok, rel, good⟩
    match flow, done with
    | .ret u, ⟨v, σ', H', J, rel, good⟩ => exact fin J rel good
    | .next, ⟨σ', H', J, good⟩ => exact fin (v := V.non) (u := Value.none) J rfl good
    | .brk, ⟨_, _, _, z⟩ => exact z.elim
    | .cont, ⟨_, _, _, z⟩ => exact z.elim
end
section
variable {X : Cx} {k : Nat} {f : Addr} {fd : FuncData} {ps : List Str} {sp : Sp} {x : Str} {p pos : Pos} {e : Expr} {es : List Expr} {t : TA}
/-- f(e, ..) of such a def, no exception leaves it -/
theorem pe_callG (F : FnG X.prog X.w X.K X.mg X.base CX0 k f fd ps sp) (hgu : X.A.guards = some []) (room : Room k X.A) (hg : Gl X x) (hm : X.mg x = some (.ref f)) (hk : PySem.W.keepIn X.K (.ref f) = true) (hb : Binds X.K fd ps [])
    (ha : PA X (e :: es) t) (hdb : (x == ("__debug__" : Str)) = false := by decide) (he : starEach (e :: es) X.env = (false, eval e X.env) :: starEach es X.env := by rfl) (hpl : (backTo pos (starEach es X.env)).any (·.1) = false := by rfl) :
    PE X (.Call (.Name x p) (e :: es) [] pos) (tCall sp [] E0 t) := ⟨fun pins s σ H Q I want => by
  refine wpAny_Call_Name_kw (ld_glob I hg hm ?_ hdb)
  refine PySem.W.callWith_K (h₀ := X.base) I.ok.mod.kin hk (thn (ha.run pos pins s σ H _ I want) fun us s1 ⟨vs, H1, I1, vals, good⟩ => ⟨I1.kIn, ?_⟩) he hpl
  have n1 : (us ++ []).length = ps.length := by
    rw [← (vals.append (Paired.nil : Vals [] [])).length]
    exact F.cnt _ _ _ _ good
  refine wpAny_call (codeAny_mono (F.go X.A X.stack s1 H1 ⟨us, []⟩ (us ++ []) (vs ++ []) Q E0 hgu room I1.env0 (hb s1 us I1.kIn n1) (vals.append .nil) good) fun r s2 out => ?_)
  match r, out with
  | .ok (.ret u), out => exact I1.after out
  | .error _, out => exact out.elim⟩
/-- repr of lists and tuples of data -/
theorem call_reprD (hgu : X.A.guards = some []) (hu : X.A.units + 64 < cLine) : CallR X (.builtin "repr") (fun xs H Q => ∃ (a : Addr) (d : PyData), xs = [.ref a] ∧ Dp X.K H (.ref a) d ∧ d.showable = true ∧ d.hasDict = false ∧ d.depth ≤ 60 ∧ d.shown.length ≤ sizeLine ∧ Q (.str d.shown) H) := by
  intro pins s σ H xs us Q I r h
  obtain ⟨a, d, rfl, dp, sh, nd, dep, len, q⟩ := h
  obtain ⟨u, rfl, ru⟩ := vals1 r
  obtain ⟨as, rd⟩ := Dp.reads I d _ _ dp ru
  cases ru
  exact repr_of_reads' rd sh (PyData.noDict_hsm nd) hgu (by omega) (fun _ _ z => z) (fun h' v tk keep => ⟨.str _, H, I.kept keep, ⟨_, rfl⟩, q⟩) len
end
/-- tuples of ints as data -/
theorem dp_ints {K : PySem.W.Frag} {H : Hp} : ∀ ns : List Int, DpAll K H (ns.map V.int) (ns.map PyData.int)
  | [] => .nil
  | n :: r => .cons (.int n) (dp_ints r)
theorem showable_ints : ∀ ns : List Int, (∀ n ∈ ns, n.natAbs.log2 < 1920) → PyData.showableAll (ns.map PyData.int) = true
  | [], _ => by simp [PyData.showableAll]
  | n :: r, h => by
    have h1 := h n (List.mem_cons_self ..)
    have h2 := showable_ints r fun m hm => h m (List.mem_cons_of_mem _ hm)
    simp only [List.map_cons, PyData.showableAll, PyData.showable, h2, Bool.and_true, decide_eq_true h1]
theorem noDict_ints : ∀ ns : List Int, PyData.hasDictAll (ns.map PyData.int) = false
  | [] => by simp [PyData.hasDictAll]
  | n :: r => by
    have h2 := noDict_ints r
    simp only [List.map_cons, PyData.hasDictAll, PyData.hasDict, h2, Bool.or_self]
theorem depth_ints : ∀ ns : List Int, PyData.depthAll (ns.map PyData.int) ≤ 2
  | [] => by simp [PyData.depthAll]
  | n :: r => by
    have h2 := depth_ints r
    simp only [List.map_cons, PyData.depthAll, PyData.depth]
    omega
theorem shown_ints : ∀ ns : List Int, PyData.shownAll (ns.map PyData.int) = ns.map fun n => (toString n : Str)
  | [] => by simp [PyData.shownAll]
  | n :: r => by
    simp only [List.map_cons, PyData.shownAll, PyData.shown, shown_ints r]
end Ph

namespace Ph
open PySem PySem.Spec PyProof.Rows L2
/-! ### data that repr can show -/
structure Rp (d : PyData) : Prop where
  sh : d.showable = true
  nd : d.hasDict = false
  dp : d.depth ≤ 60
  ln : d.shown.length ≤ sizeLine
/-- short leaves, no dict -/
structure Sho (d : PyData) (n k : Nat) : Prop where
  sh : d.showable = true
  nd : d.hasDict = false
  dp : d.depth ≤ n
  lv : d.leavesShort 24 = true
  wt : d.weight ≤ k
structure ShoAll (ds : List PyData) (n k : Nat) : Prop where
  sh : PyData.showableAll ds = true
  nd : PyData.hasDictAll ds = false
  dp : PyData.depthAll ds ≤ n
  lv : PyData.leavesShortAll 24 ds = true
  wt : PyData.weightAll ds ≤ k
theorem Sho.rp {d : PyData} {n k : Nat} (s : Sho d n k) (hn : n ≤ 60) (hk : k ≤ 600000) : Rp d := by
  refine ⟨s.sh, s.nd, Nat.le_trans s.dp hn, ?_⟩
  have h := PyData.shown_le 24 (by decide) d s.lv
  have h2 := s.wt
  have h3 : sizeLine = 16777216 := by decide
  omega
theorem sho_int {i : Int} (h : i.natAbs < 10 ^ 20) : Sho (.int i) 0 67 := by
  have hl : i.natAbs.log2 < 67 := by
    by_cases z : i.natAbs = 0
    · rw [z]; decide
    · exact (Nat.log2_lt z).mpr (Nat.lt_of_lt_of_le h (by decide))
  refine ⟨?_, by simp only [PyData.hasDict], by simp only [PyData.depth]; omega, ?_, ?_⟩
  · simp only [PyData.showable, decide_eq_true_eq]
    omega
  · have e := int_text_length_le10 (a := i) (k := 20) (by decide) h
    have e2 : (PyData.shown (.int i)).length ≤ 24 := by
      show (Str.ofString (toString i)).length ≤ 24
      rw [PySem.ofString_length]
      omega
    simp only [PyData.leavesShort]
    exact decide_eq_true e2
  · simp only [PyData.weight]
    split <;> omega
theorem ShoAll.nil (n k : Nat) : ShoAll [] n k := ⟨by simp only [PyData.showableAll], by simp only [PyData.hasDictAll], by simp only [PyData.depthAll]; omega, by simp only [PyData.leavesShortAll], by simp only [PyData.weightAll]; omega⟩
theorem ShoAll.cons {d : PyData} {ds : List PyData} {n k m : Nat} (s : Sho d n k) (r : ShoAll ds n m) : ShoAll (d :: ds) n (k + 1 + m) := by
  refine ⟨by simp only [PyData.showableAll, s.sh, r.sh, Bool.and_self], by simp only [PyData.hasDictAll, s.nd, r.nd, Bool.or_self], ?_, by simp only [PyData.leavesShortAll, s.lv, r.lv, Bool.and_self], ?_⟩
  · have h1 := s.dp
    have h2 := r.dp
    simp only [PyData.depthAll]
    omega
  · have h1 := s.wt
    have h2 := r.wt
    simp only [PyData.weightAll]
    omega
theorem ShoAll.of {ds : List PyData} {n k : Nat} (h : ∀ d ∈ ds, Sho d n k) : ShoAll ds n ((k + 1) * ds.length) := by
  induction ds with
  | nil => exact .nil _ _
  | cons d r ih =>
    have s := ShoAll.cons (h d (List.mem_cons_self ..)) (ih fun x hx => h x (List.mem_cons_of_mem _ hx))
    rw [List.length_cons, Nat.mul_add, Nat.mul_one, Nat.add_comm]
    exact s
theorem ShoAll.tuple {ds : List PyData} {n k : Nat} (s : ShoAll ds n k) : Sho (.tuple ds) (n + 1) k :=
  ⟨by simp only [PyData.showable]; exact s.sh, by simp only [PyData.hasDict]; exact s.nd, by have := s.dp; simp only [PyData.depth]; omega, by simp only [PyData.leavesShort]; exact s.lv, by simp only [PyData.weight]; exact s.wt⟩
theorem ShoAll.list {ds : List PyData} {n k : Nat} (s : ShoAll ds n k) : Sho (.list ds) (n + 1) k :=
  ⟨by simp only [PyData.showable]; exact s.sh, by simp only [PyData.hasDict]; exact s.nd, by have := s.dp; simp only [PyData.depth]; omega, by simp only [PyData.leavesShort]; exact s.lv, by simp only [PyData.weight]; exact s.wt⟩
theorem sho_ints {ns : List Int} (h : ∀ n ∈ ns, n.natAbs < 10 ^ 20) : ShoAll (ns.map PyData.int) 0 (68 * ns.length) := by
  have := ShoAll.of (ds := ns.map PyData.int) (n := 0) (k := 67) fun d hd => by
    obtain ⟨i, hi, rfl⟩ := List.mem_map.mp hd
    exact sho_int (h i hi)
  rwa [List.length_map] at this
theorem rp_tupI {ns : List Int} (h : ∀ n ∈ ns, n.natAbs < 10 ^ 20) (hl : ns.length ≤ 8000) : Rp (.tuple (ns.map PyData.int)) := (sho_ints h).tuple.rp (by omega) (by omega)
theorem rp_lstI {ns : List Int} (h : ∀ n ∈ ns, n.natAbs < 10 ^ 20) (hl : ns.length ≤ 8000) : Rp (.list (ns.map PyData.int)) := (sho_ints h).list.rp (by omega) (by omega)
theorem sho_bk {b : Int × Int} (h1 : b.1.natAbs < 10 ^ 20) (h2 : b.2.natAbs < 10 ^ 20) : Sho (bD b) 1 136 := (sho_ints (ns := [b.1, b.2]) (fun n hn => by
  rcases List.mem_cons.mp hn with e | e
  · rw [e]; exact h1
  · rw [List.mem_singleton.mp e]; exact h2)).tuple
theorem rp_st {bs : List (Int × Int)} (h : ∀ b ∈ bs, b.1.natAbs < 10 ^ 20 ∧ b.2.natAbs < 10 ^ 20) (hl : bs.length ≤ 4000) : Rp (.tuple (bs.map bD)) := by
  have := ShoAll.of (ds := bs.map bD) (n := 1) (k := 136) fun d hd => by
    obtain ⟨b, hb, rfl⟩ := List.mem_map.mp hd
    exact sho_bk (h b hb).1 (h b hb).2
  rw [List.length_map] at this
  exact this.tuple.rp (by omega) (by omega)
section
variable {X : Cx}
/-- repr(e) of such data -/
def rRp (K : PySem.W.Frag) : List V → Hp → VK → Prop := fun xs H Q => ∃ (a : Addr) (d : PyData), xs = [.ref a] ∧ Dp K H (.ref a) d ∧ Rp d ∧ Q (.str d.shown) H
theorem call_rp (hgu : X.A.guards = some []) (hu : X.A.units + 64 < cLine) : CallR X (.builtin "repr") (rRp X.K) := by
  intro pins s σ H xs us Q I r h
  obtain ⟨a, d, e, dp, rp, q⟩ := h
  exact call_reprD hgu hu pins s σ H xs us Q I r ⟨a, d, e, dp, rp.sh, rp.nd, rp.dp, rp.ln, q⟩
end
end Ph

namespace Ph
open PySem PySem.Spec PyProof.Rows L2
/-! ### tuples of ints and states as data -/
theorem il_lay : ∀ ns : List Int, PyData.canLayAll0 (ns.map PyData.int) = true
  | [] => by simp [PyData.canLayAll0]
  | z :: zs => by simp [PyData.canLayAll0, PyData.canLay0, il_lay zs]
theorem il_depth : ∀ zs : List Int, PyData.depthAll (zs.map PyData.int) ≤ 1
  | [] => by simp [PyData.depthAll]
  | z :: zs => by
    have h1 := il_depth zs
    simp only [List.map_cons, PyData.depthAll, PyData.depth]
    omega
theorem tl_shaped (zs : List Int) : SeqAt.shaped (.tuple (zs.map PyData.int)) = true := by
  have h1 := il_depth zs
  have h2 : PyData.depth (.tuple (zs.map PyData.int)) ≤ 64 := by simp only [PyData.depth]; omega
  have h3 : PyData.canLay0 (.tuple (zs.map PyData.int)) = true := by simp only [PyData.canLay0]; exact il_lay zs
  show (PyData.canLay0 (.tuple (zs.map PyData.int)) && decide (PyData.depth (.tuple (zs.map PyData.int)) ≤ 64)) = true
  rw [h3, decide_eq_true h2]
  rfl
theorem il_shaped (zs : List Int) : SeqAt.shaped (.list (zs.map PyData.int)) = true := by
  have h1 := il_depth zs
  have h2 : PyData.depth (.list (zs.map PyData.int)) ≤ 64 := by simp only [PyData.depth]; omega
  have h3 : PyData.canLay0 (.list (zs.map PyData.int)) = true := by simp only [PyData.canLay0]; exact il_lay zs
  show (PyData.canLay0 (.list (zs.map PyData.int)) && decide (PyData.depth (.list (zs.map PyData.int)) ≤ 64)) = true
  rw [h3, decide_eq_true h2]
  rfl
theorem il_all (zs : List Int) : PyData.eqvAll (zs.map PyData.int) (zs.map PyData.int) = true := by
  induction zs with
  | nil => simp [PyData.eqvAll]
  | cons z zs ih => simp [PyData.eqvAll, ih, PyData.eqv]
theorem tl_eqv (zs : List Int) : PyData.eqv (.tuple (zs.map PyData.int)) (.tuple (zs.map PyData.int)) = true := by
  simp only [PyData.eqv]
  exact il_all zs
theorem il_eqv (zs : List Int) : PyData.eqv (.list (zs.map PyData.int)) (.list (zs.map PyData.int)) = true := by
  simp only [PyData.eqv]
  exact il_all zs
theorem BL.dp {K : PySem.W.Frag} {H : Hp} : ∀ {xs : List V} {bs : List Bk}, BL H xs bs → DpAll K H xs (bs.map bD)
  | _, _, .nil => .nil
  | _, _, .cons ⟨t, e1, e2⟩ r => by
    rw [List.map_cons]
    refine .cons ?_ (BL.dp r)
    rw [e1]
    exact .tup (.inl (.inl e2)) (.cons (.int _) (.cons (.int _) .nil))
theorem StAt.dp {K : PySem.W.Frag} {H : Hp} {t : Addr} {bs : List Bk} (h : StAt H t bs) : Dp K H (.ref t) (.tuple (bs.map bD)) := by
  obtain ⟨xs, e, bl⟩ := h
  exact .tup (.inl (.inl e)) bl.dp
theorem SqT.dp {K : PySem.W.Frag} {H : Hp} {t : Addr} {ns : List Int} (h : SqT K H t (ns.map V.int)) : Dp K H (.ref t) (.tuple (ns.map PyData.int)) := .tup h (dpI ns)
theorem BL.app {H : Hp} : ∀ {xs ys : List V} {bs cs : List Bk}, BL H xs bs → BL H ys cs → BL H (xs ++ ys) (bs ++ cs)
  | _, _, _, _, .nil, h => h
  | _, _, _, _, .cons h r, k => .cons h (BL.app r k)
theorem u64_of {A : Around} {k : Nat} (hr : Room k A) : A.units + 64 < cLine := by have := hr.un; omega
theorem perm_sorted : ∀ {l m : List Int}, m.Perm l → l.Pairwise (· ≤ ·) → m.Pairwise (· ≤ ·) → m = l := fun {l m} p h1 h2 => p.eq_of_pairwise (fun a b _ _ x y => Int.le_antisymm x y) h2 h1
theorem tl_pair {s : Nat → Nat} {m : Nat} (h : ∀ i, i + 1 < m → s i ≤ s (i + 1)) : (tl s m).Pairwise (· ≤ ·) := by
  induction m with
  | zero => exact List.Pairwise.nil
  | succ m ih =>
    rw [tl_succ, List.pairwise_append]
    refine ⟨ih fun i hi => h i (by omega), List.pairwise_singleton _ _, fun a ha b hb => ?_⟩
    obtain ⟨i, hi, rfl⟩ := tl_mem.mp ha
    rw [List.mem_singleton.mp hb]
    have : ∀ d i, i + d = m → s i ≤ s m := by
      intro d
      induction d with
      | zero => intro i e; rw [← e]; exact Nat.le_refl _
      | succ d ihd => intro i e; exact Nat.le_trans (h i (by omega)) (ihd (i + 1) (by omega))
    have := this (m - i) i (by omega)
    omega
/-- how far the bounds reach at the most -/
theorem BD.ub {s b : Nat → Nat} {m M : Nat} (c : CH s m) (B : BD s b m M) {S : Nat} (hS : ∀ j, j < m → s j ≤ S) : ∀ i, i < m → b i ≤ (i + 1) * M + i * S
  | 0, h => by rw [B.b0]; omega
  | i + 1, h => by
    have ih := BD.ub c B hS i (by omega)
    have p := c.pos h
    have h1 := cdw_lt (x := b i) p
    have h2 := Nat.div_mul_le_self (M - Lw s b (s (i + 1)) (i + 1)) (s (i + 1))
    have h3 := hS _ h
    rw [B.bs i h, Nat.mul_add]
    rw [Nat.mul_comm] at h1 h2
    have e1 : (i + 1 + 1) * M = (i + 1) * M + M := by rw [Nat.add_mul, Nat.one_mul]
    have e2 : (i + 1) * S = i * S + S := by rw [Nat.add_mul, Nat.one_mul]
    rw [e1, e2]
    omega
end Ph

namespace Ph
open PySem PySem.Spec PyProof.Rows L2
section
variable {P : Program} {w : World} {A : Around} {E : Value → Shared → Prop} {s : Shared}
/-- the items of a tuple, laid into a list first -/
theorem collect_tup {a : Addr} {us : List Value} {Q : List Value → Shared → Prop} (ht : s.heap.IsTuple a us.toArray) (few : us.length ≤ sizeLine)
    (q : ∀ g, (∀ b o, s.heap.get? b = some o → g.get? b = some o) → s.heap.objs.size ≤ g.objs.size → Q us { s with heap := g }) :
    wpAny (model P w) A (collect (.ref a)) Q E s := by
  obtain ⟨o, ho, hc, n, hd⟩ := id ht
  have at0 : (s.heap.push (seqObj "list" #[] 0)).get? s.heap.objs.size = some (seqObj "list" #[] 0) := Heap.get?_push_size _ rfl
  have at1 : (s.heap.push (seqObj "list" #[] 0)).get? a = some o := Heap.get?_push_of_some _ ho
  unfold collect
  refine wpAny_bind (wpAny_runValue (codeAny_builtin entry_proto_collect' ?_))
  show wpAny _ _ (do again (.builtin "list.__iadd__" ⟨[← newList [], .ref a], []⟩)) _ _ s
  refine wpAny_bind (wpAny_newList (wpAny_pure ⟨Code.quiet_builtin _ (by decide +kernel), codeAny_builtin entry_list_iadd' ?_⟩))
  show wpAny _ _ (Builtin.List.listExtendWith (.ref s.heap.objs.size) (.ref a) (.ref s.heap.objs.size)) _ _ { s with heap := s.heap.push (seqObj "list" #[] 0) }
  unfold Builtin.List.listExtendWith
  refine wpAny_bind (wpAny_typeOf (T := "tuple") ⟨o, at1, hc⟩ ?_)
  have same : (Value.type "tuple" == Value.type "tuple") = true := by rfl
  rw [if_pos (by rw [same]; simp)]
  refine wpAny_bind (listItems_at at1 hd ?_)
  refine wpAny_bind (listItems_at (xs := #[]) (n := 0) at0 rfl ?_)
  rw [if_neg (by simp)]
  refine wpAny_bind (listUpdate_at (xs := #[]) (n := 0) at0 rfl ?_ (Nat.zero_le _) (by show (#[] ++ us.toArray).size ≤ sizeLine + 1; simp only [Array.size_append, List.size_toArray, List.length_nil]; omega))
  refine wpAny_pure ?_
  refine wpAny_bind (m := load s.heap.objs.size) (wpAny_load (get?_update_seq at0 _) ?_)
  have e : ((#[] : Array Value) ++ us.toArray).toList = us := by simp
  show wpAny _ _ (pure ((#[] : Array Value) ++ us.toArray).toList) Q E _
  rw [e]
  refine wpAny_pure (q _ (fun b u hb => ?_) ?_)
  · have lt := Heap.lt_size hb
    rw [Heap.get?_update_ne _ _ _ _ (Nat.ne_of_lt lt)]
    exact Heap.get?_push_of_some _ hb
  · rw [Heap.size_update, size_push']
    exact Nat.le_succ _
theorem sorted_of_tup {a : Addr} {us : List Value} {is : List Int} {Q : Value → Shared → Prop} (ht : s.heap.IsTuple a us.toArray) (few : us.length ≤ sizeLine) (hI : IntsAre us is)
    (q : ∀ g p (out : Array Value) (c : Nat) (ns : List Int), (∀ b u, s.heap.get? b = some u → g.get? b = some u) → s.heap.objs.size ≤ p → g.get? p = some (seqObj "list" out c) → IntsAre out.toList ns → ns.Perm is → ns.Pairwise (· ≤ ·) → Q (.ref p) { s with heap := g }) :
    wpAny (model P w) A (call (.builtin "sorted") [.ref a]) Q E s := by
  refine Calls.call_function_entry kind_sorted plain_sorted entry_sorted (args_sorted1 _) ?_; unfold Builtin.«sorted»
  refine wpAny_bind (m := checkCount "sorted" 1 1 _) (wpAny_pure (wpAny_bind (collect_tup ht few fun g keep hz => ?_)))
  refine wpAny_bind (wpAny_newList ?_ few)
  have at1 : (g.push (seqObj "list" us.toArray 0)).get? g.objs.size = some (seqObj "list" us.toArray 0) := Heap.get?_push_size _ rfl
  refine wpAny_bind (wpAny_holding (wpAny_call_entry slot_list_sort ⟨_, at1, rfl⟩ entry_list_sort (SrtO.list_sort_ord SrtO.swo_int at1 few (fun h2 => SrtO.ints_sortable hI h2) fun out b1 b2 => ⟨_, rfl, ?_⟩) (args_list_sort _)))
  obtain ⟨k2, k3, k4⟩ := SrtO.ints_out hI b1 b2
  obtain ⟨c, hc⟩ := sortedHeap_at (vs := us) (out := out.toArray) at1
  refine wpAny_pure ⟨_, rfl, q _ g.objs.size out.toArray c (out.map SrtO.iv) (fun b u e => ?_) hz hc (by simpa using k2) k3 k4⟩
  have z := keep b u e
  have lt := Heap.lt_size z
  show (sortedHeap (g.push (seqObj "list" us.toArray 0)) g.objs.size us out.toArray).get? b = some u
  rw [sortedHeap_old (Nat.ne_of_lt lt) (by rw [size_push']; exact Nat.lt_succ_of_lt lt)]
  exact Heap.get?_push_of_some _ z
end
section
variable {X : Cx}
def rSortedTI (K : PySem.W.Frag) : List V → Hp → VK → Prop := fun vs H Q => ∃ (a : Addr) (ns : List Int), vs = [V.ref a] ∧ SqT K H a (ns.map V.int) ∧ ∀ (ms : List Int) (p : Addr), ms.Perm ns → ms.Pairwise (· ≤ ·) → H p = none → Q (.ref p) (upd H p (.lst (ms.map V.int)))
theorem cr_sortedTI : CallR X (.builtin "sorted") (rSortedTI X.K) := by
  intro pins s σ H vs us Q I r h
  obtain ⟨a, ns, rfl, hs, q⟩ := h
  obtain ⟨its, rv, hl, hz⟩ := I.tuple hs
  rw [Vals.ref1 r]
  have hi := rv.ints
  have few : its.length ≤ sizeLine := by rw [← rv.length]; exact hz
  refine sorted_of_tup hl few hi fun g p out c ms keep hp hg hm pm2 srt => ?_
  have len : (ms.map V.int).length ≤ sizeLine := by rw [List.length_map, pm2.length_eq, ← List.length_map (f := V.int)]; exact hz
  exact ⟨.ref p, upd H p (.lst (ms.map V.int)), I.laid (t' := s.toks) keep hp ⟨len, out.toList, c, vals_of_ints hm, hg⟩, rfl, q ms p pm2 srt (I.hok.fresh hp)⟩
end
end Ph

namespace Ph
open PySem PySem.Spec PyProof.Rows L2
/-! ### the end of a law whose promise asks for empty guards -/
section
variable {P : Program} {w : World} {K : PySem.W.Frag} {mg mb : Str → Option Value} {k : Nat} {fa a : Addr} {fd : FuncData} {x : Str} {sp : Sp} {s₁ : Shared} {vs : List Value} {ns : List Int}
abbrev LawEnd (s₁ : Shared) : Result → Shared → Prop := fun r s' => r = .ok (.ret (.bool true)) ∧ OldK s₁.heap s'.heap ∧ s'.os = s₁.os ∧ AllBare s'.gens
theorem end_core (KX : K.In s₁.heap) (hns : s₁.heap.Ns mainGlobals mg) (hb : s₁.heap.Ns builtinsNs mb) (hbb : ∀ z : Str, z ≠ "__name__" → mb z = bootBuiltins z) (lim : s₁.heap.NoLimit) (gens : s₁.gens = #[])
    (isList : ∃ o, s₁.heap.get? a = some o ∧ ∀ es ep, o.data ≠ .dict es ep) (room : Room k callerA) (F : ∀ base : Heap, K.In base → base.Ns mainGlobals mg → FnG P w K mg base CX0 k fa fd [x] sp) (bnd : ∀ (s : Shared) (u : Value), BindsTo s fd ⟨[u], []⟩ [(x, u)])
    (H : Hp) (alone : ∀ b o, H b = some o → b = a ∧ ∃ ob zs, o = .frz ob (.lst zs)) (ok : HOk P w H s₁.heap) (free : H a ≠ none → K.lookup a = none) (want : sp [.ref a] H (fun v _ => v = .bl true) fun _ _ _ => False) :
    codeAny (model P w) callerA (.call (.ref fa) ⟨[.ref a], []⟩) (LawEnd s₁) s₁ := by
  obtain ⟨oa, ha, noD⟩ := isList
  have none_of : ∀ {b : Addr}, b ≠ a → H b = none := fun {b} nb => by
    cases z : H b with
    | none => rfl
    | some o => exact absurd (alone b o z).1 nb
  have dictFree : ∀ {b : Addr} {o : Obj} {es : Array DictEntry} {ep : Nat}, s₁.heap.get? b = some o → o.data = .dict es ep → H b = none := fun {b o es ep} g d => none_of fun z => by
    subst z
    rw [ha] at g
    cases g
    exact noD es ep d
  have ns2 : ∀ {b : Addr} {m : Str → Option Value}, s₁.heap.Ns b m → (hidT s₁.heap H).Ns b m := fun ⟨o, es, ep, g, d, rest⟩ => ⟨o, es, ep, hidT_get g (dictFree g d), d, rest⟩
  have kin : K.In (hidT s₁.heap H) := fun b o g => hidT_get (KX b o g) (by
    cases z : H b with
    | none => rfl
    | some u =>
      have e1 := (alone b u z).1
      subst e1
      rw [free (by rw [z]; exact fun q => nomatch q)] at g
      cases g)
  have modu : Mod K mg (hidT s₁.heap H) := ⟨kin, ns2 hns, ⟨mb, ns2 hb, hbb⟩, let ⟨mc, z1, z2⟩ := lim; ⟨mc, ns2 z1, z2⟩⟩
  have env : Env0 P w K mg (hidT s₁.heap H) callerA [] s₁ H := ⟨rfl, modu, fun b o g => of_hidT g, Nat.le_of_eq (hidT_size _ _), trivial, fun b hb => (List.not_mem_nil hb).elim, ok, .of_eq gens⟩
  refine codeAny_mono ((F _ kin (ns2 hns)).go callerA [] s₁ H ⟨[.ref a], []⟩ [.ref a] [.ref a] _ _ rfl room env (bnd s₁ (.ref a)) (.cons rfl .nil) want) fun r s2 out => ?_
  match r, out with
  | .error _, out => exact out.elim
  | .ok (.ret u), ⟨v, H', os, bare, un, ok2, rel, good⟩ =>
    have good' : v = .bl true := good
    subst good'
    obtain rfl : u = Value.bool true := rel
    refine ⟨rfl, OldK.of_keep fun b o g => ?_, os, bare⟩
    cases z : H b with
    | none => exact un.keep b o g z (fun q => (List.not_mem_nil q).elim) (by simp)
    | some u =>
      obtain ⟨_, ob, zs, rfl⟩ := alone b u z
      obtain ⟨e1, _⟩ := ok b _ z
      obtain ⟨e2, _⟩ := ok2 b _ (un.frzs b ob _ z)
      rw [g] at e1
      cases e1
      exact e2
theorem end_call (KX : K.In s₁.heap) (hns : s₁.heap.Ns mainGlobals mg) (hb : s₁.heap.Ns builtinsNs mb) (hbb : ∀ z : Str, z ≠ "__name__" → mb z = bootBuiltins z) (lim : s₁.heap.NoLimit) (gens : s₁.gens = #[])
    (ha : s₁.heap.get? a = some { cls := .type "list", data := .seq vs.toArray }) (hi : IntsAre vs ns) (hl : ns.length ≤ sizeLine) (room : Room k callerA) (F : ∀ base : Heap, K.In base → base.Ns mainGlobals mg → FnG P w K mg base CX0 k fa fd [x] sp) (bnd : ∀ (s : Shared) (u : Value), BindsTo s fd ⟨[u], []⟩ [(x, u)])
    (want : ∀ H : Hp, SqL K H a (ns.map V.int) → sp [.ref a] H (fun v _ => v = .bl true) fun _ _ _ => False) :
    codeAny (model P w) callerA (.call (.ref fa) ⟨[.ref a], []⟩) (LawEnd s₁) s₁ := by
  have isL : ∃ o, s₁.heap.get? a = some o ∧ ∀ es ep, o.data ≠ .dict es ep := ⟨_, ha, fun _ _ z => nomatch z⟩
  cases lk : K.lookup a with
  | some o =>
    have g := KX a o lk
    rw [ha] at g
    cases g
    refine end_core KX hns hb hbb lim gens isL room F bnd (fun _ => none) (fun b o z => nomatch z) (fun b u z => nomatch z) (fun z => (z rfl).elim) (want _ (.inr ⟨_, vs.toArray, _, lk, rfl, rfl, rfl, by rw [List.size_toArray, hi.length]; exact hl, by simpa using vals_ints hi⟩))
  | none =>
    refine end_core KX hns hb hbb lim gens isL room F bnd (fun b => if b = a then some (.frz { cls := .type "list", data := .seq vs.toArray } (.lst (ns.map V.int))) else none) (fun b o z => ?_) (fun b u z => ?_) (fun _ => lk) (want _ (.inl (.inr ⟨_, if_pos rfl⟩)))
    · by_cases e : b = a
      · have z' := (if_pos e).symm.trans z
        cases z'
        exact ⟨e, _, _, rfl⟩
      · exact nomatch (if_neg e).symm.trans z
    · by_cases e : b = a
      · have z' := (if_pos e).symm.trans z
        cases z'
        subst e
        exact ⟨ha, by rw [List.length_map]; exact hl, vs, _, vals_ints hi, ha⟩
      · exact nomatch (if_neg e).symm.trans z
end
theorem walkG {l : PySem.W.OpenLaw} {n k : Nat} {q : Program} {loose : List Str} {XP : (Str → Option Value) → Heap → Prop} {YP : World → Heap → Prop} {d : DefRec} {K : Params → PySem.W.Frag} {sp : World → Sp} {x : Str}
    (hn : l.most = some n) (hn2 : n ≤ sizeLine) (hdf : d.params.defaults = []) (room : Room k callerA) (hY : ∀ (w : World) (h : Heap), YP w h → (K w.params).In h)
    (F : ∀ (w : World) (mg : Str → Option Value) (fa : Addr) (h : Heap), (K w.params).In h → h.Ns mainGlobals mg → mg d.name = some (.ref fa) →
      ∃ fd : FuncData, (∀ (s : Shared) (u : Value), BindsTo s fd ⟨[u], []⟩ [(x, u)]) ∧ ∀ base : Heap, (K w.params).In base → base.Ns mainGlobals mg → FnG l.prog w (K w.params) mg base CX0 k fa fd [x] (sp w))
    (want : ∀ (w : World) (H : Hp) (a : Addr) (ns : List Int), ns.length ≤ n → SqL (K w.params) H a (ns.map V.int) → sp w [.ref a] H (fun v _ => v = .bl true) fun _ _ _ => False) :
    PySem.W.WalkO q loose XP YP l.row.toRowW d [] (fun f vs => PySem.call f vs) := by
  refine Att.attach_call hn hdf fun w s₀ s₁ mg mb fa o pm cd doc a vs ns G Y ho hd hcd hmg hobj hints hlen hg => ?_
  obtain ⟨fd, bnd, hF⟩ := F w mg fa _ (hY w _ Y) G.T.g hmg
  exact end_call (hY w _ Y) G.T.g G.T.b G.T.builtins G.T.nolimit hg hobj hints (Nat.le_trans hlen hn2) room hF bnd fun H hS => want w H a ns hlen hS
end Ph

namespace Ph
open PySem PySem.Spec PyProof.Rows L2
section
variable {X : Cx}
/-! ### powers of wide numbers; an item of a list or a tuple -/
def CPowW (i j : Int) : Prop := 0 ≤ j ∧ (Builtin.Int.intBits i : Int) * j ≤ 2 ^ 27
theorem op_powW : OpR X (binaryOp .Pow) (rI CPowW fun i j => .int (i ^ j.toNat)) := opI fun _ _ _ _ _ _ _ hc q => pow_int hc.1 hc.2 q
def rIxA (K : PySem.W.Frag) : V → V → Hp → VK → Prop := fun x y H Q => rIxL K x y H Q ∨ rIxT K x y H Q
theorem ix_any : IxR X (rIxA X.K) := by
  intro ea eb pins s σ H x y v u Q I rx ry h hs
  rcases h with h | h
  · exact ix_list ea eb pins s σ H x y v u Q I rx ry h hs
  · exact ix_tup ea eb pins s σ H x y v u Q I rx ry h hs
end
theorem join {R G : Hp → Prop} {C : Prop} (m : (∀ Hx, R Hx → G Hx) → C) (k : ∀ Hx, R Hx → G Hx) : C := m k
/-! ### draws: digits, a mixed number, a count -/
structure DrV (c : Nat) (g r n : Int) : Prop where
  g0 : 0 ≤ g
  g1 : g.natAbs < 2 ^ 3000
  r0 : 0 ≤ r
  r1 : r < 2305843009213693921
  n0 : 0 ≤ n
  n1 : n ≤ c
def Dr (c : Nat) (H : Hp) (p : Addr) : Prop := ∃ g r n : Int, H p = some (.lst [.int g, .int r, .int n]) ∧ DrV c g r n
theorem Dr.up {c d : Nat} {H : Hp} {p : Addr} (h : Dr c H p) (le : c ≤ d) : Dr d H p := by
  obtain ⟨g, r, n, e, v⟩ := h
  exact ⟨g, r, n, e, v.g0, v.g1, v.r0, v.r1, v.n0, by have := v.n1; omega⟩
theorem Dr.same {c : Nat} {H H' : Hp} {p : Addr} (P : Dr c H p) (s : Same H H') : Dr c H' p := by
  obtain ⟨g, r, n, h, v⟩ := P
  exact ⟨g, r, n, s _ _ h, v⟩
theorem Dr.ne_none {c : Nat} {H : Hp} {p q : Addr} (P : Dr c H p) (h : H q = none) : p ≠ q := by
  obtain ⟨g, r, n, e, v⟩ := P
  exact ne_of_none e h
theorem Dr.netup {c : Nat} {H : Hp} {p t : Addr} {xs : List V} (P : Dr c H p) (e : H t = some (.tup xs)) : t ≠ p := fun z => by
  obtain ⟨g, r, n, e0, _⟩ := P
  rw [z, e0] at e
  cases e
theorem Dr.nefrz {c : Nat} {H : Hp} {p t : Addr} {ob : Obj} {u : HO} (P : Dr c H p) (e : H t = some (.frz ob u)) : t ≠ p := fun z => by
  obtain ⟨g, r, n, e0, _⟩ := P
  rw [z, e0] at e
  cases e
theorem Dr.keep {c : Nat} {H : Hp} {p o : Addr} {u : HO} (P : Dr c H p) (n : p ≠ o) : Dr c (upd H o u) p := by
  obtain ⟨g, r, k, e0, v⟩ := P
  exact ⟨g, r, k, by rw [upd_ne n]; exact e0, v⟩
def TAt (H : Hp) (c : Addr) (C : List Int) : Prop := H c = some (.tup (C.map V.int)) ∨ ChAt H c C
theorem TAt.sq {K : PySem.W.Frag} {H : Hp} {c : Addr} {C : List Int} (h : TAt H c C) : SqT K H c (C.map V.int) := by
  rcases h with h | h
  · exact .inl (.inl h)
  · exact h.sq
theorem TAt.same {H H' : Hp} {c : Addr} {C : List Int} (h : TAt H c C) (s : Same H H') : TAt H' c C := by
  rcases h with h | h
  · exact .inl (s _ _ h)
  · exact .inr (h.keep s)
theorem TAt.butD {k : Nat} {p : Addr} {H H' : Hp} {c : Addr} {C : List Int} (h : TAt H c C) (b : But p H H') (P : Dr k H p) : TAt H' c C := by
  rcases h with h | ⟨o, d, e⟩
  · exact .inl (b _ _ (P.netup h) h)
  · exact .inr ⟨o, d, b _ _ (P.nefrz e) e⟩
/-- a chain of p + 1 sizes, each one at least twice the one before, none above m -/
structure Cn (s : Nat → Nat) (p m : Nat) : Prop where
  ch : CH s (p + 1)
  two : ∀ i, i < p → ∃ r, 2 ≤ r ∧ r ≤ 1000 ∧ s (i + 1) = s i * r
  top : s p ≤ m
inductive Gnk (m : Int) : List Int → Int → Prop
  | one : Gnk m [1] 1
  | step {ns : List Int} {x r : Int} : Gnk m ns x → 2 ≤ r → r ≤ 1000 → x * r ≤ m → Gnk m (ns ++ [x * r]) (x * r)
theorem Gnk.pos {m x : Int} {ns : List Int} (h : Gnk m ns x) : 1 ≤ x := by
  induction h with
  | one => decide
  | step h h1 h2 h3 ih =>
    have := Int.mul_le_mul ih h1 (by decide) (by omega)
    omega
theorem Gnk.last {m x : Int} {ns : List Int} (h : Gnk m ns x) : ∃ r, ns = r ++ [x] := by
  cases h with
  | one => exact ⟨[], rfl⟩
  | step h h1 h2 h3 => exact ⟨_, rfl⟩
theorem Gnk.le {m x : Int} {ns : List Int} (h : Gnk m ns x) (hm : 1 ≤ m) : x ≤ m := by
  cases h with
  | one => exact hm
  | step h h1 h2 h3 => exact h3
theorem Gnk.cn {m x : Int} {ns : List Int} (h : Gnk m ns x) (hm : 1 ≤ m) : ∃ s p, ns = tl s (p + 1) ∧ x = ((s p : Nat) : Int) ∧ Cn s p m.toNat := by
  induction h with
  | one => exact ⟨fun _ => 1, 0, rfl, rfl, ⟨rfl, fun i hi => absurd hi (by omega)⟩, fun i hi => absurd hi (by omega), by show 1 ≤ _; omega⟩
  | step h h1 h2 h3 ih =>
    rename_i ns x r
    obtain ⟨s, p, e1, e2, c⟩ := ih
    obtain ⟨q, rfl⟩ : ∃ q : Nat, r = q := ⟨r.toNat, by omega⟩
    have lo : ∀ i, i ≤ p → (if i ≤ p then s i else s p * q) = s i := fun i hi => if_pos hi
    have top : (if p + 1 ≤ p then s (p + 1) else s p * q) = s p * q := if_neg (by omega)
    have st : ∀ i, i < p + 1 → ∃ r, 2 ≤ r ∧ r ≤ 1000 ∧ (fun i => if i ≤ p then s i else s p * q) (i + 1) = (fun i => if i ≤ p then s i else s p * q) i * r := fun i hi => by
      rcases Nat.lt_or_ge i p with z | z
      · obtain ⟨r, a1, a2, a3⟩ := c.two i z
        refine ⟨r, a1, a2, ?_⟩
        dsimp only
        rw [lo i (by omega), lo (i + 1) (by omega)]
        exact a3
      · have : i = p := by omega
        subst this
        refine ⟨q, by omega, by omega, ?_⟩
        dsimp only
        rw [lo i (Nat.le_refl _), top]
    refine ⟨fun i => if i ≤ p then s i else s p * q, p + 1, ?_, ?_, ⟨?_, fun i hi => ?_⟩, st, ?_⟩
    · rw [tl_succ, top, e1, e2]
      congr 1
      exact tl_congr fun i hi => (lo i (by omega)).symm
    · show _ = ((if p + 1 ≤ p then s (p + 1) else s p * q : Nat) : Int)
      rw [top, e2]
      push_cast
      rfl
    · show (if 0 ≤ p then s 0 else _) = 1
      rw [if_pos (Nat.zero_le _)]
      exact c.ch.s0
    · obtain ⟨r, a1, _, a3⟩ := st i (by omega)
      exact ⟨r, by omega, a3⟩
    · show (if p + 1 ≤ p then s (p + 1) else s p * q) ≤ _
      rw [top]
      rw [e2] at h3
      have : ((s p * q : Nat) : Int) ≤ m := by push_cast; exact h3
      omega
section
variable {X : Cx}
theorem cutv_map {C : List Int} {lo hi : Option Int} : ∃ D : List Int, D.map V.int = cutV (C.map V.int) lo hi ∧ D.length ≤ C.length := by
  unfold cutV
  refine ⟨_, by rw [← List.map_drop, ← List.map_take], ?_⟩
  rw [List.length_take, List.length_drop]
  omega
theorem map_int_inj {C D : List Int} (h : C.map V.int = D.map V.int) : C = D := by
  have := congrArg (List.map iV) h
  rw [List.map_map, List.map_map] at this
  have e : iV ∘ V.int = id := by funext x; rfl
  rw [e, List.map_id, List.map_id] at this
  exact this
def rSlJ : V → Option Int → Option Int → Hp → VK → Prop := fun x lo hi H Q => ∃ a C, x = .ref a ∧ TAt H a C ∧ ∀ q H' D, Same H H' → D.map V.int = cutV (C.map V.int) lo hi → TAt H' q D → Q (.ref q) H'
theorem sl_tupJ : SlR X rSlJ := by
  intro pins s σ H x v vl vu lo hi sl Q I rx hs pl pu h
  obtain ⟨a, C, rfl, hx, q⟩ := h
  obtain ⟨D, eD, _⟩ := cutv_map (C := C) (lo := lo) (hi := hi)
  exact sl_tupA pins s σ H _ v vl vu lo hi sl Q I rx hs pl pu ⟨a, _, rfl, hx.sq, fun hw => q a H C (Same.refl H) (cutv_whole hw).symm hx, fun _ p np => q p _ D (same_upd np) eD (.inl (by rw [upd_same, eD]))⟩
def rCatJ : V → V → Hp → VK → Prop := fun x y H Q => ∃ a b C D, x = .ref a ∧ y = .ref b ∧ TAt H a C ∧ TAt H b D ∧ C.length + D.length ≤ sizeLine ∧ ∀ q H', Same H H' → TAt H' q (C ++ D) → Q (.ref q) H'
theorem op_catJ : OpR X (binaryOp .Add) rCatJ := by
  intro pins s σ H x y v u Q I rx ry h
  obtain ⟨a, b, C, D, rfl, rfl, ha, hb, hz, q⟩ := h
  refine op_catA pins s σ H _ _ v u Q I rx ry ⟨a, b, _, _, rfl, rfl, ha.sq, hb.sq, by rw [List.length_map, List.length_map]; exact hz, fun e => ?_, fun _ e => ?_, fun _ _ p np => q p _ (same_upd np) (.inl (by rw [upd_same, List.map_append]))⟩
  · rw [List.map_eq_nil_iff.mp e] at q
    exact q b H (Same.refl H) hb
  · rw [List.map_eq_nil_iff.mp e, List.append_nil] at q
    exact q a H (Same.refl H) ha
end
theorem cut_first {s : Nat → Nat} {n : Nat} : cutV ((tl s (n + 1)).map V.int) none (some 1) = [V.int ((s 0 : Nat) : Int)] := by
  have e : (tl s (n + 1)).map V.int = V.int ((s 0 : Nat) : Int) :: (tl (fun i => s (i + 1)) n).map V.int := by
    unfold tl
    rw [List.range_succ_eq_map]
    simp [Function.comp_def]
  rw [e]
  unfold cutV HT.sIx
  simp [tl_len]
theorem cut_lastp {s : Nat → Nat} {n : Nat} : cutV ((tl s (n + 1)).map V.int) (some (-1)) none = [V.int ((s n : Nat) : Int)] := by
  have l : ((tl s (n + 1)).map V.int).length = n + 1 := by rw [List.length_map, tl_len]
  have i1 : HT.sIx ((tl s (n + 1)).map V.int).length 0 (some (-1)) = n := by
    rw [l]
    unfold HT.sIx
    simp
    try omega
  have i2 : HT.sIx ((tl s (n + 1)).map V.int).length ((tl s (n + 1)).map V.int).length none = n + 1 := by rw [l]; rfl
  unfold cutV
  rw [i1, i2, tl_succ, List.map_append, List.drop_left' (by rw [List.length_map, tl_len])]
  simp
theorem cut_mid {s : Nat → Nat} {n : Nat} : cutV ((tl s (n + 1 + 1)).map V.int) (some 1) (some (-1)) = (tl (fun i => s (i + 1)) n).map V.int := by
  have l : ((tl s (n + 1 + 1)).map V.int).length = n + 1 + 1 := by rw [List.length_map, tl_len]
  have i1 : HT.sIx ((tl s (n + 1 + 1)).map V.int).length 0 (some 1) = 1 := by
    rw [l]
    unfold HT.sIx
    simp
  have i2 : HT.sIx ((tl s (n + 1 + 1)).map V.int).length ((tl s (n + 1 + 1)).map V.int).length (some (-1)) = n + 1 := by
    rw [l]
    unfold HT.sIx
    simp
    try omega
  unfold cutV
  rw [i1, i2, tl_succ]
  have e : (tl s (n + 1)).map V.int = V.int ((s 0 : Nat) : Int) :: (tl (fun i => s (i + 1)) n).map V.int := by
    unfold tl
    rw [List.range_succ_eq_map]
    simp [Function.comp_def]
  rw [List.map_append, e]
  simp
  rw [List.take_left' (by rw [List.length_map, tl_len])]
end Ph

namespace Ph
open PySem PySem.Spec PyProof.Rows L2
/-! ### the third pot: digits, a mixed number, a count -/
structure PoV (g r n : Int) : Prop where
  g0 : 0 ≤ g
  g1 : g.natAbs < 2 ^ 3000
  r0 : 0 ≤ r
  r1 : r < 2305843009213693951
  n0 : 0 ≤ n
def Po (H : Hp) (p : Addr) : Prop := ∃ g r n : Int, H p = some (.lst [.int g, .int r, .int n]) ∧ PoV g r n
theorem Po.same {H H' : Hp} {p : Addr} (P : Po H p) (s : Same H H') : Po H' p := by
  obtain ⟨g, r, n, h, v⟩ := P
  exact ⟨g, r, n, s _ _ h, v⟩
theorem Po.ne_none {H : Hp} {p q : Addr} (P : Po H p) (h : H q = none) : p ≠ q := by
  obtain ⟨g, r, n, e, v⟩ := P
  exact ne_of_none e h
theorem Po.netup {H : Hp} {p t : Addr} {xs : List V} (P : Po H p) (e : H t = some (.tup xs)) : t ≠ p := fun z => by
  obtain ⟨g, r, n, e0, _⟩ := P
  rw [z, e0] at e
  cases e
theorem Po.nefrz {H : Hp} {p t : Addr} {ob : Obj} {u : HO} (P : Po H p) (e : H t = some (.frz ob u)) : t ≠ p := fun z => by
  obtain ⟨g, r, n, e0, _⟩ := P
  rw [z, e0] at e
  cases e
theorem Po.keep {H : Hp} {p o : Addr} {u : HO} (P : Po H p) (n : p ≠ o) : Po (upd H o u) p := by
  obtain ⟨g, r, k, e0, v⟩ := P
  exact ⟨g, r, k, by rw [upd_ne n]; exact e0, v⟩
theorem TAt.butP {p : Addr} {H H' : Hp} {c : Addr} {C : List Int} (h : TAt H c C) (b : But p H H') (P : Po H p) : TAt H' c C := by
  rcases h with h | ⟨o, d, e⟩
  · exact .inl (b _ _ (P.netup h) h)
  · exact .inr ⟨o, d, b _ _ (P.nefrz e) e⟩
/-! ### max of a list of pairs of ints -/
section
variable {X : Cx}
def rMaxP (K : PySem.W.Frag) : List V → Hp → VK → Prop := fun vs H Q => ∃ (a : Addr) (xs : List V) (k : V → Int × Int), vs = [V.ref a] ∧ SqL K H a xs ∧ (∀ x ∈ xs, ∃ t, x = V.ref t ∧ H t = some (.tup [.int (k x).1, .int (k x).2])) ∧ 0 < xs.length ∧
  ∀ x ∈ xs, (∀ y ∈ xs, SrtO.lexB (k x) (k y) = false) → Q x H
theorem maxOf_spec : ∀ (x : Int × Int) (xs : List (Int × Int)), PySem.W.maxOf x xs ∈ x :: xs ∧ ∀ y ∈ x :: xs, SrtO.lexB (PySem.W.maxOf x xs) y = false
  | x, [] => ⟨List.mem_singleton.mpr rfl, fun y hy => by
      rw [List.mem_singleton.mp hy]
      exact SrtO.lexB_no.mpr (by show ¬ (x.1 < x.1 ∨ (x.1 = x.1 ∧ x.2 < x.2)); omega)⟩
  | x, z :: zs => by
    have e : PySem.W.maxOf x (z :: zs) = PySem.W.maxOf (if PySem.W.DatumOrd.lt x z = true then z else x) zs := rfl
    rw [e]
    have l : PySem.W.DatumOrd.lt x z = SrtO.lexB x z := rfl
    rw [l]
    by_cases c : SrtO.lexB x z = true
    · rw [if_pos c]
      obtain ⟨h1, h2⟩ := maxOf_spec z zs
      refine ⟨List.mem_cons_of_mem _ h1, fun y hy => ?_⟩
      rcases List.mem_cons.mp hy with r | r
      · rw [r]
        have a := SrtO.lexB_iff.mp c
        have b := SrtO.lexB_no.mp (h2 z (List.mem_cons_self ..))
        exact SrtO.lexB_no.mpr (by omega)
      · exact h2 y r
    · rw [if_neg c]
      obtain ⟨h1, h2⟩ := maxOf_spec x zs
      refine ⟨?_, fun y hy => ?_⟩
      · rcases List.mem_cons.mp h1 with r | r
        · rw [r]; exact List.mem_cons_self ..
        · exact List.mem_cons_of_mem _ (List.mem_cons_of_mem _ r)
      · rcases List.mem_cons.mp hy with r | r
        · rw [r]; exact h2 x (List.mem_cons_self ..)
        · rcases List.mem_cons.mp r with r | r
          · rw [r]
            have a := SrtO.lexB_no.mp (by simpa using c : SrtO.lexB x z = false)
            have b := SrtO.lexB_no.mp (h2 x (List.mem_cons_self ..))
            exact SrtO.lexB_no.mpr (by omega)
          · exact h2 y (List.mem_cons_of_mem _ r)
theorem dp_prs {K : PySem.W.Frag} {H : Hp} {k : V → Int × Int} : ∀ xs : List V, (∀ x ∈ xs, ∃ t, x = V.ref t ∧ H t = some (.tup [.int (k x).1, .int (k x).2])) → DpAll K H xs (xs.map fun x => bD (k x))
  | [], _ => .nil
  | x :: r, h => by
    obtain ⟨t, e, ht⟩ := h x (List.mem_cons_self ..)
    refine .cons ?_ (dp_prs r fun y hy => h y (List.mem_cons_of_mem _ hy))
    subst e
    exact .tup (.inl (.inl ht)) (.cons (.int _) (.cons (.int _) .nil))
theorem cr_maxP (hc : X.calm = true) (hu : X.A.units + 3 < cLine) : CallR X (.builtin "max") (rMaxP X.K) := by
  intro pins s σ H vs us Q I r h
  obtain ⟨a, xs, k, rfl, hs, hx, h0, q⟩ := h
  obtain ⟨its, rv, pl, hz⟩ := I.list hs
  rw [Vals.ref1 r]
  cases xs with
  | nil => exact absurd h0 (by decide)
  | cons x0 xr =>
    obtain ⟨as, rd⟩ := Dp.readsAll I _ _ its (dp_prs _ hx) rv
    have hd : PyData.depthAll ((x0 :: xr).map fun x => bD (k x)) ≤ 1 := by
      have := bDs_depth ((x0 :: xr).map k)
      rw [List.map_map] at this
      exact this
    have ha : PySem.W.AlikeAll ((x0 :: xr).map fun x => bD (k x)) := by
      have := PySem.W.alikeAll_datum ((x0 :: xr).map k)
      rw [List.map_map] at this
      exact this
    refine PySem.W.max_list_data (x := bD (k x0)) (xs := xr.map fun x => bD (k x)) (I.ok.hd hc) pl.isList (by simpa using rd) ha (by
      have e : PyData.depthAll (bD (k x0) :: xr.map fun x => bD (k x)) ≤ 1 := hd
      omega) (fun i v g tk bs hv rr kp => ?_)
    have em : PySem.W.maxD (bD (k x0)) (xr.map fun x => bD (k x)) = bD (PySem.W.maxOf (k x0) (xr.map k)) := by
      have := PySem.W.maxD_map (k x0) (xr.map k)
      rw [List.map_map] at this
      exact this
    rw [em] at rr
    obtain ⟨hm, hb⟩ := maxOf_spec (k x0) (xr.map k)
    have hv : its[i]? = some v := by simpa using hv
    obtain ⟨x, hxi, rx⟩ : ∃ x, (x0 :: xr)[i]? = some x ∧ RelV x v := by
      have hil : i < its.length := (List.getElem?_eq_some_iff.mp hv).1
      have hxl : i < (x0 :: xr).length := by rw [rv.length]; exact hil
      obtain ⟨u, e1, e2⟩ := rv.get (List.getElem?_eq_getElem hxl)
      rw [hv] at e1
      cases e1
      exact ⟨_, List.getElem?_eq_getElem hxl, e2⟩
    have mx := List.mem_of_getElem? hxi
    obtain ⟨t, et, ht⟩ := hx x mx
    have dx : Dp X.K H x (bD (k x)) := by
      subst et
      exact .tup (.inl (.inl ht)) (.cons (.int _) (.cons (.int _) .nil))
    obtain ⟨as2, r2⟩ := Dp.reads I _ _ _ dx rx
    have e := (Reads.unique (Reads.keeps kp r2) _ _ rr).1
    have e3 : k x = PySem.W.maxOf (k x0) (xr.map k) := by
      unfold bD at e
      injection e with e
      injection e with e1 e
      injection e with e2 e
      injection e1 with e1
      injection e2 with e2
      exact Prod.ext e1 e2
    refine ⟨x, H, I.kept kp, rx, q x mx fun y hy => ?_⟩
    rw [e3]
    refine hb (k y) ?_
    rcases List.mem_cons.mp hy with z | z
    · rw [z]; exact List.mem_cons_self ..
    · exact List.mem_cons_of_mem _ (List.mem_map.mpr ⟨y, z, rfl⟩)
end
end Ph

namespace Ph
open PySem PySem.Spec PyProof.Rows L2
/-! ### min of a list of pairs of ints -/
section
variable {X : Cx}
def rMinP (K : PySem.W.Frag) : List V → Hp → VK → Prop := fun vs H Q => ∃ (a : Addr) (xs : List V) (k : V → Int × Int), vs = [V.ref a] ∧ SqL K H a xs ∧ (∀ x ∈ xs, ∃ t, x = V.ref t ∧ H t = some (.tup [.int (k x).1, .int (k x).2])) ∧ 0 < xs.length ∧
  ∀ x ∈ xs, (∀ y ∈ xs, SrtO.lexB (k y) (k x) = false) → Q x H
theorem minOf_spec : ∀ (x : Int × Int) (xs : List (Int × Int)), PySem.W.minOf x xs ∈ x :: xs ∧ ∀ y ∈ x :: xs, SrtO.lexB y (PySem.W.minOf x xs) = false
  | x, [] => ⟨List.mem_singleton.mpr rfl, fun y hy => by
      rw [List.mem_singleton.mp hy]
      exact SrtO.lexB_no.mpr (by show ¬ (x.1 < x.1 ∨ (x.1 = x.1 ∧ x.2 < x.2)); omega)⟩
  | x, z :: zs => by
    have e : PySem.W.minOf x (z :: zs) = PySem.W.minOf (if PySem.W.DatumOrd.lt z x = true then z else x) zs := rfl
    rw [e]
    have l : PySem.W.DatumOrd.lt z x = SrtO.lexB z x := rfl
    rw [l]
    by_cases c : SrtO.lexB z x = true
    · rw [if_pos c]
      obtain ⟨h1, h2⟩ := minOf_spec z zs
      refine ⟨List.mem_cons_of_mem _ h1, fun y hy => ?_⟩
      rcases List.mem_cons.mp hy with r | r
      · rw [r]
        have a := SrtO.lexB_iff.mp c
        have b := SrtO.lexB_no.mp (h2 z (List.mem_cons_self ..))
        exact SrtO.lexB_no.mpr (by omega)
      · exact h2 y r
    · rw [if_neg c]
      obtain ⟨h1, h2⟩ := minOf_spec x zs
      refine ⟨?_, fun y hy => ?_⟩
      · rcases List.mem_cons.mp h1 with r | r
        · rw [r]; exact List.mem_cons_self ..
        · exact List.mem_cons_of_mem _ (List.mem_cons_of_mem _ r)
      · rcases List.mem_cons.mp hy with r | r
        · rw [r]; exact h2 x (List.mem_cons_self ..)
        · rcases List.mem_cons.mp r with r | r
          · rw [r]
            have a := SrtO.lexB_no.mp (by simpa using c : SrtO.lexB z x = false)
            have b := SrtO.lexB_no.mp (h2 x (List.mem_cons_self ..))
            exact SrtO.lexB_no.mpr (by omega)
          · exact h2 y (List.mem_cons_of_mem _ r)
theorem cr_minP (hc : X.calm = true) (hu : X.A.units + 3 < cLine) : CallR X (.builtin "min") (rMinP X.K) := by
  intro pins s σ H vs us Q I r h
  obtain ⟨a, xs, k, rfl, hs, hx, h0, q⟩ := h
  obtain ⟨its, rv, pl, hz⟩ := I.list hs
  rw [Vals.ref1 r]
  cases xs with
  | nil => exact absurd h0 (by decide)
  | cons x0 xr =>
    obtain ⟨as, rd⟩ := Dp.readsAll I _ _ its (dp_prs _ hx) rv
    have hd : PyData.depthAll ((x0 :: xr).map fun x => bD (k x)) ≤ 1 := by
      have := bDs_depth ((x0 :: xr).map k)
      rw [List.map_map] at this
      exact this
    have ha : PySem.W.AlikeAll ((x0 :: xr).map fun x => bD (k x)) := by
      have := PySem.W.alikeAll_datum ((x0 :: xr).map k)
      rw [List.map_map] at this
      exact this
    refine PySem.W.min_list_data (x := bD (k x0)) (xs := xr.map fun x => bD (k x)) (I.ok.hd hc) pl.isList (by simpa using rd) ha (by
      have e : PyData.depthAll (bD (k x0) :: xr.map fun x => bD (k x)) ≤ 1 := hd
      omega) (fun i v g tk bs hv rr kp => ?_)
    have em : PySem.W.minD (bD (k x0)) (xr.map fun x => bD (k x)) = bD (PySem.W.minOf (k x0) (xr.map k)) := by
      have := PySem.W.minD_map (k x0) (xr.map k)
      rw [List.map_map] at this
      exact this
    rw [em] at rr
    obtain ⟨hm, hb⟩ := minOf_spec (k x0) (xr.map k)
    have hv : its[i]? = some v := by simpa using hv
    obtain ⟨x, hxi, rx⟩ : ∃ x, (x0 :: xr)[i]? = some x ∧ RelV x v := by
      have hil : i < its.length := (List.getElem?_eq_some_iff.mp hv).1
      have hxl : i < (x0 :: xr).length := by rw [rv.length]; exact hil
      obtain ⟨u, e1, e2⟩ := rv.get (List.getElem?_eq_getElem hxl)
      rw [hv] at e1
      cases e1
      exact ⟨_, List.getElem?_eq_getElem hxl, e2⟩
    have mx := List.mem_of_getElem? hxi
    obtain ⟨t, et, ht⟩ := hx x mx
    have dx : Dp X.K H x (bD (k x)) := by
      subst et
      exact .tup (.inl (.inl ht)) (.cons (.int _) (.cons (.int _) .nil))
    obtain ⟨as2, r2⟩ := Dp.reads I _ _ _ dx rx
    have e := (Reads.unique (Reads.keeps kp r2) _ _ rr).1
    have e3 : k x = PySem.W.minOf (k x0) (xr.map k) := by
      unfold bD at e
      injection e with e
      injection e with e1 e
      injection e with e2 e
      injection e1 with e1
      injection e2 with e2
      exact Prod.ext e1 e2
    refine ⟨x, H, I.kept kp, rx, q x mx fun y hy => ?_⟩
    rw [e3]
    refine hb (k y) ?_
    rcases List.mem_cons.mp hy with z | z
    · rw [z]; exact List.mem_cons_self ..
    · exact List.mem_cons_of_mem _ (List.mem_map.mpr ⟨y, z, rfl⟩)
/-! ### sorted of data of any kind that compare: the same items -/
theorem each_of {α : Type} {R : Value → α → Prop} : ∀ {vs : List Value} {bs : List α}, Paired (fun b v => R v b) bs vs → PySem.W.EachIs R vs bs
  | _, _, .nil => .nil
  | _, _, .cons h t => .cons h (each_of t)
theorem of_each {α : Type} {R : Value → α → Prop} : ∀ {vs : List Value} {bs : List α}, PySem.W.EachIs R vs bs → Paired (fun b v => R v b) bs vs
  | _, _, .nil => .nil
  | _, _, .cons h t => .cons h (of_each t)
def rSortedD (K : PySem.W.Frag) : List V → Hp → VK → Prop := fun vs H Q => ∃ (a : Addr) (xs : List V) (D : V → PyData), vs = [V.ref a] ∧ SqL K H a xs ∧ (∀ x ∈ xs, Dp K H x (D x)) ∧ PySem.W.AllAlike (xs.map D) ∧ PySem.W.Sortable (xs.map D) ∧ (∀ x ∈ xs, (D x).depth ≤ 40) ∧
  ∀ (ys : List V) (p : Addr), ys.Perm xs → ys = xs.mergeSort (PySem.W.dataLe false D) → H p = none → Q (.ref p) (upd H p (.lst ys))
theorem cr_sortedD (hu : X.A.units + 64 < cLine) : CallR X (.builtin "sorted") (rSortedD X.K) := by
  intro pins s σ H vs us Q I r h
  obtain ⟨a, xs, D, rfl, hs, hd, al, sb, dp, q⟩ := h
  obtain ⟨its, rv, pl, hz⟩ := I.list hs
  rw [Vals.ref1 r]
  have rd : ∀ {xs : List V} {its : List Value}, Vals xs its → (∀ x ∈ xs, Dp X.K H x (D x)) → Paired (fun b v => ∃ as, Reads s.heap v (D b) as) xs its := fun {xs its} rv => by
    induction rv with
    | nil => exact fun _ => .nil
    | cons r t ih => exact fun hd => .cons (Dp.reads I _ _ _ (hd _ (List.mem_cons_self ..)) r) (ih fun x hx => hd x (List.mem_cons_of_mem _ hx))
  refine PySem.W.sorted_data (R := fun v x => RelV x v) (enc := D) (bs := xs) (vs := its) pl.isList (each_of rv) (each_of (rd rv hd)) al sb (by have := rv.length; omega) (fun b hb => by have := dp b hb; omega) fun out len e => ?_
  have rv2 : Vals (xs.mergeSort (PySem.W.dataLe false D)) out := of_each e
  obtain ⟨c, hc⟩ := PyProof.Rows.sortedAll_at s.heap its out.toArray
  have hz2 : s.heap.objs.size ≤ s.heap.objs.size + 1 := Nat.le_succ _
  have hn : H (s.heap.objs.size + 1) = none := I.hok.fresh hz2
  have hl2 : (xs.mergeSort (PySem.W.dataLe false D)).length ≤ sizeLine := by rw [List.length_mergeSort]; have := rv.length; omega
  exact ⟨.ref (s.heap.objs.size + 1), _, I.laid (t' := s.toks) (o := .lst (xs.mergeSort (PySem.W.dataLe false D))) (fun _ _ => PyProof.Rows.sortedAll_old) hz2 ⟨hl2, out, c, rv2, hc⟩, rfl, q _ _ (List.mergeSort_perm ..) rfl hn⟩
/-! ### min of data of any kind that compare: one of the items -/
def rMinW (K : PySem.W.Frag) : List V → Hp → VK → Prop := fun vs H Q => ∃ (a : Addr) (xs : List V) (D : V → PyData), vs = [V.ref a] ∧ SqL K H a xs ∧ (∀ x ∈ xs, Dp K H x (D x)) ∧ PySem.W.AlikeAll (xs.map D) ∧ PyData.depthAll (xs.map D) ≤ 40 ∧ 0 < xs.length ∧ ∀ x ∈ xs, Q x H
theorem dpl_of {K : PySem.W.Frag} {H : Hp} {D : V → PyData} : ∀ xs : List V, (∀ x ∈ xs, Dp K H x (D x)) → DpAll K H xs (xs.map D)
  | [], _ => .nil
  | x :: r, h => .cons (h x (List.mem_cons_self ..)) (dpl_of r fun y hy => h y (List.mem_cons_of_mem _ hy))
theorem cr_minW (hc : X.calm = true) (hu : X.A.units + 64 < cLine) : CallR X (.builtin "min") (rMinW X.K) := by
  intro pins s σ H vs us Q I r h
  obtain ⟨a, xs, D, rfl, hs, hd, al, dp, h0, q⟩ := h
  obtain ⟨its, rv, pl, _⟩ := I.list hs
  rw [Vals.ref1 r]
  cases xs with
  | nil => exact absurd h0 (by decide)
  | cons x0 xr =>
    obtain ⟨as, rd⟩ := Dp.readsAll I _ _ its (dpl_of _ hd) rv
    refine PySem.W.min_list_data (x := D x0) (xs := xr.map D) (I.ok.hd hc) pl.isList (by simpa using rd) al (by
      have e : PyData.depthAll (D x0 :: xr.map D) ≤ 40 := dp
      omega) (fun i v g tk bs hv rr kp => ?_)
    have hv : its[i]? = some v := by simpa using hv
    have hil : i < its.length := (List.getElem?_eq_some_iff.mp hv).1
    have hxl : i < (x0 :: xr).length := by rw [rv.length]; exact hil
    obtain ⟨u, e1, e2⟩ := rv.get (List.getElem?_eq_getElem hxl)
    rw [hv] at e1
    cases e1
    exact ⟨_, H, I.kept kp, e2, q _ (List.getElem_mem hxl)⟩
end
end Ph

namespace Ph
open PySem PySem.Spec PyProof.Rows L2 PySem.Calls
section
variable {X : Cx}
/-- d.pop(k), there -/
def rDPop : V → List V → Hp → VK → Prop := fun x vs H Q => ∃ (a : Addr) (kvs : List (Key × V)) (k : Key) (v : V), x = .ref a ∧ vs = [kV k] ∧ H a = some (.dK kvs) ∧ valV kvs k = some v ∧ Q v (upd H a (.dK (dropK kvs k)))
theorem mtd_pop : MtR X "dict.pop" rDPop := by
  intro pins s σ H x vs v us Q I rx rv h
  obtain ⟨a, kvs, k, y, rfl, rfl, ea, hv, q⟩ := h
  cases rx
  obtain ⟨u, rfl, ru⟩ := rv.one
  exact d_pop (more := []) I ea ru hv (.inl rfl) fun w' s' I' r' => ⟨y, _, I', r', q⟩
end
theorem valV_drop {kvs : List (Key × V)} {k j : Key} : valV (dropK kvs k) j = if j = k then none else valV kvs j := by
  unfold valV dropK
  induction kvs with
  | nil => simp
  | cons p r ih =>
    by_cases h : p.1 = k
    · rw [List.filter_cons_of_neg (by simp [h]), ih]
      by_cases h2 : j = k
      · rw [if_pos h2, if_pos h2]
      · rw [if_neg h2, if_neg h2, List.find?_cons_of_neg (by simpa [h] using fun z => h2 z.symm)]
    · rw [List.filter_cons_of_pos (by simpa using h)]
      by_cases h3 : p.1 = j
      · have h2 : ¬ j = k := fun z => h (h3.trans z)
        rw [if_neg h2, List.find?_cons_of_pos (by simpa using h3), List.find?_cons_of_pos (by simpa using h3)]
      · rw [List.find?_cons_of_neg (by simpa using h3), List.find?_cons_of_neg (by simpa using h3)]
        exact ih
/-- which ints are keys behind a pop -/
theorem hasI_drop {kvs : List (Key × V)} {a i : Int} : hasI (dropK kvs (Sum.inl a)) i = (hasI kvs i && decide (i ≠ a)) := by
  unfold hasI
  rw [valV_drop]
  by_cases h : i = a
  · subst h
    simp
  · rw [if_neg (by simpa using h)]
    simp [h]
/-! ### keys without doubles, and how many there are -/
def KNd (kvs : List (Key × V)) : Prop := (kvs.map (·.1)).Nodup
theorem KNd.drop {kvs : List (Key × V)} (h : KNd kvs) (k : Key) : KNd (dropK kvs k) := h.sublist (List.filter_sublist.map _)
theorem KNd.drop_len {kvs : List (Key × V)} {k : Key} : KNd kvs → (valV kvs k).isSome = true → (dropK kvs k).length + 1 = kvs.length := by
  unfold KNd valV dropK
  induction kvs with
  | nil => intro _ h; simp at h
  | cons p r ih =>
    intro nd h
    obtain ⟨n1, n2⟩ := List.nodup_cons.mp nd
    by_cases e : p.1 = k
    · have none : (r.filter fun kv => decide (kv.1 ≠ k)) = r := List.filter_eq_self.mpr fun kv hkv => decide_eq_true fun z => n1 (by show p.1 ∈ _; rw [e, ← z]; exact List.mem_map.mpr ⟨kv, hkv, rfl⟩)
      rw [List.filter_cons_of_neg (by simp [e]), none, List.length_cons]
    · rw [List.find?_cons_of_neg (by simpa using e)] at h
      rw [List.filter_cons_of_pos (by simpa using e), List.length_cons, List.length_cons, ih n2 h]
theorem KNd.put {kvs : List (Key × V)} {k : Key} {v : V} (h : KNd kvs) (n : valV kvs k = none) : KNd (putK kvs k v) ∧ (putK kvs k v).length = kvs.length + 1 := by
  rw [putK_new v n]
  refine ⟨?_, by rw [List.length_append]; rfl⟩
  unfold KNd at h ⊢
  rw [List.map_append]
  refine List.nodup_append.mpr ⟨h, by simp, fun a ha b hb z => ?_⟩
  rw [List.map_cons, List.map_nil, List.mem_singleton] at hb
  subst z
  obtain ⟨kv, hkv, e⟩ := List.mem_map.mp ha
  unfold valV at n
  rw [Option.map_eq_none_iff] at n
  have := List.find?_eq_none.mp n kv hkv
  simp [e, hb] at this
theorem KNd.merge : ∀ {more kvs : List (Key × V)}, KNd kvs → KNd more → (∀ kv ∈ more, valV kvs kv.1 = none) → KNd (mergeK kvs more) ∧ (mergeK kvs more).length = kvs.length + more.length
  | [], kvs, h, _, _ => ⟨h, rfl⟩
  | kv :: r, kvs, h, hm, hn => by
    have hm' : (kv.1 :: r.map (·.1)).Nodup := hm
    obtain ⟨n1, n2⟩ := List.nodup_cons.mp hm'
    obtain ⟨p1, p2⟩ := h.put (v := kv.2) (hn kv (List.mem_cons_self ..))
    obtain ⟨m1, m2⟩ := KNd.merge (more := r) p1 n2 fun kv' h' => by
      rw [valV_put, if_neg (fun z => n1 (by rw [← z]; exact List.mem_map.mpr ⟨kv', h', rfl⟩))]
      exact hn kv' (List.mem_cons_of_mem _ h')
    refine ⟨m1, ?_⟩
    show (mergeK (putK kvs kv.1 kv.2) r).length = _
    rw [m2, p2, List.length_cons]
    omega
end Ph

namespace Ph
open PySem PySem.Spec PyProof.Rows L2
section
variable {X : Cx}
/-- a dict != {} -/
def rNeE : R2 := fun x y H Q => ∃ a b ks, x = .ref a ∧ y = .ref b ∧ H a = some (.dK ks) ∧ H b = some (.dK []) ∧ Q (.bl (decide (ks ≠ []))) H
theorem op_neE (hu : X.A.units < cLine) : OpR X (compareOp .NotEq) rNeE := by
  intro pins s σ H x y v u Q I rx ry h
  obtain ⟨a, b, ks, rfl, rfl, ea, eb, q⟩ := h
  obtain rfl : v = Value.ref a := rx
  obtain rfl : u = Value.ref b := ry
  obtain ⟨_, ya, va, ra, da⟩ := (show ObjOk X.prog X.w H s.heap a (.dK ks) from I.hok a _ ea)
  obtain ⟨_, yb, vb, rb, db⟩ := (show ObjOk X.prog X.w H s.heap b (.dK []) from I.hok b _ eb)
  have lb : vb.length = 0 := by rw [← rb.length]; rfl
  refine PySem.W.keq_ne (knd := mixKind X.prog X.w) (r := true) ya yb da db hu (fun e => hits_all rb ra ?_) (fin_bl I q ?_)
  · have : ks = [] := List.length_eq_zero_iff.mp (by rw [ra.length, e, lb])
    subst this
    intro p hp
    cases hp
  · rw [← ra.length, lb]
    cases ks <;> simp
/-- sorted(dict) with ints as keys, any number -/
theorem call_sortedDW (hcalm : X.calm = true) : CallR X (.builtin "sorted") (fun xs H Q => ∃ (a : Addr) (kvs : List (Key × V)) (ks : List Int), xs = [.ref a] ∧ Rd H a (.dK kvs) ∧ kvs.map (·.1) = ks.map Sum.inl ∧ ks.length ≤ 5000 ∧
    ∀ (ys : List Int) (p : Addr), ys.Perm ks → ys.Pairwise (· ≤ ·) → H p = none → Q (.ref p) (upd H p (.lst (ys.map V.int)))) := by
  intro pins s σ H xs us Q I r q
  obtain ⟨a, kvs, ks, ex, hd, hks, h64, q⟩ := q
  subst ex
  obtain ⟨u, eu, rx⟩ := vals1 r
  subst eu
  cases rx
  obtain ⟨z, lo, vs, rel, dd⟩ := dk_rd I.hok hd
  obtain ⟨ep, hat⟩ := dd.dictAt
  have hkeys : vs.map (·.1) = ks.map Sum.inl := rel.keys.symm.trans hks
  have hl : vs.length = ks.length := by
    have e := congrArg List.length hkeys
    rw [List.length_map, List.length_map] at e
    exact e
  have k5 : ks.length ≤ sizeLine := Nat.le_trans h64 (by decide)
  have h16 : vs.length ≤ sizeLine := by rw [hl]; exact k5
  refine Calls.call_function_entry PyProof.Rows.kind_sorted PyProof.Rows.plain_sorted PyProof.Rows.entry_sorted (PyProof.Rows.args_sorted1 _) ?_
  unfold Builtin.«sorted»
  refine wpAny_bind (m := checkCount "sorted" 1 1 _) (wpAny_pure ?_)
  refine wpAny_bind (PySem.W.kdu_collect (A := X.A.in1) (PySem.W.kdl_dict (knd := mixKind X.prog X.w) (kvs := vs) (ep := ep) lo) (I.ok.hd hcalm) hat h16 fun h' tk acc hk hacc => ?_)
  have hal : acc.toList.length = ks.length := by rw [Array.length_toList, hacc.1, hl]
  have hS : IntsAre acc.toList ks := ints_each hal fun j v e => by
    obtain ⟨k, x, e1, e2⟩ := hacc.2 j v (by rw [← Array.getElem?_toList]; exact e)
    have e3 : (vs.map (·.1))[j]? = some k := by rw [List.getElem?_map, e1]; rfl
    rw [hkeys, List.getElem?_map] at e3
    cases e4 : ks[j]? with
    | none => rw [e4] at e3; cases e3
    | some y =>
      rw [e4] at e3
      have e5 : Sum.inl y = k := Option.some.inj e3
      subst e5
      rcases keyIs_shape (show keyIs (Sum.inl y) v = true from e2) with ⟨i, t, ek, ev⟩ | ⟨z, t, ek, ev⟩
      · cases ek
        exact ⟨y, t, rfl, ev⟩
      · cases ek
  have I1 : Inv X pins σ H { s with heap := h', toks := tk } := I.kept hk
  have few : acc.toList.length ≤ sizeLine := by rw [hal]; exact k5
  refine wpAny_bind (wpAny_newList ?_ few)
  have hoL : (h'.push (seqObj "list" acc.toList.toArray 0)).get? h'.objs.size = some (seqObj "list" acc.toList.toArray 0) := Heap.get?_push_size _ rfl
  show wpAny _ _ _ _ _ { s with heap := h'.push (seqObj "list" acc.toList.toArray 0), toks := tk }
  refine wpAny_bind (wpAny_holding (wpAny_call_entry PyProof.Rows.slot_list_sort ⟨_, hoL, rfl⟩ PyProof.Rows.entry_list_sort (SrtO.list_sort_ord (s := { s with heap := h'.push (seqObj "list" acc.toList.toArray 0), toks := tk }) SrtO.swo_int hoL few (fun h2 => SrtO.ints_sortable hS h2) fun out b1 b2 => ⟨_, rfl, ?_⟩) (PyProof.Rows.args_list_sort _)))
  obtain ⟨g1, g2, g3⟩ := SrtO.ints_out hS b1 b2
  obtain ⟨e', he'⟩ := PyProof.Rows.sortedHeap_at (vs := acc.toList) (out := out.toArray) hoL
  have hlen : ((out.map SrtO.iv).map V.int).length ≤ sizeLine := by
    rw [List.length_map, g2.length_eq]
    exact k5
  refine wpAny_pure ⟨_, rfl, .ref h'.objs.size, upd H h'.objs.size (.lst ((out.map SrtO.iv).map V.int)), I1.laid (t' := tk) (fun b u e => ?_) (Nat.le_refl _)
    (show ObjOk X.prog X.w _ _ _ (.lst ((out.map SrtO.iv).map V.int)) from ⟨hlen, out, e', vals_of_ints g1, he'⟩), rfl, q _ _ g2 g3 (I1.hok.fresh (Nat.le_refl _))⟩
  have hb : b < h'.objs.size := Heap.lt_size e
  rw [PyProof.Rows.sortedHeap_old (Nat.ne_of_lt hb) (by rw [size_push']; exact Nat.lt_succ_of_lt hb)]
  exact Heap.get?_push_of_some _ e
end
theorem il_nil (zs : List Int) : PyData.eqv (.list (zs.map PyData.int)) (.list []) = decide (zs = []) := by
  cases zs with
  | nil => simp [PyData.eqv, PyData.eqvAll]
  | cons z r => simp [PyData.eqv, PyData.eqvAll]
/-! ### blocks held in a dict: start, size -/
def kvh (ls : List Bk) : List (Key × V) := ls.map fun e => (Sum.inl e.1, V.int e.2)
theorem kvh_keys (ls : List Bk) : (kvh ls).map (·.1) = (ls.map fun e => e.1).map Sum.inl := by
  unfold kvh
  rw [List.map_map, List.map_map]
  rfl
theorem kvh_len (ls : List Bk) : (kvh ls).length = ls.length := by unfold kvh; rw [List.length_map]
theorem kvh_none {a : Int} : ∀ {ls : List Bk}, (∀ e ∈ ls, e.1 ≠ a) → valV (kvh ls) (Sum.inl a) = none
  | [], _ => rfl
  | e :: r, h => by
    have h1 := h e (List.mem_cons_self ..)
    have ih := kvh_none (a := a) (ls := r) fun x hx => h x (List.mem_cons_of_mem _ hx)
    show valV ((Sum.inl e.1, V.int _) :: kvh r) (Sum.inl a) = none
    unfold valV at ih ⊢
    rw [List.find?_cons_of_neg (by simpa using h1)]
    exact ih
theorem kvh_at {e : Bk} : ∀ {ls : List Bk}, ls.Pairwise (fun x y => x.1 ≠ y.1) → e ∈ ls → valV (kvh ls) (Sum.inl e.1) = some (V.int e.2)
  | x :: r, pw, h => by
    obtain ⟨p1, p2⟩ := List.pairwise_cons.mp pw
    rcases List.mem_cons.mp h with h | h
    · subst h
      show valV ((Sum.inl e.1, V.int _) :: kvh r) (Sum.inl e.1) = _
      exact valV_pos rfl
    · have ih := kvh_at p2 h
      have ne := p1 e h
      show valV ((Sum.inl x.1, V.int _) :: kvh r) (Sum.inl e.1) = _
      unfold valV at ih ⊢
      rw [List.find?_cons_of_neg (by simpa using ne)]
      exact ih
theorem kvh_put {ls : List Bk} {a m : Int} (h : ∀ e ∈ ls, e.1 ≠ a) : putK (kvh ls) (Sum.inl a) (V.int m) = kvh (ls ++ [(a, m)]) := by
  rw [putK_new _ (kvh_none h)]
  unfold kvh
  rw [List.map_append]
  rfl
theorem kvh_drop (ls : List Bk) (a : Int) : dropK (kvh ls) (Sum.inl a) = kvh (ls.filter fun b => decide (b.1 ≠ a)) := by
  unfold dropK kvh
  induction ls with
  | nil => rfl
  | cons e r ih =>
    rw [List.map_cons]
    by_cases h : e.1 = a
    · rw [List.filter_cons_of_neg (by simp [h]), List.filter_cons_of_neg (by simp [h]), ih]
    · rw [List.filter_cons_of_pos (by simp [h]), List.filter_cons_of_pos (by simp [h]), ih]
      rfl
end Ph

/-! PhDr2: repr of data with dicts; only the dicts themselves must not be sys.modules. -/
namespace Ph
open PySem PySem.Spec PyProof.Rows L2
section
variable (P : Program) (w : World) (h : Heap)
/-- u holds d, and shows it within other data -/
def Sh1 (u : Value) (d : PyData) : Prop := (∃ as, Reads h u d as) ∧ (d.showable = true → d.shown.length ≤ sizeLine → ∃ bs, ReadAtMost h d.depth bs ∧ ReprK P w bs h d.depth u d.shown)
def ShA (us : List Value) (ds : List PyData) : Prop := (∃ as, ReadsAll h us ds as) ∧
  (PyData.showableAll ds = true → (∀ t ∈ PyData.shownAll ds, t.length ≤ sizeLine) → ∃ bs, ReadAtMost h (PyData.depthAll ds) bs ∧ ReprAllK P w bs h (PyData.depthAll ds) us (PyData.shownAll ds))
/-- repr(u) -/
def Top (u : Value) (d : PyData) : Prop := ∀ (A : Around) (E : Value → Shared → Prop) (s : Shared) (Q : Value → Shared → Prop), A.guards = some [] → A.units + (d.depth + 1) < cLine → (∀ b o, h.get? b = some o → s.heap.get? b = some o) →
  (∀ h' t k, (∀ b o, s.heap.get? b = some o → h'.get? b = some o) → Q (.str d.shown t) { s with heap := h', toks := k }) → wpAny (model P w) A (call (.builtin "repr") [u]) Q E s
end
section
variable {P : Program} {w : World} {h : Heap}
theorem ShA.nil : ShA P w h [] [] := ⟨⟨_, .nil⟩, fun _ _ => ⟨[], (fun _ z => nomatch z), by simp only [PyData.shownAll]; exact .nil⟩⟩
theorem ShA.cons {u : Value} {us : List Value} {d : PyData} {ds : List PyData} (x : Sh1 P w h u d) (y : ShA P w h us ds) : ShA P w h (u :: us) (d :: ds) := by
  obtain ⟨⟨as, ra⟩, sa⟩ := x
  obtain ⟨⟨bs, rb⟩, sb⟩ := y
  refine ⟨⟨_, .cons ra rb⟩, fun s1 s2 => ?_⟩
  rw [PyData.showableAll, Bool.and_eq_true] at s1
  rw [PyData.shownAll] at s2
  obtain ⟨b1, r1, k1⟩ := sa s1.1 (s2 _ (List.mem_cons_self ..))
  obtain ⟨b2, r2, k2⟩ := sb s1.2 fun t ht => s2 t (List.mem_cons_of_mem _ ht)
  rw [PyData.shownAll, PyData.depthAll]
  refine ⟨b1 ++ b2, (r1.mono (Nat.le_max_left ..)).append (r2.mono (Nat.le_max_right ..)), .cons ?_ ?_⟩
  · exact (k1.more fun b z => List.mem_append_left _ z).level_le (Nat.le_max_left ..)
  · exact k2.more_le (fun b z => List.mem_append_right _ z) (Nat.le_max_right ..)
theorem lst_rd {a : Addr} {o : Obj} {its : List Value} {n : Nat} {ds : List PyData} (ho : h.get? a = some o) (hc : o.cls = .type "list") (hd : o.data = .seq its.toArray n) (x : ShA P w h its ds) : ∃ as, Reads h (.ref a) (.list ds) as := by
  obtain ⟨⟨as, r⟩, _⟩ := x
  exact ⟨_, .list ho hc hd r⟩
theorem sh_lst {a : Addr} {o : Obj} {its : List Value} {n : Nat} {ds : List PyData} (ho : h.get? a = some o) (hc : o.cls = .type "list") (hd : o.data = .seq its.toArray n) (x : ShA P w h its ds) :
    Sh1 P w h (.ref a) (.list ds) ∧ ((PyData.list ds).showable = true → (PyData.list ds).shown.length ≤ sizeLine → Top P w h (.ref a) (.list ds)) := by
  have rr := lst_rd ho hc hd x
  have get : (PyData.list ds).showable = true → (PyData.list ds).shown.length ≤ sizeLine → ∃ bs, ReadAtMost h (PyData.depthAll ds) bs ∧ a ∉ bs ∧ ReprAllK P w bs h (PyData.depthAll ds) its (PyData.shownAll ds) := fun s1 s2 => by
    rw [PyData.showable] at s1
    rw [PyData.shown] at s2
    obtain ⟨bs, b1, k⟩ := x.2 s1 fun t ht => Nat.le_trans (listText_mem_le ht) s2
    obtain ⟨as, r⟩ := rr
    exact ⟨bs, b1, not_mem_of_deeper r (by rw [PyData.depth]; omega) b1, k⟩
  refine ⟨⟨rr, fun s1 s2 => ?_⟩, fun s1 s2 => ?_⟩
  · obtain ⟨bs, b1, na, k⟩ := get s1 s2
    obtain ⟨as, r⟩ := rr
    refine ⟨a :: bs, ReadAtMost.cons r (by rw [PyData.depth]; omega) b1, ?_⟩
    rw [PyData.depth, PyData.shown]
    cases its with
    | nil =>
      have e : PyData.shownAll ds = [] := by
        have := k.length_eq
        exact List.length_eq_zero_iff.mp this
      rw [e, listText_nil]
      exact ReprK.listEmpty ho hc hd
    | cons y l => exact ReprK.list ho hc hd na (by have := k.length_eq; simpa using this) fun i z e => k.item i z (by simpa using e)
  · intro A E s Q hg hu kp hQ
    obtain ⟨bs, b1, na, k⟩ := get s1 s2
    rw [PyData.shown] at s2 hQ
    rw [PyData.depth] at hu
    refine call_repr_slot (by omega) (T := "list") ⟨o, kp _ _ ho, hc⟩ F.slot_list_repr.toG ?_
    cases its with
    | nil =>
      have e : PyData.shownAll ds = [] := by
        have := k.length_eq
        exact List.length_eq_zero_iff.mp this
      rw [e, listText_nil] at hQ
      exact call_list_repr_empty ⟨o, kp _ _ ho, hc⟩ (kp _ _ ho) hd ⟨_, _, rfl, hQ s.heap _ _ fun _ _ z => z⟩
    | cons y l =>
      exact call_list_reprK ho hc hd na (by have := k.length_eq; simpa using this) (fun i z e => k.item i z (by simpa using e)) hg (fun b _ => Clear.nil b) (by show A.units + 1 + (PyData.depthAll ds + 1) < cLine; omega) kp (fun h' t q z => ⟨_, _, rfl, hQ h' t q z⟩) s2
theorem sh_tup {a : Addr} {o : Obj} {its : Array Value} {n : Nat} {ds : List PyData} (ho : h.get? a = some o) (hc : o.cls = .type "tuple") (hd : o.data = .seq its n) (x : ShA P w h its.toList ds) :
    Sh1 P w h (.ref a) (.tuple ds) ∧ ((PyData.tuple ds).showable = true → (PyData.tuple ds).shown.length ≤ sizeLine → Top P w h (.ref a) (.tuple ds)) := by
  obtain ⟨as, r0⟩ := x.1
  have r : Reads h (.ref a) (.tuple ds) as := .tuple ho hc hd r0
  have get : (PyData.tuple ds).showable = true → (PyData.tuple ds).shown.length ≤ sizeLine → ∃ bs, ReadAtMost h (PyData.depthAll ds) bs ∧ a ∉ bs ∧ ReprAllK P w bs h (PyData.depthAll ds) its.toList (PyData.shownAll ds) := fun s1 s2 => by
    rw [PyData.showable] at s1
    rw [PyData.shown] at s2
    obtain ⟨bs, b1, k⟩ := x.2 s1 fun t ht => Nat.le_trans (tupleText_mem_le ht) s2
    exact ⟨bs, b1, not_mem_of_deeper r (by rw [PyData.depth]; omega) b1, k⟩
  refine ⟨⟨⟨_, r⟩, fun s1 s2 => ?_⟩, fun s1 s2 A E s Q hg hu kp hQ => ?_⟩
  · obtain ⟨bs, b1, na, k⟩ := get s1 s2
    refine ⟨a :: bs, ReadAtMost.cons r (by rw [PyData.depth]; omega) b1, ?_⟩
    rw [PyData.depth, PyData.shown]
    exact ReprK.tuple ho hc hd na k
  · obtain ⟨bs, b1, na, k⟩ := get s1 s2
    rw [PyData.shown] at s2 hQ
    rw [PyData.depth] at hu
    refine call_repr_slot (by omega) (T := "tuple") ⟨o, kp _ _ ho, hc⟩ F.slot_tuple_repr ?_
    exact call_tuple_reprK ho hc hd na k hg (fun b _ => Clear.nil b) (by show A.units + 1 + (PyData.depthAll ds + 1) < cLine; omega) kp (fun h' t q z => ⟨_, _, rfl, hQ h' t q z⟩) s2
theorem sh_dct {a : Addr} {o : Obj} {es : Array DictEntry} {n : Nat} {D : List (PyData × PyData)} (ho : h.get? a = some o) (hc : o.cls = .type "dict") (hd : o.data = .dict es n) (ne : (a == sysModules) = false)
    (x : ShA P w h (es.toList.map (·.key)) (D.map (·.1))) (y : ShA P w h (es.toList.map (·.val)) (D.map (·.2))) :
    Sh1 P w h (.ref a) (.dict D) ∧ ((PyData.dict D).showable = true → (PyData.dict D).shown.length ≤ sizeLine → Top P w h (.ref a) (.dict D)) := by
  obtain ⟨a1, r1⟩ := x.1
  obtain ⟨a2, r2⟩ := y.1
  have r : Reads h (.ref a) (.dict D) _ := .dict ho hc hd r1 r2
  have get : (PyData.dict D).showable = true → (PyData.dict D).shown.length ≤ sizeLine → ∃ bs, ReadAtMost h (PyData.depthKv D) bs ∧ a ∉ bs ∧ ReprEntriesK P w bs h (PyData.depthKv D) es.toList (PyData.shownKv D) := fun s1 s2 => by
    rw [PyData.showable] at s1
    rw [PyData.shown] at s2
    obtain ⟨q1, q2⟩ := PyData.showableKv_split D s1
    obtain ⟨b1, m1, k1⟩ := x.2 q1 fun t ht => by
      obtain ⟨p, hp, l⟩ := PyData.shownKv_key_le D t ht
      exact Nat.le_trans l (Nat.le_trans (dictText_mem_le hp) s2)
    obtain ⟨b2, m2, k2⟩ := y.2 q2 fun t ht => by
      obtain ⟨p, hp, l⟩ := PyData.shownKv_val_le D t ht
      exact Nat.le_trans l (Nat.le_trans (dictText_mem_le hp) s2)
    have m := (m1.mono (PyData.depthAll_keys_le D)).append (m2.mono (PyData.depthAll_vals_le D))
    refine ⟨b1 ++ b2, m, not_mem_of_deeper r (by rw [PyData.depth]; omega) m, ?_⟩
    rw [PyData.shownKv_eq]
    refine ReprEntriesK.of_two es.toList _ _ ?_ ?_
    · exact k1.more_le (fun b z => List.mem_append_left _ z) (PyData.depthAll_keys_le D)
    · exact k2.more_le (fun b z => List.mem_append_right _ z) (PyData.depthAll_vals_le D)
  refine ⟨⟨⟨_, r⟩, fun s1 s2 => ?_⟩, fun s1 s2 A E s Q hg hu kp hQ => ?_⟩
  · obtain ⟨bs, b1, na, k⟩ := get s1 s2
    refine ⟨a :: bs, ReadAtMost.cons r (by rw [PyData.depth]; omega) b1, ?_⟩
    rw [PyData.depth, PyData.shown]
    exact ReprK.dict ho hc hd ne na k
  · obtain ⟨bs, b1, na, k⟩ := get s1 s2
    rw [PyData.shown] at s2 hQ
    rw [PyData.depth] at hu
    refine call_repr_slot (by omega) (T := "dict") ⟨o, kp _ _ ho, hc⟩ F.slot_dict_repr ?_
    exact call_dict_reprK ho hc hd ne na k hg (fun b _ => Clear.nil b) (by show A.units + 1 + (PyData.depthKv D + 1) < cLine; omega) kp (fun h' t q z => ⟨_, _, rfl, hQ h' t q z⟩) s2
end
end Ph

/-! PhDk: data with dicts (keys: ints and texts): read off the heap, and repr of it. -/
namespace Ph
open PySem PySem.Spec PyProof.Rows L2
def keyD : Key → PyData
  | .inl i => .int i
  | .inr x => .str x
mutual
inductive Dq (K : PySem.W.Frag) (H : Hp) : V → PyData → Prop
  | non : Dq K H .non .none
  | bl (b : Bool) : Dq K H (.bl b) (.bool b)
  | int (i : Int) : Dq K H (.int i) (.int i)
  | str (x : Str) : Dq K H (.str x) (.str x)
  | lst {a : Addr} {xs : List V} {ds : List PyData} (hs : SqL K H a xs) (ha : DqAll K H xs ds) : Dq K H (.ref a) (.list ds)
  | tup {a : Addr} {xs : List V} {ds : List PyData} (hs : SqT K H a xs) (ha : DqAll K H xs ds) : Dq K H (.ref a) (.tuple ds)
  | dct {a : Addr} {kvs : List (Key × V)} {ds : List (PyData × PyData)} (hs : Rd H a (.dK kvs)) (ha : DqKvs K H kvs ds) : Dq K H (.ref a) (.dict ds)
inductive DqAll (K : PySem.W.Frag) (H : Hp) : List V → List PyData → Prop
  | nil : DqAll K H [] []
  | cons {v : V} {vs : List V} {d : PyData} {ds : List PyData} (h : Dq K H v d) (r : DqAll K H vs ds) : DqAll K H (v :: vs) (d :: ds)
inductive DqKvs (K : PySem.W.Frag) (H : Hp) : List (Key × V) → List (PyData × PyData) → Prop
  | nil : DqKvs K H [] []
  | cons {k : Key} {v : V} {r : List (Key × V)} {d : PyData} {ds : List (PyData × PyData)} (h : Dq K H v d) (t : DqKvs K H r ds) : DqKvs K H ((k, v) :: r) ((keyD k, d) :: ds)
end
theorem sh_key {P : Program} {w : World} {h : Heap} (k : Key) (u : Value) (e : (mixKind P w).is k u = true) (hi : ∀ i, k = .inl i → (PyData.int i).showable = true → i.natAbs.log2 < 1920) : Sh1 P w h u (keyD k) := by
  rcases keyIs_shape e with ⟨i, t, rfl, rfl⟩ | ⟨x, t, rfl, rfl⟩
  · exact ⟨⟨_, .int i t⟩, fun s1 _ => ⟨[], (fun _ z => nomatch z), by simp only [keyD, PyData.shown]; exact .of_is (ReprIs.int t (hi i rfl s1)) _ _ _⟩⟩
  · exact ⟨⟨_, .str x t⟩, fun _ s2 => ⟨[], (fun _ z => nomatch z), by simp only [keyD, PyData.shown] at s2 ⊢; exact .of_is (ReprIs.str x t s2) _ _ _⟩⟩
theorem int_sh {i : Int} (h : (PyData.int i).showable = true) : i.natAbs.log2 < 1920 := by simpa [PyData.showable] using h
section
variable {X : Cx} {pins : List (Addr × Obj)} {σ : L2.St} {H : Hp} {s : Shared}
theorem Dq.sh (I : Inv X pins σ H s) {v : V} {d : PyData} (h : Dq X.K H v d) : ∀ u, RelV v u → Sh1 X.prog X.w s.heap u d ∧ ∀ a, v = .ref a → d.showable = true → d.shown.length ≤ sizeLine → Top X.prog X.w s.heap u d := by
  refine @Dq.rec X.K H (fun v d _ => ∀ u, RelV v u → Sh1 X.prog X.w s.heap u d ∧ ∀ a, v = .ref a → d.showable = true → d.shown.length ≤ sizeLine → Top X.prog X.w s.heap u d) (fun vs ds _ => ∀ us, Vals vs us → ShA X.prog X.w s.heap us ds)
    (fun kvs D _ => ∀ es us, Pairs (mixKind X.prog X.w) es us → KV kvs us → ShA X.prog X.w s.heap (es.map (·.key)) (D.map (·.1)) ∧ ShA X.prog X.w s.heap (es.map (·.val)) (D.map (·.2))) ?_ ?_ ?_ ?_ ?_ ?_ ?_ ?_ ?_ ?_ ?_ v d h
  · intro u r
    obtain rfl : u = Value.none := r
    exact ⟨⟨⟨_, .none⟩, fun _ _ => ⟨[], (fun _ z => nomatch z), by simp only [PyData.shown]; exact .of_is ReprIs.none _ _ _⟩⟩, fun a z => nomatch z⟩
  · intro b u r
    obtain rfl : u = Value.bool b := r
    exact ⟨⟨⟨_, .bool b⟩, fun _ _ => ⟨[], (fun _ z => nomatch z), by simp only [PyData.shown]; exact .of_is (ReprIs.bool b) _ _ _⟩⟩, fun a z => nomatch z⟩
  · rintro i u ⟨t, rfl⟩
    exact ⟨⟨⟨_, .int i t⟩, fun s1 _ => ⟨[], (fun _ z => nomatch z), by simp only [PyData.shown]; exact .of_is (ReprIs.int t (int_sh s1)) _ _ _⟩⟩, fun a z => nomatch z⟩
  · rintro x u ⟨t, rfl⟩
    exact ⟨⟨⟨_, .str x t⟩, fun _ s2 => ⟨[], (fun _ z => nomatch z), by simp only [PyData.shown] at s2 ⊢; exact .of_is (ReprIs.str x t s2) _ _ _⟩⟩, fun a z => nomatch z⟩
  · intro a xs ds hs _ ih u r
    obtain rfl : u = Value.ref a := r
    obtain ⟨its, rv, ⟨o, n, ho, hc, _, hd⟩, _⟩ := I.list hs
    obtain ⟨x1, x2⟩ := sh_lst ho hc hd (ih _ rv)
    exact ⟨x1, fun _ _ => x2⟩
  · intro a xs ds hs _ ih u r
    obtain rfl : u = Value.ref a := r
    obtain ⟨its, rv, ⟨o, ho, hc, n, hd⟩, _⟩ := I.tuple hs
    obtain ⟨x1, x2⟩ := sh_tup ho hc hd (by simpa using ih _ rv)
    exact ⟨x1, fun _ _ => x2⟩
  · intro a kvs D hs _ ih u r
    obtain rfl : u = Value.ref a := r
    obtain ⟨_, ne, vs, kv, o, es, ep, ho, hx, hdat, _, hp, _⟩ := hs.ok I.hok
    obtain ⟨k1, k2⟩ := ih _ _ hp kv
    obtain ⟨x1, x2⟩ := sh_dct ho hx.1 hdat ne k1 k2
    exact ⟨x1, fun _ _ => x2⟩
  · intro us r
    cases r
    exact .nil
  · intro v vs d ds _ _ i1 i2 us r
    cases r with
    | cons r1 r2 => exact .cons (i1 _ r1).1 (i2 _ r2)
  · intro es us p r
    cases r
    cases p
    exact ⟨.nil, .nil⟩
  · intro k v r d ds _ _ i1 i2 es us p rr
    cases rr with
    | @cons _ q _ _ r1 r2 =>
      obtain ⟨k', u⟩ := q
      obtain ⟨e, ru⟩ := r1
      obtain rfl : k = k' := e
      cases p with
      | cons hk hv p2 =>
        obtain ⟨j1, j2⟩ := i2 _ _ p2 r2
        refine ⟨.cons (sh_key k _ hk fun i _ z => int_sh z) j1, .cons ?_ j2⟩
        show Sh1 _ _ _ (DictEntry.val _) d
        rw [hv]
        exact (i1 _ ru).1
end
section
variable {X : Cx}
/-- repr(x), x any data -/
def rRqA (K : PySem.W.Frag) : List V → Hp → VK → Prop := fun xs H Q => ∃ (x : V) (d : PyData), xs = [x] ∧ Dq K H x d ∧ d.showable = true ∧ d.depth ≤ 60 ∧ d.shown.length ≤ sizeLine ∧ Q (.str d.shown) H
theorem call_rqA (hgu : X.A.guards = some []) (hu : X.A.units + 64 < cLine) : CallR X (.builtin "repr") (rRqA X.K) := by
  intro pins s σ H xs us Q I r h
  obtain ⟨x, d, rfl, dq, sh, dp, ln, q⟩ := h
  obtain ⟨u, rfl, ru⟩ := vals1 r
  have ref : ∀ a, x = .ref a → wpAny (model X.prog X.w) X.A (call (.builtin "repr") [u]) (EP X pins σ Q) X.xe s := fun a e =>
    (dq.sh I u ru).2 a e sh ln X.A X.xe s _ hgu (by omega) (fun _ _ z => z) fun h' t k keep => ⟨.str _, H, I.kept keep, ⟨_, rfl⟩, q⟩
  cases dq with
  | non =>
    obtain rfl : u = Value.none := ru
    exact P.repr_of_none ⟨.str _, H, I.tok _, ⟨_, rfl⟩, by simpa only [PyData.shown] using q⟩
  | bl b =>
    obtain rfl : u = Value.bool b := ru
    exact P.repr_of_bool ⟨.str _, H, I.tok _, ⟨_, rfl⟩, by simpa only [PyData.shown] using q⟩
  | int i =>
    obtain ⟨t, rfl⟩ := ru
    exact P.repr_of_int (int_sh sh) ⟨.str _, H, I.tok _, ⟨_, rfl⟩, by simpa only [PyData.shown] using q⟩
  | str y =>
    obtain ⟨t, rfl⟩ := ru
    exact P.repr_of_str ⟨.str _, H, I.tok _, ⟨_, rfl⟩, by simpa only [PyData.shown] using q⟩ (by simpa only [PyData.shown] using ln)
  | lst _ _ => exact ref _ rfl
  | tup _ _ => exact ref _ rfl
  | dct _ _ => exact ref _ rfl
end
end Ph

/-! PhDeq: a dict is never equal to a text. -/
namespace Ph
open PySem PySem.SeqAt
open AutoSeq1 (wpAny_loadPart')
open MeetsSeq
theorem dict_declines (l : Addr) (c : Value) (dt : Data) (dd : Option Addr) (sl : Array (Option Value)) (b : Str) (u : Tok) :
    Meets (Builtin.«dict.__eq__» ⟨[.ref l, .str b u], []⟩) (fun _ R s => s.heap.get? l = some { cls := c, dict := dd, data := dt, slots := sl } ∧ R (.ok (.ret .notImplemented)) s) :=
  .of_wp fun prog w A R s h => by obtain ⟨hp, g, d, tk, os⟩ := s; obtain ⟨hl, h⟩ := h; have f1 := F.sub_str_dict; wp_walk using wpAny_loadPart' hl; exact ⟨_, rfl, h⟩
theorem str_declines (b : Str) (u : Tok) (l : Addr) (c : Value) (ks : Array DictEntry) (n : Nat) (dd : Option Addr) (sl : Array (Option Value)) :
    Meets (Builtin.«str.__eq__» ⟨[.str b u, .ref l], []⟩) (fun _ R s => s.heap.get? l = some { cls := c, dict := dd, data := .dict ks n, slots := sl } ∧ R (.ok (.ret .notImplemented)) s) :=
  .of_wp fun prog w A R s h => by obtain ⟨hp, g, d, tk, os⟩ := s; obtain ⟨hl, h⟩ := h; wp_walk using wpAny_loadPart' hl, wpAny_load hl; exact ⟨_, rfl, h⟩
section
variable {A : Around} {s : Shared}
theorem eq_str_dict {l : Addr} {c : Value} {ks : Array DictEntry} {n : Nat} {dd : Option Addr} {sl : Array (Option Value)} (b : Str) (u : Tok) (ho : s.heap.get? l = some { cls := .type "dict", dict := dd, data := .dict ks n, slots := sl }) (hu : A.units < cLine) : EqAt A s (.str b u) (.ref l) false := fun prog w E Q h => by
  have rc : RcAt A s (.str b u) (.ref l) false := fun prog w E Q h =>
    rc_eq_decline_or (k := false) (typeIs_str s b u) ⟨_, ho, rfl⟩ (by decide) F.sub_dict_str F.slot_str_eq F.slot_dict_eq_refl
      (fun _ hq => call_meets F.slot_str_eq (typeIs_str s b u) F.entry_str_eq (F.args_str_eq_2 _ _) (str_declines b u l (.type "dict") ks n dd sl) ⟨ho, hq⟩)
      (fun _ hq => call_meets F.slot_dict_eq_refl ⟨_, ho, rfl⟩ F.entry_dict_eq (F.args_dict_eq_2 _ _) (dict_declines l (.type "dict") (.dict ks n) dd sl b u) ⟨ho, hq⟩)
      (fun _ hq => wpAny_of_eq (rfl : isSame (.str b u) (.ref l) = pure false) hq) (.inr hu) h
  unfold eqBool
  refine wpAny_holding ?_
  refine wpAny_ite_split (fun hab => absurd (eq_of_beq hab) nofun) (fun _ => ?_)
  exact wpAny_bind (rc prog w E _ (wpAny_truthy_bool h))
end
open PySem.Spec PyProof.Rows L2
section
variable {X : Cx}
theorem vals_strs {f : Str → Bool} : ∀ {ss : List Str} {its : List Value}, Vals (ss.map V.str) its → (∀ y ∈ its, ∃ z t, y = .str z t) ∧ (its.any fun y => match y with | .str z _ => f z | _ => false) = ss.any f
  | [], its, h => by cases h; exact ⟨(fun _ z => nomatch z), rfl⟩
  | z :: r, _, h => by
    cases h with
    | cons h1 h2 =>
      obtain ⟨t, rfl⟩ := h1
      obtain ⟨i1, i2⟩ := vals_strs (f := f) h2
      refine ⟨fun y hy => ?_, ?_⟩
      · rcases List.mem_cons.mp hy with e | e
        · exact ⟨z, t, e⟩
        · exact i1 y e
      · simp only [List.any_cons, i2]
/-- x in t, t a tuple of texts, x any data -/
def rInW (K : PySem.W.Frag) : R2 := fun x y H Q => ∃ d t, ∃ ss : List Str, y = .ref t ∧ Dq K H x d ∧ SqT K H t (ss.map V.str) ∧ Q (.bl (ss.any fun s => decide (x = V.str s))) H
theorem op_inW (hu : X.A.units + 1 < cLine) : OpR X (compareOp .In) (rInW X.K) := by
  intro pins s σ H x y v u Q I rx ry h
  obtain ⟨d, t, ss, rfl, dx, st, q⟩ := h
  obtain rfl : u = Value.ref t := ry
  obtain ⟨its, rv, p, _⟩ := I.tuple st
  have hu1 : X.A.in1.units < cLine := hu
  have key : ∀ z t', EqAt X.A.in1 s (.str z t') v (decide (x = V.str z)) := fun z t' => by
    cases dx with
    | non => obtain rfl : v = Value.none := rx; exact EqAt.str_none z t'
    | bl b => obtain rfl : v = Value.bool b := rx; exact EqAt.str_bool z t' b
    | int i => obtain ⟨t2, rfl⟩ := rx; exact EqAt.str_int z t' i t2
    | str y => 
      obtain ⟨t2, rfl⟩ := rx
      have e : (z == y) = decide (V.str y = V.str z) := by
        by_cases c : z = y
        · subst c; simp
        · have : ¬ (V.str y = V.str z) := fun w => c (by cases w; rfl)
          simp [c, this]
      exact e ▸ EqAt.str_str z t' y t2
    | @lst a xs ds hs ha =>
      obtain rfl : v = Value.ref a := rx
      obtain ⟨its, _, p, _⟩ := I.list hs
      exact EqAt.str_list z t' p.isList hu1
    | @tup a xs ds hs ha =>
      obtain rfl : v = Value.ref a := rx
      obtain ⟨its, _, p, _⟩ := I.tuple hs
      exact EqAt.str_tuple z t' p hu1
    | @dct a kvs D hs hk =>
      obtain rfl : v = Value.ref a := rx
      obtain ⟨_, ne, vs, kv, o, es, ep, ho, hx, hdat, _, hp, _⟩ := hs.ok I.hok
      obtain ⟨cls, dd, data, sl⟩ := o
      obtain rfl : cls = .type "dict" := hx.1
      obtain rfl : data = .dict es ep := hdat
      exact eq_str_dict (c := .none) z t' ho hu1
  refine in_tupleAt (fun y => match y with | .str z _ => decide (x = V.str z) | _ => false) p (fun y hy => ?_) ⟨.bl _, H, I, ?_, q⟩
  · obtain ⟨z, t', rfl⟩ := (vals_strs (f := fun z => decide (x = V.str z)) rv).1 y (by simpa using hy)
    exact key z t'
  · have e := (vals_strs (f := fun z => decide (x = V.str z)) rv).2
    rw [← e]
    simp
    rfl
end
end Ph

namespace Ph
open PySem PySem.Spec PyProof.Rows L2
theorem SqK.same {k : Bool} {K : PySem.W.Frag} {H H' : Hp} {a : Addr} {xs : List V} (h : SqK k K H a xs) (s : Same H H') : SqK k K H' a xs := by
  cases k
  · exact s.seq h
  · exact s.tup h
/-- a comprehension over zip of tuples and lists, in any mix -/
theorem lc_zkF {k1 k2 : Bool} {K : PySem.W.Frag} {a b : Addr} {xs ys : List V} {g : TG} {te : TE} {vs : List Nat} {σ : L2.St} {H1 : Hp} {D : Addr} {Qd : Hp → Prop} (n : Nat) (hn : n = min xs.length ys.length) (f : Nat → V) (ha : SqK k1 K H1 a xs) (hb : SqK k2 K H1 b ys) (nD : H1 D = none) (hlen : n < sizeLine)
    (hs : ∀ i x y T, i < n → xs[i]? = some x → ys[i]? = some y → ∀ H, Same H1 H → H T = none → ∀ Y : V → Hp → Prop, (∀ H', Same H H' → Y (f i) H') → g (.ref T) (wipe σ vs) (upd H T (.tup [x, y])) fun σ2 H2 => wipe σ2 vs = wipe σ vs ∧ te σ2 H2 Y)
    (hd : ∀ H, Same H1 H → H D = some (.lst ((List.range n).map f)) → Qd H) :
    ∃ W : Nat → Nat → Hp → Prop, (∃ m, W 0 m (upd H1 D (.lst []))) ∧ ∀ i m H, W i m H →
      ((ItzK k1 k2 K a b).stop i H ∧ Qd H) ∨ ((ItzK k1 k2 K a b).go i H ∧ ∃ Nx : Hp → Prop, (∀ H', Nx H' → ∃ m', m' < m ∧ W (i + 1) m' H') ∧ ∀ x H', (ItzK k1 k2 K a b).yld i H x H' → g x (wipe σ vs) H' fun σ2 H2 => wipe σ2 vs = wipe σ vs ∧ tYes σ2 H2 fun b H3 =>
        if b = true then te σ2 H3 fun y H4 => ∃ acc, H4 D = some (.lst acc) ∧ acc.length < sizeLine ∧ Nx (upd H4 D (.lst (acc ++ [y]))) else Nx H3) := by
  refine ⟨fun i m H => m = n - i ∧ i ≤ n ∧ Same H1 H ∧ H D = some (.lst ((List.range i).map f)), ⟨n, rfl, Nat.zero_le _, same_upd nD, upd_same⟩, ?_⟩
  rintro i m H ⟨rfl, hi, sm, hD⟩
  have qx := ha.same sm
  have qy := hb.same sm
  rcases Nat.lt_or_ge i n with lt | ge
  · have l1 : i < xs.length := by omega
    have l2 : i < ys.length := by omega
    refine .inr ⟨⟨xs, ys, _, _, qx, qy, List.getElem?_eq_getElem l1, List.getElem?_eq_getElem l2⟩, fun H' => Same H1 H' ∧ H' D = some (.lst ((List.range (i + 1)).map f)), fun H' p => ⟨n - (i + 1), by omega, rfl, lt, p⟩, fun v H' yl => ?_⟩
    obtain ⟨T, x, y, rfl, nT, rfl, f1, f2⟩ := yl
    refine hs i x y T lt (f1 xs qx) (f2 ys qy) H sm nT _ fun H4 s4 => ?_
    refine ⟨_, s4 _ _ hD, by rw [List.length_map, List.length_range]; omega, keepD nD (sm.trans s4), ?_⟩
    rw [upd_same, List.range_succ, List.map_append]
    rfl
  · have e : i = n := Nat.le_antisymm hi ge
    subst e
    exact .inl ⟨⟨xs, ys, qx, qy, by omega, by omega, by omega⟩, hd H sm hD⟩
end Ph

namespace Ph
open PySem PySem.Spec PyProof.Rows L2
/-! ### walks: zip of tuples and lists; comprehensions whose items are laid anew -/
theorem walk_zipK {k1 k2 : Bool} {K : PySem.W.Frag} {a b : Addr} {xs ys : List V} {n : Nat} (hn : n = min xs.length ys.length) : Walk (ItzK k1 k2 K a b) n (fun H => SqK k1 K H a xs ∧ SqK k2 K H b ys) (YPair (fun i => xs[i]?) (fun i => ys[i]?)) := by
  subst hn
  refine ⟨fun i _ hi q => ?_, fun _ q => ⟨xs, ys, q.1, q.2, by omega, by omega, by omega⟩, fun i H v H' _ q y => ?_⟩
  · have h1 : i < xs.length := by omega
    have h2 : i < ys.length := by omega
    exact ⟨xs, ys, xs[i], ys[i], q.1, q.2, by simp [h1], by simp [h2]⟩
  · obtain ⟨T, x, z, h1, h2, h3, h4, h5⟩ := y
    exact ⟨T, x, z, h1, h2, h3, h4 xs q.1, h5 ys q.2⟩
theorem walk_enumT {K : PySem.W.Frag} {a : Addr} {xs : List V} : Walk (Itt K a) xs.length (fun H => SqT K H a xs) (YAt xs) := walk_tup
theorem YPair.same {xs ys : Nat → Option V} {i : Nat} {H H' : Hp} {v : V} (h : YPair xs ys i H v H') : Same H H' := by
  obtain ⟨T, x, y, _, nT, e, _⟩ := h
  rw [e]
  exact same_upd nT
theorem YAt.same {xs : List V} {i : Nat} {H H' : Hp} {v : V} (h : YAt xs i H v H') : Same H H' := by
  rw [h.1]; exact Same.refl _
theorem YFn.same {f : Nat → V} {i : Nat} {H H' : Hp} {v : V} (h : YFn f i H v H') : Same H H' := by
  rw [h.1]; exact Same.refl _
theorem none_of_same {H H' : Hp} {D : Addr} (s : Same H H') (n : H' D = none) : H D = none := by
  cases e : H D with
  | none => rfl
  | some o => rw [s _ _ e] at n; cases n
theorem joinS {R G : L2.St → Hp → Prop} {C : Prop} (m : (∀ σ H, R σ H → G σ H) → C) (k : ∀ σ H, R σ H → G σ H) : C := m k
abbrev KpT (H H' : Hp) : Prop := ∀ v zs, H v = some (.tup zs) → H' v = some (.tup zs)
/-- a comprehension with a test; R tells of each item that stays, by its turn -/
theorem lc_RF {J : It} {n : Nat} {G : Hp → Prop} {Y : Nat → Hp → V → Hp → Prop} (w : Walk J n G Y) (hY : ∀ i H x H', Y i H x H' → Same H H') {g : TG} {tt : TT} {te : TE} {vs : List Nat} {σ : L2.St} {H1 : Hp} {D : Addr} {Qd : Hp → Prop}
    (p : Nat → Bool) (R : Hp → Nat → V → Prop) (mono : ∀ H H' i y, KpT H H' → R H i y → R H' i y) (nD : H1 D = none) (hlen : n < sizeLine) (hG : ∀ H, Same H1 H → G H)
    (hs : ∀ i x H H', i < n → Same H1 H → Y i H x H' → ∀ (Z : V → Hp → Prop) (N : Hp → Prop), (∀ y H4, Same H' H4 → p i = true → R H4 i y → Z y H4) → (∀ H4, Same H' H4 → p i = false → N H4) →
      g x (wipe σ vs) H' fun σ2 H2 => wipe σ2 vs = wipe σ vs ∧ tt σ2 H2 fun b H3 => if b = true then te σ2 H3 Z else N H3)
    (hd : ∀ H ys, Same H1 H → H D = some (.lst ys) → Paired (R H) ((List.range n).filter p) ys → Qd H) :
    ∃ W : Nat → Nat → Hp → Prop, (∃ m, W 0 m (upd H1 D (.lst []))) ∧ ∀ i m H, W i m H →
      (J.stop i H ∧ Qd H) ∨ (J.go i H ∧ ∃ Nx : Hp → Prop, (∀ H', Nx H' → ∃ m', m' < m ∧ W (i + 1) m' H') ∧ ∀ x H', J.yld i H x H' → g x (wipe σ vs) H' fun σ2 H2 => wipe σ2 vs = wipe σ vs ∧ tt σ2 H2 fun b H3 =>
        if b = true then te σ2 H3 fun y H4 => ∃ acc, H4 D = some (.lst acc) ∧ acc.length < sizeLine ∧ Nx (upd H4 D (.lst (acc ++ [y]))) else Nx H3) := by
  refine lc_it w (fun i H => Same H1 H ∧ ∃ ys, H D = some (.lst ys) ∧ Paired (R H) ((List.range i).filter p) ys) ⟨same_upd nD, [], upd_same, .nil⟩ (fun i H _ q => hG H q.1) (fun i x H H' hi q y => ?_) (fun H q => ?_)
  · obtain ⟨sm, ys, hD, pr⟩ := q
    have s' := hY _ _ _ _ y
    have hlen2 : ys.length < sizeLine := by
      have h1 := pr.length
      have h2 := List.length_filter_le p (List.range i)
      rw [List.length_range] at h2
      omega
    refine hs i x H H' hi sm y _ _ (fun y H4 s4 pi r4 => ?_) (fun H4 s4 pi => ?_)
    · have hD4 := s4 _ _ (s' _ _ hD)
      have tk : KpT H4 (upd H4 D (.lst (ys ++ [y]))) := fun v zs e => by
        rw [upd_ne (ne_of e hD4 (by intro z; cases z))]
        exact e
      refine ⟨ys, hD4, hlen2, fun b o e => ?_, ys ++ [y], upd_same, ?_⟩
      · rw [upd_ne (ne_of_none e nD)]
        exact s4 _ _ (s' _ _ (sm _ _ e))
      · rw [List.range_succ, List.filter_append, List.filter_cons_of_pos (by simpa using pi)]
        exact Paired.snoc (paired_imp (fun a b h => mono _ _ _ _ (fun v zs e => tk v zs (s4 _ _ (s' _ _ e))) h) pr) (mono _ _ _ _ tk r4)
    · refine ⟨(sm.trans s').trans s4, ys, s4 _ _ (s' _ _ hD), ?_⟩
      rw [List.range_succ, List.filter_append, List.filter_cons_of_neg (by simp [pi]), List.filter_nil, List.append_nil]
      exact paired_imp (fun a b h => mono _ _ _ _ (fun v zs e => s4 _ _ (s' _ _ e)) h) pr
  · obtain ⟨sm, ys, hD, pr⟩ := q
    exact hd H ys sm hD pr
theorem lc_R {J : It} {n : Nat} {G : Hp → Prop} {Y : Nat → Hp → V → Hp → Prop} (w : Walk J n G Y) (hY : ∀ i H x H', Y i H x H' → Same H H') {g : TG} {te : TE} {vs : List Nat} {σ : L2.St} {H1 : Hp} {D : Addr} {Qd : Hp → Prop}
    (R : Hp → Nat → V → Prop) (mono : ∀ H H' i y, KpT H H' → R H i y → R H' i y) (nD : H1 D = none) (hlen : n < sizeLine) (hG : ∀ H, Same H1 H → G H)
    (hs : ∀ i x H H', i < n → Same H1 H → Y i H x H' → ∀ (Z : V → Hp → Prop), (∀ y H4, Same H' H4 → R H4 i y → Z y H4) →
      g x (wipe σ vs) H' fun σ2 H2 => wipe σ2 vs = wipe σ vs ∧ te σ2 H2 Z)
    (hd : ∀ H ys, Same H1 H → H D = some (.lst ys) → Paired (R H) (List.range n) ys → Qd H) :
    ∃ W : Nat → Nat → Hp → Prop, (∃ m, W 0 m (upd H1 D (.lst []))) ∧ ∀ i m H, W i m H →
      (J.stop i H ∧ Qd H) ∨ (J.go i H ∧ ∃ Nx : Hp → Prop, (∀ H', Nx H' → ∃ m', m' < m ∧ W (i + 1) m' H') ∧ ∀ x H', J.yld i H x H' → g x (wipe σ vs) H' fun σ2 H2 => wipe σ2 vs = wipe σ vs ∧ tYes σ2 H2 fun b H3 =>
        if b = true then te σ2 H3 fun y H4 => ∃ acc, H4 D = some (.lst acc) ∧ acc.length < sizeLine ∧ Nx (upd H4 D (.lst (acc ++ [y]))) else Nx H3) :=
  lc_RF w hY (fun _ => true) R mono nD hlen hG (fun i x H H' hi sm y Z N hZ hN => hs i x H H' hi sm y Z fun y H4 s4 r => hZ y H4 s4 rfl r)
    (fun H ys sm hD pr => hd H ys sm hD (by
      have e : (List.range n).filter (fun _ => true) = List.range n := List.filter_eq_self.mpr fun _ _ => rfl
      rw [e] at pr
      exact pr))
theorem Paired.get {α β : Type} {F : α → β → Prop} : ∀ {l : List α} {m : List β} {i : Nat} {a : α}, Paired F l m → l[i]? = some a → ∃ b, m[i]? = some b ∧ F a b
  | _, _, _, _, .nil, h => by simp at h
  | _, _, 0, _, .cons x _, h => by simp at h; subst h; exact ⟨_, rfl, x⟩
  | _, _, i + 1, _, .cons _ r, h => by
    obtain ⟨b, e, f⟩ := Paired.get (i := i) r (by simpa using h)
    exact ⟨b, by simpa using e, f⟩
theorem Paired.get2 {α β : Type} {F : α → β → Prop} : ∀ {l : List α} {m : List β} {i : Nat} {b : β}, Paired F l m → m[i]? = some b → ∃ a, l[i]? = some a ∧ F a b
  | _, _, _, _, .nil, h => by simp at h
  | _, _, 0, _, .cons x _, h => by simp at h; subst h; exact ⟨_, rfl, x⟩
  | _, _, i + 1, _, .cons _ r, h => by
    obtain ⟨b, e, f⟩ := Paired.get2 (i := i) r (by simpa using h)
    exact ⟨b, by simpa using e, f⟩
/-- the items are a function of the turn -/
theorem paired_eq {α β : Type} {f : α → β} : ∀ {l : List α} {m : List β}, Paired (fun a b => b = f a) l m → m = l.map f
  | _, _, .nil => rfl
  | _, _, .cons h r => by rw [h, paired_eq r]; rfl
theorem SqT.butL {K : PySem.W.Frag} {H H' : Hp} {u D : Addr} {xs l : List V} (h : SqT K H u xs) (b : But D H H') (hD : H D = some (.lst l)) : SqT K H' u xs := by
  rcases h with (h | ⟨o, h⟩) | h
  · exact .inl (.inl (b _ _ (ne_of h hD (by intro z; cases z)) h))
  · exact .inl (.inr ⟨o, b _ _ (ne_of h hD (by intro z; cases z)) h⟩)
  · exact .inr h
/-- names of built-ins -/
structure Nm6 (K : PySem.W.Frag) (mg : Str → Option Value) : Prop where
  len : mg "len" = none
  abs : mg "abs" = none
  int : mg "int" = none
  range : mg "range" = none
  tuple : mg "tuple" = none
  max : mg "max" = none
  min : mg "min" = none
  repr : mg "repr" = none
  isinstance : mg "isinstance" = none
  bool : mg "bool" = none
  all : mg "all" = none
  any : mg "any" = none
  list : mg "list" = none
  dict : mg "dict" = none
  sorted : mg "sorted" = none
  set : mg "set" = none
  sum : mg "sum" = none
  zip : mg "zip" = none
  enumerate : mg "enumerate" = none
  reversed : mg "reversed" = none
  str : mg "str" = none
  dig : PySem.W.nsIn K cStatics "sys.int_max_str_digits" = some none
end Ph

namespace Ph
open PySem PySem.Spec PyProof.Rows L2
/-! ### loops that count up; any(ints) -/
theorem while_n {c : TT} {tb : TS} {D : Ends} {σ : L2.St} {H : Hp} (n : Nat) (Pv : Nat → L2.St → Hp → Prop) (h0 : Pv 0 σ H)
    (hs : ∀ i σ H, i ≤ n → Pv i σ H → c σ H fun b H1 => if b = true then ∃ N : L2.St → Hp → Prop, (∀ σ' H', N σ' H' → ∃ m', m' < n - i ∧ ∃ i', i' ≤ n ∧ m' = n - i' ∧ Pv i' σ' H') ∧ tb { D with nx := N, ct := N, bk := D.nx } σ H1 else D.nx σ H1) : tWhile c tb D σ H :=
  ⟨fun m σ H => ∃ i, i ≤ n ∧ m = n - i ∧ Pv i σ H, ⟨n - 0, 0, Nat.zero_le _, rfl, h0⟩, fun m σ H ⟨i, hi, e, p⟩ => e ▸ hs i σ H hi p⟩
theorem wn_next {n i : Nat} {Pv : Nat → L2.St → Hp → Prop} (h : i < n) : ∀ σ' H', Pv (i + 1) σ' H' → ∃ m', m' < n - i ∧ ∃ i', i' ≤ n ∧ m' = n - i' ∧ Pv i' σ' H' := fun σ' H' p => ⟨n - (i + 1), by omega, i + 1, by omega, rfl, p⟩
theorem ints_at {vs : List Value} {ns : List Int} (h : IntsAre vs ns) : ∀ {i : Nat} {v : Value}, vs[i]? = some v → ∃ t, v = .int (ns.getD i 0) t := by
  induction h with
  | nil => intro i v e; simp at e
  | cons n t h ih =>
    intro i v e
    cases i with
    | zero =>
      simp at e
      exact ⟨t, e.symm⟩
    | succ i =>
      simp at e
      obtain ⟨t', e'⟩ := ih e
      exact ⟨t', by rw [e']; simp⟩
theorem truth_ints {P : Program} {w : World} {A : Around} {ns : List Int} {vs : List Value} (h : IntsAre vs ns) :
    TruthOf P w A (fun i v => vs.toArray[i]? = some v) (fun i => (ns.getD i 0 != 0)) := fun i v s Q E hv hq => by
  have hv2 : vs[i]? = some v := by simpa using hv
  obtain ⟨t, rfl⟩ := ints_at h hv2
  exact PyProof.Rows.truthy_int hq
section
variable {X : Cx}
def rAnyI (K : PySem.W.Frag) : List V → Hp → VK → Prop := fun vs H Q => ∃ (a : Addr) (ns : List Int), vs = [V.ref a] ∧ SqL K H a (ns.map V.int) ∧ Q (.bl ((List.range ns.length).any fun i => (ns.getD i 0 != 0))) H
theorem cr_anyI (hc : X.calm = true) : CallR X (.builtin "any") (rAnyI X.K) := by
  intro pins s σ H vs us Q I r h
  obtain ⟨a, ns, rfl, hs, q⟩ := h
  obtain ⟨its, rv, hl, _⟩ := I.list hs
  rw [Vals.ref1 r]
  have hb := rv.ints
  have len : its.length = ns.length := by rw [← rv.length, List.length_map]
  refine call_any_walk (iter_any hl.isList fun s2 e2 st hne => ?_)
  subst e2
  refine ⟨_, _, _, _, _, _, _, rfl, Walks.list (A := X.A.in1) (I.ok.hd hc) _ a hne its.toArray, st, truth_ints hb, fun g tk hk => ?_⟩
  refine ⟨.bl _, H, I.kept fun b o eo => hk b o (fun hm => ?_) (Heap.get?_push_of_some _ eo), ?_, q⟩
  · rcases List.mem_cons.mp hm with e1 | hm
    · exact absurd (e1 ▸ Heap.lt_size eo) (Nat.lt_irrefl _)
    · cases hm
  · show Value.bool _ = Value.bool _
    rw [List.size_toArray, len]
end
end Ph

namespace Ph
open PySem PySem.Spec PyProof.Rows L2
section
variable {X : Cx}
/-! ### sum of a tuple of ints -/
def rSumT (K : PySem.W.Frag) : List V → Hp → VK → Prop := fun vs H Q => ∃ (a : Addr) (ns : List Int), vs = [V.ref a] ∧ SqT K H a (ns.map V.int) ∧ Q (.int ns.sum) H
theorem cr_sumT (hc : X.calm = true) : CallR X (.builtin "sum") (rSumT X.K) := by
  intro pins s σ H vs us Q I r h
  obtain ⟨a, ns, rfl, hs, q⟩ := h
  obtain ⟨its, rv, hl, _⟩ := I.tuple hs
  rw [Vals.ref1 r]
  have hi := rv.ints
  obtain ⟨xs, e⟩ := hi.allInts.items
  have hn : numsOf (intItems xs).toList = ns := by rw [← e]; exact hi.numsOf
  rw [nums_intItems] at hn
  rw [e] at hl
  refine PySem.W.ktm_sumG (I.ok.hd hc) hl fun h' tk t' hk => ?_
  refine ⟨.int _, H, I.kept hk, ⟨_, rfl⟩, ?_⟩
  have e2 : preSum (numAt xs) xs.size = ns.sum := by rw [preSum_eq, List.take_of_length_le (by simp), hn]
  rw [e2]
  exact q
theorem u3_of {A : Around} {k : Nat} (hr : Room k A) : A.units + 3 < cLine := by
  have := u64_of hr
  omega
end
end Ph

namespace Ph
open PySem PySem.Spec PyProof.Rows L2
/-! ### numbers begun with reaches: more reach, more words, never less -/
theorem ov_iff {s b : Nat → Nat} {i n M : Nat} (ht : 0 < s (i + 1)) (hm : ∀ j, j + 1 < i + 1 → b j ≤ b (j + 1)) :
    n ≤ cdw (b i) (s (i + 1)) + (M - Lw s b (s (i + 1)) (i + 1)) / s (i + 1) ↔ n ≤ cdw (b i) (s (i + 1)) ∨ sm (fun k => s (cls b (i + 1) (k * s (i + 1)))) n ≤ M := by
  have lw : Lw s b (s (i + 1)) (i + 1) = sm (fun k => s (cls b (i + 1) (k * s (i + 1)))) (cdw (b i) (s (i + 1))) := lw_sum (s := s) (b := b) ht hm (i + 1) (Nat.le_refl _)
  have mono : ∀ d j, j + d = i → b j ≤ b i := by
    intro d
    induction d with
    | zero => intro j e; have : j = i := by omega
              rw [this]; exact Nat.le_refl _
    | succ d ih => intro j e; exact Nat.le_trans (hm j (by omega)) (ih (j + 1) (by omega))
  have tail : ∀ n, cdw (b i) (s (i + 1)) ≤ n → sm (fun k => s (cls b (i + 1) (k * s (i + 1)))) n = Lw s b (s (i + 1)) (i + 1) + s (i + 1) * (n - cdw (b i) (s (i + 1))) := fun n hn => by
    rw [lw]
    refine sm_const hn fun k h1 _ => ?_
    have e : cls b (i + 1) (k * s (i + 1)) = i + 1 := by
      refine cls_eq (Nat.le_refl _) (fun j hj => ?_) (fun z => absurd z (by omega))
      have h3 : ¬ k * s (i + 1) < b i := fun z => by
        have := (lt_cdw ht).mpr z
        omega
      have := mono (i - j) j (by omega)
      omega
    rw [e]
  generalize cdw (b i) (s (i + 1)) = C at lw tail ⊢
  generalize Lw s b (s (i + 1)) (i + 1) = L at lw tail ⊢
  constructor
  · intro h
    rcases Nat.lt_or_ge C n with z | z
    · right
      rw [tail n (by omega)]
      have h1 : n - C ≤ (M - L) / s (i + 1) := by omega
      rw [Nat.le_div_iff_mul_le ht, Nat.mul_comm] at h1
      have h2 : s (i + 1) * 1 ≤ s (i + 1) * (n - C) := Nat.mul_le_mul_left _ (by omega)
      omega
    · exact .inl z
  · intro h
    rcases Nat.lt_or_ge C n with z | z
    · rcases h with h | h
      · omega
      · rw [tail n (by omega)] at h
        have h1 : n - C ≤ (M - L) / s (i + 1) := by
          rw [Nat.le_div_iff_mul_le ht, Nat.mul_comm]
          omega
        omega
    · exact Nat.le_trans z (Nat.le_add_right _ _)
theorem bfn_mono {s ρ ρ' : Nat → Nat} {m M M' : Nat} (c : CH s m) (hρ : ∀ i, i < m → ρ' i ≤ ρ i) (hM : M' ≤ M) : ∀ i, i < m → bfn s ρ' M' i ≤ bfn s ρ M i := by
  intro i
  induction i using Nat.strongRecOn with
  | ind i ih =>
    intro hi
    cases i with
    | zero =>
      rw [bfn_zero, bfn_zero]
      have := hρ 0 hi
      omega
    | succ i =>
      have ht := c.pos hi
      have up : ∀ (ρ : Nat → Nat) (M : Nat) j, j + 1 < i + 1 → bfn s ρ M j ≤ bfn s ρ M (j + 1) := fun ρ M j hj => bfn_up (c.pos (by omega))
      rw [bfn_succ, bfn_succ]
      have h1 : cdw (bfn s ρ' M' i) (s (i + 1)) + (M' - Lw s (bfn s ρ' M') (s (i + 1)) (i + 1)) / s (i + 1) ≤ cdw (bfn s ρ M i) (s (i + 1)) + (M - Lw s (bfn s ρ M) (s (i + 1)) (i + 1)) / s (i + 1) := by
        rw [ov_iff ht (up ρ M)]
        rcases (ov_iff (n := cdw (bfn s ρ' M' i) (s (i + 1)) + (M' - Lw s (bfn s ρ' M') (s (i + 1)) (i + 1)) / s (i + 1)) ht (up ρ' M')).mp (Nat.le_refl _) with z | z
        · exact .inl (Nat.le_trans z (cdw_mono (ih i (by omega) (by omega))))
        · refine .inr (Nat.le_trans (sm_le fun k _ => ?_) (Nat.le_trans z hM))
          refine c.mono (cls_anti fun j hj => ih j (by omega) (by omega)) ?_
          have := cls_le (bfn s ρ' M') (i + 1) (k * s (i + 1))
          omega
      have h2 := Nat.mul_le_mul_left (s (i + 1)) h1
      have h3 := hρ (i + 1) hi
      omega
theorem bfn_ge {s ρ : Nat → Nat} {M i : Nat} : ρ i ≤ bfn s ρ M i := by
  cases i with
  | zero => rw [bfn_zero]; exact Nat.le_max_right _ _
  | succ i => rw [bfn_succ]; exact Nat.le_max_left _ _
/-- how far the numbers can lie out -/
theorem bfn_ub {s ρ : Nat → Nat} {m M S R : Nat} (c : CH s m) (hS : ∀ j, j < m → s j ≤ S) (hR : ∀ j, j < m → ρ j ≤ R) : ∀ i, i < m → bfn s ρ M i ≤ (i + 1) * M + i * S + R
  | 0, h => by
    rw [bfn_zero]
    have := hR 0 h
    omega
  | i + 1, h => by
    have ih := bfn_ub (M := M) c hS hR i (by omega)
    have p := c.pos h
    have h1 := cdw_lt (x := bfn s ρ M i) p
    have h2 := Nat.div_mul_le_self (M - Lw s (bfn s ρ M) (s (i + 1)) (i + 1)) (s (i + 1))
    have h3 := hS _ h
    have h4 := hR _ h
    rw [bfn_succ, Nat.mul_add]
    rw [Nat.mul_comm] at h1 h2
    have e1 : (i + 1 + 1) * M = (i + 1) * M + M := by rw [Nat.add_mul, Nat.one_mul]
    have e2 : (i + 1) * S = i * S + S := by rw [Nat.add_mul, Nat.one_mul]
    rw [e1, e2]
    omega
end Ph

namespace Ph
open PySem PySem.Spec PyProof.Rows L2
section
variable {P : Program} {w : World} {A : Around} {E : Value → Shared → Prop} {s : Shared}
/-- sorted(tuple of pairs of ints) -/
theorem sorted_of_tupP {a : Addr} {us : List Value} {k : Value → Int × Int} {Q : Value → Shared → Prop} (ht : s.heap.IsTuple a us.toArray) (few : us.length ≤ sizeLine) (hp : ∀ v, v ∈ us → Srt.IsPair s.heap v (k v).1 (k v).2)
    (q : ∀ g p (out : List Value) (c : Nat), (∀ b u, s.heap.get? b = some u → g.get? b = some u) → s.heap.objs.size ≤ p → g.get? p = some (seqObj "list" out.toArray c) → SrtO.Srtd (fun v u => SrtO.lexB (k v) (k u)) out → SrtO.Stb (fun v u => SrtO.lexB (k v) (k u)) out us → Q (.ref p) { s with heap := g }) :
    wpAny (model P w) A (call (.builtin "sorted") [.ref a]) Q E s := by
  refine Calls.call_function_entry kind_sorted plain_sorted entry_sorted (args_sorted1 _) ?_; unfold Builtin.«sorted»
  refine wpAny_bind (m := checkCount "sorted" 1 1 _) (wpAny_pure (wpAny_bind (collect_tup ht few fun g keep hz => ?_)))
  refine wpAny_bind (wpAny_newList ?_ few)
  have at1 : (g.push (seqObj "list" us.toArray 0)).get? g.objs.size = some (seqObj "list" us.toArray 0) := Heap.get?_push_size _ rfl
  refine wpAny_bind (wpAny_holding (wpAny_call_entry slot_list_sort ⟨_, at1, rfl⟩ entry_list_sort (SrtO.list_sort_ord (SrtO.swo_lex k) at1 few (fun h2 => ?_) fun out b1 b2 => ⟨_, rfl, ?_⟩) (args_list_sort _)))
  · refine SrtO.pairs_sortableO (by omega) (fun v hv => (hp v hv).keeps fun b o e _ => Heap.get?_push_of_some _ (keep b o e)) fun o e => ?_
    have e2 : some o = some (seqObj "list" us.toArray 0) := e.symm.trans at1
    cases e2
    intro z
    exact absurd (Value.type.inj z) (by decide)
  · obtain ⟨c, hc⟩ := sortedHeap_at (vs := us) (out := out.toArray) at1
    refine wpAny_pure ⟨_, rfl, q _ g.objs.size out c (fun b u e => ?_) hz hc b1 b2⟩
    have z := keep b u e
    have lt := Heap.lt_size z
    show (sortedHeap (g.push (seqObj "list" us.toArray 0)) g.objs.size us out.toArray).get? b = some u
    rw [sortedHeap_old (Nat.ne_of_lt lt) (by rw [size_push']; exact Nat.lt_succ_of_lt lt)]
    exact Heap.get?_push_of_some _ z
end
section
variable {X : Cx}
def rSortedPT (K : PySem.W.Frag) : List V → Hp → VK → Prop := fun vs H Q => ∃ (a : Addr) (xs : List V) (k : V → Int × Int), vs = [V.ref a] ∧ SqT K H a xs ∧ (∀ x ∈ xs, ∃ t, x = V.ref t ∧ H t = some (.tup [.int (k x).1, .int (k x).2])) ∧
  ∀ ys p, SrtO.Srtd (ltP k) ys → SrtO.Stb (ltP k) ys xs → H p = none → Q (.ref p) (upd H p (.lst ys))
theorem cr_sortedPT : CallR X (.builtin "sorted") (rSortedPT X.K) := by
  intro pins s σ H vs us Q I r h
  obtain ⟨a, xs, k, rfl, hs, hx, q⟩ := h
  obtain ⟨its, rv, hl, hz⟩ := I.tuple hs
  rw [Vals.ref1 r]
  obtain ⟨e1, e2⟩ := refs_back rv fun x m => by
    obtain ⟨t, e, _⟩ := hx x m
    exact ⟨t, e⟩
  refine sorted_of_tupP (k := fun u => k (backV u)) hl (by rw [← rv.length]; exact hz) (fun v hv => ?_) fun g p out c keep hp hg h1 h2 => ?_
  · obtain ⟨t, rfl⟩ := e2 v hv
    have hm : V.ref t ∈ xs := by rw [e1]; exact List.mem_map.mpr ⟨_, hv, rfl⟩
    obtain ⟨t2, e, ht⟩ := hx _ hm
    cases e
    obtain ⟨_, its2, r2, o, ho, hc, n, hd⟩ := I.hok _ _ ht
    obtain ⟨u1, u2, rfl, ri, rj⟩ := vals2 r2
    obtain ⟨t1, rfl⟩ := ri
    obtain ⟨t3, rfl⟩ := rj
    exact ⟨t, o, t1, t3, n, rfl, ho, hc, hd⟩
  · have h3 : ∀ u ∈ out, ∃ a, u = Value.ref a := fun u hu => e2 u (h2.perm.mem_iff.mp hu)
    have hb : SrtO.Stb (ltP k) (out.map backV) xs := by
      rw [e1]
      exact SrtO.Stb.map (ltP_swo k) backV h2
    refine ⟨.ref p, upd H p (.lst (out.map backV)), I.laid (t' := s.toks) keep hp ⟨?_, out, c, vals_back h3, hg⟩, rfl, q _ p (SrtO.srtd_map h1) hb (I.hok.fresh hp)⟩
    rw [hb.len]
    exact hz
end
end Ph

namespace Ph
open PySem PySem.Spec PyProof.Rows L2
section
variable {P : Program} {w : World} {A : Around} {E : Value → Shared → Prop} {s : Shared} {T : String} {r d : Addr} {n : Nat} {Pv : Nat → Value → Prop} {OK : Heap → Prop}
/-- tuple(x), x walked as the library's source of a list -/
theorem code_tuple_src {Q₁ : Value → Shared → Prop} (S : PySem.W.KdlSrc P w T r d n Pv OK) (calm : A.handled = none) (ok : OK s.heap) (hn : n ≤ sizeLine) (nT : (Value.type T == Value.type "tuple") = false) (nL : (Value.type T == Value.type "list") = false)
    (q : ∀ (g : Heap) (tk : Nat) (acc : Array Value), (∀ b u, s.heap.get? b = some u → g.get? b = some u) → ItemsOf Pv acc n → Q₁ (.ref g.objs.size) { s with heap := g.push { cls := .type "tuple", data := .seq acc }, toks := tk }) :
    codeAny (model P w) A (.call (.builtin "tuple.__new__") ⟨[.type "tuple", .ref r], []⟩) (wants Q₁ E) s := by
  refine codeAny_of_tree ?_
  show wpAny (model P w) A.in1 (do checkBuiltinCall "tuple.__new__" ⟨[.type "tuple", .ref r], []⟩; again (.builtin "tuple.__new__" ⟨[.type "tuple", .ref r], []⟩)) _ _ s
  refine wpAny_bind (wpAny_of_eq (F.newCall_tuple_1 _) (wpAny_pure ⟨plainId_quiet F.plain_tuple_new _, codeAny_builtin F.entry_tuple_new ?_⟩)); rw [Around.under_plainId F.plain_tuple_new _]
  have y1 := sub_tuple_self
  have y2 := init_tuple_lookup
  have y3 := madeHere_tuple
  have ty := S.type _ ok
  have calm1 : A.in1.handled = none := calm
  wp_walk using wpAny_typeOf ty, PySem.W.kdu_collect (A := A.in1) S calm1 ok hn
  intro g tk acc k it
  show wpAny (model P w) _ (Builtin.Tuple.tupleExact acc.toList.toArray >>= fun v => ret v) _ _ _
  unfold Builtin.Tuple.tupleExact
  refine wpAny_bind (wpAny_newObj_type ?_ (by show acc.toList.toArray.size ≤ sizeLine; rw [Array.toArray_toList, it.1]; exact hn))
  rw [Array.toArray_toList]
  exact wpAny_pure (q g tk acc k it)
theorem call_tuple_src {Q : Value → Shared → Prop} (S : PySem.W.KdlSrc P w T r d n Pv OK) (calm : A.handled = none) (ok : OK s.heap) (hn : n ≤ sizeLine) (nT : (Value.type T == Value.type "tuple") = false) (nL : (Value.type T == Value.type "list") = false)
    (q : ∀ (g : Heap) (tk : Nat) (acc : Array Value), (∀ b u, s.heap.get? b = some u → g.get? b = some u) → ItemsOf Pv acc n → Q (.ref g.objs.size) { s with heap := g.push { cls := .type "tuple", data := .seq acc }, toks := tk }) :
    wpAny (model P w) A (call (.type "tuple") [.ref r]) Q E s := by
  refine callType_codes (Q₁ := fun z t => t.TypeIs z "tuple" ∧ Q z t) F.called_tuple (F.typeCall_tuple_1 _) F.entry_object_init (code_tuple_src (A := A.in1) S calm ok hn nT nL fun g tk acc k it => ⟨⟨_, Heap.get?_push_size _ rfl, rfl⟩, q g tk acc k it⟩) fun z t h => ?_
  exact ⟨h.1, F.args_object_init_2 z _, object_init_meets F.called_tuple.init.lookup F.called_tuple.made (by decide) P w A.in1 _ t ⟨h.1, rfl, h.2⟩⟩
end
section
variable {X : Cx} {o : Expr} {p pos apos mpos : Pos} {td : TE}
/-- tuple(d.values()) -/
def tTupVals (td : TE) : TE := fun σ H Q => td σ H fun x H1 => ∃ a kvs, x = V.ref a ∧ H1 a = some (.dK kvs) ∧ ∀ q, H1 q = none → Q (.ref q) (upd H1 q (.tup (kvs.map (·.2))))
theorem pe_tupVals (hc : X.calm = true) (hg : Gl X "tuple") (hm : X.mg "tuple" = none) (hd : PE X o td) (hbase : attributeBase o "values" X.env (eval o X.env) = eval o X.env := by rfl) (hline : (apos.endLine == mpos.line) = true := by rfl)
    (hse : starEach [Expr.Call (.Attribute o "values" apos) [] [] mpos] X.env = [(false, eval (Expr.Call (.Attribute o "values" apos) [] [] mpos) X.env)] := by rfl) :
    PE X (.Call (.Name "tuple" p) [.Call (.Attribute o "values" apos) [] [] mpos] [] pos) (tTupVals td) := by
  refine ⟨fun pins s σ H Q I h => ?_⟩
  refine Call_ (ld_blt I hg hm boot_tuple ?_)
  refine PyProof.Rows.callWith_type1 (PyProof.Rows.args_cons (wpAny_Call_method0_late hbase hline (thn (hd.run pins s σ H _ I h) fun v s1 ⟨x, H1, I1, r1, a, kvs, ex, ha, q⟩ => ?_)) hse) hse rfl
  subst ex
  obtain rfl : v = Value.ref a := r1
  obtain ⟨z, hsys, vs, rel, dof⟩ := dk_of I1.hok ha
  obtain ⟨ep, dat⟩ := dof.dictAt
  obtain ⟨ob, es, ho, ex, _⟩ := id dat
  refine ⟨"dict", "dict.values", F.plainAttrs_dict, F.slot_dict_values, F.type_dict_values, ⟨ob, ho, ex.1⟩, fun b e => by cases e; exact ⟨ob, ho, ex.2.1⟩, Calls.callWith_builtin rfl (PySem.evalArgs_none ?_)⟩
  refine call_meetsIn F.slot_dict_values ⟨ob, ho, ex.1⟩ F.entry_dict_values (F.args_dict_values_1 _) (meets_dict_values (mixKind X.prog X.w) a hsys) ⟨⟨vs, dof⟩, ?_⟩
  refine PyProof.Rows.args_nil ?_
  have lv : kvs.length = vs.length := KV.length rel
  refine call_tuple_src (PySem.W.kdl_values (knd := mixKind X.prog X.w) (kvs := vs) (ep := ep) (r := s1.heap.objs.size) (d := a)) (I.ok.hd hc) ⟨⟨_, Heap.get?_push_size _ rfl, rfl, rfl⟩, dat.keep fun b u e => Heap.get?_push_of_some _ e⟩ (by rw [← lv]; exact z) (by decide) (by decide) fun g tk acc k it => ?_
  have keep : ∀ b u, s1.heap.get? b = some u → (g.push { cls := .type "tuple", data := .seq acc }).get? b = some u := fun b u e => Heap.get?_push_of_some _ (k b u (Heap.get?_push_of_some _ e))
  have low : s1.heap.objs.size ≤ g.objs.size := by
    have := k s1.heap.objs.size _ (Heap.get?_push_size _ rfl)
    exact Nat.le_of_lt (Heap.lt_size this)
  have rv : Vals (kvs.map (·.2)) acc.toList := vals_of_at ((List.length_map _).trans (lv.trans (it.1.symm.trans Array.length_toList.symm))) fun j x u h1 h2 => by
    obtain ⟨kk, hk⟩ := it.2 j u (by rw [← Array.getElem?_toList]; exact h2)
    obtain ⟨x', h3, h4⟩ := KV.at' rel hk
    rw [List.getElem?_map, h3] at h1
    cases h1
    exact h4
  refine ⟨.ref _, upd H1 g.objs.size (.tup (kvs.map (·.2))), I1.laid (t' := tk) keep low ?_, rfl, q _ (I1.hok.fresh low)⟩
  exact ⟨by rw [List.length_map]; exact z, acc.toList, rv, ⟨_, Heap.get?_push_size _ rfl, rfl, 0, by rw [Array.toArray_toList]⟩⟩
end
end Ph

namespace Ph
open PySem PySem.Spec PyProof.Rows L2
theorem BL.get {H : Hp} : ∀ {xs : List V} {bs : List (Int × Int)} {i : Nat} {x : V}, BL H xs bs → xs[i]? = some x → ∃ b, bs[i]? = some b ∧ BkAt H x b
  | _, _, _, _, .nil, h => by simp at h
  | _, _, 0, _, .cons hb r, h => by
    have e := Option.some.inj h
    rw [← e]
    exact ⟨_, rfl, hb⟩
  | _ :: l1, _ :: l2, i + 1, x, .cons hb r, h => by
    have h' : l1[i]? = some x := h
    obtain ⟨b, e1, e2⟩ := BL.get (H := H) (xs := l1) (bs := l2) r h'
    exact ⟨b, e1, e2⟩
def ent (s : Int) (E : List Bk) (ys : List V) : List (Key × V) := List.zipWith (fun b y => (Sum.inl (b.1 / s), y)) E ys
theorem ent_snoc (s : Int) (E : List Bk) (ys : List V) (b : Bk) (y : V) (h : E.length = ys.length) : ent s (E ++ [b]) (ys ++ [y]) = ent s E ys ++ [(Sum.inl (b.1 / s), y)] := by
  unfold ent
  rw [List.zipWith_append h]
  rfl
theorem ent_snd (s : Int) : ∀ (E : List Bk) (ys : List V), E.length = ys.length → (ent s E ys).map (·.2) = ys
  | [], [], _ => rfl
  | _ :: E, y :: ys, h => by
    show y :: (ent s E ys).map (·.2) = y :: ys
    rw [ent_snd s E ys (by simpa using h)]
  | [], _ :: _, h => by simp at h
  | _ :: _, [], h => by simp at h
theorem ent_none (s q : Int) : ∀ (E : List Bk) (ys : List V), (∀ b ∈ E, b.1 / s ≠ q) → valV (ent s E ys) (Sum.inl q) = none
  | [], ys, _ => by cases ys <;> rfl
  | _ :: _, [], _ => rfl
  | b :: E, y :: ys, h => by
    have e : ent s (b :: E) (y :: ys) = (Sum.inl (b.1 / s), y) :: ent s E ys := rfl
    rw [e, valV_neg (fun z => h b (List.mem_cons_self ..) (Sum.inl.inj z))]
    exact ent_none s q E ys fun c hc => h c (List.mem_cons_of_mem _ hc)
theorem ent_len (s : Int) (E : List Bk) (ys : List V) : (ent s E ys).length ≤ E.length := by
  unfold ent
  rw [List.length_zipWith]
  omega
theorem put_snoc {kvs : List (Key × V)} {k : Key} {y v : V} (h : valV kvs k = none) : putK (kvs ++ [(k, y)]) k v = kvs ++ [(k, v)] := by
  have h1 : (kvs.any fun kv => decide (kv.1 = k)) = false := by
    rw [valV_any, h]
    rfl
  unfold putK
  rw [if_pos (by rw [List.any_append, h1]; simp), List.map_append]
  congr 1
  · have h2 := List.any_eq_false.mp h1
    conv => rhs; rw [← List.map_id kvs]
    refine List.map_congr_left fun kv hkv => ?_
    have h3 := h2 kv hkv
    rw [if_neg (by simpa using h3)]
    rfl
  · simp
theorem BL.snoc_inv {H : Hp} : ∀ {E0 : List Bk} {m : Bk} {ys : List V}, BL H ys (E0 ++ [m]) → ∃ ys0 y, ys = ys0 ++ [y] ∧ BL H ys0 E0 ∧ BkAt H y m
  | [], _, _, .cons h .nil => ⟨[], _, rfl, .nil, h⟩
  | _ :: _, _, _, .cons h r => by
    obtain ⟨ys0, y, e, b, k⟩ := BL.snoc_inv r
    exact ⟨_ :: ys0, y, by rw [e]; rfl, .cons h b, k⟩
section
variable {X : Cx} {o : Expr} {p pos apos mpos : Pos} {td : TE}
/-- list(d.values()) -/
def tLstVals (td : TE) : TE := fun σ H Q => td σ H fun x H1 => ∃ a kvs, x = V.ref a ∧ H1 a = some (.dK kvs) ∧ ∀ q, H1 q = none → Q (.ref q) (upd H1 q (.lst (kvs.map (·.2))))
theorem pe_lstVals (hc : X.calm = true) (hg : Gl X "list") (hm : X.mg "list" = none) (hd : PE X o td) (hbase : attributeBase o "values" X.env (eval o X.env) = eval o X.env := by rfl) (hline : (apos.endLine == mpos.line) = true := by rfl)
    (hse : starEach [Expr.Call (.Attribute o "values" apos) [] [] mpos] X.env = [(false, eval (Expr.Call (.Attribute o "values" apos) [] [] mpos) X.env)] := by rfl) :
    PE X (.Call (.Name "list" p) [.Call (.Attribute o "values" apos) [] [] mpos] [] pos) (tLstVals td) := by
  refine ⟨fun pins s σ H Q I h => ?_⟩
  refine Call_ (ld_blt I hg hm boot_list ?_)
  refine PyProof.Rows.callWith_type1 (PyProof.Rows.args_cons (wpAny_Call_method0_late hbase hline (thn (hd.run pins s σ H _ I h) fun v s1 ⟨x, H1, I1, r1, a, kvs, ex, ha, q⟩ => ?_)) hse) hse rfl
  subst ex
  obtain rfl : v = Value.ref a := r1
  obtain ⟨z, hsys, vs, rel, dof⟩ := dk_of I1.hok ha
  obtain ⟨ep, dat⟩ := dof.dictAt
  obtain ⟨ob, es, ho, ex, _⟩ := id dat
  refine ⟨"dict", "dict.values", F.plainAttrs_dict, F.slot_dict_values, F.type_dict_values, ⟨ob, ho, ex.1⟩, fun b e => by cases e; exact ⟨ob, ho, ex.2.1⟩, Calls.callWith_builtin rfl (PySem.evalArgs_none ?_)⟩
  refine call_meetsIn F.slot_dict_values ⟨ob, ho, ex.1⟩ F.entry_dict_values (F.args_dict_values_1 _) (meets_dict_values (mixKind X.prog X.w) a hsys) ⟨⟨vs, dof⟩, ?_⟩
  refine PyProof.Rows.args_nil ?_
  have lv : kvs.length = vs.length := KV.length rel
  refine PySem.W.kdl_call (PySem.W.kdl_values (knd := mixKind X.prog X.w) (kvs := vs) (ep := ep) (r := s1.heap.objs.size) (d := a)) (I.ok.hd hc) ⟨⟨_, Heap.get?_push_size _ rfl, rfl, rfl⟩, dat.keep fun b u e => Heap.get?_push_of_some _ e⟩ (by rw [← lv]; exact z) fun g tk acc cc k hob it => ?_
  have keep : ∀ b u, s1.heap.get? b = some u → g.get? b = some u := fun b u e => k b u (Heap.get?_push_of_some _ e)
  have rv : Vals (kvs.map (·.2)) acc.toList := vals_of_at ((List.length_map _).trans (lv.trans (it.1.symm.trans Array.length_toList.symm))) fun j x u h1 h2 => by
    obtain ⟨kk, hk⟩ := it.2 j u (by rw [← Array.getElem?_toList]; exact h2)
    obtain ⟨x', h3, h4⟩ := KV.at' rel hk
    rw [List.getElem?_map, h3] at h1
    cases h1
    exact h4
  have low : s1.heap.objs.size ≤ (s1.heap.push { cls := .type "dict_values", data := .fields #[.ref a] }).objs.size := by rw [size_push']; exact Nat.le_succ _
  refine ⟨.ref _, upd H1 _ (.lst (kvs.map (·.2))), I1.laid (t' := tk) keep low ⟨by rw [List.length_map]; exact z, acc.toList, cc, rv, ?_⟩, rfl, q _ (I1.hok.fresh low)⟩
  rw [Array.toArray_toList]
  exact hob

end
end Ph

namespace Ph
open PySem PySem.Spec PyProof.Rows L2
theorem BL.kp {H H' : Hp} {xs : List V} {bs : List Bk} (h : BL H xs bs) (kp : KpT H H') : BL H' xs bs := BL.mono kp h
theorem catSt {K : PySem.W.Frag} {H : Hp} {a b : Addr} {bs cs : List Bk} {Q : VK} (h1 : StAt H a bs) (h2 : StAt H b cs) (hl : bs.length + cs.length ≤ 10000) (q : ∀ H' p, Same H H' → StAt H' p (bs ++ cs) → Q (.ref p) H') : rCatA K (.ref a) (.ref b) H Q := by
  obtain ⟨xs, e1, b1⟩ := id h1
  obtain ⟨ys, e2, b2⟩ := id h2
  have l1 := b1.len
  have l2 := b2.len
  refine ⟨a, b, xs, ys, rfl, rfl, .inl (.inl e1), .inl (.inl e2), Nat.le_trans (show _ ≤ 10000 by omega) (by decide), fun z => ?_, fun _ z => ?_, fun _ _ p np => ?_⟩
  · have : bs = [] := by
      rw [z] at l1
      exact List.length_eq_zero_iff.mp l1.symm
    rw [this] at q
    exact q _ _ (Same.refl _) h2
  · have : cs = [] := by
      rw [z] at l2
      exact List.length_eq_zero_iff.mp l2.symm
    rw [this, List.append_nil] at q
    exact q _ _ (Same.refl _) h1
  · have s := same_upd (o := .tup (xs ++ ys)) np
    exact q _ _ s ⟨_, upd_same, (b1.app b2).mono fun t zs e => s _ _ e⟩
theorem perm_lex {l m : List Bk} (p : l.Perm m) (h1 : l.Pairwise fun x y => SrtO.lexB y x = false) (h2 : m.Pairwise fun x y => SrtO.lexB y x = false) : l = m :=
  p.eq_of_pairwise (fun a b _ _ x y => by
    have h3 := SrtO.lexB_no.mp x
    have h4 := SrtO.lexB_no.mp y
    exact Prod.ext (by omega) (by omega)) h1 h2
/-- blocks at 0, t, 2 t ..; the k-th has f k words -/
def bkl (t : Nat) (f : Nat → Nat) (n : Nat) : List Bk := (List.range n).map fun k => (((k * t : Nat) : Int), ((f k : Nat) : Int))
theorem bkl_succ (t : Nat) (f : Nat → Nat) (n : Nat) : bkl t f (n + 1) = bkl t f n ++ [(((n * t : Nat) : Int), ((f n : Nat) : Int))] := by
  unfold bkl
  rw [List.range_succ, List.map_append]
  rfl
theorem bkl_len (t : Nat) (f : Nat → Nat) (n : Nat) : (bkl t f n).length = n := by
  unfold bkl
  rw [List.length_map, List.length_range]
theorem bkl_get {t : Nat} {f : Nat → Nat} {n k : Nat} (h : k < n) : (bkl t f n)[k]? = some (((k * t : Nat) : Int), ((f k : Nat) : Int)) := by
  unfold bkl
  rw [List.getElem?_map, List.getElem?_range h]
  rfl
theorem bkl_mem {t : Nat} {f : Nat → Nat} {n : Nat} {b : Bk} : b ∈ bkl t f n ↔ ∃ k, k < n ∧ b = (((k * t : Nat) : Int), ((f k : Nat) : Int)) := by
  unfold bkl
  rw [List.mem_map]
  constructor
  · rintro ⟨k, hk, rfl⟩
    exact ⟨k, List.mem_range.mp hk, rfl⟩
  · rintro ⟨k, hk, rfl⟩
    exact ⟨k, List.mem_range.mpr hk, rfl⟩
theorem bkl_congr {t : Nat} {f g : Nat → Nat} {n : Nat} (h : ∀ k, k < n → f k = g k) : bkl t f n = bkl t g n := by
  unfold bkl
  refine List.map_congr_left fun k hk => ?_
  rw [h k (List.mem_range.mp hk)]
theorem bkl_sorted {t : Nat} (ht : 0 < t) (f : Nat → Nat) : ∀ n, (bkl t f n).Pairwise fun x y => SrtO.lexB y x = false
  | 0 => List.Pairwise.nil
  | n + 1 => by
    rw [bkl_succ, List.pairwise_append]
    refine ⟨bkl_sorted ht f n, List.pairwise_singleton _ _, fun a ha b hb => ?_⟩
    obtain ⟨k, hk, rfl⟩ := bkl_mem.mp ha
    rw [List.mem_singleton.mp hb]
    have : k * t < n * t := Nat.mul_lt_mul_of_pos_right hk ht
    exact SrtO.lexB_no.mpr (by dsimp only; omega)
theorem cdw_step {j r : Nat} (hr : 0 < r) : (j % r = 0 ∧ cdw j r = j / r ∧ cdw (j + 1) r = j / r + 1) ∨ (j % r ≠ 0 ∧ cdw j r = j / r + 1 ∧ cdw (j + 1) r = j / r + 1) := by
  have e : j = r * (j / r) + j % r := (Nat.div_add_mod j r).symm
  have m := Nat.mod_lt j hr
  generalize j / r = q at *
  generalize j % r = c at *
  subst e
  have h1 : ∀ x, x < r → cdw (r * q + 1 + x) r = q + 1 := fun x hx => by
    unfold cdw
    have : r * q + 1 + x + r - 1 = x + r * (q + 1) := by rw [Nat.mul_add, Nat.mul_one]; omega
    rw [this, Nat.add_mul_div_left _ _ hr, Nat.div_eq_of_lt hx]
    omega
  rcases Nat.eq_zero_or_pos c with z | z
  · subst z
    refine .inl ⟨rfl, ?_, ?_⟩
    · unfold cdw
      have : r * q + 0 + r - 1 = (r - 1) + r * q := by omega
      rw [this, Nat.add_mul_div_left _ _ hr, Nat.div_eq_of_lt (by omega)]
      omega
    · exact h1 0 hr
  · refine .inr ⟨by omega, ?_, ?_⟩
    · have := h1 (c - 1) (by omega)
      have e : r * q + 1 + (c - 1) = r * q + c := by omega
      rw [e] at this
      exact this
    · have := h1 c m
      have e : r * q + 1 + c = r * q + c + 1 := by omega
      rw [e] at this
      exact this
section
variable {X : Cx}
def rSetJ (K : PySem.W.Frag) (w : World) : List V → Hp → VK → Prop := fun vs H Q => ∃ (l : Addr) (ns : List Int), vs = [V.ref l] ∧ SqL K H l (ns.map V.int) ∧ ns.length + 1 < scanBound ∧ ∀ H' a c, Same H H' → H' a = some (SetO w a (fun j => decide (j ∈ ns)) c) → (ns.Nodup → c = ns.length) → Q (.ref a) H'
theorem cr_setJ (hc : X.calm = true) : CallR X (.type "set") (rSetJ X.K X.w) := fun pins s σ H vs us Q I r h => cr_setI hc pins s σ H vs us Q I r (by
  obtain ⟨l, ns, e, h1, h2, q⟩ := h
  exact ⟨l, ns, e, h1, h2, fun a c na hc => q _ a c (same_upd na) upd_same hc⟩)
end
theorem paired_mapL {α β γ : Type} {F : γ → β → Prop} {f : α → β} : ∀ {l : List α} {m : List γ}, Paired (fun a c => F c (f a)) l m → Paired F m (l.map f)
  | _, _, .nil => .nil
  | _, _, .cons h r => .cons h (paired_mapL r)
theorem inc_ext : ∀ {l m : List Int}, l.Pairwise (· < ·) → m.Pairwise (· < ·) → (∀ k, k ∈ l ↔ k ∈ m) → l = m
  | [], [], _, _, _ => rfl
  | [], y :: m, _, _, h => by have := (h y).mpr (List.mem_cons_self ..); cases this
  | x :: l, [], _, _, h => by have := (h x).mp (List.mem_cons_self ..); cases this
  | x :: l, y :: m, hl, hm, h => by
    obtain ⟨l1, l2⟩ := List.pairwise_cons.mp hl
    obtain ⟨m1, m2⟩ := List.pairwise_cons.mp hm
    have e : x = y := by
      have a := List.mem_cons.mp ((h x).mp (List.mem_cons_self ..))
      have b := List.mem_cons.mp ((h y).mpr (List.mem_cons_self ..))
      rcases a with a | a
      · exact a
      · rcases b with b | b
        · exact b.symm
        · have := m1 x a
          have := l1 y b
          omega
    subst e
    rw [inc_ext l2 m2 fun k => ?_]
    constructor
    · intro hk
      have := l1 k hk
      rcases List.mem_cons.mp ((h k).mp (List.mem_cons_of_mem _ hk)) with z | z
      · omega
      · exact z
    · intro hk
      have := m1 k hk
      rcases List.mem_cons.mp ((h k).mpr (List.mem_cons_of_mem _ hk)) with z | z
      · omega
      · exact z
end Ph

namespace Ph
open PySem PySem.Spec PyProof.Rows L2
/-! ### ranges with a step -/
def upS (x s : Int) : Int := -(-x / s) * s
theorem upS_ge {x s : Int} (hs : 0 < s) : x ≤ upS x s := by
  unfold upS
  have := Int.ediv_mul_le (-x) (b := s) (by omega)
  rw [Int.neg_mul]
  omega
theorem upS_lt {x s : Int} (hs : 0 < s) : upS x s < x + s := by
  unfold upS
  have := Int.lt_ediv_add_one_mul_self (-x) hs
  rw [Int.add_mul, Int.one_mul] at this
  rw [Int.neg_mul]
  omega
theorem upS_mod {x s : Int} : upS x s % s = 0 := by
  unfold upS
  exact Int.mul_emod_left _ _
/-- how many numbers a range gives -/
def rgN (i j c : Int) : Nat := (Builtin.Range.rangeSize i j c).toNat
theorem rgN_nonneg {i j c : Int} (hc : 0 < c) : 0 ≤ Builtin.Range.rangeSize i j c := by
  unfold Builtin.Range.rangeSize
  rw [if_pos hc]
  split
  · have : 0 ≤ (j - i - 1) / c := Int.ediv_nonneg (by omega) (by omega)
    omega
  · exact Int.le_refl _
theorem rgN_le {i j c : Int} (hc : 0 < c) : rgN i j c ≤ (j - i).toNat := by
  unfold rgN Builtin.Range.rangeSize
  rw [if_pos hc]
  split
  · have : (j - i - 1) / c ≤ j - i - 1 := Int.ediv_le_self _ (by omega)
    omega
  · simp
theorem rg3_inc {i c : Int} (hc : 0 < c) (n : Nat) : (rg3 i c n).Pairwise (· < ·) := by
  unfold rg3
  rw [List.pairwise_map]
  refine List.pairwise_lt_range.imp fun {a b} h => ?_
  have : (a : Int) * c < b * c := Int.mul_lt_mul_of_pos_right (by omega) hc
  omega
theorem mem_rg3 {i j c k : Int} (hc : 0 < c) : k ∈ rg3 i c (rgN i j c) ↔ i ≤ k ∧ k < j ∧ (k - i) % c = 0 := by
  have hn := rgN_nonneg (i := i) (j := j) hc
  unfold rg3
  rw [List.mem_map]
  constructor
  · rintro ⟨t, ht, rfl⟩
    have ht := List.mem_range.mp ht
    have t0 : 0 ≤ (t : Int) * c := Int.mul_nonneg (by omega) (by omega)
    have hl : (t : Int) < Builtin.Range.rangeSize i j c := by unfold rgN at ht; omega
    unfold Builtin.Range.rangeSize at hl
    rw [if_pos hc] at hl
    refine ⟨by omega, ?_, ?_⟩
    · split at hl
      · have h1 : (t : Int) * c ≤ (j - i - 1) / c * c := Int.mul_le_mul_of_nonneg_right (by omega) (by omega)
        have h2 := Int.ediv_mul_le (j - i - 1) (b := c) (by omega)
        omega
      · omega
    · rw [show i + (t : Int) * c - i = t * c by omega]
      exact Int.mul_emod_left _ _
  · rintro ⟨h1, h2, h3⟩
    obtain ⟨t, ht⟩ := Int.dvd_of_emod_eq_zero h3
    have t0 : 0 ≤ t := by
      by_cases z : 0 ≤ t
      · exact z
      · have : c * t < 0 := Int.mul_neg_of_pos_of_neg hc (by omega)
        omega
    refine ⟨t.toNat, List.mem_range.mpr ?_, ?_⟩
    · have hl : t < Builtin.Range.rangeSize i j c := by
        unfold Builtin.Range.rangeSize
        rw [if_pos hc, if_pos (by omega)]
        have : t ≤ (j - i - 1) / c := by
          rw [Int.le_ediv_iff_mul_le hc]
          rw [Int.mul_comm]
          omega
        omega
      unfold rgN
      omega
    · rw [Int.toNat_of_nonneg t0, Int.mul_comm]
      omega
theorem inc_append {l m : List Int} (hl : l.Pairwise (· < ·)) (hm : m.Pairwise (· < ·)) (h : ∀ a ∈ l, ∀ b ∈ m, a < b) : (l ++ m).Pairwise (· < ·) := List.pairwise_append.mpr ⟨hl, hm, h⟩
/-! ### places -/
def plf (s : Int) : Int → List Bk → List Int
  | _, [] => []
  | ff, b :: r => rg3 (upS ff s) s (rgN (upS ff s) (b.1 - s + 1) s) ++ plf s (b.1 + b.2) r
def free (s : Int) (bs : List Bk) (W k : Int) : Prop := k % s = 0 ∧ 0 ≤ k ∧ k + s ≤ W ∧ ∀ b ∈ bs, k + s ≤ b.1 ∨ b.1 + b.2 ≤ k
theorem up_mod {s ff k : Int} (hs : 0 < s) : upS ff s ≤ k ∧ (k - upS ff s) % s = 0 ↔ ff ≤ k ∧ k % s = 0 := by
  have h1 := upS_ge (x := ff) hs
  have h2 := upS_lt (x := ff) hs
  have h3 := upS_mod (x := ff) (s := s)
  obtain ⟨q, hq⟩ := Int.dvd_of_emod_eq_zero h3
  constructor
  · rintro ⟨a, b⟩
    refine ⟨by omega, ?_⟩
    obtain ⟨r, hr⟩ := Int.dvd_of_emod_eq_zero b
    have : k = s * (q + r) := by rw [Int.mul_add]; omega
    rw [this]
    exact Int.mul_emod_right _ _
  · rintro ⟨a, b⟩
    obtain ⟨r, hr⟩ := Int.dvd_of_emod_eq_zero b
    have e : k - upS ff s = s * (r - q) := by rw [Int.mul_sub]; omega
    refine ⟨?_, by rw [e]; exact Int.mul_emod_right _ _⟩
    by_cases z : upS ff s ≤ k
    · exact z
    · exfalso
      have : r - q < 0 := by
        by_cases z2 : r - q < 0
        · exact z2
        · have : 0 ≤ s * (r - q) := Int.mul_nonneg (by omega) (by omega)
          omega
      have h5 : s * (r - q) ≤ s * (-1) := Int.mul_le_mul_of_nonneg_left (by omega) (by omega)
      omega
theorem plf_mem {s W : Int} (hs : 0 < s) : ∀ (bs : List Bk) (ff : Int), (∀ b ∈ bs, ff ≤ b.1 ∧ 1 ≤ b.2 ∧ b.1 + b.2 ≤ W) → bs.Pairwise (fun b c => b.1 + b.2 ≤ c.1) → ff ≤ W → ∀ k, k ∈ plf s ff (bs ++ [(W, 0)]) ↔ k % s = 0 ∧ ff ≤ k ∧ k + s ≤ W ∧ ∀ b ∈ bs, k + s ≤ b.1 ∨ b.1 + b.2 ≤ k
  | [], ff, _, _, _, k => by
    show k ∈ rg3 (upS ff s) s (rgN (upS ff s) (W - s + 1) s) ++ [] ↔ _
    rw [List.append_nil, mem_rg3 hs]
    have h := up_mod (ff := ff) (k := k) hs
    constructor
    · rintro ⟨a, b, c⟩
      obtain ⟨d, e⟩ := h.mp ⟨a, c⟩
      exact ⟨e, d, by omega, fun b hb => by cases hb⟩
    · rintro ⟨a, b, c, _⟩
      obtain ⟨d, e⟩ := h.mpr ⟨b, a⟩
      exact ⟨d, by omega, e⟩
  | b :: r, ff, hb, hp, hW, k => by
    obtain ⟨p1, p2⟩ := List.pairwise_cons.mp hp
    obtain ⟨b1, b2, b3⟩ := hb b (List.mem_cons_self ..)
    have ih := plf_mem hs r (b.1 + b.2) (fun c hc => ⟨p1 c hc, (hb c (List.mem_cons_of_mem _ hc)).2⟩) p2 b3 k
    show k ∈ rg3 (upS ff s) s (rgN (upS ff s) (b.1 - s + 1) s) ++ plf s (b.1 + b.2) (r ++ [(W, 0)]) ↔ _
    rw [List.mem_append, mem_rg3 hs, ih]
    have h := up_mod (ff := ff) (k := k) hs
    constructor
    · rintro (⟨a, c, d⟩ | ⟨a, c, d, e⟩)
      · obtain ⟨f, g⟩ := h.mp ⟨a, d⟩
        refine ⟨g, f, by omega, fun x hx => ?_⟩
        rcases List.mem_cons.mp hx with z | z
        · rw [z]; left; omega
        · have := p1 x z
          left; omega
      · refine ⟨a, by omega, d, fun x hx => ?_⟩
        rcases List.mem_cons.mp hx with z | z
        · rw [z]; right; exact c
        · exact e x z
    · rintro ⟨a, c, d, e⟩
      rcases e b (List.mem_cons_self ..) with z | z
      · obtain ⟨f, g⟩ := h.mpr ⟨c, a⟩
        exact .inl ⟨f, by omega, g⟩
      · exact .inr ⟨a, z, d, fun x hx => e x (List.mem_cons_of_mem _ hx)⟩
theorem plf_inc {s W : Int} (hs : 0 < s) : ∀ (bs : List Bk) (ff : Int), (∀ b ∈ bs, ff ≤ b.1 ∧ 1 ≤ b.2 ∧ b.1 + b.2 ≤ W) → bs.Pairwise (fun b c => b.1 + b.2 ≤ c.1) → ff ≤ W → (plf s ff (bs ++ [(W, 0)])).Pairwise (· < ·)
  | [], ff, _, _, _ => by
    show (rg3 (upS ff s) s (rgN (upS ff s) (W - s + 1) s) ++ []).Pairwise (· < ·)
    rw [List.append_nil]
    exact rg3_inc hs _
  | b :: r, ff, hb, hp, hW => by
    obtain ⟨p1, p2⟩ := List.pairwise_cons.mp hp
    obtain ⟨b1, b2, b3⟩ := hb b (List.mem_cons_self ..)
    have hb' : ∀ c ∈ r, b.1 + b.2 ≤ c.1 ∧ 1 ≤ c.2 ∧ c.1 + c.2 ≤ W := fun c hc => ⟨p1 c hc, (hb c (List.mem_cons_of_mem _ hc)).2⟩
    refine inc_append (rg3_inc hs _) (plf_inc hs r (b.1 + b.2) hb' p2 b3) fun x hx y hy => ?_
    have h1 := ((mem_rg3 hs).mp hx).2.1
    have h2 := ((plf_mem hs r (b.1 + b.2) hb' p2 b3 y).mp hy).2.1
    omega
theorem St.bnd {C : List Int} {W : Int} {bs : List Bk} (st : St C W bs) : ∀ b ∈ bs, 0 ≤ b.1 ∧ 1 ≤ b.2 ∧ b.1 + b.2 ≤ W := fun b hb => let ⟨_, h1, h2, _, h3⟩ := st.ok b hb; ⟨h2, h1, h3⟩
/-! ### a state behind another one -/
def fin : Int → List Bk → Int
  | ff, [] => ff
  | _, b :: r => fin (b.1 + b.2) r
theorem fin_snoc : ∀ (l : List Bk) (ff : Int) (b : Bk), fin ff (l ++ [b]) = b.1 + b.2
  | [], _, _ => rfl
  | _ :: r, _, b => fin_snoc r _ b
theorem plf_snoc (s : Int) : ∀ (l : List Bk) (ff : Int) (b : Bk), plf s ff (l ++ [b]) = plf s ff l ++ rg3 (upS (fin ff l) s) s (rgN (upS (fin ff l) s) (b.1 - s + 1) s)
  | [], ff, b => by
    show rg3 _ _ _ ++ [] = [] ++ _
    rw [List.append_nil]
    rfl
  | c :: r, ff, b => by
    show rg3 _ _ _ ++ plf s (c.1 + c.2) (r ++ [b]) = (rg3 _ _ _ ++ plf s (c.1 + c.2) r) ++ _
    rw [plf_snoc s r, List.append_assoc]
    rfl
theorem rg3_len (i c : Int) (n : Nat) : (rg3 i c n).length = n := by unfold rg3; simp
theorem plf_len {s : Int} (hs : 0 < s) : ∀ (l : List Bk) (ff e : Int), (∀ b ∈ l, ff ≤ b.1 ∧ 0 ≤ b.2 ∧ b.1 + b.2 ≤ e) → l.Pairwise (fun b c => b.1 + b.2 ≤ c.1) → ff ≤ e → (plf s ff l).length ≤ (e - ff).toNat
  | [], ff, e, _, _, _ => by show 0 ≤ _; omega
  | b :: r, ff, e, hb, hp, he => by
    obtain ⟨p1, p2⟩ := List.pairwise_cons.mp hp
    obtain ⟨b1, b2, b3⟩ := hb b (List.mem_cons_self ..)
    have ih := plf_len hs r (b.1 + b.2) e (fun c hc => ⟨p1 c hc, (hb c (List.mem_cons_of_mem _ hc)).2⟩) p2 b3
    show (rg3 _ _ _ ++ plf s (b.1 + b.2) r).length ≤ _
    rw [List.length_append, rg3_len]
    have h1 := rgN_le (i := upS ff s) (j := b.1 - s + 1) hs
    have h2 := upS_ge (x := ff) hs
    omega
theorem fin_bnd : ∀ (l : List Bk) (ff e : Int), (∀ b ∈ l, ff ≤ b.1 ∧ 0 ≤ b.2 ∧ b.1 + b.2 ≤ e) → ff ≤ e → l.Pairwise (fun b c => b.1 + b.2 ≤ c.1) → ff ≤ fin ff l ∧ fin ff l ≤ e
  | [], ff, e, _, he, _ => ⟨Int.le_refl _, he⟩
  | b :: r, ff, e, hb, he, hp => by
    obtain ⟨p1, p2⟩ := List.pairwise_cons.mp hp
    obtain ⟨b1, b2, b3⟩ := hb b (List.mem_cons_self ..)
    have ih := fin_bnd r (b.1 + b.2) e (fun c hc => ⟨p1 c hc, (hb c (List.mem_cons_of_mem _ hc)).2⟩) b3 p2
    show ff ≤ fin (b.1 + b.2) r ∧ _
    exact ⟨by omega, ih.2⟩
theorem RgC.up {i j c : Int} (hc : 0 < c) (hc2 : c < 1073741824) (hi : -(2 ^ 61) ≤ i ∧ i < 2 ^ 61) (hj : -(2 ^ 61) ≤ j ∧ j < 2 ^ 61) : RgC i j c (rgN i j c) := by
  have h1 := rgN_le (i := i) (j := j) hc
  have h0 := rgN_nonneg (i := i) (j := j) hc
  have h2 : Builtin.Range.rangeSize i j c = ((rgN i j c : Nat) : Int) := by unfold rgN; omega
  refine ⟨by omega, by omega, ?_, h2⟩
  unfold Builtin.Range.small
  rw [h2]
  simp only [Builtin.Range.rangeFitsLong, Bool.and_eq_true, Bool.or_eq_true, decide_eq_true_eq, beq_iff_eq, if_pos hc]
  omega
theorem St.asc0 {C : List Int} {W : Int} {bs : List Bk} (st : St C W bs) (h0 : 0 ≤ W) : (∀ b ∈ bs ++ [(W, 0)], 0 ≤ b.1 ∧ 0 ≤ b.2 ∧ b.1 + b.2 ≤ W) ∧ (bs ++ [(W, 0)]).Pairwise (fun b c : Bk => b.1 + b.2 ≤ c.1) := by
  refine ⟨fun b hb => ?_, List.pairwise_append.mpr ⟨st.asc, by simp, fun b hb c hc => ?_⟩⟩
  · rcases List.mem_append.mp hb with z | z
    · have := st.bnd b z
      omega
    · rw [List.mem_singleton.mp z]
      dsimp only
      omega
  · rw [List.mem_singleton.mp hc]
    exact (st.bnd b hb).2.2
theorem plf_gap {s x : Int} (hs : 0 < s) (ff a : Int) : rg3 (upS ff s) s (rgN (upS ff s) (a - s + 1) s) = if upS ff s ≤ (a - s) / s * s then rg3 (upS ff s) s (rgN (upS ff s) ((a - s) / s * s + 1) s) else [] := by
  have key : ∀ k, k % s = 0 → (k ≤ a - s ↔ k ≤ (a - s) / s * s) := fun k hk => by
    have e : k = k / s * s := by
      have := Int.mul_ediv_add_emod k s
      rw [hk, Int.mul_comm] at this
      omega
    constructor
    · intro h
      have h1 : k / s ≤ (a - s) / s := Int.ediv_le_ediv hs h
      have := Int.mul_le_mul_of_nonneg_right h1 (Int.le_of_lt hs)
      omega
    · intro h
      have := Int.ediv_mul_le (a - s) (b := s) (by omega)
      omega
  have um : upS ff s % s = 0 := upS_mod
  have mm : ∀ k, (k - upS ff s) % s = 0 → k % s = 0 := fun k h => by
    have e : k = (k - upS ff s) + upS ff s := by omega
    rw [e, Int.add_emod, h, um]
    simp
  split
  · refine inc_ext (rg3_inc hs _) (rg3_inc hs _) fun k => ?_
    rw [mem_rg3 hs, mem_rg3 hs]
    constructor
    · rintro ⟨h1, h2, h3⟩
      have := (key k (mm k h3)).mp (by omega)
      exact ⟨h1, by omega, h3⟩
    · rintro ⟨h1, h2, h3⟩
      have := (key k (mm k h3)).mpr (by omega)
      exact ⟨h1, by omega, h3⟩
  · rename_i h
    cases e : rg3 (upS ff s) s (rgN (upS ff s) (a - s + 1) s) with
    | nil => rfl
    | cons k r =>
      have hk : k ∈ rg3 (upS ff s) s (rgN (upS ff s) (a - s + 1) s) := by rw [e]; exact List.mem_cons_self ..
      rw [mem_rg3 hs] at hk
      have := (key (upS ff s) um).mp (by omega)
      omega
def gp1 (s ff : Int) (b : Bk) : List Bk := if upS ff s ≤ (b.1 - s) / s * s then [(upS ff s, (b.1 - s) / s * s)] else []
def gpf (s : Int) : Int → List Bk → List Bk
  | _, [] => []
  | ff, b :: r => gp1 s ff b ++ gpf s (b.1 + b.2) r
theorem gpf_snoc (s : Int) : ∀ (l : List Bk) (ff : Int) (b : Bk), gpf s ff (l ++ [b]) = gpf s ff l ++ gp1 s (fin ff l) b
  | [], ff, b => by show gp1 s ff b ++ [] = [] ++ _; rw [List.append_nil]; rfl
  | c :: r, ff, b => by
    show gp1 s ff c ++ gpf s (c.1 + c.2) (r ++ [b]) = gp1 s ff c ++ gpf s (c.1 + c.2) r ++ _
    rw [gpf_snoc s r, List.append_assoc]
    rfl
def gpr (s : Int) (g : Bk) : List Int := rg3 g.1 s (rgN g.1 (g.2 + 1) s)
theorem plf_gpf {s : Int} (hs : 0 < s) : ∀ (l : List Bk) (ff : Int), plf s ff l = (gpf s ff l).flatMap (gpr s)
  | [], _ => rfl
  | b :: r, ff => by
    show rg3 (upS ff s) s (rgN (upS ff s) (b.1 - s + 1) s) ++ plf s (b.1 + b.2) r = (gp1 s ff b ++ gpf s (b.1 + b.2) r).flatMap (gpr s)
    rw [plf_gpf hs r, plf_gap (x := 0) hs, List.flatMap_append]
    congr 1
    unfold gp1
    split
    · rw [List.flatMap_cons, List.flatMap_nil, List.append_nil]
      rfl
    · rfl
theorem gpf_bnd {s W : Int} (hs : 0 < s) : ∀ (l : List Bk) (ff : Int), (∀ b ∈ l, 0 ≤ b.1 ∧ 0 ≤ b.2 ∧ b.1 + b.2 ≤ W) → 0 ≤ ff → ∀ g ∈ gpf s ff l, 0 ≤ g.1 ∧ g.1 ≤ g.2 ∧ g.2 ≤ W
  | [], _, _, _, g, hg => by cases hg
  | b :: r, ff, h, hf, g, hg => by
    obtain ⟨b1, b2, b3⟩ := h b (List.mem_cons_self ..)
    rcases List.mem_append.mp hg with z | z
    · unfold gp1 at z
      split at z
      · rename_i c
        rw [List.mem_singleton.mp z]
        have := upS_ge (x := ff) hs
        have := Int.ediv_mul_le (b.1 - s) (b := s) (by omega)
        exact ⟨by show 0 ≤ upS ff s; omega, c, by show (b.1 - s) / s * s ≤ W; omega⟩
      · cases z
    · exact gpf_bnd hs r (b.1 + b.2) (fun c hc => h c (List.mem_cons_of_mem _ hc)) (by omega) g z
theorem gpf_len (s : Int) : ∀ (l : List Bk) (ff : Int), (gpf s ff l).length ≤ l.length
  | [], _ => Nat.le_refl _
  | b :: r, ff => by
    show (gp1 s ff b ++ _).length ≤ _
    have h1 := gpf_len s r (b.1 + b.2)
    have h2 : (gp1 s ff b).length ≤ 1 := by unfold gp1; split <;> simp
    rw [List.length_append, List.length_cons]
    omega
end Ph

namespace Ph
open PySem PySem.Spec PyProof.Rows L2
/-! ### the lowest place: guarantees (a) and (c) -/
theorem sm_addR (f : Nat → Nat) (a : Nat) : ∀ c, sm f (a + c) = sm f a + sm (fun x => f (a + x)) c
  | 0 => rfl
  | c + 1 => by
    show sm f (a + c) + f (a + c) = sm f a + (sm (fun x => f (a + x)) c + f (a + c))
    rw [sm_addR f a c]
    omega
theorem sm_chunks (f : Nat → Nat) (S : Nat) : ∀ n, sm f (n * S) = sm (fun k => sm (fun x => f (k * S + x)) S) n
  | 0 => by rw [Nat.zero_mul]; rfl
  | n + 1 => by
    rw [Nat.add_mul, Nat.one_mul, sm_addR, sm_chunks f S n]
    rfl
theorem sm_plus (f g : Nat → Nat) : ∀ n, sm (fun x => f x + g x) n = sm f n + sm g n
  | 0 => rfl
  | n + 1 => by
    show sm (fun x => f x + g x) n + (f n + g n) = sm f n + f n + (sm g n + g n)
    rw [sm_plus f g n]
    omega
def ind (a l x : Nat) : Nat := if a ≤ x ∧ x < a + l then 1 else 0
theorem sm_ind (a l : Nat) : ∀ n, sm (ind a l) n = min n (a + l) - min n a
  | 0 => by show 0 = _; omega
  | n + 1 => by
    show sm (ind a l) n + ind a l n = _
    rw [sm_ind a l n]
    unfold ind
    split <;> omega
def ocB (b : Bk) (x : Nat) : Nat := ind b.1.toNat b.2.toNat x
def occ (bs : List Bk) (x : Nat) : Nat := if bs.any (fun b => decide (ocB b x = 1)) = true then 1 else 0
theorem ocB_le (b : Bk) (x : Nat) : ocB b x ≤ 1 := by unfold ocB ind; split <;> omega
theorem occ_cons (b : Bk) (r : List Bk) (x : Nat) : occ (b :: r) x ≤ ocB b x + occ r x := by
  unfold occ
  rw [List.any_cons]
  have := ocB_le b x
  by_cases h : ocB b x = 1
  · rw [h]; split <;> split <;> omega
  · have e : decide (ocB b x = 1) = false := decide_eq_false h
    rw [e, Bool.false_or]
    omega
theorem occ_ge {b : Bk} {bs : List Bk} (h : b ∈ bs) (x : Nat) : ocB b x ≤ occ bs x := by
  unfold occ
  by_cases e : ocB b x = 1
  · rw [if_pos (List.any_eq_true.mpr ⟨b, h, decide_eq_true e⟩)]
    omega
  · have := ocB_le b x
    omega
def totN (bs : List Bk) : Nat := (bs.map fun b => b.2.toNat).sum
theorem occ_sum (N : Nat) : ∀ bs : List Bk, sm (occ bs) N ≤ totN bs
  | [] => by
    have : sm (occ []) N ≤ sm (fun _ => 0) N := sm_le fun k _ => by unfold occ; simp
    have z : ∀ n, sm (fun _ => 0) n = 0 := fun n => by
      induction n with
      | zero => rfl
      | succ n ih => show sm (fun _ => 0) n + 0 = 0; omega
    rw [z] at this
    exact Nat.le_trans this (Nat.zero_le _)
  | b :: r => by
    have h1 : sm (occ (b :: r)) N ≤ sm (fun x => ocB b x + occ r x) N := sm_le fun k _ => occ_cons b r k
    rw [sm_plus] at h1
    have h2 := occ_sum N r
    have h3 : sm (ocB b) N ≤ b.2.toNat := by
      show sm (ind b.1.toNat b.2.toNat) N ≤ _
      rw [sm_ind]
      omega
    unfold totN at *
    rw [List.map_cons, List.sum_cons]
    omega
/-- blocks of a chain, at their multiples -/
def Bok (s : Nat → Nat) (p : Nat) (bs : List Bk) : Prop := ∀ b ∈ bs, ∃ (a j : Nat), j ≤ p ∧ b = (((a * s j : Nat) : Int), ((s j : Nat) : Int))
/-- a chunk with a block has at least as many words as the block, or all -/
theorem chunk_ge {s : Nat → Nat} {p i j k a : Nat} {bs : List Bk} (c : CH s (p + 1)) (hi : i ≤ p) (hj : j ≤ p) (hb : (((a * s j : Nat) : Int), ((s j : Nat) : Int)) ∈ bs) (o1 : a * s j < (k + 1) * s i) (o2 : k * s i < a * s j + s j) :
    (j ≤ i ∧ k * s i ≤ a * s j ∧ s j ≤ sm (fun x => occ bs (k * s i + x)) (s i)) ∨ (i ≤ j ∧ s i ≤ sm (fun x => occ bs (k * s i + x)) (s i)) := by
  have pi := c.pos (i := i) (by omega)
  have pj := c.pos (i := j) (by omega)
  have low : sm (fun x => ind (a * s j) (s j) (k * s i + x)) (s i) ≤ sm (fun x => occ bs (k * s i + x)) (s i) := sm_le fun x _ => by
    have := occ_ge hb (k * s i + x)
    unfold ocB at this
    simp only [Int.toNat_natCast] at this
    exact this
  have val : sm (fun x => ind (a * s j) (s j) (k * s i + x)) (s i) = (min (k * s i + s i) (a * s j + s j) - min (k * s i + s i) (a * s j)) - (min (k * s i) (a * s j + s j) - min (k * s i) (a * s j)) := by
    have h := sm_addR (ind (a * s j) (s j)) (k * s i) (s i)
    rw [sm_ind, sm_ind] at h
    omega
  rw [val] at low
  rw [Nat.add_mul, Nat.one_mul] at o1
  rcases Nat.le_total j i with h | h
  · obtain ⟨r, r1, er⟩ := c.dvd h (by omega)
    left
    have e1 : k * s i = k * r * s j := by rw [er, Nat.mul_comm (s j) r, Nat.mul_assoc]
    have e2 : k * s i + s i = (k * r + r) * s j := by rw [Nat.add_mul, ← e1, er, Nat.mul_comm (s j) r]
    have l1 : k * r ≤ a := by
      rw [e1] at o2
      have : k * r * s j < (a + 1) * s j := by rw [Nat.add_mul, Nat.one_mul]; exact o2
      exact Nat.le_of_lt_succ (Nat.lt_of_mul_lt_mul_right this)
    have l2 : a + 1 ≤ k * r + r := by
      rw [e2] at o1
      exact Nat.lt_of_mul_lt_mul_right o1
    have m1 : k * s i ≤ a * s j := by rw [e1]; exact Nat.mul_le_mul_right _ l1
    have m2 : a * s j + s j ≤ k * s i + s i := by
      rw [e2]
      have := Nat.mul_le_mul_right (s j) l2
      rw [Nat.add_mul, Nat.one_mul] at this
      exact this
    refine ⟨h, m1, ?_⟩
    omega
  · obtain ⟨r, r1, er⟩ := c.dvd h (by omega)
    right
    have e1 : a * s j = a * r * s i := by rw [er, Nat.mul_comm (s i) r, Nat.mul_assoc]
    have e2 : a * s j + s j = (a * r + r) * s i := by rw [Nat.add_mul, ← e1, er, Nat.mul_comm (s i) r]
    have l1 : a * r ≤ k := by
      rw [e1] at o1
      have : a * r * s i < (k + 1) * s i := by rw [Nat.add_mul, Nat.one_mul]; exact o1
      exact Nat.le_of_lt_succ (Nat.lt_of_mul_lt_mul_right this)
    have l2 : k + 1 ≤ a * r + r := by
      rw [e2] at o2
      exact Nat.lt_of_mul_lt_mul_right o2
    have m1 : a * s j ≤ k * s i := by rw [e1]; exact Nat.mul_le_mul_right _ l1
    have m2 : k * s i + s i ≤ a * s j + s j := by
      rw [e2]
      have := Nat.mul_le_mul_right (s i) l2
      rw [Nat.add_mul, Nat.one_mul] at this
      exact this
    refine ⟨h, ?_⟩
    omega
theorem bfn_mono1 {s ρ : Nat → Nat} {M p : Nat} (c : CH s (p + 1)) {i : Nat} : ∀ {j}, i ≤ j → j ≤ p → bfn s ρ M i ≤ bfn s ρ M j
  | 0, h, _ => by rw [Nat.le_zero.mp h]; exact Nat.le_refl _
  | j + 1, h, h2 => by
    rcases Nat.lt_or_ge i (j + 1) with z | z
    · exact Nat.le_trans (bfn_mono1 c (by omega) (by omega)) (bfn_up (c.pos (by omega)))
    · have : i = j + 1 := by omega
      rw [this]; exact Nat.le_refl _
/-- all chunks below are taken and the limit allows one more block: it ends within the outlook -/
theorem low_end {s ρ : Nat → Nat} {p i n M : Nat} {bs : List Bk} (c : CH s (p + 1)) (hi : i ≤ p) (ok : Bok s p bs) (rc : ∀ (a j : Nat), j ≤ p → (((a * s j : Nat) : Int), ((s j : Nat) : Int)) ∈ bs → a * s j + s j ≤ ρ j)
    (full : ∀ k, k < n → ∃ b ∈ bs, b.1 < (((k + 1) * s i : Nat) : Int) ∧ ((k * s i : Nat) : Int) < b.1 + b.2) (lim : totN bs + s i ≤ M) : (n + 1) * s i ≤ bfn s ρ M i := by
  have sum1 : sm (fun k => s (cls (bfn s ρ M) i (k * s i))) n ≤ totN bs := by
    refine Nat.le_trans ?_ (occ_sum (n * s i) bs)
    rw [sm_chunks]
    refine sm_le fun k hk => ?_
    obtain ⟨b, hb, o1, o2⟩ := full k hk
    obtain ⟨a, j, hj, rfl⟩ := ok b hb
    dsimp only at o1 o2
    rcases chunk_ge (k := k) c hi hj hb (by omega) (by omega) with ⟨h1, h2, h3⟩ | ⟨h1, h2⟩
    · refine Nat.le_trans ?_ h3
      have r := rc a j hj hb
      have g : ρ j ≤ bfn s ρ M j := bfn_ge
      have pj := c.pos (i := j) (by omega)
      have : cls (bfn s ρ M) i (k * s i) ≤ j := by
        rcases Nat.lt_or_ge j (cls (bfn s ρ M) i (k * s i)) with z | z
        · have := cls_lo z
          omega
        · exact z
      exact c.mono this (by omega)
    · exact Nat.le_trans (c.mono (cls_le _ _ _) (by omega)) h2
  have last : s (cls (bfn s ρ M) i (n * s i)) ≤ s i := c.mono (cls_le _ _ _) (by omega)
  have sum2 : sm (fun k => s (cls (bfn s ρ M) i (k * s i))) (n + 1) ≤ M := by
    show sm (fun k => s (cls (bfn s ρ M) i (k * s i))) n + s (cls (bfn s ρ M) i (n * s i)) ≤ M
    omega
  cases i with
  | zero =>
    rw [bfn_zero, c.s0, Nat.mul_one]
    have : (n + 1) * 1 ≤ sm (fun k => s (cls (bfn s ρ M) 0 (k * s 0))) (n + 1) := sm_ge fun k _ => by
      show 1 ≤ s 0
      rw [c.s0]; exact Nat.le_refl _
    have := Nat.le_max_left M (ρ 0)
    omega
  | succ i =>
    have S0 := c.pos (i := i + 1) (by omega)
    have h := (ov_iff (s := s) (b := bfn s ρ M) (i := i) (n := n + 1) (M := M) S0 (fun j hj => bfn_up (c.pos (by omega)))).mpr (.inr sum2)
    rw [bfn_succ]
    refine Nat.le_trans ?_ (Nat.le_max_right _ _)
    rw [Nat.mul_comm]
    exact Nat.mul_le_mul_left _ h
/-- reaches within an outlook do not raise it -/
theorem bfn_idem {s ρ : Nat → Nat} {M : Nat} : ∀ i, bfn s (bfn s ρ M) M i = bfn s ρ M i := by
  have key : ∀ n i, i ≤ n → bfn s (bfn s ρ M) M i = bfn s ρ M i := by
    intro n
    induction n with
    | zero =>
      intro i h
      rw [Nat.le_zero.mp h, bfn_zero, bfn_zero]
      omega
    | succ n ih =>
      intro i h
      rcases Nat.lt_or_ge i (n + 1) with z | z
      · exact ih i (by omega)
      · have e : i = n + 1 := by omega
        subst e
        rw [bfn_succ s (bfn s ρ M), ih n (by omega), lw_congr (b' := bfn s ρ M) (fun j hj => ih j (by omega)), bfn_succ s ρ]
        omega
  exact fun i => key i i (Nat.le_refl _)
theorem bfn_within {s ρ ρ' : Nat → Nat} {m M : Nat} (c : CH s m) (h : ∀ i, i < m → ρ' i ≤ bfn s ρ M i) : ∀ i, i < m → bfn s ρ' M i ≤ bfn s ρ M i := fun i hi => by
  have := bfn_mono (s := s) (ρ := bfn s ρ M) (ρ' := ρ') (M := M) (M' := M) c h (Nat.le_refl _) i hi
  rw [bfn_idem] at this
  exact this
theorem cut_oneL {s : Nat → Nat} {p : Nat} : cutV ((tl s (p + 1)).map V.int) (some 1) none = (tl (fun i => s (i + 1)) p).map V.int := by
  have e : (tl s (p + 1)).map V.int = V.int ((s 0 : Nat) : Int) :: (tl (fun i => s (i + 1)) p).map V.int := by
    unfold tl
    rw [List.range_succ_eq_map, List.map_cons, List.map_cons, List.map_map, List.map_map, List.map_map]
    rfl
  rw [e]
  unfold cutV HT.sIx
  simp [tl_len]
  exact List.take_of_length_le (by rw [List.length_map, tl_len]; exact Nat.le_refl _)
theorem BL.at0 {H : Hp} {xs : List V} {b : Bk} {bs : List Bk} (h : BL H xs (b :: bs)) : ∃ x, xs[0]? = some x ∧ BkAt H x b := Paired.get2 h (i := 0) rfl
end Ph

namespace Ph
open PySem PySem.Spec PyProof.Rows L2
/-! ### heaps as objects -/
def hf (c : Addr) (pg M : Int) (t l : Addr) : List (Str × V) := [("chain", .ref c), ("pages", .int pg), ("limit", .int M), ("rule", .str "lowest"), ("blocks", .ref t), ("steps", .ref l)]
theorem hf_chain {c t l : Addr} {pg M : Int} : (hf c pg M t l).lookup ("chain" : Str) = some (.ref c) := rfl
theorem hf_pages {c t l : Addr} {pg M : Int} : (hf c pg M t l).lookup ("pages" : Str) = some (.int pg) := rfl
theorem hf_limit {c t l : Addr} {pg M : Int} : (hf c pg M t l).lookup ("limit" : Str) = some (.int M) := rfl
theorem hf_rule {c t l : Addr} {pg M : Int} : (hf c pg M t l).lookup ("rule" : Str) = some (.str "lowest") := rfl
theorem hf_blocks {c t l : Addr} {pg M : Int} : (hf c pg M t l).lookup ("blocks" : Str) = some (.ref t) := rfl
theorem hf_steps {c t l : Addr} {pg M : Int} : (hf c pg M t l).lookup ("steps" : Str) = some (.ref l) := rfl
theorem hf_put {c t l u : Addr} {pg M : Int} : putF "blocks" (.ref u) (hf c pg M t l) = hf c pg M u l := rfl
/-- what changes at h and at l alone -/
def Fr (h l : Addr) (H H' : Hp) : Prop := ∀ b o, b ≠ h → b ≠ l → H b = some o → H' b = some o
theorem Fr.refl (h l : Addr) (H : Hp) : Fr h l H H := fun _ _ _ _ e => e
theorem Fr.trans {h l : Addr} {H H1 H2 : Hp} (a : Fr h l H H1) (b : Fr h l H1 H2) : Fr h l H H2 := fun c o n1 n2 e => b c o n1 n2 (a c o n1 n2 e)
theorem _root_.L2.Same.fr {h l : Addr} {H H' : Hp} (s : Same H H') : Fr h l H H' := fun _ _ _ _ e => s _ _ e
/-- a heap object at h, its steps at l -/
structure HpA (C : Addr) (H : Hp) (h l c : Addr) (s : Nat → Nat) (p pg M : Nat) (bs : List Bk) (n : Nat) (dx t : Addr) (xs : List V) : Prop where
  ob : H h = some (.ins C dx (hf c pg M t l))
  ch : ChAt H c (tl s (p + 1))
  st : StAt H t bs
  ls : H l = some (.lst xs)
  ln : xs.length ≤ n
def HpAt (C : Addr) (H : Hp) (h l c : Addr) (s : Nat → Nat) (p pg M : Nat) (bs : List Bk) (n : Nat) : Prop := ∃ dx t xs, HpA C H h l c s p pg M bs n dx t xs
theorem HpAt.same {C : Addr} {H H' : Hp} {h l c : Addr} {s : Nat → Nat} {p pg M : Nat} {bs : List Bk} {n : Nat} (a : HpAt C H h l c s p pg M bs n) (sm : Same H H') : HpAt C H' h l c s p pg M bs n := by
  obtain ⟨dx, t, xs, a⟩ := a
  exact ⟨dx, t, xs, sm _ _ a.ob, a.ch.keep sm, a.st.same sm, sm _ _ a.ls, a.ln⟩
theorem HpAt.up {C : Addr} {H : Hp} {h l c : Addr} {s : Nat → Nat} {p pg M : Nat} {bs : List Bk} {n m : Nat} (a : HpAt C H h l c s p pg M bs n) (le : n ≤ m) : HpAt C H h l c s p pg M bs m := by
  obtain ⟨dx, t, xs, a⟩ := a
  exact ⟨dx, t, xs, a.ob, a.ch, a.st, a.ls, Nat.le_trans a.ln le⟩
theorem StAt.mono {H H' : Hp} {t : Addr} {bs : List Bk} (h : StAt H t bs) (kp : KpT H H') : StAt H' t bs := by
  obtain ⟨xs, e, b⟩ := h
  exact ⟨xs, kp _ _ e, BL.kp b kp⟩
theorem ChAt.frz {H H' : Hp} {c : Addr} {C : List Int} (h : ChAt H c C) (kp : ∀ o u, H c = some (.frz o u) → H' c = some (.frz o u)) : ChAt H' c C := let ⟨o, d, e⟩ := h; ⟨o, d, kp _ _ e⟩
theorem Fr.kpT {h l : Addr} {H H' : Hp} {C dx : Addr} {fs : List (Str × V)} {xs : List V} (f : Fr h l H H') (e1 : H h = some (.ins C dx fs)) (e2 : H l = some (.lst xs)) : KpT H H' := fun v zs e => f _ _ (ne_of e e1 (by intro z; cases z)) (ne_of e e2 (by intro z; cases z)) e
theorem Fr.frz {h l c : Addr} {H H' : Hp} {C dx : Addr} {fs : List (Str × V)} {xs : List V} (f : Fr h l H H') (e1 : H h = some (.ins C dx fs)) (e2 : H l = some (.lst xs)) : ∀ o u, H c = some (.frz o u) → H' c = some (.frz o u) := fun o u e => f _ _ (ne_of e e1 (by intro z; cases z)) (ne_of e e2 (by intro z; cases z)) e
theorem But.kpT {p : Addr} {H H' : Hp} {xs : List V} (b : But p H H') (e : H p = some (.lst xs)) : KpT H H' := fun v zs h => b _ _ (ne_of h e (by intro z; cases z)) h
/-- a heap beside another list that changes -/
theorem HpAt.but {C : Addr} {H H' : Hp} {h l c q : Addr} {s : Nat → Nat} {p pg M : Nat} {bs : List Bk} {n : Nat} {ys : List V} (a : HpAt C H h l c s p pg M bs n) (b : But q H H') (e : H q = some (.lst ys)) (nq : l ≠ q) : HpAt C H' h l c s p pg M bs n := by
  obtain ⟨dx, t, xs, a⟩ := a
  refine ⟨dx, t, xs, b _ _ (ne_of a.ob e (by intro z; cases z)) a.ob, a.ch.frz fun o u h => b _ _ (ne_of h e (by intro z; cases z)) h, a.st.mono (b.kpT e), b _ _ nq a.ls, a.ln⟩
end Ph

namespace Ph
open PySem PySem.Spec PyProof.Rows L2
/-! ### a get by the lowest place, a free: what becomes of the state and of the outlook -/
theorem totN_int : ∀ {bs : List Bk}, (∀ b ∈ bs, 0 ≤ b.2) → (bs.map fun b => b.2).sum = ((totN bs : Nat) : Int)
  | [], _ => rfl
  | b :: r, h => by
    have h1 := h b (List.mem_cons_self ..)
    have ih := totN_int (bs := r) fun c hc => h c (List.mem_cons_of_mem _ hc)
    unfold totN at *
    rw [List.map_cons, List.map_cons, List.sum_cons, List.sum_cons, ih]
    omega
theorem St.bok {s : Nat → Nat} {p : Nat} {W : Int} {bs : List Bk} (st : St (tl s (p + 1)) W bs) : Bok s p bs := fun b hb => by
  obtain ⟨h1, h2, h3, h4, h5⟩ := st.ok b hb
  obtain ⟨j, hj, e⟩ := tl_mem.mp h1
  obtain ⟨b1, b2⟩ := b
  dsimp only at *
  subst e
  refine ⟨(b1 / ((s j : Nat) : Int)).toNat, j, by omega, ?_⟩
  have q : 0 ≤ b1 / ((s j : Nat) : Int) := Int.ediv_nonneg h3 (by omega)
  have e2 := Int.mul_ediv_add_emod b1 ((s j : Nat) : Int)
  rw [h4] at e2
  congr 1
  rw [Int.natCast_mul, Int.toNat_of_nonneg q, Int.mul_comm]
  omega
theorem rch_ge {l : Int} {bs : List Bk} {b : Bk} (pos : ∀ b ∈ bs, 0 < b.1 + b.2) (hb : b ∈ bs) (h : b.2 ≤ l) : b.1 + b.2 ≤ rch l bs := by
  unfold rch
  have m : b.1 + b.2 ∈ (bs.filter fun b => decide (b.2 ≤ l)).map fun b => b.1 + b.2 := List.mem_map.mpr ⟨b, List.mem_filter.mpr ⟨hb, decide_eq_true h⟩, rfl⟩
  rcases mxd_spec (l := (bs.filter fun b => decide (b.2 ≤ l)).map fun b => b.1 + b.2) (fun x hx => by
    obtain ⟨c, hc, rfl⟩ := List.mem_map.mp hx
    exact pos c (List.mem_filter.mp hc).1) with ⟨e, _⟩ | ⟨_, e⟩
  · rw [e] at m; cases m
  · exact e _ m
theorem rch_le {l u : Int} {bs : List Bk} (pos : ∀ b ∈ bs, 0 < b.1 + b.2) (u0 : 0 ≤ u) (h : ∀ b ∈ bs, b.2 ≤ l → b.1 + b.2 ≤ u) : 0 ≤ rch l bs ∧ rch l bs ≤ u := by
  unfold rch
  rcases mxd_spec (l := (bs.filter fun b => decide (b.2 ≤ l)).map fun b => b.1 + b.2) (fun x hx => by
    obtain ⟨c, hc, rfl⟩ := List.mem_map.mp hx
    exact pos c (List.mem_filter.mp hc).1) with ⟨_, e⟩ | ⟨m, _⟩
  · rw [e]; exact ⟨Int.le_refl _, u0⟩
  · obtain ⟨c, hc, e⟩ := List.mem_map.mp m
    obtain ⟨h1, h2⟩ := List.mem_filter.mp hc
    have hh := h c h1 (of_decide_eq_true h2)
    have pp := pos c h1
    rw [← e]
    exact ⟨by omega, hh⟩
/-- the reaches, as numbers -/
def Rho (s : Nat → Nat) (p : Nat) (bs : List Bk) (ρ : Nat → Nat) : Prop := ((tl s (p + 1)).map fun l => rch l bs) = tl ρ (p + 1)
theorem Rho.at_ {s ρ : Nat → Nat} {p j : Nat} {bs : List Bk} (h : Rho s p bs ρ) (hj : j ≤ p) : rch ((s j : Nat) : Int) bs = ((ρ j : Nat) : Int) := by
  have e : ((tl s (p + 1)).map fun l => rch l bs)[j]? = (tl ρ (p + 1))[j]? := by rw [h]
  rw [List.getElem?_map, tl_get (by omega), tl_get (by omega)] at e
  exact Option.some.inj e
theorem St.posE {C : List Int} {W : Int} {bs : List Bk} (st : St C W bs) : ∀ b ∈ bs, 0 < b.1 + b.2 := fun b hb => by
  obtain ⟨_, h2, h3, _⟩ := st.ok b hb
  omega
theorem Rho.ex {s : Nat → Nat} {p : Nat} {W : Int} {bs : List Bk} (st : St (tl s (p + 1)) W bs) : ∃ ρ, Rho s p bs ρ := by
  refine ⟨fun j => (rch ((s j : Nat) : Int) bs).toNat, ?_⟩
  unfold Rho tl
  rw [List.map_map]
  refine List.map_congr_left fun j _ => ?_
  show rch ((s j : Nat) : Int) bs = (((rch ((s j : Nat) : Int) bs).toNat : Nat) : Int)
  have h0 : 0 ≤ rch ((s j : Nat) : Int) bs := by
    unfold rch
    rcases mxd_spec (l := (bs.filter fun b => decide (b.2 ≤ ((s j : Nat) : Int))).map fun b => b.1 + b.2) (fun x hx => by
      obtain ⟨c, hc, rfl⟩ := List.mem_map.mp hx
      exact st.posE c (List.mem_filter.mp hc).1) with ⟨_, e⟩ | ⟨m, _⟩
    · rw [e]; exact Int.le_refl _
    · obtain ⟨c, hc, e⟩ := List.mem_map.mp m
      have := st.posE c (List.mem_filter.mp hc).1
      omega
  omega
theorem Rho.nil (s : Nat → Nat) (p : Nat) : Rho s p [] (fun _ => 0) := by
  unfold Rho tl
  rw [List.map_map]
  rfl
/-- where the lowest place lies, and why -/
structure LowP (z : Int) (bs : List Bk) (W x : Int) : Prop where
  mod : x % z = 0
  pos : 0 ≤ x
  fit : x + z ≤ W
  free : ∀ b ∈ bs, x + z ≤ b.1 ∨ b.1 + b.2 ≤ x
  full : ∀ k : Int, 0 ≤ k → k % z = 0 → k < x → ∃ b ∈ bs, b.1 < k + z ∧ k < b.1 + b.2
theorem lowp_of {C : List Int} {z W x : Int} {bs : List Bk} {r : List Int} (hz : 0 < z) (hW : 0 ≤ W) (st : St C W bs) (e : plf z 0 (bs ++ [(W, 0)]) = x :: r) : LowP z bs W x := by
  have mem := plf_mem (s := z) (W := W) hz bs 0 (fun b hb => st.bnd b hb) st.asc hW
  have inc := plf_inc (s := z) (W := W) hz bs 0 (fun b hb => st.bnd b hb) st.asc hW
  rw [e] at mem inc
  obtain ⟨m1, m2, m3, m4⟩ := (mem x).mp (List.mem_cons_self ..)
  refine ⟨m1, m2, m3, m4, fun k k0 km kx => ?_⟩
  have nin : ¬ k ∈ x :: r := fun h => by
    rcases List.mem_cons.mp h with z | z
    · omega
    · have := (List.pairwise_cons.mp inc).1 k z
      omega
  have nf : ¬ ∀ b ∈ bs, k + z ≤ b.1 ∨ b.1 + b.2 ≤ k := fun h => nin ((mem k).mpr ⟨km, k0, by omega, h⟩)
  exact Classical.byContradiction fun no => nf fun b hb => Classical.byContradiction fun h2 => no ⟨b, hb, by omega, by omega⟩
section
variable {s ρ : Nat → Nat} {p M : Nat} {W : Int} {bs : List Bk}
theorem St.rc (c : CH s (p + 1)) (st : St (tl s (p + 1)) W bs) (hρ : Rho s p bs ρ) : ∀ (a j : Nat), j ≤ p → (((a * s j : Nat) : Int), ((s j : Nat) : Int)) ∈ bs → a * s j + s j ≤ ρ j := fun a j hj hb => by
  have h := rch_ge st.posE hb (l := ((s j : Nat) : Int)) (Int.le_refl _)
  rw [hρ.at_ hj] at h
  dsimp only at h
  omega
/-- guarantee (c), one get: it ends within the outlook -/
theorem LowP.ends {i : Nat} {x : Int} (c : CH s (p + 1)) (hi : i ≤ p) (st : St (tl s (p + 1)) W bs) (hρ : Rho s p bs ρ) (lim : (bs.map fun b => b.2).sum + ((s i : Nat) : Int) ≤ M) (lp : LowP ((s i : Nat) : Int) bs W x) :
    ∃ n : Nat, x = ((n * s i : Nat) : Int) ∧ (n + 1) * s i ≤ bfn s ρ M i := by
  have S0 := c.pos (i := i) (by omega)
  have q : 0 ≤ x / ((s i : Nat) : Int) := Int.ediv_nonneg lp.pos (by omega)
  have e2 := Int.mul_ediv_add_emod x ((s i : Nat) : Int)
  rw [lp.mod] at e2
  have ex : x = (((x / ((s i : Nat) : Int)).toNat * s i : Nat) : Int) := by
    rw [Int.natCast_mul, Int.toNat_of_nonneg q, Int.mul_comm]
    omega
  refine ⟨_, ex, ?_⟩
  generalize (x / ((s i : Nat) : Int)).toNat = n at ex
  subst ex
  refine low_end c hi st.bok (st.rc c hρ) (fun k hk => ?_) ?_
  · have kn : k * s i < n * s i := Nat.mul_lt_mul_of_pos_right hk S0
    obtain ⟨b, hb, o1, o2⟩ := lp.full ((k * s i : Nat) : Int) (by omega) (by rw [Int.natCast_mul]; exact Int.mul_emod_left _ _) (by omega)
    refine ⟨b, hb, ?_, o2⟩
    rw [Nat.add_mul, Nat.one_mul]
    omega
  · rw [totN_int fun b hb => by have := (st.ok b hb).2.1; omega] at lim
    omega
/-- guarantee (a), one get: a heap as far as the outlook has a place -/
theorem has_place {i : Nat} (c : CH s (p + 1)) (hi : i ≤ p) (W0 : 0 ≤ W) (st : St (tl s (p + 1)) W bs) (hρ : Rho s p bs ρ) (lim : (bs.map fun b => b.2).sum + ((s i : Nat) : Int) ≤ M) (room : ((bfn s ρ M p : Nat) : Int) ≤ W) :
    ∃ x r, plf ((s i : Nat) : Int) 0 (bs ++ [(W, 0)]) = x :: r := by
  have S0 := c.pos (i := i) (by omega)
  have hz : (0 : Int) < ((s i : Nat) : Int) := by omega
  cases e : plf ((s i : Nat) : Int) 0 (bs ++ [(W, 0)]) with
  | cons x r => exact ⟨x, r, rfl⟩
  | nil =>
    exfalso
    have mem := plf_mem (s := ((s i : Nat) : Int)) (W := W) hz bs 0 (fun b hb => st.bnd b hb) st.asc W0
    rw [e] at mem
    have h := low_end (n := (W / ((s i : Nat) : Int)).toNat) (M := M) c hi st.bok (st.rc c hρ) (fun k hk => ?_) ?_
    · have h2 := bfn_mono1 (s := s) (ρ := ρ) (M := M) c hi (Nat.le_refl p)
      have q : 0 ≤ W / ((s i : Nat) : Int) := Int.ediv_nonneg W0 (by omega)
      have l1 := Int.lt_ediv_add_one_mul_self W hz
      have e1 : (((W / ((s i : Nat) : Int)).toNat + 1) * s i : Nat) ≤ bfn s ρ M p := Nat.le_trans h h2
      have e2 : ((((W / ((s i : Nat) : Int)).toNat + 1) * s i : Nat) : Int) = (W / ((s i : Nat) : Int) + 1) * ((s i : Nat) : Int) := by
        rw [Int.natCast_mul, Int.natCast_add, Int.toNat_of_nonneg q]
        rfl
      have e3 : ((((W / ((s i : Nat) : Int)).toNat + 1) * s i : Nat) : Int) ≤ ((bfn s ρ M p : Nat) : Int) := Int.ofNat_le.mpr e1
      rw [e2] at e3
      omega
    · have q : 0 ≤ W / ((s i : Nat) : Int) := Int.ediv_nonneg W0 (by omega)
      have l1 := Int.ediv_mul_le W (b := ((s i : Nat) : Int)) (by omega)
      have k1 : (((k + 1) * s i : Nat) : Int) ≤ W := by
        have : (((k + 1 : Nat) : Int)) ≤ W / ((s i : Nat) : Int) := by omega
        have := Int.mul_le_mul_of_nonneg_right this (Int.le_of_lt hz)
        rw [Int.natCast_mul]
        omega
      have nf : ¬ ∀ b ∈ bs, ((k * s i : Nat) : Int) + ((s i : Nat) : Int) ≤ b.1 ∨ b.1 + b.2 ≤ ((k * s i : Nat) : Int) := fun h => by
        have := (mem ((k * s i : Nat) : Int)).mpr ⟨by rw [Int.natCast_mul]; exact Int.mul_emod_left _ _, by omega, by rw [Nat.add_mul, Nat.one_mul] at k1; omega, h⟩
        cases this
      exact Classical.byContradiction fun no => nf fun b hb => Classical.byContradiction fun h2 => no ⟨b, hb, by rw [Nat.add_mul, Nat.one_mul]; omega, by omega⟩
    · rw [totN_int fun b hb => by have := (st.ok b hb).2.1; omega] at lim
      omega
theorem get_st {i : Nat} {x : Int} {cs : List Bk} (c : CH s (p + 1)) (hi : i ≤ p) (st : St (tl s (p + 1)) W bs) (lp : LowP ((s i : Nat) : Int) bs W x) (pm : cs.Perm (bs ++ [(x, ((s i : Nat) : Int))])) (srt : cs.Pairwise fun x y => SrtO.lexB y x = false) : St (tl s (p + 1)) W cs := by
  have S0 := c.pos (i := i) (by omega)
  refine sorted_st (fun b hb => ?_) ?_ pm srt
  · rcases List.mem_append.mp hb with z | z
    · exact st.ok b z
    · rw [List.mem_singleton.mp z]
      exact ⟨tl_mem.mpr ⟨i, by omega, rfl⟩, by dsimp only; omega, lp.pos, lp.mod, lp.fit⟩
  · refine List.pairwise_append.mpr ⟨st.asc.imp fun h => .inl h, List.pairwise_singleton _ _, fun b hb d hd => ?_⟩
    rw [List.mem_singleton.mp hd]
    rcases lp.free b hb with h | h
    · exact .inr h
    · exact .inl h
/-- guarantee (c): no number of the outlook rises by a get -/
theorem get_outlook {m i n : Nat} {x : Int} {cs : List Bk} {ρ' : Nat → Nat} (cn : Cn s p m) (hi : i ≤ p) (st : St (tl s (p + 1)) W bs) (hρ : Rho s p bs ρ) (st' : St (tl s (p + 1)) W cs) (hρ' : Rho s p cs ρ') (ex : x = ((n * s i : Nat) : Int)) (en : (n + 1) * s i ≤ bfn s ρ M i) (pm : cs.Perm (bs ++ [(x, ((s i : Nat) : Int))])) :
    ∀ j, j ≤ p → bfn s ρ' M j ≤ bfn s ρ M j := fun j hj => by
  refine bfn_within (m := p + 1) cn.ch (fun j hj => ?_) j (by omega)
  have h := rch_le (l := ((s j : Nat) : Int)) (u := ((bfn s ρ M j : Nat) : Int)) st'.posE (by omega) (fun b hb hl => ?_)
  · rw [hρ'.at_ (by omega)] at h
    omega
  · rcases List.mem_append.mp (pm.mem_iff.mp hb) with z | z
    · have h1 := rch_ge st.posE z hl
      rw [hρ.at_ (by omega)] at h1
      have : ρ j ≤ bfn s ρ M j := bfn_ge
      omega
    · rw [List.mem_singleton.mp z] at hl ⊢
      dsimp only at hl ⊢
      have ij : i ≤ j := by
        rcases Nat.lt_or_ge j i with z2 | z2
        · have : s j < s i := by
            have mono := cn.ch.mono (i := j) (j := i - 1) (by omega) (by omega)
            obtain ⟨r, r2, _, er⟩ := cn.two (i - 1) (by omega)
            have e1 : i - 1 + 1 = i := by omega
            rw [e1] at er
            have pz := cn.ch.pos (i := i - 1) (by omega)
            have : s (i - 1) * 2 ≤ s (i - 1) * r := Nat.mul_le_mul_left _ r2
            omega
          omega
        · exact z2
      have h2 := bfn_mono1 (s := s) (ρ := ρ) (M := M) cn.ch ij (show j ≤ p by omega)
      rw [ex]
      rw [Nat.add_mul, Nat.one_mul] at en
      omega
theorem St.filter {C : List Int} (q : Bk → Bool) (st : St C W bs) : St C W (bs.filter q) := ⟨fun b hb => st.ok b (List.mem_filter.mp hb).1, st.asc.sublist List.filter_sublist⟩
theorem free_outlook {q : Bk → Bool} {ρ' : Nat → Nat} (c : CH s (p + 1)) (st : St (tl s (p + 1)) W bs) (hρ : Rho s p bs ρ) (hρ' : Rho s p (bs.filter q) ρ') : ∀ j, j ≤ p → bfn s ρ' M j ≤ bfn s ρ M j := fun j hj => by
  refine bfn_mono (m := p + 1) c (fun j hj => ?_) (Nat.le_refl _) j (by omega)
  have h := rch_le (l := ((s j : Nat) : Int)) (u := ((ρ j : Nat) : Int)) (st.filter q).posE (by omega) (fun b hb hl => ?_)
  · rw [hρ'.at_ (by omega)] at h
    omega
  · have h1 := rch_ge st.posE (List.mem_filter.mp hb).1 hl
    rw [hρ.at_ (by omega)] at h1
    exact h1
theorem sum_filter {C : List Int} (q : Bk → Bool) (st : St C W bs) : ((bs.filter q).map fun b => b.2).sum ≤ (bs.map fun b => b.2).sum := by
  have h : ∀ b ∈ bs, 0 ≤ b.2 := fun b hb => by have := (st.ok b hb).2.1; omega
  clear st
  induction bs with
  | nil => exact Int.le_refl _
  | cons b r ih =>
    have ih := ih fun c hc => h c (List.mem_cons_of_mem _ hc)
    have := h b (List.mem_cons_self ..)
    by_cases e : q b = true
    · rw [List.filter_cons_of_pos e, List.map_cons, List.map_cons, List.sum_cons, List.sum_cons]
      omega
    · rw [List.filter_cons_of_neg e, List.map_cons, List.sum_cons]
      omega
theorem sum_perm {l m : List Bk} (h : l.Perm m) : (l.map fun b => b.2).sum = (m.map fun b => b.2).sum := by
  have := h.map (fun b : Bk => b.2)
  generalize l.map (fun b : Bk => b.2) = a at this
  generalize m.map (fun b : Bk => b.2) = b at this
  induction this with
  | nil => rfl
  | cons x _ ih => rw [List.sum_cons, List.sum_cons, ih]
  | swap x y l => rw [List.sum_cons, List.sum_cons, List.sum_cons, List.sum_cons]; omega
  | trans _ _ a b => rw [a, b]
end
end Ph

set_option maxHeartbeats 4000000
/-! PhErr: own errors: isinstance of a caught error that may have a dict, by one class or a tuple of classes; a class called without arguments. -/
namespace Ph
open PySem PySem.Spec PyProof.Rows L2
/-- the dict of a caught error: none, or one that is told -/
def DictK (H : Hp) (d : Option Addr) : Prop := d = none ∨ ∃ dd fs, d = some dd ∧ H dd = some (.xd fs)
section
variable {X : Cx}
theorem inst_of {pins : List (Addr × Obj)} {σ : L2.St} {H : Hp} {s : Shared} {a D : Addr} {d : Option Addr} {oe : Obj} (I : Inv X pins σ H s) (hget : s.heap.get? a = some oe) (hz : Zc (.ref D) d oe) (hf : ∃ vs, oe.data = .fields vs) (k : DictK H d) :
    ∃ od, PySem.W.InstAt s.heap a oe D od := by
  obtain ⟨vs, hv⟩ := hf
  have no : PySem.W.notCls oe = true := by
    unfold PySem.W.notCls
    rw [hv]
  rcases k with rfl | ⟨dd, fs, rfl, e⟩
  · exact ⟨none, hget, hz.1, no, by rw [hz.2]; trivial⟩
  · have hx : ObjOk X.prog X.w H s.heap dd (.xd fs) := I.hok dd _ e
    obtain ⟨mA, hns, _⟩ := hx
    obtain ⟨od, ho, _⟩ := lookIn_ns hns
    exact ⟨some od, hget, hz.1, no, by rw [hz.2]; exact ho⟩
/-- isinstance(e, c): e at a, of the class cls, with the dict d -/
def rIsX (K : PySem.W.Frag) (a : Addr) (cls : Value) (d : Option Addr) : List V → Hp → VK → Prop := fun xs H Q => ∃ (D : Addr) (c : V) (cv : Value) (b : Bool), xs = [.ref a, c] ∧ cls = .ref D ∧ ExcC K D ∧ DictK H d ∧ (∀ u, RelV c u → u = cv) ∧ PySem.W.kitOne K (.ref D) cv = some b ∧ Q (.bl b) H
theorem call_isX {a : Addr} {oe : Obj} {cls : Value} {d : Option Addr} {pn : List (Addr × Obj)} (hz : Zc cls d oe) (hf : ∃ vs, oe.data = .fields vs) : CallR (X.suite a ((a, oe) :: pn)) (.builtin "isinstance") (rIsX X.K a cls d) := by
  intro pins s σ H xs us Q I r h
  obtain ⟨D, c, cv, b, rfl, rfl, C, k, hcv, e, q⟩ := h
  obtain ⟨ua, uc, rfl, ra, rc⟩ : ∃ ua uc, us = [ua, uc] ∧ RelV (.ref a) ua ∧ RelV c uc := by
    cases r with
    | cons r1 r2 => cases r2 with
      | cons r3 r4 =>
        cases r4
        exact ⟨_, _, rfl, r1, r3⟩
  obtain rfl : ua = Value.ref a := ra
  obtain rfl := hcv _ rc
  obtain ⟨hget, _⟩ := I.pin (a, oe) (List.mem_append.mpr (.inl List.mem_cons_self))
  obtain ⟨od, J⟩ := inst_of I hget hz hf k
  have cl : (PySem.W.clsIn X.K D).isSome = true := by
    obtain ⟨cd, hc, _⟩ := PySem.W.any_some C.hd
    rw [hc]
    rfl
  exact PySem.W.kia_one (PySem.W.kitx_exc (od := od) cl C.hg C.hk C.hs C.ha C.hn C.ht C.hm) I.kIn J e (fun z => nomatch z) fun tk => ⟨.bl b, H, I.kept (t' := tk) fun _ _ z => z, rfl, q⟩
/-- isinstance(e, (c, ..)) -/
def rIsXt (K : PySem.W.Frag) (a : Addr) (cls : Value) (d : Option Addr) : List V → Hp → VK → Prop := fun xs H Q => ∃ (D t : Addr) (cs : List V) (cvs : List Value) (b : Bool), xs = [.ref a, .ref t] ∧ cls = .ref D ∧ ExcC K D ∧ DictK H d ∧ H t = some (.tup cs) ∧
  (∀ us, Vals cs us → us = cvs) ∧ PySem.W.kitAny K (.ref D) cvs = some b ∧ Q (.bl b) H
theorem call_isXt {a : Addr} {oe : Obj} {cls : Value} {d : Option Addr} {pn : List (Addr × Obj)} (hz : Zc cls d oe) (hf : ∃ vs, oe.data = .fields vs) : CallR (X.suite a ((a, oe) :: pn)) (.builtin "isinstance") (rIsXt X.K a cls d) := by
  intro pins s σ H xs us Q I r h
  obtain ⟨D, t, cs, cvs, b, rfl, rfl, C, k, ht, hcv, e, q⟩ := h
  obtain ⟨ua, uc, rfl, ra, rc⟩ : ∃ ua uc, us = [ua, uc] ∧ RelV (.ref a) ua ∧ RelV (.ref t) uc := by
    cases r with
    | cons r1 r2 => cases r2 with
      | cons r3 r4 =>
        cases r4
        exact ⟨_, _, rfl, r1, r3⟩
  obtain rfl : ua = Value.ref a := ra
  obtain rfl : uc = Value.ref t := rc
  obtain ⟨hget, _⟩ := I.pin (a, oe) (List.mem_append.mpr (.inl List.mem_cons_self))
  obtain ⟨od, J⟩ := inst_of I hget hz hf k
  have cl : (PySem.W.clsIn X.K D).isSome = true := by
    obtain ⟨cd, hc, _⟩ := PySem.W.any_some C.hd
    rw [hc]
    rfl
  have hx : ObjOk X.prog X.w H s.heap t (.tup cs) := I.hok t _ ht
  obtain ⟨_, its, rv, o, ho, hc, n, hdat⟩ := hx
  obtain rfl := hcv _ rv
  obtain ⟨oc, odd, oda, osl⟩ := o
  dsimp only at hc hdat
  subst hc hdat
  exact PySem.W.kia_tup (PySem.W.kitx_exc (od := od) cl C.hg C.hk C.hs C.ha C.hn C.ht C.hm) I.kIn J ho e (fun z => nomatch z) fun tk => ⟨.bl b, H, I.kept (t' := tk) fun _ _ z => z, rfl, q⟩
/-! ### C(), C's own __init__ doing nothing -/
def spIni0 : Sp := fun vs H Q _ => ∃ a : Addr, vs = [.ref a] ∧ Q .non H
/-- the way out: class C, no dict -/
def tMk0 (C : Addr) : L2.St → Hp → XK → Prop := fun _ H Q => Q (.ref C) none H
theorem pmk_own0 {CX : CXT} {x : Str} {C fI : Addr} {k : Nat} {fd : FuncData} {ps : List Str} {p pos : Pos} (T : OexC X.K C) (iC : PySem.W.findIn X.K (.ref C) "__init__" = some (some (.ref fI))) (tI : PySem.W.typeIn X.K (.ref fI) = some (.type "function"))
    (F1 : FnOk X.prog X.w X.K X.mg X.base CX k fI fd ps spIni0) (hr : Room (k + 1) X.A) (hb : Binds X.K fd ps []) (hx : Passes CX X (fun _ _ _ => False)) (hg : Gl X x) (hm : X.mg x = some (.ref C))
    (hdb : (x == ("__debug__" : Str)) = false := by decide) : PMk X (.Call (.Name x p) [] [] pos) (tMk0 C) := by
  intro pins s σ H Q I q
  obtain ⟨nm, qn, N, bs, bm, sn, sub, ab, col, dd, k0, k1, k2, k3, k5, hC, hbm⟩ := T.cls
  refine wpAny_Call_Name_kw (ld_glob I hg hm (PySem.W.callWith_K0 I.kIn T.kC ?_) hdb)
  show wpAny _ _ (call (.ref C) []) _ _ _
  obtain ⟨hp, g, dr, tk, os⟩ := s
  obtain ⟨z, ez⟩ : ∃ z, z = hp.objs.size := ⟨_, rfl⟩
  have hsz : hp.objs.size ≤ z + 1 := by omega
  have hn : H (z + 1) = none := I.hok.fresh hsz
  obtain ⟨h1, e1⟩ : ∃ h1, h1 = (hp.push (PySem.W.kdv_tup [])).push (PySem.HandSPX.excO C z) := ⟨_, rfl⟩
  have kk : ∀ b o, hp.get? b = some o → h1.get? b = some o := fun b o e => by
    rw [e1]
    exact Heap.get?_push_of_some _ (Heap.get?_push_of_some _ e)
  have hget : h1.get? (z + 1) = some (PySem.HandSPX.excO C z) := by
    subst ez e1
    heap_get
  obtain ⟨H1, eH⟩ : ∃ H1, H1 = upd H (z + 1) (exo (z + 1) C none) := ⟨_, rfl⟩
  have I2 : Inv X pins σ H1 ⟨h1, g, dr, tk, os⟩ := by
    rw [eH]
    exact I.laid (t' := tk) kk hsz (exo_ok hget)
  have r2 : Vals [V.ref (z + 1)] [Value.ref (z + 1)] := .cons rfl .nil
  have wish : spIni0 [.ref (z + 1)] H1 (fun v H2 => v = .non ∧ H2 = H1) (fun _ _ _ => False) := ⟨_, rfl, rfl, rfl⟩
  have hl : ([Value.ref (z + 1)] ++ []).length = ps.length := (F1.len _ _ _ _ wish)
  have run := F1.run _ X.stack ⟨h1, g, dr, tk, os⟩ H1 ⟨[Value.ref (z + 1)], []⟩ [Value.ref (z + 1)] _ _ (fun _ _ _ => False) (hr.make C [] []) (I2.env0.make C [] []) (hb _ [Value.ref (z + 1)] I2.kIn hl) r2 wish
  subst e1
  subst ez
  refine wpAny_call (PySem.HandSPX.call_own F.excBase_ValueError (fun Y => PySem.HandSPX.refsVE_contains Y bm hbm) (I.kIn _ _ hC) (PySem.W.looks_findIn I.kIn iC) (fun self => PySem.W.bind_fn I.kIn self tI) (Nat.zero_le _) (codeAny_mono run fun r s' hq' => ?_))
  cases r with
  | error er => exact hx pins σ _ _ er s' I2 hq'
  | ok fl =>
    cases fl with
    | next => exact hq'.elim
    | brk => exact hq'.elim
    | cont => exact hq'.elim
    | ret u =>
      obtain ⟨v, H2, os2, bare2, un2, hok2, rv, rfl, rfl⟩ := hq'
      obtain ⟨h2, g2, d2, t2, os'⟩ := s'
      refine ⟨rv, ?_⟩
      have ea : H2 (hp.objs.size + 1) = some (exo (hp.objs.size + 1) C none) := by
        rw [eH]
        exact upd_same
      have eo : ∀ {b : Addr}, b ≠ hp.objs.size + 1 → H2 b = H b := fun {b} n => by
        rw [eH]
        exact upd_ne n
      obtain ⟨t0, hoe⟩ := exo_at hok2 ea
      obtain ⟨G, gs, gn⟩ := restrict h2 fun b => !decide (b = hp.objs.size + 1)
      have gk : ∀ {b : Addr}, b ≠ hp.objs.size + 1 → G.get? b = h2.get? b := fun {b} n => gs b (by simp [n])
      have ga : G.get? (hp.objs.size + 1) = none := gn _ (by simp)
      have nb : ∀ {b : Addr} {o : Obj}, hp.get? b = some o → b ≠ hp.objs.size + 1 := fun {b o} e => by
        have l := Heap.lt_size e
        exact Nat.ne_of_lt (Nat.lt_succ_of_lt l)
      have nH : ∀ {b : Addr} {o : HO}, H b = some o → b ≠ hp.objs.size + 1 := fun {b o} e n => by
        rw [n, hn] at e
        cases e
      have U : Un (frs X.stack) [] H H hp G := {
        keep := fun b o e n hf hx => (gk (nb e)).trans (un2.keep b o (kk b o e) ((eo (nb e)).trans n) hf hx)
        slot := fun b o e n hf hx => by
          obtain ⟨sl, q1⟩ := un2.slot b o (kk b o e) ((eo (nb e)).trans n) hf hx
          exact ⟨sl, (gk (nb e)).trans q1⟩
        free := fun b o e n hx => n
        there := fun b o e hx => by
          obtain ⟨o2, q1⟩ := un2.there b o (kk b o e) hx
          exact ⟨o2, (gk (nb e)).trans q1⟩
        tups := fun b xs e => e
        frzs := fun b o v e => e
        tbls := fun b ps e => ⟨#[], by rw [e]; simp⟩ }
      have hok3 : HOk X.prog X.w H G := fun b o e => by
        refine (hok2 b o ((eo (nH e)).trans e)).stay (fun c v hc y => ?_) (fun c hc => ?_) (fun c xs hc => ?_)
        · have nc : c ≠ hp.objs.size + 1 := by
            rcases hc with hc | hc
            · rw [hc]
              exact nH e
            · exact at_ne ea hc exo_own
          exact (gk nc).trans y
        · exact (eo (at_ne ea hc exo_own)).symm.trans hc
        · exact (eo (at_ne ea hc exo_tup)).symm.trans hc
      have J : Inv X pins σ H ⟨G, g2, d2, t2, os'⟩ := I.call' (ch := []) os2 U hok3 bare2 (fun b z => absurd z (by simp))
      refine ⟨_, _, _, ⟨G, g2, d2, t2, os'⟩, H, .ref C, none, rfl, J, fun b o e => ?_, ga, hoe, ⟨rfl, rfl⟩, rfl, rfl, hn, rfl, bare2, raises_own T.exC T.tyC, q⟩
      have n : b ≠ hp.objs.size + 1 := fun n => by
        have e' : G.get? b = some o := e
        rw [n, ga] at e'
        cases e'
      exact (gk n).symm.trans e
end
end Ph

/-! PhErm: a method called where its errors are caught: what leaves may speak of the slots. -/
namespace Ph
open PySem PySem.Spec PyProof.Rows L2
def tMethE (C : Addr) (m : Str) (sp : Sp) (E : L2.St → XK) (ta : TE) (t : TA) : TE := fun σ H Q => ta σ H fun x H1 => ∃ a dx fs, x = .ref a ∧ H1 a = some (.ins C dx fs) ∧ fs.lookup m = none ∧ t σ H1 fun vs H2 => sp (.ref a :: vs) H2 Q (E σ)
section
variable {X : Cx} {CX : CXT} {k : Nat} {f C : Addr} {fd : FuncData} {ps : List Str} {sp : Sp} {E : L2.St → XK} {m : Str} {pos apos : Pos} {e o : Expr} {es : List Expr} {ta : TE} {t : TA}
theorem pe_methE {pl : Sem Bool} (he : PE X o ta) (c : Cls X.K C) (hm : Meth X.K C m f) (F : FnOk X.prog X.w X.K X.mg X.base CX k f fd ps sp) (hr : Room k X.A) (hb : Binds X.K fd ps []) (hx : ∀ σ, PassesAt CX X σ (E σ)) (ha : PA X (e :: es) t)
    (hst : starEach (e :: es) X.env = (false, eval e X.env) :: starEach es X.env := by rfl) (hpl : (backTo pos (starEach es X.env)).any (·.1) = false := by rfl)
    (ht : eval (.Call (.Attribute o m apos) (e :: es) [] pos) X.env = (do
      let ov ← eval o X.env
      standAt apos.atName
      let (f, first) ← holding [ov] (getMethod ov m pl)
      callWith pos f first (backTo pos (starEach (e :: es) X.env)) (backToKw pos (keywordEach [] X.env))) := by rfl) :
    PE X (.Call (.Attribute o m apos) (e :: es) [] pos) (tMethE C m sp E ta t) := by
  constructor
  intro pins s σ H Q I h
  refine PySem.W.methodCall_KW (pl := pl) (thn (he.run pins s σ H _ I h) fun u s1 w => ?_) ht
  obtain ⟨x, H1, I1, rx, a, dx, fs, rfl, ea, l, q⟩ := w
  obtain rfl : u = Value.ref a := rx
  refine getmeth_ok I1 ea c hm l (PySem.W.callWith_K (first := [.ref a]) (h₀ := X.base) I.ok.mod.kin hm.kp (thn (ha.run pos pins s1 σ H1 _ I1 q) fun us s2 w2 => ?_) hst hpl)
  obtain ⟨vs, H2, I2, r, q2⟩ := w2
  exact ⟨I2.kIn, run_fnS (us := .ref a :: us) (vs := .ref a :: vs) F hr hb (hx σ) I2 (.cons rfl r) q2⟩
theorem takesNo : Takes X (fun _ _ _ _ => False) := fun _ _ ⟨_, _, _, _, _, _, _, _, _, _, _, _, _, _, _, _, z⟩ => z.elim
end
end Ph

/-! PhCp: the text that repr gives holds code points only. -/
namespace Ph
open PySem PySem.Spec PyProof.Rows L2
/-- all signs are code points -/
def Cp (x : Str) : Prop := ∀ c ∈ x.cps.toList, c < 0x110000
theorem cp_of {s : String} : Cp (Str.ofString s) := by
  rw [Str.ofString_eq_toList]
  intro c hc
  have hc' : c ∈ s.toList.map Char.toNat := by simpa using hc
  obtain ⟨d, _, rfl⟩ := List.mem_map.mp hc'
  have h := d.valid
  show d.val.toNat < 0x110000
  rcases h with h | h
  · have : d.val.toNat < 55296 := h
    omega
  · exact h.2
theorem Cp.app {x y : Str} (a : Cp x) (b : Cp y) : Cp (x ++ y) := fun c hc => by
  have hc' : c ∈ (x.cps ++ y.cps).toList := hc
  rw [Array.toList_append, List.mem_append] at hc'
  exact hc'.elim (a c) (b c)
theorem cp_join {s : Str} (hs : Cp s) : ∀ {ts : List Str}, (∀ t ∈ ts, Cp t) → Cp (Str.join s ts)
  | [], _ => fun c hc => by
    have : c ∈ (#[] : Array Nat).toList := hc
    simp at this
  | [x], h => h x (List.mem_cons_self ..)
  | x :: y :: r, h => ((h x (List.mem_cons_self ..)).app hs).app (cp_join hs fun t ht => h t (List.mem_cons_of_mem _ ht))
theorem cp_from : ∀ {ts : List Str} {k : Nat} {acc : Str}, Cp acc → (∀ t ∈ ts, Cp t) → Cp (textFrom k acc ts)
  | [], _, _, a, _ => a
  | t :: ts, k, acc, a, h => cp_from (ts := ts) ((a.app cp_of).app (h t (List.mem_cons_self ..))) fun u hu => h u (List.mem_cons_of_mem _ hu)
theorem cp_hex {c n : Nat} : ∀ d ∈ List.replicate n 48 ++ (Nat.toDigits 16 c).map Char.toNat, d < 0x110000 := fun d hd => by
  rcases List.mem_append.mp hd with h | h
  · rw [List.eq_of_mem_replicate h]; decide
  · obtain ⟨e, _, rfl⟩ := List.mem_map.mp h
    show e.val.toNat < 0x110000
    rcases e.valid with h | h
    · have : e.val.toNat < 55296 := h
      omega
    · exact h.2
theorem cp_char {q c : Nat} (hc : c < 0x110000) : ∀ d ∈ Builtin.Str.reprChar q c, d < 0x110000 := fun d hd => by
  unfold Builtin.Str.reprChar at hd
  dsimp only at hd
  repeat' split at hd
  all_goals first
    | (simp only [List.mem_cons, List.not_mem_nil, or_false] at hd; omega)
    | (rcases List.mem_append.mp hd with h | h
       · simp only [List.mem_cons, List.not_mem_nil, or_false] at h; omega
       · exact cp_hex d h)
theorem cp_fold {q : Nat} : ∀ {l : List Nat} {acc : Array Nat}, (∀ c ∈ l, c < 0x110000) → (∀ c ∈ acc.toList, c < 0x110000) → ∀ c ∈ (l.foldl (fun out c => out ++ (Builtin.Str.reprChar q c).toArray) acc).toList, c < 0x110000
  | [], acc, _, h => h
  | c :: r, acc, hl, h => cp_fold (l := r) (fun d hd => hl d (List.mem_cons_of_mem _ hd)) fun d hd => by
    rw [Array.toList_append, List.mem_append] at hd
    exact hd.elim (h d) (cp_char (hl c (List.mem_cons_self ..)) d)
theorem cp_repr {x : Str} (h : Cp x) : Cp (reprText x) := fun c hc => by
  have q : reprQuote x < 0x110000 := by
    unfold reprQuote
    split <;> decide
  unfold reprText at hc
  dsimp only at hc
  rw [← Array.foldl_toList, Array.toList_push, List.mem_append] at hc
  rcases hc with h1 | h1
  · exact cp_fold h (fun d hd => by
      have : d = reprQuote x := by simpa using hd
      rw [this]; exact q) c h1
  · rw [List.mem_singleton.mp h1]; exact q
mutual
/-- all texts within hold code points only -/
def cpD : PyData → Bool
  | .none | .bool _ | .int _ => true
  | .str x => PyData.strOk x
  | .list xs | .tuple xs => cpAll xs
  | .dict kvs => cpKv kvs
def cpAll : List PyData → Bool
  | [] => true
  | x :: xs => cpD x && cpAll xs
def cpKv : List (PyData × PyData) → Bool
  | [] => true
  | (k, v) :: r => cpD k && cpD v && cpKv r
end
mutual
theorem cp_shown : ∀ d : PyData, cpD d = true → Cp d.shown
  | .none, _ => cp_of
  | .bool b, _ => by cases b <;> exact cp_of
  | .int i, _ => cp_of
  | .str x, h => by
    rw [PyData.shown]
    refine cp_repr fun c hc => ?_
    have h' : x.cps.all (· < 0x110000) = true := by simpa only [cpD, PyData.strOk] using h
    rw [Array.all_eq_true_iff_forall_mem] at h'
    simpa using h' c (Array.mem_def.mpr hc)
  | .list xs, h => by
    rw [PyData.shown]
    exact (cp_from cp_of (cp_all xs (by simpa only [cpD] using h))).app cp_of
  | .tuple xs, h => by
    rw [PyData.shown]
    exact (Cp.app cp_of (cp_join cp_of (cp_all xs (by simpa only [cpD] using h)))).app cp_of
  | .dict kvs, h => by
    rw [PyData.shown]
    exact (Cp.app cp_of (cp_join cp_of (cp_kvs kvs (by simpa only [cpD] using h)))).app cp_of
theorem cp_all : ∀ xs : List PyData, cpAll xs = true → ∀ t ∈ PyData.shownAll xs, Cp t
  | [], _, t, ht => by simp [PyData.shownAll] at ht
  | x :: r, h, t, ht => by
    rw [cpAll, Bool.and_eq_true] at h
    rw [PyData.shownAll] at ht
    rcases List.mem_cons.mp ht with rfl | z
    · exact cp_shown x h.1
    · exact cp_all r h.2 t z
theorem cp_kvs : ∀ kvs : List (PyData × PyData), cpKv kvs = true → ∀ t ∈ PyData.shownKv kvs, Cp t
  | [], _, t, ht => by simp [PyData.shownKv] at ht
  | (k, v) :: r, h, t, ht => by
    rw [cpKv, Bool.and_eq_true, Bool.and_eq_true] at h
    rw [PyData.shownKv] at ht
    rcases List.mem_cons.mp ht with rfl | z
    · exact ((cp_shown k h.1.1).app cp_of).app (cp_shown v h.1.2)
    · exact cp_kvs r h.2 t z
end
theorem cp_ok {x : Str} (h : Cp x) : PyData.strOk x = true := by
  unfold PyData.strOk
  rw [Array.all_eq_true_iff_forall_mem]
  intro c hc
  exact decide_eq_true (h c (Array.mem_def.mp hc))
theorem shp_str2 {v w : Str} (hv : PyData.strOk v = true) (hw : PyData.strOk w = true) : SeqAt.shaped (.tuple [.str v, .str w]) = true := by
  simp [SeqAt.shaped, PyData.canLay0, PyData.canLayAll0, hv, hw, PyData.depth, PyData.depthAll]
theorem eqv_str2 {v w : Str} : PyData.eqv (.tuple [.str v, .str w]) (.tuple [.str v, .str w]) = true := by simp [PyData.eqv, PyData.eqvAll]
end Ph

/-! PhOdd: data with dicts: kept where what it reaches is kept; bounds of its text. -/
namespace Ph
open PySem PySem.Spec PyProof.Rows L2
theorem sqL_same {K : PySem.W.Frag} {H H' : Hp} {a : Addr} {xs : List V} (s : Same H H') (h : SqL K H a xs) : SqL K H' a xs := s.seq h
theorem sqT_same {K : PySem.W.Frag} {H H' : Hp} {a : Addr} {xs : List V} (s : Same H H') (h : SqT K H a xs) : SqT K H' a xs := by
  rcases h with (h | ⟨o, h⟩) | h
  · exact .inl (.inl (s _ _ h))
  · exact .inl (.inr ⟨o, s _ _ h⟩)
  · exact .inr h
theorem Dq.same {K : PySem.W.Frag} {H H' : Hp} (s : Same H H') {v : V} {d : PyData} (h : Dq K H v d) : Dq K H' v d := by
  refine @Dq.rec K H (fun v d _ => Dq K H' v d) (fun vs ds _ => DqAll K H' vs ds) (fun kvs D _ => DqKvs K H' kvs D) ?_ ?_ ?_ ?_ ?_ ?_ ?_ ?_ ?_ ?_ ?_ v d h
  · exact .non
  · exact .bl
  · exact .int
  · exact .str
  · exact fun hs _ ih => .lst (sqL_same s hs) ih
  · exact fun hs _ ih => .tup (sqT_same s hs) ih
  · exact fun hs _ ih => .dct (hs.elim (fun e => .inl (s _ _ e)) fun ⟨o, e⟩ => .inr ⟨o, s _ _ e⟩) ih
  · exact .nil
  · exact fun _ _ i1 i2 => .cons i1 i2
  · exact .nil
  · exact fun _ _ i1 i2 => .cons i1 i2
/-- a heap without q: what changes at q alone leaves it as it is -/
theorem del_sub {H : Hp} {q : Addr} : Same (del H q) H := fun b o e => by
  by_cases h : b = q
  · rw [h, del_same] at e
    cases e
  · rw [del_ne h] at e
    exact e
structure Shd (d : PyData) (n k : Nat) : Prop where
  sh : d.showable = true
  dp : d.depth ≤ n
  lv : d.leavesShort 40 = true
  wt : d.weight ≤ k
  cp : cpD d = true
theorem Shd.ln {d : PyData} {n k : Nat} (s : Shd d n k) (hk : k ≤ 390000) : d.shown.length ≤ sizeLine := by
  have h := PyData.shown_le 40 (by decide) d s.lv
  have h2 := s.wt
  have h3 : sizeLine = 16777216 := by decide
  omega
theorem Shd.tup1 {d : PyData} {n k : Nat} (s : Shd d n k) : Shd (.tuple [d]) (n + 1) (k + 100) := by
  obtain ⟨h1, h2, h3, h4, h5⟩ := s
  refine ⟨by simp [PyData.showable, PyData.showableAll, h1], by simp [PyData.depth, PyData.depthAll]; omega, by simp [PyData.leavesShort, PyData.leavesShortAll, h3], by simp [PyData.weight, PyData.weightAll]; omega, by simp [cpD, cpAll, h5]⟩
theorem Shd.lst1 {d : PyData} {n k : Nat} (s : Shd d n k) : Shd (.list [d]) (n + 1) (k + 100) := by
  obtain ⟨h1, h2, h3, h4, h5⟩ := s
  refine ⟨by simp [PyData.showable, PyData.showableAll, h1], by simp [PyData.depth, PyData.depthAll]; omega, by simp [PyData.leavesShort, PyData.leavesShortAll, h3], by simp [PyData.weight, PyData.weightAll]; omega, by simp [cpD, cpAll, h5]⟩
theorem Shd.dct1 {d : PyData} {n k : Nat} (s : Shd d n k) : Shd (.dict [(.str "a", d)]) (n + 1) (k + 200) := by
  obtain ⟨h1, h2, h3, h4, h5⟩ := s
  have a1 : (PyData.str "a").showable = true := by decide +kernel
  have a2 : (PyData.str "a").depth = 0 := by decide +kernel
  have a3 : (PyData.str "a").leavesShort 40 = true := by decide +kernel
  have a4 : (PyData.str "a").weight ≤ 100 := by decide +kernel
  refine ⟨by simp [PyData.showable, PyData.showableKv, h1], by simp [PyData.depth, PyData.depthKv]; omega, by rw [PyData.leavesShort, PyData.leavesShortKv, PyData.leavesShortKv, a3, h3]; rfl, ?_, by rw [cpD, cpKv, cpKv, h5]; decide +kernel⟩
  simp [PyData.weight, PyData.weightKv]
  simp [PyData.weight] at a4
  omega
theorem but_del {H H' : Hp} {q : Addr} (b : But q H H') : Same (del H q) (del H' q) := fun c o e => by
  by_cases h : c = q
  · rw [h, del_same] at e
    cases e
  · rw [del_ne h] at e ⊢
    exact b _ _ h e
end Ph

/-! PhOd: odd values: nested data, kept whatever becomes of the addresses S (draws, tables). -/
namespace Ph
open PySem PySem.Spec PyProof.Rows L2
/-- a value that is no integer -/
inductive NoInt (K : PySem.W.Frag) (H : Hp) : V → Prop
  | bl (b : Bool) : NoInt K H (.bl b)
  | ty {x : V} {t : String} (h : TyX K H x (.type t)) (n : kitB t "int" = some false) : NoInt K H x
theorem tyX_same {K : PySem.W.Frag} {H H' : Hp} {x : V} {t : String} (s : Same H H') (h : TyX K H x (.type t)) : TyX K H' x (.type t) := by
  generalize ev : Value.type t = v at h
  cases h with
  | base b =>
    refine .base ?_
    cases b with
    | non => exact .non
    | bl x => exact .bl x
    | int i => exact .int i
    | str x => exact .str x
    | flt x => exact .flt x
    | lst e => exact .lst (s _ _ e)
    | frz e => exact .frz (s _ _ e)
    | tup e => exact .tup (s _ _ e)
    | dK e => exact .dK (s _ _ e)
    | dT e => exact .dT (s _ _ e)
    | ins e c a b d f => exact .ins (s _ _ e) c a b d f
  | byt b => exact .byt b
  | set e => exact .set (s _ _ e)
  | kList e c => exact .kList e c
  | kTuple e c => exact .kTuple e c
  | kDict e c => exact .kDict e c
  | fTuple e => exact .fTuple (s _ _ e)
  | fDict e => exact .fDict (s _ _ e)
theorem NoInt.same {K : PySem.W.Frag} {H H' : Hp} {x : V} (s : Same H H') (h : NoInt K H x) : NoInt K H' x := by
  cases h with
  | bl b => exact .bl b
  | ty h n => exact .ty (tyX_same s h) n
theorem NoInt.ne {K : PySem.W.Frag} {H : Hp} {i : Int} : ¬ NoInt K H (.int i) := fun h => by
  cases h with
  | ty h n =>
    generalize ev : Value.type _ = v at h
    cases h with
    | base b =>
      cases b
      cases ev
      exact absurd n (by decide +kernel)
/-- the heap without the addresses S -/
def hid (S : List Addr) (H : Hp) : Hp := fun b => if b ∈ S then none else H b
theorem hid_at {S : List Addr} {H : Hp} {b : Addr} (n : b ∉ S) : hid S H b = H b := if_neg n
theorem hid_sub {S : List Addr} {H : Hp} : Same (hid S H) H := fun b o e => by
  by_cases h : b ∈ S
  · rw [hid, if_pos h] at e
    cases e
  · rwa [hid_at h] at e
/-- all but S is kept -/
def ButS (S : List Addr) (H H' : Hp) : Prop := ∀ b o, b ∉ S → H b = some o → H' b = some o
theorem ButS.trans {S : List Addr} {H H1 H2 : Hp} (a : ButS S H H1) (b : ButS S H1 H2) : ButS S H H2 := fun c o n e => b c o n (a c o n e)
theorem ButS.refl (S : List Addr) (H : Hp) : ButS S H H := fun _ _ _ e => e
theorem ButS.of {S : List Addr} {H H' : Hp} (s : Same H H') : ButS S H H' := fun b o _ e => s b o e
theorem ButS.but {q : Addr} {H H' : Hp} (b : But q H H') : ButS [q] H H' := fun c o n e => b c o (fun z => n (by rw [z]; exact List.mem_singleton.mpr rfl)) e
theorem ButS.up {S T : List Addr} {H H' : Hp} (b : ButS S H H') (i : ∀ a ∈ S, a ∈ T) : ButS T H H' := fun c o n e => b c o (fun z => n (i c z)) e
theorem hid_but {S : List Addr} {H H' : Hp} (k : ButS S H H') : Same (hid S H) (hid S H') := fun b o e => by
  by_cases h : b ∈ S
  · rw [hid, if_pos h] at e
    cases e
  · rw [hid_at h] at e ⊢
    exact k b o h e
structure OdV (K : PySem.W.Frag) (S : List Addr) (H : Hp) (n : Nat) (x : V) (d : PyData) : Prop where
  dq : Dq K (hid S H) x d
  sd : Shd d (n + 2) (2000 + 200 * n)
  ty : NoInt K (hid S H) x ∨ ∃ i : Int, x = .int i
theorem Shd.up {d : PyData} {n m k l : Nat} (s : Shd d n k) (h1 : n ≤ m) (h2 : k ≤ l) : Shd d m l := ⟨s.sh, Nat.le_trans s.dp h1, s.lv, Nat.le_trans s.wt h2, s.cp⟩
theorem shd_intB {i : Int} (h : i.natAbs < 10 ^ 35) : Shd (.int i) 0 120 := by
  have hl : i.natAbs.log2 < 120 := by
    by_cases z : i.natAbs = 0
    · rw [z]; decide
    · exact (Nat.log2_lt z).mpr (Nat.lt_of_lt_of_le h (by decide))
  refine ⟨?_, by simp only [PyData.depth]; omega, ?_, ?_, by rw [cpD]⟩
  · simp only [PyData.showable, decide_eq_true_eq]
    omega
  · have e := int_text_length_le10 (a := i) (k := 35) (by decide) h
    have e2 : (PyData.shown (.int i)).length ≤ 40 := by
      show (Str.ofString (toString i)).length ≤ 40
      rw [PySem.ofString_length]
      omega
    simp only [PyData.leavesShort]
    exact decide_eq_true e2
  · simp only [PyData.weight]
    split <;> omega
theorem shd_int {i : Int} (h : i.natAbs < 10 ^ 20) : Shd (.int i) 0 120 := shd_intB (Nat.lt_trans h (by decide))
section
variable {K : PySem.W.Frag} {S : List Addr} {H H' : Hp} {n : Nat} {x : V} {d : PyData}
theorem OdV.keep (v : OdV K S H n x d) (k : ButS S H H') : OdV K S H' n x d := ⟨v.dq.same (hid_but k), v.sd, v.ty.elim (fun z => .inl (z.same (hid_but k))) .inr⟩
theorem OdV.same (v : OdV K S H n x d) (s : Same H H') : OdV K S H' n x d := v.keep (.of s)
theorem OdV.up {m : Nat} (v : OdV K S H n x d) (h : n ≤ m) : OdV K S H m x d := ⟨v.dq, v.sd.up (by omega) (by omega), v.ty⟩
theorem OdV.now (v : OdV K S H n x d) : Dq K H x d := v.dq.same hid_sub
theorem OdV.tyn (v : OdV K S H n x d) : NoInt K H x ∨ ∃ i : Int, x = .int i := v.ty.elim (fun z => .inl (z.same hid_sub)) .inr
theorem OdV.int {i : Int} (h : i.natAbs < 10 ^ 20) : OdV K S H 0 (.int i) (.int i) := ⟨.int i, (shd_int h).up (by omega) (by omega), .inr ⟨i, rfl⟩⟩
theorem OdV.intB {i : Int} (h : i.natAbs < 10 ^ 35) : OdV K S H 0 (.int i) (.int i) := ⟨.int i, (shd_intB h).up (by omega) (by omega), .inr ⟨i, rfl⟩⟩
theorem OdV.bl (b : Bool) : OdV K S H 0 (.bl b) (.bool b) := ⟨.bl b, by cases b <;> exact ⟨by decide +kernel, by decide +kernel, by decide +kernel, by decide +kernel, by decide +kernel⟩, .inl (.bl b)⟩
theorem OdV.non : OdV K S H 0 .non .none := ⟨.non, ⟨by decide +kernel, by decide +kernel, by decide +kernel, by decide +kernel, by decide +kernel⟩, .inl (.ty (.base .non) (by decide +kernel))⟩
theorem OdV.str (y : Str) (s : Shd (.str y) 2 2000) : OdV K S H 0 (.str y) (.str y) := ⟨.str y, s, .inl (.ty (.base (.str y)) (by decide +kernel))⟩
theorem OdV.tup {t : Addr} {xs : List V} {ds : List PyData} (e : H t = some (.tup xs)) (nt : t ∉ S) (a : DqAll K (hid S H) xs ds) (s : Shd (.tuple ds) (n + 2) (2000 + 200 * n)) : OdV K S H n (.ref t) (.tuple ds) :=
  have e' : hid S H t = some (.tup xs) := (hid_at nt).trans e
  ⟨.tup (.inl (.inl e')) a, s, .inl (.ty (.base (.tup e')) (by decide +kernel))⟩
theorem OdV.lst {t : Addr} {xs : List V} {ds : List PyData} (e : H t = some (.lst xs)) (nt : t ∉ S) (a : DqAll K (hid S H) xs ds) (s : Shd (.list ds) (n + 2) (2000 + 200 * n)) : OdV K S H n (.ref t) (.list ds) :=
  have e' : hid S H t = some (.lst xs) := (hid_at nt).trans e
  ⟨.lst (.inl (.inl e')) a, s, .inl (.ty (.base (.lst e')) (by decide +kernel))⟩
theorem OdV.dct {t : Addr} {kvs : List (Key × V)} {ds : List (PyData × PyData)} (e : H t = some (.dK kvs)) (nt : t ∉ S) (a : DqKvs K (hid S H) kvs ds) (s : Shd (.dict ds) (n + 2) (2000 + 200 * n)) : OdV K S H n (.ref t) (.dict ds) :=
  have e' : hid S H t = some (.dK kvs) := (hid_at nt).trans e
  ⟨.dct (.inl e') a, s, .inl (.ty (.base (.dK e')) (by decide +kernel))⟩
theorem OdV.tup1 {t : Addr} (v : OdV K S H n x d) (e : H t = some (.tup [x])) (nt : t ∉ S) : OdV K S H (n + 1) (.ref t) (.tuple [d]) := .tup e nt (.cons v.dq .nil) (v.sd.tup1.up (by omega) (by omega))
theorem OdV.lst1 {t : Addr} (v : OdV K S H n x d) (e : H t = some (.lst [x])) (nt : t ∉ S) : OdV K S H (n + 1) (.ref t) (.list [d]) := .lst e nt (.cons v.dq .nil) (v.sd.lst1.up (by omega) (by omega))
theorem OdV.dct1 {t : Addr} (v : OdV K S H n x d) (e : H t = some (.dK [(Sum.inr "a", x)])) (nt : t ∉ S) : OdV K S H (n + 1) (.ref t) (.dict [(.str "a", d)]) := .dct e nt (.cons (k := Sum.inr "a") v.dq .nil) (v.sd.dct1.up (by omega) (by omega))
theorem Shd.tup2 {m k : Nat} (s : Shd d m k) : Shd (.tuple [d, .int 1]) (m + 1) (k + 200) := by
  obtain ⟨h1, h2, h3, h4, h5⟩ := s
  have a1 : (PyData.int 1).showable = true := by decide +kernel
  have a2 : (PyData.int 1).depth = 0 := by decide +kernel
  have a3 : (PyData.int 1).leavesShort 40 = true := by decide +kernel
  have a4 : (PyData.int 1).weight ≤ 100 := by decide +kernel
  refine ⟨by rw [PyData.showable, PyData.showableAll, PyData.showableAll, PyData.showableAll, h1, a1]; rfl, by simp [PyData.depth, PyData.depthAll]; omega, by rw [PyData.leavesShort, PyData.leavesShortAll, PyData.leavesShortAll, PyData.leavesShortAll, a3, h3]; rfl, by simp [PyData.weight, PyData.weightAll]; simp [PyData.weight] at a4; omega, by simp [cpD, cpAll, h5]⟩
theorem OdV.tup2 {t : Addr} (v : OdV K S H n x d) (e : H t = some (.tup [x, .int 1])) (nt : t ∉ S) : OdV K S H (n + 1) (.ref t) (.tuple [d, .int 1]) := .tup e nt (.cons v.dq (.cons (.int 1) .nil)) (v.sd.tup2.up (by omega) (by omega))
end
theorem same_upd2 {H : Hp} {a : Addr} {o o' : HO} (n : H a = none) : Same H (upd (upd H a o) a o') := fun b u e => by
  rw [upd_upd, upd_ne (ne_of_none e n)]
  exact e
/-- the list of what is drawn from -/
def OdL (K : PySem.W.Frag) (S : List Addr) (H : Hp) (xs : List V) : Prop := ∀ x ∈ xs, ∃ d, OdV K S H 0 x d
theorem OdL.keep {K : PySem.W.Frag} {S : List Addr} {H H' : Hp} {xs : List V} (h : OdL K S H xs) (k : ButS S H H') : OdL K S H' xs := fun x hx => (h x hx).elim fun d o => ⟨d, o.keep k⟩
theorem OdL.app {K : PySem.W.Frag} {S : List Addr} {H : Hp} {xs ys : List V} (h : OdL K S H xs) (h' : OdL K S H ys) : OdL K S H (xs ++ ys) := fun x hx => (List.mem_append.mp hx).elim (h x) (h' x)
theorem OdL.nil {K : PySem.W.Frag} {S : List Addr} {H : Hp} : OdL K S H [] := fun x hx => nomatch hx
theorem OdL.cons {K : PySem.W.Frag} {S : List Addr} {H : Hp} {x : V} {xs : List V} {d : PyData} (o : OdV K S H 0 x d) (h : OdL K S H xs) : OdL K S H (x :: xs) := fun y hy => (List.mem_cons.mp hy).elim (fun e => ⟨d, e ▸ o⟩) (h y)
theorem OdL.ints {K : PySem.W.Frag} {S : List Addr} {H : Hp} : ∀ {ns : List Int}, (∀ n ∈ ns, n.natAbs < 10 ^ 20) → OdL K S H (ns.map V.int)
  | [], _ => .nil
  | n :: r, h => .cons (.int (h n (List.mem_cons_self ..))) (OdL.ints fun m hm => h m (List.mem_cons_of_mem _ hm))
end Ph

/-! PhEi: own errors of one field: their __init__, raising them. -/
namespace Ph
open PySem PySem.Spec PyProof.Rows L2
/-- E(x): the field f is x -/
def spEi (C : Addr) (f : Str) : Sp := fun vs H Q _ => ∃ (a : Addr) (x : V), vs = [.ref a, x] ∧ H a = some (exo a C none) ∧ ∀ dx, H dx = none → dx ≠ a → Q .non (upd (upd H dx (exd dx [(f, x)])) a (exo a C (some dx)))
/-- what a raised error is to who catches it -/
def ErrX (C : Addr) (f : Str) (x : V) (H : Hp) (E : XK) : Prop := ∀ H' d, Same H H' → H' d = some (.xd [(f, x)]) → E (.ref C) (some d) H'
theorem ErrX.from {C : Addr} {f : Str} {x : V} {H H1 : Hp} {E : XK} (q : ErrX C f x H E) (s : Same H H1) : ErrX C f x H1 E := fun H' d s' e => q H' d (s.trans s') e
theorem ei_out {H : Hp} {C : Addr} {f : Str} {x : V} {E : XK} (q : ErrX C f x H E) (a : Addr) (na : H a = none) :
    spEi C f [.ref a, x] (upd H a (exo a C none)) (fun v H2 => v = .non ∧ ∃ (d : Addr) (fs : List (Str × V)), H2 a = some (exo a C (some d)) ∧ H2 d = some (exd d fs) ∧ H d = none ∧ E (.ref C) (some d) (upd (del H2 a) d (.xd fs))) (fun _ _ _ => False) := by
  refine ⟨a, x, rfl, upd_same, fun dx ndx ne => ?_⟩
  have nd : H dx = none := by
    rw [upd_ne ne] at ndx
    exact ndx
  refine ⟨rfl, dx, [(f, x)], upd_same, by rw [upd_ne ne]; exact upd_same, nd, q _ dx (fun b o e => ?_) upd_same⟩
  have n1 : b ≠ dx := ne_of_none e nd
  have n2 : b ≠ a := ne_of_none e na
  rw [upd_ne n1, del_ne n2, upd_ne n2, upd_ne n1, upd_ne n2]
  exact e
/-- is_integer of any value -/
def spI2 (K : PySem.W.Frag) : Sp := fun vs H Q _ => ∃ x : V, vs = [x] ∧ ((∃ i : Int, x = .int i ∧ Q (.bl true) H) ∨ (NoInt K H x ∧ Q (.bl false) H))
/-- a def that keeps one promise and another, the second by raising -/
theorem fn_or {P : Program} {w : World} {K : PySem.W.Frag} {mg : Str → Option Value} {base : Heap} {k : Nat} {f : Addr} {fd : FuncData} {ps : List Str} {s1 s2 : Sp} (F1 : FnOk P w K mg base CX0 k f fd ps s1) (F2 : FnOk P w K mg base (L2.CX P w) k f fd ps s2) :
    FnOk P w K mg base (L2.CX P w) k f fd ps (fun vs H Q E => s1 vs H Q E ∨ s2 vs H Q E) :=
  ⟨fun vs H Q E h => h.elim (F1.len vs H Q E) (F2.len vs H Q E), fun A outer s H args us vs Q E hr e0 hb r h => h.elim (fun h => codeAny_mono (F1.run A outer s H args us vs Q E hr e0 hb r h) fun r s' out => match r, out with
    | .error _, out => (show False from out).elim
    | .ok (.ret _), out => out) (F2.run A outer s H args us vs Q E hr e0 hb r)⟩
/-- an argument that is no size; one that is no address -/
def BadZ (K : PySem.W.Frag) (H : Hp) (C : List Int) (x : V) : Prop := NoInt K H x ∨ ∃ i : Int, x = .int i ∧ i ∉ C
def BadA (K : PySem.W.Frag) (H : Hp) (z : Int) (y : V) : Prop := NoInt K H y ∨ ∃ A : Int, y = .int A ∧ (A < 0 ∨ A % z ≠ 0)
theorem BadZ.same {K : PySem.W.Frag} {H H' : Hp} {C : List Int} {x : V} (s : Same H H') (b : BadZ K H C x) : BadZ K H' C x := b.elim (fun n => .inl (n.same s)) .inr
theorem BadA.same {K : PySem.W.Frag} {H H' : Hp} {z : Int} {y : V} (s : Same H H') (b : BadA K H z y) : BadA K H' z y := b.elim (fun n => .inl (n.same s)) .inr
/-- what check_address raises -/
def BadC (K : PySem.W.Frag) (CB CP : Addr) (H : Hp) (c : Addr) (x y : V) (E : XK) : Prop := ∃ C, ChAt H c C ∧ ((BadZ K H C x ∧ ErrX CB "size" x H E) ∨ ∃ z : Int, x = .int z ∧ z ∈ C ∧ 0 < z ∧ BadA K H z y ∧ ErrX CP "address" y H E)
end Ph

namespace PySem
open Sem (wp)
set_option maxHeartbeats 1000000 in
theorem ph_enum1 {v : Value} {o : Obj} {H : Heap → Prop} (B : Begins v o H) :
    Meets (Builtin.«enumerate.__new__» ⟨[.type "enumerate", v], []⟩) (fun _ R s => H s.heap ∧
      R (.ok (.ret (.ref (s.heap.push o).objs.size))) { s with heap := (s.heap.push o).push { cls := .type "enumerate", data := .fields #[.none, .bool false, .ref s.heap.objs.size, rawInt 0, .none, .none] } }) :=
  .of_wp fun prog w A R s h => by
    obtain ⟨hp, g, d, tk, os⟩ := s; obtain ⟨h1, h⟩ := h
    have hsub := sub_enumerate
    have q1 : ∀ {A' : Around} {E : Value → Shared → Prop} {Q : Value → Shared → Prop}, Q (.ref hp.objs.size) ⟨hp.push o, g, d, tk, os⟩ → wpAny (model prog w) A' (pyIter v) Q E ⟨hp, g, d, tk, os⟩ :=
      fun q => B.iter prog w _ _ ⟨hp, g, d, tk, os⟩ _ h1 q
    wp_walk using q1
    refine wpAny_stack_any fun st => wpAny_pure ?_
    split
    · rename_i c _ _ _ _ _
      cases (c == Value.type "enumerate")
      · wp_walk using q1
        exact ⟨_, rfl, h⟩
      · wp_walk using q1
        exact ⟨_, rfl, h⟩
    · wp_walk using q1
      exact ⟨_, rfl, h⟩
theorem ph_enum {prog : Program} {w : World} {A : Around} {E : Value → Shared → Prop} {s : Shared} {v : Value} {o : Obj} {H : Heap → Prop} {Q : Value → Shared → Prop} (B : Begins v o H) (h1 : H s.heap)
    (h : ∀ h', IsEnum h' (s.heap.objs.size + 1) s.heap.objs.size 0 .none → h'.get? s.heap.objs.size = some o → h'.objs.size = s.heap.objs.size + 2 →
      (∀ b o, s.heap.get? b = some o → h'.get? b = some o) → Q (.ref (s.heap.objs.size + 1)) { s with heap := h' }) :
    wpAny (model prog w) A (call (.type "enumerate") [v]) Q E s := by
  refine callType_new F.called_enumerate (by decide) (F.typeCall_enumerate_1 _) (F.newCall_enumerate_1 _) (fun obj => F.args_object_init_2 obj _) F.entry_enumerate_new
    (ph_enum1 B) ⟨h1, ?_⟩
  have hz : (s.heap.push o).objs.size = s.heap.objs.size + 1 := Heap.size_push ..
  show _ ∧ _
  rw [hz]
  have he : IsEnum ((s.heap.push o).push { cls := .type "enumerate", data := .fields #[.none, .bool false, .ref s.heap.objs.size, rawInt 0, .none, .none] }) (s.heap.objs.size + 1) s.heap.objs.size 0 .none := by
    have := Heap.get?_push_size (s.heap.push o) (o := { cls := .type "enumerate", data := .fields #[.none, .bool false, .ref s.heap.objs.size, rawInt 0, .none, .none] }) rfl
    rw [hz] at this; exact this
  refine ⟨⟨_, he, rfl⟩, h _ he (Heap.get?_push_of_some _ (Heap.get?_push_size _ B.free)) (by rw [Heap.size_push, hz]) fun b o x => Heap.get?_push_of_some _ (Heap.get?_push_of_some _ x)⟩
end PySem
namespace Ph
open PySem PySem.Spec PyProof.Rows L2
/-! ### enumerate of a tuple or a list (true: a tuple) -/
def IteK (k : Bool) (K : PySem.W.Frag) (a : Addr) : It :=
  ⟨fun i H => ∃ (xs : List V) (x : V), SqK k K H a xs ∧ xs[i]? = some x, fun i H v H' => ∃ T x, v = .ref T ∧ H T = none ∧ H' = upd H T (.tup [.int (i : Nat), x]) ∧ ∀ xs, SqK k K H a xs → xs[i]? = some x, fun i H => ∃ xs : List V, SqK k K H a xs ∧ i = xs.length⟩
theorem turn_enumK {P : Program} {w : World} {K : PySem.W.Frag} {elts : List Expr} {kk : Nat} {tpos : Pos} {k : Bool} (a e it : Addr) (na : a ≠ it) (ne : e ≠ it) (nea : e ≠ a) :
    Turn P w K (.Tuple elts kk tpos) (IteK k K a) [e, it] e (fun i h => (∃ old, IsEnum h e it ((i : Nat) : Int) old) ∧ ItrK k h it a i) where
  mem := by simp
  obj := fun i h st b hb => by
    obtain ⟨⟨old, he⟩, h1⟩ := st
    have e' : b = e ∨ b = it := by simpa using hb
    rcases e' with z | z
    · rw [z]; exact ⟨_, he, fun v q => nomatch q⟩
    · rw [z]; exact h1.obj
  keep := fun i h h' st k => let ⟨⟨old, he⟩, hi⟩ := st; ⟨⟨old, k e (by simp) _ he⟩, hi.on fun o q => k it (by simp) o q⟩
  item := by
    intro X hP hw hK hc i pins s σ H E I hf st hg
    subst hP hw hK
    obtain ⟨⟨old, he⟩, hit⟩ := st
    obtain ⟨xs, x, hq, hx⟩ := hg
    obtain ⟨its, rv, p, _⟩ := Inv.seqK I hq
    obtain ⟨u, hu, ru⟩ := rv.get hx
    have hel : e < s.heap.objs.size := Heap.lt_size he
    have hil : it < s.heap.objs.size := by obtain ⟨_, q, _⟩ := hit.obj; exact Heap.lt_size q
    have l1 : i < its.toArray.size := by
      have := (List.getElem?_eq_some_iff.mp hu).1
      simpa using this
    have hh : X.A.in1.handled = none := I.ok.hd hc
    refine wpAny_pyNext_enum_itemD (drawK k hh it a na its.toArray) he ⟨hit, p⟩ l1 ne (by simp [ne, nea]) fun y h' tk hy ho hst hT hsz hk => ?_
    have ey : y = u := by
      have q : its.toArray[i]? = some u := by simpa using hu
      rw [hy] at q
      exact Option.some.inj q
    subst ey
    refine ⟨_, rfl, wpAny_letOwnedTupleGo_enum (s := { s with heap := h', toks := tk + 1 }) ho fun h'' he' sb => ?_⟩
    have hT2 : h''.get? s.heap.objs.size = some { cls := .type "tuple", data := .seq #[.int i tk, y] } := (sb.2 _ (Nat.ne_of_gt hel)).trans hT
    have new : ObjOk X.prog X.w (upd H s.heap.objs.size (.tup [.int (i : Nat), x])) h'' s.heap.objs.size (.tup [.int (i : Nat), x]) :=
      ⟨by show 2 ≤ sizeLine; decide, [.int i tk, y], .cons ⟨_, rfl⟩ (.cons ru .nil), ⟨_, hT2, rfl, _, rfl⟩⟩
    have I1 : Inv X pins σ (upd H s.heap.objs.size (.tup [.int (i : Nat), x])) { s with heap := h'', toks := tk + 1 } :=
      I.turnedNew (ch := [e, it]) (fun b ob hb q => (sb.2 b (fun z => hb (by simp [z]))).trans (hk b ob (fun z => hb (by simp [z])) (fun z => hb (by simp [z])) q)) hf (Nat.le_refl _) new
    refine ⟨.ref s.heap.objs.size, _, I1, rfl, ⟨_, x, rfl, I.hok.fresh (Nat.le_refl _), rfl, fun ys hy => by rw [Inv.seqK_inj I hy hq]; exact hx⟩, ⟨⟨y, ?_⟩, hst.1.on fun o q => (sb.2 it (Ne.symm ne)).trans q⟩, fun b hb => ?_⟩
    · have e1 : ((i + 1 : Nat) : Int) = (i : Int) + 1 := by omega
      rw [e1]; exact he'
    · have hb' : b < s.heap.objs.size := by
        have e' : b = e ∨ b = it := by simpa using hb
        rcases e' with z | z
        · rw [z]; exact hel
        · rw [z]; exact hil
      rw [upd_ne (Nat.ne_of_lt hb')]
      exact (hf b hb).1
  done := by
    intro X hP hw hK hc i pins s σ H E I hf st hg
    subst hP hw hK
    obtain ⟨⟨old, he⟩, hit⟩ := st
    obtain ⟨xs, hq, hx⟩ := hg
    obtain ⟨its, rv, p, _⟩ := Inv.seqK I hq
    obtain ⟨f0, f1, f2, f3, f4, f5⟩ := hf it (by simp)
    have hh : X.A.in1.handled = none := I.ok.hd hc
    have en : i = its.toArray.size := by rw [hx, rv.length]; simp
    exact wpAny_pyNext_enum_endD (drawK k hh it a na its.toArray) he (by rw [← en]; exact ⟨hit, p⟩) fun h' eb => ⟨rfl, I.turned (t' := s.toks) (fun b o hb q => eb b o hb q) f0 f1 f3 f4 f5⟩
  self := fun A i s Q E st h => let ⟨⟨_, he⟩, _⟩ := st; wpAny_pyIter_enum he h
def iEnumK (k : Bool) (K : PySem.W.Frag) (ta : TA) : TI := fun σ H R => ta σ H fun vs H1 => ∃ a xs, vs = [.ref a] ∧ SqK k K H1 a xs ∧ R (IteK k K a) H1
theorem pi_enumK {k : Bool} {X : Cx} {e : Expr} {ta : TA} {p pos tpos : Pos} {elts : List Expr} {kk : Nat} (hg : Gl X "enumerate") (hm : X.mg "enumerate" = none) (ha : PA X [e] ta) (hs : starEach [e] X.env = [(false, eval e X.env)] := by rfl) :
    PI X (.Tuple elts kk tpos) (.Call (.Name "enumerate" p) [e] [] pos) (iEnumK k X.K ta) := by
  refine ⟨fun pins s σ H R I h => ?_⟩
  refine Call_ (ld_blt I hg hm boot_enumerate (PyProof.Rows.callWith_type1 (thn (ha.run pos pins s σ H _ I h) fun us s1 ⟨vs, H1, I1, r1, q1⟩ => ?_) hs rfl))
  obtain ⟨a, xs, ex, hq, q⟩ := q1
  subst ex
  cases r1 with
  | cons r rr =>
    cases rr
    cases r
    obtain ⟨its, rv, p', la⟩ := Inv.seqK I1 hq
    refine ph_enum (beginK k a its.toArray) p' fun h' he hit hsz hk => wpAny_pyIter_enum he ?_
    have I2 : Inv X pins σ H1 { s1 with heap := h' } := I1.kept (t' := s1.toks) hk
    refine ⟨s1.heap.objs.size + 1, [s1.heap.objs.size + 1, s1.heap.objs.size], _, _, H1, rfl, I2, turn_enumK a (s1.heap.objs.size + 1) s1.heap.objs.size (Nat.ne_of_lt la) (Nat.succ_ne_self _) (Nat.ne_of_gt (Nat.lt_succ_of_lt la)), ⟨⟨.none, he⟩, itoK_it hit⟩, fun b hb => ?_, q⟩
    have e' : b = s1.heap.objs.size + 1 ∨ b = s1.heap.objs.size := by simpa using hb
    have hle : s1.heap.objs.size ≤ b := by
      rcases e' with z | z
      · rw [z]; exact Nat.le_add_right _ _
      · rw [z]; exact Nat.le_refl _
    exact I1.fpOk hle (I1.hok.fresh hle)
theorem walk_enumK {k : Bool} {K : PySem.W.Frag} {a : Addr} {xs : List V} : Walk (IteK k K a) xs.length (fun H => SqK k K H a xs) (YPair (fun i => some (.int (i : Nat))) (fun i => xs[i]?)) := by
  refine ⟨fun i _ hi q => ⟨xs, xs[i], q, by simp [hi]⟩, fun _ q => ⟨xs, q, rfl⟩, fun i H v H' _ q y => ?_⟩
  obtain ⟨T, x, h1, h2, h3, h4⟩ := y
  exact ⟨T, _, x, h1, h2, h3, rfl, h4 xs q⟩
end Ph

namespace Ph
open PySem PySem.Spec PyProof.Rows L2
section
variable {X : Cx}
/-! ### repr of data or of None -/
def rRpN (K : PySem.W.Frag) : List V → Hp → VK → Prop := fun xs H Q => (xs = [.non] ∧ Q (.str "None") H) ∨ rRp K xs H Q
theorem call_rpN (hgu : X.A.guards = some []) (hu : X.A.units + 64 < cLine) : CallR X (.builtin "repr") (rRpN X.K) := by
  intro pins s σ H xs us Q I r h
  rcases h with ⟨rfl, q⟩ | h
  · obtain ⟨u, rfl, ru⟩ := vals1 r
    cases ru
    exact P.repr_of_none ⟨.str _, H, I.tok _, ⟨_, rfl⟩, q⟩
  · exact call_rp hgu hu pins s σ H xs us Q I r h
end
/-! ### lists of blocks, and lists of such -/
def lD (bs : List (Int × Int)) : PyData := .list (bs.map bD)
theorem lD_lay (zs : List (Int × Int)) : (lD zs).canLay0 = true := by unfold lD; simp only [PyData.canLay0]; exact bDs_lay zs
theorem lD_depth (zs : List (Int × Int)) : (lD zs).depth ≤ 2 := by
  have h1 := bDs_depth zs
  unfold lD
  simp only [PyData.depth]
  omega
theorem lD_shaped (zs : List (Int × Int)) : SeqAt.shaped (lD zs) = true := by
  have h1 := lD_depth zs
  show ((lD zs).canLay0 && decide ((lD zs).depth ≤ 64)) = true
  rw [lD_lay, decide_eq_true (by omega)]
  rfl
theorem lDs_lay : ∀ zs : List (List (Int × Int)), PyData.canLayAll0 (zs.map lD) = true
  | [] => by simp [PyData.canLayAll0]
  | z :: zs => by simp only [List.map_cons, PyData.canLayAll0, lD_lay, lDs_lay zs, Bool.and_self]
theorem lDs_depth : ∀ zs : List (List (Int × Int)), PyData.depthAll (zs.map lD) ≤ 2
  | [] => by simp [PyData.depthAll]
  | z :: zs => by
    have h1 := lDs_depth zs
    have h2 := lD_depth z
    simp only [List.map_cons, PyData.depthAll]
    omega
theorem lDs_shaped (zs : List (List (Int × Int))) : SeqAt.shaped (.list (zs.map lD)) = true := by
  have h1 := lDs_depth zs
  have h2 : PyData.depth (.list (zs.map lD)) ≤ 64 := by simp only [PyData.depth]; omega
  have h3 : PyData.canLay0 (.list (zs.map lD)) = true := by simp only [PyData.canLay0]; exact lDs_lay zs
  show (PyData.canLay0 (.list (zs.map lD)) && decide (PyData.depth (.list (zs.map lD)) ≤ 64)) = true
  rw [h3, decide_eq_true h2]
  rfl
theorem lD_nil (zs : List (Int × Int)) : PyData.eqv (lD zs) (lD []) = decide (zs = []) := by
  cases zs with
  | nil => simp [lD, PyData.eqv, PyData.eqvAll]
  | cons z zs => simp [lD, PyData.eqv, PyData.eqvAll]
theorem lDs_any (zs : List (List (Int × Int))) : ((zs.map lD).any fun z => PyData.eqv z (lD [])) = decide ([] ∈ zs) := by
  induction zs with
  | nil => simp
  | cons z zs ih =>
    rw [List.map_cons, List.any_cons, ih, lD_nil, Bool.eq_iff_iff, Bool.or_eq_true, decide_eq_true_iff, decide_eq_true_iff, decide_eq_true_iff, List.mem_cons]
    constructor
    · rintro (h | h)
      · exact .inl h.symm
      · exact .inr h
    · rintro (h | h)
      · exact .inl h.symm
      · exact .inr h
end Ph

namespace Ph
open PySem PySem.Spec PyProof.Rows L2
/-- all keywords written, no defaults wanted -/
theorem kbn_all {K : PySem.W.Frag} {x qual : Str} {params : Arguments} {body : List Stmt} {scope : Scope} {kws : List (Str × V)} {f : Addr} {fd : FuncData} {ps : List Str} (F : FunD K x qual params body scope [] kws f fd) (n : Nat) (ks : List Str)
    (h : ∀ (kV doc pm : Value) (an : Option Addr) (cdv ct : Value) (us ws : List Value), us.length = n → ws.length = ks.length → bindArgs (PySem.W.fnOf x qual params body scope .none kV doc pm an cdv ct) ⟨us, ks.zip ws⟩ = pure (ps.zip (us ++ ws))) :
    KBn K fd ps n ks (fun us ws => us ++ ws) (fun vs zs => vs ++ zs) := by
  obtain ⟨oc, od, dV, kV, doc, pm, an, cdv, ct, osl, rfl, lk, hcd, hD, hK⟩ := F.ex
  rcases hD with ⟨_, rfl⟩ | ⟨e, _⟩
  · exact ⟨fun s us ws X l1 l2 => .of_eq (h kV doc pm an cdv ct us ws l1 l2), fun r1 r2 => r1.append r2⟩
  · exact absurd rfl e
theorem cut_to1 (xs : List V) : cutV xs none (some 1) = xs.take 1 := by
  unfold cutV HT.sIx
  cases xs <;> simp
end Ph

set_option maxHeartbeats 2000000
namespace Ph
open PySem PySem.Spec PyProof.Rows L2 LamX NdefX
set_option autoImplicit false
/-! ### max(xs, key=f), f a def made within the def -/
section
variable {X : Cx} {pins : List (Addr × Obj)} {σ : L2.St} {H : Hp} {s : Shared} {F : NF} {f l : Addr} {ps fr : List Str} {js : List Nat} {k : Nat} {sp : List (Option V) → Sp}
/-- what stands beside the loop: the iterator, its scratch list -/
structure Bes (X : Cx) (pins : List (Addr × Obj)) (H : Hp) (I S : Addr) : Prop where
  i : FpOk X pins H I
  s : FpOk X pins H S
/-- calls of the function f in the heap H -/
def RunsF (X : Cx) (k : Nat) (H : Hp) (f : Addr) (F : NF) (fr : List Str) (sp : List (Option V) → Sp) : Prop := ∀ (A : Around) (outer : List Env) (s : Shared) (us : List Value) (vs : List V) (ws : List (Option V)) (Q : VK), Room k A → Env0 X.prog X.w X.K X.mg X.base A outer s H → CellsAt F.cl fr ws s.heap H → Vals vs us → sp ws vs H Q E0 → codeAny (model X.prog X.w) A (.call (.ref f) ⟨us, []⟩) (CR CX0 outer X.prog X.w H s Q E0) s
theorem runsK (hf : H f = some (FnO f F)) (Fn : NOkK X.prog X.w X.K X.mg X.base CX0 k f F ps fr sp) : RunsF X k H f F fr sp := fun A outer s us vs ws Q hr e0 C r q => Fn.run A outer s H us vs ws Q E0 hr e0 hf C r q
theorem runsN (hf : H f = some (FnO f F)) (hcd : H F.c = some (CodeO F.c F.qual)) (Fn : NOk X.prog X.w X.K X.mg X.base CX0 k f F ps fr sp) : RunsF X k H f F fr sp := fun A outer s us vs ws Q hr e0 C r q => Fn.run A outer s H us vs ws Q E0 hr e0 hf hcd C r q
theorem key_run {ns : List Int} {its : List Value} {kf : Int → Int} {I S : Addr} {op : CmpOp} {bt : Nat → Nat → Bool} (hr : Room (k + 1) X.A) (Fn : RunsF X k H f F fr sp) (cp : X.Ok → Caps X F.cl fr js) (B : Bes X pins H I S) (hf : H f = some (FnO f F)) (rv : Vals (ns.map V.int) its)
    (hls : ∀ s', Inv X pins σ H s' → s'.heap.IsList l its.toArray)
    (hk : ∀ n ∈ ns, ∀ Q : VK, Q (.int (kf n)) H → sp (js.map (slotAt σ)) [.int n] H Q E0)
    (hcmp : CmpOf X.prog X.w X.A.in1 op (fun i v => ∃ t, v = .int (kf (ns.getD i 0)) t) bt) :
    KeyRun X.prog X.w X.A.in1 (.ref f) op S [I] (fun a b => b = a) its.toArray.size (fun i v => its.toArray[i]? = some v) (fun i s' => s'.heap.IsListIter I l i ∧ s'.heap.IsList l its.toArray) (fun s' => Inv X pins σ H s') (fun i v _ => ∃ t, v = .int (kf (ns.getD i 0)) t) bt where
  keep := fun s1 s2 I1 m => by
    obtain ⟨h2, g2, d2, t2, o2⟩ := s2
    have e1 : g2 = s1.gens := m.gens
    have e2 : d2 = s1.drawn := m.drawn
    have e3 : o2 = s1.os := m.os
    subst e1 e2 e3
    exact I1.turnedL (ch := S :: [I]) (fun b o hb e => m.heap b o hb e) fun b hb => by
      rcases List.mem_cons.mp hb with z | z
      · rw [z]; exact B.s
      · rw [List.mem_singleton.mp z]; exact B.i
  keepV := fun _ _ _ _ h _ => h
  turn := fun i v s1 o Q E hi hP I1 hst hS hQ => by
    obtain ⟨⟨oI, hoI, hoc, hod⟩, hli⟩ := hst
    have hi' : i < its.length := by simpa using hi
    have hv : its[i]? = some v := by simpa using hP
    have ln := rv.length
    rw [List.length_map] at ln
    have hn : ns.getD i 0 ∈ ns := by
      rw [List.getD_eq_getElem?_getD, List.getElem?_eq_getElem (by omega)]
      exact List.getElem_mem _
    obtain ⟨t, rfl⟩ : ∃ t, v = .int (ns.getD i 0) t := by
      obtain ⟨u, hu, ru⟩ := Vals.get rv (i := i) (x := V.int (ns.getD i 0)) (by rw [List.getElem?_map, List.getD_eq_getElem?_getD, List.getElem?_eq_getElem (by omega)]; rfl)
      rw [hv] at hu
      cases hu
      exact ru
    refine wpAny_call (codeAny_mono (Fn X.A.in1 X.stack s1 [.int (ns.getD i 0) t] [.int (ns.getD i 0)] _ (fun x H' => x = .int (kf (ns.getD i 0)) ∧ H' = H) hr.in1 I1.env0.in1 (cells_of I1 (cp I1.ok)) (.cons ⟨t, rfl⟩ .nil) (hk _ hn _ ⟨rfl, rfl⟩)) fun r s2 out => ?_)
    match r, out with
    | .error _, out => exact False.elim out
    | .ok (.ret u), out =>
      obtain ⟨x, H', os, bare, un, hok, rx, ex, eH⟩ := id out
      subst ex eH
      obtain ⟨t2, rfl⟩ := rx
      have ns1 : ∀ b, FpOk X pins H' b → b ∉ frs X.stack := fun b fp z => (List.mem_cons.mp (I1.stkSub b z)).elim fp.2.1 fp.2.2.1
      have kS := un.keep S o hS B.s.1 (ns1 S B.s) (by simp)
      have kI := un.keep I oI hoI B.i.1 (ns1 I B.i) (by simp)
      obtain ⟨x, H2, I2, rx, ex, eH⟩ := I1.after out
      subst eH
      exact hQ _ s2 I2 ⟨⟨oI, kI, hoc, hod⟩, hls _ I2⟩ kS ⟨t2, rfl⟩ fun _ _ h => h
  cmp := fun i j ki kj s1 Q E _ hi hj q => hcmp i j ki kj s1 Q E hi hj q
theorem best_gt (num : Nat → Int) : ∀ k, argBest (fun i j => decide (num i > num j)) k ≤ k ∧ ∀ j, j ≤ k → num j ≤ num (argBest (fun i j => decide (num i > num j)) k) ∧ (j < argBest (fun i j => decide (num i > num j)) k → num j < num (argBest (fun i j => decide (num i > num j)) k))
  | 0 => ⟨Nat.le_refl _, fun j hj => by
      have : j = 0 := by omega
      subst this
      exact ⟨Int.le_refl _, fun h => absurd h (Nat.not_lt_zero _)⟩⟩
  | k + 1 => by
    obtain ⟨h1, h2⟩ := best_gt num k
    simp only [argBest]
    by_cases hc : num (k + 1) > num (argBest (fun i j => decide (num i > num j)) k)
    · rw [if_pos (by simpa using hc)]
      refine ⟨Nat.le_refl _, fun j hj => ?_⟩
      by_cases e : j = k + 1
      · subst e
        exact ⟨Int.le_refl _, fun h => absurd h (Nat.lt_irrefl _)⟩
      · have := (h2 j (by omega)).1
        exact ⟨by omega, fun _ => by omega⟩
    · rw [if_neg (by simpa using hc)]
      refine ⟨by omega, fun j hj => ?_⟩
      by_cases e : j = k + 1
      · subst e
        exact ⟨by omega, fun h => by omega⟩
      · exact h2 j (by omega)
theorem run_maxKey {ol : Obj} {ns : List Int} {kf : Int → Int} {Q : VK} (hc : X.calm = true) (hr : Room (k + 1) X.A) (Fn : RunsF X k H f F fr sp) (cp : X.Ok → Caps X F.cl fr js) (I : Inv X pins σ H s) (hf : H f = some (FnO f F)) (hl : H l = some (.frz ol (.lst (ns.map V.int)))) (hne : ns ≠ [])
    (hk : ∀ n ∈ ns, ∀ Q : VK, Q (.int (kf n)) H → sp (js.map (slotAt σ)) [.int n] H Q E0)
    (q : ∀ (i : Nat) (m : Int), ns[i]? = some m → (∀ (j : Nat) (n : Int), ns[j]? = some n → kf n ≤ kf m ∧ (j < i → kf n < kf m)) → Q (.int m) H) :
    wpAny (model X.prog X.w) X.A (call (.builtin "max") [.ref l] [(Str.ofString "key", .ref f)]) (EP X pins σ Q) X.xe s := by
  have hname : (toString "max" ++ toString ".loop" : String) = "max.loop" := by decide
  have hq : SqL X.K H l (ns.map V.int) := .inl (.inr ⟨ol, hl⟩)
  obtain ⟨its, rv, pl, hz⟩ := I.list hq
  have hls := pl.isList
  have hlsA : ∀ s', Inv X pins σ H s' → s'.heap.IsList l its.toArray := fun s' I' => by
    obtain ⟨o, ho, hrest⟩ := id hls
    have e1 := (I.hok l _ hl).1
    have e2 := (I'.hok l _ hl).1
    rw [ho] at e1
    cases e1
    exact ⟨_, e2, hrest⟩
  have ln := rv.length
  rw [List.length_map] at ln
  have hn0 : 0 < ns.length := List.length_pos_iff.mpr hne
  obtain ⟨ol, hol, _⟩ := id hls
  have hll : l < s.heap.objs.size := Heap.lt_size hol
  refine kmk_tree PySem.F.kind_max PySem.F.plain_max PySem.F.entry_max (kmk_max_key _ _) ?_
  show wpAny _ X.A.in1 (Builtin.Builtins.bindParams "max" ["key", "default"] 0 ⟨[], [(Str.ofString "key", .ref f)]⟩ >>= _) _ _ s
  refine wpAny_bind (wpAny_of_eq (show Builtin.Builtins.bindParams "max" ["key", "default"] 0 ⟨[], [(Str.ofString "key", .ref f)]⟩ = pure [some (.ref f), none] from rfl) ?_)
  refine wpAny_bind (wpAny_pure ?_)
  refine wpAny_bind (wpAny_pyIter_list hls ?_)
  refine wpAny_bind (wpAny_newList ?_ (Nat.zero_le _))
  rw [hname]
  have hS : (s.heap.push { cls := .type "list_iterator", data := .fields #[.ref l, .int 0 0] }).objs.size = s.heap.objs.size + 1 := size_push' ..
  have hlI : l ≠ s.heap.objs.size := Nat.ne_of_lt hll
  refine wpAny_pure ⟨plainId_quiet PySem.F.plain_max_loop _, ?_⟩
  have gI : ((s.heap.push { cls := .type "list_iterator", data := .fields #[.ref l, .int 0 0] }).push (seqObj "list" #[] 0)).get? s.heap.objs.size = some { cls := .type "list_iterator", data := .fields #[.ref l, .int 0 0] } :=
    Heap.get?_push_of_some _ (Heap.get?_push_size _ rfl)
  have gS : ((s.heap.push { cls := .type "list_iterator", data := .fields #[.ref l, .int 0 0] }).push (seqObj "list" #[] 0)).get? (s.heap.push { cls := .type "list_iterator", data := .fields #[.ref l, .int 0 0] }).objs.size = some (seqObj "list" #[] 0) := Heap.get?_push_size _ rfl
  have W := (Walks.list (prog := X.prog) (w := X.w) (A := X.A.in1) (I.ok.hd hc) s.heap.objs.size l hlI its.toArray).toS
  have fI : H s.heap.objs.size = none := I.hok.fresh (Nat.le_refl _)
  have fS : H (s.heap.push { cls := .type "list_iterator", data := .fields #[.ref l, .int 0 0] }).objs.size = none := I.hok.fresh (by rw [hS]; omega)
  have B : Bes X pins H s.heap.objs.size (s.heap.push { cls := .type "list_iterator", data := .fields #[.ref l, .int 0 0] }).objs.size := ⟨I.fpOk (Nat.le_refl _) fI, I.fpOk (by rw [hS]; omega) fS⟩
  have KR := key_run (op := .Gt) (l := l) hr Fn cp B hf rv hlsA hk (CmpOf.ints_gt (P := fun i v => ∃ t, v = .int (kf (ns.getD i 0)) t) (fun i => kf (ns.getD i 0)) fun i v h => h)
  have I1 : Inv X pins σ H { s with heap := (s.heap.push { cls := .type "list_iterator", data := .fields #[.ref l, .int 0 0] }).push (seqObj "list" #[] 0), toks := s.toks } := I.kept (t' := s.toks) fun b o e => Heap.get?_push_of_some _ (Heap.get?_push_of_some _ e)
  refine codeAny_max_loop_firstK W _ ?_ KR [] ?_ (I.kept (t' := s.toks) fun b o e => Heap.get?_push_of_some _ (Heap.get?_push_of_some _ e)) ?_ gS fun v s' hv I' => ?_
  · intro hm
    rcases List.mem_cons.mp hm with z | z
    · rw [hS] at z
      exact absurd z (Nat.ne_of_gt (Nat.lt_succ_self _))
    · have z := List.mem_singleton.mp z
      rw [hS] at z
      exact absurd z (Nat.ne_of_gt (Nat.lt_succ_of_lt hll))
  · rw [List.size_toArray]
    omega
  · exact ⟨⟨_, gI, rfl, rfl⟩, hlsA _ I1⟩
  · obtain ⟨b1, b2⟩ := best_gt (fun i => kf (ns.getD i 0)) (its.toArray.size - 1)
    rw [List.size_toArray] at b1 b2 hv
    generalize argBest (fun i j => decide (kf (ns.getD i 0) > kf (ns.getD j 0))) (its.length - 1) = bi at *
    have hbi : bi < ns.length := by omega
    have gt : ∀ (j : Nat) (n : Int), ns[j]? = some n → ns.getD j 0 = n := fun j n e => by rw [List.getD_eq_getElem?_getD, e]; rfl
    obtain ⟨u, hu, ru⟩ := Vals.get rv (i := bi) (x := V.int ns[bi]) (by rw [List.getElem?_map, List.getElem?_eq_getElem hbi]; rfl)
    have hv' : its[bi]? = some v := by simpa using hv
    rw [hv'] at hu
    cases hu
    refine ⟨.int ns[bi], H, I', ru, q bi _ (List.getElem?_eq_getElem hbi) fun j n e => ?_⟩
    have hj := (List.getElem?_eq_some_iff.mp e).1
    have := b2 j (by omega)
    rw [gt j n e, gt bi _ (List.getElem?_eq_getElem hbi)] at this
    exact this
theorem best_lt (num : Nat → Int) : ∀ k, argBest (fun i j => decide (num i < num j)) k ≤ k ∧ ∀ j, j ≤ k → num (argBest (fun i j => decide (num i < num j)) k) ≤ num j ∧ (j < argBest (fun i j => decide (num i < num j)) k → num (argBest (fun i j => decide (num i < num j)) k) < num j)
  | 0 => ⟨Nat.le_refl _, fun j hj => by
      have : j = 0 := by omega
      subst this
      exact ⟨Int.le_refl _, fun h => absurd h (Nat.not_lt_zero _)⟩⟩
  | k + 1 => by
    obtain ⟨h1, h2⟩ := best_lt num k
    simp only [argBest]
    by_cases hc : num (k + 1) < num (argBest (fun i j => decide (num i < num j)) k)
    · rw [if_pos (by simpa using hc)]
      refine ⟨Nat.le_refl _, fun j hj => ?_⟩
      by_cases e : j = k + 1
      · subst e
        exact ⟨Int.le_refl _, fun h => absurd h (Nat.lt_irrefl _)⟩
      · have := (h2 j (by omega)).1
        exact ⟨by omega, fun _ => by omega⟩
    · rw [if_neg (by simpa using hc)]
      refine ⟨by omega, fun j hj => ?_⟩
      by_cases e : j = k + 1
      · subst e
        exact ⟨by omega, fun h => by omega⟩
      · exact h2 j (by omega)
theorem run_minKey {ol : Obj} {ns : List Int} {kf : Int → Int} {Q : VK} (hc : X.calm = true) (hr : Room (k + 1) X.A) (Fn : RunsF X k H f F fr sp) (cp : X.Ok → Caps X F.cl fr js) (I : Inv X pins σ H s) (hf : H f = some (FnO f F)) (hl : H l = some (.frz ol (.lst (ns.map V.int)))) (hne : ns ≠ [])
    (hk : ∀ n ∈ ns, ∀ Q : VK, Q (.int (kf n)) H → sp (js.map (slotAt σ)) [.int n] H Q E0)
    (q : ∀ (i : Nat) (m : Int), ns[i]? = some m → (∀ (j : Nat) (n : Int), ns[j]? = some n → kf m ≤ kf n ∧ (j < i → kf m < kf n)) → Q (.int m) H) :
    wpAny (model X.prog X.w) X.A (call (.builtin "min") [.ref l] [(Str.ofString "key", .ref f)]) (EP X pins σ Q) X.xe s := by
  have hname : (toString "min" ++ toString ".loop" : String) = "min.loop" := by decide
  have hq : SqL X.K H l (ns.map V.int) := .inl (.inr ⟨ol, hl⟩)
  obtain ⟨its, rv, pl, hz⟩ := I.list hq
  have hls := pl.isList
  have hlsA : ∀ s', Inv X pins σ H s' → s'.heap.IsList l its.toArray := fun s' I' => by
    obtain ⟨o, ho, hrest⟩ := id hls
    have e1 := (I.hok l _ hl).1
    have e2 := (I'.hok l _ hl).1
    rw [ho] at e1
    cases e1
    exact ⟨_, e2, hrest⟩
  have ln := rv.length
  rw [List.length_map] at ln
  have hn0 : 0 < ns.length := List.length_pos_iff.mpr hne
  obtain ⟨ol, hol, _⟩ := id hls
  have hll : l < s.heap.objs.size := Heap.lt_size hol
  refine kmk_tree PySem.F.kind_min PySem.F.plain_min PySem.F.entry_min (kmk_min_key _ _) ?_
  show wpAny _ X.A.in1 (Builtin.Builtins.bindParams "min" ["key", "default"] 0 ⟨[], [(Str.ofString "key", .ref f)]⟩ >>= _) _ _ s
  refine wpAny_bind (wpAny_of_eq (show Builtin.Builtins.bindParams "min" ["key", "default"] 0 ⟨[], [(Str.ofString "key", .ref f)]⟩ = pure [some (.ref f), none] from rfl) ?_)
  refine wpAny_bind (wpAny_pure ?_)
  refine wpAny_bind (wpAny_pyIter_list hls ?_)
  refine wpAny_bind (wpAny_newList ?_ (Nat.zero_le _))
  rw [hname]
  have hS : (s.heap.push { cls := .type "list_iterator", data := .fields #[.ref l, .int 0 0] }).objs.size = s.heap.objs.size + 1 := size_push' ..
  have hlI : l ≠ s.heap.objs.size := Nat.ne_of_lt hll
  refine wpAny_pure ⟨plainId_quiet PySem.F.plain_min_loop _, ?_⟩
  have gI : ((s.heap.push { cls := .type "list_iterator", data := .fields #[.ref l, .int 0 0] }).push (seqObj "list" #[] 0)).get? s.heap.objs.size = some { cls := .type "list_iterator", data := .fields #[.ref l, .int 0 0] } :=
    Heap.get?_push_of_some _ (Heap.get?_push_size _ rfl)
  have gS : ((s.heap.push { cls := .type "list_iterator", data := .fields #[.ref l, .int 0 0] }).push (seqObj "list" #[] 0)).get? (s.heap.push { cls := .type "list_iterator", data := .fields #[.ref l, .int 0 0] }).objs.size = some (seqObj "list" #[] 0) := Heap.get?_push_size _ rfl
  have W := (Walks.list (prog := X.prog) (w := X.w) (A := X.A.in1) (I.ok.hd hc) s.heap.objs.size l hlI its.toArray).toS
  have fI : H s.heap.objs.size = none := I.hok.fresh (Nat.le_refl _)
  have fS : H (s.heap.push { cls := .type "list_iterator", data := .fields #[.ref l, .int 0 0] }).objs.size = none := I.hok.fresh (by rw [hS]; omega)
  have B : Bes X pins H s.heap.objs.size (s.heap.push { cls := .type "list_iterator", data := .fields #[.ref l, .int 0 0] }).objs.size := ⟨I.fpOk (Nat.le_refl _) fI, I.fpOk (by rw [hS]; omega) fS⟩
  have KR := key_run (op := .Lt) (l := l) hr Fn cp B hf rv hlsA hk (CmpOf.ints_lt (P := fun i v => ∃ t, v = .int (kf (ns.getD i 0)) t) (fun i => kf (ns.getD i 0)) fun i v h => h)
  have I1 : Inv X pins σ H { s with heap := (s.heap.push { cls := .type "list_iterator", data := .fields #[.ref l, .int 0 0] }).push (seqObj "list" #[] 0), toks := s.toks } := I.kept (t' := s.toks) fun b o e => Heap.get?_push_of_some _ (Heap.get?_push_of_some _ e)
  refine codeAny_min_loop_firstK W _ ?_ KR [] ?_ (I.kept (t' := s.toks) fun b o e => Heap.get?_push_of_some _ (Heap.get?_push_of_some _ e)) ?_ gS fun v s' hv I' => ?_
  · intro hm
    rcases List.mem_cons.mp hm with z | z
    · rw [hS] at z
      exact absurd z (Nat.ne_of_gt (Nat.lt_succ_self _))
    · have z := List.mem_singleton.mp z
      rw [hS] at z
      exact absurd z (Nat.ne_of_gt (Nat.lt_succ_of_lt hll))
  · rw [List.size_toArray]
    omega
  · exact ⟨⟨_, gI, rfl, rfl⟩, hlsA _ I1⟩
  · obtain ⟨b1, b2⟩ := best_lt (fun i => kf (ns.getD i 0)) (its.toArray.size - 1)
    rw [List.size_toArray] at b1 b2 hv
    generalize argBest (fun i j => decide (kf (ns.getD i 0) < kf (ns.getD j 0))) (its.length - 1) = bi at *
    have hbi : bi < ns.length := by omega
    have gt : ∀ (j : Nat) (n : Int), ns[j]? = some n → ns.getD j 0 = n := fun j n e => by rw [List.getD_eq_getElem?_getD, e]; rfl
    obtain ⟨u, hu, ru⟩ := Vals.get rv (i := bi) (x := V.int ns[bi]) (by rw [List.getElem?_map, List.getElem?_eq_getElem hbi]; rfl)
    have hv' : its[bi]? = some v := by simpa using hv
    rw [hv'] at hu
    cases hu
    refine ⟨.int ns[bi], H, I', ru, q bi _ (List.getElem?_eq_getElem hbi) fun j n e => ?_⟩
    have hj := (List.getElem?_eq_some_iff.mp e).1
    have := b2 j (by omega)
    rw [gt j n e, gt bi _ (List.getElem?_eq_getElem hbi)] at this
    exact this
/-- the expressions, the list locked -/
def rKeyM (F : NF) (js : List Nat) (sp : List (Option V) → Sp) (le : Int → Int → Prop) (lt : Int → Int → Prop) : L2.St → List V → List V → Hp → VK → Prop := fun σ vs zs H Q => ∃ (l f : Addr) (ol : Obj) (ns : List Int) (kf : Int → Int), vs = [.ref l] ∧ zs = [.ref f] ∧ H f = some (FnO f F) ∧ H l = some (.frz ol (.lst (ns.map V.int))) ∧ ns ≠ [] ∧
  (∀ n ∈ ns, ∀ Q : VK, Q (.int (kf n)) H → sp (js.map (slotAt σ)) [.int n] H Q E0) ∧ ∀ (i : Nat) (m : Int), ns[i]? = some m → (∀ (j : Nat) (n : Int), ns[j]? = some n → le (kf n) (kf m) ∧ (j < i → lt (kf n) (kf m))) → Q (.int m) H
def tKeyM (r : L2.St → List V → List V → Hp → VK → Prop) (t tk : TA) : TE := fun σ H Q => t σ H fun vs H1 => tk σ H1 fun zs H2 => r σ vs zs H2 Q
section
variable {x : Str} {p pos : Pos} {e : Expr} {es : List Expr} {kws : List Keyword} {t tk : TA}
theorem pe_maxKey (hc : X.calm = true) (hr : Room (k + 1) X.A) (Fn : ∀ f, NOkK X.prog X.w X.K X.mg X.base CX0 k f F ps fr sp) (cp : X.Ok → Caps X F.cl fr js) (hg : Gl X x) (hm : X.mg x = none) (hv : bootBuiltins x = some (.builtin "max")) (ha : PA X (e :: es) t) (hk : PK X kws tk) (hn : x ≠ "__name__" := by decide) (hdb : (x == ("__debug__" : Str)) = false := by decide)
    (he : backTo pos (starEach (e :: es) X.env) = (false, eval e X.env) :: backTo pos (starEach es X.env) := by rfl) (hpl : (backTo pos (starEach (e :: es) X.env)).any (·.1) = false := by rfl)
    (hall : (backToKw pos (keywordEach kws X.env)).all (·.1.isSome) = true := by rfl) (hnone : (backToKw pos (keywordEach kws X.env)).any (·.1.isNone) = false := by rfl) (hks : (backToKw pos (keywordEach kws X.env)).filterMap (·.1) = [Str.ofString "key"] := by rfl) :
    PE X (.Call (.Name x p) (e :: es) kws pos) (tKeyM (rKeyM F js sp (· ≤ ·) (· < ·)) t tk) := by
  refine ⟨fun pins s σ H Q I h => ?_⟩
  refine wpAny_Call_Name_kw (ld_blt I hg hm hv ?_ hn hdb)
  refine PyProof.Rows.callWith_kw (thn (ha.run pos pins s σ H _ I h) fun us s1 ⟨vs, H1, I1, r1, q1⟩ => thn (hk.run pos pins s1 σ H1 _ I1 q1) fun ws s2 ⟨zs, H2, I2, r2, q2⟩ => ?_) he hpl hall hnone
  rw [hks]
  obtain ⟨l, f, ol, ns, kf, rfl, rfl, hf, hl, hne, hh, q⟩ := q2
  rw [Vals.ref1 r1, Vals.ref1 r2]
  exact run_maxKey hc hr (runsK hf (Fn f)) cp I2 hf hl hne hh q
theorem pe_minKey (hc : X.calm = true) (hr : Room (k + 1) X.A) (Fn : ∀ f, NOkK X.prog X.w X.K X.mg X.base CX0 k f F ps fr sp) (cp : X.Ok → Caps X F.cl fr js) (hg : Gl X x) (hm : X.mg x = none) (hv : bootBuiltins x = some (.builtin "min")) (ha : PA X (e :: es) t) (hk : PK X kws tk) (hn : x ≠ "__name__" := by decide) (hdb : (x == ("__debug__" : Str)) = false := by decide)
    (he : backTo pos (starEach (e :: es) X.env) = (false, eval e X.env) :: backTo pos (starEach es X.env) := by rfl) (hpl : (backTo pos (starEach (e :: es) X.env)).any (·.1) = false := by rfl)
    (hall : (backToKw pos (keywordEach kws X.env)).all (·.1.isSome) = true := by rfl) (hnone : (backToKw pos (keywordEach kws X.env)).any (·.1.isNone) = false := by rfl) (hks : (backToKw pos (keywordEach kws X.env)).filterMap (·.1) = [Str.ofString "key"] := by rfl) :
    PE X (.Call (.Name x p) (e :: es) kws pos) (tKeyM (rKeyM F js sp (· ≥ ·) (· > ·)) t tk) := by
  refine ⟨fun pins s σ H Q I h => ?_⟩
  refine wpAny_Call_Name_kw (ld_blt I hg hm hv ?_ hn hdb)
  refine PyProof.Rows.callWith_kw (thn (ha.run pos pins s σ H _ I h) fun us s1 ⟨vs, H1, I1, r1, q1⟩ => thn (hk.run pos pins s1 σ H1 _ I1 q1) fun ws s2 ⟨zs, H2, I2, r2, q2⟩ => ?_) he hpl hall hnone
  rw [hks]
  obtain ⟨l, f, ol, ns, kf, rfl, rfl, hf, hl, hne, hh, q⟩ := q2
  rw [Vals.ref1 r1, Vals.ref1 r2]
  exact run_minKey hc hr (runsK hf (Fn f)) cp I2 hf hl hne hh q
def rKeyN (mk : Addr → NF) (js : List Nat) (sp : List (Option V) → Sp) (le : Int → Int → Prop) (lt : Int → Int → Prop) : L2.St → List V → List V → Hp → VK → Prop := fun σ vs zs H Q => ∃ (l f c' : Addr) (ol : Obj) (ns : List Int) (kf : Int → Int), vs = [.ref l] ∧ zs = [.ref f] ∧ H f = some (FnO f (mk c')) ∧ H c' = some (CodeO c' (mk c').qual) ∧ H l = some (.frz ol (.lst (ns.map V.int))) ∧ ns ≠ [] ∧
  (∀ n ∈ ns, ∀ Q : VK, Q (.int (kf n)) H → sp (js.map (slotAt σ)) [.int n] H Q E0) ∧ ∀ (i : Nat) (m : Int), ns[i]? = some m → (∀ (j : Nat) (n : Int), ns[j]? = some n → le (kf n) (kf m) ∧ (j < i → lt (kf n) (kf m))) → Q (.int m) H
variable {mk : Addr → NF}
theorem pe_maxKeyN (hc : X.calm = true) (hr : Room (k + 1) X.A) (Fn : ∀ f c', NOk X.prog X.w X.K X.mg X.base CX0 k f (mk c') ps fr sp) (cp : ∀ c', X.Ok → Caps X (mk c').cl fr js) (hmc : ∀ c', (mk c').c = c') (hg : Gl X x) (hm : X.mg x = none) (hv : bootBuiltins x = some (.builtin "max")) (ha : PA X (e :: es) t) (hk : PK X kws tk) (hn : x ≠ "__name__" := by decide) (hdb : (x == ("__debug__" : Str)) = false := by decide)
    (he : backTo pos (starEach (e :: es) X.env) = (false, eval e X.env) :: backTo pos (starEach es X.env) := by rfl) (hpl : (backTo pos (starEach (e :: es) X.env)).any (·.1) = false := by rfl)
    (hall : (backToKw pos (keywordEach kws X.env)).all (·.1.isSome) = true := by rfl) (hnone : (backToKw pos (keywordEach kws X.env)).any (·.1.isNone) = false := by rfl) (hks : (backToKw pos (keywordEach kws X.env)).filterMap (·.1) = [Str.ofString "key"] := by rfl) :
    PE X (.Call (.Name x p) (e :: es) kws pos) (tKeyM (rKeyN mk js sp (· ≤ ·) (· < ·)) t tk) := by
  refine ⟨fun pins s σ H Q I h => ?_⟩
  refine wpAny_Call_Name_kw (ld_blt I hg hm hv ?_ hn hdb)
  refine PyProof.Rows.callWith_kw (thn (ha.run pos pins s σ H _ I h) fun us s1 ⟨vs, H1, I1, r1, q1⟩ => thn (hk.run pos pins s1 σ H1 _ I1 q1) fun ws s2 ⟨zs, H2, I2, r2, q2⟩ => ?_) he hpl hall hnone
  rw [hks]
  obtain ⟨l, f, c', ol, ns, kf, rfl, rfl, hf, hcd, hl, hne, hh, q⟩ := q2
  rw [Vals.ref1 r1, Vals.ref1 r2]
  exact run_maxKey hc hr (runsN hf (by rw [hmc]; exact hcd) (Fn f c')) (cp c') I2 hf hl hne hh q
theorem pe_minKeyN (hc : X.calm = true) (hr : Room (k + 1) X.A) (Fn : ∀ f c', NOk X.prog X.w X.K X.mg X.base CX0 k f (mk c') ps fr sp) (cp : ∀ c', X.Ok → Caps X (mk c').cl fr js) (hmc : ∀ c', (mk c').c = c') (hg : Gl X x) (hm : X.mg x = none) (hv : bootBuiltins x = some (.builtin "min")) (ha : PA X (e :: es) t) (hk : PK X kws tk) (hn : x ≠ "__name__" := by decide) (hdb : (x == ("__debug__" : Str)) = false := by decide)
    (he : backTo pos (starEach (e :: es) X.env) = (false, eval e X.env) :: backTo pos (starEach es X.env) := by rfl) (hpl : (backTo pos (starEach (e :: es) X.env)).any (·.1) = false := by rfl)
    (hall : (backToKw pos (keywordEach kws X.env)).all (·.1.isSome) = true := by rfl) (hnone : (backToKw pos (keywordEach kws X.env)).any (·.1.isNone) = false := by rfl) (hks : (backToKw pos (keywordEach kws X.env)).filterMap (·.1) = [Str.ofString "key"] := by rfl) :
    PE X (.Call (.Name x p) (e :: es) kws pos) (tKeyM (rKeyN mk js sp (· ≥ ·) (· > ·)) t tk) := by
  refine ⟨fun pins s σ H Q I h => ?_⟩
  refine wpAny_Call_Name_kw (ld_blt I hg hm hv ?_ hn hdb)
  refine PyProof.Rows.callWith_kw (thn (ha.run pos pins s σ H _ I h) fun us s1 ⟨vs, H1, I1, r1, q1⟩ => thn (hk.run pos pins s1 σ H1 _ I1 q1) fun ws s2 ⟨zs, H2, I2, r2, q2⟩ => ?_) he hpl hall hnone
  rw [hks]
  obtain ⟨l, f, c', ol, ns, kf, rfl, rfl, hf, hcd, hl, hne, hh, q⟩ := q2
  rw [Vals.ref1 r1, Vals.ref1 r2]
  exact run_minKey hc hr (runsN hf (by rw [hmc]; exact hcd) (Fn f c')) (cp c') I2 hf hl hne hh q
end
end
end Ph

set_option maxHeartbeats 4000000
/-! PhTry: try .. except X as e: the error kept as a value behind the suite; isinstance and fields of it there. -/
namespace Ph
open PySem PySem.Spec PyProof.Rows L2
/-- a caught error that a name still holds: its class, its dict -/
def ExK (cls : Value) (d : Option Addr) (a : Addr) : HO := .ext fun g => ∃ (ob : Obj) (fs : Array Value), g.get? a = some ob ∧ Zc cls d ob ∧ ob.data = .fields fs
section
variable {X : Cx} {pins : List (Addr × Obj)} {σ : L2.St} {H : Hp} {s : Shared}
theorem exK_at {cls : Value} {d : Option Addr} {a : Addr} (I : Inv X pins σ H s) (e : H a = some (ExK cls d a)) : ∃ ob, s.heap.get? a = some ob ∧ Zc cls d ob ∧ ∃ fs, ob.data = .fields fs := by
  obtain ⟨⟨ob, fs, e1, e2, e3⟩, _⟩ := I.hok a _ e
  exact ⟨ob, e1, e2, fs, e3⟩
/-- an object that came up in this call is tracked from now on -/
theorem track_of {a : Addr} {ob : Obj} {fs : Array Value} {cls : Value} {d : Option Addr} (I : Inv X ((a, ob) :: pins) σ H s) (z : Zc cls d ob) (hf : ob.data = .fields fs) (fresh : X.s_0.heap.get? a = none) (apart : ∀ p ∈ X.pn ++ pins, p.1 ≠ a) :
    Inv X pins σ (upd H a (ExK cls d a)) s := by
  obtain ⟨get, none_, notL, _, _⟩ := I.pin (a, ob) (List.mem_append_right _ List.mem_cons_self)
  have keepH : ∀ {b u}, H b = some u → upd H a (ExK cls d a) b = some u := fun {b u} e => (upd_ne (ne_of_none e none_)).trans e
  have notC : ∀ y c, X.env.cells.lookup y = some c → c ≠ a := fun y c e q => by
    obtain ⟨v, o2, g2, d2⟩ := I.cell y c e
    rw [q, get] at g2
    cases g2
    rw [hf] at d2
    cases d2
  have old : ∀ {b o}, X.s_0.heap.get? b = some o → b ≠ a := fun {b o} e q => by
    rw [q, fresh] at e
    cases e
  exact {
    ok := I.ok
    os := I.os
    bare := I.bare
    base := {
      keep := I.base.keep
      slot := I.base.slot
      free := fun b o e n x => (upd_ne (old e)).trans (I.base.free b o e n x)
      there := I.base.there
      tups := fun b xs e => keepH (I.base.tups b xs e)
      frzs := fun b o u e => keepH (I.base.frzs b o u e)
      tbls := fun b ps e => (I.base.tbls b ps e).elim fun m q => ⟨m, keepH q⟩ }
    loc := I.loc
    cell := I.cell
    free := (upd_ne notL.symm).trans I.free
    freeC := fun y c e => (upd_ne (notC y c e)).trans (I.freeC y c e)
    pin := fun p hp => by
      obtain ⟨q1, q2, q3⟩ := I.pin p ((List.mem_append.mp hp).elim (fun y => List.mem_append_left _ y) fun y => List.mem_append_right _ (List.mem_cons_of_mem _ y))
      exact ⟨q1, (upd_ne (apart p hp)).trans q2, q3⟩
    hok := fun b u e => by
      by_cases h : b = a
      · subst h
        rw [upd_same] at e
        cases e
        exact ⟨⟨ob, fs, get, z, hf⟩, ⟨ob, get⟩, fun g1 g2 ⟨o2, f2, y1, y2⟩ y3 => ⟨o2, f2, y3 _ y1, y2⟩⟩
      · rw [upd_ne h] at e
        exact (I.hok b u e).stay (fun _ _ _ y => y) (fun _ y => keepH y) fun _ _ y => keepH y
    len := I.len }
end
/-- the wish of 'except X as n' (slot i), the error still known behind the suite -/
def wKept (K : PySem.W.Frag) (c : Value) (i : Nat) (ts : Addr → Value → Option Addr → TS) (D : Ends) : WX := fun cls d σ H =>
  PySem.W.exmOne K cls c = some true ∧ ∀ a, H a = none → ts a cls d ⟨fun σ' H' => H' a = none → D.nx (σ'.set i none) (upd H' a (ExK cls d a)), D.rt, fun σ' H' => D.bk (σ'.set i none) H', fun σ' H' => D.ct (σ'.set i none) H'⟩ (σ.set i (some (.ref a))) H
section
variable {X : Cx} {x n : Str} {c : Value} {i : Nat} {body suite : List Stmt} {st₀ : Stmt} {np pos pos' : Pos} {tb : WX → TS} {ts : Addr → Value → Option Addr → TS}
theorem ps_try_keep (stk : X.stack = X.env :: X.outer) (fr : X.env.frame = some X.env.locals) (hex : X.ex = []) (nd : X.N.Nodup) (slot : X.N[i]? = some n) (kd : X.env.kindOf n = some .local) (hc : Names X x c)
    (hbody : ∀ (W : WX) (pn : List (Addr × Obj)) (xe : Value → Shared → Prop), Takes (X.tr pn xe) W → PassesOwn (model X.prog X.w) X.A X.env xe → PSs (X.tr pn xe) body (tb W))
    (hsuite : ∀ (a : Addr) (oe : Obj) (cls : Value) (d : Option Addr) (pn : List (Addr × Obj)), Zc cls d oe → (∃ fs, oe.data = .fields fs) → PSs (X.suite a ((a, oe) :: pn)) (st₀ :: suite) (ts a cls d)) :
    PS X (.Try body [.ExceptHandler (some (.Name x np)) (some n) (st₀ :: suite) pos'] [] [] pos) (fun D σ H => tb (wKept X.K c i ts D) D σ H) := by
  constructor
  intro pins s σ H D I want
  have allFr : X.A.frames = some (X.env :: X.outer) := by rw [← stk]; exact I.ok.frames
  let Xt : Value → Shared → Prop := fun e t1 => wpAny (model X.prog X.w) X.A (noteFrame e X.env) (fun _ t2 => wpAny (model X.prog X.w) X.A (setFlight e none) (fun _ t3 =>
    wpAny (model X.prog X.w) X.A (handleBy e X.env [.ExceptHandler (some (.Name x np)) (some n) (st₀ :: suite) pos']) (SP X pins D) X.xe t3) X.xe t2) X.xe t1
  have catch_ : Takes (X.tr (X.pn ++ pins) Xt) (wKept X.K c i ts D) := by
    rintro u s' ⟨a, B, sI, pins', σ', H', cls, d, rfl, J', inB, up, sky, na, hos, bare, hexm, hyes⟩
    have J : Inv X pins σ' H' sI := J'.ofTry I.ok
    have sky2 : Sky B (X.env :: X.outer) a (Zc cls d) X.env.locals s'.heap := stk ▸ sky
    show wpAny (model X.prog X.w) X.A (noteFrame (.ref a) X.env) _ _ _
    refine Sky.land Zc.steady allFr fr sky2 fun g3 fly3 up3 => ?_
    have J3 : Inv X pins σ' H' { s' with heap := g3 } := J.landed inB fly3.1 (up.trans up3) hos bare
    obtain ⟨o3, f3, at3, z3, d3⟩ := fly3.there
    have offFr : ∀ {g : Heap} {o : Obj} {f : Array Value}, g.FunFrames B (X.env :: X.outer) → g.get? a = some o → o.data = .fields f → a ∉ frs (X.env :: X.outer) := fun ff e dd hm => by
      obtain ⟨_, o2, e2, no2⟩ := ff.mem hm
      rw [e] at e2
      cases e2
      exact no2 _ dd
    have off := offFr fly3.2.2.1 at3 d3
    have offL : a ≠ X.env.locals := fun z => off (List.mem_filterMap.mpr ⟨X.env, List.mem_cons_self, by rw [fr, z]⟩)
    have offO : a ∉ X.fs := fun hm => (List.mem_filterMap.mp hm).elim fun e q => off (List.mem_filterMap.mpr ⟨e, List.mem_cons_of_mem _ q.1, q.2⟩)
    have newI : sI.heap.get? a = none := by
      cases q : sI.heap.get? a with
      | none => rfl
      | some o =>
        have := inB a o q (by rw [stk]; exact off)
        rw [fly3.2.1] at this
        cases this
    have new0 : X.s_0.heap.get? a = none := by
      cases q : X.s_0.heap.get? a with
      | none => rfl
      | some o =>
        obtain ⟨o2, q2⟩ := J.base.there a o q (by rw [hex]; exact fun y => nomatch y)
        rw [newI] at q2
        cases q2
    have apart : ∀ p ∈ X.pn ++ pins, p.1 ≠ a := fun p hp q => by
      have := (J.pin p hp).1
      rw [q, newI] at this
      cases this
    have S3 := J3.suite at3 d3 na offL offO
    refine wpAny_handleBy_cons (codeAny_handlers_test ?_) (fun q => nomatch q)
    have typ : PySem.W.Looks (model X.prog X.w) g3 (typeOf (.ref a)) cls := fun A Q E s k q => wpAny_typeOf_ref (k _ _ at3) (z3.1.symm ▸ q)
    have asks := PySem.W.exm_one (M := model X.prog X.w) J3.kIn typ hexm
    have named : ∀ {Q E : Value → Shared → Prop}, Q c { s' with heap := g3 } → wpAny (model X.prog X.w) (X.A.mark (some (.ref a))) (eval (.Name x np) X.env) Q E { s' with heap := g3 } := fun {Q E} q => by
      rcases hc with ⟨gl, dbg, own | ⟨out, boot, nn⟩⟩
      · exact ld_glob (X := X.suite a ((a, o3) :: (X.pn ++ pins))) S3 gl own q dbg
      · exact ld_blt (X := X.suite a ((a, o3) :: (X.pn ++ pins))) S3 gl out boot q nn dbg
    refine named (asks.here ?_)
    refine codeAny_handlers_suite_as (HandSPX.lands_againZ fly3 fun g4 fly4 up4 => ?_)
    have J4 : Inv X pins σ' H' { s' with heap := g4 } := J.landed inB fly4.1 ((up.trans up3).trans up4) hos bare
    obtain ⟨o4, f4, at4, z4, d4⟩ := fly4.there
    have S4 := J4.suite at4 d4 na offL offO
    refine store_ok (X := X.suite a ((a, o4) :: (X.pn ++ pins))) (v := .ref a) S4 nd slot (.inl kd) rfl (fun s5 S5 => ?_) (.inr kd)
    refine wpAny_mono ((hsuite a o4 cls d (X.pn ++ pins) z4 ⟨_, d4⟩).run [] s5 _ H' _ S5 (hyes a na)) (fun flow s6 out => ?_) (fun _ _ y => y.elim)
    have plain : ∀ {σ6 : L2.St} {H6 : Hp} {Q : Shared → Prop}, Inv (X.suite a ((a, o4) :: (X.pn ++ pins))) [] σ6 H6 s6 → (∀ s7, Inv X pins (σ6.set i none) H6 s7 → Q s7) →
        wpAny (model X.prog X.w) X.A (do bindName X.env n .none; unbindBehindTheSuite X.env n pos') (fun _ s7 => Q s7) X.xe s6 := fun S6 hq => gone_ok (S6.unsuite I.ok) nd slot kd hq
    match flow, out with
    | .next, ⟨σ6, H6, S6, q6⟩ =>
      have P6 : Inv X ((a, o4) :: pins) σ6 H6 s6 := (S6.unsuite I.ok).pins_of fun p hp => S6.pin p (List.mem_append_left _ ((List.mem_cons.mp hp).elim (fun e => e ▸ List.mem_cons_self) fun e => List.mem_cons_of_mem _ (List.mem_append_right _ e)))
      exact gone_ok P6 nd slot kd fun s7 J7 => ⟨_, _, track_of J7 z4 d4 new0 apart, q6 (J7.pin (a, o4) (List.mem_append_right _ List.mem_cons_self)).2.1⟩
    | .brk, ⟨σ6, H6, S6, q6⟩ => exact plain S6 fun s7 J7 => ⟨_, _, J7, q6⟩
    | .cont, ⟨σ6, H6, S6, q6⟩ => exact plain S6 fun s7 J7 => ⟨_, _, J7, q6⟩
    | .ret u, ⟨v6, σ6, H6, S6, r6, q6⟩ => exact plain S6 fun s7 J7 => ⟨_, _, _, J7, r6, q6⟩
  refine wpAny_Try_except (wpAny_mono ((hbody _ _ _ catch_ PassesOwn.looking).run [] s σ H D (I.toTry _) want) (fun f s1 out => ?_) fun e s1 he => he)
  match f, out with
  | .next, ⟨σ', H', J, q⟩ => exact wpAny_execs_nil ⟨_, _, J.ofTry I.ok, q⟩
  | .brk, ⟨σ', H', J, q⟩ => exact ⟨_, _, J.ofTry I.ok, q⟩
  | .cont, ⟨σ', H', J, q⟩ => exact ⟨_, _, J.ofTry I.ok, q⟩
  | .ret u, ⟨v, σ', H', J, r, q⟩ => exact ⟨_, _, _, J.ofTry I.ok, r, q⟩
end
/-! ### isinstance and fields of a kept error -/
section
variable {X : Cx}
theorem inst_at {h : Heap} {a D : Addr} {d : Option Addr} {oe : Obj} {P : Program} {w : World} {H : Hp} (hok : HOk P w H h) (hget : h.get? a = some oe) (hz : Zc (.ref D) d oe) (hf : ∃ vs, oe.data = .fields vs) (k : DictK H d) : ∃ od, PySem.W.InstAt h a oe D od := by
  obtain ⟨vs, hv⟩ := hf
  have no : PySem.W.notCls oe = true := by
    unfold PySem.W.notCls
    rw [hv]
  rcases k with rfl | ⟨dd, fs, rfl, e⟩
  · exact ⟨none, hget, hz.1, no, by rw [hz.2]; trivial⟩
  · obtain ⟨mA, hns, _⟩ : ObjOk P w H h dd (.xd fs) := hok dd _ e
    obtain ⟨od, ho, _⟩ := lookIn_ns hns
    exact ⟨some od, hget, hz.1, no, by rw [hz.2]; exact ho⟩
/-- isinstance(e, c), e a kept error -/
def rIsK (K : PySem.W.Frag) : List V → Hp → VK → Prop := fun xs H Q => ∃ (a D : Addr) (d : Option Addr) (c : V) (cv : Value) (b : Bool), xs = [.ref a, c] ∧ H a = some (ExK (.ref D) d a) ∧ ExcC K D ∧ DictK H d ∧ (∀ u, RelV c u → u = cv) ∧ PySem.W.kitOne K (.ref D) cv = some b ∧ Q (.bl b) H
theorem call_isK : CallR X (.builtin "isinstance") (rIsK X.K) := by
  intro pins s σ H xs us Q I r h
  obtain ⟨a, D, d, c, cv, b, rfl, ea, C, k, hcv, e, q⟩ := h
  obtain ⟨ua, uc, rfl, ra, rc⟩ : ∃ ua uc, us = [ua, uc] ∧ RelV (.ref a) ua ∧ RelV c uc := by
    cases r with
    | cons r1 r2 => cases r2 with
      | cons r3 r4 =>
        cases r4
        exact ⟨_, _, rfl, r1, r3⟩
  obtain rfl : ua = Value.ref a := ra
  obtain rfl := hcv _ rc
  obtain ⟨oe, hget, hz, hf⟩ := exK_at I ea
  obtain ⟨od, J⟩ := inst_at I.hok hget hz hf k
  have cl : (PySem.W.clsIn X.K D).isSome = true := by
    obtain ⟨cd, hc, _⟩ := PySem.W.any_some C.hd
    rw [hc]
    rfl
  exact PySem.W.kia_one (PySem.W.kitx_exc (od := od) cl C.hg C.hk C.hs C.ha C.hn C.ht C.hm) I.kIn J e (fun z => nomatch z) fun tk => ⟨.bl b, H, I.kept (t' := tk) fun _ _ z => z, rfl, q⟩
/-- e.f, e a kept error of the class C -/
def tXk (C : Addr) (f : Str) (te : TE) : TE := fun σ H Q => te σ H fun x H1 => ∃ (a dd : Addr) (fs : List (Str × V)) (v : V), x = .ref a ∧ H1 a = some (ExK (.ref C) (some dd) a) ∧ H1 dd = some (.xd fs) ∧ fs.lookup f = some v ∧ Q v H1
theorem pe_xk {C : Addr} {e : Expr} {te : TE} {pos : Pos} {n : Str} (T : XfC X.K C) (hno : PySem.W.findIn X.K (.ref C) n = some none) (he : PE X e te) (hb : attributeBase e n X.env (eval e X.env) = eval e X.env := by rfl) : PE X (.Attribute e n pos) (tXk C n te) := by
  constructor
  intro pins s σ H Q I h
  refine attr_of hb (thn (he.run pins s σ H _ I h) fun u s1 ⟨x, H1, I1, rx, a, dd, fs, v, ex, ea, ed, l, q⟩ => ?_)
  subst ex
  obtain rfl : u = Value.ref a := rx
  obtain ⟨oe, hget, hz, vs, hd⟩ := exK_at I1 ea
  obtain ⟨mA, hns, hr⟩ : ObjOk X.prog X.w H1 s1.heap dd (.xd fs) := I1.hok dd _ ed
  obtain ⟨od, ho, hl⟩ := lookIn_ns hns
  obtain ⟨u, hu, ru⟩ := RelO.some_of (v := v) (o := mA n) (by rw [← l]; exact hr n)
  have J : PySem.W.InstAt s1.heap a oe C (some od) := ⟨hget, hz.1, by unfold PySem.W.notCls; rw [hd], by rw [hz.2]; exact ho⟩
  exact HandSPX.exc_get I1.kIn J T.ga T.gg T.exC (PySem.W.findObj_own T.hdC hno rfl (by rw [hl, hu])) (handed_of ru) ⟨v, H1, I1.tok _, ru, q⟩
end
end Ph

/-! PhKt: isinstance of a kept error by a tuple of classes. -/
namespace Ph
open PySem PySem.Spec PyProof.Rows L2
section
variable {X : Cx}
def rIsKt (K : PySem.W.Frag) : List V → Hp → VK → Prop := fun xs H Q => ∃ (a D t : Addr) (d : Option Addr) (cs : List V) (cvs : List Value) (b : Bool), xs = [.ref a, .ref t] ∧ H a = some (ExK (.ref D) d a) ∧ ExcC K D ∧ DictK H d ∧ H t = some (.tup cs) ∧
  (∀ us, Vals cs us → us = cvs) ∧ PySem.W.kitAny K (.ref D) cvs = some b ∧ Q (.bl b) H
theorem call_isKt : CallR X (.builtin "isinstance") (rIsKt X.K) := by
  intro pins s σ H xs us Q I r h
  obtain ⟨a, D, t, d, cs, cvs, b, rfl, ea, C, k, ht, hcv, e, q⟩ := h
  obtain ⟨ua, uc, rfl, ra, rc⟩ : ∃ ua uc, us = [ua, uc] ∧ RelV (.ref a) ua ∧ RelV (.ref t) uc := by
    cases r with
    | cons r1 r2 => cases r2 with
      | cons r3 r4 =>
        cases r4
        exact ⟨_, _, rfl, r1, r3⟩
  obtain rfl : ua = Value.ref a := ra
  obtain rfl : uc = Value.ref t := rc
  obtain ⟨oe, hget, hz, hf⟩ := exK_at I ea
  obtain ⟨od, J⟩ := inst_at I.hok hget hz hf k
  have cl : (PySem.W.clsIn X.K D).isSome = true := by
    obtain ⟨cd, hc, _⟩ := PySem.W.any_some C.hd
    rw [hc]
    rfl
  have hx : ObjOk X.prog X.w H s.heap t (.tup cs) := I.hok t _ ht
  obtain ⟨_, its, rv, o, ho, hc, n, hdat⟩ := hx
  obtain rfl := hcv _ rv
  obtain ⟨oc, odd, oda, osl⟩ := o
  dsimp only at hc hdat
  subst hc hdat
  exact PySem.W.kia_tup (PySem.W.kitx_exc (od := od) cl C.hg C.hk C.hs C.ha C.hn C.ht C.hm) I.kIn J ho e (fun z => nomatch z) fun tk => ⟨.bl b, H, I.kept (t' := tk) fun _ _ z => z, rfl, q⟩
def rIsV (K : PySem.W.Frag) : List V → Hp → VK → Prop := fun xs H Q => rIsK K xs H Q ∨ rIsKt K xs H Q
theorem call_isV : CallR X (.builtin "isinstance") (rIsV X.K) := fun pins s σ H xs us Q I r h => h.elim (call_isK pins s σ H xs us Q I r) (call_isKt pins s σ H xs us Q I r)
end
end Ph

set_option maxHeartbeats 4000000
/-! PhTab: the end of a law whose defs make lambdas or defs (their code objects' tables are tracked), the guards known. -/
namespace Ph
open PySem PySem.Spec PyProof.Rows L2 LamX
/-- code objects and their tables: empty at the start, no part of the written part -/
structure TabsE (K : PySem.W.Frag) (h : Heap) (cs : List (Addr × Addr)) : Prop where
  em : ∀ p ∈ cs, h.get? p.2 = some { cls := .none, data := .fields #[] }
  out : ∀ p ∈ cs, K.lookup p.2 = none
  cd : ∀ p ∈ cs, PySem.W.CodeHd h p.1 p.2
theorem TabsE.at {K : PySem.W.Frag} {h : Heap} {cs : List (Addr × Addr)} (T : TabsE K h cs) {b : Addr} (hb : b ∈ cs.map (·.2)) : h.get? b = some { cls := .none, data := .fields #[] } ∧ K.lookup b = none ∧ ∃ c, PySem.W.CodeHd h c b := by
  obtain ⟨p, hp, rfl⟩ := List.mem_map.mp hb
  exact ⟨T.em p hp, T.out p hp, p.1, T.cd p hp⟩
section
variable {P : Program} {w : World} {K : PySem.W.Frag} {mg mb : Str → Option Value} {k : Nat} {fa a : Addr} {fd : FuncData} {x : Str} {sp : Sp} {s₁ : Shared} {vs : List Value} {ns : List Int} {cs : List (Addr × Addr)}
theorem end_coreT (T : TabsE K s₁.heap cs) (KX : K.In s₁.heap) (hns : s₁.heap.Ns mainGlobals mg) (hb : s₁.heap.Ns builtinsNs mb) (hbb : ∀ z : Str, z ≠ "__name__" → mb z = bootBuiltins z) (lim : s₁.heap.NoLimit) (gens : s₁.gens = #[])
    (hbm : ∃ (bm : Addr) (ob : Obj), mg "__builtins__" = some (.ref bm) ∧ bm ≠ builtinsNs ∧ s₁.heap.get? bm = some ob ∧ ob.cls = .type "module" ∧ ob.dict = some builtinsNs ∧ ob.data = .plain)
    (isList : ∃ (vz : Array Value) (nz : Nat), s₁.heap.get? a = some { cls := .type "list", data := .seq vz nz }) (room : Room k callerA) (F : ∀ base : Heap, K.In base → base.Ns mainGlobals mg → (∀ p ∈ cs, TabB base mg p.1 p.2) → FnG P w K mg base CX0 k fa fd [x] sp) (bnd : ∀ (s : Shared) (u : Value), BindsTo s fd ⟨[u], []⟩ [(x, u)])
    (H : Hp) (alone : ∀ b o, H b = some o → (b = a ∧ ∃ ob zs, o = .frz ob (.lst zs)) ∨ (b ∈ cs.map (·.2) ∧ o = .tbl #[])) (tabs : ∀ p ∈ cs, H p.2 = some (.tbl #[])) (ok : HOk P w H s₁.heap) (free : H a ≠ none → K.lookup a = none) (want : sp [.ref a] H (fun v _ => v = .bl true) fun _ _ _ => False) :
    codeAny (model P w) callerA (.call (.ref fa) ⟨[.ref a], []⟩) (LawEnd s₁) s₁ := by
  obtain ⟨vz, nz, ha⟩ := isList
  -- what is neither a list nor an empty table is not tracked
  have plain : ∀ {b : Addr} {o : Obj}, s₁.heap.get? b = some o → (∀ v m, o.data ≠ .seq v m) → o.data ≠ .fields #[] → H b = none := fun {b o} g n1 n2 => by
    cases z : H b with
    | none => rfl
    | some u =>
      rcases alone b u z with ⟨e, _⟩ | ⟨e, _⟩
      · rw [e, ha] at g
        cases g
        exact absurd rfl (n1 vz nz)
      · rw [(T.at e).1] at g
        cases g
        exact absurd rfl n2
  have dictFree : ∀ {b : Addr} {o : Obj} {es : Array DictEntry} {ep : Nat}, s₁.heap.get? b = some o → o.data = .dict es ep → H b = none := fun g d => plain g (fun v m z => by rw [d] at z; cases z) fun z => by rw [d] at z; cases z
  have ns2 : ∀ {b : Addr} {m : Str → Option Value}, s₁.heap.Ns b m → (hidT s₁.heap H).Ns b m := fun ⟨o, es, ep, g, d, rest⟩ => ⟨o, es, ep, hidT_get g (dictFree g d), d, rest⟩
  have kin : K.In (hidT s₁.heap H) := fun b o g => hidT_get (KX b o g) (by
    cases z : H b with
    | none => rfl
    | some u =>
      rcases alone b u z with ⟨e, _⟩ | ⟨e, _⟩
      · subst e
        rw [free (by rw [z]; exact fun q => nomatch q)] at g
        cases g
      · rw [(T.at e).2.1] at g
        cases g)
  have modu : L2.Mod K mg (hidT s₁.heap H) := ⟨kin, ns2 hns, ⟨mb, ns2 hb, hbb⟩, let ⟨mc, z1, z2⟩ := lim; ⟨mc, ns2 z1, z2⟩⟩
  have made : ∀ p ∈ cs, TabB (hidT s₁.heap H) mg p.1 p.2 := fun p hp => by
    constructor
    · obtain ⟨o, us, file, tf, flags, tg, inF, text, tt, e1, r1, r2, r3, rest⟩ := T.cd p hp
      refine ⟨o, us, file, tf, flags, tg, inF, text, tt, hidT_get e1 (plain e1 (fun v m z => by rw [r2] at z; cases z) fun z => ?_), r1, r2, r3, rest⟩
      rw [r2] at z
      cases z
      simp at r3
    · obtain ⟨bm, ob, b1, b2, b3, b4, b5, b6⟩ := hbm
      refine ⟨bm, ob, b1, b2, fun q => ?_, fun q => ?_, hidT_get b3 (plain b3 (fun v m z => by rw [b6] at z; cases z) fun z => by rw [b6] at z; cases z), b4, b5, b6⟩
      · obtain ⟨o, es, ep, e, hd, _⟩ := hns
        rw [q, e] at b3
        cases b3
        rw [hd] at b6
        cases b6
      · rw [q, T.em p hp] at b3
        cases b3
        cases b6
    · intro z
      obtain ⟨o, es, ep, e, hd, _⟩ := hns
      rw [z, T.em p hp] at e
      cases e
      cases hd
  have env : Env0 P w K mg (hidT s₁.heap H) callerA [] s₁ H := ⟨rfl, modu, fun b o g => of_hidT g, Nat.le_of_eq (hidT_size _ _), trivial, fun b hb => (List.not_mem_nil hb).elim, ok, .of_eq gens⟩
  refine codeAny_mono ((F _ kin (ns2 hns) made).go callerA [] s₁ H ⟨[.ref a], []⟩ [.ref a] [.ref a] _ _ rfl room env (bnd s₁ (.ref a)) (.cons rfl .nil) want) fun r s2 out => ?_
  match r, out with
  | .error _, out => exact out.elim
  | .ok (.ret u), ⟨v, H', os, bare, un, ok2, rel, good⟩ =>
    have good' : v = .bl true := good
    subst good'
    obtain rfl : u = Value.bool true := rel
    have fixed : ∀ {b : Addr} {o : Obj}, b ∉ cs.map (·.2) → s₁.heap.get? b = some o → s2.heap.get? b = some o := fun {b o} nb g => by
      cases z : H b with
      | none => exact un.keep b o g z (fun q => (List.not_mem_nil q).elim) (by simp)
      | some u =>
        rcases alone b u z with ⟨_, ob, zs, rfl⟩ | ⟨e, _⟩
        · obtain ⟨e1, _⟩ := ok b _ z
          obtain ⟨e2, _⟩ := ok2 b _ (un.frzs b ob _ z)
          rw [g] at e1
          cases e1
          exact e2
        · exact absurd e nb
    have more : ∀ {b : Addr}, b ∈ cs.map (·.2) → ∃ vs2 : Array Value, s2.heap.get? b = some { cls := .none, data := .fields vs2 } := fun {b} hb => by
      obtain ⟨p, hp, rfl⟩ := List.mem_map.mp hb
      obtain ⟨m2, z⟩ := un.tbls p.2 #[] (tabs p hp)
      exact ⟨_, ok2 p.2 _ z⟩
    refine ⟨rfl, ⟨fun b o g => ?_, fun b o g => ?_⟩, os, bare⟩
    · by_cases hb : b ∈ cs.map (·.2)
      · obtain ⟨em, _, c, cd⟩ := T.at hb
        obtain ⟨vs2, g2⟩ := more hb
        rw [em] at g
        cases g
        exact .inr (.inl ⟨(cd.tab em).isCodeTable, rfl, #[], vs2, rfl, by rw [Array.empty_append]; exact g2⟩)
      · exact .inl (fixed hb g)
    · by_cases hb : b ∈ cs.map (·.2)
      · exact (more hb).elim fun vs2 g2 => ⟨_, g2⟩
      · exact ⟨o, fixed hb g⟩
theorem end_callT (T : TabsE K s₁.heap cs) (KX : K.In s₁.heap) (hns : s₁.heap.Ns mainGlobals mg) (hb : s₁.heap.Ns builtinsNs mb) (hbb : ∀ z : Str, z ≠ "__name__" → mb z = bootBuiltins z) (lim : s₁.heap.NoLimit) (gens : s₁.gens = #[])
    (hbm : ∃ (bm : Addr) (ob : Obj), mg "__builtins__" = some (.ref bm) ∧ bm ≠ builtinsNs ∧ s₁.heap.get? bm = some ob ∧ ob.cls = .type "module" ∧ ob.dict = some builtinsNs ∧ ob.data = .plain)
    (ha : s₁.heap.get? a = some { cls := .type "list", data := .seq vs.toArray }) (hi : IntsAre vs ns) (hl : ns.length ≤ sizeLine) (room : Room k callerA) (F : ∀ base : Heap, K.In base → base.Ns mainGlobals mg → (∀ p ∈ cs, TabB base mg p.1 p.2) → FnG P w K mg base CX0 k fa fd [x] sp) (bnd : ∀ (s : Shared) (u : Value), BindsTo s fd ⟨[u], []⟩ [(x, u)])
    (want : ∀ H : Hp, (∀ p ∈ cs, H p.2 = some (.tbl #[])) → SqL K H a (ns.map V.int) → sp [.ref a] H (fun v _ => v = .bl true) fun _ _ _ => False) :
    codeAny (model P w) callerA (.call (.ref fa) ⟨[.ref a], []⟩) (LawEnd s₁) s₁ := by
  have notT : a ∉ cs.map (·.2) := fun z => by
    have g := (T.at z).1
    rw [ha] at g
    cases g
  have memT : ∀ p ∈ cs, p.2 ∈ cs.map (·.2) := fun p hp => List.mem_map_of_mem hp
  let HT : Hp := fun b => if b ∈ cs.map (·.2) then some (.tbl #[]) else none
  have HTy : ∀ {b}, b ∈ cs.map (·.2) → HT b = some (.tbl #[]) := fun h => if_pos h
  have HTn : ∀ {b}, b ∉ cs.map (·.2) → HT b = none := fun h => if_neg h
  cases lk : K.lookup a with
  | some o =>
    have g := KX a o lk
    rw [ha] at g
    cases g
    refine end_coreT T KX hns hb hbb lim gens hbm ⟨_, _, ha⟩ room F bnd HT (fun b o z => ?_) (fun p hp => HTy (memT p hp)) (fun b u z => ?_) (fun z => absurd (HTn notT) z) (want _ (fun p hp => HTy (memT p hp)) (.inr ⟨_, vs.toArray, _, lk, rfl, rfl, rfl, by rw [List.size_toArray, hi.length]; exact hl, by simpa using vals_ints hi⟩))
    · by_cases h : b ∈ cs.map (·.2)
      · exact .inr ⟨h, (Option.some.inj ((HTy h).symm.trans z)).symm⟩
      · rw [HTn h] at z
        cases z
    · by_cases h : b ∈ cs.map (·.2)
      · have e := Option.some.inj ((HTy h).symm.trans z)
        subst e
        exact (T.at h).1
      · rw [HTn h] at z
        cases z
  | none =>
    let HS : Hp := upd HT a (.frz { cls := .type "list", data := .seq vs.toArray } (.lst (ns.map V.int)))
    have onT : ∀ p ∈ cs, HS p.2 = some (.tbl #[]) := fun p hp => (upd_ne (fun z => notT (by rw [← z]; exact memT p hp))).trans (HTy (memT p hp))
    refine end_coreT T KX hns hb hbb lim gens hbm ⟨_, _, ha⟩ room F bnd HS (fun b o z => ?_) onT (fun b u z => ?_) (fun _ => lk) (want _ onT (.inl (.inr ⟨_, upd_same⟩)))
    · by_cases e : b = a
      · subst e
        have z' := Option.some.inj (upd_same.symm.trans z)
        exact .inl ⟨rfl, _, _, z'.symm⟩
      · have z1 : HT b = some o := (upd_ne e).symm.trans z
        by_cases h : b ∈ cs.map (·.2)
        · exact .inr ⟨h, (Option.some.inj ((HTy h).symm.trans z1)).symm⟩
        · rw [HTn h] at z1
          cases z1
    · by_cases e : b = a
      · subst e
        have z' := Option.some.inj (upd_same.symm.trans z)
        subst z'
        exact ⟨ha, by rw [List.length_map]; exact hl, vs, _, vals_ints hi, ha⟩
      · have z1 : HT b = some u := (upd_ne e).symm.trans z
        by_cases h : b ∈ cs.map (·.2)
        · have e2 := Option.some.inj ((HTy h).symm.trans z1)
          subst e2
          exact (T.at h).1
        · rw [HTn h] at z1
          cases z1
end
/-- what the head tells of the tables of the defs that are named -/
def TabsTold (q : Program) (K : PySem.W.Frag) (h : Heap) : Prop := ∀ (x : Str) (c P : Addr), ((recsOf q).find? fun e => e.name == x).isSome = true → PySem.W.tabIn K x = some (c, P) → PySem.W.CodeHd h c P ∧ h.get? P = some { cls := .none, data := .fields #[] }
theorem walkTG {l : PySem.W.OpenLaw} {n k : Nat} {q : Program} {loose : List Str} {XP : (Str → Option Value) → Heap → Prop} {YP : World → Heap → Prop} {d : DefRec} {K : Params → PySem.W.Frag} {sp : PySem.W.Frag → List (Addr × Addr) → Sp} {x : Str}
    (hn : l.most = some n) (hn2 : n ≤ sizeLine) (hdf : d.params.defaults = []) (room : Room k callerA) (hY : ∀ (w : World) (h : Heap), YP w h → (K w.params).In h)
    (F : ∀ (w : World) (mg : Str → Option Value) (fa : Addr) (h : Heap), (K w.params).In h → h.Ns mainGlobals mg → mg d.name = some (.ref fa) → TabsTold q (K w.params) h →
      ∃ (fd : FuncData) (cs : List (Addr × Addr)), TabsE (K w.params) h cs ∧ (∀ (s : Shared) (u : Value), BindsTo s fd ⟨[u], []⟩ [(x, u)]) ∧
        (∀ (H : Hp) (a : Addr) (ns : List Int), ns.length ≤ n → (∀ p ∈ cs, H p.2 = some (.tbl #[])) → SqL (K w.params) H a (ns.map V.int) → sp (K w.params) cs [.ref a] H (fun v _ => v = .bl true) fun _ _ _ => False) ∧
        ∀ base : Heap, (K w.params).In base → base.Ns mainGlobals mg → (∀ p ∈ cs, TabB base mg p.1 p.2) → FnG l.prog w (K w.params) mg base CX0 k fa fd [x] (sp (K w.params) cs)) :
    PySem.W.WalkO q loose XP YP l.row.toRowW d [] (fun f vs => PySem.call f vs) := by
  refine Att.attach_call hn hdf fun w s₀ s₁ mg mb fa o pm cd doc a vs ns G Y ho hd hcd hmg hobj hints hlen hg => ?_
  obtain ⟨fd, cs, T, bnd, want, hF⟩ := F w mg fa _ (hY w _ Y) G.T.g hmg fun y c P hr ht => by
    obtain ⟨d2, hd2⟩ := Option.isSome_iff_exists.mp hr
    exact PySem.W.tab_of G.T (hY w _ Y) hd2 ht
  exact end_callT T (hY w _ Y) G.T.g G.T.b G.T.builtins G.T.nolimit hg G.T.bmain hobj hints (Nat.le_trans hlen hn2) room hF bnd fun H hT hS => want H a ns hlen hT hS
end Ph

/-! PhLam: defs that make lambdas: the heap without the tables, the tables kept, the code object known. -/
namespace Ph
open PySem PySem.Spec PyProof.Rows L2 LamX
/-- the heap without the tables of code objects -/
def ntb (H : Hp) : Hp := fun b => match H b with
  | some (.tbl _) => none
  | x => x
theorem ntb_at {H : Hp} {b : Addr} {o : HO} (e : H b = some o) (n : ∀ ps, o ≠ .tbl ps) : ntb H b = some o := by
  unfold ntb
  rw [e]
  cases o <;> first
    | rfl
    | exact absurd rfl (n _)
theorem ntb_of {H : Hp} {b : Addr} {o : HO} (e : ntb H b = some o) : H b = some o ∧ ∀ ps, o ≠ .tbl ps := by
  unfold ntb at e
  split at e
  · cases e
  · refine ⟨e, fun ps z => ?_⟩
    rename_i h
    exact h ps (e.trans (by rw [z]))
theorem ntb_sub {H : Hp} : Same (ntb H) H := fun b o e => (ntb_of e).1
theorem ntb_ext {H H' : Hp} (x : ExtN H H') : Same (ntb H) (ntb H') := fun b o e => by
  obtain ⟨e1, n⟩ := ntb_of e
  exact ntb_at (x b o e1 n) n
theorem ntb_same {H H' : Hp} (s : Same H H') : Same (ntb H) (ntb H') := ntb_ext (.of s)
theorem ntb_but {q : Addr} {H H' : Hp} (x : But q H H') : ButS [q] (ntb H) (ntb H') := fun b o nb e => by
  obtain ⟨e1, n⟩ := ntb_of e
  exact ntb_at (x b o (fun z => nb (List.mem_singleton.mpr z)) e1) n
section
variable {T : List (Addr × Str)} {H H' : Hp}
theorem tabs_but {q : Addr} {xs : List V} (t : Tabs T H) (b : But q H H') (e : H q = some (.lst xs)) : Tabs T H' := fun p hp => by
  obtain ⟨ps, h1, h2, h3⟩ := t p hp
  refine ⟨ps, b _ _ (fun z => ?_) h1, h2, fun pos cv hc => ?_⟩
  · rw [z, e] at h1
    cases h1
  · obtain ⟨c, e1, e2⟩ := h3 pos cv hc
    refine ⟨c, e1, b _ _ (fun z => ?_) e2⟩
    rw [z, e] at e2
    unfold CodeO at e2
    cases e2
theorem tabs_same (t : Tabs T H) (s : Same H H') : Tabs T H' := t.ext s
theorem ext_tup {t : Addr} {xs : List V} (x : ExtN H H') (e : H t = some (.tup xs)) : H' t = some (.tup xs) := x _ _ e fun _ z => nomatch z
theorem ext_lst {t : Addr} {xs : List V} (x : ExtN H H') (e : H t = some (.lst xs)) : H' t = some (.lst xs) := x _ _ e fun _ z => nomatch z
theorem ext_frz {t : Addr} {o : Obj} {u : HO} (x : ExtN H H') (e : H t = some (.frz o u)) : H' t = some (.frz o u) := x _ _ e fun _ z => nomatch z
theorem ext_seq {K : PySem.W.Frag} {t : Addr} {xs : List V} (x : ExtN H H') (e : SqL K H t xs) : SqL K H' t xs := by
  rcases e with (e | ⟨o, e⟩) | e
  · exact .inl (.inl (ext_lst x e))
  · exact .inl (.inr ⟨o, ext_frz x e⟩)
  · exact .inr e
theorem pot_ext {q : Addr} (x : ExtN H H') (p : Pot H q) : Pot H' q := by
  obtain ⟨g, r, e, v⟩ := p
  exact ⟨g, r, ext_lst x e, v⟩
theorem pot_tabs {q : Addr} (t : Tabs T H) (b : But q H H') (p : Pot H q) : Tabs T H' := by
  obtain ⟨g, r, e, v⟩ := p
  exact tabs_but t b e
end
/-- okG, the code object known -/
theorem okGC {P : Program} {w : World} {K : PySem.W.Frag} {mg : Str → Option Value} {base : Heap} {x qual : Str} {st : Stmt} {f : Addr} {fd : FuncData} {N ps : List Str} {k : Nat} {sp : Sp} {c : Addr} (F : Fun K x qual st f fd) (hc : fd.code = .ref c) (S : FnScope N ps (defScope st)) (cnt : ∀ vs H Q E, sp vs H Q E → vs.length = ps.length)
    (body : ∀ (A : Around) (outer : List Env) (s : Shared) (H : Hp) (vs : List V) (Q : VK) (E : XK), (A.deeper (envOfC qual (defScope st) s.heap.objs.size f (.ref c))).guards = some [] → Room k (A.deeper (envOfC qual (defScope st) s.heap.objs.size f (.ref c))) → sp vs H Q E →
      ∃ t, PSs (cxOf CX0 P w K mg base N qual (defScope st) f (.ref c) A outer s H E).nox (defBody st) t ∧ t { nx := fun _ H' => Q .non H', rt := Q } (start N vs) H) : FnG P w K mg base CX0 (k + 1) f fd ps sp := by
  obtain ⟨oc, od, kV, doc, pm, an, cdv, ct, osl, rfl, lk, hcd⟩ := F.ex
  obtain rfl : cdv = Value.ref c := hc
  refine ⟨cnt, fun A outer s H args us vs Q E hgu room env bnd vals want => ?_⟩
  have old : ∀ b o, base.get? b = some o → s.heap.get? b = some o := fun b o z => (env.bs b o z).1
  refine Att.call_fn (env.mod.kin.keeps old) (env.mod.nolimit.keeps old) lk hcd room.depth bnd ?_ (fun s1 inside => ?_) S.co S.gen S.kind
  · rw [List.all_eq_true]
    rintro ⟨n, v⟩ hy
    rcases S.par n (List.of_mem_zip hy).1 with z | z <;> simp [z]
  · obtain ⟨t, ht, hq⟩ := body A outer s H vs Q E ((guards_deeper A _).trans hgu) (room.deeper _) want
    have I0 : Inv (cxOf CX0 P w K mg base N qual (defScope st) f (.ref c) A outer s H E) [] (start N vs) H s1 := inv_start S room.hd env (cnt _ _ _ _ want) vals inside
    refine wpAny_mono (ht.nox.run [] s1 (start N vs) H _ I0 hq) (fun flow s2 done => ?_) fun e s2 bad => bad
    have fin : ∀ {σ' : L2.St} {H' : Hp} {v : V} {u : Value}, Inv (cxOf CX0 P w K mg base N qual (defScope st) f (.ref c) A outer s H E) [] σ' H' s2 → RelV v u → Q v H' → CE outer P w H s Q u s2 :=
      fun J rel good => ⟨_, _, J.os, J.bare, J.base, J.hok, rel, good⟩
    match flow, done with
    | .ret u, ⟨v, σ', H', J, rel, good⟩ => exact fin J rel good
    | .next, ⟨σ', H', J, good⟩ => exact fin (v := V.non) (u := Value.none) J rfl good
    | .brk, ⟨_, _, _, z⟩ => exact z.elim
    | .cont, ⟨_, _, _, z⟩ => exact z.elim
/-- tabIn's code object is the def's -/
theorem tab_code {K : PySem.W.Frag} {x : Str} {c P f : Addr} {oc : Value} {od : Option Addr} {fd : FuncData} {sl : Array (Option Value)} (t : PySem.W.tabIn K x = some (c, P)) (n : PySem.W.nsIn K mainGlobals x = some (some (.ref f))) (l : K.lookup f = some ⟨oc, od, .func fd, sl⟩) : fd.code = .ref c := by
  unfold PySem.W.tabIn at t
  rw [n] at t
  simp only [l] at t
  split at t
  · rename_i c' e
    split at t
    · split at t
      · cases t
        exact e
      · cases t
    · cases t
  · cases t
end Ph

namespace Ph
open PySem PySem.Spec PyProof.Rows L2
section
variable {prog : Program} {w : World} {A : Around} {E : Value → Shared → Prop} {s : Shared} {K : PySem.W.Frag} {x C f : Addr} {ox : Obj} {odd : Option Obj}
/-- len(x), own __len__ -/
theorem len_own2 {Q : Value → Shared → Prop} (X : K.In s.heap) (I : PySem.W.InstAt s.heap x ox C odd) (hs : PySem.W.findIn K (.ref C) "__len__" = some (some (.ref f))) (hf : PySem.W.isFn K (.ref f) = true)
    (hcall : wpAny (model prog w) A.in1 (call (.ref f) [.ref x]) (fun r s' => ∃ n u, r = .int n u ∧ 0 ≤ n ∧ n < 2 ^ 63 ∧ Q (.int n s'.toks) { s' with toks := s'.toks + 1 }) E s) :
    wpAny (model prog w) A (call (.builtin "len") [.ref x]) Q E s := by
  refine Calls.call_function_entry kind_len plain_len entry_len (args_len1 _) ?_
  unfold Builtin.«len»
  refine wpAny_bind (m := oneArg "len" _) (wpAny_pure ?_)
  refine wpAny_bind (m := callSpecial? (.ref x) (Str.ofString "__len__")) (PySem.W.special_fn X I hs (beq_iff_eq.mp hf) (wpAny_mono hcall (fun r s' hr => ?_) fun _ _ y => y))
  obtain ⟨n, u, rfl, h0, h1, hq⟩ := hr
  refine wpAny_bind (wpAny_holding (wpAny_pure ?_))
  refine wpAny_bind (wpAny_letGo ?_)
  show wpAny _ _ (if n < 0 then _ else _) _ _ _
  rw [if_neg (by omega)]
  show wpAny _ _ (if n ≥ 2 ^ 63 then _ else _) _ _ _
  rw [if_neg (by omega)]
  exact wpAny_bind (wpAny_mkInt (wpAny_pure ⟨_, rfl, hq⟩))
end
section
variable {X : Cx} {C f : Addr} {fd : FuncData} {sp : Sp} {CX : List Env → Hp → Shared → XK → Value → Shared → Prop} {E : XK} {k : Nat} {ps : List Str}
def rLenOwn (C : Addr) (sp : Sp) (E : XK) : List V → Hp → VK → Prop := fun xs H Q => ∃ a dx fs, xs = [V.ref a] ∧ H a = some (.ins C dx fs) ∧ sp [.ref a] H (fun z H' => ∃ n : Nat, z = .int (n : Int) ∧ n ≤ 1000000000 ∧ Q (.int (n : Int)) H') E
theorem call_lenOwn (hm : Meth X.K C "__len__" f) (F : FnOk X.prog X.w X.K X.mg X.base CX k f fd ps sp) (hr : Room (k + 1) X.A) (hb : Binds X.K fd ps []) (hx : Passes CX X E) : CallR X (.builtin "len") (rLenOwn C sp E) := by
  intro pins s σ H xs us Q I r h
  obtain ⟨a, dx, fs, rfl, ea, q⟩ := h
  obtain ⟨u, rfl, ru⟩ := r.one
  cases (show u = Value.ref a from ru)
  obtain ⟨mA, O, _, _, _, _⟩ := ins_get I.hok ea
  obtain ⟨od, J, _⟩ := O.look
  have hl : ([Value.ref a] ++ ([] : List Value)).length = ps.length := by
    have := F.len _ _ _ _ q
    simpa using this
  have rv : Vals [V.ref a] ([Value.ref a] ++ ([] : List Value)) := .cons rfl .nil
  have run : wpAny (model X.prog X.w) X.A.in1 (call (.ref f) [.ref a]) (EP X pins σ fun z H' => ∃ n : Nat, z = .int (n : Int) ∧ n ≤ 1000000000 ∧ Q (.int (n : Int)) H') X.xe s := by
    refine wpAny_call (codeAny_mono (F.run X.A.in1 X.stack s H ⟨[.ref a], []⟩ ([Value.ref a] ++ []) [.ref a] _ E hr.in1 I.env0.in1 (hb s [.ref a] I.kIn hl) rv q) fun r s' hq => ?_)
    cases r with
    | error e => exact hx pins σ H s e s' I hq
    | ok fl =>
      cases fl with
      | ret u => exact I.after hq
      | next => exact False.elim hq
      | brk => exact False.elim hq
      | cont => exact False.elim hq
  refine len_own2 I.kIn J hm.at_ hm.fn (wpAny_mono run (fun w s' z => ?_) fun _ _ x => x)
  · obtain ⟨z', H', I', rz, n, en, hn, qz⟩ := z
    subst en
    obtain ⟨t, e⟩ := (show ∃ t, w = Value.int (n : Int) t from rz)
    cases e
    exact ⟨n, t, rfl, by omega, by omega, .int n, H', I'.tok _, ⟨_, rfl⟩, qz⟩
end
end Ph

namespace Ph
open PySem PySem.Spec PyProof.Rows L2
section
variable {X : Cx}
/-! ### block not in blocks -/
def rNotInL (K : PySem.W.Frag) : R2 := fun x y H Q => ∃ (b : Bk) (a : Addr) (ys : List V) (cs : List Bk), BkAt H x b ∧ y = .ref a ∧ SqL K H a ys ∧ BL H ys cs ∧ Q (.bl (!decide (b ∈ cs))) H
theorem op_notInL (hu : X.A.units + 64 < cLine) : OpR X (compareOp .NotIn) (rNotInL X.K) := by
  intro pins s σ H x y v u Q I rx ry h
  obtain ⟨b, a, ys, cs, hb, rfl, hl, bl, q⟩ := h
  have dx : Dp X.K H x (bD b) := by
    obtain ⟨t, rfl, e⟩ := hb
    exact .tup (.inl (.inl e)) (.cons (.int _) (.cons (.int _) .nil))
  obtain ⟨_, r1⟩ := Dp.reads I (bD b) x v dx rx
  obtain ⟨_, r2⟩ := Dp.reads I (.list (cs.map bD)) (.ref a) u (.lst hl bl.dp) ry
  refine SeqAt.notIn_list_reads r2 r1 (bDs_lay cs) (bD_lay b) ?_ ⟨.bl _, H, I, rfl, ?_⟩
  · have := bDs_depth cs
    omega
  · rw [bDs_any]
    exact q
end
theorem valV_mem {kvs : List (Key × V)} {k : Key} {v : V} (h : valV kvs k = some v) : ∃ kv ∈ kvs, kv.2 = v := by
  unfold valV at h
  obtain ⟨kv, h1, h2⟩ := Option.map_eq_some_iff.mp h
  exact ⟨kv, List.mem_of_find?_eq_some h1, h2⟩
theorem putK_mem {kvs : List (Key × V)} {k : Key} {v : V} {kv : Key × V} (h : kv ∈ putK kvs k v) : kv ∈ kvs ∨ kv.2 = v := by
  unfold putK at h
  split at h
  · obtain ⟨kv2, h1, h2⟩ := List.mem_map.mp h
    split at h2
    · rw [← h2]; exact .inr rfl
    · rw [← h2]; exact .inl h1
  · rcases List.mem_append.mp h with z | z
    · exact .inl z
    · rw [List.mem_singleton.mp z]; exact .inr rfl
theorem putK_len {kvs : List (Key × V)} {k : Key} {v : V} : (putK kvs k v).length ≤ kvs.length + 1 := by
  unfold putK
  split
  · rw [List.length_map]; omega
  · rw [List.length_append]; exact Nat.le_refl _
/-- the items of a list that stay by a test, and their blocks -/
theorem BL.sub {H : Hp} {xs : List V} {bs : List Bk} (h : BL H xs bs) (q : Nat → Bool) : ∀ n, n ≤ xs.length → ∃ ds, Paired (fun i d => bs[i]? = some d) ((List.range n).filter q) ds ∧ ds.Sublist (bs.take n)
  | 0, _ => ⟨[], .nil, List.Sublist.slnil⟩
  | n + 1, hn => by
    obtain ⟨ds, h1, h2⟩ := BL.sub h q n (by omega)
    obtain ⟨b, hb, _⟩ := BL.get h (List.getElem?_eq_getElem (show n < xs.length by omega))
    have et : bs.take (n + 1) = bs.take n ++ [b] := by rw [List.take_add_one, hb]; rfl
    rw [List.range_succ, List.filter_append, et]
    by_cases e : q n = true
    · rw [List.filter_cons_of_pos e]
      exact ⟨ds ++ [b], Paired.snoc h1 hb, h2.append (List.Sublist.refl _)⟩
    · rw [List.filter_cons_of_neg e, List.filter_nil, List.append_nil]
      exact ⟨ds, h1, h2.trans (List.sublist_append_left _ _)⟩
theorem paired_two {α β γ : Type} {F : α → β → Prop} {G : α → γ → Prop} {R : β → γ → Prop} (h : ∀ a b c, F a b → G a c → R b c) : ∀ {l : List α} {m : List β} {n : List γ}, Paired F l m → Paired G l n → Paired R m n
  | _, _, _, .nil, .nil => .nil
  | _, _, _, .cons x r, .cons y q => .cons (h _ _ _ x y) (paired_two h r q)
end Ph

namespace Ph
open PySem PySem.Spec PyProof.Rows L2
section
variable {X : Cx}
/-! ### block not in a tuple of blocks -/
def rNotInT (K : PySem.W.Frag) : R2 := fun x y H Q => ∃ (b : Bk) (a : Addr) (ys : List V) (cs : List Bk), BkAt H x b ∧ y = .ref a ∧ SqT K H a ys ∧ BL H ys cs ∧ Q (.bl (!decide (b ∈ cs))) H
theorem op_notInT (hu : X.A.units + 64 < cLine) : OpR X (compareOp .NotIn) (rNotInT X.K) := by
  intro pins s σ H x y v u Q I rx ry h
  obtain ⟨b, a, ys, cs, hb, rfl, hl, bl, q⟩ := h
  have dx : Dp X.K H x (bD b) := by
    obtain ⟨t, rfl, e⟩ := hb
    exact .tup (.inl (.inl e)) (.cons (.int _) (.cons (.int _) .nil))
  obtain ⟨_, r1⟩ := Dp.reads I (bD b) x v dx rx
  obtain ⟨_, r2⟩ := Dp.reads I (.tuple (cs.map bD)) (.ref a) u (.tup hl bl.dp) ry
  refine SeqAt.notIn_tuple_reads r2 r1 (bDs_lay cs) (bD_lay b) ?_ ⟨.bl _, H, I, rfl, ?_⟩
  · have := bDs_depth cs
    omega
  · rw [bDs_any]
    exact q
end
end Ph

namespace Ph
open PySem PySem.Spec PyProof.Rows L2
section
variable {X : Cx}
/-! ### t + u of two that are not empty: a new one whose object is known -/
def rCatF (K : PySem.W.Frag) : R2 := fun x y H Q => ∃ a b xs ys, x = .ref a ∧ y = .ref b ∧ SqT K H a xs ∧ SqT K H b ys ∧ xs ≠ [] ∧ ys ≠ [] ∧ xs.length + ys.length ≤ sizeLine ∧
  ∀ p (o : Obj), H p = none → o.dict = none → Q (.ref p) (upd H p (.frz o (.tup (xs ++ ys))))
theorem op_catF : OpR X (binaryOp .Add) (rCatF X.K) := by
  intro pins s σ H x y v u Q I rx ry h
  obtain ⟨a, b, xs, ys, rfl, rfl, ha, hb, hx, hy, hz, q⟩ := h
  cases rx
  cases ry
  obtain ⟨its, r1, p1, _⟩ := I.tuple ha
  obtain ⟨its2, r2, p2, _⟩ := I.tuple hb
  refine HT.cat_tup p1 p2 (fun z => hx (r1.nil_iff.mp z)) (fun z => absurd (r2.nil_iff.mp z) hy) (fun z => ?_) (by rw [← r1.length, ← r2.length]; exact hz)
  exact ⟨.ref s.heap.objs.size, _, I.laid (t' := s.toks) (o := .frz _ (.tup (xs ++ ys))) (fun b ob q => Heap.get?_push_of_some _ q) (Nat.le_refl _) ⟨Heap.get?_push_size _ rfl, by rw [List.length_append]; exact hz, _, r1.append r2, IsTup.new _ _⟩, rfl, q _ _ (I.hok.fresh (Nat.le_refl _)) rfl⟩
end
/-! ### the fourth pot: digits, a seed, a count that is bounded -/
def So (N : Nat) (H : Hp) (p : Addr) : Prop := ∃ g r n : Int, H p = some (.lst [.int g, .int r, .int n]) ∧ PoV g r n ∧ n ≤ N
theorem So.po {N : Nat} {H : Hp} {p : Addr} (s : So N H p) : Po H p := let ⟨g, r, n, e, v, _⟩ := s; ⟨g, r, n, e, v⟩
theorem So.same {N : Nat} {H H' : Hp} {p : Addr} (P : So N H p) (s : Same H H') : So N H' p := by
  obtain ⟨g, r, n, h, v⟩ := P
  exact ⟨g, r, n, s _ _ h, v⟩
theorem So.keep {N : Nat} {H : Hp} {p o : Addr} {u : HO} (P : So N H p) (n : p ≠ o) : So N (upd H o u) p := by
  obtain ⟨g, r, k, e0, v⟩ := P
  exact ⟨g, r, k, by rw [upd_ne n]; exact e0, v⟩
theorem So.but {N : Nat} {H H' : Hp} {p q : Addr} (P : So N H p) (b : But q H H') (n : p ≠ q) : So N H' p := by
  obtain ⟨g, r, k, e0, v⟩ := P
  exact ⟨g, r, k, b _ _ n e0, v⟩
theorem So.up {N M : Nat} {H : Hp} {p : Addr} (P : So N H p) (h : N ≤ M) : So M H p := by
  obtain ⟨g, r, k, e0, v, l⟩ := P
  exact ⟨g, r, k, e0, v, by omega⟩
theorem gm_mod {T x : Int} (h : 0 < T) (hT : T.natAbs < 2 ^ 3000) : 0 ≤ x % T ∧ (x % T).natAbs < 2 ^ 3000 := by
  have h0 : 0 ≤ x % T := Int.emod_nonneg _ (by omega)
  exact ⟨h0, wide_le h0 (Int.le_of_lt (Int.emod_lt_of_pos _ h)) hT⟩
theorem gm_mul {T x : Int} (h : 0 < T) (hT : T.natAbs < 2 ^ 3000) (b : Bool) : CMulW (x % T) (if b = true then 1 else 0) :=
  wide_mul (b := 2) (gm_mod h hT).2 (by cases b <;> decide) (by decide) (by decide) (by decide)
theorem gm_pot {T x : Int} (h : 0 < T) (hT : T.natAbs < 2 ^ 3000) (b : Bool) : 0 ≤ x % T * (if b = true then 1 else 0) ∧ (x % T * (if b = true then 1 else 0)).natAbs < 2 ^ 3000 := by
  cases b
  · rw [if_neg (by decide), Int.mul_zero]
    exact ⟨Int.le_refl _, Nat.pow_pos (by decide)⟩
  · rw [if_pos rfl, Int.mul_one]
    exact gm_mod h hT
def ten300 : Int := (10 ^ (60 : Int).toNat) ^ (5 : Int).toNat
theorem ten300_pos : 0 < ten300 := by unfold ten300; decide +kernel
theorem ten300_lt : ten300.natAbs < 2 ^ 3000 := by unfold ten300; decide +kernel
theorem pow_ok60 : CPowW (10 ^ (60 : Int).toNat) 5 := ⟨by decide, by decide +kernel⟩
end Ph

namespace Ph
open PySem PySem.Spec PyProof.Rows L2
/-! ### sum(d.values()) -/
theorem preSum_getD : ∀ is : List Int, preSum (fun i => is.getD i 0) is.length = is.sum
  | [] => rfl
  | x :: r => by
    rw [List.length_cons, PySem.W.kdu_shift, List.sum_cons, ← preSum_getD r]
    rfl
section
variable {X : Cx} {o : Expr} {p pos apos mpos : Pos} {td : TE}
/-- sum(o.values()), a dict with int values -/
def tSumVals (td : TE) : TE := fun σ H Q => td σ H fun x H1 => ∃ (a : Addr) (kvs : List (Key × V)) (is : List Int), x = V.ref a ∧ H1 a = some (.dK kvs) ∧ kvs.map (·.2) = is.map V.int ∧ Q (.int is.sum) H1
theorem pe_sumVals (hc : X.calm = true) (hg : Gl X "sum") (hm : X.mg "sum" = none) (hd : PE X o td) (hbase : attributeBase o "values" X.env (eval o X.env) = eval o X.env := by rfl) (hline : (apos.endLine == mpos.line) = true := by rfl)
    (hse : starEach [Expr.Call (.Attribute o "values" apos) [] [] mpos] X.env = [(false, eval (Expr.Call (.Attribute o "values" apos) [] [] mpos) X.env)] := by rfl) :
    PE X (.Call (.Name "sum" p) [.Call (.Attribute o "values" apos) [] [] mpos] [] pos) (tSumVals td) := by
  refine ⟨fun pins s σ H Q I h => ?_⟩
  refine wpAny_Call_Name_kw (ld_blt I hg hm (u := .builtin "sum") (by first | rfl | decide +kernel) ?_ (by first | decide +kernel | decide) (by first | decide +kernel | decide))
  rw [hse]
  refine PySem.callWith_builtin1 (wpAny_Call_method0_late hbase hline (thn (hd.run pins s σ H _ I h) fun v s1 ⟨x, H1, I1, r1, a, kvs, is, ex, ha, hv, q⟩ => ?_))
  subst ex
  obtain rfl : v = Value.ref a := r1
  obtain ⟨_, hsys, vs, rel, dof⟩ := dk_of I1.hok ha
  obtain ⟨ep, dat⟩ := dof.dictAt
  have dat' := dat
  obtain ⟨ob, es, ho, ex, hdat, hko, hpr, hnd⟩ := dat'
  refine ⟨"dict", "dict.values", F.plainAttrs_dict, F.slot_dict_values, F.type_dict_values, ⟨ob, ho, ex.1⟩, fun b e => ?_, Calls.callWith_builtin rfl (PySem.evalArgs_none ?_)⟩
  · cases e
    exact ⟨ob, ho, ex.2.1⟩
  refine call_meetsIn F.slot_dict_values ⟨ob, ho, ex.1⟩ F.entry_dict_values (F.args_dict_values_1 _) (meets_dict_values (mixKind X.prog X.w) a hsys) ⟨⟨vs, dof⟩, ?_⟩
  have k1 : ∀ b u, s1.heap.get? b = some u → (s1.heap.push { cls := .type "dict_values", data := .fields #[.ref a] }).get? b = some u := fun b u e => Heap.get?_push_of_some _ e
  have dat1 : (s1.heap.push { cls := .type "dict_values", data := .fields #[.ref a] }).DictAt (mixKind X.prog X.w) a vs ep := dat.keep k1
  have hlv : vs.length = is.length := by
    have e1 := congrArg List.length hv
    rw [List.length_map, List.length_map] at e1
    rw [← e1]
    exact (KV.length rel).symm
  have hval : ∀ (i : Nat) (v : Value), (∃ k, vs[i]? = some (k, v)) → ∃ t, v = Value.int (is.getD i 0) t := fun i v ⟨k, hk⟩ => by
    obtain ⟨x, h1, h2⟩ := KV.at' rel hk
    have e1 : (kvs.map (·.2))[i]? = some x := by rw [List.getElem?_map, h1] <;> rfl
    rw [hv, List.getElem?_map] at e1
    obtain ⟨j, hj, e2⟩ := Option.map_eq_some_iff.mp e1
    subst e2
    obtain ⟨t, e3⟩ := h2
    refine ⟨t, ?_⟩
    rw [e3, List.getD_eq_getElem?_getD, hj] <;> rfl
  have S := PySem.W.kdl_values (prog := X.prog) (w := X.w) (knd := mixKind X.prog X.w) (kvs := vs) (ep := ep) (r := s1.heap.objs.size) (d := a)
  have ok : (s1.heap.push { cls := .type "dict_values", data := .fields #[.ref a] }).IsValuesView s1.heap.objs.size a ∧ (s1.heap.push { cls := .type "dict_values", data := .fields #[.ref a] }).DictAt (mixKind X.prog X.w) a vs ep := ⟨⟨_, Heap.get?_push_size _ rfl, rfl, rfl⟩, dat1⟩
  refine call_sum_walkAnyS ?_
  obtain ⟨oI, St, hit, W, st⟩ := S.iter X.A.in1 { s1 with heap := s1.heap.push { cls := .type "dict_values", data := .fields #[.ref a] } } (I.ok.hd hc) ok
  refine hit _ _ ⟨_, _, _, _, vs.length, _, _, fun i => is.getD i 0, rfl, W.toS, st, fun b hb => ?_, hval, fun s' t' hm => ?_⟩
  · show b < ((s1.heap.push { cls := .type "dict_values", data := .fields #[.ref a] }).push oI).objs.size
    rw [Heap.size_push]
    rcases List.mem_cons.mp hb with e | hb
    · rw [e]; exact Nat.lt_succ_self _
    · rw [List.mem_singleton.mp hb]; exact Nat.lt_succ_of_lt (S.there _ ok).2
  · have hk : ∀ b o, s1.heap.get? b = some o → s'.heap.get? b = some o := fun b o e =>
      hm.heap b o (fun hI => absurd (Heap.lt_size (k1 b o e)) (by rw [List.mem_singleton.mp hI]; exact Nat.lt_irrefl _)) (Heap.get?_push_of_some _ (k1 b o e))
    rw [Moved.eq_with hm]
    rw [hlv, preSum_getD]
    exact ⟨.int _, H1, I1.kept (t' := s'.toks) hk, ⟨_, rfl⟩, q⟩
end
end Ph

namespace Ph
open PySem PySem.Spec PyProof.Rows L2
/-! ### a written tuple, known to have no dict of its own -/
def tTupF (t : TA) : TE := fun σ H Q => t σ H fun xs H1 => xs.length ≤ sizeLine ∧ ∀ (p : Addr) (o : Obj), H1 p = none → o.dict = none → Q (.ref p) (upd H1 p (.frz o (.tup xs)))
theorem pe_tupF {X : Cx} {es : List Expr} {t : TA} {x1 : Nat} {pos : Pos} (h : PA X es t) : PE X (.Tuple es x1 pos) (tTupF t) := by
  refine ⟨fun pins s σ H Q I hq => ?_⟩
  refine wpAny_Tuple_spliced (thn (h.run pos pins s σ H _ I hq) fun us s1 ⟨xs, H1, I1, r, z, q⟩ => ⟨by rw [← r.length]; exact z, ?_⟩)
  have hf : H1 s1.heap.objs.size = none := I1.hok.fresh (Nat.le_refl _)
  refine ⟨.ref s1.heap.objs.size, _, I1.laid (t' := s1.toks) (o := .frz { cls := .type "tuple", data := .seq us.toArray } (.tup xs)) (fun b u e => Heap.get?_push_of_some _ e) (Nat.le_refl _) ⟨Heap.get?_push_size _ rfl, z, us, r, IsTup.new _ _⟩, rfl, q _ _ hf rfl⟩
end Ph

/-! PhTyq: the type of any data, for isinstance by a built-in class. -/
namespace Ph
open PySem PySem.Spec PyProof.Rows L2
def tyN : PyData → String
  | .none => "NoneType" | .bool _ => "bool" | .int _ => "int" | .str _ => "str" | .list _ => "list" | .tuple _ => "tuple" | .dict _ => "dict"
theorem sqL_ty {K : PySem.W.Frag} {H : Hp} {a : Addr} {xs : List V} (h : SqL K H a xs) : TyX K H (.ref a) (.type "list") := by
  rcases h with (e | ⟨o, e⟩) | ⟨o, its, n, e, c, _⟩
  · exact .base (.lst e)
  · exact .base (.frz e)
  · exact .kList e c
theorem sqT_ty {K : PySem.W.Frag} {H : Hp} {a : Addr} {xs : List V} (h : SqT K H a xs) : TyX K H (.ref a) (.type "tuple") := by
  rcases h with (e | ⟨o, e⟩) | ⟨o, its, n, e, c, _⟩
  · exact .base (.tup e)
  · exact .fTuple e
  · exact .kTuple e c
theorem rdK_ty {K : PySem.W.Frag} {H : Hp} {a : Addr} {xs : List (Key × V)} (h : Rd H a (.dK xs)) : TyX K H (.ref a) (.type "dict") := by
  rcases h with e | ⟨o, e⟩
  · exact .base (.dK e)
  · exact .fDict e
theorem dq_ty {K : PySem.W.Frag} {H : Hp} {x : V} {d : PyData} (h : Dq K H x d) : TyX K H x (.type (tyN d)) := by
  cases h with
  | non => exact .base .non
  | bl b => exact .base (.bl b)
  | int i => exact .base (.int i)
  | str y => exact .base (.str y)
  | lst hs ha => exact sqL_ty hs
  | tup hs ha => exact sqT_ty hs
  | dct hs ha => exact rdK_ty hs
/-- is it a text -/
def isSt : V → Bool | .str _ => true | _ => false
def isInt : V → Bool | .int _ => true | .bl _ => true | _ => false
theorem dq_str {K : PySem.W.Frag} {H : Hp} {x : V} {d : PyData} (h : Dq K H x d) : kitB (tyN d) "str" = some (isSt x) := by cases h <;> (dsimp only [tyN, isSt, isInt]; decide +kernel)
theorem dq_isInt {K : PySem.W.Frag} {H : Hp} {x : V} {d : PyData} (h : Dq K H x d) : kitB (tyN d) "int" = some (isInt x) := by cases h <;> (dsimp only [tyN, isSt, isInt]; decide +kernel)
end Ph
namespace Ph
open PySem PySem.Spec PyProof.Rows L2
def isTu : PyData → Bool | .tuple _ => true | _ => false
theorem dq_isTu {K : PySem.W.Frag} {H : Hp} {x : V} {d : PyData} (h : Dq K H x d) : kitB (tyN d) "tuple" = some (isTu d) := by cases h <;> (dsimp only [tyN, isTu]; decide +kernel)
end Ph

/-! PhFr: an expression read in the heap without a list (the draws): whatever it makes stands apart from it. -/
namespace Ph
open PySem PySem.Spec PyProof.Rows L2
section
variable {X : Cx} {pins : List (Addr × Obj)} {σ : L2.St} {H : Hp} {s : Shared} {q : Addr} {xs : List V}
/-- the list's object, and that the entry of the def leaves it free to be tracked -/
structure LstO (X : Cx) (q : Addr) (xs : List V) (o : Obj) : Prop where
  len : xs.length ≤ sizeLine
  obj : ∃ (its : List Value) (n : Nat), Vals xs its ∧ o = { cls := .type "list", data := .seq its.toArray n }
  old : ∀ u, X.s_0.heap.get? q = some u → X.H_0 q = none → q ∈ X.ex
theorem inv_less (I : Inv X pins σ H s) (e : H q = some (.lst xs)) : ∃ o, LstO X q xs o ∧ (∀ p ∈ X.pn ++ pins, p.1 ≠ q) ∧ Inv X ((q, o) :: pins) σ (del H q) s := by
  obtain ⟨ln, its, n, rv, get⟩ : ObjOk X.prog X.w H s.heap q (.lst xs) := I.hok q _ e
  have apart : ∀ {b}, H b = none → b ≠ q := fun n z => by
    rw [z, e] at n
    cases n
  have gone : ∀ {b}, H b = none → del H q b = none := fun {b} n => (del_ne (apart n)).trans n
  have kept : ∀ {b u}, H b = some u → (∀ ys, u ≠ .lst ys) → del H q b = some u := fun {b u} g n => by
    refine (del_ne fun z => ?_).trans g
    rw [z, e] at g
    cases g
    exact n xs rfl
  refine ⟨_, ⟨ln, ⟨its, n, rv, rfl⟩, fun u g z => ?_⟩, fun p hp => apart (I.pin p hp).2.1, {
    ok := I.ok
    os := I.os
    bare := I.bare
    base := {
      keep := I.base.keep
      slot := I.base.slot
      free := fun b o g n x => gone (I.base.free b o g n x)
      there := I.base.there
      tups := fun b ys g => kept (I.base.tups b ys g) (fun _ z => nomatch z)
      frzs := fun b o u g => kept (I.base.frzs b o u g) (fun _ z => nomatch z)
      tbls := fun b ps g => (I.base.tbls b ps g).elim fun m z => ⟨m, kept z (fun _ z => nomatch z)⟩ }
    loc := I.loc
    cell := I.cell
    free := gone I.free
    freeC := fun y c g => gone (I.freeC y c g)
    pin := fun p hp => by
      rcases List.mem_append.mp hp with h | h
      · obtain ⟨q1, q2, q3⟩ := I.pin p (List.mem_append_left _ h)
        exact ⟨q1, gone q2, q3⟩
      · rcases List.mem_cons.mp h with rfl | h
        · refine ⟨get, del_same, fun z => ?_, fun z => ?_, fun v z => nomatch z⟩
          · have f := I.free
            rw [← z, e] at f
            cases f
          · obtain ⟨_, o, g, nf⟩ := I.funs.mem z
            rw [get] at g
            cases g
            have w := I.ok.frf _ z
            obtain ⟨_, o2, g2, _⟩ := I.ok.funs.mem z
            by_cases hx : q ∈ X.ex
            · exact absurd z (I.ok.exfs q hx)
            · have := I.base.free q o2 g2 w hx
              rw [e] at this
              cases this
        · obtain ⟨q1, q2, q3⟩ := I.pin p (List.mem_append_right _ h)
          exact ⟨q1, gone q2, q3⟩
    hok := fun b u g => ?_
    len := I.len }⟩
  · by_cases hx : q ∈ X.ex
    · exact hx
    · have := I.base.free q u g z hx
      rw [e] at this
      cases this
  · have nb : b ≠ q := fun z => by
      rw [z, del_same] at g
      cases g
    rw [del_ne nb] at g
    exact (I.hok b u g).stay (fun _ _ _ z => z) (fun c z => kept z (fun _ z => nomatch z)) fun c ys z => kept z (fun _ z => nomatch z)
theorem inv_more {o : Obj} (I : Inv X ((q, o) :: pins) σ H s) (L : LstO X q xs o) (apart : ∀ p ∈ X.pn ++ pins, p.1 ≠ q) : Inv X pins σ (upd H q (.lst xs)) s := by
  obtain ⟨get, none_, notL, _, _⟩ := I.pin (q, o) (List.mem_append_right _ List.mem_cons_self)
  obtain ⟨its, n, rv, eo⟩ := L.obj
  have keepH : ∀ {b u}, H b = some u → upd H q (.lst xs) b = some u := fun {b u} e => (upd_ne (ne_of_none e none_)).trans e
  have notC : ∀ y c, X.env.cells.lookup y = some c → c ≠ q := fun y c e z => by
    obtain ⟨v, o2, g2, d2⟩ := I.cell y c e
    rw [z, get, eo] at g2
    cases g2
    cases d2
  exact {
    ok := I.ok
    os := I.os
    bare := I.bare
    base := {
      keep := I.base.keep
      slot := I.base.slot
      free := fun b u g z x => (upd_ne fun w => by rw [w] at g z x; exact x (L.old u g z)).trans (I.base.free b u g z x)
      there := I.base.there
      tups := fun b ys e => keepH (I.base.tups b ys e)
      frzs := fun b u v e => keepH (I.base.frzs b u v e)
      tbls := fun b ps e => (I.base.tbls b ps e).elim fun m z => ⟨m, keepH z⟩ }
    loc := I.loc
    cell := I.cell
    free := (upd_ne notL.symm).trans I.free
    freeC := fun y c e => (upd_ne (notC y c e)).trans (I.freeC y c e)
    pin := fun p hp => by
      obtain ⟨q1, q2, q3⟩ := I.pin p ((List.mem_append.mp hp).elim (fun y => List.mem_append_left _ y) fun y => List.mem_append_right _ (List.mem_cons_of_mem _ y))
      exact ⟨q1, (upd_ne (apart p hp)).trans q2, q3⟩
    hok := fun b u e => by
      by_cases h : b = q
      · subst h
        rw [upd_same] at e
        cases e
        exact ⟨L.len, its, n, rv, by rw [get, eo]⟩
      · rw [upd_ne h] at e
        exact (I.hok b u e).stay (fun _ _ _ y => y) (fun _ y => keepH y) fun _ _ y => keepH y
    len := I.len }
/-- e, read without the list at q -/
def tFrm (te : TE) : TE := fun σ H Q => ∃ (q : Addr) (xs : List V), H q = some (.lst xs) ∧ te σ (del H q) fun v H' => H' q = none → Q v (upd H' q (.lst xs))
theorem pe_frm {e : Expr} {te : TE} (he : PE X e te) : PE X e (tFrm te) := by
  constructor
  intro pins s σ H Q I h
  obtain ⟨q, xs, e, h⟩ := h
  obtain ⟨o, L, apart, J⟩ := inv_less I e
  refine thn (he.run _ s σ _ _ J h) fun u s1 ⟨v, H1, I1, rv, z⟩ => ?_
  exact ⟨v, _, inv_more I1 L apart, rv, z (I1.pin (q, o) (List.mem_append_right _ List.mem_cons_self)).2.1⟩
end
theorem del_hid {H : Hp} {q : Addr} : del H q = hid [q] H := by
  funext b
  by_cases h : b = q
  · rw [h, del_same]
    exact (if_pos (List.mem_singleton.mpr rfl)).symm
  · rw [del_ne h]
    exact (hid_at fun z => h (List.mem_singleton.mp z)).symm
theorem hid_upd {H : Hp} {q : Addr} {o : HO} (n : H q = none) : hid [q] (upd H q o) = H := by
  funext b
  by_cases h : b = q
  · rw [h, n]
    exact if_pos (List.mem_singleton.mpr rfl)
  · rw [hid_at fun z => h (List.mem_singleton.mp z), upd_ne h]
/-- what became of the heap without q is what became of the rest -/
theorem but_upd_del {H H' : Hp} {q : Addr} {o : HO} (n : H' q = none) (b : ∀ c u, del H q c = some u → H' c = some u) : But q H (upd H' q o) := fun c u nc e => by
  rw [upd_ne nc]
  exact b c u ((del_ne nc).trans e)
section
variable {P : Program} {w : World} {K : PySem.W.Frag} {mg : Str → Option Value} {base : Heap}
/-- a promise read in the heap without the list at q: it is there again behind the call -/
def spFrm (sp : Sp) : Sp := fun vs H Q _ => ∃ (q : Addr) (xs : List V), H q = some (.lst xs) ∧ sp vs (del H q) (fun v H' => H' q = none → Q v (upd H' q (.lst xs))) (fun _ _ _ => False)
theorem frame_ok {k : Nat} {f : Addr} {fd : FuncData} {ps : List Str} {sp : Sp} (F : FnOk P w K mg base CX0 k f fd ps sp) : FnOk P w K mg base CX0 k f fd ps (spFrm sp) := by
  refine ⟨fun vs H Q E ⟨q, xs, _, h⟩ => F.len _ _ _ _ h, fun A outer s H args us vs Q E hr e0 hb r ⟨q, xs, e, h⟩ => ?_⟩
  have apart : ∀ {b}, H b = none → b ≠ q := fun n z => by
    rw [z, e] at n
    cases n
  have gone : ∀ {b}, H b = none → del H q b = none := fun {b} n => (del_ne (apart n)).trans n
  have kept : ∀ {b u}, H b = some u → (∀ ys, u ≠ .lst ys) → del H q b = some u := fun {b u} g n => by
    refine (del_ne fun z => ?_).trans g
    rw [z, e] at g
    cases g
    exact n xs rfl
  have here : ObjOk P w H s.heap q (.lst xs) := e0.hok q _ e
  obtain ⟨ln, its, n, rv, get⟩ := here
  have E1 : Env0 P w K mg base A outer s (del H q) := ⟨e0.frames, e0.mod, fun b o g => ⟨(e0.bs b o g).1, gone (e0.bs b o g).2⟩, e0.bsz, e0.funs, fun b hb => gone (e0.frf b hb), fun b u g => by
    have nb : b ≠ q := fun z => by
      rw [z, del_same] at g
      cases g
    rw [del_ne nb] at g
    exact (e0.hok b u g).stay (fun _ _ _ z => z) (fun c z => kept z (fun _ z => nomatch z)) fun c ys z => kept z (fun _ z => nomatch z), e0.bare⟩
  have nfr : q ∉ frs outer := fun z => by
    have := e0.frf q z
    rw [e] at this
    cases this
  refine codeAny_mono (F.run A outer s (del H q) args us vs _ _ hr E1 hb r h) fun r s' out => ?_
  match r, out with
  | .error _, out => exact out.elim
  | .ok (.ret u), ⟨v, H', os, bare, un, hok, rel, z⟩ =>
    have get' := un.keep q _ get del_same nfr (by simp)
    have n' : H' q = none := un.free q _ get del_same (by simp)
    have up : ∀ {b u}, H' b = some u → upd H' q (.lst xs) b = some u := fun {b u} g => (upd_ne (ne_of_none g n')).trans g
    refine ⟨v, upd H' q (.lst xs), os, bare, {
      keep := fun b o g nb hb hx => un.keep b o g (gone nb) hb hx
      slot := fun b o g nb hb hx => un.slot b o g (gone nb) hb hx
      free := fun b o g nb hx => (upd_ne (apart nb)).trans (un.free b o g (gone nb) hx)
      there := un.there
      tups := fun b ys g => up (un.tups b ys (kept g fun _ z => nomatch z))
      frzs := fun b o u g => up (un.frzs b o u (kept g fun _ z => nomatch z))
      tbls := fun b ps g => (un.tbls b ps (kept g fun _ z => nomatch z)).elim fun m y => ⟨m, up y⟩ }, fun b u g => ?_, rel, z n'⟩
    by_cases hb : b = q
    · subst hb
      rw [upd_same] at g
      cases g
      exact ⟨ln, its, n, rv, get'⟩
    · rw [upd_ne hb] at g
      exact (hok b u g).stay (fun _ _ _ y => y) (fun _ y => up y) fun _ _ y => up y
end
end Ph

/-! PhCnt: xs.count(True) of a list of truth values. -/
namespace Ph
open PySem PySem.Spec PyProof.Rows L2
def isB (b : Bool) (v : Value) : Bool := match v with
  | .bool c => c == b
  | _ => false
theorem isB_gives {b : Bool} : ∀ {bs : List Bool} {us : List Value}, Vals (bs.map V.bl) us → (∀ y ∈ us, ∃ c, y = .bool c ∧ isB b y = (c == b)) ∧ us.countP (isB b) = bs.count b
  | [], _, .nil => ⟨fun y hy => (nomatch hy), rfl⟩
  | c :: l, _, .cons r1 r2 => by
    obtain ⟨h1, h2⟩ := isB_gives (b := b) (bs := l) r2
    obtain rfl := (show _ = Value.bool c from r1)
    refine ⟨fun y hy => ?_, ?_⟩
    · rcases List.mem_cons.mp hy with e | e
      · exact ⟨c, e, by rw [e]; rfl⟩
      · exact h1 y e
    · rw [List.countP_cons, List.count_cons, h2]
      rfl
section
variable {X : Cx}
def rCntB (K : PySem.W.Frag) : V → List V → Hp → VK → Prop := fun x xs H Q => ∃ (p : Addr) (bs : List Bool) (b : Bool), x = .ref p ∧ xs = [.bl b] ∧ SqL K H p (bs.map V.bl) ∧ Q (.int (bs.count b : Nat)) H
theorem mt_countB : MtR X "list.count" (rCntB X.K) := by
  rintro pins s σ H x xs v us Q I rx rxs ⟨p, bs, b, rfl, rfl, hs, q⟩
  obtain rfl : v = Value.ref p := rx
  obtain ⟨u, rfl, ru⟩ := rxs.one
  obtain rfl : u = Value.bool b := ru
  obtain ⟨its, rv, ⟨⟨c1, d1, a1, l1⟩, n, get, hc, hdn, hd⟩, _⟩ := I.list hs
  obtain rfl : c1 = Value.type "list" := hc
  obtain rfl : a1 = Data.seq its.toArray n := hd
  obtain ⟨g1, g2⟩ := isB_gives (b := b) rv
  refine call_meets PySem.F.slot_list_count ⟨_, get, rfl⟩ PySem.F.entry_list_count (PySem.F.args_list_count_2 _ _)
    (SeqAt.list_countAt p its.toArray n d1 l1 (.bool b) (isB b)) ⟨get, fun y hy => by
    obtain ⟨c, rfl, e⟩ := g1 y (by simpa using hy)
    rw [e]
    exact SeqAt.EqAt.bool_bool c b, ?_⟩
  refine ⟨.int (bs.count b : Nat), H, I.tok _, ⟨s.toks, ?_⟩, q⟩
  rw [← g2]
end
end Ph

/-! PhUp: ascending chains of ints as lists; comprehensions that filter them. -/
namespace Ph
open PySem PySem.Spec PyProof.Rows L2
structure UpC (ns : List Int) (x : Int) : Prop where
  asc : ns.Pairwise (· < ·)
  pos : ∀ n ∈ ns, 1 ≤ n
  last : ∃ r, ns = r ++ [x]
theorem UpC.mem {ns : List Int} {x : Int} (h : UpC ns x) : x ∈ ns := by
  obtain ⟨r, e⟩ := h.last
  rw [e]
  exact List.mem_append_right _ (List.mem_singleton.mpr rfl)
theorem UpC.le {ns : List Int} {x : Int} (h : UpC ns x) : ∀ n ∈ ns, n ≤ x := fun n hn => by
  obtain ⟨r, e⟩ := h.last
  have a := h.asc
  rw [e] at hn a
  rcases List.mem_append.mp hn with z | z
  · exact Int.le_of_lt ((List.pairwise_append.mp a).2.2 n z x (List.mem_singleton.mpr rfl))
  · rw [List.mem_singleton.mp z]; exact Int.le_refl _
theorem UpC.one : UpC [1] 1 := ⟨List.pairwise_singleton _ _, fun n hn => by rw [List.mem_singleton.mp hn]; exact Int.le_refl _, ⟨[], rfl⟩⟩
theorem UpC.step {ns : List Int} {x y : Int} (h : UpC ns x) (l : x < y) : UpC (ns ++ [y]) y := by
  refine ⟨List.pairwise_append.mpr ⟨h.asc, List.pairwise_singleton _ _, fun a ha b hb => ?_⟩, fun n hn => ?_, ⟨ns, rfl⟩⟩
  · rw [List.mem_singleton.mp hb]
    exact Int.lt_of_le_of_lt (h.le a ha) l
  · rcases List.mem_append.mp hn with z | z
    · exact h.pos n z
    · rw [List.mem_singleton.mp z]
      have := h.pos x h.mem
      omega
theorem Lnk.up {m x : Int} {ns : List Int} (h : Lnk m ns x) : UpC ns x := by
  induction h with
  | one => exact .one
  | step h h1 h2 h3 h4 ih =>
    have p := h.pos
    refine ih.step ?_
    rename_i x r
    have q := Int.mul_le_mul_of_nonneg_left h1 (show (0 : Int) ≤ x by omega)
    omega
/-- how many come before -/
theorem before_len : ∀ {ns : List Int} {j : Nat} {i : Int}, ns.Pairwise (· < ·) → ns[j]? = some i → (ns.filter fun c => decide (c < i)).length = j
  | c :: r, 0, i, a, h => by
    cases h
    rw [List.filter_cons_of_neg (by simp)]
    rw [List.filter_eq_nil_iff.mpr fun d hd => by
      have := (List.pairwise_cons.mp a).1 d hd
      simp
      omega]
    rfl
  | c :: r, j + 1, i, a, h => by
    have h' : r[j]? = some i := by simpa using h
    have l := (List.pairwise_cons.mp a).1 i (List.mem_of_getElem? h')
    rw [List.filter_cons_of_pos (by simpa using l), List.length_cons, before_len (List.pairwise_cons.mp a).2 h']
theorem range_getD (C : List Int) : C = (List.range C.length).map fun j => C.getD j 0 := by
  refine List.ext_getElem? fun j => ?_
  rw [List.getElem?_map]
  by_cases hj : j < C.length
  · rw [List.getElem?_range hj, List.getElem?_eq_getElem hj]
    simp [List.getD_eq_getElem?_getD, List.getElem?_eq_getElem hj]
  · rw [List.getElem?_eq_none (by omega), List.getElem?_eq_none (by simpa using hj)]
    rfl
theorem comp_filter {C : List Int} {q : Int → Bool} {zs : List V} (pr : Paired (fun j y => y = V.int (C.getD j 0)) ((List.range C.length).filter fun j => q (C.getD j 0)) zs) : zs = (C.filter q).map V.int := by
  rw [paired_eq pr]
  conv => rhs; rw [range_getD C, List.filter_map, List.map_map]
  rfl
theorem getD_int {C : List Int} {j : Nat} {x : V} (h : (C.map V.int)[j]? = some x) : x = .int (C.getD j 0) ∧ C.getD j 0 ∈ C := by
  rw [List.getElem?_map] at h
  obtain ⟨v, h1, rfl⟩ := Option.map_eq_some_iff.mp h
  have e : C.getD j 0 = v := by rw [List.getD_eq_getElem?_getD, h1]; rfl
  rw [e]
  exact ⟨rfl, List.mem_of_getElem? h1⟩
end Ph

set_option maxHeartbeats 4000000
namespace Ph
open PySem PySem.Spec PyProof.Rows L2
/-! ### set(xs) of tuples of ints, many of them equal: fewer than 63 different ones -/
theorem got_len {ks L : List (Addr × List Int)} {i : Nat} (g : Got ks i L) (nd : (L.map (·.2)).Nodup) {D : List (List Int)} (hD : ∀ p ∈ ks, p.2 ∈ D) : L.length ≤ D.length := by
  have h1 : (L.map (·.2)).length ≤ D.length := nd.length_le_of_subset fun k hk => by
    obtain ⟨p, hp, rfl⟩ := List.mem_map.mp hk
    exact hD p (List.mem_of_mem_take (g.sub p hp))
  rwa [List.length_map] at h1
section
variable {P : Program} {w : World} {A : Around} {E : Value → Shared → Prop} {s : Shared}
theorem many_loop {It : Addr} {fp wr : List Addr} {G : Array GenState → Array GenState → Prop} {n : Nat} {Pv : Nat → Value → Prop} {St : Nat → Shared → Prop} {R : Result → Shared → Prop} (W : WalksS P w A.in1 It fp wr G n Pv St) (S : Addr) (offS : S ∉ fp)
    (ks : List (Addr × List Int)) (hn : n = ks.length) (D : List (List Int)) (hD : ∀ p ∈ ks, p.2 ∈ D) (few : D.length < 63) (gives : ∀ i v, Pv i v → ∃ p, ks[i]? = some p ∧ v = .ref p.1) (h0 : Heap) (tups : ∀ p ∈ ks, IsT P w h0 p.2 p.1)
    (newS : h0.get? S = none) (neww : ∀ b ∈ wr, h0.get? b = none) (room : A.in1.units < cLine) :
    ∀ (k i : Nat) (s : Shared), n - i = k → i ≤ n → St i s → (∀ b o, h0.get? b = some o → s.heap.get? b = some o) → (∃ L es ep t, SetTR P w s.heap S L es ep t ∧ Got ks i L) →
      (∀ z L es ep t, Moved (S :: wr) G s z → SetTR P w z.heap S L es ep t → Got ks n L → (∀ b o, h0.get? b = some o → z.heap.get? b = some o) → R (.ok (.ret .none)) z) →
      codeAny (model P w) A (.builtin "set.update.loop" ⟨[.ref S, .ref It], []⟩) R s := by
  have offW : S ∉ wr := fun z => offS (W.sub _ z)
  have wide : ∀ b ∈ wr, b ∈ S :: wr := fun _ z => List.mem_cons_of_mem _ z
  have keeps : ∀ {y z : Shared}, Moved wr G y z → (∀ b o, h0.get? b = some o → y.heap.get? b = some o) → ∀ b o, h0.get? b = some o → z.heap.get? b = some o := fun mv kp b o e => mv.heap b o (fun q => by rw [neww b q] at e; cases e) (kp b o e)
  have inK : ∀ {L : List (Addr × List Int)} {i : Nat}, Got ks i L → ∀ q ∈ L, q ∈ ks := fun g q hq => List.mem_of_mem_take (g.sub q hq)
  intro k; induction k with
  | zero =>
    intro i s e1 e2 at_ kp ⟨L, es, ep, t, tr, got⟩ out
    obtain rfl : i = n := by omega
    refine codeAny_builtin F.entry_set_update_loop ?_; rw [Around.under_plainId F.plain_set_update_loop _]
    show wpAny _ A.in1 (pyNext (.ref It) >>= _) _ _ s
    refine wpAny_bind (W.done s _ _ at_ fun z mv => ?_)
    show wpAny (model P w) A.in1 (ret Value.none) _ _ z
    have kp2 := keeps mv kp
    exact wpAny_pure (out z L es ep t (mv.mono wide) (tr.keep (fun o e => mv.heap S o offW e) fun q hq => isT_keep (tups q (inK got q hq)) kp2) got kp2)
  | succ k ih =>
    intro i s e1 e2 at_ kp ⟨L, es, ep, t, tr, got⟩ out
    have lt : i < n := by omega
    refine codeAny_builtin F.entry_set_update_loop ?_; rw [Around.under_plainId F.plain_set_update_loop _]
    show wpAny _ A.in1 (pyNext (.ref It) >>= _) _ _ s
    refine wpAny_bind (W.item i s _ _ lt at_ fun v z pv at2 mv => ?_)
    obtain ⟨q, hq, rfl⟩ := gives i v pv
    have kp2 := keeps mv kp
    have tr2 : SetTR P w z.heap S L es ep t := tr.keep (fun o e => mv.heap S o offW e) fun p hp => isT_keep (tups p (inK got p hp)) kp2
    have isq : IsT P w z.heap q.2 q.1 := isT_keep (tups q (List.mem_of_getElem? hq)) kp2
    have le := got_len got tr.nd hD
    show wpAny _ A.in1 (holding [Value.ref q.1] (setAdd S (.ref q.1)) >>= _) _ _ z
    refine wpAny_bind (wpAny_holding ?_); unfold setAdd
    refine wpAny_holding (wpAny_bind (wpAny_pyHash_tuple room isq ?_))
    refine add_at (s := { z with toks := z.toks + (q.2.length + 1) }) tr2 isq room (by omega) fun b h' L' es' ep' t' sb tr3 c1 c2 => ?_
    have got2 : Got ks (i + 1) L' := (Classical.em (q.2 ∈ L.map (·.2))).elim (fun c => by rw [c1 c]; exact got.same hq c) fun c => got.more hq (c2 c)
    have kp3 : ∀ b o, h0.get? b = some o → h'.get? b = some o := fun b o e => (sb.2 b (fun y => by rw [y, newS] at e; cases e)).trans (kp2 b o e)
    refine wpAny_pure ⟨plainId_quiet F.plain_set_update_loop _, ih (i + 1) _ (by omega) lt (W.frame _ z _ _ at2 (Nat.le_add_right _ _) fun b hb o e => ?_) kp3 ⟨L', es', ep', t', tr3, got2⟩ fun y L2 es2 ep2 t2 mv2 tr4 got3 kp4 => ?_⟩
    · rw [sb.2 b (fun y : b = S => offS (by rw [← y]; exact hb))]; exact e
    · refine out y L2 es2 ep2 t2 (Moved.trans W.gtrans ((mv.mono wide).then_heap (Nat.le_add_right _ _) fun b o hb e => ?_) mv2) tr4 got3 kp4
      rw [sb.2 b (fun y : b = S => hb (by rw [y]; exact List.mem_cons_self))]; exact e
abbrev set0 (w : World) : Obj := { cls := .type "set", dict := none, data := .set #[] 0 (.fresh 0 0 (!w.params.followText "set-order")) }
theorem many_set {l : Addr} {items : Array Value} (ks : List (Addr × List Int)) {Q : Value → Shared → Prop} (calm : A.handled = none) (lst : s.heap.IsList l items) (its : items.toList = ks.map fun p => Value.ref p.1) (tups : ∀ p ∈ ks, IsT P w s.heap p.2 p.1)
    (D : List (List Int)) (hD : ∀ p ∈ ks, p.2 ∈ D) (few : D.length < 63) (room : A.units + 3 < cLine)
    (h : ∀ (h' : Heap) (tk : Nat) L es ep t, SetTR P w h' s.heap.objs.size L es ep t → Got ks ks.length L → (∀ b o, s.heap.get? b = some o → h'.get? b = some o) → Q (.ref s.heap.objs.size) { s with heap := h', toks := tk }) :
    wpAny (model P w) A (call (.type "set") [.ref l]) Q E s := by
  have size : items.size = ks.length := by
    have z := congrArg List.length its
    rwa [Array.length_toList, List.length_map] at z
  obtain ⟨c, tl, hmro⟩ := F.called_set.mro
  have f1 := F.called_set.made; have f2 := F.called_set.sub
  refine wpAny_call (codeAny_of_tree ?_); show wpAny (model P w) _ (callAny (.type "set") _) _ _ _
  refine wpAny_pure (⟨Code.quiet_builtin _ (by decide +kernel), codeAny_builtin F.entry_type_call ?_⟩)
  rw [Around.under_plain (weight_type_call_type "set" [Value.ref l] []) rfl]
  have f3 := F.called_set.notType; have f4 := F.called_set.canCreate; have f5 := F.typeCall_set_1 (.ref l)
  repeat (any_goals (first | assumption | wp_step))
  refine codeAny_mono (code_set_led1 (.ref l) (E := E) (Q₁ := fun ob z => ob = .ref s.heap.objs.size ∧ z = { s with heap := s.heap.push (set0 w) }) ⟨rfl, rfl⟩) fun r z got => ?_
  rcases r with e | fl
  · exact got
  rcases fl with _ | _ | _ | ob
  · exact got.elim
  · exact got.elim
  · exact got.elim
  · obtain ⟨rfl, rfl⟩ := got
    have at0 : (s.heap.push (set0 w)).get? s.heap.objs.size = some (set0 w) := Heap.get?_push_size _ rfl
    have ty0 : Shared.TypeIs { s with heap := s.heap.push (set0 w) } (.ref s.heap.objs.size) "set" := ⟨_, at0, rfl⟩
    have g1 := F.called_set.init.lookup; have g2 := F.called_set.init.bind (.ref s.heap.objs.size)
    repeat (any_goals (first | assumption | wp_step))
    refine codeAny_mono (codeAny_call_builtin (R := wants (fun r y => r = .none ∧ ∃ h' tk L es ep t, y = { s with heap := h', toks := tk } ∧ SetTR P w h' s.heap.objs.size L es ep t ∧ Got ks ks.length L ∧ (∀ b o, s.heap.get? b = some o → h'.get? b = some o)) E)
      F.called_set.init.plain F.entry_set_init (check_set_init_1 ty0 ?_)) fun r2 y got2 => ?_
    · obtain ⟨ol, hol, hcl, nl, hdl⟩ := lst
      obtain ⟨oc, od, oa, os⟩ := ol
      simp only at hcl hdl; subst hcl; subst hdl
      have at1 : (s.heap.push (set0 w)).get? l = some { cls := .type "list", dict := od, data := .seq items nl, slots := os } := Heap.get?_push_of_some _ hol
      have k1 := F.sub_list_set; have k2 := F.sub_list_frozenset
      have k3 : (Value.type "list" == Value.type "dict") = false := by decide
      have lst1 : (s.heap.push (set0 w)).IsList l items := ⟨_, at1, rfl, nl, rfl⟩
      unfold Builtin.«set.__init__» noKeywords Builtin.Frozenset.updateFrom
      generalize hPI : pyIter = PI; wp_walk; subst hPI
      refine wpAny_pyIter_list lst1 (wpAny_bind (wpAny_runValue ?_))
      have ltl : l < s.heap.objs.size := Heap.lt_size hol
      have calm3 : A.in1.in1.in1.handled = none := by simp [calm]
      have ne1 : l ≠ (s.heap.push (set0 w)).objs.size := by rw [Heap.size_push]; exact Nat.ne_of_lt (Nat.lt_succ_of_lt ltl)
      have off : s.heap.objs.size ∉ [(s.heap.push (set0 w)).objs.size, l] := by
        rw [Heap.size_push]
        simp only [List.mem_cons, List.mem_singleton, List.not_mem_nil, or_false, not_or]; exact ⟨Nat.ne_of_lt (Nat.lt_succ_self _), Nat.ne_of_gt ltl⟩
      have gives : ∀ (i : Nat) (v : Value), items[i]? = some v → ∃ p, ks[i]? = some p ∧ v = .ref p.1 := fun i v hv => by
        have q : items.toList[i]? = some v := Array.getElem?_toList.trans hv
        rw [its, List.getElem?_map] at q
        obtain ⟨p, hp, e⟩ := Option.map_eq_some_iff.mp q
        exact ⟨p, hp, e.symm⟩
      have new : ∀ b, s.heap.objs.size ≤ b → s.heap.get? b = none := fun b hb => by
        cases q : s.heap.get? b with
        | none => rfl
        | some o => exact absurd (Nat.lt_of_lt_of_le (Heap.lt_size q) hb) (Nat.lt_irrefl _)
      refine many_loop ((Walks.list calm3 _ l ne1 items).toS) s.heap.objs.size off ks size D hD few gives s.heap tups (new _ (Nat.le_refl _)) (fun b hb => new b (by rw [List.mem_singleton.mp hb, Heap.size_push]; exact Nat.le_succ _)) room (items.size - 0) 0 _ (by omega) (Nat.zero_le _)
        ⟨⟨_, Heap.get?_push_size _ rfl, rfl, rfl⟩, (lst1.push _)⟩ (fun b o e => Heap.get?_push_of_some _ (Heap.get?_push_of_some _ e)) ?h1 ?h2
      case h1 =>
        have q : ((s.heap.push (set0 w)).push { cls := .type "list_iterator", data := .fields #[.ref l, .int 0 0] }).get? s.heap.objs.size = some (set0 w) := Heap.get?_push_of_some _ at0
        exact ⟨[], #[], 0, _, setTR_fresh q, Got.zero ks⟩
      case h2 =>
        intro z L es ep t mv tr got kp
        obtain ⟨h', g2, d', tk', os'⟩ := z
        obtain rfl : g2 = s.gens := mv.gens
        obtain rfl : d' = s.drawn := mv.drawn
        obtain rfl : os' = s.os := mv.os
        show wpAny (model P w) _ _ _ _ _
        refine wpAny_pure ?_
        show wpAny (model P w) _ (ret Value.none) _ _ _
        rw [size] at got
        exact wpAny_pure ⟨rfl, h', tk', L, es, ep, t, rfl, tr, got, kp⟩
    · rcases r2 with e | fl
      · exact got2
      rcases fl with _ | _ | _ | r
      · exact got2.elim
      · exact got2.elim
      · exact got2.elim
      · obtain ⟨rfl, h', tk, L, es, ep, t, rfl, tr, got3, kp⟩ := got2
        repeat (any_goals (first | assumption | wp_step))
        exact h _ _ _ _ _ _ tr got3 kp
end
section
variable {X : Cx}
/-- set(xs), xs a list of tuples of ints of fewer than 63 kinds -/
def rSetM (K : PySem.W.Frag) (P : Program) (w : World) : List V → Hp → VK → Prop := fun xs H Q => ∃ (l : Addr) (ks : List (Addr × List Int)) (D : List (List Int)), xs = [V.ref l] ∧ SqL K H l (ks.map fun p => V.ref p.1) ∧ (∀ p ∈ ks, SqT K H p.1 (p.2.map V.int)) ∧ (∀ p ∈ ks, p.2 ∈ D) ∧ D.length < 63 ∧
  ∀ a L, H a = none → (∀ p ∈ L, p ∈ ks) → (∀ p ∈ ks, p.2 ∈ L.map (·.2)) → Q (.ref a) (upd H a (SetTO P w a L))
theorem cr_setM (calm : X.calm = true) (room : X.A.units + 64 < cLine) : CallR X (.type "set") (rSetM X.K X.prog X.w) := by
  intro pins s σ H xs us Q I r h
  obtain ⟨l, ks, D, rfl, hl, tups, hD, few, q⟩ := h
  rw [Vals.ref1 r]
  obtain ⟨its, rv, pl, _⟩ := I.list hl
  have hn : H s.heap.objs.size = none := I.hok.fresh (Nat.le_refl _)
  refine many_set (P := X.prog) (w := X.w) ks (I.ok.hd calm) pl.isList (by simpa using refs_of_vals rv) (fun p hp => I.isT (tups p hp)) D hD few (by omega) fun h' tk L es ep t R g k => ?_
  exact ⟨.ref s.heap.objs.size, _, I.laid (t' := tk) k (Nat.le_refl _) (setTO_new R.t0), rfl, q _ L hn (fun p hp => List.mem_of_mem_take (g.sub p hp)) fun p hp => g.all p (by rw [List.take_length]; exact hp)⟩
end
end Ph

namespace Ph
open PySem PySem.Spec PyProof.Rows L2
/-! ### keepers: the smallest block of each chunk, then the lowest one -/
def btr (b c : Bk) : Prop := b.2 < c.2 ∨ (b.2 = c.2 ∧ b.1 ≤ c.1)
instance (b c : Bk) : Decidable (btr b c) := inferInstanceAs (Decidable (_ ∨ _))
def best (s : Int) (bs : List Bk) (b : Bk) : Prop := ∀ c ∈ bs, c.1 / s = b.1 / s → btr b c
instance (s : Int) (bs : List Bk) (b : Bk) : Decidable (best s bs b) := inferInstanceAs (Decidable (∀ c ∈ bs, _))
def kp (s : Int) (bs : List Bk) : List Bk := bs.filter fun b => decide (best s bs b)
theorem btr.refl (b : Bk) : btr b b := .inr ⟨rfl, Int.le_refl _⟩
theorem btr.anti {b c : Bk} (h : btr b c) (k : btr c b) : b = c := by
  unfold btr at h k
  exact Prod.ext (by omega) (by omega)
theorem btr.trans {b c d : Bk} (h : btr b c) (k : btr c d) : btr b d := by
  unfold btr at *
  omega
theorem btr.total (b c : Bk) : btr b c ∨ btr c b := by
  unfold btr
  omega
theorem mem_kp {s : Int} {bs : List Bk} {b : Bk} : b ∈ kp s bs ↔ b ∈ bs ∧ best s bs b := by
  unfold kp
  rw [List.mem_filter, decide_eq_true_iff]
theorem kp_sub (s : Int) (bs : List Bk) : (kp s bs).Sublist bs := List.filter_sublist
/-- the best one of a chunk -/
theorem best_ex (s : Int) (q : Int) : ∀ bs : List Bk, (∃ c ∈ bs, c.1 / s = q) → ∃ b ∈ bs, b.1 / s = q ∧ ∀ c ∈ bs, c.1 / s = q → btr b c
  | [], h => by obtain ⟨c, hc, _⟩ := h; cases hc
  | x :: r, h => by
    by_cases hr : ∃ c ∈ r, c.1 / s = q
    · obtain ⟨b, hb, hq, hbest⟩ := best_ex s q r hr
      by_cases hx : x.1 / s = q
      · rcases btr.total b x with t | t
        · refine ⟨b, List.mem_cons_of_mem _ hb, hq, fun c hc e => ?_⟩
          rcases List.mem_cons.mp hc with z | z
          · rw [z]; exact t
          · exact hbest c z e
        · refine ⟨x, List.mem_cons_self .., hx, fun c hc e => ?_⟩
          rcases List.mem_cons.mp hc with z | z
          · rw [z]; exact btr.refl _
          · exact t.trans (hbest c z e)
      · refine ⟨b, List.mem_cons_of_mem _ hb, hq, fun c hc e => ?_⟩
        rcases List.mem_cons.mp hc with z | z
        · rw [z] at e; exact absurd e hx
        · exact hbest c z e
    · obtain ⟨c, hc, e⟩ := h
      rcases List.mem_cons.mp hc with z | z
      · rw [z] at e
        refine ⟨x, List.mem_cons_self .., e, fun d hd ed => ?_⟩
        rcases List.mem_cons.mp hd with z | z
        · rw [z]; exact btr.refl _
        · exact absurd ⟨d, z, ed⟩ hr
      · exact absurd ⟨c, z, e⟩ hr
theorem kp_ex {s : Int} {bs : List Bk} {c : Bk} (hc : c ∈ bs) : ∃ b ∈ kp s bs, b.1 / s = c.1 / s ∧ btr b c := by
  obtain ⟨b, hb, hq, hbest⟩ := best_ex s (c.1 / s) bs ⟨c, hc, rfl⟩
  exact ⟨b, mem_kp.mpr ⟨hb, fun d hd e => hbest d hd (e.trans hq)⟩, hq, hbest c hc rfl⟩
theorem kp_uniq {s : Int} {bs : List Bk} {b c : Bk} (hb : b ∈ kp s bs) (hc : c ∈ kp s bs) (e : b.1 / s = c.1 / s) : b = c := by
  obtain ⟨b1, b2⟩ := mem_kp.mp hb
  obtain ⟨c1, c2⟩ := mem_kp.mp hc
  exact (b2 c c1 e.symm).anti (c2 b b1 e)
abbrev Asc (bs : List Bk) : Prop := bs.Pairwise fun b c => b.1 < c.1
theorem Asc.kp {s : Int} {bs : List Bk} (h : Asc bs) : Asc (kp s bs) := h.sublist (kp_sub s bs)
/-- one step of the program's dict -/
def stp (s : Int) (E : List Bk) (b : Bk) : List Bk := match E.getLast? with
  | none => [b]
  | some m => if m.1 / s = b.1 / s then (if b.2 < m.2 then E.dropLast ++ [b] else E) else E ++ [b]
theorem kp_snoc {s : Int} (hs : 0 < s) {l : List Bk} {b : Bk} (h : Asc (l ++ [b])) : kp s (l ++ [b]) = stp s (kp s l) b := by
  have hlb : ∀ c ∈ l, c.1 < b.1 := fun c hc => (List.pairwise_append.mp h).2.2 c hc b (List.mem_singleton.mpr rfl)
  have hl : Asc l := (List.pairwise_append.mp h).1
  have hmono : ∀ c ∈ l, c.1 / s ≤ b.1 / s := fun c hc => Int.ediv_le_ediv hs (Int.le_of_lt (hlb c hc))
  have bestsn : ∀ c, best s (l ++ [b]) c ↔ best s l c ∧ (b.1 / s = c.1 / s → btr c b) := fun c => by
    unfold best
    constructor
    · intro z
      exact ⟨fun d hd => z d (List.mem_append_left _ hd), z b (List.mem_append_right _ (List.mem_singleton.mpr rfl))⟩
    · rintro ⟨z1, z2⟩ d hd
      rcases List.mem_append.mp hd with e | e
      · exact z1 d e
      · rw [List.mem_singleton.mp e]; exact z2
  have split : kp s (l ++ [b]) = (kp s l).filter (fun c => decide (b.1 / s = c.1 / s → btr c b)) ++ (if best s l b then [b] else []) := by
    unfold kp
    rw [List.filter_append, List.filter_filter]
    congr 1
    · refine List.filter_congr fun c hc => ?_
      rw [Bool.eq_iff_iff, Bool.and_eq_true, decide_eq_true_iff, decide_eq_true_iff, decide_eq_true_iff, bestsn]
      exact And.comm
    · have e : best s (l ++ [b]) b ↔ best s l b := (bestsn b).trans ⟨fun z => z.1, fun z => ⟨z, fun _ => btr.refl _⟩⟩
      by_cases z : best s l b
      · rw [if_pos z, List.filter_cons, if_pos (decide_eq_true (e.mpr z)), List.filter_nil]
      · rw [if_neg z, List.filter_cons_of_neg (by rw [decide_eq_true_iff]; exact fun q => z (e.mp q)), List.filter_nil]
  rw [split]
  unfold stp
  cases hg : (kp s l).getLast? with
  | none =>
    have e0 := List.getLast?_eq_none_iff.mp hg
    have l0 : l = [] := by
      cases l with
      | nil => rfl
      | cons x r =>
        obtain ⟨y, hy, _⟩ := kp_ex (s := s) (List.mem_cons_self (a := x) (l := r))
        rw [e0] at hy
        cases hy
    subst l0
    rfl
  | some m =>
    obtain ⟨E0, eE⟩ := List.getLast?_eq_some_iff.mp hg
    have hm : m ∈ kp s l := by rw [eE]; exact List.mem_append_right _ (List.mem_singleton.mpr rfl)
    obtain ⟨hml, hmb⟩ := mem_kp.mp hm
    have ascE : Asc (E0 ++ [m]) := eE ▸ hl.kp
    have hE0 : ∀ c ∈ E0, c.1 < m.1 := fun c hc => (List.pairwise_append.mp ascE).2.2 c hc m (List.mem_singleton.mpr rfl)
    have hE0k : ∀ c ∈ E0, c ∈ kp s l := fun c hc => by rw [eE]; exact List.mem_append_left _ hc
    dsimp only
    by_cases hq : m.1 / s = b.1 / s
    · rw [if_pos hq]
      have other : ∀ c ∈ E0, b.1 / s ≠ c.1 / s := fun c hc z => by
        have e := kp_uniq (hE0k c hc) hm (z.symm.trans hq.symm)
        have := hE0 c hc
        rw [e] at this
        omega
      have keepE0 : E0.filter (fun c => decide (b.1 / s = c.1 / s → btr c b)) = E0 := List.filter_eq_self.mpr fun c hc => decide_eq_true fun z => absurd z (other c hc)
      by_cases hlt : b.2 < m.2
      · rw [if_pos hlt, eE, List.filter_append, keepE0, List.filter_cons_of_neg (by rw [decide_eq_true_iff]; intro z; have := z hq.symm; unfold btr at this; omega), List.filter_nil, List.append_nil, List.dropLast_concat, if_pos]
        intro c hc e
        have := hmb c hc (e.trans hq.symm)
        unfold btr at this ⊢
        omega
      · have hmlt := hlb m hml
        have hmbt : btr m b := by unfold btr; omega
        rw [if_neg hlt, eE, List.filter_append, keepE0, List.filter_cons, if_pos (decide_eq_true fun _ => hmbt), List.filter_nil, if_neg, List.append_nil]
        intro z
        have := z m hml hq
        unfold btr at this
        omega
    · rw [if_neg hq]
      have noc : ∀ c ∈ l, c.1 / s ≠ b.1 / s := fun c hc z => by
        obtain ⟨y, hy, ey, _⟩ := kp_ex (s := s) hc
        have h1 := (mem_kp.mp hm).1
        have h2 := hmono m h1
        rw [eE] at hy
        rcases List.mem_append.mp hy with e | e
        · have h3 := Int.ediv_le_ediv hs (Int.le_of_lt (hE0 y e))
          omega
        · rw [List.mem_singleton.mp e] at ey
          exact hq (ey.trans z)
      have keepAll : (kp s l).filter (fun c => decide (b.1 / s = c.1 / s → btr c b)) = kp s l := List.filter_eq_self.mpr fun c hc => decide_eq_true fun z => absurd z.symm (noc c (mem_kp.mp hc).1)
      rw [keepAll, if_pos]
      intro c hc e
      exact absurd e (noc c hc)
structure Chn (C : List Int) : Prop where
  pos : ∀ c ∈ C, 1 ≤ c
  dvd : ∀ c ∈ C, ∀ d ∈ C, c ≤ d → d % c = 0
theorem ediv_same {s t a b : Int} (hs : 0 < s) (ht : t % s = 0) (e : a / s = b / s) (h0 : 0 < t) : a / t = b / t := by
  obtain ⟨k, hk⟩ := Int.dvd_of_emod_eq_zero ht
  rw [hk, ← Int.ediv_ediv_of_nonneg (Int.le_of_lt hs), ← Int.ediv_ediv_of_nonneg (Int.le_of_lt hs), e]
theorem St.ascL {C : List Int} {W : Int} {bs : List Bk} (h : St C W bs) : Asc bs := h.asc.imp_of_mem fun {b c} hb hc z => by
  obtain ⟨_, h1, _⟩ := h.ok b hb
  omega
theorem St.sub {C : List Int} {W : Int} {bs cs : List Bk} (h : St C W bs) (k : cs.Sublist bs) : St C W cs := ⟨fun b hb => h.ok b (k.subset hb), h.asc.sublist k⟩
/-- blocks at least as large as the size: each in its own chunk -/
theorem great_lt {C : List Int} {W s : Int} {bs : List Bk} (hC : Chn C) (hs : s ∈ C) (h : St C W bs) {b c : Bk} (hb : b ∈ bs) (hc : c ∈ bs) (hbs : s ≤ b.2) (hlt : b.1 + b.2 ≤ c.1) : b.1 / s < c.1 / s := by
  have h1 := hC.pos s hs
  have h2 : (b.1 + s) / s = b.1 / s + 1 := by rw [Int.add_ediv_of_dvd_right (Int.dvd_refl s), Int.ediv_self (by omega)]
  have h3 : (b.1 + s) / s ≤ c.1 / s := Int.ediv_le_ediv (by omega) (by omega)
  omega
/-- a block at most as large as the size lies within one chunk -/
theorem small_in {C : List Int} {W s : Int} {bs : List Bk} (hC : Chn C) (hs : s ∈ C) (h : St C W bs) {b : Bk} (hb : b ∈ bs) (hbs : b.2 ≤ s) {w : Int} (h1 : b.1 ≤ w) (h2 : w < b.1 + b.2) : w / s = b.1 / s := by
  obtain ⟨hbC, b1, b0, bm, _⟩ := h.ok b hb
  have e : w / b.2 = b.1 / b.2 := by
    obtain ⟨k, hk⟩ := Int.dvd_of_emod_eq_zero bm
    rw [hk, Int.mul_ediv_cancel_left _ (by omega)]
    rw [Int.ediv_eq_iff_of_pos (by omega)]
    rw [hk] at h1 h2
    rw [Int.mul_comm] at h1 h2
    constructor
    · exact h1
    · exact h2
  exact ediv_same (by omega) (hC.dvd _ hbC s hs hbs) e (by have := hC.pos s hs; omega)
theorem kp_kp {C : List Int} {s t : Int} {bs : List Bk} (hC : Chn C) (hs : s ∈ C) (ht : t ∈ C) (hst : s ≤ t) : kp t (kp s bs) = kp t bs := by
  have p1 := hC.pos s hs
  have p2 := hC.pos t ht
  have up : ∀ {a b : Int}, a / s = b / s → a / t = b / t := fun e => ediv_same (by omega) (hC.dvd s hs t ht hst) e (by omega)
  unfold kp
  rw [List.filter_filter]
  refine List.filter_congr fun b hb => ?_
  rw [Bool.eq_iff_iff, Bool.and_eq_true, decide_eq_true_iff, decide_eq_true_iff, decide_eq_true_iff]
  constructor
  · rintro ⟨z1, z2⟩ c hc e
    obtain ⟨y, hy, ey, hyc⟩ := kp_ex (s := s) hc
    exact (z1 y hy ((up ey).trans e)).trans hyc
  · intro z
    exact ⟨fun c hc e => z c (List.mem_filter.mp hc).1 e, fun c hc e => z c hc (up e)⟩
theorem pair_or {α : Type} {R : α → α → Prop} : ∀ {l : List α}, l.Pairwise R → ∀ b ∈ l, ∀ c ∈ l, b = c ∨ R b c ∨ R c b
  | [], _, b, hb, _, _ => by cases hb
  | x :: r, h, b, hb, c, hc => by
    obtain ⟨h1, h2⟩ := List.pairwise_cons.mp h
    rcases List.mem_cons.mp hb with e | e <;> rcases List.mem_cons.mp hc with e2 | e2
    · exact .inl (e.trans e2.symm)
    · rw [e]; exact .inr (.inl (h1 c e2))
    · rw [e2]; exact .inr (.inr (h1 b e))
    · exact pair_or h2 b e c e2
/-- a block at least as large as the size is kept -/
theorem great_kept {C : List Int} {W s : Int} {bs : List Bk} (hC : Chn C) (hs : s ∈ C) (h : St C W bs) {b : Bk} (hb : b ∈ bs) (hg : s ≤ b.2) : b ∈ kp s bs := by
  refine mem_kp.mpr ⟨hb, fun c hc e => ?_⟩
  have p1 := hC.pos s hs
  rcases pair_or h.asc b hb c hc with z | z | z
  · rw [z]; exact btr.refl _
  · have := great_lt hC hs h hb hc hg z
    omega
  · exfalso
    obtain ⟨hbC, b1, b0, bm, _⟩ := h.ok b hb
    obtain ⟨_, c1, _⟩ := h.ok c hc
    have hd : s ∣ b.1 := Int.dvd_trans (Int.dvd_of_emod_eq_zero (hC.dvd s hs _ hbC hg)) (Int.dvd_of_emod_eq_zero bm)
    have e2 : b.1 / s * s = b.1 := Int.ediv_mul_cancel hd
    have e3 : c.1 / s * s ≤ c.1 := Int.ediv_mul_le _ (by omega)
    rw [e] at e3
    omega
theorem kp_great {C : List Int} {W s : Int} {bs : List Bk} (hC : Chn C) (hs : s ∈ C) (h : St C W bs) (hg : ∀ b ∈ bs, s ≤ b.2) : kp s bs = bs :=
  List.filter_eq_self.mpr fun b hb => decide_eq_true (mem_kp.mp (great_kept hC hs h hb (hg b hb))).2
/-- the starts of the chunks that are not empty -/
def chk0 (s : Int) (bs : List Bk) (k : Int) : Prop := ∃ b ∈ bs, ∃ w, b.1 ≤ w ∧ w < b.1 + b.2 ∧ k = w / s * s
theorem kp_chk {C : List Int} {W s : Int} {bs : List Bk} (hC : Chn C) (hs : s ∈ C) (h : St C W bs) (k : Int) : chk0 s (kp s bs) k ↔ chk0 s bs k := by
  constructor
  · rintro ⟨b, hb, r⟩
    exact ⟨b, (mem_kp.mp hb).1, r⟩
  · rintro ⟨b, hb, w, w1, w2, rfl⟩
    by_cases hg : s ≤ b.2
    · exact ⟨b, great_kept hC hs h hb hg, w, w1, w2, rfl⟩
    · obtain ⟨y, hy, ey, _⟩ := kp_ex (s := s) hb
      have y1 := (h.ok y (mem_kp.mp hy).1).2.1
      refine ⟨y, hy, y.1, Int.le_refl _, by omega, ?_⟩
      rw [small_in hC hs h hb (by omega) w1 w2, ey]
theorem sum_sub : ∀ {l m : List Int}, l.Sublist m → (∀ x ∈ m, 0 ≤ x) → l.sum ≤ m.sum
  | _, _, .slnil, _ => Int.le_refl _
  | _, _, .cons a r, h => by
    have := sum_sub r fun x hx => h x (List.mem_cons_of_mem _ hx)
    have := h a (List.mem_cons_self ..)
    rw [List.sum_cons]
    omega
  | _, _, .cons_cons a r, h => by
    have := sum_sub r fun x hx => h x (List.mem_cons_of_mem _ hx)
    rw [List.sum_cons, List.sum_cons]
    omega
theorem kp_live {C : List Int} {W s : Int} {bs : List Bk} (h : St C W bs) : ((kp s bs).map (·.2)).sum ≤ (bs.map (·.2)).sum :=
  sum_sub ((kp_sub s bs).map _) fun x hx => by
    obtain ⟨b, hb, e⟩ := List.mem_map.mp hx
    have := (h.ok b hb).2.1
    omega
theorem kp_nodup {C : List Int} {W s : Int} {bs : List Bk} (h : St C W bs) (p : Bk → Bool) : (((kp s bs).filter p).map fun b => b.1 / s).Nodup := by
  have a : Asc ((kp s bs).filter p) := h.ascL.kp.sublist List.filter_sublist
  refine List.pairwise_map.mpr (a.imp_of_mem fun {b c} hb hc z e => ?_)
  have := kp_uniq (List.mem_filter.mp hb).1 (List.mem_filter.mp hc).1 e
  rw [this] at z
  omega
theorem kp_noc {s : Int} (hs : 0 < s) {l : List Bk} {b m : Bk} (h : Asc (l ++ [b])) (hg : (kp s l).getLast? = some m) (hq : m.1 / s ≠ b.1 / s) : ∀ c ∈ kp s l, c.1 / s ≠ b.1 / s := by
  obtain ⟨E0, eE⟩ := List.getLast?_eq_some_iff.mp hg
  have hl : Asc l := (List.pairwise_append.mp h).1
  have ascE : Asc (E0 ++ [m]) := eE ▸ hl.kp
  have hm : m ∈ l := (mem_kp.mp (by rw [eE]; exact List.mem_append_right _ (List.mem_singleton.mpr rfl) : m ∈ kp s l)).1
  have hmb := (List.pairwise_append.mp h).2.2 m hm b (List.mem_singleton.mpr rfl)
  have h2 : m.1 / s ≤ b.1 / s := Int.ediv_le_ediv hs (Int.le_of_lt hmb)
  intro c hc
  rw [eE] at hc
  rcases List.mem_append.mp hc with e | e
  · have h1 : c.1 / s ≤ m.1 / s := Int.ediv_le_ediv hs (Int.le_of_lt ((List.pairwise_append.mp ascE).2.2 c e m (List.mem_singleton.mpr rfl)))
    omega
  · rw [List.mem_singleton.mp e]
    exact hq
theorem kp_last {s : Int} {l E0 : List Bk} {m : Bk} (h : Asc l) (eE : kp s l = E0 ++ [m]) : ∀ c ∈ E0, c.1 / s ≠ m.1 / s := fun c hc z => by
  have ascE : Asc (E0 ++ [m]) := eE ▸ h.kp
  have h1 := (List.pairwise_append.mp ascE).2.2 c hc m (List.mem_singleton.mpr rfl)
  have e := kp_uniq (s := s) (bs := l) (b := c) (c := m) (by rw [eE]; exact List.mem_append_left _ hc) (by rw [eE]; exact List.mem_append_right _ (List.mem_singleton.mpr rfl)) z
  rw [e] at h1
  omega
end Ph

set_option maxHeartbeats 4000000
/-! PhAct: a lambda handed to a def that calls it within try: what is raised may speak of the slots of that def. -/
namespace Ph
open PySem PySem.Spec PyProof.Rows L2 LamX
section
variable {X : Cx} {pins : List (Addr × Obj)} {σ : L2.St} {H : Hp} {s : Shared}
/-- the context of the def that got the lambda -/
abbrev gotCx (X : Cx) (Ng : List Str) (x : Str) (sg : Scope) (g : Addr) (cdg : Value) (s : Shared) (H : Hp) : Cx := cxOf C8.CX0 X.prog X.w X.K X.mg X.base Ng x sg g cdg X.A X.stack s H C8.E0
/-- what a() reads there -/
def tAct (f c' : Addr) (q : Str) (tl : XK → Hp → VK → Prop) (W : WX) : TE := fun σZ HZ Q => σZ[0]? = some (some (.ref f)) ∧ HZ c' = some (CodeO c' q) ∧ ∃ E : XK, (∀ cls d H', E cls d H' → W cls d σZ H') ∧ tl E HZ Q
theorem pe_actS {Ng : List Str} {x : Str} {sg : Scope} {g f c' : Addr} {cdg pm ctv : Value} {params : Arguments} {body : Expr} {scope : Scope} {k : Nat} {a : Str} {pn : List (Addr × Obj)} {xe : Value → Shared → Prop} {W : WX} {p1 p2 : Pos} {t : XK → TE}
    (I : Inv X pins σ H s) (L : LamS X.env.scope scope) (obj : s.heap.get? f = some (PySem.W.kla_obj "<lambda>" (X.env.qual ++ "<lambda>") params body scope (cloFrom X.env.cells scope.names []) pm c' ctv)) (untr : H f = none) (offF : f ∉ frs X.stack)
    (bnd : bindArgs (PySem.W.kla_fn "<lambda>" (X.env.qual ++ "<lambda>") params body scope (cloFrom X.env.cells scope.names []) pm (.ref c') ctv) ⟨[], []⟩ = pure [])
    (tk : Takes ((gotCx X Ng x sg g cdg s H).tr pn xe) W) (room : Room (k + 1) (X.A.deeper (envOfC x sg s.heap.objs.size g cdg)))
    (hbody : ∀ (A : Around) (outer : List Env) (s : Shared) (H : Hp) (E : XK), Room k (A.deeper (lamEnv X scope s.heap.objs.size f c')) → PE (lamCx X A outer s H E scope f c') body (t E))
    (hN : Ng[0]? = some a) (hv : Vis sg a) (hd : (a == ("__debug__" : Str)) = false) (hcd : (a == ("__classdict__" : Str)) = false) :
    PE ((gotCx X Ng x sg g cdg s H).tr pn xe) (.Call (.Name a p1) [] [] p2) (tAct f c' (X.env.qual ++ "<lambda>") (fun E H' Q' => t E σ H' Q') W) := by
  constructor
  rintro pinsZ sZ σZ HZ Q IZ ⟨at0, code, E, hW, want⟩
  refine wpAny_Call_Name_kw (thn ((pe_var (pos := p1) (i := 0) hN hv hd hcd).run pinsZ sZ σZ HZ (fun v G => v = .ref f ∧ G = HZ) IZ ⟨.ref f, at0, rfl, rfl⟩) fun u s1 ⟨v, G, I1, rel, hval⟩ => ?_)
  obtain ⟨rfl, rfl⟩ := hval
  obtain rfl : u = Value.ref f := rel
  have un : Un (frs X.stack) [] H G s.heap s1.heap := I1.base
  have still := un.keep f _ obj untr offF (fun z => List.not_mem_nil z)
  obtain ⟨⟨oc, vs, tq, get, dat, nm⟩, _, _⟩ := I1.hok c' _ code
  refine PySem.W.callWith_F0 ⟨_, _, _, _, still⟩ (wpAny_call ?_)
  have run : codeAny (model X.prog X.w) (X.A.deeper (envOfC x sg s.heap.objs.size g cdg)) (.call (.ref f) ⟨[], []⟩) (CR (L2.CX X.prog X.w) (envOfC x sg s.heap.objs.size g cdg :: X.stack) X.prog X.w G s1 Q E) s1 := by
    refine PySem.W.kla_callFunE room.depth still rfl L.co L.gen rfl ⟨c', oc, vs, tq, rfl, get, dat, nm⟩ ?_
    rw [bnd]
    refine wpAny_pure (wpAny_newFunctionEnv (fun y hy => (L.own y hy).2) (fun y hy => (List.not_mem_nil hy).elim) (fun h₁ ns sub => ⟨I1.nolimit.fresh _ sub, ?_⟩) L.kind)
    show codeAny _ _ (.expr body (lamEnv X scope s1.heap.objs.size f c')) _ _
    have grows : ∀ b o, s1.heap.get? b = some o → h₁.get? b = some o := fun b o e => sub.extBut b o (Nat.ne_of_lt (Heap.lt_size e)) (Heap.get?_push_of_some _ e)
    have J := lam_start2 (A := X.A.deeper (envOfC x sg s.heap.objs.size g cdg)) (outer := envOfC x sg s.heap.objs.size g cdg :: X.stack) (E := E) (f := f) (c' := c') (tk := s1.toks + ([] : List (Str × Value)).length) I L I1.env0 room.hd un ns grows
    exact PySem.W.kla_codeExpr (wpAny_mono ((hbody _ _ s1 G E (room.deeper _)).run [] _ _ G Q J want) (fun v s' ⟨y, G', J', r', q'⟩ => ⟨y, G', J'.os, J'.bare, J'.base, J'.hok, r', q'⟩) fun e s' hq => hq)
  refine codeAny_mono run fun r s' out => ?_
  match r, out with
  | .error e, out => exact tk e s' (XE.of_call I1 (fun cls d H' h => hW cls d H' h) out)
  | .ok (.ret u), out => exact I1.after out
end
/-- the def that calls what it got within try -/
def GivesS (X : Cx) (Ng : List Str) (x : Str) (sg : Scope) (g : Addr) (cdg : Value) (bg : List Stmt) (a : Str) (q : Str) (TT : (XK → Hp → VK → Prop) → Hp → VK → Prop) : Prop :=
  ∀ (f c' : Addr) (s : Shared) (H : Hp) (Q : VK) (tl : XK → Hp → VK → Prop),
    (∀ (W : WX) (pn : List (Addr × Obj)) (xe : Value → Shared → Prop) (p1 p2 : Pos), Takes ((gotCx X Ng x sg g cdg s H).tr pn xe) W → PE ((gotCx X Ng x sg g cdg s H).tr pn xe) (.Call (.Name a p1) [] [] p2) (tAct f c' q tl W)) →
    H c' = some (CodeO c' q) → TT tl H Q →
    ∃ t, PSs (gotCx X Ng x sg g cdg s H).nox bg t ∧ t { nx := fun _ H' => Q .non H', rt := Q } (L2.start Ng [.ref f]) H
section
variable {X : Cx}
/-- x(lambda: body), x a def of the top that is known as Fun -/
theorem pe_lamS {T : List (Addr × Str)} {TT : (XK → Hp → VK → Prop) → Hp → VK → Prop} {x a : Str} {g c P : Addr} {k : Nat} {st : Stmt} {fd : FuncData} {Ng : List Str} {params : Arguments} {body : Expr} {scope : Scope} {t : XK → TE} {p lpos pos : Pos}
    (gl : Gl X x) (hm : X.mg x = some (.ref g)) (F : Fun X.K x x st g fd) (hb : L2.Binds X.K fd [a] []) (Sg : FnScope Ng [a] (defScope st)) (at0 : Ng[0]? = some a) (vis : Vis (defScope st) a)
    (gives : ∀ cdv : Value, GivesS X Ng x (defScope st) g cdv (defBody st) a (X.env.qual ++ "<lambda>") TT) (TB : TabB X.base X.mg c P) (hcode : X.env.code = .ref c) (inT : (P, X.env.qual ++ "<lambda>") ∈ T) (one : ∀ p ∈ T, p.1 = P → p.2 = X.env.qual ++ "<lambda>")
    (room : Room (k + 2) X.A) (L : LamS X.env.scope scope) (hdef : defaultsOf params X.env = ([], [])) (bnd : ∀ (q : Str) (cl : List (Str × Addr)) (pm cv ctv : Value), bindArgs (PySem.W.kla_fn "<lambda>" q params body scope cl pm cv ctv) ⟨[], []⟩ = pure [])
    (hbody : ∀ (A : Around) (outer : List Env) (s : Shared) (H : Hp) (E : XK) (f c' : Addr), Room k (A.deeper (lamEnv X scope s.heap.objs.size f c')) → PE (lamCx X A outer s H E scope f c') body (t E))
    (hdb : (x == ("__debug__" : Str)) = false := by decide) (hd : (a == ("__debug__" : Str)) = false := by decide) (hcd : (a == ("__classdict__" : Str)) = false := by decide) :
    PE X (.Call (.Name x p) [.Lambda params body scope lpos] [] pos) (tLam T TT t) := by
  obtain ⟨oc, od, kV, doc, pm, an, cdv, ct, osl, rfl, lk, hcd2⟩ := F.ex
  constructor
  rintro pins s σ H Q I ⟨tabs, want⟩
  refine wpAny_Call_Name_kw (ld_glob I gl hm ?_ hdb)
  refine PySem.W.callWith_K (h₀ := X.base) I.ok.mod.kin F.kp ?_ (by rfl) (by rfl)
  show wpAny _ _ (spliced ((false, eval (.Lambda params body scope lpos) X.env) :: backTo pos (starEach [] X.env))) _ _ s
  refine Calls.spliced_cons (lam_make2 I TB hcode inT one tabs hdef (L.has I.ok) fun f c' pm' ctv H1 s' I1 grown tabs1 obj untr offF code => Calls.spliced_nil ⟨I1.kIn, ?_⟩)
  refine wpAny_call (codeAny_mono (R := CR C8.CX0 X.stack X.prog X.w H1 s' Q C8.E0) ?_ fun r s2 out => ?_)
  · refine run_ofS (N := Ng) (ps := [a]) (us := [.ref f]) (vs := [.ref f]) lk hcd2 Sg room I1.env0 (hb s' [.ref f] I1.kIn rfl) (.cons rfl .nil) rfl fun room2 => ?_
    obtain ⟨t', ht', hq'⟩ := gives cdv f c' s' H1 Q (fun E H' Q' => t E σ H' Q') (fun W pn xe p1 p2 tk => pe_actS I1 L obj untr offF (bnd _ _ _ _ _) tk room2 (fun A outer s H E hr2 => hbody A outer s H E f c' hr2) at0 vis hd hcd) code (want H1 grown tabs1)
    exact ⟨t', ht'.nox, hq'⟩
  · match r, out with
    | .error e, out => exact (show False from out).elim
    | .ok (.ret u), out => exact I1.after out
end
end Ph

namespace Ph
open PySem PySem.Spec PyProof.Rows L2
/-! ### f(k = v, ..), nothing by position -/
section
variable {X : Cx} {CX : CXT} {k : Nat} {f : Addr} {fd : FuncData} {ps ks : List Str} {sp : Sp} {E : XK} {x : Str} {p pos : Pos} {kws : List Keyword} {tk : TA} {g : List Value → List Value → List Value} {gV : List V → List V → List V}
theorem pe_callK0 (F : FnOk X.prog X.w X.K X.mg X.base CX k f fd ps sp) (room : Room k X.A) (hg : Gl X x) (hm : X.mg x = some (.ref f)) (kp : PySem.W.keepIn X.K (.ref f) = true) (kb : KBinds X.K fd ps ks g gV) (pass : Passes CX X E)
    (hkw : PK X kws tk) (every : (backToKw pos (keywordEach kws X.env)).all (·.1.isSome) = true := by rfl) (nms : (backToKw pos (keywordEach kws X.env)).filterMap (·.1) = ks := by rfl)
    (nodb : (x == ("__debug__" : Str)) = false := by decide) (plain : ((backTo pos (starEach [] X.env)).any (·.1) || (backToKw pos (keywordEach kws X.env)).any (·.1.isNone)) = false := by rfl) :
    PE X (.Call (.Name x p) [] kws pos) (tCallK sp gV E tNil tk) := ⟨fun pins s σ H Q I want => by
  refine wpAny_Call_Name_kw (ld_glob I hg hm ?_ nodb)
  refine PySem.W.callWith_KW0 (h₀ := X.base) I.ok.mod.kin kp every (thn (hkw.run pos pins s σ H _ I want) fun ws s2 ⟨zs, H2, I2, rz, q2⟩ => ⟨I2.kIn, ?_⟩) plain
  rw [nms]
  exact run_fnk (us := []) (vs := []) F room kb pass I2 .nil rz q2⟩
end
theorem kb_of {K : PySem.W.Frag} {x qual : Str} {st : Stmt} {f : Addr} {fd : FuncData} (F : Fun K x qual st f fd) {ps ks : List Str} {g : List Value → List Value → List Value} {gV : List V → List V → List V}
    (h : ∀ (kV doc pm : Value) (an : Option Addr) (cdv ct : Value) (us ws : List Value), (g us ws).length = ps.length → bindArgs (PySem.W.fnOf x qual (defArgs st) (defBody st) (defScope st) .none kV doc pm an cdv ct) ⟨us, ks.zip ws⟩ = pure (ps.zip (g us ws)))
    (rel : ∀ {vs : List V} {us : List Value} {zs : List V} {ws : List Value}, Vals vs us → Vals zs ws → Vals (gV vs zs) (g us ws)) : KBinds K fd ps ks g gV := by
  obtain ⟨oc, od, kV, doc, pm, an, cdv, ct, osl, rfl, lk, hcd⟩ := F.ex
  exact ⟨fun s us ws _ hl => .of_eq (h kV doc pm an cdv ct us ws hl), rel⟩
def sw2 {α : Type} : List α → List α → List α
  | [], [a, b] => [b, a]
  | _, _ => []
def sw3 {α : Type} : List α → List α → List α
  | [], [a, b, c] => [c, b, a]
  | _, _ => []
theorem sw2_rel {vs : List V} {us : List Value} {zs : List V} {ws : List Value} (r : Vals vs us) (rz : Vals zs ws) : Vals (sw2 vs zs) (sw2 us ws) := by
  cases r with
  | nil =>
    cases rz with
    | nil => exact .nil
    | cons a rz =>
      cases rz with
      | nil => exact .nil
      | cons b rz =>
        cases rz with
        | nil => exact .cons b (.cons a .nil)
        | cons c rz => exact .nil
  | cons a r => exact .nil
theorem sw3_rel {vs : List V} {us : List Value} {zs : List V} {ws : List Value} (r : Vals vs us) (rz : Vals zs ws) : Vals (sw3 vs zs) (sw3 us ws) := by
  cases r with
  | nil =>
    cases rz with
    | nil => exact .nil
    | cons a rz =>
      cases rz with
      | nil => exact .nil
      | cons b rz =>
        cases rz with
        | nil => exact .nil
        | cons c rz =>
          cases rz with
          | nil => exact .cons c (.cons b (.cons a .nil))
          | cons d rz => exact .nil
  | cons a r => exact .nil
theorem sw2_len {us ws : List Value} (h : (sw2 us ws).length = 2) : ∃ a b, us = [] ∧ ws = [a, b] := by
  unfold sw2 at h
  split at h
  · exact ⟨_, _, rfl, rfl⟩
  · cases h
theorem sw3_len {us ws : List Value} (h : (sw3 us ws).length = 3) : ∃ a b c, us = [] ∧ ws = [a, b, c] := by
  unfold sw3 at h
  split at h
  · exact ⟨_, _, _, rfl, rfl⟩
  · cases h
end Ph

set_option maxHeartbeats 4000000
/-! PhMkx: C(x), C(f = x), C() of an own error class outside raise: the error kept as a value. -/
namespace Ph
open PySem PySem.Spec PyProof.Rows L2
/-- what making an error leaves, as an expression -/
def tMkx (t : L2.St → Hp → XK → Prop) : TE := fun σ H Q => t σ H fun cls d H' => ∀ a, H' a = none → Q (.ref a) (upd H' a (ExK cls d a))
theorem pe_mkx {X : Cx} {e : Expr} {t : L2.St → Hp → XK → Prop} (m : PMk X e t) : PE X e (tMkx t) := by
  refine ⟨fun pins s σ H Q I h => ?_⟩
  refine wpAny_mono (m pins s σ H _ I h) (fun u s' made => ?_) fun _ _ y => y
  obtain ⟨a, oe, vs, sI, H', cls, d, rfl, J, k, hne, ha, hz, hd, h1, na, os, ag, r, q⟩ := made
  have new : ObjOk X.prog X.w (upd H' a (ExK cls d a)) s'.heap a (ExK cls d a) := ⟨⟨oe, vs, ha, hz, hd⟩, ⟨oe, ha⟩, fun g1 g2 ⟨o2, f2, y1, y2⟩ y3 => ⟨o2, f2, y3 _ y1, y2⟩⟩
  have up : ∀ {b : Addr} {z : HO}, H' b = some z → upd H' a (ExK cls d a) b = some z := fun {b z} y => (upd_ne (ne_of_none y na)).trans y
  have un : Un X.fs [] H' (upd H' a (ExK cls d a)) sI.heap s'.heap := {
    keep := fun b z y _ _ _ => k b z y
    slot := fun b z y _ _ _ => ⟨z.slots, k b z y⟩
    free := fun b z y n _ => (upd_ne (fun e => by rw [e, hne] at y; cases y)).trans n
    there := fun b z y _ => ⟨z, k b z y⟩
    tups := fun b xs y => up y
    frzs := fun b o xs y => up y
    tbls := fun b ps y => ⟨#[], by rw [up y]; simp⟩ }
  have ho : HOk X.prog X.w (upd H' a (ExK cls d a)) s'.heap := fun b z y => by
    by_cases e : b = a
    · rw [e, upd_same] at y
      cases y
      rw [e]
      exact new
    · rw [upd_ne e] at y
      exact (J.hok b z y).stay (fun c v _ g => k c v g) (fun c g => up g) fun c xs g => up g
  have J2 := J.un (t' := s'.toks) un ho
  exact ⟨.ref a, _, ⟨J2.ok, os.trans J2.os, ag, J2.base, J2.loc, J2.cell, J2.free, J2.freeC, J2.pin, J2.hok, J2.len⟩, rfl, q a na⟩
/-! ### by keyword -/
section
variable {M : Model} {A : Around} {E : Value → Shared → Prop} {hh : Heap} {gg : Array GenState} {dr : Drawn} {tk : Nat} {sys : OsState}
variable {nm qn : Str} {C N : Addr} {bs bm bB : List Value} {hdct : Bool} {sn : List Str} {sub : List Value} {ab : Bool} {col : Option Bool} {dd : Option Addr} {k0 k1 k2 k3 k5 : Option Value} {B nI iI : String} {us : List Value} {ks : List (Str × Value)}
theorem chk_newK (F : ExcBaseFacts B nI iI bB) (like : ∀ Y : String, bm.contains (.type Y) = bB.contains (.type Y)) {Q : Unit → Shared → Prop}
    (cl : hh.get? C = some (excClassObj nm qn C N bs bm hdct sn sub ab col dd k0 k1 k2 k3 k5 nI)) (q : Q () ⟨hh, gg, dr, tk, sys⟩) : wpAny M A (checkBuiltinCall nI ⟨.ref C :: us, ks⟩) Q E ⟨hh, gg, dr, tk, sys⟩ := by
  have has : (Value.ref C :: bm).contains (.type B) = true := by rw [List.contains_cons, like, F.hasB, Bool.or_true]
  have star := F.noStar
  simp only [checkBuiltinCall, F.newKind, F.newSplit, F.newRow]
  repeat (first | refine wpAny_loadPart_at cl ?_ | (refine wpAny_isSubtype_exc cl ?_; rw [has]) | refine wpAny_staticBase_exc cl ?_ | refine wpAny_madeBy_exc cl ?_ | simp only [bne_self_eq_false, Bool.false_eq_true, if_false] | wp_step)
  exact q
theorem chk_typK {Q : Unit → Shared → Prop} (cl : hh.get? C = some (excClassObj nm qn C N bs bm hdct sn sub ab col dd k0 k1 k2 k3 k5 nI)) (q : Q () ⟨hh, gg, dr, tk, sys⟩) : wpAny M A (checkBuiltinCall "type.__call__" ⟨.ref C :: us, ks⟩) Q E ⟨hh, gg, dr, tk, sys⟩ := by
  have sb := tc_sub
  have ty : (⟨hh, gg, dr, tk, sys⟩ : Shared).TypeIs (.ref C) "type" := ⟨_, cl, rfl⟩
  simp only [checkBuiltinCall, tc_kind, tc_split]
  repeat (any_goals (first | assumption | with_reducible refine wpAny_loadPart_at cl ?_ | with_reducible refine wpAny_onRaise ?_ | with_reducible refine wpAny_map ?_ | wp_step))
end
section
variable {prog : Program} {w : World} {A : Around} {E : Value → Shared → Prop} {R : Result → Shared → Prop} {hh : Heap} {gg : Array GenState} {dr : Drawn} {tk : Nat} {sys : OsState}
variable {nm qn : Str} {C N : Addr} {bs bm bB : List Value} {hdct : Bool} {sn : List Str} {sub : List Value} {ab : Bool} {col : Option Bool} {dd : Option Addr} {k0 k1 k2 k3 k5 : Option Value} {B nI iI : String} {us : List Value} {ks : List (Str × Value)}
theorem newK (F : ExcBaseFacts B nI iI bB) (like : ∀ Y : String, bm.contains (.type Y) = bB.contains (.type Y)) (cl : hh.get? C = some (excClassObj nm qn C N bs bm hdct sn sub ab col dd k0 k1 k2 k3 k5 nI)) (short : us.length ≤ sizeLine)
    (q : R (.ok (.ret (.ref (hh.objs.size + 1)))) ⟨(hh.push (PySem.W.kdv_tup us)).push (PySem.HandSPX.excO C hh.objs.size), gg, dr, tk, sys⟩) : codeAny (model prog w) A (.builtin nI ⟨.ref C :: us, ks⟩) R ⟨hh, gg, dr, tk, sys⟩ := by
  have ends := F.ends
  have hasB : (Value.ref C :: bm).contains (.type B) = true := by rw [List.contains_cons, like, F.hasB, Bool.or_true]
  have hasA : (Value.ref C :: bm).contains (.type "AttributeError") = false := by rw [List.contains_cons, like, F.noAttr]; rfl
  have hasN : (Value.ref C :: bm).contains (.type "NameError") = false := by rw [List.contains_cons, like, F.noName]; rfl
  refine PySem.codeAny_builtinAt F.entry ?_
  unfold Builtin.«BaseException.__new__»
  refine PySem.wpAt_bind ?_
  show PySem.wpAt _ _ _ (stack >>= _) _ _ _
  refine PySem.wpAt_bind (PySem.wpAt_stack fun pp below => PySem.wpAt_of_wpAny ?_)
  wp_walk
  refine PySem.wpAt_of_wpAny ?_
  rw [F.owner]
  repeat (first | with_reducible refine wpAny_madeHere_exc F.canon cl ?_ | with_reducible refine wpAny_loadPart_at cl ?_ | (with_reducible refine wpAny_isSubtype_exc cl ?_; first | rw [hasB] | rw [hasA] | rw [hasN]) | wp_step)
  show R _ _
  rw [Heap.size_push]
  exact q
theorem typK (F : ExcBaseFacts B nI iI bB) (like : ∀ Y : String, bm.contains (.type Y) = bB.contains (.type Y)) {fI : Addr} {Q : Fin → Shared → Prop} (cl : hh.get? C = some (excClassObj nm qn C N bs bm hdct sn sub ab col dd k0 k1 k2 k3 k5 nI)) (short : us.length ≤ sizeLine)
    (look : PySem.W.Looks (model prog w) hh (typeLookup (.ref C) "__init__") (some (.ref fI))) (bind : ∀ self, PySem.W.Looks (model prog w) hh (bindSpecial (.ref fI) self) (.ref fI, [self]))
    (q : codeAny (model prog w) A (.call (.ref fI) ⟨.ref (hh.objs.size + 1) :: us, ks⟩) (fun r s' => match r with | .ok (.ret v) => v = .none ∧ Q (.done (.ret (.ref (hh.objs.size + 1)))) s' | .ok _ => False | .error e => E e s')
      ⟨(hh.push (PySem.W.kdv_tup us)).push (PySem.HandSPX.excO C hh.objs.size), gg, dr, tk, sys⟩) : wpAny (model prog w) A (Builtin.«type.__call__» ⟨.ref C :: us, ks⟩) Q E ⟨hh, gg, dr, tk, sys⟩ := by
  repeat (first | with_reducible refine wpAny_loadPart_at cl ?_ | with_reducible refine wpAny_madeBy_exc cl ?_ | wp_step)
  refine codeAny_call_builtin_code (Code.quiet_builtin _ F.quiet) (chk_newK F like cl ?_)
  refine newK F like cl short ?_
  show wpAny _ _ _ _ _ _
  have kp : ∀ b o, hh.get? b = some o → ((hh.push (PySem.W.kdv_tup us)).push (PySem.HandSPX.excO C hh.objs.size)).get? b = some o := fun b o e => Heap.get?_push_of_some _ (Heap.get?_push_of_some _ e)
  have cl1 := kp _ _ cl
  have got : ((hh.push (PySem.W.kdv_tup us)).push (PySem.HandSPX.excO C hh.objs.size)).get? (hh.objs.size + 1) = some (PySem.HandSPX.excO C hh.objs.size) := by heap_get
  have self : (Value.ref C :: bm).contains (.ref C) = true := by simp
  have i1 := look.keeps kp
  have b1 := (bind (.ref (hh.objs.size + 1))).keeps kp
  unfold isInstance
  repeat (first | with_reducible refine wpAny_loadPart_at got ?_ | (with_reducible refine wpAny_isSubtype_exc cl1 ?_; rw [self]) | wp_step)
  show wpAny _ _ (typeLookup (.ref C) _) _ _ _
  refine i1.at ?_
  refine wpAny_holding (wpAny_bind (b1.at ?_))
  refine wpAny_bind (wpAny_call (codeAny_mono q fun r s' z => ?_))
  rcases r with e | (v | _ | _ | _) <;> first | exact z | exact z.elim | skip
  obtain ⟨rfl, z⟩ := z
  first
    | exact wpAny_pure (wpAny_pure z)
    | (wp_walk; exact z)
theorem callK (F : ExcBaseFacts B nI iI bB) (like : ∀ Y : String, bm.contains (.type Y) = bB.contains (.type Y)) {fI : Addr} (cl : hh.get? C = some (excClassObj nm qn C N bs bm hdct sn sub ab col dd k0 k1 k2 k3 k5 nI)) (short : us.length ≤ sizeLine)
    (look : PySem.W.Looks (model prog w) hh (typeLookup (.ref C) "__init__") (some (.ref fI))) (bind : ∀ self, PySem.W.Looks (model prog w) hh (bindSpecial (.ref fI) self) (.ref fI, [self]))
    (q : codeAny (model prog w) (A.under (.builtin "type.__call__" ⟨.ref C :: us, ks⟩)) (.call (.ref fI) ⟨.ref (hh.objs.size + 1) :: us, ks⟩) (PySem.W.InitBack (hh.objs.size + 1) R) ⟨(hh.push (PySem.W.kdv_tup us)).push (PySem.HandSPX.excO C hh.objs.size), gg, dr, tk, sys⟩) :
    codeAny (model prog w) A (.call (.ref C) ⟨us, ks⟩) R ⟨hh, gg, dr, tk, sys⟩ := by
  have g1 := tc_lookup
  have g2 := tc_bind (.ref C)
  have ty : (⟨hh, gg, dr, tk, sys⟩ : Shared).TypeIs (.ref C) "type" := ⟨_, cl, rfl⟩
  refine codeAny_of_tree ?_
  show wpAny _ _ (callAny (.ref C) _) _ _ _
  repeat (any_goals (first | assumption | with_reducible refine wpAny_loadPart_at cl ?_ | wp_step))
  refine ⟨rfl, ?_⟩
  refine codeAny_call_builtin_at (Code.quiet_builtin _ (by decide +kernel)) entry_typeCall (chk_typK cl (typK F like cl short look bind ?_))
  refine codeAny_mono q fun r s' z => ?_
  rcases r with e | (v | _ | _ | _) <;> exact z
end
/-- one positional value (the object), keywords named ks -/
theorem kbe_of {K : PySem.W.Frag} {x qual : Str} {st : Stmt} {f : Addr} {fd : FuncData} {ps : List Str} (F : Fun K x qual st f fd) (n : Nat) (ks : List Str)
    (h : ∀ (kV doc pm : Value) (an : Option Addr) (cdv ct : Value) (us ws : List Value), us.length = n → ws.length = ks.length → bindArgs (PySem.W.fnOf x qual (defArgs st) (defBody st) (defScope st) .none kV doc pm an cdv ct) ⟨us, ks.zip ws⟩ = pure (ps.zip (us ++ ws))) :
    KBn K fd ps n ks (fun us ws => us ++ ws) (fun vs zs => vs ++ zs) := by
  obtain ⟨oc, od, kV, doc, pm, an, cdv, ct, osl, rfl, lk, hcd⟩ := F.ex
  exact ⟨fun s us ws X l1 l2 => .of_eq (h kV doc pm an cdv ct us ws l1 l2), fun r1 r2 => r1.append r2⟩
/-- C(f = x) -/
def tMkK (C : Addr) (m : Nat) (sp : Sp) (gV : List V → List V → List V) (tk : TA) : L2.St → Hp → XK → Prop := fun σ H Q => tk σ H fun zs H1 => zs.length = m ∧ ∀ a, H1 a = none → sp (gV [.ref a] zs) (upd H1 a (exo a C none))
  (fun v H2 => v = .non ∧ ∃ (d : Addr) (fs : List (Str × V)), H2 a = some (exo a C (some d)) ∧ H2 d = some (exd d fs) ∧ H1 d = none ∧ Q (.ref C) (some d) (upd (del H2 a) d (.xd fs))) (fun _ _ _ => False)
theorem pmk_kw {X : Cx} {CX : CXT} {x : Str} {C fI : Addr} {k : Nat} {fd : FuncData} {ps ks : List Str} {sp : Sp} {p pos : Pos} {kws : List Keyword} {ta : TA} {gV : List V → List V → List V} {gU : List Value → List Value → List Value} (T : OexC X.K C) (iC : PySem.W.findIn X.K (.ref C) "__init__" = some (some (.ref fI)))
    (tI : PySem.W.typeIn X.K (.ref fI) = some (.type "function")) (F1 : FnOk X.prog X.w X.K X.mg X.base CX k fI fd ps sp) (room : Room (k + 1) X.A) (kb : KBn X.K fd ps 1 ks gU gV) (pass : Passes CX X (fun _ _ _ => False)) (hg : Gl X x) (hm : X.mg x = some (.ref C)) (hkw : PK X kws ta)
    (every : (backToKw pos (keywordEach kws X.env)).all (·.1.isSome) = true := by rfl) (nms : (backToKw pos (keywordEach kws X.env)).filterMap (·.1) = ks := by rfl) (nodb : (x == ("__debug__" : Str)) = false := by decide)
    (plain : ((backTo pos (starEach [] X.env)).any (·.1) || (backToKw pos (keywordEach kws X.env)).any (·.1.isNone)) = false := by rfl) : PMk X (.Call (.Name x p) [] kws pos) (tMkK C ks.length sp gV ta) := by
  intro pins s σ H Q I want
  obtain ⟨nm, qn, N, bs, bm, sn, sub, ab, col, dd, k0, k1, k2, k3, k5, hC, hbm⟩ := T.cls
  refine wpAny_Call_Name_kw (ld_glob I hg hm ?_ nodb)
  refine PySem.W.callWith_KW0 (h₀ := X.base) I.ok.mod.kin T.kC every ?_ plain
  refine thn (hkw.run pos pins s σ H _ I want) fun ws s1 ⟨zs, H1, I1, rz, zl, q1⟩ => ⟨I1.kIn, ?_⟩
  rw [nms]
  show wpAny _ _ (call (.ref C) [] (ks.zip ws)) _ _ _
  obtain ⟨hp, g, dr, tk, os⟩ := s1
  obtain ⟨z, ez⟩ : ∃ z, z = hp.objs.size := ⟨_, rfl⟩
  have hsz : hp.objs.size ≤ z + 1 := by omega
  have hn : H1 (z + 1) = none := I1.hok.fresh hsz
  have wish := q1 (z + 1) hn
  obtain ⟨h1, e1⟩ : ∃ h1, h1 = (hp.push (PySem.W.kdv_tup [])).push (PySem.HandSPX.excO C z) := ⟨_, rfl⟩
  have kk : ∀ b o, hp.get? b = some o → h1.get? b = some o := fun b o e => by
    rw [e1]
    exact Heap.get?_push_of_some _ (Heap.get?_push_of_some _ e)
  have hget : h1.get? (z + 1) = some (PySem.HandSPX.excO C z) := by
    subst ez e1
    heap_get
  have I2 : Inv X pins σ (upd H1 (z + 1) (exo (z + 1) C none)) ⟨h1, g, dr, tk, os⟩ := I1.laid (t' := tk) kk hsz (exo_ok hget)
  have r1 : Vals [V.ref (z + 1)] [Value.ref (z + 1)] := .cons rfl .nil
  have run := F1.run _ X.stack ⟨h1, g, dr, tk, os⟩ _ ⟨[Value.ref (z + 1)], ks.zip ws⟩ _ _ _ (fun _ _ _ => False) (room.make C [] (ks.zip ws)) (I2.env0.make C [] (ks.zip ws)) (kb.to _ [Value.ref (z + 1)] ws I2.kIn rfl (rz.length.symm.trans zl)) (kb.rel r1 rz) wish
  subst e1
  subst ez
  refine wpAny_call (callK F.excBase_ValueError (fun Y => PySem.HandSPX.refsVE_contains Y bm hbm) (I1.kIn _ _ hC) (Nat.zero_le _) (PySem.W.looks_findIn I1.kIn iC) (fun self => PySem.W.bind_fn I1.kIn self tI) (codeAny_mono run fun r s' hq' => ?_))
  cases r with
  | error er => exact pass pins σ _ _ er s' I2 hq'
  | ok fl =>
    cases fl with
    | next => exact hq'.elim
    | brk => exact hq'.elim
    | cont => exact hq'.elim
    | ret u =>
      obtain ⟨v, H2, os2, bare2, un2, hok2, rv, ev, d, fs, ea, ed, hd1, q2⟩ := hq'
      subst ev
      obtain ⟨h2, g2, d2, t2, os'⟩ := s'
      exact ⟨rv, mk_end (raises_own T.exC T.tyC) I1 hsz kk un2 hok2 os2 bare2 ea ed hd1 q2⟩
end Ph

set_option maxHeartbeats 8000000
namespace Ph
open PySem PySem.Spec PyProof.Rows L2
def topS (i : Nat) : Stmt := PySem.Challenge.pw_pinnedheap_k01_each_error_alone.main.body.getD i (.Pass ⟨0, 0, 0, 0⟩)
structure Fns (K : PySem.W.Frag) (mg : Str → Option Value) where
  N : Nm6 K mg
  nve : mg "ValueError" = none
  CHeapError : Addr
  gcHeapError : mg "HeapError" = some (.ref CHeapError)
  CBadChain : Addr
  gcBadChain : mg "BadChain" = some (.ref CBadChain)
  CBadPages : Addr
  gcBadPages : mg "BadPages" = some (.ref CBadPages)
  CBadLimit : Addr
  gcBadLimit : mg "BadLimit" = some (.ref CBadLimit)
  CBadRule : Addr
  gcBadRule : mg "BadRule" = some (.ref CBadRule)
  CBadSize : Addr
  gcBadSize : mg "BadSize" = some (.ref CBadSize)
  CBadState : Addr
  gcBadState : mg "BadState" = some (.ref CBadState)
  CBadPlace : Addr
  gcBadPlace : mg "BadPlace" = some (.ref CBadPlace)
  CBadAnswer : Addr
  gcBadAnswer : mg "BadAnswer" = some (.ref CBadAnswer)
  CBadEvent : Addr
  gcBadEvent : mg "BadEvent" = some (.ref CBadEvent)
  COverLimit : Addr
  gcOverLimit : mg "OverLimit" = some (.ref COverLimit)
  CNoRoom : Addr
  gcNoRoom : mg "NoRoom" = some (.ref CNoRoom)
  CNoBlock : Addr
  gcNoBlock : mg "NoBlock" = some (.ref CNoBlock)
  CTooMany : Addr
  gcTooMany : mg "TooMany" = some (.ref CTooMany)
  CBadText : Addr
  gcBadText : mg "BadText" = some (.ref CBadText)
  CBadLine : Addr
  gcBadLine : mg "BadLine" = some (.ref CBadLine)
  CSafe : Addr
  gcSafe : mg "Safe" = some (.ref CSafe)
  CUnsafe : Addr
  gcUnsafe : mg "Unsafe" = some (.ref CUnsafe)
  CFinished : Addr
  gcFinished : mg "Finished" = some (.ref CFinished)
  CNothingToUndo : Addr
  gcNothingToUndo : mg "NothingToUndo" = some (.ref CNothingToUndo)
  oxBadChain : OexC K CBadChain
  ecBadChain : ExcC K CBadChain
  xfBadChain : XfC K CBadChain
  nfBadChain_chain : PySem.W.findIn K (.ref CBadChain) "chain" = some none
  isBadChain_HeapError : PySem.W.kitOne K (.ref CBadChain) (.ref CHeapError) = some true
  isBadChain_BadChain : PySem.W.kitOne K (.ref CBadChain) (.ref CBadChain) = some true
  isBadChain_BadPages : PySem.W.kitOne K (.ref CBadChain) (.ref CBadPages) = some false
  isBadChain_BadLimit : PySem.W.kitOne K (.ref CBadChain) (.ref CBadLimit) = some false
  isBadChain_BadRule : PySem.W.kitOne K (.ref CBadChain) (.ref CBadRule) = some false
  isBadChain_BadSize : PySem.W.kitOne K (.ref CBadChain) (.ref CBadSize) = some false
  isBadChain_BadState : PySem.W.kitOne K (.ref CBadChain) (.ref CBadState) = some false
  isBadChain_BadPlace : PySem.W.kitOne K (.ref CBadChain) (.ref CBadPlace) = some false
  isBadChain_BadAnswer : PySem.W.kitOne K (.ref CBadChain) (.ref CBadAnswer) = some false
  isBadChain_BadEvent : PySem.W.kitOne K (.ref CBadChain) (.ref CBadEvent) = some false
  isBadChain_OverLimit : PySem.W.kitOne K (.ref CBadChain) (.ref COverLimit) = some false
  isBadChain_NoRoom : PySem.W.kitOne K (.ref CBadChain) (.ref CNoRoom) = some false
  isBadChain_NoBlock : PySem.W.kitOne K (.ref CBadChain) (.ref CNoBlock) = some false
  isBadChain_TooMany : PySem.W.kitOne K (.ref CBadChain) (.ref CTooMany) = some false
  isBadChain_BadText : PySem.W.kitOne K (.ref CBadChain) (.ref CBadText) = some false
  isBadChain_BadLine : PySem.W.kitOne K (.ref CBadChain) (.ref CBadLine) = some false
  isBadChain_Safe : PySem.W.kitOne K (.ref CBadChain) (.ref CSafe) = some false
  isBadChain_Unsafe : PySem.W.kitOne K (.ref CBadChain) (.ref CUnsafe) = some false
  isBadChain_Finished : PySem.W.kitOne K (.ref CBadChain) (.ref CFinished) = some false
  isBadChain_NothingToUndo : PySem.W.kitOne K (.ref CBadChain) (.ref CNothingToUndo) = some false
  isBadChain_ValueError : PySem.W.kitOne K (.ref CBadChain) (.type "ValueError") = some true
  exBadChain : PySem.W.exmOne K (.ref CBadChain) (.ref CHeapError) = some true
  exBadChain_BadChain : PySem.W.exmOne K (.ref CBadChain) (.ref CBadChain) = some true
  oxBadPages : OexC K CBadPages
  ecBadPages : ExcC K CBadPages
  xfBadPages : XfC K CBadPages
  nfBadPages_pages : PySem.W.findIn K (.ref CBadPages) "pages" = some none
  isBadPages_HeapError : PySem.W.kitOne K (.ref CBadPages) (.ref CHeapError) = some true
  isBadPages_BadChain : PySem.W.kitOne K (.ref CBadPages) (.ref CBadChain) = some false
  isBadPages_BadPages : PySem.W.kitOne K (.ref CBadPages) (.ref CBadPages) = some true
  isBadPages_BadLimit : PySem.W.kitOne K (.ref CBadPages) (.ref CBadLimit) = some false
  isBadPages_BadRule : PySem.W.kitOne K (.ref CBadPages) (.ref CBadRule) = some false
  isBadPages_BadSize : PySem.W.kitOne K (.ref CBadPages) (.ref CBadSize) = some false
  isBadPages_BadState : PySem.W.kitOne K (.ref CBadPages) (.ref CBadState) = some false
  isBadPages_BadPlace : PySem.W.kitOne K (.ref CBadPages) (.ref CBadPlace) = some false
  isBadPages_BadAnswer : PySem.W.kitOne K (.ref CBadPages) (.ref CBadAnswer) = some false
  isBadPages_BadEvent : PySem.W.kitOne K (.ref CBadPages) (.ref CBadEvent) = some false
  isBadPages_OverLimit : PySem.W.kitOne K (.ref CBadPages) (.ref COverLimit) = some false
  isBadPages_NoRoom : PySem.W.kitOne K (.ref CBadPages) (.ref CNoRoom) = some false
  isBadPages_NoBlock : PySem.W.kitOne K (.ref CBadPages) (.ref CNoBlock) = some false
  isBadPages_TooMany : PySem.W.kitOne K (.ref CBadPages) (.ref CTooMany) = some false
  isBadPages_BadText : PySem.W.kitOne K (.ref CBadPages) (.ref CBadText) = some false
  isBadPages_BadLine : PySem.W.kitOne K (.ref CBadPages) (.ref CBadLine) = some false
  isBadPages_Safe : PySem.W.kitOne K (.ref CBadPages) (.ref CSafe) = some false
  isBadPages_Unsafe : PySem.W.kitOne K (.ref CBadPages) (.ref CUnsafe) = some false
  isBadPages_Finished : PySem.W.kitOne K (.ref CBadPages) (.ref CFinished) = some false
  isBadPages_NothingToUndo : PySem.W.kitOne K (.ref CBadPages) (.ref CNothingToUndo) = some false
  isBadPages_ValueError : PySem.W.kitOne K (.ref CBadPages) (.type "ValueError") = some true
  exBadPages : PySem.W.exmOne K (.ref CBadPages) (.ref CHeapError) = some true
  exBadPages_BadPages : PySem.W.exmOne K (.ref CBadPages) (.ref CBadPages) = some true
  oxBadLimit : OexC K CBadLimit
  ecBadLimit : ExcC K CBadLimit
  xfBadLimit : XfC K CBadLimit
  nfBadLimit_limit : PySem.W.findIn K (.ref CBadLimit) "limit" = some none
  isBadLimit_HeapError : PySem.W.kitOne K (.ref CBadLimit) (.ref CHeapError) = some true
  isBadLimit_BadChain : PySem.W.kitOne K (.ref CBadLimit) (.ref CBadChain) = some false
  isBadLimit_BadPages : PySem.W.kitOne K (.ref CBadLimit) (.ref CBadPages) = some false
  isBadLimit_BadLimit : PySem.W.kitOne K (.ref CBadLimit) (.ref CBadLimit) = some true
  isBadLimit_BadRule : PySem.W.kitOne K (.ref CBadLimit) (.ref CBadRule) = some false
  isBadLimit_BadSize : PySem.W.kitOne K (.ref CBadLimit) (.ref CBadSize) = some false
  isBadLimit_BadState : PySem.W.kitOne K (.ref CBadLimit) (.ref CBadState) = some false
  isBadLimit_BadPlace : PySem.W.kitOne K (.ref CBadLimit) (.ref CBadPlace) = some false
  isBadLimit_BadAnswer : PySem.W.kitOne K (.ref CBadLimit) (.ref CBadAnswer) = some false
  isBadLimit_BadEvent : PySem.W.kitOne K (.ref CBadLimit) (.ref CBadEvent) = some false
  isBadLimit_OverLimit : PySem.W.kitOne K (.ref CBadLimit) (.ref COverLimit) = some false
  isBadLimit_NoRoom : PySem.W.kitOne K (.ref CBadLimit) (.ref CNoRoom) = some false
  isBadLimit_NoBlock : PySem.W.kitOne K (.ref CBadLimit) (.ref CNoBlock) = some false
  isBadLimit_TooMany : PySem.W.kitOne K (.ref CBadLimit) (.ref CTooMany) = some false
  isBadLimit_BadText : PySem.W.kitOne K (.ref CBadLimit) (.ref CBadText) = some false
  isBadLimit_BadLine : PySem.W.kitOne K (.ref CBadLimit) (.ref CBadLine) = some false
  isBadLimit_Safe : PySem.W.kitOne K (.ref CBadLimit) (.ref CSafe) = some false
  isBadLimit_Unsafe : PySem.W.kitOne K (.ref CBadLimit) (.ref CUnsafe) = some false
  isBadLimit_Finished : PySem.W.kitOne K (.ref CBadLimit) (.ref CFinished) = some false
  isBadLimit_NothingToUndo : PySem.W.kitOne K (.ref CBadLimit) (.ref CNothingToUndo) = some false
  isBadLimit_ValueError : PySem.W.kitOne K (.ref CBadLimit) (.type "ValueError") = some true
  exBadLimit : PySem.W.exmOne K (.ref CBadLimit) (.ref CHeapError) = some true
  exBadLimit_BadLimit : PySem.W.exmOne K (.ref CBadLimit) (.ref CBadLimit) = some true
  oxBadRule : OexC K CBadRule
  ecBadRule : ExcC K CBadRule
  xfBadRule : XfC K CBadRule
  nfBadRule_rule : PySem.W.findIn K (.ref CBadRule) "rule" = some none
  isBadRule_HeapError : PySem.W.kitOne K (.ref CBadRule) (.ref CHeapError) = some true
  isBadRule_BadChain : PySem.W.kitOne K (.ref CBadRule) (.ref CBadChain) = some false
  isBadRule_BadPages : PySem.W.kitOne K (.ref CBadRule) (.ref CBadPages) = some false
  isBadRule_BadLimit : PySem.W.kitOne K (.ref CBadRule) (.ref CBadLimit) = some false
  isBadRule_BadRule : PySem.W.kitOne K (.ref CBadRule) (.ref CBadRule) = some true
  isBadRule_BadSize : PySem.W.kitOne K (.ref CBadRule) (.ref CBadSize) = some false
  isBadRule_BadState : PySem.W.kitOne K (.ref CBadRule) (.ref CBadState) = some false
  isBadRule_BadPlace : PySem.W.kitOne K (.ref CBadRule) (.ref CBadPlace) = some false
  isBadRule_BadAnswer : PySem.W.kitOne K (.ref CBadRule) (.ref CBadAnswer) = some false
  isBadRule_BadEvent : PySem.W.kitOne K (.ref CBadRule) (.ref CBadEvent) = some false
  isBadRule_OverLimit : PySem.W.kitOne K (.ref CBadRule) (.ref COverLimit) = some false
  isBadRule_NoRoom : PySem.W.kitOne K (.ref CBadRule) (.ref CNoRoom) = some false
  isBadRule_NoBlock : PySem.W.kitOne K (.ref CBadRule) (.ref CNoBlock) = some false
  isBadRule_TooMany : PySem.W.kitOne K (.ref CBadRule) (.ref CTooMany) = some false
  isBadRule_BadText : PySem.W.kitOne K (.ref CBadRule) (.ref CBadText) = some false
  isBadRule_BadLine : PySem.W.kitOne K (.ref CBadRule) (.ref CBadLine) = some false
  isBadRule_Safe : PySem.W.kitOne K (.ref CBadRule) (.ref CSafe) = some false
  isBadRule_Unsafe : PySem.W.kitOne K (.ref CBadRule) (.ref CUnsafe) = some false
  isBadRule_Finished : PySem.W.kitOne K (.ref CBadRule) (.ref CFinished) = some false
  isBadRule_NothingToUndo : PySem.W.kitOne K (.ref CBadRule) (.ref CNothingToUndo) = some false
  isBadRule_ValueError : PySem.W.kitOne K (.ref CBadRule) (.type "ValueError") = some true
  exBadRule : PySem.W.exmOne K (.ref CBadRule) (.ref CHeapError) = some true
  exBadRule_BadRule : PySem.W.exmOne K (.ref CBadRule) (.ref CBadRule) = some true
  oxBadSize : OexC K CBadSize
  ecBadSize : ExcC K CBadSize
  xfBadSize : XfC K CBadSize
  nfBadSize_size : PySem.W.findIn K (.ref CBadSize) "size" = some none
  isBadSize_HeapError : PySem.W.kitOne K (.ref CBadSize) (.ref CHeapError) = some true
  isBadSize_BadChain : PySem.W.kitOne K (.ref CBadSize) (.ref CBadChain) = some false
  isBadSize_BadPages : PySem.W.kitOne K (.ref CBadSize) (.ref CBadPages) = some false
  isBadSize_BadLimit : PySem.W.kitOne K (.ref CBadSize) (.ref CBadLimit) = some false
  isBadSize_BadRule : PySem.W.kitOne K (.ref CBadSize) (.ref CBadRule) = some false
  isBadSize_BadSize : PySem.W.kitOne K (.ref CBadSize) (.ref CBadSize) = some true
  isBadSize_BadState : PySem.W.kitOne K (.ref CBadSize) (.ref CBadState) = some false
  isBadSize_BadPlace : PySem.W.kitOne K (.ref CBadSize) (.ref CBadPlace) = some false
  isBadSize_BadAnswer : PySem.W.kitOne K (.ref CBadSize) (.ref CBadAnswer) = some false
  isBadSize_BadEvent : PySem.W.kitOne K (.ref CBadSize) (.ref CBadEvent) = some false
  isBadSize_OverLimit : PySem.W.kitOne K (.ref CBadSize) (.ref COverLimit) = some false
  isBadSize_NoRoom : PySem.W.kitOne K (.ref CBadSize) (.ref CNoRoom) = some false
  isBadSize_NoBlock : PySem.W.kitOne K (.ref CBadSize) (.ref CNoBlock) = some false
  isBadSize_TooMany : PySem.W.kitOne K (.ref CBadSize) (.ref CTooMany) = some false
  isBadSize_BadText : PySem.W.kitOne K (.ref CBadSize) (.ref CBadText) = some false
  isBadSize_BadLine : PySem.W.kitOne K (.ref CBadSize) (.ref CBadLine) = some false
  isBadSize_Safe : PySem.W.kitOne K (.ref CBadSize) (.ref CSafe) = some false
  isBadSize_Unsafe : PySem.W.kitOne K (.ref CBadSize) (.ref CUnsafe) = some false
  isBadSize_Finished : PySem.W.kitOne K (.ref CBadSize) (.ref CFinished) = some false
  isBadSize_NothingToUndo : PySem.W.kitOne K (.ref CBadSize) (.ref CNothingToUndo) = some false
  isBadSize_ValueError : PySem.W.kitOne K (.ref CBadSize) (.type "ValueError") = some true
  exBadSize : PySem.W.exmOne K (.ref CBadSize) (.ref CHeapError) = some true
  exBadSize_BadSize : PySem.W.exmOne K (.ref CBadSize) (.ref CBadSize) = some true
  oxBadState : OexC K CBadState
  ecBadState : ExcC K CBadState
  xfBadState : XfC K CBadState
  nfBadState_value : PySem.W.findIn K (.ref CBadState) "value" = some none
  isBadState_HeapError : PySem.W.kitOne K (.ref CBadState) (.ref CHeapError) = some true
  isBadState_BadChain : PySem.W.kitOne K (.ref CBadState) (.ref CBadChain) = some false
  isBadState_BadPages : PySem.W.kitOne K (.ref CBadState) (.ref CBadPages) = some false
  isBadState_BadLimit : PySem.W.kitOne K (.ref CBadState) (.ref CBadLimit) = some false
  isBadState_BadRule : PySem.W.kitOne K (.ref CBadState) (.ref CBadRule) = some false
  isBadState_BadSize : PySem.W.kitOne K (.ref CBadState) (.ref CBadSize) = some false
  isBadState_BadState : PySem.W.kitOne K (.ref CBadState) (.ref CBadState) = some true
  isBadState_BadPlace : PySem.W.kitOne K (.ref CBadState) (.ref CBadPlace) = some false
  isBadState_BadAnswer : PySem.W.kitOne K (.ref CBadState) (.ref CBadAnswer) = some false
  isBadState_BadEvent : PySem.W.kitOne K (.ref CBadState) (.ref CBadEvent) = some false
  isBadState_OverLimit : PySem.W.kitOne K (.ref CBadState) (.ref COverLimit) = some false
  isBadState_NoRoom : PySem.W.kitOne K (.ref CBadState) (.ref CNoRoom) = some false
  isBadState_NoBlock : PySem.W.kitOne K (.ref CBadState) (.ref CNoBlock) = some false
  isBadState_TooMany : PySem.W.kitOne K (.ref CBadState) (.ref CTooMany) = some false
  isBadState_BadText : PySem.W.kitOne K (.ref CBadState) (.ref CBadText) = some false
  isBadState_BadLine : PySem.W.kitOne K (.ref CBadState) (.ref CBadLine) = some false
  isBadState_Safe : PySem.W.kitOne K (.ref CBadState) (.ref CSafe) = some false
  isBadState_Unsafe : PySem.W.kitOne K (.ref CBadState) (.ref CUnsafe) = some false
  isBadState_Finished : PySem.W.kitOne K (.ref CBadState) (.ref CFinished) = some false
  isBadState_NothingToUndo : PySem.W.kitOne K (.ref CBadState) (.ref CNothingToUndo) = some false
  isBadState_ValueError : PySem.W.kitOne K (.ref CBadState) (.type "ValueError") = some true
  exBadState : PySem.W.exmOne K (.ref CBadState) (.ref CHeapError) = some true
  exBadState_BadState : PySem.W.exmOne K (.ref CBadState) (.ref CBadState) = some true
  oxBadPlace : OexC K CBadPlace
  ecBadPlace : ExcC K CBadPlace
  xfBadPlace : XfC K CBadPlace
  nfBadPlace_address : PySem.W.findIn K (.ref CBadPlace) "address" = some none
  isBadPlace_HeapError : PySem.W.kitOne K (.ref CBadPlace) (.ref CHeapError) = some true
  isBadPlace_BadChain : PySem.W.kitOne K (.ref CBadPlace) (.ref CBadChain) = some false
  isBadPlace_BadPages : PySem.W.kitOne K (.ref CBadPlace) (.ref CBadPages) = some false
  isBadPlace_BadLimit : PySem.W.kitOne K (.ref CBadPlace) (.ref CBadLimit) = some false
  isBadPlace_BadRule : PySem.W.kitOne K (.ref CBadPlace) (.ref CBadRule) = some false
  isBadPlace_BadSize : PySem.W.kitOne K (.ref CBadPlace) (.ref CBadSize) = some false
  isBadPlace_BadState : PySem.W.kitOne K (.ref CBadPlace) (.ref CBadState) = some false
  isBadPlace_BadPlace : PySem.W.kitOne K (.ref CBadPlace) (.ref CBadPlace) = some true
  isBadPlace_BadAnswer : PySem.W.kitOne K (.ref CBadPlace) (.ref CBadAnswer) = some false
  isBadPlace_BadEvent : PySem.W.kitOne K (.ref CBadPlace) (.ref CBadEvent) = some false
  isBadPlace_OverLimit : PySem.W.kitOne K (.ref CBadPlace) (.ref COverLimit) = some false
  isBadPlace_NoRoom : PySem.W.kitOne K (.ref CBadPlace) (.ref CNoRoom) = some false
  isBadPlace_NoBlock : PySem.W.kitOne K (.ref CBadPlace) (.ref CNoBlock) = some false
  isBadPlace_TooMany : PySem.W.kitOne K (.ref CBadPlace) (.ref CTooMany) = some false
  isBadPlace_BadText : PySem.W.kitOne K (.ref CBadPlace) (.ref CBadText) = some false
  isBadPlace_BadLine : PySem.W.kitOne K (.ref CBadPlace) (.ref CBadLine) = some false
  isBadPlace_Safe : PySem.W.kitOne K (.ref CBadPlace) (.ref CSafe) = some false
  isBadPlace_Unsafe : PySem.W.kitOne K (.ref CBadPlace) (.ref CUnsafe) = some false
  isBadPlace_Finished : PySem.W.kitOne K (.ref CBadPlace) (.ref CFinished) = some false
  isBadPlace_NothingToUndo : PySem.W.kitOne K (.ref CBadPlace) (.ref CNothingToUndo) = some false
  isBadPlace_ValueError : PySem.W.kitOne K (.ref CBadPlace) (.type "ValueError") = some true
  exBadPlace : PySem.W.exmOne K (.ref CBadPlace) (.ref CHeapError) = some true
  exBadPlace_BadPlace : PySem.W.exmOne K (.ref CBadPlace) (.ref CBadPlace) = some true
  oxBadAnswer : OexC K CBadAnswer
  ecBadAnswer : ExcC K CBadAnswer
  xfBadAnswer : XfC K CBadAnswer
  nfBadAnswer_value : PySem.W.findIn K (.ref CBadAnswer) "value" = some none
  isBadAnswer_HeapError : PySem.W.kitOne K (.ref CBadAnswer) (.ref CHeapError) = some true
  isBadAnswer_BadChain : PySem.W.kitOne K (.ref CBadAnswer) (.ref CBadChain) = some false
  isBadAnswer_BadPages : PySem.W.kitOne K (.ref CBadAnswer) (.ref CBadPages) = some false
  isBadAnswer_BadLimit : PySem.W.kitOne K (.ref CBadAnswer) (.ref CBadLimit) = some false
  isBadAnswer_BadRule : PySem.W.kitOne K (.ref CBadAnswer) (.ref CBadRule) = some false
  isBadAnswer_BadSize : PySem.W.kitOne K (.ref CBadAnswer) (.ref CBadSize) = some false
  isBadAnswer_BadState : PySem.W.kitOne K (.ref CBadAnswer) (.ref CBadState) = some false
  isBadAnswer_BadPlace : PySem.W.kitOne K (.ref CBadAnswer) (.ref CBadPlace) = some false
  isBadAnswer_BadAnswer : PySem.W.kitOne K (.ref CBadAnswer) (.ref CBadAnswer) = some true
  isBadAnswer_BadEvent : PySem.W.kitOne K (.ref CBadAnswer) (.ref CBadEvent) = some false
  isBadAnswer_OverLimit : PySem.W.kitOne K (.ref CBadAnswer) (.ref COverLimit) = some false
  isBadAnswer_NoRoom : PySem.W.kitOne K (.ref CBadAnswer) (.ref CNoRoom) = some false
  isBadAnswer_NoBlock : PySem.W.kitOne K (.ref CBadAnswer) (.ref CNoBlock) = some false
  isBadAnswer_TooMany : PySem.W.kitOne K (.ref CBadAnswer) (.ref CTooMany) = some false
  isBadAnswer_BadText : PySem.W.kitOne K (.ref CBadAnswer) (.ref CBadText) = some false
  isBadAnswer_BadLine : PySem.W.kitOne K (.ref CBadAnswer) (.ref CBadLine) = some false
  isBadAnswer_Safe : PySem.W.kitOne K (.ref CBadAnswer) (.ref CSafe) = some false
  isBadAnswer_Unsafe : PySem.W.kitOne K (.ref CBadAnswer) (.ref CUnsafe) = some false
  isBadAnswer_Finished : PySem.W.kitOne K (.ref CBadAnswer) (.ref CFinished) = some false
  isBadAnswer_NothingToUndo : PySem.W.kitOne K (.ref CBadAnswer) (.ref CNothingToUndo) = some false
  isBadAnswer_ValueError : PySem.W.kitOne K (.ref CBadAnswer) (.type "ValueError") = some true
  exBadAnswer : PySem.W.exmOne K (.ref CBadAnswer) (.ref CHeapError) = some true
  exBadAnswer_BadAnswer : PySem.W.exmOne K (.ref CBadAnswer) (.ref CBadAnswer) = some true
  oxBadEvent : OexC K CBadEvent
  ecBadEvent : ExcC K CBadEvent
  xfBadEvent : XfC K CBadEvent
  nfBadEvent_number : PySem.W.findIn K (.ref CBadEvent) "number" = some none
  isBadEvent_HeapError : PySem.W.kitOne K (.ref CBadEvent) (.ref CHeapError) = some true
  isBadEvent_BadChain : PySem.W.kitOne K (.ref CBadEvent) (.ref CBadChain) = some false
  isBadEvent_BadPages : PySem.W.kitOne K (.ref CBadEvent) (.ref CBadPages) = some false
  isBadEvent_BadLimit : PySem.W.kitOne K (.ref CBadEvent) (.ref CBadLimit) = some false
  isBadEvent_BadRule : PySem.W.kitOne K (.ref CBadEvent) (.ref CBadRule) = some false
  isBadEvent_BadSize : PySem.W.kitOne K (.ref CBadEvent) (.ref CBadSize) = some false
  isBadEvent_BadState : PySem.W.kitOne K (.ref CBadEvent) (.ref CBadState) = some false
  isBadEvent_BadPlace : PySem.W.kitOne K (.ref CBadEvent) (.ref CBadPlace) = some false
  isBadEvent_BadAnswer : PySem.W.kitOne K (.ref CBadEvent) (.ref CBadAnswer) = some false
  isBadEvent_BadEvent : PySem.W.kitOne K (.ref CBadEvent) (.ref CBadEvent) = some true
  isBadEvent_OverLimit : PySem.W.kitOne K (.ref CBadEvent) (.ref COverLimit) = some false
  isBadEvent_NoRoom : PySem.W.kitOne K (.ref CBadEvent) (.ref CNoRoom) = some false
  isBadEvent_NoBlock : PySem.W.kitOne K (.ref CBadEvent) (.ref CNoBlock) = some false
  isBadEvent_TooMany : PySem.W.kitOne K (.ref CBadEvent) (.ref CTooMany) = some false
  isBadEvent_BadText : PySem.W.kitOne K (.ref CBadEvent) (.ref CBadText) = some false
  isBadEvent_BadLine : PySem.W.kitOne K (.ref CBadEvent) (.ref CBadLine) = some false
  isBadEvent_Safe : PySem.W.kitOne K (.ref CBadEvent) (.ref CSafe) = some false
  isBadEvent_Unsafe : PySem.W.kitOne K (.ref CBadEvent) (.ref CUnsafe) = some false
  isBadEvent_Finished : PySem.W.kitOne K (.ref CBadEvent) (.ref CFinished) = some false
  isBadEvent_NothingToUndo : PySem.W.kitOne K (.ref CBadEvent) (.ref CNothingToUndo) = some false
  isBadEvent_ValueError : PySem.W.kitOne K (.ref CBadEvent) (.type "ValueError") = some true
  exBadEvent : PySem.W.exmOne K (.ref CBadEvent) (.ref CHeapError) = some true
  exBadEvent_BadEvent : PySem.W.exmOne K (.ref CBadEvent) (.ref CBadEvent) = some true
  oxOverLimit : OexC K COverLimit
  ecOverLimit : ExcC K COverLimit
  xfOverLimit : XfC K COverLimit
  nfOverLimit_size : PySem.W.findIn K (.ref COverLimit) "size" = some none
  isOverLimit_HeapError : PySem.W.kitOne K (.ref COverLimit) (.ref CHeapError) = some true
  isOverLimit_BadChain : PySem.W.kitOne K (.ref COverLimit) (.ref CBadChain) = some false
  isOverLimit_BadPages : PySem.W.kitOne K (.ref COverLimit) (.ref CBadPages) = some false
  isOverLimit_BadLimit : PySem.W.kitOne K (.ref COverLimit) (.ref CBadLimit) = some false
  isOverLimit_BadRule : PySem.W.kitOne K (.ref COverLimit) (.ref CBadRule) = some false
  isOverLimit_BadSize : PySem.W.kitOne K (.ref COverLimit) (.ref CBadSize) = some false
  isOverLimit_BadState : PySem.W.kitOne K (.ref COverLimit) (.ref CBadState) = some false
  isOverLimit_BadPlace : PySem.W.kitOne K (.ref COverLimit) (.ref CBadPlace) = some false
  isOverLimit_BadAnswer : PySem.W.kitOne K (.ref COverLimit) (.ref CBadAnswer) = some false
  isOverLimit_BadEvent : PySem.W.kitOne K (.ref COverLimit) (.ref CBadEvent) = some false
  isOverLimit_OverLimit : PySem.W.kitOne K (.ref COverLimit) (.ref COverLimit) = some true
  isOverLimit_NoRoom : PySem.W.kitOne K (.ref COverLimit) (.ref CNoRoom) = some false
  isOverLimit_NoBlock : PySem.W.kitOne K (.ref COverLimit) (.ref CNoBlock) = some false
  isOverLimit_TooMany : PySem.W.kitOne K (.ref COverLimit) (.ref CTooMany) = some false
  isOverLimit_BadText : PySem.W.kitOne K (.ref COverLimit) (.ref CBadText) = some false
  isOverLimit_BadLine : PySem.W.kitOne K (.ref COverLimit) (.ref CBadLine) = some false
  isOverLimit_Safe : PySem.W.kitOne K (.ref COverLimit) (.ref CSafe) = some false
  isOverLimit_Unsafe : PySem.W.kitOne K (.ref COverLimit) (.ref CUnsafe) = some false
  isOverLimit_Finished : PySem.W.kitOne K (.ref COverLimit) (.ref CFinished) = some false
  isOverLimit_NothingToUndo : PySem.W.kitOne K (.ref COverLimit) (.ref CNothingToUndo) = some false
  isOverLimit_ValueError : PySem.W.kitOne K (.ref COverLimit) (.type "ValueError") = some true
  exOverLimit : PySem.W.exmOne K (.ref COverLimit) (.ref CHeapError) = some true
  exOverLimit_OverLimit : PySem.W.exmOne K (.ref COverLimit) (.ref COverLimit) = some true
  oxNoRoom : OexC K CNoRoom
  ecNoRoom : ExcC K CNoRoom
  xfNoRoom : XfC K CNoRoom
  nfNoRoom_size : PySem.W.findIn K (.ref CNoRoom) "size" = some none
  isNoRoom_HeapError : PySem.W.kitOne K (.ref CNoRoom) (.ref CHeapError) = some true
  isNoRoom_BadChain : PySem.W.kitOne K (.ref CNoRoom) (.ref CBadChain) = some false
  isNoRoom_BadPages : PySem.W.kitOne K (.ref CNoRoom) (.ref CBadPages) = some false
  isNoRoom_BadLimit : PySem.W.kitOne K (.ref CNoRoom) (.ref CBadLimit) = some false
  isNoRoom_BadRule : PySem.W.kitOne K (.ref CNoRoom) (.ref CBadRule) = some false
  isNoRoom_BadSize : PySem.W.kitOne K (.ref CNoRoom) (.ref CBadSize) = some false
  isNoRoom_BadState : PySem.W.kitOne K (.ref CNoRoom) (.ref CBadState) = some false
  isNoRoom_BadPlace : PySem.W.kitOne K (.ref CNoRoom) (.ref CBadPlace) = some false
  isNoRoom_BadAnswer : PySem.W.kitOne K (.ref CNoRoom) (.ref CBadAnswer) = some false
  isNoRoom_BadEvent : PySem.W.kitOne K (.ref CNoRoom) (.ref CBadEvent) = some false
  isNoRoom_OverLimit : PySem.W.kitOne K (.ref CNoRoom) (.ref COverLimit) = some false
  isNoRoom_NoRoom : PySem.W.kitOne K (.ref CNoRoom) (.ref CNoRoom) = some true
  isNoRoom_NoBlock : PySem.W.kitOne K (.ref CNoRoom) (.ref CNoBlock) = some false
  isNoRoom_TooMany : PySem.W.kitOne K (.ref CNoRoom) (.ref CTooMany) = some false
  isNoRoom_BadText : PySem.W.kitOne K (.ref CNoRoom) (.ref CBadText) = some false
  isNoRoom_BadLine : PySem.W.kitOne K (.ref CNoRoom) (.ref CBadLine) = some false
  isNoRoom_Safe : PySem.W.kitOne K (.ref CNoRoom) (.ref CSafe) = some false
  isNoRoom_Unsafe : PySem.W.kitOne K (.ref CNoRoom) (.ref CUnsafe) = some false
  isNoRoom_Finished : PySem.W.kitOne K (.ref CNoRoom) (.ref CFinished) = some false
  isNoRoom_NothingToUndo : PySem.W.kitOne K (.ref CNoRoom) (.ref CNothingToUndo) = some false
  isNoRoom_ValueError : PySem.W.kitOne K (.ref CNoRoom) (.type "ValueError") = some true
  exNoRoom : PySem.W.exmOne K (.ref CNoRoom) (.ref CHeapError) = some true
  exNoRoom_NoRoom : PySem.W.exmOne K (.ref CNoRoom) (.ref CNoRoom) = some true
  oxNoBlock : OexC K CNoBlock
  ecNoBlock : ExcC K CNoBlock
  xfNoBlock : XfC K CNoBlock
  nfNoBlock_address : PySem.W.findIn K (.ref CNoBlock) "address" = some none
  isNoBlock_HeapError : PySem.W.kitOne K (.ref CNoBlock) (.ref CHeapError) = some true
  isNoBlock_BadChain : PySem.W.kitOne K (.ref CNoBlock) (.ref CBadChain) = some false
  isNoBlock_BadPages : PySem.W.kitOne K (.ref CNoBlock) (.ref CBadPages) = some false
  isNoBlock_BadLimit : PySem.W.kitOne K (.ref CNoBlock) (.ref CBadLimit) = some false
  isNoBlock_BadRule : PySem.W.kitOne K (.ref CNoBlock) (.ref CBadRule) = some false
  isNoBlock_BadSize : PySem.W.kitOne K (.ref CNoBlock) (.ref CBadSize) = some false
  isNoBlock_BadState : PySem.W.kitOne K (.ref CNoBlock) (.ref CBadState) = some false
  isNoBlock_BadPlace : PySem.W.kitOne K (.ref CNoBlock) (.ref CBadPlace) = some false
  isNoBlock_BadAnswer : PySem.W.kitOne K (.ref CNoBlock) (.ref CBadAnswer) = some false
  isNoBlock_BadEvent : PySem.W.kitOne K (.ref CNoBlock) (.ref CBadEvent) = some false
  isNoBlock_OverLimit : PySem.W.kitOne K (.ref CNoBlock) (.ref COverLimit) = some false
  isNoBlock_NoRoom : PySem.W.kitOne K (.ref CNoBlock) (.ref CNoRoom) = some false
  isNoBlock_NoBlock : PySem.W.kitOne K (.ref CNoBlock) (.ref CNoBlock) = some true
  isNoBlock_TooMany : PySem.W.kitOne K (.ref CNoBlock) (.ref CTooMany) = some false
  isNoBlock_BadText : PySem.W.kitOne K (.ref CNoBlock) (.ref CBadText) = some false
  isNoBlock_BadLine : PySem.W.kitOne K (.ref CNoBlock) (.ref CBadLine) = some false
  isNoBlock_Safe : PySem.W.kitOne K (.ref CNoBlock) (.ref CSafe) = some false
  isNoBlock_Unsafe : PySem.W.kitOne K (.ref CNoBlock) (.ref CUnsafe) = some false
  isNoBlock_Finished : PySem.W.kitOne K (.ref CNoBlock) (.ref CFinished) = some false
  isNoBlock_NothingToUndo : PySem.W.kitOne K (.ref CNoBlock) (.ref CNothingToUndo) = some false
  isNoBlock_ValueError : PySem.W.kitOne K (.ref CNoBlock) (.type "ValueError") = some true
  exNoBlock : PySem.W.exmOne K (.ref CNoBlock) (.ref CHeapError) = some true
  exNoBlock_NoBlock : PySem.W.exmOne K (.ref CNoBlock) (.ref CNoBlock) = some true
  oxTooMany : OexC K CTooMany
  ecTooMany : ExcC K CTooMany
  xfTooMany : XfC K CTooMany
  nfTooMany_limit : PySem.W.findIn K (.ref CTooMany) "limit" = some none
  isTooMany_HeapError : PySem.W.kitOne K (.ref CTooMany) (.ref CHeapError) = some true
  isTooMany_BadChain : PySem.W.kitOne K (.ref CTooMany) (.ref CBadChain) = some false
  isTooMany_BadPages : PySem.W.kitOne K (.ref CTooMany) (.ref CBadPages) = some false
  isTooMany_BadLimit : PySem.W.kitOne K (.ref CTooMany) (.ref CBadLimit) = some false
  isTooMany_BadRule : PySem.W.kitOne K (.ref CTooMany) (.ref CBadRule) = some false
  isTooMany_BadSize : PySem.W.kitOne K (.ref CTooMany) (.ref CBadSize) = some false
  isTooMany_BadState : PySem.W.kitOne K (.ref CTooMany) (.ref CBadState) = some false
  isTooMany_BadPlace : PySem.W.kitOne K (.ref CTooMany) (.ref CBadPlace) = some false
  isTooMany_BadAnswer : PySem.W.kitOne K (.ref CTooMany) (.ref CBadAnswer) = some false
  isTooMany_BadEvent : PySem.W.kitOne K (.ref CTooMany) (.ref CBadEvent) = some false
  isTooMany_OverLimit : PySem.W.kitOne K (.ref CTooMany) (.ref COverLimit) = some false
  isTooMany_NoRoom : PySem.W.kitOne K (.ref CTooMany) (.ref CNoRoom) = some false
  isTooMany_NoBlock : PySem.W.kitOne K (.ref CTooMany) (.ref CNoBlock) = some false
  isTooMany_TooMany : PySem.W.kitOne K (.ref CTooMany) (.ref CTooMany) = some true
  isTooMany_BadText : PySem.W.kitOne K (.ref CTooMany) (.ref CBadText) = some false
  isTooMany_BadLine : PySem.W.kitOne K (.ref CTooMany) (.ref CBadLine) = some false
  isTooMany_Safe : PySem.W.kitOne K (.ref CTooMany) (.ref CSafe) = some false
  isTooMany_Unsafe : PySem.W.kitOne K (.ref CTooMany) (.ref CUnsafe) = some false
  isTooMany_Finished : PySem.W.kitOne K (.ref CTooMany) (.ref CFinished) = some false
  isTooMany_NothingToUndo : PySem.W.kitOne K (.ref CTooMany) (.ref CNothingToUndo) = some false
  isTooMany_ValueError : PySem.W.kitOne K (.ref CTooMany) (.type "ValueError") = some true
  exTooMany : PySem.W.exmOne K (.ref CTooMany) (.ref CHeapError) = some true
  exTooMany_TooMany : PySem.W.exmOne K (.ref CTooMany) (.ref CTooMany) = some true
  oxBadText : OexC K CBadText
  ecBadText : ExcC K CBadText
  xfBadText : XfC K CBadText
  nfBadText_row : PySem.W.findIn K (.ref CBadText) "row" = some none
  isBadText_HeapError : PySem.W.kitOne K (.ref CBadText) (.ref CHeapError) = some true
  isBadText_BadChain : PySem.W.kitOne K (.ref CBadText) (.ref CBadChain) = some false
  isBadText_BadPages : PySem.W.kitOne K (.ref CBadText) (.ref CBadPages) = some false
  isBadText_BadLimit : PySem.W.kitOne K (.ref CBadText) (.ref CBadLimit) = some false
  isBadText_BadRule : PySem.W.kitOne K (.ref CBadText) (.ref CBadRule) = some false
  isBadText_BadSize : PySem.W.kitOne K (.ref CBadText) (.ref CBadSize) = some false
  isBadText_BadState : PySem.W.kitOne K (.ref CBadText) (.ref CBadState) = some false
  isBadText_BadPlace : PySem.W.kitOne K (.ref CBadText) (.ref CBadPlace) = some false
  isBadText_BadAnswer : PySem.W.kitOne K (.ref CBadText) (.ref CBadAnswer) = some false
  isBadText_BadEvent : PySem.W.kitOne K (.ref CBadText) (.ref CBadEvent) = some false
  isBadText_OverLimit : PySem.W.kitOne K (.ref CBadText) (.ref COverLimit) = some false
  isBadText_NoRoom : PySem.W.kitOne K (.ref CBadText) (.ref CNoRoom) = some false
  isBadText_NoBlock : PySem.W.kitOne K (.ref CBadText) (.ref CNoBlock) = some false
  isBadText_TooMany : PySem.W.kitOne K (.ref CBadText) (.ref CTooMany) = some false
  isBadText_BadText : PySem.W.kitOne K (.ref CBadText) (.ref CBadText) = some true
  isBadText_BadLine : PySem.W.kitOne K (.ref CBadText) (.ref CBadLine) = some false
  isBadText_Safe : PySem.W.kitOne K (.ref CBadText) (.ref CSafe) = some false
  isBadText_Unsafe : PySem.W.kitOne K (.ref CBadText) (.ref CUnsafe) = some false
  isBadText_Finished : PySem.W.kitOne K (.ref CBadText) (.ref CFinished) = some false
  isBadText_NothingToUndo : PySem.W.kitOne K (.ref CBadText) (.ref CNothingToUndo) = some false
  isBadText_ValueError : PySem.W.kitOne K (.ref CBadText) (.type "ValueError") = some true
  exBadText : PySem.W.exmOne K (.ref CBadText) (.ref CHeapError) = some true
  exBadText_BadText : PySem.W.exmOne K (.ref CBadText) (.ref CBadText) = some true
  oxBadLine : OexC K CBadLine
  ecBadLine : ExcC K CBadLine
  xfBadLine : XfC K CBadLine
  nfBadLine_line : PySem.W.findIn K (.ref CBadLine) "line" = some none
  isBadLine_HeapError : PySem.W.kitOne K (.ref CBadLine) (.ref CHeapError) = some true
  isBadLine_BadChain : PySem.W.kitOne K (.ref CBadLine) (.ref CBadChain) = some false
  isBadLine_BadPages : PySem.W.kitOne K (.ref CBadLine) (.ref CBadPages) = some false
  isBadLine_BadLimit : PySem.W.kitOne K (.ref CBadLine) (.ref CBadLimit) = some false
  isBadLine_BadRule : PySem.W.kitOne K (.ref CBadLine) (.ref CBadRule) = some false
  isBadLine_BadSize : PySem.W.kitOne K (.ref CBadLine) (.ref CBadSize) = some false
  isBadLine_BadState : PySem.W.kitOne K (.ref CBadLine) (.ref CBadState) = some false
  isBadLine_BadPlace : PySem.W.kitOne K (.ref CBadLine) (.ref CBadPlace) = some false
  isBadLine_BadAnswer : PySem.W.kitOne K (.ref CBadLine) (.ref CBadAnswer) = some false
  isBadLine_BadEvent : PySem.W.kitOne K (.ref CBadLine) (.ref CBadEvent) = some false
  isBadLine_OverLimit : PySem.W.kitOne K (.ref CBadLine) (.ref COverLimit) = some false
  isBadLine_NoRoom : PySem.W.kitOne K (.ref CBadLine) (.ref CNoRoom) = some false
  isBadLine_NoBlock : PySem.W.kitOne K (.ref CBadLine) (.ref CNoBlock) = some false
  isBadLine_TooMany : PySem.W.kitOne K (.ref CBadLine) (.ref CTooMany) = some false
  isBadLine_BadText : PySem.W.kitOne K (.ref CBadLine) (.ref CBadText) = some false
  isBadLine_BadLine : PySem.W.kitOne K (.ref CBadLine) (.ref CBadLine) = some true
  isBadLine_Safe : PySem.W.kitOne K (.ref CBadLine) (.ref CSafe) = some false
  isBadLine_Unsafe : PySem.W.kitOne K (.ref CBadLine) (.ref CUnsafe) = some false
  isBadLine_Finished : PySem.W.kitOne K (.ref CBadLine) (.ref CFinished) = some false
  isBadLine_NothingToUndo : PySem.W.kitOne K (.ref CBadLine) (.ref CNothingToUndo) = some false
  isBadLine_ValueError : PySem.W.kitOne K (.ref CBadLine) (.type "ValueError") = some true
  exBadLine : PySem.W.exmOne K (.ref CBadLine) (.ref CHeapError) = some true
  exBadLine_BadLine : PySem.W.exmOne K (.ref CBadLine) (.ref CBadLine) = some true
  oxSafe : OexC K CSafe
  ecSafe : ExcC K CSafe
  xfSafe : XfC K CSafe
  isSafe_HeapError : PySem.W.kitOne K (.ref CSafe) (.ref CHeapError) = some true
  isSafe_BadChain : PySem.W.kitOne K (.ref CSafe) (.ref CBadChain) = some false
  isSafe_BadPages : PySem.W.kitOne K (.ref CSafe) (.ref CBadPages) = some false
  isSafe_BadLimit : PySem.W.kitOne K (.ref CSafe) (.ref CBadLimit) = some false
  isSafe_BadRule : PySem.W.kitOne K (.ref CSafe) (.ref CBadRule) = some false
  isSafe_BadSize : PySem.W.kitOne K (.ref CSafe) (.ref CBadSize) = some false
  isSafe_BadState : PySem.W.kitOne K (.ref CSafe) (.ref CBadState) = some false
  isSafe_BadPlace : PySem.W.kitOne K (.ref CSafe) (.ref CBadPlace) = some false
  isSafe_BadAnswer : PySem.W.kitOne K (.ref CSafe) (.ref CBadAnswer) = some false
  isSafe_BadEvent : PySem.W.kitOne K (.ref CSafe) (.ref CBadEvent) = some false
  isSafe_OverLimit : PySem.W.kitOne K (.ref CSafe) (.ref COverLimit) = some false
  isSafe_NoRoom : PySem.W.kitOne K (.ref CSafe) (.ref CNoRoom) = some false
  isSafe_NoBlock : PySem.W.kitOne K (.ref CSafe) (.ref CNoBlock) = some false
  isSafe_TooMany : PySem.W.kitOne K (.ref CSafe) (.ref CTooMany) = some false
  isSafe_BadText : PySem.W.kitOne K (.ref CSafe) (.ref CBadText) = some false
  isSafe_BadLine : PySem.W.kitOne K (.ref CSafe) (.ref CBadLine) = some false
  isSafe_Safe : PySem.W.kitOne K (.ref CSafe) (.ref CSafe) = some true
  isSafe_Unsafe : PySem.W.kitOne K (.ref CSafe) (.ref CUnsafe) = some false
  isSafe_Finished : PySem.W.kitOne K (.ref CSafe) (.ref CFinished) = some false
  isSafe_NothingToUndo : PySem.W.kitOne K (.ref CSafe) (.ref CNothingToUndo) = some false
  isSafe_ValueError : PySem.W.kitOne K (.ref CSafe) (.type "ValueError") = some true
  exSafe : PySem.W.exmOne K (.ref CSafe) (.ref CHeapError) = some true
  exSafe_Safe : PySem.W.exmOne K (.ref CSafe) (.ref CSafe) = some true
  oxUnsafe : OexC K CUnsafe
  ecUnsafe : ExcC K CUnsafe
  xfUnsafe : XfC K CUnsafe
  isUnsafe_HeapError : PySem.W.kitOne K (.ref CUnsafe) (.ref CHeapError) = some true
  isUnsafe_BadChain : PySem.W.kitOne K (.ref CUnsafe) (.ref CBadChain) = some false
  isUnsafe_BadPages : PySem.W.kitOne K (.ref CUnsafe) (.ref CBadPages) = some false
  isUnsafe_BadLimit : PySem.W.kitOne K (.ref CUnsafe) (.ref CBadLimit) = some false
  isUnsafe_BadRule : PySem.W.kitOne K (.ref CUnsafe) (.ref CBadRule) = some false
  isUnsafe_BadSize : PySem.W.kitOne K (.ref CUnsafe) (.ref CBadSize) = some false
  isUnsafe_BadState : PySem.W.kitOne K (.ref CUnsafe) (.ref CBadState) = some false
  isUnsafe_BadPlace : PySem.W.kitOne K (.ref CUnsafe) (.ref CBadPlace) = some false
  isUnsafe_BadAnswer : PySem.W.kitOne K (.ref CUnsafe) (.ref CBadAnswer) = some false
  isUnsafe_BadEvent : PySem.W.kitOne K (.ref CUnsafe) (.ref CBadEvent) = some false
  isUnsafe_OverLimit : PySem.W.kitOne K (.ref CUnsafe) (.ref COverLimit) = some false
  isUnsafe_NoRoom : PySem.W.kitOne K (.ref CUnsafe) (.ref CNoRoom) = some false
  isUnsafe_NoBlock : PySem.W.kitOne K (.ref CUnsafe) (.ref CNoBlock) = some false
  isUnsafe_TooMany : PySem.W.kitOne K (.ref CUnsafe) (.ref CTooMany) = some false
  isUnsafe_BadText : PySem.W.kitOne K (.ref CUnsafe) (.ref CBadText) = some false
  isUnsafe_BadLine : PySem.W.kitOne K (.ref CUnsafe) (.ref CBadLine) = some false
  isUnsafe_Safe : PySem.W.kitOne K (.ref CUnsafe) (.ref CSafe) = some false
  isUnsafe_Unsafe : PySem.W.kitOne K (.ref CUnsafe) (.ref CUnsafe) = some true
  isUnsafe_Finished : PySem.W.kitOne K (.ref CUnsafe) (.ref CFinished) = some false
  isUnsafe_NothingToUndo : PySem.W.kitOne K (.ref CUnsafe) (.ref CNothingToUndo) = some false
  isUnsafe_ValueError : PySem.W.kitOne K (.ref CUnsafe) (.type "ValueError") = some true
  exUnsafe : PySem.W.exmOne K (.ref CUnsafe) (.ref CHeapError) = some true
  exUnsafe_Unsafe : PySem.W.exmOne K (.ref CUnsafe) (.ref CUnsafe) = some true
  oxFinished : OexC K CFinished
  ecFinished : ExcC K CFinished
  xfFinished : XfC K CFinished
  isFinished_HeapError : PySem.W.kitOne K (.ref CFinished) (.ref CHeapError) = some true
  isFinished_BadChain : PySem.W.kitOne K (.ref CFinished) (.ref CBadChain) = some false
  isFinished_BadPages : PySem.W.kitOne K (.ref CFinished) (.ref CBadPages) = some false
  isFinished_BadLimit : PySem.W.kitOne K (.ref CFinished) (.ref CBadLimit) = some false
  isFinished_BadRule : PySem.W.kitOne K (.ref CFinished) (.ref CBadRule) = some false
  isFinished_BadSize : PySem.W.kitOne K (.ref CFinished) (.ref CBadSize) = some false
  isFinished_BadState : PySem.W.kitOne K (.ref CFinished) (.ref CBadState) = some false
  isFinished_BadPlace : PySem.W.kitOne K (.ref CFinished) (.ref CBadPlace) = some false
  isFinished_BadAnswer : PySem.W.kitOne K (.ref CFinished) (.ref CBadAnswer) = some false
  isFinished_BadEvent : PySem.W.kitOne K (.ref CFinished) (.ref CBadEvent) = some false
  isFinished_OverLimit : PySem.W.kitOne K (.ref CFinished) (.ref COverLimit) = some false
  isFinished_NoRoom : PySem.W.kitOne K (.ref CFinished) (.ref CNoRoom) = some false
  isFinished_NoBlock : PySem.W.kitOne K (.ref CFinished) (.ref CNoBlock) = some false
  isFinished_TooMany : PySem.W.kitOne K (.ref CFinished) (.ref CTooMany) = some false
  isFinished_BadText : PySem.W.kitOne K (.ref CFinished) (.ref CBadText) = some false
  isFinished_BadLine : PySem.W.kitOne K (.ref CFinished) (.ref CBadLine) = some false
  isFinished_Safe : PySem.W.kitOne K (.ref CFinished) (.ref CSafe) = some false
  isFinished_Unsafe : PySem.W.kitOne K (.ref CFinished) (.ref CUnsafe) = some false
  isFinished_Finished : PySem.W.kitOne K (.ref CFinished) (.ref CFinished) = some true
  isFinished_NothingToUndo : PySem.W.kitOne K (.ref CFinished) (.ref CNothingToUndo) = some false
  isFinished_ValueError : PySem.W.kitOne K (.ref CFinished) (.type "ValueError") = some true
  exFinished : PySem.W.exmOne K (.ref CFinished) (.ref CHeapError) = some true
  exFinished_Finished : PySem.W.exmOne K (.ref CFinished) (.ref CFinished) = some true
  oxNothingToUndo : OexC K CNothingToUndo
  ecNothingToUndo : ExcC K CNothingToUndo
  xfNothingToUndo : XfC K CNothingToUndo
  isNothingToUndo_HeapError : PySem.W.kitOne K (.ref CNothingToUndo) (.ref CHeapError) = some true
  isNothingToUndo_BadChain : PySem.W.kitOne K (.ref CNothingToUndo) (.ref CBadChain) = some false
  isNothingToUndo_BadPages : PySem.W.kitOne K (.ref CNothingToUndo) (.ref CBadPages) = some false
  isNothingToUndo_BadLimit : PySem.W.kitOne K (.ref CNothingToUndo) (.ref CBadLimit) = some false
  isNothingToUndo_BadRule : PySem.W.kitOne K (.ref CNothingToUndo) (.ref CBadRule) = some false
  isNothingToUndo_BadSize : PySem.W.kitOne K (.ref CNothingToUndo) (.ref CBadSize) = some false
  isNothingToUndo_BadState : PySem.W.kitOne K (.ref CNothingToUndo) (.ref CBadState) = some false
  isNothingToUndo_BadPlace : PySem.W.kitOne K (.ref CNothingToUndo) (.ref CBadPlace) = some false
  isNothingToUndo_BadAnswer : PySem.W.kitOne K (.ref CNothingToUndo) (.ref CBadAnswer) = some false
  isNothingToUndo_BadEvent : PySem.W.kitOne K (.ref CNothingToUndo) (.ref CBadEvent) = some false
  isNothingToUndo_OverLimit : PySem.W.kitOne K (.ref CNothingToUndo) (.ref COverLimit) = some false
  isNothingToUndo_NoRoom : PySem.W.kitOne K (.ref CNothingToUndo) (.ref CNoRoom) = some false
  isNothingToUndo_NoBlock : PySem.W.kitOne K (.ref CNothingToUndo) (.ref CNoBlock) = some false
  isNothingToUndo_TooMany : PySem.W.kitOne K (.ref CNothingToUndo) (.ref CTooMany) = some false
  isNothingToUndo_BadText : PySem.W.kitOne K (.ref CNothingToUndo) (.ref CBadText) = some false
  isNothingToUndo_BadLine : PySem.W.kitOne K (.ref CNothingToUndo) (.ref CBadLine) = some false
  isNothingToUndo_Safe : PySem.W.kitOne K (.ref CNothingToUndo) (.ref CSafe) = some false
  isNothingToUndo_Unsafe : PySem.W.kitOne K (.ref CNothingToUndo) (.ref CUnsafe) = some false
  isNothingToUndo_Finished : PySem.W.kitOne K (.ref CNothingToUndo) (.ref CFinished) = some false
  isNothingToUndo_NothingToUndo : PySem.W.kitOne K (.ref CNothingToUndo) (.ref CNothingToUndo) = some true
  isNothingToUndo_ValueError : PySem.W.kitOne K (.ref CNothingToUndo) (.type "ValueError") = some true
  exNothingToUndo : PySem.W.exmOne K (.ref CNothingToUndo) (.ref CHeapError) = some true
  exNothingToUndo_NothingToUndo : PySem.W.exmOne K (.ref CNothingToUndo) (.ref CNothingToUndo) = some true
  fXa : Addr
  fdXa : FuncData
  FXa : Fun K "__init__" "BadChain.__init__" (inClass (topS 2) 0) fXa fdXa
  bXa : Binds K fdXa ["self", "chain"] []
  iXa : PySem.W.findIn K (.ref CBadChain) "__init__" = some (some (.ref fXa))
  tXa : PySem.W.typeIn K (.ref fXa) = some (.type "function")
  fXb : Addr
  fdXb : FuncData
  FXb : Fun K "__init__" "BadPages.__init__" (inClass (topS 3) 0) fXb fdXb
  bXb : Binds K fdXb ["self", "pages"] []
  iXb : PySem.W.findIn K (.ref CBadPages) "__init__" = some (some (.ref fXb))
  tXb : PySem.W.typeIn K (.ref fXb) = some (.type "function")
  fXc : Addr
  fdXc : FuncData
  FXc : Fun K "__init__" "BadLimit.__init__" (inClass (topS 4) 0) fXc fdXc
  bXc : Binds K fdXc ["self", "limit"] []
  iXc : PySem.W.findIn K (.ref CBadLimit) "__init__" = some (some (.ref fXc))
  tXc : PySem.W.typeIn K (.ref fXc) = some (.type "function")
  fXd : Addr
  fdXd : FuncData
  FXd : Fun K "__init__" "BadRule.__init__" (inClass (topS 5) 0) fXd fdXd
  bXd : Binds K fdXd ["self", "rule"] []
  iXd : PySem.W.findIn K (.ref CBadRule) "__init__" = some (some (.ref fXd))
  tXd : PySem.W.typeIn K (.ref fXd) = some (.type "function")
  fXe : Addr
  fdXe : FuncData
  FXe : Fun K "__init__" "BadSize.__init__" (inClass (topS 6) 0) fXe fdXe
  bXe : Binds K fdXe ["self", "size"] []
  iXe : PySem.W.findIn K (.ref CBadSize) "__init__" = some (some (.ref fXe))
  tXe : PySem.W.typeIn K (.ref fXe) = some (.type "function")
  fXf : Addr
  fdXf : FuncData
  FXf : Fun K "__init__" "BadState.__init__" (inClass (topS 7) 0) fXf fdXf
  bXf : Binds K fdXf ["self", "value"] []
  iXf : PySem.W.findIn K (.ref CBadState) "__init__" = some (some (.ref fXf))
  tXf : PySem.W.typeIn K (.ref fXf) = some (.type "function")
  fXg : Addr
  fdXg : FuncData
  FXg : Fun K "__init__" "BadPlace.__init__" (inClass (topS 8) 0) fXg fdXg
  bXg : Binds K fdXg ["self", "address"] []
  iXg : PySem.W.findIn K (.ref CBadPlace) "__init__" = some (some (.ref fXg))
  tXg : PySem.W.typeIn K (.ref fXg) = some (.type "function")
  fXh : Addr
  fdXh : FuncData
  FXh : Fun K "__init__" "BadAnswer.__init__" (inClass (topS 9) 0) fXh fdXh
  bXh : Binds K fdXh ["self", "value"] []
  iXh : PySem.W.findIn K (.ref CBadAnswer) "__init__" = some (some (.ref fXh))
  tXh : PySem.W.typeIn K (.ref fXh) = some (.type "function")
  fXi : Addr
  fdXi : FuncData
  FXi : Fun K "__init__" "BadEvent.__init__" (inClass (topS 10) 0) fXi fdXi
  bXi : Binds K fdXi ["self", "number"] []
  iXi : PySem.W.findIn K (.ref CBadEvent) "__init__" = some (some (.ref fXi))
  tXi : PySem.W.typeIn K (.ref fXi) = some (.type "function")
  fXj : Addr
  fdXj : FuncData
  FXj : Fun K "__init__" "OverLimit.__init__" (inClass (topS 11) 0) fXj fdXj
  bXj : Binds K fdXj ["self", "size"] []
  iXj : PySem.W.findIn K (.ref COverLimit) "__init__" = some (some (.ref fXj))
  tXj : PySem.W.typeIn K (.ref fXj) = some (.type "function")
  fXk : Addr
  fdXk : FuncData
  FXk : Fun K "__init__" "NoRoom.__init__" (inClass (topS 12) 0) fXk fdXk
  bXk : Binds K fdXk ["self", "size"] []
  iXk : PySem.W.findIn K (.ref CNoRoom) "__init__" = some (some (.ref fXk))
  tXk : PySem.W.typeIn K (.ref fXk) = some (.type "function")
  fXl : Addr
  fdXl : FuncData
  FXl : Fun K "__init__" "NoBlock.__init__" (inClass (topS 13) 0) fXl fdXl
  bXl : Binds K fdXl ["self", "address"] []
  iXl : PySem.W.findIn K (.ref CNoBlock) "__init__" = some (some (.ref fXl))
  tXl : PySem.W.typeIn K (.ref fXl) = some (.type "function")
  fXm : Addr
  fdXm : FuncData
  FXm : Fun K "__init__" "TooMany.__init__" (inClass (topS 14) 0) fXm fdXm
  bXm : Binds K fdXm ["self", "limit"] []
  iXm : PySem.W.findIn K (.ref CTooMany) "__init__" = some (some (.ref fXm))
  tXm : PySem.W.typeIn K (.ref fXm) = some (.type "function")
  fXn : Addr
  fdXn : FuncData
  FXn : Fun K "__init__" "BadText.__init__" (inClass (topS 19) 0) fXn fdXn
  bXn : Binds K fdXn ["self", "row"] []
  iXn : PySem.W.findIn K (.ref CBadText) "__init__" = some (some (.ref fXn))
  tXn : PySem.W.typeIn K (.ref fXn) = some (.type "function")
  fXo : Addr
  fdXo : FuncData
  FXo : Fun K "__init__" "BadLine.__init__" (inClass (topS 20) 0) fXo fdXo
  bXo : Binds K fdXo ["self", "line"] []
  iXo : PySem.W.findIn K (.ref CBadLine) "__init__" = some (some (.ref fXo))
  tXo : PySem.W.typeIn K (.ref fXo) = some (.type "function")
  fXp : Addr
  fdXp : FuncData
  FXp : Fun K "__init__" "Safe.__init__" (inClass (topS 15) 0) fXp fdXp
  bXp : Binds K fdXp ["self"] []
  iXp : PySem.W.findIn K (.ref CSafe) "__init__" = some (some (.ref fXp))
  tXp : PySem.W.typeIn K (.ref fXp) = some (.type "function")
  fXq : Addr
  fdXq : FuncData
  FXq : Fun K "__init__" "Unsafe.__init__" (inClass (topS 16) 0) fXq fdXq
  bXq : Binds K fdXq ["self"] []
  iXq : PySem.W.findIn K (.ref CUnsafe) "__init__" = some (some (.ref fXq))
  tXq : PySem.W.typeIn K (.ref fXq) = some (.type "function")
  fXr : Addr
  fdXr : FuncData
  FXr : Fun K "__init__" "Finished.__init__" (inClass (topS 17) 0) fXr fdXr
  bXr : Binds K fdXr ["self"] []
  iXr : PySem.W.findIn K (.ref CFinished) "__init__" = some (some (.ref fXr))
  tXr : PySem.W.typeIn K (.ref fXr) = some (.type "function")
  fXs : Addr
  fdXs : FuncData
  FXs : Fun K "__init__" "NothingToUndo.__init__" (inClass (topS 18) 0) fXs fdXs
  bXs : Binds K fdXs ["self"] []
  iXs : PySem.W.findIn K (.ref CNothingToUndo) "__init__" = some (some (.ref fXs))
  tXs : PySem.W.typeIn K (.ref fXs) = some (.type "function")
  fI : Addr
  fdI : FuncData
  FI : Fun K "is_integer" "is_integer" (topS 22) fI fdI
  bI : Binds K fdI ["value"] []
  gI : mg "is_integer" = some (.ref fI)
  fRo : Addr
  fdRo : FuncData
  FRo : Fun K "rounded" "rounded" (topS 24) fRo fdRo
  bRo : Binds K fdRo ["chain", "words"] []
  gRo : mg "rounded" = some (.ref fRo)
  fP : Addr
  fdP : FuncData
  FP : Fun K "_law_pot" "_law_pot" (topS 26) fP fdP
  bP : Binds K fdP ["_law_script", "_law_k"] []
  gP : mg "_law_pot" = some (.ref fP)
  fT : Addr
  fdT : FuncData
  FT : Fun K "_law_take" "_law_take" (topS 27) fT fdT
  bT : Binds K fdT ["_law_pot_here", "_law_upto"] []
  gT : mg "_law_take" = some (.ref fT)
  fO : Addr
  fdO : FuncData
  FO : Fun K "_law_of" "_law_of" (topS 28) fO fdO
  bO : Binds K fdO ["_law_pot_here", "_law_some"] []
  gO : mg "_law_of" = some (.ref fO)
  fOd : Addr
  fdOd : FuncData
  FOd : Fun K "_law_odd" "_law_odd" (topS 29) fOd fdOd
  bOd : Binds K fdOd ["_law_pot_here"] []
  gOd : mg "_law_odd" = some (.ref fOd)
  fBy : Addr
  fdBy : FuncData
  FBy : Fun K "_law_by_position" "_law_by_position" (topS 30) fBy fdBy
  bBy : Binds K fdBy ["_law_odd_here"] []
  gBy : mg "_law_by_position" = some (.ref fBy)
  fBn : Addr
  fdBn : FuncData
  FBn : Fun K "_law_by_name" "_law_by_name" (topS 31) fBn fdBn
  bBn : Binds K fdBn ["_law_odd_here"] []
  gBn : mg "_law_by_name" = some (.ref fBn)
  fKn : Addr
  fdKn : FuncData
  FKn : Fun K "_law_kinds" "_law_kinds" (topS 32) fKn fdKn
  bKn : Binds K fdKn ["_law_e"] []
  gKn : mg "_law_kinds" = some (.ref fKn)
  fHe : Addr
  fdHe : FuncData
  FHe : Fun K "_law_held" "_law_held" (topS 33) fHe fdHe
  bHe : Binds K fdHe ["_law_some"] []
  gHe : mg "_law_held" = some (.ref fHe)
  fRr : Addr
  fdRr : FuncData
  FRr : Fun K "_law_raised_right" "_law_raised_right" (topS 34) fRr fdRr
  bRr : Binds K fdRr ["_law_words"] []
  gRr : mg "_law_raised_right" = some (.ref fRr)
  fLaw : Addr
  fdLaw : FuncData
  FLaw : Fun K "law" "law" (topS 35) fLaw fdLaw
  bLaw : Binds K fdLaw ["_law_script"] []
  gLaw : mg "law" = some (.ref fLaw)
abbrev sXa : Stmt := (inClass (topS 2) 0)
abbrev scXaS : Stmt := sXa
abbrev scXaN : List Str := ["self", "chain"]
theorem scXa : FnScope ["self", "chain"] ["self", "chain"] (defScope sXa) := ⟨rfl, rfl, rfl, by decide +kernel, rfl, by decide +kernel, by decide +kernel⟩
abbrev sXb : Stmt := (inClass (topS 3) 0)
abbrev scXbS : Stmt := sXb
abbrev scXbN : List Str := ["self", "pages"]
theorem scXb : FnScope ["self", "pages"] ["self", "pages"] (defScope sXb) := ⟨rfl, rfl, rfl, by decide +kernel, rfl, by decide +kernel, by decide +kernel⟩
abbrev sXc : Stmt := (inClass (topS 4) 0)
abbrev scXcS : Stmt := sXc
abbrev scXcN : List Str := ["self", "limit"]
theorem scXc : FnScope ["self", "limit"] ["self", "limit"] (defScope sXc) := ⟨rfl, rfl, rfl, by decide +kernel, rfl, by decide +kernel, by decide +kernel⟩
abbrev sXd : Stmt := (inClass (topS 5) 0)
abbrev scXdS : Stmt := sXd
abbrev scXdN : List Str := ["self", "rule"]
theorem scXd : FnScope ["self", "rule"] ["self", "rule"] (defScope sXd) := ⟨rfl, rfl, rfl, by decide +kernel, rfl, by decide +kernel, by decide +kernel⟩
abbrev sXe : Stmt := (inClass (topS 6) 0)
abbrev scXeS : Stmt := sXe
abbrev scXeN : List Str := ["self", "size"]
theorem scXe : FnScope ["self", "size"] ["self", "size"] (defScope sXe) := ⟨rfl, rfl, rfl, by decide +kernel, rfl, by decide +kernel, by decide +kernel⟩
abbrev sXf : Stmt := (inClass (topS 7) 0)
abbrev scXfS : Stmt := sXf
abbrev scXfN : List Str := ["self", "value"]
theorem scXf : FnScope ["self", "value"] ["self", "value"] (defScope sXf) := ⟨rfl, rfl, rfl, by decide +kernel, rfl, by decide +kernel, by decide +kernel⟩
abbrev sXg : Stmt := (inClass (topS 8) 0)
abbrev scXgS : Stmt := sXg
abbrev scXgN : List Str := ["self", "address"]
theorem scXg : FnScope ["self", "address"] ["self", "address"] (defScope sXg) := ⟨rfl, rfl, rfl, by decide +kernel, rfl, by decide +kernel, by decide +kernel⟩
abbrev sXh : Stmt := (inClass (topS 9) 0)
abbrev scXhS : Stmt := sXh
abbrev scXhN : List Str := ["self", "value"]
theorem scXh : FnScope ["self", "value"] ["self", "value"] (defScope sXh) := ⟨rfl, rfl, rfl, by decide +kernel, rfl, by decide +kernel, by decide +kernel⟩
abbrev sXi : Stmt := (inClass (topS 10) 0)
abbrev scXiS : Stmt := sXi
abbrev scXiN : List Str := ["self", "number"]
theorem scXi : FnScope ["self", "number"] ["self", "number"] (defScope sXi) := ⟨rfl, rfl, rfl, by decide +kernel, rfl, by decide +kernel, by decide +kernel⟩
abbrev sXj : Stmt := (inClass (topS 11) 0)
abbrev scXjS : Stmt := sXj
abbrev scXjN : List Str := ["self", "size"]
theorem scXj : FnScope ["self", "size"] ["self", "size"] (defScope sXj) := ⟨rfl, rfl, rfl, by decide +kernel, rfl, by decide +kernel, by decide +kernel⟩
abbrev sXk : Stmt := (inClass (topS 12) 0)
abbrev scXkS : Stmt := sXk
abbrev scXkN : List Str := ["self", "size"]
theorem scXk : FnScope ["self", "size"] ["self", "size"] (defScope sXk) := ⟨rfl, rfl, rfl, by decide +kernel, rfl, by decide +kernel, by decide +kernel⟩
abbrev sXl : Stmt := (inClass (topS 13) 0)
abbrev scXlS : Stmt := sXl
abbrev scXlN : List Str := ["self", "address"]
theorem scXl : FnScope ["self", "address"] ["self", "address"] (defScope sXl) := ⟨rfl, rfl, rfl, by decide +kernel, rfl, by decide +kernel, by decide +kernel⟩
abbrev sXm : Stmt := (inClass (topS 14) 0)
abbrev scXmS : Stmt := sXm
abbrev scXmN : List Str := ["self", "limit"]
theorem scXm : FnScope ["self", "limit"] ["self", "limit"] (defScope sXm) := ⟨rfl, rfl, rfl, by decide +kernel, rfl, by decide +kernel, by decide +kernel⟩
abbrev sXn : Stmt := (inClass (topS 19) 0)
abbrev scXnS : Stmt := sXn
abbrev scXnN : List Str := ["self", "row"]
theorem scXn : FnScope ["self", "row"] ["self", "row"] (defScope sXn) := ⟨rfl, rfl, rfl, by decide +kernel, rfl, by decide +kernel, by decide +kernel⟩
abbrev sXo : Stmt := (inClass (topS 20) 0)
abbrev scXoS : Stmt := sXo
abbrev scXoN : List Str := ["self", "line"]
theorem scXo : FnScope ["self", "line"] ["self", "line"] (defScope sXo) := ⟨rfl, rfl, rfl, by decide +kernel, rfl, by decide +kernel, by decide +kernel⟩
abbrev sXp : Stmt := (inClass (topS 15) 0)
abbrev scXpS : Stmt := sXp
abbrev scXpN : List Str := ["self"]
theorem scXp : FnScope ["self"] ["self"] (defScope sXp) := ⟨rfl, rfl, rfl, by decide +kernel, rfl, by decide +kernel, by decide +kernel⟩
abbrev sXq : Stmt := (inClass (topS 16) 0)
abbrev scXqS : Stmt := sXq
abbrev scXqN : List Str := ["self"]
theorem scXq : FnScope ["self"] ["self"] (defScope sXq) := ⟨rfl, rfl, rfl, by decide +kernel, rfl, by decide +kernel, by decide +kernel⟩
abbrev sXr : Stmt := (inClass (topS 17) 0)
abbrev scXrS : Stmt := sXr
abbrev scXrN : List Str := ["self"]
theorem scXr : FnScope ["self"] ["self"] (defScope sXr) := ⟨rfl, rfl, rfl, by decide +kernel, rfl, by decide +kernel, by decide +kernel⟩
abbrev sXs : Stmt := (inClass (topS 18) 0)
abbrev scXsS : Stmt := sXs
abbrev scXsN : List Str := ["self"]
theorem scXs : FnScope ["self"] ["self"] (defScope sXs) := ⟨rfl, rfl, rfl, by decide +kernel, rfl, by decide +kernel, by decide +kernel⟩
abbrev sI : Stmt := (topS 22)
abbrev scIS : Stmt := sI
abbrev scIN : List Str := ["value"]
theorem scI : FnScope ["value"] ["value"] (defScope sI) := ⟨rfl, rfl, rfl, by decide +kernel, rfl, by decide +kernel, by decide +kernel⟩
abbrev sRo : Stmt := (topS 24)
abbrev scRoS : Stmt := sRo
abbrev scRoN : List Str := ["chain", "words", "size"]
theorem scRo : FnScope ["chain", "words", "size"] ["chain", "words"] (defScope sRo) := ⟨rfl, rfl, rfl, by decide +kernel, rfl, by decide +kernel, by decide +kernel⟩
abbrev sP : Stmt := (topS 26)
abbrev scPS : Stmt := sP
abbrev scPN : List Str := ["_law_script", "_law_k", "_law_cell", "_law_great"]
theorem scP : FnScope ["_law_script", "_law_k", "_law_cell", "_law_great"] ["_law_script", "_law_k"] (defScope sP) := ⟨rfl, rfl, rfl, by decide +kernel, rfl, by decide +kernel, by decide +kernel⟩
abbrev sT : Stmt := (topS 27)
abbrev scTS : Stmt := sT
abbrev scTN : List Str := ["_law_pot_here", "_law_upto", "_law_digit"]
theorem scT : FnScope ["_law_pot_here", "_law_upto", "_law_digit"] ["_law_pot_here", "_law_upto"] (defScope sT) := ⟨rfl, rfl, rfl, by decide +kernel, rfl, by decide +kernel, by decide +kernel⟩
abbrev sO : Stmt := (topS 28)
abbrev scOS : Stmt := sO
abbrev scON : List Str := ["_law_pot_here", "_law_some"]
theorem scO : FnScope ["_law_pot_here", "_law_some"] ["_law_pot_here", "_law_some"] (defScope sO) := ⟨rfl, rfl, rfl, by decide +kernel, rfl, by decide +kernel, by decide +kernel⟩
abbrev sOd : Stmt := (topS 29)
abbrev scOdS : Stmt := sOd
abbrev scOdN : List Str := ["_law_pot_here", "_law_some", "_law_thing", "_law_turn"]
theorem scOd : FnScope ["_law_pot_here", "_law_some", "_law_thing", "_law_turn"] ["_law_pot_here"] (defScope sOd) := ⟨rfl, rfl, rfl, by decide +kernel, rfl, by decide +kernel, by decide +kernel⟩
abbrev sBy : Stmt := (topS 30)
abbrev scByS : Stmt := sBy
abbrev scByN : List Str := ["_law_odd_here", "_law_some"]
theorem scBy : FnScope ["_law_odd_here", "_law_some"] ["_law_odd_here"] (defScope sBy) := ⟨rfl, rfl, rfl, by decide +kernel, rfl, by decide +kernel, by decide +kernel⟩
abbrev sBn : Stmt := (topS 31)
abbrev scBnS : Stmt := sBn
abbrev scBnN : List Str := ["_law_odd_here", "_law_some"]
theorem scBn : FnScope ["_law_odd_here", "_law_some"] ["_law_odd_here"] (defScope sBn) := ⟨rfl, rfl, rfl, by decide +kernel, rfl, by decide +kernel, by decide +kernel⟩
abbrev sKn : Stmt := (topS 32)
abbrev scKnS : Stmt := sKn
abbrev scKnN : List Str := ["_law_e", "_law_found"]
theorem scKn : FnScope ["_law_e", "_law_found"] ["_law_e"] (defScope sKn) := ⟨rfl, rfl, rfl, by decide +kernel, rfl, by decide +kernel, by decide +kernel⟩
abbrev sHe : Stmt := (topS 33)
abbrev scHeS : Stmt := sHe
abbrev scHeN : List Str := ["_law_some", "_law_found"]
theorem scHe : FnScope ["_law_some", "_law_found"] ["_law_some"] (defScope sHe) := ⟨rfl, rfl, rfl, by decide +kernel, rfl, by decide +kernel, by decide +kernel⟩
abbrev sRr : Stmt := (topS 34)
abbrev scRrS : Stmt := sRr
abbrev scRrN : List Str := ["_law_words", "_law_caught", "_law_e", "_law_seat"]
theorem scRr : FnScope ["_law_words", "_law_caught", "_law_e", "_law_seat"] ["_law_words"] (defScope sRr) := ⟨rfl, rfl, rfl, by decide +kernel, rfl, by decide +kernel, by decide +kernel⟩
abbrev sLaw : Stmt := (topS 35)
abbrev scLawS : Stmt := sLaw
abbrev scLawN : List Str := ["_law_script", "_law_k", "_law_pot_here", "_law_odd_here", "_law_some", "_law_at", "_law_e", "_law_seat"]
theorem scLaw : FnScope ["_law_script", "_law_k", "_law_pot_here", "_law_odd_here", "_law_some", "_law_at", "_law_e", "_law_seat"] ["_law_script"] (defScope sLaw) := ⟨rfl, rfl, rfl, by decide +kernel, rfl, by decide +kernel, by decide +kernel⟩
end Ph

set_option maxHeartbeats 8000000
namespace Ph
open PySem PySem.Spec PyProof.Rows L2
section
variable {P : Program} {w : World} {K : PySem.W.Frag} {mg : Str → Option Value} {base : Heap}
def spPot (K : PySem.W.Frag) : Sp := fun vs H Q _ => ∃ (a : Addr) (ns : List Int) (k : Nat), vs = [.ref a, .int k] ∧ SqL K H a (ns.map V.int) ∧ k ≤ 1000 ∧ ∀ H' p, Same H H' → H p = none → Pot H' p → Q (.ref p) H'
theorem ok_P {k : Nat} (Z : Fns K mg) : FnOk P w K mg base CX0 (k + 1) Z.fP Z.fdP ["_law_script", "_law_k"] (spPot K) := by
  refine Z.FP.ok scP (fun vs H Q E h => ?_) (fun cdv A outer s H vs Q E hr h => ?_)
  · obtain ⟨a, ns, k, rfl, _⟩ := h
    rfl
  · obtain ⟨a, ns, n, rfl, hS, hn, q⟩ := h
    refine ⟨_, (pss_cons (ps_set (i := 2) scP.nd rfl (.inl rfl) (pe_op op_add (pe_op op_mul pe_int (pv 1)) (pe_callB call_len_seq (by rfl) Z.N.len (by decide +kernel) (pa_cons (pv 0) pa_nil))))
 (pss_cons (ps_if (pt_cmpR op_lt (pv 1) (pe_callB call_len_seq (by rfl) Z.N.len (by decide +kernel) (pa_cons (pv 0) pa_nil)) (nomark _))
 (pss_one (ps_set (i := 2) scP.nd rfl (.inl rfl) (pe_ix ix_list (pv 0) (pv 1) (fun _ _ => rfl)))) pss_nil)
 (pss_cons (ps_set (i := 3) scP.nd rfl (.inl rfl) (pe_op op_mulW (pe_op op_mod (pe_callB call_abs (by rfl) Z.N.abs (by decide +kernel) (pa_cons (pv 2) pa_nil)) (pe_callTy (call_big9 Z.N.dig) (by rfl) Z.N.int (by decide +kernel) (pa_cons (pe_op op_add_str pe_str (pe_op op_repS pe_str pe_int)) pa_nil))) (pe_callTy call_int1 (by rfl) Z.N.int (by decide +kernel) (pa_cons (pe_cmpR op_ge (pe_callB call_abs (by rfl) Z.N.abs (by decide +kernel) (pa_cons (pv 2) pa_nil)) (pe_op op_pow pe_int pe_int) (nomark _)) pa_nil))))
 (pss_one (ps_ret (pe_lst (pa_cons (pv 3) (pa_cons (pe_op op_mod (pe_op op_mul (pe_op op_add (pe_op op_add (pe_op op_mod (pv 2) pe_int) (pe_op op_mul (pe_op op_mul pe_int (pv 1)) (pv 1))) pe_int) pe_int) pe_int) pa_nil)))))))), ?_⟩
    refine ⟨.int n, rfl, 3, n, rfl, rfl, .inl ⟨by decide, by decide⟩, .ref a, rfl, a, ns.map V.int, rfl, .inl hS, _, _, rfl, rfl, ?_⟩
    refine ⟨.int n, rfl, .ref a, rfl, a, ns.map V.int, rfl, .inl hS, _, _, rfl, rfl, _, rfl, ite2 (fun e => ?z1) (fun e => ?z2)⟩
    case z1 =>
      have e1 : (n : Int) < ((ns.map V.int).length : Nat) := of_decide_eq_true e
      have e2 : n < ns.length := by
        rw [List.length_map] at e1
        omega
      refine ⟨.ref a, rfl, .int n, rfl, a, ns.map V.int, n, .int ns[n], rfl, rfl, hS, atI_nat (j := n) (by rw [List.getElem?_map, List.getElem?_eq_getElem e2]; rfl), ?_⟩
      refine ⟨.int _, rfl, _, rfl, _, _, rfl, rfl, zeros_ok, _, _, rfl, rfl, big9_len, rfl, _, _, rfl, rfl, ten9_pos, .int _, rfl, _, rfl, _, _, rfl, rfl, ⟨by decide, by decide, by decide⟩, _, _, rfl, rfl, .inr ⟨_, rfl, _, _, rfl, rfl, great_mul _ _, ?_⟩⟩
      refine ⟨_, rfl, .int _, rfl, _, _, rfl, rfl, (by decide : (0 : Int) < 2305843009213693951), .int n, rfl, _, _, rfl, rfl, .inl ⟨by decide, by decide⟩, .int n, rfl, _, _, rfl, rfl, .inl ?_, _, _, rfl, rfl, _, _, rfl, rfl, _, _, rfl, rfl, .inr ⟨by decide, by decide⟩, _, _, rfl, rfl, (by decide : (0 : Int) < 2305843009213693951), (by show 2 ≤ sizeLine; decide), fun p np => ?_⟩
      · constructor <;> omega
      · exact q _ p (same_upd np) np ⟨_, _, upd_same, (great_pot _ _).1, (great_pot _ _).2, Int.emod_nonneg _ (by decide), Int.emod_lt_of_pos _ (by decide)⟩
    case z2 =>
      refine ⟨.int _, rfl, _, rfl, _, _, rfl, rfl, zeros_ok, _, _, rfl, rfl, big9_len, rfl, _, _, rfl, rfl, ten9_pos, .int _, rfl, _, rfl, _, _, rfl, rfl, ⟨by decide, by decide, by decide⟩, _, _, rfl, rfl, .inr ⟨_, rfl, _, _, rfl, rfl, great_mul _ _, ?_⟩⟩
      refine ⟨_, rfl, .int _, rfl, _, _, rfl, rfl, (by decide : (0 : Int) < 2305843009213693951), .int n, rfl, _, _, rfl, rfl, .inl ⟨by decide, by decide⟩, .int n, rfl, _, _, rfl, rfl, .inl ?_, _, _, rfl, rfl, _, _, rfl, rfl, _, _, rfl, rfl, .inr ⟨by decide, by decide⟩, _, _, rfl, rfl, (by decide : (0 : Int) < 2305843009213693951), (by show 2 ≤ sizeLine; decide), fun p np => ?_⟩
      · constructor <;> omega
      · exact q _ p (same_upd np) np ⟨_, _, upd_same, (great_pot _ _).1, (great_pot _ _).2, Int.emod_nonneg _ (by decide), Int.emod_lt_of_pos _ (by decide)⟩
def spTake : Sp := fun vs H Q _ => ∃ (p : Addr) (n : Int), vs = [.ref p, .int n] ∧ Pot H p ∧ 0 < n ∧ n < 4611686018427387904 ∧ ∀ H' d, But p H H' → Pot H' p → 0 ≤ d → d < n → Q (.int d) H'
theorem ok_T {k : Nat} (Z : Fns K mg) : FnOk P w K mg base CX0 (k + 1) Z.fT Z.fdT ["_law_pot_here", "_law_upto"] spTake := by
  refine Z.FT.ok scT (fun vs H Q E h => ?_) (fun cdv A outer s H vs Q E hr h => ?_)
  · obtain ⟨a, n, rfl, _⟩ := h
    rfl
  · obtain ⟨p, n, rfl, ⟨g, r, hp, hv⟩, hn0, hn1, q⟩ := h
    refine ⟨_, (pss_cons (ps_if (pt_cmpR op_gt (pe_ix ix_list (pv 0) pe_int (fun _ _ => rfl)) pe_int (nomark _))
 (pss_cons (ps_set (i := 2) scT.nd rfl (.inl rfl) (pe_op op_mod (pe_ix ix_list (pv 0) pe_int (fun _ _ => rfl)) (pv 1)))
 (pss_cons (ps_asg (pe_op op_fdivW (pe_ix ix_list (pv 0) pe_int (fun _ _ => rfl)) (pv 1)) (pg_sub (pv 0) pe_int set_list))
 (pss_one (ps_ret (pv 2))))) pss_nil)
 (pss_cons (ps_asg (pe_op op_mod (pe_op op_add (pe_op op_mul (pe_ix ix_list (pv 0) pe_int (fun _ _ => rfl)) pe_int) pe_int) pe_int) (pg_sub (pv 0) pe_int set_list))
 (pss_one (ps_ret (pe_op op_mod (pe_op op_fdiv (pe_op op_mod (pe_op op_mul (pe_op op_fdiv (pe_ix ix_list (pv 0) pe_int (fun _ _ => rfl)) pe_int) (pe_op op_add (pe_op op_mod (pe_ix ix_list (pv 0) pe_int (fun _ _ => rfl)) pe_int) pe_int)) pe_int) pe_int) (pv 1)))))), ?_⟩
    have hL : SqL K H p [.int g, .int r] := .inl (.inl hp)
    refine ⟨.ref p, rfl, p, _, 0, .int g, rfl, rfl, hL, atI_nat (j := 0) rfl, g, 0, rfl, rfl, _, rfl, ite2 (fun e => ?_) (fun e => ?_)⟩
    · have e1 : (0 : Int) < g := of_decide_eq_true e
      refine ⟨.ref p, rfl, p, _, 0, .int g, rfl, rfl, hL, atI_nat (j := 0) rfl, .int n, rfl, g, n, rfl, rfl, hn0, ?_⟩
      refine ⟨.ref p, rfl, p, _, 0, .int g, rfl, rfl, hL, atI_nat (j := 0) rfl, .int n, rfl, g, n, rfl, rfl, wide_div (b := 62) hn0 ?_ (by decide) (by decide), .ref p, rfl, p, _, 0, 0, rfl, rfl, hp, rfl, _, rfl, ?_⟩
      · have : (2 : Nat) ^ 62 = 4611686018427387904 := by decide
        rw [this]
        omega
      · have d0 : 0 ≤ g / n := Int.ediv_nonneg hv.g0 (by omega)
        have d1 : g / n ≤ g := Int.ediv_le_self _ hv.g0
        refine q _ _ but_upd ⟨_, _, upd_same, d0, wide_le d0 d1 hv.g1, hv.r0, hv.r1⟩ (Int.emod_nonneg _ (by omega)) (Int.emod_lt_of_pos _ hn0)
    · refine ⟨.ref p, rfl, p, _, 1, .int r, rfl, rfl, hL, atI_nat (j := 1) rfl, r, _, rfl, rfl, .inl ⟨?_, ?_⟩, _, _, rfl, rfl, _, _, rfl, rfl, (by decide : (0 : Int) < 2305843009213693951), .ref p, rfl, p, _, 1, 1, rfl, rfl, hp, rfl, ?_⟩
      · have := hv.r0; omega
      · have := hv.r1; omega
      have r20 : 0 ≤ (r * 1181783497276652981 + 12345678910987) % 2305843009213693951 := Int.emod_nonneg _ (by decide)
      have r21 : (r * 1181783497276652981 + 12345678910987) % 2305843009213693951 < 2305843009213693951 := Int.emod_lt_of_pos _ (by decide)
      have hL2 : SqL K (upd H p (.lst [.int g, .int ((r * 1181783497276652981 + 12345678910987) % 2305843009213693951)])) p [.int g, .int ((r * 1181783497276652981 + 12345678910987) % 2305843009213693951)] := .inl (.inl upd_same)
      refine ⟨.ref p, rfl, p, _, 1, .int _, rfl, rfl, hL2, atI_nat (j := 1) rfl, _, _, rfl, rfl, ⟨by decide, by decide⟩, .ref p, rfl, p, _, 1, .int _, rfl, rfl, hL2, atI_nat (j := 1) rfl, _, _, rfl, rfl, (by decide : (0 : Int) < 65537), _, _, rfl, rfl, _, _, rfl, rfl, .inl ⟨?_, ?_⟩, _, _, rfl, rfl, (by decide : (0 : Int) < 2305843009213693921), _, _, rfl, rfl, ⟨by decide, by decide⟩, .int n, rfl, _, _, rfl, rfl, hn0, ?_⟩
      · generalize (r * 1181783497276652981 + 12345678910987) % 2305843009213693951 = r2 at *
        have : 0 ≤ r2 / 65537 := Int.ediv_nonneg r20 (by decide)
        omega
      · generalize (r * 1181783497276652981 + 12345678910987) % 2305843009213693951 = r2 at *
        have : r2 / 65537 ≤ r2 := Int.ediv_le_self _ r20
        omega
      · exact q _ _ but_upd ⟨_, _, upd_same, hv.g0, hv.g1, r20, r21⟩ (Int.emod_nonneg _ (by omega)) (Int.emod_lt_of_pos _ hn0)
def spOf (K : PySem.W.Frag) : Sp := fun vs H Q _ => ∃ (p l : Addr) (xs : List V), vs = [.ref p, .ref l] ∧ Pot H p ∧ SqL K H l xs ∧ l ≠ p ∧ xs ≠ [] ∧ xs.length ≤ 1000 ∧ ∀ H' x, But p H H' → Pot H' p → x ∈ xs → Q x H'
theorem ok_O {k : Nat} (Z : Fns K mg) : FnOk P w K mg base CX0 (k + 1 + 1) Z.fO Z.fdO ["_law_pot_here", "_law_some"] (spOf K) := by
  have GT : FnOk P w K mg base CX0 (k + 1) Z.fT Z.fdT ["_law_pot_here", "_law_upto"] spTake := ok_T Z
  refine Z.FO.ok scO (fun vs H Q E h => ?_) (fun cdv A outer s H vs Q E hr h => ?_)
  · obtain ⟨a, n, xs, rfl, _⟩ := h
    rfl
  · obtain ⟨p, l, xs, rfl, hp, hl, hne, hx, hlen, q⟩ := h
    refine ⟨_, (pss_one (ps_ret (pe_ix ix_list (pv 1) (pe_call GT (hr.mono (by omega)) (by rfl) Z.gT Z.FT.kp Z.bT .nil pass0 (pa_cons (pv 0) (pa_cons (pe_callB call_len_seq (by rfl) Z.N.len (by decide +kernel) (pa_cons (pv 1) pa_nil)) pa_nil))) (fun _ _ => rfl)))), ?_⟩
    have hx0 : 0 < xs.length := List.length_pos_iff.mpr hx
    refine ⟨.ref l, rfl, .ref p, rfl, .ref l, rfl, l, xs, rfl, .inl hl, p, _, rfl, hp, ?_, ?_, fun H' d hb hp' d0 d1 => ?_⟩
    · omega
    · omega
    · obtain ⟨j, rfl⟩ : ∃ j : Nat, d = j := ⟨d.toNat, by omega⟩
      have hd : j < xs.length := by omega
      exact ⟨l, xs, j, xs[j], rfl, rfl, hb.seq hne hl, atI_nat (List.getElem?_eq_getElem hd), q _ _ hb hp' (List.getElem_mem hd)⟩
end
end Ph

set_option maxHeartbeats 8000000
namespace Ph
open PySem PySem.Spec PyProof.Rows L2
section
variable {P : Program} {w : World} {K : PySem.W.Frag} {mg : Str → Option Value} {base : Heap}
/-- all but q and the tables -/
abbrev OdT (K : PySem.W.Frag) (q : Addr) (H : Hp) (n : Nat) (x : V) (d : PyData) : Prop := OdV K [q] (ntb H) n x d
def spOd (K : PySem.W.Frag) : Sp := fun vs H Q _ => ∃ (q : Addr), vs = [.ref q] ∧ Pot H q ∧ ∀ H' x d, But q H H' → Pot H' q → OdT K q H' 17 x d → Q x H'
theorem ok_Od {k : Nat} (Z : Fns K mg) : FnOk P w K mg base CX0 (k + 1 + 1 + 1) Z.fOd Z.fdOd ["_law_pot_here"] (spOd K) := by
  have GT : FnOk P w K mg base CX0 (k + 1) Z.fT Z.fdT ["_law_pot_here", "_law_upto"] spTake := ok_T Z
  have GO : FnOk P w K mg base CX0 (k + 1 + 1) Z.fO Z.fdO ["_law_pot_here", "_law_some"] (spOf K) := ok_O Z
  refine Z.FOd.ok scOd (fun vs H Q E h => ?_) (fun cdv A outer s H vs Q E hr h => ?_)
  · obtain ⟨q, rfl, _⟩ := h
    rfl
  · obtain ⟨q, rfl, hq, fin⟩ := h
    refine ⟨_, (pss_cons (ps_set (i := 1) scOd.nd rfl (.inl rfl) (pe_lst (pa_cons pe_non (pa_cons pe_bl (pa_cons pe_bl (pa_cons (pe_un un_neg pe_int) (pa_cons pe_int (pa_cons pe_int (pa_cons (pe_op op_pow pe_int pe_int) (pa_cons pe_str (pa_cons pe_str (pa_cons pe_str (pa_cons (pe_tup pa_nil) (pa_cons (pe_lst pa_nil) (pa_cons pe_dnewK (pa_cons (pe_tup (pa_cons pe_int pa_nil)) (pa_cons (pe_lst (pa_cons pe_int pa_nil)) (pa_cons (pe_tup (pa_cons pe_int (pa_cons pe_int pa_nil))) (pa_cons (pe_tup (pa_cons (pe_tup (pa_cons pe_int (pa_cons pe_int pa_nil))) pa_nil)) (pa_cons (pe_disp (pps_cons pe_str pe_int pps_nil) (by rfl) (by rfl) (fun z => by cases z) (by decide)) pa_nil))))))))))))))))))))
 (pss_cons (ps_set (i := 2) scOd.nd rfl (.inl rfl) (pe_call GO (hr.mono (by omega)) (by rfl) Z.gO Z.FO.kp Z.bO .nil pass0 (pa_cons (pv 0) (pa_cons (pv 1) pa_nil))))
 (pss_cons (ps_for PassesOwn.never rfl (pi_range1 (by rfl) Z.N.range (pa_cons (pe_call GO (hr.mono (by omega)) (by rfl) Z.gO Z.FO.kp Z.bO .nil pass0 (pa_cons (pv 0) (pa_cons (pe_lst (pa_cons pe_int (pa_cons pe_int (pa_cons pe_int (pa_cons pe_int (pa_cons pe_int pa_nil)))))) pa_nil))) pa_nil)) (pg_name (i := 3) scOd.nd rfl (.inl rfl))
 (pss_one (ps_set (i := 2) scOd.nd rfl (.inl rfl) (pe_ix ix_list (pe_lst (pa_cons (pe_tup (pa_cons (pv 2) pa_nil)) (pa_cons (pe_lst (pa_cons (pv 2) pa_nil)) (pa_cons (pe_disp (pps_cons pe_str (pv 2) pps_nil) (by rfl) (by rfl) (fun z => by cases z) (by decide)) (pa_cons (pe_tup (pa_cons (pv 2) (pa_cons pe_int pa_nil))) pa_nil))))) (pe_call GT (hr.mono (by omega)) (by rfl) Z.gT Z.FT.kp Z.bT .nil pass0 (pa_cons (pv 0) (pa_cons pe_int pa_nil))) (fun _ _ => rfl)))))
 (pss_one (ps_ret (pv 2)))))), ?_⟩
    refine ⟨1, rfl, _, _, rfl, rfl, ⟨by decide, by decide, by decide⟩, Nat.zero_le _, fun t1 n1 => ⟨Nat.zero_le _, fun l1 m1 => ?_⟩⟩
    refine fun d1 k1 => ?_
    refine ⟨(by show 1 ≤ sizeLine; decide), fun t2 n2 => ⟨(by show 1 ≤ sizeLine; decide), fun l2 m2 => ⟨(by show 2 ≤ sizeLine; decide), fun t3 n3 => ⟨(by show 2 ≤ sizeLine; decide), fun t4 n4 => ⟨(by show 1 ≤ sizeLine; decide), fun t5 n5 => ?_⟩⟩⟩⟩⟩
    refine fun d2 k2 => ⟨upd_same, [(Sum.inr "a", .int 1)], rfl, by decide, (by show 18 ≤ sizeLine; decide), fun l3 m3 => ?_⟩
    have u1 := same_upd (o := .tup []) n1
    have e1 : upd H t1 (.tup []) t1 = some (.tup []) := upd_same
    generalize upd H t1 (.tup []) = H1 at *
    have u2 := same_upd (o := .lst []) m1
    have e2 : upd H1 l1 (.lst []) l1 = some (.lst []) := upd_same
    generalize upd H1 l1 (.lst []) = H2 at *
    have u3 := same_upd (o := .dK []) k1
    have e3 : upd H2 d1 (.dK []) d1 = some (.dK []) := upd_same
    generalize upd H2 d1 (.dK []) = H3 at *
    have u4 := same_upd (o := .tup [.int 1]) n2
    have e4 : upd H3 t2 (.tup [.int 1]) t2 = some (.tup [.int 1]) := upd_same
    generalize upd H3 t2 (.tup [.int 1]) = H4 at *
    have u5 := same_upd (o := .lst [.int 1]) m2
    have e5 : upd H4 l2 (.lst [.int 1]) l2 = some (.lst [.int 1]) := upd_same
    generalize upd H4 l2 (.lst [.int 1]) = H5 at *
    have u6 := same_upd (o := .tup [.int 0, .int 1]) n3
    have e6 : upd H5 t3 (.tup [.int 0, .int 1]) t3 = some (.tup [.int 0, .int 1]) := upd_same
    generalize upd H5 t3 (.tup [.int 0, .int 1]) = H6 at *
    have u7 := same_upd (o := .tup [.int 0, .int 1]) n4
    have e7 : upd H6 t4 (.tup [.int 0, .int 1]) t4 = some (.tup [.int 0, .int 1]) := upd_same
    generalize upd H6 t4 (.tup [.int 0, .int 1]) = H7 at *
    have u8 := same_upd (o := .tup [.ref t4]) n5
    have e8 : upd H7 t5 (.tup [.ref t4]) t5 = some (.tup [.ref t4]) := upd_same
    generalize upd H7 t5 (.tup [.ref t4]) = H8 at *
    have u9 := same_upd2 (o := .dK []) (o' := .dK (mergeK [] [(Sum.inr "a", .int 1)])) k2
    have e9 : upd (upd H8 d2 (.dK [])) d2 (.dK (mergeK [] [(Sum.inr "a", .int 1)])) d2 = some (.dK (mergeK [] [(Sum.inr "a", .int 1)])) := upd_same
    generalize upd (upd H8 d2 (.dK [])) d2 (.dK (mergeK [] [(Sum.inr "a", .int 1)])) = H9 at *
    have nq : ∀ {G : Hp} {a : Addr}, Same H G → G a = none → a ∉ [q] := fun {G a} s n z => (hq.same s).ne_none n (List.mem_singleton.mp z).symm
    have s2 := u1.trans u2
    have s3 := s2.trans u3
    have s4 := s3.trans u4
    have s5 := s4.trans u5
    have s6 := s5.trans u6
    have s7 := s6.trans u7
    have s8 := s7.trans u8
    have s9 := s8.trans u9
    have c8 := u9
    have c7 := u8.trans c8
    have c6 := u7.trans c7
    have c5 := u6.trans c6
    have c4 := u5.trans c5
    have c3 := u4.trans c4
    have c2 := u3.trans c3
    have c1 := u2.trans c2
    have sd : ∀ {d : PyData}, d.showable = true ∧ d.depth ≤ 2 ∧ d.leavesShort 40 = true ∧ d.weight ≤ 2000 ∧ cpD d = true → Shd d 2 2000 := fun h => ⟨h.1, h.2.1, h.2.2.1, h.2.2.2.1, h.2.2.2.2⟩
    have nt : ∀ {b : Addr} {xs : List V}, H9 b = some (.tup xs) → ntb H9 b = some (.tup xs) := fun e => ntb_at e fun _ z => nomatch z
    have nl : ∀ {b : Addr} {xs : List V}, H9 b = some (.lst xs) → ntb H9 b = some (.lst xs) := fun e => ntb_at e fun _ z => nomatch z
    have nd : ∀ {b : Addr} {xs : List (Key × V)}, H9 b = some (.dK xs) → ntb H9 b = some (.dK xs) := fun e => ntb_at e fun _ z => nomatch z
    have o1 := OdV.tup (K := K) (S := [q]) (n := 0) (nt (c1 _ _ e1)) (nq (Same.refl _) n1) .nil (sd (by decide +kernel))
    have o2 := OdV.lst (K := K) (S := [q]) (n := 0) (nl (c2 _ _ e2)) (nq u1 m1) .nil (sd (by decide +kernel))
    have o3 := OdV.dct (K := K) (S := [q]) (n := 0) (nd (c3 _ _ e3)) (nq s2 k1) .nil (sd (by decide +kernel))
    have o4 := OdV.tup (K := K) (S := [q]) (n := 0) (nt (c4 _ _ e4)) (nq s3 n2) (.cons (.int 1) .nil) (sd (by decide +kernel))
    have o5 := OdV.lst (K := K) (S := [q]) (n := 0) (nl (c5 _ _ e5)) (nq s4 m2) (.cons (.int 1) .nil) (sd (by decide +kernel))
    have o6 := OdV.tup (K := K) (S := [q]) (n := 0) (nt (c6 _ _ e6)) (nq s5 n3) (.cons (.int 0) (.cons (.int 1) .nil)) (sd (by decide +kernel))
    have o7 := OdV.tup (K := K) (S := [q]) (n := 0) (nt (c8 _ _ e8)) (nq s7 n5) (.cons (.tup (.inl (.inl ((hid_at (nq s6 n4)).trans (nt (c7 _ _ e7))))) (.cons (.int 0) (.cons (.int 1) .nil))) .nil) (sd (by decide +kernel))
    have o8 := OdV.dct (K := K) (S := [q]) (n := 0) (nd e9) (nq s8 k2) (.cons (k := Sum.inr "a") (.int 1) .nil) (sd (by decide +kernel))
    have ol : OdL K [q] (ntb H9) [.non, .bl true, .bl false, .int (-1), .int 0, .int 1, .int (10 ^ (30 : Int).toNat), .str "", .str "1", .str "get", .ref t1, .ref l1, .ref d1, .ref t2, .ref l2, .ref t3, .ref t5, .ref d2] :=
      .cons .non (.cons (.bl _) (.cons (.bl _) (.cons (.int (by decide)) (.cons (.int (by decide)) (.cons (.int (by decide)) (.cons (.intB (by decide)) (.cons (.str _ (sd (by decide +kernel))) (.cons (.str _ (sd (by decide +kernel))) (.cons (.str _ (sd (by decide +kernel))) (.cons o1 (.cons o2 (.cons o3 (.cons o4 (.cons o5 (.cons o6 (.cons o7 (.cons o8 .nil)))))))))))))))))
    have hq9 := hq.same s9
    refine ⟨.ref q, rfl, .ref l3, rfl, q, l3, _, rfl, hq9.same (same_upd m3), .inl (.inl upd_same), (hq9.ne_none m3).symm, List.cons_ne_nil _ _, by simp, fun G2 x b2 hp2 hx => ?_⟩
    obtain ⟨dx, ox⟩ := ol x hx
    have ox2 := (ox.same (ntb_same (same_upd m3))).keep (ntb_but b2)
    have hB : But q H G2 := fun b o nb h => b2 b o nb (same_upd m3 _ _ (s9 _ _ h))
    refine ⟨.ref q, rfl, (by show 5 ≤ sizeLine; decide), fun l4 m4 => ⟨q, l4, _, rfl, hp2.same (same_upd m4), .inl (.inl upd_same), (hp2.ne_none m4).symm, List.cons_ne_nil _ _, by simp, fun G3 y b3 hp3 hy => ?_⟩⟩
    obtain ⟨n, rfl, hn0, hn1⟩ : ∃ n : Int, y = .int n ∧ 0 ≤ n ∧ n ≤ 17 := by
      simp only [List.mem_cons, List.not_mem_nil, or_false] at hy
      rcases hy with h | h | h | h | h <;> exact ⟨_, h, by decide, by decide⟩
    refine ⟨n, rfl, by omega, by omega, ?_⟩
    refine for_range (lo := 0) (n := n.toNat) (fun i σ H5 => ∃ y1 x5 d5 y3, σ = [some (.ref q), y1, some x5, y3] ∧ But q H H5 ∧ Pot H5 q ∧ OdT K q H5 i x5 d5)
      ⟨_, x, dx, _, rfl, hB.trans (But.trans (Same.but (same_upd m4)) b3), hp3, (ox2.same (ntb_same (same_upd m4))).keep (ntb_but b3)⟩ ?_ ?_
    · rintro i σ H5 hi ⟨y1, x5, d5, y3, rfl, b5, hq5, o5⟩
      refine ⟨x5, rfl, (by show 1 ≤ sizeLine; decide), fun a1 i1 => ⟨x5, rfl, (by show 1 ≤ sizeLine; decide), fun a2 i2 => fun a3 i3 => ⟨x5, rfl, upd_same, [(Sum.inr "a", x5)], rfl, (by show 1 ≤ 15; decide), x5, rfl, (by show 2 ≤ sizeLine; decide), fun a4 i4 => ⟨(by show 4 ≤ sizeLine; decide), fun a5 i5 => ?_⟩⟩⟩⟩
      have w1 := same_upd (o := .tup [x5]) i1
      have w2 := same_upd (o := .lst [x5]) i2
      have w3 := same_upd2 (o := .dK []) (o' := .dK (mergeK [] [(Sum.inr "a", x5)])) i3
      have w4 := same_upd (o := .tup [x5, .int 1]) i4
      have w5 := same_upd (o := .lst [.ref a1, .ref a2, .ref a3, .ref a4]) i5
      have g45 := w4.trans w5
      have g35 := w3.trans g45
      have g25 := w2.trans g35
      have g15 := w1.trans g25
      refine ⟨.ref q, rfl, q, 4, rfl, hq5.same g15, by decide, by decide, fun H6 d b6 hq6 d0 d1 => ?_⟩
      have hl : SqL K H6 a5 [.ref a1, .ref a2, .ref a3, .ref a4] := .inl (.inl (b6 _ _ ((hq5.same (w1.trans (w2.trans (w3.trans w4)))).ne_none i5).symm upd_same))
      have o6' := (o5.same (ntb_same g15)).keep (ntb_but b6)
      have n1' := (hq5.ne_none i1).symm
      have n2' := ((hq5.same w1).ne_none i2).symm
      have n3' := ((hq5.same (w1.trans w2)).ne_none i3).symm
      have n4' := ((hq5.same (w1.trans (w2.trans w3))).ne_none i4).symm
      have bb : But q H H6 := b5.trans ((Same.but g15).trans b6)
      obtain ⟨j, rfl⟩ : ∃ j : Nat, d = j := ⟨d.toNat, by omega⟩
      have hj : j < 4 := by omega
      have nm : ∀ {a : Addr}, a ≠ q → a ∉ [q] := fun n z => n (List.mem_singleton.mp z)
      match j, hj with
      | 0, _ => exact ⟨a5, _, 0, _, rfl, rfl, hl, atI_nat (j := 0) rfl, _, _, _, _, rfl, bb, hq6, o6'.tup1 (ntb_at (b6 _ _ n1' (g25 _ _ upd_same)) fun _ z => nomatch z) (nm n1')⟩
      | 1, _ => exact ⟨a5, _, 1, _, rfl, rfl, hl, atI_nat (j := 1) rfl, _, _, _, _, rfl, bb, hq6, o6'.lst1 (ntb_at (b6 _ _ n2' (g35 _ _ upd_same)) fun _ z => nomatch z) (nm n2')⟩
      | 2, _ => exact ⟨a5, _, 2, _, rfl, rfl, hl, atI_nat (j := 2) rfl, _, _, _, _, rfl, bb, hq6, o6'.dct1 (ntb_at (b6 _ _ n3' (g45 _ _ upd_same)) fun _ z => nomatch z) (nm n3')⟩
      | 3, _ => exact ⟨a5, _, 3, _, rfl, rfl, hl, atI_nat (j := 3) rfl, _, _, _, _, rfl, bb, hq6, o6'.tup2 (ntb_at (b6 _ _ n4' (w5 _ _ upd_same)) fun _ z => nomatch z) (nm n4')⟩
    · rintro σ H5 ⟨y1, x5, d5, y3, rfl, b5, hq5, o5⟩
      exact ⟨x5, rfl, fin _ x5 d5 b5 hq5 (o5.up (by omega))⟩
end
section
variable {P : Program} {w : World} {K : PySem.W.Frag} {mg : Str → Option Value} {base : Heap}
end
end Ph

set_option maxHeartbeats 8000000
namespace Ph
open PySem PySem.Spec PyProof.Rows L2
/-! ### an error made: C(x), C(f = x) -/
def tEr (C : Addr) (f : Str) (i : Nat) : TE := fun σ H Q => tVar i σ H fun x H1 => ∀ a d H', Same H1 H' → H' a = some (ExK (.ref C) (some d) a) → H' d = some (.xd [(f, x)]) → Q (.ref a) H'
theorem er_wish {C : Addr} {f : Str} {x : V} {H : Hp} {Q : VK} (q : ∀ a d H', Same H H' → H' a = some (ExK (.ref C) (some d) a) → H' d = some (.xd [(f, x)]) → Q (.ref a) H') : ErrX C f x H (fun cls d H' => ∀ a, H' a = none → Q (.ref a) (upd H' a (ExK cls d a))) :=
  fun H' d s hd a na => q a d _ (s.trans (same_upd na)) upd_same (same_upd na _ _ hd)
section
variable {X : Cx}
theorem pe_er {e : Expr} {C : Addr} {f : Str} {i : Nat} (m : PE X e (tMkx (tMkO C (spEi C f) [] (tCons (tVar i) tNil)))) : PE X e (tEr C f i) :=
  ⟨fun pins s σ H Q I h => m.run pins s σ H Q I (by
    obtain ⟨x, ex, q⟩ := h
    exact ⟨x, ex, (by show 1 ≤ 1000; decide), fun a na => ei_out (er_wish q) a na⟩)⟩
theorem pe_erK {e : Expr} {C : Addr} {f : Str} {i : Nat} (m : PE X e (tMkx (tMkK C 1 (spEi C f) (fun vs zs => vs ++ zs) (tCons (tVar i) tNil)))) : PE X e (tEr C f i) :=
  ⟨fun pins s σ H Q I h => m.run pins s σ H Q I (by
    obtain ⟨x, ex, q⟩ := h
    exact ⟨x, ex, rfl, fun a na => ei_out (er_wish q) a na⟩)⟩
end
section
variable {P : Program} {w : World} {K : PySem.W.Frag} {mg : Str → Option Value} {base : Heap}
theorem ok_Xa {k : Nat} (Z : Fns K mg) : FnOk P w K mg base CX0 (k + 1) Z.fXa Z.fdXa ["self", "chain"] (spEi Z.CBadChain "chain") := by
  refine Z.FXa.ok scXa (fun vs H Q E h => ?_) (fun cdv A outer s H vs Q E hr h => ?_)
  · obtain ⟨a, x, rfl, _⟩ := h
    rfl
  · obtain ⟨a, x, rfl, ha, q⟩ := h
    refine ⟨_, (pss_one (ps_ost (pv 0) (pv 1) rfl)), ?_⟩
    exact ⟨x, rfl, .ref a, rfl, a, Z.CBadChain, rfl, Z.oxBadChain, Z.nfBadChain_chain, .inl ⟨ha, q⟩⟩
theorem ok_Xb {k : Nat} (Z : Fns K mg) : FnOk P w K mg base CX0 (k + 1) Z.fXb Z.fdXb ["self", "pages"] (spEi Z.CBadPages "pages") := by
  refine Z.FXb.ok scXb (fun vs H Q E h => ?_) (fun cdv A outer s H vs Q E hr h => ?_)
  · obtain ⟨a, x, rfl, _⟩ := h
    rfl
  · obtain ⟨a, x, rfl, ha, q⟩ := h
    refine ⟨_, (pss_one (ps_ost (pv 0) (pv 1) rfl)), ?_⟩
    exact ⟨x, rfl, .ref a, rfl, a, Z.CBadPages, rfl, Z.oxBadPages, Z.nfBadPages_pages, .inl ⟨ha, q⟩⟩
theorem ok_Xc {k : Nat} (Z : Fns K mg) : FnOk P w K mg base CX0 (k + 1) Z.fXc Z.fdXc ["self", "limit"] (spEi Z.CBadLimit "limit") := by
  refine Z.FXc.ok scXc (fun vs H Q E h => ?_) (fun cdv A outer s H vs Q E hr h => ?_)
  · obtain ⟨a, x, rfl, _⟩ := h
    rfl
  · obtain ⟨a, x, rfl, ha, q⟩ := h
    refine ⟨_, (pss_one (ps_ost (pv 0) (pv 1) rfl)), ?_⟩
    exact ⟨x, rfl, .ref a, rfl, a, Z.CBadLimit, rfl, Z.oxBadLimit, Z.nfBadLimit_limit, .inl ⟨ha, q⟩⟩
theorem ok_Xd {k : Nat} (Z : Fns K mg) : FnOk P w K mg base CX0 (k + 1) Z.fXd Z.fdXd ["self", "rule"] (spEi Z.CBadRule "rule") := by
  refine Z.FXd.ok scXd (fun vs H Q E h => ?_) (fun cdv A outer s H vs Q E hr h => ?_)
  · obtain ⟨a, x, rfl, _⟩ := h
    rfl
  · obtain ⟨a, x, rfl, ha, q⟩ := h
    refine ⟨_, (pss_one (ps_ost (pv 0) (pv 1) rfl)), ?_⟩
    exact ⟨x, rfl, .ref a, rfl, a, Z.CBadRule, rfl, Z.oxBadRule, Z.nfBadRule_rule, .inl ⟨ha, q⟩⟩
theorem ok_Xe {k : Nat} (Z : Fns K mg) : FnOk P w K mg base CX0 (k + 1) Z.fXe Z.fdXe ["self", "size"] (spEi Z.CBadSize "size") := by
  refine Z.FXe.ok scXe (fun vs H Q E h => ?_) (fun cdv A outer s H vs Q E hr h => ?_)
  · obtain ⟨a, x, rfl, _⟩ := h
    rfl
  · obtain ⟨a, x, rfl, ha, q⟩ := h
    refine ⟨_, (pss_one (ps_ost (pv 0) (pv 1) rfl)), ?_⟩
    exact ⟨x, rfl, .ref a, rfl, a, Z.CBadSize, rfl, Z.oxBadSize, Z.nfBadSize_size, .inl ⟨ha, q⟩⟩
theorem ok_Xf {k : Nat} (Z : Fns K mg) : FnOk P w K mg base CX0 (k + 1) Z.fXf Z.fdXf ["self", "value"] (spEi Z.CBadState "value") := by
  refine Z.FXf.ok scXf (fun vs H Q E h => ?_) (fun cdv A outer s H vs Q E hr h => ?_)
  · obtain ⟨a, x, rfl, _⟩ := h
    rfl
  · obtain ⟨a, x, rfl, ha, q⟩ := h
    refine ⟨_, (pss_one (ps_ost (pv 0) (pv 1) rfl)), ?_⟩
    exact ⟨x, rfl, .ref a, rfl, a, Z.CBadState, rfl, Z.oxBadState, Z.nfBadState_value, .inl ⟨ha, q⟩⟩
theorem ok_Xg {k : Nat} (Z : Fns K mg) : FnOk P w K mg base CX0 (k + 1) Z.fXg Z.fdXg ["self", "address"] (spEi Z.CBadPlace "address") := by
  refine Z.FXg.ok scXg (fun vs H Q E h => ?_) (fun cdv A outer s H vs Q E hr h => ?_)
  · obtain ⟨a, x, rfl, _⟩ := h
    rfl
  · obtain ⟨a, x, rfl, ha, q⟩ := h
    refine ⟨_, (pss_one (ps_ost (pv 0) (pv 1) rfl)), ?_⟩
    exact ⟨x, rfl, .ref a, rfl, a, Z.CBadPlace, rfl, Z.oxBadPlace, Z.nfBadPlace_address, .inl ⟨ha, q⟩⟩
theorem ok_Xh {k : Nat} (Z : Fns K mg) : FnOk P w K mg base CX0 (k + 1) Z.fXh Z.fdXh ["self", "value"] (spEi Z.CBadAnswer "value") := by
  refine Z.FXh.ok scXh (fun vs H Q E h => ?_) (fun cdv A outer s H vs Q E hr h => ?_)
  · obtain ⟨a, x, rfl, _⟩ := h
    rfl
  · obtain ⟨a, x, rfl, ha, q⟩ := h
    refine ⟨_, (pss_one (ps_ost (pv 0) (pv 1) rfl)), ?_⟩
    exact ⟨x, rfl, .ref a, rfl, a, Z.CBadAnswer, rfl, Z.oxBadAnswer, Z.nfBadAnswer_value, .inl ⟨ha, q⟩⟩
theorem ok_Xi {k : Nat} (Z : Fns K mg) : FnOk P w K mg base CX0 (k + 1) Z.fXi Z.fdXi ["self", "number"] (spEi Z.CBadEvent "number") := by
  refine Z.FXi.ok scXi (fun vs H Q E h => ?_) (fun cdv A outer s H vs Q E hr h => ?_)
  · obtain ⟨a, x, rfl, _⟩ := h
    rfl
  · obtain ⟨a, x, rfl, ha, q⟩ := h
    refine ⟨_, (pss_one (ps_ost (pv 0) (pv 1) rfl)), ?_⟩
    exact ⟨x, rfl, .ref a, rfl, a, Z.CBadEvent, rfl, Z.oxBadEvent, Z.nfBadEvent_number, .inl ⟨ha, q⟩⟩
theorem ok_Xj {k : Nat} (Z : Fns K mg) : FnOk P w K mg base CX0 (k + 1) Z.fXj Z.fdXj ["self", "size"] (spEi Z.COverLimit "size") := by
  refine Z.FXj.ok scXj (fun vs H Q E h => ?_) (fun cdv A outer s H vs Q E hr h => ?_)
  · obtain ⟨a, x, rfl, _⟩ := h
    rfl
  · obtain ⟨a, x, rfl, ha, q⟩ := h
    refine ⟨_, (pss_one (ps_ost (pv 0) (pv 1) rfl)), ?_⟩
    exact ⟨x, rfl, .ref a, rfl, a, Z.COverLimit, rfl, Z.oxOverLimit, Z.nfOverLimit_size, .inl ⟨ha, q⟩⟩
theorem ok_Xk {k : Nat} (Z : Fns K mg) : FnOk P w K mg base CX0 (k + 1) Z.fXk Z.fdXk ["self", "size"] (spEi Z.CNoRoom "size") := by
  refine Z.FXk.ok scXk (fun vs H Q E h => ?_) (fun cdv A outer s H vs Q E hr h => ?_)
  · obtain ⟨a, x, rfl, _⟩ := h
    rfl
  · obtain ⟨a, x, rfl, ha, q⟩ := h
    refine ⟨_, (pss_one (ps_ost (pv 0) (pv 1) rfl)), ?_⟩
    exact ⟨x, rfl, .ref a, rfl, a, Z.CNoRoom, rfl, Z.oxNoRoom, Z.nfNoRoom_size, .inl ⟨ha, q⟩⟩
theorem ok_Xl {k : Nat} (Z : Fns K mg) : FnOk P w K mg base CX0 (k + 1) Z.fXl Z.fdXl ["self", "address"] (spEi Z.CNoBlock "address") := by
  refine Z.FXl.ok scXl (fun vs H Q E h => ?_) (fun cdv A outer s H vs Q E hr h => ?_)
  · obtain ⟨a, x, rfl, _⟩ := h
    rfl
  · obtain ⟨a, x, rfl, ha, q⟩ := h
    refine ⟨_, (pss_one (ps_ost (pv 0) (pv 1) rfl)), ?_⟩
    exact ⟨x, rfl, .ref a, rfl, a, Z.CNoBlock, rfl, Z.oxNoBlock, Z.nfNoBlock_address, .inl ⟨ha, q⟩⟩
theorem ok_Xm {k : Nat} (Z : Fns K mg) : FnOk P w K mg base CX0 (k + 1) Z.fXm Z.fdXm ["self", "limit"] (spEi Z.CTooMany "limit") := by
  refine Z.FXm.ok scXm (fun vs H Q E h => ?_) (fun cdv A outer s H vs Q E hr h => ?_)
  · obtain ⟨a, x, rfl, _⟩ := h
    rfl
  · obtain ⟨a, x, rfl, ha, q⟩ := h
    refine ⟨_, (pss_one (ps_ost (pv 0) (pv 1) rfl)), ?_⟩
    exact ⟨x, rfl, .ref a, rfl, a, Z.CTooMany, rfl, Z.oxTooMany, Z.nfTooMany_limit, .inl ⟨ha, q⟩⟩
theorem ok_Xn {k : Nat} (Z : Fns K mg) : FnOk P w K mg base CX0 (k + 1) Z.fXn Z.fdXn ["self", "row"] (spEi Z.CBadText "row") := by
  refine Z.FXn.ok scXn (fun vs H Q E h => ?_) (fun cdv A outer s H vs Q E hr h => ?_)
  · obtain ⟨a, x, rfl, _⟩ := h
    rfl
  · obtain ⟨a, x, rfl, ha, q⟩ := h
    refine ⟨_, (pss_one (ps_ost (pv 0) (pv 1) rfl)), ?_⟩
    exact ⟨x, rfl, .ref a, rfl, a, Z.CBadText, rfl, Z.oxBadText, Z.nfBadText_row, .inl ⟨ha, q⟩⟩
theorem ok_Xo {k : Nat} (Z : Fns K mg) : FnOk P w K mg base CX0 (k + 1) Z.fXo Z.fdXo ["self", "line"] (spEi Z.CBadLine "line") := by
  refine Z.FXo.ok scXo (fun vs H Q E h => ?_) (fun cdv A outer s H vs Q E hr h => ?_)
  · obtain ⟨a, x, rfl, _⟩ := h
    rfl
  · obtain ⟨a, x, rfl, ha, q⟩ := h
    refine ⟨_, (pss_one (ps_ost (pv 0) (pv 1) rfl)), ?_⟩
    exact ⟨x, rfl, .ref a, rfl, a, Z.CBadLine, rfl, Z.oxBadLine, Z.nfBadLine_line, .inl ⟨ha, q⟩⟩
theorem ok_Xp {k : Nat} (Z : Fns K mg) : FnOk P w K mg base CX0 (k + 1) Z.fXp Z.fdXp ["self"] spIni0 := by
  refine Z.FXp.ok scXp (fun vs H Q E h => ?_) (fun cdv A outer s H vs Q E hr h => ?_)
  · obtain ⟨a, rfl, _⟩ := h
    rfl
  · obtain ⟨a, rfl, q⟩ := h
    refine ⟨_, (pss_one ps_pass), ?_⟩
    exact q
theorem ok_Xq {k : Nat} (Z : Fns K mg) : FnOk P w K mg base CX0 (k + 1) Z.fXq Z.fdXq ["self"] spIni0 := by
  refine Z.FXq.ok scXq (fun vs H Q E h => ?_) (fun cdv A outer s H vs Q E hr h => ?_)
  · obtain ⟨a, rfl, _⟩ := h
    rfl
  · obtain ⟨a, rfl, q⟩ := h
    refine ⟨_, (pss_one ps_pass), ?_⟩
    exact q
theorem ok_Xr {k : Nat} (Z : Fns K mg) : FnOk P w K mg base CX0 (k + 1) Z.fXr Z.fdXr ["self"] spIni0 := by
  refine Z.FXr.ok scXr (fun vs H Q E h => ?_) (fun cdv A outer s H vs Q E hr h => ?_)
  · obtain ⟨a, rfl, _⟩ := h
    rfl
  · obtain ⟨a, rfl, q⟩ := h
    refine ⟨_, (pss_one ps_pass), ?_⟩
    exact q
theorem ok_Xs {k : Nat} (Z : Fns K mg) : FnOk P w K mg base CX0 (k + 1) Z.fXs Z.fdXs ["self"] spIni0 := by
  refine Z.FXs.ok scXs (fun vs H Q E h => ?_) (fun cdv A outer s H vs Q E hr h => ?_)
  · obtain ⟨a, rfl, _⟩ := h
    rfl
  · obtain ⟨a, rfl, q⟩ := h
    refine ⟨_, (pss_one ps_pass), ?_⟩
    exact q
theorem ok_I {k : Nat} (Z : Fns K mg) : FnOk P w K mg base CX0 (k + 1) Z.fI Z.fdI ["value"] (spI2 K) := by
  refine Z.FI.ok scI (fun vs H Q E h => ?_) (fun cdv A outer s H vs Q E hr h => ?_)
  · obtain ⟨x, rfl, _⟩ := h
    rfl
  · obtain ⟨x, rfl, h⟩ := h
    refine ⟨_, (pss_one (ps_ret (pe_and (pe_callB call_isi (by rfl) Z.N.isinstance (by decide +kernel) (pa_cons (pv 0) (pa_cons (pe_bltn (v := .ty "int") (by rfl) Z.N.int (by decide +kernel) rfl) pa_nil))) (pe_one (pe_not (pe_callB call_isi (by rfl) Z.N.isinstance (by decide +kernel) (pa_cons (pv 0) (pa_cons (pe_bltn (v := .ty "bool") (by rfl) Z.N.bool (by decide +kernel) rfl) pa_nil)))))))), ?_⟩
    rcases h with ⟨i, rfl, q⟩ | ⟨n, q⟩
    · refine ⟨.int i, rfl, .int i, .ty "int", .type "int", .type "int", true, rfl, .ty _, .base (.int _), kit_ty (by decide +kernel), _, rfl, ite2 (fun _ => ?_) (fun c => absurd rfl c)⟩
      exact ⟨.int i, rfl, .int i, .ty "bool", .type "int", .type "bool", false, rfl, .ty _, .base (.int _), kit_ty (by decide +kernel), _, rfl, q⟩
    cases n with
    | bl b =>
      refine ⟨.bl b, rfl, .bl b, .ty "int", .type "bool", .type "int", true, rfl, .ty _, .base (.bl _), kit_ty (by decide +kernel), _, rfl, ite2 (fun _ => ?_) (fun c => absurd rfl c)⟩
      exact ⟨.bl b, rfl, .bl b, .ty "bool", .type "bool", .type "bool", true, rfl, .ty _, .base (.bl _), kit_ty (by decide +kernel), _, rfl, q⟩
    | @ty _ t h n =>
      exact ⟨x, rfl, x, .ty "int", .type t, .type "int", false, rfl, .ty _, h, kit_ty n, _, rfl, ite2 (fun c => absurd c (by decide)) (fun _ => q)⟩
/-- the smallest of C that is at least i -/
def LeastOf (C : List Int) (i m : Int) : Prop := m ∈ C ∧ i ≤ m ∧ ∀ n ∈ C, i ≤ n → m ≤ n
theorem LeastOf.uniq {C : List Int} {i m n : Int} (h : LeastOf C i m) (k : LeastOf C i n) : m = n := Int.le_antisymm (h.2.2 n k.1 k.2.1) (k.2.2 m h.1 h.2.1)
def spRoX (K : PySem.W.Frag) (CB : Addr) : Sp := fun vs H Q E => ∃ (c : Addr) (C : List Int) (L : Int) (x : V), vs = [.ref c, x] ∧ ChAt H c C ∧ UpC C L ∧ C.length ≤ 1000 ∧
  ((∃ i : Int, x = .int i ∧ 1 ≤ i ∧ i ≤ L ∧ ∀ H' m, Same H H' → LeastOf C i m → Q (.int m) H') ∨ ((NoInt K H x ∨ ∃ i : Int, x = .int i ∧ ¬ (1 ≤ i ∧ i ≤ L)) ∧ ErrX CB "size" x H E))
theorem okX_Ro {k : Nat} (Z : Fns K mg) : FnOk P w K mg base (L2.CX P w) (k + 1 + 1 + 1) Z.fRo Z.fdRo ["chain", "words"] (spRoX K Z.CBadSize) := by
  have GI : FnOk P w K mg base CX0 (k + 1) Z.fI Z.fdI ["value"] (spI2 K) := ok_I Z
  have GXe : FnOk P w K mg base CX0 (k + 1) Z.fXe Z.fdXe ["self", "size"] (spEi Z.CBadSize "size") := ok_Xe Z
  refine Z.FRo.okX scRo (fun vs H Q E h => ?_) (fun cdv A outer s H vs Q E hr h => ?_)
  · obtain ⟨c, C, L, x, rfl, _⟩ := h
    rfl
  · obtain ⟨c, C, L, x, rfl, hc, up, hl, h⟩ := h
    have gl : atI (C.map V.int) (-1) = some (.int L) := by
      obtain ⟨r, e⟩ := up.last
      rw [e, List.map_append]
      exact atI_last _ _
    refine ⟨_, (pss_cons (ps_if (PW.pt (pw_or (pt_not (pt_val (pe_call GI (hr.mono (by omega)) (by rfl) Z.gI Z.FI.kp Z.bI .nil pass0 (pa_cons (pv 1) pa_nil)))) (pw_or1 (pt_not (pt_chain op_le op_le pe_int (pv 1) (pe_ix ix_tup (pv 0) (pe_un un_neg pe_int) (fun _ _ => rfl)))))))
 (pss_one (ps_raise rfl (takes_of rfl rfl rfl rfl) (pmk_oex Z.oxBadSize Z.iXe Z.tXe GXe (hr.mono (by omega)) Z.bXe .nil pass0 (by rfl) Z.gcBadSize (pa_cons (pv 1) pa_nil)))) pss_nil)
 (pss_one (ps_ret (pe_callB (cr_min rfl) (by rfl) Z.N.min (by decide +kernel) (pa_cons (pe_lc (own := [("size", 2)]) (g := (gName 2)) (by rfl) scRo.nd (pi_tup (pv 0)) (blkOk_by (N := scRoN) (sc := defScope scRoS) (by decide +kernel)) (fun _ _ _ _ _ => (pg_name (i := 2) scRo.nd rfl (.inl rfl))) (fun _ _ _ _ _ => (pts_one (pt_cmpR op_ge (pv 2) (pv 1) (nomark _)))) (fun _ _ _ _ _ => (pv 2))) pa_nil))))), ?_⟩
    rcases h with ⟨i, rfl, i1, iL, q⟩ | ⟨n, q⟩
    · refine ⟨.int i, rfl, .int i, rfl, .inl ⟨i, rfl, _, rfl, ite2 (fun c => absurd c (by decide)) (fun _ => ?_)⟩⟩
      refine ⟨.int i, rfl, _, _, rfl, rfl, _, rfl, ite2 (fun _ => ?_) (fun c => absurd (decide_eq_true i1) c)⟩
      refine ⟨.ref c, rfl, 1, rfl, c, _, -1, _, rfl, rfl, hc.sq, gl, _, _, rfl, rfl, _, rfl, ite2 (fun c => absurd c (by rw [decide_eq_true iL]; decide)) (fun _ => ?_)⟩
      refine ⟨.ref c, rfl, c, rfl, ⟨_, hc.sq⟩, fun D nD => ?_⟩
      refine lc_RF (walk_tup (K := K) (a := c) (xs := C.map V.int)) (fun _ _ _ _ y => YAt.same y) (fun j => decide (i ≤ C.getD j 0)) (fun _ j y => y = .int (C.getD j 0)) (fun _ _ _ _ _ h => h) nD (by rw [List.length_map]; exact Nat.lt_of_le_of_lt hl (by decide)) (fun H4 s4 => s4.tup hc.sq) (fun j x H4 H5 hj s4 y Z N hZ hN => ?_) (fun H4 zs s4 hE pr => ?_)
      · obtain ⟨rfl, hx⟩ := y
        obtain ⟨rfl, hm⟩ := getD_int hx
        refine ⟨rfl, .int _, rfl, .int i, rfl, _, _, rfl, rfl, _, rfl, ite2 (fun c0 => ?_) (fun c0 => ?_)⟩
        · exact ⟨_, rfl, hZ _ _ (Same.refl _) c0 rfl⟩
        · exact hN _ (Same.refl _) (Bool.eq_false_iff.mpr c0)
      · rw [List.length_map] at pr
        have ez := comp_filter (q := fun c => decide (i ≤ c)) pr
        subst ez
        refine ⟨D, _, rfl, .inl (.inl hE), ?_, fun z hz hmin => ?_⟩
        · exact List.length_pos_of_mem (List.mem_filter.mpr ⟨up.mem, by simpa using iL⟩)
        obtain ⟨z1, z2⟩ := List.mem_filter.mp hz
        exact q _ z s4 ⟨z1, by simpa using z2, fun n hn hi => hmin n (List.mem_filter.mpr ⟨hn, by simpa using hi⟩)⟩
    · rcases n with n | ⟨i, rfl, ni⟩
      · exact ⟨x, rfl, x, rfl, .inr ⟨n, _, rfl, ite2 (fun _ => ⟨x, rfl, (by show 1 ≤ 1000; decide), fun a0 na => ei_out q a0 na⟩) (fun c => absurd rfl c)⟩⟩
      · refine ⟨.int i, rfl, .int i, rfl, .inl ⟨i, rfl, _, rfl, ite2 (fun c => absurd c (by decide)) (fun _ => ?_)⟩⟩
        refine ⟨.int i, rfl, _, _, rfl, rfl, _, rfl, ite2 (fun c1 => ?_) (fun c1 => ?_)⟩
        · have c1 : (1 : Int) ≤ i := of_decide_eq_true c1
          refine ⟨.ref c, rfl, 1, rfl, c, _, -1, _, rfl, rfl, hc.sq, gl, _, _, rfl, rfl, _, rfl, ite2 (fun _ => ?_) (fun c => absurd (by rw [decide_eq_false (show ¬ i ≤ L by omega)]; decide) c)⟩
          exact ⟨.int i, rfl, (by show 1 ≤ 1000; decide), fun a0 na => ei_out q a0 na⟩
        · exact ⟨_, rfl, ite2 (fun _ => ⟨.int i, rfl, (by show 1 ≤ 1000; decide), fun a0 na => ei_out q a0 na⟩) (fun c => absurd rfl c)⟩
end
end Ph

set_option maxHeartbeats 8000000
namespace Ph
open PySem PySem.Spec PyProof.Rows L2
/-! ### the nineteen errors of one value -/
def EkAt (H : Hp) (x : V) (C : Addr) (fo : Option Str) (a : Addr) : Prop := match fo with
  | some f => ∃ d, H a = some (ExK (.ref C) (some d) a) ∧ H d = some (.xd [(f, x)])
  | none => H a = some (ExK (.ref C) none a)
theorem EkAt.same {H H' : Hp} {x : V} {C : Addr} {fo : Option Str} {a : Addr} (h : EkAt H x C fo a) (s : Same H H') : EkAt H' x C fo a := by
  cases fo with
  | none => exact s _ _ h
  | some f =>
    obtain ⟨d, h1, h2⟩ := h
    exact ⟨d, s _ _ h1, s _ _ h2⟩
def ErL (H : Hp) (x : V) : List (Addr × Option Str) → List Addr → Prop
  | [], [] => True
  | p :: ps, a :: es => EkAt H x p.1 p.2 a ∧ ErL H x ps es
  | _, _ => False
theorem ErL.same {H H' : Hp} {x : V} (s : Same H H') : ∀ {ps : List (Addr × Option Str)} {es : List Addr}, ErL H x ps es → ErL H' x ps es
  | [], [], _ => trivial
  | _ :: _, _ :: _, h => ⟨h.1.same s, h.2.same s⟩
theorem ErL.at {H : Hp} {x : V} : ∀ {ps : List (Addr × Option Str)} {es : List Addr} {i : Nat} {a : Addr}, ErL H x ps es → es[i]? = some a → ∃ p, ps[i]? = some p ∧ EkAt H x p.1 p.2 a
  | p :: _, b :: _, 0, a, h, e => by
    cases e
    exact ⟨p, rfl, h.1⟩
  | _ :: _, _ :: _, _ + 1, _, h, e => by
    rw [List.getElem?_cons_succ] at e
    obtain ⟨p, e1, e2⟩ := ErL.at h.2 e
    exact ⟨p, e1, e2⟩
  | [], [], _, _, _, e => nomatch e
section
variable {P : Program} {w : World} {K : PySem.W.Frag} {mg : Str → Option Value} {base : Heap}
def eTab (Z : Fns K mg) : List (Addr × Option Str) := [(Z.CBadChain, some "chain"), (Z.CBadPages, some "pages"), (Z.CBadLimit, some "limit"), (Z.CBadRule, some "rule"), (Z.CBadSize, some "size"), (Z.CBadState, some "value"), (Z.CBadPlace, some "address"), (Z.CBadAnswer, some "value"), (Z.CBadEvent, some "number"), (Z.COverLimit, some "size"), (Z.CNoRoom, some "size"), (Z.CNoBlock, some "address"), (Z.CTooMany, some "limit"), (Z.CBadText, some "row"), (Z.CBadLine, some "line"), (Z.CSafe, none), (Z.CUnsafe, none), (Z.CFinished, none), (Z.CNothingToUndo, none)]
def spBy (Z : Fns K mg) : Sp := fun vs H Q _ => ∃ x : V, vs = [x] ∧ ∀ H' L es, Same H H' → H' L = some (.lst (es.map V.ref)) → ErL H' x (eTab Z) es → Q (.ref L) H'
theorem ok_By {k : Nat} (Z : Fns K mg) : FnOk P w K mg base CX0 (k + 1 + 1 + 1) Z.fBy Z.fdBy ["_law_odd_here"] (spBy Z) := by
  have GXa : FnOk P w K mg base CX0 (k + 1) Z.fXa Z.fdXa ["self", "chain"] (spEi Z.CBadChain "chain") := ok_Xa Z
  have GXb : FnOk P w K mg base CX0 (k + 1) Z.fXb Z.fdXb ["self", "pages"] (spEi Z.CBadPages "pages") := ok_Xb Z
  have GXc : FnOk P w K mg base CX0 (k + 1) Z.fXc Z.fdXc ["self", "limit"] (spEi Z.CBadLimit "limit") := ok_Xc Z
  have GXd : FnOk P w K mg base CX0 (k + 1) Z.fXd Z.fdXd ["self", "rule"] (spEi Z.CBadRule "rule") := ok_Xd Z
  have GXe : FnOk P w K mg base CX0 (k + 1) Z.fXe Z.fdXe ["self", "size"] (spEi Z.CBadSize "size") := ok_Xe Z
  have GXf : FnOk P w K mg base CX0 (k + 1) Z.fXf Z.fdXf ["self", "value"] (spEi Z.CBadState "value") := ok_Xf Z
  have GXg : FnOk P w K mg base CX0 (k + 1) Z.fXg Z.fdXg ["self", "address"] (spEi Z.CBadPlace "address") := ok_Xg Z
  have GXh : FnOk P w K mg base CX0 (k + 1) Z.fXh Z.fdXh ["self", "value"] (spEi Z.CBadAnswer "value") := ok_Xh Z
  have GXi : FnOk P w K mg base CX0 (k + 1) Z.fXi Z.fdXi ["self", "number"] (spEi Z.CBadEvent "number") := ok_Xi Z
  have GXj : FnOk P w K mg base CX0 (k + 1) Z.fXj Z.fdXj ["self", "size"] (spEi Z.COverLimit "size") := ok_Xj Z
  have GXk : FnOk P w K mg base CX0 (k + 1) Z.fXk Z.fdXk ["self", "size"] (spEi Z.CNoRoom "size") := ok_Xk Z
  have GXl : FnOk P w K mg base CX0 (k + 1) Z.fXl Z.fdXl ["self", "address"] (spEi Z.CNoBlock "address") := ok_Xl Z
  have GXm : FnOk P w K mg base CX0 (k + 1) Z.fXm Z.fdXm ["self", "limit"] (spEi Z.CTooMany "limit") := ok_Xm Z
  have GXn : FnOk P w K mg base CX0 (k + 1) Z.fXn Z.fdXn ["self", "row"] (spEi Z.CBadText "row") := ok_Xn Z
  have GXo : FnOk P w K mg base CX0 (k + 1) Z.fXo Z.fdXo ["self", "line"] (spEi Z.CBadLine "line") := ok_Xo Z
  have GXp : FnOk P w K mg base CX0 (k + 1) Z.fXp Z.fdXp ["self"] spIni0 := ok_Xp Z
  have GXq : FnOk P w K mg base CX0 (k + 1) Z.fXq Z.fdXq ["self"] spIni0 := ok_Xq Z
  have GXr : FnOk P w K mg base CX0 (k + 1) Z.fXr Z.fdXr ["self"] spIni0 := ok_Xr Z
  have GXs : FnOk P w K mg base CX0 (k + 1) Z.fXs Z.fdXs ["self"] spIni0 := ok_Xs Z
  refine Z.FBy.ok scBy (fun vs H Q E h => ?_) (fun cdv A outer s H vs Q E hr h => ?_)
  · obtain ⟨x, rfl, _⟩ := h
    rfl
  · obtain ⟨x, rfl, q⟩ := h
    refine ⟨_, (pss_cons (ps_set (i := 1) scBy.nd rfl (.inl rfl) (pe_lst (pa_cons (pe_er (pe_mkx (pmk_oex Z.oxBadChain Z.iXa Z.tXa GXa (hr.mono (by omega)) Z.bXa .nil pass0 (by rfl) Z.gcBadChain (pa_cons (pv 0) pa_nil)))) (pa_cons (pe_er (pe_mkx (pmk_oex Z.oxBadPages Z.iXb Z.tXb GXb (hr.mono (by omega)) Z.bXb .nil pass0 (by rfl) Z.gcBadPages (pa_cons (pv 0) pa_nil)))) (pa_cons (pe_er (pe_mkx (pmk_oex Z.oxBadLimit Z.iXc Z.tXc GXc (hr.mono (by omega)) Z.bXc .nil pass0 (by rfl) Z.gcBadLimit (pa_cons (pv 0) pa_nil)))) (pa_cons (pe_er (pe_mkx (pmk_oex Z.oxBadRule Z.iXd Z.tXd GXd (hr.mono (by omega)) Z.bXd .nil pass0 (by rfl) Z.gcBadRule (pa_cons (pv 0) pa_nil)))) (pa_cons (pe_er (pe_mkx (pmk_oex Z.oxBadSize Z.iXe Z.tXe GXe (hr.mono (by omega)) Z.bXe .nil pass0 (by rfl) Z.gcBadSize (pa_cons (pv 0) pa_nil)))) (pa_cons (pe_er (pe_mkx (pmk_oex Z.oxBadState Z.iXf Z.tXf GXf (hr.mono (by omega)) Z.bXf .nil pass0 (by rfl) Z.gcBadState (pa_cons (pv 0) pa_nil)))) (pa_cons (pe_er (pe_mkx (pmk_oex Z.oxBadPlace Z.iXg Z.tXg GXg (hr.mono (by omega)) Z.bXg .nil pass0 (by rfl) Z.gcBadPlace (pa_cons (pv 0) pa_nil)))) pa_nil)))))))))
 (pss_cons (ps_set (i := 1) scBy.nd rfl (.inl rfl) (pe_op op_cat (pv 1) (pe_lst (pa_cons (pe_er (pe_mkx (pmk_oex Z.oxBadAnswer Z.iXh Z.tXh GXh (hr.mono (by omega)) Z.bXh .nil pass0 (by rfl) Z.gcBadAnswer (pa_cons (pv 0) pa_nil)))) (pa_cons (pe_er (pe_mkx (pmk_oex Z.oxBadEvent Z.iXi Z.tXi GXi (hr.mono (by omega)) Z.bXi .nil pass0 (by rfl) Z.gcBadEvent (pa_cons (pv 0) pa_nil)))) (pa_cons (pe_er (pe_mkx (pmk_oex Z.oxOverLimit Z.iXj Z.tXj GXj (hr.mono (by omega)) Z.bXj .nil pass0 (by rfl) Z.gcOverLimit (pa_cons (pv 0) pa_nil)))) (pa_cons (pe_er (pe_mkx (pmk_oex Z.oxNoRoom Z.iXk Z.tXk GXk (hr.mono (by omega)) Z.bXk .nil pass0 (by rfl) Z.gcNoRoom (pa_cons (pv 0) pa_nil)))) (pa_cons (pe_er (pe_mkx (pmk_oex Z.oxNoBlock Z.iXl Z.tXl GXl (hr.mono (by omega)) Z.bXl .nil pass0 (by rfl) Z.gcNoBlock (pa_cons (pv 0) pa_nil)))) (pa_cons (pe_er (pe_mkx (pmk_oex Z.oxTooMany Z.iXm Z.tXm GXm (hr.mono (by omega)) Z.bXm .nil pass0 (by rfl) Z.gcTooMany (pa_cons (pv 0) pa_nil)))) pa_nil)))))))))
 (pss_one (ps_ret (pe_op op_cat (pv 1) (pe_lst (pa_cons (pe_er (pe_mkx (pmk_oex Z.oxBadText Z.iXn Z.tXn GXn (hr.mono (by omega)) Z.bXn .nil pass0 (by rfl) Z.gcBadText (pa_cons (pv 0) pa_nil)))) (pa_cons (pe_er (pe_mkx (pmk_oex Z.oxBadLine Z.iXo Z.tXo GXo (hr.mono (by omega)) Z.bXo .nil pass0 (by rfl) Z.gcBadLine (pa_cons (pv 0) pa_nil)))) (pa_cons (pe_mkx (pmk_own0 Z.oxSafe Z.iXp Z.tXp GXp (hr.mono (by omega)) Z.bXp pass0 (by rfl) Z.gcSafe)) (pa_cons (pe_mkx (pmk_own0 Z.oxUnsafe Z.iXq Z.tXq GXq (hr.mono (by omega)) Z.bXq pass0 (by rfl) Z.gcUnsafe)) (pa_cons (pe_mkx (pmk_own0 Z.oxFinished Z.iXr Z.tXr GXr (hr.mono (by omega)) Z.bXr pass0 (by rfl) Z.gcFinished)) (pa_cons (pe_mkx (pmk_own0 Z.oxNothingToUndo Z.iXs Z.tXs GXs (hr.mono (by omega)) Z.bXs pass0 (by rfl) Z.gcNothingToUndo)) pa_nil)))))))))))), ?_⟩
    refine ⟨x, rfl, fun a0 d0 H0 s0 u0 v0 => ?_⟩
    have e0 : EkAt H0 x Z.CBadChain (some "chain") a0 := ⟨d0, u0, v0⟩
    clear u0 v0
    refine ⟨x, rfl, fun a1 d1 H1 s1 u1 v1 => ?_⟩
    have e1 : EkAt H1 x Z.CBadPages (some "pages") a1 := ⟨d1, u1, v1⟩
    clear u1 v1
    refine ⟨x, rfl, fun a2 d2 H2 s2 u2 v2 => ?_⟩
    have e2 : EkAt H2 x Z.CBadLimit (some "limit") a2 := ⟨d2, u2, v2⟩
    clear u2 v2
    refine ⟨x, rfl, fun a3 d3 H3 s3 u3 v3 => ?_⟩
    have e3 : EkAt H3 x Z.CBadRule (some "rule") a3 := ⟨d3, u3, v3⟩
    clear u3 v3
    refine ⟨x, rfl, fun a4 d4 H4 s4 u4 v4 => ?_⟩
    have e4 : EkAt H4 x Z.CBadSize (some "size") a4 := ⟨d4, u4, v4⟩
    clear u4 v4
    refine ⟨x, rfl, fun a5 d5 H5 s5 u5 v5 => ?_⟩
    have e5 : EkAt H5 x Z.CBadState (some "value") a5 := ⟨d5, u5, v5⟩
    clear u5 v5
    refine ⟨x, rfl, fun a6 d6 H6 s6 u6 v6 => ?_⟩
    have e6 : EkAt H6 x Z.CBadPlace (some "address") a6 := ⟨d6, u6, v6⟩
    clear u6 v6
    refine ⟨(by show 7 ≤ sizeLine; decide), fun M0 m0 => ?_⟩
    have sm0 := same_upd (o := .lst [V.ref a0, V.ref a1, V.ref a2, V.ref a3, V.ref a4, V.ref a5, V.ref a6]) m0
    have em0 : upd _ M0 (.lst [V.ref a0, V.ref a1, V.ref a2, V.ref a3, V.ref a4, V.ref a5, V.ref a6]) M0 = some (.lst [V.ref a0, V.ref a1, V.ref a2, V.ref a3, V.ref a4, V.ref a5, V.ref a6]) := upd_same (H := H6)
    generalize upd H6 M0 (.lst [V.ref a0, V.ref a1, V.ref a2, V.ref a3, V.ref a4, V.ref a5, V.ref a6]) = G0 at *
    dsimp only [gName]
    refine ⟨.ref M0, rfl, ?_⟩
    refine ⟨x, rfl, fun a7 d7 H7 s7 u7 v7 => ?_⟩
    have e7 : EkAt H7 x Z.CBadAnswer (some "value") a7 := ⟨d7, u7, v7⟩
    clear u7 v7
    refine ⟨x, rfl, fun a8 d8 H8 s8 u8 v8 => ?_⟩
    have e8 : EkAt H8 x Z.CBadEvent (some "number") a8 := ⟨d8, u8, v8⟩
    clear u8 v8
    refine ⟨x, rfl, fun a9 d9 H9 s9 u9 v9 => ?_⟩
    have e9 : EkAt H9 x Z.COverLimit (some "size") a9 := ⟨d9, u9, v9⟩
    clear u9 v9
    refine ⟨x, rfl, fun a10 d10 H10 s10 u10 v10 => ?_⟩
    have e10 : EkAt H10 x Z.CNoRoom (some "size") a10 := ⟨d10, u10, v10⟩
    clear u10 v10
    refine ⟨x, rfl, fun a11 d11 H11 s11 u11 v11 => ?_⟩
    have e11 : EkAt H11 x Z.CNoBlock (some "address") a11 := ⟨d11, u11, v11⟩
    clear u11 v11
    refine ⟨x, rfl, fun a12 d12 H12 s12 u12 v12 => ?_⟩
    have e12 : EkAt H12 x Z.CTooMany (some "limit") a12 := ⟨d12, u12, v12⟩
    clear u12 v12
    refine ⟨(by show 6 ≤ sizeLine; decide), fun M1 m1 => ?_⟩
    have sm1 := same_upd (o := .lst [V.ref a7, V.ref a8, V.ref a9, V.ref a10, V.ref a11, V.ref a12]) m1
    have em1 : upd _ M1 (.lst [V.ref a7, V.ref a8, V.ref a9, V.ref a10, V.ref a11, V.ref a12]) M1 = some (.lst [V.ref a7, V.ref a8, V.ref a9, V.ref a10, V.ref a11, V.ref a12]) := upd_same (H := H12)
    generalize upd H12 M1 (.lst [V.ref a7, V.ref a8, V.ref a9, V.ref a10, V.ref a11, V.ref a12]) = G1 at *
    refine ⟨M0, M1, _, _, rfl, rfl, (s7.trans (s8.trans (s9.trans (s10.trans (s11.trans (s12.trans sm1)))))) _ _ em0, em1, (by show 13 ≤ sizeLine; decide), fun N1 n01 => ?_⟩
    have sn1 := same_upd (o := .lst ([V.ref a0, V.ref a1, V.ref a2, V.ref a3, V.ref a4, V.ref a5, V.ref a6] ++ [V.ref a7, V.ref a8, V.ref a9, V.ref a10, V.ref a11, V.ref a12])) n01
    have en1 : upd G1 N1 (.lst ([V.ref a0, V.ref a1, V.ref a2, V.ref a3, V.ref a4, V.ref a5, V.ref a6] ++ [V.ref a7, V.ref a8, V.ref a9, V.ref a10, V.ref a11, V.ref a12])) N1 = some (.lst ([V.ref a0, V.ref a1, V.ref a2, V.ref a3, V.ref a4, V.ref a5, V.ref a6] ++ [V.ref a7, V.ref a8, V.ref a9, V.ref a10, V.ref a11, V.ref a12])) := upd_same
    dsimp only [gName]
    generalize upd G1 N1 (.lst ([V.ref a0, V.ref a1, V.ref a2, V.ref a3, V.ref a4, V.ref a5, V.ref a6] ++ [V.ref a7, V.ref a8, V.ref a9, V.ref a10, V.ref a11, V.ref a12])) = J1 at *
    refine ⟨.ref N1, rfl, ?_⟩
    refine ⟨x, rfl, fun a13 d13 H13 s13 u13 v13 => ?_⟩
    have e13 : EkAt H13 x Z.CBadText (some "row") a13 := ⟨d13, u13, v13⟩
    clear u13 v13
    refine ⟨x, rfl, fun a14 d14 H14 s14 u14 v14 => ?_⟩
    have e14 : EkAt H14 x Z.CBadLine (some "line") a14 := ⟨d14, u14, v14⟩
    clear u14 v14
    refine fun a15 n15 => ?_
    have s15 := same_upd (o := ExK (.ref Z.CSafe) none a15) n15
    have e15 : EkAt (upd H14 a15 (ExK (.ref Z.CSafe) none a15)) x Z.CSafe none a15 := (upd_same (H := H14))
    generalize upd H14 a15 (ExK (.ref Z.CSafe) none a15) = H15 at *
    refine fun a16 n16 => ?_
    have s16 := same_upd (o := ExK (.ref Z.CUnsafe) none a16) n16
    have e16 : EkAt (upd H15 a16 (ExK (.ref Z.CUnsafe) none a16)) x Z.CUnsafe none a16 := (upd_same (H := H15))
    generalize upd H15 a16 (ExK (.ref Z.CUnsafe) none a16) = H16 at *
    refine fun a17 n17 => ?_
    have s17 := same_upd (o := ExK (.ref Z.CFinished) none a17) n17
    have e17 : EkAt (upd H16 a17 (ExK (.ref Z.CFinished) none a17)) x Z.CFinished none a17 := (upd_same (H := H16))
    generalize upd H16 a17 (ExK (.ref Z.CFinished) none a17) = H17 at *
    refine fun a18 n18 => ?_
    have s18 := same_upd (o := ExK (.ref Z.CNothingToUndo) none a18) n18
    have e18 : EkAt (upd H17 a18 (ExK (.ref Z.CNothingToUndo) none a18)) x Z.CNothingToUndo none a18 := (upd_same (H := H17))
    generalize upd H17 a18 (ExK (.ref Z.CNothingToUndo) none a18) = H18 at *
    refine ⟨(by show 6 ≤ sizeLine; decide), fun M2 m2 => ?_⟩
    have sm2 := same_upd (o := .lst [V.ref a13, V.ref a14, V.ref a15, V.ref a16, V.ref a17, V.ref a18]) m2
    have em2 : upd _ M2 (.lst [V.ref a13, V.ref a14, V.ref a15, V.ref a16, V.ref a17, V.ref a18]) M2 = some (.lst [V.ref a13, V.ref a14, V.ref a15, V.ref a16, V.ref a17, V.ref a18]) := upd_same (H := H18)
    generalize upd H18 M2 (.lst [V.ref a13, V.ref a14, V.ref a15, V.ref a16, V.ref a17, V.ref a18]) = G2 at *
    refine ⟨N1, M2, _, _, rfl, rfl, (s13.trans (s14.trans (s15.trans (s16.trans (s17.trans (s18.trans sm2)))))) _ _ en1, em2, (by show 19 ≤ sizeLine; decide), fun N2 n02 => ?_⟩
    have sn2 := same_upd (o := .lst (([V.ref a0, V.ref a1, V.ref a2, V.ref a3, V.ref a4, V.ref a5, V.ref a6] ++ [V.ref a7, V.ref a8, V.ref a9, V.ref a10, V.ref a11, V.ref a12]) ++ [V.ref a13, V.ref a14, V.ref a15, V.ref a16, V.ref a17, V.ref a18])) n02
    have en2 : upd G2 N2 (.lst (([V.ref a0, V.ref a1, V.ref a2, V.ref a3, V.ref a4, V.ref a5, V.ref a6] ++ [V.ref a7, V.ref a8, V.ref a9, V.ref a10, V.ref a11, V.ref a12]) ++ [V.ref a13, V.ref a14, V.ref a15, V.ref a16, V.ref a17, V.ref a18])) N2 = some (.lst (([V.ref a0, V.ref a1, V.ref a2, V.ref a3, V.ref a4, V.ref a5, V.ref a6] ++ [V.ref a7, V.ref a8, V.ref a9, V.ref a10, V.ref a11, V.ref a12]) ++ [V.ref a13, V.ref a14, V.ref a15, V.ref a16, V.ref a17, V.ref a18])) := upd_same
    have T22 := sm2.trans sn2
    have T21 := s18.trans T22
    have T20 := s17.trans T21
    have T19 := s16.trans T20
    have T18 := s15.trans T19
    have T17 := s14.trans T18
    have T16 := s13.trans T17
    have T15 := sn1.trans T16
    have T14 := sm1.trans T15
    have T13 := s12.trans T14
    have T12 := s11.trans T13
    have T11 := s10.trans T12
    have T10 := s9.trans T11
    have T9 := s8.trans T10
    have T8 := s7.trans T9
    have T7 := sm0.trans T8
    have T6 := s6.trans T7
    have T5 := s5.trans T6
    have T4 := s4.trans T5
    have T3 := s3.trans T4
    have T2 := s2.trans T3
    have T1 := s1.trans T2
    have T0 := s0.trans T1
    exact q _ _ [a0, a1, a2, a3, a4, a5, a6, a7, a8, a9, a10, a11, a12, a13, a14, a15, a16, a17, a18] T0 en2 ⟨e0.same T1, e1.same T2, e2.same T3, e3.same T4, e4.same T5, e5.same T6, e6.same T7, e7.same T9, e8.same T10, e9.same T11, e10.same T12, e11.same T13, e12.same T14, e13.same T17, e14.same T18, e15.same T19, e16.same T20, e17.same T21, e18.same T22, trivial⟩
theorem ok_Bn {k : Nat} (Z : Fns K mg) : FnOk P w K mg base CX0 (k + 1 + 1 + 1) Z.fBn Z.fdBn ["_law_odd_here"] (spBy Z) := by
  have GXa : FnOk P w K mg base CX0 (k + 1) Z.fXa Z.fdXa ["self", "chain"] (spEi Z.CBadChain "chain") := ok_Xa Z
  have GXb : FnOk P w K mg base CX0 (k + 1) Z.fXb Z.fdXb ["self", "pages"] (spEi Z.CBadPages "pages") := ok_Xb Z
  have GXc : FnOk P w K mg base CX0 (k + 1) Z.fXc Z.fdXc ["self", "limit"] (spEi Z.CBadLimit "limit") := ok_Xc Z
  have GXd : FnOk P w K mg base CX0 (k + 1) Z.fXd Z.fdXd ["self", "rule"] (spEi Z.CBadRule "rule") := ok_Xd Z
  have GXe : FnOk P w K mg base CX0 (k + 1) Z.fXe Z.fdXe ["self", "size"] (spEi Z.CBadSize "size") := ok_Xe Z
  have GXf : FnOk P w K mg base CX0 (k + 1) Z.fXf Z.fdXf ["self", "value"] (spEi Z.CBadState "value") := ok_Xf Z
  have GXg : FnOk P w K mg base CX0 (k + 1) Z.fXg Z.fdXg ["self", "address"] (spEi Z.CBadPlace "address") := ok_Xg Z
  have GXh : FnOk P w K mg base CX0 (k + 1) Z.fXh Z.fdXh ["self", "value"] (spEi Z.CBadAnswer "value") := ok_Xh Z
  have GXi : FnOk P w K mg base CX0 (k + 1) Z.fXi Z.fdXi ["self", "number"] (spEi Z.CBadEvent "number") := ok_Xi Z
  have GXj : FnOk P w K mg base CX0 (k + 1) Z.fXj Z.fdXj ["self", "size"] (spEi Z.COverLimit "size") := ok_Xj Z
  have GXk : FnOk P w K mg base CX0 (k + 1) Z.fXk Z.fdXk ["self", "size"] (spEi Z.CNoRoom "size") := ok_Xk Z
  have GXl : FnOk P w K mg base CX0 (k + 1) Z.fXl Z.fdXl ["self", "address"] (spEi Z.CNoBlock "address") := ok_Xl Z
  have GXm : FnOk P w K mg base CX0 (k + 1) Z.fXm Z.fdXm ["self", "limit"] (spEi Z.CTooMany "limit") := ok_Xm Z
  have GXn : FnOk P w K mg base CX0 (k + 1) Z.fXn Z.fdXn ["self", "row"] (spEi Z.CBadText "row") := ok_Xn Z
  have GXo : FnOk P w K mg base CX0 (k + 1) Z.fXo Z.fdXo ["self", "line"] (spEi Z.CBadLine "line") := ok_Xo Z
  have GXp : FnOk P w K mg base CX0 (k + 1) Z.fXp Z.fdXp ["self"] spIni0 := ok_Xp Z
  have GXq : FnOk P w K mg base CX0 (k + 1) Z.fXq Z.fdXq ["self"] spIni0 := ok_Xq Z
  have GXr : FnOk P w K mg base CX0 (k + 1) Z.fXr Z.fdXr ["self"] spIni0 := ok_Xr Z
  have GXs : FnOk P w K mg base CX0 (k + 1) Z.fXs Z.fdXs ["self"] spIni0 := ok_Xs Z
  have kbXa : KBn K Z.fdXa ["self", "chain"] 1 ["chain"] (fun us ws => us ++ ws) (fun vs zs => vs ++ zs) := kbe_of Z.FXa 1 ["chain"] (fun _ _ _ _ _ _ us ws h1 h2 => match us, ws, h1, h2 with | [_], [_], _, _ => rfl)
  have kbXb : KBn K Z.fdXb ["self", "pages"] 1 ["pages"] (fun us ws => us ++ ws) (fun vs zs => vs ++ zs) := kbe_of Z.FXb 1 ["pages"] (fun _ _ _ _ _ _ us ws h1 h2 => match us, ws, h1, h2 with | [_], [_], _, _ => rfl)
  have kbXc : KBn K Z.fdXc ["self", "limit"] 1 ["limit"] (fun us ws => us ++ ws) (fun vs zs => vs ++ zs) := kbe_of Z.FXc 1 ["limit"] (fun _ _ _ _ _ _ us ws h1 h2 => match us, ws, h1, h2 with | [_], [_], _, _ => rfl)
  have kbXd : KBn K Z.fdXd ["self", "rule"] 1 ["rule"] (fun us ws => us ++ ws) (fun vs zs => vs ++ zs) := kbe_of Z.FXd 1 ["rule"] (fun _ _ _ _ _ _ us ws h1 h2 => match us, ws, h1, h2 with | [_], [_], _, _ => rfl)
  have kbXe : KBn K Z.fdXe ["self", "size"] 1 ["size"] (fun us ws => us ++ ws) (fun vs zs => vs ++ zs) := kbe_of Z.FXe 1 ["size"] (fun _ _ _ _ _ _ us ws h1 h2 => match us, ws, h1, h2 with | [_], [_], _, _ => rfl)
  have kbXf : KBn K Z.fdXf ["self", "value"] 1 ["value"] (fun us ws => us ++ ws) (fun vs zs => vs ++ zs) := kbe_of Z.FXf 1 ["value"] (fun _ _ _ _ _ _ us ws h1 h2 => match us, ws, h1, h2 with | [_], [_], _, _ => rfl)
  have kbXg : KBn K Z.fdXg ["self", "address"] 1 ["address"] (fun us ws => us ++ ws) (fun vs zs => vs ++ zs) := kbe_of Z.FXg 1 ["address"] (fun _ _ _ _ _ _ us ws h1 h2 => match us, ws, h1, h2 with | [_], [_], _, _ => rfl)
  have kbXh : KBn K Z.fdXh ["self", "value"] 1 ["value"] (fun us ws => us ++ ws) (fun vs zs => vs ++ zs) := kbe_of Z.FXh 1 ["value"] (fun _ _ _ _ _ _ us ws h1 h2 => match us, ws, h1, h2 with | [_], [_], _, _ => rfl)
  have kbXi : KBn K Z.fdXi ["self", "number"] 1 ["number"] (fun us ws => us ++ ws) (fun vs zs => vs ++ zs) := kbe_of Z.FXi 1 ["number"] (fun _ _ _ _ _ _ us ws h1 h2 => match us, ws, h1, h2 with | [_], [_], _, _ => rfl)
  have kbXj : KBn K Z.fdXj ["self", "size"] 1 ["size"] (fun us ws => us ++ ws) (fun vs zs => vs ++ zs) := kbe_of Z.FXj 1 ["size"] (fun _ _ _ _ _ _ us ws h1 h2 => match us, ws, h1, h2 with | [_], [_], _, _ => rfl)
  have kbXk : KBn K Z.fdXk ["self", "size"] 1 ["size"] (fun us ws => us ++ ws) (fun vs zs => vs ++ zs) := kbe_of Z.FXk 1 ["size"] (fun _ _ _ _ _ _ us ws h1 h2 => match us, ws, h1, h2 with | [_], [_], _, _ => rfl)
  have kbXl : KBn K Z.fdXl ["self", "address"] 1 ["address"] (fun us ws => us ++ ws) (fun vs zs => vs ++ zs) := kbe_of Z.FXl 1 ["address"] (fun _ _ _ _ _ _ us ws h1 h2 => match us, ws, h1, h2 with | [_], [_], _, _ => rfl)
  have kbXm : KBn K Z.fdXm ["self", "limit"] 1 ["limit"] (fun us ws => us ++ ws) (fun vs zs => vs ++ zs) := kbe_of Z.FXm 1 ["limit"] (fun _ _ _ _ _ _ us ws h1 h2 => match us, ws, h1, h2 with | [_], [_], _, _ => rfl)
  have kbXn : KBn K Z.fdXn ["self", "row"] 1 ["row"] (fun us ws => us ++ ws) (fun vs zs => vs ++ zs) := kbe_of Z.FXn 1 ["row"] (fun _ _ _ _ _ _ us ws h1 h2 => match us, ws, h1, h2 with | [_], [_], _, _ => rfl)
  have kbXo : KBn K Z.fdXo ["self", "line"] 1 ["line"] (fun us ws => us ++ ws) (fun vs zs => vs ++ zs) := kbe_of Z.FXo 1 ["line"] (fun _ _ _ _ _ _ us ws h1 h2 => match us, ws, h1, h2 with | [_], [_], _, _ => rfl)
  refine Z.FBn.ok scBn (fun vs H Q E h => ?_) (fun cdv A outer s H vs Q E hr h => ?_)
  · obtain ⟨x, rfl, _⟩ := h
    rfl
  · obtain ⟨x, rfl, q⟩ := h
    refine ⟨_, (pss_cons (ps_set (i := 1) scBn.nd rfl (.inl rfl) (pe_lst (pa_cons (pe_erK (pe_mkx (pmk_kw (ks := ["chain"]) Z.oxBadChain Z.iXa Z.tXa GXa (hr.mono (by omega)) kbXa pass0 (by rfl) Z.gcBadChain (pk_cons (pv 0) pk_nil)))) (pa_cons (pe_erK (pe_mkx (pmk_kw (ks := ["pages"]) Z.oxBadPages Z.iXb Z.tXb GXb (hr.mono (by omega)) kbXb pass0 (by rfl) Z.gcBadPages (pk_cons (pv 0) pk_nil)))) (pa_cons (pe_erK (pe_mkx (pmk_kw (ks := ["limit"]) Z.oxBadLimit Z.iXc Z.tXc GXc (hr.mono (by omega)) kbXc pass0 (by rfl) Z.gcBadLimit (pk_cons (pv 0) pk_nil)))) (pa_cons (pe_erK (pe_mkx (pmk_kw (ks := ["rule"]) Z.oxBadRule Z.iXd Z.tXd GXd (hr.mono (by omega)) kbXd pass0 (by rfl) Z.gcBadRule (pk_cons (pv 0) pk_nil)))) (pa_cons (pe_erK (pe_mkx (pmk_kw (ks := ["size"]) Z.oxBadSize Z.iXe Z.tXe GXe (hr.mono (by omega)) kbXe pass0 (by rfl) Z.gcBadSize (pk_cons (pv 0) pk_nil)))) pa_nil)))))))
 (pss_cons (ps_set (i := 1) scBn.nd rfl (.inl rfl) (pe_op op_cat (pv 1) (pe_lst (pa_cons (pe_erK (pe_mkx (pmk_kw (ks := ["value"]) Z.oxBadState Z.iXf Z.tXf GXf (hr.mono (by omega)) kbXf pass0 (by rfl) Z.gcBadState (pk_cons (pv 0) pk_nil)))) (pa_cons (pe_erK (pe_mkx (pmk_kw (ks := ["address"]) Z.oxBadPlace Z.iXg Z.tXg GXg (hr.mono (by omega)) kbXg pass0 (by rfl) Z.gcBadPlace (pk_cons (pv 0) pk_nil)))) (pa_cons (pe_erK (pe_mkx (pmk_kw (ks := ["value"]) Z.oxBadAnswer Z.iXh Z.tXh GXh (hr.mono (by omega)) kbXh pass0 (by rfl) Z.gcBadAnswer (pk_cons (pv 0) pk_nil)))) (pa_cons (pe_erK (pe_mkx (pmk_kw (ks := ["number"]) Z.oxBadEvent Z.iXi Z.tXi GXi (hr.mono (by omega)) kbXi pass0 (by rfl) Z.gcBadEvent (pk_cons (pv 0) pk_nil)))) pa_nil)))))))
 (pss_cons (ps_set (i := 1) scBn.nd rfl (.inl rfl) (pe_op op_cat (pv 1) (pe_lst (pa_cons (pe_erK (pe_mkx (pmk_kw (ks := ["size"]) Z.oxOverLimit Z.iXj Z.tXj GXj (hr.mono (by omega)) kbXj pass0 (by rfl) Z.gcOverLimit (pk_cons (pv 0) pk_nil)))) (pa_cons (pe_erK (pe_mkx (pmk_kw (ks := ["size"]) Z.oxNoRoom Z.iXk Z.tXk GXk (hr.mono (by omega)) kbXk pass0 (by rfl) Z.gcNoRoom (pk_cons (pv 0) pk_nil)))) (pa_cons (pe_erK (pe_mkx (pmk_kw (ks := ["address"]) Z.oxNoBlock Z.iXl Z.tXl GXl (hr.mono (by omega)) kbXl pass0 (by rfl) Z.gcNoBlock (pk_cons (pv 0) pk_nil)))) (pa_cons (pe_erK (pe_mkx (pmk_kw (ks := ["limit"]) Z.oxTooMany Z.iXm Z.tXm GXm (hr.mono (by omega)) kbXm pass0 (by rfl) Z.gcTooMany (pk_cons (pv 0) pk_nil)))) pa_nil)))))))
 (pss_one (ps_ret (pe_op op_cat (pv 1) (pe_lst (pa_cons (pe_erK (pe_mkx (pmk_kw (ks := ["row"]) Z.oxBadText Z.iXn Z.tXn GXn (hr.mono (by omega)) kbXn pass0 (by rfl) Z.gcBadText (pk_cons (pv 0) pk_nil)))) (pa_cons (pe_erK (pe_mkx (pmk_kw (ks := ["line"]) Z.oxBadLine Z.iXo Z.tXo GXo (hr.mono (by omega)) kbXo pass0 (by rfl) Z.gcBadLine (pk_cons (pv 0) pk_nil)))) (pa_cons (pe_mkx (pmk_own0 Z.oxSafe Z.iXp Z.tXp GXp (hr.mono (by omega)) Z.bXp pass0 (by rfl) Z.gcSafe)) (pa_cons (pe_mkx (pmk_own0 Z.oxUnsafe Z.iXq Z.tXq GXq (hr.mono (by omega)) Z.bXq pass0 (by rfl) Z.gcUnsafe)) (pa_cons (pe_mkx (pmk_own0 Z.oxFinished Z.iXr Z.tXr GXr (hr.mono (by omega)) Z.bXr pass0 (by rfl) Z.gcFinished)) (pa_cons (pe_mkx (pmk_own0 Z.oxNothingToUndo Z.iXs Z.tXs GXs (hr.mono (by omega)) Z.bXs pass0 (by rfl) Z.gcNothingToUndo)) pa_nil))))))))))))), ?_⟩
    refine ⟨x, rfl, fun a0 d0 H0 s0 u0 v0 => ?_⟩
    have e0 : EkAt H0 x Z.CBadChain (some "chain") a0 := ⟨d0, u0, v0⟩
    clear u0 v0
    refine ⟨x, rfl, fun a1 d1 H1 s1 u1 v1 => ?_⟩
    have e1 : EkAt H1 x Z.CBadPages (some "pages") a1 := ⟨d1, u1, v1⟩
    clear u1 v1
    refine ⟨x, rfl, fun a2 d2 H2 s2 u2 v2 => ?_⟩
    have e2 : EkAt H2 x Z.CBadLimit (some "limit") a2 := ⟨d2, u2, v2⟩
    clear u2 v2
    refine ⟨x, rfl, fun a3 d3 H3 s3 u3 v3 => ?_⟩
    have e3 : EkAt H3 x Z.CBadRule (some "rule") a3 := ⟨d3, u3, v3⟩
    clear u3 v3
    refine ⟨x, rfl, fun a4 d4 H4 s4 u4 v4 => ?_⟩
    have e4 : EkAt H4 x Z.CBadSize (some "size") a4 := ⟨d4, u4, v4⟩
    clear u4 v4
    refine ⟨(by show 5 ≤ sizeLine; decide), fun M0 m0 => ?_⟩
    have sm0 := same_upd (o := .lst [V.ref a0, V.ref a1, V.ref a2, V.ref a3, V.ref a4]) m0
    have em0 : upd _ M0 (.lst [V.ref a0, V.ref a1, V.ref a2, V.ref a3, V.ref a4]) M0 = some (.lst [V.ref a0, V.ref a1, V.ref a2, V.ref a3, V.ref a4]) := upd_same (H := H4)
    generalize upd H4 M0 (.lst [V.ref a0, V.ref a1, V.ref a2, V.ref a3, V.ref a4]) = G0 at *
    dsimp only [gName]
    refine ⟨.ref M0, rfl, ?_⟩
    refine ⟨x, rfl, fun a5 d5 H5 s5 u5 v5 => ?_⟩
    have e5 : EkAt H5 x Z.CBadState (some "value") a5 := ⟨d5, u5, v5⟩
    clear u5 v5
    refine ⟨x, rfl, fun a6 d6 H6 s6 u6 v6 => ?_⟩
    have e6 : EkAt H6 x Z.CBadPlace (some "address") a6 := ⟨d6, u6, v6⟩
    clear u6 v6
    refine ⟨x, rfl, fun a7 d7 H7 s7 u7 v7 => ?_⟩
    have e7 : EkAt H7 x Z.CBadAnswer (some "value") a7 := ⟨d7, u7, v7⟩
    clear u7 v7
    refine ⟨x, rfl, fun a8 d8 H8 s8 u8 v8 => ?_⟩
    have e8 : EkAt H8 x Z.CBadEvent (some "number") a8 := ⟨d8, u8, v8⟩
    clear u8 v8
    refine ⟨(by show 4 ≤ sizeLine; decide), fun M1 m1 => ?_⟩
    have sm1 := same_upd (o := .lst [V.ref a5, V.ref a6, V.ref a7, V.ref a8]) m1
    have em1 : upd _ M1 (.lst [V.ref a5, V.ref a6, V.ref a7, V.ref a8]) M1 = some (.lst [V.ref a5, V.ref a6, V.ref a7, V.ref a8]) := upd_same (H := H8)
    generalize upd H8 M1 (.lst [V.ref a5, V.ref a6, V.ref a7, V.ref a8]) = G1 at *
    refine ⟨M0, M1, _, _, rfl, rfl, (s5.trans (s6.trans (s7.trans (s8.trans sm1)))) _ _ em0, em1, (by show 9 ≤ sizeLine; decide), fun N1 n01 => ?_⟩
    have sn1 := same_upd (o := .lst ([V.ref a0, V.ref a1, V.ref a2, V.ref a3, V.ref a4] ++ [V.ref a5, V.ref a6, V.ref a7, V.ref a8])) n01
    have en1 : upd G1 N1 (.lst ([V.ref a0, V.ref a1, V.ref a2, V.ref a3, V.ref a4] ++ [V.ref a5, V.ref a6, V.ref a7, V.ref a8])) N1 = some (.lst ([V.ref a0, V.ref a1, V.ref a2, V.ref a3, V.ref a4] ++ [V.ref a5, V.ref a6, V.ref a7, V.ref a8])) := upd_same
    dsimp only [gName]
    generalize upd G1 N1 (.lst ([V.ref a0, V.ref a1, V.ref a2, V.ref a3, V.ref a4] ++ [V.ref a5, V.ref a6, V.ref a7, V.ref a8])) = J1 at *
    refine ⟨.ref N1, rfl, ?_⟩
    refine ⟨x, rfl, fun a9 d9 H9 s9 u9 v9 => ?_⟩
    have e9 : EkAt H9 x Z.COverLimit (some "size") a9 := ⟨d9, u9, v9⟩
    clear u9 v9
    refine ⟨x, rfl, fun a10 d10 H10 s10 u10 v10 => ?_⟩
    have e10 : EkAt H10 x Z.CNoRoom (some "size") a10 := ⟨d10, u10, v10⟩
    clear u10 v10
    refine ⟨x, rfl, fun a11 d11 H11 s11 u11 v11 => ?_⟩
    have e11 : EkAt H11 x Z.CNoBlock (some "address") a11 := ⟨d11, u11, v11⟩
    clear u11 v11
    refine ⟨x, rfl, fun a12 d12 H12 s12 u12 v12 => ?_⟩
    have e12 : EkAt H12 x Z.CTooMany (some "limit") a12 := ⟨d12, u12, v12⟩
    clear u12 v12
    refine ⟨(by show 4 ≤ sizeLine; decide), fun M2 m2 => ?_⟩
    have sm2 := same_upd (o := .lst [V.ref a9, V.ref a10, V.ref a11, V.ref a12]) m2
    have em2 : upd _ M2 (.lst [V.ref a9, V.ref a10, V.ref a11, V.ref a12]) M2 = some (.lst [V.ref a9, V.ref a10, V.ref a11, V.ref a12]) := upd_same (H := H12)
    generalize upd H12 M2 (.lst [V.ref a9, V.ref a10, V.ref a11, V.ref a12]) = G2 at *
    refine ⟨N1, M2, _, _, rfl, rfl, (s9.trans (s10.trans (s11.trans (s12.trans sm2)))) _ _ en1, em2, (by show 13 ≤ sizeLine; decide), fun N2 n02 => ?_⟩
    have sn2 := same_upd (o := .lst (([V.ref a0, V.ref a1, V.ref a2, V.ref a3, V.ref a4] ++ [V.ref a5, V.ref a6, V.ref a7, V.ref a8]) ++ [V.ref a9, V.ref a10, V.ref a11, V.ref a12])) n02
    have en2 : upd G2 N2 (.lst (([V.ref a0, V.ref a1, V.ref a2, V.ref a3, V.ref a4] ++ [V.ref a5, V.ref a6, V.ref a7, V.ref a8]) ++ [V.ref a9, V.ref a10, V.ref a11, V.ref a12])) N2 = some (.lst (([V.ref a0, V.ref a1, V.ref a2, V.ref a3, V.ref a4] ++ [V.ref a5, V.ref a6, V.ref a7, V.ref a8]) ++ [V.ref a9, V.ref a10, V.ref a11, V.ref a12])) := upd_same
    dsimp only [gName]
    generalize upd G2 N2 (.lst (([V.ref a0, V.ref a1, V.ref a2, V.ref a3, V.ref a4] ++ [V.ref a5, V.ref a6, V.ref a7, V.ref a8]) ++ [V.ref a9, V.ref a10, V.ref a11, V.ref a12])) = J2 at *
    refine ⟨.ref N2, rfl, ?_⟩
    refine ⟨x, rfl, fun a13 d13 H13 s13 u13 v13 => ?_⟩
    have e13 : EkAt H13 x Z.CBadText (some "row") a13 := ⟨d13, u13, v13⟩
    clear u13 v13
    refine ⟨x, rfl, fun a14 d14 H14 s14 u14 v14 => ?_⟩
    have e14 : EkAt H14 x Z.CBadLine (some "line") a14 := ⟨d14, u14, v14⟩
    clear u14 v14
    refine fun a15 n15 => ?_
    have s15 := same_upd (o := ExK (.ref Z.CSafe) none a15) n15
    have e15 : EkAt (upd H14 a15 (ExK (.ref Z.CSafe) none a15)) x Z.CSafe none a15 := (upd_same (H := H14))
    generalize upd H14 a15 (ExK (.ref Z.CSafe) none a15) = H15 at *
    refine fun a16 n16 => ?_
    have s16 := same_upd (o := ExK (.ref Z.CUnsafe) none a16) n16
    have e16 : EkAt (upd H15 a16 (ExK (.ref Z.CUnsafe) none a16)) x Z.CUnsafe none a16 := (upd_same (H := H15))
    generalize upd H15 a16 (ExK (.ref Z.CUnsafe) none a16) = H16 at *
    refine fun a17 n17 => ?_
    have s17 := same_upd (o := ExK (.ref Z.CFinished) none a17) n17
    have e17 : EkAt (upd H16 a17 (ExK (.ref Z.CFinished) none a17)) x Z.CFinished none a17 := (upd_same (H := H16))
    generalize upd H16 a17 (ExK (.ref Z.CFinished) none a17) = H17 at *
    refine fun a18 n18 => ?_
    have s18 := same_upd (o := ExK (.ref Z.CNothingToUndo) none a18) n18
    have e18 : EkAt (upd H17 a18 (ExK (.ref Z.CNothingToUndo) none a18)) x Z.CNothingToUndo none a18 := (upd_same (H := H17))
    generalize upd H17 a18 (ExK (.ref Z.CNothingToUndo) none a18) = H18 at *
    refine ⟨(by show 6 ≤ sizeLine; decide), fun M3 m3 => ?_⟩
    have sm3 := same_upd (o := .lst [V.ref a13, V.ref a14, V.ref a15, V.ref a16, V.ref a17, V.ref a18]) m3
    have em3 : upd _ M3 (.lst [V.ref a13, V.ref a14, V.ref a15, V.ref a16, V.ref a17, V.ref a18]) M3 = some (.lst [V.ref a13, V.ref a14, V.ref a15, V.ref a16, V.ref a17, V.ref a18]) := upd_same (H := H18)
    generalize upd H18 M3 (.lst [V.ref a13, V.ref a14, V.ref a15, V.ref a16, V.ref a17, V.ref a18]) = G3 at *
    refine ⟨N2, M3, _, _, rfl, rfl, (s13.trans (s14.trans (s15.trans (s16.trans (s17.trans (s18.trans sm3)))))) _ _ en2, em3, (by show 19 ≤ sizeLine; decide), fun N3 n03 => ?_⟩
    have sn3 := same_upd (o := .lst ((([V.ref a0, V.ref a1, V.ref a2, V.ref a3, V.ref a4] ++ [V.ref a5, V.ref a6, V.ref a7, V.ref a8]) ++ [V.ref a9, V.ref a10, V.ref a11, V.ref a12]) ++ [V.ref a13, V.ref a14, V.ref a15, V.ref a16, V.ref a17, V.ref a18])) n03
    have en3 : upd G3 N3 (.lst ((([V.ref a0, V.ref a1, V.ref a2, V.ref a3, V.ref a4] ++ [V.ref a5, V.ref a6, V.ref a7, V.ref a8]) ++ [V.ref a9, V.ref a10, V.ref a11, V.ref a12]) ++ [V.ref a13, V.ref a14, V.ref a15, V.ref a16, V.ref a17, V.ref a18])) N3 = some (.lst ((([V.ref a0, V.ref a1, V.ref a2, V.ref a3, V.ref a4] ++ [V.ref a5, V.ref a6, V.ref a7, V.ref a8]) ++ [V.ref a9, V.ref a10, V.ref a11, V.ref a12]) ++ [V.ref a13, V.ref a14, V.ref a15, V.ref a16, V.ref a17, V.ref a18])) := upd_same
    have T24 := sm3.trans sn3
    have T23 := s18.trans T24
    have T22 := s17.trans T23
    have T21 := s16.trans T22
    have T20 := s15.trans T21
    have T19 := s14.trans T20
    have T18 := s13.trans T19
    have T17 := sn2.trans T18
    have T16 := sm2.trans T17
    have T15 := s12.trans T16
    have T14 := s11.trans T15
    have T13 := s10.trans T14
    have T12 := s9.trans T13
    have T11 := sn1.trans T12
    have T10 := sm1.trans T11
    have T9 := s8.trans T10
    have T8 := s7.trans T9
    have T7 := s6.trans T8
    have T6 := s5.trans T7
    have T5 := sm0.trans T6
    have T4 := s4.trans T5
    have T3 := s3.trans T4
    have T2 := s2.trans T3
    have T1 := s1.trans T2
    have T0 := s0.trans T1
    exact q _ _ [a0, a1, a2, a3, a4, a5, a6, a7, a8, a9, a10, a11, a12, a13, a14, a15, a16, a17, a18] T0 en3 ⟨e0.same T1, e1.same T2, e2.same T3, e3.same T4, e4.same T5, e5.same T7, e6.same T8, e7.same T9, e8.same T10, e9.same T13, e10.same T14, e11.same T15, e12.same T16, e13.same T19, e14.same T20, e15.same T21, e16.same T22, e17.same T23, e18.same T24, trivial⟩
end
end Ph

set_option maxHeartbeats 8000000
namespace Ph
open PySem PySem.Spec PyProof.Rows L2
section
variable {P : Program} {w : World} {K : PySem.W.Frag} {mg : Str → Option Value} {base : Heap}
structure Kit (Z : Fns K mg) (C : Addr) (bs : Nat → Bool) : Prop where
  k0 : PySem.W.kitOne K (.ref C) (.ref Z.CBadChain) = some (bs 0)
  k1 : PySem.W.kitOne K (.ref C) (.ref Z.CBadPages) = some (bs 1)
  k2 : PySem.W.kitOne K (.ref C) (.ref Z.CBadLimit) = some (bs 2)
  k3 : PySem.W.kitOne K (.ref C) (.ref Z.CBadRule) = some (bs 3)
  k4 : PySem.W.kitOne K (.ref C) (.ref Z.CBadSize) = some (bs 4)
  k5 : PySem.W.kitOne K (.ref C) (.ref Z.CBadState) = some (bs 5)
  k6 : PySem.W.kitOne K (.ref C) (.ref Z.CBadPlace) = some (bs 6)
  k7 : PySem.W.kitOne K (.ref C) (.ref Z.CBadAnswer) = some (bs 7)
  k8 : PySem.W.kitOne K (.ref C) (.ref Z.CBadEvent) = some (bs 8)
  k9 : PySem.W.kitOne K (.ref C) (.ref Z.COverLimit) = some (bs 9)
  k10 : PySem.W.kitOne K (.ref C) (.ref Z.CNoRoom) = some (bs 10)
  k11 : PySem.W.kitOne K (.ref C) (.ref Z.CNoBlock) = some (bs 11)
  k12 : PySem.W.kitOne K (.ref C) (.ref Z.CTooMany) = some (bs 12)
  k13 : PySem.W.kitOne K (.ref C) (.ref Z.CBadText) = some (bs 13)
  k14 : PySem.W.kitOne K (.ref C) (.ref Z.CBadLine) = some (bs 14)
  k15 : PySem.W.kitOne K (.ref C) (.ref Z.CSafe) = some (bs 15)
  k16 : PySem.W.kitOne K (.ref C) (.ref Z.CUnsafe) = some (bs 16)
  k17 : PySem.W.kitOne K (.ref C) (.ref Z.CFinished) = some (bs 17)
  k18 : PySem.W.kitOne K (.ref C) (.ref Z.CNothingToUndo) = some (bs 18)
def spKn (Z : Fns K mg) : Sp := fun vs H Q _ => ∃ (a C : Addr) (d : Option Addr) (bs : Nat → Bool), vs = [.ref a] ∧ H a = some (ExK (.ref C) d a) ∧ ExcC K C ∧ DictK H d ∧ Kit Z C bs ∧ ∀ H' L, Same H H' → H' L = some (.lst ((List.range 19).map fun i => V.bl (bs i))) → Q (.ref L) H'
theorem dk_same {H H' : Hp} {d : Option Addr} (k : DictK H d) (s : Same H H') : DictK H' d := k.elim .inl fun ⟨dd, fs, e, h⟩ => .inr ⟨dd, fs, e, s _ _ h⟩
theorem ok_Kn {k : Nat} (Z : Fns K mg) : FnOk P w K mg base CX0 (k + 1) Z.fKn Z.fdKn ["_law_e"] (spKn Z) := by
  refine Z.FKn.ok scKn (fun vs H Q E h => ?_) (fun cdv A outer s H vs Q E hr h => ?_)
  · obtain ⟨a, C, d, bs, rfl, _⟩ := h
    rfl
  · obtain ⟨a, C, d, bs, rfl, ha, ec, dk, kit, q⟩ := h
    refine ⟨_, (pss_cons (ps_set (i := 1) scKn.nd rfl (.inl rfl) (pe_lst (pa_cons (pe_callB call_isK (by rfl) Z.N.isinstance (by decide +kernel) (pa_cons (pv 0) (pa_cons (pe_glob (v := .ref Z.CBadChain) (by rfl) Z.gcBadChain rfl) pa_nil))) (pa_cons (pe_callB call_isK (by rfl) Z.N.isinstance (by decide +kernel) (pa_cons (pv 0) (pa_cons (pe_glob (v := .ref Z.CBadPages) (by rfl) Z.gcBadPages rfl) pa_nil))) (pa_cons (pe_callB call_isK (by rfl) Z.N.isinstance (by decide +kernel) (pa_cons (pv 0) (pa_cons (pe_glob (v := .ref Z.CBadLimit) (by rfl) Z.gcBadLimit rfl) pa_nil))) (pa_cons (pe_callB call_isK (by rfl) Z.N.isinstance (by decide +kernel) (pa_cons (pv 0) (pa_cons (pe_glob (v := .ref Z.CBadRule) (by rfl) Z.gcBadRule rfl) pa_nil))) pa_nil))))))
 (pss_cons (ps_set (i := 1) scKn.nd rfl (.inl rfl) (pe_op op_cat (pv 1) (pe_lst (pa_cons (pe_callB call_isK (by rfl) Z.N.isinstance (by decide +kernel) (pa_cons (pv 0) (pa_cons (pe_glob (v := .ref Z.CBadSize) (by rfl) Z.gcBadSize rfl) pa_nil))) (pa_cons (pe_callB call_isK (by rfl) Z.N.isinstance (by decide +kernel) (pa_cons (pv 0) (pa_cons (pe_glob (v := .ref Z.CBadState) (by rfl) Z.gcBadState rfl) pa_nil))) (pa_cons (pe_callB call_isK (by rfl) Z.N.isinstance (by decide +kernel) (pa_cons (pv 0) (pa_cons (pe_glob (v := .ref Z.CBadPlace) (by rfl) Z.gcBadPlace rfl) pa_nil))) pa_nil))))))
 (pss_cons (ps_set (i := 1) scKn.nd rfl (.inl rfl) (pe_op op_cat (pv 1) (pe_lst (pa_cons (pe_callB call_isK (by rfl) Z.N.isinstance (by decide +kernel) (pa_cons (pv 0) (pa_cons (pe_glob (v := .ref Z.CBadAnswer) (by rfl) Z.gcBadAnswer rfl) pa_nil))) (pa_cons (pe_callB call_isK (by rfl) Z.N.isinstance (by decide +kernel) (pa_cons (pv 0) (pa_cons (pe_glob (v := .ref Z.CBadEvent) (by rfl) Z.gcBadEvent rfl) pa_nil))) (pa_cons (pe_callB call_isK (by rfl) Z.N.isinstance (by decide +kernel) (pa_cons (pv 0) (pa_cons (pe_glob (v := .ref Z.COverLimit) (by rfl) Z.gcOverLimit rfl) pa_nil))) pa_nil))))))
 (pss_cons (ps_set (i := 1) scKn.nd rfl (.inl rfl) (pe_op op_cat (pv 1) (pe_lst (pa_cons (pe_callB call_isK (by rfl) Z.N.isinstance (by decide +kernel) (pa_cons (pv 0) (pa_cons (pe_glob (v := .ref Z.CNoRoom) (by rfl) Z.gcNoRoom rfl) pa_nil))) (pa_cons (pe_callB call_isK (by rfl) Z.N.isinstance (by decide +kernel) (pa_cons (pv 0) (pa_cons (pe_glob (v := .ref Z.CNoBlock) (by rfl) Z.gcNoBlock rfl) pa_nil))) (pa_cons (pe_callB call_isK (by rfl) Z.N.isinstance (by decide +kernel) (pa_cons (pv 0) (pa_cons (pe_glob (v := .ref Z.CTooMany) (by rfl) Z.gcTooMany rfl) pa_nil))) (pa_cons (pe_callB call_isK (by rfl) Z.N.isinstance (by decide +kernel) (pa_cons (pv 0) (pa_cons (pe_glob (v := .ref Z.CBadText) (by rfl) Z.gcBadText rfl) pa_nil))) pa_nil)))))))
 (pss_cons (ps_set (i := 1) scKn.nd rfl (.inl rfl) (pe_op op_cat (pv 1) (pe_lst (pa_cons (pe_callB call_isK (by rfl) Z.N.isinstance (by decide +kernel) (pa_cons (pv 0) (pa_cons (pe_glob (v := .ref Z.CBadLine) (by rfl) Z.gcBadLine rfl) pa_nil))) (pa_cons (pe_callB call_isK (by rfl) Z.N.isinstance (by decide +kernel) (pa_cons (pv 0) (pa_cons (pe_glob (v := .ref Z.CSafe) (by rfl) Z.gcSafe rfl) pa_nil))) (pa_cons (pe_callB call_isK (by rfl) Z.N.isinstance (by decide +kernel) (pa_cons (pv 0) (pa_cons (pe_glob (v := .ref Z.CUnsafe) (by rfl) Z.gcUnsafe rfl) pa_nil))) (pa_cons (pe_callB call_isK (by rfl) Z.N.isinstance (by decide +kernel) (pa_cons (pv 0) (pa_cons (pe_glob (v := .ref Z.CFinished) (by rfl) Z.gcFinished rfl) pa_nil))) pa_nil)))))))
 (pss_one (ps_ret (pe_op op_cat (pv 1) (pe_lst (pa_cons (pe_callB call_isK (by rfl) Z.N.isinstance (by decide +kernel) (pa_cons (pv 0) (pa_cons (pe_glob (v := .ref Z.CNothingToUndo) (by rfl) Z.gcNothingToUndo rfl) pa_nil))) pa_nil)))))))))), ?_⟩
    refine ⟨.ref a, rfl, a, _, _, _, _, bs 0, rfl, ha, ec, dk, (fun u r => r), kit.k0, .ref a, rfl, a, _, _, _, _, bs 1, rfl, ha, ec, dk, (fun u r => r), kit.k1, .ref a, rfl, a, _, _, _, _, bs 2, rfl, ha, ec, dk, (fun u r => r), kit.k2, .ref a, rfl, a, _, _, _, _, bs 3, rfl, ha, ec, dk, (fun u r => r), kit.k3, (by show 4 ≤ sizeLine; decide), fun M0 m0 => ?_⟩
    have sm0 := same_upd (o := .lst [V.bl (bs 0), V.bl (bs 1), V.bl (bs 2), V.bl (bs 3)]) m0
    have em0 : upd H M0 (.lst [V.bl (bs 0), V.bl (bs 1), V.bl (bs 2), V.bl (bs 3)]) M0 = some (.lst [V.bl (bs 0), V.bl (bs 1), V.bl (bs 2), V.bl (bs 3)]) := upd_same
    generalize upd H M0 (.lst [V.bl (bs 0), V.bl (bs 1), V.bl (bs 2), V.bl (bs 3)]) = G0 at *
    have t0 := sm0
    dsimp only [gName]
    refine ⟨.ref M0, rfl, .ref a, rfl, a, _, _, _, _, bs 4, rfl, (t0 _ _ ha), ec, (dk_same dk t0), (fun u r => r), kit.k4, .ref a, rfl, a, _, _, _, _, bs 5, rfl, (t0 _ _ ha), ec, (dk_same dk t0), (fun u r => r), kit.k5, .ref a, rfl, a, _, _, _, _, bs 6, rfl, (t0 _ _ ha), ec, (dk_same dk t0), (fun u r => r), kit.k6, (by show 3 ≤ sizeLine; decide), fun M1 m1 => ?_⟩
    have sm1 := same_upd (o := .lst [V.bl (bs 4), V.bl (bs 5), V.bl (bs 6)]) m1
    have em1 : upd G0 M1 (.lst [V.bl (bs 4), V.bl (bs 5), V.bl (bs 6)]) M1 = some (.lst [V.bl (bs 4), V.bl (bs 5), V.bl (bs 6)]) := upd_same
    generalize upd G0 M1 (.lst [V.bl (bs 4), V.bl (bs 5), V.bl (bs 6)]) = G1 at *
    refine ⟨M0, M1, _, _, rfl, rfl, sm1 _ _ em0, em1, (by show 7 ≤ sizeLine; decide), fun N1 n1 => ?_⟩
    have sn1 := same_upd (o := .lst ([V.bl (bs 0), V.bl (bs 1), V.bl (bs 2), V.bl (bs 3)] ++ [V.bl (bs 4), V.bl (bs 5), V.bl (bs 6)])) n1
    have en1 : upd G1 N1 (.lst ([V.bl (bs 0), V.bl (bs 1), V.bl (bs 2), V.bl (bs 3)] ++ [V.bl (bs 4), V.bl (bs 5), V.bl (bs 6)])) N1 = some (.lst ([V.bl (bs 0), V.bl (bs 1), V.bl (bs 2), V.bl (bs 3)] ++ [V.bl (bs 4), V.bl (bs 5), V.bl (bs 6)])) := upd_same
    have t1 := t0.trans (sm1.trans sn1)
    dsimp only [gName]
    generalize upd G1 N1 (.lst ([V.bl (bs 0), V.bl (bs 1), V.bl (bs 2), V.bl (bs 3)] ++ [V.bl (bs 4), V.bl (bs 5), V.bl (bs 6)])) = J1 at *
    refine ⟨.ref N1, rfl, .ref a, rfl, a, _, _, _, _, bs 7, rfl, (t1 _ _ ha), ec, (dk_same dk t1), (fun u r => r), kit.k7, .ref a, rfl, a, _, _, _, _, bs 8, rfl, (t1 _ _ ha), ec, (dk_same dk t1), (fun u r => r), kit.k8, .ref a, rfl, a, _, _, _, _, bs 9, rfl, (t1 _ _ ha), ec, (dk_same dk t1), (fun u r => r), kit.k9, (by show 3 ≤ sizeLine; decide), fun M2 m2 => ?_⟩
    have sm2 := same_upd (o := .lst [V.bl (bs 7), V.bl (bs 8), V.bl (bs 9)]) m2
    have em2 : upd J1 M2 (.lst [V.bl (bs 7), V.bl (bs 8), V.bl (bs 9)]) M2 = some (.lst [V.bl (bs 7), V.bl (bs 8), V.bl (bs 9)]) := upd_same
    generalize upd J1 M2 (.lst [V.bl (bs 7), V.bl (bs 8), V.bl (bs 9)]) = G2 at *
    refine ⟨N1, M2, _, _, rfl, rfl, sm2 _ _ en1, em2, (by show 10 ≤ sizeLine; decide), fun N2 n2 => ?_⟩
    have sn2 := same_upd (o := .lst (([V.bl (bs 0), V.bl (bs 1), V.bl (bs 2), V.bl (bs 3)] ++ [V.bl (bs 4), V.bl (bs 5), V.bl (bs 6)]) ++ [V.bl (bs 7), V.bl (bs 8), V.bl (bs 9)])) n2
    have en2 : upd G2 N2 (.lst (([V.bl (bs 0), V.bl (bs 1), V.bl (bs 2), V.bl (bs 3)] ++ [V.bl (bs 4), V.bl (bs 5), V.bl (bs 6)]) ++ [V.bl (bs 7), V.bl (bs 8), V.bl (bs 9)])) N2 = some (.lst (([V.bl (bs 0), V.bl (bs 1), V.bl (bs 2), V.bl (bs 3)] ++ [V.bl (bs 4), V.bl (bs 5), V.bl (bs 6)]) ++ [V.bl (bs 7), V.bl (bs 8), V.bl (bs 9)])) := upd_same
    have t2 := t1.trans (sm2.trans sn2)
    dsimp only [gName]
    generalize upd G2 N2 (.lst (([V.bl (bs 0), V.bl (bs 1), V.bl (bs 2), V.bl (bs 3)] ++ [V.bl (bs 4), V.bl (bs 5), V.bl (bs 6)]) ++ [V.bl (bs 7), V.bl (bs 8), V.bl (bs 9)])) = J2 at *
    refine ⟨.ref N2, rfl, .ref a, rfl, a, _, _, _, _, bs 10, rfl, (t2 _ _ ha), ec, (dk_same dk t2), (fun u r => r), kit.k10, .ref a, rfl, a, _, _, _, _, bs 11, rfl, (t2 _ _ ha), ec, (dk_same dk t2), (fun u r => r), kit.k11, .ref a, rfl, a, _, _, _, _, bs 12, rfl, (t2 _ _ ha), ec, (dk_same dk t2), (fun u r => r), kit.k12, .ref a, rfl, a, _, _, _, _, bs 13, rfl, (t2 _ _ ha), ec, (dk_same dk t2), (fun u r => r), kit.k13, (by show 4 ≤ sizeLine; decide), fun M3 m3 => ?_⟩
    have sm3 := same_upd (o := .lst [V.bl (bs 10), V.bl (bs 11), V.bl (bs 12), V.bl (bs 13)]) m3
    have em3 : upd J2 M3 (.lst [V.bl (bs 10), V.bl (bs 11), V.bl (bs 12), V.bl (bs 13)]) M3 = some (.lst [V.bl (bs 10), V.bl (bs 11), V.bl (bs 12), V.bl (bs 13)]) := upd_same
    generalize upd J2 M3 (.lst [V.bl (bs 10), V.bl (bs 11), V.bl (bs 12), V.bl (bs 13)]) = G3 at *
    refine ⟨N2, M3, _, _, rfl, rfl, sm3 _ _ en2, em3, (by show 14 ≤ sizeLine; decide), fun N3 n3 => ?_⟩
    have sn3 := same_upd (o := .lst ((([V.bl (bs 0), V.bl (bs 1), V.bl (bs 2), V.bl (bs 3)] ++ [V.bl (bs 4), V.bl (bs 5), V.bl (bs 6)]) ++ [V.bl (bs 7), V.bl (bs 8), V.bl (bs 9)]) ++ [V.bl (bs 10), V.bl (bs 11), V.bl (bs 12), V.bl (bs 13)])) n3
    have en3 : upd G3 N3 (.lst ((([V.bl (bs 0), V.bl (bs 1), V.bl (bs 2), V.bl (bs 3)] ++ [V.bl (bs 4), V.bl (bs 5), V.bl (bs 6)]) ++ [V.bl (bs 7), V.bl (bs 8), V.bl (bs 9)]) ++ [V.bl (bs 10), V.bl (bs 11), V.bl (bs 12), V.bl (bs 13)])) N3 = some (.lst ((([V.bl (bs 0), V.bl (bs 1), V.bl (bs 2), V.bl (bs 3)] ++ [V.bl (bs 4), V.bl (bs 5), V.bl (bs 6)]) ++ [V.bl (bs 7), V.bl (bs 8), V.bl (bs 9)]) ++ [V.bl (bs 10), V.bl (bs 11), V.bl (bs 12), V.bl (bs 13)])) := upd_same
    have t3 := t2.trans (sm3.trans sn3)
    dsimp only [gName]
    generalize upd G3 N3 (.lst ((([V.bl (bs 0), V.bl (bs 1), V.bl (bs 2), V.bl (bs 3)] ++ [V.bl (bs 4), V.bl (bs 5), V.bl (bs 6)]) ++ [V.bl (bs 7), V.bl (bs 8), V.bl (bs 9)]) ++ [V.bl (bs 10), V.bl (bs 11), V.bl (bs 12), V.bl (bs 13)])) = J3 at *
    refine ⟨.ref N3, rfl, .ref a, rfl, a, _, _, _, _, bs 14, rfl, (t3 _ _ ha), ec, (dk_same dk t3), (fun u r => r), kit.k14, .ref a, rfl, a, _, _, _, _, bs 15, rfl, (t3 _ _ ha), ec, (dk_same dk t3), (fun u r => r), kit.k15, .ref a, rfl, a, _, _, _, _, bs 16, rfl, (t3 _ _ ha), ec, (dk_same dk t3), (fun u r => r), kit.k16, .ref a, rfl, a, _, _, _, _, bs 17, rfl, (t3 _ _ ha), ec, (dk_same dk t3), (fun u r => r), kit.k17, (by show 4 ≤ sizeLine; decide), fun M4 m4 => ?_⟩
    have sm4 := same_upd (o := .lst [V.bl (bs 14), V.bl (bs 15), V.bl (bs 16), V.bl (bs 17)]) m4
    have em4 : upd J3 M4 (.lst [V.bl (bs 14), V.bl (bs 15), V.bl (bs 16), V.bl (bs 17)]) M4 = some (.lst [V.bl (bs 14), V.bl (bs 15), V.bl (bs 16), V.bl (bs 17)]) := upd_same
    generalize upd J3 M4 (.lst [V.bl (bs 14), V.bl (bs 15), V.bl (bs 16), V.bl (bs 17)]) = G4 at *
    refine ⟨N3, M4, _, _, rfl, rfl, sm4 _ _ en3, em4, (by show 18 ≤ sizeLine; decide), fun N4 n4 => ?_⟩
    have sn4 := same_upd (o := .lst (((([V.bl (bs 0), V.bl (bs 1), V.bl (bs 2), V.bl (bs 3)] ++ [V.bl (bs 4), V.bl (bs 5), V.bl (bs 6)]) ++ [V.bl (bs 7), V.bl (bs 8), V.bl (bs 9)]) ++ [V.bl (bs 10), V.bl (bs 11), V.bl (bs 12), V.bl (bs 13)]) ++ [V.bl (bs 14), V.bl (bs 15), V.bl (bs 16), V.bl (bs 17)])) n4
    have en4 : upd G4 N4 (.lst (((([V.bl (bs 0), V.bl (bs 1), V.bl (bs 2), V.bl (bs 3)] ++ [V.bl (bs 4), V.bl (bs 5), V.bl (bs 6)]) ++ [V.bl (bs 7), V.bl (bs 8), V.bl (bs 9)]) ++ [V.bl (bs 10), V.bl (bs 11), V.bl (bs 12), V.bl (bs 13)]) ++ [V.bl (bs 14), V.bl (bs 15), V.bl (bs 16), V.bl (bs 17)])) N4 = some (.lst (((([V.bl (bs 0), V.bl (bs 1), V.bl (bs 2), V.bl (bs 3)] ++ [V.bl (bs 4), V.bl (bs 5), V.bl (bs 6)]) ++ [V.bl (bs 7), V.bl (bs 8), V.bl (bs 9)]) ++ [V.bl (bs 10), V.bl (bs 11), V.bl (bs 12), V.bl (bs 13)]) ++ [V.bl (bs 14), V.bl (bs 15), V.bl (bs 16), V.bl (bs 17)])) := upd_same
    have t4 := t3.trans (sm4.trans sn4)
    dsimp only [gName]
    generalize upd G4 N4 (.lst (((([V.bl (bs 0), V.bl (bs 1), V.bl (bs 2), V.bl (bs 3)] ++ [V.bl (bs 4), V.bl (bs 5), V.bl (bs 6)]) ++ [V.bl (bs 7), V.bl (bs 8), V.bl (bs 9)]) ++ [V.bl (bs 10), V.bl (bs 11), V.bl (bs 12), V.bl (bs 13)]) ++ [V.bl (bs 14), V.bl (bs 15), V.bl (bs 16), V.bl (bs 17)])) = J4 at *
    refine ⟨.ref N4, rfl, .ref a, rfl, a, _, _, _, _, bs 18, rfl, (t4 _ _ ha), ec, (dk_same dk t4), (fun u r => r), kit.k18, (by show 1 ≤ sizeLine; decide), fun M5 m5 => ?_⟩
    have sm5 := same_upd (o := .lst [V.bl (bs 18)]) m5
    have em5 : upd J4 M5 (.lst [V.bl (bs 18)]) M5 = some (.lst [V.bl (bs 18)]) := upd_same
    generalize upd J4 M5 (.lst [V.bl (bs 18)]) = G5 at *
    refine ⟨N4, M5, _, _, rfl, rfl, sm5 _ _ en4, em5, (by show 19 ≤ sizeLine; decide), fun N5 n5 => ?_⟩
    have sn5 := same_upd (o := .lst ((((([V.bl (bs 0), V.bl (bs 1), V.bl (bs 2), V.bl (bs 3)] ++ [V.bl (bs 4), V.bl (bs 5), V.bl (bs 6)]) ++ [V.bl (bs 7), V.bl (bs 8), V.bl (bs 9)]) ++ [V.bl (bs 10), V.bl (bs 11), V.bl (bs 12), V.bl (bs 13)]) ++ [V.bl (bs 14), V.bl (bs 15), V.bl (bs 16), V.bl (bs 17)]) ++ [V.bl (bs 18)])) n5
    have en5 : upd G5 N5 (.lst ((((([V.bl (bs 0), V.bl (bs 1), V.bl (bs 2), V.bl (bs 3)] ++ [V.bl (bs 4), V.bl (bs 5), V.bl (bs 6)]) ++ [V.bl (bs 7), V.bl (bs 8), V.bl (bs 9)]) ++ [V.bl (bs 10), V.bl (bs 11), V.bl (bs 12), V.bl (bs 13)]) ++ [V.bl (bs 14), V.bl (bs 15), V.bl (bs 16), V.bl (bs 17)]) ++ [V.bl (bs 18)])) N5 = some (.lst ((((([V.bl (bs 0), V.bl (bs 1), V.bl (bs 2), V.bl (bs 3)] ++ [V.bl (bs 4), V.bl (bs 5), V.bl (bs 6)]) ++ [V.bl (bs 7), V.bl (bs 8), V.bl (bs 9)]) ++ [V.bl (bs 10), V.bl (bs 11), V.bl (bs 12), V.bl (bs 13)]) ++ [V.bl (bs 14), V.bl (bs 15), V.bl (bs 16), V.bl (bs 17)]) ++ [V.bl (bs 18)])) := upd_same
    have t5 := t4.trans (sm5.trans sn5)
    exact q _ _ t5 en5
def spHe (Z : Fns K mg) : Sp := fun vs H Q _ => ∃ (l : Addr) (x : V) (es : List Addr), vs = [.ref l] ∧ H l = some (.lst (es.map V.ref)) ∧ ErL H x (eTab Z) es ∧ ∀ H' L, Same H H' → H' L = some (.lst (List.replicate 15 x)) → Q (.ref L) H'
theorem ok_He {k : Nat} (Z : Fns K mg) : FnOk P w K mg base CX0 (k + 1) Z.fHe Z.fdHe ["_law_some"] (spHe Z) := by
  refine Z.FHe.ok scHe (fun vs H Q E h => ?_) (fun cdv A outer s H vs Q E hr h => ?_)
  · obtain ⟨l, x, es, rfl, _⟩ := h
    rfl
  · obtain ⟨l, x, es, rfl, hl, er, q⟩ := h
    refine ⟨_, (pss_cons (ps_set (i := 1) scHe.nd rfl (.inl rfl) (pe_lst (pa_cons (pe_xk Z.xfBadChain Z.nfBadChain_chain (pe_ix ix_list (pv 0) pe_int (fun _ _ => rfl))) (pa_cons (pe_xk Z.xfBadPages Z.nfBadPages_pages (pe_ix ix_list (pv 0) pe_int (fun _ _ => rfl))) (pa_cons (pe_xk Z.xfBadLimit Z.nfBadLimit_limit (pe_ix ix_list (pv 0) pe_int (fun _ _ => rfl))) (pa_cons (pe_xk Z.xfBadRule Z.nfBadRule_rule (pe_ix ix_list (pv 0) pe_int (fun _ _ => rfl))) (pa_cons (pe_xk Z.xfBadSize Z.nfBadSize_size (pe_ix ix_list (pv 0) pe_int (fun _ _ => rfl))) (pa_cons (pe_xk Z.xfBadState Z.nfBadState_value (pe_ix ix_list (pv 0) pe_int (fun _ _ => rfl))) pa_nil))))))))
 (pss_cons (ps_set (i := 1) scHe.nd rfl (.inl rfl) (pe_op op_cat (pv 1) (pe_lst (pa_cons (pe_xk Z.xfBadPlace Z.nfBadPlace_address (pe_ix ix_list (pv 0) pe_int (fun _ _ => rfl))) (pa_cons (pe_xk Z.xfBadAnswer Z.nfBadAnswer_value (pe_ix ix_list (pv 0) pe_int (fun _ _ => rfl))) (pa_cons (pe_xk Z.xfBadEvent Z.nfBadEvent_number (pe_ix ix_list (pv 0) pe_int (fun _ _ => rfl))) (pa_cons (pe_xk Z.xfOverLimit Z.nfOverLimit_size (pe_ix ix_list (pv 0) pe_int (fun _ _ => rfl))) (pa_cons (pe_xk Z.xfNoRoom Z.nfNoRoom_size (pe_ix ix_list (pv 0) pe_int (fun _ _ => rfl))) pa_nil))))))))
 (pss_one (ps_ret (pe_op op_cat (pv 1) (pe_lst (pa_cons (pe_xk Z.xfNoBlock Z.nfNoBlock_address (pe_ix ix_list (pv 0) pe_int (fun _ _ => rfl))) (pa_cons (pe_xk Z.xfTooMany Z.nfTooMany_limit (pe_ix ix_list (pv 0) pe_int (fun _ _ => rfl))) (pa_cons (pe_xk Z.xfBadText Z.nfBadText_row (pe_ix ix_list (pv 0) pe_int (fun _ _ => rfl))) (pa_cons (pe_xk Z.xfBadLine Z.nfBadLine_line (pe_ix ix_list (pv 0) pe_int (fun _ _ => rfl))) pa_nil)))))))))), ?_⟩
    obtain ⟨a0, a1, a2, a3, a4, a5, a6, a7, a8, a9, a10, a11, a12, a13, a14, a15, a16, a17, a18, rfl⟩ : ∃ a0 a1 a2 a3 a4 a5 a6 a7 a8 a9 a10 a11 a12 a13 a14 a15 a16 a17 a18, es = [a0, a1, a2, a3, a4, a5, a6, a7, a8, a9, a10, a11, a12, a13, a14, a15, a16, a17, a18] := by
      match es, er with
      | [a0, a1, a2, a3, a4, a5, a6, a7, a8, a9, a10, a11, a12, a13, a14, a15, a16, a17, a18], _ => exact ⟨_, _, _, _, _, _, _, _, _, _, _, _, _, _, _, _, _, _, _, rfl⟩
    obtain ⟨⟨d0, u0, v0⟩, ⟨d1, u1, v1⟩, ⟨d2, u2, v2⟩, ⟨d3, u3, v3⟩, ⟨d4, u4, v4⟩, ⟨d5, u5, v5⟩, ⟨d6, u6, v6⟩, ⟨d7, u7, v7⟩, ⟨d8, u8, v8⟩, ⟨d9, u9, v9⟩, ⟨d10, u10, v10⟩, ⟨d11, u11, v11⟩, ⟨d12, u12, v12⟩, ⟨d13, u13, v13⟩, ⟨d14, u14, v14⟩, _⟩ := er
    refine ⟨.ref l, rfl, l, _, 0, _, rfl, rfl, .inl (.inl hl), rfl, a0, d0, _, x, rfl, u0, v0, rfl, .ref l, rfl, l, _, 1, _, rfl, rfl, .inl (.inl hl), rfl, a1, d1, _, x, rfl, u1, v1, rfl, .ref l, rfl, l, _, 2, _, rfl, rfl, .inl (.inl hl), rfl, a2, d2, _, x, rfl, u2, v2, rfl, .ref l, rfl, l, _, 3, _, rfl, rfl, .inl (.inl hl), rfl, a3, d3, _, x, rfl, u3, v3, rfl, .ref l, rfl, l, _, 4, _, rfl, rfl, .inl (.inl hl), rfl, a4, d4, _, x, rfl, u4, v4, rfl, .ref l, rfl, l, _, 5, _, rfl, rfl, .inl (.inl hl), rfl, a5, d5, _, x, rfl, u5, v5, rfl, (by show 6 ≤ sizeLine; decide), fun M0 m0 => ?_⟩
    have sm0 := same_upd (o := .lst [x, x, x, x, x, x]) m0
    have em0 : upd H M0 (.lst [x, x, x, x, x, x]) M0 = some (.lst [x, x, x, x, x, x]) := upd_same
    generalize upd H M0 (.lst [x, x, x, x, x, x]) = G0 at *
    have t0 := sm0
    dsimp only [gName]
    refine ⟨.ref M0, rfl, .ref l, rfl, l, _, 6, _, rfl, rfl, .inl (.inl (t0 _ _ hl)), rfl, a6, d6, _, x, rfl, (t0 _ _ u6), (t0 _ _ v6), rfl, .ref l, rfl, l, _, 7, _, rfl, rfl, .inl (.inl (t0 _ _ hl)), rfl, a7, d7, _, x, rfl, (t0 _ _ u7), (t0 _ _ v7), rfl, .ref l, rfl, l, _, 8, _, rfl, rfl, .inl (.inl (t0 _ _ hl)), rfl, a8, d8, _, x, rfl, (t0 _ _ u8), (t0 _ _ v8), rfl, .ref l, rfl, l, _, 9, _, rfl, rfl, .inl (.inl (t0 _ _ hl)), rfl, a9, d9, _, x, rfl, (t0 _ _ u9), (t0 _ _ v9), rfl, .ref l, rfl, l, _, 10, _, rfl, rfl, .inl (.inl (t0 _ _ hl)), rfl, a10, d10, _, x, rfl, (t0 _ _ u10), (t0 _ _ v10), rfl, (by show 5 ≤ sizeLine; decide), fun M1 m1 => ?_⟩
    have sm1 := same_upd (o := .lst [x, x, x, x, x]) m1
    have em1 : upd G0 M1 (.lst [x, x, x, x, x]) M1 = some (.lst [x, x, x, x, x]) := upd_same
    generalize upd G0 M1 (.lst [x, x, x, x, x]) = G1 at *
    refine ⟨M0, M1, _, _, rfl, rfl, sm1 _ _ em0, em1, (by show 11 ≤ sizeLine; decide), fun N1 n1 => ?_⟩
    have sn1 := same_upd (o := .lst ([x, x, x, x, x, x] ++ [x, x, x, x, x])) n1
    have en1 : upd G1 N1 (.lst ([x, x, x, x, x, x] ++ [x, x, x, x, x])) N1 = some (.lst ([x, x, x, x, x, x] ++ [x, x, x, x, x])) := upd_same
    have t1 := t0.trans (sm1.trans sn1)
    dsimp only [gName]
    generalize upd G1 N1 (.lst ([x, x, x, x, x, x] ++ [x, x, x, x, x])) = J1 at *
    refine ⟨.ref N1, rfl, .ref l, rfl, l, _, 11, _, rfl, rfl, .inl (.inl (t1 _ _ hl)), rfl, a11, d11, _, x, rfl, (t1 _ _ u11), (t1 _ _ v11), rfl, .ref l, rfl, l, _, 12, _, rfl, rfl, .inl (.inl (t1 _ _ hl)), rfl, a12, d12, _, x, rfl, (t1 _ _ u12), (t1 _ _ v12), rfl, .ref l, rfl, l, _, 13, _, rfl, rfl, .inl (.inl (t1 _ _ hl)), rfl, a13, d13, _, x, rfl, (t1 _ _ u13), (t1 _ _ v13), rfl, .ref l, rfl, l, _, 14, _, rfl, rfl, .inl (.inl (t1 _ _ hl)), rfl, a14, d14, _, x, rfl, (t1 _ _ u14), (t1 _ _ v14), rfl, (by show 4 ≤ sizeLine; decide), fun M2 m2 => ?_⟩
    have sm2 := same_upd (o := .lst [x, x, x, x]) m2
    have em2 : upd J1 M2 (.lst [x, x, x, x]) M2 = some (.lst [x, x, x, x]) := upd_same
    generalize upd J1 M2 (.lst [x, x, x, x]) = G2 at *
    refine ⟨N1, M2, _, _, rfl, rfl, sm2 _ _ en1, em2, (by show 15 ≤ sizeLine; decide), fun N2 n2 => ?_⟩
    have sn2 := same_upd (o := .lst (([x, x, x, x, x, x] ++ [x, x, x, x, x]) ++ [x, x, x, x])) n2
    have en2 : upd G2 N2 (.lst (([x, x, x, x, x, x] ++ [x, x, x, x, x]) ++ [x, x, x, x])) N2 = some (.lst (([x, x, x, x, x, x] ++ [x, x, x, x, x]) ++ [x, x, x, x])) := upd_same
    have t2 := t1.trans (sm2.trans sn2)
    exact q _ _ t2 en2
end
end Ph

/-! PhOkc: a def whose code object is known (it makes defs or lambdas), as FnOk: no guards asked. -/
namespace Ph
open PySem PySem.Spec PyProof.Rows L2
theorem okC {P : Program} {w : World} {K : PySem.W.Frag} {mg : Str → Option Value} {base : Heap} {x qual : Str} {st : Stmt} {f : Addr} {fd : FuncData} {N ps : List Str} {k : Nat} {sp : Sp} {c : Addr} (F : Fun K x qual st f fd) (hc : fd.code = .ref c) (S : FnScope N ps (defScope st)) (len : ∀ vs H Q E, sp vs H Q E → vs.length = ps.length)
    (hbody : ∀ (A : Around) (outer : List Env) (s : Shared) (H : Hp) (vs : List V) (Q : VK) (E : XK), Room k (A.deeper (envOfC qual (defScope st) s.heap.objs.size f (.ref c))) → sp vs H Q E →
      ∃ t, PSs (cxOf CX0 P w K mg base N qual (defScope st) f (.ref c) A outer s H E).nox (defBody st) t ∧ t { nx := fun _ H' => Q .non H', rt := Q } (start N vs) H) : FnOk P w K mg base CX0 (k + 1) f fd ps sp := by
  obtain ⟨oc, od, kV, doc, pm, an, cdv, ct, osl, rfl, lk, hcd⟩ := F.ex
  obtain rfl : cdv = Value.ref c := hc
  refine fn_of lk hcd S len fun A outer s H vs Q E hr hsp => ?_
  obtain ⟨t, h, q⟩ := hbody A outer s H vs Q E hr hsp
  exact ⟨t, h.nox, q⟩
theorem okCX {P : Program} {w : World} {K : PySem.W.Frag} {mg : Str → Option Value} {base : Heap} {x qual : Str} {st : Stmt} {f : Addr} {fd : FuncData} {N ps : List Str} {k : Nat} {sp : Sp} {c : Addr} (F : Fun K x qual st f fd) (hc : fd.code = .ref c) (S : FnScope N ps (defScope st)) (len : ∀ vs H Q E, sp vs H Q E → vs.length = ps.length)
    (hbody : ∀ (A : Around) (outer : List Env) (s : Shared) (H : Hp) (vs : List V) (Q : VK) (E : XK), Room k (A.deeper (envOfC qual (defScope st) s.heap.objs.size f (.ref c))) → sp vs H Q E →
      ∃ t, PSs (cxOf (L2.CX P w) P w K mg base N qual (defScope st) f (.ref c) A outer s H E) (defBody st) t ∧ t { nx := fun _ H' => Q .non H', rt := Q } (start N vs) H) : FnOk P w K mg base (L2.CX P w) (k + 1) f fd ps sp := by
  obtain ⟨oc, od, kV, doc, pm, an, cdv, ct, osl, rfl, lk, hcd⟩ := F.ex
  obtain rfl : cdv = Value.ref c := hc
  exact fn_of lk hcd S len fun A outer s H vs Q E hr hsp => hbody A outer s H vs Q E hr hsp
/-- the heap may grow, tables aside: what an ExtN leaves -/
theorem ext_st {H H' : Hp} {t : Addr} {bs : List Bk} (x : LamX.ExtN H H') (h : StAt H t bs) : StAt H' t bs := by
  obtain ⟨xs, e, bl⟩ := h
  exact ⟨xs, ext_tup x e, BL.kp bl fun v us e => ext_tup x e⟩
theorem ext_ch {H H' : Hp} {c : Addr} {C : List Int} (x : LamX.ExtN H H') (h : ChAt H c C) : ChAt H' c C := h.frz fun o u e => ext_frz x e
theorem ext_ins {H H' : Hp} {h : Addr} {C dx : Addr} {fs : List (Str × V)} (x : LamX.ExtN H H') (e : H h = some (.ins C dx fs)) : H' h = some (.ins C dx fs) := x _ _ e fun _ z => nomatch z
end Ph

/-! PhHr: a heap of any rule, as an object, with its steps. -/
namespace Ph
open PySem PySem.Spec PyProof.Rows L2
def hfr (r : Str) (c : Addr) (pg M : Int) (t l : Addr) : List (Str × V) := [("chain", .ref c), ("pages", .int pg), ("limit", .int M), ("rule", .str r), ("blocks", .ref t), ("steps", .ref l)]
section
variable {r : Str} {c t l u : Addr} {pg M : Int}
theorem hr_chain : (hfr r c pg M t l).lookup ("chain" : Str) = some (.ref c) := rfl
theorem hr_pages : (hfr r c pg M t l).lookup ("pages" : Str) = some (.int pg) := rfl
theorem hr_limit : (hfr r c pg M t l).lookup ("limit" : Str) = some (.int M) := rfl
theorem hr_rule : (hfr r c pg M t l).lookup ("rule" : Str) = some (.str r) := rfl
theorem hr_blocks : (hfr r c pg M t l).lookup ("blocks" : Str) = some (.ref t) := rfl
theorem hr_steps : (hfr r c pg M t l).lookup ("steps" : Str) = some (.ref l) := rfl
theorem hr_put : putF "blocks" (.ref u) (hfr r c pg M t l) = hfr r c pg M u l := rfl
theorem hr_puts : putF "steps" (.ref u) (hfr r c pg M t l) = hfr r c pg M t u := rfl
end
abbrev Tri := Str × Int × Int
def StL (H : Hp) (xs : List V) (ss : List Tri) : Prop := Paired (fun x (t : Tri) => ∃ T, x = V.ref T ∧ H T = some (.tup [.str t.1, .int t.2.1, .int t.2.2])) xs ss
theorem paired_impL {α β : Type} {R S : α → β → Prop} (h : ∀ a b, R a b → S a b) : ∀ {l : List α} {m : List β}, Paired R l m → Paired S l m
  | _, _, .nil => .nil
  | _, _, .cons x r => .cons (h _ _ x) (paired_impL h r)
theorem StL.kp {H H' : Hp} {xs : List V} {ss : List Tri} (h : StL H xs ss) (k : KpT H H') : StL H' xs ss := paired_impL (fun x t ⟨T, e1, e2⟩ => ⟨T, e1, k _ _ e2⟩) h
theorem StL.len {H : Hp} {xs : List V} {ss : List Tri} (h : StL H xs ss) : xs.length = ss.length := h.length
structure HrA (C : Addr) (H : Hp) (h l c : Addr) (r : Str) (s : Nat → Nat) (p pg M : Nat) (bs : List Bk) (ss : List Tri) (dx t : Addr) (xs : List V) : Prop where
  ob : H h = some (.ins C dx (hfr r c pg M t l))
  ch : ChAt H c (tl s (p + 1))
  st : StAt H t bs
  ls : H l = some (.lst xs)
  sl : StL H xs ss
def HrS (C : Addr) (H : Hp) (h l c : Addr) (r : Str) (s : Nat → Nat) (p pg M : Nat) (bs : List Bk) (ss : List Tri) : Prop := ∃ dx t xs, HrA C H h l c r s p pg M bs ss dx t xs
section
variable {C : Addr} {H H' : Hp} {h l c : Addr} {r : Str} {s : Nat → Nat} {p pg M : Nat} {bs : List Bk} {ss : List Tri}
theorem HrA.kp {dx t : Addr} {xs : List V} (a : HrA C H h l c r s p pg M bs ss dx t xs) (k1 : ∀ C' dx' fs, H h = some (.ins C' dx' fs) → H' h = some (.ins C' dx' fs)) (k2 : ∀ ys, H l = some (.lst ys) → H' l = some (.lst ys)) (k3 : KpT H H') (k4 : ∀ o u, H c = some (.frz o u) → H' c = some (.frz o u)) : HrA C H' h l c r s p pg M bs ss dx t xs :=
  ⟨k1 _ _ _ a.ob, a.ch.frz k4, a.st.mono k3, k2 _ a.ls, a.sl.kp k3⟩
theorem HrS.same (a : HrS C H h l c r s p pg M bs ss) (sm : Same H H') : HrS C H' h l c r s p pg M bs ss := by
  obtain ⟨dx, t, xs, a⟩ := a
  exact ⟨dx, t, xs, a.kp (fun _ _ _ e => sm _ _ e) (fun _ e => sm _ _ e) (fun _ _ e => sm _ _ e) fun _ _ e => sm _ _ e⟩
theorem HrS.ext (a : HrS C H h l c r s p pg M bs ss) (x : LamX.ExtN H H') : HrS C H' h l c r s p pg M bs ss := by
  obtain ⟨dx, t, xs, a⟩ := a
  exact ⟨dx, t, xs, a.kp (fun _ _ _ e => ext_ins x e) (fun _ e => ext_lst x e) (fun _ _ e => ext_tup x e) fun _ _ e => ext_frz x e⟩
theorem HrS.but {q : Addr} {ys : List V} (a : HrS C H h l c r s p pg M bs ss) (b : But q H H') (e : H q = some (.lst ys)) (nq : l ≠ q) : HrS C H' h l c r s p pg M bs ss := by
  obtain ⟨dx, t, xs, a⟩ := a
  exact ⟨dx, t, xs, a.kp (fun _ _ _ e1 => b _ _ (ne_of e1 e (by intro z; cases z)) e1) (fun _ e1 => b _ _ nq e1) (b.kpT e) fun _ _ e1 => b _ _ (ne_of e1 e (by intro z; cases z)) e1⟩
/-- beside another object that changes -/
theorem HrS.butI {q C' dx' : Addr} {fs : List (Str × V)} (a : HrS C H h l c r s p pg M bs ss) (b : But q H H') (e : H q = some (.ins C' dx' fs)) (nq : h ≠ q) : HrS C H' h l c r s p pg M bs ss := by
  obtain ⟨dx, t, xs, a⟩ := a
  exact ⟨dx, t, xs, a.kp (fun _ _ _ e1 => b _ _ nq e1) (fun _ e1 => b _ _ (ne_of e1 e (by intro z; cases z)) e1) (fun _ _ e1 => b _ _ (ne_of e1 e (by intro z; cases z)) e1) fun _ _ e1 => b _ _ (ne_of e1 e (by intro z; cases z)) e1⟩
/-- what stands beside another heap that changes -/
theorem HrS.fr {h2 l2 C2 dx2 : Addr} {fs : List (Str × V)} {ys : List V} (a : HrS C H h l c r s p pg M bs ss) (f : Fr h2 l2 H H') (e1 : H h2 = some (.ins C2 dx2 fs)) (e2 : H l2 = some (.lst ys)) (nh : h ≠ h2) (nl : l ≠ l2) : HrS C H' h l c r s p pg M bs ss := by
  obtain ⟨dx, t, xs, a⟩ := a
  exact ⟨dx, t, xs, a.kp (fun _ _ _ e => f _ _ nh (ne_of e e2 (by intro z; cases z)) e) (fun _ e => f _ _ (ne_of e e1 (by intro z; cases z)) nl e) (f.kpT e1 e2) (f.frz e1 e2)⟩
end
theorem paired_snocR {α β : Type} {R : α → β → Prop} : ∀ {l : List α} {m : List β} {b : β}, Paired R l (m ++ [b]) → ∃ l' a, l = l' ++ [a] ∧ Paired R l' m ∧ R a b
  | _, [], b, h => by
    cases h with
    | cons x r =>
      cases r
      exact ⟨[], _, rfl, .nil, x⟩
  | _, c :: m, b, h => by
    cases h with
    | cons x r =>
      obtain ⟨l', a, e1, e2, e3⟩ := paired_snocR r
      exact ⟨_ :: l', a, by rw [e1]; rfl, .cons x e2, e3⟩
end Ph

/-! PhHw: histories of a heap, whatever places its blocks were put at; the newest step first. -/
namespace Ph
open PySem PySem.Spec PyProof.Rows L2
namespace HW
theorem perm_filt {e : Bk} : ∀ {cs : List Bk}, cs.Pairwise (fun x y => x.1 ≠ y.1) → e ∈ cs → cs.Perm (e :: cs.filter fun b => decide (b.1 ≠ e.1))
  | c :: r, pw, h => by
    obtain ⟨p1, p2⟩ := List.pairwise_cons.mp pw
    rcases List.mem_cons.mp h with z | z
    · subst z
      have : (r.filter fun b => decide (b.1 ≠ e.1)) = r := List.filter_eq_self.mpr fun b hb => decide_eq_true fun z => p1 b hb z.symm
      rw [List.filter_cons_of_neg (by simp), this]
    · have ne := p1 e z
      rw [List.filter_cons_of_pos (by simpa using ne)]
      exact ((perm_filt p2 z).cons c).trans (List.Perm.swap ..)
theorem st_app {C : List Int} {W : Int} {bs : List Bk} (st : St C W bs) : bs.Pairwise apart := st.asc.imp fun h => .inl h
theorem St_nes {C : List Int} {W : Int} {bs : List Bk} (st : St C W bs) : bs.Pairwise fun x y => x.1 ≠ y.1 :=  st.asc.imp_of_mem fun {b c} hb hc h z => by
  have := (st.ok b hb).2.1
  omega
theorem St_lex {C : List Int} {W : Int} {bs : List Bk} (st : St C W bs) : bs.Pairwise fun x y => SrtO.lexB y x = false :=  st.asc.imp_of_mem fun {b c} hb hc h => SrtO.lexB_no.mpr (by
  have := (st.ok b hb).2.1
  omega)
theorem add_st {C : List Int} {W a z : Int} {bs cs : List Bk} (st : St C W bs) (ok : okB C W (a, z)) (ap : ∀ b ∈ bs, a + z ≤ b.1 ∨ b.1 + b.2 ≤ a) (p : cs.Perm (bs ++ [(a, z)])) (srt : cs.Pairwise fun x y => SrtO.lexB y x = false) : St C W cs := by
  refine sorted_st (fun b hb => ?_) (List.pairwise_append.mpr ⟨st_app st, List.pairwise_singleton _ _, fun b hb c hc => ?_⟩) p srt
  · rcases List.mem_append.mp hb with h | h
    · exact st.ok b h
    · rw [List.mem_singleton.mp h]
      exact ok
  · rw [List.mem_singleton.mp hc]
    rcases ap b hb with h | h
    · exact .inr h
    · exact .inl h
theorem len_sum : ∀ {bs : List Bk}, (∀ b ∈ bs, 1 ≤ b.2) → (bs.length : Int) ≤ (bs.map fun b => b.2).sum
  | [], _ => Int.le_refl _
  | b :: r, h => by
    have h1 := h b (List.mem_cons_self ..)
    have ih := len_sum (bs := r) fun c hc => h c (List.mem_cons_of_mem _ hc)
    rw [List.length_cons, List.map_cons, List.sum_cons]
    omega
abbrev tt (bs : List Bk) : Int := (bs.map fun b => b.2).sum
theorem tt_perm {bs cs : List Bk} (pm : cs.Perm bs) : tt cs = tt bs := sum_perm pm
theorem tt_snoc (bs : List Bk) (b : Bk) : tt (bs ++ [b]) = tt bs + b.2 := by
  unfold tt
  rw [List.map_append, List.sum_append]
  simp
theorem tt_filt {C : List Int} {W : Int} {bs : List Bk} {e : Bk} (st : St C W bs) (he : e ∈ bs) : tt bs - tt (bs.filter fun b => decide (b.1 ≠ e.1)) = e.2 := by
  have h1 : tt bs = e.2 + tt (bs.filter fun b => decide (b.1 ≠ e.1)) := by
    rw [tt_perm (perm_filt (St_nes st) he)]
    rfl
  omega
end HW
/-- a place for a block: within the heap, beside its blocks -/
structure Spt (z : Int) (bs : List Bk) (W x : Int) : Prop where
  mod : x % z = 0
  pos : 0 ≤ x
  fit : x + z ≤ W
  free : ∀ b ∈ bs, x + z ≤ b.1 ∨ b.1 + b.2 ≤ x
inductive Hw (s : Nat → Nat) (p : Nat) (W : Int) (M : Nat) : List Tri → List Bk → Prop
  | nil : Hw s p W M [] []
  | get {rs : List Tri} {bs cs : List Bk} {x : Int} {i : Nat} : Hw s p W M rs bs → i ≤ p → (bs.map fun b => b.2).sum + ((s i : Nat) : Int) ≤ M → Spt ((s i : Nat) : Int) bs W x → cs.Perm (bs ++ [(x, ((s i : Nat) : Int))]) → (cs.Pairwise fun x y => SrtO.lexB y x = false) → Hw s p W M ((("get" : Str), x, ((s i : Nat) : Int)) :: rs) cs
  | free {rs : List Tri} {bs : List Bk} {e : Bk} : Hw s p W M rs bs → e ∈ bs → Hw s p W M ((("free" : Str), e.1, e.2) :: rs) (bs.filter fun b => decide (b.1 ≠ e.1))
section
variable {s : Nat → Nat} {p M : Nat} {W : Int}
theorem Hw.st {rs : List Tri} {bs : List Bk} (c : CH s (p + 1)) (h : Hw s p W M rs bs) : St (tl s (p + 1)) W bs := by
  induction h with
  | nil => exact ⟨(fun b hb => nomatch hb), List.Pairwise.nil⟩
  | @get rs bs cs x i _ hi _ sp pm srt ih =>
    have := c.pos (i := i) (by omega)
    exact HW.add_st ih ⟨tl_mem.mpr ⟨i, by omega, rfl⟩, by show 1 ≤ ((s i : Nat) : Int); omega, sp.pos, sp.mod, sp.fit⟩ sp.free pm srt
  | free _ _ ih => exact ih.filter _
theorem Hw.tot {rs : List Tri} {bs : List Bk} (c : CH s (p + 1)) (h : Hw s p W M rs bs) : HW.tt bs ≤ M := by
  induction h with
  | nil => exact Int.natCast_nonneg _
  | @get rs bs cs x i _ hi hM sp pm srt ih =>
    rw [HW.tt_perm pm, HW.tt_snoc]
    exact hM
  | @free _ bs e h he ih =>
    have h1 := HW.tt_filt (h.st c) he
    have h2 := ((h.st c).ok e he).2.1
    omega
theorem Hw.len {rs : List Tri} {bs : List Bk} (c : CH s (p + 1)) (h : Hw s p W M rs bs) : bs.length ≤ M := by
  have h1 := HW.len_sum (bs := bs) fun b hb => ((h.st c).ok b hb).2.1
  have h2 := h.tot c
  unfold HW.tt at h2
  omega
theorem Hw.uniq {rs : List Tri} {bs cs : List Bk} (c : CH s (p + 1)) (h : Hw s p W M rs bs) (h' : Hw s p W M rs cs) : bs = cs := by
  induction h generalizing cs with
  | nil => cases h'; rfl
  | @get rs bs1 cs1 x i h1 hi hM sp pm srt ih =>
    generalize ez : ((s i : Nat) : Int) = z at h'
    cases h' with
    | @get _ bs2 _ _ i2 h2 hi2 hM2 sp2 pm2 srt2 =>
      have e1 := ih h2
      subst e1
      rw [ez] at pm
      exact perm_lex (pm.trans pm2.symm) srt srt2
  | @free rs bs1 e h1 he ih =>
    obtain ⟨e1, e2⟩ := e
    dsimp only at h'
    cases h' with
    | @free _ bs2 e' h2 he' =>
      have f1 := ih h2
      subst f1
      rfl
theorem Hw.tail {t : Tri} {rs : List Tri} {cs : List Bk} (h : Hw s p W M (t :: rs) cs) : ∃ bs, Hw s p W M rs bs := by
  cases h with
  | get h1 => exact ⟨_, h1⟩
  | free h1 _ => exact ⟨_, h1⟩
theorem Hw.pre {ss : List Tri} {bs : List Bk} (h : Hw s p W M ss.reverse bs) : ∀ n i, i + n = ss.length → ∃ cs, Hw s p W M (ss.take i).reverse cs
  | 0, i, e => ⟨bs, by rw [List.take_of_length_le (by omega)]; exact h⟩
  | n + 1, i, e => by
    obtain ⟨cs, h'⟩ := Hw.pre h n (i + 1) (by omega)
    have hlt : i < ss.length := by omega
    rw [List.take_add_one, List.getElem?_eq_getElem hlt, List.reverse_append] at h'
    exact h'.tail
theorem Hw.undo {st : Tri} {rs : List Tri} {cs : List Bk} (c : CH s (p + 1)) (h : Hw s p W M (st :: rs) cs) : ∃ bs, Hw s p W M rs bs ∧
    ((st.1 = "get" ∧ (∃ b ∈ cs, b.1 = st.2.1) ∧ (cs.filter fun b => decide (b.1 ≠ st.2.1)) = bs) ∨ (st.1 = "free" ∧ ∀ ds : List Bk, ds.Perm (cs ++ [(st.2.1, st.2.2)]) → (ds.Pairwise fun x y => SrtO.lexB y x = false) → ds = bs)) := by
  have st0 := h.st c
  cases h with
  | @get _ bs _ x i h1 hi hM sp pm srt =>
    refine ⟨bs, h1, .inl ⟨rfl, ⟨(x, ((s i : Nat) : Int)), pm.mem_iff.mpr (List.mem_append_right _ (List.mem_singleton.mpr rfl)), rfl⟩, ?_⟩⟩
    have stb := h1.st c
    have hin : (x, ((s i : Nat) : Int)) ∈ cs := pm.mem_iff.mpr (List.mem_append_right _ (List.mem_singleton.mpr rfl))
    have pf := HW.perm_filt (HW.St_nes st0) hin
    have pm2 : (cs.filter fun b => decide (b.1 ≠ x)).Perm bs := (List.perm_cons (x, ((s i : Nat) : Int))).mp (pf.symm.trans (pm.trans List.perm_append_comm))
    exact perm_lex pm2 (HW.St_lex (st0.filter _)) (HW.St_lex stb)
  | @free _ bs e h1 he =>
    refine ⟨bs, h1, .inr ⟨rfl, fun ds pm srt => ?_⟩⟩
    have stb := h1.st c
    have pf := HW.perm_filt (HW.St_nes stb) he
    exact perm_lex (pm.trans (List.perm_append_comm.trans pf.symm)) srt (HW.St_lex stb)
theorem Hw.gf {rs : List Tri} {bs : List Bk} (h : Hw s p W M rs bs) : ∀ t ∈ rs, t.1 = "get" ∨ t.1 = "free" := by
  induction h with
  | nil => exact fun t h => nomatch h
  | get _ _ _ _ _ _ ih =>
    intro t ht
    rcases List.mem_cons.mp ht with z | z
    · rw [z]; exact .inl rfl
    · exact ih t z
  | free _ _ ih =>
    intro t ht
    rcases List.mem_cons.mp ht with z | z
    · rw [z]; exact .inr rfl
    · exact ih t z
/-- the next step of a history -/
theorem Hw.step {ss : List Tri} {bs bi : List Bk} {i : Nat} {t : Tri} (c : CH s (p + 1)) (h : Hw s p W M ss.reverse bs) (hi : ss[i]? = some t) (hm : Hw s p W M (ss.take i).reverse bi) :
    (∃ j x cs, j ≤ p ∧ t = (("get" : Str), x, ((s j : Nat) : Int)) ∧ HW.tt bi + ((s j : Nat) : Int) ≤ M ∧ Spt ((s j : Nat) : Int) bi W x ∧ cs.Perm (bi ++ [(x, ((s j : Nat) : Int))]) ∧ (cs.Pairwise fun x y => SrtO.lexB y x = false) ∧ Hw s p W M (ss.take (i + 1)).reverse cs) ∨
    ∃ e ∈ bi, t = (("free" : Str), e.1, e.2) ∧ Hw s p W M (ss.take (i + 1)).reverse (bi.filter fun b => decide (b.1 ≠ e.1)) := by
  have hlt := (List.getElem?_eq_some_iff.mp hi).1
  have etk : (ss.take (i + 1)).reverse = t :: (ss.take i).reverse := by
    rw [List.take_add_one, hi, List.reverse_append]
    rfl
  obtain ⟨cs, h'⟩ := h.pre (ss.length - (i + 1)) (i + 1) (by omega)
  rw [etk] at h' ⊢
  cases h' with
  | @get _ b2 _ x j h1 hj hM sp pm srt =>
    have e1 := hm.uniq c h1
    subst e1
    exact .inl ⟨j, x, cs, hj, rfl, hM, sp, pm, srt, .get h1 hj hM sp pm srt⟩
  | @free _ b2 e h1 he =>
    have e1 := hm.uniq c h1
    subst e1
    exact .inr ⟨e, he, rfl, .free h1 he⟩
end
/-! ### events and histories -/
def evV (t : Tri) : List V := if t.1 = "get" then [.str "get", .int t.2.2, .int t.2.1] else [.str "free", .int t.2.1]
theorem evV_get (x z : Int) : evV (("get" : Str), x, z) = [.str "get", .int z, .int x] := if_pos rfl
theorem evV_free (x z : Int) : evV (("free" : Str), x, z) = [.str "free", .int x] := if_neg (show ¬ (("free" : Str) = "get") by decide +kernel)
def GF (t : Tri) : Prop := t.1 = "get" ∨ t.1 = "free"
def EvL (H : Hp) (ys : List V) (ss : List Tri) : Prop := Paired (fun y (t : Tri) => ∃ T, y = V.ref T ∧ H T = some (.tup (evV t))) ys ss
def HisAt (H : Hp) (u : Addr) (ss : List Tri) : Prop := ∃ ys, H u = some (.tup ys) ∧ EvL H ys ss
theorem EvL.kp {H H' : Hp} {ys : List V} {ss : List Tri} (h : EvL H ys ss) (k : KpT H H') : EvL H' ys ss := paired_impL (fun x t ⟨T, e1, e2⟩ => ⟨T, e1, k _ _ e2⟩) h
theorem HisAt.kp {H H' : Hp} {u : Addr} {ss : List Tri} (h : HisAt H u ss) (k : KpT H H') : HisAt H' u ss := by
  obtain ⟨ys, e, l⟩ := h
  exact ⟨ys, k _ _ e, l.kp k⟩
theorem HisAt.same {H H' : Hp} {u : Addr} {ss : List Tri} (h : HisAt H u ss) (s : Same H H') : HisAt H' u ss := h.kp fun _ _ e => s _ _ e
theorem paired_get' {α β : Type} {F : α → β → Prop} : ∀ {l : List α} {m : List β}, l.length = m.length → (∀ (i : Nat) (a : α) (b : β), l[i]? = some a → m[i]? = some b → F a b) → Paired F l m
  | [], [], _, _ => .nil
  | [], _ :: _, e, _ => by cases e
  | _ :: _, [], e, _ => by cases e
  | a :: l, b :: m, e, h => .cons (h 0 a b rfl rfl) (paired_get' (by simpa using e) fun i a' b' h1 h2 => h (i + 1) a' b' h1 h2)
end Ph

/-! PhRd: events of any value: which of them can be done (by their data); any data compared with a text. -/
namespace Ph
open PySem PySem.Spec PyProof.Rows L2
/-! ### any data == a text -/
section
open PySem.SeqAt MeetsSeq
variable {A : Around} {s : Shared}
theorem rc_dict_str {l : Addr} {ks : Array DictEntry} {n : Nat} {dd : Option Addr} {sl : Array (Option Value)} (b : Str) (u : Tok) (ho : s.heap.get? l = some { cls := .type "dict", dict := dd, data := .dict ks n, slots := sl }) (hu : A.units < cLine) : SeqAt.RcAt A s (.ref l) (.str b u) false := fun prog w E Q h =>
  rc_eq_decline_or (k := false) ⟨_, ho, rfl⟩ (typeIs_str s b u) (by decide) F.sub_str_dict F.slot_dict_eq F.slot_str_eq_refl
    (fun _ hq => call_meets F.slot_dict_eq ⟨_, ho, rfl⟩ F.entry_dict_eq (F.args_dict_eq_2 _ _) (dict_declines l (.type "dict") (.dict ks n) dd sl b u) ⟨ho, hq⟩)
    (fun _ hq => call_meets F.slot_str_eq_refl (typeIs_str s b u) F.entry_str_eq (F.args_str_eq_2 _ _) (str_declines b u l (.type "dict") ks n dd sl) ⟨ho, hq⟩)
    (fun _ hq => wpAny_of_eq (rfl : isSame (.ref l) (.str b u) = pure false) hq) (.inr hu) h
end
section
variable {X : Cx}
/-- x == t, t a text, x any data -/
def rEqW (K : PySem.W.Frag) : R2 := fun x y H Q => ∃ d z, y = .str z ∧ Dq K H x d ∧ Q (.bl (decide (x = V.str z))) H
theorem op_eqW (hu : X.A.units < cLine) : OpR X (compareOp .Eq) (rEqW X.K) := by
  intro pins s σ H x y v u Q I rx ry h
  obtain ⟨d, z, rfl, dx, q⟩ := h
  obtain ⟨t, rfl⟩ := (show ∃ t, u = Value.str z t from ry)
  have key : SeqAt.RcAt X.A s v (.str z t) (decide (x = V.str z)) := by
    cases dx with
    | non => obtain rfl : v = Value.none := rx; exact SeqAt.RcAt.none_str z t
    | bl b => obtain rfl : v = Value.bool b := rx; exact SeqAt.RcAt.bool_str b z t
    | int i => obtain ⟨t2, rfl⟩ := rx; exact SeqAt.RcAt.int_str i t2 z t
    | str y => 
      obtain ⟨t2, rfl⟩ := rx
      have e : (y == z) = decide (V.str y = V.str z) := by
        by_cases c : y = z
        · subst c; simp
        · have : ¬ (V.str y = V.str z) := fun w => c (by cases w; rfl)
          simp [c, this]
      exact e ▸ SeqAt.RcAt.str_str y t2 z t
    | @lst a xs ds hs ha =>
      obtain rfl : v = Value.ref a := rx
      obtain ⟨its, _, p, _⟩ := I.list hs
      exact SeqAt.RcAt.list_str z t p.isList hu
    | @tup a xs ds hs ha =>
      obtain rfl : v = Value.ref a := rx
      obtain ⟨its, _, p, _⟩ := I.tuple hs
      exact SeqAt.RcAt.tuple_str z t p hu
    | @dct a kvs D hs hk =>
      obtain rfl : v = Value.ref a := rx
      obtain ⟨_, ne, vs, kv, o, es, ep, ho, hx, hdat, _, hp, _⟩ := hs.ok I.hok
      obtain ⟨cls, dd, data, sl⟩ := o
      obtain rfl : cls = .type "dict" := hx.1
      obtain rfl : data = .dict es ep := hdat
      exact rc_dict_str z t ho hu
  exact key _ _ _ _ ⟨.bl _, H, I, rfl, q⟩
end
theorem dq_noInt {K : PySem.W.Frag} {H : Hp} {x : V} {d : PyData} (h : Dq K H x d) : (NoInt K H x ∧ ∀ i, d ≠ .int i) ∨ ∃ i : Int, x = .int i ∧ d = .int i := by
  have ty := dq_ty h
  cases h with
  | int i => exact .inr ⟨i, rfl, rfl⟩
  | bl b => exact .inl ⟨.bl b, fun i z => nomatch z⟩
  | non => exact .inl ⟨.ty ty (by dsimp only [tyN]; decide +kernel), fun i z => nomatch z⟩
  | str y => exact .inl ⟨.ty ty (by dsimp only [tyN]; decide +kernel), fun i z => nomatch z⟩
  | lst hs ha => exact .inl ⟨.ty ty (by dsimp only [tyN]; decide +kernel), fun i z => nomatch z⟩
  | tup hs ha => exact .inl ⟨.ty ty (by dsimp only [tyN]; decide +kernel), fun i z => nomatch z⟩
  | dct hs ha => exact .inl ⟨.ty ty (by dsimp only [tyN]; decide +kernel), fun i z => nomatch z⟩
theorem dq_isStr {K : PySem.W.Frag} {H : Hp} {x : V} {d : PyData} (h : Dq K H x d) (z : Str) : x = .str z ↔ d = .str z := by
  cases h <;> constructor <;> intro e <;> cases e <;> rfl
theorem dqAll_len {K : PySem.W.Frag} {H : Hp} : ∀ {xs : List V} {ds : List PyData}, DqAll K H xs ds → xs.length = ds.length
  | _, _, .nil => rfl
  | _, _, .cons _ r => by rw [List.length_cons, List.length_cons, dqAll_len r]
theorem dqAll_get {K : PySem.W.Frag} {H : Hp} : ∀ {xs : List V} {ds : List PyData} {i : Nat} {x : V}, DqAll K H xs ds → xs[i]? = some x → ∃ d, ds[i]? = some d ∧ Dq K H x d
  | _, _, 0, _, .cons h _, e => by cases e; exact ⟨_, rfl, h⟩
  | _, _, i + 1, _, .cons _ r, e => dqAll_get (i := i) r e
/-! ### events that can be done -/
def evD (t : Tri) : PyData := if t.1 = "get" then .tuple [.str "get", .int t.2.2, .int t.2.1] else .tuple [.str "free", .int t.2.1]
theorem evD_get (a z : Int) : evD (("get" : Str), a, z) = .tuple [.str "get", .int z, .int a] := if_pos rfl
theorem evD_free (a z : Int) : evD (("free" : Str), a, z) = .tuple [.str "free", .int a] := if_neg (show ¬ (("free" : Str) = "get") by decide +kernel)
/-- the data of an event that can be done with the blocks bs -/
def GoodD (s : Nat → Nat) (p : Nat) (W : Int) (M : Nat) (bs : List Bk) (d : PyData) : Prop :=
  (∃ j a, j ≤ p ∧ d = .tuple [.str "get", .int ((s j : Nat) : Int), .int a] ∧ HW.tt bs + ((s j : Nat) : Int) ≤ M ∧ Spt ((s j : Nat) : Int) bs W a) ∨ ∃ b ∈ bs, d = .tuple [.str "free", .int b.1]
structure RunD (s : Nat → Nat) (p : Nat) (W : Int) (M : Nat) (ds : List PyData) (bs : List Bk) (ss : List Tri) : Prop where
  hw : Hw s p W M ss.reverse bs
  ev : ds = ss.map evD
section
variable {s : Nat → Nat} {p M : Nat} {W : Int}
theorem run_nil : RunD s p W M [] [] [] := ⟨.nil, rfl⟩
theorem pw_uniq {bs : List Bk} {b c : Bk} (h : bs.Pairwise fun x y => x.1 ≠ y.1) (hb : b ∈ bs) (hc : c ∈ bs) (e : b.1 = c.1) : b = c := by
  induction bs with
  | nil => cases hb
  | cons a r ih =>
    obtain ⟨h1, h2⟩ := List.pairwise_cons.mp h
    rcases List.mem_cons.mp hb with z | z <;> rcases List.mem_cons.mp hc with y | y
    · rw [z, y]
    · rw [z] at e; exact absurd e (h1 c y)
    · rw [y] at e; exact absurd e.symm (h1 b z)
    · exact ih h2 z y
theorem hw_ev {rs : List Tri} {bs : List Bk} (c : CH s (p + 1)) (h : Hw s p W M rs bs) : ∀ {rs' : List Tri} {bs' : List Bk}, Hw s p W M rs' bs' → rs.map evD = rs'.map evD → rs = rs' ∧ bs = bs' := by
  induction h with
  | nil =>
    intro rs' bs' h' e
    cases h' with
    | nil => exact ⟨rfl, rfl⟩
    | get => cases e
    | free => cases e
  | @get rs bs cs x i h1 hi hM sp pm srt ih =>
    intro rs' bs' h' e
    cases h' with
    | nil => cases e
    | @get rs2 bs2 cs2 x2 i2 h2 hi2 hM2 sp2 pm2 srt2 =>
      rw [List.map_cons, List.map_cons, evD_get, evD_get] at e
      injection e with e1 e2
      injection e1 with e1
      injection e1 with _ e1
      injection e1 with e1 e3
      injection e3 with e3 _
      injection e1 with e1
      injection e3 with e3
      subst e3
      obtain ⟨q1, q2⟩ := ih h2 e2
      subst q1 q2
      rw [e1] at pm ⊢
      exact ⟨rfl, perm_lex (pm.trans pm2.symm) srt srt2⟩
    | @free rs2 bs2 b h2 hb =>
      rw [List.map_cons, List.map_cons, evD_get, evD_free] at e
      injection e with e1 e2
      injection e1 with e1
      injection e1 with _ e1
      injection e1 with _ e1
      cases e1
  | @free rs bs b h1 hb ih =>
    intro rs' bs' h' e
    cases h' with
    | nil => cases e
    | @get rs2 bs2 cs2 x2 i2 h2 hi2 hM2 sp2 pm2 srt2 =>
      rw [List.map_cons, List.map_cons, evD_get, evD_free] at e
      injection e with e1 e2
      injection e1 with e1
      injection e1 with _ e1
      injection e1 with _ e1
      cases e1
    | @free rs2 bs2 b2 h2 hb2 =>
      rw [List.map_cons, List.map_cons, evD_free, evD_free] at e
      injection e with e1 e2
      injection e1 with e1
      injection e1 with _ e1
      injection e1 with e1 _
      injection e1 with e1
      obtain ⟨q1, q2⟩ := ih h2 e2
      subst q1 q2
      have st := h1.st c
      have eb : b = b2 := by
        have := HW.St_nes st
        exact pw_uniq this hb hb2 e1
      subst eb
      exact ⟨rfl, rfl⟩
theorem RunD.uniq {ds : List PyData} {bs bs' : List Bk} {ss ss' : List Tri} (c : CH s (p + 1)) (r : RunD s p W M ds bs ss) (r' : RunD s p W M ds bs' ss') : bs = bs' ∧ ss = ss' := by
  have e : ss.reverse.map evD = ss'.reverse.map evD := by rw [List.map_reverse, List.map_reverse, ← r.ev, ← r'.ev]
  obtain ⟨h1, h2⟩ := hw_ev c r.hw r'.hw e
  exact ⟨h2, by have := congrArg List.reverse h1; rwa [List.reverse_reverse, List.reverse_reverse] at this⟩
/-- a run's last event could be done -/
theorem RunD.last {ds : List PyData} {d : PyData} {cs : List Bk} {ss' : List Tri} (r : RunD s p W M (ds ++ [d]) cs ss') : ∃ bs ss, RunD s p W M ds bs ss ∧ GoodD s p W M bs d := by
  obtain ⟨hw, ev⟩ := r
  generalize er : ss'.reverse = rs at hw
  obtain rfl : ss' = rs.reverse := by rw [← er, List.reverse_reverse]
  cases hw with
  | nil => simp at ev
  | @get rs bs cs x i h1 hi hM sp pm srt =>
    rw [List.reverse_cons, List.map_append] at ev
    obtain ⟨e1, e2⟩ := List.append_inj' ev rfl
    rw [List.map_cons, evD_get, List.map_nil] at e2
    injection e2 with e2
    exact ⟨bs, rs.reverse, ⟨by rw [List.reverse_reverse]; exact h1, e1⟩, .inl ⟨i, x, hi, e2, hM, sp⟩⟩
  | @free rs bs b h1 hb =>
    rw [List.reverse_cons, List.map_append] at ev
    obtain ⟨e1, e2⟩ := List.append_inj' ev rfl
    rw [List.map_cons, evD_free, List.map_nil] at e2
    injection e2 with e2
    exact ⟨bs, rs.reverse, ⟨by rw [List.reverse_reverse]; exact h1, e1⟩, .inr ⟨b, hb, e2⟩⟩
theorem RunD.pre {ds : List PyData} {bs : List Bk} {ss : List Tri} (r : RunD s p W M ds bs ss) (i : Nat) : ∃ cs, RunD s p W M (ds.take i) cs (ss.take i) := by
  by_cases h : i ≤ ss.length
  · obtain ⟨cs, h'⟩ := r.hw.pre (ss.length - i) i (by omega)
    exact ⟨cs, h', by rw [r.ev, List.map_take]⟩
  · exact ⟨bs, by rw [List.take_of_length_le (by omega)]; exact r.hw, by rw [r.ev, List.take_of_length_le (by rw [List.length_map]; omega), List.take_of_length_le (by omega)]⟩
/-- what becomes of a history -/
inductive Out
  | done (bs : List Bk) (ss : List Tri)
  | bad (i : Nat)
inductive OutD (s : Nat → Nat) (p : Nat) (W : Int) (M : Nat) : PyData → Out → Prop
  | notT {d : PyData} : (∀ ds, d ≠ .tuple ds) → OutD s p W M d (.bad 0)
  | done {ds : List PyData} {bs : List Bk} {ss : List Tri} : RunD s p W M ds bs ss → OutD s p W M (.tuple ds) (.done bs ss)
  | bad {ds : List PyData} {bs : List Bk} {ss : List Tri} {d : PyData} {i : Nat} : RunD s p W M (ds.take i) bs ss → ds[i]? = some d → ¬ GoodD s p W M bs d → OutD s p W M (.tuple ds) (.bad i)
theorem bad_not {ds : List PyData} {bs cs : List Bk} {ss ts : List Tri} {d : PyData} {i n : Nat} (c : CH s (p + 1)) (r : RunD s p W M (ds.take i) bs ss) (e : ds[i]? = some d) (g : ¬ GoodD s p W M bs d) (hn : i < n) (r' : RunD s p W M (ds.take n) cs ts) : False := by
  obtain ⟨cs1, r1⟩ := r'.pre (i + 1)
  rw [List.take_take, Nat.min_eq_left (by omega), List.take_add_one, e] at r1
  obtain ⟨bs2, ss2, r2, g2⟩ := RunD.last (d := d) r1
  obtain ⟨e1, _⟩ := r.uniq c r2
  rw [e1] at g
  exact g g2
theorem OutD.uniq {d : PyData} {o o' : Out} (c : CH s (p + 1)) (h : OutD s p W M d o) (h' : OutD s p W M d o') : o = o' := by
  cases h with
  | notT n =>
    cases h' with
    | notT => rfl
    | done => exact absurd rfl (n _)
    | bad => exact absurd rfl (n _)
  | @done ds bs ss r =>
    cases h' with
    | notT n => exact absurd rfl (n _)
    | done r' =>
      obtain ⟨e1, e2⟩ := r.uniq c r'
      rw [e1, e2]
    | @bad _ bs2 ss2 d2 i r2 e g =>
      exfalso
      have hi := (List.getElem?_eq_some_iff.mp e).1
      exact bad_not c r2 e g hi (n := ds.length) (by rw [List.take_length]; exact r)
  | @bad ds bs ss d1 i r e g =>
    cases h' with
    | notT n => exact absurd rfl (n _)
    | done r' =>
      exfalso
      have hi := (List.getElem?_eq_some_iff.mp e).1
      exact bad_not c r e g hi (n := ds.length) (by rw [List.take_length]; exact r')
    | @bad _ bs2 ss2 d2 i2 r2 e2 g2 =>
      rcases Nat.lt_trichotomy i i2 with z | z | z
      · exact (bad_not c r e g z r2).elim
      · rw [z]
      · exact (bad_not c r2 e2 g2 z r).elim
end
/-- the data of an item that has the form of an event -/
def formD : PyData → Bool
  | .tuple [.str w, _, _] => decide (w = "get")
  | .tuple [.str w, _] => decide (w = "free")
  | _ => false
theorem good_form {s : Nat → Nat} {p M : Nat} {W : Int} {bs : List Bk} {d : PyData} (g : GoodD s p W M bs d) : formD d = true := by
  rcases g with ⟨j, a, _, e, _⟩ | ⟨b, _, e⟩ <;> rw [e] <;> simp [formD]
end Ph
namespace Ph
open PySem PySem.Spec PyProof.Rows L2
theorem form_iff {d : PyData} (h : formD d = true) : (∃ d1 d2, d = .tuple [.str "get", d1, d2]) ∨ ∃ d1, d = .tuple [.str "free", d1] := by
  unfold formD at h
  split at h
  · exact .inl ⟨_, _, by rw [of_decide_eq_true h]⟩
  · exact .inr ⟨_, by rw [of_decide_eq_true h]⟩
  · cases h
end Ph
namespace Ph
open PySem PySem.Spec PyProof.Rows L2
section
variable {X : Cx}
/-- t == (), t any tuple -/
def rEqT0 (K : PySem.W.Frag) : R2 := fun x y H Q => ∃ (a b : Addr) (xs : List V), x = .ref a ∧ y = .ref b ∧ SqT K H a xs ∧ SqT K H b [] ∧ Q (.bl xs.isEmpty) H
theorem op_eqT0 (hu : X.A.units < cLine) : OpR X (compareOp .Eq) (rEqT0 X.K) := by
  intro pins s σ H x y v u Q I rx ry h
  obtain ⟨a, b, xs, rfl, rfl, ha, hb, q⟩ := h
  obtain rfl : v = Value.ref a := rx
  obtain rfl : u = Value.ref b := ry
  obtain ⟨its, rv, p, _⟩ := I.tuple ha
  obtain ⟨its2, rv2, p2, _⟩ := I.tuple hb
  obtain rfl : its2 = [] := by cases rv2; rfl
  have key := SeqAt.RcAt.tuples (A := X.A) (s := s) (e := fun _ => true) p p2 hu (fun j h1 h2 => absurd h2 (by simp))
  have e : ((List.range (min its.toArray.size ([] : List Value).toArray.size)).all (fun _ => true) && its.toArray.size == ([] : List Value).toArray.size) = xs.isEmpty := by
    cases rv with
    | nil => rfl
    | cons r t => simp
  rw [e] at key
  exact key _ _ _ _ ⟨.bl _, H, I, rfl, q⟩
end
end Ph
namespace Ph
open PySem PySem.Spec PyProof.Rows L2
/-- data without dicts, as HandS tells it -/
theorem Dq.dp {K : PySem.W.Frag} {H : Hp} {v : V} {d : PyData} (h : Dq K H v d) : d.canLay0 = true → Dp K H v d := by
  refine @Dq.rec K H (fun v d _ => d.canLay0 = true → Dp K H v d) (fun vs ds _ => PyData.canLayAll0 ds = true → DpAll K H vs ds) (fun kvs D _ => True) ?_ ?_ ?_ ?_ ?_ ?_ ?_ ?_ ?_ ?_ ?_ v d h
  · exact fun _ => .non
  · exact fun b _ => .bl b
  · exact fun i _ => .int i
  · exact fun x _ => .str x
  · intro a xs ds hs ha ih c
    rw [PyData.canLay0] at c
    exact .lst hs (ih c)
  · intro a xs ds hs ha ih c
    rw [PyData.canLay0] at c
    exact .tup hs (ih c)
  · intro a kvs ds hs ha ih c
    rw [PyData.canLay0] at c
    cases c
  · exact fun _ => .nil
  · intro v vs d ds h r i1 i2 c
    rw [PyData.canLayAll0, Bool.and_eq_true] at c
    exact .cons (i1 c.1) (i2 c.2)
  · trivial
  · intros
    trivial
theorem evD_lay (t : Tri) : (evD t).canLay0 = true := by
  have h1 : PyData.strOk "get" = true := by decide +kernel
  have h2 : PyData.strOk "free" = true := by decide +kernel
  unfold evD
  split <;> simp [PyData.canLay0, PyData.canLayAll0, h1, h2]
theorem evD_depth (t : Tri) : (evD t).depth = 1 := by
  unfold evD
  split <;> simp [PyData.depth, PyData.depthAll]
theorem evDs_lay : ∀ ss : List Tri, PyData.canLayAll0 (ss.map evD) = true
  | [] => by simp [PyData.canLayAll0]
  | z :: zs => by simp [PyData.canLayAll0, evD_lay z, evDs_lay zs]
theorem evDs_depth : ∀ ss : List Tri, PyData.depthAll (ss.map evD) ≤ 1
  | [] => by simp [PyData.depthAll]
  | z :: zs => by
    have h1 := evDs_depth zs
    have h2 := evD_depth z
    simp only [List.map_cons, PyData.depthAll, h2]
    omega
theorem evDs_tlay (ss : List Tri) : PyData.canLay0 (.tuple (ss.map evD)) = true := by
  simp only [PyData.canLay0]
  exact evDs_lay ss
theorem evDs_shaped (ss : List Tri) : SeqAt.shaped (.tuple (ss.map evD)) = true := by
  have h1 := evDs_depth ss
  have h2 : PyData.depth (.tuple (ss.map evD)) ≤ 64 := by simp only [PyData.depth]; omega
  show (PyData.canLay0 (.tuple (ss.map evD)) && decide (PyData.depth (.tuple (ss.map evD)) ≤ 64)) = true
  rw [evDs_tlay, decide_eq_true h2]
  rfl
theorem dq_evs {K : PySem.W.Frag} {H : Hp} : ∀ {xs : List V} {ss : List Tri}, EvL H xs ss → DqAll K H xs (ss.map evD)
  | _, _, .nil => .nil
  | _, _, .cons (b := t) ⟨T, e, h⟩ r => by
    rw [e]
    refine .cons ?_ (dq_evs r)
    unfold evV at h
    unfold evD
    split at h
    · rename_i c
      rw [if_pos c]
      exact .tup (.inl (.inl h)) (.cons (.str _) (.cons (.int _) (.cons (.int _) .nil)))
    · rename_i c
      rw [if_neg c]
      exact .tup (.inl (.inl h)) (.cons (.str _) (.cons (.int _) .nil))
theorem his_dq {K : PySem.W.Frag} {H : Hp} {u : Addr} {ss : List Tri} (h : HisAt H u ss) : Dq K H (.ref u) (.tuple (ss.map evD)) := by
  obtain ⟨ys, e, l⟩ := h
  exact .tup (.inl (.inl e)) (dq_evs l)
end Ph

set_option maxHeartbeats 8000000
namespace Ph
open PySem PySem.Spec PyProof.Rows L2
/-! ### a def called where its errors are caught -/
def tCallEr (sp : Sp) (E : L2.St → XK) (t : TA) : TE := fun σ H Q => t σ H fun vs H1 => sp vs H1 Q (E σ)
section
variable {X : Cx} {CX : CXT} {k : Nat} {f : Addr} {fd : FuncData} {ps : List Str} {sp : Sp} {E : L2.St → XK} {x : Str} {p pos : Pos} {e : Expr} {es : List Expr} {t : TA}
theorem pe_callEr (F : FnOk X.prog X.w X.K X.mg X.base CX k f fd ps sp) (room : Room k X.A) (hg : Gl X x) (hm : X.mg x = some (.ref f)) (kp : PySem.W.keepIn X.K (.ref f) = true) (hb : Binds X.K fd ps []) (hx : ∀ σ, PassesAt CX X σ (E σ)) (ha : PA X (e :: es) t)
    (nodb : (x == ("__debug__" : Str)) = false := by decide) (each : starEach (e :: es) X.env = (false, eval e X.env) :: starEach es X.env := by rfl) (plain : (backTo pos (starEach es X.env)).any (·.1) = false := by rfl) :
    PE X (.Call (.Name x p) (e :: es) [] pos) (tCallEr sp E t) := by
  refine ⟨fun pins s σ H Q I want => ?_⟩
  refine wpAny_Call_Name_kw (ld_glob I hg hm ?_ nodb)
  refine PySem.W.callWith_K (h₀ := X.base) I.ok.mod.kin kp (thn (ha.run pos pins s σ H _ I want) fun us s1 w => ?_) each plain
  obtain ⟨vs, H1, I1, r, q⟩ := w
  exact ⟨I1.kIn, run_fnS F room hb (hx σ) I1 r q⟩
end
/-! ### lists of truths, as data -/
theorem dq_bls {K : PySem.W.Frag} {H : Hp} (bs : Nat → Bool) : ∀ l : List Nat, DqAll K H (l.map fun i => V.bl (bs i)) (l.map fun i => PyData.bool (bs i))
  | [] => .nil
  | i :: r => .cons (.bl _) (dq_bls bs r)
theorem bls_lay (bs : Nat → Bool) : ∀ l : List Nat, PyData.canLayAll0 (l.map fun i => PyData.bool (bs i)) = true
  | [] => by simp [PyData.canLayAll0]
  | i :: r => by simp [PyData.canLayAll0, PyData.canLay0, bls_lay bs r]
theorem bls_tlay (bs : Nat → Bool) (l : List Nat) : PyData.canLay0 (.list (l.map fun i => PyData.bool (bs i))) = true := by
  simp only [PyData.canLay0]
  exact bls_lay bs l
theorem bls_depth (bs : Nat → Bool) : ∀ l : List Nat, PyData.depthAll (l.map fun i => PyData.bool (bs i)) ≤ 1
  | [] => by simp [PyData.depthAll]
  | i :: r => by
    have h1 := bls_depth bs r
    simp only [List.map_cons, PyData.depthAll, PyData.depth]
    omega
theorem bls_shaped (bs : Nat → Bool) (l : List Nat) : SeqAt.shaped (.list (l.map fun i => PyData.bool (bs i))) = true := by
  have h1 := bls_depth bs l
  have h2 : PyData.depth (.list (l.map fun i => PyData.bool (bs i))) ≤ 64 := by simp only [PyData.depth]; omega
  show (PyData.canLay0 (.list (l.map fun i => PyData.bool (bs i))) && decide (PyData.depth (.list (l.map fun i => PyData.bool (bs i))) ≤ 64)) = true
  rw [bls_tlay, decide_eq_true h2]
  rfl
theorem bls_dp {K : PySem.W.Frag} {H : Hp} {a : Addr} {bs : Nat → Bool} {l : List Nat} (h : H a = some (.lst (l.map fun i => V.bl (bs i)))) : Dp K H (.ref a) (.list (l.map fun i => PyData.bool (bs i))) := (Dq.lst (.inl (.inl h)) (dq_bls bs l)).dp (bls_tlay bs l)
section
variable {P : Program} {w : World} {K : PySem.W.Frag} {mg : Str → Option Value} {base : Heap}
theorem seat_eq (j a : Nat) : V.bl (decide (V.int (0 + (j : Int)) = V.int (a : Int))) = V.bl (decide (j = a)) := by
  congr 1
  rw [decide_eq_decide]
  constructor
  · intro h
    injection h with h
    omega
  · rintro rfl
    rw [Int.zero_add]
theorem kitBadSize (Z : Fns K mg) : Kit Z Z.CBadSize (fun i => decide (i = 4)) := ⟨Z.isBadSize_BadChain, Z.isBadSize_BadPages, Z.isBadSize_BadLimit, Z.isBadSize_BadRule, Z.isBadSize_BadSize, Z.isBadSize_BadState, Z.isBadSize_BadPlace, Z.isBadSize_BadAnswer, Z.isBadSize_BadEvent, Z.isBadSize_OverLimit, Z.isBadSize_NoRoom, Z.isBadSize_NoBlock, Z.isBadSize_TooMany, Z.isBadSize_BadText, Z.isBadSize_BadLine, Z.isBadSize_Safe, Z.isBadSize_Unsafe, Z.isBadSize_Finished, Z.isBadSize_NothingToUndo⟩
def spRr : Sp := fun vs H Q _ => ∃ i : Int, vs = [.int i] ∧ 3 ≤ i ∧ i.natAbs < 10 ^ 20 ∧ ∀ H', Same H H' → Q (.bl true) H'
theorem ok_Rr {k : Nat} (Z : Fns K mg) : FnG P w K mg base CX0 (k + 1 + 1 + 1 + 1) Z.fRr Z.fdRr ["_law_words"] spRr := by
  have XRo : FnOk P w K mg base (L2.CX P w) (k + 1 + 1 + 1) Z.fRo Z.fdRo ["chain", "words"] (spRoX K Z.CBadSize) := okX_Ro Z
  have GKn : FnOk P w K mg base CX0 (k + 1) Z.fKn Z.fdKn ["_law_e"] (spKn Z) := ok_Kn Z
  refine okG Z.FRr scRr (fun vs H Q E h => ?_) (fun cdv A outer s H vs Q E hgu hr h => ?_)
  · obtain ⟨i, rfl, _⟩ := h
    rfl
  · obtain ⟨i, rfl, i3, ib, q⟩ := h
    have hu64 := u64_of hr
    refine ⟨_, (pss_cons (ps_set (i := 1) scRr.nd rfl (.inl rfl) pe_non)
 (pss_cons (ps_try_keep (i := 2) (c := .ref Z.CHeapError) rfl rfl rfl scRr.nd rfl rfl ⟨by rfl, by decide, .inl Z.gcHeapError⟩ (fun W pn xe tk _ => (pss_one (ps_expr (pe_callEr XRo (hr.mono (by omega)) (by rfl) Z.gRo Z.FRo.kp Z.bRo (fun σ => passAt tk σ) (pa_cons (pe_tupF (pa_cons pe_int (pa_cons pe_int pa_nil))) (pa_cons (pv 0) pa_nil)))))) (fun a oe cls d pn hz hf => (pss_one (ps_set (i := 1) scRr.nd rfl (.inl rfl) (pv 2)))))
 (pss_one (ps_ret (pe_and (pe_cmpR (op_eqD hu64) (pe_call GKn (hr.mono (by omega)) (by rfl) Z.gKn Z.FKn.kp Z.bKn .nil pass0 (pa_cons (pv 1) pa_nil)) (pe_lc (own := [("_law_seat", 3)]) (g := (gName 3)) (tt := tYes) (by rfl) scRr.nd (pi_range1 (by rfl) Z.N.range (pa_cons pe_int pa_nil)) (blkOk_by (N := scRrN) (sc := defScope scRrS) (by decide +kernel)) (fun _ _ _ _ _ => (pg_name (i := 3) scRr.nd rfl (.inl rfl))) (fun _ _ _ _ _ => pts_nil) (fun _ _ _ _ _ => (pe_cmpR op_eq (pv 3) pe_int (nomark _)))) (nomark _)) (pe_one (pe_cmpR op_eq (pe_callB (call_rqA hgu hu64) (by rfl) Z.N.repr (by decide +kernel) (pa_cons (pe_xk Z.xfBadSize Z.nfBadSize_size (pv 1)) pa_nil)) (pe_callB (call_rqA hgu hu64) (by rfl) Z.N.repr (by decide +kernel) (pa_cons (pv 0) pa_nil)) (nomark _)))))))), ?_⟩
    dsimp only [gName]
    refine ⟨(by show 2 ≤ sizeLine; decide), fun c o nc od => ⟨.int i, rfl, c, [1, 2], 2, .int i, rfl, ⟨o, od, upd_same⟩, ⟨by decide, by decide, ⟨[1], rfl⟩⟩, by decide, .inr ⟨.inr ⟨i, rfl, by omega⟩, fun H1 d s1 hd => ⟨Z.exBadSize, fun a na => ⟨.ref a, rfl, fun na1 => ?_⟩⟩⟩⟩⟩
    have s0 := same_upd (o := .frz o (.tup [V.int 1, .int 2])) nc
    have s2 := same_upd (o := ExK (.ref Z.CBadSize) (some d) a) na1
    have ha : upd H1 a (ExK (.ref Z.CBadSize) (some d) a) a = some (ExK (.ref Z.CBadSize) (some d) a) := upd_same
    have hd2 := s2 _ _ hd
    have s02 := s0.trans (s1.trans s2)
    generalize upd H1 a (ExK (.ref Z.CBadSize) (some d) a) = H2 at *
    refine ⟨.ref a, rfl, a, Z.CBadSize, some d, _, rfl, ha, Z.ecBadSize, .inr ⟨d, _, rfl, hd2⟩, kitBadSize Z, fun H3 L s3 hL => ?_⟩
    refine ⟨19, rfl, by decide, by decide, fun D nD => ?_⟩
    refine lc_R (walk_range (lo := 0) (n := (19 : Int).toNat)) (fun _ _ _ _ y => by obtain ⟨rfl, rfl⟩ := y; exact Same.refl _) (fun _ j y => y = .bl (decide (j = 4))) (fun _ _ _ _ _ h => h) nD (by decide) (fun _ _ => trivial) (fun j x H8 H9 hj s8 y Z hZ => ?_) (fun H8 zs s8 hD pr => ?_)
    · obtain ⟨rfl, rfl⟩ := y
      exact ⟨rfl, .int _, rfl, rfl, hZ _ _ (Same.refl _) (seat_eq j 4)⟩
    · have ez : zs = (List.range 19).map fun i => V.bl (decide (i = 4)) := paired_eq pr
      subst ez
      have s38 := s3.trans s8
      refine ⟨_, _, bls_dp (s8 _ _ hL), bls_dp hD, bls_shaped _ _, bls_shaped _ _, _, rfl, ite2 (fun _ => ?_) (fun c => absurd (SeqAt.eqv_refl _ (bls_tlay _ _)) c)⟩
      have si := shd_int ib
      have li := si.ln (by decide)
      refine ⟨.ref a, rfl, a, d, _, .int i, rfl, s38 _ _ ha, s38 _ _ hd2, rfl, .int i, .int i, rfl, .int i, si.sh, Nat.le_trans si.dp (by decide), li, .int i, rfl, .int i, .int i, rfl, .int i, si.sh, Nat.le_trans si.dp (by decide), li, rfl, ?_⟩
      have e : decide (V.str (PyData.int i).shown = V.str (PyData.int i).shown) = true := decide_eq_true rfl
      rw [e]
      exact q _ (s02.trans s38)
end
end Ph

namespace Ph
open PySem PySem.Spec PyProof.Rows L2 PySem.Calls HT
section
variable {prog : Program} {w : World} {A : Around} {E : Value → Shared → Prop} {s : Shared}
theorem rev_pick (xs : Array Value) : ((List.range xs.size).filterMap fun (k : Nat) => xs[(((xs.size : Int) - 1) + (k : Int) * (-1)).toNat]?).toArray = xs.toList.reverse.toArray := by
  have e : ((List.range xs.size).filterMap fun (k : Nat) => xs[(((xs.size : Int) - 1) + (k : Int) * (-1)).toNat]?) = ((List.range xs.size).map fun k => xs.size - 1 - k).filterMap (xs[·]?) := by
    rw [List.filterMap_map]
    congr 1
    funext k
    have : (((xs.size : Int) - 1) + (k : Int) * (-1)).toNat = xs.size - 1 - k := by omega
    show xs[_]? = xs[_]?
    rw [this]
  rw [e, PySem.W.krv_range, List.filterMap_reverse, PySem.W.krv_all]
theorem sliceApplied_rev {sl : Addr} {vs : Value} {n : Nat} {Q : Int × Int × Nat → Shared → Prop} (hs : s.heap.IsSliceOf sl .none .none vs) (ps : IsPart vs (some (-1)))
    (h : Q ((n : Int) - 1, -1, n) s) : wpAny (model prog w) A (Builtin.Slice.sliceApplied (.ref sl) (pure (n : Int))) Q E s := by
  obtain ⟨os, hos, hcs, hds⟩ := id hs
  unfold Builtin.Slice.sliceApplied Builtin.Slice.sliceFields
  refine wpAny_bind (wpAny_bind (wpAny_field hos hds (x := .none) rfl (wpAny_bind (wpAny_field hos hds (x := .none) rfl (wpAny_bind (wpAny_field hos hds (x := vs) rfl (wpAny_pure ?_)))))))
  refine wpAny_bind (slicePart_ ps ?_)
  show wpAny _ _ (if ((-1 : Int) == 0) = true then _ else _) _ _ s
  rw [if_neg (by decide)]
  refine wpAny_bind (slicePart_ .none (wpAny_bind (slicePart_ .none (wpAny_bind (wpAny_pure ?_)))))
  show wpAny _ _ (pure (((n : Int) - 1), (-1 : Int), Builtin.Slice.slicePlaces ((n : Int) - 1) (-1) (-1))) _ _ s
  have e : Builtin.Slice.slicePlaces ((n : Int) - 1) (-1) (-1) = n := by
    unfold Builtin.Slice.slicePlaces
    have h1 : ¬ ((-1 : Int) > 0) := by decide
    rw [if_neg h1]
    by_cases h : (n : Int) - 1 > -1
    · rw [if_pos h, show (- -1 : Int) = 1 by decide, Int.ediv_one]
      omega
    · rw [if_neg h]
      omega
  rw [e]
  exact wpAny_pure h
theorem getItem_tuple_rev {t sl : Addr} {items : Array Value} {vs : Value} {Q : Value → Shared → Prop} (ht : IsTup s.heap t items) (hs : s.heap.IsSliceOf sl .none .none vs) (ps : IsPart vs (some (-1)))
    (h : Q (.ref s.heap.objs.size) { s with heap := s.heap.push { cls := .type "tuple", data := .seq items.toList.reverse.toArray } })
    (hsz : items.size ≤ sizeLine) : wpAny (model prog w) A (getItem (.ref t) (.ref sl)) Q E s := by
  have htake : sizeOk (.seq items.toList.reverse.toArray) := by
    show items.toList.reverse.toArray.size ≤ sizeLine
    rw [List.size_toArray, List.length_reverse, Array.length_toList]
    omega
  obtain ⟨os, hos, hcs, hds⟩ := id hs
  have hTs : s.TypeIs (.ref sl) "slice" := ⟨os, hos, hcs⟩
  unfold getItem
  try with_reducible refine wpAny_holding ?_
  first | refine wpAny_bind (wpAny_pure ?_) | skip
  refine wpAny_bind (wpAny_sequenceKey ht.typeIs (by decide) ?_)
  refine wpAny_bind (wpAny_callSpecial?_slot (name := Str.ofString "__getitem__") ht.typeIs PyProof.Rows.slot_tuple_getitem
    (wpAny_call_entry PyProof.Rows.slot_tuple_getitem ht.typeIs entry_tuple_getitem ?_ (args_tuple_getitem _ _)))
  show wpAny _ _ (Builtin.Tuple.tupleItemsOf (.ref t) >>= _) _ _ s
  refine wpAny_bind (tupleItemsOf_ ht ?_)
  refine wpAny_bind (wpAny_typeOf hTs ?_)
  rw [if_pos (by decide)]
  refine wpAny_bind (sliceApplied_rev hs ps ?_)
  have hno : ¬ ((((items.size : Int) - 1) == 0 && (-1 : Int) == 1 && items.size == items.size) = true) := by
    intro q
    rw [Bool.and_eq_true, Bool.and_eq_true] at q
    exact absurd q.1.2 (by decide)
  show wpAny _ _ (if (((items.size : Int) - 1) == 0 && (-1 : Int) == 1 && items.size == items.size) = true then _ else _) _ _ s
  rw [if_neg hno, rev_pick]
  first
    | exact wpAny_bind (m := Builtin.Tuple.tupleExact _) (wpAny_newObj_type (wpAny_pure ⟨_, rfl, wpAny_pure h⟩) htake)
    | exact wpAny_bind (m := Builtin.Tuple.tupleExact _) (wpAny_newObj_type (wpAny_bind (wpAny_pure (wpAny_pure ⟨_, rfl, wpAny_pure h⟩))) htake)
    | exact wpAny_bind (wpAny_bind (m := Builtin.Tuple.tupleExact _) (wpAny_newObj_type (wpAny_pure (wpAny_pure ⟨_, rfl, wpAny_pure h⟩)) htake))
    | exact wpAny_bind (wpAny_bind (m := Builtin.Tuple.tupleExact _) (wpAny_newObj_type (wpAny_pure ⟨_, rfl, wpAny_pure h⟩) htake))
end
section
variable {X : Cx}
/-- t[::-1] of a tuple -/
def tRevT (K : PySem.W.Frag) (te : TE) : TE := fun σ H Q => te σ H fun x H1 => ∃ a xs, x = .ref a ∧ SqT K H1 a xs ∧ ∀ p, H1 p = none → Q (.ref p) (upd H1 p (.tup xs.reverse))
theorem pe_revT {e : Expr} {te : TE} {k : Nat} {p1 p2 p3 pos : Pos} (he : PE X e te) : PE X (.Subscript e (.Slice none none (some (.UnaryOp .USub (.Constant (.int 1) k p1) p2)) p3) pos) (tRevT X.K te) := by
  refine ⟨fun pins s σ H Q I h => ?_⟩
  refine Subscript_ (thn (he.run pins s σ H _ I h) fun v s1 ⟨x, H1, I1, r1, q1⟩ => ?_)
  obtain ⟨a, xs, ex, hx, q⟩ := q1
  subst ex
  cases r1
  have hst : PO X (some (.UnaryOp .USub (.Constant (.int 1) k p1) p2)) (tPart (tUn (rU fun i => .int (-i)) (tC (.int 1)))) := po_some (pe_un un_neg pe_int)
  refine wpAny_Slice (thn (po_none.run pins s1 σ H1 (fun o H2 => o = none ∧ H2 = H1) I1 ⟨rfl, rfl⟩) fun vl s2 ⟨l, H2, I2, pl, el, e2⟩ => ?_)
  subst el e2
  refine thn (po_none.run pins s2 σ H2 (fun o H3 => o = none ∧ H3 = H2) I2 ⟨rfl, rfl⟩) fun vu s3 ⟨u, H3, I3, pu, eu, e3⟩ => ?_
  subst eu e3
  refine thn (hst.run pins s3 σ H3 (fun o H4 => o = some (-1) ∧ H4 = H3) I3 ⟨1, rfl, -1, rfl, rfl, rfl⟩) fun vs s4 ⟨o, H4, I4, ps, eo, e4⟩ => ?_
  subst eo e4
  cases pl
  cases pu
  have I5 : Inv X pins σ H4 { s4 with heap := s4.heap.push { cls := .type "slice", data := .fields #[.none, .none, vs] } } := I4.kept (t' := s4.toks) fun b ob q => Heap.get?_push_of_some _ q
  obtain ⟨its, r, ht, hz⟩ := I5.tuple hx
  have hlen := r.length
  show wpAny (model X.prog X.w) X.A (subscriptTail e (.Slice none none (some (.UnaryOp .USub (.Constant (.int 1) k p1) p2)) p3) (.ref a) (.ref s4.heap.objs.size)) (EP X pins σ Q) X.xe { s4 with heap := s4.heap.push { cls := .type "slice", data := .fields #[.none, .none, vs] } }
  refine tail_any (ops := [.ref a, .ref s4.heap.objs.size]) ht.typeIs (PyProof.Rows.slot_tuple_getitem.lookup) ?_ (by with_unfolding_all rfl)
  refine getItem_tuple_rev ht (Heap.IsSliceOf.new _ .none .none vs) ps ?_ (by rw [List.size_toArray]; omega)
  refine ⟨.ref _, _, I5.laid (t' := s4.toks) (o := .tup xs.reverse) (fun b ob q => Heap.get?_push_of_some _ q) (Nat.le_refl _) ?_, rfl, q _ (I5.hok.fresh (Nat.le_refl _))⟩
  refine ⟨by rw [List.length_reverse]; exact hz, _, r.reverse, ⟨_, Heap.get?_push_size _ rfl, rfl, _, rfl⟩⟩
/-- repr(True), repr(False) -/
def tx (b : Bool) : Str := if b then "True" else "False"
theorem call_repr_bl : CallR X (.builtin "repr") (fun xs H Q => ∃ b, xs = [.bl b] ∧ Q (.str (tx b)) H) := by
  intro pins s σ H xs us Q I r h
  obtain ⟨b, rfl, q⟩ := h
  obtain ⟨u, rfl, r1⟩ := vals1 r
  cases r1
  exact PySem.P.repr_of_bool ⟨.str _, H, I.tok _, ⟨_, rfl⟩, q⟩
end
end Ph

/-! PhAnE: values of any kind (dicts too) with a bound on their text, kept whatever becomes of q; tuples of such, cut and joined. -/
namespace Ph
open PySem PySem.Spec PyProof.Rows L2
structure ShdAll (ds : List PyData) (n k : Nat) : Prop where
  sh : PyData.showableAll ds = true
  dp : PyData.depthAll ds ≤ n
  lv : PyData.leavesShortAll 40 ds = true
  wt : PyData.weightAll ds ≤ k
  cp : cpAll ds = true
theorem ShdAll.nil (n k : Nat) : ShdAll [] n k := ⟨rfl, Nat.zero_le _, rfl, Nat.zero_le _, rfl⟩
theorem ShdAll.cons {d : PyData} {ds : List PyData} {n k l : Nat} (h : Shd d n k) (t : ShdAll ds n l) : ShdAll (d :: ds) n (k + 1 + l) := by
  obtain ⟨h1, h2, h3, h4, h5⟩ := h
  obtain ⟨t1, t2, t3, t4, t5⟩ := t
  refine ⟨by rw [PyData.showableAll, h1, t1]; rfl, ?_, by rw [PyData.leavesShortAll, h3, t3]; rfl, ?_, by rw [cpAll, h5, t5]; rfl⟩
  · simp only [PyData.depthAll]
    omega
  · simp only [PyData.weightAll]
    omega
theorem ShdAll.tuple {ds : List PyData} {n k : Nat} (h : ShdAll ds n k) : Shd (.tuple ds) (n + 1) k := by
  obtain ⟨h1, h2, h3, h4, h5⟩ := h
  refine ⟨by rw [PyData.showable]; exact h1, by simp only [PyData.depth]; omega, by rw [PyData.leavesShort]; exact h3, by simp only [PyData.weight]; exact h4, by rw [cpD]; exact h5⟩
theorem ShdAll.list {ds : List PyData} {n k : Nat} (h : ShdAll ds n k) : Shd (.list ds) (n + 1) k := by
  obtain ⟨h1, h2, h3, h4, h5⟩ := h
  refine ⟨by rw [PyData.showable]; exact h1, by simp only [PyData.depth]; omega, by rw [PyData.leavesShort]; exact h3, by simp only [PyData.weight]; exact h4, by rw [cpD]; exact h5⟩
def AnyE (K : PySem.W.Frag) (q : Addr) (H : Hp) (n k : Nat) (x : V) : Prop := ∃ d, Dq K (hid [q] H) x d ∧ Shd d n k
section
variable {K : PySem.W.Frag} {q : Addr} {H H' : Hp} {n k m l : Nat} {x : V}
theorem AnyE.but (v : AnyE K q H n k x) (b : But q H H') : AnyE K q H' n k x := let ⟨d, h, s⟩ := v; ⟨d, h.same (hid_but (ButS.but b)), s⟩
theorem AnyE.same (v : AnyE K q H n k x) (s : Same H H') : AnyE K q H' n k x := v.but (Same.but s)
theorem AnyE.up (v : AnyE K q H n k x) (h1 : n ≤ m) (h2 : k ≤ l) : AnyE K q H m l x := let ⟨d, h, s⟩ := v; ⟨d, h, s.up h1 h2⟩
theorem AnyE.ofT {d : PyData} (o : OdV K [q] (ntb H) n x d) : AnyE K q H (n + 2) (2000 + 200 * n) x := ⟨d, o.dq.same (hid_but (ButS.of ntb_sub)), o.sd⟩
theorem AnyE.intB {i : Int} (h : i.natAbs < 10 ^ 35) : AnyE K q H 0 120 (.int i) := ⟨_, .int i, shd_intB h⟩
theorem AnyE.str {y : Str} (s : Shd (.str y) n k) : AnyE K q H n k (.str y) := ⟨_, .str y, s⟩
theorem AnyE.non : AnyE K q H 0 120 .non := ⟨_, .non, ⟨by decide +kernel, by decide +kernel, by decide +kernel, by decide +kernel, by decide +kernel⟩⟩
theorem AnyE.all : ∀ {xs : List V}, (∀ y ∈ xs, AnyE K q H n k y) → ∃ ds, DqAll K (hid [q] H) xs ds ∧ ShdAll ds n ((k + 1) * xs.length)
  | [], _ => ⟨[], .nil, .nil _ _⟩
  | y :: r, h => by
    obtain ⟨ds, h1, h2⟩ := AnyE.all (xs := r) fun z hz => h z (List.mem_cons_of_mem _ hz)
    obtain ⟨d, h3, h4⟩ := h y (List.mem_cons_self ..)
    refine ⟨d :: ds, .cons h3 h1, ?_⟩
    have := ShdAll.cons h4 h2
    rw [List.length_cons, Nat.mul_add, Nat.mul_one, Nat.add_comm]
    exact this
theorem AnyE.tup {t : Addr} {xs : List V} (e : H t = some (.tup xs)) (nt : t ≠ q) (h : ∀ y ∈ xs, AnyE K q H n k y) : AnyE K q H (n + 1) ((k + 1) * xs.length) (.ref t) := by
  obtain ⟨ds, h1, h2⟩ := AnyE.all h
  exact ⟨.tuple ds, .tup (.inl (.inl ((hid_at (fun z => nt (List.mem_singleton.mp z))).trans e))) h1, h2.tuple⟩
theorem AnyE.lst {t : Addr} {xs : List V} (e : H t = some (.lst xs)) (nt : t ≠ q) (h : ∀ y ∈ xs, AnyE K q H n k y) : AnyE K q H (n + 1) ((k + 1) * xs.length) (.ref t) := by
  obtain ⟨ds, h1, h2⟩ := AnyE.all h
  exact ⟨.list ds, .lst (.inl (.inl ((hid_at (fun z => nt (List.mem_singleton.mp z))).trans e))) h1, h2.list⟩
end
section
variable {X : Cx}
theorem cut_whole {xs : List V} {lo hi : Option Int} (h : HT.sIx xs.length 0 lo = 0 ∧ HT.sIx xs.length xs.length hi = xs.length) : cutV xs lo hi = xs := by
  unfold cutV
  rw [h.1, h.2, List.drop_zero]
  exact List.take_length
def rSlS : V → Option Int → Option Int → Hp → VK → Prop := fun x lo hi H Q => ∃ a xs, x = .ref a ∧ H a = some (.tup xs) ∧ ∀ p H', Same H H' → H' p = some (.tup (cutV xs lo hi)) → Q (.ref p) H'
theorem sl_tupS : SlR X rSlS := by
  intro pins s σ H x v vl vu lo hi sl Q I rx hs pl pu h
  obtain ⟨a, xs, rfl, hx, q⟩ := h
  exact sl_tupA pins s σ H _ v vl vu lo hi sl Q I rx hs pl pu ⟨a, xs, rfl, .inl (.inl hx), fun hw => q a H (Same.refl H) (by rw [cut_whole hw]; exact hx), fun _ p np => q p _ (same_upd np) upd_same⟩
theorem small1000 {n : Nat} (h : n ≤ 1000) : n < sizeLine := Nat.lt_of_le_of_lt h (by decide)
def rCatS : R2 := fun x y H Q => ∃ a b xs ys, x = .ref a ∧ y = .ref b ∧ H a = some (.tup xs) ∧ H b = some (.tup ys) ∧ xs.length + ys.length ≤ 1000 ∧ ∀ p H', Same H H' → H' p = some (.tup (xs ++ ys)) → Q (.ref p) H'
theorem op_catS : OpR X (binaryOp .Add) rCatS := by
  intro pins s σ H x y v u Q I rx ry h
  obtain ⟨a, b, xs, ys, rfl, rfl, ha, hb, hz, q⟩ := h
  refine op_catA pins s σ H _ _ v u Q I rx ry ⟨a, b, xs, ys, rfl, rfl, .inl (.inl ha), .inl (.inl hb), Nat.le_of_lt (small1000 hz), fun e => q b H (Same.refl H) (by rw [e]; exact hb), fun _ e => q a H (Same.refl H) (by rw [e, List.append_nil]; exact ha), fun _ _ p np => q p _ (same_upd np) upd_same⟩
end
theorem cut_le {xs : List V} {lo hi : Option Int} : (cutV xs lo hi).length ≤ xs.length := by
  unfold cutV
  rw [List.length_take, List.length_drop]
  omega
theorem cut_sub {xs : List V} {lo hi : Option Int} {x : V} (h : x ∈ cutV xs lo hi) : x ∈ xs := List.mem_of_mem_drop (List.mem_of_mem_take h)
end Ph
namespace Ph
open PySem PySem.Spec PyProof.Rows L2
theorem DqAll.app {K : PySem.W.Frag} {H : Hp} : ∀ {xs ys : List V} {ds es : List PyData}, DqAll K H xs ds → DqAll K H ys es → DqAll K H (xs ++ ys) (ds ++ es)
  | _, _, _, _, .nil, h => h
  | _, _, _, _, .cons a r, h => .cons a (DqAll.app r h)
theorem ShdAll.app : ∀ {ds es : List PyData} {n k l : Nat}, ShdAll ds n k → ShdAll es n l → ShdAll (ds ++ es) n (k + l)
  | [], es, n, k, l, _, h => ⟨h.sh, h.dp, h.lv, by have := h.wt; simp only [List.nil_append]; omega, h.cp⟩
  | d :: r, es, n, k, l, h, h' => by
    obtain ⟨h1, h2, h3, h4, h5⟩ := h
    rw [PyData.showableAll, Bool.and_eq_true] at h1
    rw [PyData.leavesShortAll, Bool.and_eq_true] at h3
    rw [cpAll, Bool.and_eq_true] at h5
    simp only [PyData.depthAll] at h2
    simp only [PyData.weightAll] at h4
    obtain ⟨t1, t2, t3, t4, t5⟩ := ShdAll.app (ds := r) (n := n) (k := k - d.weight - 1) ⟨h1.2, by omega, h3.2, by omega, h5.2⟩ h'
    refine ⟨?_, ?_, ?_, ?_, ?_⟩
    · rw [List.cons_append, PyData.showableAll, h1.1, t1]; rfl
    · rw [List.cons_append]; simp only [PyData.depthAll]; omega
    · rw [List.cons_append, PyData.leavesShortAll, h3.1, t3]; rfl
    · rw [List.cons_append]; simp only [PyData.weightAll]; omega
    · rw [List.cons_append, cpAll, h5.1, t5]; rfl
/-- the members of a tuple, told with their weight together -/
def AllE (K : PySem.W.Frag) (q : Addr) (H : Hp) (n k : Nat) (xs : List V) : Prop := ∃ ds, DqAll K (hid [q] H) xs ds ∧ ShdAll ds n k
section
variable {K : PySem.W.Frag} {q : Addr} {H H' : Hp} {n k m l : Nat} {xs ys : List V}
theorem AllE.of (h : ∀ y ∈ xs, AnyE K q H n k y) : AllE K q H n ((k + 1) * xs.length) xs := AnyE.all h
theorem AllE.app (a : AllE K q H n k xs) (b : AllE K q H n l ys) : AllE K q H n (k + l) (xs ++ ys) := let ⟨_, a1, a2⟩ := a; let ⟨_, b1, b2⟩ := b; ⟨_, a1.app b1, a2.app b2⟩
theorem ShdAll.upn {ds : List PyData} (h : ShdAll ds n k) (h1 : n ≤ m) (h2 : k ≤ l) : ShdAll ds m l := ⟨h.sh, Nat.le_trans h.dp h1, h.lv, Nat.le_trans h.wt h2, h.cp⟩
theorem AllE.up (a : AllE K q H n k xs) (h1 : n ≤ m) (h2 : k ≤ l) : AllE K q H m l xs := let ⟨_, a1, a2⟩ := a; ⟨_, a1, a2.upn h1 h2⟩
theorem AllE.tup {t : Addr} (a : AllE K q H n k xs) (e : H t = some (.tup xs)) (nt : t ≠ q) : AnyE K q H (n + 1) k (.ref t) := let ⟨_, a1, a2⟩ := a; ⟨_, .tup (.inl (.inl ((hid_at (fun z => nt (List.mem_singleton.mp z))).trans e))) a1, a2.tuple⟩
theorem AllE.one {x : V} (h : AnyE K q H n k x) : AllE K q H n (k + 1) [x] := (AllE.of (xs := [x]) (n := n) (k := k) fun y hy => by rw [List.mem_singleton.mp hy]; exact h).up (Nat.le_refl _) (by simp)
theorem AllE.cut {lo hi : Option Int} (h : ∀ y ∈ xs, AnyE K q H n k y) (hl : xs.length ≤ l) : AllE K q H n ((k + 1) * l) (cutV xs lo hi) := (AllE.of fun y hy => h y (cut_sub hy)).up (Nat.le_refl _) (Nat.mul_le_mul_left _ (Nat.le_trans cut_le hl))
end
end Ph

set_option maxHeartbeats 8000000
namespace Ph
open PySem PySem.Spec PyProof.Rows L2
section
variable {P : Program} {w : World} {K : PySem.W.Frag} {mg : Str → Option Value} {base : Heap}
structure EFct (Z : Fns K mg) (C : Addr) (j : Nat) : Prop where
  ec : ExcC K C
  kit : Kit Z C fun i => decide (i = j)
  he : PySem.W.kitOne K (.ref C) (.ref Z.CHeapError) = some true
  ve : PySem.W.kitOne K (.ref C) (.type "ValueError") = some true
theorem efBadChain (Z : Fns K mg) : EFct Z Z.CBadChain 0 := ⟨Z.ecBadChain, ⟨Z.isBadChain_BadChain, Z.isBadChain_BadPages, Z.isBadChain_BadLimit, Z.isBadChain_BadRule, Z.isBadChain_BadSize, Z.isBadChain_BadState, Z.isBadChain_BadPlace, Z.isBadChain_BadAnswer, Z.isBadChain_BadEvent, Z.isBadChain_OverLimit, Z.isBadChain_NoRoom, Z.isBadChain_NoBlock, Z.isBadChain_TooMany, Z.isBadChain_BadText, Z.isBadChain_BadLine, Z.isBadChain_Safe, Z.isBadChain_Unsafe, Z.isBadChain_Finished, Z.isBadChain_NothingToUndo⟩, Z.isBadChain_HeapError, Z.isBadChain_ValueError⟩
theorem efBadPages (Z : Fns K mg) : EFct Z Z.CBadPages 1 := ⟨Z.ecBadPages, ⟨Z.isBadPages_BadChain, Z.isBadPages_BadPages, Z.isBadPages_BadLimit, Z.isBadPages_BadRule, Z.isBadPages_BadSize, Z.isBadPages_BadState, Z.isBadPages_BadPlace, Z.isBadPages_BadAnswer, Z.isBadPages_BadEvent, Z.isBadPages_OverLimit, Z.isBadPages_NoRoom, Z.isBadPages_NoBlock, Z.isBadPages_TooMany, Z.isBadPages_BadText, Z.isBadPages_BadLine, Z.isBadPages_Safe, Z.isBadPages_Unsafe, Z.isBadPages_Finished, Z.isBadPages_NothingToUndo⟩, Z.isBadPages_HeapError, Z.isBadPages_ValueError⟩
theorem efBadLimit (Z : Fns K mg) : EFct Z Z.CBadLimit 2 := ⟨Z.ecBadLimit, ⟨Z.isBadLimit_BadChain, Z.isBadLimit_BadPages, Z.isBadLimit_BadLimit, Z.isBadLimit_BadRule, Z.isBadLimit_BadSize, Z.isBadLimit_BadState, Z.isBadLimit_BadPlace, Z.isBadLimit_BadAnswer, Z.isBadLimit_BadEvent, Z.isBadLimit_OverLimit, Z.isBadLimit_NoRoom, Z.isBadLimit_NoBlock, Z.isBadLimit_TooMany, Z.isBadLimit_BadText, Z.isBadLimit_BadLine, Z.isBadLimit_Safe, Z.isBadLimit_Unsafe, Z.isBadLimit_Finished, Z.isBadLimit_NothingToUndo⟩, Z.isBadLimit_HeapError, Z.isBadLimit_ValueError⟩
theorem efBadRule (Z : Fns K mg) : EFct Z Z.CBadRule 3 := ⟨Z.ecBadRule, ⟨Z.isBadRule_BadChain, Z.isBadRule_BadPages, Z.isBadRule_BadLimit, Z.isBadRule_BadRule, Z.isBadRule_BadSize, Z.isBadRule_BadState, Z.isBadRule_BadPlace, Z.isBadRule_BadAnswer, Z.isBadRule_BadEvent, Z.isBadRule_OverLimit, Z.isBadRule_NoRoom, Z.isBadRule_NoBlock, Z.isBadRule_TooMany, Z.isBadRule_BadText, Z.isBadRule_BadLine, Z.isBadRule_Safe, Z.isBadRule_Unsafe, Z.isBadRule_Finished, Z.isBadRule_NothingToUndo⟩, Z.isBadRule_HeapError, Z.isBadRule_ValueError⟩
theorem efBadSize (Z : Fns K mg) : EFct Z Z.CBadSize 4 := ⟨Z.ecBadSize, ⟨Z.isBadSize_BadChain, Z.isBadSize_BadPages, Z.isBadSize_BadLimit, Z.isBadSize_BadRule, Z.isBadSize_BadSize, Z.isBadSize_BadState, Z.isBadSize_BadPlace, Z.isBadSize_BadAnswer, Z.isBadSize_BadEvent, Z.isBadSize_OverLimit, Z.isBadSize_NoRoom, Z.isBadSize_NoBlock, Z.isBadSize_TooMany, Z.isBadSize_BadText, Z.isBadSize_BadLine, Z.isBadSize_Safe, Z.isBadSize_Unsafe, Z.isBadSize_Finished, Z.isBadSize_NothingToUndo⟩, Z.isBadSize_HeapError, Z.isBadSize_ValueError⟩
theorem efBadState (Z : Fns K mg) : EFct Z Z.CBadState 5 := ⟨Z.ecBadState, ⟨Z.isBadState_BadChain, Z.isBadState_BadPages, Z.isBadState_BadLimit, Z.isBadState_BadRule, Z.isBadState_BadSize, Z.isBadState_BadState, Z.isBadState_BadPlace, Z.isBadState_BadAnswer, Z.isBadState_BadEvent, Z.isBadState_OverLimit, Z.isBadState_NoRoom, Z.isBadState_NoBlock, Z.isBadState_TooMany, Z.isBadState_BadText, Z.isBadState_BadLine, Z.isBadState_Safe, Z.isBadState_Unsafe, Z.isBadState_Finished, Z.isBadState_NothingToUndo⟩, Z.isBadState_HeapError, Z.isBadState_ValueError⟩
theorem efBadPlace (Z : Fns K mg) : EFct Z Z.CBadPlace 6 := ⟨Z.ecBadPlace, ⟨Z.isBadPlace_BadChain, Z.isBadPlace_BadPages, Z.isBadPlace_BadLimit, Z.isBadPlace_BadRule, Z.isBadPlace_BadSize, Z.isBadPlace_BadState, Z.isBadPlace_BadPlace, Z.isBadPlace_BadAnswer, Z.isBadPlace_BadEvent, Z.isBadPlace_OverLimit, Z.isBadPlace_NoRoom, Z.isBadPlace_NoBlock, Z.isBadPlace_TooMany, Z.isBadPlace_BadText, Z.isBadPlace_BadLine, Z.isBadPlace_Safe, Z.isBadPlace_Unsafe, Z.isBadPlace_Finished, Z.isBadPlace_NothingToUndo⟩, Z.isBadPlace_HeapError, Z.isBadPlace_ValueError⟩
theorem efBadAnswer (Z : Fns K mg) : EFct Z Z.CBadAnswer 7 := ⟨Z.ecBadAnswer, ⟨Z.isBadAnswer_BadChain, Z.isBadAnswer_BadPages, Z.isBadAnswer_BadLimit, Z.isBadAnswer_BadRule, Z.isBadAnswer_BadSize, Z.isBadAnswer_BadState, Z.isBadAnswer_BadPlace, Z.isBadAnswer_BadAnswer, Z.isBadAnswer_BadEvent, Z.isBadAnswer_OverLimit, Z.isBadAnswer_NoRoom, Z.isBadAnswer_NoBlock, Z.isBadAnswer_TooMany, Z.isBadAnswer_BadText, Z.isBadAnswer_BadLine, Z.isBadAnswer_Safe, Z.isBadAnswer_Unsafe, Z.isBadAnswer_Finished, Z.isBadAnswer_NothingToUndo⟩, Z.isBadAnswer_HeapError, Z.isBadAnswer_ValueError⟩
theorem efBadEvent (Z : Fns K mg) : EFct Z Z.CBadEvent 8 := ⟨Z.ecBadEvent, ⟨Z.isBadEvent_BadChain, Z.isBadEvent_BadPages, Z.isBadEvent_BadLimit, Z.isBadEvent_BadRule, Z.isBadEvent_BadSize, Z.isBadEvent_BadState, Z.isBadEvent_BadPlace, Z.isBadEvent_BadAnswer, Z.isBadEvent_BadEvent, Z.isBadEvent_OverLimit, Z.isBadEvent_NoRoom, Z.isBadEvent_NoBlock, Z.isBadEvent_TooMany, Z.isBadEvent_BadText, Z.isBadEvent_BadLine, Z.isBadEvent_Safe, Z.isBadEvent_Unsafe, Z.isBadEvent_Finished, Z.isBadEvent_NothingToUndo⟩, Z.isBadEvent_HeapError, Z.isBadEvent_ValueError⟩
theorem efOverLimit (Z : Fns K mg) : EFct Z Z.COverLimit 9 := ⟨Z.ecOverLimit, ⟨Z.isOverLimit_BadChain, Z.isOverLimit_BadPages, Z.isOverLimit_BadLimit, Z.isOverLimit_BadRule, Z.isOverLimit_BadSize, Z.isOverLimit_BadState, Z.isOverLimit_BadPlace, Z.isOverLimit_BadAnswer, Z.isOverLimit_BadEvent, Z.isOverLimit_OverLimit, Z.isOverLimit_NoRoom, Z.isOverLimit_NoBlock, Z.isOverLimit_TooMany, Z.isOverLimit_BadText, Z.isOverLimit_BadLine, Z.isOverLimit_Safe, Z.isOverLimit_Unsafe, Z.isOverLimit_Finished, Z.isOverLimit_NothingToUndo⟩, Z.isOverLimit_HeapError, Z.isOverLimit_ValueError⟩
theorem efNoRoom (Z : Fns K mg) : EFct Z Z.CNoRoom 10 := ⟨Z.ecNoRoom, ⟨Z.isNoRoom_BadChain, Z.isNoRoom_BadPages, Z.isNoRoom_BadLimit, Z.isNoRoom_BadRule, Z.isNoRoom_BadSize, Z.isNoRoom_BadState, Z.isNoRoom_BadPlace, Z.isNoRoom_BadAnswer, Z.isNoRoom_BadEvent, Z.isNoRoom_OverLimit, Z.isNoRoom_NoRoom, Z.isNoRoom_NoBlock, Z.isNoRoom_TooMany, Z.isNoRoom_BadText, Z.isNoRoom_BadLine, Z.isNoRoom_Safe, Z.isNoRoom_Unsafe, Z.isNoRoom_Finished, Z.isNoRoom_NothingToUndo⟩, Z.isNoRoom_HeapError, Z.isNoRoom_ValueError⟩
theorem efNoBlock (Z : Fns K mg) : EFct Z Z.CNoBlock 11 := ⟨Z.ecNoBlock, ⟨Z.isNoBlock_BadChain, Z.isNoBlock_BadPages, Z.isNoBlock_BadLimit, Z.isNoBlock_BadRule, Z.isNoBlock_BadSize, Z.isNoBlock_BadState, Z.isNoBlock_BadPlace, Z.isNoBlock_BadAnswer, Z.isNoBlock_BadEvent, Z.isNoBlock_OverLimit, Z.isNoBlock_NoRoom, Z.isNoBlock_NoBlock, Z.isNoBlock_TooMany, Z.isNoBlock_BadText, Z.isNoBlock_BadLine, Z.isNoBlock_Safe, Z.isNoBlock_Unsafe, Z.isNoBlock_Finished, Z.isNoBlock_NothingToUndo⟩, Z.isNoBlock_HeapError, Z.isNoBlock_ValueError⟩
theorem efTooMany (Z : Fns K mg) : EFct Z Z.CTooMany 12 := ⟨Z.ecTooMany, ⟨Z.isTooMany_BadChain, Z.isTooMany_BadPages, Z.isTooMany_BadLimit, Z.isTooMany_BadRule, Z.isTooMany_BadSize, Z.isTooMany_BadState, Z.isTooMany_BadPlace, Z.isTooMany_BadAnswer, Z.isTooMany_BadEvent, Z.isTooMany_OverLimit, Z.isTooMany_NoRoom, Z.isTooMany_NoBlock, Z.isTooMany_TooMany, Z.isTooMany_BadText, Z.isTooMany_BadLine, Z.isTooMany_Safe, Z.isTooMany_Unsafe, Z.isTooMany_Finished, Z.isTooMany_NothingToUndo⟩, Z.isTooMany_HeapError, Z.isTooMany_ValueError⟩
theorem efBadText (Z : Fns K mg) : EFct Z Z.CBadText 13 := ⟨Z.ecBadText, ⟨Z.isBadText_BadChain, Z.isBadText_BadPages, Z.isBadText_BadLimit, Z.isBadText_BadRule, Z.isBadText_BadSize, Z.isBadText_BadState, Z.isBadText_BadPlace, Z.isBadText_BadAnswer, Z.isBadText_BadEvent, Z.isBadText_OverLimit, Z.isBadText_NoRoom, Z.isBadText_NoBlock, Z.isBadText_TooMany, Z.isBadText_BadText, Z.isBadText_BadLine, Z.isBadText_Safe, Z.isBadText_Unsafe, Z.isBadText_Finished, Z.isBadText_NothingToUndo⟩, Z.isBadText_HeapError, Z.isBadText_ValueError⟩
theorem efBadLine (Z : Fns K mg) : EFct Z Z.CBadLine 14 := ⟨Z.ecBadLine, ⟨Z.isBadLine_BadChain, Z.isBadLine_BadPages, Z.isBadLine_BadLimit, Z.isBadLine_BadRule, Z.isBadLine_BadSize, Z.isBadLine_BadState, Z.isBadLine_BadPlace, Z.isBadLine_BadAnswer, Z.isBadLine_BadEvent, Z.isBadLine_OverLimit, Z.isBadLine_NoRoom, Z.isBadLine_NoBlock, Z.isBadLine_TooMany, Z.isBadLine_BadText, Z.isBadLine_BadLine, Z.isBadLine_Safe, Z.isBadLine_Unsafe, Z.isBadLine_Finished, Z.isBadLine_NothingToUndo⟩, Z.isBadLine_HeapError, Z.isBadLine_ValueError⟩
theorem efSafe (Z : Fns K mg) : EFct Z Z.CSafe 15 := ⟨Z.ecSafe, ⟨Z.isSafe_BadChain, Z.isSafe_BadPages, Z.isSafe_BadLimit, Z.isSafe_BadRule, Z.isSafe_BadSize, Z.isSafe_BadState, Z.isSafe_BadPlace, Z.isSafe_BadAnswer, Z.isSafe_BadEvent, Z.isSafe_OverLimit, Z.isSafe_NoRoom, Z.isSafe_NoBlock, Z.isSafe_TooMany, Z.isSafe_BadText, Z.isSafe_BadLine, Z.isSafe_Safe, Z.isSafe_Unsafe, Z.isSafe_Finished, Z.isSafe_NothingToUndo⟩, Z.isSafe_HeapError, Z.isSafe_ValueError⟩
theorem efUnsafe (Z : Fns K mg) : EFct Z Z.CUnsafe 16 := ⟨Z.ecUnsafe, ⟨Z.isUnsafe_BadChain, Z.isUnsafe_BadPages, Z.isUnsafe_BadLimit, Z.isUnsafe_BadRule, Z.isUnsafe_BadSize, Z.isUnsafe_BadState, Z.isUnsafe_BadPlace, Z.isUnsafe_BadAnswer, Z.isUnsafe_BadEvent, Z.isUnsafe_OverLimit, Z.isUnsafe_NoRoom, Z.isUnsafe_NoBlock, Z.isUnsafe_TooMany, Z.isUnsafe_BadText, Z.isUnsafe_BadLine, Z.isUnsafe_Safe, Z.isUnsafe_Unsafe, Z.isUnsafe_Finished, Z.isUnsafe_NothingToUndo⟩, Z.isUnsafe_HeapError, Z.isUnsafe_ValueError⟩
theorem efFinished (Z : Fns K mg) : EFct Z Z.CFinished 17 := ⟨Z.ecFinished, ⟨Z.isFinished_BadChain, Z.isFinished_BadPages, Z.isFinished_BadLimit, Z.isFinished_BadRule, Z.isFinished_BadSize, Z.isFinished_BadState, Z.isFinished_BadPlace, Z.isFinished_BadAnswer, Z.isFinished_BadEvent, Z.isFinished_OverLimit, Z.isFinished_NoRoom, Z.isFinished_NoBlock, Z.isFinished_TooMany, Z.isFinished_BadText, Z.isFinished_BadLine, Z.isFinished_Safe, Z.isFinished_Unsafe, Z.isFinished_Finished, Z.isFinished_NothingToUndo⟩, Z.isFinished_HeapError, Z.isFinished_ValueError⟩
theorem efNothingToUndo (Z : Fns K mg) : EFct Z Z.CNothingToUndo 18 := ⟨Z.ecNothingToUndo, ⟨Z.isNothingToUndo_BadChain, Z.isNothingToUndo_BadPages, Z.isNothingToUndo_BadLimit, Z.isNothingToUndo_BadRule, Z.isNothingToUndo_BadSize, Z.isNothingToUndo_BadState, Z.isNothingToUndo_BadPlace, Z.isNothingToUndo_BadAnswer, Z.isNothingToUndo_BadEvent, Z.isNothingToUndo_OverLimit, Z.isNothingToUndo_NoRoom, Z.isNothingToUndo_NoBlock, Z.isNothingToUndo_TooMany, Z.isNothingToUndo_BadText, Z.isNothingToUndo_BadLine, Z.isNothingToUndo_Safe, Z.isNothingToUndo_Unsafe, Z.isNothingToUndo_Finished, Z.isNothingToUndo_NothingToUndo⟩, Z.isNothingToUndo_HeapError, Z.isNothingToUndo_ValueError⟩
theorem eFacts (Z : Fns K mg) : ∀ {j : Nat} {p : Addr × Option Str}, (eTab Z)[j]? = some p → EFct Z p.1 j := fun {j p} h => by
  have hj : j < 19 := (List.getElem?_eq_some_iff.mp h).1
  match j, hj, h with
  | 0, _, h => cases h; exact efBadChain Z
  | 1, _, h => cases h; exact efBadPages Z
  | 2, _, h => cases h; exact efBadLimit Z
  | 3, _, h => cases h; exact efBadRule Z
  | 4, _, h => cases h; exact efBadSize Z
  | 5, _, h => cases h; exact efBadState Z
  | 6, _, h => cases h; exact efBadPlace Z
  | 7, _, h => cases h; exact efBadAnswer Z
  | 8, _, h => cases h; exact efBadEvent Z
  | 9, _, h => cases h; exact efOverLimit Z
  | 10, _, h => cases h; exact efNoRoom Z
  | 11, _, h => cases h; exact efNoBlock Z
  | 12, _, h => cases h; exact efTooMany Z
  | 13, _, h => cases h; exact efBadText Z
  | 14, _, h => cases h; exact efBadLine Z
  | 15, _, h => cases h; exact efSafe Z
  | 16, _, h => cases h; exact efUnsafe Z
  | 17, _, h => cases h; exact efFinished Z
  | 18, _, h => cases h; exact efNothingToUndo Z
theorem EkAt.ins {H : Hp} {x : V} {C : Addr} {fo : Option Str} {a : Addr} (h : EkAt H x C fo a) : ∃ d, H a = some (ExK (.ref C) d a) ∧ DictK H d := by
  cases fo with
  | none => exact ⟨none, h, .inl rfl⟩
  | some f =>
    obtain ⟨d, h1, h2⟩ := h
    exact ⟨some d, h1, .inr ⟨d, _, rfl, h2⟩⟩
theorem eTab_len (Z : Fns K mg) : (eTab Z).length = 19 := rfl
theorem ErL.len {H : Hp} {x : V} : ∀ {ps : List (Addr × Option Str)} {es : List Addr}, ErL H x ps es → es.length = ps.length
  | [], [], _ => rfl
  | _ :: _, _ :: _, h => by rw [List.length_cons, List.length_cons, ErL.len h.2]
theorem shd_rep {d : PyData} {n k : Nat} (s : Shd d n k) : ∀ j, ShdAll (List.replicate j d) n ((k + 1) * j)
  | 0 => .nil _ _
  | j + 1 => by
    have := ShdAll.cons s (shd_rep s j)
    have e : (k + 1) * (j + 1) = k + 1 + (k + 1) * j := by rw [Nat.mul_add, Nat.mul_one]; omega
    rw [e]
    exact this
theorem dq_rep {K : PySem.W.Frag} {H : Hp} {x : V} {d : PyData} (h : Dq K H x d) : ∀ j, DqAll K H (List.replicate j x) (List.replicate j d)
  | 0 => .nil
  | j + 1 => .cons h (dq_rep h j)
def spLaw (K : PySem.W.Frag) : Sp := fun vs H Q _ => ∃ (a : Addr) (ns : List Int), vs = [.ref a] ∧ SqL K H a (ns.map V.int) ∧ ns.length ≤ 63 ∧ ∀ H', Q (.bl true) H'
theorem ok_Law {k : Nat} (Z : Fns K mg) : FnG P w K mg base CX0 (k + 1 + 1 + 1 + 1 + 1) Z.fLaw Z.fdLaw ["_law_script"] (spLaw K) := by
  have GP : FnOk P w K mg base CX0 (k + 1) Z.fP Z.fdP ["_law_script", "_law_k"] (spPot K) := ok_P Z
  have GT : FnOk P w K mg base CX0 (k + 1) Z.fT Z.fdT ["_law_pot_here", "_law_upto"] spTake := ok_T Z
  have GOd : FnOk P w K mg base CX0 (k + 1 + 1 + 1) Z.fOd Z.fdOd ["_law_pot_here"] (spOd K) := ok_Od Z
  have GBy : FnOk P w K mg base CX0 (k + 1 + 1 + 1) Z.fBy Z.fdBy ["_law_odd_here"] (spBy Z) := ok_By Z
  have GBn : FnOk P w K mg base CX0 (k + 1 + 1 + 1) Z.fBn Z.fdBn ["_law_odd_here"] (spBy Z) := ok_Bn Z
  have GKn : FnOk P w K mg base CX0 (k + 1) Z.fKn Z.fdKn ["_law_e"] (spKn Z) := ok_Kn Z
  have GHe : FnOk P w K mg base CX0 (k + 1) Z.fHe Z.fdHe ["_law_some"] (spHe Z) := ok_He Z
  have GRr : FnG P w K mg base CX0 (k + 1 + 1 + 1 + 1) Z.fRr Z.fdRr ["_law_words"] spRr := ok_Rr Z
  refine okG Z.FLaw scLaw (fun vs H Q E h => ?_) (fun cdv A outer s H vs Q E hgu hr h => ?_)
  · obtain ⟨a, ns, rfl, _⟩ := h
    rfl
  · obtain ⟨a, ns, rfl, hS, hl, fin⟩ := h
    have hu64 := u64_of hr
    refine ⟨_, (pss_cons (ps_for PassesOwn.never rfl (pi_range1 (by rfl) Z.N.range (pa_cons (pe_callB (call_max2 rfl) (by rfl) Z.N.max (by decide +kernel) (pa_cons pe_int (pa_cons (pe_callB (call_min2 rfl) (by rfl) Z.N.min (by decide +kernel) (pa_cons pe_int (pa_cons (pe_callB call_len_seq (by rfl) Z.N.len (by decide +kernel) (pa_cons (pv 0) pa_nil)) pa_nil))) pa_nil))) pa_nil)) (pg_name (i := 1) scLaw.nd rfl (.inl rfl))
 (pss_cons (ps_set (i := 2) scLaw.nd rfl (.inl rfl) (pe_call GP (hr.mono (by omega)) (by rfl) Z.gP Z.FP.kp Z.bP .nil pass0 (pa_cons (pv 0) (pa_cons (pv 1) pa_nil))))
 (pss_cons (ps_set (i := 3) scLaw.nd rfl (.inl rfl) (pe_call GOd (hr.mono (by omega)) (by rfl) Z.gOd Z.FOd.kp Z.bOd .nil pass0 (pa_cons (pv 2) pa_nil)))
 (pss_cons (ps_for PassesOwn.never rfl (pi_tup (pe_tup (pa_cons (pe_call GBy (hr.mono (by omega)) (by rfl) Z.gBy Z.FBy.kp Z.bBy .nil pass0 (pa_cons (pv 3) pa_nil)) (pa_cons (pe_call GBn (hr.mono (by omega)) (by rfl) Z.gBn Z.FBn.kp Z.bBn .nil pass0 (pa_cons (pv 3) pa_nil)) pa_nil)))) (pg_name (i := 4) scLaw.nd rfl (.inl rfl))
 (pss_cons (ps_for PassesOwn.never rfl (pi_enum (by rfl) Z.N.enumerate (pa_cons (pv 4) pa_nil)) (pg_tup (by rfl) (pgs_cons (pg_name (i := 5) scLaw.nd rfl (.inr rfl)) (pgs_cons (pg_name (i := 6) scLaw.nd rfl (.inl rfl)) pgs_nil)))
 (pss_cons (ps_if (pt_cmpR (op_neD hu64) (pe_call GKn (hr.mono (by omega)) (by rfl) Z.gKn Z.FKn.kp Z.bKn .nil pass0 (pa_cons (pv 6) pa_nil)) (pe_lc (own := [("_law_seat", 7)]) (g := (gName 7)) (tt := tYes) (by rfl) scLaw.nd (pi_range1 (by rfl) Z.N.range (pa_cons pe_int pa_nil)) (blkOk_by (N := scLawN) (sc := defScope scLawS) (by decide +kernel)) (fun _ _ _ _ _ => (pg_name (i := 7) scLaw.nd rfl (.inl rfl))) (fun _ _ _ _ _ => pts_nil) (fun _ _ _ _ _ => (pe_cmpR op_eq (pv 7) (pv 5) (nomark _)))) (nomark _))
 (pss_one (ps_ret pe_bl)) pss_nil)
 (pss_one (ps_if (PW.pt (pw_or (pt_not (pt_val (pe_callB call_isK (by rfl) Z.N.isinstance (by decide +kernel) (pa_cons (pv 6) (pa_cons (pe_glob (v := .ref Z.CHeapError) (by rfl) Z.gcHeapError rfl) pa_nil))))) (pw_or1 (pt_not (pt_val (pe_callB call_isK (by rfl) Z.N.isinstance (by decide +kernel) (pa_cons (pv 6) (pa_cons (pe_bltn (v := .ty "ValueError") (by rfl) Z.nve (by decide +kernel) rfl) pa_nil))))))))
 (pss_one (ps_ret pe_bl)) pss_nil))))
 (pss_one (ps_if (pt_cmpR op_ne (pe_callB (call_rqA hgu hu64) (by rfl) Z.N.repr (by decide +kernel) (pa_cons (pe_call GHe (hr.mono (by omega)) (by rfl) Z.gHe Z.FHe.kp Z.bHe .nil pass0 (pa_cons (pv 4) pa_nil)) pa_nil)) (pe_callB (call_rqA hgu hu64) (by rfl) Z.N.repr (by decide +kernel) (pa_cons (pe_op op_rep (pe_lst (pa_cons (pv 3) pa_nil)) pe_int) pa_nil)) (nomark _))
 (pss_one (ps_ret pe_bl)) pss_nil))))
 (pss_one (ps_if (pt_not (pt_val (pe_callG GRr hgu (hr.mono (by omega)) (by rfl) Z.gRr Z.FRr.kp Z.bRr (pa_cons (pe_op op_add pe_int (pe_call GT (hr.mono (by omega)) (by rfl) Z.gT Z.FT.kp Z.bT .nil pass0 (pa_cons (pv 2) (pa_cons (pe_op op_pow pe_int pe_int) pa_nil)))) pa_nil))))
 (pss_one (ps_ret pe_bl)) pss_nil))))))
 (pss_one (ps_ret pe_bl))), ?_⟩
    refine ⟨.ref a, rfl, a, _, rfl, .inl hS, _, _, rfl, _, _, rfl, ?_⟩
    rw [List.length_map]
    generalize hz : (if (if (ns.length : Int) < 2 then (ns.length : Int) else 2) > 1 then (if (ns.length : Int) < 2 then (ns.length : Int) else 2) else (1 : Int)) = z
    have z3 : 0 ≤ z ∧ z ≤ 2 := by
      rw [← hz]
      split <;> split <;> omega
    refine ⟨z, rfl, by omega, by omega, ?_⟩
    refine for_range (lo := 0) (n := z.toNat) (fun i σ H2 => ∃ y1 y2 y3 y4 y5 y6, σ = [some (.ref a), y1, y2, y3, y4, y5, y6, none] ∧ Same H H2) ⟨_, _, _, _, _, _, rfl, Same.refl _⟩ ?_ ?_
    · rintro i σ H2 hi ⟨y1, y2, y3, y4, y5, y6, rfl, s2⟩
      have e : (0 : Int) + (i : Int) = ((i : Nat) : Int) := by omega
      rw [e]
      refine ⟨.ref a, rfl, .int i, rfl, a, ns, i, rfl, s2.seq hS, by omega, fun H3 q s3 nq hq => ?_⟩
      dsimp only [gName]
      refine ⟨.ref q, rfl, q, rfl, hq, fun H4 x d b4 hq4 od => ?_⟩
      dsimp only [gName]
      have hx4 : Dq K H4 x d := od.now.same ntb_sub
      have sd := od.sd
      have s24 : Same H2 H4 := fun b o eb => b4 _ _ (ne_of_none eb (by first | exact nq | exact none_of_same s3 nq)) (s3 _ _ eb)
      clear od b4
      refine ⟨x, rfl, x, rfl, fun H5 L1 es1 s5 hL1 er1 => ⟨x, rfl, x, rfl, fun H6 L2 es2 s6 hL2 er2 => ⟨(by show 2 ≤ sizeLine; decide), fun T nT => ⟨T, rfl, ⟨_, .inl (.inl upd_same)⟩, ?_⟩⟩⟩⟩
      have s7 := same_upd (o := .tup [V.ref L1, .ref L2]) nT
      have hT : upd H6 T (.tup [V.ref L1, .ref L2]) T = some (.tup [V.ref L1, .ref L2]) := upd_same
      generalize upd H6 T (.tup [V.ref L1, .ref L2]) = H7 at *
      have s47 := s5.trans (s6.trans s7)
      have hx7 := hx4.same s47
      have hL1 := (s6.trans s7) _ _ hL1
      have hL2 := s7 _ _ hL2
      have er1 := er1.same (s6.trans s7)
      have er2 := er2.same s7
      refine for_it (walk_tup (K := K) (a := T) (xs := [V.ref L1, .ref L2])) (fun j σ H' => ∃ y4 y5 y6, σ = [some (.ref a), some (.int i), some (.ref q), some x, y4, y5, y6, none] ∧ Same H7 H') ⟨_, _, _, rfl, Same.refl _⟩ (fun j σ H' _ p => ?_) ?_ ?_
      · obtain ⟨_, _, _, _, s⟩ := p
        exact .inl (.inl (s _ _ hT))
      · rintro j v σ H8 H9 hj ⟨y4, y5, y6, rfl, s78⟩ ⟨rfl, hv⟩
        obtain ⟨L, es, rfl, hL, er⟩ : ∃ L es, v = .ref L ∧ H7 L = some (.lst (es.map V.ref)) ∧ ErL H7 x (eTab Z) es := by
          match j, hv with
          | 0, hv => cases hv; exact ⟨L1, es1, rfl, hL1, er1⟩
          | 1, hv => cases hv; exact ⟨L2, es2, rfl, hL2, er2⟩
        have esl := er.len
        have hL8 := s78 _ _ hL
        dsimp only [gName]
        refine ⟨.ref L, rfl, L, _, rfl, .inl (.inl hL8), ?_⟩
        refine for_it (walk_enum (K := K) (a := L) (xs := es.map V.ref)) (fun j σ H' => ∃ y5 y6, σ = [some (.ref a), some (.int i), some (.ref q), some x, some (.ref L), y5, y6, none] ∧ Same H7 H') ⟨_, _, rfl, s78⟩ (fun j σ H' _ p => ?_) ?_ ?_
        · obtain ⟨_, _, _, s⟩ := p
          exact .inl (.inl (s _ _ hL))
        · rintro n v σ H10 H11 hn ⟨y5, y6, rfl, s10⟩ ⟨T2, x1, x2, rfl, nT2, rfl, e1, e2⟩
          cases e1
          have hn' : n < es.length := by
            rw [List.length_map] at hn
            exact hn
          have e2' : (es.map V.ref)[n]? = some x2 := e2
          rw [List.getElem?_map, List.getElem?_eq_getElem hn'] at e2'
          cases e2'
          obtain ⟨p, ep, ek⟩ := er.at (List.getElem?_eq_getElem hn')
          have F := eFacts Z ep
          obtain ⟨de, he, dk⟩ := ek.ins
          generalize es[n] = ea at *
          generalize p.1 = C at *
          have s11 := s10.trans (same_upd (o := .tup [.int (n : Int), .ref ea]) nT2)
          refine ⟨T2, _, rfl, .inl (.inl upd_same), rfl, _, _, rfl, _, _, rfl, rfl, ?_⟩
          dsimp only [gName]
          generalize upd H10 T2 (.tup [.int (n : Int), .ref ea]) = H11 at *
          refine ⟨.ref ea, rfl, ea, C, de, _, rfl, s11 _ _ he, F.ec, dk_same dk s11, F.kit, fun H12 M s12 hM => ?_⟩
          refine ⟨19, rfl, by decide, by decide, fun D nD => ?_⟩
          refine lc_R (walk_range (lo := 0) (n := (19 : Int).toNat)) (fun _ _ _ _ y => by obtain ⟨rfl, rfl⟩ := y; exact Same.refl _) (fun _ j y => y = .bl (decide (j = n))) (fun _ _ _ _ _ h => h) nD (by decide) (fun _ _ => trivial) (fun j x H8 H9 hj s8 y Z hZ => ?_) (fun H13 zs s13 hD pr => ?_)
          · obtain ⟨rfl, rfl⟩ := y
            exact ⟨rfl, .int _, rfl, .int n, rfl, rfl, hZ _ _ (Same.refl _) (seat_eq j n)⟩
          · have ez : zs = (List.range 19).map fun i => V.bl (decide (i = n)) := paired_eq pr
            subst ez
            have s14 := s11.trans (s12.trans s13)
            refine ⟨_, _, bls_dp (s13 _ _ hM), bls_dp hD, bls_shaped _ _, bls_shaped _ _, _, rfl, ite2 (fun c => ?_) (fun _ => ?_)⟩
            · rw [SeqAt.eqv_refl _ (bls_tlay _ _)] at c
              cases c
            refine ⟨.ref ea, rfl, ea, C, de, _, _, true, rfl, s14 _ _ he, F.ec, dk_same dk s14, (fun u r => r), F.he, _, rfl, ite2 (fun c => absurd c (by decide)) (fun _ => ?_)⟩
            refine ⟨.ref ea, rfl, ea, C, de, _, _, true, rfl, s14 _ _ he, F.ec, dk_same dk s14, (fun u r => r), F.ve, _, rfl, ite2 (fun c => absurd c (by decide)) (fun _ => ?_)⟩
            exact ⟨_, _, rfl, s14⟩
        · rintro σ H10 ⟨y5, y6, rfl, s10⟩
          have sl := (shd_rep sd 15).list
          have ll := sl.ln (by decide)
          refine ⟨.ref L, rfl, L, x, es, rfl, s10 _ _ hL, er.same s10, fun H11 M s11 hM => ?_⟩
          refine ⟨.ref M, .list (List.replicate 15 d), rfl, .lst (.inl (.inl hM)) (dq_rep (hx7.same (s10.trans s11)) 15), sl.sh, Nat.le_trans sl.dp (by decide), ll, ?_⟩
          refine ⟨x, rfl, (by show 1 ≤ sizeLine; decide), fun A nA => ⟨A, 15, _, rfl, rfl, upd_same, by decide, by decide, (by show 1 * 15 ≤ sizeLine; decide), fun B nB => ?_⟩⟩
          have sB := same_upd (o := .lst (List.replicate (15 : Int).toNat [x]).flatten) nB
          have s12 := s11.trans ((same_upd nA).trans sB)
          refine ⟨.ref B, .list (List.replicate 15 d), rfl, .lst (.inl (.inl upd_same)) (dq_rep (hx7.same (s10.trans s12)) 15), sl.sh, Nat.le_trans sl.dp (by decide), ll, ?_⟩
          refine ⟨rfl, _, rfl, ite2 (fun c => absurd c (by simp)) (fun _ => ?_)⟩
          exact ⟨_, _, _, rfl, s10.trans s12⟩
      · rintro σ H8 ⟨y4, y5, y6, rfl, s8⟩
        have hq8 := hq4.same (s47.trans s8)
        refine ⟨.ref q, rfl, _, _, rfl, rfl, ⟨by decide, by decide, by decide⟩, q, _, rfl, hq8, by decide, by decide, fun H9 d9 b9 hq9 d0 d1 => ⟨_, _, rfl, rfl, ?_⟩⟩
        have d1 : d9 < 1000000000000000000 := d1
        refine ⟨_, rfl, by omega, by omega, fun H10 s10 => ⟨_, rfl, ite2 (fun c => absurd c (by decide)) (fun _ => ?_)⟩⟩
        exact ⟨_, _, _, _, _, _, rfl, fun b o eb => s10 _ _ (b9 _ _ (ne_of_none (s2 _ _ eb) nq) (((s2.trans s24).trans (s47.trans s8)) _ _ eb))⟩
    · rintro σ H2 ⟨_, _, _, _, _, _, rfl, _⟩
      exact fin _
end
end Ph

set_option maxHeartbeats 8000000
namespace Ph
open PySem PySem.Spec PyProof.Rows L2
theorem all_mk {l : PySem.W.OpenLaw} {w : World} {K : PySem.W.Frag} {h : Heap} {mg : Str → Option Value} {fa : Addr} (X : K.In h) (G : h.Ns mainGlobals mg) (hfa : mg "law" = some (.ref fa))
    {CHeapError : Addr} (aCHeapError : PySem.W.nsIn K mainGlobals "HeapError" = some (some (.ref CHeapError)))
    {CBadChain : Addr} (aCBadChain : PySem.W.nsIn K mainGlobals "BadChain" = some (some (.ref CBadChain)))
    {CBadPages : Addr} (aCBadPages : PySem.W.nsIn K mainGlobals "BadPages" = some (some (.ref CBadPages)))
    {CBadLimit : Addr} (aCBadLimit : PySem.W.nsIn K mainGlobals "BadLimit" = some (some (.ref CBadLimit)))
    {CBadRule : Addr} (aCBadRule : PySem.W.nsIn K mainGlobals "BadRule" = some (some (.ref CBadRule)))
    {CBadSize : Addr} (aCBadSize : PySem.W.nsIn K mainGlobals "BadSize" = some (some (.ref CBadSize)))
    {CBadState : Addr} (aCBadState : PySem.W.nsIn K mainGlobals "BadState" = some (some (.ref CBadState)))
    {CBadPlace : Addr} (aCBadPlace : PySem.W.nsIn K mainGlobals "BadPlace" = some (some (.ref CBadPlace)))
    {CBadAnswer : Addr} (aCBadAnswer : PySem.W.nsIn K mainGlobals "BadAnswer" = some (some (.ref CBadAnswer)))
    {CBadEvent : Addr} (aCBadEvent : PySem.W.nsIn K mainGlobals "BadEvent" = some (some (.ref CBadEvent)))
    {COverLimit : Addr} (aCOverLimit : PySem.W.nsIn K mainGlobals "OverLimit" = some (some (.ref COverLimit)))
    {CNoRoom : Addr} (aCNoRoom : PySem.W.nsIn K mainGlobals "NoRoom" = some (some (.ref CNoRoom)))
    {CNoBlock : Addr} (aCNoBlock : PySem.W.nsIn K mainGlobals "NoBlock" = some (some (.ref CNoBlock)))
    {CTooMany : Addr} (aCTooMany : PySem.W.nsIn K mainGlobals "TooMany" = some (some (.ref CTooMany)))
    {CBadText : Addr} (aCBadText : PySem.W.nsIn K mainGlobals "BadText" = some (some (.ref CBadText)))
    {CBadLine : Addr} (aCBadLine : PySem.W.nsIn K mainGlobals "BadLine" = some (some (.ref CBadLine)))
    {CSafe : Addr} (aCSafe : PySem.W.nsIn K mainGlobals "Safe" = some (some (.ref CSafe)))
    {CUnsafe : Addr} (aCUnsafe : PySem.W.nsIn K mainGlobals "Unsafe" = some (some (.ref CUnsafe)))
    {CFinished : Addr} (aCFinished : PySem.W.nsIn K mainGlobals "Finished" = some (some (.ref CFinished)))
    {CNothingToUndo : Addr} (aCNothingToUndo : PySem.W.nsIn K mainGlobals "NothingToUndo" = some (some (.ref CNothingToUndo)))
    (bxH : PySem.W.subIn K (.ref CHeapError) (.type "BaseException") = some true) (hdH : PySem.W.hasDictIn K CHeapError = true) (tyH : PySem.W.typeIn K (.ref CHeapError) = some (.type "type"))
    (zve : PySem.W.nsIn K mainGlobals "ValueError" = some none)
    (cgX : PySem.W.specialIn K (.builtin "object.__class__") "__get__" = some (some (.builtin "getset_descriptor.__get__"))) (ctX : PySem.W.takesIn K (.builtin "object.__class__") = some true)
    {nmBadChain qBadChain : Str} {NBadChain : Addr} {bsBadChain : List Value} {snBadChain : List Str} {subBadChain : List Value} {abBadChain : Bool} {colBadChain : Option Bool} {ddBadChain : Option Addr} {m0BadChain m1BadChain m2BadChain m3BadChain m5BadChain : Option Value}
    (xLBadChain : K.lookup CBadChain = some (excClassObj nmBadChain qBadChain CBadChain NBadChain bsBadChain [.ref CHeapError, .type "ValueError", .type "Exception", .type "BaseException", .type "object"] true snBadChain subBadChain abBadChain colBadChain ddBadChain m0BadChain m1BadChain m2BadChain m3BadChain m5BadChain "ValueError.__new__"))
    (saBadChain : PySem.W.findIn K (.ref CBadChain) "__setattr__" = some (some (.builtin "object.__setattr__"))) (bxBadChain : PySem.W.subIn K (.ref CBadChain) (.type "BaseException") = some true) (tyBadChain : PySem.W.typeIn K (.ref CBadChain) = some (.type "type")) (kpBadChain : PySem.W.keepIn K (.ref CBadChain) = true)
    (gaBadChain : PySem.W.findIn K (.ref CBadChain) "__getattribute__" = some (some (.builtin "BaseException.__getattribute__"))) (ggBadChain : PySem.W.findIn K (.ref CBadChain) "__getattr__" = some none) (hdBadChain : PySem.W.hasDictIn K CBadChain = true) (caBadChain : PySem.W.findIn K (.ref CBadChain) "__class__" = some (some (.builtin "object.__class__"))) (moBadChain : PySem.W.mroIn K CBadChain (.type "object") = some true)
    (sHBadChain : PySem.W.subIn K (.ref CBadChain) (.ref CHeapError) = some true) (isBadChain_ValueError : PySem.W.kitOne K (.ref CBadChain) (.type "ValueError") = some true)
    (nfBadChain_chain : PySem.W.findIn K (.ref CBadChain) "chain" = some none)
    (isBadChain_HeapError : PySem.W.kitOne K (.ref CBadChain) (.ref CHeapError) = some true)
    (isBadChain_BadChain : PySem.W.kitOne K (.ref CBadChain) (.ref CBadChain) = some true)
    (isBadChain_BadPages : PySem.W.kitOne K (.ref CBadChain) (.ref CBadPages) = some false)
    (isBadChain_BadLimit : PySem.W.kitOne K (.ref CBadChain) (.ref CBadLimit) = some false)
    (isBadChain_BadRule : PySem.W.kitOne K (.ref CBadChain) (.ref CBadRule) = some false)
    (isBadChain_BadSize : PySem.W.kitOne K (.ref CBadChain) (.ref CBadSize) = some false)
    (isBadChain_BadState : PySem.W.kitOne K (.ref CBadChain) (.ref CBadState) = some false)
    (isBadChain_BadPlace : PySem.W.kitOne K (.ref CBadChain) (.ref CBadPlace) = some false)
    (isBadChain_BadAnswer : PySem.W.kitOne K (.ref CBadChain) (.ref CBadAnswer) = some false)
    (isBadChain_BadEvent : PySem.W.kitOne K (.ref CBadChain) (.ref CBadEvent) = some false)
    (isBadChain_OverLimit : PySem.W.kitOne K (.ref CBadChain) (.ref COverLimit) = some false)
    (isBadChain_NoRoom : PySem.W.kitOne K (.ref CBadChain) (.ref CNoRoom) = some false)
    (isBadChain_NoBlock : PySem.W.kitOne K (.ref CBadChain) (.ref CNoBlock) = some false)
    (isBadChain_TooMany : PySem.W.kitOne K (.ref CBadChain) (.ref CTooMany) = some false)
    (isBadChain_BadText : PySem.W.kitOne K (.ref CBadChain) (.ref CBadText) = some false)
    (isBadChain_BadLine : PySem.W.kitOne K (.ref CBadChain) (.ref CBadLine) = some false)
    (isBadChain_Safe : PySem.W.kitOne K (.ref CBadChain) (.ref CSafe) = some false)
    (isBadChain_Unsafe : PySem.W.kitOne K (.ref CBadChain) (.ref CUnsafe) = some false)
    (isBadChain_Finished : PySem.W.kitOne K (.ref CBadChain) (.ref CFinished) = some false)
    (isBadChain_NothingToUndo : PySem.W.kitOne K (.ref CBadChain) (.ref CNothingToUndo) = some false)
    (ssBadChain_BadChain : PySem.W.subIn K (.ref CBadChain) (.ref CBadChain) = some true)
    {nmBadPages qBadPages : Str} {NBadPages : Addr} {bsBadPages : List Value} {snBadPages : List Str} {subBadPages : List Value} {abBadPages : Bool} {colBadPages : Option Bool} {ddBadPages : Option Addr} {m0BadPages m1BadPages m2BadPages m3BadPages m5BadPages : Option Value}
    (xLBadPages : K.lookup CBadPages = some (excClassObj nmBadPages qBadPages CBadPages NBadPages bsBadPages [.ref CHeapError, .type "ValueError", .type "Exception", .type "BaseException", .type "object"] true snBadPages subBadPages abBadPages colBadPages ddBadPages m0BadPages m1BadPages m2BadPages m3BadPages m5BadPages "ValueError.__new__"))
    (saBadPages : PySem.W.findIn K (.ref CBadPages) "__setattr__" = some (some (.builtin "object.__setattr__"))) (bxBadPages : PySem.W.subIn K (.ref CBadPages) (.type "BaseException") = some true) (tyBadPages : PySem.W.typeIn K (.ref CBadPages) = some (.type "type")) (kpBadPages : PySem.W.keepIn K (.ref CBadPages) = true)
    (gaBadPages : PySem.W.findIn K (.ref CBadPages) "__getattribute__" = some (some (.builtin "BaseException.__getattribute__"))) (ggBadPages : PySem.W.findIn K (.ref CBadPages) "__getattr__" = some none) (hdBadPages : PySem.W.hasDictIn K CBadPages = true) (caBadPages : PySem.W.findIn K (.ref CBadPages) "__class__" = some (some (.builtin "object.__class__"))) (moBadPages : PySem.W.mroIn K CBadPages (.type "object") = some true)
    (sHBadPages : PySem.W.subIn K (.ref CBadPages) (.ref CHeapError) = some true) (isBadPages_ValueError : PySem.W.kitOne K (.ref CBadPages) (.type "ValueError") = some true)
    (nfBadPages_pages : PySem.W.findIn K (.ref CBadPages) "pages" = some none)
    (isBadPages_HeapError : PySem.W.kitOne K (.ref CBadPages) (.ref CHeapError) = some true)
    (isBadPages_BadChain : PySem.W.kitOne K (.ref CBadPages) (.ref CBadChain) = some false)
    (isBadPages_BadPages : PySem.W.kitOne K (.ref CBadPages) (.ref CBadPages) = some true)
    (isBadPages_BadLimit : PySem.W.kitOne K (.ref CBadPages) (.ref CBadLimit) = some false)
    (isBadPages_BadRule : PySem.W.kitOne K (.ref CBadPages) (.ref CBadRule) = some false)
    (isBadPages_BadSize : PySem.W.kitOne K (.ref CBadPages) (.ref CBadSize) = some false)
    (isBadPages_BadState : PySem.W.kitOne K (.ref CBadPages) (.ref CBadState) = some false)
    (isBadPages_BadPlace : PySem.W.kitOne K (.ref CBadPages) (.ref CBadPlace) = some false)
    (isBadPages_BadAnswer : PySem.W.kitOne K (.ref CBadPages) (.ref CBadAnswer) = some false)
    (isBadPages_BadEvent : PySem.W.kitOne K (.ref CBadPages) (.ref CBadEvent) = some false)
    (isBadPages_OverLimit : PySem.W.kitOne K (.ref CBadPages) (.ref COverLimit) = some false)
    (isBadPages_NoRoom : PySem.W.kitOne K (.ref CBadPages) (.ref CNoRoom) = some false)
    (isBadPages_NoBlock : PySem.W.kitOne K (.ref CBadPages) (.ref CNoBlock) = some false)
    (isBadPages_TooMany : PySem.W.kitOne K (.ref CBadPages) (.ref CTooMany) = some false)
    (isBadPages_BadText : PySem.W.kitOne K (.ref CBadPages) (.ref CBadText) = some false)
    (isBadPages_BadLine : PySem.W.kitOne K (.ref CBadPages) (.ref CBadLine) = some false)
    (isBadPages_Safe : PySem.W.kitOne K (.ref CBadPages) (.ref CSafe) = some false)
    (isBadPages_Unsafe : PySem.W.kitOne K (.ref CBadPages) (.ref CUnsafe) = some false)
    (isBadPages_Finished : PySem.W.kitOne K (.ref CBadPages) (.ref CFinished) = some false)
    (isBadPages_NothingToUndo : PySem.W.kitOne K (.ref CBadPages) (.ref CNothingToUndo) = some false)
    (ssBadPages_BadPages : PySem.W.subIn K (.ref CBadPages) (.ref CBadPages) = some true)
    {nmBadLimit qBadLimit : Str} {NBadLimit : Addr} {bsBadLimit : List Value} {snBadLimit : List Str} {subBadLimit : List Value} {abBadLimit : Bool} {colBadLimit : Option Bool} {ddBadLimit : Option Addr} {m0BadLimit m1BadLimit m2BadLimit m3BadLimit m5BadLimit : Option Value}
    (xLBadLimit : K.lookup CBadLimit = some (excClassObj nmBadLimit qBadLimit CBadLimit NBadLimit bsBadLimit [.ref CHeapError, .type "ValueError", .type "Exception", .type "BaseException", .type "object"] true snBadLimit subBadLimit abBadLimit colBadLimit ddBadLimit m0BadLimit m1BadLimit m2BadLimit m3BadLimit m5BadLimit "ValueError.__new__"))
    (saBadLimit : PySem.W.findIn K (.ref CBadLimit) "__setattr__" = some (some (.builtin "object.__setattr__"))) (bxBadLimit : PySem.W.subIn K (.ref CBadLimit) (.type "BaseException") = some true) (tyBadLimit : PySem.W.typeIn K (.ref CBadLimit) = some (.type "type")) (kpBadLimit : PySem.W.keepIn K (.ref CBadLimit) = true)
    (gaBadLimit : PySem.W.findIn K (.ref CBadLimit) "__getattribute__" = some (some (.builtin "BaseException.__getattribute__"))) (ggBadLimit : PySem.W.findIn K (.ref CBadLimit) "__getattr__" = some none) (hdBadLimit : PySem.W.hasDictIn K CBadLimit = true) (caBadLimit : PySem.W.findIn K (.ref CBadLimit) "__class__" = some (some (.builtin "object.__class__"))) (moBadLimit : PySem.W.mroIn K CBadLimit (.type "object") = some true)
    (sHBadLimit : PySem.W.subIn K (.ref CBadLimit) (.ref CHeapError) = some true) (isBadLimit_ValueError : PySem.W.kitOne K (.ref CBadLimit) (.type "ValueError") = some true)
    (nfBadLimit_limit : PySem.W.findIn K (.ref CBadLimit) "limit" = some none)
    (isBadLimit_HeapError : PySem.W.kitOne K (.ref CBadLimit) (.ref CHeapError) = some true)
    (isBadLimit_BadChain : PySem.W.kitOne K (.ref CBadLimit) (.ref CBadChain) = some false)
    (isBadLimit_BadPages : PySem.W.kitOne K (.ref CBadLimit) (.ref CBadPages) = some false)
    (isBadLimit_BadLimit : PySem.W.kitOne K (.ref CBadLimit) (.ref CBadLimit) = some true)
    (isBadLimit_BadRule : PySem.W.kitOne K (.ref CBadLimit) (.ref CBadRule) = some false)
    (isBadLimit_BadSize : PySem.W.kitOne K (.ref CBadLimit) (.ref CBadSize) = some false)
    (isBadLimit_BadState : PySem.W.kitOne K (.ref CBadLimit) (.ref CBadState) = some false)
    (isBadLimit_BadPlace : PySem.W.kitOne K (.ref CBadLimit) (.ref CBadPlace) = some false)
    (isBadLimit_BadAnswer : PySem.W.kitOne K (.ref CBadLimit) (.ref CBadAnswer) = some false)
    (isBadLimit_BadEvent : PySem.W.kitOne K (.ref CBadLimit) (.ref CBadEvent) = some false)
    (isBadLimit_OverLimit : PySem.W.kitOne K (.ref CBadLimit) (.ref COverLimit) = some false)
    (isBadLimit_NoRoom : PySem.W.kitOne K (.ref CBadLimit) (.ref CNoRoom) = some false)
    (isBadLimit_NoBlock : PySem.W.kitOne K (.ref CBadLimit) (.ref CNoBlock) = some false)
    (isBadLimit_TooMany : PySem.W.kitOne K (.ref CBadLimit) (.ref CTooMany) = some false)
    (isBadLimit_BadText : PySem.W.kitOne K (.ref CBadLimit) (.ref CBadText) = some false)
    (isBadLimit_BadLine : PySem.W.kitOne K (.ref CBadLimit) (.ref CBadLine) = some false)
    (isBadLimit_Safe : PySem.W.kitOne K (.ref CBadLimit) (.ref CSafe) = some false)
    (isBadLimit_Unsafe : PySem.W.kitOne K (.ref CBadLimit) (.ref CUnsafe) = some false)
    (isBadLimit_Finished : PySem.W.kitOne K (.ref CBadLimit) (.ref CFinished) = some false)
    (isBadLimit_NothingToUndo : PySem.W.kitOne K (.ref CBadLimit) (.ref CNothingToUndo) = some false)
    (ssBadLimit_BadLimit : PySem.W.subIn K (.ref CBadLimit) (.ref CBadLimit) = some true)
    {nmBadRule qBadRule : Str} {NBadRule : Addr} {bsBadRule : List Value} {snBadRule : List Str} {subBadRule : List Value} {abBadRule : Bool} {colBadRule : Option Bool} {ddBadRule : Option Addr} {m0BadRule m1BadRule m2BadRule m3BadRule m5BadRule : Option Value}
    (xLBadRule : K.lookup CBadRule = some (excClassObj nmBadRule qBadRule CBadRule NBadRule bsBadRule [.ref CHeapError, .type "ValueError", .type "Exception", .type "BaseException", .type "object"] true snBadRule subBadRule abBadRule colBadRule ddBadRule m0BadRule m1BadRule m2BadRule m3BadRule m5BadRule "ValueError.__new__"))
    (saBadRule : PySem.W.findIn K (.ref CBadRule) "__setattr__" = some (some (.builtin "object.__setattr__"))) (bxBadRule : PySem.W.subIn K (.ref CBadRule) (.type "BaseException") = some true) (tyBadRule : PySem.W.typeIn K (.ref CBadRule) = some (.type "type")) (kpBadRule : PySem.W.keepIn K (.ref CBadRule) = true)
    (gaBadRule : PySem.W.findIn K (.ref CBadRule) "__getattribute__" = some (some (.builtin "BaseException.__getattribute__"))) (ggBadRule : PySem.W.findIn K (.ref CBadRule) "__getattr__" = some none) (hdBadRule : PySem.W.hasDictIn K CBadRule = true) (caBadRule : PySem.W.findIn K (.ref CBadRule) "__class__" = some (some (.builtin "object.__class__"))) (moBadRule : PySem.W.mroIn K CBadRule (.type "object") = some true)
    (sHBadRule : PySem.W.subIn K (.ref CBadRule) (.ref CHeapError) = some true) (isBadRule_ValueError : PySem.W.kitOne K (.ref CBadRule) (.type "ValueError") = some true)
    (nfBadRule_rule : PySem.W.findIn K (.ref CBadRule) "rule" = some none)
    (isBadRule_HeapError : PySem.W.kitOne K (.ref CBadRule) (.ref CHeapError) = some true)
    (isBadRule_BadChain : PySem.W.kitOne K (.ref CBadRule) (.ref CBadChain) = some false)
    (isBadRule_BadPages : PySem.W.kitOne K (.ref CBadRule) (.ref CBadPages) = some false)
    (isBadRule_BadLimit : PySem.W.kitOne K (.ref CBadRule) (.ref CBadLimit) = some false)
    (isBadRule_BadRule : PySem.W.kitOne K (.ref CBadRule) (.ref CBadRule) = some true)
    (isBadRule_BadSize : PySem.W.kitOne K (.ref CBadRule) (.ref CBadSize) = some false)
    (isBadRule_BadState : PySem.W.kitOne K (.ref CBadRule) (.ref CBadState) = some false)
    (isBadRule_BadPlace : PySem.W.kitOne K (.ref CBadRule) (.ref CBadPlace) = some false)
    (isBadRule_BadAnswer : PySem.W.kitOne K (.ref CBadRule) (.ref CBadAnswer) = some false)
    (isBadRule_BadEvent : PySem.W.kitOne K (.ref CBadRule) (.ref CBadEvent) = some false)
    (isBadRule_OverLimit : PySem.W.kitOne K (.ref CBadRule) (.ref COverLimit) = some false)
    (isBadRule_NoRoom : PySem.W.kitOne K (.ref CBadRule) (.ref CNoRoom) = some false)
    (isBadRule_NoBlock : PySem.W.kitOne K (.ref CBadRule) (.ref CNoBlock) = some false)
    (isBadRule_TooMany : PySem.W.kitOne K (.ref CBadRule) (.ref CTooMany) = some false)
    (isBadRule_BadText : PySem.W.kitOne K (.ref CBadRule) (.ref CBadText) = some false)
    (isBadRule_BadLine : PySem.W.kitOne K (.ref CBadRule) (.ref CBadLine) = some false)
    (isBadRule_Safe : PySem.W.kitOne K (.ref CBadRule) (.ref CSafe) = some false)
    (isBadRule_Unsafe : PySem.W.kitOne K (.ref CBadRule) (.ref CUnsafe) = some false)
    (isBadRule_Finished : PySem.W.kitOne K (.ref CBadRule) (.ref CFinished) = some false)
    (isBadRule_NothingToUndo : PySem.W.kitOne K (.ref CBadRule) (.ref CNothingToUndo) = some false)
    (ssBadRule_BadRule : PySem.W.subIn K (.ref CBadRule) (.ref CBadRule) = some true)
    {nmBadSize qBadSize : Str} {NBadSize : Addr} {bsBadSize : List Value} {snBadSize : List Str} {subBadSize : List Value} {abBadSize : Bool} {colBadSize : Option Bool} {ddBadSize : Option Addr} {m0BadSize m1BadSize m2BadSize m3BadSize m5BadSize : Option Value}
    (xLBadSize : K.lookup CBadSize = some (excClassObj nmBadSize qBadSize CBadSize NBadSize bsBadSize [.ref CHeapError, .type "ValueError", .type "Exception", .type "BaseException", .type "object"] true snBadSize subBadSize abBadSize colBadSize ddBadSize m0BadSize m1BadSize m2BadSize m3BadSize m5BadSize "ValueError.__new__"))
    (saBadSize : PySem.W.findIn K (.ref CBadSize) "__setattr__" = some (some (.builtin "object.__setattr__"))) (bxBadSize : PySem.W.subIn K (.ref CBadSize) (.type "BaseException") = some true) (tyBadSize : PySem.W.typeIn K (.ref CBadSize) = some (.type "type")) (kpBadSize : PySem.W.keepIn K (.ref CBadSize) = true)
    (gaBadSize : PySem.W.findIn K (.ref CBadSize) "__getattribute__" = some (some (.builtin "BaseException.__getattribute__"))) (ggBadSize : PySem.W.findIn K (.ref CBadSize) "__getattr__" = some none) (hdBadSize : PySem.W.hasDictIn K CBadSize = true) (caBadSize : PySem.W.findIn K (.ref CBadSize) "__class__" = some (some (.builtin "object.__class__"))) (moBadSize : PySem.W.mroIn K CBadSize (.type "object") = some true)
    (sHBadSize : PySem.W.subIn K (.ref CBadSize) (.ref CHeapError) = some true) (isBadSize_ValueError : PySem.W.kitOne K (.ref CBadSize) (.type "ValueError") = some true)
    (nfBadSize_size : PySem.W.findIn K (.ref CBadSize) "size" = some none)
    (isBadSize_HeapError : PySem.W.kitOne K (.ref CBadSize) (.ref CHeapError) = some true)
    (isBadSize_BadChain : PySem.W.kitOne K (.ref CBadSize) (.ref CBadChain) = some false)
    (isBadSize_BadPages : PySem.W.kitOne K (.ref CBadSize) (.ref CBadPages) = some false)
    (isBadSize_BadLimit : PySem.W.kitOne K (.ref CBadSize) (.ref CBadLimit) = some false)
    (isBadSize_BadRule : PySem.W.kitOne K (.ref CBadSize) (.ref CBadRule) = some false)
    (isBadSize_BadSize : PySem.W.kitOne K (.ref CBadSize) (.ref CBadSize) = some true)
    (isBadSize_BadState : PySem.W.kitOne K (.ref CBadSize) (.ref CBadState) = some false)
    (isBadSize_BadPlace : PySem.W.kitOne K (.ref CBadSize) (.ref CBadPlace) = some false)
    (isBadSize_BadAnswer : PySem.W.kitOne K (.ref CBadSize) (.ref CBadAnswer) = some false)
    (isBadSize_BadEvent : PySem.W.kitOne K (.ref CBadSize) (.ref CBadEvent) = some false)
    (isBadSize_OverLimit : PySem.W.kitOne K (.ref CBadSize) (.ref COverLimit) = some false)
    (isBadSize_NoRoom : PySem.W.kitOne K (.ref CBadSize) (.ref CNoRoom) = some false)
    (isBadSize_NoBlock : PySem.W.kitOne K (.ref CBadSize) (.ref CNoBlock) = some false)
    (isBadSize_TooMany : PySem.W.kitOne K (.ref CBadSize) (.ref CTooMany) = some false)
    (isBadSize_BadText : PySem.W.kitOne K (.ref CBadSize) (.ref CBadText) = some false)
    (isBadSize_BadLine : PySem.W.kitOne K (.ref CBadSize) (.ref CBadLine) = some false)
    (isBadSize_Safe : PySem.W.kitOne K (.ref CBadSize) (.ref CSafe) = some false)
    (isBadSize_Unsafe : PySem.W.kitOne K (.ref CBadSize) (.ref CUnsafe) = some false)
    (isBadSize_Finished : PySem.W.kitOne K (.ref CBadSize) (.ref CFinished) = some false)
    (isBadSize_NothingToUndo : PySem.W.kitOne K (.ref CBadSize) (.ref CNothingToUndo) = some false)
    (ssBadSize_BadSize : PySem.W.subIn K (.ref CBadSize) (.ref CBadSize) = some true)
    {nmBadState qBadState : Str} {NBadState : Addr} {bsBadState : List Value} {snBadState : List Str} {subBadState : List Value} {abBadState : Bool} {colBadState : Option Bool} {ddBadState : Option Addr} {m0BadState m1BadState m2BadState m3BadState m5BadState : Option Value}
    (xLBadState : K.lookup CBadState = some (excClassObj nmBadState qBadState CBadState NBadState bsBadState [.ref CHeapError, .type "ValueError", .type "Exception", .type "BaseException", .type "object"] true snBadState subBadState abBadState colBadState ddBadState m0BadState m1BadState m2BadState m3BadState m5BadState "ValueError.__new__"))
    (saBadState : PySem.W.findIn K (.ref CBadState) "__setattr__" = some (some (.builtin "object.__setattr__"))) (bxBadState : PySem.W.subIn K (.ref CBadState) (.type "BaseException") = some true) (tyBadState : PySem.W.typeIn K (.ref CBadState) = some (.type "type")) (kpBadState : PySem.W.keepIn K (.ref CBadState) = true)
    (gaBadState : PySem.W.findIn K (.ref CBadState) "__getattribute__" = some (some (.builtin "BaseException.__getattribute__"))) (ggBadState : PySem.W.findIn K (.ref CBadState) "__getattr__" = some none) (hdBadState : PySem.W.hasDictIn K CBadState = true) (caBadState : PySem.W.findIn K (.ref CBadState) "__class__" = some (some (.builtin "object.__class__"))) (moBadState : PySem.W.mroIn K CBadState (.type "object") = some true)
    (sHBadState : PySem.W.subIn K (.ref CBadState) (.ref CHeapError) = some true) (isBadState_ValueError : PySem.W.kitOne K (.ref CBadState) (.type "ValueError") = some true)
    (nfBadState_value : PySem.W.findIn K (.ref CBadState) "value" = some none)
    (isBadState_HeapError : PySem.W.kitOne K (.ref CBadState) (.ref CHeapError) = some true)
    (isBadState_BadChain : PySem.W.kitOne K (.ref CBadState) (.ref CBadChain) = some false)
    (isBadState_BadPages : PySem.W.kitOne K (.ref CBadState) (.ref CBadPages) = some false)
    (isBadState_BadLimit : PySem.W.kitOne K (.ref CBadState) (.ref CBadLimit) = some false)
    (isBadState_BadRule : PySem.W.kitOne K (.ref CBadState) (.ref CBadRule) = some false)
    (isBadState_BadSize : PySem.W.kitOne K (.ref CBadState) (.ref CBadSize) = some false)
    (isBadState_BadState : PySem.W.kitOne K (.ref CBadState) (.ref CBadState) = some true)
    (isBadState_BadPlace : PySem.W.kitOne K (.ref CBadState) (.ref CBadPlace) = some false)
    (isBadState_BadAnswer : PySem.W.kitOne K (.ref CBadState) (.ref CBadAnswer) = some false)
    (isBadState_BadEvent : PySem.W.kitOne K (.ref CBadState) (.ref CBadEvent) = some false)
    (isBadState_OverLimit : PySem.W.kitOne K (.ref CBadState) (.ref COverLimit) = some false)
    (isBadState_NoRoom : PySem.W.kitOne K (.ref CBadState) (.ref CNoRoom) = some false)
    (isBadState_NoBlock : PySem.W.kitOne K (.ref CBadState) (.ref CNoBlock) = some false)
    (isBadState_TooMany : PySem.W.kitOne K (.ref CBadState) (.ref CTooMany) = some false)
    (isBadState_BadText : PySem.W.kitOne K (.ref CBadState) (.ref CBadText) = some false)
    (isBadState_BadLine : PySem.W.kitOne K (.ref CBadState) (.ref CBadLine) = some false)
    (isBadState_Safe : PySem.W.kitOne K (.ref CBadState) (.ref CSafe) = some false)
    (isBadState_Unsafe : PySem.W.kitOne K (.ref CBadState) (.ref CUnsafe) = some false)
    (isBadState_Finished : PySem.W.kitOne K (.ref CBadState) (.ref CFinished) = some false)
    (isBadState_NothingToUndo : PySem.W.kitOne K (.ref CBadState) (.ref CNothingToUndo) = some false)
    (ssBadState_BadState : PySem.W.subIn K (.ref CBadState) (.ref CBadState) = some true)
    {nmBadPlace qBadPlace : Str} {NBadPlace : Addr} {bsBadPlace : List Value} {snBadPlace : List Str} {subBadPlace : List Value} {abBadPlace : Bool} {colBadPlace : Option Bool} {ddBadPlace : Option Addr} {m0BadPlace m1BadPlace m2BadPlace m3BadPlace m5BadPlace : Option Value}
    (xLBadPlace : K.lookup CBadPlace = some (excClassObj nmBadPlace qBadPlace CBadPlace NBadPlace bsBadPlace [.ref CHeapError, .type "ValueError", .type "Exception", .type "BaseException", .type "object"] true snBadPlace subBadPlace abBadPlace colBadPlace ddBadPlace m0BadPlace m1BadPlace m2BadPlace m3BadPlace m5BadPlace "ValueError.__new__"))
    (saBadPlace : PySem.W.findIn K (.ref CBadPlace) "__setattr__" = some (some (.builtin "object.__setattr__"))) (bxBadPlace : PySem.W.subIn K (.ref CBadPlace) (.type "BaseException") = some true) (tyBadPlace : PySem.W.typeIn K (.ref CBadPlace) = some (.type "type")) (kpBadPlace : PySem.W.keepIn K (.ref CBadPlace) = true)
    (gaBadPlace : PySem.W.findIn K (.ref CBadPlace) "__getattribute__" = some (some (.builtin "BaseException.__getattribute__"))) (ggBadPlace : PySem.W.findIn K (.ref CBadPlace) "__getattr__" = some none) (hdBadPlace : PySem.W.hasDictIn K CBadPlace = true) (caBadPlace : PySem.W.findIn K (.ref CBadPlace) "__class__" = some (some (.builtin "object.__class__"))) (moBadPlace : PySem.W.mroIn K CBadPlace (.type "object") = some true)
    (sHBadPlace : PySem.W.subIn K (.ref CBadPlace) (.ref CHeapError) = some true) (isBadPlace_ValueError : PySem.W.kitOne K (.ref CBadPlace) (.type "ValueError") = some true)
    (nfBadPlace_address : PySem.W.findIn K (.ref CBadPlace) "address" = some none)
    (isBadPlace_HeapError : PySem.W.kitOne K (.ref CBadPlace) (.ref CHeapError) = some true)
    (isBadPlace_BadChain : PySem.W.kitOne K (.ref CBadPlace) (.ref CBadChain) = some false)
    (isBadPlace_BadPages : PySem.W.kitOne K (.ref CBadPlace) (.ref CBadPages) = some false)
    (isBadPlace_BadLimit : PySem.W.kitOne K (.ref CBadPlace) (.ref CBadLimit) = some false)
    (isBadPlace_BadRule : PySem.W.kitOne K (.ref CBadPlace) (.ref CBadRule) = some false)
    (isBadPlace_BadSize : PySem.W.kitOne K (.ref CBadPlace) (.ref CBadSize) = some false)
    (isBadPlace_BadState : PySem.W.kitOne K (.ref CBadPlace) (.ref CBadState) = some false)
    (isBadPlace_BadPlace : PySem.W.kitOne K (.ref CBadPlace) (.ref CBadPlace) = some true)
    (isBadPlace_BadAnswer : PySem.W.kitOne K (.ref CBadPlace) (.ref CBadAnswer) = some false)
    (isBadPlace_BadEvent : PySem.W.kitOne K (.ref CBadPlace) (.ref CBadEvent) = some false)
    (isBadPlace_OverLimit : PySem.W.kitOne K (.ref CBadPlace) (.ref COverLimit) = some false)
    (isBadPlace_NoRoom : PySem.W.kitOne K (.ref CBadPlace) (.ref CNoRoom) = some false)
    (isBadPlace_NoBlock : PySem.W.kitOne K (.ref CBadPlace) (.ref CNoBlock) = some false)
    (isBadPlace_TooMany : PySem.W.kitOne K (.ref CBadPlace) (.ref CTooMany) = some false)
    (isBadPlace_BadText : PySem.W.kitOne K (.ref CBadPlace) (.ref CBadText) = some false)
    (isBadPlace_BadLine : PySem.W.kitOne K (.ref CBadPlace) (.ref CBadLine) = some false)
    (isBadPlace_Safe : PySem.W.kitOne K (.ref CBadPlace) (.ref CSafe) = some false)
    (isBadPlace_Unsafe : PySem.W.kitOne K (.ref CBadPlace) (.ref CUnsafe) = some false)
    (isBadPlace_Finished : PySem.W.kitOne K (.ref CBadPlace) (.ref CFinished) = some false)
    (isBadPlace_NothingToUndo : PySem.W.kitOne K (.ref CBadPlace) (.ref CNothingToUndo) = some false)
    (ssBadPlace_BadPlace : PySem.W.subIn K (.ref CBadPlace) (.ref CBadPlace) = some true)
    {nmBadAnswer qBadAnswer : Str} {NBadAnswer : Addr} {bsBadAnswer : List Value} {snBadAnswer : List Str} {subBadAnswer : List Value} {abBadAnswer : Bool} {colBadAnswer : Option Bool} {ddBadAnswer : Option Addr} {m0BadAnswer m1BadAnswer m2BadAnswer m3BadAnswer m5BadAnswer : Option Value}
    (xLBadAnswer : K.lookup CBadAnswer = some (excClassObj nmBadAnswer qBadAnswer CBadAnswer NBadAnswer bsBadAnswer [.ref CHeapError, .type "ValueError", .type "Exception", .type "BaseException", .type "object"] true snBadAnswer subBadAnswer abBadAnswer colBadAnswer ddBadAnswer m0BadAnswer m1BadAnswer m2BadAnswer m3BadAnswer m5BadAnswer "ValueError.__new__"))
    (saBadAnswer : PySem.W.findIn K (.ref CBadAnswer) "__setattr__" = some (some (.builtin "object.__setattr__"))) (bxBadAnswer : PySem.W.subIn K (.ref CBadAnswer) (.type "BaseException") = some true) (tyBadAnswer : PySem.W.typeIn K (.ref CBadAnswer) = some (.type "type")) (kpBadAnswer : PySem.W.keepIn K (.ref CBadAnswer) = true)
    (gaBadAnswer : PySem.W.findIn K (.ref CBadAnswer) "__getattribute__" = some (some (.builtin "BaseException.__getattribute__"))) (ggBadAnswer : PySem.W.findIn K (.ref CBadAnswer) "__getattr__" = some none) (hdBadAnswer : PySem.W.hasDictIn K CBadAnswer = true) (caBadAnswer : PySem.W.findIn K (.ref CBadAnswer) "__class__" = some (some (.builtin "object.__class__"))) (moBadAnswer : PySem.W.mroIn K CBadAnswer (.type "object") = some true)
    (sHBadAnswer : PySem.W.subIn K (.ref CBadAnswer) (.ref CHeapError) = some true) (isBadAnswer_ValueError : PySem.W.kitOne K (.ref CBadAnswer) (.type "ValueError") = some true)
    (nfBadAnswer_value : PySem.W.findIn K (.ref CBadAnswer) "value" = some none)
    (isBadAnswer_HeapError : PySem.W.kitOne K (.ref CBadAnswer) (.ref CHeapError) = some true)
    (isBadAnswer_BadChain : PySem.W.kitOne K (.ref CBadAnswer) (.ref CBadChain) = some false)
    (isBadAnswer_BadPages : PySem.W.kitOne K (.ref CBadAnswer) (.ref CBadPages) = some false)
    (isBadAnswer_BadLimit : PySem.W.kitOne K (.ref CBadAnswer) (.ref CBadLimit) = some false)
    (isBadAnswer_BadRule : PySem.W.kitOne K (.ref CBadAnswer) (.ref CBadRule) = some false)
    (isBadAnswer_BadSize : PySem.W.kitOne K (.ref CBadAnswer) (.ref CBadSize) = some false)
    (isBadAnswer_BadState : PySem.W.kitOne K (.ref CBadAnswer) (.ref CBadState) = some false)
    (isBadAnswer_BadPlace : PySem.W.kitOne K (.ref CBadAnswer) (.ref CBadPlace) = some false)
    (isBadAnswer_BadAnswer : PySem.W.kitOne K (.ref CBadAnswer) (.ref CBadAnswer) = some true)
    (isBadAnswer_BadEvent : PySem.W.kitOne K (.ref CBadAnswer) (.ref CBadEvent) = some false)
    (isBadAnswer_OverLimit : PySem.W.kitOne K (.ref CBadAnswer) (.ref COverLimit) = some false)
    (isBadAnswer_NoRoom : PySem.W.kitOne K (.ref CBadAnswer) (.ref CNoRoom) = some false)
    (isBadAnswer_NoBlock : PySem.W.kitOne K (.ref CBadAnswer) (.ref CNoBlock) = some false)
    (isBadAnswer_TooMany : PySem.W.kitOne K (.ref CBadAnswer) (.ref CTooMany) = some false)
    (isBadAnswer_BadText : PySem.W.kitOne K (.ref CBadAnswer) (.ref CBadText) = some false)
    (isBadAnswer_BadLine : PySem.W.kitOne K (.ref CBadAnswer) (.ref CBadLine) = some false)
    (isBadAnswer_Safe : PySem.W.kitOne K (.ref CBadAnswer) (.ref CSafe) = some false)
    (isBadAnswer_Unsafe : PySem.W.kitOne K (.ref CBadAnswer) (.ref CUnsafe) = some false)
    (isBadAnswer_Finished : PySem.W.kitOne K (.ref CBadAnswer) (.ref CFinished) = some false)
    (isBadAnswer_NothingToUndo : PySem.W.kitOne K (.ref CBadAnswer) (.ref CNothingToUndo) = some false)
    (ssBadAnswer_BadAnswer : PySem.W.subIn K (.ref CBadAnswer) (.ref CBadAnswer) = some true)
    {nmBadEvent qBadEvent : Str} {NBadEvent : Addr} {bsBadEvent : List Value} {snBadEvent : List Str} {subBadEvent : List Value} {abBadEvent : Bool} {colBadEvent : Option Bool} {ddBadEvent : Option Addr} {m0BadEvent m1BadEvent m2BadEvent m3BadEvent m5BadEvent : Option Value}
    (xLBadEvent : K.lookup CBadEvent = some (excClassObj nmBadEvent qBadEvent CBadEvent NBadEvent bsBadEvent [.ref CHeapError, .type "ValueError", .type "Exception", .type "BaseException", .type "object"] true snBadEvent subBadEvent abBadEvent colBadEvent ddBadEvent m0BadEvent m1BadEvent m2BadEvent m3BadEvent m5BadEvent "ValueError.__new__"))
    (saBadEvent : PySem.W.findIn K (.ref CBadEvent) "__setattr__" = some (some (.builtin "object.__setattr__"))) (bxBadEvent : PySem.W.subIn K (.ref CBadEvent) (.type "BaseException") = some true) (tyBadEvent : PySem.W.typeIn K (.ref CBadEvent) = some (.type "type")) (kpBadEvent : PySem.W.keepIn K (.ref CBadEvent) = true)
    (gaBadEvent : PySem.W.findIn K (.ref CBadEvent) "__getattribute__" = some (some (.builtin "BaseException.__getattribute__"))) (ggBadEvent : PySem.W.findIn K (.ref CBadEvent) "__getattr__" = some none) (hdBadEvent : PySem.W.hasDictIn K CBadEvent = true) (caBadEvent : PySem.W.findIn K (.ref CBadEvent) "__class__" = some (some (.builtin "object.__class__"))) (moBadEvent : PySem.W.mroIn K CBadEvent (.type "object") = some true)
    (sHBadEvent : PySem.W.subIn K (.ref CBadEvent) (.ref CHeapError) = some true) (isBadEvent_ValueError : PySem.W.kitOne K (.ref CBadEvent) (.type "ValueError") = some true)
    (nfBadEvent_number : PySem.W.findIn K (.ref CBadEvent) "number" = some none)
    (isBadEvent_HeapError : PySem.W.kitOne K (.ref CBadEvent) (.ref CHeapError) = some true)
    (isBadEvent_BadChain : PySem.W.kitOne K (.ref CBadEvent) (.ref CBadChain) = some false)
    (isBadEvent_BadPages : PySem.W.kitOne K (.ref CBadEvent) (.ref CBadPages) = some false)
    (isBadEvent_BadLimit : PySem.W.kitOne K (.ref CBadEvent) (.ref CBadLimit) = some false)
    (isBadEvent_BadRule : PySem.W.kitOne K (.ref CBadEvent) (.ref CBadRule) = some false)
    (isBadEvent_BadSize : PySem.W.kitOne K (.ref CBadEvent) (.ref CBadSize) = some false)
    (isBadEvent_BadState : PySem.W.kitOne K (.ref CBadEvent) (.ref CBadState) = some false)
    (isBadEvent_BadPlace : PySem.W.kitOne K (.ref CBadEvent) (.ref CBadPlace) = some false)
    (isBadEvent_BadAnswer : PySem.W.kitOne K (.ref CBadEvent) (.ref CBadAnswer) = some false)
    (isBadEvent_BadEvent : PySem.W.kitOne K (.ref CBadEvent) (.ref CBadEvent) = some true)
    (isBadEvent_OverLimit : PySem.W.kitOne K (.ref CBadEvent) (.ref COverLimit) = some false)
    (isBadEvent_NoRoom : PySem.W.kitOne K (.ref CBadEvent) (.ref CNoRoom) = some false)
    (isBadEvent_NoBlock : PySem.W.kitOne K (.ref CBadEvent) (.ref CNoBlock) = some false)
    (isBadEvent_TooMany : PySem.W.kitOne K (.ref CBadEvent) (.ref CTooMany) = some false)
    (isBadEvent_BadText : PySem.W.kitOne K (.ref CBadEvent) (.ref CBadText) = some false)
    (isBadEvent_BadLine : PySem.W.kitOne K (.ref CBadEvent) (.ref CBadLine) = some false)
    (isBadEvent_Safe : PySem.W.kitOne K (.ref CBadEvent) (.ref CSafe) = some false)
    (isBadEvent_Unsafe : PySem.W.kitOne K (.ref CBadEvent) (.ref CUnsafe) = some false)
    (isBadEvent_Finished : PySem.W.kitOne K (.ref CBadEvent) (.ref CFinished) = some false)
    (isBadEvent_NothingToUndo : PySem.W.kitOne K (.ref CBadEvent) (.ref CNothingToUndo) = some false)
    (ssBadEvent_BadEvent : PySem.W.subIn K (.ref CBadEvent) (.ref CBadEvent) = some true)
    {nmOverLimit qOverLimit : Str} {NOverLimit : Addr} {bsOverLimit : List Value} {snOverLimit : List Str} {subOverLimit : List Value} {abOverLimit : Bool} {colOverLimit : Option Bool} {ddOverLimit : Option Addr} {m0OverLimit m1OverLimit m2OverLimit m3OverLimit m5OverLimit : Option Value}
    (xLOverLimit : K.lookup COverLimit = some (excClassObj nmOverLimit qOverLimit COverLimit NOverLimit bsOverLimit [.ref CHeapError, .type "ValueError", .type "Exception", .type "BaseException", .type "object"] true snOverLimit subOverLimit abOverLimit colOverLimit ddOverLimit m0OverLimit m1OverLimit m2OverLimit m3OverLimit m5OverLimit "ValueError.__new__"))
    (saOverLimit : PySem.W.findIn K (.ref COverLimit) "__setattr__" = some (some (.builtin "object.__setattr__"))) (bxOverLimit : PySem.W.subIn K (.ref COverLimit) (.type "BaseException") = some true) (tyOverLimit : PySem.W.typeIn K (.ref COverLimit) = some (.type "type")) (kpOverLimit : PySem.W.keepIn K (.ref COverLimit) = true)
    (gaOverLimit : PySem.W.findIn K (.ref COverLimit) "__getattribute__" = some (some (.builtin "BaseException.__getattribute__"))) (ggOverLimit : PySem.W.findIn K (.ref COverLimit) "__getattr__" = some none) (hdOverLimit : PySem.W.hasDictIn K COverLimit = true) (caOverLimit : PySem.W.findIn K (.ref COverLimit) "__class__" = some (some (.builtin "object.__class__"))) (moOverLimit : PySem.W.mroIn K COverLimit (.type "object") = some true)
    (sHOverLimit : PySem.W.subIn K (.ref COverLimit) (.ref CHeapError) = some true) (isOverLimit_ValueError : PySem.W.kitOne K (.ref COverLimit) (.type "ValueError") = some true)
    (nfOverLimit_size : PySem.W.findIn K (.ref COverLimit) "size" = some none)
    (isOverLimit_HeapError : PySem.W.kitOne K (.ref COverLimit) (.ref CHeapError) = some true)
    (isOverLimit_BadChain : PySem.W.kitOne K (.ref COverLimit) (.ref CBadChain) = some false)
    (isOverLimit_BadPages : PySem.W.kitOne K (.ref COverLimit) (.ref CBadPages) = some false)
    (isOverLimit_BadLimit : PySem.W.kitOne K (.ref COverLimit) (.ref CBadLimit) = some false)
    (isOverLimit_BadRule : PySem.W.kitOne K (.ref COverLimit) (.ref CBadRule) = some false)
    (isOverLimit_BadSize : PySem.W.kitOne K (.ref COverLimit) (.ref CBadSize) = some false)
    (isOverLimit_BadState : PySem.W.kitOne K (.ref COverLimit) (.ref CBadState) = some false)
    (isOverLimit_BadPlace : PySem.W.kitOne K (.ref COverLimit) (.ref CBadPlace) = some false)
    (isOverLimit_BadAnswer : PySem.W.kitOne K (.ref COverLimit) (.ref CBadAnswer) = some false)
    (isOverLimit_BadEvent : PySem.W.kitOne K (.ref COverLimit) (.ref CBadEvent) = some false)
    (isOverLimit_OverLimit : PySem.W.kitOne K (.ref COverLimit) (.ref COverLimit) = some true)
    (isOverLimit_NoRoom : PySem.W.kitOne K (.ref COverLimit) (.ref CNoRoom) = some false)
    (isOverLimit_NoBlock : PySem.W.kitOne K (.ref COverLimit) (.ref CNoBlock) = some false)
    (isOverLimit_TooMany : PySem.W.kitOne K (.ref COverLimit) (.ref CTooMany) = some false)
    (isOverLimit_BadText : PySem.W.kitOne K (.ref COverLimit) (.ref CBadText) = some false)
    (isOverLimit_BadLine : PySem.W.kitOne K (.ref COverLimit) (.ref CBadLine) = some false)
    (isOverLimit_Safe : PySem.W.kitOne K (.ref COverLimit) (.ref CSafe) = some false)
    (isOverLimit_Unsafe : PySem.W.kitOne K (.ref COverLimit) (.ref CUnsafe) = some false)
    (isOverLimit_Finished : PySem.W.kitOne K (.ref COverLimit) (.ref CFinished) = some false)
    (isOverLimit_NothingToUndo : PySem.W.kitOne K (.ref COverLimit) (.ref CNothingToUndo) = some false)
    (ssOverLimit_OverLimit : PySem.W.subIn K (.ref COverLimit) (.ref COverLimit) = some true)
    {nmNoRoom qNoRoom : Str} {NNoRoom : Addr} {bsNoRoom : List Value} {snNoRoom : List Str} {subNoRoom : List Value} {abNoRoom : Bool} {colNoRoom : Option Bool} {ddNoRoom : Option Addr} {m0NoRoom m1NoRoom m2NoRoom m3NoRoom m5NoRoom : Option Value}
    (xLNoRoom : K.lookup CNoRoom = some (excClassObj nmNoRoom qNoRoom CNoRoom NNoRoom bsNoRoom [.ref CHeapError, .type "ValueError", .type "Exception", .type "BaseException", .type "object"] true snNoRoom subNoRoom abNoRoom colNoRoom ddNoRoom m0NoRoom m1NoRoom m2NoRoom m3NoRoom m5NoRoom "ValueError.__new__"))
    (saNoRoom : PySem.W.findIn K (.ref CNoRoom) "__setattr__" = some (some (.builtin "object.__setattr__"))) (bxNoRoom : PySem.W.subIn K (.ref CNoRoom) (.type "BaseException") = some true) (tyNoRoom : PySem.W.typeIn K (.ref CNoRoom) = some (.type "type")) (kpNoRoom : PySem.W.keepIn K (.ref CNoRoom) = true)
    (gaNoRoom : PySem.W.findIn K (.ref CNoRoom) "__getattribute__" = some (some (.builtin "BaseException.__getattribute__"))) (ggNoRoom : PySem.W.findIn K (.ref CNoRoom) "__getattr__" = some none) (hdNoRoom : PySem.W.hasDictIn K CNoRoom = true) (caNoRoom : PySem.W.findIn K (.ref CNoRoom) "__class__" = some (some (.builtin "object.__class__"))) (moNoRoom : PySem.W.mroIn K CNoRoom (.type "object") = some true)
    (sHNoRoom : PySem.W.subIn K (.ref CNoRoom) (.ref CHeapError) = some true) (isNoRoom_ValueError : PySem.W.kitOne K (.ref CNoRoom) (.type "ValueError") = some true)
    (nfNoRoom_size : PySem.W.findIn K (.ref CNoRoom) "size" = some none)
    (isNoRoom_HeapError : PySem.W.kitOne K (.ref CNoRoom) (.ref CHeapError) = some true)
    (isNoRoom_BadChain : PySem.W.kitOne K (.ref CNoRoom) (.ref CBadChain) = some false)
    (isNoRoom_BadPages : PySem.W.kitOne K (.ref CNoRoom) (.ref CBadPages) = some false)
    (isNoRoom_BadLimit : PySem.W.kitOne K (.ref CNoRoom) (.ref CBadLimit) = some false)
    (isNoRoom_BadRule : PySem.W.kitOne K (.ref CNoRoom) (.ref CBadRule) = some false)
    (isNoRoom_BadSize : PySem.W.kitOne K (.ref CNoRoom) (.ref CBadSize) = some false)
    (isNoRoom_BadState : PySem.W.kitOne K (.ref CNoRoom) (.ref CBadState) = some false)
    (isNoRoom_BadPlace : PySem.W.kitOne K (.ref CNoRoom) (.ref CBadPlace) = some false)
    (isNoRoom_BadAnswer : PySem.W.kitOne K (.ref CNoRoom) (.ref CBadAnswer) = some false)
    (isNoRoom_BadEvent : PySem.W.kitOne K (.ref CNoRoom) (.ref CBadEvent) = some false)
    (isNoRoom_OverLimit : PySem.W.kitOne K (.ref CNoRoom) (.ref COverLimit) = some false)
    (isNoRoom_NoRoom : PySem.W.kitOne K (.ref CNoRoom) (.ref CNoRoom) = some true)
    (isNoRoom_NoBlock : PySem.W.kitOne K (.ref CNoRoom) (.ref CNoBlock) = some false)
    (isNoRoom_TooMany : PySem.W.kitOne K (.ref CNoRoom) (.ref CTooMany) = some false)
    (isNoRoom_BadText : PySem.W.kitOne K (.ref CNoRoom) (.ref CBadText) = some false)
    (isNoRoom_BadLine : PySem.W.kitOne K (.ref CNoRoom) (.ref CBadLine) = some false)
    (isNoRoom_Safe : PySem.W.kitOne K (.ref CNoRoom) (.ref CSafe) = some false)
    (isNoRoom_Unsafe : PySem.W.kitOne K (.ref CNoRoom) (.ref CUnsafe) = some false)
    (isNoRoom_Finished : PySem.W.kitOne K (.ref CNoRoom) (.ref CFinished) = some false)
    (isNoRoom_NothingToUndo : PySem.W.kitOne K (.ref CNoRoom) (.ref CNothingToUndo) = some false)
    (ssNoRoom_NoRoom : PySem.W.subIn K (.ref CNoRoom) (.ref CNoRoom) = some true)
    {nmNoBlock qNoBlock : Str} {NNoBlock : Addr} {bsNoBlock : List Value} {snNoBlock : List Str} {subNoBlock : List Value} {abNoBlock : Bool} {colNoBlock : Option Bool} {ddNoBlock : Option Addr} {m0NoBlock m1NoBlock m2NoBlock m3NoBlock m5NoBlock : Option Value}
    (xLNoBlock : K.lookup CNoBlock = some (excClassObj nmNoBlock qNoBlock CNoBlock NNoBlock bsNoBlock [.ref CHeapError, .type "ValueError", .type "Exception", .type "BaseException", .type "object"] true snNoBlock subNoBlock abNoBlock colNoBlock ddNoBlock m0NoBlock m1NoBlock m2NoBlock m3NoBlock m5NoBlock "ValueError.__new__"))
    (saNoBlock : PySem.W.findIn K (.ref CNoBlock) "__setattr__" = some (some (.builtin "object.__setattr__"))) (bxNoBlock : PySem.W.subIn K (.ref CNoBlock) (.type "BaseException") = some true) (tyNoBlock : PySem.W.typeIn K (.ref CNoBlock) = some (.type "type")) (kpNoBlock : PySem.W.keepIn K (.ref CNoBlock) = true)
    (gaNoBlock : PySem.W.findIn K (.ref CNoBlock) "__getattribute__" = some (some (.builtin "BaseException.__getattribute__"))) (ggNoBlock : PySem.W.findIn K (.ref CNoBlock) "__getattr__" = some none) (hdNoBlock : PySem.W.hasDictIn K CNoBlock = true) (caNoBlock : PySem.W.findIn K (.ref CNoBlock) "__class__" = some (some (.builtin "object.__class__"))) (moNoBlock : PySem.W.mroIn K CNoBlock (.type "object") = some true)
    (sHNoBlock : PySem.W.subIn K (.ref CNoBlock) (.ref CHeapError) = some true) (isNoBlock_ValueError : PySem.W.kitOne K (.ref CNoBlock) (.type "ValueError") = some true)
    (nfNoBlock_address : PySem.W.findIn K (.ref CNoBlock) "address" = some none)
    (isNoBlock_HeapError : PySem.W.kitOne K (.ref CNoBlock) (.ref CHeapError) = some true)
    (isNoBlock_BadChain : PySem.W.kitOne K (.ref CNoBlock) (.ref CBadChain) = some false)
    (isNoBlock_BadPages : PySem.W.kitOne K (.ref CNoBlock) (.ref CBadPages) = some false)
    (isNoBlock_BadLimit : PySem.W.kitOne K (.ref CNoBlock) (.ref CBadLimit) = some false)
    (isNoBlock_BadRule : PySem.W.kitOne K (.ref CNoBlock) (.ref CBadRule) = some false)
    (isNoBlock_BadSize : PySem.W.kitOne K (.ref CNoBlock) (.ref CBadSize) = some false)
    (isNoBlock_BadState : PySem.W.kitOne K (.ref CNoBlock) (.ref CBadState) = some false)
    (isNoBlock_BadPlace : PySem.W.kitOne K (.ref CNoBlock) (.ref CBadPlace) = some false)
    (isNoBlock_BadAnswer : PySem.W.kitOne K (.ref CNoBlock) (.ref CBadAnswer) = some false)
    (isNoBlock_BadEvent : PySem.W.kitOne K (.ref CNoBlock) (.ref CBadEvent) = some false)
    (isNoBlock_OverLimit : PySem.W.kitOne K (.ref CNoBlock) (.ref COverLimit) = some false)
    (isNoBlock_NoRoom : PySem.W.kitOne K (.ref CNoBlock) (.ref CNoRoom) = some false)
    (isNoBlock_NoBlock : PySem.W.kitOne K (.ref CNoBlock) (.ref CNoBlock) = some true)
    (isNoBlock_TooMany : PySem.W.kitOne K (.ref CNoBlock) (.ref CTooMany) = some false)
    (isNoBlock_BadText : PySem.W.kitOne K (.ref CNoBlock) (.ref CBadText) = some false)
    (isNoBlock_BadLine : PySem.W.kitOne K (.ref CNoBlock) (.ref CBadLine) = some false)
    (isNoBlock_Safe : PySem.W.kitOne K (.ref CNoBlock) (.ref CSafe) = some false)
    (isNoBlock_Unsafe : PySem.W.kitOne K (.ref CNoBlock) (.ref CUnsafe) = some false)
    (isNoBlock_Finished : PySem.W.kitOne K (.ref CNoBlock) (.ref CFinished) = some false)
    (isNoBlock_NothingToUndo : PySem.W.kitOne K (.ref CNoBlock) (.ref CNothingToUndo) = some false)
    (ssNoBlock_NoBlock : PySem.W.subIn K (.ref CNoBlock) (.ref CNoBlock) = some true)
    {nmTooMany qTooMany : Str} {NTooMany : Addr} {bsTooMany : List Value} {snTooMany : List Str} {subTooMany : List Value} {abTooMany : Bool} {colTooMany : Option Bool} {ddTooMany : Option Addr} {m0TooMany m1TooMany m2TooMany m3TooMany m5TooMany : Option Value}
    (xLTooMany : K.lookup CTooMany = some (excClassObj nmTooMany qTooMany CTooMany NTooMany bsTooMany [.ref CHeapError, .type "ValueError", .type "Exception", .type "BaseException", .type "object"] true snTooMany subTooMany abTooMany colTooMany ddTooMany m0TooMany m1TooMany m2TooMany m3TooMany m5TooMany "ValueError.__new__"))
    (saTooMany : PySem.W.findIn K (.ref CTooMany) "__setattr__" = some (some (.builtin "object.__setattr__"))) (bxTooMany : PySem.W.subIn K (.ref CTooMany) (.type "BaseException") = some true) (tyTooMany : PySem.W.typeIn K (.ref CTooMany) = some (.type "type")) (kpTooMany : PySem.W.keepIn K (.ref CTooMany) = true)
    (gaTooMany : PySem.W.findIn K (.ref CTooMany) "__getattribute__" = some (some (.builtin "BaseException.__getattribute__"))) (ggTooMany : PySem.W.findIn K (.ref CTooMany) "__getattr__" = some none) (hdTooMany : PySem.W.hasDictIn K CTooMany = true) (caTooMany : PySem.W.findIn K (.ref CTooMany) "__class__" = some (some (.builtin "object.__class__"))) (moTooMany : PySem.W.mroIn K CTooMany (.type "object") = some true)
    (sHTooMany : PySem.W.subIn K (.ref CTooMany) (.ref CHeapError) = some true) (isTooMany_ValueError : PySem.W.kitOne K (.ref CTooMany) (.type "ValueError") = some true)
    (nfTooMany_limit : PySem.W.findIn K (.ref CTooMany) "limit" = some none)
    (isTooMany_HeapError : PySem.W.kitOne K (.ref CTooMany) (.ref CHeapError) = some true)
    (isTooMany_BadChain : PySem.W.kitOne K (.ref CTooMany) (.ref CBadChain) = some false)
    (isTooMany_BadPages : PySem.W.kitOne K (.ref CTooMany) (.ref CBadPages) = some false)
    (isTooMany_BadLimit : PySem.W.kitOne K (.ref CTooMany) (.ref CBadLimit) = some false)
    (isTooMany_BadRule : PySem.W.kitOne K (.ref CTooMany) (.ref CBadRule) = some false)
    (isTooMany_BadSize : PySem.W.kitOne K (.ref CTooMany) (.ref CBadSize) = some false)
    (isTooMany_BadState : PySem.W.kitOne K (.ref CTooMany) (.ref CBadState) = some false)
    (isTooMany_BadPlace : PySem.W.kitOne K (.ref CTooMany) (.ref CBadPlace) = some false)
    (isTooMany_BadAnswer : PySem.W.kitOne K (.ref CTooMany) (.ref CBadAnswer) = some false)
    (isTooMany_BadEvent : PySem.W.kitOne K (.ref CTooMany) (.ref CBadEvent) = some false)
    (isTooMany_OverLimit : PySem.W.kitOne K (.ref CTooMany) (.ref COverLimit) = some false)
    (isTooMany_NoRoom : PySem.W.kitOne K (.ref CTooMany) (.ref CNoRoom) = some false)
    (isTooMany_NoBlock : PySem.W.kitOne K (.ref CTooMany) (.ref CNoBlock) = some false)
    (isTooMany_TooMany : PySem.W.kitOne K (.ref CTooMany) (.ref CTooMany) = some true)
    (isTooMany_BadText : PySem.W.kitOne K (.ref CTooMany) (.ref CBadText) = some false)
    (isTooMany_BadLine : PySem.W.kitOne K (.ref CTooMany) (.ref CBadLine) = some false)
    (isTooMany_Safe : PySem.W.kitOne K (.ref CTooMany) (.ref CSafe) = some false)
    (isTooMany_Unsafe : PySem.W.kitOne K (.ref CTooMany) (.ref CUnsafe) = some false)
    (isTooMany_Finished : PySem.W.kitOne K (.ref CTooMany) (.ref CFinished) = some false)
    (isTooMany_NothingToUndo : PySem.W.kitOne K (.ref CTooMany) (.ref CNothingToUndo) = some false)
    (ssTooMany_TooMany : PySem.W.subIn K (.ref CTooMany) (.ref CTooMany) = some true)
    {nmBadText qBadText : Str} {NBadText : Addr} {bsBadText : List Value} {snBadText : List Str} {subBadText : List Value} {abBadText : Bool} {colBadText : Option Bool} {ddBadText : Option Addr} {m0BadText m1BadText m2BadText m3BadText m5BadText : Option Value}
    (xLBadText : K.lookup CBadText = some (excClassObj nmBadText qBadText CBadText NBadText bsBadText [.ref CHeapError, .type "ValueError", .type "Exception", .type "BaseException", .type "object"] true snBadText subBadText abBadText colBadText ddBadText m0BadText m1BadText m2BadText m3BadText m5BadText "ValueError.__new__"))
    (saBadText : PySem.W.findIn K (.ref CBadText) "__setattr__" = some (some (.builtin "object.__setattr__"))) (bxBadText : PySem.W.subIn K (.ref CBadText) (.type "BaseException") = some true) (tyBadText : PySem.W.typeIn K (.ref CBadText) = some (.type "type")) (kpBadText : PySem.W.keepIn K (.ref CBadText) = true)
    (gaBadText : PySem.W.findIn K (.ref CBadText) "__getattribute__" = some (some (.builtin "BaseException.__getattribute__"))) (ggBadText : PySem.W.findIn K (.ref CBadText) "__getattr__" = some none) (hdBadText : PySem.W.hasDictIn K CBadText = true) (caBadText : PySem.W.findIn K (.ref CBadText) "__class__" = some (some (.builtin "object.__class__"))) (moBadText : PySem.W.mroIn K CBadText (.type "object") = some true)
    (sHBadText : PySem.W.subIn K (.ref CBadText) (.ref CHeapError) = some true) (isBadText_ValueError : PySem.W.kitOne K (.ref CBadText) (.type "ValueError") = some true)
    (nfBadText_row : PySem.W.findIn K (.ref CBadText) "row" = some none)
    (isBadText_HeapError : PySem.W.kitOne K (.ref CBadText) (.ref CHeapError) = some true)
    (isBadText_BadChain : PySem.W.kitOne K (.ref CBadText) (.ref CBadChain) = some false)
    (isBadText_BadPages : PySem.W.kitOne K (.ref CBadText) (.ref CBadPages) = some false)
    (isBadText_BadLimit : PySem.W.kitOne K (.ref CBadText) (.ref CBadLimit) = some false)
    (isBadText_BadRule : PySem.W.kitOne K (.ref CBadText) (.ref CBadRule) = some false)
    (isBadText_BadSize : PySem.W.kitOne K (.ref CBadText) (.ref CBadSize) = some false)
    (isBadText_BadState : PySem.W.kitOne K (.ref CBadText) (.ref CBadState) = some false)
    (isBadText_BadPlace : PySem.W.kitOne K (.ref CBadText) (.ref CBadPlace) = some false)
    (isBadText_BadAnswer : PySem.W.kitOne K (.ref CBadText) (.ref CBadAnswer) = some false)
    (isBadText_BadEvent : PySem.W.kitOne K (.ref CBadText) (.ref CBadEvent) = some false)
    (isBadText_OverLimit : PySem.W.kitOne K (.ref CBadText) (.ref COverLimit) = some false)
    (isBadText_NoRoom : PySem.W.kitOne K (.ref CBadText) (.ref CNoRoom) = some false)
    (isBadText_NoBlock : PySem.W.kitOne K (.ref CBadText) (.ref CNoBlock) = some false)
    (isBadText_TooMany : PySem.W.kitOne K (.ref CBadText) (.ref CTooMany) = some false)
    (isBadText_BadText : PySem.W.kitOne K (.ref CBadText) (.ref CBadText) = some true)
    (isBadText_BadLine : PySem.W.kitOne K (.ref CBadText) (.ref CBadLine) = some false)
    (isBadText_Safe : PySem.W.kitOne K (.ref CBadText) (.ref CSafe) = some false)
    (isBadText_Unsafe : PySem.W.kitOne K (.ref CBadText) (.ref CUnsafe) = some false)
    (isBadText_Finished : PySem.W.kitOne K (.ref CBadText) (.ref CFinished) = some false)
    (isBadText_NothingToUndo : PySem.W.kitOne K (.ref CBadText) (.ref CNothingToUndo) = some false)
    (ssBadText_BadText : PySem.W.subIn K (.ref CBadText) (.ref CBadText) = some true)
    {nmBadLine qBadLine : Str} {NBadLine : Addr} {bsBadLine : List Value} {snBadLine : List Str} {subBadLine : List Value} {abBadLine : Bool} {colBadLine : Option Bool} {ddBadLine : Option Addr} {m0BadLine m1BadLine m2BadLine m3BadLine m5BadLine : Option Value}
    (xLBadLine : K.lookup CBadLine = some (excClassObj nmBadLine qBadLine CBadLine NBadLine bsBadLine [.ref CHeapError, .type "ValueError", .type "Exception", .type "BaseException", .type "object"] true snBadLine subBadLine abBadLine colBadLine ddBadLine m0BadLine m1BadLine m2BadLine m3BadLine m5BadLine "ValueError.__new__"))
    (saBadLine : PySem.W.findIn K (.ref CBadLine) "__setattr__" = some (some (.builtin "object.__setattr__"))) (bxBadLine : PySem.W.subIn K (.ref CBadLine) (.type "BaseException") = some true) (tyBadLine : PySem.W.typeIn K (.ref CBadLine) = some (.type "type")) (kpBadLine : PySem.W.keepIn K (.ref CBadLine) = true)
    (gaBadLine : PySem.W.findIn K (.ref CBadLine) "__getattribute__" = some (some (.builtin "BaseException.__getattribute__"))) (ggBadLine : PySem.W.findIn K (.ref CBadLine) "__getattr__" = some none) (hdBadLine : PySem.W.hasDictIn K CBadLine = true) (caBadLine : PySem.W.findIn K (.ref CBadLine) "__class__" = some (some (.builtin "object.__class__"))) (moBadLine : PySem.W.mroIn K CBadLine (.type "object") = some true)
    (sHBadLine : PySem.W.subIn K (.ref CBadLine) (.ref CHeapError) = some true) (isBadLine_ValueError : PySem.W.kitOne K (.ref CBadLine) (.type "ValueError") = some true)
    (nfBadLine_line : PySem.W.findIn K (.ref CBadLine) "line" = some none)
    (isBadLine_HeapError : PySem.W.kitOne K (.ref CBadLine) (.ref CHeapError) = some true)
    (isBadLine_BadChain : PySem.W.kitOne K (.ref CBadLine) (.ref CBadChain) = some false)
    (isBadLine_BadPages : PySem.W.kitOne K (.ref CBadLine) (.ref CBadPages) = some false)
    (isBadLine_BadLimit : PySem.W.kitOne K (.ref CBadLine) (.ref CBadLimit) = some false)
    (isBadLine_BadRule : PySem.W.kitOne K (.ref CBadLine) (.ref CBadRule) = some false)
    (isBadLine_BadSize : PySem.W.kitOne K (.ref CBadLine) (.ref CBadSize) = some false)
    (isBadLine_BadState : PySem.W.kitOne K (.ref CBadLine) (.ref CBadState) = some false)
    (isBadLine_BadPlace : PySem.W.kitOne K (.ref CBadLine) (.ref CBadPlace) = some false)
    (isBadLine_BadAnswer : PySem.W.kitOne K (.ref CBadLine) (.ref CBadAnswer) = some false)
    (isBadLine_BadEvent : PySem.W.kitOne K (.ref CBadLine) (.ref CBadEvent) = some false)
    (isBadLine_OverLimit : PySem.W.kitOne K (.ref CBadLine) (.ref COverLimit) = some false)
    (isBadLine_NoRoom : PySem.W.kitOne K (.ref CBadLine) (.ref CNoRoom) = some false)
    (isBadLine_NoBlock : PySem.W.kitOne K (.ref CBadLine) (.ref CNoBlock) = some false)
    (isBadLine_TooMany : PySem.W.kitOne K (.ref CBadLine) (.ref CTooMany) = some false)
    (isBadLine_BadText : PySem.W.kitOne K (.ref CBadLine) (.ref CBadText) = some false)
    (isBadLine_BadLine : PySem.W.kitOne K (.ref CBadLine) (.ref CBadLine) = some true)
    (isBadLine_Safe : PySem.W.kitOne K (.ref CBadLine) (.ref CSafe) = some false)
    (isBadLine_Unsafe : PySem.W.kitOne K (.ref CBadLine) (.ref CUnsafe) = some false)
    (isBadLine_Finished : PySem.W.kitOne K (.ref CBadLine) (.ref CFinished) = some false)
    (isBadLine_NothingToUndo : PySem.W.kitOne K (.ref CBadLine) (.ref CNothingToUndo) = some false)
    (ssBadLine_BadLine : PySem.W.subIn K (.ref CBadLine) (.ref CBadLine) = some true)
    {nmSafe qSafe : Str} {NSafe : Addr} {bsSafe : List Value} {snSafe : List Str} {subSafe : List Value} {abSafe : Bool} {colSafe : Option Bool} {ddSafe : Option Addr} {m0Safe m1Safe m2Safe m3Safe m5Safe : Option Value}
    (xLSafe : K.lookup CSafe = some (excClassObj nmSafe qSafe CSafe NSafe bsSafe [.ref CHeapError, .type "ValueError", .type "Exception", .type "BaseException", .type "object"] true snSafe subSafe abSafe colSafe ddSafe m0Safe m1Safe m2Safe m3Safe m5Safe "ValueError.__new__"))
    (saSafe : PySem.W.findIn K (.ref CSafe) "__setattr__" = some (some (.builtin "object.__setattr__"))) (bxSafe : PySem.W.subIn K (.ref CSafe) (.type "BaseException") = some true) (tySafe : PySem.W.typeIn K (.ref CSafe) = some (.type "type")) (kpSafe : PySem.W.keepIn K (.ref CSafe) = true)
    (gaSafe : PySem.W.findIn K (.ref CSafe) "__getattribute__" = some (some (.builtin "BaseException.__getattribute__"))) (ggSafe : PySem.W.findIn K (.ref CSafe) "__getattr__" = some none) (hdSafe : PySem.W.hasDictIn K CSafe = true) (caSafe : PySem.W.findIn K (.ref CSafe) "__class__" = some (some (.builtin "object.__class__"))) (moSafe : PySem.W.mroIn K CSafe (.type "object") = some true)
    (sHSafe : PySem.W.subIn K (.ref CSafe) (.ref CHeapError) = some true) (isSafe_ValueError : PySem.W.kitOne K (.ref CSafe) (.type "ValueError") = some true)
    (isSafe_HeapError : PySem.W.kitOne K (.ref CSafe) (.ref CHeapError) = some true)
    (isSafe_BadChain : PySem.W.kitOne K (.ref CSafe) (.ref CBadChain) = some false)
    (isSafe_BadPages : PySem.W.kitOne K (.ref CSafe) (.ref CBadPages) = some false)
    (isSafe_BadLimit : PySem.W.kitOne K (.ref CSafe) (.ref CBadLimit) = some false)
    (isSafe_BadRule : PySem.W.kitOne K (.ref CSafe) (.ref CBadRule) = some false)
    (isSafe_BadSize : PySem.W.kitOne K (.ref CSafe) (.ref CBadSize) = some false)
    (isSafe_BadState : PySem.W.kitOne K (.ref CSafe) (.ref CBadState) = some false)
    (isSafe_BadPlace : PySem.W.kitOne K (.ref CSafe) (.ref CBadPlace) = some false)
    (isSafe_BadAnswer : PySem.W.kitOne K (.ref CSafe) (.ref CBadAnswer) = some false)
    (isSafe_BadEvent : PySem.W.kitOne K (.ref CSafe) (.ref CBadEvent) = some false)
    (isSafe_OverLimit : PySem.W.kitOne K (.ref CSafe) (.ref COverLimit) = some false)
    (isSafe_NoRoom : PySem.W.kitOne K (.ref CSafe) (.ref CNoRoom) = some false)
    (isSafe_NoBlock : PySem.W.kitOne K (.ref CSafe) (.ref CNoBlock) = some false)
    (isSafe_TooMany : PySem.W.kitOne K (.ref CSafe) (.ref CTooMany) = some false)
    (isSafe_BadText : PySem.W.kitOne K (.ref CSafe) (.ref CBadText) = some false)
    (isSafe_BadLine : PySem.W.kitOne K (.ref CSafe) (.ref CBadLine) = some false)
    (isSafe_Safe : PySem.W.kitOne K (.ref CSafe) (.ref CSafe) = some true)
    (isSafe_Unsafe : PySem.W.kitOne K (.ref CSafe) (.ref CUnsafe) = some false)
    (isSafe_Finished : PySem.W.kitOne K (.ref CSafe) (.ref CFinished) = some false)
    (isSafe_NothingToUndo : PySem.W.kitOne K (.ref CSafe) (.ref CNothingToUndo) = some false)
    (ssSafe_Safe : PySem.W.subIn K (.ref CSafe) (.ref CSafe) = some true)
    {nmUnsafe qUnsafe : Str} {NUnsafe : Addr} {bsUnsafe : List Value} {snUnsafe : List Str} {subUnsafe : List Value} {abUnsafe : Bool} {colUnsafe : Option Bool} {ddUnsafe : Option Addr} {m0Unsafe m1Unsafe m2Unsafe m3Unsafe m5Unsafe : Option Value}
    (xLUnsafe : K.lookup CUnsafe = some (excClassObj nmUnsafe qUnsafe CUnsafe NUnsafe bsUnsafe [.ref CHeapError, .type "ValueError", .type "Exception", .type "BaseException", .type "object"] true snUnsafe subUnsafe abUnsafe colUnsafe ddUnsafe m0Unsafe m1Unsafe m2Unsafe m3Unsafe m5Unsafe "ValueError.__new__"))
    (saUnsafe : PySem.W.findIn K (.ref CUnsafe) "__setattr__" = some (some (.builtin "object.__setattr__"))) (bxUnsafe : PySem.W.subIn K (.ref CUnsafe) (.type "BaseException") = some true) (tyUnsafe : PySem.W.typeIn K (.ref CUnsafe) = some (.type "type")) (kpUnsafe : PySem.W.keepIn K (.ref CUnsafe) = true)
    (gaUnsafe : PySem.W.findIn K (.ref CUnsafe) "__getattribute__" = some (some (.builtin "BaseException.__getattribute__"))) (ggUnsafe : PySem.W.findIn K (.ref CUnsafe) "__getattr__" = some none) (hdUnsafe : PySem.W.hasDictIn K CUnsafe = true) (caUnsafe : PySem.W.findIn K (.ref CUnsafe) "__class__" = some (some (.builtin "object.__class__"))) (moUnsafe : PySem.W.mroIn K CUnsafe (.type "object") = some true)
    (sHUnsafe : PySem.W.subIn K (.ref CUnsafe) (.ref CHeapError) = some true) (isUnsafe_ValueError : PySem.W.kitOne K (.ref CUnsafe) (.type "ValueError") = some true)
    (isUnsafe_HeapError : PySem.W.kitOne K (.ref CUnsafe) (.ref CHeapError) = some true)
    (isUnsafe_BadChain : PySem.W.kitOne K (.ref CUnsafe) (.ref CBadChain) = some false)
    (isUnsafe_BadPages : PySem.W.kitOne K (.ref CUnsafe) (.ref CBadPages) = some false)
    (isUnsafe_BadLimit : PySem.W.kitOne K (.ref CUnsafe) (.ref CBadLimit) = some false)
    (isUnsafe_BadRule : PySem.W.kitOne K (.ref CUnsafe) (.ref CBadRule) = some false)
    (isUnsafe_BadSize : PySem.W.kitOne K (.ref CUnsafe) (.ref CBadSize) = some false)
    (isUnsafe_BadState : PySem.W.kitOne K (.ref CUnsafe) (.ref CBadState) = some false)
    (isUnsafe_BadPlace : PySem.W.kitOne K (.ref CUnsafe) (.ref CBadPlace) = some false)
    (isUnsafe_BadAnswer : PySem.W.kitOne K (.ref CUnsafe) (.ref CBadAnswer) = some false)
    (isUnsafe_BadEvent : PySem.W.kitOne K (.ref CUnsafe) (.ref CBadEvent) = some false)
    (isUnsafe_OverLimit : PySem.W.kitOne K (.ref CUnsafe) (.ref COverLimit) = some false)
    (isUnsafe_NoRoom : PySem.W.kitOne K (.ref CUnsafe) (.ref CNoRoom) = some false)
    (isUnsafe_NoBlock : PySem.W.kitOne K (.ref CUnsafe) (.ref CNoBlock) = some false)
    (isUnsafe_TooMany : PySem.W.kitOne K (.ref CUnsafe) (.ref CTooMany) = some false)
    (isUnsafe_BadText : PySem.W.kitOne K (.ref CUnsafe) (.ref CBadText) = some false)
    (isUnsafe_BadLine : PySem.W.kitOne K (.ref CUnsafe) (.ref CBadLine) = some false)
    (isUnsafe_Safe : PySem.W.kitOne K (.ref CUnsafe) (.ref CSafe) = some false)
    (isUnsafe_Unsafe : PySem.W.kitOne K (.ref CUnsafe) (.ref CUnsafe) = some true)
    (isUnsafe_Finished : PySem.W.kitOne K (.ref CUnsafe) (.ref CFinished) = some false)
    (isUnsafe_NothingToUndo : PySem.W.kitOne K (.ref CUnsafe) (.ref CNothingToUndo) = some false)
    (ssUnsafe_Unsafe : PySem.W.subIn K (.ref CUnsafe) (.ref CUnsafe) = some true)
    {nmFinished qFinished : Str} {NFinished : Addr} {bsFinished : List Value} {snFinished : List Str} {subFinished : List Value} {abFinished : Bool} {colFinished : Option Bool} {ddFinished : Option Addr} {m0Finished m1Finished m2Finished m3Finished m5Finished : Option Value}
    (xLFinished : K.lookup CFinished = some (excClassObj nmFinished qFinished CFinished NFinished bsFinished [.ref CHeapError, .type "ValueError", .type "Exception", .type "BaseException", .type "object"] true snFinished subFinished abFinished colFinished ddFinished m0Finished m1Finished m2Finished m3Finished m5Finished "ValueError.__new__"))
    (saFinished : PySem.W.findIn K (.ref CFinished) "__setattr__" = some (some (.builtin "object.__setattr__"))) (bxFinished : PySem.W.subIn K (.ref CFinished) (.type "BaseException") = some true) (tyFinished : PySem.W.typeIn K (.ref CFinished) = some (.type "type")) (kpFinished : PySem.W.keepIn K (.ref CFinished) = true)
    (gaFinished : PySem.W.findIn K (.ref CFinished) "__getattribute__" = some (some (.builtin "BaseException.__getattribute__"))) (ggFinished : PySem.W.findIn K (.ref CFinished) "__getattr__" = some none) (hdFinished : PySem.W.hasDictIn K CFinished = true) (caFinished : PySem.W.findIn K (.ref CFinished) "__class__" = some (some (.builtin "object.__class__"))) (moFinished : PySem.W.mroIn K CFinished (.type "object") = some true)
    (sHFinished : PySem.W.subIn K (.ref CFinished) (.ref CHeapError) = some true) (isFinished_ValueError : PySem.W.kitOne K (.ref CFinished) (.type "ValueError") = some true)
    (isFinished_HeapError : PySem.W.kitOne K (.ref CFinished) (.ref CHeapError) = some true)
    (isFinished_BadChain : PySem.W.kitOne K (.ref CFinished) (.ref CBadChain) = some false)
    (isFinished_BadPages : PySem.W.kitOne K (.ref CFinished) (.ref CBadPages) = some false)
    (isFinished_BadLimit : PySem.W.kitOne K (.ref CFinished) (.ref CBadLimit) = some false)
    (isFinished_BadRule : PySem.W.kitOne K (.ref CFinished) (.ref CBadRule) = some false)
    (isFinished_BadSize : PySem.W.kitOne K (.ref CFinished) (.ref CBadSize) = some false)
    (isFinished_BadState : PySem.W.kitOne K (.ref CFinished) (.ref CBadState) = some false)
    (isFinished_BadPlace : PySem.W.kitOne K (.ref CFinished) (.ref CBadPlace) = some false)
    (isFinished_BadAnswer : PySem.W.kitOne K (.ref CFinished) (.ref CBadAnswer) = some false)
    (isFinished_BadEvent : PySem.W.kitOne K (.ref CFinished) (.ref CBadEvent) = some false)
    (isFinished_OverLimit : PySem.W.kitOne K (.ref CFinished) (.ref COverLimit) = some false)
    (isFinished_NoRoom : PySem.W.kitOne K (.ref CFinished) (.ref CNoRoom) = some false)
    (isFinished_NoBlock : PySem.W.kitOne K (.ref CFinished) (.ref CNoBlock) = some false)
    (isFinished_TooMany : PySem.W.kitOne K (.ref CFinished) (.ref CTooMany) = some false)
    (isFinished_BadText : PySem.W.kitOne K (.ref CFinished) (.ref CBadText) = some false)
    (isFinished_BadLine : PySem.W.kitOne K (.ref CFinished) (.ref CBadLine) = some false)
    (isFinished_Safe : PySem.W.kitOne K (.ref CFinished) (.ref CSafe) = some false)
    (isFinished_Unsafe : PySem.W.kitOne K (.ref CFinished) (.ref CUnsafe) = some false)
    (isFinished_Finished : PySem.W.kitOne K (.ref CFinished) (.ref CFinished) = some true)
    (isFinished_NothingToUndo : PySem.W.kitOne K (.ref CFinished) (.ref CNothingToUndo) = some false)
    (ssFinished_Finished : PySem.W.subIn K (.ref CFinished) (.ref CFinished) = some true)
    {nmNothingToUndo qNothingToUndo : Str} {NNothingToUndo : Addr} {bsNothingToUndo : List Value} {snNothingToUndo : List Str} {subNothingToUndo : List Value} {abNothingToUndo : Bool} {colNothingToUndo : Option Bool} {ddNothingToUndo : Option Addr} {m0NothingToUndo m1NothingToUndo m2NothingToUndo m3NothingToUndo m5NothingToUndo : Option Value}
    (xLNothingToUndo : K.lookup CNothingToUndo = some (excClassObj nmNothingToUndo qNothingToUndo CNothingToUndo NNothingToUndo bsNothingToUndo [.ref CHeapError, .type "ValueError", .type "Exception", .type "BaseException", .type "object"] true snNothingToUndo subNothingToUndo abNothingToUndo colNothingToUndo ddNothingToUndo m0NothingToUndo m1NothingToUndo m2NothingToUndo m3NothingToUndo m5NothingToUndo "ValueError.__new__"))
    (saNothingToUndo : PySem.W.findIn K (.ref CNothingToUndo) "__setattr__" = some (some (.builtin "object.__setattr__"))) (bxNothingToUndo : PySem.W.subIn K (.ref CNothingToUndo) (.type "BaseException") = some true) (tyNothingToUndo : PySem.W.typeIn K (.ref CNothingToUndo) = some (.type "type")) (kpNothingToUndo : PySem.W.keepIn K (.ref CNothingToUndo) = true)
    (gaNothingToUndo : PySem.W.findIn K (.ref CNothingToUndo) "__getattribute__" = some (some (.builtin "BaseException.__getattribute__"))) (ggNothingToUndo : PySem.W.findIn K (.ref CNothingToUndo) "__getattr__" = some none) (hdNothingToUndo : PySem.W.hasDictIn K CNothingToUndo = true) (caNothingToUndo : PySem.W.findIn K (.ref CNothingToUndo) "__class__" = some (some (.builtin "object.__class__"))) (moNothingToUndo : PySem.W.mroIn K CNothingToUndo (.type "object") = some true)
    (sHNothingToUndo : PySem.W.subIn K (.ref CNothingToUndo) (.ref CHeapError) = some true) (isNothingToUndo_ValueError : PySem.W.kitOne K (.ref CNothingToUndo) (.type "ValueError") = some true)
    (isNothingToUndo_HeapError : PySem.W.kitOne K (.ref CNothingToUndo) (.ref CHeapError) = some true)
    (isNothingToUndo_BadChain : PySem.W.kitOne K (.ref CNothingToUndo) (.ref CBadChain) = some false)
    (isNothingToUndo_BadPages : PySem.W.kitOne K (.ref CNothingToUndo) (.ref CBadPages) = some false)
    (isNothingToUndo_BadLimit : PySem.W.kitOne K (.ref CNothingToUndo) (.ref CBadLimit) = some false)
    (isNothingToUndo_BadRule : PySem.W.kitOne K (.ref CNothingToUndo) (.ref CBadRule) = some false)
    (isNothingToUndo_BadSize : PySem.W.kitOne K (.ref CNothingToUndo) (.ref CBadSize) = some false)
    (isNothingToUndo_BadState : PySem.W.kitOne K (.ref CNothingToUndo) (.ref CBadState) = some false)
    (isNothingToUndo_BadPlace : PySem.W.kitOne K (.ref CNothingToUndo) (.ref CBadPlace) = some false)
    (isNothingToUndo_BadAnswer : PySem.W.kitOne K (.ref CNothingToUndo) (.ref CBadAnswer) = some false)
    (isNothingToUndo_BadEvent : PySem.W.kitOne K (.ref CNothingToUndo) (.ref CBadEvent) = some false)
    (isNothingToUndo_OverLimit : PySem.W.kitOne K (.ref CNothingToUndo) (.ref COverLimit) = some false)
    (isNothingToUndo_NoRoom : PySem.W.kitOne K (.ref CNothingToUndo) (.ref CNoRoom) = some false)
    (isNothingToUndo_NoBlock : PySem.W.kitOne K (.ref CNothingToUndo) (.ref CNoBlock) = some false)
    (isNothingToUndo_TooMany : PySem.W.kitOne K (.ref CNothingToUndo) (.ref CTooMany) = some false)
    (isNothingToUndo_BadText : PySem.W.kitOne K (.ref CNothingToUndo) (.ref CBadText) = some false)
    (isNothingToUndo_BadLine : PySem.W.kitOne K (.ref CNothingToUndo) (.ref CBadLine) = some false)
    (isNothingToUndo_Safe : PySem.W.kitOne K (.ref CNothingToUndo) (.ref CSafe) = some false)
    (isNothingToUndo_Unsafe : PySem.W.kitOne K (.ref CNothingToUndo) (.ref CUnsafe) = some false)
    (isNothingToUndo_Finished : PySem.W.kitOne K (.ref CNothingToUndo) (.ref CFinished) = some false)
    (isNothingToUndo_NothingToUndo : PySem.W.kitOne K (.ref CNothingToUndo) (.ref CNothingToUndo) = some true)
    (ssNothingToUndo_NothingToUndo : PySem.W.subIn K (.ref CNothingToUndo) (.ref CNothingToUndo) = some true)
    {f1 : Addr} {od1 an1 : Option Addr} {sl1 : Array (Option Value)} {oc1 kV1 dc1 pm1 cd1 ct1 : Value} (a1 : PySem.W.findIn K (.ref CBadChain) "__init__" = some (some (.ref f1))) (i1 : PySem.W.typeIn K (.ref f1) = some (.type "function")) (l1 : K.lookup f1 = some ⟨oc1, od1, .func (PySem.W.fnOf "__init__" "BadChain.__init__" (defArgs (inClass (topS 2) 0)) (defBody (inClass (topS 2) 0)) (defScope (inClass (topS 2) 0)) .none kV1 dc1 pm1 an1 cd1 ct1), sl1⟩) (c1 : PySem.W.codeIn K cd1 "BadChain.__init__" = true) (k1 : PySem.W.keepIn K (.ref f1) = true)
    {f2 : Addr} {od2 an2 : Option Addr} {sl2 : Array (Option Value)} {oc2 kV2 dc2 pm2 cd2 ct2 : Value} (a2 : PySem.W.findIn K (.ref CBadPages) "__init__" = some (some (.ref f2))) (i2 : PySem.W.typeIn K (.ref f2) = some (.type "function")) (l2 : K.lookup f2 = some ⟨oc2, od2, .func (PySem.W.fnOf "__init__" "BadPages.__init__" (defArgs (inClass (topS 3) 0)) (defBody (inClass (topS 3) 0)) (defScope (inClass (topS 3) 0)) .none kV2 dc2 pm2 an2 cd2 ct2), sl2⟩) (c2 : PySem.W.codeIn K cd2 "BadPages.__init__" = true) (k2 : PySem.W.keepIn K (.ref f2) = true)
    {f3 : Addr} {od3 an3 : Option Addr} {sl3 : Array (Option Value)} {oc3 kV3 dc3 pm3 cd3 ct3 : Value} (a3 : PySem.W.findIn K (.ref CBadLimit) "__init__" = some (some (.ref f3))) (i3 : PySem.W.typeIn K (.ref f3) = some (.type "function")) (l3 : K.lookup f3 = some ⟨oc3, od3, .func (PySem.W.fnOf "__init__" "BadLimit.__init__" (defArgs (inClass (topS 4) 0)) (defBody (inClass (topS 4) 0)) (defScope (inClass (topS 4) 0)) .none kV3 dc3 pm3 an3 cd3 ct3), sl3⟩) (c3 : PySem.W.codeIn K cd3 "BadLimit.__init__" = true) (k3 : PySem.W.keepIn K (.ref f3) = true)
    {f4 : Addr} {od4 an4 : Option Addr} {sl4 : Array (Option Value)} {oc4 kV4 dc4 pm4 cd4 ct4 : Value} (a4 : PySem.W.findIn K (.ref CBadRule) "__init__" = some (some (.ref f4))) (i4 : PySem.W.typeIn K (.ref f4) = some (.type "function")) (l4 : K.lookup f4 = some ⟨oc4, od4, .func (PySem.W.fnOf "__init__" "BadRule.__init__" (defArgs (inClass (topS 5) 0)) (defBody (inClass (topS 5) 0)) (defScope (inClass (topS 5) 0)) .none kV4 dc4 pm4 an4 cd4 ct4), sl4⟩) (c4 : PySem.W.codeIn K cd4 "BadRule.__init__" = true) (k4 : PySem.W.keepIn K (.ref f4) = true)
    {f5 : Addr} {od5 an5 : Option Addr} {sl5 : Array (Option Value)} {oc5 kV5 dc5 pm5 cd5 ct5 : Value} (a5 : PySem.W.findIn K (.ref CBadSize) "__init__" = some (some (.ref f5))) (i5 : PySem.W.typeIn K (.ref f5) = some (.type "function")) (l5 : K.lookup f5 = some ⟨oc5, od5, .func (PySem.W.fnOf "__init__" "BadSize.__init__" (defArgs (inClass (topS 6) 0)) (defBody (inClass (topS 6) 0)) (defScope (inClass (topS 6) 0)) .none kV5 dc5 pm5 an5 cd5 ct5), sl5⟩) (c5 : PySem.W.codeIn K cd5 "BadSize.__init__" = true) (k5 : PySem.W.keepIn K (.ref f5) = true)
    {f6 : Addr} {od6 an6 : Option Addr} {sl6 : Array (Option Value)} {oc6 kV6 dc6 pm6 cd6 ct6 : Value} (a6 : PySem.W.findIn K (.ref CBadState) "__init__" = some (some (.ref f6))) (i6 : PySem.W.typeIn K (.ref f6) = some (.type "function")) (l6 : K.lookup f6 = some ⟨oc6, od6, .func (PySem.W.fnOf "__init__" "BadState.__init__" (defArgs (inClass (topS 7) 0)) (defBody (inClass (topS 7) 0)) (defScope (inClass (topS 7) 0)) .none kV6 dc6 pm6 an6 cd6 ct6), sl6⟩) (c6 : PySem.W.codeIn K cd6 "BadState.__init__" = true) (k6 : PySem.W.keepIn K (.ref f6) = true)
    {f7 : Addr} {od7 an7 : Option Addr} {sl7 : Array (Option Value)} {oc7 kV7 dc7 pm7 cd7 ct7 : Value} (a7 : PySem.W.findIn K (.ref CBadPlace) "__init__" = some (some (.ref f7))) (i7 : PySem.W.typeIn K (.ref f7) = some (.type "function")) (l7 : K.lookup f7 = some ⟨oc7, od7, .func (PySem.W.fnOf "__init__" "BadPlace.__init__" (defArgs (inClass (topS 8) 0)) (defBody (inClass (topS 8) 0)) (defScope (inClass (topS 8) 0)) .none kV7 dc7 pm7 an7 cd7 ct7), sl7⟩) (c7 : PySem.W.codeIn K cd7 "BadPlace.__init__" = true) (k7 : PySem.W.keepIn K (.ref f7) = true)
    {f8 : Addr} {od8 an8 : Option Addr} {sl8 : Array (Option Value)} {oc8 kV8 dc8 pm8 cd8 ct8 : Value} (a8 : PySem.W.findIn K (.ref CBadAnswer) "__init__" = some (some (.ref f8))) (i8 : PySem.W.typeIn K (.ref f8) = some (.type "function")) (l8 : K.lookup f8 = some ⟨oc8, od8, .func (PySem.W.fnOf "__init__" "BadAnswer.__init__" (defArgs (inClass (topS 9) 0)) (defBody (inClass (topS 9) 0)) (defScope (inClass (topS 9) 0)) .none kV8 dc8 pm8 an8 cd8 ct8), sl8⟩) (c8 : PySem.W.codeIn K cd8 "BadAnswer.__init__" = true) (k8 : PySem.W.keepIn K (.ref f8) = true)
    {f9 : Addr} {od9 an9 : Option Addr} {sl9 : Array (Option Value)} {oc9 kV9 dc9 pm9 cd9 ct9 : Value} (a9 : PySem.W.findIn K (.ref CBadEvent) "__init__" = some (some (.ref f9))) (i9 : PySem.W.typeIn K (.ref f9) = some (.type "function")) (l9 : K.lookup f9 = some ⟨oc9, od9, .func (PySem.W.fnOf "__init__" "BadEvent.__init__" (defArgs (inClass (topS 10) 0)) (defBody (inClass (topS 10) 0)) (defScope (inClass (topS 10) 0)) .none kV9 dc9 pm9 an9 cd9 ct9), sl9⟩) (c9 : PySem.W.codeIn K cd9 "BadEvent.__init__" = true) (k9 : PySem.W.keepIn K (.ref f9) = true)
    {f10 : Addr} {od10 an10 : Option Addr} {sl10 : Array (Option Value)} {oc10 kV10 dc10 pm10 cd10 ct10 : Value} (a10 : PySem.W.findIn K (.ref COverLimit) "__init__" = some (some (.ref f10))) (i10 : PySem.W.typeIn K (.ref f10) = some (.type "function")) (l10 : K.lookup f10 = some ⟨oc10, od10, .func (PySem.W.fnOf "__init__" "OverLimit.__init__" (defArgs (inClass (topS 11) 0)) (defBody (inClass (topS 11) 0)) (defScope (inClass (topS 11) 0)) .none kV10 dc10 pm10 an10 cd10 ct10), sl10⟩) (c10 : PySem.W.codeIn K cd10 "OverLimit.__init__" = true) (k10 : PySem.W.keepIn K (.ref f10) = true)
    {f11 : Addr} {od11 an11 : Option Addr} {sl11 : Array (Option Value)} {oc11 kV11 dc11 pm11 cd11 ct11 : Value} (a11 : PySem.W.findIn K (.ref CNoRoom) "__init__" = some (some (.ref f11))) (i11 : PySem.W.typeIn K (.ref f11) = some (.type "function")) (l11 : K.lookup f11 = some ⟨oc11, od11, .func (PySem.W.fnOf "__init__" "NoRoom.__init__" (defArgs (inClass (topS 12) 0)) (defBody (inClass (topS 12) 0)) (defScope (inClass (topS 12) 0)) .none kV11 dc11 pm11 an11 cd11 ct11), sl11⟩) (c11 : PySem.W.codeIn K cd11 "NoRoom.__init__" = true) (k11 : PySem.W.keepIn K (.ref f11) = true)
    {f12 : Addr} {od12 an12 : Option Addr} {sl12 : Array (Option Value)} {oc12 kV12 dc12 pm12 cd12 ct12 : Value} (a12 : PySem.W.findIn K (.ref CNoBlock) "__init__" = some (some (.ref f12))) (i12 : PySem.W.typeIn K (.ref f12) = some (.type "function")) (l12 : K.lookup f12 = some ⟨oc12, od12, .func (PySem.W.fnOf "__init__" "NoBlock.__init__" (defArgs (inClass (topS 13) 0)) (defBody (inClass (topS 13) 0)) (defScope (inClass (topS 13) 0)) .none kV12 dc12 pm12 an12 cd12 ct12), sl12⟩) (c12 : PySem.W.codeIn K cd12 "NoBlock.__init__" = true) (k12 : PySem.W.keepIn K (.ref f12) = true)
    {f13 : Addr} {od13 an13 : Option Addr} {sl13 : Array (Option Value)} {oc13 kV13 dc13 pm13 cd13 ct13 : Value} (a13 : PySem.W.findIn K (.ref CTooMany) "__init__" = some (some (.ref f13))) (i13 : PySem.W.typeIn K (.ref f13) = some (.type "function")) (l13 : K.lookup f13 = some ⟨oc13, od13, .func (PySem.W.fnOf "__init__" "TooMany.__init__" (defArgs (inClass (topS 14) 0)) (defBody (inClass (topS 14) 0)) (defScope (inClass (topS 14) 0)) .none kV13 dc13 pm13 an13 cd13 ct13), sl13⟩) (c13 : PySem.W.codeIn K cd13 "TooMany.__init__" = true) (k13 : PySem.W.keepIn K (.ref f13) = true)
    {f14 : Addr} {od14 an14 : Option Addr} {sl14 : Array (Option Value)} {oc14 kV14 dc14 pm14 cd14 ct14 : Value} (a14 : PySem.W.findIn K (.ref CBadText) "__init__" = some (some (.ref f14))) (i14 : PySem.W.typeIn K (.ref f14) = some (.type "function")) (l14 : K.lookup f14 = some ⟨oc14, od14, .func (PySem.W.fnOf "__init__" "BadText.__init__" (defArgs (inClass (topS 19) 0)) (defBody (inClass (topS 19) 0)) (defScope (inClass (topS 19) 0)) .none kV14 dc14 pm14 an14 cd14 ct14), sl14⟩) (c14 : PySem.W.codeIn K cd14 "BadText.__init__" = true) (k14 : PySem.W.keepIn K (.ref f14) = true)
    {f15 : Addr} {od15 an15 : Option Addr} {sl15 : Array (Option Value)} {oc15 kV15 dc15 pm15 cd15 ct15 : Value} (a15 : PySem.W.findIn K (.ref CBadLine) "__init__" = some (some (.ref f15))) (i15 : PySem.W.typeIn K (.ref f15) = some (.type "function")) (l15 : K.lookup f15 = some ⟨oc15, od15, .func (PySem.W.fnOf "__init__" "BadLine.__init__" (defArgs (inClass (topS 20) 0)) (defBody (inClass (topS 20) 0)) (defScope (inClass (topS 20) 0)) .none kV15 dc15 pm15 an15 cd15 ct15), sl15⟩) (c15 : PySem.W.codeIn K cd15 "BadLine.__init__" = true) (k15 : PySem.W.keepIn K (.ref f15) = true)
    {f16 : Addr} {od16 an16 : Option Addr} {sl16 : Array (Option Value)} {oc16 kV16 dc16 pm16 cd16 ct16 : Value} (a16 : PySem.W.findIn K (.ref CSafe) "__init__" = some (some (.ref f16))) (i16 : PySem.W.typeIn K (.ref f16) = some (.type "function")) (l16 : K.lookup f16 = some ⟨oc16, od16, .func (PySem.W.fnOf "__init__" "Safe.__init__" (defArgs (inClass (topS 15) 0)) (defBody (inClass (topS 15) 0)) (defScope (inClass (topS 15) 0)) .none kV16 dc16 pm16 an16 cd16 ct16), sl16⟩) (c16 : PySem.W.codeIn K cd16 "Safe.__init__" = true) (k16 : PySem.W.keepIn K (.ref f16) = true)
    {f17 : Addr} {od17 an17 : Option Addr} {sl17 : Array (Option Value)} {oc17 kV17 dc17 pm17 cd17 ct17 : Value} (a17 : PySem.W.findIn K (.ref CUnsafe) "__init__" = some (some (.ref f17))) (i17 : PySem.W.typeIn K (.ref f17) = some (.type "function")) (l17 : K.lookup f17 = some ⟨oc17, od17, .func (PySem.W.fnOf "__init__" "Unsafe.__init__" (defArgs (inClass (topS 16) 0)) (defBody (inClass (topS 16) 0)) (defScope (inClass (topS 16) 0)) .none kV17 dc17 pm17 an17 cd17 ct17), sl17⟩) (c17 : PySem.W.codeIn K cd17 "Unsafe.__init__" = true) (k17 : PySem.W.keepIn K (.ref f17) = true)
    {f18 : Addr} {od18 an18 : Option Addr} {sl18 : Array (Option Value)} {oc18 kV18 dc18 pm18 cd18 ct18 : Value} (a18 : PySem.W.findIn K (.ref CFinished) "__init__" = some (some (.ref f18))) (i18 : PySem.W.typeIn K (.ref f18) = some (.type "function")) (l18 : K.lookup f18 = some ⟨oc18, od18, .func (PySem.W.fnOf "__init__" "Finished.__init__" (defArgs (inClass (topS 17) 0)) (defBody (inClass (topS 17) 0)) (defScope (inClass (topS 17) 0)) .none kV18 dc18 pm18 an18 cd18 ct18), sl18⟩) (c18 : PySem.W.codeIn K cd18 "Finished.__init__" = true) (k18 : PySem.W.keepIn K (.ref f18) = true)
    {f19 : Addr} {od19 an19 : Option Addr} {sl19 : Array (Option Value)} {oc19 kV19 dc19 pm19 cd19 ct19 : Value} (a19 : PySem.W.findIn K (.ref CNothingToUndo) "__init__" = some (some (.ref f19))) (i19 : PySem.W.typeIn K (.ref f19) = some (.type "function")) (l19 : K.lookup f19 = some ⟨oc19, od19, .func (PySem.W.fnOf "__init__" "NothingToUndo.__init__" (defArgs (inClass (topS 18) 0)) (defBody (inClass (topS 18) 0)) (defScope (inClass (topS 18) 0)) .none kV19 dc19 pm19 an19 cd19 ct19), sl19⟩) (c19 : PySem.W.codeIn K cd19 "NothingToUndo.__init__" = true) (k19 : PySem.W.keepIn K (.ref f19) = true)
    {f20 : Addr} {od20 an20 : Option Addr} {sl20 : Array (Option Value)} {oc20 kV20 dc20 pm20 cd20 ct20 : Value} (a20 : PySem.W.nsIn K mainGlobals "is_integer" = some (some (.ref f20))) (l20 : K.lookup f20 = some ⟨oc20, od20, .func (PySem.W.fnOf "is_integer" "is_integer" (defArgs (topS 22)) (defBody (topS 22)) (defScope (topS 22)) .none kV20 dc20 pm20 an20 cd20 ct20), sl20⟩) (c20 : PySem.W.codeIn K cd20 "is_integer" = true) (k20 : PySem.W.keepIn K (.ref f20) = true)
    {f21 : Addr} {od21 an21 : Option Addr} {sl21 : Array (Option Value)} {oc21 kV21 dc21 pm21 cd21 ct21 : Value} (a21 : PySem.W.nsIn K mainGlobals "rounded" = some (some (.ref f21))) (l21 : K.lookup f21 = some ⟨oc21, od21, .func (PySem.W.fnOf "rounded" "rounded" (defArgs (topS 24)) (defBody (topS 24)) (defScope (topS 24)) .none kV21 dc21 pm21 an21 cd21 ct21), sl21⟩) (c21 : PySem.W.codeIn K cd21 "rounded" = true) (k21 : PySem.W.keepIn K (.ref f21) = true)
    {f22 : Addr} {od22 an22 : Option Addr} {sl22 : Array (Option Value)} {oc22 kV22 dc22 pm22 cd22 ct22 : Value} (a22 : PySem.W.nsIn K mainGlobals "_law_pot" = some (some (.ref f22))) (l22 : K.lookup f22 = some ⟨oc22, od22, .func (PySem.W.fnOf "_law_pot" "_law_pot" (defArgs (topS 26)) (defBody (topS 26)) (defScope (topS 26)) .none kV22 dc22 pm22 an22 cd22 ct22), sl22⟩) (c22 : PySem.W.codeIn K cd22 "_law_pot" = true) (k22 : PySem.W.keepIn K (.ref f22) = true)
    {f23 : Addr} {od23 an23 : Option Addr} {sl23 : Array (Option Value)} {oc23 kV23 dc23 pm23 cd23 ct23 : Value} (a23 : PySem.W.nsIn K mainGlobals "_law_take" = some (some (.ref f23))) (l23 : K.lookup f23 = some ⟨oc23, od23, .func (PySem.W.fnOf "_law_take" "_law_take" (defArgs (topS 27)) (defBody (topS 27)) (defScope (topS 27)) .none kV23 dc23 pm23 an23 cd23 ct23), sl23⟩) (c23 : PySem.W.codeIn K cd23 "_law_take" = true) (k23 : PySem.W.keepIn K (.ref f23) = true)
    {f24 : Addr} {od24 an24 : Option Addr} {sl24 : Array (Option Value)} {oc24 kV24 dc24 pm24 cd24 ct24 : Value} (a24 : PySem.W.nsIn K mainGlobals "_law_of" = some (some (.ref f24))) (l24 : K.lookup f24 = some ⟨oc24, od24, .func (PySem.W.fnOf "_law_of" "_law_of" (defArgs (topS 28)) (defBody (topS 28)) (defScope (topS 28)) .none kV24 dc24 pm24 an24 cd24 ct24), sl24⟩) (c24 : PySem.W.codeIn K cd24 "_law_of" = true) (k24 : PySem.W.keepIn K (.ref f24) = true)
    {f25 : Addr} {od25 an25 : Option Addr} {sl25 : Array (Option Value)} {oc25 kV25 dc25 pm25 cd25 ct25 : Value} (a25 : PySem.W.nsIn K mainGlobals "_law_odd" = some (some (.ref f25))) (l25 : K.lookup f25 = some ⟨oc25, od25, .func (PySem.W.fnOf "_law_odd" "_law_odd" (defArgs (topS 29)) (defBody (topS 29)) (defScope (topS 29)) .none kV25 dc25 pm25 an25 cd25 ct25), sl25⟩) (c25 : PySem.W.codeIn K cd25 "_law_odd" = true) (k25 : PySem.W.keepIn K (.ref f25) = true)
    {f26 : Addr} {od26 an26 : Option Addr} {sl26 : Array (Option Value)} {oc26 kV26 dc26 pm26 cd26 ct26 : Value} (a26 : PySem.W.nsIn K mainGlobals "_law_by_position" = some (some (.ref f26))) (l26 : K.lookup f26 = some ⟨oc26, od26, .func (PySem.W.fnOf "_law_by_position" "_law_by_position" (defArgs (topS 30)) (defBody (topS 30)) (defScope (topS 30)) .none kV26 dc26 pm26 an26 cd26 ct26), sl26⟩) (c26 : PySem.W.codeIn K cd26 "_law_by_position" = true) (k26 : PySem.W.keepIn K (.ref f26) = true)
    {f27 : Addr} {od27 an27 : Option Addr} {sl27 : Array (Option Value)} {oc27 kV27 dc27 pm27 cd27 ct27 : Value} (a27 : PySem.W.nsIn K mainGlobals "_law_by_name" = some (some (.ref f27))) (l27 : K.lookup f27 = some ⟨oc27, od27, .func (PySem.W.fnOf "_law_by_name" "_law_by_name" (defArgs (topS 31)) (defBody (topS 31)) (defScope (topS 31)) .none kV27 dc27 pm27 an27 cd27 ct27), sl27⟩) (c27 : PySem.W.codeIn K cd27 "_law_by_name" = true) (k27 : PySem.W.keepIn K (.ref f27) = true)
    {f28 : Addr} {od28 an28 : Option Addr} {sl28 : Array (Option Value)} {oc28 kV28 dc28 pm28 cd28 ct28 : Value} (a28 : PySem.W.nsIn K mainGlobals "_law_kinds" = some (some (.ref f28))) (l28 : K.lookup f28 = some ⟨oc28, od28, .func (PySem.W.fnOf "_law_kinds" "_law_kinds" (defArgs (topS 32)) (defBody (topS 32)) (defScope (topS 32)) .none kV28 dc28 pm28 an28 cd28 ct28), sl28⟩) (c28 : PySem.W.codeIn K cd28 "_law_kinds" = true) (k28 : PySem.W.keepIn K (.ref f28) = true)
    {f29 : Addr} {od29 an29 : Option Addr} {sl29 : Array (Option Value)} {oc29 kV29 dc29 pm29 cd29 ct29 : Value} (a29 : PySem.W.nsIn K mainGlobals "_law_held" = some (some (.ref f29))) (l29 : K.lookup f29 = some ⟨oc29, od29, .func (PySem.W.fnOf "_law_held" "_law_held" (defArgs (topS 33)) (defBody (topS 33)) (defScope (topS 33)) .none kV29 dc29 pm29 an29 cd29 ct29), sl29⟩) (c29 : PySem.W.codeIn K cd29 "_law_held" = true) (k29 : PySem.W.keepIn K (.ref f29) = true)
    {f30 : Addr} {od30 an30 : Option Addr} {sl30 : Array (Option Value)} {oc30 kV30 dc30 pm30 cd30 ct30 : Value} (a30 : PySem.W.nsIn K mainGlobals "_law_raised_right" = some (some (.ref f30))) (l30 : K.lookup f30 = some ⟨oc30, od30, .func (PySem.W.fnOf "_law_raised_right" "_law_raised_right" (defArgs (topS 34)) (defBody (topS 34)) (defScope (topS 34)) .none kV30 dc30 pm30 an30 cd30 ct30), sl30⟩) (c30 : PySem.W.codeIn K cd30 "_law_raised_right" = true) (k30 : PySem.W.keepIn K (.ref f30) = true)
    {f31 : Addr} {od31 an31 : Option Addr} {sl31 : Array (Option Value)} {oc31 kV31 dc31 pm31 cd31 ct31 : Value} (a31 : PySem.W.nsIn K mainGlobals "law" = some (some (.ref f31))) (l31 : K.lookup f31 = some ⟨oc31, od31, .func (PySem.W.fnOf "law" "law" (defArgs (topS 35)) (defBody (topS 35)) (defScope (topS 35)) .none kV31 dc31 pm31 an31 cd31 ct31), sl31⟩) (c31 : PySem.W.codeIn K cd31 "law" = true) (k31 : PySem.W.keepIn K (.ref f31) = true)
    (z1 : PySem.W.nsIn K mainGlobals "len" = some none)
    (z2 : PySem.W.nsIn K mainGlobals "abs" = some none)
    (z3 : PySem.W.nsIn K mainGlobals "int" = some none)
    (z4 : PySem.W.nsIn K mainGlobals "range" = some none)
    (z5 : PySem.W.nsIn K mainGlobals "tuple" = some none)
    (z6 : PySem.W.nsIn K mainGlobals "max" = some none)
    (z7 : PySem.W.nsIn K mainGlobals "min" = some none)
    (z8 : PySem.W.nsIn K mainGlobals "repr" = some none)
    (z9 : PySem.W.nsIn K mainGlobals "isinstance" = some none)
    (z10 : PySem.W.nsIn K mainGlobals "bool" = some none)
    (z11 : PySem.W.nsIn K mainGlobals "all" = some none)
    (z12 : PySem.W.nsIn K mainGlobals "any" = some none)
    (z13 : PySem.W.nsIn K mainGlobals "list" = some none)
    (z14 : PySem.W.nsIn K mainGlobals "dict" = some none)
    (z15 : PySem.W.nsIn K mainGlobals "sorted" = some none)
    (z16 : PySem.W.nsIn K mainGlobals "set" = some none)
    (z17 : PySem.W.nsIn K mainGlobals "sum" = some none)
    (z18 : PySem.W.nsIn K mainGlobals "zip" = some none)
    (z19 : PySem.W.nsIn K mainGlobals "enumerate" = some none)
    (z20 : PySem.W.nsIn K mainGlobals "reversed" = some none)
    (z21 : PySem.W.nsIn K mainGlobals "str" = some none)
    (zd : PySem.W.nsIn K cStatics "sys.int_max_str_digits" = some none) :
    ∃ fd : FuncData, (∀ (s : Shared) (v : Value), BindsTo s fd ⟨[v], []⟩ [("_law_script", v)]) ∧ ∀ base : Heap, K.In base → base.Ns mainGlobals mg → FnG l.prog w K mg base CX0 (0 + 1 + 1 + 1 + 1 + 1) fa fd ["_law_script"] (spLaw K) := by
  have e := hfa.symm.trans (PySem.W.mg_of X G a31)
  cases e
  have F1 := fun_mk (x := "__init__") (qual := "BadChain.__init__") (st := (inClass (topS 2) 0)) l1 c1 k1
  have F2 := fun_mk (x := "__init__") (qual := "BadPages.__init__") (st := (inClass (topS 3) 0)) l2 c2 k2
  have F3 := fun_mk (x := "__init__") (qual := "BadLimit.__init__") (st := (inClass (topS 4) 0)) l3 c3 k3
  have F4 := fun_mk (x := "__init__") (qual := "BadRule.__init__") (st := (inClass (topS 5) 0)) l4 c4 k4
  have F5 := fun_mk (x := "__init__") (qual := "BadSize.__init__") (st := (inClass (topS 6) 0)) l5 c5 k5
  have F6 := fun_mk (x := "__init__") (qual := "BadState.__init__") (st := (inClass (topS 7) 0)) l6 c6 k6
  have F7 := fun_mk (x := "__init__") (qual := "BadPlace.__init__") (st := (inClass (topS 8) 0)) l7 c7 k7
  have F8 := fun_mk (x := "__init__") (qual := "BadAnswer.__init__") (st := (inClass (topS 9) 0)) l8 c8 k8
  have F9 := fun_mk (x := "__init__") (qual := "BadEvent.__init__") (st := (inClass (topS 10) 0)) l9 c9 k9
  have F10 := fun_mk (x := "__init__") (qual := "OverLimit.__init__") (st := (inClass (topS 11) 0)) l10 c10 k10
  have F11 := fun_mk (x := "__init__") (qual := "NoRoom.__init__") (st := (inClass (topS 12) 0)) l11 c11 k11
  have F12 := fun_mk (x := "__init__") (qual := "NoBlock.__init__") (st := (inClass (topS 13) 0)) l12 c12 k12
  have F13 := fun_mk (x := "__init__") (qual := "TooMany.__init__") (st := (inClass (topS 14) 0)) l13 c13 k13
  have F14 := fun_mk (x := "__init__") (qual := "BadText.__init__") (st := (inClass (topS 19) 0)) l14 c14 k14
  have F15 := fun_mk (x := "__init__") (qual := "BadLine.__init__") (st := (inClass (topS 20) 0)) l15 c15 k15
  have F16 := fun_mk (x := "__init__") (qual := "Safe.__init__") (st := (inClass (topS 15) 0)) l16 c16 k16
  have F17 := fun_mk (x := "__init__") (qual := "Unsafe.__init__") (st := (inClass (topS 16) 0)) l17 c17 k17
  have F18 := fun_mk (x := "__init__") (qual := "Finished.__init__") (st := (inClass (topS 17) 0)) l18 c18 k18
  have F19 := fun_mk (x := "__init__") (qual := "NothingToUndo.__init__") (st := (inClass (topS 18) 0)) l19 c19 k19
  have F20 := fun_mk (x := "is_integer") (qual := "is_integer") (st := (topS 22)) l20 c20 k20
  have F21 := fun_mk (x := "rounded") (qual := "rounded") (st := (topS 24)) l21 c21 k21
  have F22 := fun_mk (x := "_law_pot") (qual := "_law_pot") (st := (topS 26)) l22 c22 k22
  have F23 := fun_mk (x := "_law_take") (qual := "_law_take") (st := (topS 27)) l23 c23 k23
  have F24 := fun_mk (x := "_law_of") (qual := "_law_of") (st := (topS 28)) l24 c24 k24
  have F25 := fun_mk (x := "_law_odd") (qual := "_law_odd") (st := (topS 29)) l25 c25 k25
  have F26 := fun_mk (x := "_law_by_position") (qual := "_law_by_position") (st := (topS 30)) l26 c26 k26
  have F27 := fun_mk (x := "_law_by_name") (qual := "_law_by_name") (st := (topS 31)) l27 c27 k27
  have F28 := fun_mk (x := "_law_kinds") (qual := "_law_kinds") (st := (topS 32)) l28 c28 k28
  have F29 := fun_mk (x := "_law_held") (qual := "_law_held") (st := (topS 33)) l29 c29 k29
  have F30 := fun_mk (x := "_law_raised_right") (qual := "_law_raised_right") (st := (topS 34)) l30 c30 k30
  have F31 := fun_mk (x := "law") (qual := "law") (st := (topS 35)) l31 c31 k31
  let Z : Fns K mg := {
    N := ⟨PySem.W.mg_none_of X G z1, PySem.W.mg_none_of X G z2, PySem.W.mg_none_of X G z3, PySem.W.mg_none_of X G z4, PySem.W.mg_none_of X G z5, PySem.W.mg_none_of X G z6, PySem.W.mg_none_of X G z7, PySem.W.mg_none_of X G z8, PySem.W.mg_none_of X G z9, PySem.W.mg_none_of X G z10, PySem.W.mg_none_of X G z11, PySem.W.mg_none_of X G z12, PySem.W.mg_none_of X G z13, PySem.W.mg_none_of X G z14, PySem.W.mg_none_of X G z15, PySem.W.mg_none_of X G z16, PySem.W.mg_none_of X G z17, PySem.W.mg_none_of X G z18, PySem.W.mg_none_of X G z19, PySem.W.mg_none_of X G z20, PySem.W.mg_none_of X G z21, zd⟩,
    CHeapError := CHeapError,
    gcHeapError := PySem.W.mg_of X G aCHeapError,
    CBadChain := CBadChain,
    gcBadChain := PySem.W.mg_of X G aCBadChain,
    CBadPages := CBadPages,
    gcBadPages := PySem.W.mg_of X G aCBadPages,
    CBadLimit := CBadLimit,
    gcBadLimit := PySem.W.mg_of X G aCBadLimit,
    CBadRule := CBadRule,
    gcBadRule := PySem.W.mg_of X G aCBadRule,
    CBadSize := CBadSize,
    gcBadSize := PySem.W.mg_of X G aCBadSize,
    CBadState := CBadState,
    gcBadState := PySem.W.mg_of X G aCBadState,
    CBadPlace := CBadPlace,
    gcBadPlace := PySem.W.mg_of X G aCBadPlace,
    CBadAnswer := CBadAnswer,
    gcBadAnswer := PySem.W.mg_of X G aCBadAnswer,
    CBadEvent := CBadEvent,
    gcBadEvent := PySem.W.mg_of X G aCBadEvent,
    COverLimit := COverLimit,
    gcOverLimit := PySem.W.mg_of X G aCOverLimit,
    CNoRoom := CNoRoom,
    gcNoRoom := PySem.W.mg_of X G aCNoRoom,
    CNoBlock := CNoBlock,
    gcNoBlock := PySem.W.mg_of X G aCNoBlock,
    CTooMany := CTooMany,
    gcTooMany := PySem.W.mg_of X G aCTooMany,
    CBadText := CBadText,
    gcBadText := PySem.W.mg_of X G aCBadText,
    CBadLine := CBadLine,
    gcBadLine := PySem.W.mg_of X G aCBadLine,
    CSafe := CSafe,
    gcSafe := PySem.W.mg_of X G aCSafe,
    CUnsafe := CUnsafe,
    gcUnsafe := PySem.W.mg_of X G aCUnsafe,
    CFinished := CFinished,
    gcFinished := PySem.W.mg_of X G aCFinished,
    CNothingToUndo := CNothingToUndo,
    gcNothingToUndo := PySem.W.mg_of X G aCNothingToUndo,
    nve := PySem.W.mg_none_of X G zve,
    exBadChain_BadChain := PySem.W.exm_ref bxBadChain hdBadChain tyBadChain ssBadChain_BadChain,
    oxBadChain := ⟨⟨nmBadChain, qBadChain, NBadChain, bsBadChain, _, snBadChain, subBadChain, abBadChain, colBadChain, ddBadChain, m0BadChain, m1BadChain, m2BadChain, m3BadChain, m5BadChain, xLBadChain, rfl⟩, saBadChain, bxBadChain, tyBadChain, kpBadChain⟩,
    ecBadChain := ⟨gaBadChain, ggBadChain, bxBadChain, hdBadChain, caBadChain, cgX, ctX, moBadChain⟩,
    xfBadChain := ⟨gaBadChain, ggBadChain, bxBadChain, hdBadChain⟩,
    exBadChain := PySem.W.exm_ref bxH hdH tyH sHBadChain,
    isBadChain_ValueError := isBadChain_ValueError,
    nfBadChain_chain := nfBadChain_chain,
    isBadChain_HeapError := isBadChain_HeapError,
    isBadChain_BadChain := isBadChain_BadChain,
    isBadChain_BadPages := isBadChain_BadPages,
    isBadChain_BadLimit := isBadChain_BadLimit,
    isBadChain_BadRule := isBadChain_BadRule,
    isBadChain_BadSize := isBadChain_BadSize,
    isBadChain_BadState := isBadChain_BadState,
    isBadChain_BadPlace := isBadChain_BadPlace,
    isBadChain_BadAnswer := isBadChain_BadAnswer,
    isBadChain_BadEvent := isBadChain_BadEvent,
    isBadChain_OverLimit := isBadChain_OverLimit,
    isBadChain_NoRoom := isBadChain_NoRoom,
    isBadChain_NoBlock := isBadChain_NoBlock,
    isBadChain_TooMany := isBadChain_TooMany,
    isBadChain_BadText := isBadChain_BadText,
    isBadChain_BadLine := isBadChain_BadLine,
    isBadChain_Safe := isBadChain_Safe,
    isBadChain_Unsafe := isBadChain_Unsafe,
    isBadChain_Finished := isBadChain_Finished,
    isBadChain_NothingToUndo := isBadChain_NothingToUndo,
    exBadPages_BadPages := PySem.W.exm_ref bxBadPages hdBadPages tyBadPages ssBadPages_BadPages,
    oxBadPages := ⟨⟨nmBadPages, qBadPages, NBadPages, bsBadPages, _, snBadPages, subBadPages, abBadPages, colBadPages, ddBadPages, m0BadPages, m1BadPages, m2BadPages, m3BadPages, m5BadPages, xLBadPages, rfl⟩, saBadPages, bxBadPages, tyBadPages, kpBadPages⟩,
    ecBadPages := ⟨gaBadPages, ggBadPages, bxBadPages, hdBadPages, caBadPages, cgX, ctX, moBadPages⟩,
    xfBadPages := ⟨gaBadPages, ggBadPages, bxBadPages, hdBadPages⟩,
    exBadPages := PySem.W.exm_ref bxH hdH tyH sHBadPages,
    isBadPages_ValueError := isBadPages_ValueError,
    nfBadPages_pages := nfBadPages_pages,
    isBadPages_HeapError := isBadPages_HeapError,
    isBadPages_BadChain := isBadPages_BadChain,
    isBadPages_BadPages := isBadPages_BadPages,
    isBadPages_BadLimit := isBadPages_BadLimit,
    isBadPages_BadRule := isBadPages_BadRule,
    isBadPages_BadSize := isBadPages_BadSize,
    isBadPages_BadState := isBadPages_BadState,
    isBadPages_BadPlace := isBadPages_BadPlace,
    isBadPages_BadAnswer := isBadPages_BadAnswer,
    isBadPages_BadEvent := isBadPages_BadEvent,
    isBadPages_OverLimit := isBadPages_OverLimit,
    isBadPages_NoRoom := isBadPages_NoRoom,
    isBadPages_NoBlock := isBadPages_NoBlock,
    isBadPages_TooMany := isBadPages_TooMany,
    isBadPages_BadText := isBadPages_BadText,
    isBadPages_BadLine := isBadPages_BadLine,
    isBadPages_Safe := isBadPages_Safe,
    isBadPages_Unsafe := isBadPages_Unsafe,
    isBadPages_Finished := isBadPages_Finished,
    isBadPages_NothingToUndo := isBadPages_NothingToUndo,
    exBadLimit_BadLimit := PySem.W.exm_ref bxBadLimit hdBadLimit tyBadLimit ssBadLimit_BadLimit,
    oxBadLimit := ⟨⟨nmBadLimit, qBadLimit, NBadLimit, bsBadLimit, _, snBadLimit, subBadLimit, abBadLimit, colBadLimit, ddBadLimit, m0BadLimit, m1BadLimit, m2BadLimit, m3BadLimit, m5BadLimit, xLBadLimit, rfl⟩, saBadLimit, bxBadLimit, tyBadLimit, kpBadLimit⟩,
    ecBadLimit := ⟨gaBadLimit, ggBadLimit, bxBadLimit, hdBadLimit, caBadLimit, cgX, ctX, moBadLimit⟩,
    xfBadLimit := ⟨gaBadLimit, ggBadLimit, bxBadLimit, hdBadLimit⟩,
    exBadLimit := PySem.W.exm_ref bxH hdH tyH sHBadLimit,
    isBadLimit_ValueError := isBadLimit_ValueError,
    nfBadLimit_limit := nfBadLimit_limit,
    isBadLimit_HeapError := isBadLimit_HeapError,
    isBadLimit_BadChain := isBadLimit_BadChain,
    isBadLimit_BadPages := isBadLimit_BadPages,
    isBadLimit_BadLimit := isBadLimit_BadLimit,
    isBadLimit_BadRule := isBadLimit_BadRule,
    isBadLimit_BadSize := isBadLimit_BadSize,
    isBadLimit_BadState := isBadLimit_BadState,
    isBadLimit_BadPlace := isBadLimit_BadPlace,
    isBadLimit_BadAnswer := isBadLimit_BadAnswer,
    isBadLimit_BadEvent := isBadLimit_BadEvent,
    isBadLimit_OverLimit := isBadLimit_OverLimit,
    isBadLimit_NoRoom := isBadLimit_NoRoom,
    isBadLimit_NoBlock := isBadLimit_NoBlock,
    isBadLimit_TooMany := isBadLimit_TooMany,
    isBadLimit_BadText := isBadLimit_BadText,
    isBadLimit_BadLine := isBadLimit_BadLine,
    isBadLimit_Safe := isBadLimit_Safe,
    isBadLimit_Unsafe := isBadLimit_Unsafe,
    isBadLimit_Finished := isBadLimit_Finished,
    isBadLimit_NothingToUndo := isBadLimit_NothingToUndo,
    exBadRule_BadRule := PySem.W.exm_ref bxBadRule hdBadRule tyBadRule ssBadRule_BadRule,
    oxBadRule := ⟨⟨nmBadRule, qBadRule, NBadRule, bsBadRule, _, snBadRule, subBadRule, abBadRule, colBadRule, ddBadRule, m0BadRule, m1BadRule, m2BadRule, m3BadRule, m5BadRule, xLBadRule, rfl⟩, saBadRule, bxBadRule, tyBadRule, kpBadRule⟩,
    ecBadRule := ⟨gaBadRule, ggBadRule, bxBadRule, hdBadRule, caBadRule, cgX, ctX, moBadRule⟩,
    xfBadRule := ⟨gaBadRule, ggBadRule, bxBadRule, hdBadRule⟩,
    exBadRule := PySem.W.exm_ref bxH hdH tyH sHBadRule,
    isBadRule_ValueError := isBadRule_ValueError,
    nfBadRule_rule := nfBadRule_rule,
    isBadRule_HeapError := isBadRule_HeapError,
    isBadRule_BadChain := isBadRule_BadChain,
    isBadRule_BadPages := isBadRule_BadPages,
    isBadRule_BadLimit := isBadRule_BadLimit,
    isBadRule_BadRule := isBadRule_BadRule,
    isBadRule_BadSize := isBadRule_BadSize,
    isBadRule_BadState := isBadRule_BadState,
    isBadRule_BadPlace := isBadRule_BadPlace,
    isBadRule_BadAnswer := isBadRule_BadAnswer,
    isBadRule_BadEvent := isBadRule_BadEvent,
    isBadRule_OverLimit := isBadRule_OverLimit,
    isBadRule_NoRoom := isBadRule_NoRoom,
    isBadRule_NoBlock := isBadRule_NoBlock,
    isBadRule_TooMany := isBadRule_TooMany,
    isBadRule_BadText := isBadRule_BadText,
    isBadRule_BadLine := isBadRule_BadLine,
    isBadRule_Safe := isBadRule_Safe,
    isBadRule_Unsafe := isBadRule_Unsafe,
    isBadRule_Finished := isBadRule_Finished,
    isBadRule_NothingToUndo := isBadRule_NothingToUndo,
    exBadSize_BadSize := PySem.W.exm_ref bxBadSize hdBadSize tyBadSize ssBadSize_BadSize,
    oxBadSize := ⟨⟨nmBadSize, qBadSize, NBadSize, bsBadSize, _, snBadSize, subBadSize, abBadSize, colBadSize, ddBadSize, m0BadSize, m1BadSize, m2BadSize, m3BadSize, m5BadSize, xLBadSize, rfl⟩, saBadSize, bxBadSize, tyBadSize, kpBadSize⟩,
    ecBadSize := ⟨gaBadSize, ggBadSize, bxBadSize, hdBadSize, caBadSize, cgX, ctX, moBadSize⟩,
    xfBadSize := ⟨gaBadSize, ggBadSize, bxBadSize, hdBadSize⟩,
    exBadSize := PySem.W.exm_ref bxH hdH tyH sHBadSize,
    isBadSize_ValueError := isBadSize_ValueError,
    nfBadSize_size := nfBadSize_size,
    isBadSize_HeapError := isBadSize_HeapError,
    isBadSize_BadChain := isBadSize_BadChain,
    isBadSize_BadPages := isBadSize_BadPages,
    isBadSize_BadLimit := isBadSize_BadLimit,
    isBadSize_BadRule := isBadSize_BadRule,
    isBadSize_BadSize := isBadSize_BadSize,
    isBadSize_BadState := isBadSize_BadState,
    isBadSize_BadPlace := isBadSize_BadPlace,
    isBadSize_BadAnswer := isBadSize_BadAnswer,
    isBadSize_BadEvent := isBadSize_BadEvent,
    isBadSize_OverLimit := isBadSize_OverLimit,
    isBadSize_NoRoom := isBadSize_NoRoom,
    isBadSize_NoBlock := isBadSize_NoBlock,
    isBadSize_TooMany := isBadSize_TooMany,
    isBadSize_BadText := isBadSize_BadText,
    isBadSize_BadLine := isBadSize_BadLine,
    isBadSize_Safe := isBadSize_Safe,
    isBadSize_Unsafe := isBadSize_Unsafe,
    isBadSize_Finished := isBadSize_Finished,
    isBadSize_NothingToUndo := isBadSize_NothingToUndo,
    exBadState_BadState := PySem.W.exm_ref bxBadState hdBadState tyBadState ssBadState_BadState,
    oxBadState := ⟨⟨nmBadState, qBadState, NBadState, bsBadState, _, snBadState, subBadState, abBadState, colBadState, ddBadState, m0BadState, m1BadState, m2BadState, m3BadState, m5BadState, xLBadState, rfl⟩, saBadState, bxBadState, tyBadState, kpBadState⟩,
    ecBadState := ⟨gaBadState, ggBadState, bxBadState, hdBadState, caBadState, cgX, ctX, moBadState⟩,
    xfBadState := ⟨gaBadState, ggBadState, bxBadState, hdBadState⟩,
    exBadState := PySem.W.exm_ref bxH hdH tyH sHBadState,
    isBadState_ValueError := isBadState_ValueError,
    nfBadState_value := nfBadState_value,
    isBadState_HeapError := isBadState_HeapError,
    isBadState_BadChain := isBadState_BadChain,
    isBadState_BadPages := isBadState_BadPages,
    isBadState_BadLimit := isBadState_BadLimit,
    isBadState_BadRule := isBadState_BadRule,
    isBadState_BadSize := isBadState_BadSize,
    isBadState_BadState := isBadState_BadState,
    isBadState_BadPlace := isBadState_BadPlace,
    isBadState_BadAnswer := isBadState_BadAnswer,
    isBadState_BadEvent := isBadState_BadEvent,
    isBadState_OverLimit := isBadState_OverLimit,
    isBadState_NoRoom := isBadState_NoRoom,
    isBadState_NoBlock := isBadState_NoBlock,
    isBadState_TooMany := isBadState_TooMany,
    isBadState_BadText := isBadState_BadText,
    isBadState_BadLine := isBadState_BadLine,
    isBadState_Safe := isBadState_Safe,
    isBadState_Unsafe := isBadState_Unsafe,
    isBadState_Finished := isBadState_Finished,
    isBadState_NothingToUndo := isBadState_NothingToUndo,
    exBadPlace_BadPlace := PySem.W.exm_ref bxBadPlace hdBadPlace tyBadPlace ssBadPlace_BadPlace,
    oxBadPlace := ⟨⟨nmBadPlace, qBadPlace, NBadPlace, bsBadPlace, _, snBadPlace, subBadPlace, abBadPlace, colBadPlace, ddBadPlace, m0BadPlace, m1BadPlace, m2BadPlace, m3BadPlace, m5BadPlace, xLBadPlace, rfl⟩, saBadPlace, bxBadPlace, tyBadPlace, kpBadPlace⟩,
    ecBadPlace := ⟨gaBadPlace, ggBadPlace, bxBadPlace, hdBadPlace, caBadPlace, cgX, ctX, moBadPlace⟩,
    xfBadPlace := ⟨gaBadPlace, ggBadPlace, bxBadPlace, hdBadPlace⟩,
    exBadPlace := PySem.W.exm_ref bxH hdH tyH sHBadPlace,
    isBadPlace_ValueError := isBadPlace_ValueError,
    nfBadPlace_address := nfBadPlace_address,
    isBadPlace_HeapError := isBadPlace_HeapError,
    isBadPlace_BadChain := isBadPlace_BadChain,
    isBadPlace_BadPages := isBadPlace_BadPages,
    isBadPlace_BadLimit := isBadPlace_BadLimit,
    isBadPlace_BadRule := isBadPlace_BadRule,
    isBadPlace_BadSize := isBadPlace_BadSize,
    isBadPlace_BadState := isBadPlace_BadState,
    isBadPlace_BadPlace := isBadPlace_BadPlace,
    isBadPlace_BadAnswer := isBadPlace_BadAnswer,
    isBadPlace_BadEvent := isBadPlace_BadEvent,
    isBadPlace_OverLimit := isBadPlace_OverLimit,
    isBadPlace_NoRoom := isBadPlace_NoRoom,
    isBadPlace_NoBlock := isBadPlace_NoBlock,
    isBadPlace_TooMany := isBadPlace_TooMany,
    isBadPlace_BadText := isBadPlace_BadText,
    isBadPlace_BadLine := isBadPlace_BadLine,
    isBadPlace_Safe := isBadPlace_Safe,
    isBadPlace_Unsafe := isBadPlace_Unsafe,
    isBadPlace_Finished := isBadPlace_Finished,
    isBadPlace_NothingToUndo := isBadPlace_NothingToUndo,
    exBadAnswer_BadAnswer := PySem.W.exm_ref bxBadAnswer hdBadAnswer tyBadAnswer ssBadAnswer_BadAnswer,
    oxBadAnswer := ⟨⟨nmBadAnswer, qBadAnswer, NBadAnswer, bsBadAnswer, _, snBadAnswer, subBadAnswer, abBadAnswer, colBadAnswer, ddBadAnswer, m0BadAnswer, m1BadAnswer, m2BadAnswer, m3BadAnswer, m5BadAnswer, xLBadAnswer, rfl⟩, saBadAnswer, bxBadAnswer, tyBadAnswer, kpBadAnswer⟩,
    ecBadAnswer := ⟨gaBadAnswer, ggBadAnswer, bxBadAnswer, hdBadAnswer, caBadAnswer, cgX, ctX, moBadAnswer⟩,
    xfBadAnswer := ⟨gaBadAnswer, ggBadAnswer, bxBadAnswer, hdBadAnswer⟩,
    exBadAnswer := PySem.W.exm_ref bxH hdH tyH sHBadAnswer,
    isBadAnswer_ValueError := isBadAnswer_ValueError,
    nfBadAnswer_value := nfBadAnswer_value,
    isBadAnswer_HeapError := isBadAnswer_HeapError,
    isBadAnswer_BadChain := isBadAnswer_BadChain,
    isBadAnswer_BadPages := isBadAnswer_BadPages,
    isBadAnswer_BadLimit := isBadAnswer_BadLimit,
    isBadAnswer_BadRule := isBadAnswer_BadRule,
    isBadAnswer_BadSize := isBadAnswer_BadSize,
    isBadAnswer_BadState := isBadAnswer_BadState,
    isBadAnswer_BadPlace := isBadAnswer_BadPlace,
    isBadAnswer_BadAnswer := isBadAnswer_BadAnswer,
    isBadAnswer_BadEvent := isBadAnswer_BadEvent,
    isBadAnswer_OverLimit := isBadAnswer_OverLimit,
    isBadAnswer_NoRoom := isBadAnswer_NoRoom,
    isBadAnswer_NoBlock := isBadAnswer_NoBlock,
    isBadAnswer_TooMany := isBadAnswer_TooMany,
    isBadAnswer_BadText := isBadAnswer_BadText,
    isBadAnswer_BadLine := isBadAnswer_BadLine,
    isBadAnswer_Safe := isBadAnswer_Safe,
    isBadAnswer_Unsafe := isBadAnswer_Unsafe,
    isBadAnswer_Finished := isBadAnswer_Finished,
    isBadAnswer_NothingToUndo := isBadAnswer_NothingToUndo,
    exBadEvent_BadEvent := PySem.W.exm_ref bxBadEvent hdBadEvent tyBadEvent ssBadEvent_BadEvent,
    oxBadEvent := ⟨⟨nmBadEvent, qBadEvent, NBadEvent, bsBadEvent, _, snBadEvent, subBadEvent, abBadEvent, colBadEvent, ddBadEvent, m0BadEvent, m1BadEvent, m2BadEvent, m3BadEvent, m5BadEvent, xLBadEvent, rfl⟩, saBadEvent, bxBadEvent, tyBadEvent, kpBadEvent⟩,
    ecBadEvent := ⟨gaBadEvent, ggBadEvent, bxBadEvent, hdBadEvent, caBadEvent, cgX, ctX, moBadEvent⟩,
    xfBadEvent := ⟨gaBadEvent, ggBadEvent, bxBadEvent, hdBadEvent⟩,
    exBadEvent := PySem.W.exm_ref bxH hdH tyH sHBadEvent,
    isBadEvent_ValueError := isBadEvent_ValueError,
    nfBadEvent_number := nfBadEvent_number,
    isBadEvent_HeapError := isBadEvent_HeapError,
    isBadEvent_BadChain := isBadEvent_BadChain,
    isBadEvent_BadPages := isBadEvent_BadPages,
    isBadEvent_BadLimit := isBadEvent_BadLimit,
    isBadEvent_BadRule := isBadEvent_BadRule,
    isBadEvent_BadSize := isBadEvent_BadSize,
    isBadEvent_BadState := isBadEvent_BadState,
    isBadEvent_BadPlace := isBadEvent_BadPlace,
    isBadEvent_BadAnswer := isBadEvent_BadAnswer,
    isBadEvent_BadEvent := isBadEvent_BadEvent,
    isBadEvent_OverLimit := isBadEvent_OverLimit,
    isBadEvent_NoRoom := isBadEvent_NoRoom,
    isBadEvent_NoBlock := isBadEvent_NoBlock,
    isBadEvent_TooMany := isBadEvent_TooMany,
    isBadEvent_BadText := isBadEvent_BadText,
    isBadEvent_BadLine := isBadEvent_BadLine,
    isBadEvent_Safe := isBadEvent_Safe,
    isBadEvent_Unsafe := isBadEvent_Unsafe,
    isBadEvent_Finished := isBadEvent_Finished,
    isBadEvent_NothingToUndo := isBadEvent_NothingToUndo,
    exOverLimit_OverLimit := PySem.W.exm_ref bxOverLimit hdOverLimit tyOverLimit ssOverLimit_OverLimit,
    oxOverLimit := ⟨⟨nmOverLimit, qOverLimit, NOverLimit, bsOverLimit, _, snOverLimit, subOverLimit, abOverLimit, colOverLimit, ddOverLimit, m0OverLimit, m1OverLimit, m2OverLimit, m3OverLimit, m5OverLimit, xLOverLimit, rfl⟩, saOverLimit, bxOverLimit, tyOverLimit, kpOverLimit⟩,
    ecOverLimit := ⟨gaOverLimit, ggOverLimit, bxOverLimit, hdOverLimit, caOverLimit, cgX, ctX, moOverLimit⟩,
    xfOverLimit := ⟨gaOverLimit, ggOverLimit, bxOverLimit, hdOverLimit⟩,
    exOverLimit := PySem.W.exm_ref bxH hdH tyH sHOverLimit,
    isOverLimit_ValueError := isOverLimit_ValueError,
    nfOverLimit_size := nfOverLimit_size,
    isOverLimit_HeapError := isOverLimit_HeapError,
    isOverLimit_BadChain := isOverLimit_BadChain,
    isOverLimit_BadPages := isOverLimit_BadPages,
    isOverLimit_BadLimit := isOverLimit_BadLimit,
    isOverLimit_BadRule := isOverLimit_BadRule,
    isOverLimit_BadSize := isOverLimit_BadSize,
    isOverLimit_BadState := isOverLimit_BadState,
    isOverLimit_BadPlace := isOverLimit_BadPlace,
    isOverLimit_BadAnswer := isOverLimit_BadAnswer,
    isOverLimit_BadEvent := isOverLimit_BadEvent,
    isOverLimit_OverLimit := isOverLimit_OverLimit,
    isOverLimit_NoRoom := isOverLimit_NoRoom,
    isOverLimit_NoBlock := isOverLimit_NoBlock,
    isOverLimit_TooMany := isOverLimit_TooMany,
    isOverLimit_BadText := isOverLimit_BadText,
    isOverLimit_BadLine := isOverLimit_BadLine,
    isOverLimit_Safe := isOverLimit_Safe,
    isOverLimit_Unsafe := isOverLimit_Unsafe,
    isOverLimit_Finished := isOverLimit_Finished,
    isOverLimit_NothingToUndo := isOverLimit_NothingToUndo,
    exNoRoom_NoRoom := PySem.W.exm_ref bxNoRoom hdNoRoom tyNoRoom ssNoRoom_NoRoom,
    oxNoRoom := ⟨⟨nmNoRoom, qNoRoom, NNoRoom, bsNoRoom, _, snNoRoom, subNoRoom, abNoRoom, colNoRoom, ddNoRoom, m0NoRoom, m1NoRoom, m2NoRoom, m3NoRoom, m5NoRoom, xLNoRoom, rfl⟩, saNoRoom, bxNoRoom, tyNoRoom, kpNoRoom⟩,
    ecNoRoom := ⟨gaNoRoom, ggNoRoom, bxNoRoom, hdNoRoom, caNoRoom, cgX, ctX, moNoRoom⟩,
    xfNoRoom := ⟨gaNoRoom, ggNoRoom, bxNoRoom, hdNoRoom⟩,
    exNoRoom := PySem.W.exm_ref bxH hdH tyH sHNoRoom,
    isNoRoom_ValueError := isNoRoom_ValueError,
    nfNoRoom_size := nfNoRoom_size,
    isNoRoom_HeapError := isNoRoom_HeapError,
    isNoRoom_BadChain := isNoRoom_BadChain,
    isNoRoom_BadPages := isNoRoom_BadPages,
    isNoRoom_BadLimit := isNoRoom_BadLimit,
    isNoRoom_BadRule := isNoRoom_BadRule,
    isNoRoom_BadSize := isNoRoom_BadSize,
    isNoRoom_BadState := isNoRoom_BadState,
    isNoRoom_BadPlace := isNoRoom_BadPlace,
    isNoRoom_BadAnswer := isNoRoom_BadAnswer,
    isNoRoom_BadEvent := isNoRoom_BadEvent,
    isNoRoom_OverLimit := isNoRoom_OverLimit,
    isNoRoom_NoRoom := isNoRoom_NoRoom,
    isNoRoom_NoBlock := isNoRoom_NoBlock,
    isNoRoom_TooMany := isNoRoom_TooMany,
    isNoRoom_BadText := isNoRoom_BadText,
    isNoRoom_BadLine := isNoRoom_BadLine,
    isNoRoom_Safe := isNoRoom_Safe,
    isNoRoom_Unsafe := isNoRoom_Unsafe,
    isNoRoom_Finished := isNoRoom_Finished,
    isNoRoom_NothingToUndo := isNoRoom_NothingToUndo,
    exNoBlock_NoBlock := PySem.W.exm_ref bxNoBlock hdNoBlock tyNoBlock ssNoBlock_NoBlock,
    oxNoBlock := ⟨⟨nmNoBlock, qNoBlock, NNoBlock, bsNoBlock, _, snNoBlock, subNoBlock, abNoBlock, colNoBlock, ddNoBlock, m0NoBlock, m1NoBlock, m2NoBlock, m3NoBlock, m5NoBlock, xLNoBlock, rfl⟩, saNoBlock, bxNoBlock, tyNoBlock, kpNoBlock⟩,
    ecNoBlock := ⟨gaNoBlock, ggNoBlock, bxNoBlock, hdNoBlock, caNoBlock, cgX, ctX, moNoBlock⟩,
    xfNoBlock := ⟨gaNoBlock, ggNoBlock, bxNoBlock, hdNoBlock⟩,
    exNoBlock := PySem.W.exm_ref bxH hdH tyH sHNoBlock,
    isNoBlock_ValueError := isNoBlock_ValueError,
    nfNoBlock_address := nfNoBlock_address,
    isNoBlock_HeapError := isNoBlock_HeapError,
    isNoBlock_BadChain := isNoBlock_BadChain,
    isNoBlock_BadPages := isNoBlock_BadPages,
    isNoBlock_BadLimit := isNoBlock_BadLimit,
    isNoBlock_BadRule := isNoBlock_BadRule,
    isNoBlock_BadSize := isNoBlock_BadSize,
    isNoBlock_BadState := isNoBlock_BadState,
    isNoBlock_BadPlace := isNoBlock_BadPlace,
    isNoBlock_BadAnswer := isNoBlock_BadAnswer,
    isNoBlock_BadEvent := isNoBlock_BadEvent,
    isNoBlock_OverLimit := isNoBlock_OverLimit,
    isNoBlock_NoRoom := isNoBlock_NoRoom,
    isNoBlock_NoBlock := isNoBlock_NoBlock,
    isNoBlock_TooMany := isNoBlock_TooMany,
    isNoBlock_BadText := isNoBlock_BadText,
    isNoBlock_BadLine := isNoBlock_BadLine,
    isNoBlock_Safe := isNoBlock_Safe,
    isNoBlock_Unsafe := isNoBlock_Unsafe,
    isNoBlock_Finished := isNoBlock_Finished,
    isNoBlock_NothingToUndo := isNoBlock_NothingToUndo,
    exTooMany_TooMany := PySem.W.exm_ref bxTooMany hdTooMany tyTooMany ssTooMany_TooMany,
    oxTooMany := ⟨⟨nmTooMany, qTooMany, NTooMany, bsTooMany, _, snTooMany, subTooMany, abTooMany, colTooMany, ddTooMany, m0TooMany, m1TooMany, m2TooMany, m3TooMany, m5TooMany, xLTooMany, rfl⟩, saTooMany, bxTooMany, tyTooMany, kpTooMany⟩,
    ecTooMany := ⟨gaTooMany, ggTooMany, bxTooMany, hdTooMany, caTooMany, cgX, ctX, moTooMany⟩,
    xfTooMany := ⟨gaTooMany, ggTooMany, bxTooMany, hdTooMany⟩,
    exTooMany := PySem.W.exm_ref bxH hdH tyH sHTooMany,
    isTooMany_ValueError := isTooMany_ValueError,
    nfTooMany_limit := nfTooMany_limit,
    isTooMany_HeapError := isTooMany_HeapError,
    isTooMany_BadChain := isTooMany_BadChain,
    isTooMany_BadPages := isTooMany_BadPages,
    isTooMany_BadLimit := isTooMany_BadLimit,
    isTooMany_BadRule := isTooMany_BadRule,
    isTooMany_BadSize := isTooMany_BadSize,
    isTooMany_BadState := isTooMany_BadState,
    isTooMany_BadPlace := isTooMany_BadPlace,
    isTooMany_BadAnswer := isTooMany_BadAnswer,
    isTooMany_BadEvent := isTooMany_BadEvent,
    isTooMany_OverLimit := isTooMany_OverLimit,
    isTooMany_NoRoom := isTooMany_NoRoom,
    isTooMany_NoBlock := isTooMany_NoBlock,
    isTooMany_TooMany := isTooMany_TooMany,
    isTooMany_BadText := isTooMany_BadText,
    isTooMany_BadLine := isTooMany_BadLine,
    isTooMany_Safe := isTooMany_Safe,
    isTooMany_Unsafe := isTooMany_Unsafe,
    isTooMany_Finished := isTooMany_Finished,
    isTooMany_NothingToUndo := isTooMany_NothingToUndo,
    exBadText_BadText := PySem.W.exm_ref bxBadText hdBadText tyBadText ssBadText_BadText,
    oxBadText := ⟨⟨nmBadText, qBadText, NBadText, bsBadText, _, snBadText, subBadText, abBadText, colBadText, ddBadText, m0BadText, m1BadText, m2BadText, m3BadText, m5BadText, xLBadText, rfl⟩, saBadText, bxBadText, tyBadText, kpBadText⟩,
    ecBadText := ⟨gaBadText, ggBadText, bxBadText, hdBadText, caBadText, cgX, ctX, moBadText⟩,
    xfBadText := ⟨gaBadText, ggBadText, bxBadText, hdBadText⟩,
    exBadText := PySem.W.exm_ref bxH hdH tyH sHBadText,
    isBadText_ValueError := isBadText_ValueError,
    nfBadText_row := nfBadText_row,
    isBadText_HeapError := isBadText_HeapError,
    isBadText_BadChain := isBadText_BadChain,
    isBadText_BadPages := isBadText_BadPages,
    isBadText_BadLimit := isBadText_BadLimit,
    isBadText_BadRule := isBadText_BadRule,
    isBadText_BadSize := isBadText_BadSize,
    isBadText_BadState := isBadText_BadState,
    isBadText_BadPlace := isBadText_BadPlace,
    isBadText_BadAnswer := isBadText_BadAnswer,
    isBadText_BadEvent := isBadText_BadEvent,
    isBadText_OverLimit := isBadText_OverLimit,
    isBadText_NoRoom := isBadText_NoRoom,
    isBadText_NoBlock := isBadText_NoBlock,
    isBadText_TooMany := isBadText_TooMany,
    isBadText_BadText := isBadText_BadText,
    isBadText_BadLine := isBadText_BadLine,
    isBadText_Safe := isBadText_Safe,
    isBadText_Unsafe := isBadText_Unsafe,
    isBadText_Finished := isBadText_Finished,
    isBadText_NothingToUndo := isBadText_NothingToUndo,
    exBadLine_BadLine := PySem.W.exm_ref bxBadLine hdBadLine tyBadLine ssBadLine_BadLine,
    oxBadLine := ⟨⟨nmBadLine, qBadLine, NBadLine, bsBadLine, _, snBadLine, subBadLine, abBadLine, colBadLine, ddBadLine, m0BadLine, m1BadLine, m2BadLine, m3BadLine, m5BadLine, xLBadLine, rfl⟩, saBadLine, bxBadLine, tyBadLine, kpBadLine⟩,
    ecBadLine := ⟨gaBadLine, ggBadLine, bxBadLine, hdBadLine, caBadLine, cgX, ctX, moBadLine⟩,
    xfBadLine := ⟨gaBadLine, ggBadLine, bxBadLine, hdBadLine⟩,
    exBadLine := PySem.W.exm_ref bxH hdH tyH sHBadLine,
    isBadLine_ValueError := isBadLine_ValueError,
    nfBadLine_line := nfBadLine_line,
    isBadLine_HeapError := isBadLine_HeapError,
    isBadLine_BadChain := isBadLine_BadChain,
    isBadLine_BadPages := isBadLine_BadPages,
    isBadLine_BadLimit := isBadLine_BadLimit,
    isBadLine_BadRule := isBadLine_BadRule,
    isBadLine_BadSize := isBadLine_BadSize,
    isBadLine_BadState := isBadLine_BadState,
    isBadLine_BadPlace := isBadLine_BadPlace,
    isBadLine_BadAnswer := isBadLine_BadAnswer,
    isBadLine_BadEvent := isBadLine_BadEvent,
    isBadLine_OverLimit := isBadLine_OverLimit,
    isBadLine_NoRoom := isBadLine_NoRoom,
    isBadLine_NoBlock := isBadLine_NoBlock,
    isBadLine_TooMany := isBadLine_TooMany,
    isBadLine_BadText := isBadLine_BadText,
    isBadLine_BadLine := isBadLine_BadLine,
    isBadLine_Safe := isBadLine_Safe,
    isBadLine_Unsafe := isBadLine_Unsafe,
    isBadLine_Finished := isBadLine_Finished,
    isBadLine_NothingToUndo := isBadLine_NothingToUndo,
    exSafe_Safe := PySem.W.exm_ref bxSafe hdSafe tySafe ssSafe_Safe,
    oxSafe := ⟨⟨nmSafe, qSafe, NSafe, bsSafe, _, snSafe, subSafe, abSafe, colSafe, ddSafe, m0Safe, m1Safe, m2Safe, m3Safe, m5Safe, xLSafe, rfl⟩, saSafe, bxSafe, tySafe, kpSafe⟩,
    ecSafe := ⟨gaSafe, ggSafe, bxSafe, hdSafe, caSafe, cgX, ctX, moSafe⟩,
    xfSafe := ⟨gaSafe, ggSafe, bxSafe, hdSafe⟩,
    exSafe := PySem.W.exm_ref bxH hdH tyH sHSafe,
    isSafe_ValueError := isSafe_ValueError,
    isSafe_HeapError := isSafe_HeapError,
    isSafe_BadChain := isSafe_BadChain,
    isSafe_BadPages := isSafe_BadPages,
    isSafe_BadLimit := isSafe_BadLimit,
    isSafe_BadRule := isSafe_BadRule,
    isSafe_BadSize := isSafe_BadSize,
    isSafe_BadState := isSafe_BadState,
    isSafe_BadPlace := isSafe_BadPlace,
    isSafe_BadAnswer := isSafe_BadAnswer,
    isSafe_BadEvent := isSafe_BadEvent,
    isSafe_OverLimit := isSafe_OverLimit,
    isSafe_NoRoom := isSafe_NoRoom,
    isSafe_NoBlock := isSafe_NoBlock,
    isSafe_TooMany := isSafe_TooMany,
    isSafe_BadText := isSafe_BadText,
    isSafe_BadLine := isSafe_BadLine,
    isSafe_Safe := isSafe_Safe,
    isSafe_Unsafe := isSafe_Unsafe,
    isSafe_Finished := isSafe_Finished,
    isSafe_NothingToUndo := isSafe_NothingToUndo,
    exUnsafe_Unsafe := PySem.W.exm_ref bxUnsafe hdUnsafe tyUnsafe ssUnsafe_Unsafe,
    oxUnsafe := ⟨⟨nmUnsafe, qUnsafe, NUnsafe, bsUnsafe, _, snUnsafe, subUnsafe, abUnsafe, colUnsafe, ddUnsafe, m0Unsafe, m1Unsafe, m2Unsafe, m3Unsafe, m5Unsafe, xLUnsafe, rfl⟩, saUnsafe, bxUnsafe, tyUnsafe, kpUnsafe⟩,
    ecUnsafe := ⟨gaUnsafe, ggUnsafe, bxUnsafe, hdUnsafe, caUnsafe, cgX, ctX, moUnsafe⟩,
    xfUnsafe := ⟨gaUnsafe, ggUnsafe, bxUnsafe, hdUnsafe⟩,
    exUnsafe := PySem.W.exm_ref bxH hdH tyH sHUnsafe,
    isUnsafe_ValueError := isUnsafe_ValueError,
    isUnsafe_HeapError := isUnsafe_HeapError,
    isUnsafe_BadChain := isUnsafe_BadChain,
    isUnsafe_BadPages := isUnsafe_BadPages,
    isUnsafe_BadLimit := isUnsafe_BadLimit,
    isUnsafe_BadRule := isUnsafe_BadRule,
    isUnsafe_BadSize := isUnsafe_BadSize,
    isUnsafe_BadState := isUnsafe_BadState,
    isUnsafe_BadPlace := isUnsafe_BadPlace,
    isUnsafe_BadAnswer := isUnsafe_BadAnswer,
    isUnsafe_BadEvent := isUnsafe_BadEvent,
    isUnsafe_OverLimit := isUnsafe_OverLimit,
    isUnsafe_NoRoom := isUnsafe_NoRoom,
    isUnsafe_NoBlock := isUnsafe_NoBlock,
    isUnsafe_TooMany := isUnsafe_TooMany,
    isUnsafe_BadText := isUnsafe_BadText,
    isUnsafe_BadLine := isUnsafe_BadLine,
    isUnsafe_Safe := isUnsafe_Safe,
    isUnsafe_Unsafe := isUnsafe_Unsafe,
    isUnsafe_Finished := isUnsafe_Finished,
    isUnsafe_NothingToUndo := isUnsafe_NothingToUndo,
    exFinished_Finished := PySem.W.exm_ref bxFinished hdFinished tyFinished ssFinished_Finished,
    oxFinished := ⟨⟨nmFinished, qFinished, NFinished, bsFinished, _, snFinished, subFinished, abFinished, colFinished, ddFinished, m0Finished, m1Finished, m2Finished, m3Finished, m5Finished, xLFinished, rfl⟩, saFinished, bxFinished, tyFinished, kpFinished⟩,
    ecFinished := ⟨gaFinished, ggFinished, bxFinished, hdFinished, caFinished, cgX, ctX, moFinished⟩,
    xfFinished := ⟨gaFinished, ggFinished, bxFinished, hdFinished⟩,
    exFinished := PySem.W.exm_ref bxH hdH tyH sHFinished,
    isFinished_ValueError := isFinished_ValueError,
    isFinished_HeapError := isFinished_HeapError,
    isFinished_BadChain := isFinished_BadChain,
    isFinished_BadPages := isFinished_BadPages,
    isFinished_BadLimit := isFinished_BadLimit,
    isFinished_BadRule := isFinished_BadRule,
    isFinished_BadSize := isFinished_BadSize,
    isFinished_BadState := isFinished_BadState,
    isFinished_BadPlace := isFinished_BadPlace,
    isFinished_BadAnswer := isFinished_BadAnswer,
    isFinished_BadEvent := isFinished_BadEvent,
    isFinished_OverLimit := isFinished_OverLimit,
    isFinished_NoRoom := isFinished_NoRoom,
    isFinished_NoBlock := isFinished_NoBlock,
    isFinished_TooMany := isFinished_TooMany,
    isFinished_BadText := isFinished_BadText,
    isFinished_BadLine := isFinished_BadLine,
    isFinished_Safe := isFinished_Safe,
    isFinished_Unsafe := isFinished_Unsafe,
    isFinished_Finished := isFinished_Finished,
    isFinished_NothingToUndo := isFinished_NothingToUndo,
    exNothingToUndo_NothingToUndo := PySem.W.exm_ref bxNothingToUndo hdNothingToUndo tyNothingToUndo ssNothingToUndo_NothingToUndo,
    oxNothingToUndo := ⟨⟨nmNothingToUndo, qNothingToUndo, NNothingToUndo, bsNothingToUndo, _, snNothingToUndo, subNothingToUndo, abNothingToUndo, colNothingToUndo, ddNothingToUndo, m0NothingToUndo, m1NothingToUndo, m2NothingToUndo, m3NothingToUndo, m5NothingToUndo, xLNothingToUndo, rfl⟩, saNothingToUndo, bxNothingToUndo, tyNothingToUndo, kpNothingToUndo⟩,
    ecNothingToUndo := ⟨gaNothingToUndo, ggNothingToUndo, bxNothingToUndo, hdNothingToUndo, caNothingToUndo, cgX, ctX, moNothingToUndo⟩,
    xfNothingToUndo := ⟨gaNothingToUndo, ggNothingToUndo, bxNothingToUndo, hdNothingToUndo⟩,
    exNothingToUndo := PySem.W.exm_ref bxH hdH tyH sHNothingToUndo,
    isNothingToUndo_ValueError := isNothingToUndo_ValueError,
    isNothingToUndo_HeapError := isNothingToUndo_HeapError,
    isNothingToUndo_BadChain := isNothingToUndo_BadChain,
    isNothingToUndo_BadPages := isNothingToUndo_BadPages,
    isNothingToUndo_BadLimit := isNothingToUndo_BadLimit,
    isNothingToUndo_BadRule := isNothingToUndo_BadRule,
    isNothingToUndo_BadSize := isNothingToUndo_BadSize,
    isNothingToUndo_BadState := isNothingToUndo_BadState,
    isNothingToUndo_BadPlace := isNothingToUndo_BadPlace,
    isNothingToUndo_BadAnswer := isNothingToUndo_BadAnswer,
    isNothingToUndo_BadEvent := isNothingToUndo_BadEvent,
    isNothingToUndo_OverLimit := isNothingToUndo_OverLimit,
    isNothingToUndo_NoRoom := isNothingToUndo_NoRoom,
    isNothingToUndo_NoBlock := isNothingToUndo_NoBlock,
    isNothingToUndo_TooMany := isNothingToUndo_TooMany,
    isNothingToUndo_BadText := isNothingToUndo_BadText,
    isNothingToUndo_BadLine := isNothingToUndo_BadLine,
    isNothingToUndo_Safe := isNothingToUndo_Safe,
    isNothingToUndo_Unsafe := isNothingToUndo_Unsafe,
    isNothingToUndo_Finished := isNothingToUndo_Finished,
    isNothingToUndo_NothingToUndo := isNothingToUndo_NothingToUndo,
    fXa := f1, fdXa := _, FXa := F1, bXa := (F1.binds (ps := ["self", "chain"]) fun _ _ _ _ _ _ us hl => match us, hl with | [_, _], _ => rfl), iXa := a1, tXa := i1,
    fXb := f2, fdXb := _, FXb := F2, bXb := (F2.binds (ps := ["self", "pages"]) fun _ _ _ _ _ _ us hl => match us, hl with | [_, _], _ => rfl), iXb := a2, tXb := i2,
    fXc := f3, fdXc := _, FXc := F3, bXc := (F3.binds (ps := ["self", "limit"]) fun _ _ _ _ _ _ us hl => match us, hl with | [_, _], _ => rfl), iXc := a3, tXc := i3,
    fXd := f4, fdXd := _, FXd := F4, bXd := (F4.binds (ps := ["self", "rule"]) fun _ _ _ _ _ _ us hl => match us, hl with | [_, _], _ => rfl), iXd := a4, tXd := i4,
    fXe := f5, fdXe := _, FXe := F5, bXe := (F5.binds (ps := ["self", "size"]) fun _ _ _ _ _ _ us hl => match us, hl with | [_, _], _ => rfl), iXe := a5, tXe := i5,
    fXf := f6, fdXf := _, FXf := F6, bXf := (F6.binds (ps := ["self", "value"]) fun _ _ _ _ _ _ us hl => match us, hl with | [_, _], _ => rfl), iXf := a6, tXf := i6,
    fXg := f7, fdXg := _, FXg := F7, bXg := (F7.binds (ps := ["self", "address"]) fun _ _ _ _ _ _ us hl => match us, hl with | [_, _], _ => rfl), iXg := a7, tXg := i7,
    fXh := f8, fdXh := _, FXh := F8, bXh := (F8.binds (ps := ["self", "value"]) fun _ _ _ _ _ _ us hl => match us, hl with | [_, _], _ => rfl), iXh := a8, tXh := i8,
    fXi := f9, fdXi := _, FXi := F9, bXi := (F9.binds (ps := ["self", "number"]) fun _ _ _ _ _ _ us hl => match us, hl with | [_, _], _ => rfl), iXi := a9, tXi := i9,
    fXj := f10, fdXj := _, FXj := F10, bXj := (F10.binds (ps := ["self", "size"]) fun _ _ _ _ _ _ us hl => match us, hl with | [_, _], _ => rfl), iXj := a10, tXj := i10,
    fXk := f11, fdXk := _, FXk := F11, bXk := (F11.binds (ps := ["self", "size"]) fun _ _ _ _ _ _ us hl => match us, hl with | [_, _], _ => rfl), iXk := a11, tXk := i11,
    fXl := f12, fdXl := _, FXl := F12, bXl := (F12.binds (ps := ["self", "address"]) fun _ _ _ _ _ _ us hl => match us, hl with | [_, _], _ => rfl), iXl := a12, tXl := i12,
    fXm := f13, fdXm := _, FXm := F13, bXm := (F13.binds (ps := ["self", "limit"]) fun _ _ _ _ _ _ us hl => match us, hl with | [_, _], _ => rfl), iXm := a13, tXm := i13,
    fXn := f14, fdXn := _, FXn := F14, bXn := (F14.binds (ps := ["self", "row"]) fun _ _ _ _ _ _ us hl => match us, hl with | [_, _], _ => rfl), iXn := a14, tXn := i14,
    fXo := f15, fdXo := _, FXo := F15, bXo := (F15.binds (ps := ["self", "line"]) fun _ _ _ _ _ _ us hl => match us, hl with | [_, _], _ => rfl), iXo := a15, tXo := i15,
    fXp := f16, fdXp := _, FXp := F16, bXp := (F16.binds (ps := ["self"]) fun _ _ _ _ _ _ us hl => match us, hl with | [_], _ => rfl), iXp := a16, tXp := i16,
    fXq := f17, fdXq := _, FXq := F17, bXq := (F17.binds (ps := ["self"]) fun _ _ _ _ _ _ us hl => match us, hl with | [_], _ => rfl), iXq := a17, tXq := i17,
    fXr := f18, fdXr := _, FXr := F18, bXr := (F18.binds (ps := ["self"]) fun _ _ _ _ _ _ us hl => match us, hl with | [_], _ => rfl), iXr := a18, tXr := i18,
    fXs := f19, fdXs := _, FXs := F19, bXs := (F19.binds (ps := ["self"]) fun _ _ _ _ _ _ us hl => match us, hl with | [_], _ => rfl), iXs := a19, tXs := i19,
    fI := f20, fdI := _, FI := F20, bI := (F20.binds (ps := ["value"]) fun _ _ _ _ _ _ us hl => match us, hl with | [_], _ => rfl), gI := PySem.W.mg_of X G a20,
    fRo := f21, fdRo := _, FRo := F21, bRo := (F21.binds (ps := ["chain", "words"]) fun _ _ _ _ _ _ us hl => match us, hl with | [_, _], _ => rfl), gRo := PySem.W.mg_of X G a21,
    fP := f22, fdP := _, FP := F22, bP := (F22.binds (ps := ["_law_script", "_law_k"]) fun _ _ _ _ _ _ us hl => match us, hl with | [_, _], _ => rfl), gP := PySem.W.mg_of X G a22,
    fT := f23, fdT := _, FT := F23, bT := (F23.binds (ps := ["_law_pot_here", "_law_upto"]) fun _ _ _ _ _ _ us hl => match us, hl with | [_, _], _ => rfl), gT := PySem.W.mg_of X G a23,
    fO := f24, fdO := _, FO := F24, bO := (F24.binds (ps := ["_law_pot_here", "_law_some"]) fun _ _ _ _ _ _ us hl => match us, hl with | [_, _], _ => rfl), gO := PySem.W.mg_of X G a24,
    fOd := f25, fdOd := _, FOd := F25, bOd := (F25.binds (ps := ["_law_pot_here"]) fun _ _ _ _ _ _ us hl => match us, hl with | [_], _ => rfl), gOd := PySem.W.mg_of X G a25,
    fBy := f26, fdBy := _, FBy := F26, bBy := (F26.binds (ps := ["_law_odd_here"]) fun _ _ _ _ _ _ us hl => match us, hl with | [_], _ => rfl), gBy := PySem.W.mg_of X G a26,
    fBn := f27, fdBn := _, FBn := F27, bBn := (F27.binds (ps := ["_law_odd_here"]) fun _ _ _ _ _ _ us hl => match us, hl with | [_], _ => rfl), gBn := PySem.W.mg_of X G a27,
    fKn := f28, fdKn := _, FKn := F28, bKn := (F28.binds (ps := ["_law_e"]) fun _ _ _ _ _ _ us hl => match us, hl with | [_], _ => rfl), gKn := PySem.W.mg_of X G a28,
    fHe := f29, fdHe := _, FHe := F29, bHe := (F29.binds (ps := ["_law_some"]) fun _ _ _ _ _ _ us hl => match us, hl with | [_], _ => rfl), gHe := PySem.W.mg_of X G a29,
    fRr := f30, fdRr := _, FRr := F30, bRr := (F30.binds (ps := ["_law_words"]) fun _ _ _ _ _ _ us hl => match us, hl with | [_], _ => rfl), gRr := PySem.W.mg_of X G a30,
    fLaw := fa, fdLaw := _, FLaw := F31, bLaw := (F31.binds (ps := ["_law_script"]) fun _ _ _ _ _ _ us hl => match us, hl with | [_], _ => rfl), gLaw := PySem.W.mg_of X G a31 }
  exact ⟨PySem.W.fnOf "law" "law" (defArgs (topS 35)) (defBody (topS 35)) (defScope (topS 35)) .none kV31 dc31 pm31 an31 cd31 ct31, fun s v => .of_eq rfl, fun base _ _ => ok_Law (k := 0) Z⟩
end Ph
open PySem PySem.W PyProof.Rows
set_option maxHeartbeats 0 in
theorem PySem.Challenge.cw_pinnedheap_k01_each_error_alone_holds : PySem.Challenge.rw_pinnedheap_k01_each_error_alone.Holds := by
  w_on; o_law; k_head; (case hw => w_witness2)
  k_fill
  refine Ph.walkG (l := PySem.Challenge.rw_pinnedheap_k01_each_error_alone) (n := 63) (k := (0 + 1 + 1 + 1 + 1 + 1)) (x := "_law_script") (sp := fun w => Ph.spLaw _) rfl (by decide) rfl ⟨rfl, by decide, by decide⟩ (fun w h Y => by first | exact PySem.W.kIn_of Y | exact PySem.W.km_in_of Y) ?F (fun _ _ a ns hl hS => ⟨a, ns, rfl, hS, hl, fun _ => rfl⟩)
  case F =>
    intro w mg fa h KX G hmg
    refine' Ph.all_mk KX G hmg ?aCHeapError ?aCBadChain ?aCBadPages ?aCBadLimit ?aCBadRule ?aCBadSize ?aCBadState ?aCBadPlace ?aCBadAnswer ?aCBadEvent ?aCOverLimit ?aCNoRoom ?aCNoBlock ?aCTooMany ?aCBadText ?aCBadLine ?aCSafe ?aCUnsafe ?aCFinished ?aCNothingToUndo ?bxH ?hdH ?tyH ?zve ?cgX ?ctX ?xLBadChain ?saBadChain ?bxBadChain ?tyBadChain ?kpBadChain ?gaBadChain ?ggBadChain ?hdBadChain ?caBadChain ?moBadChain ?sHBadChain ?isBadChain_ValueError ?nfBadChain_chain ?isBadChain_HeapError ?isBadChain_BadChain ?isBadChain_BadPages ?isBadChain_BadLimit ?isBadChain_BadRule ?isBadChain_BadSize ?isBadChain_BadState ?isBadChain_BadPlace ?isBadChain_BadAnswer ?isBadChain_BadEvent ?isBadChain_OverLimit ?isBadChain_NoRoom ?isBadChain_NoBlock ?isBadChain_TooMany ?isBadChain_BadText ?isBadChain_BadLine ?isBadChain_Safe ?isBadChain_Unsafe ?isBadChain_Finished ?isBadChain_NothingToUndo ?ssBadChain_BadChain ?xLBadPages ?saBadPages ?bxBadPages ?tyBadPages ?kpBadPages ?gaBadPages ?ggBadPages ?hdBadPages ?caBadPages ?moBadPages ?sHBadPages ?isBadPages_ValueError ?nfBadPages_pages ?isBadPages_HeapError ?isBadPages_BadChain ?isBadPages_BadPages ?isBadPages_BadLimit ?isBadPages_BadRule ?isBadPages_BadSize ?isBadPages_BadState ?isBadPages_BadPlace ?isBadPages_BadAnswer ?isBadPages_BadEvent ?isBadPages_OverLimit ?isBadPages_NoRoom ?isBadPages_NoBlock ?isBadPages_TooMany ?isBadPages_BadText ?isBadPages_BadLine ?isBadPages_Safe ?isBadPages_Unsafe ?isBadPages_Finished ?isBadPages_NothingToUndo ?ssBadPages_BadPages ?xLBadLimit ?saBadLimit ?bxBadLimit ?tyBadLimit ?kpBadLimit ?gaBadLimit ?ggBadLimit ?hdBadLimit ?caBadLimit ?moBadLimit ?sHBadLimit ?isBadLimit_ValueError ?nfBadLimit_limit ?isBadLimit_HeapError ?isBadLimit_BadChain ?isBadLimit_BadPages ?isBadLimit_BadLimit ?isBadLimit_BadRule ?isBadLimit_BadSize ?isBadLimit_BadState ?isBadLimit_BadPlace ?isBadLimit_BadAnswer ?isBadLimit_BadEvent ?isBadLimit_OverLimit ?isBadLimit_NoRoom ?isBadLimit_NoBlock ?isBadLimit_TooMany ?isBadLimit_BadText ?isBadLimit_BadLine ?isBadLimit_Safe ?isBadLimit_Unsafe ?isBadLimit_Finished ?isBadLimit_NothingToUndo ?ssBadLimit_BadLimit ?xLBadRule ?saBadRule ?bxBadRule ?tyBadRule ?kpBadRule ?gaBadRule ?ggBadRule ?hdBadRule ?caBadRule ?moBadRule ?sHBadRule ?isBadRule_ValueError ?nfBadRule_rule ?isBadRule_HeapError ?isBadRule_BadChain ?isBadRule_BadPages ?isBadRule_BadLimit ?isBadRule_BadRule ?isBadRule_BadSize ?isBadRule_BadState ?isBadRule_BadPlace ?isBadRule_BadAnswer ?isBadRule_BadEvent ?isBadRule_OverLimit ?isBadRule_NoRoom ?isBadRule_NoBlock ?isBadRule_TooMany ?isBadRule_BadText ?isBadRule_BadLine ?isBadRule_Safe ?isBadRule_Unsafe ?isBadRule_Finished ?isBadRule_NothingToUndo ?ssBadRule_BadRule ?xLBadSize ?saBadSize ?bxBadSize ?tyBadSize ?kpBadSize ?gaBadSize ?ggBadSize ?hdBadSize ?caBadSize ?moBadSize ?sHBadSize ?isBadSize_ValueError ?nfBadSize_size ?isBadSize_HeapError ?isBadSize_BadChain ?isBadSize_BadPages ?isBadSize_BadLimit ?isBadSize_BadRule ?isBadSize_BadSize ?isBadSize_BadState ?isBadSize_BadPlace ?isBadSize_BadAnswer ?isBadSize_BadEvent ?isBadSize_OverLimit ?isBadSize_NoRoom ?isBadSize_NoBlock ?isBadSize_TooMany ?isBadSize_BadText ?isBadSize_BadLine ?isBadSize_Safe ?isBadSize_Unsafe ?isBadSize_Finished ?isBadSize_NothingToUndo ?ssBadSize_BadSize ?xLBadState ?saBadState ?bxBadState ?tyBadState ?kpBadState ?gaBadState ?ggBadState ?hdBadState ?caBadState ?moBadState ?sHBadState ?isBadState_ValueError ?nfBadState_value ?isBadState_HeapError ?isBadState_BadChain ?isBadState_BadPages ?isBadState_BadLimit ?isBadState_BadRule ?isBadState_BadSize ?isBadState_BadState ?isBadState_BadPlace ?isBadState_BadAnswer ?isBadState_BadEvent ?isBadState_OverLimit ?isBadState_NoRoom ?isBadState_NoBlock ?isBadState_TooMany ?isBadState_BadText ?isBadState_BadLine ?isBadState_Safe ?isBadState_Unsafe ?isBadState_Finished ?isBadState_NothingToUndo ?ssBadState_BadState ?xLBadPlace ?saBadPlace ?bxBadPlace ?tyBadPlace ?kpBadPlace ?gaBadPlace ?ggBadPlace ?hdBadPlace ?caBadPlace ?moBadPlace ?sHBadPlace ?isBadPlace_ValueError ?nfBadPlace_address ?isBadPlace_HeapError ?isBadPlace_BadChain ?isBadPlace_BadPages ?isBadPlace_BadLimit ?isBadPlace_BadRule ?isBadPlace_BadSize ?isBadPlace_BadState ?isBadPlace_BadPlace ?isBadPlace_BadAnswer ?isBadPlace_BadEvent ?isBadPlace_OverLimit ?isBadPlace_NoRoom ?isBadPlace_NoBlock ?isBadPlace_TooMany ?isBadPlace_BadText ?isBadPlace_BadLine ?isBadPlace_Safe ?isBadPlace_Unsafe ?isBadPlace_Finished ?isBadPlace_NothingToUndo ?ssBadPlace_BadPlace ?xLBadAnswer ?saBadAnswer ?bxBadAnswer ?tyBadAnswer ?kpBadAnswer ?gaBadAnswer ?ggBadAnswer ?hdBadAnswer ?caBadAnswer ?moBadAnswer ?sHBadAnswer ?isBadAnswer_ValueError ?nfBadAnswer_value ?isBadAnswer_HeapError ?isBadAnswer_BadChain ?isBadAnswer_BadPages ?isBadAnswer_BadLimit ?isBadAnswer_BadRule ?isBadAnswer_BadSize ?isBadAnswer_BadState ?isBadAnswer_BadPlace ?isBadAnswer_BadAnswer ?isBadAnswer_BadEvent ?isBadAnswer_OverLimit ?isBadAnswer_NoRoom ?isBadAnswer_NoBlock ?isBadAnswer_TooMany ?isBadAnswer_BadText ?isBadAnswer_BadLine ?isBadAnswer_Safe ?isBadAnswer_Unsafe ?isBadAnswer_Finished ?isBadAnswer_NothingToUndo ?ssBadAnswer_BadAnswer ?xLBadEvent ?saBadEvent ?bxBadEvent ?tyBadEvent ?kpBadEvent ?gaBadEvent ?ggBadEvent ?hdBadEvent ?caBadEvent ?moBadEvent ?sHBadEvent ?isBadEvent_ValueError ?nfBadEvent_number ?isBadEvent_HeapError ?isBadEvent_BadChain ?isBadEvent_BadPages ?isBadEvent_BadLimit ?isBadEvent_BadRule ?isBadEvent_BadSize ?isBadEvent_BadState ?isBadEvent_BadPlace ?isBadEvent_BadAnswer ?isBadEvent_BadEvent ?isBadEvent_OverLimit ?isBadEvent_NoRoom ?isBadEvent_NoBlock ?isBadEvent_TooMany ?isBadEvent_BadText ?isBadEvent_BadLine ?isBadEvent_Safe ?isBadEvent_Unsafe ?isBadEvent_Finished ?isBadEvent_NothingToUndo ?ssBadEvent_BadEvent ?xLOverLimit ?saOverLimit ?bxOverLimit ?tyOverLimit ?kpOverLimit ?gaOverLimit ?ggOverLimit ?hdOverLimit ?caOverLimit ?moOverLimit ?sHOverLimit ?isOverLimit_ValueError ?nfOverLimit_size ?isOverLimit_HeapError ?isOverLimit_BadChain ?isOverLimit_BadPages ?isOverLimit_BadLimit ?isOverLimit_BadRule ?isOverLimit_BadSize ?isOverLimit_BadState ?isOverLimit_BadPlace ?isOverLimit_BadAnswer ?isOverLimit_BadEvent ?isOverLimit_OverLimit ?isOverLimit_NoRoom ?isOverLimit_NoBlock ?isOverLimit_TooMany ?isOverLimit_BadText ?isOverLimit_BadLine ?isOverLimit_Safe ?isOverLimit_Unsafe ?isOverLimit_Finished ?isOverLimit_NothingToUndo ?ssOverLimit_OverLimit ?xLNoRoom ?saNoRoom ?bxNoRoom ?tyNoRoom ?kpNoRoom ?gaNoRoom ?ggNoRoom ?hdNoRoom ?caNoRoom ?moNoRoom ?sHNoRoom ?isNoRoom_ValueError ?nfNoRoom_size ?isNoRoom_HeapError ?isNoRoom_BadChain ?isNoRoom_BadPages ?isNoRoom_BadLimit ?isNoRoom_BadRule ?isNoRoom_BadSize ?isNoRoom_BadState ?isNoRoom_BadPlace ?isNoRoom_BadAnswer ?isNoRoom_BadEvent ?isNoRoom_OverLimit ?isNoRoom_NoRoom ?isNoRoom_NoBlock ?isNoRoom_TooMany ?isNoRoom_BadText ?isNoRoom_BadLine ?isNoRoom_Safe ?isNoRoom_Unsafe ?isNoRoom_Finished ?isNoRoom_NothingToUndo ?ssNoRoom_NoRoom ?xLNoBlock ?saNoBlock ?bxNoBlock ?tyNoBlock ?kpNoBlock ?gaNoBlock ?ggNoBlock ?hdNoBlock ?caNoBlock ?moNoBlock ?sHNoBlock ?isNoBlock_ValueError ?nfNoBlock_address ?isNoBlock_HeapError ?isNoBlock_BadChain ?isNoBlock_BadPages ?isNoBlock_BadLimit ?isNoBlock_BadRule ?isNoBlock_BadSize ?isNoBlock_BadState ?isNoBlock_BadPlace ?isNoBlock_BadAnswer ?isNoBlock_BadEvent ?isNoBlock_OverLimit ?isNoBlock_NoRoom ?isNoBlock_NoBlock ?isNoBlock_TooMany ?isNoBlock_BadText ?isNoBlock_BadLine ?isNoBlock_Safe ?isNoBlock_Unsafe ?isNoBlock_Finished ?isNoBlock_NothingToUndo ?ssNoBlock_NoBlock ?xLTooMany ?saTooMany ?bxTooMany ?tyTooMany ?kpTooMany ?gaTooMany ?ggTooMany ?hdTooMany ?caTooMany ?moTooMany ?sHTooMany ?isTooMany_ValueError ?nfTooMany_limit ?isTooMany_HeapError ?isTooMany_BadChain ?isTooMany_BadPages ?isTooMany_BadLimit ?isTooMany_BadRule ?isTooMany_BadSize ?isTooMany_BadState ?isTooMany_BadPlace ?isTooMany_BadAnswer ?isTooMany_BadEvent ?isTooMany_OverLimit ?isTooMany_NoRoom ?isTooMany_NoBlock ?isTooMany_TooMany ?isTooMany_BadText ?isTooMany_BadLine ?isTooMany_Safe ?isTooMany_Unsafe ?isTooMany_Finished ?isTooMany_NothingToUndo ?ssTooMany_TooMany ?xLBadText ?saBadText ?bxBadText ?tyBadText ?kpBadText ?gaBadText ?ggBadText ?hdBadText ?caBadText ?moBadText ?sHBadText ?isBadText_ValueError ?nfBadText_row ?isBadText_HeapError ?isBadText_BadChain ?isBadText_BadPages ?isBadText_BadLimit ?isBadText_BadRule ?isBadText_BadSize ?isBadText_BadState ?isBadText_BadPlace ?isBadText_BadAnswer ?isBadText_BadEvent ?isBadText_OverLimit ?isBadText_NoRoom ?isBadText_NoBlock ?isBadText_TooMany ?isBadText_BadText ?isBadText_BadLine ?isBadText_Safe ?isBadText_Unsafe ?isBadText_Finished ?isBadText_NothingToUndo ?ssBadText_BadText ?xLBadLine ?saBadLine ?bxBadLine ?tyBadLine ?kpBadLine ?gaBadLine ?ggBadLine ?hdBadLine ?caBadLine ?moBadLine ?sHBadLine ?isBadLine_ValueError ?nfBadLine_line ?isBadLine_HeapError ?isBadLine_BadChain ?isBadLine_BadPages ?isBadLine_BadLimit ?isBadLine_BadRule ?isBadLine_BadSize ?isBadLine_BadState ?isBadLine_BadPlace ?isBadLine_BadAnswer ?isBadLine_BadEvent ?isBadLine_OverLimit ?isBadLine_NoRoom ?isBadLine_NoBlock ?isBadLine_TooMany ?isBadLine_BadText ?isBadLine_BadLine ?isBadLine_Safe ?isBadLine_Unsafe ?isBadLine_Finished ?isBadLine_NothingToUndo ?ssBadLine_BadLine ?xLSafe ?saSafe ?bxSafe ?tySafe ?kpSafe ?gaSafe ?ggSafe ?hdSafe ?caSafe ?moSafe ?sHSafe ?isSafe_ValueError ?isSafe_HeapError ?isSafe_BadChain ?isSafe_BadPages ?isSafe_BadLimit ?isSafe_BadRule ?isSafe_BadSize ?isSafe_BadState ?isSafe_BadPlace ?isSafe_BadAnswer ?isSafe_BadEvent ?isSafe_OverLimit ?isSafe_NoRoom ?isSafe_NoBlock ?isSafe_TooMany ?isSafe_BadText ?isSafe_BadLine ?isSafe_Safe ?isSafe_Unsafe ?isSafe_Finished ?isSafe_NothingToUndo ?ssSafe_Safe ?xLUnsafe ?saUnsafe ?bxUnsafe ?tyUnsafe ?kpUnsafe ?gaUnsafe ?ggUnsafe ?hdUnsafe ?caUnsafe ?moUnsafe ?sHUnsafe ?isUnsafe_ValueError ?isUnsafe_HeapError ?isUnsafe_BadChain ?isUnsafe_BadPages ?isUnsafe_BadLimit ?isUnsafe_BadRule ?isUnsafe_BadSize ?isUnsafe_BadState ?isUnsafe_BadPlace ?isUnsafe_BadAnswer ?isUnsafe_BadEvent ?isUnsafe_OverLimit ?isUnsafe_NoRoom ?isUnsafe_NoBlock ?isUnsafe_TooMany ?isUnsafe_BadText ?isUnsafe_BadLine ?isUnsafe_Safe ?isUnsafe_Unsafe ?isUnsafe_Finished ?isUnsafe_NothingToUndo ?ssUnsafe_Unsafe ?xLFinished ?saFinished ?bxFinished ?tyFinished ?kpFinished ?gaFinished ?ggFinished ?hdFinished ?caFinished ?moFinished ?sHFinished ?isFinished_ValueError ?isFinished_HeapError ?isFinished_BadChain ?isFinished_BadPages ?isFinished_BadLimit ?isFinished_BadRule ?isFinished_BadSize ?isFinished_BadState ?isFinished_BadPlace ?isFinished_BadAnswer ?isFinished_BadEvent ?isFinished_OverLimit ?isFinished_NoRoom ?isFinished_NoBlock ?isFinished_TooMany ?isFinished_BadText ?isFinished_BadLine ?isFinished_Safe ?isFinished_Unsafe ?isFinished_Finished ?isFinished_NothingToUndo ?ssFinished_Finished ?xLNothingToUndo ?saNothingToUndo ?bxNothingToUndo ?tyNothingToUndo ?kpNothingToUndo ?gaNothingToUndo ?ggNothingToUndo ?hdNothingToUndo ?caNothingToUndo ?moNothingToUndo ?sHNothingToUndo ?isNothingToUndo_ValueError ?isNothingToUndo_HeapError ?isNothingToUndo_BadChain ?isNothingToUndo_BadPages ?isNothingToUndo_BadLimit ?isNothingToUndo_BadRule ?isNothingToUndo_BadSize ?isNothingToUndo_BadState ?isNothingToUndo_BadPlace ?isNothingToUndo_BadAnswer ?isNothingToUndo_BadEvent ?isNothingToUndo_OverLimit ?isNothingToUndo_NoRoom ?isNothingToUndo_NoBlock ?isNothingToUndo_TooMany ?isNothingToUndo_BadText ?isNothingToUndo_BadLine ?isNothingToUndo_Safe ?isNothingToUndo_Unsafe ?isNothingToUndo_Finished ?isNothingToUndo_NothingToUndo ?ssNothingToUndo_NothingToUndo ?a1 ?i1 ?l1 ?c1 ?k1 ?a2 ?i2 ?l2 ?c2 ?k2 ?a3 ?i3 ?l3 ?c3 ?k3 ?a4 ?i4 ?l4 ?c4 ?k4 ?a5 ?i5 ?l5 ?c5 ?k5 ?a6 ?i6 ?l6 ?c6 ?k6 ?a7 ?i7 ?l7 ?c7 ?k7 ?a8 ?i8 ?l8 ?c8 ?k8 ?a9 ?i9 ?l9 ?c9 ?k9 ?a10 ?i10 ?l10 ?c10 ?k10 ?a11 ?i11 ?l11 ?c11 ?k11 ?a12 ?i12 ?l12 ?c12 ?k12 ?a13 ?i13 ?l13 ?c13 ?k13 ?a14 ?i14 ?l14 ?c14 ?k14 ?a15 ?i15 ?l15 ?c15 ?k15 ?a16 ?i16 ?l16 ?c16 ?k16 ?a17 ?i17 ?l17 ?c17 ?k17 ?a18 ?i18 ?l18 ?c18 ?k18 ?a19 ?i19 ?l19 ?c19 ?k19 ?a20 ?l20 ?c20 ?k20 ?a21 ?l21 ?c21 ?k21 ?a22 ?l22 ?c22 ?k22 ?a23 ?l23 ?c23 ?k23 ?a24 ?l24 ?c24 ?k24 ?a25 ?l25 ?c25 ?k25 ?a26 ?l26 ?c26 ?k26 ?a27 ?l27 ?c27 ?k27 ?a28 ?l28 ?c28 ?k28 ?a29 ?l29 ?c29 ?k29 ?a30 ?l30 ?c30 ?k30 ?a31 ?l31 ?c31 ?k31 ?z1 ?z2 ?z3 ?z4 ?z5 ?z6 ?z7 ?z8 ?z9 ?z10 ?z11 ?z12 ?z13 ?z14 ?z15 ?z16 ?z17 ?z18 ?z19 ?z20 ?z21 ?zd
    (case aCHeapError => first | k_is | kit_is | rfl | decide +kernel); (case aCBadChain => first | k_is | kit_is | rfl | decide +kernel); (case aCBadPages => first | k_is | kit_is | rfl | decide +kernel); (case aCBadLimit => first | k_is | kit_is | rfl | decide +kernel); (case aCBadRule => first | k_is | kit_is | rfl | decide +kernel); (case aCBadSize => first | k_is | kit_is | rfl | decide +kernel); (case aCBadState => first | k_is | kit_is | rfl | decide +kernel); (case aCBadPlace => first | k_is | kit_is | rfl | decide +kernel); (case aCBadAnswer => first | k_is | kit_is | rfl | decide +kernel); (case aCBadEvent => first | k_is | kit_is | rfl | decide +kernel); (case aCOverLimit => first | k_is | kit_is | rfl | decide +kernel); (case aCNoRoom => first | k_is | kit_is | rfl | decide +kernel); (case aCNoBlock => first | k_is | kit_is | rfl | decide +kernel); (case aCTooMany => first | k_is | kit_is | rfl | decide +kernel); (case aCBadText => first | k_is | kit_is | rfl | decide +kernel); (case aCBadLine => first | k_is | kit_is | rfl | decide +kernel); (case aCSafe => first | k_is | kit_is | rfl | decide +kernel); (case aCUnsafe => first | k_is | kit_is | rfl | decide +kernel); (case aCFinished => first | k_is | kit_is | rfl | decide +kernel); (case aCNothingToUndo => first | k_is | kit_is | rfl | decide +kernel); (case bxH => first | k_is | kit_is | rfl | decide +kernel); (case hdH => first | k_is | kit_is | rfl | decide +kernel); (case tyH => first | k_is | kit_is | rfl | decide +kernel); (case zve => first | k_is | kit_is | rfl | decide +kernel); (case cgX => first | k_is | kit_is | rfl | decide +kernel); (case ctX => first | k_is | kit_is | rfl | decide +kernel); (case xLBadChain => first | k_is | kit_is | rfl | decide +kernel); (case saBadChain => first | k_is | kit_is | rfl | decide +kernel); (case bxBadChain => first | k_is | kit_is | rfl | decide +kernel); (case tyBadChain => first | k_is | kit_is | rfl | decide +kernel); (case kpBadChain => first | k_is | kit_is | rfl | decide +kernel); (case gaBadChain => first | k_is | kit_is | rfl | decide +kernel); (case ggBadChain => first | k_is | kit_is | rfl | decide +kernel); (case hdBadChain => first | k_is | kit_is | rfl | decide +kernel); (case caBadChain => first | k_is | kit_is | rfl | decide +kernel); (case moBadChain => first | k_is | kit_is | rfl | decide +kernel); (case sHBadChain => first | k_is | kit_is | rfl | decide +kernel); (case isBadChain_ValueError => first | k_is | kit_is | rfl | decide +kernel); (case nfBadChain_chain => first | k_is | kit_is | rfl | decide +kernel); (case isBadChain_HeapError => first | k_is | kit_is | rfl | decide +kernel); (case isBadChain_BadChain => first | k_is | kit_is | rfl | decide +kernel); (case isBadChain_BadPages => first | k_is | kit_is | rfl | decide +kernel); (case isBadChain_BadLimit => first | k_is | kit_is | rfl | decide +kernel); (case isBadChain_BadRule => first | k_is | kit_is | rfl | decide +kernel); (case isBadChain_BadSize => first | k_is | kit_is | rfl | decide +kernel); (case isBadChain_BadState => first | k_is | kit_is | rfl | decide +kernel); (case isBadChain_BadPlace => first | k_is | kit_is | rfl | decide +kernel); (case isBadChain_BadAnswer => first | k_is | kit_is | rfl | decide +kernel); (case isBadChain_BadEvent => first | k_is | kit_is | rfl | decide +kernel); (case isBadChain_OverLimit => first | k_is | kit_is | rfl | decide +kernel); (case isBadChain_NoRoom => first | k_is | kit_is | rfl | decide +kernel); (case isBadChain_NoBlock => first | k_is | kit_is | rfl | decide +kernel); (case isBadChain_TooMany => first | k_is | kit_is | rfl | decide +kernel); (case isBadChain_BadText => first | k_is | kit_is | rfl | decide +kernel); (case isBadChain_BadLine => first | k_is | kit_is | rfl | decide +kernel); (case isBadChain_Safe => first | k_is | kit_is | rfl | decide +kernel); (case isBadChain_Unsafe => first | k_is | kit_is | rfl | decide +kernel); (case isBadChain_Finished => first | k_is | kit_is | rfl | decide +kernel); (case isBadChain_NothingToUndo => first | k_is | kit_is | rfl | decide +kernel); (case ssBadChain_BadChain => first | k_is | kit_is | rfl | decide +kernel); (case xLBadPages => first | k_is | kit_is | rfl | decide +kernel); (case saBadPages => first | k_is | kit_is | rfl | decide +kernel); (case bxBadPages => first | k_is | kit_is | rfl | decide +kernel); (case tyBadPages => first | k_is | kit_is | rfl | decide +kernel); (case kpBadPages => first | k_is | kit_is | rfl | decide +kernel); (case gaBadPages => first | k_is | kit_is | rfl | decide +kernel); (case ggBadPages => first | k_is | kit_is | rfl | decide +kernel); (case hdBadPages => first | k_is | kit_is | rfl | decide +kernel); (case caBadPages => first | k_is | kit_is | rfl | decide +kernel); (case moBadPages => first | k_is | kit_is | rfl | decide +kernel); (case sHBadPages => first | k_is | kit_is | rfl | decide +kernel); (case isBadPages_ValueError => first | k_is | kit_is | rfl | decide +kernel); (case nfBadPages_pages => first | k_is | kit_is | rfl | decide +kernel); (case isBadPages_HeapError => first | k_is | kit_is | rfl | decide +kernel); (case isBadPages_BadChain => first | k_is | kit_is | rfl | decide +kernel); (case isBadPages_BadPages => first | k_is | kit_is | rfl | decide +kernel); (case isBadPages_BadLimit => first | k_is | kit_is | rfl | decide +kernel); (case isBadPages_BadRule => first | k_is | kit_is | rfl | decide +kernel); (case isBadPages_BadSize => first | k_is | kit_is | rfl | decide +kernel); (case isBadPages_BadState => first | k_is | kit_is | rfl | decide +kernel); (case isBadPages_BadPlace => first | k_is | kit_is | rfl | decide +kernel); (case isBadPages_BadAnswer => first | k_is | kit_is | rfl | decide +kernel); (case isBadPages_BadEvent => first | k_is | kit_is | rfl | decide +kernel); (case isBadPages_OverLimit => first | k_is | kit_is | rfl | decide +kernel); (case isBadPages_NoRoom => first | k_is | kit_is | rfl | decide +kernel); (case isBadPages_NoBlock => first | k_is | kit_is | rfl | decide +kernel); (case isBadPages_TooMany => first | k_is | kit_is | rfl | decide +kernel); (case isBadPages_BadText => first | k_is | kit_is | rfl | decide +kernel); (case isBadPages_BadLine => first | k_is | kit_is | rfl | decide +kernel); (case isBadPages_Safe => first | k_is | kit_is | rfl | decide +kernel); (case isBadPages_Unsafe => first | k_is | kit_is | rfl | decide +kernel); (case isBadPages_Finished => first | k_is | kit_is | rfl | decide +kernel); (case isBadPages_NothingToUndo => first | k_is | kit_is | rfl | decide +kernel); (case ssBadPages_BadPages => first | k_is | kit_is | rfl | decide +kernel); (case xLBadLimit => first | k_is | kit_is | rfl | decide +kernel); (case saBadLimit => first | k_is | kit_is | rfl | decide +kernel); (case bxBadLimit => first | k_is | kit_is | rfl | decide +kernel); (case tyBadLimit => first | k_is | kit_is | rfl | decide +kernel); (case kpBadLimit => first | k_is | kit_is | rfl | decide +kernel); (case gaBadLimit => first | k_is | kit_is | rfl | decide +kernel); (case ggBadLimit => first | k_is | kit_is | rfl | decide +kernel); (case hdBadLimit => first | k_is | kit_is | rfl | decide +kernel); (case caBadLimit => first | k_is | kit_is | rfl | decide +kernel); (case moBadLimit => first | k_is | kit_is | rfl | decide +kernel); (case sHBadLimit => first | k_is | kit_is | rfl | decide +kernel); (case isBadLimit_ValueError => first | k_is | kit_is | rfl | decide +kernel); (case nfBadLimit_limit => first | k_is | kit_is | rfl | decide +kernel); (case isBadLimit_HeapError => first | k_is | kit_is | rfl | decide +kernel); (case isBadLimit_BadChain => first | k_is | kit_is | rfl | decide +kernel); (case isBadLimit_BadPages => first | k_is | kit_is | rfl | decide +kernel); (case isBadLimit_BadLimit => first | k_is | kit_is | rfl | decide +kernel); (case isBadLimit_BadRule => first | k_is | kit_is | rfl | decide +kernel); (case isBadLimit_BadSize => first | k_is | kit_is | rfl | decide +kernel); (case isBadLimit_BadState => first | k_is | kit_is | rfl | decide +kernel); (case isBadLimit_BadPlace => first | k_is | kit_is | rfl | decide +kernel); (case isBadLimit_BadAnswer => first | k_is | kit_is | rfl | decide +kernel); (case isBadLimit_BadEvent => first | k_is | kit_is | rfl | decide +kernel); (case isBadLimit_OverLimit => first | k_is | kit_is | rfl | decide +kernel); (case isBadLimit_NoRoom => first | k_is | kit_is | rfl | decide +kernel); (case isBadLimit_NoBlock => first | k_is | kit_is | rfl | decide +kernel); (case isBadLimit_TooMany => first | k_is | kit_is | rfl | decide +kernel); (case isBadLimit_BadText => first | k_is | kit_is | rfl | decide +kernel); (case isBadLimit_BadLine => first | k_is | kit_is | rfl | decide +kernel); (case isBadLimit_Safe => first | k_is | kit_is | rfl | decide +kernel); (case isBadLimit_Unsafe => first | k_is | kit_is | rfl | decide +kernel); (case isBadLimit_Finished => first | k_is | kit_is | rfl | decide +kernel); (case isBadLimit_NothingToUndo => first | k_is | kit_is | rfl | decide +kernel); (case ssBadLimit_BadLimit => first | k_is | kit_is | rfl | decide +kernel); (case xLBadRule => first | k_is | kit_is | rfl | decide +kernel); (case saBadRule => first | k_is | kit_is | rfl | decide +kernel); (case bxBadRule => first | k_is | kit_is | rfl | decide +kernel); (case tyBadRule => first | k_is | kit_is | rfl | decide +kernel); (case kpBadRule => first | k_is | kit_is | rfl | decide +kernel); (case gaBadRule => first | k_is | kit_is | rfl | decide +kernel); (case ggBadRule => first | k_is | kit_is | rfl | decide +kernel); (case hdBadRule => first | k_is | kit_is | rfl | decide +kernel); (case caBadRule => first | k_is | kit_is | rfl | decide +kernel); (case moBadRule => first | k_is | kit_is | rfl | decide +kernel); (case sHBadRule => first | k_is | kit_is | rfl | decide +kernel); (case isBadRule_ValueError => first | k_is | kit_is | rfl | decide +kernel); (case nfBadRule_rule => first | k_is | kit_is | rfl | decide +kernel); (case isBadRule_HeapError => first | k_is | kit_is | rfl | decide +kernel); (case isBadRule_BadChain => first | k_is | kit_is | rfl | decide +kernel); (case isBadRule_BadPages => first | k_is | kit_is | rfl | decide +kernel); (case isBadRule_BadLimit => first | k_is | kit_is | rfl | decide +kernel); (case isBadRule_BadRule => first | k_is | kit_is | rfl | decide +kernel); (case isBadRule_BadSize => first | k_is | kit_is | rfl | decide +kernel); (case isBadRule_BadState => first | k_is | kit_is | rfl | decide +kernel); (case isBadRule_BadPlace => first | k_is | kit_is | rfl | decide +kernel); (case isBadRule_BadAnswer => first | k_is | kit_is | rfl | decide +kernel); (case isBadRule_BadEvent => first | k_is | kit_is | rfl | decide +kernel); (case isBadRule_OverLimit => first | k_is | kit_is | rfl | decide +kernel); (case isBadRule_NoRoom => first | k_is | kit_is | rfl | decide +kernel); (case isBadRule_NoBlock => first | k_is | kit_is | rfl | decide +kernel); (case isBadRule_TooMany => first | k_is | kit_is | rfl | decide +kernel); (case isBadRule_BadText => first | k_is | kit_is | rfl | decide +kernel); (case isBadRule_BadLine => first | k_is | kit_is | rfl | decide +kernel); (case isBadRule_Safe => first | k_is | kit_is | rfl | decide +kernel); (case isBadRule_Unsafe => first | k_is | kit_is | rfl | decide +kernel); (case isBadRule_Finished => first | k_is | kit_is | rfl | decide +kernel); (case isBadRule_NothingToUndo => first | k_is | kit_is | rfl | decide +kernel); (case ssBadRule_BadRule => first | k_is | kit_is | rfl | decide +kernel); (case xLBadSize => first | k_is | kit_is | rfl | decide +kernel); (case saBadSize => first | k_is | kit_is | rfl | decide +kernel); (case bxBadSize => first | k_is | kit_is | rfl | decide +kernel); (case tyBadSize => first | k_is | kit_is | rfl | decide +kernel); (case kpBadSize => first | k_is | kit_is | rfl | decide +kernel); (case gaBadSize => first | k_is | kit_is | rfl | decide +kernel); (case ggBadSize => first | k_is | kit_is | rfl | decide +kernel); (case hdBadSize => first | k_is | kit_is | rfl | decide +kernel); (case caBadSize => first | k_is | kit_is | rfl | decide +kernel); (case moBadSize => first | k_is | kit_is | rfl | decide +kernel); (case sHBadSize => first | k_is | kit_is | rfl | decide +kernel); (case isBadSize_ValueError => first | k_is | kit_is | rfl | decide +kernel); (case nfBadSize_size => first | k_is | kit_is | rfl | decide +kernel); (case isBadSize_HeapError => first | k_is | kit_is | rfl | decide +kernel); (case isBadSize_BadChain => first | k_is | kit_is | rfl | decide +kernel); (case isBadSize_BadPages => first | k_is | kit_is | rfl | decide +kernel); (case isBadSize_BadLimit => first | k_is | kit_is | rfl | decide +kernel); (case isBadSize_BadRule => first | k_is | kit_is | rfl | decide +kernel); (case isBadSize_BadSize => first | k_is | kit_is | rfl | decide +kernel); (case isBadSize_BadState => first | k_is | kit_is | rfl | decide +kernel); (case isBadSize_BadPlace => first | k_is | kit_is | rfl | decide +kernel); (case isBadSize_BadAnswer => first | k_is | kit_is | rfl | decide +kernel); (case isBadSize_BadEvent => first | k_is | kit_is | rfl | decide +kernel); (case isBadSize_OverLimit => first | k_is | kit_is | rfl | decide +kernel); (case isBadSize_NoRoom => first | k_is | kit_is | rfl | decide +kernel); (case isBadSize_NoBlock => first | k_is | kit_is | rfl | decide +kernel); (case isBadSize_TooMany => first | k_is | kit_is | rfl | decide +kernel); (case isBadSize_BadText => first | k_is | kit_is | rfl | decide +kernel); (case isBadSize_BadLine => first | k_is | kit_is | rfl | decide +kernel); (case isBadSize_Safe => first | k_is | kit_is | rfl | decide +kernel); (case isBadSize_Unsafe => first | k_is | kit_is | rfl | decide +kernel); (case isBadSize_Finished => first | k_is | kit_is | rfl | decide +kernel); (case isBadSize_NothingToUndo => first | k_is | kit_is | rfl | decide +kernel); (case ssBadSize_BadSize => first | k_is | kit_is | rfl | decide +kernel); (case xLBadState => first | k_is | kit_is | rfl | decide +kernel); (case saBadState => first | k_is | kit_is | rfl | decide +kernel); (case bxBadState => first | k_is | kit_is | rfl | decide +kernel); (case tyBadState => first | k_is | kit_is | rfl | decide +kernel); (case kpBadState => first | k_is | kit_is | rfl | decide +kernel); (case gaBadState => first | k_is | kit_is | rfl | decide +kernel); (case ggBadState => first | k_is | kit_is | rfl | decide +kernel); (case hdBadState => first | k_is | kit_is | rfl | decide +kernel); (case caBadState => first | k_is | kit_is | rfl | decide +kernel); (case moBadState => first | k_is | kit_is | rfl | decide +kernel); (case sHBadState => first | k_is | kit_is | rfl | decide +kernel); (case isBadState_ValueError => first | k_is | kit_is | rfl | decide +kernel); (case nfBadState_value => first | k_is | kit_is | rfl | decide +kernel); (case isBadState_HeapError => first | k_is | kit_is | rfl | decide +kernel); (case isBadState_BadChain => first | k_is | kit_is | rfl | decide +kernel); (case isBadState_BadPages => first | k_is | kit_is | rfl | decide +kernel); (case isBadState_BadLimit => first | k_is | kit_is | rfl | decide +kernel); (case isBadState_BadRule => first | k_is | kit_is | rfl | decide +kernel); (case isBadState_BadSize => first | k_is | kit_is | rfl | decide +kernel); (case isBadState_BadState => first | k_is | kit_is | rfl | decide +kernel); (case isBadState_BadPlace => first | k_is | kit_is | rfl | decide +kernel); (case isBadState_BadAnswer => first | k_is | kit_is | rfl | decide +kernel); (case isBadState_BadEvent => first | k_is | kit_is | rfl | decide +kernel); (case isBadState_OverLimit => first | k_is | kit_is | rfl | decide +kernel); (case isBadState_NoRoom => first | k_is | kit_is | rfl | decide +kernel); (case isBadState_NoBlock => first | k_is | kit_is | rfl | decide +kernel); (case isBadState_TooMany => first | k_is | kit_is | rfl | decide +kernel); (case isBadState_BadText => first | k_is | kit_is | rfl | decide +kernel); (case isBadState_BadLine => first | k_is | kit_is | rfl | decide +kernel); (case isBadState_Safe => first | k_is | kit_is | rfl | decide +kernel); (case isBadState_Unsafe => first | k_is | kit_is | rfl | decide +kernel); (case isBadState_Finished => first | k_is | kit_is | rfl | decide +kernel); (case isBadState_NothingToUndo => first | k_is | kit_is | rfl | decide +kernel); (case ssBadState_BadState => first | k_is | kit_is | rfl | decide +kernel); (case xLBadPlace => first | k_is | kit_is | rfl | decide +kernel); (case saBadPlace => first | k_is | kit_is | rfl | decide +kernel); (case bxBadPlace => first | k_is | kit_is | rfl | decide +kernel); (case tyBadPlace => first | k_is | kit_is | rfl | decide +kernel); (case kpBadPlace => first | k_is | kit_is | rfl | decide +kernel); (case gaBadPlace => first | k_is | kit_is | rfl | decide +kernel); (case ggBadPlace => first | k_is | kit_is | rfl | decide +kernel); (case hdBadPlace => first | k_is | kit_is | rfl | decide +kernel); (case caBadPlace => first | k_is | kit_is | rfl | decide +kernel); (case moBadPlace => first | k_is | kit_is | rfl | decide +kernel); (case sHBadPlace => first | k_is | kit_is | rfl | decide +kernel); (case isBadPlace_ValueError => first | k_is | kit_is | rfl | decide +kernel); (case nfBadPlace_address => first | k_is | kit_is | rfl | decide +kernel); (case isBadPlace_HeapError => first | k_is | kit_is | rfl | decide +kernel); (case isBadPlace_BadChain => first | k_is | kit_is | rfl | decide +kernel); (case isBadPlace_BadPages => first | k_is | kit_is | rfl | decide +kernel); (case isBadPlace_BadLimit => first | k_is | kit_is | rfl | decide +kernel); (case isBadPlace_BadRule => first | k_is | kit_is | rfl | decide +kernel); (case isBadPlace_BadSize => first | k_is | kit_is | rfl | decide +kernel); (case isBadPlace_BadState => first | k_is | kit_is | rfl | decide +kernel); (case isBadPlace_BadPlace => first | k_is | kit_is | rfl | decide +kernel); (case isBadPlace_BadAnswer => first | k_is | kit_is | rfl | decide +kernel); (case isBadPlace_BadEvent => first | k_is | kit_is | rfl | decide +kernel); (case isBadPlace_OverLimit => first | k_is | kit_is | rfl | decide +kernel); (case isBadPlace_NoRoom => first | k_is | kit_is | rfl | decide +kernel); (case isBadPlace_NoBlock => first | k_is | kit_is | rfl | decide +kernel); (case isBadPlace_TooMany => first | k_is | kit_is | rfl | decide +kernel); (case isBadPlace_BadText => first | k_is | kit_is | rfl | decide +kernel); (case isBadPlace_BadLine => first | k_is | kit_is | rfl | decide +kernel); (case isBadPlace_Safe => first | k_is | kit_is | rfl | decide +kernel); (case isBadPlace_Unsafe => first | k_is | kit_is | rfl | decide +kernel); (case isBadPlace_Finished => first | k_is | kit_is | rfl | decide +kernel); (case isBadPlace_NothingToUndo => first | k_is | kit_is | rfl | decide +kernel); (case ssBadPlace_BadPlace => first | k_is | kit_is | rfl | decide +kernel); (case xLBadAnswer => first | k_is | kit_is | rfl | decide +kernel); (case saBadAnswer => first | k_is | kit_is | rfl | decide +kernel); (case bxBadAnswer => first | k_is | kit_is | rfl | decide +kernel); (case tyBadAnswer => first | k_is | kit_is | rfl | decide +kernel); (case kpBadAnswer => first | k_is | kit_is | rfl | decide +kernel); (case gaBadAnswer => first | k_is | kit_is | rfl | decide +kernel); (case ggBadAnswer => first | k_is | kit_is | rfl | decide +kernel); (case hdBadAnswer => first | k_is | kit_is | rfl | decide +kernel); (case caBadAnswer => first | k_is | kit_is | rfl | decide +kernel); (case moBadAnswer => first | k_is | kit_is | rfl | decide +kernel); (case sHBadAnswer => first | k_is | kit_is | rfl | decide +kernel); (case isBadAnswer_ValueError => first | k_is | kit_is | rfl | decide +kernel); (case nfBadAnswer_value => first | k_is | kit_is | rfl | decide +kernel); (case isBadAnswer_HeapError => first | k_is | kit_is | rfl | decide +kernel); (case isBadAnswer_BadChain => first | k_is | kit_is | rfl | decide +kernel); (case isBadAnswer_BadPages => first | k_is | kit_is | rfl | decide +kernel); (case isBadAnswer_BadLimit => first | k_is | kit_is | rfl | decide +kernel); (case isBadAnswer_BadRule => first | k_is | kit_is | rfl | decide +kernel); (case isBadAnswer_BadSize => first | k_is | kit_is | rfl | decide +kernel); (case isBadAnswer_BadState => first | k_is | kit_is | rfl | decide +kernel); (case isBadAnswer_BadPlace => first | k_is | kit_is | rfl | decide +kernel); (case isBadAnswer_BadAnswer => first | k_is | kit_is | rfl | decide +kernel); (case isBadAnswer_BadEvent => first | k_is | kit_is | rfl | decide +kernel); (case isBadAnswer_OverLimit => first | k_is | kit_is | rfl | decide +kernel); (case isBadAnswer_NoRoom => first | k_is | kit_is | rfl | decide +kernel); (case isBadAnswer_NoBlock => first | k_is | kit_is | rfl | decide +kernel); (case isBadAnswer_TooMany => first | k_is | kit_is | rfl | decide +kernel); (case isBadAnswer_BadText => first | k_is | kit_is | rfl | decide +kernel); (case isBadAnswer_BadLine => first | k_is | kit_is | rfl | decide +kernel); (case isBadAnswer_Safe => first | k_is | kit_is | rfl | decide +kernel); (case isBadAnswer_Unsafe => first | k_is | kit_is | rfl | decide +kernel); (case isBadAnswer_Finished => first | k_is | kit_is | rfl | decide +kernel); (case isBadAnswer_NothingToUndo => first | k_is | kit_is | rfl | decide +kernel); (case ssBadAnswer_BadAnswer => first | k_is | kit_is | rfl | decide +kernel); (case xLBadEvent => first | k_is | kit_is | rfl | decide +kernel); (case saBadEvent => first | k_is | kit_is | rfl | decide +kernel); (case bxBadEvent => first | k_is | kit_is | rfl | decide +kernel); (case tyBadEvent => first | k_is | kit_is | rfl | decide +kernel); (case kpBadEvent => first | k_is | kit_is | rfl | decide +kernel); (case gaBadEvent => first | k_is | kit_is | rfl | decide +kernel); (case ggBadEvent => first | k_is | kit_is | rfl | decide +kernel); (case hdBadEvent => first | k_is | kit_is | rfl | decide +kernel); (case caBadEvent => first | k_is | kit_is | rfl | decide +kernel); (case moBadEvent => first | k_is | kit_is | rfl | decide +kernel); (case sHBadEvent => first | k_is | kit_is | rfl | decide +kernel); (case isBadEvent_ValueError => first | k_is | kit_is | rfl | decide +kernel); (case nfBadEvent_number => first | k_is | kit_is | rfl | decide +kernel); (case isBadEvent_HeapError => first | k_is | kit_is | rfl | decide +kernel); (case isBadEvent_BadChain => first | k_is | kit_is | rfl | decide +kernel); (case isBadEvent_BadPages => first | k_is | kit_is | rfl | decide +kernel); (case isBadEvent_BadLimit => first | k_is | kit_is | rfl | decide +kernel); (case isBadEvent_BadRule => first | k_is | kit_is | rfl | decide +kernel); (case isBadEvent_BadSize => first | k_is | kit_is | rfl | decide +kernel); (case isBadEvent_BadState => first | k_is | kit_is | rfl | decide +kernel); (case isBadEvent_BadPlace => first | k_is | kit_is | rfl | decide +kernel); (case isBadEvent_BadAnswer => first | k_is | kit_is | rfl | decide +kernel); (case isBadEvent_BadEvent => first | k_is | kit_is | rfl | decide +kernel); (case isBadEvent_OverLimit => first | k_is | kit_is | rfl | decide +kernel); (case isBadEvent_NoRoom => first | k_is | kit_is | rfl | decide +kernel); (case isBadEvent_NoBlock => first | k_is | kit_is | rfl | decide +kernel); (case isBadEvent_TooMany => first | k_is | kit_is | rfl | decide +kernel); (case isBadEvent_BadText => first | k_is | kit_is | rfl | decide +kernel); (case isBadEvent_BadLine => first | k_is | kit_is | rfl | decide +kernel); (case isBadEvent_Safe => first | k_is | kit_is | rfl | decide +kernel); (case isBadEvent_Unsafe => first | k_is | kit_is | rfl | decide +kernel); (case isBadEvent_Finished => first | k_is | kit_is | rfl | decide +kernel); (case isBadEvent_NothingToUndo => first | k_is | kit_is | rfl | decide +kernel); (case ssBadEvent_BadEvent => first | k_is | kit_is | rfl | decide +kernel); (case xLOverLimit => first | k_is | kit_is | rfl | decide +kernel); (case saOverLimit => first | k_is | kit_is | rfl | decide +kernel); (case bxOverLimit => first | k_is | kit_is | rfl | decide +kernel); (case tyOverLimit => first | k_is | kit_is | rfl | decide +kernel); (case kpOverLimit => first | k_is | kit_is | rfl | decide +kernel); (case gaOverLimit => first | k_is | kit_is | rfl | decide +kernel); (case ggOverLimit => first | k_is | kit_is | rfl | decide +kernel); (case hdOverLimit => first | k_is | kit_is | rfl | decide +kernel); (case caOverLimit => first | k_is | kit_is | rfl | decide +kernel); (case moOverLimit => first | k_is | kit_is | rfl | decide +kernel); (case sHOverLimit => first | k_is | kit_is | rfl | decide +kernel); (case isOverLimit_ValueError => first | k_is | kit_is | rfl | decide +kernel); (case nfOverLimit_size => first | k_is | kit_is | rfl | decide +kernel); (case isOverLimit_HeapError => first | k_is | kit_is | rfl | decide +kernel); (case isOverLimit_BadChain => first | k_is | kit_is | rfl | decide +kernel); (case isOverLimit_BadPages => first | k_is | kit_is | rfl | decide +kernel); (case isOverLimit_BadLimit => first | k_is | kit_is | rfl | decide +kernel); (case isOverLimit_BadRule => first | k_is | kit_is | rfl | decide +kernel); (case isOverLimit_BadSize => first | k_is | kit_is | rfl | decide +kernel); (case isOverLimit_BadState => first | k_is | kit_is | rfl | decide +kernel); (case isOverLimit_BadPlace => first | k_is | kit_is | rfl | decide +kernel); (case isOverLimit_BadAnswer => first | k_is | kit_is | rfl | decide +kernel); (case isOverLimit_BadEvent => first | k_is | kit_is | rfl | decide +kernel); (case isOverLimit_OverLimit => first | k_is | kit_is | rfl | decide +kernel); (case isOverLimit_NoRoom => first | k_is | kit_is | rfl | decide +kernel); (case isOverLimit_NoBlock => first | k_is | kit_is | rfl | decide +kernel); (case isOverLimit_TooMany => first | k_is | kit_is | rfl | decide +kernel); (case isOverLimit_BadText => first | k_is | kit_is | rfl | decide +kernel); (case isOverLimit_BadLine => first | k_is | kit_is | rfl | decide +kernel); (case isOverLimit_Safe => first | k_is | kit_is | rfl | decide +kernel); (case isOverLimit_Unsafe => first | k_is | kit_is | rfl | decide +kernel); (case isOverLimit_Finished => first | k_is | kit_is | rfl | decide +kernel); (case isOverLimit_NothingToUndo => first | k_is | kit_is | rfl | decide +kernel); (case ssOverLimit_OverLimit => first | k_is | kit_is | rfl | decide +kernel); (case xLNoRoom => first | k_is | kit_is | rfl | decide +kernel); (case saNoRoom => first | k_is | kit_is | rfl | decide +kernel); (case bxNoRoom => first | k_is | kit_is | rfl | decide +kernel); (case tyNoRoom => first | k_is | kit_is | rfl | decide +kernel); (case kpNoRoom => first | k_is | kit_is | rfl | decide +kernel); (case gaNoRoom => first | k_is | kit_is | rfl | decide +kernel); (case ggNoRoom => first | k_is | kit_is | rfl | decide +kernel); (case hdNoRoom => first | k_is | kit_is | rfl | decide +kernel); (case caNoRoom => first | k_is | kit_is | rfl | decide +kernel); (case moNoRoom => first | k_is | kit_is | rfl | decide +kernel); (case sHNoRoom => first | k_is | kit_is | rfl | decide +kernel); (case isNoRoom_ValueError => first | k_is | kit_is | rfl | decide +kernel); (case nfNoRoom_size => first | k_is | kit_is | rfl | decide +kernel); (case isNoRoom_HeapError => first | k_is | kit_is | rfl | decide +kernel); (case isNoRoom_BadChain => first | k_is | kit_is | rfl | decide +kernel); (case isNoRoom_BadPages => first | k_is | kit_is | rfl | decide +kernel); (case isNoRoom_BadLimit => first | k_is | kit_is | rfl | decide +kernel); (case isNoRoom_BadRule => first | k_is | kit_is | rfl | decide +kernel); (case isNoRoom_BadSize => first | k_is | kit_is | rfl | decide +kernel); (case isNoRoom_BadState => first | k_is | kit_is | rfl | decide +kernel); (case isNoRoom_BadPlace => first | k_is | kit_is | rfl | decide +kernel); (case isNoRoom_BadAnswer => first | k_is | kit_is | rfl | decide +kernel); (case isNoRoom_BadEvent => first | k_is | kit_is | rfl | decide +kernel); (case isNoRoom_OverLimit => first | k_is | kit_is | rfl | decide +kernel); (case isNoRoom_NoRoom => first | k_is | kit_is | rfl | decide +kernel); (case isNoRoom_NoBlock => first | k_is | kit_is | rfl | decide +kernel); (case isNoRoom_TooMany => first | k_is | kit_is | rfl | decide +kernel); (case isNoRoom_BadText => first | k_is | kit_is | rfl | decide +kernel); (case isNoRoom_BadLine => first | k_is | kit_is | rfl | decide +kernel); (case isNoRoom_Safe => first | k_is | kit_is | rfl | decide +kernel); (case isNoRoom_Unsafe => first | k_is | kit_is | rfl | decide +kernel); (case isNoRoom_Finished => first | k_is | kit_is | rfl | decide +kernel); (case isNoRoom_NothingToUndo => first | k_is | kit_is | rfl | decide +kernel); (case ssNoRoom_NoRoom => first | k_is | kit_is | rfl | decide +kernel); (case xLNoBlock => first | k_is | kit_is | rfl | decide +kernel); (case saNoBlock => first | k_is | kit_is | rfl | decide +kernel); (case bxNoBlock => first | k_is | kit_is | rfl | decide +kernel); (case tyNoBlock => first | k_is | kit_is | rfl | decide +kernel); (case kpNoBlock => first | k_is | kit_is | rfl | decide +kernel); (case gaNoBlock => first | k_is | kit_is | rfl | decide +kernel); (case ggNoBlock => first | k_is | kit_is | rfl | decide +kernel); (case hdNoBlock => first | k_is | kit_is | rfl | decide +kernel); (case caNoBlock => first | k_is | kit_is | rfl | decide +kernel); (case moNoBlock => first | k_is | kit_is | rfl | decide +kernel); (case sHNoBlock => first | k_is | kit_is | rfl | decide +kernel); (case isNoBlock_ValueError => first | k_is | kit_is | rfl | decide +kernel); (case nfNoBlock_address => first | k_is | kit_is | rfl | decide +kernel); (case isNoBlock_HeapError => first | k_is | kit_is | rfl | decide +kernel); (case isNoBlock_BadChain => first | k_is | kit_is | rfl | decide +kernel); (case isNoBlock_BadPages => first | k_is | kit_is | rfl | decide +kernel); (case isNoBlock_BadLimit => first | k_is | kit_is | rfl | decide +kernel); (case isNoBlock_BadRule => first | k_is | kit_is | rfl | decide +kernel); (case isNoBlock_BadSize => first | k_is | kit_is | rfl | decide +kernel); (case isNoBlock_BadState => first | k_is | kit_is | rfl | decide +kernel); (case isNoBlock_BadPlace => first | k_is | kit_is | rfl | decide +kernel); (case isNoBlock_BadAnswer => first | k_is | kit_is | rfl | decide +kernel); (case isNoBlock_BadEvent => first | k_is | kit_is | rfl | decide +kernel); (case isNoBlock_OverLimit => first | k_is | kit_is | rfl | decide +kernel); (case isNoBlock_NoRoom => first | k_is | kit_is | rfl | decide +kernel); (case isNoBlock_NoBlock => first | k_is | kit_is | rfl | decide +kernel); (case isNoBlock_TooMany => first | k_is | kit_is | rfl | decide +kernel); (case isNoBlock_BadText => first | k_is | kit_is | rfl | decide +kernel); (case isNoBlock_BadLine => first | k_is | kit_is | rfl | decide +kernel); (case isNoBlock_Safe => first | k_is | kit_is | rfl | decide +kernel); (case isNoBlock_Unsafe => first | k_is | kit_is | rfl | decide +kernel); (case isNoBlock_Finished => first | k_is | kit_is | rfl | decide +kernel); (case isNoBlock_NothingToUndo => first | k_is | kit_is | rfl | decide +kernel); (case ssNoBlock_NoBlock => first | k_is | kit_is | rfl | decide +kernel); (case xLTooMany => first | k_is | kit_is | rfl | decide +kernel); (case saTooMany => first | k_is | kit_is | rfl | decide +kernel); (case bxTooMany => first | k_is | kit_is | rfl | decide +kernel); (case tyTooMany => first | k_is | kit_is | rfl | decide +kernel); (case kpTooMany => first | k_is | kit_is | rfl | decide +kernel); (case gaTooMany => first | k_is | kit_is | rfl | decide +kernel); (case ggTooMany => first | k_is | kit_is | rfl | decide +kernel); (case hdTooMany => first | k_is | kit_is | rfl | decide +kernel); (case caTooMany => first | k_is | kit_is | rfl | decide +kernel); (case moTooMany => first | k_is | kit_is | rfl | decide +kernel); (case sHTooMany => first | k_is | kit_is | rfl | decide +kernel); (case isTooMany_ValueError => first | k_is | kit_is | rfl | decide +kernel); (case nfTooMany_limit => first | k_is | kit_is | rfl | decide +kernel); (case isTooMany_HeapError => first | k_is | kit_is | rfl | decide +kernel); (case isTooMany_BadChain => first | k_is | kit_is | rfl | decide +kernel); (case isTooMany_BadPages => first | k_is | kit_is | rfl | decide +kernel); (case isTooMany_BadLimit => first | k_is | kit_is | rfl | decide +kernel); (case isTooMany_BadRule => first | k_is | kit_is | rfl | decide +kernel); (case isTooMany_BadSize => first | k_is | kit_is | rfl | decide +kernel); (case isTooMany_BadState => first | k_is | kit_is | rfl | decide +kernel); (case isTooMany_BadPlace => first | k_is | kit_is | rfl | decide +kernel); (case isTooMany_BadAnswer => first | k_is | kit_is | rfl | decide +kernel); (case isTooMany_BadEvent => first | k_is | kit_is | rfl | decide +kernel); (case isTooMany_OverLimit => first | k_is | kit_is | rfl | decide +kernel); (case isTooMany_NoRoom => first | k_is | kit_is | rfl | decide +kernel); (case isTooMany_NoBlock => first | k_is | kit_is | rfl | decide +kernel); (case isTooMany_TooMany => first | k_is | kit_is | rfl | decide +kernel); (case isTooMany_BadText => first | k_is | kit_is | rfl | decide +kernel); (case isTooMany_BadLine => first | k_is | kit_is | rfl | decide +kernel); (case isTooMany_Safe => first | k_is | kit_is | rfl | decide +kernel); (case isTooMany_Unsafe => first | k_is | kit_is | rfl | decide +kernel); (case isTooMany_Finished => first | k_is | kit_is | rfl | decide +kernel); (case isTooMany_NothingToUndo => first | k_is | kit_is | rfl | decide +kernel); (case ssTooMany_TooMany => first | k_is | kit_is | rfl | decide +kernel); (case xLBadText => first | k_is | kit_is | rfl | decide +kernel); (case saBadText => first | k_is | kit_is | rfl | decide +kernel); (case bxBadText => first | k_is | kit_is | rfl | decide +kernel); (case tyBadText => first | k_is | kit_is | rfl | decide +kernel); (case kpBadText => first | k_is | kit_is | rfl | decide +kernel); (case gaBadText => first | k_is | kit_is | rfl | decide +kernel); (case ggBadText => first | k_is | kit_is | rfl | decide +kernel); (case hdBadText => first | k_is | kit_is | rfl | decide +kernel); (case caBadText => first | k_is | kit_is | rfl | decide +kernel); (case moBadText => first | k_is | kit_is | rfl | decide +kernel); (case sHBadText => first | k_is | kit_is | rfl | decide +kernel); (case isBadText_ValueError => first | k_is | kit_is | rfl | decide +kernel); (case nfBadText_row => first | k_is | kit_is | rfl | decide +kernel); (case isBadText_HeapError => first | k_is | kit_is | rfl | decide +kernel); (case isBadText_BadChain => first | k_is | kit_is | rfl | decide +kernel); (case isBadText_BadPages => first | k_is | kit_is | rfl | decide +kernel); (case isBadText_BadLimit => first | k_is | kit_is | rfl | decide +kernel); (case isBadText_BadRule => first | k_is | kit_is | rfl | decide +kernel); (case isBadText_BadSize => first | k_is | kit_is | rfl | decide +kernel); (case isBadText_BadState => first | k_is | kit_is | rfl | decide +kernel); (case isBadText_BadPlace => first | k_is | kit_is | rfl | decide +kernel); (case isBadText_BadAnswer => first | k_is | kit_is | rfl | decide +kernel); (case isBadText_BadEvent => first | k_is | kit_is | rfl | decide +kernel); (case isBadText_OverLimit => first | k_is | kit_is | rfl | decide +kernel); (case isBadText_NoRoom => first | k_is | kit_is | rfl | decide +kernel); (case isBadText_NoBlock => first | k_is | kit_is | rfl | decide +kernel); (case isBadText_TooMany => first | k_is | kit_is | rfl | decide +kernel); (case isBadText_BadText => first | k_is | kit_is | rfl | decide +kernel); (case isBadText_BadLine => first | k_is | kit_is | rfl | decide +kernel); (case isBadText_Safe => first | k_is | kit_is | rfl | decide +kernel); (case isBadText_Unsafe => first | k_is | kit_is | rfl | decide +kernel); (case isBadText_Finished => first | k_is | kit_is | rfl | decide +kernel); (case isBadText_NothingToUndo => first | k_is | kit_is | rfl | decide +kernel); (case ssBadText_BadText => first | k_is | kit_is | rfl | decide +kernel); (case xLBadLine => first | k_is | kit_is | rfl | decide +kernel); (case saBadLine => first | k_is | kit_is | rfl | decide +kernel); (case bxBadLine => first | k_is | kit_is | rfl | decide +kernel); (case tyBadLine => first | k_is | kit_is | rfl | decide +kernel); (case kpBadLine => first | k_is | kit_is | rfl | decide +kernel); (case gaBadLine => first | k_is | kit_is | rfl | decide +kernel); (case ggBadLine => first | k_is | kit_is | rfl | decide +kernel); (case hdBadLine => first | k_is | kit_is | rfl | decide +kernel); (case caBadLine => first | k_is | kit_is | rfl | decide +kernel); (case moBadLine => first | k_is | kit_is | rfl | decide +kernel); (case sHBadLine => first | k_is | kit_is | rfl | decide +kernel); (case isBadLine_ValueError => first | k_is | kit_is | rfl | decide +kernel); (case nfBadLine_line => first | k_is | kit_is | rfl | decide +kernel); (case isBadLine_HeapError => first | k_is | kit_is | rfl | decide +kernel); (case isBadLine_BadChain => first | k_is | kit_is | rfl | decide +kernel); (case isBadLine_BadPages => first | k_is | kit_is | rfl | decide +kernel); (case isBadLine_BadLimit => first | k_is | kit_is | rfl | decide +kernel); (case isBadLine_BadRule => first | k_is | kit_is | rfl | decide +kernel); (case isBadLine_BadSize => first | k_is | kit_is | rfl | decide +kernel); (case isBadLine_BadState => first | k_is | kit_is | rfl | decide +kernel); (case isBadLine_BadPlace => first | k_is | kit_is | rfl | decide +kernel); (case isBadLine_BadAnswer => first | k_is | kit_is | rfl | decide +kernel); (case isBadLine_BadEvent => first | k_is | kit_is | rfl | decide +kernel); (case isBadLine_OverLimit => first | k_is | kit_is | rfl | decide +kernel); (case isBadLine_NoRoom => first | k_is | kit_is | rfl | decide +kernel); (case isBadLine_NoBlock => first | k_is | kit_is | rfl | decide +kernel); (case isBadLine_TooMany => first | k_is | kit_is | rfl | decide +kernel); (case isBadLine_BadText => first | k_is | kit_is | rfl | decide +kernel); (case isBadLine_BadLine => first | k_is | kit_is | rfl | decide +kernel); (case isBadLine_Safe => first | k_is | kit_is | rfl | decide +kernel); (case isBadLine_Unsafe => first | k_is | kit_is | rfl | decide +kernel); (case isBadLine_Finished => first | k_is | kit_is | rfl | decide +kernel); (case isBadLine_NothingToUndo => first | k_is | kit_is | rfl | decide +kernel); (case ssBadLine_BadLine => first | k_is | kit_is | rfl | decide +kernel); (case xLSafe => first | k_is | kit_is | rfl | decide +kernel); (case saSafe => first | k_is | kit_is | rfl | decide +kernel); (case bxSafe => first | k_is | kit_is | rfl | decide +kernel); (case tySafe => first | k_is | kit_is | rfl | decide +kernel); (case kpSafe => first | k_is | kit_is | rfl | decide +kernel); (case gaSafe => first | k_is | kit_is | rfl | decide +kernel); (case ggSafe => first | k_is | kit_is | rfl | decide +kernel); (case hdSafe => first | k_is | kit_is | rfl | decide +kernel); (case caSafe => first | k_is | kit_is | rfl | decide +kernel); (case moSafe => first | k_is | kit_is | rfl | decide +kernel); (case sHSafe => first | k_is | kit_is | rfl | decide +kernel); (case isSafe_ValueError => first | k_is | kit_is | rfl | decide +kernel); (case isSafe_HeapError => first | k_is | kit_is | rfl | decide +kernel); (case isSafe_BadChain => first | k_is | kit_is | rfl | decide +kernel); (case isSafe_BadPages => first | k_is | kit_is | rfl | decide +kernel); (case isSafe_BadLimit => first | k_is | kit_is | rfl | decide +kernel); (case isSafe_BadRule => first | k_is | kit_is | rfl | decide +kernel); (case isSafe_BadSize => first | k_is | kit_is | rfl | decide +kernel); (case isSafe_BadState => first | k_is | kit_is | rfl | decide +kernel); (case isSafe_BadPlace => first | k_is | kit_is | rfl | decide +kernel); (case isSafe_BadAnswer => first | k_is | kit_is | rfl | decide +kernel); (case isSafe_BadEvent => first | k_is | kit_is | rfl | decide +kernel); (case isSafe_OverLimit => first | k_is | kit_is | rfl | decide +kernel); (case isSafe_NoRoom => first | k_is | kit_is | rfl | decide +kernel); (case isSafe_NoBlock => first | k_is | kit_is | rfl | decide +kernel); (case isSafe_TooMany => first | k_is | kit_is | rfl | decide +kernel); (case isSafe_BadText => first | k_is | kit_is | rfl | decide +kernel); (case isSafe_BadLine => first | k_is | kit_is | rfl | decide +kernel); (case isSafe_Safe => first | k_is | kit_is | rfl | decide +kernel); (case isSafe_Unsafe => first | k_is | kit_is | rfl | decide +kernel); (case isSafe_Finished => first | k_is | kit_is | rfl | decide +kernel); (case isSafe_NothingToUndo => first | k_is | kit_is | rfl | decide +kernel); (case ssSafe_Safe => first | k_is | kit_is | rfl | decide +kernel); (case xLUnsafe => first | k_is | kit_is | rfl | decide +kernel); (case saUnsafe => first | k_is | kit_is | rfl | decide +kernel); (case bxUnsafe => first | k_is | kit_is | rfl | decide +kernel); (case tyUnsafe => first | k_is | kit_is | rfl | decide +kernel); (case kpUnsafe => first | k_is | kit_is | rfl | decide +kernel); (case gaUnsafe => first | k_is | kit_is | rfl | decide +kernel); (case ggUnsafe => first | k_is | kit_is | rfl | decide +kernel); (case hdUnsafe => first | k_is | kit_is | rfl | decide +kernel); (case caUnsafe => first | k_is | kit_is | rfl | decide +kernel); (case moUnsafe => first | k_is | kit_is | rfl | decide +kernel); (case sHUnsafe => first | k_is | kit_is | rfl | decide +kernel); (case isUnsafe_ValueError => first | k_is | kit_is | rfl | decide +kernel); (case isUnsafe_HeapError => first | k_is | kit_is | rfl | decide +kernel); (case isUnsafe_BadChain => first | k_is | kit_is | rfl | decide +kernel); (case isUnsafe_BadPages => first | k_is | kit_is | rfl | decide +kernel); (case isUnsafe_BadLimit => first | k_is | kit_is | rfl | decide +kernel); (case isUnsafe_BadRule => first | k_is | kit_is | rfl | decide +kernel); (case isUnsafe_BadSize => first | k_is | kit_is | rfl | decide +kernel); (case isUnsafe_BadState => first | k_is | kit_is | rfl | decide +kernel); (case isUnsafe_BadPlace => first | k_is | kit_is | rfl | decide +kernel); (case isUnsafe_BadAnswer => first | k_is | kit_is | rfl | decide +kernel); (case isUnsafe_BadEvent => first | k_is | kit_is | rfl | decide +kernel); (case isUnsafe_OverLimit => first | k_is | kit_is | rfl | decide +kernel); (case isUnsafe_NoRoom => first | k_is | kit_is | rfl | decide +kernel); (case isUnsafe_NoBlock => first | k_is | kit_is | rfl | decide +kernel); (case isUnsafe_TooMany => first | k_is | kit_is | rfl | decide +kernel); (case isUnsafe_BadText => first | k_is | kit_is | rfl | decide +kernel); (case isUnsafe_BadLine => first | k_is | kit_is | rfl | decide +kernel); (case isUnsafe_Safe => first | k_is | kit_is | rfl | decide +kernel); (case isUnsafe_Unsafe => first | k_is | kit_is | rfl | decide +kernel); (case isUnsafe_Finished => first | k_is | kit_is | rfl | decide +kernel); (case isUnsafe_NothingToUndo => first | k_is | kit_is | rfl | decide +kernel); (case ssUnsafe_Unsafe => first | k_is | kit_is | rfl | decide +kernel); (case xLFinished => first | k_is | kit_is | rfl | decide +kernel); (case saFinished => first | k_is | kit_is | rfl | decide +kernel); (case bxFinished => first | k_is | kit_is | rfl | decide +kernel); (case tyFinished => first | k_is | kit_is | rfl | decide +kernel); (case kpFinished => first | k_is | kit_is | rfl | decide +kernel); (case gaFinished => first | k_is | kit_is | rfl | decide +kernel); (case ggFinished => first | k_is | kit_is | rfl | decide +kernel); (case hdFinished => first | k_is | kit_is | rfl | decide +kernel); (case caFinished => first | k_is | kit_is | rfl | decide +kernel); (case moFinished => first | k_is | kit_is | rfl | decide +kernel); (case sHFinished => first | k_is | kit_is | rfl | decide +kernel); (case isFinished_ValueError => first | k_is | kit_is | rfl | decide +kernel); (case isFinished_HeapError => first | k_is | kit_is | rfl | decide +kernel); (case isFinished_BadChain => first | k_is | kit_is | rfl | decide +kernel); (case isFinished_BadPages => first | k_is | kit_is | rfl | decide +kernel); (case isFinished_BadLimit => first | k_is | kit_is | rfl | decide +kernel); (case isFinished_BadRule => first | k_is | kit_is | rfl | decide +kernel); (case isFinished_BadSize => first | k_is | kit_is | rfl | decide +kernel); (case isFinished_BadState => first | k_is | kit_is | rfl | decide +kernel); (case isFinished_BadPlace => first | k_is | kit_is | rfl | decide +kernel); (case isFinished_BadAnswer => first | k_is | kit_is | rfl | decide +kernel); (case isFinished_BadEvent => first | k_is | kit_is | rfl | decide +kernel); (case isFinished_OverLimit => first | k_is | kit_is | rfl | decide +kernel); (case isFinished_NoRoom => first | k_is | kit_is | rfl | decide +kernel); (case isFinished_NoBlock => first | k_is | kit_is | rfl | decide +kernel); (case isFinished_TooMany => first | k_is | kit_is | rfl | decide +kernel); (case isFinished_BadText => first | k_is | kit_is | rfl | decide +kernel); (case isFinished_BadLine => first | k_is | kit_is | rfl | decide +kernel); (case isFinished_Safe => first | k_is | kit_is | rfl | decide +kernel); (case isFinished_Unsafe => first | k_is | kit_is | rfl | decide +kernel); (case isFinished_Finished => first | k_is | kit_is | rfl | decide +kernel); (case isFinished_NothingToUndo => first | k_is | kit_is | rfl | decide +kernel); (case ssFinished_Finished => first | k_is | kit_is | rfl | decide +kernel); (case xLNothingToUndo => first | k_is | kit_is | rfl | decide +kernel); (case saNothingToUndo => first | k_is | kit_is | rfl | decide +kernel); (case bxNothingToUndo => first | k_is | kit_is | rfl | decide +kernel); (case tyNothingToUndo => first | k_is | kit_is | rfl | decide +kernel); (case kpNothingToUndo => first | k_is | kit_is | rfl | decide +kernel); (case gaNothingToUndo => first | k_is | kit_is | rfl | decide +kernel); (case ggNothingToUndo => first | k_is | kit_is | rfl | decide +kernel); (case hdNothingToUndo => first | k_is | kit_is | rfl | decide +kernel); (case caNothingToUndo => first | k_is | kit_is | rfl | decide +kernel); (case moNothingToUndo => first | k_is | kit_is | rfl | decide +kernel); (case sHNothingToUndo => first | k_is | kit_is | rfl | decide +kernel); (case isNothingToUndo_ValueError => first | k_is | kit_is | rfl | decide +kernel); (case isNothingToUndo_HeapError => first | k_is | kit_is | rfl | decide +kernel); (case isNothingToUndo_BadChain => first | k_is | kit_is | rfl | decide +kernel); (case isNothingToUndo_BadPages => first | k_is | kit_is | rfl | decide +kernel); (case isNothingToUndo_BadLimit => first | k_is | kit_is | rfl | decide +kernel); (case isNothingToUndo_BadRule => first | k_is | kit_is | rfl | decide +kernel); (case isNothingToUndo_BadSize => first | k_is | kit_is | rfl | decide +kernel); (case isNothingToUndo_BadState => first | k_is | kit_is | rfl | decide +kernel); (case isNothingToUndo_BadPlace => first | k_is | kit_is | rfl | decide +kernel); (case isNothingToUndo_BadAnswer => first | k_is | kit_is | rfl | decide +kernel); (case isNothingToUndo_BadEvent => first | k_is | kit_is | rfl | decide +kernel); (case isNothingToUndo_OverLimit => first | k_is | kit_is | rfl | decide +kernel); (case isNothingToUndo_NoRoom => first | k_is | kit_is | rfl | decide +kernel); (case isNothingToUndo_NoBlock => first | k_is | kit_is | rfl | decide +kernel); (case isNothingToUndo_TooMany => first | k_is | kit_is | rfl | decide +kernel); (case isNothingToUndo_BadText => first | k_is | kit_is | rfl | decide +kernel); (case isNothingToUndo_BadLine => first | k_is | kit_is | rfl | decide +kernel); (case isNothingToUndo_Safe => first | k_is | kit_is | rfl | decide +kernel); (case isNothingToUndo_Unsafe => first | k_is | kit_is | rfl | decide +kernel); (case isNothingToUndo_Finished => first | k_is | kit_is | rfl | decide +kernel); (case isNothingToUndo_NothingToUndo => first | k_is | kit_is | rfl | decide +kernel); (case ssNothingToUndo_NothingToUndo => first | k_is | kit_is | rfl | decide +kernel); (case a1 => first | k_is | kit_is | rfl | decide +kernel); (case i1 => first | k_is | kit_is | rfl | decide +kernel); (case l1 => first | k_is | kit_is | rfl | decide +kernel); (case c1 => first | k_is | kit_is | rfl | decide +kernel); (case k1 => first | k_is | kit_is | rfl | decide +kernel); (case a2 => first | k_is | kit_is | rfl | decide +kernel); (case i2 => first | k_is | kit_is | rfl | decide +kernel); (case l2 => first | k_is | kit_is | rfl | decide +kernel); (case c2 => first | k_is | kit_is | rfl | decide +kernel); (case k2 => first | k_is | kit_is | rfl | decide +kernel); (case a3 => first | k_is | kit_is | rfl | decide +kernel); (case i3 => first | k_is | kit_is | rfl | decide +kernel); (case l3 => first | k_is | kit_is | rfl | decide +kernel); (case c3 => first | k_is | kit_is | rfl | decide +kernel); (case k3 => first | k_is | kit_is | rfl | decide +kernel); (case a4 => first | k_is | kit_is | rfl | decide +kernel); (case i4 => first | k_is | kit_is | rfl | decide +kernel); (case l4 => first | k_is | kit_is | rfl | decide +kernel); (case c4 => first | k_is | kit_is | rfl | decide +kernel); (case k4 => first | k_is | kit_is | rfl | decide +kernel); (case a5 => first | k_is | kit_is | rfl | decide +kernel); (case i5 => first | k_is | kit_is | rfl | decide +kernel); (case l5 => first | k_is | kit_is | rfl | decide +kernel); (case c5 => first | k_is | kit_is | rfl | decide +kernel); (case k5 => first | k_is | kit_is | rfl | decide +kernel); (case a6 => first | k_is | kit_is | rfl | decide +kernel); (case i6 => first | k_is | kit_is | rfl | decide +kernel); (case l6 => first | k_is | kit_is | rfl | decide +kernel); (case c6 => first | k_is | kit_is | rfl | decide +kernel); (case k6 => first | k_is | kit_is | rfl | decide +kernel); (case a7 => first | k_is | kit_is | rfl | decide +kernel); (case i7 => first | k_is | kit_is | rfl | decide +kernel); (case l7 => first | k_is | kit_is | rfl | decide +kernel); (case c7 => first | k_is | kit_is | rfl | decide +kernel); (case k7 => first | k_is | kit_is | rfl | decide +kernel); (case a8 => first | k_is | kit_is | rfl | decide +kernel); (case i8 => first | k_is | kit_is | rfl | decide +kernel); (case l8 => first | k_is | kit_is | rfl | decide +kernel); (case c8 => first | k_is | kit_is | rfl | decide +kernel); (case k8 => first | k_is | kit_is | rfl | decide +kernel); (case a9 => first | k_is | kit_is | rfl | decide +kernel); (case i9 => first | k_is | kit_is | rfl | decide +kernel); (case l9 => first | k_is | kit_is | rfl | decide +kernel); (case c9 => first | k_is | kit_is | rfl | decide +kernel); (case k9 => first | k_is | kit_is | rfl | decide +kernel); (case a10 => first | k_is | kit_is | rfl | decide +kernel); (case i10 => first | k_is | kit_is | rfl | decide +kernel); (case l10 => first | k_is | kit_is | rfl | decide +kernel); (case c10 => first | k_is | kit_is | rfl | decide +kernel); (case k10 => first | k_is | kit_is | rfl | decide +kernel); (case a11 => first | k_is | kit_is | rfl | decide +kernel); (case i11 => first | k_is | kit_is | rfl | decide +kernel); (case l11 => first | k_is | kit_is | rfl | decide +kernel); (case c11 => first | k_is | kit_is | rfl | decide +kernel); (case k11 => first | k_is | kit_is | rfl | decide +kernel); (case a12 => first | k_is | kit_is | rfl | decide +kernel); (case i12 => first | k_is | kit_is | rfl | decide +kernel); (case l12 => first | k_is | kit_is | rfl | decide +kernel); (case c12 => first | k_is | kit_is | rfl | decide +kernel); (case k12 => first | k_is | kit_is | rfl | decide +kernel); (case a13 => first | k_is | kit_is | rfl | decide +kernel); (case i13 => first | k_is | kit_is | rfl | decide +kernel); (case l13 => first | k_is | kit_is | rfl | decide +kernel); (case c13 => first | k_is | kit_is | rfl | decide +kernel); (case k13 => first | k_is | kit_is | rfl | decide +kernel); (case a14 => first | k_is | kit_is | rfl | decide +kernel); (case i14 => first | k_is | kit_is | rfl | decide +kernel); (case l14 => first | k_is | kit_is | rfl | decide +kernel); (case c14 => first | k_is | kit_is | rfl | decide +kernel); (case k14 => first | k_is | kit_is | rfl | decide +kernel); (case a15 => first | k_is | kit_is | rfl | decide +kernel); (case i15 => first | k_is | kit_is | rfl | decide +kernel); (case l15 => first | k_is | kit_is | rfl | decide +kernel); (case c15 => first | k_is | kit_is | rfl | decide +kernel); (case k15 => first | k_is | kit_is | rfl | decide +kernel); (case a16 => first | k_is | kit_is | rfl | decide +kernel); (case i16 => first | k_is | kit_is | rfl | decide +kernel); (case l16 => first | k_is | kit_is | rfl | decide +kernel); (case c16 => first | k_is | kit_is | rfl | decide +kernel); (case k16 => first | k_is | kit_is | rfl | decide +kernel); (case a17 => first | k_is | kit_is | rfl | decide +kernel); (case i17 => first | k_is | kit_is | rfl | decide +kernel); (case l17 => first | k_is | kit_is | rfl | decide +kernel); (case c17 => first | k_is | kit_is | rfl | decide +kernel); (case k17 => first | k_is | kit_is | rfl | decide +kernel); (case a18 => first | k_is | kit_is | rfl | decide +kernel); (case i18 => first | k_is | kit_is | rfl | decide +kernel); (case l18 => first | k_is | kit_is | rfl | decide +kernel); (case c18 => first | k_is | kit_is | rfl | decide +kernel); (case k18 => first | k_is | kit_is | rfl | decide +kernel); (case a19 => first | k_is | kit_is | rfl | decide +kernel); (case i19 => first | k_is | kit_is | rfl | decide +kernel); (case l19 => first | k_is | kit_is | rfl | decide +kernel); (case c19 => first | k_is | kit_is | rfl | decide +kernel); (case k19 => first | k_is | kit_is | rfl | decide +kernel); (case a20 => first | k_is | kit_is | rfl | decide +kernel); (case l20 => first | k_is | kit_is | rfl | decide +kernel); (case c20 => first | k_is | kit_is | rfl | decide +kernel); (case k20 => first | k_is | kit_is | rfl | decide +kernel); (case a21 => first | k_is | kit_is | rfl | decide +kernel); (case l21 => first | k_is | kit_is | rfl | decide +kernel); (case c21 => first | k_is | kit_is | rfl | decide +kernel); (case k21 => first | k_is | kit_is | rfl | decide +kernel); (case a22 => first | k_is | kit_is | rfl | decide +kernel); (case l22 => first | k_is | kit_is | rfl | decide +kernel); (case c22 => first | k_is | kit_is | rfl | decide +kernel); (case k22 => first | k_is | kit_is | rfl | decide +kernel); (case a23 => first | k_is | kit_is | rfl | decide +kernel); (case l23 => first | k_is | kit_is | rfl | decide +kernel); (case c23 => first | k_is | kit_is | rfl | decide +kernel); (case k23 => first | k_is | kit_is | rfl | decide +kernel); (case a24 => first | k_is | kit_is | rfl | decide +kernel); (case l24 => first | k_is | kit_is | rfl | decide +kernel); (case c24 => first | k_is | kit_is | rfl | decide +kernel); (case k24 => first | k_is | kit_is | rfl | decide +kernel); (case a25 => first | k_is | kit_is | rfl | decide +kernel); (case l25 => first | k_is | kit_is | rfl | decide +kernel); (case c25 => first | k_is | kit_is | rfl | decide +kernel); (case k25 => first | k_is | kit_is | rfl | decide +kernel); (case a26 => first | k_is | kit_is | rfl | decide +kernel); (case l26 => first | k_is | kit_is | rfl | decide +kernel); (case c26 => first | k_is | kit_is | rfl | decide +kernel); (case k26 => first | k_is | kit_is | rfl | decide +kernel); (case a27 => first | k_is | kit_is | rfl | decide +kernel); (case l27 => first | k_is | kit_is | rfl | decide +kernel); (case c27 => first | k_is | kit_is | rfl | decide +kernel); (case k27 => first | k_is | kit_is | rfl | decide +kernel); (case a28 => first | k_is | kit_is | rfl | decide +kernel); (case l28 => first | k_is | kit_is | rfl | decide +kernel); (case c28 => first | k_is | kit_is | rfl | decide +kernel); (case k28 => first | k_is | kit_is | rfl | decide +kernel); (case a29 => first | k_is | kit_is | rfl | decide +kernel); (case l29 => first | k_is | kit_is | rfl | decide +kernel); (case c29 => first | k_is | kit_is | rfl | decide +kernel); (case k29 => first | k_is | kit_is | rfl | decide +kernel); (case a30 => first | k_is | kit_is | rfl | decide +kernel); (case l30 => first | k_is | kit_is | rfl | decide +kernel); (case c30 => first | k_is | kit_is | rfl | decide +kernel); (case k30 => first | k_is | kit_is | rfl | decide +kernel); (case a31 => first | k_is | kit_is | rfl | decide +kernel); (case l31 => first | k_is | kit_is | rfl | decide +kernel); (case c31 => first | k_is | kit_is | rfl | decide +kernel); (case k31 => first | k_is | kit_is | rfl | decide +kernel); (case z1 => first | k_is | kit_is | rfl | decide +kernel); (case z2 => first | k_is | kit_is | rfl | decide +kernel); (case z3 => first | k_is | kit_is | rfl | decide +kernel); (case z4 => first | k_is | kit_is | rfl | decide +kernel); (case z5 => first | k_is | kit_is | rfl | decide +kernel); (case z6 => first | k_is | kit_is | rfl | decide +kernel); (case z7 => first | k_is | kit_is | rfl | decide +kernel); (case z8 => first | k_is | kit_is | rfl | decide +kernel); (case z9 => first | k_is | kit_is | rfl | decide +kernel); (case z10 => first | k_is | kit_is | rfl | decide +kernel); (case z11 => first | k_is | kit_is | rfl | decide +kernel); (case z12 => first | k_is | kit_is | rfl | decide +kernel); (case z13 => first | k_is | kit_is | rfl | decide +kernel); (case z14 => first | k_is | kit_is | rfl | decide +kernel); (case z15 => first | k_is | kit_is | rfl | decide +kernel); (case z16 => first | k_is | kit_is | rfl | decide +kernel); (case z17 => first | k_is | kit_is | rfl | decide +kernel); (case z18 => first | k_is | kit_is | rfl | decide +kernel); (case z19 => first | k_is | kit_is | rfl | decide +kernel); (case z20 => first | k_is | kit_is | rfl | decide +kernel); (case z21 => first | k_is | kit_is | rfl | decide +kernel); (case zd => first | k_is | kit_is | rfl | decide +kernel)
