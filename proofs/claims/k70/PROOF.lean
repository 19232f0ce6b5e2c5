import PyProof.Rows.All
import Wide.All
import OpenK.AllK
import Wide.FinOn
import HandS.ForMost
import HandS.SetFor
import HandS.Strs
import HandS.SortInts
import HandS.Conv
import KE.KDictSum
import HandS.ForExc
import HandS.Wide
import HandS.Zip
import HandS.TupAny
import HandS.RaiseMore
import HandS.IsInst
import KE.KIntText
import HandS.SortRule
import HandS.SortKw
import HandS.Star
import KE.DataMinMax
import HandS.SetBool
import HandS.Walk
import KE.GoesEnum
import HandS.TupLe
import HandS.Deep
import PyProof.P3In
import PyProof.ReprRoads
import PyProof.ReprLen
import KE.DatumOrd
import KE.KTupSum
import HandS.Sort
import KE.KDictList
import HandS.Small
import HandS.Defaults
import HandS.Style
import KE.SortData
import KE.LtData
import PyProof.CallFns
import KE.KExcIs
import HandS.Exc
import HandS.ExcIs
import HandS.ExcField
import HandS.ExcInit
import PyProof.RowDictHeap
import HandS.ExcOwn
import HandS.WordsExc
import PyProof.Lay0
import HandS.EndTab
import KE.KNest
import PyProof.EnumMake
import PyProof.Draws
import PyProof.EqKinds
import PyProof.FactsAll.dict_1
import PyProof.FactsAll.subtypes_4
import HandS.Text
import HandS.StrMore
import HandS.Codes
import PyProof.ReprBulk
import HandS.DictComp
import KE.KRevSl
import HandS.More
import PyProof.ListStr
import HandS.NestedK
import HandS.Iter
import KE.DataMinKey
import KE.KMinKey
import PyProof.InstEq
import HandS.Flow
import HandS.FStr
import HandS.TupMul
import PySem.Challenge.RW_pinnedheap_k70_texts_written_and_read
set_option Elab.async false
set_option linter.all false
set_option maxRecDepth 100000
namespace Ph
open PySem PySem.Spec PyProof.Rows L2
/-! ### set(list of ints): the members, any number of them below the line -/
abbrev sob (w : World) : Obj := { cls := .type "set", dict := none, data := .set #[] 0 (.fresh 0 0 (!w.params.followText "set-order")) }
section
variable {P : Program} {w : World} {A : Around} {E : Value → Shared → Prop} {s : Shared}
set_option maxHeartbeats 4000000 in
theorem set_of_list {l : Addr} {its : Array Value} (ns : List Int) {Q : Value → Shared → Prop} (calm : A.handled = none) (isl : s.heap.IsList l its) (ints0 : IntsAre its.toList ns) (few : ns.length + 1 < scanBound)
    (q : ∀ (g : Heap) (tk c : Nat), SetR w g s.heap.objs.size (fun j => decide (j ∈ ns)) c → c ≤ ns.length → (∀ b u, s.heap.get? b = some u → g.get? b = some u) → Q (.ref s.heap.objs.size) { s with heap := g, toks := tk }) :
    wpAny (model P w) A (call (.type "set") [.ref l]) Q E s := by
  have size : its.size = ns.length := by rw [← Array.length_toList]; exact IntsAre.length ints0
  have y1 := F.called_set.made
  have y2 := F.called_set.sub
  have y3 := F.called_set.notType
  have y4 := F.called_set.canCreate
  have y5 := F.typeCall_set_1 (.ref l)
  obtain ⟨c0, tl, y6⟩ := F.called_set.mro
  refine wpAny_call (codeAny_of_tree ?_)
  show wpAny (model P w) _ (callAny (.type "set") ⟨[.ref l], []⟩) _ _ s
  refine wpAny_pure ⟨Code.quiet_builtin _ (by decide +kernel), codeAny_builtin F.entry_type_call ?_⟩; rw [Around.under_plain (weight_type_call_type "set" [.ref l] []) rfl]
  repeat (any_goals (first | assumption | wp_step))
  refine codeAny_mono (code_set_led1 (.ref l) (E := E) (Q₁ := fun z t => z = .ref s.heap.objs.size ∧ t = { s with heap := s.heap.push (sob w) }) ⟨rfl, rfl⟩) fun r s₁ hr => ?_
  match r, hr with
  | .error e, hr => exact hr
  | .ok (.ret z), hr =>
    obtain ⟨rfl, rfl⟩ := hr
    have at0 : (s.heap.push (sob w)).get? s.heap.objs.size = some (sob w) := Heap.get?_push_size _ rfl
    have ty0 : Shared.TypeIs { s with heap := s.heap.push (sob w) } (.ref s.heap.objs.size) "set" := ⟨_, at0, rfl⟩
    have y7 := F.called_set.init.lookup
    have y8 := F.called_set.init.bind (.ref s.heap.objs.size)
    repeat (any_goals (first | assumption | wp_step))
    refine codeAny_mono (codeAny_call_builtin (R := wants (fun r t => r = .none ∧ ∃ g tk c, t = { s with heap := g, toks := tk } ∧ SetR w g s.heap.objs.size (fun j => decide (j ∈ ns)) c ∧ c ≤ ns.length ∧ (∀ b u, s.heap.get? b = some u → g.get? b = some u)) E)
      F.called_set.init.plain F.entry_set_init (check_set_init_1 ty0 ?_)) fun r₂ s₂ hr₂ => ?_
    · obtain ⟨⟨oc, od, dt, os⟩, hol, ec, nl, ed⟩ := isl
      cases ec; cases ed
      have hol1 : (s.heap.push (sob w)).get? l = some { cls := .type "list", dict := od, data := .seq its nl, slots := os } := Heap.get?_push_of_some _ hol
      have y9 := F.sub_list_set
      have y10 := F.sub_list_frozenset
      have y11 : (Value.type "list" == Value.type "dict") = false := by decide
      have isl1 : (s.heap.push (sob w)).IsList l its := ⟨_, hol1, rfl, nl, rfl⟩
      unfold Builtin.«set.__init__» noKeywords Builtin.Frozenset.updateFrom
      generalize hPI : pyIter = PI; wp_walk; subst hPI
      refine wpAny_pyIter_list isl1 (wpAny_bind (wpAny_runValue ?_))
      have lS : l < s.heap.objs.size := Heap.lt_size hol
      have sz1 : (s.heap.push (sob w)).objs.size = s.heap.objs.size + 1 := Heap.size_push ..
      have calm3 : A.in1.in1.in1.handled = none := by simp [calm]
      refine set_update_ints ((Walks.list calm3 (s.heap.push (sob w)).objs.size l (by rw [sz1]; exact Nat.ne_of_lt (Nat.lt_succ_of_lt lS)) its).toS) s.heap.objs.size ?_ ns size few ?_ (its.size - 0) 0 _ (by omega) (Nat.zero_le _) ⟨⟨_, Heap.get?_push_size _ rfl, rfl, rfl⟩, isl1.push _⟩ ?_ ?_
      · rw [sz1]
        intro z
        rcases List.mem_cons.mp z with e | e
        · exact Nat.ne_of_lt (Nat.lt_succ_self _) e
        · exact Nat.ne_of_gt lS (List.mem_singleton.mp e)
      · intro i v hv
        have hi : i < ns.length := by rw [← size]; exact (Array.getElem?_eq_some_iff.mp hv).1
        obtain ⟨t, e⟩ := PyProof.Rows.IntsAre.int_at ints0 i v (by rw [Array.getElem?_toList]; exact hv)
        exact ⟨ns[i], t, List.getElem?_eq_getElem hi, by rw [e, List.getD_eq_getElem?_getD, List.getElem?_eq_getElem hi]; rfl⟩
      · exact ⟨0, Nat.le_refl 0, setR_new_at (Heap.get?_push_of_some _ at0)⟩
      · rintro ⟨g, g2, d', tk', os'⟩ c hm hc hS
        cases (show g2 = s.gens from hm.gens)
        cases (show d' = s.drawn from hm.drawn)
        cases (show os' = s.os from hm.os)
        rw [size] at hc
        show wpAny _ _ _ _ _ _
        refine wpAny_pure ?_
        show wpAny _ _ (ret Value.none) _ _ _
        refine wpAny_pure ⟨rfl, g, tk', c, rfl, hS, hc, fun b u e => hm.heap b u (fun z => ?_) (Heap.get?_push_of_some _ (Heap.get?_push_of_some _ e))⟩
        have hb := Heap.lt_size e
        rw [sz1] at z
        rcases List.mem_cons.mp z with e | e
        · exact Nat.ne_of_lt hb e
        · exact Nat.ne_of_lt (Nat.lt_succ_of_lt hb) (List.mem_singleton.mp e)
    · match r₂, hr₂ with
      | .error e, h => exact h
      | .ok (.ret r), h =>
        obtain ⟨rfl, g, tk, c, rfl, h1, h2, h3⟩ := h
        repeat (any_goals (first | assumption | wp_step))
        exact q _ _ _ h1 h2 h3
      | .ok .next, h => exact h.elim
end
section
variable {X : Cx}
/-- set(xs), xs a list of ints -/
def rSetI (K : PySem.W.Frag) (w : World) : List V → Hp → VK → Prop := fun vs H Q => ∃ (l : Addr) (ns : List Int), vs = [V.ref l] ∧ SqL K H l (ns.map V.int) ∧ ns.length + 1 < scanBound ∧
  ∀ a c, H a = none → (ns.Nodup → c = ns.length) → Q (.ref a) (upd H a (SetO w a (fun j => decide (j ∈ ns)) c))
theorem cr_setI (hc : X.calm = true) : CallR X (.type "set") (rSetI X.K X.w) := by
  intro pins s σ H vs us Q I r h
  obtain ⟨l, ns, rfl, hl, few, q⟩ := h
  obtain ⟨its, rv, pl, hz⟩ := I.list hl
  rw [Vals.ref1 r]
  refine set_of_list ns (I.ok.hd hc) pl.isList (by simpa using rv.ints) few fun g tk c R _ k => ?_
  refine ⟨.ref _, upd H s.heap.objs.size (SetO X.w s.heap.objs.size (fun j => decide (j ∈ ns)) c), I.laid (t' := tk) k (Nat.le_refl _) (setO_new R), rfl, q _ _ (I.hok.fresh (Nat.le_refl _)) fun nd => ?_⟩
  obtain ⟨o, es, ep, t, ho, hex, hd, good, nd2, mem, _, _, hn, _⟩ := R
  have pm : (es.toList.map keyOf).Perm ns := (List.perm_ext_iff_of_nodup nd2 nd).mpr fun k => by rw [← mem k]; exact decide_eq_true_iff
  rw [← hn, ← pm.length_eq, List.length_map, Array.length_toList]
end
end Ph

namespace Ph
open PySem PySem.Spec PyProof.Rows L2
section
variable {P : Program} {w : World} {A : Around} {E : Value → Shared → Prop} {s : Shared}
/-- sorted(set of ints), any number of members -/
theorem sorted_of_set {a : Addr} {S : Int → Bool} {n : Nat} {Q : Value → Shared → Prop} (R : SetR w s.heap a S n) (calm : A.handled = none)
    (q : ∀ t p (out : Array Value) (c : Nat) (ns : List Int), (∀ b u, s.heap.get? b = some u → t.heap.get? b = some u) → t.gens = s.gens → t.os = s.os → s.heap.objs.size ≤ p → t.heap.get? p = some (seqObj "list" out c) → IntsAre out.toList ns → ns.Pairwise (· < ·) → (∀ k, k ∈ ns ↔ S k = true) → ns.length = n → Q (.ref p) t) :
    wpAny (model P w) A (call (.builtin "sorted") [.ref a]) Q E s := by
  obtain ⟨o, es, ep, t, ho, hex, hd, good, nd, mem, few, fits, hn, ris, led⟩ := R
  refine Calls.call_function_entry kind_sorted plain_sorted entry_sorted (args_sorted1 _) ?_; unfold Builtin.«sorted»
  refine wpAny_bind (m := checkCount "sorted" 1 1 _) (wpAny_pure (wpAny_bind (collect_set (A := A.in1) calm ⟨o, ho, hex.1, hd⟩ fits few ris led fun s1 vs k1 hz g1 o1 pm => ?_)))
  have lenv : vs.length = n := by rw [pm.length_eq, List.length_map, Array.length_toList]; exact hn
  have bound : vs.length ≤ sizeLine := by rw [lenv, ← hn]; exact Nat.le_trans (Nat.le_of_lt few) (by decide +kernel)
  have isI : ∀ v ∈ vs, ∃ k tk, v = Value.int k tk := fun v hv => by
    obtain ⟨e, he, q1⟩ := List.mem_map.mp (pm.mem_iff.mp hv)
    obtain ⟨k, tk, h1, _⟩ := good e he
    exact ⟨k, tk, q1 ▸ h1⟩
  have hI := SrtO.ints_iv isI
  have keys : (vs.map SrtO.iv).Perm (es.toList.map keyOf) := by
    have z := pm.map SrtO.iv
    rw [List.map_map] at z
    refine z.trans (List.Perm.of_eq (List.map_congr_left fun e he => ?_))
    obtain ⟨k, tk, h1, h2⟩ := good e he
    show SrtO.iv e.2 = keyOf e
    rw [key_vInt, h1]
    rfl
  refine wpAny_bind (wpAny_newList ?_ bound)
  have at1 : (s1.heap.push (seqObj "list" vs.toArray 0)).get? s1.heap.objs.size = some (seqObj "list" vs.toArray 0) := Heap.get?_push_size _ rfl
  refine wpAny_bind (wpAny_holding (wpAny_call_entry slot_list_sort ⟨_, at1, rfl⟩ entry_list_sort (SrtO.list_sort_ord SrtO.swo_int at1 bound (fun h2 => SrtO.ints_sortable hI h2) fun out b1 b2 => ⟨_, rfl, ?_⟩) (args_list_sort _)))
  obtain ⟨k2, k3, k4⟩ := SrtO.ints_out hI b1 b2
  obtain ⟨c, hc⟩ := sortedHeap_at (vs := vs) (out := out.toArray) at1
  have pn := k3.trans keys
  refine wpAny_pure ⟨_, rfl, q _ s1.heap.objs.size out.toArray c (out.map SrtO.iv) (fun b u e => ?_) g1 o1 hz hc (by simpa using k2) (lt_of_le_nodup _ k4 (pn.nodup_iff.mpr nd)) (fun k => by rw [pn.mem_iff, ← mem k]) ?_⟩
  · have z := k1 b u e
    have lt := Heap.lt_size z
    show (sortedHeap (s1.heap.push (seqObj "list" vs.toArray 0)) s1.heap.objs.size vs out.toArray).get? b = some u
    rw [sortedHeap_old (Nat.ne_of_lt lt) (by rw [size_push']; exact Nat.lt_succ_of_lt lt)]
    exact Heap.get?_push_of_some _ z
  · rw [pn.length_eq, List.length_map, Array.length_toList]; exact hn
end
section
variable {X : Cx}
def rSortedS2 (w : World) : List V → Hp → VK → Prop := fun vs H Q => ∃ (a : Addr) (S : Int → Bool) (n : Nat), vs = [V.ref a] ∧ H a = some (SetO w a S n) ∧
  ∀ (ns : List Int) (p : Addr), ns.Pairwise (· < ·) → (∀ k : Int, k ∈ ns ↔ S k = true) → H p = none → Q (.ref p) (upd H p (.lst (ns.map V.int)))
theorem cr_sortedS2 (hc : X.calm = true) : CallR X (.builtin "sorted") (rSortedS2 X.w) := by
  intro pins s σ H vs us Q I r h
  obtain ⟨a, S, n, rfl, ha, q⟩ := h
  have R := setO_get I ha
  have few : n < scanBound := by
    obtain ⟨_, es, _, _, _, _, _, _, _, _, few, _, hn, _⟩ := R
    rw [← hn]; exact few
  rw [Vals.ref1 r]
  refine sorted_of_set R (I.ok.hd hc) fun t p out c ns k g o hp hg hi hs hm hl => ?_
  have len : (ns.map V.int).length ≤ sizeLine := by rw [List.length_map, hl]; exact Nat.le_trans (Nat.le_of_lt few) (by decide +kernel)
  have J : Inv X pins σ (upd H p (.lst (ns.map V.int))) { s with heap := t.heap, gens := t.gens, drawn := t.drawn, toks := t.toks } :=
    I.call (ch := []) (Un.laid k hp (I.hok.fresh hp)) (I.hok.laid k hp ⟨len, out.toList, c, vals_of_ints hi, hg⟩) (g ▸ I.bare) (fun _ z => nomatch z)
  have e : t = { s with heap := t.heap, gens := t.gens, drawn := t.drawn, toks := t.toks } := by
    obtain ⟨h1, h2, h3, h4, h5⟩ := t
    cases o
    rfl
  rw [e]
  exact ⟨.ref p, _, J, rfl, q ns p hs hm (I.hok.fresh hp)⟩
/-- len(set of ints) -/
def rLenSet (w : World) : List V → Hp → VK → Prop := fun vs H Q => ∃ (a : Addr) (S : Int → Bool) (n : Nat), vs = [V.ref a] ∧ H a = some (SetO w a S n) ∧ Q (.int n) H
theorem cr_lenSet : CallR X (.builtin "len") (rLenSet X.w) := by
  intro pins s σ H vs us Q I r h
  obtain ⟨a, S, n, rfl, ha, q⟩ := h
  obtain ⟨o, es, ep, t, ho, hex, hd, _, _, _, few, fits, hn, _⟩ := setO_get I ha
  rw [Vals.ref1 r]
  refine call_len_set ho hex hd fits ?_ ⟨.int n, H, I.tok _, ⟨_, by rw [← hn]⟩, q⟩
  have h1 : (es.size : Int) < scanBound := Int.ofNat_lt.mpr few
  exact Int.lt_of_lt_of_le h1 (by decide +kernel)
/-- t.index(k), a tuple of ints: the first place -/
theorem flat_ints (ys : List Int) : (ys.map V.int).all flatV = true := by
  rw [List.all_map]
  exact List.all_eq_true.mpr fun _ _ => rfl
theorem mt_tindexI : MtR X "tuple.index" (fun x xs H Q => ∃ p, ∃ ys : List Int, ∃ z j, x = .ref p ∧ xs = [.int z] ∧ SqT X.K H p (ys.map V.int) ∧ ys[j]? = some z ∧ (∀ m, m < j → ys[m]? ≠ some z) ∧ Q (.int (j : Nat)) H) := by
  intro pins s σ H x xs v us Q I rx rs h
  obtain ⟨p, ys, z, j, rfl, rfl, hq, hy, hno, q⟩ := h
  cases rx
  obtain ⟨u, rfl, t, rfl⟩ := vals1 rs
  obtain ⟨its, r, ⟨⟨cls, dd, dt, sl⟩, ho, hc, n, hd⟩, hz⟩ := I.tuple hq
  cases hc
  cases hd
  have len : its.toArray.size = ys.length := by rw [List.size_toArray, ← r.length, List.length_map]
  have at' : ∀ (m : Nat) (hm : m < its.toArray.size), ∃ y t', ys[m]? = some y ∧ its.toArray[m] = Value.int y t' := fun m hm => by
    have hm' : m < ys.length := len ▸ hm
    obtain ⟨w, hw, t', hw'⟩ := r.get (i := m) (x := .int ys[m]) (by simp [hm'])
    refine ⟨ys[m], t', List.getElem?_eq_getElem hm', ?_⟩
    rw [← hw', ← (List.getElem?_eq_some_iff.mp hw).2]
    simp
  have hj : j < its.toArray.size := by rw [len]; exact (List.getElem?_eq_some_iff.mp hy).1
  refine call_meets PySem.F.slot_tuple_index ⟨_, ho, rfl⟩ PySem.F.entry_tuple_index (PySem.F.args_tuple_index_2 _ _) (TI.tuple_indexAt p its.toArray n dd sl (.int z t) (eqU (.int z)) j hj ?_ ?_)
    ⟨ho, fun w hw => mem_eqAt (x := .int z) ⟨t, rfl⟩ rfl r (flat_ints ys) w (by simpa using hw), ⟨.int (j : Nat), H, I.tok _, ⟨_, rfl⟩, q⟩⟩
  · obtain ⟨y, t', h1, h2⟩ := at' j hj
    rw [hy] at h1
    cases h1
    rw [h2]
    show decide (z = z) = true
    exact decide_eq_true rfl
  · intro m hm hmj
    obtain ⟨y, t', h1, h2⟩ := at' m hm
    rw [h2]
    show decide (y = z) = false
    exact decide_eq_false fun e => hno m hmj (e ▸ h1)
end
end Ph

namespace Ph
open PySem PySem.Spec PyProof.Rows L2
/-! ### a tuple whose object is known: it has no dict of its own, so its methods can be called -/
def ChAt (H : Hp) (c : Addr) (C : List Int) : Prop := ∃ o : Obj, o.dict = none ∧ H c = some (.frz o (.tup (C.map V.int)))
theorem ChAt.sq {K : PySem.W.Frag} {H : Hp} {c : Addr} {C : List Int} (h : ChAt H c C) : SqT K H c (C.map V.int) := let ⟨o, _, e⟩ := h; .inl (.inr ⟨o, e⟩)
theorem ChAt.keep {H H' : Hp} {c : Addr} {C : List Int} (h : ChAt H c C) (s : ∀ b o, H b = some o → H' b = some o) : ChAt H' c C := let ⟨o, d, e⟩ := h; ⟨o, d, s _ _ e⟩
section
variable {X : Cx}
/-- tuple(list): a new one -/
theorem call_tuple_frz : CallR X (.type "tuple") (fun xs H Q => ∃ p ys, xs = [.ref p] ∧ SqL X.K H p ys ∧ ∀ l (o : Obj), H l = none → o.dict = none → Q (.ref l) (upd H l (.frz o (.tup ys)))) := by
  intro pins s σ H xs us Q I r h
  obtain ⟨p, ys, rfl, hq, q⟩ := h
  obtain ⟨u, rfl, rx⟩ := vals1 r
  cases rx
  obtain ⟨its, r', pl, hz⟩ := I.list hq
  have len := r'.length
  refine call_tuple_list pl.isList (fun g k => ?_) (by rw [List.size_toArray]; omega)
  have J := I.kept (t' := s.toks) k
  refine ⟨.ref g.objs.size, _, J.laid (t' := s.toks) (o := .frz { cls := .type "tuple", data := .seq its.toArray } (.tup ys)) (fun b u e => Heap.get?_push_of_some _ e) (Nat.le_refl _) ⟨Heap.get?_push_size _ rfl, hz, its, r', IsTup.new _ _⟩, rfl, q _ _ (J.hok.fresh (Nat.le_refl _)) rfl⟩
variable {o e : Expr} {es : List Expr} {to : TE} {t : TA} {apos cpos : Pos} {name : Str} {id : String} {r : V → List V → Hp → VK → Prop}
/-- c.m(..), c such a tuple -/
def tBT (r : V → List V → Hp → VK → Prop) (to : TE) (t : TA) : TE := fun σ H Q => to σ H fun x H1 => (∃ c C, x = .ref c ∧ ChAt H1 c C) ∧ t σ H1 fun xs H2 => r x xs H2 Q
theorem pe_bmT (slot : Slot "tuple" name id) (hty : typeOf (.builtin id) = pure (.type "method_descriptor")) (hm : MtR X id r) (ho : PE X o to) (ha : PA X (e :: es) t)
    (hbase : attributeBase o name X.env (eval o X.env) = eval o X.env := by rfl)
    (hfew : ((backTo cpos (starEach (e :: es) X.env)).all (fun x => !x.1) && (backToKw cpos (keywordEach [] X.env)).all (fun x => x.1.isSome) && decide ((e :: es).length + ([] : List Keyword).length + (if ([] : List Keyword).isEmpty then 0 else 1) < 30)) = true := by rfl)
    (hline : (apos.endLine == cpos.line) = true := by rfl) (hse : starEach (e :: es) X.env = (false, eval e X.env) :: starEach es X.env := by rfl) (hpl : (backTo cpos (starEach es X.env)).any (·.1) = false := by rfl) :
    PE X (.Call (.Attribute o name apos) (e :: es) [] cpos) (tBT r to t) := ⟨fun pins s σ H Q I h => by
  refine wpAny_Call_method_late hbase hfew hline rfl (thn (ho.run pins s σ H _ I h) fun v s1 ⟨x, H1, I1, r1, ⟨c, C, ex, oc, od, hc⟩, q1⟩ => ?_)
  subst ex
  cases r1
  obtain ⟨g, _, its, _, ⟨u, hu, hcl, _⟩⟩ := I1.hok c _ hc
  rw [g] at hu
  cases hu
  have hA := ha.run cpos pins s1 σ H1 _ I1 q1
  refine ⟨"tuple", id, PySem.F.plainAttrs_tuple, slot, hty, ⟨oc, g, hcl⟩, fun a z => by cases z; exact ⟨oc, g, od⟩, ?_⟩
  rw [hse] at hA ⊢
  refine Calls.callWith_builtin (by show (false || (backTo cpos (starEach es X.env)).any (·.1)) = false; rw [hpl]; rfl) (Calls.evalArgs_plain (thn hA fun us s2 ⟨vs, H2, I2, r2, q2⟩ => hm pins s2 σ H2 (.ref c) vs (.ref c) us Q I2 rfl r2 q2))⟩
end
end Ph

namespace Ph
open PySem PySem.Spec PyProof.Rows L2 PySem.NumText PySem.Calls
/-! ### the limit on digits stands as it was at the beginning -/
theorem noDigits_of {K : PySem.W.Frag} {h : Heap} (X : K.In h) (L : h.NoLimit) (e : PySem.W.nsIn K cStatics "sys.int_max_str_digits" = some none) : h.NoDigits := by
  obtain ⟨mc, G, _⟩ := L
  refine ⟨mc, G, ?_⟩
  obtain ⟨o, es, ep, ho, hd, _, hf⟩ := G
  unfold PySem.W.nsIn at e
  split at e
  · rename_i c d es' n' sl q
    have := X _ _ q
    rw [ho] at this
    cases this
    cases hd
    split at e
    · cases e
    · rename_i he
      rw [← hf]
      unfold nsFind findBy
      rw [← Array.find?_toList, he]
      rfl
  · cases e
theorem wp_digits {M : Model} {A : Around} {E : Value → Shared → Prop} {s : Shared} {Q : Nat → Shared → Prop} (hn : s.heap.NoDigits) (h : Q 4300 s) : wpAny M A Builtin.intMaxStrDigits Q E s := by
  obtain ⟨mc, hns, hnone⟩ := hn
  unfold Builtin.intMaxStrDigits
  refine wpAny_bind (wpAny_nsGet hns ?_)
  rw [hnone]
  exact wpAny_pure h
/-! ### int(text) of more than 640 digits -/
theorem wp_textW {M : Model} {A : Around} {E : Value → Shared → Prop} {s : Shared} {Q : Value → Shared → Prop} {v : Value} {text : List Nat} {n : Int} (hn : s.heap.NoDigits)
    (hs : ¬ (text.takeWhile (· != 0)).length ≤ 640) (hr : (int_private% "readNumeral") 4300 10 (text.takeWhile (· != 0)) = (int_private% "Numeral.value") n)
    (ha : ((text.takeWhile (· != 0)).length == text.length) = true) (h : Q (.int n s.toks) { s with toks := s.toks + 1 }) :
    wpAny M A ((int_private% "intFromText") v text 10) Q E s := by
  show wpAny M A (if (text.takeWhile (· != 0)).length ≤ 640 then _ else (Builtin.intMaxStrDigits >>= _)) Q E s
  rw [if_neg hs]
  refine wpAny_bind (wp_digits hn ?_)
  dsimp only
  rw [hr]
  dsimp only
  rw [if_pos ha]
  exact wpAny_mkInt h
set_option maxHeartbeats 4000000 in
theorem meets_textW {x : PySem.Str} {u : Tok} {n : Int} (hs : ¬ (numSeenOf x).length ≤ 640) (hr : (int_private% "readNumeral") 4300 10 (numSeenOf x) = (int_private% "Numeral.value") n) (ha : ((numSeenOf x).length == (numTextOf x).length) = true) :
    Meets (Builtin.«int.__new__» ⟨[.type "int", .str x u], []⟩) (fun _ R s => s.heap.NoDigits ∧ R (.ok (.ret (.int n s.toks))) { s with toks := s.toks + 1 }) :=
  .of_wp fun prog w A R s h => by
    obtain ⟨hn, h⟩ := h
    obtain ⟨hp, g, d, tk, os⟩ := s
    have f1 := F.conv_sub_int
    have f2 := F.madeHere_int
    have f3 := PySem.W.KIN.str_int
    have f4 := PySem.W.KIN.str_idx
    have f5 := PySem.W.KIN.str_trunc
    have f6 : typeOf (.str x u) = pure (.type "str") := rfl
    have hk := PySem.W.KIN.Hid.mk (And.intro hs (And.intro hr ha))
    have hk2 := PySem.W.KIN.Hid.mk hn
    clear hs hr ha hn
    repeat (any_goals (first
      | assumption
      | ((with_reducible show wpAny _ _ ((int_private% "intFromText") _ _ _) _ _ _); refine wp_textW hk2.out hk.out.1 hk.out.2.1 hk.out.2.2 ?_)
      | wp_step))
    all_goals first | exact ⟨_, rfl, h⟩ | skip
def big9 : PySem.Str := (Str.ofString "1") ++ Txt.mul (Str.ofString "0") 900
theorem reps_list (c : Nat) : ∀ (k : Nat) (acc : Array Nat), ((List.replicate k (#[c] : Array Nat)).foldl (· ++ ·) acc).toList = acc.toList ++ List.replicate k c
  | 0, acc => by simp
  | k + 1, acc => by
    rw [List.replicate_succ, List.foldl_cons, reps_list c k, List.replicate_succ]
    simp
theorem zeros_list : (Txt.mul (Str.ofString "0") 900).cps.toList = List.replicate 900 48 := by
  have e : Txt.mul (Str.ofString "0") 900 = ⟨(List.replicate 900 (#[48] : Array Nat)).foldl (· ++ ·) #[]⟩ := by
    unfold Txt.mul
    rw [if_neg (by decide), if_neg (by decide +kernel)]
    rfl
  rw [e]
  exact reps_list 48 900 #[]
theorem big9_list : big9.cps.toList = 49 :: List.replicate 900 48 := by
  have e : big9.cps.toList = (Str.ofString "1").cps.toList ++ (Txt.mul (Str.ofString "0") 900).cps.toList := Array.toList_append
  rw [e, zeros_list]
  rfl
theorem big9_digits : AllDigits big9.cps.toList := by
  rw [big9_list]
  intro d hd
  rcases List.mem_cons.mp hd with e | e
  · subst e; decide
  · rw [(List.mem_replicate.mp e).2]; decide
theorem digits_zeros : ∀ (k a : Nat), (List.replicate k 48).foldl (fun acc c => acc * 10 + (c - 48)) a = a * 10 ^ k
  | 0, a => by simp
  | k + 1, a => by
    rw [List.replicate_succ, List.foldl_cons, digits_zeros k, Nat.pow_succ]
    show (a * 10 + 0) * 10 ^ k = a * (10 ^ k * 10)
    rw [Nat.add_zero, Nat.mul_assoc, Nat.mul_comm 10 (10 ^ k)]
theorem big9_val : digitsVal big9.cps.toList = 10 ^ 900 := by
  rw [big9_list]
  unfold digitsVal
  rw [List.foldl_cons, digits_zeros]
  show (0 * 10 + 1) * 10 ^ 900 = 10 ^ 900
  rw [Nat.zero_mul, Nat.zero_add, Nat.one_mul]
theorem big9_length : big9.length = 901 := by
  have e : big9.cps.toList.length = big9.length := Array.length_toList
  rw [← e, big9_list, List.length_cons, List.length_replicate]
theorem ten_ex : ∃ t : Int, intText? big9 = some t ∧ 0 < t ∧ t.natAbs < 2 ^ 3000 := by
  refine ⟨_, intText_digits big9_digits (by rw [big9_list]; exact List.cons_ne_nil _ _) (by rw [big9_length]; decide), ?_, ?_⟩
  · rw [big9_val]
    exact Int.natCast_pos.mpr (Nat.pow_pos (by decide))
  · rw [big9_val, Int.natAbs_natCast]
    decide +kernel
noncomputable def ten9 : Int := Classical.choose ten_ex
theorem big9_int : intText? big9 = some ten9 := (Classical.choose_spec ten_ex).1
theorem ten9_pos : 0 < ten9 := (Classical.choose_spec ten_ex).2.1
theorem ten9_lt : ten9.natAbs < 2 ^ 3000 := (Classical.choose_spec ten_ex).2.2
theorem big9_text : numTextOf big9 = big9.cps.toList ∧ numSeenOf big9 = big9.cps.toList := numText_signs fun c hc => Or.inr (big9_digits c hc)
theorem big9_seen : ¬ (numSeenOf big9).length ≤ 640 := by
  rw [big9_text.2, big9_list, List.length_cons, List.length_replicate]
  decide
theorem big9_all : ((numSeenOf big9).length == (numTextOf big9).length) = true := by
  rw [big9_text.1, big9_text.2]
  exact beq_self_eq_true _
theorem big9_read : (int_private% "readNumeral") 4300 10 (numSeenOf big9) = (int_private% "Numeral.value") ten9 := by
  rcases read4300 big9 (by rw [big9_length]; decide) with ⟨n, h1, h2, h3⟩ | ⟨h1, _⟩
  · rw [Option.some.inj (big9_int.symm.trans h1)]
    exact h3
  · rw [big9_int] at h1
    cases h1
theorem zeros_length : (Txt.mul (Str.ofString "0") 900).length = 900 := by
  have e : (Txt.mul (Str.ofString "0") 900).cps.toList.length = (Txt.mul (Str.ofString "0") 900).length := Array.length_toList
  rw [← e, zeros_list, List.length_replicate]
theorem big9_len : (Str.ofString "1").length + (Txt.mul (Str.ofString "0") 900).length ≤ sizeLine := by
  rw [zeros_length]
  decide +kernel
theorem zeros_ok : MulOk (Str.ofString "0") 900 := ⟨by decide, fun _ _ => by decide +kernel, fun _ _ => by decide +kernel⟩
section
variable {X : Cx}
theorem Inv.noDigits {pins : List (Addr × Obj)} {σ : List (Option V)} {H : Hp} {s : Shared} (I : Inv X pins σ H s) (e : PySem.W.nsIn X.K cStatics "sys.int_max_str_digits" = some none) : s.heap.NoDigits :=
  (noDigits_of I.ok.mod.kin I.ok.mod.nolimit e).keeps I.bk
theorem call_big9 (e : PySem.W.nsIn X.K cStatics "sys.int_max_str_digits" = some none) : CallR X (.type "int") (fun xs H Q => xs = [.str big9] ∧ Q (.int ten9) H) := by
  intro pins s σ H xs us Q I r h
  obtain ⟨rfl, q⟩ := h
  obtain ⟨u, rfl, t, rfl⟩ := vals1 r
  exact call_int_1 (meets_textW big9_seen big9_read big9_all) ⟨Inv.noDigits I e, ⟨typeIs_int _ _ _, ⟨.int ten9, H, I.tok _, ⟨_, rfl⟩, q⟩⟩⟩
/-- text * number -/
theorem op_repS : OpR X (binaryOp .Mult) (fun x y H Q => ∃ z k, x = .str z ∧ y = .int k ∧ MulOk z k ∧ Q (.str (Txt.mul z k)) H) := by
  intro pins s σ H x y v u Q I rx ry h
  obtain ⟨i, j, rfl, rfl, hz, q⟩ := h
  obtain ⟨t, rfl⟩ := rx
  obtain ⟨t', rfl⟩ := ry
  exact SB.mul hz (fun t' k => ⟨.str _, H, I.tok _, ⟨_, rfl⟩, q⟩)
theorem iop_mulW : OpR X (inplaceOp .Mult) (rI CMulW fun i j => .int (i * j)) := opI fun _ _ _ _ _ _ _ hc q => imul_int q hc.ok
theorem ip_mulW : PIp X .Mult (fun x y H Q => ∃ i j, x = .int i ∧ y = .int j ∧ CMulW i j ∧ Q (.int (i * j)) H) := by
  intro pins s σ H x y v u Q I r1 r2 h
  obtain ⟨i, j, e1, e2, hc, q⟩ := h
  subst e1; subst e2
  obtain ⟨t, rfl⟩ := r1
  obtain ⟨t', rfl⟩ := r2
  exact imul_int ⟨.int _, H, I.tok _, ⟨_, rfl⟩, q⟩ hc.ok
theorem repr_wide {prog : Program} {w : World} {A : Around} {E : Value → Shared → Prop} {s : Shared} {a : Int} {t : Tok} {Q : Value → Shared → Prop} (hn : s.heap.NoDigits) (hlt : a.natAbs < 10 ^ 4300) (h : Q (.str (toString a) s.toks) { s with toks := s.toks + 1 }) :
    wpAny (model prog w) A (call (.builtin "repr") [.int a t]) Q E s := by
  refine Calls.call_function_entry F.kind_repr F.plain_repr F.entry_repr (F.args_repr1 _) ?_
  unfold Builtin.«repr»
  refine wpAny_bind (m := oneArg "repr" _) (wpAny_pure ?_)
  have hv : [Value.int a t].any Value.onHeap = false := rfl
  simp only [cRoomFor, hv, Bool.false_eq_true, if_false, pure_bind]
  refine wpAny_bind (wpAny_specialOf (name := Str.ofString "__repr__") (typeIs_int s a t) F.slot_int_repr.lookup ?_)
  refine wpAny_bind (m := callSpecialIfBound? (.int a t) (Str.ofString "__repr__")) (wpAny_callSpecialIfBound?_slot (name := Str.ofString "__repr__") (typeIs_int s a t) F.slot_int_repr ?_)
  refine wpAny_call_entry F.slot_int_repr (typeIs_int s a t) F.entry_int_repr ?_ (F.args_int_repr_1 _)
  unfold Builtin.«int.__repr__»
  show wpAny _ _ (do let r ← Builtin.overDigitLimit? a; _) _ _ s
  refine wpAny_bind (overDigitLimit_any hn (fun hlt => ?_) (fun hge => absurd hlt (Nat.not_lt.mpr hge)))
  refine wpAny_bind (wpAny_mkStr (wpAny_pure ⟨_, rfl, ?_⟩) (int_text_fits10 hlt))
  refine wpAny_bind (wpAny_isInstance (T := "str") (b := true) rfl isSubtype_str_str ?_)
  exact wpAny_pure ⟨_, rfl, h⟩
theorem call_reprW (e : PySem.W.nsIn X.K cStatics "sys.int_max_str_digits" = some none) : CallR X (.builtin "repr") (fun xs H Q => ∃ i, xs = [.int i] ∧ i.natAbs < 10 ^ 4300 ∧ Q (.str (toString i)) H) := by
  intro pins s σ H xs us Q I r h
  obtain ⟨i, rfl, hz, q⟩ := h
  obtain ⟨u, rfl, t, rfl⟩ := vals1 r
  exact repr_wide (Inv.noDigits I e) hz ⟨.str _, H, I.tok _, ⟨_, rfl⟩, q⟩
end
end Ph

namespace Ph
open PySem PySem.Spec PyProof.Rows L2 PySem.Calls
section
variable {X : Cx}
/-- d.update(e), both tracked dicts -/
def rDUp : V → List V → Hp → VK → Prop := fun x vs H Q => ∃ (a b : Addr) (ks ls : List (Key × V)), x = .ref a ∧ vs = [.ref b] ∧ a ≠ b ∧ H a = some (.dK ks) ∧ H b = some (.dK ls) ∧ ks.length + ls.length ≤ sizeLine ∧ Q .non (upd H a (.dK (mergeK ks ls)))
theorem mtd_update : MtR X "dict.update" rDUp := by
  intro pins s σ H x vs v us Q I rx rv h
  obtain ⟨a, b, ks, ls, rfl, rfl, nab, ea, eb, hz, q⟩ := h
  cases rx
  obtain ⟨u, rfl, ru⟩ := rv.one
  cases ru
  obtain ⟨za, hda, va, ra, da⟩ := dk_of I.hok ea
  obtain ⟨zb, hdb, vb, rb, db⟩ := dk_of I.hok eb
  refine call_meetsIn PySem.F.slot_dict_update da.typeIs PySem.F.entry_dict_update (PySem.F.args_dict_update_2 _ _) (meets_dict_update (mixKind X.prog X.w) a b nab hdb) ⟨va, vb, da, db, by rw [← ra.length, ← rb.length]; exact hz, fun h' d1 d2 sb => ?_⟩
  have he : ∃ o, h'.get? a = some o := let ⟨o, _, _, ho, _⟩ := d1; ⟨o, ho⟩
  exact ⟨.non, _, d_write (t' := s.toks) I (by rw [ea]; exact True.intro) sb he (dk_new (Nat.le_trans (length_mergeK ls ks) hz) hda (rb.merge ra) d1), rfl, q⟩
end
/-- which ints are keys -/
def hasI (kvs : List (Key × V)) (i : Int) : Bool := (valV kvs (Sum.inl i)).isSome
theorem hasI_merge : ∀ (more kvs : List (Key × V)) (i : Int), hasI (mergeK kvs more) i = (hasI kvs i || more.any fun kv => decide (kv.1 = Sum.inl i))
  | [], kvs, i => by
    show hasI kvs i = (hasI kvs i || false)
    rw [Bool.or_false]
  | kv :: r, kvs, i => by
    have e : mergeK kvs (kv :: r) = mergeK (putK kvs kv.1 kv.2) r := rfl
    rw [e, hasI_merge r, List.any_cons]
    unfold hasI
    rw [valV_put]
    by_cases h : (Sum.inl i : Key) = kv.1
    · rw [if_pos h, h]
      simp
    · rw [if_neg h, decide_eq_false (fun z => h z.symm), Bool.false_or]
end Ph

namespace Ph
open PySem PySem.Spec PyProof.Rows L2
/-! ### max(ints, default=d) -/
def mxd (d : Int) : List Int → Int
  | [] => d
  | n :: r => r.foldl max n
theorem alike_ints (ns : List Int) : PySem.W.AlikeAll (ns.map PyData.int) := by
  refine ⟨fun x hx y hy => ?_, fun x hx => ?_⟩
  · obtain ⟨a, _, rfl⟩ := List.mem_map.mp hx
    obtain ⟨b, _, rfl⟩ := List.mem_map.mp hy
    rfl
  · obtain ⟨a, _, rfl⟩ := List.mem_map.mp hx
    exact fun z => nomatch z
theorem dpI {K : PySem.W.Frag} {H : Hp} : ∀ ns : List Int, DpAll K H (ns.map V.int) (ns.map PyData.int)
  | [] => .nil
  | n :: r => .cons (.int n) (dpI r)
theorem depthI : ∀ ns : List Int, PyData.depthAll (ns.map PyData.int) ≤ 1
  | [] => by simp [PyData.depthAll]
  | n :: r => by
    have h := depthI r
    simp only [List.map_cons, PyData.depthAll, PyData.depth]
    omega
section
variable {X : Cx}
def rMaxDf (K : PySem.W.Frag) : List V → List V → Hp → VK → Prop := fun xs zs H Q => ∃ (l : Addr) (ns : List Int) (d : Int), xs = [.ref l] ∧ zs = [.int d] ∧ SqL K H l (ns.map V.int) ∧ Q (.int (mxd d ns)) H
theorem cr_maxDf (hc : X.calm = true) (hu : X.A.units + 2 < cLine) : CallRK X (.builtin "max") ["default"] (rMaxDf X.K) := by
  intro pins s σ H xs zs us ws Q I r rz h
  obtain ⟨l, ns, d, rfl, rfl, hl, q⟩ := h
  obtain ⟨its, rv, pl, hz⟩ := I.list hl
  rw [Vals.ref1 r]
  obtain ⟨w, rfl, t, rfl⟩ := vals1 rz
  obtain ⟨as, rd⟩ := Dp.readsAll I _ _ its (dpI ns) rv
  have hd := depthI ns
  refine PySem.W.max_list_default (d := .int d t) (I.ok.hd hc) pl.isList (by simpa using rd) (alike_ints ns) (by omega) (fun e g tk k => ?_) (fun y ys i v g tk bs e hv rv k => ?_)
  · have e2 : ns = [] := List.map_eq_nil_iff.mp e
    rw [e2] at q
    exact ⟨.int d, H, I.kept k, ⟨t, rfl⟩, q⟩
  · cases ns with
    | nil => cases e
    | cons n r =>
      injection e with e1 e2
      subst e1
      subst e2
      rw [PySem.W.maxD_ints] at rv
      cases rv with
      | int _ t' => exact ⟨.int (r.foldl max n), H, I.kept k, ⟨t', rfl⟩, q⟩
/-! ### list(range(a, b, c)) -/
def rg3 (i c : Int) (n : Nat) : List Int := (List.range n).map fun (t : Nat) => i + (t : Int) * c
def tLst3 (ta : TA) : TE := fun σ H Q => ta σ H fun vs H1 => ∃ (i j c : Int) (n : Nat), vs = [.int i, .int j, .int c] ∧ RgC i j c n ∧ n ≤ 2 ^ 24 ∧ ∀ q, H1 q = none → Q (.ref q) (upd H1 q (.lst ((rg3 i c n).map V.int)))
theorem vals_rg3 {i c : Int} {n : Nat} {acc : Array Value} (h : ItemsOf (fun j v => ∃ t, v = .int (i + j * c) t) acc n) : Vals ((rg3 i c n).map V.int) acc.toList := by
  have e : acc.toList.length = n := by rw [Array.length_toList]; exact h.1
  unfold rg3
  rw [List.map_map, ← e]
  refine vals_of_get acc.toList _ fun j u hj => ?_
  obtain ⟨t, rfl⟩ := h.2 j u (by rw [← hj, Array.getElem?_toList])
  exact ⟨t, rfl⟩
theorem pe_listRg3 {a b c : Expr} {ta : TA} {p p2 pos pos2 : Pos} (hc : X.calm = true) (hg : Gl X "list") (hm : X.mg "list" = none) (hg2 : Gl X "range") (hm2 : X.mg "range" = none) (ha : PA X [a, b, c] ta)
    (na : starEach [Expr.Call (.Name "range" p2) [a, b, c] [] pos2] X.env = (false, eval (Expr.Call (.Name "range" p2) [a, b, c] [] pos2) X.env) :: starEach [] X.env := by rfl)
    (hs : starEach [a, b, c] X.env = (false, eval a X.env) :: starEach [b, c] X.env := by rfl) (hpl : (backTo pos2 (starEach [b, c] X.env)).any (·.1) = false := by rfl) :
    PE X (.Call (.Name "list" p) [.Call (.Name "range" p2) [a, b, c] [] pos2] [] pos) (tLst3 ta) := by
  refine ⟨fun pins s σ H Q I h => ?_⟩
  refine Call_ (ld_blt I hg hm boot_list (PyProof.Rows.callWith_type1 (args_cons ?_ na) na))
  refine Call_ (ld_blt I hg2 hm2 boot_range (PyProof.Rows.callWith_type1 (thn (ha.run pos2 pins s σ H _ I h) fun us s1 ⟨vs, H1, I1, r1, i, j, k, n, e, ⟨c0, c1, c2, c3⟩, hn, q⟩ => ?_) hs hpl))
  subst e
  obtain ⟨t1, t2, t3, rfl⟩ : ∃ t1 t2 t3, us = [Value.int i t1, .int j t2, .int k t3] := by
    cases r1 with
    | cons ra rr =>
      cases rr with
      | cons rb rr =>
        cases rr with
        | cons rd rr =>
          cases rr
          obtain ⟨t1, rfl⟩ := ra
          obtain ⟨t2, rfl⟩ := rb
          obtain ⟨t3, rfl⟩ := rd
          exact ⟨t1, t2, t3, rfl⟩
  · skip
    refine call_range_3 c0 (args_nil ?_) (.inl (PyProof.noPylong_small c1))
    have I2 : Inv X pins σ H1 { s1 with heap := s1.heap.push { cls := .type "range", data := .fields #[.int i t1, .int j t2, .int k t3] } } := I1.kept (t' := s1.toks) fun b o e => Heap.get?_push_of_some _ e
    refine call_list_range (n := n) (I2.ok.hd hc) (IsRange.new ..) c2 c3 hn fun g tk acc cc keep at' it => ?_
    refine ⟨.ref _, upd H1 _ (.lst ((rg3 i k n).map V.int)), I2.laid (t' := tk) keep (Nat.le_refl _) ⟨?_, acc.toList, cc, vals_rg3 it, ?_⟩, rfl, q _ (I2.hok.fresh (Nat.le_refl _))⟩
    · unfold rg3
      rw [List.length_map, List.length_map, List.length_range, sizeLine_eq]
      omega
    · rw [Array.toArray_toList]; exact at'
end
end Ph

set_option maxHeartbeats 2000000
namespace Ph
open PySem PySem.Spec PyProof.Rows L2
/-! ### {e for x in xs}, e an int -/
abbrev TurnI (w : World) (D : Addr) (te : TE) (σ2 : L2.St) (H3 : Hp) (Nx : Hp → Prop) : Prop :=
  te σ2 H3 fun y H4 => ∃ (c : Int) (S : Int → Bool) (n : Nat), y = .int c ∧ H4 D = some (SetO w D S n) ∧ n + 1 < scanBound ∧ Nx (upd H4 D (SetO w D (fun j => S j || decide (j = c)) (if S c = true then n else n + 1)))
def tScI (w : World) (wi : TI) (g : TG) (tt : TT) (te : TE) (vs : List Nat) : TE := fun σ H Q => wi σ H fun J H1 => ∀ D, H1 D = none → ∃ W : Nat → Nat → Hp → Prop, (∃ m, W 0 m (upd H1 D (SetO w D (fun _ => false) 0))) ∧ ∀ i m H, W i m H →
  (J.stop i H ∧ Q (.ref D) H) ∨ (J.go i H ∧ ∃ Nx : Hp → Prop, (∀ H', Nx H' → ∃ m', m' < m ∧ W (i + 1) m' H') ∧ ∀ x H', J.yld i H x H' → g x (wipe σ vs) H' fun σ2 H2 => wipe σ2 vs = wipe σ vs ∧ tt σ2 H2 fun b H3 => if b = true then TurnI w D te σ2 H3 Nx else Nx H3)
section
variable {X : Cx}
abbrev BlkG (X : Cx) (scope : Scope) (F : Cx → Prop) : Prop := ∀ (s : Shared) (H : Hp) (C : Addr) (cl : List (PySem.Str × Addr)) (fp : List Addr), F (X.blk s H scope (compEnvC scope cl C X.env) fp)
theorem pe_scI {elt tg iter : Expr} {ifs : List Expr} {scope : Scope} {own : List (PySem.Str × Nat)} {pos : Pos} {wi : TI} {g : TG} {tt : TT} {te : TE} (calm : X.calm = true) (nod : X.N.Nodup) (walk : L2.PI X tg iter wi) (blk : BlkOk X.N X.env.scope scope own)
    (gs : BlkG X scope fun Y => PG Y tg g) (ts : BlkG X scope fun Y => PTs Y ifs tt) (es : BlkG X scope fun Y => PE Y elt te) (fold : ∀ x, foldedSetIterable iter X.env x = pure x := by intro _; rfl) :
    PE X (.SetComp elt [⟨tg, iter, ifs, 0⟩] scope pos) (tScI X.w wi g tt te (own.map (·.2))) := by
  refine ⟨fun pins s σ H Q I want => ?_⟩
  rw [PpSet.eval_SetComp]
  have captured : ∀ y ∈ scope.names, y.2 = .free → ∃ c, X.env.cells.lookup y.1 = some c := fun y hy e => (blk.free y hy e).elim (fun k => I.ok.has _ (.inl k)) fun k => I.ok.has _ (.inr k)
  refine wpAny_comprehension_free rfl fold (closure_ok captured) blk.kind (fun y hy e => by rw [blk.uniq y hy, e]) (thn (walk.run pins s σ H _ I want) fun xv s1 hx => thn hx fun itv s2 h2 => ?_)
  obtain ⟨it, fp, tn, J, H2, rfl, I2, T, tn2, fp2, q⟩ := h2
  refine PpSet.newSet_ok (newEnv_comp ?_)
  have freshD : H2 s2.heap.objs.size = none := I2.hok.fresh (Nat.le_refl _)
  obtain ⟨W, ⟨m0, start⟩, step⟩ := q _ freshD
  have low : ∀ b ∈ fp, b < s2.heap.objs.size := fun b hb => let ⟨o, e, _⟩ := T.obj _ _ tn2 b hb; Heap.lt_size e
  have I3 : Inv X pins σ (upd H2 s2.heap.objs.size (SetO X.w s2.heap.objs.size (fun _ => false) 0)) { s2 with heap := s2.heap.push (sob X.w) } := I2.laid (t' := s2.toks) (fun b o e => Heap.get?_push_of_some _ e) (Nat.le_refl _) (setO_new (setR_fresh X.w))
  have fp3 : ∀ b ∈ fp, FpOk X pins (upd H2 s2.heap.objs.size (SetO X.w s2.heap.objs.size (fun _ => false) 0)) b ∧ b < (s2.heap.push (sob X.w)).objs.size := fun b hb => by
    refine ⟨⟨?_, (fp2 b hb).2⟩, by rw [Heap.size_push]; exact Nat.lt_succ_of_lt (low b hb)⟩
    rw [upd_ne (Nat.ne_of_lt (low b hb))]
    exact (fp2 b hb).1
  have tn3 : tn 0 (s2.heap.push (sob X.w)) := T.keep _ _ _ tn2 fun b _ o e => Heap.get?_push_of_some _ e
  have I4 := block_start I3 blk nod fp3
  generalize eD : s2.heap.objs.size = D at start step I3 fp3 I4 ⊢
  generalize eS : ({ s2 with heap := s2.heap.push (sob X.w) } : Shared) = s3 at I3 fp3 tn3 I4 ⊢
  generalize eH : upd H2 D (SetO X.w D (fun _ => false) 0) = H3 at start I3 fp3 I4
  have tn3' : tn 0 s3.heap := by rw [← eS]; exact tn3
  have fp3' : ∀ b ∈ fp, FpOk X pins H3 b ∧ b < s3.heap.objs.size := fun b hb => by
    have := fp3 b hb
    rw [← eS]
    exact this
  have G := gs s3 H3 s3.heap.objs.size (cellsFrom (s3.heap.objs.size + 1) scope.names (cloFrom X.env.cells scope.names [])) fp
  have Te := ts s3 H3 s3.heap.objs.size (cellsFrom (s3.heap.objs.size + 1) scope.names (cloFrom X.env.cells scope.names [])) fp
  have El := es s3 H3 s3.heap.objs.size (cellsFrom (s3.heap.objs.size + 1) scope.names (cloFrom X.env.cells scope.names [])) fp
  have shape : codeAny (model X.prog X.w) X.A (.compStart (.SetComp elt [⟨tg, iter, ifs, 0⟩] scope pos) 0 (.ref it) (.ref D) (compEnvC scope (cellsFrom (s3.heap.objs.size + 1) scope.names (cloFrom X.env.cells scope.names [])) s3.heap.objs.size X.env))
      (compPost (model X.prog X.w) X.A X.xe none (EP X pins σ Q) (.ref D) s3.heap.objs.size) { s3 with heap := pushCells (s3.heap.push { cls := .type "dict", data := .dict #[] }) scope.names } := by
    generalize eE : compEnvC scope (cellsFrom (s3.heap.objs.size + 1) scope.names (cloFrom X.env.cells scope.names [])) s3.heap.objs.size X.env = ce at I4 G Te El ⊢
    have locs : ce.locals = s3.heap.objs.size := by subst eE; rfl
    generalize e4 : ({ s3 with heap := pushCells (s3.heap.push { cls := .type "dict", data := .dict #[] }) scope.names } : Shared) = s4 at I4 ⊢
    have tn4 : tn 0 s4.heap := T.keep _ _ _ tn3' fun b _ o e => by rw [← e4]; exact pushCells_keeps _ _ _ _ (Heap.get?_push_of_some _ e)
    have off : ∀ {σ' : L2.St} {H' : Hp} {s' : Shared}, Inv (X.blk s3 H3 scope ce fp) [] σ' H' s' → (∀ b ∈ fp, H' b = none) → ∀ b ∈ fp, FpOk (X.blk s3 H3 scope ce fp) [] H' b := fun J hn b hb =>
      ⟨hn b hb, (J.ok.exf b hb).1, J.ok.exfs b hb, .inl hb, fun x c e => (J.ok.exf b hb).2 x c e, fun p hp => nomatch (show p ∈ ([] : List (Addr × Obj)) from by simpa using hp)⟩
    have loop : codeAny (model X.prog X.w) X.A (.compLoop (.SetComp elt [⟨tg, iter, ifs, 0⟩] scope pos) 0 (.ref it) (.ref D) ce) (compPost (model X.prog X.w) X.A X.xe none (EP X pins σ Q) (.ref D) s3.heap.objs.size) s4 := by
      refine PpSet.compLoopS_any (fun n s' => ∃ i H', Inv (X.blk s3 H3 scope ce fp) [] (wipe σ (own.map (·.2))) H' s' ∧ tn i s'.heap ∧ (∀ b ∈ fp, H' b = none) ∧ W i n H') ?_ m0 ⟨0, H3, I4, tn4, fun b hb => (fp3' b hb).1.1, start⟩
      rintro n s5 ⟨i, H5, I5, tn5, free5, w5⟩
      rcases step i n H5 w5 with ⟨stop, done⟩ | ⟨go, Nx, lower, turn⟩
      · refine thnF (T.done (X.blk s3 H3 scope ce fp) rfl rfl rfl calm i [] s5 _ H5 (fun _ _ => False) I5 (off I5 free5) tn5 stop) fun r s6 ⟨hr, I6⟩ => ?_
        subst hr
        have I7 : Inv X pins σ H5 s6 := I3.call' (ch := fp) I6.os I6.base I6.hok I6.bare fun b hb => let z := (fp3' b hb).1.2; ⟨z.2.2.1, z.1, z.2.2.2.1, z.2.2.2.2⟩
        obtain ⟨m, names, _⟩ := I6.loc
        have names' : s6.heap.Ns s3.heap.objs.size m := locs ▸ (show s6.heap.Ns ce.locals m from names)
        have none5 : H5 s3.heap.objs.size = none := locs ▸ (show H5 ce.locals = none from I6.free)
        obtain ⟨f0, f1, f2, f3, f4, f5⟩ := I3.fpOk (Nat.le_refl s3.heap.objs.size) none5
        exact ⟨m, names', fun g sb => ⟨.ref D, H5, I7.turned (t' := s6.toks) (fun b o hb e => (sb.2 b hb).trans e) f0 f1 f3 f4 f5, rfl, done⟩⟩
      · refine thnF (T.item (X.blk s3 H3 scope ce fp) rfl rfl rfl calm i [] s5 _ H5 (fun _ _ => False) I5 (off I5 free5) tn5 go) fun r s6 ⟨u, hr, h6⟩ => ?_
        subst hr
        refine thnF h6 fun _ s7 ⟨x, H7, I7, r7, y7, tn7, free7⟩ => ?_
        refine thnF (G.run _ s7 _ H7 x u _ (I7.pinned (off I7 free7) (T.obj _ _ tn7)) r7 (turn x H7 y7)) fun _ s8 ⟨σ8, H8, I8, wiped, q8⟩ => ?_
        refine thnF (Te.run _ s8 σ8 H8 _ I8 q8) fun b s9 ⟨H9, I9, q9⟩ => ?_
        have back : ∀ {s' : Shared} {H' : Hp}, Inv (X.blk s3 H3 scope ce fp) ([] ++ pinsAt fp s7.heap) σ8 H' s' → Nx H' → ∃ m, m < n ∧ ∃ i H', Inv (X.blk s3 H3 scope ce fp) [] (wipe σ (own.map (·.2))) H' s' ∧ tn i s'.heap ∧ (∀ b ∈ fp, H' b = none) ∧ W i m H' := fun {s' H'} J nx => by
          obtain ⟨m', less, w'⟩ := lower H' nx
          have held : ∀ b ∈ fp, ∀ o, s7.heap.get? b = some o → s'.heap.get? b = some o ∧ H' b = none := fun b hb o e => let z := J.pin (b, o) (List.mem_append_right _ (List.mem_append_right _ (mem_pinsAt hb e))); ⟨z.1, z.2.1⟩
          refine ⟨m', less, i + 1, H', (J.unpinned (pins := [])).weak (by rw [← wiped, wipe_length]) (fun j v e => (wipe_some (wiped ▸ e)).1), T.keep _ _ _ tn7 fun b hb o e => (held b hb o e).1, fun b hb => ?_, w'⟩
          obtain ⟨o, e, _⟩ := T.obj _ _ tn7 b hb
          exact (held b hb o e).2
        cases b with
        | false => exact back I9 (by simpa using q9)
        | true =>
          have q9' : TurnI X.w D te σ8 H9 Nx := by simpa using q9
          refine thnF (El.run _ s9 σ8 H9 _ I9 q9') fun z s10 ⟨yv, H10, I10, r10, c, S0, n0, ey, at10, room, nx⟩ => ?_
          subst ey
          obtain ⟨tk, rfl⟩ := r10
          refine setR_add (setO_get (X := X.blk s3 H3 scope ce fp) I10 at10) room fun g sb new => ?_
          have there : ∃ u, g.get? D = some u := let ⟨o, _, _, _, ho, _⟩ := new; ⟨o, ho⟩
          exact back (I10.write (e := D) (t' := s10.toks + 1) (by rw [at10]; trivial) (.inl rfl) (fun b u hb hu => (sb.2 b hb).trans hu) there (setO_new new)) nx
    exact PpSet.codeAny_compStart_set loop (T.self X.A 0 _ _ _ tn4 loop)
  exact shape
/-- over a tuple, the steps leave the heap as it is -/
theorem sc_tupF {w : World} {K : PySem.W.Frag} {a : Addr} {xs : List V} {g : TG} {tt : TT} {te : TE} {vs : List Nat} {σ : L2.St} {H1 : Hp} {D : Addr} {Qd : Hp → Prop} (f : V → Int) (ht : SqT K H1 a xs) (nD : H1 D = none) (few : xs.length + 1 < scanBound)
    (hs : ∀ x ∈ xs, ∀ H, (∀ b o, H1 b = some o → H b = some o) → ∀ (Y : V → Hp → Prop) (N : Hp → Prop), Y (.int (f x)) H → g x (wipe σ vs) H fun σ2 H2 => wipe σ2 vs = wipe σ vs ∧ tt σ2 H2 fun b H3 => if b = true then te σ2 H3 Y else N H3)
    (hd : ∀ H n, (∀ b o, H1 b = some o → H b = some o) → H D = some (SetO w D (fun j => decide (j ∈ xs.map f)) n) → Qd H) :
    ∃ W : Nat → Nat → Hp → Prop, (∃ m, W 0 m (upd H1 D (SetO w D (fun _ => false) 0))) ∧ ∀ i m H, W i m H →
      ((Itt K a).stop i H ∧ Qd H) ∨ ((Itt K a).go i H ∧ ∃ Nx : Hp → Prop, (∀ H', Nx H' → ∃ m', m' < m ∧ W (i + 1) m' H') ∧ ∀ x H', (Itt K a).yld i H x H' → g x (wipe σ vs) H' fun σ2 H2 => wipe σ2 vs = wipe σ vs ∧ tt σ2 H2 fun b H3 => if b = true then TurnI w D te σ2 H3 Nx else Nx H3) := by
  have tupStays : ∀ H, (∀ b o, H1 b = some o → H b = some o) → SqT K H a xs := fun H k => by
    rcases ht with (h | ⟨o, h⟩) | h
    · exact .inl (.inl (k _ _ h))
    · exact .inl (.inr ⟨o, k _ _ h⟩)
    · exact .inr h
  refine ⟨fun i m H => m = xs.length - i ∧ i ≤ xs.length ∧ (∀ b o, H1 b = some o → H b = some o) ∧ ∃ n, n ≤ i ∧ H D = some (SetO w D (fun j => decide (j ∈ (xs.take i).map f)) n), ⟨xs.length, by simp, Nat.zero_le _, fun b o e => ?_, 0, Nat.le_refl _, ?_⟩, ?_⟩
  · rw [upd_ne (ne_of_none e nD)]; exact e
  · rw [upd_same]
    congr
  rintro i m H ⟨rfl, hi, k, n, hn, hD⟩
  have hq := tupStays H k
  by_cases hlt : i < xs.length
  · refine .inr ⟨⟨xs, xs[i], hq, by simp [hlt]⟩, fun H' => (∀ b o, H1 b = some o → H' b = some o) ∧ ∃ n, n ≤ i + 1 ∧ H' D = some (SetO w D (fun j => decide (j ∈ (xs.take (i + 1)).map f)) n), fun H' p => ⟨xs.length - (i + 1), by omega, rfl, hlt, p.1, p.2⟩, fun x H' y => ?_⟩
    obtain ⟨rfl, y⟩ := y
    have hx := y xs hq
    refine hs x (List.mem_of_getElem? hx) _ k _ _ ⟨f x, _, n, rfl, hD, by omega, fun b o e => ?_, (if decide (f x ∈ (xs.take i).map f) = true then n else n + 1), ?_, ?_⟩
    · rw [upd_ne (ne_of_none e nD)]; exact k _ _ e
    · split <;> omega
    · rw [upd_same]
      congr
      funext j
      rw [List.take_add_one, hx, Bool.eq_iff_iff]
      simp
  · have e : i = xs.length := by omega
    subst e
    rw [List.take_of_length_le (Nat.le_refl _)] at hD
    exact .inl ⟨⟨xs, hq, Nat.le_refl _⟩, hd H n k hD⟩
end
end Ph

namespace Ph
open PySem PySem.Spec PyProof.Rows L2
/-! ### comprehensions whose steps leave the heap as it is -/
section
variable {K : PySem.W.Frag} {a : Addr} {xs : List V} {g : TG} {tt : TT} {te : TE} {vs : List Nat} {σ : L2.St} {H1 : Hp} {D : Addr} {Qd : Hp → Prop}
abbrev Stp (g : TG) (tt : TT) (te : TE) (vs : List Nat) (σ : L2.St) (H1 : Hp) (f : V → Option V) (x : V) : Prop :=
  ∀ H, (∀ b o, H1 b = some o → H b = some o) → ∀ (Y : V → Hp → Prop) (N : Hp → Prop), (∀ y, f x = some y → Y y H) → (f x = none → N H) →
    g x (wipe σ vs) H fun σ2 H2 => wipe σ2 vs = wipe σ vs ∧ tt σ2 H2 fun b H3 => if b = true then te σ2 H3 Y else N H3
theorem take_filterMap {α β : Type} (f : α → Option β) {l : List α} {i : Nat} {x : α} (h : l[i]? = some x) : (l.take (i + 1)).filterMap f = (l.take i).filterMap f ++ (f x).toList := by
  rw [List.take_add_one, h, List.filterMap_append]
  congr 1
theorem fm_len {α β : Type} (f : α → Option β) (l : List α) (i : Nat) : ((l.take i).filterMap f).length ≤ l.length := by
  refine Nat.le_trans (List.length_filterMap_le _ _) ?_
  rw [List.length_take]
  omega
theorem lc_tupF (f : V → Option V) (ht : SqT K H1 a xs) (nD : H1 D = none) (hlen : xs.length < sizeLine) (hs : ∀ x ∈ xs, Stp g tt te vs σ H1 f x) (hd : ∀ H, (∀ b o, H1 b = some o → H b = some o) → H D = some (.lst (xs.filterMap f)) → Qd H) :
    ∃ W : Nat → Nat → Hp → Prop, (∃ m, W 0 m (upd H1 D (.lst []))) ∧ ∀ i m H, W i m H →
      ((Itt K a).stop i H ∧ Qd H) ∨ ((Itt K a).go i H ∧ ∃ Nx : Hp → Prop, (∀ H', Nx H' → ∃ m', m' < m ∧ W (i + 1) m' H') ∧ ∀ x H', (Itt K a).yld i H x H' → g x (wipe σ vs) H' fun σ2 H2 => wipe σ2 vs = wipe σ vs ∧ tt σ2 H2 fun b H3 =>
        if b = true then te σ2 H3 fun y H4 => ∃ acc, H4 D = some (.lst acc) ∧ acc.length < sizeLine ∧ Nx (upd H4 D (.lst (acc ++ [y]))) else Nx H3) := by
  refine lc_tup (K := K) (a := a) (xs := xs) (fun i H => (∀ b o, H1 b = some o → H b = some o) ∧ H D = some (.lst ((xs.take i).filterMap f))) ⟨fun b o e => ?_, ?_⟩ (fun i H _ p => ?_) (fun i x H hx p => ?_) (fun H p => ?_)
  · rw [upd_ne (ne_of_none e nD)]; exact e
  · rw [upd_same]; rfl
  · rcases ht with (h | ⟨o, h⟩) | h
    · exact .inl (.inl (p.1 _ _ h))
    · exact .inl (.inr ⟨o, p.1 _ _ h⟩)
    · exact .inr h
  · refine hs x (List.mem_of_getElem? hx) H p.1 _ _ (fun y ey => ⟨_, p.2, Nat.lt_of_le_of_lt (fm_len f xs i) hlen, fun b o e => ?_, ?_⟩) fun en => ⟨p.1, ?_⟩
    · rw [upd_ne (ne_of_none e nD)]; exact p.1 _ _ e
    · rw [upd_same, take_filterMap f hx, ey]; rfl
    · rw [take_filterMap f hx, en]; simpa using p.2
  · refine hd H p.1 ?_
    have := p.2
    rwa [List.take_of_length_le (Nat.le_refl _)] at this
theorem lc_listF (f : V → Option V) (ht : SqL K H1 a xs) (nD : H1 D = none) (hlen : xs.length < sizeLine) (hs : ∀ x ∈ xs, Stp g tt te vs σ H1 f x) (hd : ∀ H, (∀ b o, H1 b = some o → H b = some o) → H D = some (.lst (xs.filterMap f)) → Qd H) :
    ∃ W : Nat → Nat → Hp → Prop, (∃ m, W 0 m (upd H1 D (.lst []))) ∧ ∀ i m H, W i m H →
      ((Itl K a).stop i H ∧ Qd H) ∨ ((Itl K a).go i H ∧ ∃ Nx : Hp → Prop, (∀ H', Nx H' → ∃ m', m' < m ∧ W (i + 1) m' H') ∧ ∀ x H', (Itl K a).yld i H x H' → g x (wipe σ vs) H' fun σ2 H2 => wipe σ2 vs = wipe σ vs ∧ tt σ2 H2 fun b H3 =>
        if b = true then te σ2 H3 fun y H4 => ∃ acc, H4 D = some (.lst acc) ∧ acc.length < sizeLine ∧ Nx (upd H4 D (.lst (acc ++ [y]))) else Nx H3) := by
  refine lc_list (K := K) (a := a) (xs := xs) (fun i H => (∀ b o, H1 b = some o → H b = some o) ∧ H D = some (.lst ((xs.take i).filterMap f))) ⟨fun b o e => ?_, ?_⟩ (fun i H _ p => ?_) (fun i x H hx p => ?_) (fun H p => ?_)
  · rw [upd_ne (ne_of_none e nD)]; exact e
  · rw [upd_same]; rfl
  · rcases ht with (h | ⟨o, h⟩) | h
    · exact .inl (.inl (p.1 _ _ h))
    · exact .inl (.inr ⟨o, p.1 _ _ h⟩)
    · exact .inr h
  · refine hs x (List.mem_of_getElem? hx) H p.1 _ _ (fun y ey => ⟨_, p.2, Nat.lt_of_le_of_lt (fm_len f xs i) hlen, fun b o e => ?_, ?_⟩) fun en => ⟨p.1, ?_⟩
    · rw [upd_ne (ne_of_none e nD)]; exact p.1 _ _ e
    · rw [upd_same, take_filterMap f hx, ey]; rfl
    · rw [take_filterMap f hx, en]; simpa using p.2
  · refine hd H p.1 ?_
    have := p.2
    rwa [List.take_of_length_le (Nat.le_refl _)] at this
/-- over the keys of a dict that stands still -/
theorem lc_keysF {d : Addr} {od : Obj} {kvs : List (Key × V)} (f : V → Option V) (ht : H1 d = some (.frz od (.dK kvs))) (nD : H1 D = none) (hlen : kvs.length < sizeLine) (hs : ∀ x ∈ kvs.map (fun kv => kV kv.1), Stp g tt te vs σ H1 f x) (hd : ∀ H, (∀ b o, H1 b = some o → H b = some o) → H D = some (.lst ((kvs.map fun kv => kV kv.1).filterMap f)) → Qd H) :
    ∃ W : Nat → Nat → Hp → Prop, (∃ m, W 0 m (upd H1 D (.lst []))) ∧ ∀ i m H, W i m H →
      ((Itk d od kvs).stop i H ∧ Qd H) ∨ ((Itk d od kvs).go i H ∧ ∃ Nx : Hp → Prop, (∀ H', Nx H' → ∃ m', m' < m ∧ W (i + 1) m' H') ∧ ∀ x H', (Itk d od kvs).yld i H x H' → g x (wipe σ vs) H' fun σ2 H2 => wipe σ2 vs = wipe σ vs ∧ tt σ2 H2 fun b H3 =>
        if b = true then te σ2 H3 fun y H4 => ∃ acc, H4 D = some (.lst acc) ∧ acc.length < sizeLine ∧ Nx (upd H4 D (.lst (acc ++ [y]))) else Nx H3) := by
  refine lc_it walk_keys (fun i H => (∀ b o, H1 b = some o → H b = some o) ∧ H D = some (.lst (((kvs.map fun kv => kV kv.1).take i).filterMap f))) ⟨fun b o e => ?_, ?_⟩ (fun i H _ p => p.1 _ _ ht) (fun i x H H' hi p y => ?_) (fun H p => ?_)
  · rw [upd_ne (ne_of_none e nD)]; exact e
  · rw [upd_same]; rfl
  · obtain ⟨rfl, k, v, hk, rfl⟩ := y
    have hx : (kvs.map fun kv => kV kv.1)[i]? = some (kV k) := by rw [List.getElem?_map, hk]; rfl
    refine hs _ (List.mem_of_getElem? hx) _ p.1 _ _ (fun y ey => ⟨_, p.2, Nat.lt_of_le_of_lt (fm_len f _ i) (by rw [List.length_map]; exact hlen), fun b o e => ?_, ?_⟩) fun en => ⟨p.1, ?_⟩
    · rw [upd_ne (ne_of_none e nD)]; exact p.1 _ _ e
    · rw [upd_same, take_filterMap f hx, ey]; rfl
    · rw [take_filterMap f hx, en]; simpa using p.2
  · refine hd H p.1 ?_
    have := p.2
    rwa [List.take_of_length_le (by rw [List.length_map]; exact Nat.le_refl _)] at this
end
end Ph

namespace Ph
open PySem PySem.Spec PyProof.Rows L2
/-! ### zip of a tuple and a list, in any mix (true: a tuple) -/
def SqK (k : Bool) (K : PySem.W.Frag) (H : Hp) (a : Addr) (xs : List V) : Prop := if k = true then SqT K H a xs else SqL K H a xs
def ItrK (k : Bool) (g : Heap) (j l : Addr) (n : Nat) : Prop := if k = true then g.IsTupleIter j l n else g.IsListIter j l n
def SeqK (k : Bool) (g : Heap) (l : Addr) (vs : Array Value) : Prop := if k = true then g.IsTuple l vs else g.IsList l vs
def itoK (k : Bool) (l : Addr) : Obj := if k = true then { cls := .type "tuple_iterator", data := .fields #[.ref l, .int 0 0] } else { cls := .type "list_iterator", data := .fields #[.ref l, .int 0 0] }
theorem ItrK.obj {k : Bool} {g : Heap} {j l : Addr} {n : Nat} (h : ItrK k g j l n) : ∃ o, g.get? j = some o ∧ ∀ v, o.data ≠ .cell v := by
  cases k <;> (obtain ⟨o, e, _, d⟩ := h; exact ⟨o, e, fun v q => by rw [d] at q; cases q⟩)
theorem ItrK.on {k : Bool} {g g' : Heap} {j l : Addr} {n : Nat} (h : ItrK k g j l n) (e : ∀ o, g.get? j = some o → g'.get? j = some o) : ItrK k g' j l n := by
  cases k
  · exact Heap.IsListIter.at h e
  · exact Heap.IsTupleIter.at h e
theorem drawK {P : Program} {w : World} {A : Around} (k : Bool) (hh : A.handled = none) (j l : Addr) (ne : l ≠ j) (vs : Array Value) :
    Draws P w A j [j, l] vs.size (fun i v => vs[i]? = some v) (fun i g => ItrK k g j l i ∧ SeqK k g l vs) := by
  cases k
  · exact Draws.list hh j l ne vs
  · exact Draws.tuple hh j l ne vs
theorem beginK (k : Bool) (l : Addr) (vs : Array Value) : Begins (.ref l) (itoK k l) fun g => SeqK k g l vs := by
  cases k
  · exact begins_list l vs
  · exact begins_tuple l vs
theorem itoK_it {k : Bool} {g : Heap} {j l : Addr} (h : g.get? j = some (itoK k l)) : ItrK k g j l 0 := by
  cases k <;> exact ⟨_, h, rfl, rfl⟩
theorem Inv.seqK {X : Cx} {pins : List (Addr × Obj)} {σ : L2.St} {H : Hp} {s : Shared} {k : Bool} {a : Addr} {xs : List V} (I : Inv X pins σ H s) (h : SqK k X.K H a xs) : ∃ vs : List Value, Vals xs vs ∧ SeqK k s.heap a vs.toArray ∧ a < s.heap.objs.size := by
  cases k
  · obtain ⟨vs, r, p, _⟩ := I.list h
    exact ⟨vs, r, p.isList, p.lt⟩
  · obtain ⟨vs, r, p, _⟩ := I.tuple h
    obtain ⟨o, e, _⟩ := id p
    exact ⟨vs, r, p, Heap.lt_size e⟩
theorem Inv.seqK_inj {X : Cx} {pins : List (Addr × Obj)} {σ : L2.St} {H : Hp} {s : Shared} {k : Bool} {a : Addr} {xs ys : List V} (I : Inv X pins σ H s) (h : SqK k X.K H a xs) (h2 : SqK k X.K H a ys) : xs = ys := by
  cases k
  · exact I.list_inj h h2
  · exact I.tuple_inj h h2
def ItzK (k1 k2 : Bool) (K : PySem.W.Frag) (a b : Addr) : It :=
  ⟨fun i H => ∃ (xs ys : List V) (x y : V), SqK k1 K H a xs ∧ SqK k2 K H b ys ∧ xs[i]? = some x ∧ ys[i]? = some y,
    fun i H v H2 => ∃ T x y, v = .ref T ∧ H T = none ∧ H2 = upd H T (.tup [x, y]) ∧ (∀ xs, SqK k1 K H a xs → xs[i]? = some x) ∧ ∀ ys, SqK k2 K H b ys → ys[i]? = some y,
    fun i H => ∃ xs ys : List V, SqK k1 K H a xs ∧ SqK k2 K H b ys ∧ i ≤ xs.length ∧ i ≤ ys.length ∧ (i = xs.length ∨ i = ys.length)⟩
theorem mem5 {c z t u j1 j2 : Addr} (h : c ∈ [z, t, u, j1, j2]) : c = z ∨ c = t ∨ c = u ∨ c = j1 ∨ c = j2 := by simpa using h
theorem turn_zipK {P : Program} {w : World} {K : PySem.W.Frag} {es : List Expr} {kk : Nat} {tp : Pos} {k1 k2 : Bool} {a b z t u j1 j2 : Addr} (D : ZipSep2 z t u j1 j2 [j1, a] [j2, b]) (n1 : a ≠ j1) (n2 : b ≠ j2) :
    Turn P w K (.Tuple es kk tp) (ItzK k1 k2 K a b) [z, t, u, j1, j2] z (fun i g => IsZip g z t u .none ∧ IsTupOf2 g t (.ref j1) (.ref j2) ∧ (∃ x y, IsTupOf2 g u x y) ∧ ItrK k1 g j1 a i ∧ ItrK k2 g j2 b i) where
  mem := List.mem_cons_self ..
  obj := fun i g st c hc => by
    obtain ⟨hz, ht, ⟨x, y, hu⟩, h1, h2⟩ := st
    rcases mem5 hc with rfl | rfl | rfl | rfl | rfl
    · exact ⟨_, hz, fun v q => nomatch q⟩
    · exact ⟨_, ht, fun v q => nomatch q⟩
    · exact ⟨_, hu, fun v q => nomatch q⟩
    · exact h1.obj
    · exact h2.obj
  keep := fun i g g2 st kp => by
    obtain ⟨hz, ht, ⟨x, y, hu⟩, h1, h2⟩ := st
    exact ⟨kp z (by simp) _ hz, kp t (by simp) _ ht, ⟨x, y, kp u (by simp) _ hu⟩, h1.on fun o => kp j1 (by simp) o, h2.on fun o => kp j2 (by simp) o⟩
  item := by
    intro X eP ew eK hc i pins s σ H E I hf st hg
    subst eP ew eK
    obtain ⟨hz, ht, ⟨x0, y0, hu⟩, h1, h2⟩ := st
    obtain ⟨xs, ys, x, y, qx, qy, gx, gy⟩ := hg
    obtain ⟨vs, r1, p1, _⟩ := Inv.seqK I qx
    obtain ⟨vt, r2, p2, _⟩ := Inv.seqK I qy
    obtain ⟨v1, gv1, rv1⟩ := r1.get gx
    obtain ⟨v2, gv2, rv2⟩ := r2.get gy
    have zl : z < s.heap.objs.size := Heap.lt_size hz
    have l1 : i < vs.toArray.size := by
      have := (List.getElem?_eq_some_iff.mp gv1).1
      simpa using this
    have l2 : i < vt.toArray.size := by
      have := (List.getElem?_eq_some_iff.mp gv2).1
      simpa using this
    have hh : X.A.in1.handled = none := I.ok.hd hc
    refine wpAny_pyNext_zipD2_item D (drawK k1 hh j1 a n1 vs.toArray) (drawK k2 hh j2 b n2 vt.toArray) hz ht hu ⟨h1, p1⟩ ⟨h2, p2⟩ l1 l2 fun y1 y2 g tk e1 e2 hz1 hu1 st1 st2 hT hsz hk => ?_
    have f1 : y1 = v1 := by
      have q : vs.toArray[i]? = some v1 := by simpa using gv1
      rw [q] at e1
      exact (Option.some.inj e1).symm
    have f2 : y2 = v2 := by
      have q : vt.toArray[i]? = some v2 := by simpa using gv2
      rw [q] at e2
      exact (Option.some.inj e2).symm
    subst f1 f2
    refine ⟨_, rfl, wpAny_letOwnedTupleGo_zip (s := { s with heap := g, toks := tk }) hz1 fun g2 hz2 sb => ?_⟩
    have hT2 : g2.get? s.heap.objs.size = some { cls := .type "tuple", data := .seq #[y1, y2] } := (sb.2 _ (Nat.ne_of_gt zl)).trans hT
    have new : ObjOk X.prog X.w (upd H s.heap.objs.size (.tup [x, y])) g2 s.heap.objs.size (.tup [x, y]) :=
      ⟨(by show 2 ≤ sizeLine; decide), [y1, y2], .cons rv1 (.cons rv2 .nil), ⟨_, hT2, rfl, _, rfl⟩⟩
    have I1 : Inv X pins σ (upd H s.heap.objs.size (.tup [x, y])) { s with heap := g2, toks := tk } :=
      I.turnedNew (t' := tk) (ch := [z, t, u, j1, j2]) (fun c o nb q => (sb.2 c (fun e => nb (by simp [e]))).trans (hk c o (fun e => nb (by simp [e])) (fun e => nb (by simp [e])) (fun e => nb (by simp [e])) (fun e => nb (by simp [e])) q)) hf (Nat.le_refl _) new
    refine ⟨.ref s.heap.objs.size, _, I1, rfl, ⟨_, x, y, rfl, I.hok.fresh (Nat.le_refl _), rfl, fun l hl => by rw [Inv.seqK_inj I hl qx]; exact gx, fun l hl => by rw [Inv.seqK_inj I hl qy]; exact gy⟩, ⟨hz2, ?_, ⟨y1, y2, ?_⟩, ?_, ?_⟩, fun c hm => ?_⟩
    · exact (sb.2 _ D.TIz).trans (hk _ _ D.TIz D.TITO D.TIi1 D.TIi2 ht)
    · exact (sb.2 _ D.TOz).trans hu1
    · exact st1.1.on fun o q => (sb.2 _ D.zi1.symm).trans q
    · exact st2.1.on fun o q => (sb.2 _ D.zi2.symm).trans q
    · have lt : c < s.heap.objs.size := by
        rcases mem5 hm with rfl | rfl | rfl | rfl | rfl
        · exact zl
        · exact Heap.lt_size ht
        · exact Heap.lt_size hu
        · obtain ⟨_, e, _⟩ := h1.obj
          exact Heap.lt_size e
        · obtain ⟨_, e, _⟩ := h2.obj
          exact Heap.lt_size e
      rw [upd_ne (Nat.ne_of_lt lt)]
      exact (hf c hm).1
  done := by
    intro X eP ew eK hc i pins s σ H E I hf st hg
    subst eP ew eK
    obtain ⟨hz, ht, ⟨x0, y0, hu⟩, h1, h2⟩ := st
    obtain ⟨xs, ys, qx, qy, le1, le2, hend⟩ := hg
    obtain ⟨vs, r1, p1, _⟩ := Inv.seqK I qx
    obtain ⟨vt, r2, p2, _⟩ := Inv.seqK I qy
    have m1 := r1.length
    have m2 := r2.length
    have hh : X.A.in1.handled = none := I.ok.hd hc
    have s1 : vs.toArray.size = xs.length := by simp [m1]
    have s2 : vt.toArray.size = ys.length := by simp [m2]
    exact wpAny_pyNext_zipD2_end D (drawK k1 hh j1 a n1 vs.toArray) (drawK k2 hh j2 b n2 vt.toArray) hz ht hu ⟨h1, p1⟩ ⟨h2, p2⟩ (by rw [s1]; exact le1) (by rw [s2]; exact le2) (by rw [s1, s2]; exact hend) fun g tk hk =>
      ⟨rfl, I.turnedL (t' := tk) (ch := [z, t, u, j1, j2]) (fun c o nb q => hk c o (fun e => nb (by simp [e])) (fun e => nb (by simp [e])) (fun e => nb (by simp [e])) (fun e => nb (by simp [e])) q) hf⟩
  self := fun A i s Q E st h => wpAny_pyIter_zip st.1 h
def iZipK (k1 k2 : Bool) (K : PySem.W.Frag) (ta : TA) : TI := fun σ H R => ta σ H fun us H1 => ∃ a b xs ys, us = [.ref a, .ref b] ∧ SqK k1 K H1 a xs ∧ SqK k2 K H1 b ys ∧ R (ItzK k1 k2 K a b) H1
theorem pi_zipK {k1 k2 : Bool} {X : Cx} {e e2 : Expr} {ta : TA} {p pos tp : Pos} {es : List Expr} {kk : Nat} (hg : Gl X "zip") (hm : X.mg "zip" = none) (ha : PA X [e, e2] ta)
    (hs : starEach [e, e2] X.env = (false, eval e X.env) :: starEach [e2] X.env := by rfl) (hp : (backTo pos (starEach [e2] X.env)).any (·.1) = false := by rfl) :
    L2.PI X (.Tuple es kk tp) (.Call (.Name "zip" p) [e, e2] [] pos) (iZipK k1 k2 X.K ta) := by
  refine ⟨fun pins s σ H R I h => ?_⟩
  refine Call_ (ld_blt I hg hm PyProof.Rows.boot_zip (PyProof.Rows.callWith_type1 (thn (ha.run pos pins s σ H _ I h) fun us s1 ⟨vs, H1, I1, rs, q1⟩ => ?_) hs hp))
  obtain ⟨a, b, xs, ys, rfl, qx, qy, q⟩ := q1
  cases rs with
  | cons r rr =>
    cases rr with
    | cons r2 rr =>
      cases rr
      cases r
      cases r2
      obtain ⟨va, _, p1, la⟩ := Inv.seqK I1 qx
      obtain ⟨vb, _, p2, lb⟩ := Inv.seqK I1 qy
      refine zip_begins2 (beginK k1 a va.toArray) (beginK k2 b vb.toArray) p1 p2 fun g hz ht hu g1 g2 hsz hk => wpAny_pyIter_zip hz ?_
      have I2 : Inv X pins σ H1 { s1 with heap := g } := I1.kept (t' := s1.toks) hk
      refine ⟨s1.heap.objs.size + 4, [s1.heap.objs.size + 4, s1.heap.objs.size + 2, s1.heap.objs.size + 3, s1.heap.objs.size, s1.heap.objs.size + 1], _, _, H1, rfl, I2, turn_zipK (k1 := k1) (k2 := k2) (zip_sep2 (fp1 := [a]) (fp2 := [b]) ?_ ?_) ?_ ?_, ⟨hz, ht, ⟨_, _, hu⟩, itoK_it g1, itoK_it g2⟩, fun c hm => ?_, q⟩
      · intro c hcm
        rw [List.mem_singleton.mp hcm]
        exact la
      · intro c hcm
        rw [List.mem_singleton.mp hcm]
        exact lb
      · exact Nat.ne_of_lt la
      · exact Nat.ne_of_lt (Nat.lt_succ_of_lt lb)
      · have le : s1.heap.objs.size ≤ c := by
          rcases mem5 hm with rfl | rfl | rfl | rfl | rfl <;> first | exact Nat.le_add_right _ _ | exact Nat.le_refl _
        exact I1.fpOk le (I1.hok.fresh le)
/-- a loop over such a zip -/
theorem for_zipK {k1 k2 : Bool} {K : PySem.W.Frag} {a b : Addr} {xs ys : List V} {g : TG} {tb : TS} {D : Ends} {σ : L2.St} {H : Hp} (n : Nat) (hn : n = min xs.length ys.length) (Pv : Nat → L2.St → Hp → Prop) (h0 : Pv 0 σ H) (hq : ∀ i σ H, Pv i σ H → SqK k1 K H a xs ∧ SqK k2 K H b ys)
    (hs : ∀ (i : Nat) (x y : V) (T : Addr) (σ : L2.St) (H : Hp), i < n → xs[i]? = some x → ys[i]? = some y → Pv i σ H → H T = none → g (.ref T) σ (upd H T (.tup [x, y])) fun σ2 H2 => tb { D with nx := Pv (i + 1), ct := Pv (i + 1), bk := D.nx } σ2 H2) (hd : ∀ σ H, Pv n σ H → D.nx σ H) :
    ∃ W : Nat → Nat → L2.St → Hp → Prop, (∃ m, W 0 m σ H) ∧ ∀ i m σ H, W i m σ H →
      ((ItzK k1 k2 K a b).stop i H ∧ D.nx σ H) ∨ ((ItzK k1 k2 K a b).go i H ∧ ∃ N : L2.St → Hp → Prop, (∀ σ' H', N σ' H' → ∃ m', m' < m ∧ W (i + 1) m' σ' H') ∧ ∀ v H', (ItzK k1 k2 K a b).yld i H v H' → g v σ H' fun σ2 H2 => tb { D with nx := N, ct := N, bk := D.nx } σ2 H2) := by
  refine ⟨fun i m σ H => m = n - i ∧ i ≤ n ∧ Pv i σ H, ⟨n, rfl, Nat.zero_le _, h0⟩, ?_⟩
  rintro i m σ H ⟨rfl, hi, p⟩
  obtain ⟨qx, qy⟩ := hq i σ H p
  rcases Nat.lt_or_ge i n with lt | ge
  · have l1 : i < xs.length := by omega
    have l2 : i < ys.length := by omega
    refine .inr ⟨⟨xs, ys, _, _, qx, qy, List.getElem?_eq_getElem l1, List.getElem?_eq_getElem l2⟩, Pv (i + 1), fun σ' H' p' => ⟨n - (i + 1), by omega, rfl, lt, p'⟩, fun v H' yl => ?_⟩
    obtain ⟨T, x, y, rfl, nT, rfl, f1, f2⟩ := yl
    exact hs i x y T σ H lt (f1 xs qx) (f2 ys qy) p nT
  · have e : i = n := Nat.le_antisymm hi ge
    subst e
    exact .inl ⟨⟨xs, ys, qx, qy, by omega, by omega, by omega⟩, hd σ H p⟩
end Ph

namespace Ph
/-! ### the bounds, as sums over chunks -/
def cdw (x s : Nat) : Nat := (x + s - 1) / s
theorem lt_cdw {x s k : Nat} (h : 0 < s) : k < cdw x s ↔ k * s < x := by
  unfold cdw
  show k + 1 ≤ _ ↔ _
  rw [Nat.le_div_iff_mul_le h, Nat.add_mul, Nat.one_mul]
  omega
theorem cdw_mono {x y s : Nat} (h : x ≤ y) : cdw x s ≤ cdw y s := Nat.div_le_div_right (by omega)
theorem cdw_mul {n s : Nat} (h : 0 < s) : cdw (n * s) s = n := by
  unfold cdw
  rw [Nat.div_eq_iff (by omega)]
  have : n * s + s = (n + 1) * s := by rw [Nat.add_mul, Nat.one_mul]
  omega
theorem le_cdw {x s : Nat} (h : 0 < s) : x ≤ cdw x s * s := by
  by_cases c : x ≤ cdw x s * s
  · exact c
  · have := (lt_cdw (x := x) (k := cdw x s) h).mpr (by omega)
    omega
theorem cdw_lt {x s : Nat} (h : 0 < s) : cdw x s * s < x + s := by
  cases e : cdw x s with
  | zero => omega
  | succ k =>
    have := (lt_cdw (x := x) (k := k) h).mp (by omega)
    rw [Nat.add_mul, Nat.one_mul]
    omega
def sm (f : Nat → Nat) : Nat → Nat
  | 0 => 0
  | n + 1 => sm f n + f n
theorem sm_mono {f : Nat → Nat} {a : Nat} : ∀ {c : Nat}, a ≤ c → sm f a ≤ sm f c
  | 0, h => by rw [Nat.le_zero.mp h]; exact Nat.le_refl _
  | c + 1, h => by
    rcases Nat.lt_or_ge a (c + 1) with z | z
    · exact Nat.le_trans (sm_mono (Nat.le_of_lt_succ z)) (Nat.le_add_right _ _)
    · rw [Nat.le_antisymm h z]; exact Nat.le_refl _
theorem sm_le {f g : Nat → Nat} : ∀ {n : Nat}, (∀ k, k < n → f k ≤ g k) → sm f n ≤ sm g n
  | 0, _ => Nat.le_refl _
  | n + 1, h => Nat.add_le_add (sm_le fun k hk => h k (Nat.lt_succ_of_lt hk)) (h n (Nat.lt_succ_self n))
theorem sm_congr {f g : Nat → Nat} : ∀ {n : Nat}, (∀ k, k < n → f k = g k) → sm f n = sm g n
  | 0, _ => rfl
  | n + 1, h => by
    show sm f n + f n = sm g n + g n
    rw [sm_congr fun k hk => h k (Nat.lt_succ_of_lt hk), h n (Nat.lt_succ_self n)]
theorem sm_const {f : Nat → Nat} {a v : Nat} : ∀ {c : Nat}, a ≤ c → (∀ k, a ≤ k → k < c → f k = v) → sm f c = sm f a + v * (c - a)
  | 0, h, _ => by rw [Nat.le_zero.mp h]; rfl
  | c + 1, h, hf => by
    rcases Nat.lt_or_ge a (c + 1) with z | z
    · show sm f c + f c = _
      rw [sm_const (Nat.le_of_lt_succ z) fun k h1 h2 => hf k h1 (Nat.lt_succ_of_lt h2), hf c (Nat.le_of_lt_succ z) (Nat.lt_succ_self c), Nat.succ_sub (Nat.le_of_lt_succ z), Nat.mul_succ]
      omega
    · rw [Nat.le_antisymm h z]
      simp
theorem sm_ge {f : Nat → Nat} {v : Nat} : ∀ {n : Nat}, (∀ k, k < n → v ≤ f k) → n * v ≤ sm f n
  | 0, _ => by omega
  | n + 1, h => by
    have := sm_ge (n := n) fun k hk => h k (Nat.lt_succ_of_lt hk)
    have := h n (Nat.lt_succ_self n)
    show (n + 1) * v ≤ sm f n + f n
    rw [Nat.add_mul, Nat.one_mul]
    omega
/-- every r-th number alone -/
theorem sm_step {f : Nat → Nat} {r : Nat} (hr : 1 ≤ r) : ∀ {a n : Nat}, (a = 0 ∨ (a - 1) * r < n) → sm (fun k => f (k * r)) a ≤ sm f n
  | 0, _, _ => Nat.zero_le _
  | a + 1, n, h => by
    have h1 : a * r < n := by rcases h with z | z; · omega
                              · exact z
    have ih : sm (fun k => f (k * r)) a ≤ sm f (a * r) := by
      refine sm_step hr ?_
      cases a with
      | zero => exact .inl rfl
      | succ a => 
        right
        show a * r < (a + 1) * r
        rw [Nat.add_mul, Nat.one_mul]
        omega
    show sm _ a + f (a * r) ≤ _
    exact Nat.le_trans (Nat.add_le_add_right ih _) (sm_mono (f := f) (a := a * r + 1) h1)
/-- the class of the blocks that reach x: the first below i whose number is greater -/
def cls (b : Nat → Nat) : Nat → Nat → Nat
  | 0, _ => 0
  | i + 1, x => if cls b i x < i then cls b i x else if x < b i then i else i + 1
theorem cls_le (b : Nat → Nat) : ∀ (i x : Nat), cls b i x ≤ i
  | 0, _ => Nat.le_refl _
  | i + 1, x => by
    have := cls_le b i x
    unfold cls
    split
    · omega
    · split <;> omega
theorem cls_hi {b : Nat → Nat} : ∀ {i x : Nat}, cls b i x < i → x < b (cls b i x)
  | 0, _, h => absurd h (by omega)
  | i + 1, x, h => by
    unfold cls at h ⊢
    split
    · rename_i c
      exact cls_hi c
    · rename_i c
      rw [if_neg c] at h
      split
      · rename_i c2
        exact c2
      · rename_i c2
        rw [if_neg c2] at h
        omega
theorem cls_lo {b : Nat → Nat} : ∀ {i x j : Nat}, j < cls b i x → b j ≤ x
  | 0, _, _, h => absurd h (by unfold cls; omega)
  | i + 1, x, j, h => by
    have l := cls_le b i x
    unfold cls at h
    by_cases c : cls b i x < i
    · rw [if_pos c] at h
      exact cls_lo h
    · rw [if_neg c] at h
      by_cases c2 : x < b i
      · rw [if_pos c2] at h
        exact cls_lo (i := i) (by omega)
      · rw [if_neg c2] at h
        by_cases e : j = i
        · rw [e]; omega
        · exact cls_lo (i := i) (by omega)
theorem cls_eq {b : Nat → Nat} {i x j : Nat} (hj : j ≤ i) (lo : ∀ j', j' < j → b j' ≤ x) (hi : j < i → x < b j) : cls b i x = j := by
  have l := cls_le b i x
  rcases Nat.lt_trichotomy (cls b i x) j with z | z | z
  · have h1 := cls_hi (b := b) (i := i) (x := x) (by omega)
    have h2 := lo _ z
    omega
  · exact z
  · have h1 := cls_lo z
    have h2 := hi (by omega)
    omega
theorem cls_anti {b b' : Nat → Nat} {i x : Nat} (h : ∀ j, j < i → b j ≤ b' j) : cls b' i x ≤ cls b i x := by
  rcases Nat.lt_or_ge (cls b i x) (cls b' i x) with z | z
  · have l := cls_le b' i x
    have h1 := cls_hi (b := b) (i := i) (x := x) (by omega)
    have h2 := cls_lo z
    have h3 := h (cls b i x) (by omega)
    omega
  · exact z
def pvn (b : Nat → Nat) (t : Nat) : Nat → Nat
  | 0 => 0
  | j + 1 => cdw (b j) t
/-- the words that keep busy all chunks of t words before the numbers of the first i classes -/
def Lw (s b : Nat → Nat) (t i : Nat) : Nat := sm (fun j => s j * (pvn b t (j + 1) - pvn b t j)) i
theorem lw_sum {s b : Nat → Nat} {t i : Nat} (ht : 0 < t) (hm : ∀ j, j + 1 < i → b j ≤ b (j + 1)) : ∀ j, j ≤ i → Lw s b t j = sm (fun k => s (cls b i (k * t))) (pvn b t j)
  | 0, _ => rfl
  | j + 1, hj => by
    have mm : ∀ d j', j' + d + 1 = j → b j' ≤ b (j - 1) := by
      intro d
      induction d with
      | zero => intro j' e; have : j - 1 = j' := by omega
                rw [this]; exact Nat.le_refl _
      | succ d ih => intro j' e; exact Nat.le_trans (hm j' (by omega)) (ih (j' + 1) (by omega))
    have le : pvn b t j ≤ pvn b t (j + 1) := by
      cases j with
      | zero => exact Nat.zero_le _
      | succ j => exact cdw_mono (hm j (by omega))
    show Lw s b t j + s j * _ = _
    rw [lw_sum ht hm j (by omega), sm_const le (v := s j) fun k h1 h2 => ?_]
    have e : cls b i (k * t) = j := by
      refine cls_eq (by omega) (fun j' hj' => ?_) (fun _ => (lt_cdw ht).mp h2)
      cases j with
      | zero => omega
      | succ j0 =>
        have h3 : ¬ k * t < b j0 := fun h => by
          have := (lt_cdw ht).mpr h
          have h1' : cdw (b j0) t ≤ k := h1
          omega
        have h4 := mm (j0 - j') j' (by omega)
        show b j' ≤ k * t
        have : j0 + 1 - 1 = j0 := rfl
        rw [this] at h4
        omega
    rw [e]
structure CH (s : Nat → Nat) (m : Nat) : Prop where
  s0 : s 0 = 1
  dv : ∀ i, i + 1 < m → ∃ r, 1 ≤ r ∧ s (i + 1) = s i * r
theorem CH.pos {s : Nat → Nat} {m : Nat} (c : CH s m) : ∀ {i}, i < m → 1 ≤ s i
  | 0, _ => by rw [c.s0]; exact Nat.le_refl _
  | i + 1, h => by
    obtain ⟨r, hr, e⟩ := c.dv i h
    rw [e]
    exact Nat.le_trans (Nat.le_refl 1) (Nat.mul_le_mul (c.pos (by omega)) hr)
theorem CH.mono1 {s : Nat → Nat} {m i : Nat} (c : CH s m) (h : i + 1 < m) : s i ≤ s (i + 1) := by
  obtain ⟨r, hr, e⟩ := c.dv i h
  rw [e]
  exact Nat.le_mul_of_pos_right _ hr
theorem CH.mono {s : Nat → Nat} {m i : Nat} (c : CH s m) : ∀ {j}, i ≤ j → j < m → s i ≤ s j
  | 0, h, _ => by rw [Nat.le_zero.mp h]; exact Nat.le_refl _
  | j + 1, h, hj => by
    rcases Nat.lt_or_ge i (j + 1) with z | z
    · exact Nat.le_trans (c.mono (Nat.le_of_lt_succ z) (by omega)) (c.mono1 hj)
    · rw [Nat.le_antisymm h z]; exact Nat.le_refl _
theorem CH.dvd {s : Nat → Nat} {m i : Nat} (c : CH s m) : ∀ {j}, i ≤ j → j < m → ∃ r, 1 ≤ r ∧ s j = s i * r
  | 0, h, _ => by rw [Nat.le_zero.mp h]; exact ⟨1, Nat.le_refl _, by rw [Nat.mul_one]⟩
  | j + 1, h, hj => by
    rcases Nat.lt_or_ge i (j + 1) with z | z
    · obtain ⟨r, hr, e⟩ := c.dvd (Nat.le_of_lt_succ z) (by omega)
      obtain ⟨r2, hr2, e2⟩ := c.dv j hj
      exact ⟨r * r2, Nat.le_trans (Nat.le_refl 1) (Nat.mul_le_mul hr hr2), by rw [e2, e, Nat.mul_assoc]⟩
    · rw [Nat.le_antisymm h z]; exact ⟨1, Nat.le_refl _, by rw [Nat.mul_one]⟩
structure BD (s b : Nat → Nat) (m M : Nat) : Prop where
  b0 : b 0 = M
  bs : ∀ i, i + 1 < m → b (i + 1) = s (i + 1) * (cdw (b i) (s (i + 1)) + (M - Lw s b (s (i + 1)) (i + 1)) / s (i + 1))
def SS (s b : Nat → Nat) (i n : Nat) : Nat := sm (fun k => s (cls b i (k * s i))) n
section
variable {s b : Nat → Nat} {m M : Nat} (c : CH s m) (B : BD s b m M)
include c B
theorem BD.up {i : Nat} (h : i + 1 < m) : b i ≤ b (i + 1) := by
  have p := c.pos h
  rw [B.bs i h]
  have := le_cdw (x := b i) p
  rw [Nat.mul_comm] at this
  exact Nat.le_trans this (Nat.mul_le_mul_left _ (Nat.le_add_right _ _))
theorem BD.mono {i : Nat} : ∀ {j}, i ≤ j → j < m → b i ≤ b j
  | 0, h, _ => by rw [Nat.le_zero.mp h]; exact Nat.le_refl _
  | j + 1, h, hj => by
    rcases Nat.lt_or_ge i (j + 1) with z | z
    · exact Nat.le_trans (BD.mono (Nat.le_of_lt_succ z) (by omega)) (B.up c hj)
    · rw [Nat.le_antisymm h z]; exact Nat.le_refl _
theorem BD.num {i : Nat} (h : i < m) : b i / s i * s i = b i := by
  have p := c.pos h
  cases i with
  | zero => rw [c.s0]; omega
  | succ i => rw [B.bs i h, Nat.mul_div_cancel_left _ p, Nat.mul_comm]
theorem BD.ss_lw {i : Nat} (h : i < m) : Lw s b (s i) i = SS s b i (pvn b (s i) i) := lw_sum (s := s) (b := b) (c.pos h) (fun j hj => B.up c (by omega)) i (Nat.le_refl _)
theorem BD.key : ∀ {i : Nat}, i < m → SS s b i (b i / s i) ≤ M ∧ M < SS s b i (b i / s i) + s i ∧ Lw s b (s i) i ≤ M
  | 0, h => by
    have e : ∀ n, SS s b 0 n = n := fun n => by
      unfold SS
      rw [sm_const (f := fun k => s (cls b 0 (k * s 0))) (a := 0) (v := 1) (Nat.zero_le n) fun k _ _ => c.s0]
      show 0 + _ = _
      omega
    rw [e, c.s0, B.b0]
    refine ⟨by omega, by omega, Nat.zero_le _⟩
  | i + 1, h => by
    have p := c.pos h
    obtain ⟨k1, k2, k3⟩ := BD.key (i := i) (by omega)
    have hL : Lw s b (s (i + 1)) (i + 1) ≤ M := by
      rw [B.ss_lw c h]
      show SS s b (i + 1) (cdw (b i) (s (i + 1))) ≤ M
      obtain ⟨r, hr, er⟩ := c.dv i h
      refine Nat.le_trans (Nat.le_trans (m := sm (fun k => (fun q => s (cls b i (q * s i))) (k * r)) (cdw (b i) (s (i + 1)))) (sm_le fun k hk => ?_) (sm_step (f := fun q => s (cls b i (q * s i))) hr (n := b i / s i) ?_)) k1
      · have hk2 := (lt_cdw p).mp hk
        have e : k * s (i + 1) = k * r * s i := by rw [er, Nat.mul_assoc, Nat.mul_comm (s i) r]
        dsimp only
        rw [e] at hk2 ⊢
        have : cls b (i + 1) (k * r * s i) = cls b i (k * r * s i) := by
          have l := cls_le b i (k * r * s i)
          show (if cls b i (k * r * s i) < i then cls b i (k * r * s i) else if k * r * s i < b i then i else i + 1) = _
          split
          · rfl
          · omega
        rw [this]
        exact Nat.le_refl _
      · cases e : cdw (b i) (s (i + 1)) with
        | zero => exact .inl rfl
        | succ a =>
          right
          have h1 := (lt_cdw (x := b i) (k := a) p).mp (by omega)
          rw [er, Nat.mul_comm (s i) r, ← Nat.mul_assoc, ← B.num c (i := i) (by omega)] at h1
          exact Nat.lt_of_mul_lt_mul_right h1
    have hS : SS s b (i + 1) (b (i + 1) / s (i + 1)) = Lw s b (s (i + 1)) (i + 1) + s (i + 1) * ((M - Lw s b (s (i + 1)) (i + 1)) / s (i + 1)) := by
      rw [B.bs i h, Nat.mul_div_cancel_left _ p]
      generalize (M - Lw s b (s (i + 1)) (i + 1)) / s (i + 1) = d
      rw [B.ss_lw c h]
      show SS s b (i + 1) (cdw (b i) (s (i + 1)) + d) = SS s b (i + 1) (cdw (b i) (s (i + 1))) + _
      unfold SS
      rw [sm_const (a := cdw (b i) (s (i + 1))) (v := s (i + 1)) (Nat.le_add_right _ _) fun k h1 _ => ?_, Nat.add_sub_cancel_left]
      have e : cls b (i + 1) (k * s (i + 1)) = i + 1 := by
        refine cls_eq (Nat.le_refl _) (fun j hj => ?_) (fun z => absurd z (by omega))
        have h3 : ¬ k * s (i + 1) < b i := fun z => by
          have := (lt_cdw p).mpr z
          omega
        have := B.mono c (i := j) (j := i) (by omega) (by omega)
        omega
      rw [e]
    rw [hS]
    have d1 := Nat.div_mul_le_self (M - Lw s b (s (i + 1)) (i + 1)) (s (i + 1))
    have d2 := Nat.lt_div_mul_add (a := M - Lw s b (s (i + 1)) (i + 1)) p
    rw [Nat.mul_comm] at d1 d2
    exact ⟨by omega, by omega, hL⟩
theorem BD.iff {i n : Nat} (h : i < m) : n ≤ b i / s i ↔ SS s b i n ≤ M := by
  obtain ⟨k1, k2, k3⟩ := B.key c h
  constructor
  · intro z
    exact Nat.le_trans (sm_mono z) k1
  · intro z
    rcases Nat.lt_or_ge (b i / s i) n with y | y
    · have h1 : SS s b i (b i / s i + 1) ≤ SS s b i n := sm_mono y
      have h2 : SS s b i (b i / s i + 1) = SS s b i (b i / s i) + s i := by
        show _ + s (cls b i (b i / s i * s i)) = _
        rw [B.num c h, cls_eq (Nat.le_refl i) (fun j hj => B.mono c (by omega) h) (fun z => absurd z (by omega))]
        rfl
      omega
    · exact y
theorem BD.ge {i : Nat} (h : i < m) : M ≤ b i := by
  have := B.mono c (i := 0) (Nat.zero_le i) h
  rw [B.b0] at this
  exact this
omit B in
theorem SS_anti {t b' : Nat → Nat} {i i' n : Nat} (hs : s i = t i') (h : ∀ k, t (cls b' i' (k * s i)) ≤ s (cls b i (k * s i))) : SS t b' i' n ≤ SS s b i n := by
  unfold SS
  rw [← hs]
  exact sm_le fun k _ => h k
omit B in
/-- fewer live words never reach further -/
theorem BD.le {b' : Nat → Nat} {M' : Nat} (B : BD s b m M) (B' : BD s b' m M') (h : M ≤ M') : ∀ i, i < m → b i ≤ b' i := by
  intro i
  induction i using Nat.strongRecOn with
  | ind i ih =>
    intro hi
    have h1 : b i / s i ≤ b' i / s i := by
      rw [B'.iff c hi]
      refine Nat.le_trans (SS_anti c rfl fun k => ?_) (Nat.le_trans ((B.key c hi).1) h)
      refine c.mono (cls_anti fun j hj => ih j hj (by omega)) ?_
      have := cls_le b i (k * s i)
      omega
    rw [← B.num c hi, ← B'.num c hi]
    exact Nat.mul_le_mul_right _ h1
omit B in
/-- a page more of words needs a page more -/
theorem BD.more {b' : Nat → Nat} {i : Nat} (B : BD s b m M) (hi : i < m) (B' : BD s b' m (M + s i)) : b i / s i + 1 ≤ b' i / s i := by
  rw [B'.iff c hi]
  show SS s b' i (b i / s i) + s (cls b' i (b i / s i * s i)) ≤ _
  have h1 : SS s b' i (b i / s i) ≤ M := by
    refine Nat.le_trans (SS_anti c rfl fun k => ?_) ((B.key c hi).1)
    refine c.mono (cls_anti fun j hj => BD.le c B B' (Nat.le_add_right _ _) j (by omega)) ?_
    have := cls_le b i (k * s i)
    omega
  have h2 : s (cls b' i (b i / s i * s i)) ≤ s i := c.mono (cls_le _ _ _) hi
  omega
/-- with sizes left out no class reaches further -/
theorem BD.fewer {t b' σ : Nat → Nat} {p : Nat} (ct : CH t p) (B' : BD t b' p M) (e : ∀ a, a < p → t a = s (σ a)) (lt : ∀ a, a < p → σ a < m) (up : ∀ a a', a < a' → a' < p → σ a < σ a') : ∀ a, a < p → b' a ≤ b (σ a) := by
  intro a
  induction a using Nat.strongRecOn with
  | ind a ih =>
    intro ha
    have h1 : b' a / t a ≤ b (σ a) / s (σ a) := by
      rw [B.iff c (lt a ha)]
      refine Nat.le_trans (SS_anti ct (s := t) (t := s) (b := b') (b' := b) (i := a) (i' := σ a) (e a ha) fun k => ?_) ((B'.key ct ha).1)
      have l := cls_le b' a (k * t a)
      have l2 := cls_le b (σ a) (k * t a)
      rw [e _ (Nat.lt_of_le_of_lt l ha)]
      refine c.mono ?_ (lt _ (Nat.lt_of_le_of_lt l ha))
      rcases Nat.lt_or_ge (cls b' a (k * t a)) a with z | z
      · rcases Nat.lt_or_ge (σ (cls b' a (k * t a))) (cls b (σ a) (k * t a)) with y | y
        · have h2 := cls_hi z
          have h3 := ih _ z (by omega)
          have h4 := cls_lo y
          omega
        · exact y
      · rw [Nat.le_antisymm l z]
        exact l2
    rw [← B'.num ct ha, ← B.num c (lt a ha), e a ha]
    rw [e a ha] at h1
    exact Nat.mul_le_mul_right _ h1
/-- careless rules open at least as many pages -/
theorem BD.careless {i : Nat} (hi : i < m) (h0 : 0 < b i) : ∃ j, j ≤ i ∧ s j ≤ M ∧ (b i / s i - 1) * (s i / s j) + s j ≤ M := by
  have p := c.pos hi
  have hn := B.num c hi
  have n0 : 0 < b i / s i := by
    rcases Nat.eq_zero_or_pos (b i / s i) with z | z
    · rw [z] at hn; omega
    · exact z
  generalize hx : (b i / s i - 1) * s i = x
  have l := cls_le b i x
  have hj : cls b i x < m := by omega
  have pj := c.pos hj
  obtain ⟨r, hr, er⟩ := c.dvd l hi
  have hq : s i / s (cls b i x) = r := by rw [er]; exact Nat.mul_div_cancel_left _ pj
  rw [← hx] at hq er pj hj l
  rw [← hx] at *
  generalize hc : cls b i ((b i / s i - 1) * s i) = j at *
  have ex : (b i / s i - 1) * s i = (b i / s i - 1) * r * s j := by rw [er, Nat.mul_assoc, Nat.mul_comm (s j) r]
  have lo : ∀ j', j' < j → b j' ≤ (b i / s i - 1) * r * s j := fun j' hj' => by
    rw [← ex]
    exact cls_lo (by rw [hc]; exact hj')
  have h1 : (b i / s i - 1) * r + 1 ≤ b j / s j := by
    have h2 : (b i / s i - 1) * r * s j < b j := by
      rcases Nat.lt_or_ge j i with z | z
      · rw [← ex]
        have := cls_hi (b := b) (i := i) (x := (b i / s i - 1) * s i) (by omega)
        rw [hc] at this
        exact this
      · have : j = i := by omega
        rw [← ex, this, ← hn]
        have h3 : b i / s i * s i / s i = b i / s i := Nat.mul_div_cancel _ p
        rw [h3]
        exact Nat.mul_lt_mul_of_pos_right (by omega) p
    rw [← B.num c hj] at h2
    exact Nat.lt_of_mul_lt_mul_right h2
  rw [B.iff c hj] at h1
  have h3 : SS s b j ((b i / s i - 1) * r + 1) = SS s b j ((b i / s i - 1) * r) + s j := by
    show _ + s (cls b j ((b i / s i - 1) * r * s j)) = _
    rw [cls_eq (Nat.le_refl j) lo (fun z => absurd z (by omega))]
    rfl
  have h4 : (b i / s i - 1) * r * 1 ≤ SS s b j ((b i / s i - 1) * r) := sm_ge fun k _ => c.pos (Nat.lt_of_le_of_lt (cls_le _ _ _) hj)
  refine ⟨j, l, by omega, ?_⟩
  rw [hq]
  omega

theorem pvn_dv {t t' r : Nat} (ht : 0 < t) (hr : 1 ≤ r) (e : t' = t * r) {j : Nat} (hd : ∀ j', j' < j → ∃ q, b j' = t' * q) : pvn b t j = r * pvn b t' j := by
  cases j with
  | zero => rfl
  | succ j =>
    obtain ⟨q, hq⟩ := hd j (Nat.lt_succ_self j)
    show cdw (b j) t = r * cdw (b j) t'
    have p : 0 < t' := by rw [e]; exact Nat.mul_pos ht hr
    have e1 : b j = q * t' := by rw [hq, Nat.mul_comm]
    have e2 : b j = (r * q) * t := by rw [hq, e, Nat.mul_comm r q, Nat.mul_assoc, Nat.mul_comm q, Nat.mul_assoc, Nat.mul_comm t, Nat.mul_comm r q]; simp [Nat.mul_assoc, Nat.mul_comm, Nat.mul_left_comm]
    rw [e2, cdw_mul ht, ← e2, e1, cdw_mul p]
omit c B in
theorem sm_mulL {f g : Nat → Nat} {r : Nat} : ∀ {n : Nat}, (∀ k, k < n → f k = r * g k) → sm f n = r * sm g n
  | 0, _ => rfl
  | n + 1, h => by
    show sm f n + f n = r * (sm g n + g n)
    rw [sm_mulL fun k hk => h k (Nat.lt_succ_of_lt hk), h n (Nat.lt_succ_self n), Nat.mul_add]
/-- limits that are multiples of the page times each ratio -/
theorem BD.exact {p : Nat} (hp : p + 1 = m) (hM : ∀ i, i + 1 < m → ∃ r u, 1 ≤ r ∧ s (i + 1) = s i * r ∧ M = s p * r * u) (h0 : ∃ u, M = s p * u) :
    ∀ i, i < m → (∀ j, j ≤ i → ∃ q, b j = s p * q) ∧ Lw s b (s i) (i + 1) = M ∧ ∀ j, j + 1 ≤ i → b (j + 1) + M / (s (j + 1) / s j) = b j + M := by
  intro i
  induction i with
  | zero =>
    intro h
    refine ⟨fun j hj => ?_, ?_, fun j hj => absurd hj (by omega)⟩
    · rw [Nat.le_zero.mp hj, B.b0]
      exact h0
    · show 0 + s 0 * (cdw (b 0) (s 0) - 0) = M
      rw [c.s0, B.b0]
      have := cdw_mul (n := M) (s := 1) (by omega)
      rw [Nat.mul_one] at this
      rw [this]
      omega
  | succ i ih =>
    intro h
    obtain ⟨i1, i2, i3⟩ := ih (by omega)
    obtain ⟨r, u, hr, er, eM⟩ := hM i h
    have pi := c.pos (i := i) (by omega)
    have pt := c.pos h
    obtain ⟨v, hv, ev⟩ := c.dvd (i := i + 1) (j := p) (by omega) (by omega)
    have hd : ∀ j', j' < i + 1 → ∃ q, b j' = s (i + 1) * q := fun j' hj => by
      obtain ⟨q, hq⟩ := i1 j' (by omega)
      exact ⟨v * q, by rw [hq, ev, Nat.mul_assoc]⟩
    have eL : Lw s b (s i) (i + 1) = r * Lw s b (s (i + 1)) (i + 1) := by
      unfold Lw
      refine sm_mulL fun j hj => ?_
      rw [pvn_dv c B pi hr er (j := j + 1) fun j' hj' => hd j' (by omega), pvn_dv c B pi hr er (j := j) fun j' hj' => hd j' (by omega), ← Nat.mul_sub, Nat.mul_left_comm]
    have eq : Lw s b (s (i + 1)) (i + 1) = s p * u := by
      rw [i2, eM] at eL
      have : r * (s p * u) = r * Lw s b (s (i + 1)) (i + 1) := by rw [← eL, Nat.mul_left_comm, Nat.mul_assoc]
      exact (Nat.eq_of_mul_eq_mul_left (by omega) this).symm
    have eMr : M = r * (s p * u) := by rw [eM, Nat.mul_comm (s p) r, Nat.mul_assoc]
    have hle : s p * u ≤ M := by rw [eMr]; exact Nat.le_mul_of_pos_left _ (by omega)
    have eMs : M - s p * u = s (i + 1) * (v * ((r - 1) * u)) := by
      have : M = s p * u + (r - 1) * (s p * u) := by
        rw [eMr]
        conv => lhs; rw [show r = 1 + (r - 1) by omega, Nat.add_mul, Nat.one_mul]
      rw [this, Nat.add_sub_cancel_left, ev]
      simp [Nat.mul_assoc, Nat.mul_comm, Nat.mul_left_comm]
    obtain ⟨q, hq⟩ := hd i (by omega)
    have eb : b (i + 1) = b i + (M - s p * u) := by
      rw [B.bs i h, eq, eMs, Nat.mul_div_cancel_left _ pt, hq, Nat.mul_comm (s (i + 1)) q, cdw_mul pt, Nat.mul_add, Nat.mul_comm q]
    have er2 : s (i + 1) / s i = r := by rw [er]; exact Nat.mul_div_cancel_left _ pi
    have eMd : M / r = s p * u := by rw [eMr]; exact Nat.mul_div_cancel_left _ (by omega)
    refine ⟨fun j hj => ?_, ?_, fun j hj => ?_⟩
    · rcases Nat.lt_or_ge j (i + 1) with z | z
      · exact i1 j (by omega)
      · rw [Nat.le_antisymm hj z, eb]
        obtain ⟨q2, hq2⟩ := i1 i (Nat.le_refl _)
        obtain ⟨u2, hu2⟩ := h0
        refine ⟨q2 + (u2 - u), ?_⟩
        rw [Nat.mul_add, ← hq2, Nat.mul_sub, ← hu2]
    · show Lw s b (s (i + 1)) (i + 1) + s (i + 1) * (cdw (b (i + 1)) (s (i + 1)) - cdw (b i) (s (i + 1))) = M
      have e1 : b i = q * s (i + 1) := by rw [hq, Nat.mul_comm]
      have e2 : b (i + 1) = (q + v * ((r - 1) * u)) * s (i + 1) := by rw [eb, eMs, e1, Nat.add_mul, Nat.mul_comm (s (i + 1))]
      rw [e2, e1, cdw_mul pt, cdw_mul pt, Nat.add_sub_cancel_left, ← eMs, eq]
      omega
    · rcases Nat.lt_or_ge j i with z | z
      · exact i3 j (by omega)
      · have : j = i := by omega
        rw [this, er2, eMd, eb]
        omega
omit c B in
theorem cls_up {i x y : Nat} (h : x ≤ y) : cls b i x ≤ cls b i y := by
  rcases Nat.lt_or_ge (cls b i y) (cls b i x) with z | z
  · have l := cls_le b i x
    have h1 := cls_hi (b := b) (i := i) (x := y) (by omega)
    have h2 := cls_lo z
    omega
  · exact z
omit c B in
theorem sm_group {f : Nat → Nat} {r : Nat} (hr : 1 ≤ r) (hf : ∀ x y, x ≤ y → f x ≤ f y) : ∀ K, sm f (K * r + 1) ≤ r * sm (fun k => f (k * r)) (K + 1)
  | 0 => by
    show sm f (0 * r + 1) ≤ r * (0 + f (0 * r))
    rw [Nat.zero_mul, Nat.zero_add, Nat.zero_add]
    show 0 + f 0 ≤ r * f 0
    have := Nat.mul_le_mul_right (f 0) hr
    omega
  | K + 1 => by
    have ih := sm_group hr hf K
    have h2 : ∀ n, n ≤ r → sm f (K * r + 1 + n) ≤ sm f (K * r + 1) + n * f ((K + 1) * r) := by
      intro n
      induction n with
      | zero => intro _; show sm f (K * r + 1) ≤ _; omega
      | succ n ih =>
        intro hn
        have h1 := ih (by omega)
        have h3 : f (K * r + 1 + n) ≤ f ((K + 1) * r) := hf _ _ (by rw [Nat.add_mul, Nat.one_mul]; omega)
        show sm f (K * r + 1 + n) + f (K * r + 1 + n) ≤ _
        rw [Nat.add_mul, Nat.one_mul]
        omega
    have h3 := h2 r (Nat.le_refl _)
    have e : (K + 1) * r + 1 = K * r + 1 + r := by rw [Nat.add_mul, Nat.one_mul]; omega
    rw [e]
    show _ ≤ r * (sm _ (K + 1) + f ((K + 1) * r))
    rw [Nat.mul_add]
    omega
/-- the bounds without rounding, and two sizes more -/
theorem BD.smooth {i r : Nat} (h : i + 1 < m) (hr : 1 ≤ r) (er : s (i + 1) = s i * r) : r * b (i + 1) + M ≤ r * b i + r * M + 2 * (r * s (i + 1)) := by
  have p := c.pos h
  have pi := c.pos (i := i) (by omega)
  obtain ⟨k1, k2, k3⟩ := B.key c (i := i) (by omega)
  obtain ⟨j1, j2, j3⟩ := B.key c h
  have hb : b (i + 1) + Lw s b (s (i + 1)) (i + 1) ≤ b i + s (i + 1) + M := by
    rw [B.bs i h, Nat.mul_add]
    have h1 := cdw_lt (x := b i) p
    have h2 := Nat.div_mul_le_self (M - Lw s b (s (i + 1)) (i + 1)) (s (i + 1))
    rw [Nat.mul_comm] at h1 h2
    omega
  have hf : ∀ x y, x ≤ y → s (cls b i (x * s i)) ≤ s (cls b i (y * s i)) := fun x y hxy => c.mono (cls_up (Nat.mul_le_mul_right _ hxy)) (Nat.lt_of_le_of_lt (cls_le _ _ _) (by omega))
  have hl : M ≤ r * Lw s b (s (i + 1)) (i + 1) + s (i + 1) := by
    rw [B.ss_lw c h]
    show M ≤ r * SS s b (i + 1) (cdw (b i) (s (i + 1))) + _
    have hn := B.num c (i := i) (by omega)
    cases e : cdw (b i) (s (i + 1)) with
    | zero =>
      have h1 : b i = 0 := by
        have := le_cdw (x := b i) p
        rw [e] at this
        omega
      have := B.ge c (i := i) (by omega)
      omega
    | succ K =>
      have g := sm_group hr hf K
      have e1 : SS s b (i + 1) (K + 1) = sm (fun k => s (cls b i (k * r * s i))) (K + 1) := by
        unfold SS
        refine sm_congr fun k hk => ?_
        have hk2 := (lt_cdw (x := b i) (k := k) p).mp (by omega)
        have e2 : k * s (i + 1) = k * r * s i := by rw [er, Nat.mul_assoc, Nat.mul_comm (s i) r]
        rw [e2] at hk2 ⊢
        have : cls b (i + 1) (k * r * s i) = cls b i (k * r * s i) := by
          have l := cls_le b i (k * r * s i)
          show (if cls b i (k * r * s i) < i then cls b i (k * r * s i) else if k * r * s i < b i then i else i + 1) = _
          split
          · rfl
          · omega
        rw [this]
      rw [e1]
      have hN : b i / s i ≤ (K * r + 1) + (r - 1) := by
        have h1 : b i ≤ (K + 1) * s (i + 1) := by
          have := le_cdw (x := b i) p
          rw [e] at this
          exact this
        have h2 : b i / s i * s i ≤ (K + 1) * r * s i := by
          rw [hn, Nat.mul_assoc, Nat.mul_comm r, ← er]
          exact h1
        have h3 := Nat.le_of_mul_le_mul_right h2 pi
        rw [Nat.add_mul, Nat.one_mul] at h3
        omega
      have hv : ∀ n, SS s b i ((K * r + 1) + n) ≤ SS s b i (K * r + 1) + n * s i := by
        intro n
        induction n with
        | zero => show SS s b i (K * r + 1) ≤ _; omega
        | succ n ih =>
          show SS s b i (K * r + 1 + n) + s (cls b i ((K * r + 1 + n) * s i)) ≤ _
          have := c.mono (cls_le b i ((K * r + 1 + n) * s i)) (by omega)
          have e3 : (n + 1) * s i = n * s i + s i := by rw [Nat.add_mul, Nat.one_mul]
          rw [e3]
          omega
      have h4 := hv (r - 1)
      have h5 : SS s b i (b i / s i) ≤ SS s b i ((K * r + 1) + (r - 1)) := sm_mono hN
      have h6 : (r - 1) * s i + s i = s (i + 1) := by
        rw [er, Nat.mul_comm (s i) r]
        conv => rhs; rw [show r = (r - 1) + 1 by omega, Nat.add_mul, Nat.one_mul]
      have h7 : SS s b i (K * r + 1) ≤ r * sm (fun k => s (cls b i (k * r * s i))) (K + 1) := g
      omega
  have h8 := Nat.mul_le_mul_left r hb
  rw [Nat.mul_add, Nat.mul_add, Nat.mul_add] at h8
  have h9 : s (i + 1) ≤ r * s (i + 1) := Nat.le_mul_of_pos_left _ hr
  omega
end
end Ph

namespace Ph
open PySem PySem.Spec PyProof.Rows L2
/-- the first m numbers of a row of numbers -/
def tl (s : Nat → Nat) (m : Nat) : List Int := (List.range m).map fun i => ((s i : Nat) : Int)
theorem tl_len (s : Nat → Nat) (m : Nat) : (tl s m).length = m := by unfold tl; simp
theorem tl_get {s : Nat → Nat} {m i : Nat} (h : i < m) : (tl s m)[i]? = some ((s i : Nat) : Int) := by
  unfold tl
  rw [List.getElem?_map, List.getElem?_range h]
  rfl
theorem tl_getV {s : Nat → Nat} {m i : Nat} (h : i < m) : ((tl s m).map V.int)[i]? = some (V.int ((s i : Nat) : Int)) := by
  rw [List.getElem?_map, tl_get h]
  rfl
theorem tl_succ (s : Nat → Nat) (m : Nat) : tl s (m + 1) = tl s m ++ [((s m : Nat) : Int)] := by
  unfold tl
  rw [List.range_succ, List.map_append]
  rfl
theorem tl_congr {s t : Nat → Nat} {m : Nat} (h : ∀ i, i < m → s i = t i) : tl s m = tl t m := by
  unfold tl
  refine List.map_congr_left fun i hi => ?_
  rw [h i (List.mem_range.mp hi)]
theorem tl_last {s : Nat → Nat} {m : Nat} : tl s (m + 1) = tl s m ++ [((s m : Nat) : Int)] := tl_succ s m
theorem tl_mem {s : Nat → Nat} {m : Nat} {x : Int} : x ∈ tl s m ↔ ∃ i, i < m ∧ x = ((s i : Nat) : Int) := by
  unfold tl
  rw [List.mem_map]
  constructor
  · rintro ⟨i, hi, e⟩
    exact ⟨i, List.mem_range.mp hi, e.symm⟩
  · rintro ⟨i, hi, e⟩
    exact ⟨i, List.mem_range.mpr hi, e.symm⟩
/-- every row of whole numbers from 0 is such a row -/
theorem tl_of {C : List Int} (h : ∀ x ∈ C, 0 ≤ x) : C = tl (fun i => (C.getD i 0).toNat) C.length := by
  apply List.ext_getElem?
  intro i
  rcases Nat.lt_or_ge i C.length with z | z
  · rw [tl_get z, List.getElem?_eq_getElem z]
    have h1 := h _ (List.getElem_mem z)
    have h2 : C.getD i 0 = C[i] := by simp [List.getD_eq_getElem?_getD, List.getElem?_eq_getElem z]
    rw [h2]
    congr 1
    omega
  · rw [List.getElem?_eq_none z, List.getElem?_eq_none (by rw [tl_len]; exact z)]
theorem up_cdw {n s : Nat} (hs : 0 < s) : -(-(n : Int) / (s : Int)) = ((cdw n s : Nat) : Int) := by
  have h1 := le_cdw (x := n) hs
  have h2 := cdw_lt (x := n) hs
  have e : -(n : Int) / (s : Int) = -((cdw n s : Nat) : Int) := by
    have hs' : (0 : Int) < s := by omega
    have h1' : (n : Int) ≤ (cdw n s : Nat) * (s : Int) := by exact_mod_cast h1
    have h2' : (cdw n s : Nat) * (s : Int) < (n : Int) + s := by exact_mod_cast h2
    apply Int.le_antisymm
    · have : -(n : Int) / (s : Int) < -((cdw n s : Nat) : Int) + 1 := by
        rw [Int.ediv_lt_iff_lt_mul hs', Int.add_mul, Int.neg_mul, Int.one_mul]
        omega
      omega
    · rw [Int.le_ediv_iff_mul_le hs', Int.neg_mul]
      omega
  rw [e]
  omega
theorem up2_cdw {n s : Nat} (hs : 0 < s) : ((n : Int) + (s : Int) - 1) / (s : Int) = ((cdw n s : Nat) : Int) := by
  unfold cdw
  have : (n : Int) + (s : Int) - 1 = ((n + s - 1 : Nat) : Int) := by omega
  rw [this]
  exact (Int.natCast_ediv _ _).symm
/-- the numbers, begun with reaches -/
def bls (s ρ : Nat → Nat) (M : Nat) : Nat → Nat → Nat
  | 0, _ => max M (ρ 0)
  | i + 1, j => if j = i + 1 then max (ρ (i + 1)) (s (i + 1) * (cdw (bls s ρ M i i) (s (i + 1)) + (M - Lw s (bls s ρ M i) (s (i + 1)) (i + 1)) / s (i + 1))) else bls s ρ M i j
def bfn (s ρ : Nat → Nat) (M j : Nat) : Nat := bls s ρ M j j
theorem bls_eq (s ρ : Nat → Nat) (M : Nat) : ∀ {i j : Nat}, j ≤ i → bls s ρ M i j = bfn s ρ M j
  | 0, j, h => by rw [Nat.le_zero.mp h]; rfl
  | i + 1, j, h => by
    rcases Nat.lt_or_ge j (i + 1) with z | z
    · rw [← bls_eq s ρ M (i := i) (j := j) (by omega)]
      show (if j = i + 1 then _ else _) = _
      rw [if_neg (by omega)]
    · rw [Nat.le_antisymm h z]; rfl
theorem pvn_congr {b b' : Nat → Nat} {t j : Nat} (h : ∀ i, i < j → b i = b' i) : pvn b t j = pvn b' t j := by
  cases j with
  | zero => rfl
  | succ j => show cdw _ _ = cdw _ _; rw [h j (Nat.lt_succ_self j)]
theorem lw_congr {s b b' : Nat → Nat} {t i : Nat} (h : ∀ j, j < i → b j = b' j) : Lw s b t i = Lw s b' t i := by
  unfold Lw
  refine sm_congr fun j hj => ?_
  rw [pvn_congr (j := j + 1) fun k hk => h k (by omega), pvn_congr (j := j) fun k hk => h k (by omega)]
theorem bfn_zero (s ρ : Nat → Nat) (M : Nat) : bfn s ρ M 0 = max M (ρ 0) := rfl
theorem bfn_succ (s ρ : Nat → Nat) (M i : Nat) : bfn s ρ M (i + 1) = max (ρ (i + 1)) (s (i + 1) * (cdw (bfn s ρ M i) (s (i + 1)) + (M - Lw s (bfn s ρ M) (s (i + 1)) (i + 1)) / s (i + 1))) := by
  show (if i + 1 = i + 1 then _ else _) = _
  rw [if_pos rfl, lw_congr fun j hj => bls_eq s ρ M (i := i) (j := j) (by omega)]
  rfl
theorem bd_bfn (s : Nat → Nat) (m M : Nat) : BD s (bfn s (fun _ => 0) M) m M := by
  refine ⟨?_, fun i hi => ?_⟩
  · rw [bfn_zero]; exact Nat.max_eq_left (Nat.zero_le _)
  · rw [bfn_succ]; exact Nat.max_eq_right (Nat.zero_le _)
theorem bfn_up {s ρ : Nat → Nat} {M i : Nat} (h : 0 < s (i + 1)) : bfn s ρ M i ≤ bfn s ρ M (i + 1) := by
  rw [bfn_succ]
  have := le_cdw (x := bfn s ρ M i) h
  rw [Nat.mul_comm] at this
  exact Nat.le_trans (Nat.le_trans this (Nat.mul_le_mul_left _ (Nat.le_add_right _ _))) (Nat.le_max_right _ _)
theorem BD.uniq {s b b' : Nat → Nat} {m M : Nat} (c : CH s m) (B : BD s b m M) (B' : BD s b' m M) {i : Nat} (h : i < m) : b i = b' i :=
  Nat.le_antisymm (BD.le c B B' (Nat.le_refl _) i h) (BD.le c B' B (Nat.le_refl _) i h)
end Ph

namespace Ph
open PySem PySem.Spec PyProof.Rows L2
/-! ### the pot -/
def But (p : Addr) (H H' : Hp) : Prop := ∀ b o, b ≠ p → H b = some o → H' b = some o
theorem But.refl (p : Addr) (H : Hp) : But p H H := fun _ _ _ h => h
theorem But.trans {p : Addr} {H H1 H2 : Hp} (a : But p H H1) (b : But p H1 H2) : But p H H2 := fun c o n h => b c o n (a c o n h)
theorem Same.but {p : Addr} {H H' : Hp} (a : Same H H') : But p H H' := fun b o _ h => a b o h
theorem same_upd {H : Hp} {p : Addr} {o : HO} (h : H p = none) : Same H (upd H p o) := fun b x e => by
  rw [upd_ne (ne_of_none e h)]
  exact e
theorem but_upd {H : Hp} {p : Addr} {o : HO} : But p H (upd H p o) := fun b x n e => by
  rw [upd_ne n]
  exact e
def mM : Int := 2305843009213693951
structure PotV (g r : Int) : Prop where
  g0 : 0 ≤ g
  g1 : g.natAbs < 2 ^ 3000
  r0 : 0 ≤ r
  r1 : r < 2305843009213693951
def Pot (H : Hp) (p : Addr) : Prop := ∃ g r : Int, H p = some (.lst [.int g, .int r]) ∧ PotV g r
theorem great_mod (x : Int) : 0 ≤ x % ten9 ∧ (x % ten9).natAbs < 2 ^ 3000 := by
  have p := ten9_pos
  have h0 : 0 ≤ x % ten9 := Int.emod_nonneg _ (by omega)
  exact ⟨h0, wide_le h0 (Int.le_of_lt (Int.emod_lt_of_pos _ p)) ten9_lt⟩
theorem great_mul (x : Int) (b : Bool) : CMulW (x % ten9) (if b = true then 1 else 0) :=
  wide_mul (b := 2) (great_mod x).2 (by cases b <;> decide) (by decide) (by decide) (by decide)
theorem great_pot (x : Int) (b : Bool) : 0 ≤ x % ten9 * (if b = true then 1 else 0) ∧ (x % ten9 * (if b = true then 1 else 0)).natAbs < 2 ^ 3000 := by
  cases b
  · rw [if_neg (by decide), Int.mul_zero]
    exact ⟨Int.le_refl _, Nat.pow_pos (by decide)⟩
  · rw [if_pos rfl, Int.mul_one]
    exact great_mod x
theorem But.seq {K : PySem.W.Frag} {p a : Addr} {H H' : Hp} {xs : List V} (b : But p H H') (n : a ≠ p) (h : SqL K H a xs) : SqL K H' a xs := by
  rcases h with (h | ⟨o, h⟩) | h
  · exact .inl (.inl (b _ _ n h))
  · exact .inl (.inr ⟨o, b _ _ n h⟩)
  · exact .inr h
theorem But.none {p a : Addr} {H H' : Hp} (b : But p H H') (n : a ≠ p) (h : H' a = none) : H a = none := by
  cases q : H a with
  | none => rfl
  | some o => rw [b a o n q] at h; cases h
theorem Pot.same {H H' : Hp} {p : Addr} (P : Pot H p) (s : Same H H') : Pot H' p := by
  obtain ⟨g, r, h, v⟩ := P
  exact ⟨g, r, s _ _ h, v⟩
theorem Pot.ne_none {H : Hp} {p q : Addr} (P : Pot H p) (h : H q = none) : p ≠ q := by
  obtain ⟨g, r, e, v⟩ := P
  exact ne_of_none e h
inductive Lnk (m : Int) : List Int → Int → Prop
  | one : Lnk m [1] 1
  | step {ns : List Int} {x r : Int} : Lnk m ns x → 2 ≤ r → r ≤ 6 → x * r ≤ m → ns.length < 12 → Lnk m (ns ++ [x * r]) (x * r)
theorem Lnk.pos {m x : Int} {ns : List Int} (h : Lnk m ns x) : 1 ≤ x := by
  induction h with
  | one => decide
  | step h h1 h2 h3 h4 ih =>
    have := Int.mul_le_mul ih h1 (by decide) (by omega)
    omega
theorem Lnk.last {m x : Int} {ns : List Int} (h : Lnk m ns x) : ∃ r, ns = r ++ [x] := by
  cases h with
  | one => exact ⟨[], rfl⟩
  | step h h1 h2 h3 h4 => exact ⟨_, rfl⟩
theorem Lnk.le {m x : Int} {ns : List Int} (h : Lnk m ns x) (hm : 1 ≤ m) : x ≤ m := by
  cases h with
  | one => exact hm
  | step h h1 h2 h3 h4 => exact h3
theorem Lnk.len {m x : Int} {ns : List Int} (h : Lnk m ns x) : 1 ≤ ns.length ∧ ns.length ≤ 12 := by
  cases h with
  | one => decide
  | step h h1 h2 h3 h4 => rw [List.length_append]; exact ⟨by simp, by simp; omega⟩
structure Nm5 (K : PySem.W.Frag) (mg : Str → Option Value) : Prop where
  len : mg "len" = none
  abs : mg "abs" = none
  int : mg "int" = none
  range : mg "range" = none
  tuple : mg "tuple" = none
  max : mg "max" = none
  min : mg "min" = none
  repr : mg "repr" = none
  isinstance : mg "isinstance" = none
  bool : mg "bool" = none
  all : mg "all" = none
  any : mg "any" = none
  list : mg "list" = none
  dict : mg "dict" = none
  sorted : mg "sorted" = none
  set : mg "set" = none
  sum : mg "sum" = none
  zip : mg "zip" = none
  dig : PySem.W.nsIn K cStatics "sys.int_max_str_digits" = some none
theorem _root_.L2.Same.tup {K : PySem.W.Frag} {H H' : Hp} {a : Addr} {xs : List V} (e : Same H H') (h : SqT K H a xs) : SqT K H' a xs := by
  rcases h with (h | ⟨o, h⟩) | h
  · exact .inl (.inl (e _ _ h))
  · exact .inl (.inr ⟨o, e _ _ h⟩)
  · exact .inr h
theorem But.tup {K : PySem.W.Frag} {p a : Addr} {H H' : Hp} {xs : List V} (b : But p H H') (n : a ≠ p) (h : SqT K H a xs) : SqT K H' a xs := by
  rcases h with (h | ⟨o, h⟩) | h
  · exact .inl (.inl (b _ _ n h))
  · exact .inl (.inr ⟨o, b _ _ n h⟩)
  · exact .inr h
theorem paired_imp {α β : Type} {F G : α → β → Prop} (h : ∀ a b, F a b → G a b) : ∀ {l : List α} {m : List β}, Paired F l m → Paired G l m
  | _, _, .nil => .nil
  | _, _, .cons x r => .cons (h _ _ x) (paired_imp h r)
/-! ### blocks in the heap -/
def BkAt (H : Hp) (x : V) (b : Int × Int) : Prop := ∃ t, x = .ref t ∧ H t = some (.tup [.int b.1, .int b.2])
def BL (H : Hp) (xs : List V) (bs : List (Int × Int)) : Prop := Paired (BkAt H) xs bs
theorem BL.mono {H H' : Hp} (h : ∀ t ys, H t = some (.tup ys) → H' t = some (.tup ys)) : ∀ {xs : List V} {bs : List (Int × Int)}, BL H xs bs → BL H' xs bs
  | _, _, .nil => .nil
  | _, _, .cons ⟨t, e1, e2⟩ r => .cons ⟨t, e1, h _ _ e2⟩ (BL.mono h r)
theorem BL.len {H : Hp} : ∀ {xs : List V} {bs : List (Int × Int)}, BL H xs bs → xs.length = bs.length
  | _, _, .nil => rfl
  | _, _, .cons _ r => by rw [List.length_cons, List.length_cons, BL.len r]
def kH (H : Hp) : V → Int × Int
  | .ref t => match H t with
    | some (.tup [.int a, .int s]) => (a, s)
    | _ => (0, 0)
  | _ => (0, 0)
theorem BkAt.k {H : Hp} {x : V} {b : Int × Int} (h : BkAt H x b) : kH H x = b := by
  obtain ⟨t, rfl, e⟩ := h
  show (match H t with
    | some (.tup [.int a, .int s]) => (a, s)
    | _ => (0, 0)) = b
  rw [e]
theorem BL.map {H : Hp} : ∀ {xs : List V} {bs : List (Int × Int)}, BL H xs bs → xs.map (kH H) = bs
  | _, _, .nil => rfl
  | _, _, .cons h r => by rw [List.map_cons, h.k, BL.map r]
theorem BL.all {H : Hp} : ∀ {xs : List V} {bs : List (Int × Int)}, BL H xs bs → ∀ x ∈ xs, ∃ b, BkAt H x b
  | _, _, .nil => fun x hx => by cases hx
  | _, _, .cons h r => fun x hx => by
    rcases List.mem_cons.mp hx with e | e
    · rw [e]; exact ⟨_, h⟩
    · exact BL.all r x e
theorem BL.of {H : Hp} : ∀ {xs : List V}, (∀ x ∈ xs, ∃ b, BkAt H x b) → BL H xs (xs.map (kH H))
  | [], _ => .nil
  | x :: r, h => by
    obtain ⟨b, hb⟩ := h x (List.mem_cons_self ..)
    rw [List.map_cons, hb.k]
    exact .cons hb (BL.of fun y hy => h y (List.mem_cons_of_mem _ hy))
def StAt (H : Hp) (t : Addr) (bs : List (Int × Int)) : Prop := ∃ xs, H t = some (.tup xs) ∧ BL H xs bs
theorem StAt.same {H H' : Hp} {t : Addr} {bs : List (Int × Int)} (h : StAt H t bs) (s : Same H H') : StAt H' t bs := by
  obtain ⟨xs, e, b⟩ := h
  exact ⟨xs, s _ _ e, b.mono fun t ys e => s _ _ e⟩
theorem Pot.netup {H : Hp} {p t : Addr} {xs : List V} (P : Pot H p) (e : H t = some (.tup xs)) : t ≠ p := fun z => by
  obtain ⟨g, r, e0, _⟩ := P
  rw [z, e0] at e
  cases e
theorem Pot.nefrz {H : Hp} {p t : Addr} {ob : Obj} {u : HO} (P : Pot H p) (e : H t = some (.frz ob u)) : t ≠ p := fun z => by
  obtain ⟨g, r, e0, _⟩ := P
  rw [z, e0] at e
  cases e
theorem ChAt.but {p : Addr} {H H' : Hp} {c : Addr} {C : List Int} (h : ChAt H c C) (b : But p H H') (P : Pot H p) : ChAt H' c C := let ⟨o, d, e⟩ := h; ⟨o, d, b _ _ (P.nefrz e) e⟩
theorem StAt.but {p : Addr} {H H' : Hp} {t : Addr} {bs : List (Int × Int)} (h : StAt H t bs) (b : But p H H') (P : Pot H p) : StAt H' t bs := by
  obtain ⟨xs, e, bl⟩ := h
  exact ⟨xs, b _ _ (P.netup e) e, bl.mono fun t ys e => b _ _ (P.netup e) e⟩
/-! ### states -/
def okB (C : List Int) (W : Int) (b : Int × Int) : Prop := b.2 ∈ C ∧ 1 ≤ b.2 ∧ 0 ≤ b.1 ∧ b.1 % b.2 = 0 ∧ b.1 + b.2 ≤ W
def apart (b c : Int × Int) : Prop := b.1 + b.2 ≤ c.1 ∨ c.1 + c.2 ≤ b.1
structure St (C : List Int) (W : Int) (bs : List (Int × Int)) : Prop where
  ok : ∀ b ∈ bs, okB C W b
  asc : bs.Pairwise fun b c => b.1 + b.2 ≤ c.1
theorem sorted_st {C : List Int} {W : Int} {bs cs : List (Int × Int)} (h1 : ∀ b ∈ bs, okB C W b) (h2 : bs.Pairwise apart) (hp : cs.Perm bs) (hs : cs.Pairwise fun x y => SrtO.lexB y x = false) : St C W cs := by
  have ok : ∀ b ∈ cs, okB C W b := fun b hb => h1 b (hp.mem_iff.mp hb)
  refine ⟨ok, ?_⟩
  have ap : cs.Pairwise apart := (hp.pairwise_iff (R := apart) (fun {x y} h => h.symm)).mpr h2
  refine (List.pairwise_and_iff.mpr ⟨ap, hs⟩).imp_of_mem fun {b c} hb hc h => ?_
  obtain ⟨h3, h4⟩ := h
  rcases h3 with h5 | h5
  · exact h5
  · exfalso
    obtain ⟨_, k1, _⟩ := ok c hc
    have : SrtO.lexB c b = true := by
      unfold SrtO.lexB
      simp
      rw [if_neg (by omega)]
      omega
    rw [this] at h4
    cases h4
abbrev Bk := Int × Int
def rch (l : Int) (bs : List Bk) : Int := mxd 0 ((bs.filter fun b => decide (b.2 ≤ l)).map fun b => b.1 + b.2)
theorem foldl_max : ∀ (l : List Int) (n : Int), (∀ x ∈ l, x ≤ l.foldl max n) ∧ n ≤ l.foldl max n ∧ (l.foldl max n = n ∨ l.foldl max n ∈ l)
  | [], n => ⟨(fun x hx => nomatch hx), Int.le_refl _, .inl rfl⟩
  | a :: r, n => by
    obtain ⟨h1, h2, h3⟩ := foldl_max r (max n a)
    rw [List.foldl_cons]
    refine ⟨fun x hx => ?_, by omega, ?_⟩
    · rcases List.mem_cons.mp hx with e | e
      · rw [e]; omega
      · exact h1 x e
    · rcases h3 with e | e
      · rcases (by omega : max n a = n ∨ max n a = a) with z | z
        · left; omega
        · right; rw [e, z]; exact List.mem_cons_self ..
      · right; exact List.mem_cons_of_mem _ e
theorem mxd_spec {l : List Int} (h : ∀ x ∈ l, 0 < x) : (l = [] ∧ mxd 0 l = 0) ∨ (mxd 0 l ∈ l ∧ ∀ x ∈ l, x ≤ mxd 0 l) := by
  cases l with
  | nil => exact .inl ⟨rfl, rfl⟩
  | cons n r =>
    right
    obtain ⟨h1, h2, h3⟩ := foldl_max r n
    show r.foldl max n ∈ n :: r ∧ ∀ x ∈ n :: r, x ≤ r.foldl max n
    refine ⟨?_, fun x hx => ?_⟩
    · rcases h3 with e | e
      · rw [e]; exact List.mem_cons_self ..
      · exact List.mem_cons_of_mem _ e
    · rcases List.mem_cons.mp hx with e | e
      · rw [e]; exact h2
      · exact h1 x e
/-! ### comprehensions whose steps lay new things -/
theorem lc_tupR {K : PySem.W.Frag} {a : Addr} {xs : List V} {g : TG} {te : TE} {vs : List Nat} {σ : L2.St} {H1 : Hp} {D : Addr} {Qd : Hp → Prop} (R : Hp → V → V → Prop) (mono : ∀ H H' x y, (∀ v zs, H v = some (.tup zs) → H' v = some (.tup zs)) → R H x y → R H' x y)
    (ht : SqT K H1 a xs) (nD : H1 D = none) (hlen : xs.length < sizeLine)
    (hs : ∀ x ∈ xs, ∀ H, Same H1 H → ∀ Y : V → Hp → Prop, (∀ y H', Same H H' → R H' x y → Y y H') → g x (wipe σ vs) H fun σ2 H2 => wipe σ2 vs = wipe σ vs ∧ te σ2 H2 Y)
    (hd : ∀ H ys, Same H1 H → H D = some (.lst ys) → Paired (R H) xs ys → Qd H) :
    ∃ W : Nat → Nat → Hp → Prop, (∃ m, W 0 m (upd H1 D (.lst []))) ∧ ∀ i m H, W i m H →
      ((Itt K a).stop i H ∧ Qd H) ∨ ((Itt K a).go i H ∧ ∃ Nx : Hp → Prop, (∀ H', Nx H' → ∃ m', m' < m ∧ W (i + 1) m' H') ∧ ∀ x H', (Itt K a).yld i H x H' → g x (wipe σ vs) H' fun σ2 H2 => wipe σ2 vs = wipe σ vs ∧ tYes σ2 H2 fun b H3 =>
        if b = true then te σ2 H3 fun y H4 => ∃ acc, H4 D = some (.lst acc) ∧ acc.length < sizeLine ∧ Nx (upd H4 D (.lst (acc ++ [y]))) else Nx H3) := by
  refine lc_tup (fun i H => Same H1 H ∧ ∃ ys, H D = some (.lst ys) ∧ Paired (R H) (xs.take i) ys) ⟨same_upd nD, [], upd_same, .nil⟩ (fun i H _ p => p.1.tup ht) (fun i x H hx p => ?_) (fun H p => ?_)
  · obtain ⟨sm, ys, hD, pr⟩ := p
    have hlen2 : ys.length < sizeLine := by
      have h1 := pr.length
      rw [List.length_take] at h1
      omega
    have := hs x (List.mem_of_getElem? hx) H sm (fun y H4 => ∃ acc, H4 D = some (.lst acc) ∧ acc.length < sizeLine ∧ (Same H1 (upd H4 D (.lst (acc ++ [y]))) ∧ ∃ ys, upd H4 D (.lst (acc ++ [y])) D = some (.lst ys) ∧ Paired (R (upd H4 D (.lst (acc ++ [y])))) (xs.take (i + 1)) ys)) (fun y H4 s4 r4 => ?_)
    · exact this
    · have hD4 := s4 _ _ hD
      have tk : ∀ v zs, H4 v = some (.tup zs) → upd H4 D (.lst (ys ++ [y])) v = some (.tup zs) := fun v zs e => by
        rw [upd_ne (ne_of e hD4 (by intro z; cases z))]
        exact e
      refine ⟨ys, hD4, hlen2, fun b o e => ?_, ys ++ [y], upd_same, ?_⟩
      · rw [upd_ne (ne_of_none e nD)]
        exact s4 _ _ (sm _ _ e)
      · rw [List.take_add_one, hx]
        exact Paired.snoc (paired_imp (fun a b h => mono _ _ _ _ (fun v zs e => tk v zs (s4 _ _ e)) h) pr) (mono _ _ _ _ tk r4)
  · obtain ⟨sm, ys, hD, pr⟩ := p
    rw [List.take_of_length_le (Nat.le_refl _)] at pr
    exact hd H ys sm hD pr
theorem paired_fun {α β : Type} {f : α → β} {F : α → β → Prop} (h : ∀ a b, F a b → b = f a) : ∀ {l : List α} {m : List β}, Paired F l m → m = l.map f
  | _, _, .nil => rfl
  | _, _, .cons x r => by rw [List.map_cons, h _ _ x, paired_fun h r]
theorem fm_if (p : Bk → Bool) (f : Bk → Int) (k : V → Bk) : ∀ xs : List V, xs.filterMap (fun x => if p (k x) = true then some (V.int (f (k x))) else none) = (((xs.map k).filter p).map f).map V.int
  | [] => rfl
  | x :: r => by
    have ih := fm_if p f k r
    by_cases c : p (k x) = true
    · rw [List.map_cons, List.filter_cons_of_pos c, List.map_cons, List.map_cons, ← ih, List.filterMap_cons_some (b := V.int (f (k x))) (by rw [if_pos c])]
    · rw [List.map_cons, List.filter_cons_of_neg c, ← ih, List.filterMap_cons_none (by rw [if_neg c])]
theorem u2_of {A : Around} {k : Nat} (hr : Room k A) : A.units + 2 < cLine := by have := hr.un; omega
def iV : V → Int
  | .int i => i
  | _ => 0
end Ph

namespace Ph
open PySem PySem.Spec PyProof.Rows L2
/-- a comprehension over zip of two tuples, the second one not longer -/
theorem lc_zipS {K : PySem.W.Frag} {a b : Addr} {xs ys : List V} {g : TG} {tt : TT} {te : TE} {vs : List Nat} {σ : L2.St} {H1 : Hp} {D : Addr} {Qd : Hp → Prop} (hl : ys.length ≤ xs.length) (Pv : Nat → Hp → Prop) (h0 : Pv 0 (upd H1 D (.lst []))) (hq : ∀ i H, Pv i H → SqT K H a xs ∧ SqT K H b ys)
    (hs : ∀ (i : Nat) (x y : V) (T : Addr) (H : Hp), xs[i]? = some x → ys[i]? = some y → Pv i H → H T = none → g (.ref T) (wipe σ vs) (upd H T (.tup [x, y])) fun σ2 H2 => wipe σ2 vs = wipe σ vs ∧ tt σ2 H2 fun b H3 =>
      if b = true then te σ2 H3 fun y H4 => ∃ acc, H4 D = some (.lst acc) ∧ acc.length < sizeLine ∧ Pv (i + 1) (upd H4 D (.lst (acc ++ [y]))) else Pv (i + 1) H3) (hd : ∀ H, Pv ys.length H → Qd H) :
    ∃ W : Nat → Nat → Hp → Prop, (∃ m, W 0 m (upd H1 D (.lst []))) ∧ ∀ i m H, W i m H →
      ((RZ.ItzT K a b).stop i H ∧ Qd H) ∨ ((RZ.ItzT K a b).go i H ∧ ∃ Nx : Hp → Prop, (∀ H', Nx H' → ∃ m', m' < m ∧ W (i + 1) m' H') ∧ ∀ x H', (RZ.ItzT K a b).yld i H x H' → g x (wipe σ vs) H' fun σ2 H2 => wipe σ2 vs = wipe σ vs ∧ tt σ2 H2 fun b H3 =>
        if b = true then te σ2 H3 fun y H4 => ∃ acc, H4 D = some (.lst acc) ∧ acc.length < sizeLine ∧ Nx (upd H4 D (.lst (acc ++ [y]))) else Nx H3) := by
  refine ⟨fun i m H => m = ys.length - i ∧ i ≤ ys.length ∧ Pv i H, ⟨ys.length, rfl, Nat.zero_le _, h0⟩, ?_⟩
  rintro i m H ⟨rfl, hi, p⟩
  obtain ⟨qx, qy⟩ := hq i H p
  by_cases hlt : i < ys.length
  · have hlt2 : i < xs.length := by omega
    refine .inr ⟨⟨xs, ys, _, _, qx, qy, List.getElem?_eq_getElem hlt2, List.getElem?_eq_getElem hlt⟩, Pv (i + 1), fun H' p' => ⟨ys.length - (i + 1), by omega, rfl, hlt, p'⟩, fun v H' y => ?_⟩
    obtain ⟨T, x', y', rfl, hT, rfl, f1, f2⟩ := y
    exact hs i x' y' T H (f1 xs qx) (f2 ys qy) p hT
  · have e : i = ys.length := by omega
    subst e
    exact .inl ⟨⟨xs, ys, qx, qy, Or.inr (Nat.le_refl _)⟩, hd H p⟩
end Ph

namespace Ph
open PySem PySem.Spec PyProof.Rows L2
/-! ### comprehensions whose items are known, whose steps may lay new things -/
theorem keepD {H1 H4 : Hp} {D : Addr} {o : HO} (nD : H1 D = none) (s : Same H1 H4) : Same H1 (upd H4 D o) := fun b u e => by
  rw [upd_ne (ne_of_none e nD)]
  exact s _ _ e
theorem lc_rgF {lo : Int} {n : Nat} {g : TG} {te : TE} {vs : List Nat} {σ : L2.St} {H1 : Hp} {D : Addr} {Qd : Hp → Prop} (f : Nat → V) (nD : H1 D = none) (hlen : n < sizeLine)
    (hs : ∀ i, i < n → ∀ H, Same H1 H → ∀ Y : V → Hp → Prop, (∀ H', Same H H' → Y (f i) H') → g (.int (lo + (i : Int))) (wipe σ vs) H fun σ2 H2 => wipe σ2 vs = wipe σ vs ∧ te σ2 H2 Y)
    (hd : ∀ H, Same H1 H → H D = some (.lst ((List.range n).map f)) → Qd H) :
    ∃ W : Nat → Nat → Hp → Prop, (∃ m, W 0 m (upd H1 D (.lst []))) ∧ ∀ i m H, W i m H →
      ((Itr lo n).stop i H ∧ Qd H) ∨ ((Itr lo n).go i H ∧ ∃ Nx : Hp → Prop, (∀ H', Nx H' → ∃ m', m' < m ∧ W (i + 1) m' H') ∧ ∀ x H', (Itr lo n).yld i H x H' → g x (wipe σ vs) H' fun σ2 H2 => wipe σ2 vs = wipe σ vs ∧ tYes σ2 H2 fun b H3 =>
        if b = true then te σ2 H3 fun y H4 => ∃ acc, H4 D = some (.lst acc) ∧ acc.length < sizeLine ∧ Nx (upd H4 D (.lst (acc ++ [y]))) else Nx H3) := by
  refine lc_range (fun i H => Same H1 H ∧ H D = some (.lst ((List.range i).map f))) ⟨same_upd nD, upd_same⟩ (fun i H hi p => ?_) (fun H p => hd H p.1 p.2)
  obtain ⟨sm, hD⟩ := p
  refine hs i hi H sm _ fun H4 s4 => ?_
  refine ⟨_, s4 _ _ hD, by rw [List.length_map, List.length_range]; omega, keepD nD (sm.trans s4), ?_⟩
  rw [upd_same, List.range_succ, List.map_append]
  rfl
theorem lc_lsF {K : PySem.W.Frag} {a : Addr} {xs : List V} {g : TG} {te : TE} {vs : List Nat} {σ : L2.St} {H1 : Hp} {D : Addr} {Qd : Hp → Prop} (f : V → V) (ha : SqL K H1 a xs) (nD : H1 D = none) (hlen : xs.length < sizeLine)
    (hs : ∀ x ∈ xs, ∀ H, Same H1 H → ∀ Y : V → Hp → Prop, (∀ H', Same H H' → Y (f x) H') → g x (wipe σ vs) H fun σ2 H2 => wipe σ2 vs = wipe σ vs ∧ te σ2 H2 Y)
    (hd : ∀ H, Same H1 H → H D = some (.lst (xs.map f)) → Qd H) :
    ∃ W : Nat → Nat → Hp → Prop, (∃ m, W 0 m (upd H1 D (.lst []))) ∧ ∀ i m H, W i m H →
      ((Itl K a).stop i H ∧ Qd H) ∨ ((Itl K a).go i H ∧ ∃ Nx : Hp → Prop, (∀ H', Nx H' → ∃ m', m' < m ∧ W (i + 1) m' H') ∧ ∀ x H', (Itl K a).yld i H x H' → g x (wipe σ vs) H' fun σ2 H2 => wipe σ2 vs = wipe σ vs ∧ tYes σ2 H2 fun b H3 =>
        if b = true then te σ2 H3 fun y H4 => ∃ acc, H4 D = some (.lst acc) ∧ acc.length < sizeLine ∧ Nx (upd H4 D (.lst (acc ++ [y]))) else Nx H3) := by
  refine lc_list (fun i H => Same H1 H ∧ H D = some (.lst ((xs.take i).map f))) ⟨same_upd nD, upd_same⟩ (fun i H _ p => p.1.seq ha) (fun i x H hx p => ?_) (fun H p => hd H p.1 (by rw [p.2, List.take_of_length_le (Nat.le_refl _)]))
  obtain ⟨sm, hD⟩ := p
  refine hs x (List.mem_of_getElem? hx) H sm _ fun H4 s4 => ?_
  refine ⟨_, s4 _ _ hD, by rw [List.length_map, List.length_take]; omega, keepD nD (sm.trans s4), ?_⟩
  rw [upd_same, List.take_add_one, hx, List.map_append]
  rfl
theorem lc_tpF {K : PySem.W.Frag} {a : Addr} {xs : List V} {g : TG} {te : TE} {vs : List Nat} {σ : L2.St} {H1 : Hp} {D : Addr} {Qd : Hp → Prop} (f : V → V) (ha : SqT K H1 a xs) (nD : H1 D = none) (hlen : xs.length < sizeLine)
    (hs : ∀ x ∈ xs, ∀ H, Same H1 H → ∀ Y : V → Hp → Prop, (∀ H', Same H H' → Y (f x) H') → g x (wipe σ vs) H fun σ2 H2 => wipe σ2 vs = wipe σ vs ∧ te σ2 H2 Y)
    (hd : ∀ H, Same H1 H → H D = some (.lst (xs.map f)) → Qd H) :
    ∃ W : Nat → Nat → Hp → Prop, (∃ m, W 0 m (upd H1 D (.lst []))) ∧ ∀ i m H, W i m H →
      ((Itt K a).stop i H ∧ Qd H) ∨ ((Itt K a).go i H ∧ ∃ Nx : Hp → Prop, (∀ H', Nx H' → ∃ m', m' < m ∧ W (i + 1) m' H') ∧ ∀ x H', (Itt K a).yld i H x H' → g x (wipe σ vs) H' fun σ2 H2 => wipe σ2 vs = wipe σ vs ∧ tYes σ2 H2 fun b H3 =>
        if b = true then te σ2 H3 fun y H4 => ∃ acc, H4 D = some (.lst acc) ∧ acc.length < sizeLine ∧ Nx (upd H4 D (.lst (acc ++ [y]))) else Nx H3) := by
  refine lc_tup (fun i H => Same H1 H ∧ H D = some (.lst ((xs.take i).map f))) ⟨same_upd nD, upd_same⟩ (fun i H _ p => p.1.tup ha) (fun i x H hx p => ?_) (fun H p => hd H p.1 (by rw [p.2, List.take_of_length_le (Nat.le_refl _)]))
  obtain ⟨sm, hD⟩ := p
  refine hs x (List.mem_of_getElem? hx) H sm _ fun H4 s4 => ?_
  refine ⟨_, s4 _ _ hD, by rw [List.length_map, List.length_take]; omega, keepD nD (sm.trans s4), ?_⟩
  rw [upd_same, List.take_add_one, hx, List.map_append]
  rfl
theorem lc_zpF {K : PySem.W.Frag} {a b : Addr} {xs ys : List V} {g : TG} {te : TE} {vs : List Nat} {σ : L2.St} {H1 : Hp} {D : Addr} {Qd : Hp → Prop} (n : Nat) (hn : ys.length = n) (hl : n ≤ xs.length) (f : Nat → V) (ha : SqT K H1 a xs) (hb : SqT K H1 b ys) (nD : H1 D = none) (hlen : n < sizeLine)
    (hs : ∀ i x y T, i < n → xs[i]? = some x → ys[i]? = some y → ∀ H, Same H1 H → H T = none → ∀ Y : V → Hp → Prop, (∀ H', Same H H' → Y (f i) H') → g (.ref T) (wipe σ vs) (upd H T (.tup [x, y])) fun σ2 H2 => wipe σ2 vs = wipe σ vs ∧ te σ2 H2 Y)
    (hd : ∀ H, Same H1 H → H D = some (.lst ((List.range n).map f)) → Qd H) :
    ∃ W : Nat → Nat → Hp → Prop, (∃ m, W 0 m (upd H1 D (.lst []))) ∧ ∀ i m H, W i m H →
      ((RZ.ItzT K a b).stop i H ∧ Qd H) ∨ ((RZ.ItzT K a b).go i H ∧ ∃ Nx : Hp → Prop, (∀ H', Nx H' → ∃ m', m' < m ∧ W (i + 1) m' H') ∧ ∀ x H', (RZ.ItzT K a b).yld i H x H' → g x (wipe σ vs) H' fun σ2 H2 => wipe σ2 vs = wipe σ vs ∧ tYes σ2 H2 fun b H3 =>
        if b = true then te σ2 H3 fun y H4 => ∃ acc, H4 D = some (.lst acc) ∧ acc.length < sizeLine ∧ Nx (upd H4 D (.lst (acc ++ [y]))) else Nx H3) := by
  subst hn
  refine lc_zipS hl (fun i H => Same H1 H ∧ H D = some (.lst ((List.range i).map f))) ⟨same_upd nD, upd_same⟩ (fun i H p => ⟨p.1.tup ha, p.1.tup hb⟩) (fun i x y T H hx hy p nT => ?_) (fun H p => hd H p.1 p.2)
  obtain ⟨sm, hD⟩ := p
  have hi : i < ys.length := (List.getElem?_eq_some_iff.mp hy).1
  refine hs i x y T hi hx hy H sm nT _ fun H4 s4 => ?_
  refine ⟨_, s4 _ _ hD, by rw [List.length_map, List.length_range]; omega, keepD nD (sm.trans s4), ?_⟩
  rw [upd_same, List.range_succ, List.map_append]
  rfl
/-- sums of rows of numbers -/
theorem sum_tl (f : Nat → Nat) : ∀ n, ((List.range n).map fun i => ((f i : Nat) : Int)).sum = ((sm f n : Nat) : Int)
  | 0 => rfl
  | n + 1 => by
    rw [List.range_succ, List.map_append, List.sum_append, sum_tl f n]
    show _ + (((f n : Nat) : Int) + 0) = ((sm f n + f n : Nat) : Int)
    omega
end Ph

namespace Ph
open PySem PySem.Spec PyProof.Rows L2
section
variable {X : Cx}
def rSlK (K : PySem.W.Frag) : V → Option Int → Option Int → Hp → VK → Prop := fun x lo hi H Q => ∃ a xs, x = .ref a ∧ SqT K H a xs ∧ ∀ q H', Same H H' → SqT K H' q (cutV xs lo hi) → Q (.ref q) H'
theorem cutv_whole {xs : List V} {lo hi : Option Int} (hw : HT.sIx xs.length 0 lo = 0 ∧ HT.sIx xs.length xs.length hi = xs.length) : cutV xs lo hi = xs := by
  unfold cutV
  rw [hw.1, hw.2]
  simp
theorem cutv_le {xs : List V} {lo hi : Option Int} : (cutV xs lo hi).length ≤ xs.length := by
  unfold cutV
  simp only [List.length_take, List.length_drop]
  omega
theorem sl_tupK : SlR X (rSlK X.K) := by
  intro pins s σ H x v vl vu lo hi sl Q I rx hs pl pu h
  obtain ⟨a, xs, rfl, hx, q⟩ := h
  exact sl_tupA pins s σ H _ v vl vu lo hi sl Q I rx hs pl pu ⟨a, xs, rfl, hx, fun hw => q a H (Same.refl H) (by rw [cutv_whole hw]; exact hx), fun _ p np => q p _ (same_upd np) (.inl (.inl upd_same))⟩
def rCatK (K : PySem.W.Frag) : V → V → Hp → VK → Prop := fun x y H Q => ∃ a b xs ys, x = .ref a ∧ y = .ref b ∧ SqT K H a xs ∧ SqT K H b ys ∧ xs.length + ys.length ≤ sizeLine ∧ ∀ q H', Same H H' → SqT K H' q (xs ++ ys) → Q (.ref q) H'
theorem op_catK : OpR X (binaryOp .Add) (rCatK X.K) := by
  intro pins s σ H x y v u Q I rx ry h
  obtain ⟨a, b, xs, ys, rfl, rfl, ha, hb, hz, q⟩ := h
  refine op_catA pins s σ H _ _ v u Q I rx ry ⟨a, b, xs, ys, rfl, rfl, ha, hb, hz, fun e => q b H (Same.refl H) (by rw [e]; exact hb), fun _ e => q a H (Same.refl H) (by rw [e, List.append_nil]; exact ha), fun _ _ p np => q p _ (same_upd np) (.inl (.inl upd_same))⟩
end
end Ph

namespace Ph
open PySem PySem.Spec PyProof.Rows L2
section
variable {X : Cx}
/-- x in t, t a tuple of data -/
def rInT (K : PySem.W.Frag) : R2 := fun x y H Q => ∃ d ds, Dp K H x d ∧ Dp K H y (.tuple ds) ∧ SeqAt.shaped d = true ∧ SeqAt.shaped (.tuple ds) = true ∧ Q (.bl (ds.any fun z => PyData.eqv z d)) H
theorem op_inT (hu : X.A.units + 65 < cLine) : OpR X (compareOp .In) (rInT X.K) := by
  intro pins s σ H x y v u Q I rx ry h
  obtain ⟨d, ds, dx, dy, sx, sy, q⟩ := h
  obtain ⟨_, r1⟩ := Dp.reads I d x v dx rx
  obtain ⟨_, r2⟩ := Dp.reads I (.tuple ds) y u dy ry
  exact SeqAt.in_tuple_reads r2 r1 (SeqAt.canLay_of_shaped sy) (SeqAt.canLay_of_shaped sx) (room_in_shaped sx hu) ⟨.bl _, H, I, rfl, q⟩
/-- a thing that is only read from now on -/
def tFrz (t : TE) : TE := fun σ H Q => t σ H fun v H1 => ∃ d u, v = .ref d ∧ H1 d = some u ∧ Mut (some u) ∧ ∀ od, Q v (upd H1 d (.frz od u))
theorem pe_frz {e : Expr} {t : TE} (h : PE X e t) : PE X e (tFrz t) := by
  refine ⟨fun pins s σ H Q I hw => ?_⟩
  refine thn (h.run pins s σ _ _ I hw) fun v s1 ⟨x, H1, I1, r, d, u, ex, hd, mu, q⟩ => ?_
  obtain ⟨od, I2⟩ := I1.lock hd mu
  exact ⟨x, _, I2, r, q od⟩
end
/-! ### blocks and states as data -/
def bD (b : Int × Int) : PyData := .tuple [.int b.1, .int b.2]
theorem bD_lay (b : Int × Int) : (bD b).canLay0 = true := by simp [bD, PyData.canLay0, PyData.canLayAll0]
theorem bD_depth (b : Int × Int) : (bD b).depth = 1 := by simp [bD, PyData.depth, PyData.depthAll]
theorem bDs_lay : ∀ zs : List (Int × Int), PyData.canLayAll0 (zs.map bD) = true
  | [] => by simp [PyData.canLayAll0]
  | z :: zs => by simp [PyData.canLayAll0, bD_lay z, bDs_lay zs]
theorem bDs_depth : ∀ zs : List (Int × Int), PyData.depthAll (zs.map bD) ≤ 1
  | [] => by simp [PyData.depthAll]
  | z :: zs => by
    have h1 := bDs_depth zs
    have h2 := bD_depth z
    simp only [List.map_cons, PyData.depthAll, h2]
    omega
theorem bD_shaped (b : Int × Int) : SeqAt.shaped (bD b) = true := by
  show ((bD b).canLay0 && decide ((bD b).depth ≤ 64)) = true
  rw [bD_lay, bD_depth]
  rfl
theorem sD_shaped (zs : List (Int × Int)) : SeqAt.shaped (.tuple (zs.map bD)) = true := by
  have h1 := bDs_depth zs
  have h2 : PyData.depth (.tuple (zs.map bD)) ≤ 64 := by simp only [PyData.depth]; omega
  have h3 : PyData.canLay0 (.tuple (zs.map bD)) = true := by simp only [PyData.canLay0]; exact bDs_lay zs
  show (PyData.canLay0 (.tuple (zs.map bD)) && decide (PyData.depth (.tuple (zs.map bD)) ≤ 64)) = true
  rw [h3, decide_eq_true h2]
  rfl
theorem bD_eqv (b c : Int × Int) : PyData.eqv (bD b) (bD c) = decide (b = c) := by
  obtain ⟨b1, b2⟩ := b
  obtain ⟨c1, c2⟩ := c
  have e : PyData.eqv (bD (b1, b2)) (bD (c1, c2)) = ((b1 == c1) && ((b2 == c2) && true)) := by simp only [bD, PyData.eqv, PyData.eqvAll]
  rw [e, Bool.and_true, Bool.eq_iff_iff, Bool.and_eq_true, beq_iff_eq, beq_iff_eq, decide_eq_true_iff, Prod.mk.injEq]
theorem bDs_any (b : Int × Int) : ∀ zs : List (Int × Int), ((zs.map bD).any fun z => PyData.eqv z (bD b)) = decide (b ∈ zs)
  | [] => by simp
  | z :: zs => by
    rw [List.map_cons, List.any_cons, bDs_any b zs, bD_eqv, Bool.eq_iff_iff, Bool.or_eq_true, decide_eq_true_iff, decide_eq_true_iff, decide_eq_true_iff, List.mem_cons]
    exact ⟨fun h => h.imp Eq.symm id, fun h => h.imp Eq.symm id⟩
theorem sD_eqv_refl (zs : List (Int × Int)) : PyData.eqv (.tuple (zs.map bD)) (.tuple (zs.map bD)) = true := by
  simp only [PyData.eqv]
  induction zs with
  | nil => simp [PyData.eqvAll]
  | cons z zs ih => simp [PyData.eqvAll, ih, bD_eqv]
end Ph

namespace Ph
open PySem PySem.Spec PyProof.Rows L2
/-! ### a def's promise where no repr is under way (the guards are known to be empty) -/
structure FnG (P : Program) (w : World) (K : PySem.W.Frag) (mg : Str → Option Value) (base : Heap) (CX : CXT) (k : Nat) (f : Addr) (fd : FuncData) (ps : List Str) (sp : Sp) : Prop where
  cnt : ∀ vs H Q E, sp vs H Q E → vs.length = ps.length
  go : ∀ (A : Around) (outer : List Env) (s : Shared) (H : Hp) (args : Args) (us : List Value) (vs : List V) (Q : VK) (E : XK), A.guards = some [] → Room k A →
    Env0 P w K mg base A outer s H → BindsTo s fd args (ps.zip us) → Vals vs us → sp vs H Q E → codeAny (model P w) A (.call (.ref f) args) (CR CX outer P w H s Q E) s
theorem guards_deeper (A : Around) (env : Env) : (A.deeper env).guards = A.guards := by
  first
    | rfl
    | (cases A; rfl)
section
variable {P : Program} {w : World} {K : PySem.W.Frag} {mg : Str → Option Value} {base : Heap}
theorem FnG.of {CX : CXT} {k : Nat} {f : Addr} {fd : FuncData} {ps : List Str} {sp : Sp} (F : FnOk P w K mg base CX k f fd ps sp) : FnG P w K mg base CX k f fd ps sp :=
  ⟨F.len, fun A outer s H args us vs Q E _ => F.run A outer s H args us vs Q E⟩
theorem okG {x qual : Str} {st : Stmt} {f : Addr} {fd : FuncData} {N ps : List Str} {k : Nat} {sp : Sp} (F : Fun K x qual st f fd) (S : FnScope N ps (defScope st)) (cnt : ∀ vs H Q E, sp vs H Q E → vs.length = ps.length)
    (body : ∀ (cdv : Value) (A : Around) (outer : List Env) (s : Shared) (H : Hp) (vs : List V) (Q : VK) (E : XK), (A.deeper (envOfC qual (defScope st) s.heap.objs.size f cdv)).guards = some [] → Room k (A.deeper (envOfC qual (defScope st) s.heap.objs.size f cdv)) → sp vs H Q E →
      ∃ t, PSs (cxOf CX0 P w K mg base N qual (defScope st) f cdv A outer s H E).nox (defBody st) t ∧ t { nx := fun _ H' => Q .non H', rt := Q } (start N vs) H) : FnG P w K mg base CX0 (k + 1) f fd ps sp := by
  obtain ⟨oc, od, kV, doc, pm, an, cdv, ct, osl, rfl, lk, hcd⟩ := F.ex
  refine ⟨cnt, fun A outer s H args us vs Q E hgu room env bnd vals want => ?_⟩
  have old : ∀ b o, base.get? b = some o → s.heap.get? b = some o := fun b o z => (env.bs b o z).1
  refine Att.call_fn (env.mod.kin.keeps old) (env.mod.nolimit.keeps old) lk hcd room.depth bnd ?_ (fun s1 inside => ?_) S.co S.gen S.kind
  · rw [List.all_eq_true]
    rintro ⟨n, v⟩ hy
    rcases S.par n (List.of_mem_zip hy).1 with z | z <;> simp [z]
  · obtain ⟨t, ht, hq⟩ := body cdv A outer s H vs Q E ((guards_deeper A _).trans hgu) (room.deeper _) want
    have I0 : Inv (cxOf CX0 P w K mg base N qual (defScope st) f cdv A outer s H E) [] (start N vs) H s1 := inv_start S room.hd env (cnt _ _ _ _ want) vals inside
    refine wpAny_mono (ht.nox.run [] s1 (start N vs) H _ I0 hq) (fun flow s2 done => ?_) fun e s2 bad => bad
    have fin : ∀ {σ' : L2.St} {H' : Hp} {v : V} {u : Value}, Inv (cxOf CX0 P w K mg base N qual (defScope st) f cdv A outer s H E) [] σ' H' s2 → RelV v u → Q v H' → CE outer P w H s Q u s2 :=
      fun J rel good => ⟨_, _, J.os, J.bare, J.base, J.hok, rel, good⟩
    match flow, done with
    | .ret u, ⟨v, σ', H', J, rel, good⟩ => exact fin J rel good
    | .next, ⟨σ', H', J, good⟩ => exact fin (v := V.non) (u := Value.none) J rfl good
    | .brk, ⟨_, _, _, z⟩ => exact z.elim
    | .cont, ⟨_, _, _, z⟩ => exact z.elim
end
section
variable {X : Cx} {k : Nat} {f : Addr} {fd : FuncData} {ps : List Str} {sp : Sp} {x : Str} {p pos : Pos} {e : Expr} {es : List Expr} {t : TA}
/-- f(e, ..) of such a def, no exception leaves it -/
theorem pe_callG (F : FnG X.prog X.w X.K X.mg X.base CX0 k f fd ps sp) (hgu : X.A.guards = some []) (room : Room k X.A) (hg : Gl X x) (hm : X.mg x = some (.ref f)) (hk : PySem.W.keepIn X.K (.ref f) = true) (hb : Binds X.K fd ps [])
    (ha : PA X (e :: es) t) (hdb : (x == ("__debug__" : Str)) = false := by decide) (he : starEach (e :: es) X.env = (false, eval e X.env) :: starEach es X.env := by rfl) (hpl : (backTo pos (starEach es X.env)).any (·.1) = false := by rfl) :
    PE X (.Call (.Name x p) (e :: es) [] pos) (tCall sp [] E0 t) := ⟨fun pins s σ H Q I want => by
  refine wpAny_Call_Name_kw (ld_glob I hg hm ?_ hdb)
  refine PySem.W.callWith_K (h₀ := X.base) I.ok.mod.kin hk (thn (ha.run pos pins s σ H _ I want) fun us s1 ⟨vs, H1, I1, vals, good⟩ => ⟨I1.kIn, ?_⟩) he hpl
  have n1 : (us ++ []).length = ps.length := by
    rw [← (vals.append (Paired.nil : Vals [] [])).length]
    exact F.cnt _ _ _ _ good
  refine wpAny_call (codeAny_mono (F.go X.A X.stack s1 H1 ⟨us, []⟩ (us ++ []) (vs ++ []) Q E0 hgu room I1.env0 (hb s1 us I1.kIn n1) (vals.append .nil) good) fun r s2 out => ?_)
  match r, out with
  | .ok (.ret u), out => exact I1.after out
  | .error _, out => exact out.elim⟩
/-- repr of lists and tuples of data -/
theorem call_reprD (hgu : X.A.guards = some []) (hu : X.A.units + 64 < cLine) : CallR X (.builtin "repr") (fun xs H Q => ∃ (a : Addr) (d : PyData), xs = [.ref a] ∧ Dp X.K H (.ref a) d ∧ d.showable = true ∧ d.hasDict = false ∧ d.depth ≤ 60 ∧ d.shown.length ≤ sizeLine ∧ Q (.str d.shown) H) := by
  intro pins s σ H xs us Q I r h
  obtain ⟨a, d, rfl, dp, sh, nd, dep, len, q⟩ := h
  obtain ⟨u, rfl, ru⟩ := vals1 r
  obtain ⟨as, rd⟩ := Dp.reads I d _ _ dp ru
  cases ru
  exact repr_of_reads' rd sh (PyData.noDict_hsm nd) hgu (by omega) (fun _ _ z => z) (fun h' v tk keep => ⟨.str _, H, I.kept keep, ⟨_, rfl⟩, q⟩) len
end
/-- tuples of ints as data -/
theorem dp_ints {K : PySem.W.Frag} {H : Hp} : ∀ ns : List Int, DpAll K H (ns.map V.int) (ns.map PyData.int)
  | [] => .nil
  | n :: r => .cons (.int n) (dp_ints r)
theorem showable_ints : ∀ ns : List Int, (∀ n ∈ ns, n.natAbs.log2 < 1920) → PyData.showableAll (ns.map PyData.int) = true
  | [], _ => by simp [PyData.showableAll]
  | n :: r, h => by
    have h1 := h n (List.mem_cons_self ..)
    have h2 := showable_ints r fun m hm => h m (List.mem_cons_of_mem _ hm)
    simp only [List.map_cons, PyData.showableAll, PyData.showable, h2, Bool.and_true, decide_eq_true h1]
theorem noDict_ints : ∀ ns : List Int, PyData.hasDictAll (ns.map PyData.int) = false
  | [] => by simp [PyData.hasDictAll]
  | n :: r => by
    have h2 := noDict_ints r
    simp only [List.map_cons, PyData.hasDictAll, PyData.hasDict, h2, Bool.or_self]
theorem depth_ints : ∀ ns : List Int, PyData.depthAll (ns.map PyData.int) ≤ 2
  | [] => by simp [PyData.depthAll]
  | n :: r => by
    have h2 := depth_ints r
    simp only [List.map_cons, PyData.depthAll, PyData.depth]
    omega
theorem shown_ints : ∀ ns : List Int, PyData.shownAll (ns.map PyData.int) = ns.map fun n => (toString n : Str)
  | [] => by simp [PyData.shownAll]
  | n :: r => by
    simp only [List.map_cons, PyData.shownAll, PyData.shown, shown_ints r]
end Ph

namespace Ph
open PySem PySem.Spec PyProof.Rows L2
/-! ### data that repr can show -/
structure Rp (d : PyData) : Prop where
  sh : d.showable = true
  nd : d.hasDict = false
  dp : d.depth ≤ 60
  ln : d.shown.length ≤ sizeLine
/-- short leaves, no dict -/
structure Sho (d : PyData) (n k : Nat) : Prop where
  sh : d.showable = true
  nd : d.hasDict = false
  dp : d.depth ≤ n
  lv : d.leavesShort 24 = true
  wt : d.weight ≤ k
structure ShoAll (ds : List PyData) (n k : Nat) : Prop where
  sh : PyData.showableAll ds = true
  nd : PyData.hasDictAll ds = false
  dp : PyData.depthAll ds ≤ n
  lv : PyData.leavesShortAll 24 ds = true
  wt : PyData.weightAll ds ≤ k
theorem Sho.rp {d : PyData} {n k : Nat} (s : Sho d n k) (hn : n ≤ 60) (hk : k ≤ 600000) : Rp d := by
  refine ⟨s.sh, s.nd, Nat.le_trans s.dp hn, ?_⟩
  have h := PyData.shown_le 24 (by decide) d s.lv
  have h2 := s.wt
  have h3 : sizeLine = 16777216 := by decide
  omega
theorem sho_int {i : Int} (h : i.natAbs < 10 ^ 20) : Sho (.int i) 0 67 := by
  have hl : i.natAbs.log2 < 67 := by
    by_cases z : i.natAbs = 0
    · rw [z]; decide
    · exact (Nat.log2_lt z).mpr (Nat.lt_of_lt_of_le h (by decide))
  refine ⟨?_, by simp only [PyData.hasDict], by simp only [PyData.depth]; omega, ?_, ?_⟩
  · simp only [PyData.showable, decide_eq_true_eq]
    omega
  · have e := int_text_length_le10 (a := i) (k := 20) (by decide) h
    have e2 : (PyData.shown (.int i)).length ≤ 24 := by
      show (Str.ofString (toString i)).length ≤ 24
      rw [PySem.ofString_length]
      omega
    simp only [PyData.leavesShort]
    exact decide_eq_true e2
  · simp only [PyData.weight]
    split <;> omega
theorem ShoAll.nil (n k : Nat) : ShoAll [] n k := ⟨by simp only [PyData.showableAll], by simp only [PyData.hasDictAll], by simp only [PyData.depthAll]; omega, by simp only [PyData.leavesShortAll], by simp only [PyData.weightAll]; omega⟩
theorem ShoAll.cons {d : PyData} {ds : List PyData} {n k m : Nat} (s : Sho d n k) (r : ShoAll ds n m) : ShoAll (d :: ds) n (k + 1 + m) := by
  refine ⟨by simp only [PyData.showableAll, s.sh, r.sh, Bool.and_self], by simp only [PyData.hasDictAll, s.nd, r.nd, Bool.or_self], ?_, by simp only [PyData.leavesShortAll, s.lv, r.lv, Bool.and_self], ?_⟩
  · have h1 := s.dp
    have h2 := r.dp
    simp only [PyData.depthAll]
    omega
  · have h1 := s.wt
    have h2 := r.wt
    simp only [PyData.weightAll]
    omega
theorem ShoAll.of {ds : List PyData} {n k : Nat} (h : ∀ d ∈ ds, Sho d n k) : ShoAll ds n ((k + 1) * ds.length) := by
  induction ds with
  | nil => exact .nil _ _
  | cons d r ih =>
    have s := ShoAll.cons (h d (List.mem_cons_self ..)) (ih fun x hx => h x (List.mem_cons_of_mem _ hx))
    rw [List.length_cons, Nat.mul_add, Nat.mul_one, Nat.add_comm]
    exact s
theorem ShoAll.tuple {ds : List PyData} {n k : Nat} (s : ShoAll ds n k) : Sho (.tuple ds) (n + 1) k :=
  ⟨by simp only [PyData.showable]; exact s.sh, by simp only [PyData.hasDict]; exact s.nd, by have := s.dp; simp only [PyData.depth]; omega, by simp only [PyData.leavesShort]; exact s.lv, by simp only [PyData.weight]; exact s.wt⟩
theorem ShoAll.list {ds : List PyData} {n k : Nat} (s : ShoAll ds n k) : Sho (.list ds) (n + 1) k :=
  ⟨by simp only [PyData.showable]; exact s.sh, by simp only [PyData.hasDict]; exact s.nd, by have := s.dp; simp only [PyData.depth]; omega, by simp only [PyData.leavesShort]; exact s.lv, by simp only [PyData.weight]; exact s.wt⟩
theorem sho_ints {ns : List Int} (h : ∀ n ∈ ns, n.natAbs < 10 ^ 20) : ShoAll (ns.map PyData.int) 0 (68 * ns.length) := by
  have := ShoAll.of (ds := ns.map PyData.int) (n := 0) (k := 67) fun d hd => by
    obtain ⟨i, hi, rfl⟩ := List.mem_map.mp hd
    exact sho_int (h i hi)
  rwa [List.length_map] at this
theorem rp_tupI {ns : List Int} (h : ∀ n ∈ ns, n.natAbs < 10 ^ 20) (hl : ns.length ≤ 8000) : Rp (.tuple (ns.map PyData.int)) := (sho_ints h).tuple.rp (by omega) (by omega)
theorem rp_lstI {ns : List Int} (h : ∀ n ∈ ns, n.natAbs < 10 ^ 20) (hl : ns.length ≤ 8000) : Rp (.list (ns.map PyData.int)) := (sho_ints h).list.rp (by omega) (by omega)
theorem sho_bk {b : Int × Int} (h1 : b.1.natAbs < 10 ^ 20) (h2 : b.2.natAbs < 10 ^ 20) : Sho (bD b) 1 136 := (sho_ints (ns := [b.1, b.2]) (fun n hn => by
  rcases List.mem_cons.mp hn with e | e
  · rw [e]; exact h1
  · rw [List.mem_singleton.mp e]; exact h2)).tuple
theorem rp_st {bs : List (Int × Int)} (h : ∀ b ∈ bs, b.1.natAbs < 10 ^ 20 ∧ b.2.natAbs < 10 ^ 20) (hl : bs.length ≤ 4000) : Rp (.tuple (bs.map bD)) := by
  have := ShoAll.of (ds := bs.map bD) (n := 1) (k := 136) fun d hd => by
    obtain ⟨b, hb, rfl⟩ := List.mem_map.mp hd
    exact sho_bk (h b hb).1 (h b hb).2
  rw [List.length_map] at this
  exact this.tuple.rp (by omega) (by omega)
section
variable {X : Cx}
/-- repr(e) of such data -/
def rRp (K : PySem.W.Frag) : List V → Hp → VK → Prop := fun xs H Q => ∃ (a : Addr) (d : PyData), xs = [.ref a] ∧ Dp K H (.ref a) d ∧ Rp d ∧ Q (.str d.shown) H
theorem call_rp (hgu : X.A.guards = some []) (hu : X.A.units + 64 < cLine) : CallR X (.builtin "repr") (rRp X.K) := by
  intro pins s σ H xs us Q I r h
  obtain ⟨a, d, e, dp, rp, q⟩ := h
  exact call_reprD hgu hu pins s σ H xs us Q I r ⟨a, d, e, dp, rp.sh, rp.nd, rp.dp, rp.ln, q⟩
end
end Ph

namespace Ph
open PySem PySem.Spec PyProof.Rows L2
/-! ### tuples of ints and states as data -/
theorem il_lay : ∀ ns : List Int, PyData.canLayAll0 (ns.map PyData.int) = true
  | [] => by simp [PyData.canLayAll0]
  | z :: zs => by simp [PyData.canLayAll0, PyData.canLay0, il_lay zs]
theorem il_depth : ∀ zs : List Int, PyData.depthAll (zs.map PyData.int) ≤ 1
  | [] => by simp [PyData.depthAll]
  | z :: zs => by
    have h1 := il_depth zs
    simp only [List.map_cons, PyData.depthAll, PyData.depth]
    omega
theorem tl_shaped (zs : List Int) : SeqAt.shaped (.tuple (zs.map PyData.int)) = true := by
  have h1 := il_depth zs
  have h2 : PyData.depth (.tuple (zs.map PyData.int)) ≤ 64 := by simp only [PyData.depth]; omega
  have h3 : PyData.canLay0 (.tuple (zs.map PyData.int)) = true := by simp only [PyData.canLay0]; exact il_lay zs
  show (PyData.canLay0 (.tuple (zs.map PyData.int)) && decide (PyData.depth (.tuple (zs.map PyData.int)) ≤ 64)) = true
  rw [h3, decide_eq_true h2]
  rfl
theorem il_shaped (zs : List Int) : SeqAt.shaped (.list (zs.map PyData.int)) = true := by
  have h1 := il_depth zs
  have h2 : PyData.depth (.list (zs.map PyData.int)) ≤ 64 := by simp only [PyData.depth]; omega
  have h3 : PyData.canLay0 (.list (zs.map PyData.int)) = true := by simp only [PyData.canLay0]; exact il_lay zs
  show (PyData.canLay0 (.list (zs.map PyData.int)) && decide (PyData.depth (.list (zs.map PyData.int)) ≤ 64)) = true
  rw [h3, decide_eq_true h2]
  rfl
theorem il_all (zs : List Int) : PyData.eqvAll (zs.map PyData.int) (zs.map PyData.int) = true := by
  induction zs with
  | nil => simp [PyData.eqvAll]
  | cons z zs ih => simp [PyData.eqvAll, ih, PyData.eqv]
theorem tl_eqv (zs : List Int) : PyData.eqv (.tuple (zs.map PyData.int)) (.tuple (zs.map PyData.int)) = true := by
  simp only [PyData.eqv]
  exact il_all zs
theorem il_eqv (zs : List Int) : PyData.eqv (.list (zs.map PyData.int)) (.list (zs.map PyData.int)) = true := by
  simp only [PyData.eqv]
  exact il_all zs
theorem BL.dp {K : PySem.W.Frag} {H : Hp} : ∀ {xs : List V} {bs : List Bk}, BL H xs bs → DpAll K H xs (bs.map bD)
  | _, _, .nil => .nil
  | _, _, .cons ⟨t, e1, e2⟩ r => by
    rw [List.map_cons]
    refine .cons ?_ (BL.dp r)
    rw [e1]
    exact .tup (.inl (.inl e2)) (.cons (.int _) (.cons (.int _) .nil))
theorem StAt.dp {K : PySem.W.Frag} {H : Hp} {t : Addr} {bs : List Bk} (h : StAt H t bs) : Dp K H (.ref t) (.tuple (bs.map bD)) := by
  obtain ⟨xs, e, bl⟩ := h
  exact .tup (.inl (.inl e)) bl.dp
theorem SqT.dp {K : PySem.W.Frag} {H : Hp} {t : Addr} {ns : List Int} (h : SqT K H t (ns.map V.int)) : Dp K H (.ref t) (.tuple (ns.map PyData.int)) := .tup h (dpI ns)
theorem BL.app {H : Hp} : ∀ {xs ys : List V} {bs cs : List Bk}, BL H xs bs → BL H ys cs → BL H (xs ++ ys) (bs ++ cs)
  | _, _, _, _, .nil, h => h
  | _, _, _, _, .cons h r, k => .cons h (BL.app r k)
theorem u64_of {A : Around} {k : Nat} (hr : Room k A) : A.units + 64 < cLine := by have := hr.un; omega
theorem perm_sorted : ∀ {l m : List Int}, m.Perm l → l.Pairwise (· ≤ ·) → m.Pairwise (· ≤ ·) → m = l := fun {l m} p h1 h2 => p.eq_of_pairwise (fun a b _ _ x y => Int.le_antisymm x y) h2 h1
theorem tl_pair {s : Nat → Nat} {m : Nat} (h : ∀ i, i + 1 < m → s i ≤ s (i + 1)) : (tl s m).Pairwise (· ≤ ·) := by
  induction m with
  | zero => exact List.Pairwise.nil
  | succ m ih =>
    rw [tl_succ, List.pairwise_append]
    refine ⟨ih fun i hi => h i (by omega), List.pairwise_singleton _ _, fun a ha b hb => ?_⟩
    obtain ⟨i, hi, rfl⟩ := tl_mem.mp ha
    rw [List.mem_singleton.mp hb]
    have : ∀ d i, i + d = m → s i ≤ s m := by
      intro d
      induction d with
      | zero => intro i e; rw [← e]; exact Nat.le_refl _
      | succ d ihd => intro i e; exact Nat.le_trans (h i (by omega)) (ihd (i + 1) (by omega))
    have := this (m - i) i (by omega)
    omega
/-- how far the bounds reach at the most -/
theorem BD.ub {s b : Nat → Nat} {m M : Nat} (c : CH s m) (B : BD s b m M) {S : Nat} (hS : ∀ j, j < m → s j ≤ S) : ∀ i, i < m → b i ≤ (i + 1) * M + i * S
  | 0, h => by rw [B.b0]; omega
  | i + 1, h => by
    have ih := BD.ub c B hS i (by omega)
    have p := c.pos h
    have h1 := cdw_lt (x := b i) p
    have h2 := Nat.div_mul_le_self (M - Lw s b (s (i + 1)) (i + 1)) (s (i + 1))
    have h3 := hS _ h
    rw [B.bs i h, Nat.mul_add]
    rw [Nat.mul_comm] at h1 h2
    have e1 : (i + 1 + 1) * M = (i + 1) * M + M := by rw [Nat.add_mul, Nat.one_mul]
    have e2 : (i + 1) * S = i * S + S := by rw [Nat.add_mul, Nat.one_mul]
    rw [e1, e2]
    omega
end Ph

namespace Ph
open PySem PySem.Spec PyProof.Rows L2
section
variable {P : Program} {w : World} {A : Around} {E : Value → Shared → Prop} {s : Shared}
/-- the items of a tuple, laid into a list first -/
theorem collect_tup {a : Addr} {us : List Value} {Q : List Value → Shared → Prop} (ht : s.heap.IsTuple a us.toArray) (few : us.length ≤ sizeLine)
    (q : ∀ g, (∀ b o, s.heap.get? b = some o → g.get? b = some o) → s.heap.objs.size ≤ g.objs.size → Q us { s with heap := g }) :
    wpAny (model P w) A (collect (.ref a)) Q E s := by
  obtain ⟨o, ho, hc, n, hd⟩ := id ht
  have at0 : (s.heap.push (seqObj "list" #[] 0)).get? s.heap.objs.size = some (seqObj "list" #[] 0) := Heap.get?_push_size _ rfl
  have at1 : (s.heap.push (seqObj "list" #[] 0)).get? a = some o := Heap.get?_push_of_some _ ho
  unfold collect
  refine wpAny_bind (wpAny_runValue (codeAny_builtin entry_proto_collect' ?_))
  show wpAny _ _ (do again (.builtin "list.__iadd__" ⟨[← newList [], .ref a], []⟩)) _ _ s
  refine wpAny_bind (wpAny_newList (wpAny_pure ⟨Code.quiet_builtin _ (by decide +kernel), codeAny_builtin entry_list_iadd' ?_⟩))
  show wpAny _ _ (Builtin.List.listExtendWith (.ref s.heap.objs.size) (.ref a) (.ref s.heap.objs.size)) _ _ { s with heap := s.heap.push (seqObj "list" #[] 0) }
  unfold Builtin.List.listExtendWith
  refine wpAny_bind (wpAny_typeOf (T := "tuple") ⟨o, at1, hc⟩ ?_)
  have same : (Value.type "tuple" == Value.type "tuple") = true := by rfl
  rw [if_pos (by rw [same]; simp)]
  refine wpAny_bind (listItems_at at1 hd ?_)
  refine wpAny_bind (listItems_at (xs := #[]) (n := 0) at0 rfl ?_)
  rw [if_neg (by simp)]
  refine wpAny_bind (listUpdate_at (xs := #[]) (n := 0) at0 rfl ?_ (Nat.zero_le _) (by show (#[] ++ us.toArray).size ≤ sizeLine + 1; simp only [Array.size_append, List.size_toArray, List.length_nil]; omega))
  refine wpAny_pure ?_
  refine wpAny_bind (m := load s.heap.objs.size) (wpAny_load (get?_update_seq at0 _) ?_)
  have e : ((#[] : Array Value) ++ us.toArray).toList = us := by simp
  show wpAny _ _ (pure ((#[] : Array Value) ++ us.toArray).toList) Q E _
  rw [e]
  refine wpAny_pure (q _ (fun b u hb => ?_) ?_)
  · have lt := Heap.lt_size hb
    rw [Heap.get?_update_ne _ _ _ _ (Nat.ne_of_lt lt)]
    exact Heap.get?_push_of_some _ hb
  · rw [Heap.size_update, size_push']
    exact Nat.le_succ _
theorem sorted_of_tup {a : Addr} {us : List Value} {is : List Int} {Q : Value → Shared → Prop} (ht : s.heap.IsTuple a us.toArray) (few : us.length ≤ sizeLine) (hI : IntsAre us is)
    (q : ∀ g p (out : Array Value) (c : Nat) (ns : List Int), (∀ b u, s.heap.get? b = some u → g.get? b = some u) → s.heap.objs.size ≤ p → g.get? p = some (seqObj "list" out c) → IntsAre out.toList ns → ns.Perm is → ns.Pairwise (· ≤ ·) → Q (.ref p) { s with heap := g }) :
    wpAny (model P w) A (call (.builtin "sorted") [.ref a]) Q E s := by
  refine Calls.call_function_entry kind_sorted plain_sorted entry_sorted (args_sorted1 _) ?_; unfold Builtin.«sorted»
  refine wpAny_bind (m := checkCount "sorted" 1 1 _) (wpAny_pure (wpAny_bind (collect_tup ht few fun g keep hz => ?_)))
  refine wpAny_bind (wpAny_newList ?_ few)
  have at1 : (g.push (seqObj "list" us.toArray 0)).get? g.objs.size = some (seqObj "list" us.toArray 0) := Heap.get?_push_size _ rfl
  refine wpAny_bind (wpAny_holding (wpAny_call_entry slot_list_sort ⟨_, at1, rfl⟩ entry_list_sort (SrtO.list_sort_ord SrtO.swo_int at1 few (fun h2 => SrtO.ints_sortable hI h2) fun out b1 b2 => ⟨_, rfl, ?_⟩) (args_list_sort _)))
  obtain ⟨k2, k3, k4⟩ := SrtO.ints_out hI b1 b2
  obtain ⟨c, hc⟩ := sortedHeap_at (vs := us) (out := out.toArray) at1
  refine wpAny_pure ⟨_, rfl, q _ g.objs.size out.toArray c (out.map SrtO.iv) (fun b u e => ?_) hz hc (by simpa using k2) k3 k4⟩
  have z := keep b u e
  have lt := Heap.lt_size z
  show (sortedHeap (g.push (seqObj "list" us.toArray 0)) g.objs.size us out.toArray).get? b = some u
  rw [sortedHeap_old (Nat.ne_of_lt lt) (by rw [size_push']; exact Nat.lt_succ_of_lt lt)]
  exact Heap.get?_push_of_some _ z
end
section
variable {X : Cx}
def rSortedTI (K : PySem.W.Frag) : List V → Hp → VK → Prop := fun vs H Q => ∃ (a : Addr) (ns : List Int), vs = [V.ref a] ∧ SqT K H a (ns.map V.int) ∧ ∀ (ms : List Int) (p : Addr), ms.Perm ns → ms.Pairwise (· ≤ ·) → H p = none → Q (.ref p) (upd H p (.lst (ms.map V.int)))
theorem cr_sortedTI : CallR X (.builtin "sorted") (rSortedTI X.K) := by
  intro pins s σ H vs us Q I r h
  obtain ⟨a, ns, rfl, hs, q⟩ := h
  obtain ⟨its, rv, hl, hz⟩ := I.tuple hs
  rw [Vals.ref1 r]
  have hi := rv.ints
  have few : its.length ≤ sizeLine := by rw [← rv.length]; exact hz
  refine sorted_of_tup hl few hi fun g p out c ms keep hp hg hm pm2 srt => ?_
  have len : (ms.map V.int).length ≤ sizeLine := by rw [List.length_map, pm2.length_eq, ← List.length_map (f := V.int)]; exact hz
  exact ⟨.ref p, upd H p (.lst (ms.map V.int)), I.laid (t' := s.toks) keep hp ⟨len, out.toList, c, vals_of_ints hm, hg⟩, rfl, q ms p pm2 srt (I.hok.fresh hp)⟩
end
end Ph

namespace Ph
open PySem PySem.Spec PyProof.Rows L2
/-! ### the end of a law whose promise asks for empty guards -/
section
variable {P : Program} {w : World} {K : PySem.W.Frag} {mg mb : Str → Option Value} {k : Nat} {fa a : Addr} {fd : FuncData} {x : Str} {sp : Sp} {s₁ : Shared} {vs : List Value} {ns : List Int}
abbrev LawEnd (s₁ : Shared) : Result → Shared → Prop := fun r s' => r = .ok (.ret (.bool true)) ∧ OldK s₁.heap s'.heap ∧ s'.os = s₁.os ∧ AllBare s'.gens
theorem end_core (KX : K.In s₁.heap) (hns : s₁.heap.Ns mainGlobals mg) (hb : s₁.heap.Ns builtinsNs mb) (hbb : ∀ z : Str, z ≠ "__name__" → mb z = bootBuiltins z) (lim : s₁.heap.NoLimit) (gens : s₁.gens = #[])
    (isList : ∃ o, s₁.heap.get? a = some o ∧ ∀ es ep, o.data ≠ .dict es ep) (room : Room k callerA) (F : ∀ base : Heap, K.In base → base.Ns mainGlobals mg → FnG P w K mg base CX0 k fa fd [x] sp) (bnd : ∀ (s : Shared) (u : Value), BindsTo s fd ⟨[u], []⟩ [(x, u)])
    (H : Hp) (alone : ∀ b o, H b = some o → b = a ∧ ∃ ob zs, o = .frz ob (.lst zs)) (ok : HOk P w H s₁.heap) (free : H a ≠ none → K.lookup a = none) (want : sp [.ref a] H (fun v _ => v = .bl true) fun _ _ _ => False) :
    codeAny (model P w) callerA (.call (.ref fa) ⟨[.ref a], []⟩) (LawEnd s₁) s₁ := by
  obtain ⟨oa, ha, noD⟩ := isList
  have none_of : ∀ {b : Addr}, b ≠ a → H b = none := fun {b} nb => by
    cases z : H b with
    | none => rfl
    | some o => exact absurd (alone b o z).1 nb
  have dictFree : ∀ {b : Addr} {o : Obj} {es : Array DictEntry} {ep : Nat}, s₁.heap.get? b = some o → o.data = .dict es ep → H b = none := fun {b o es ep} g d => none_of fun z => by
    subst z
    rw [ha] at g
    cases g
    exact noD es ep d
  have ns2 : ∀ {b : Addr} {m : Str → Option Value}, s₁.heap.Ns b m → (hidT s₁.heap H).Ns b m := fun ⟨o, es, ep, g, d, rest⟩ => ⟨o, es, ep, hidT_get g (dictFree g d), d, rest⟩
  have kin : K.In (hidT s₁.heap H) := fun b o g => hidT_get (KX b o g) (by
    cases z : H b with
    | none => rfl
    | some u =>
      have e1 := (alone b u z).1
      subst e1
      rw [free (by rw [z]; exact fun q => nomatch q)] at g
      cases g)
  have modu : Mod K mg (hidT s₁.heap H) := ⟨kin, ns2 hns, ⟨mb, ns2 hb, hbb⟩, let ⟨mc, z1, z2⟩ := lim; ⟨mc, ns2 z1, z2⟩⟩
  have env : Env0 P w K mg (hidT s₁.heap H) callerA [] s₁ H := ⟨rfl, modu, fun b o g => of_hidT g, Nat.le_of_eq (hidT_size _ _), trivial, fun b hb => (List.not_mem_nil hb).elim, ok, .of_eq gens⟩
  refine codeAny_mono ((F _ kin (ns2 hns)).go callerA [] s₁ H ⟨[.ref a], []⟩ [.ref a] [.ref a] _ _ rfl room env (bnd s₁ (.ref a)) (.cons rfl .nil) want) fun r s2 out => ?_
  match r, out with
  | .error _, out => exact out.elim
  | .ok (.ret u), ⟨v, H', os, bare, un, ok2, rel, good⟩ =>
    have good' : v = .bl true := good
    subst good'
    obtain rfl : u = Value.bool true := rel
    refine ⟨rfl, OldK.of_keep fun b o g => ?_, os, bare⟩
    cases z : H b with
    | none => exact un.keep b o g z (fun q => (List.not_mem_nil q).elim) (by simp)
    | some u =>
      obtain ⟨_, ob, zs, rfl⟩ := alone b u z
      obtain ⟨e1, _⟩ := ok b _ z
      obtain ⟨e2, _⟩ := ok2 b _ (un.frzs b ob _ z)
      rw [g] at e1
      cases e1
      exact e2
theorem end_call (KX : K.In s₁.heap) (hns : s₁.heap.Ns mainGlobals mg) (hb : s₁.heap.Ns builtinsNs mb) (hbb : ∀ z : Str, z ≠ "__name__" → mb z = bootBuiltins z) (lim : s₁.heap.NoLimit) (gens : s₁.gens = #[])
    (ha : s₁.heap.get? a = some { cls := .type "list", data := .seq vs.toArray }) (hi : IntsAre vs ns) (hl : ns.length ≤ sizeLine) (room : Room k callerA) (F : ∀ base : Heap, K.In base → base.Ns mainGlobals mg → FnG P w K mg base CX0 k fa fd [x] sp) (bnd : ∀ (s : Shared) (u : Value), BindsTo s fd ⟨[u], []⟩ [(x, u)])
    (want : ∀ H : Hp, SqL K H a (ns.map V.int) → sp [.ref a] H (fun v _ => v = .bl true) fun _ _ _ => False) :
    codeAny (model P w) callerA (.call (.ref fa) ⟨[.ref a], []⟩) (LawEnd s₁) s₁ := by
  have isL : ∃ o, s₁.heap.get? a = some o ∧ ∀ es ep, o.data ≠ .dict es ep := ⟨_, ha, fun _ _ z => nomatch z⟩
  cases lk : K.lookup a with
  | some o =>
    have g := KX a o lk
    rw [ha] at g
    cases g
    refine end_core KX hns hb hbb lim gens isL room F bnd (fun _ => none) (fun b o z => nomatch z) (fun b u z => nomatch z) (fun z => (z rfl).elim) (want _ (.inr ⟨_, vs.toArray, _, lk, rfl, rfl, rfl, by rw [List.size_toArray, hi.length]; exact hl, by simpa using vals_ints hi⟩))
  | none =>
    refine end_core KX hns hb hbb lim gens isL room F bnd (fun b => if b = a then some (.frz { cls := .type "list", data := .seq vs.toArray } (.lst (ns.map V.int))) else none) (fun b o z => ?_) (fun b u z => ?_) (fun _ => lk) (want _ (.inl (.inr ⟨_, if_pos rfl⟩)))
    · by_cases e : b = a
      · have z' := (if_pos e).symm.trans z
        cases z'
        exact ⟨e, _, _, rfl⟩
      · exact nomatch (if_neg e).symm.trans z
    · by_cases e : b = a
      · have z' := (if_pos e).symm.trans z
        cases z'
        subst e
        exact ⟨ha, by rw [List.length_map]; exact hl, vs, _, vals_ints hi, ha⟩
      · exact nomatch (if_neg e).symm.trans z
end
theorem walkG {l : PySem.W.OpenLaw} {n k : Nat} {q : Program} {loose : List Str} {XP : (Str → Option Value) → Heap → Prop} {YP : World → Heap → Prop} {d : DefRec} {K : Params → PySem.W.Frag} {sp : World → Sp} {x : Str}
    (hn : l.most = some n) (hn2 : n ≤ sizeLine) (hdf : d.params.defaults = []) (room : Room k callerA) (hY : ∀ (w : World) (h : Heap), YP w h → (K w.params).In h)
    (F : ∀ (w : World) (mg : Str → Option Value) (fa : Addr) (h : Heap), (K w.params).In h → h.Ns mainGlobals mg → mg d.name = some (.ref fa) →
      ∃ fd : FuncData, (∀ (s : Shared) (u : Value), BindsTo s fd ⟨[u], []⟩ [(x, u)]) ∧ ∀ base : Heap, (K w.params).In base → base.Ns mainGlobals mg → FnG l.prog w (K w.params) mg base CX0 k fa fd [x] (sp w))
    (want : ∀ (w : World) (H : Hp) (a : Addr) (ns : List Int), ns.length ≤ n → SqL (K w.params) H a (ns.map V.int) → sp w [.ref a] H (fun v _ => v = .bl true) fun _ _ _ => False) :
    PySem.W.WalkO q loose XP YP l.row.toRowW d [] (fun f vs => PySem.call f vs) := by
  refine Att.attach_call hn hdf fun w s₀ s₁ mg mb fa o pm cd doc a vs ns G Y ho hd hcd hmg hobj hints hlen hg => ?_
  obtain ⟨fd, bnd, hF⟩ := F w mg fa _ (hY w _ Y) G.T.g hmg
  exact end_call (hY w _ Y) G.T.g G.T.b G.T.builtins G.T.nolimit hg hobj hints (Nat.le_trans hlen hn2) room hF bnd fun H hS => want w H a ns hlen hS
end Ph

namespace Ph
open PySem PySem.Spec PyProof.Rows L2
section
variable {X : Cx}
/-! ### powers of wide numbers; an item of a list or a tuple -/
def CPowW (i j : Int) : Prop := 0 ≤ j ∧ (Builtin.Int.intBits i : Int) * j ≤ 2 ^ 27
theorem op_powW : OpR X (binaryOp .Pow) (rI CPowW fun i j => .int (i ^ j.toNat)) := opI fun _ _ _ _ _ _ _ hc q => pow_int hc.1 hc.2 q
def rIxA (K : PySem.W.Frag) : V → V → Hp → VK → Prop := fun x y H Q => rIxL K x y H Q ∨ rIxT K x y H Q
theorem ix_any : IxR X (rIxA X.K) := by
  intro ea eb pins s σ H x y v u Q I rx ry h hs
  rcases h with h | h
  · exact ix_list ea eb pins s σ H x y v u Q I rx ry h hs
  · exact ix_tup ea eb pins s σ H x y v u Q I rx ry h hs
end
theorem join {R G : Hp → Prop} {C : Prop} (m : (∀ Hx, R Hx → G Hx) → C) (k : ∀ Hx, R Hx → G Hx) : C := m k
/-! ### draws: digits, a mixed number, a count -/
structure DrV (c : Nat) (g r n : Int) : Prop where
  g0 : 0 ≤ g
  g1 : g.natAbs < 2 ^ 3000
  r0 : 0 ≤ r
  r1 : r < 2305843009213693921
  n0 : 0 ≤ n
  n1 : n ≤ c
def Dr (c : Nat) (H : Hp) (p : Addr) : Prop := ∃ g r n : Int, H p = some (.lst [.int g, .int r, .int n]) ∧ DrV c g r n
theorem Dr.up {c d : Nat} {H : Hp} {p : Addr} (h : Dr c H p) (le : c ≤ d) : Dr d H p := by
  obtain ⟨g, r, n, e, v⟩ := h
  exact ⟨g, r, n, e, v.g0, v.g1, v.r0, v.r1, v.n0, by have := v.n1; omega⟩
theorem Dr.same {c : Nat} {H H' : Hp} {p : Addr} (P : Dr c H p) (s : Same H H') : Dr c H' p := by
  obtain ⟨g, r, n, h, v⟩ := P
  exact ⟨g, r, n, s _ _ h, v⟩
theorem Dr.ne_none {c : Nat} {H : Hp} {p q : Addr} (P : Dr c H p) (h : H q = none) : p ≠ q := by
  obtain ⟨g, r, n, e, v⟩ := P
  exact ne_of_none e h
theorem Dr.netup {c : Nat} {H : Hp} {p t : Addr} {xs : List V} (P : Dr c H p) (e : H t = some (.tup xs)) : t ≠ p := fun z => by
  obtain ⟨g, r, n, e0, _⟩ := P
  rw [z, e0] at e
  cases e
theorem Dr.nefrz {c : Nat} {H : Hp} {p t : Addr} {ob : Obj} {u : HO} (P : Dr c H p) (e : H t = some (.frz ob u)) : t ≠ p := fun z => by
  obtain ⟨g, r, n, e0, _⟩ := P
  rw [z, e0] at e
  cases e
theorem Dr.keep {c : Nat} {H : Hp} {p o : Addr} {u : HO} (P : Dr c H p) (n : p ≠ o) : Dr c (upd H o u) p := by
  obtain ⟨g, r, k, e0, v⟩ := P
  exact ⟨g, r, k, by rw [upd_ne n]; exact e0, v⟩
def TAt (H : Hp) (c : Addr) (C : List Int) : Prop := H c = some (.tup (C.map V.int)) ∨ ChAt H c C
theorem TAt.sq {K : PySem.W.Frag} {H : Hp} {c : Addr} {C : List Int} (h : TAt H c C) : SqT K H c (C.map V.int) := by
  rcases h with h | h
  · exact .inl (.inl h)
  · exact h.sq
theorem TAt.same {H H' : Hp} {c : Addr} {C : List Int} (h : TAt H c C) (s : Same H H') : TAt H' c C := by
  rcases h with h | h
  · exact .inl (s _ _ h)
  · exact .inr (h.keep s)
theorem TAt.butD {k : Nat} {p : Addr} {H H' : Hp} {c : Addr} {C : List Int} (h : TAt H c C) (b : But p H H') (P : Dr k H p) : TAt H' c C := by
  rcases h with h | ⟨o, d, e⟩
  · exact .inl (b _ _ (P.netup h) h)
  · exact .inr ⟨o, d, b _ _ (P.nefrz e) e⟩
/-- a chain of p + 1 sizes, each one at least twice the one before, none above m -/
structure Cn (s : Nat → Nat) (p m : Nat) : Prop where
  ch : CH s (p + 1)
  two : ∀ i, i < p → ∃ r, 2 ≤ r ∧ r ≤ 1000 ∧ s (i + 1) = s i * r
  top : s p ≤ m
inductive Gnk (m : Int) : List Int → Int → Prop
  | one : Gnk m [1] 1
  | step {ns : List Int} {x r : Int} : Gnk m ns x → 2 ≤ r → r ≤ 1000 → x * r ≤ m → Gnk m (ns ++ [x * r]) (x * r)
theorem Gnk.pos {m x : Int} {ns : List Int} (h : Gnk m ns x) : 1 ≤ x := by
  induction h with
  | one => decide
  | step h h1 h2 h3 ih =>
    have := Int.mul_le_mul ih h1 (by decide) (by omega)
    omega
theorem Gnk.last {m x : Int} {ns : List Int} (h : Gnk m ns x) : ∃ r, ns = r ++ [x] := by
  cases h with
  | one => exact ⟨[], rfl⟩
  | step h h1 h2 h3 => exact ⟨_, rfl⟩
theorem Gnk.le {m x : Int} {ns : List Int} (h : Gnk m ns x) (hm : 1 ≤ m) : x ≤ m := by
  cases h with
  | one => exact hm
  | step h h1 h2 h3 => exact h3
theorem Gnk.cn {m x : Int} {ns : List Int} (h : Gnk m ns x) (hm : 1 ≤ m) : ∃ s p, ns = tl s (p + 1) ∧ x = ((s p : Nat) : Int) ∧ Cn s p m.toNat := by
  induction h with
  | one => exact ⟨fun _ => 1, 0, rfl, rfl, ⟨rfl, fun i hi => absurd hi (by omega)⟩, fun i hi => absurd hi (by omega), by show 1 ≤ _; omega⟩
  | step h h1 h2 h3 ih =>
    rename_i ns x r
    obtain ⟨s, p, e1, e2, c⟩ := ih
    obtain ⟨q, rfl⟩ : ∃ q : Nat, r = q := ⟨r.toNat, by omega⟩
    have lo : ∀ i, i ≤ p → (if i ≤ p then s i else s p * q) = s i := fun i hi => if_pos hi
    have top : (if p + 1 ≤ p then s (p + 1) else s p * q) = s p * q := if_neg (by omega)
    have st : ∀ i, i < p + 1 → ∃ r, 2 ≤ r ∧ r ≤ 1000 ∧ (fun i => if i ≤ p then s i else s p * q) (i + 1) = (fun i => if i ≤ p then s i else s p * q) i * r := fun i hi => by
      rcases Nat.lt_or_ge i p with z | z
      · obtain ⟨r, a1, a2, a3⟩ := c.two i z
        refine ⟨r, a1, a2, ?_⟩
        dsimp only
        rw [lo i (by omega), lo (i + 1) (by omega)]
        exact a3
      · have : i = p := by omega
        subst this
        refine ⟨q, by omega, by omega, ?_⟩
        dsimp only
        rw [lo i (Nat.le_refl _), top]
    refine ⟨fun i => if i ≤ p then s i else s p * q, p + 1, ?_, ?_, ⟨?_, fun i hi => ?_⟩, st, ?_⟩
    · rw [tl_succ, top, e1, e2]
      congr 1
      exact tl_congr fun i hi => (lo i (by omega)).symm
    · show _ = ((if p + 1 ≤ p then s (p + 1) else s p * q : Nat) : Int)
      rw [top, e2]
      push_cast
      rfl
    · show (if 0 ≤ p then s 0 else _) = 1
      rw [if_pos (Nat.zero_le _)]
      exact c.ch.s0
    · obtain ⟨r, a1, _, a3⟩ := st i (by omega)
      exact ⟨r, by omega, a3⟩
    · show (if p + 1 ≤ p then s (p + 1) else s p * q) ≤ _
      rw [top]
      rw [e2] at h3
      have : ((s p * q : Nat) : Int) ≤ m := by push_cast; exact h3
      omega
section
variable {X : Cx}
theorem cutv_map {C : List Int} {lo hi : Option Int} : ∃ D : List Int, D.map V.int = cutV (C.map V.int) lo hi ∧ D.length ≤ C.length := by
  unfold cutV
  refine ⟨_, by rw [← List.map_drop, ← List.map_take], ?_⟩
  rw [List.length_take, List.length_drop]
  omega
theorem map_int_inj {C D : List Int} (h : C.map V.int = D.map V.int) : C = D := by
  have := congrArg (List.map iV) h
  rw [List.map_map, List.map_map] at this
  have e : iV ∘ V.int = id := by funext x; rfl
  rw [e, List.map_id, List.map_id] at this
  exact this
def rSlJ : V → Option Int → Option Int → Hp → VK → Prop := fun x lo hi H Q => ∃ a C, x = .ref a ∧ TAt H a C ∧ ∀ q H' D, Same H H' → D.map V.int = cutV (C.map V.int) lo hi → TAt H' q D → Q (.ref q) H'
theorem sl_tupJ : SlR X rSlJ := by
  intro pins s σ H x v vl vu lo hi sl Q I rx hs pl pu h
  obtain ⟨a, C, rfl, hx, q⟩ := h
  obtain ⟨D, eD, _⟩ := cutv_map (C := C) (lo := lo) (hi := hi)
  exact sl_tupA pins s σ H _ v vl vu lo hi sl Q I rx hs pl pu ⟨a, _, rfl, hx.sq, fun hw => q a H C (Same.refl H) (cutv_whole hw).symm hx, fun _ p np => q p _ D (same_upd np) eD (.inl (by rw [upd_same, eD]))⟩
def rCatJ : V → V → Hp → VK → Prop := fun x y H Q => ∃ a b C D, x = .ref a ∧ y = .ref b ∧ TAt H a C ∧ TAt H b D ∧ C.length + D.length ≤ sizeLine ∧ ∀ q H', Same H H' → TAt H' q (C ++ D) → Q (.ref q) H'
theorem op_catJ : OpR X (binaryOp .Add) rCatJ := by
  intro pins s σ H x y v u Q I rx ry h
  obtain ⟨a, b, C, D, rfl, rfl, ha, hb, hz, q⟩ := h
  refine op_catA pins s σ H _ _ v u Q I rx ry ⟨a, b, _, _, rfl, rfl, ha.sq, hb.sq, by rw [List.length_map, List.length_map]; exact hz, fun e => ?_, fun _ e => ?_, fun _ _ p np => q p _ (same_upd np) (.inl (by rw [upd_same, List.map_append]))⟩
  · rw [List.map_eq_nil_iff.mp e] at q
    exact q b H (Same.refl H) hb
  · rw [List.map_eq_nil_iff.mp e, List.append_nil] at q
    exact q a H (Same.refl H) ha
end
theorem cut_first {s : Nat → Nat} {n : Nat} : cutV ((tl s (n + 1)).map V.int) none (some 1) = [V.int ((s 0 : Nat) : Int)] := by
  have e : (tl s (n + 1)).map V.int = V.int ((s 0 : Nat) : Int) :: (tl (fun i => s (i + 1)) n).map V.int := by
    unfold tl
    rw [List.range_succ_eq_map]
    simp [Function.comp_def]
  rw [e]
  unfold cutV HT.sIx
  simp [tl_len]
theorem cut_lastp {s : Nat → Nat} {n : Nat} : cutV ((tl s (n + 1)).map V.int) (some (-1)) none = [V.int ((s n : Nat) : Int)] := by
  have l : ((tl s (n + 1)).map V.int).length = n + 1 := by rw [List.length_map, tl_len]
  have i1 : HT.sIx ((tl s (n + 1)).map V.int).length 0 (some (-1)) = n := by
    rw [l]
    unfold HT.sIx
    simp
    try omega
  have i2 : HT.sIx ((tl s (n + 1)).map V.int).length ((tl s (n + 1)).map V.int).length none = n + 1 := by rw [l]; rfl
  unfold cutV
  rw [i1, i2, tl_succ, List.map_append, List.drop_left' (by rw [List.length_map, tl_len])]
  simp
theorem cut_mid {s : Nat → Nat} {n : Nat} : cutV ((tl s (n + 1 + 1)).map V.int) (some 1) (some (-1)) = (tl (fun i => s (i + 1)) n).map V.int := by
  have l : ((tl s (n + 1 + 1)).map V.int).length = n + 1 + 1 := by rw [List.length_map, tl_len]
  have i1 : HT.sIx ((tl s (n + 1 + 1)).map V.int).length 0 (some 1) = 1 := by
    rw [l]
    unfold HT.sIx
    simp
  have i2 : HT.sIx ((tl s (n + 1 + 1)).map V.int).length ((tl s (n + 1 + 1)).map V.int).length (some (-1)) = n + 1 := by
    rw [l]
    unfold HT.sIx
    simp
    try omega
  unfold cutV
  rw [i1, i2, tl_succ]
  have e : (tl s (n + 1)).map V.int = V.int ((s 0 : Nat) : Int) :: (tl (fun i => s (i + 1)) n).map V.int := by
    unfold tl
    rw [List.range_succ_eq_map]
    simp [Function.comp_def]
  rw [List.map_append, e]
  simp
  rw [List.take_left' (by rw [List.length_map, tl_len])]
end Ph

namespace Ph
open PySem PySem.Spec PyProof.Rows L2
/-! ### the third pot: digits, a mixed number, a count -/
structure PoV (g r n : Int) : Prop where
  g0 : 0 ≤ g
  g1 : g.natAbs < 2 ^ 3000
  r0 : 0 ≤ r
  r1 : r < 2305843009213693951
  n0 : 0 ≤ n
def Po (H : Hp) (p : Addr) : Prop := ∃ g r n : Int, H p = some (.lst [.int g, .int r, .int n]) ∧ PoV g r n
theorem Po.same {H H' : Hp} {p : Addr} (P : Po H p) (s : Same H H') : Po H' p := by
  obtain ⟨g, r, n, h, v⟩ := P
  exact ⟨g, r, n, s _ _ h, v⟩
theorem Po.ne_none {H : Hp} {p q : Addr} (P : Po H p) (h : H q = none) : p ≠ q := by
  obtain ⟨g, r, n, e, v⟩ := P
  exact ne_of_none e h
theorem Po.netup {H : Hp} {p t : Addr} {xs : List V} (P : Po H p) (e : H t = some (.tup xs)) : t ≠ p := fun z => by
  obtain ⟨g, r, n, e0, _⟩ := P
  rw [z, e0] at e
  cases e
theorem Po.nefrz {H : Hp} {p t : Addr} {ob : Obj} {u : HO} (P : Po H p) (e : H t = some (.frz ob u)) : t ≠ p := fun z => by
  obtain ⟨g, r, n, e0, _⟩ := P
  rw [z, e0] at e
  cases e
theorem Po.keep {H : Hp} {p o : Addr} {u : HO} (P : Po H p) (n : p ≠ o) : Po (upd H o u) p := by
  obtain ⟨g, r, k, e0, v⟩ := P
  exact ⟨g, r, k, by rw [upd_ne n]; exact e0, v⟩
theorem TAt.butP {p : Addr} {H H' : Hp} {c : Addr} {C : List Int} (h : TAt H c C) (b : But p H H') (P : Po H p) : TAt H' c C := by
  rcases h with h | ⟨o, d, e⟩
  · exact .inl (b _ _ (P.netup h) h)
  · exact .inr ⟨o, d, b _ _ (P.nefrz e) e⟩
/-! ### max of a list of pairs of ints -/
section
variable {X : Cx}
def rMaxP (K : PySem.W.Frag) : List V → Hp → VK → Prop := fun vs H Q => ∃ (a : Addr) (xs : List V) (k : V → Int × Int), vs = [V.ref a] ∧ SqL K H a xs ∧ (∀ x ∈ xs, ∃ t, x = V.ref t ∧ H t = some (.tup [.int (k x).1, .int (k x).2])) ∧ 0 < xs.length ∧
  ∀ x ∈ xs, (∀ y ∈ xs, SrtO.lexB (k x) (k y) = false) → Q x H
theorem maxOf_spec : ∀ (x : Int × Int) (xs : List (Int × Int)), PySem.W.maxOf x xs ∈ x :: xs ∧ ∀ y ∈ x :: xs, SrtO.lexB (PySem.W.maxOf x xs) y = false
  | x, [] => ⟨List.mem_singleton.mpr rfl, fun y hy => by
      rw [List.mem_singleton.mp hy]
      exact SrtO.lexB_no.mpr (by show ¬ (x.1 < x.1 ∨ (x.1 = x.1 ∧ x.2 < x.2)); omega)⟩
  | x, z :: zs => by
    have e : PySem.W.maxOf x (z :: zs) = PySem.W.maxOf (if PySem.W.DatumOrd.lt x z = true then z else x) zs := rfl
    rw [e]
    have l : PySem.W.DatumOrd.lt x z = SrtO.lexB x z := rfl
    rw [l]
    by_cases c : SrtO.lexB x z = true
    · rw [if_pos c]
      obtain ⟨h1, h2⟩ := maxOf_spec z zs
      refine ⟨List.mem_cons_of_mem _ h1, fun y hy => ?_⟩
      rcases List.mem_cons.mp hy with r | r
      · rw [r]
        have a := SrtO.lexB_iff.mp c
        have b := SrtO.lexB_no.mp (h2 z (List.mem_cons_self ..))
        exact SrtO.lexB_no.mpr (by omega)
      · exact h2 y r
    · rw [if_neg c]
      obtain ⟨h1, h2⟩ := maxOf_spec x zs
      refine ⟨?_, fun y hy => ?_⟩
      · rcases List.mem_cons.mp h1 with r | r
        · rw [r]; exact List.mem_cons_self ..
        · exact List.mem_cons_of_mem _ (List.mem_cons_of_mem _ r)
      · rcases List.mem_cons.mp hy with r | r
        · rw [r]; exact h2 x (List.mem_cons_self ..)
        · rcases List.mem_cons.mp r with r | r
          · rw [r]
            have a := SrtO.lexB_no.mp (by simpa using c : SrtO.lexB x z = false)
            have b := SrtO.lexB_no.mp (h2 x (List.mem_cons_self ..))
            exact SrtO.lexB_no.mpr (by omega)
          · exact h2 y (List.mem_cons_of_mem _ r)
theorem dp_prs {K : PySem.W.Frag} {H : Hp} {k : V → Int × Int} : ∀ xs : List V, (∀ x ∈ xs, ∃ t, x = V.ref t ∧ H t = some (.tup [.int (k x).1, .int (k x).2])) → DpAll K H xs (xs.map fun x => bD (k x))
  | [], _ => .nil
  | x :: r, h => by
    obtain ⟨t, e, ht⟩ := h x (List.mem_cons_self ..)
    refine .cons ?_ (dp_prs r fun y hy => h y (List.mem_cons_of_mem _ hy))
    subst e
    exact .tup (.inl (.inl ht)) (.cons (.int _) (.cons (.int _) .nil))
theorem cr_maxP (hc : X.calm = true) (hu : X.A.units + 3 < cLine) : CallR X (.builtin "max") (rMaxP X.K) := by
  intro pins s σ H vs us Q I r h
  obtain ⟨a, xs, k, rfl, hs, hx, h0, q⟩ := h
  obtain ⟨its, rv, pl, hz⟩ := I.list hs
  rw [Vals.ref1 r]
  cases xs with
  | nil => exact absurd h0 (by decide)
  | cons x0 xr =>
    obtain ⟨as, rd⟩ := Dp.readsAll I _ _ its (dp_prs _ hx) rv
    have hd : PyData.depthAll ((x0 :: xr).map fun x => bD (k x)) ≤ 1 := by
      have := bDs_depth ((x0 :: xr).map k)
      rw [List.map_map] at this
      exact this
    have ha : PySem.W.AlikeAll ((x0 :: xr).map fun x => bD (k x)) := by
      have := PySem.W.alikeAll_datum ((x0 :: xr).map k)
      rw [List.map_map] at this
      exact this
    refine PySem.W.max_list_data (x := bD (k x0)) (xs := xr.map fun x => bD (k x)) (I.ok.hd hc) pl.isList (by simpa using rd) ha (by
      have e : PyData.depthAll (bD (k x0) :: xr.map fun x => bD (k x)) ≤ 1 := hd
      omega) (fun i v g tk bs hv rr kp => ?_)
    have em : PySem.W.maxD (bD (k x0)) (xr.map fun x => bD (k x)) = bD (PySem.W.maxOf (k x0) (xr.map k)) := by
      have := PySem.W.maxD_map (k x0) (xr.map k)
      rw [List.map_map] at this
      exact this
    rw [em] at rr
    obtain ⟨hm, hb⟩ := maxOf_spec (k x0) (xr.map k)
    have hv : its[i]? = some v := by simpa using hv
    obtain ⟨x, hxi, rx⟩ : ∃ x, (x0 :: xr)[i]? = some x ∧ RelV x v := by
      have hil : i < its.length := (List.getElem?_eq_some_iff.mp hv).1
      have hxl : i < (x0 :: xr).length := by rw [rv.length]; exact hil
      obtain ⟨u, e1, e2⟩ := rv.get (List.getElem?_eq_getElem hxl)
      rw [hv] at e1
      cases e1
      exact ⟨_, List.getElem?_eq_getElem hxl, e2⟩
    have mx := List.mem_of_getElem? hxi
    obtain ⟨t, et, ht⟩ := hx x mx
    have dx : Dp X.K H x (bD (k x)) := by
      subst et
      exact .tup (.inl (.inl ht)) (.cons (.int _) (.cons (.int _) .nil))
    obtain ⟨as2, r2⟩ := Dp.reads I _ _ _ dx rx
    have e := (Reads.unique (Reads.keeps kp r2) _ _ rr).1
    have e3 : k x = PySem.W.maxOf (k x0) (xr.map k) := by
      unfold bD at e
      injection e with e
      injection e with e1 e
      injection e with e2 e
      injection e1 with e1
      injection e2 with e2
      exact Prod.ext e1 e2
    refine ⟨x, H, I.kept kp, rx, q x mx fun y hy => ?_⟩
    rw [e3]
    refine hb (k y) ?_
    rcases List.mem_cons.mp hy with z | z
    · rw [z]; exact List.mem_cons_self ..
    · exact List.mem_cons_of_mem _ (List.mem_map.mpr ⟨y, z, rfl⟩)
end
end Ph

namespace Ph
open PySem PySem.Spec PyProof.Rows L2
theorem SqK.same {k : Bool} {K : PySem.W.Frag} {H H' : Hp} {a : Addr} {xs : List V} (h : SqK k K H a xs) (s : Same H H') : SqK k K H' a xs := by
  cases k
  · exact s.seq h
  · exact s.tup h
/-- a comprehension over zip of tuples and lists, in any mix -/
theorem lc_zkF {k1 k2 : Bool} {K : PySem.W.Frag} {a b : Addr} {xs ys : List V} {g : TG} {te : TE} {vs : List Nat} {σ : L2.St} {H1 : Hp} {D : Addr} {Qd : Hp → Prop} (n : Nat) (hn : n = min xs.length ys.length) (f : Nat → V) (ha : SqK k1 K H1 a xs) (hb : SqK k2 K H1 b ys) (nD : H1 D = none) (hlen : n < sizeLine)
    (hs : ∀ i x y T, i < n → xs[i]? = some x → ys[i]? = some y → ∀ H, Same H1 H → H T = none → ∀ Y : V → Hp → Prop, (∀ H', Same H H' → Y (f i) H') → g (.ref T) (wipe σ vs) (upd H T (.tup [x, y])) fun σ2 H2 => wipe σ2 vs = wipe σ vs ∧ te σ2 H2 Y)
    (hd : ∀ H, Same H1 H → H D = some (.lst ((List.range n).map f)) → Qd H) :
    ∃ W : Nat → Nat → Hp → Prop, (∃ m, W 0 m (upd H1 D (.lst []))) ∧ ∀ i m H, W i m H →
      ((ItzK k1 k2 K a b).stop i H ∧ Qd H) ∨ ((ItzK k1 k2 K a b).go i H ∧ ∃ Nx : Hp → Prop, (∀ H', Nx H' → ∃ m', m' < m ∧ W (i + 1) m' H') ∧ ∀ x H', (ItzK k1 k2 K a b).yld i H x H' → g x (wipe σ vs) H' fun σ2 H2 => wipe σ2 vs = wipe σ vs ∧ tYes σ2 H2 fun b H3 =>
        if b = true then te σ2 H3 fun y H4 => ∃ acc, H4 D = some (.lst acc) ∧ acc.length < sizeLine ∧ Nx (upd H4 D (.lst (acc ++ [y]))) else Nx H3) := by
  refine ⟨fun i m H => m = n - i ∧ i ≤ n ∧ Same H1 H ∧ H D = some (.lst ((List.range i).map f)), ⟨n, rfl, Nat.zero_le _, same_upd nD, upd_same⟩, ?_⟩
  rintro i m H ⟨rfl, hi, sm, hD⟩
  have qx := ha.same sm
  have qy := hb.same sm
  rcases Nat.lt_or_ge i n with lt | ge
  · have l1 : i < xs.length := by omega
    have l2 : i < ys.length := by omega
    refine .inr ⟨⟨xs, ys, _, _, qx, qy, List.getElem?_eq_getElem l1, List.getElem?_eq_getElem l2⟩, fun H' => Same H1 H' ∧ H' D = some (.lst ((List.range (i + 1)).map f)), fun H' p => ⟨n - (i + 1), by omega, rfl, lt, p⟩, fun v H' yl => ?_⟩
    obtain ⟨T, x, y, rfl, nT, rfl, f1, f2⟩ := yl
    refine hs i x y T lt (f1 xs qx) (f2 ys qy) H sm nT _ fun H4 s4 => ?_
    refine ⟨_, s4 _ _ hD, by rw [List.length_map, List.length_range]; omega, keepD nD (sm.trans s4), ?_⟩
    rw [upd_same, List.range_succ, List.map_append]
    rfl
  · have e : i = n := Nat.le_antisymm hi ge
    subst e
    exact .inl ⟨⟨xs, ys, qx, qy, by omega, by omega, by omega⟩, hd H sm hD⟩
end Ph

namespace Ph
open PySem PySem.Spec PyProof.Rows L2
/-! ### walks: zip of tuples and lists; comprehensions whose items are laid anew -/
theorem walk_zipK {k1 k2 : Bool} {K : PySem.W.Frag} {a b : Addr} {xs ys : List V} {n : Nat} (hn : n = min xs.length ys.length) : Walk (ItzK k1 k2 K a b) n (fun H => SqK k1 K H a xs ∧ SqK k2 K H b ys) (YPair (fun i => xs[i]?) (fun i => ys[i]?)) := by
  subst hn
  refine ⟨fun i _ hi q => ?_, fun _ q => ⟨xs, ys, q.1, q.2, by omega, by omega, by omega⟩, fun i H v H' _ q y => ?_⟩
  · have h1 : i < xs.length := by omega
    have h2 : i < ys.length := by omega
    exact ⟨xs, ys, xs[i], ys[i], q.1, q.2, by simp [h1], by simp [h2]⟩
  · obtain ⟨T, x, z, h1, h2, h3, h4, h5⟩ := y
    exact ⟨T, x, z, h1, h2, h3, h4 xs q.1, h5 ys q.2⟩
theorem walk_enumT {K : PySem.W.Frag} {a : Addr} {xs : List V} : Walk (Itt K a) xs.length (fun H => SqT K H a xs) (YAt xs) := walk_tup
theorem YPair.same {xs ys : Nat → Option V} {i : Nat} {H H' : Hp} {v : V} (h : YPair xs ys i H v H') : Same H H' := by
  obtain ⟨T, x, y, _, nT, e, _⟩ := h
  rw [e]
  exact same_upd nT
theorem YAt.same {xs : List V} {i : Nat} {H H' : Hp} {v : V} (h : YAt xs i H v H') : Same H H' := by
  rw [h.1]; exact Same.refl _
theorem YFn.same {f : Nat → V} {i : Nat} {H H' : Hp} {v : V} (h : YFn f i H v H') : Same H H' := by
  rw [h.1]; exact Same.refl _
theorem none_of_same {H H' : Hp} {D : Addr} (s : Same H H') (n : H' D = none) : H D = none := by
  cases e : H D with
  | none => rfl
  | some o => rw [s _ _ e] at n; cases n
theorem joinS {R G : L2.St → Hp → Prop} {C : Prop} (m : (∀ σ H, R σ H → G σ H) → C) (k : ∀ σ H, R σ H → G σ H) : C := m k
abbrev KpT (H H' : Hp) : Prop := ∀ v zs, H v = some (.tup zs) → H' v = some (.tup zs)
/-- a comprehension with a test; R tells of each item that stays, by its turn -/
theorem lc_RF {J : It} {n : Nat} {G : Hp → Prop} {Y : Nat → Hp → V → Hp → Prop} (w : Walk J n G Y) (hY : ∀ i H x H', Y i H x H' → Same H H') {g : TG} {tt : TT} {te : TE} {vs : List Nat} {σ : L2.St} {H1 : Hp} {D : Addr} {Qd : Hp → Prop}
    (p : Nat → Bool) (R : Hp → Nat → V → Prop) (mono : ∀ H H' i y, KpT H H' → R H i y → R H' i y) (nD : H1 D = none) (hlen : n < sizeLine) (hG : ∀ H, Same H1 H → G H)
    (hs : ∀ i x H H', i < n → Same H1 H → Y i H x H' → ∀ (Z : V → Hp → Prop) (N : Hp → Prop), (∀ y H4, Same H' H4 → p i = true → R H4 i y → Z y H4) → (∀ H4, Same H' H4 → p i = false → N H4) →
      g x (wipe σ vs) H' fun σ2 H2 => wipe σ2 vs = wipe σ vs ∧ tt σ2 H2 fun b H3 => if b = true then te σ2 H3 Z else N H3)
    (hd : ∀ H ys, Same H1 H → H D = some (.lst ys) → Paired (R H) ((List.range n).filter p) ys → Qd H) :
    ∃ W : Nat → Nat → Hp → Prop, (∃ m, W 0 m (upd H1 D (.lst []))) ∧ ∀ i m H, W i m H →
      (J.stop i H ∧ Qd H) ∨ (J.go i H ∧ ∃ Nx : Hp → Prop, (∀ H', Nx H' → ∃ m', m' < m ∧ W (i + 1) m' H') ∧ ∀ x H', J.yld i H x H' → g x (wipe σ vs) H' fun σ2 H2 => wipe σ2 vs = wipe σ vs ∧ tt σ2 H2 fun b H3 =>
        if b = true then te σ2 H3 fun y H4 => ∃ acc, H4 D = some (.lst acc) ∧ acc.length < sizeLine ∧ Nx (upd H4 D (.lst (acc ++ [y]))) else Nx H3) := by
  refine lc_it w (fun i H => Same H1 H ∧ ∃ ys, H D = some (.lst ys) ∧ Paired (R H) ((List.range i).filter p) ys) ⟨same_upd nD, [], upd_same, .nil⟩ (fun i H _ q => hG H q.1) (fun i x H H' hi q y => ?_) (fun H q => ?_)
  · obtain ⟨sm, ys, hD, pr⟩ := q
    have s' := hY _ _ _ _ y
    have hlen2 : ys.length < sizeLine := by
      have h1 := pr.length
      have h2 := List.length_filter_le p (List.range i)
      rw [List.length_range] at h2
      omega
    refine hs i x H H' hi sm y _ _ (fun y H4 s4 pi r4 => ?_) (fun H4 s4 pi => ?_)
    · have hD4 := s4 _ _ (s' _ _ hD)
      have tk : KpT H4 (upd H4 D (.lst (ys ++ [y]))) := fun v zs e => by
        rw [upd_ne (ne_of e hD4 (by intro z; cases z))]
        exact e
      refine ⟨ys, hD4, hlen2, fun b o e => ?_, ys ++ [y], upd_same, ?_⟩
      · rw [upd_ne (ne_of_none e nD)]
        exact s4 _ _ (s' _ _ (sm _ _ e))
      · rw [List.range_succ, List.filter_append, List.filter_cons_of_pos (by simpa using pi)]
        exact Paired.snoc (paired_imp (fun a b h => mono _ _ _ _ (fun v zs e => tk v zs (s4 _ _ (s' _ _ e))) h) pr) (mono _ _ _ _ tk r4)
    · refine ⟨(sm.trans s').trans s4, ys, s4 _ _ (s' _ _ hD), ?_⟩
      rw [List.range_succ, List.filter_append, List.filter_cons_of_neg (by simp [pi]), List.filter_nil, List.append_nil]
      exact paired_imp (fun a b h => mono _ _ _ _ (fun v zs e => s4 _ _ (s' _ _ e)) h) pr
  · obtain ⟨sm, ys, hD, pr⟩ := q
    exact hd H ys sm hD pr
theorem lc_R {J : It} {n : Nat} {G : Hp → Prop} {Y : Nat → Hp → V → Hp → Prop} (w : Walk J n G Y) (hY : ∀ i H x H', Y i H x H' → Same H H') {g : TG} {te : TE} {vs : List Nat} {σ : L2.St} {H1 : Hp} {D : Addr} {Qd : Hp → Prop}
    (R : Hp → Nat → V → Prop) (mono : ∀ H H' i y, KpT H H' → R H i y → R H' i y) (nD : H1 D = none) (hlen : n < sizeLine) (hG : ∀ H, Same H1 H → G H)
    (hs : ∀ i x H H', i < n → Same H1 H → Y i H x H' → ∀ (Z : V → Hp → Prop), (∀ y H4, Same H' H4 → R H4 i y → Z y H4) →
      g x (wipe σ vs) H' fun σ2 H2 => wipe σ2 vs = wipe σ vs ∧ te σ2 H2 Z)
    (hd : ∀ H ys, Same H1 H → H D = some (.lst ys) → Paired (R H) (List.range n) ys → Qd H) :
    ∃ W : Nat → Nat → Hp → Prop, (∃ m, W 0 m (upd H1 D (.lst []))) ∧ ∀ i m H, W i m H →
      (J.stop i H ∧ Qd H) ∨ (J.go i H ∧ ∃ Nx : Hp → Prop, (∀ H', Nx H' → ∃ m', m' < m ∧ W (i + 1) m' H') ∧ ∀ x H', J.yld i H x H' → g x (wipe σ vs) H' fun σ2 H2 => wipe σ2 vs = wipe σ vs ∧ tYes σ2 H2 fun b H3 =>
        if b = true then te σ2 H3 fun y H4 => ∃ acc, H4 D = some (.lst acc) ∧ acc.length < sizeLine ∧ Nx (upd H4 D (.lst (acc ++ [y]))) else Nx H3) :=
  lc_RF w hY (fun _ => true) R mono nD hlen hG (fun i x H H' hi sm y Z N hZ hN => hs i x H H' hi sm y Z fun y H4 s4 r => hZ y H4 s4 rfl r)
    (fun H ys sm hD pr => hd H ys sm hD (by
      have e : (List.range n).filter (fun _ => true) = List.range n := List.filter_eq_self.mpr fun _ _ => rfl
      rw [e] at pr
      exact pr))
theorem Paired.get {α β : Type} {F : α → β → Prop} : ∀ {l : List α} {m : List β} {i : Nat} {a : α}, Paired F l m → l[i]? = some a → ∃ b, m[i]? = some b ∧ F a b
  | _, _, _, _, .nil, h => by simp at h
  | _, _, 0, _, .cons x _, h => by simp at h; subst h; exact ⟨_, rfl, x⟩
  | _, _, i + 1, _, .cons _ r, h => by
    obtain ⟨b, e, f⟩ := Paired.get (i := i) r (by simpa using h)
    exact ⟨b, by simpa using e, f⟩
theorem Paired.get2 {α β : Type} {F : α → β → Prop} : ∀ {l : List α} {m : List β} {i : Nat} {b : β}, Paired F l m → m[i]? = some b → ∃ a, l[i]? = some a ∧ F a b
  | _, _, _, _, .nil, h => by simp at h
  | _, _, 0, _, .cons x _, h => by simp at h; subst h; exact ⟨_, rfl, x⟩
  | _, _, i + 1, _, .cons _ r, h => by
    obtain ⟨b, e, f⟩ := Paired.get2 (i := i) r (by simpa using h)
    exact ⟨b, by simpa using e, f⟩
/-- the items are a function of the turn -/
theorem paired_eq {α β : Type} {f : α → β} : ∀ {l : List α} {m : List β}, Paired (fun a b => b = f a) l m → m = l.map f
  | _, _, .nil => rfl
  | _, _, .cons h r => by rw [h, paired_eq r]; rfl
theorem SqT.butL {K : PySem.W.Frag} {H H' : Hp} {u D : Addr} {xs l : List V} (h : SqT K H u xs) (b : But D H H') (hD : H D = some (.lst l)) : SqT K H' u xs := by
  rcases h with (h | ⟨o, h⟩) | h
  · exact .inl (.inl (b _ _ (ne_of h hD (by intro z; cases z)) h))
  · exact .inl (.inr ⟨o, b _ _ (ne_of h hD (by intro z; cases z)) h⟩)
  · exact .inr h
/-- names of built-ins -/
structure Nm6 (K : PySem.W.Frag) (mg : Str → Option Value) : Prop where
  len : mg "len" = none
  abs : mg "abs" = none
  int : mg "int" = none
  range : mg "range" = none
  tuple : mg "tuple" = none
  max : mg "max" = none
  min : mg "min" = none
  repr : mg "repr" = none
  isinstance : mg "isinstance" = none
  bool : mg "bool" = none
  all : mg "all" = none
  any : mg "any" = none
  list : mg "list" = none
  dict : mg "dict" = none
  sorted : mg "sorted" = none
  set : mg "set" = none
  sum : mg "sum" = none
  zip : mg "zip" = none
  enumerate : mg "enumerate" = none
  reversed : mg "reversed" = none
  str : mg "str" = none
  dig : PySem.W.nsIn K cStatics "sys.int_max_str_digits" = some none
end Ph

namespace Ph
open PySem PySem.Spec PyProof.Rows L2
/-! ### loops that count up; any(ints) -/
theorem while_n {c : TT} {tb : TS} {D : Ends} {σ : L2.St} {H : Hp} (n : Nat) (Pv : Nat → L2.St → Hp → Prop) (h0 : Pv 0 σ H)
    (hs : ∀ i σ H, i ≤ n → Pv i σ H → c σ H fun b H1 => if b = true then ∃ N : L2.St → Hp → Prop, (∀ σ' H', N σ' H' → ∃ m', m' < n - i ∧ ∃ i', i' ≤ n ∧ m' = n - i' ∧ Pv i' σ' H') ∧ tb { D with nx := N, ct := N, bk := D.nx } σ H1 else D.nx σ H1) : tWhile c tb D σ H :=
  ⟨fun m σ H => ∃ i, i ≤ n ∧ m = n - i ∧ Pv i σ H, ⟨n - 0, 0, Nat.zero_le _, rfl, h0⟩, fun m σ H ⟨i, hi, e, p⟩ => e ▸ hs i σ H hi p⟩
theorem wn_next {n i : Nat} {Pv : Nat → L2.St → Hp → Prop} (h : i < n) : ∀ σ' H', Pv (i + 1) σ' H' → ∃ m', m' < n - i ∧ ∃ i', i' ≤ n ∧ m' = n - i' ∧ Pv i' σ' H' := fun σ' H' p => ⟨n - (i + 1), by omega, i + 1, by omega, rfl, p⟩
theorem ints_at {vs : List Value} {ns : List Int} (h : IntsAre vs ns) : ∀ {i : Nat} {v : Value}, vs[i]? = some v → ∃ t, v = .int (ns.getD i 0) t := by
  induction h with
  | nil => intro i v e; simp at e
  | cons n t h ih =>
    intro i v e
    cases i with
    | zero =>
      simp at e
      exact ⟨t, e.symm⟩
    | succ i =>
      simp at e
      obtain ⟨t', e'⟩ := ih e
      exact ⟨t', by rw [e']; simp⟩
theorem truth_ints {P : Program} {w : World} {A : Around} {ns : List Int} {vs : List Value} (h : IntsAre vs ns) :
    TruthOf P w A (fun i v => vs.toArray[i]? = some v) (fun i => (ns.getD i 0 != 0)) := fun i v s Q E hv hq => by
  have hv2 : vs[i]? = some v := by simpa using hv
  obtain ⟨t, rfl⟩ := ints_at h hv2
  exact PyProof.Rows.truthy_int hq
section
variable {X : Cx}
def rAnyI (K : PySem.W.Frag) : List V → Hp → VK → Prop := fun vs H Q => ∃ (a : Addr) (ns : List Int), vs = [V.ref a] ∧ SqL K H a (ns.map V.int) ∧ Q (.bl ((List.range ns.length).any fun i => (ns.getD i 0 != 0))) H
theorem cr_anyI (hc : X.calm = true) : CallR X (.builtin "any") (rAnyI X.K) := by
  intro pins s σ H vs us Q I r h
  obtain ⟨a, ns, rfl, hs, q⟩ := h
  obtain ⟨its, rv, hl, _⟩ := I.list hs
  rw [Vals.ref1 r]
  have hb := rv.ints
  have len : its.length = ns.length := by rw [← rv.length, List.length_map]
  refine call_any_walk (iter_any hl.isList fun s2 e2 st hne => ?_)
  subst e2
  refine ⟨_, _, _, _, _, _, _, rfl, Walks.list (A := X.A.in1) (I.ok.hd hc) _ a hne its.toArray, st, truth_ints hb, fun g tk hk => ?_⟩
  refine ⟨.bl _, H, I.kept fun b o eo => hk b o (fun hm => ?_) (Heap.get?_push_of_some _ eo), ?_, q⟩
  · rcases List.mem_cons.mp hm with e1 | hm
    · exact absurd (e1 ▸ Heap.lt_size eo) (Nat.lt_irrefl _)
    · cases hm
  · show Value.bool _ = Value.bool _
    rw [List.size_toArray, len]
end
end Ph

namespace Ph
open PySem PySem.Spec PyProof.Rows L2
section
variable {X : Cx}
/-! ### sum of a tuple of ints -/
def rSumT (K : PySem.W.Frag) : List V → Hp → VK → Prop := fun vs H Q => ∃ (a : Addr) (ns : List Int), vs = [V.ref a] ∧ SqT K H a (ns.map V.int) ∧ Q (.int ns.sum) H
theorem cr_sumT (hc : X.calm = true) : CallR X (.builtin "sum") (rSumT X.K) := by
  intro pins s σ H vs us Q I r h
  obtain ⟨a, ns, rfl, hs, q⟩ := h
  obtain ⟨its, rv, hl, _⟩ := I.tuple hs
  rw [Vals.ref1 r]
  have hi := rv.ints
  obtain ⟨xs, e⟩ := hi.allInts.items
  have hn : numsOf (intItems xs).toList = ns := by rw [← e]; exact hi.numsOf
  rw [nums_intItems] at hn
  rw [e] at hl
  refine PySem.W.ktm_sumG (I.ok.hd hc) hl fun h' tk t' hk => ?_
  refine ⟨.int _, H, I.kept hk, ⟨_, rfl⟩, ?_⟩
  have e2 : preSum (numAt xs) xs.size = ns.sum := by rw [preSum_eq, List.take_of_length_le (by simp), hn]
  rw [e2]
  exact q
theorem u3_of {A : Around} {k : Nat} (hr : Room k A) : A.units + 3 < cLine := by
  have := u64_of hr
  omega
end
end Ph

namespace Ph
open PySem PySem.Spec PyProof.Rows L2
/-! ### numbers begun with reaches: more reach, more words, never less -/
theorem ov_iff {s b : Nat → Nat} {i n M : Nat} (ht : 0 < s (i + 1)) (hm : ∀ j, j + 1 < i + 1 → b j ≤ b (j + 1)) :
    n ≤ cdw (b i) (s (i + 1)) + (M - Lw s b (s (i + 1)) (i + 1)) / s (i + 1) ↔ n ≤ cdw (b i) (s (i + 1)) ∨ sm (fun k => s (cls b (i + 1) (k * s (i + 1)))) n ≤ M := by
  have lw : Lw s b (s (i + 1)) (i + 1) = sm (fun k => s (cls b (i + 1) (k * s (i + 1)))) (cdw (b i) (s (i + 1))) := lw_sum (s := s) (b := b) ht hm (i + 1) (Nat.le_refl _)
  have mono : ∀ d j, j + d = i → b j ≤ b i := by
    intro d
    induction d with
    | zero => intro j e; have : j = i := by omega
              rw [this]; exact Nat.le_refl _
    | succ d ih => intro j e; exact Nat.le_trans (hm j (by omega)) (ih (j + 1) (by omega))
  have tail : ∀ n, cdw (b i) (s (i + 1)) ≤ n → sm (fun k => s (cls b (i + 1) (k * s (i + 1)))) n = Lw s b (s (i + 1)) (i + 1) + s (i + 1) * (n - cdw (b i) (s (i + 1))) := fun n hn => by
    rw [lw]
    refine sm_const hn fun k h1 _ => ?_
    have e : cls b (i + 1) (k * s (i + 1)) = i + 1 := by
      refine cls_eq (Nat.le_refl _) (fun j hj => ?_) (fun z => absurd z (by omega))
      have h3 : ¬ k * s (i + 1) < b i := fun z => by
        have := (lt_cdw ht).mpr z
        omega
      have := mono (i - j) j (by omega)
      omega
    rw [e]
  generalize cdw (b i) (s (i + 1)) = C at lw tail ⊢
  generalize Lw s b (s (i + 1)) (i + 1) = L at lw tail ⊢
  constructor
  · intro h
    rcases Nat.lt_or_ge C n with z | z
    · right
      rw [tail n (by omega)]
      have h1 : n - C ≤ (M - L) / s (i + 1) := by omega
      rw [Nat.le_div_iff_mul_le ht, Nat.mul_comm] at h1
      have h2 : s (i + 1) * 1 ≤ s (i + 1) * (n - C) := Nat.mul_le_mul_left _ (by omega)
      omega
    · exact .inl z
  · intro h
    rcases Nat.lt_or_ge C n with z | z
    · rcases h with h | h
      · omega
      · rw [tail n (by omega)] at h
        have h1 : n - C ≤ (M - L) / s (i + 1) := by
          rw [Nat.le_div_iff_mul_le ht, Nat.mul_comm]
          omega
        omega
    · exact Nat.le_trans z (Nat.le_add_right _ _)
theorem bfn_mono {s ρ ρ' : Nat → Nat} {m M M' : Nat} (c : CH s m) (hρ : ∀ i, i < m → ρ' i ≤ ρ i) (hM : M' ≤ M) : ∀ i, i < m → bfn s ρ' M' i ≤ bfn s ρ M i := by
  intro i
  induction i using Nat.strongRecOn with
  | ind i ih =>
    intro hi
    cases i with
    | zero =>
      rw [bfn_zero, bfn_zero]
      have := hρ 0 hi
      omega
    | succ i =>
      have ht := c.pos hi
      have up : ∀ (ρ : Nat → Nat) (M : Nat) j, j + 1 < i + 1 → bfn s ρ M j ≤ bfn s ρ M (j + 1) := fun ρ M j hj => bfn_up (c.pos (by omega))
      rw [bfn_succ, bfn_succ]
      have h1 : cdw (bfn s ρ' M' i) (s (i + 1)) + (M' - Lw s (bfn s ρ' M') (s (i + 1)) (i + 1)) / s (i + 1) ≤ cdw (bfn s ρ M i) (s (i + 1)) + (M - Lw s (bfn s ρ M) (s (i + 1)) (i + 1)) / s (i + 1) := by
        rw [ov_iff ht (up ρ M)]
        rcases (ov_iff (n := cdw (bfn s ρ' M' i) (s (i + 1)) + (M' - Lw s (bfn s ρ' M') (s (i + 1)) (i + 1)) / s (i + 1)) ht (up ρ' M')).mp (Nat.le_refl _) with z | z
        · exact .inl (Nat.le_trans z (cdw_mono (ih i (by omega) (by omega))))
        · refine .inr (Nat.le_trans (sm_le fun k _ => ?_) (Nat.le_trans z hM))
          refine c.mono (cls_anti fun j hj => ih j (by omega) (by omega)) ?_
          have := cls_le (bfn s ρ' M') (i + 1) (k * s (i + 1))
          omega
      have h2 := Nat.mul_le_mul_left (s (i + 1)) h1
      have h3 := hρ (i + 1) hi
      omega
theorem bfn_ge {s ρ : Nat → Nat} {M i : Nat} : ρ i ≤ bfn s ρ M i := by
  cases i with
  | zero => rw [bfn_zero]; exact Nat.le_max_right _ _
  | succ i => rw [bfn_succ]; exact Nat.le_max_left _ _
/-- how far the numbers can lie out -/
theorem bfn_ub {s ρ : Nat → Nat} {m M S R : Nat} (c : CH s m) (hS : ∀ j, j < m → s j ≤ S) (hR : ∀ j, j < m → ρ j ≤ R) : ∀ i, i < m → bfn s ρ M i ≤ (i + 1) * M + i * S + R
  | 0, h => by
    rw [bfn_zero]
    have := hR 0 h
    omega
  | i + 1, h => by
    have ih := bfn_ub (M := M) c hS hR i (by omega)
    have p := c.pos h
    have h1 := cdw_lt (x := bfn s ρ M i) p
    have h2 := Nat.div_mul_le_self (M - Lw s (bfn s ρ M) (s (i + 1)) (i + 1)) (s (i + 1))
    have h3 := hS _ h
    have h4 := hR _ h
    rw [bfn_succ, Nat.mul_add]
    rw [Nat.mul_comm] at h1 h2
    have e1 : (i + 1 + 1) * M = (i + 1) * M + M := by rw [Nat.add_mul, Nat.one_mul]
    have e2 : (i + 1) * S = i * S + S := by rw [Nat.add_mul, Nat.one_mul]
    rw [e1, e2]
    omega
end Ph

namespace Ph
open PySem PySem.Spec PyProof.Rows L2
section
variable {P : Program} {w : World} {A : Around} {E : Value → Shared → Prop} {s : Shared}
/-- sorted(tuple of pairs of ints) -/
theorem sorted_of_tupP {a : Addr} {us : List Value} {k : Value → Int × Int} {Q : Value → Shared → Prop} (ht : s.heap.IsTuple a us.toArray) (few : us.length ≤ sizeLine) (hp : ∀ v, v ∈ us → Srt.IsPair s.heap v (k v).1 (k v).2)
    (q : ∀ g p (out : List Value) (c : Nat), (∀ b u, s.heap.get? b = some u → g.get? b = some u) → s.heap.objs.size ≤ p → g.get? p = some (seqObj "list" out.toArray c) → SrtO.Srtd (fun v u => SrtO.lexB (k v) (k u)) out → SrtO.Stb (fun v u => SrtO.lexB (k v) (k u)) out us → Q (.ref p) { s with heap := g }) :
    wpAny (model P w) A (call (.builtin "sorted") [.ref a]) Q E s := by
  refine Calls.call_function_entry kind_sorted plain_sorted entry_sorted (args_sorted1 _) ?_; unfold Builtin.«sorted»
  refine wpAny_bind (m := checkCount "sorted" 1 1 _) (wpAny_pure (wpAny_bind (collect_tup ht few fun g keep hz => ?_)))
  refine wpAny_bind (wpAny_newList ?_ few)
  have at1 : (g.push (seqObj "list" us.toArray 0)).get? g.objs.size = some (seqObj "list" us.toArray 0) := Heap.get?_push_size _ rfl
  refine wpAny_bind (wpAny_holding (wpAny_call_entry slot_list_sort ⟨_, at1, rfl⟩ entry_list_sort (SrtO.list_sort_ord (SrtO.swo_lex k) at1 few (fun h2 => ?_) fun out b1 b2 => ⟨_, rfl, ?_⟩) (args_list_sort _)))
  · refine SrtO.pairs_sortableO (by omega) (fun v hv => (hp v hv).keeps fun b o e _ => Heap.get?_push_of_some _ (keep b o e)) fun o e => ?_
    have e2 : some o = some (seqObj "list" us.toArray 0) := e.symm.trans at1
    cases e2
    intro z
    exact absurd (Value.type.inj z) (by decide)
  · obtain ⟨c, hc⟩ := sortedHeap_at (vs := us) (out := out.toArray) at1
    refine wpAny_pure ⟨_, rfl, q _ g.objs.size out c (fun b u e => ?_) hz hc b1 b2⟩
    have z := keep b u e
    have lt := Heap.lt_size z
    show (sortedHeap (g.push (seqObj "list" us.toArray 0)) g.objs.size us out.toArray).get? b = some u
    rw [sortedHeap_old (Nat.ne_of_lt lt) (by rw [size_push']; exact Nat.lt_succ_of_lt lt)]
    exact Heap.get?_push_of_some _ z
end
section
variable {X : Cx}
def rSortedPT (K : PySem.W.Frag) : List V → Hp → VK → Prop := fun vs H Q => ∃ (a : Addr) (xs : List V) (k : V → Int × Int), vs = [V.ref a] ∧ SqT K H a xs ∧ (∀ x ∈ xs, ∃ t, x = V.ref t ∧ H t = some (.tup [.int (k x).1, .int (k x).2])) ∧
  ∀ ys p, SrtO.Srtd (ltP k) ys → SrtO.Stb (ltP k) ys xs → H p = none → Q (.ref p) (upd H p (.lst ys))
theorem cr_sortedPT : CallR X (.builtin "sorted") (rSortedPT X.K) := by
  intro pins s σ H vs us Q I r h
  obtain ⟨a, xs, k, rfl, hs, hx, q⟩ := h
  obtain ⟨its, rv, hl, hz⟩ := I.tuple hs
  rw [Vals.ref1 r]
  obtain ⟨e1, e2⟩ := refs_back rv fun x m => by
    obtain ⟨t, e, _⟩ := hx x m
    exact ⟨t, e⟩
  refine sorted_of_tupP (k := fun u => k (backV u)) hl (by rw [← rv.length]; exact hz) (fun v hv => ?_) fun g p out c keep hp hg h1 h2 => ?_
  · obtain ⟨t, rfl⟩ := e2 v hv
    have hm : V.ref t ∈ xs := by rw [e1]; exact List.mem_map.mpr ⟨_, hv, rfl⟩
    obtain ⟨t2, e, ht⟩ := hx _ hm
    cases e
    obtain ⟨_, its2, r2, o, ho, hc, n, hd⟩ := I.hok _ _ ht
    obtain ⟨u1, u2, rfl, ri, rj⟩ := vals2 r2
    obtain ⟨t1, rfl⟩ := ri
    obtain ⟨t3, rfl⟩ := rj
    exact ⟨t, o, t1, t3, n, rfl, ho, hc, hd⟩
  · have h3 : ∀ u ∈ out, ∃ a, u = Value.ref a := fun u hu => e2 u (h2.perm.mem_iff.mp hu)
    have hb : SrtO.Stb (ltP k) (out.map backV) xs := by
      rw [e1]
      exact SrtO.Stb.map (ltP_swo k) backV h2
    refine ⟨.ref p, upd H p (.lst (out.map backV)), I.laid (t' := s.toks) keep hp ⟨?_, out, c, vals_back h3, hg⟩, rfl, q _ p (SrtO.srtd_map h1) hb (I.hok.fresh hp)⟩
    rw [hb.len]
    exact hz
end
end Ph

namespace Ph
open PySem PySem.Spec PyProof.Rows L2
section
variable {P : Program} {w : World} {A : Around} {E : Value → Shared → Prop} {s : Shared} {T : String} {r d : Addr} {n : Nat} {Pv : Nat → Value → Prop} {OK : Heap → Prop}
/-- tuple(x), x walked as the library's source of a list -/
theorem code_tuple_src {Q₁ : Value → Shared → Prop} (S : PySem.W.KdlSrc P w T r d n Pv OK) (calm : A.handled = none) (ok : OK s.heap) (hn : n ≤ sizeLine) (nT : (Value.type T == Value.type "tuple") = false) (nL : (Value.type T == Value.type "list") = false)
    (q : ∀ (g : Heap) (tk : Nat) (acc : Array Value), (∀ b u, s.heap.get? b = some u → g.get? b = some u) → ItemsOf Pv acc n → Q₁ (.ref g.objs.size) { s with heap := g.push { cls := .type "tuple", data := .seq acc }, toks := tk }) :
    codeAny (model P w) A (.call (.builtin "tuple.__new__") ⟨[.type "tuple", .ref r], []⟩) (wants Q₁ E) s := by
  refine codeAny_of_tree ?_
  show wpAny (model P w) A.in1 (do checkBuiltinCall "tuple.__new__" ⟨[.type "tuple", .ref r], []⟩; again (.builtin "tuple.__new__" ⟨[.type "tuple", .ref r], []⟩)) _ _ s
  refine wpAny_bind (wpAny_of_eq (F.newCall_tuple_1 _) (wpAny_pure ⟨plainId_quiet F.plain_tuple_new _, codeAny_builtin F.entry_tuple_new ?_⟩)); rw [Around.under_plainId F.plain_tuple_new _]
  have y1 := sub_tuple_self
  have y2 := init_tuple_lookup
  have y3 := madeHere_tuple
  have ty := S.type _ ok
  have calm1 : A.in1.handled = none := calm
  wp_walk using wpAny_typeOf ty, PySem.W.kdu_collect (A := A.in1) S calm1 ok hn
  intro g tk acc k it
  show wpAny (model P w) _ (Builtin.Tuple.tupleExact acc.toList.toArray >>= fun v => ret v) _ _ _
  unfold Builtin.Tuple.tupleExact
  refine wpAny_bind (wpAny_newObj_type ?_ (by show acc.toList.toArray.size ≤ sizeLine; rw [Array.toArray_toList, it.1]; exact hn))
  rw [Array.toArray_toList]
  exact wpAny_pure (q g tk acc k it)
theorem call_tuple_src {Q : Value → Shared → Prop} (S : PySem.W.KdlSrc P w T r d n Pv OK) (calm : A.handled = none) (ok : OK s.heap) (hn : n ≤ sizeLine) (nT : (Value.type T == Value.type "tuple") = false) (nL : (Value.type T == Value.type "list") = false)
    (q : ∀ (g : Heap) (tk : Nat) (acc : Array Value), (∀ b u, s.heap.get? b = some u → g.get? b = some u) → ItemsOf Pv acc n → Q (.ref g.objs.size) { s with heap := g.push { cls := .type "tuple", data := .seq acc }, toks := tk }) :
    wpAny (model P w) A (call (.type "tuple") [.ref r]) Q E s := by
  refine callType_codes (Q₁ := fun z t => t.TypeIs z "tuple" ∧ Q z t) F.called_tuple (F.typeCall_tuple_1 _) F.entry_object_init (code_tuple_src (A := A.in1) S calm ok hn nT nL fun g tk acc k it => ⟨⟨_, Heap.get?_push_size _ rfl, rfl⟩, q g tk acc k it⟩) fun z t h => ?_
  exact ⟨h.1, F.args_object_init_2 z _, object_init_meets F.called_tuple.init.lookup F.called_tuple.made (by decide) P w A.in1 _ t ⟨h.1, rfl, h.2⟩⟩
end
section
variable {X : Cx} {o : Expr} {p pos apos mpos : Pos} {td : TE}
/-- tuple(d.values()) -/
def tTupVals (td : TE) : TE := fun σ H Q => td σ H fun x H1 => ∃ a kvs, x = V.ref a ∧ H1 a = some (.dK kvs) ∧ ∀ q, H1 q = none → Q (.ref q) (upd H1 q (.tup (kvs.map (·.2))))
theorem pe_tupVals (hc : X.calm = true) (hg : Gl X "tuple") (hm : X.mg "tuple" = none) (hd : PE X o td) (hbase : attributeBase o "values" X.env (eval o X.env) = eval o X.env := by rfl) (hline : (apos.endLine == mpos.line) = true := by rfl)
    (hse : starEach [Expr.Call (.Attribute o "values" apos) [] [] mpos] X.env = [(false, eval (Expr.Call (.Attribute o "values" apos) [] [] mpos) X.env)] := by rfl) :
    PE X (.Call (.Name "tuple" p) [.Call (.Attribute o "values" apos) [] [] mpos] [] pos) (tTupVals td) := by
  refine ⟨fun pins s σ H Q I h => ?_⟩
  refine Call_ (ld_blt I hg hm boot_tuple ?_)
  refine PyProof.Rows.callWith_type1 (PyProof.Rows.args_cons (wpAny_Call_method0_late hbase hline (thn (hd.run pins s σ H _ I h) fun v s1 ⟨x, H1, I1, r1, a, kvs, ex, ha, q⟩ => ?_)) hse) hse rfl
  subst ex
  obtain rfl : v = Value.ref a := r1
  obtain ⟨z, hsys, vs, rel, dof⟩ := dk_of I1.hok ha
  obtain ⟨ep, dat⟩ := dof.dictAt
  obtain ⟨ob, es, ho, ex, _⟩ := id dat
  refine ⟨"dict", "dict.values", F.plainAttrs_dict, F.slot_dict_values, F.type_dict_values, ⟨ob, ho, ex.1⟩, fun b e => by cases e; exact ⟨ob, ho, ex.2.1⟩, Calls.callWith_builtin rfl (PySem.evalArgs_none ?_)⟩
  refine call_meetsIn F.slot_dict_values ⟨ob, ho, ex.1⟩ F.entry_dict_values (F.args_dict_values_1 _) (meets_dict_values (mixKind X.prog X.w) a hsys) ⟨⟨vs, dof⟩, ?_⟩
  refine PyProof.Rows.args_nil ?_
  have lv : kvs.length = vs.length := KV.length rel
  refine call_tuple_src (PySem.W.kdl_values (knd := mixKind X.prog X.w) (kvs := vs) (ep := ep) (r := s1.heap.objs.size) (d := a)) (I.ok.hd hc) ⟨⟨_, Heap.get?_push_size _ rfl, rfl, rfl⟩, dat.keep fun b u e => Heap.get?_push_of_some _ e⟩ (by rw [← lv]; exact z) (by decide) (by decide) fun g tk acc k it => ?_
  have keep : ∀ b u, s1.heap.get? b = some u → (g.push { cls := .type "tuple", data := .seq acc }).get? b = some u := fun b u e => Heap.get?_push_of_some _ (k b u (Heap.get?_push_of_some _ e))
  have low : s1.heap.objs.size ≤ g.objs.size := by
    have := k s1.heap.objs.size _ (Heap.get?_push_size _ rfl)
    exact Nat.le_of_lt (Heap.lt_size this)
  have rv : Vals (kvs.map (·.2)) acc.toList := vals_of_at ((List.length_map _).trans (lv.trans (it.1.symm.trans Array.length_toList.symm))) fun j x u h1 h2 => by
    obtain ⟨kk, hk⟩ := it.2 j u (by rw [← Array.getElem?_toList]; exact h2)
    obtain ⟨x', h3, h4⟩ := KV.at' rel hk
    rw [List.getElem?_map, h3] at h1
    cases h1
    exact h4
  refine ⟨.ref _, upd H1 g.objs.size (.tup (kvs.map (·.2))), I1.laid (t' := tk) keep low ?_, rfl, q _ (I1.hok.fresh low)⟩
  exact ⟨by rw [List.length_map]; exact z, acc.toList, rv, ⟨_, Heap.get?_push_size _ rfl, rfl, 0, by rw [Array.toArray_toList]⟩⟩
end
end Ph

namespace Ph
open PySem PySem.Spec PyProof.Rows L2
theorem BL.get {H : Hp} : ∀ {xs : List V} {bs : List (Int × Int)} {i : Nat} {x : V}, BL H xs bs → xs[i]? = some x → ∃ b, bs[i]? = some b ∧ BkAt H x b
  | _, _, _, _, .nil, h => by simp at h
  | _, _, 0, _, .cons hb r, h => by
    have e := Option.some.inj h
    rw [← e]
    exact ⟨_, rfl, hb⟩
  | _ :: l1, _ :: l2, i + 1, x, .cons hb r, h => by
    have h' : l1[i]? = some x := h
    obtain ⟨b, e1, e2⟩ := BL.get (H := H) (xs := l1) (bs := l2) r h'
    exact ⟨b, e1, e2⟩
def ent (s : Int) (E : List Bk) (ys : List V) : List (Key × V) := List.zipWith (fun b y => (Sum.inl (b.1 / s), y)) E ys
theorem ent_snoc (s : Int) (E : List Bk) (ys : List V) (b : Bk) (y : V) (h : E.length = ys.length) : ent s (E ++ [b]) (ys ++ [y]) = ent s E ys ++ [(Sum.inl (b.1 / s), y)] := by
  unfold ent
  rw [List.zipWith_append h]
  rfl
theorem ent_snd (s : Int) : ∀ (E : List Bk) (ys : List V), E.length = ys.length → (ent s E ys).map (·.2) = ys
  | [], [], _ => rfl
  | _ :: E, y :: ys, h => by
    show y :: (ent s E ys).map (·.2) = y :: ys
    rw [ent_snd s E ys (by simpa using h)]
  | [], _ :: _, h => by simp at h
  | _ :: _, [], h => by simp at h
theorem ent_none (s q : Int) : ∀ (E : List Bk) (ys : List V), (∀ b ∈ E, b.1 / s ≠ q) → valV (ent s E ys) (Sum.inl q) = none
  | [], ys, _ => by cases ys <;> rfl
  | _ :: _, [], _ => rfl
  | b :: E, y :: ys, h => by
    have e : ent s (b :: E) (y :: ys) = (Sum.inl (b.1 / s), y) :: ent s E ys := rfl
    rw [e, valV_neg (fun z => h b (List.mem_cons_self ..) (Sum.inl.inj z))]
    exact ent_none s q E ys fun c hc => h c (List.mem_cons_of_mem _ hc)
theorem ent_len (s : Int) (E : List Bk) (ys : List V) : (ent s E ys).length ≤ E.length := by
  unfold ent
  rw [List.length_zipWith]
  omega
theorem put_snoc {kvs : List (Key × V)} {k : Key} {y v : V} (h : valV kvs k = none) : putK (kvs ++ [(k, y)]) k v = kvs ++ [(k, v)] := by
  have h1 : (kvs.any fun kv => decide (kv.1 = k)) = false := by
    rw [valV_any, h]
    rfl
  unfold putK
  rw [if_pos (by rw [List.any_append, h1]; simp), List.map_append]
  congr 1
  · have h2 := List.any_eq_false.mp h1
    conv => rhs; rw [← List.map_id kvs]
    refine List.map_congr_left fun kv hkv => ?_
    have h3 := h2 kv hkv
    rw [if_neg (by simpa using h3)]
    rfl
  · simp
theorem BL.snoc_inv {H : Hp} : ∀ {E0 : List Bk} {m : Bk} {ys : List V}, BL H ys (E0 ++ [m]) → ∃ ys0 y, ys = ys0 ++ [y] ∧ BL H ys0 E0 ∧ BkAt H y m
  | [], _, _, .cons h .nil => ⟨[], _, rfl, .nil, h⟩
  | _ :: _, _, _, .cons h r => by
    obtain ⟨ys0, y, e, b, k⟩ := BL.snoc_inv r
    exact ⟨_ :: ys0, y, by rw [e]; rfl, .cons h b, k⟩
section
variable {X : Cx} {o : Expr} {p pos apos mpos : Pos} {td : TE}
/-- list(d.values()) -/
def tLstVals (td : TE) : TE := fun σ H Q => td σ H fun x H1 => ∃ a kvs, x = V.ref a ∧ H1 a = some (.dK kvs) ∧ ∀ q, H1 q = none → Q (.ref q) (upd H1 q (.lst (kvs.map (·.2))))
theorem pe_lstVals (hc : X.calm = true) (hg : Gl X "list") (hm : X.mg "list" = none) (hd : PE X o td) (hbase : attributeBase o "values" X.env (eval o X.env) = eval o X.env := by rfl) (hline : (apos.endLine == mpos.line) = true := by rfl)
    (hse : starEach [Expr.Call (.Attribute o "values" apos) [] [] mpos] X.env = [(false, eval (Expr.Call (.Attribute o "values" apos) [] [] mpos) X.env)] := by rfl) :
    PE X (.Call (.Name "list" p) [.Call (.Attribute o "values" apos) [] [] mpos] [] pos) (tLstVals td) := by
  refine ⟨fun pins s σ H Q I h => ?_⟩
  refine Call_ (ld_blt I hg hm boot_list ?_)
  refine PyProof.Rows.callWith_type1 (PyProof.Rows.args_cons (wpAny_Call_method0_late hbase hline (thn (hd.run pins s σ H _ I h) fun v s1 ⟨x, H1, I1, r1, a, kvs, ex, ha, q⟩ => ?_)) hse) hse rfl
  subst ex
  obtain rfl : v = Value.ref a := r1
  obtain ⟨z, hsys, vs, rel, dof⟩ := dk_of I1.hok ha
  obtain ⟨ep, dat⟩ := dof.dictAt
  obtain ⟨ob, es, ho, ex, _⟩ := id dat
  refine ⟨"dict", "dict.values", F.plainAttrs_dict, F.slot_dict_values, F.type_dict_values, ⟨ob, ho, ex.1⟩, fun b e => by cases e; exact ⟨ob, ho, ex.2.1⟩, Calls.callWith_builtin rfl (PySem.evalArgs_none ?_)⟩
  refine call_meetsIn F.slot_dict_values ⟨ob, ho, ex.1⟩ F.entry_dict_values (F.args_dict_values_1 _) (meets_dict_values (mixKind X.prog X.w) a hsys) ⟨⟨vs, dof⟩, ?_⟩
  refine PyProof.Rows.args_nil ?_
  have lv : kvs.length = vs.length := KV.length rel
  refine PySem.W.kdl_call (PySem.W.kdl_values (knd := mixKind X.prog X.w) (kvs := vs) (ep := ep) (r := s1.heap.objs.size) (d := a)) (I.ok.hd hc) ⟨⟨_, Heap.get?_push_size _ rfl, rfl, rfl⟩, dat.keep fun b u e => Heap.get?_push_of_some _ e⟩ (by rw [← lv]; exact z) fun g tk acc cc k hob it => ?_
  have keep : ∀ b u, s1.heap.get? b = some u → g.get? b = some u := fun b u e => k b u (Heap.get?_push_of_some _ e)
  have rv : Vals (kvs.map (·.2)) acc.toList := vals_of_at ((List.length_map _).trans (lv.trans (it.1.symm.trans Array.length_toList.symm))) fun j x u h1 h2 => by
    obtain ⟨kk, hk⟩ := it.2 j u (by rw [← Array.getElem?_toList]; exact h2)
    obtain ⟨x', h3, h4⟩ := KV.at' rel hk
    rw [List.getElem?_map, h3] at h1
    cases h1
    exact h4
  have low : s1.heap.objs.size ≤ (s1.heap.push { cls := .type "dict_values", data := .fields #[.ref a] }).objs.size := by rw [size_push']; exact Nat.le_succ _
  refine ⟨.ref _, upd H1 _ (.lst (kvs.map (·.2))), I1.laid (t' := tk) keep low ⟨by rw [List.length_map]; exact z, acc.toList, cc, rv, ?_⟩, rfl, q _ (I1.hok.fresh low)⟩
  rw [Array.toArray_toList]
  exact hob

end
end Ph

namespace Ph
open PySem PySem.Spec PyProof.Rows L2
theorem BL.kp {H H' : Hp} {xs : List V} {bs : List Bk} (h : BL H xs bs) (kp : KpT H H') : BL H' xs bs := BL.mono kp h
theorem catSt {K : PySem.W.Frag} {H : Hp} {a b : Addr} {bs cs : List Bk} {Q : VK} (h1 : StAt H a bs) (h2 : StAt H b cs) (hl : bs.length + cs.length ≤ 10000) (q : ∀ H' p, Same H H' → StAt H' p (bs ++ cs) → Q (.ref p) H') : rCatA K (.ref a) (.ref b) H Q := by
  obtain ⟨xs, e1, b1⟩ := id h1
  obtain ⟨ys, e2, b2⟩ := id h2
  have l1 := b1.len
  have l2 := b2.len
  refine ⟨a, b, xs, ys, rfl, rfl, .inl (.inl e1), .inl (.inl e2), Nat.le_trans (show _ ≤ 10000 by omega) (by decide), fun z => ?_, fun _ z => ?_, fun _ _ p np => ?_⟩
  · have : bs = [] := by
      rw [z] at l1
      exact List.length_eq_zero_iff.mp l1.symm
    rw [this] at q
    exact q _ _ (Same.refl _) h2
  · have : cs = [] := by
      rw [z] at l2
      exact List.length_eq_zero_iff.mp l2.symm
    rw [this, List.append_nil] at q
    exact q _ _ (Same.refl _) h1
  · have s := same_upd (o := .tup (xs ++ ys)) np
    exact q _ _ s ⟨_, upd_same, (b1.app b2).mono fun t zs e => s _ _ e⟩
theorem perm_lex {l m : List Bk} (p : l.Perm m) (h1 : l.Pairwise fun x y => SrtO.lexB y x = false) (h2 : m.Pairwise fun x y => SrtO.lexB y x = false) : l = m :=
  p.eq_of_pairwise (fun a b _ _ x y => by
    have h3 := SrtO.lexB_no.mp x
    have h4 := SrtO.lexB_no.mp y
    exact Prod.ext (by omega) (by omega)) h1 h2
/-- blocks at 0, t, 2 t ..; the k-th has f k words -/
def bkl (t : Nat) (f : Nat → Nat) (n : Nat) : List Bk := (List.range n).map fun k => (((k * t : Nat) : Int), ((f k : Nat) : Int))
theorem bkl_succ (t : Nat) (f : Nat → Nat) (n : Nat) : bkl t f (n + 1) = bkl t f n ++ [(((n * t : Nat) : Int), ((f n : Nat) : Int))] := by
  unfold bkl
  rw [List.range_succ, List.map_append]
  rfl
theorem bkl_len (t : Nat) (f : Nat → Nat) (n : Nat) : (bkl t f n).length = n := by
  unfold bkl
  rw [List.length_map, List.length_range]
theorem bkl_get {t : Nat} {f : Nat → Nat} {n k : Nat} (h : k < n) : (bkl t f n)[k]? = some (((k * t : Nat) : Int), ((f k : Nat) : Int)) := by
  unfold bkl
  rw [List.getElem?_map, List.getElem?_range h]
  rfl
theorem bkl_mem {t : Nat} {f : Nat → Nat} {n : Nat} {b : Bk} : b ∈ bkl t f n ↔ ∃ k, k < n ∧ b = (((k * t : Nat) : Int), ((f k : Nat) : Int)) := by
  unfold bkl
  rw [List.mem_map]
  constructor
  · rintro ⟨k, hk, rfl⟩
    exact ⟨k, List.mem_range.mp hk, rfl⟩
  · rintro ⟨k, hk, rfl⟩
    exact ⟨k, List.mem_range.mpr hk, rfl⟩
theorem bkl_congr {t : Nat} {f g : Nat → Nat} {n : Nat} (h : ∀ k, k < n → f k = g k) : bkl t f n = bkl t g n := by
  unfold bkl
  refine List.map_congr_left fun k hk => ?_
  rw [h k (List.mem_range.mp hk)]
theorem bkl_sorted {t : Nat} (ht : 0 < t) (f : Nat → Nat) : ∀ n, (bkl t f n).Pairwise fun x y => SrtO.lexB y x = false
  | 0 => List.Pairwise.nil
  | n + 1 => by
    rw [bkl_succ, List.pairwise_append]
    refine ⟨bkl_sorted ht f n, List.pairwise_singleton _ _, fun a ha b hb => ?_⟩
    obtain ⟨k, hk, rfl⟩ := bkl_mem.mp ha
    rw [List.mem_singleton.mp hb]
    have : k * t < n * t := Nat.mul_lt_mul_of_pos_right hk ht
    exact SrtO.lexB_no.mpr (by dsimp only; omega)
theorem cdw_step {j r : Nat} (hr : 0 < r) : (j % r = 0 ∧ cdw j r = j / r ∧ cdw (j + 1) r = j / r + 1) ∨ (j % r ≠ 0 ∧ cdw j r = j / r + 1 ∧ cdw (j + 1) r = j / r + 1) := by
  have e : j = r * (j / r) + j % r := (Nat.div_add_mod j r).symm
  have m := Nat.mod_lt j hr
  generalize j / r = q at *
  generalize j % r = c at *
  subst e
  have h1 : ∀ x, x < r → cdw (r * q + 1 + x) r = q + 1 := fun x hx => by
    unfold cdw
    have : r * q + 1 + x + r - 1 = x + r * (q + 1) := by rw [Nat.mul_add, Nat.mul_one]; omega
    rw [this, Nat.add_mul_div_left _ _ hr, Nat.div_eq_of_lt hx]
    omega
  rcases Nat.eq_zero_or_pos c with z | z
  · subst z
    refine .inl ⟨rfl, ?_, ?_⟩
    · unfold cdw
      have : r * q + 0 + r - 1 = (r - 1) + r * q := by omega
      rw [this, Nat.add_mul_div_left _ _ hr, Nat.div_eq_of_lt (by omega)]
      omega
    · exact h1 0 hr
  · refine .inr ⟨by omega, ?_, ?_⟩
    · have := h1 (c - 1) (by omega)
      have e : r * q + 1 + (c - 1) = r * q + c := by omega
      rw [e] at this
      exact this
    · have := h1 c m
      have e : r * q + 1 + c = r * q + c + 1 := by omega
      rw [e] at this
      exact this
section
variable {X : Cx}
def rSetJ (K : PySem.W.Frag) (w : World) : List V → Hp → VK → Prop := fun vs H Q => ∃ (l : Addr) (ns : List Int), vs = [V.ref l] ∧ SqL K H l (ns.map V.int) ∧ ns.length + 1 < scanBound ∧ ∀ H' a c, Same H H' → H' a = some (SetO w a (fun j => decide (j ∈ ns)) c) → (ns.Nodup → c = ns.length) → Q (.ref a) H'
theorem cr_setJ (hc : X.calm = true) : CallR X (.type "set") (rSetJ X.K X.w) := fun pins s σ H vs us Q I r h => cr_setI hc pins s σ H vs us Q I r (by
  obtain ⟨l, ns, e, h1, h2, q⟩ := h
  exact ⟨l, ns, e, h1, h2, fun a c na hc => q _ a c (same_upd na) upd_same hc⟩)
end
theorem paired_mapL {α β γ : Type} {F : γ → β → Prop} {f : α → β} : ∀ {l : List α} {m : List γ}, Paired (fun a c => F c (f a)) l m → Paired F m (l.map f)
  | _, _, .nil => .nil
  | _, _, .cons h r => .cons h (paired_mapL r)
theorem inc_ext : ∀ {l m : List Int}, l.Pairwise (· < ·) → m.Pairwise (· < ·) → (∀ k, k ∈ l ↔ k ∈ m) → l = m
  | [], [], _, _, _ => rfl
  | [], y :: m, _, _, h => by have := (h y).mpr (List.mem_cons_self ..); cases this
  | x :: l, [], _, _, h => by have := (h x).mp (List.mem_cons_self ..); cases this
  | x :: l, y :: m, hl, hm, h => by
    obtain ⟨l1, l2⟩ := List.pairwise_cons.mp hl
    obtain ⟨m1, m2⟩ := List.pairwise_cons.mp hm
    have e : x = y := by
      have a := List.mem_cons.mp ((h x).mp (List.mem_cons_self ..))
      have b := List.mem_cons.mp ((h y).mpr (List.mem_cons_self ..))
      rcases a with a | a
      · exact a
      · rcases b with b | b
        · exact b.symm
        · have := m1 x a
          have := l1 y b
          omega
    subst e
    rw [inc_ext l2 m2 fun k => ?_]
    constructor
    · intro hk
      have := l1 k hk
      rcases List.mem_cons.mp ((h k).mp (List.mem_cons_of_mem _ hk)) with z | z
      · omega
      · exact z
    · intro hk
      have := m1 k hk
      rcases List.mem_cons.mp ((h k).mpr (List.mem_cons_of_mem _ hk)) with z | z
      · omega
      · exact z
end Ph

namespace Ph
open PySem PySem.Spec PyProof.Rows L2
/-! ### ranges with a step -/
def upS (x s : Int) : Int := -(-x / s) * s
theorem upS_ge {x s : Int} (hs : 0 < s) : x ≤ upS x s := by
  unfold upS
  have := Int.ediv_mul_le (-x) (b := s) (by omega)
  rw [Int.neg_mul]
  omega
theorem upS_lt {x s : Int} (hs : 0 < s) : upS x s < x + s := by
  unfold upS
  have := Int.lt_ediv_add_one_mul_self (-x) hs
  rw [Int.add_mul, Int.one_mul] at this
  rw [Int.neg_mul]
  omega
theorem upS_mod {x s : Int} : upS x s % s = 0 := by
  unfold upS
  exact Int.mul_emod_left _ _
/-- how many numbers a range gives -/
def rgN (i j c : Int) : Nat := (Builtin.Range.rangeSize i j c).toNat
theorem rgN_nonneg {i j c : Int} (hc : 0 < c) : 0 ≤ Builtin.Range.rangeSize i j c := by
  unfold Builtin.Range.rangeSize
  rw [if_pos hc]
  split
  · have : 0 ≤ (j - i - 1) / c := Int.ediv_nonneg (by omega) (by omega)
    omega
  · exact Int.le_refl _
theorem rgN_le {i j c : Int} (hc : 0 < c) : rgN i j c ≤ (j - i).toNat := by
  unfold rgN Builtin.Range.rangeSize
  rw [if_pos hc]
  split
  · have : (j - i - 1) / c ≤ j - i - 1 := Int.ediv_le_self _ (by omega)
    omega
  · simp
theorem rg3_inc {i c : Int} (hc : 0 < c) (n : Nat) : (rg3 i c n).Pairwise (· < ·) := by
  unfold rg3
  rw [List.pairwise_map]
  refine List.pairwise_lt_range.imp fun {a b} h => ?_
  have : (a : Int) * c < b * c := Int.mul_lt_mul_of_pos_right (by omega) hc
  omega
theorem mem_rg3 {i j c k : Int} (hc : 0 < c) : k ∈ rg3 i c (rgN i j c) ↔ i ≤ k ∧ k < j ∧ (k - i) % c = 0 := by
  have hn := rgN_nonneg (i := i) (j := j) hc
  unfold rg3
  rw [List.mem_map]
  constructor
  · rintro ⟨t, ht, rfl⟩
    have ht := List.mem_range.mp ht
    have t0 : 0 ≤ (t : Int) * c := Int.mul_nonneg (by omega) (by omega)
    have hl : (t : Int) < Builtin.Range.rangeSize i j c := by unfold rgN at ht; omega
    unfold Builtin.Range.rangeSize at hl
    rw [if_pos hc] at hl
    refine ⟨by omega, ?_, ?_⟩
    · split at hl
      · have h1 : (t : Int) * c ≤ (j - i - 1) / c * c := Int.mul_le_mul_of_nonneg_right (by omega) (by omega)
        have h2 := Int.ediv_mul_le (j - i - 1) (b := c) (by omega)
        omega
      · omega
    · rw [show i + (t : Int) * c - i = t * c by omega]
      exact Int.mul_emod_left _ _
  · rintro ⟨h1, h2, h3⟩
    obtain ⟨t, ht⟩ := Int.dvd_of_emod_eq_zero h3
    have t0 : 0 ≤ t := by
      by_cases z : 0 ≤ t
      · exact z
      · have : c * t < 0 := Int.mul_neg_of_pos_of_neg hc (by omega)
        omega
    refine ⟨t.toNat, List.mem_range.mpr ?_, ?_⟩
    · have hl : t < Builtin.Range.rangeSize i j c := by
        unfold Builtin.Range.rangeSize
        rw [if_pos hc, if_pos (by omega)]
        have : t ≤ (j - i - 1) / c := by
          rw [Int.le_ediv_iff_mul_le hc]
          rw [Int.mul_comm]
          omega
        omega
      unfold rgN
      omega
    · rw [Int.toNat_of_nonneg t0, Int.mul_comm]
      omega
theorem inc_append {l m : List Int} (hl : l.Pairwise (· < ·)) (hm : m.Pairwise (· < ·)) (h : ∀ a ∈ l, ∀ b ∈ m, a < b) : (l ++ m).Pairwise (· < ·) := List.pairwise_append.mpr ⟨hl, hm, h⟩
/-! ### places -/
def plf (s : Int) : Int → List Bk → List Int
  | _, [] => []
  | ff, b :: r => rg3 (upS ff s) s (rgN (upS ff s) (b.1 - s + 1) s) ++ plf s (b.1 + b.2) r
def free (s : Int) (bs : List Bk) (W k : Int) : Prop := k % s = 0 ∧ 0 ≤ k ∧ k + s ≤ W ∧ ∀ b ∈ bs, k + s ≤ b.1 ∨ b.1 + b.2 ≤ k
theorem up_mod {s ff k : Int} (hs : 0 < s) : upS ff s ≤ k ∧ (k - upS ff s) % s = 0 ↔ ff ≤ k ∧ k % s = 0 := by
  have h1 := upS_ge (x := ff) hs
  have h2 := upS_lt (x := ff) hs
  have h3 := upS_mod (x := ff) (s := s)
  obtain ⟨q, hq⟩ := Int.dvd_of_emod_eq_zero h3
  constructor
  · rintro ⟨a, b⟩
    refine ⟨by omega, ?_⟩
    obtain ⟨r, hr⟩ := Int.dvd_of_emod_eq_zero b
    have : k = s * (q + r) := by rw [Int.mul_add]; omega
    rw [this]
    exact Int.mul_emod_right _ _
  · rintro ⟨a, b⟩
    obtain ⟨r, hr⟩ := Int.dvd_of_emod_eq_zero b
    have e : k - upS ff s = s * (r - q) := by rw [Int.mul_sub]; omega
    refine ⟨?_, by rw [e]; exact Int.mul_emod_right _ _⟩
    by_cases z : upS ff s ≤ k
    · exact z
    · exfalso
      have : r - q < 0 := by
        by_cases z2 : r - q < 0
        · exact z2
        · have : 0 ≤ s * (r - q) := Int.mul_nonneg (by omega) (by omega)
          omega
      have h5 : s * (r - q) ≤ s * (-1) := Int.mul_le_mul_of_nonneg_left (by omega) (by omega)
      omega
theorem plf_mem {s W : Int} (hs : 0 < s) : ∀ (bs : List Bk) (ff : Int), (∀ b ∈ bs, ff ≤ b.1 ∧ 1 ≤ b.2 ∧ b.1 + b.2 ≤ W) → bs.Pairwise (fun b c => b.1 + b.2 ≤ c.1) → ff ≤ W → ∀ k, k ∈ plf s ff (bs ++ [(W, 0)]) ↔ k % s = 0 ∧ ff ≤ k ∧ k + s ≤ W ∧ ∀ b ∈ bs, k + s ≤ b.1 ∨ b.1 + b.2 ≤ k
  | [], ff, _, _, _, k => by
    show k ∈ rg3 (upS ff s) s (rgN (upS ff s) (W - s + 1) s) ++ [] ↔ _
    rw [List.append_nil, mem_rg3 hs]
    have h := up_mod (ff := ff) (k := k) hs
    constructor
    · rintro ⟨a, b, c⟩
      obtain ⟨d, e⟩ := h.mp ⟨a, c⟩
      exact ⟨e, d, by omega, fun b hb => by cases hb⟩
    · rintro ⟨a, b, c, _⟩
      obtain ⟨d, e⟩ := h.mpr ⟨b, a⟩
      exact ⟨d, by omega, e⟩
  | b :: r, ff, hb, hp, hW, k => by
    obtain ⟨p1, p2⟩ := List.pairwise_cons.mp hp
    obtain ⟨b1, b2, b3⟩ := hb b (List.mem_cons_self ..)
    have ih := plf_mem hs r (b.1 + b.2) (fun c hc => ⟨p1 c hc, (hb c (List.mem_cons_of_mem _ hc)).2⟩) p2 b3 k
    show k ∈ rg3 (upS ff s) s (rgN (upS ff s) (b.1 - s + 1) s) ++ plf s (b.1 + b.2) (r ++ [(W, 0)]) ↔ _
    rw [List.mem_append, mem_rg3 hs, ih]
    have h := up_mod (ff := ff) (k := k) hs
    constructor
    · rintro (⟨a, c, d⟩ | ⟨a, c, d, e⟩)
      · obtain ⟨f, g⟩ := h.mp ⟨a, d⟩
        refine ⟨g, f, by omega, fun x hx => ?_⟩
        rcases List.mem_cons.mp hx with z | z
        · rw [z]; left; omega
        · have := p1 x z
          left; omega
      · refine ⟨a, by omega, d, fun x hx => ?_⟩
        rcases List.mem_cons.mp hx with z | z
        · rw [z]; right; exact c
        · exact e x z
    · rintro ⟨a, c, d, e⟩
      rcases e b (List.mem_cons_self ..) with z | z
      · obtain ⟨f, g⟩ := h.mpr ⟨c, a⟩
        exact .inl ⟨f, by omega, g⟩
      · exact .inr ⟨a, z, d, fun x hx => e x (List.mem_cons_of_mem _ hx)⟩
theorem plf_inc {s W : Int} (hs : 0 < s) : ∀ (bs : List Bk) (ff : Int), (∀ b ∈ bs, ff ≤ b.1 ∧ 1 ≤ b.2 ∧ b.1 + b.2 ≤ W) → bs.Pairwise (fun b c => b.1 + b.2 ≤ c.1) → ff ≤ W → (plf s ff (bs ++ [(W, 0)])).Pairwise (· < ·)
  | [], ff, _, _, _ => by
    show (rg3 (upS ff s) s (rgN (upS ff s) (W - s + 1) s) ++ []).Pairwise (· < ·)
    rw [List.append_nil]
    exact rg3_inc hs _
  | b :: r, ff, hb, hp, hW => by
    obtain ⟨p1, p2⟩ := List.pairwise_cons.mp hp
    obtain ⟨b1, b2, b3⟩ := hb b (List.mem_cons_self ..)
    have hb' : ∀ c ∈ r, b.1 + b.2 ≤ c.1 ∧ 1 ≤ c.2 ∧ c.1 + c.2 ≤ W := fun c hc => ⟨p1 c hc, (hb c (List.mem_cons_of_mem _ hc)).2⟩
    refine inc_append (rg3_inc hs _) (plf_inc hs r (b.1 + b.2) hb' p2 b3) fun x hx y hy => ?_
    have h1 := ((mem_rg3 hs).mp hx).2.1
    have h2 := ((plf_mem hs r (b.1 + b.2) hb' p2 b3 y).mp hy).2.1
    omega
theorem St.bnd {C : List Int} {W : Int} {bs : List Bk} (st : St C W bs) : ∀ b ∈ bs, 0 ≤ b.1 ∧ 1 ≤ b.2 ∧ b.1 + b.2 ≤ W := fun b hb => let ⟨_, h1, h2, _, h3⟩ := st.ok b hb; ⟨h2, h1, h3⟩
/-! ### a state behind another one -/
def fin : Int → List Bk → Int
  | ff, [] => ff
  | _, b :: r => fin (b.1 + b.2) r
theorem fin_snoc : ∀ (l : List Bk) (ff : Int) (b : Bk), fin ff (l ++ [b]) = b.1 + b.2
  | [], _, _ => rfl
  | _ :: r, _, b => fin_snoc r _ b
theorem plf_snoc (s : Int) : ∀ (l : List Bk) (ff : Int) (b : Bk), plf s ff (l ++ [b]) = plf s ff l ++ rg3 (upS (fin ff l) s) s (rgN (upS (fin ff l) s) (b.1 - s + 1) s)
  | [], ff, b => by
    show rg3 _ _ _ ++ [] = [] ++ _
    rw [List.append_nil]
    rfl
  | c :: r, ff, b => by
    show rg3 _ _ _ ++ plf s (c.1 + c.2) (r ++ [b]) = (rg3 _ _ _ ++ plf s (c.1 + c.2) r) ++ _
    rw [plf_snoc s r, List.append_assoc]
    rfl
theorem rg3_len (i c : Int) (n : Nat) : (rg3 i c n).length = n := by unfold rg3; simp
theorem plf_len {s : Int} (hs : 0 < s) : ∀ (l : List Bk) (ff e : Int), (∀ b ∈ l, ff ≤ b.1 ∧ 0 ≤ b.2 ∧ b.1 + b.2 ≤ e) → l.Pairwise (fun b c => b.1 + b.2 ≤ c.1) → ff ≤ e → (plf s ff l).length ≤ (e - ff).toNat
  | [], ff, e, _, _, _ => by show 0 ≤ _; omega
  | b :: r, ff, e, hb, hp, he => by
    obtain ⟨p1, p2⟩ := List.pairwise_cons.mp hp
    obtain ⟨b1, b2, b3⟩ := hb b (List.mem_cons_self ..)
    have ih := plf_len hs r (b.1 + b.2) e (fun c hc => ⟨p1 c hc, (hb c (List.mem_cons_of_mem _ hc)).2⟩) p2 b3
    show (rg3 _ _ _ ++ plf s (b.1 + b.2) r).length ≤ _
    rw [List.length_append, rg3_len]
    have h1 := rgN_le (i := upS ff s) (j := b.1 - s + 1) hs
    have h2 := upS_ge (x := ff) hs
    omega
theorem fin_bnd : ∀ (l : List Bk) (ff e : Int), (∀ b ∈ l, ff ≤ b.1 ∧ 0 ≤ b.2 ∧ b.1 + b.2 ≤ e) → ff ≤ e → l.Pairwise (fun b c => b.1 + b.2 ≤ c.1) → ff ≤ fin ff l ∧ fin ff l ≤ e
  | [], ff, e, _, he, _ => ⟨Int.le_refl _, he⟩
  | b :: r, ff, e, hb, he, hp => by
    obtain ⟨p1, p2⟩ := List.pairwise_cons.mp hp
    obtain ⟨b1, b2, b3⟩ := hb b (List.mem_cons_self ..)
    have ih := fin_bnd r (b.1 + b.2) e (fun c hc => ⟨p1 c hc, (hb c (List.mem_cons_of_mem _ hc)).2⟩) b3 p2
    show ff ≤ fin (b.1 + b.2) r ∧ _
    exact ⟨by omega, ih.2⟩
theorem RgC.up {i j c : Int} (hc : 0 < c) (hc2 : c < 1073741824) (hi : -(2 ^ 61) ≤ i ∧ i < 2 ^ 61) (hj : -(2 ^ 61) ≤ j ∧ j < 2 ^ 61) : RgC i j c (rgN i j c) := by
  have h1 := rgN_le (i := i) (j := j) hc
  have h0 := rgN_nonneg (i := i) (j := j) hc
  have h2 : Builtin.Range.rangeSize i j c = ((rgN i j c : Nat) : Int) := by unfold rgN; omega
  refine ⟨by omega, by omega, ?_, h2⟩
  unfold Builtin.Range.small
  rw [h2]
  simp only [Builtin.Range.rangeFitsLong, Bool.and_eq_true, Bool.or_eq_true, decide_eq_true_eq, beq_iff_eq, if_pos hc]
  omega
theorem St.asc0 {C : List Int} {W : Int} {bs : List Bk} (st : St C W bs) (h0 : 0 ≤ W) : (∀ b ∈ bs ++ [(W, 0)], 0 ≤ b.1 ∧ 0 ≤ b.2 ∧ b.1 + b.2 ≤ W) ∧ (bs ++ [(W, 0)]).Pairwise (fun b c : Bk => b.1 + b.2 ≤ c.1) := by
  refine ⟨fun b hb => ?_, List.pairwise_append.mpr ⟨st.asc, by simp, fun b hb c hc => ?_⟩⟩
  · rcases List.mem_append.mp hb with z | z
    · have := st.bnd b z
      omega
    · rw [List.mem_singleton.mp z]
      dsimp only
      omega
  · rw [List.mem_singleton.mp hc]
    exact (st.bnd b hb).2.2
theorem plf_gap {s x : Int} (hs : 0 < s) (ff a : Int) : rg3 (upS ff s) s (rgN (upS ff s) (a - s + 1) s) = if upS ff s ≤ (a - s) / s * s then rg3 (upS ff s) s (rgN (upS ff s) ((a - s) / s * s + 1) s) else [] := by
  have key : ∀ k, k % s = 0 → (k ≤ a - s ↔ k ≤ (a - s) / s * s) := fun k hk => by
    have e : k = k / s * s := by
      have := Int.mul_ediv_add_emod k s
      rw [hk, Int.mul_comm] at this
      omega
    constructor
    · intro h
      have h1 : k / s ≤ (a - s) / s := Int.ediv_le_ediv hs h
      have := Int.mul_le_mul_of_nonneg_right h1 (Int.le_of_lt hs)
      omega
    · intro h
      have := Int.ediv_mul_le (a - s) (b := s) (by omega)
      omega
  have um : upS ff s % s = 0 := upS_mod
  have mm : ∀ k, (k - upS ff s) % s = 0 → k % s = 0 := fun k h => by
    have e : k = (k - upS ff s) + upS ff s := by omega
    rw [e, Int.add_emod, h, um]
    simp
  split
  · refine inc_ext (rg3_inc hs _) (rg3_inc hs _) fun k => ?_
    rw [mem_rg3 hs, mem_rg3 hs]
    constructor
    · rintro ⟨h1, h2, h3⟩
      have := (key k (mm k h3)).mp (by omega)
      exact ⟨h1, by omega, h3⟩
    · rintro ⟨h1, h2, h3⟩
      have := (key k (mm k h3)).mpr (by omega)
      exact ⟨h1, by omega, h3⟩
  · rename_i h
    cases e : rg3 (upS ff s) s (rgN (upS ff s) (a - s + 1) s) with
    | nil => rfl
    | cons k r =>
      have hk : k ∈ rg3 (upS ff s) s (rgN (upS ff s) (a - s + 1) s) := by rw [e]; exact List.mem_cons_self ..
      rw [mem_rg3 hs] at hk
      have := (key (upS ff s) um).mp (by omega)
      omega
def gp1 (s ff : Int) (b : Bk) : List Bk := if upS ff s ≤ (b.1 - s) / s * s then [(upS ff s, (b.1 - s) / s * s)] else []
def gpf (s : Int) : Int → List Bk → List Bk
  | _, [] => []
  | ff, b :: r => gp1 s ff b ++ gpf s (b.1 + b.2) r
theorem gpf_snoc (s : Int) : ∀ (l : List Bk) (ff : Int) (b : Bk), gpf s ff (l ++ [b]) = gpf s ff l ++ gp1 s (fin ff l) b
  | [], ff, b => by show gp1 s ff b ++ [] = [] ++ _; rw [List.append_nil]; rfl
  | c :: r, ff, b => by
    show gp1 s ff c ++ gpf s (c.1 + c.2) (r ++ [b]) = gp1 s ff c ++ gpf s (c.1 + c.2) r ++ _
    rw [gpf_snoc s r, List.append_assoc]
    rfl
def gpr (s : Int) (g : Bk) : List Int := rg3 g.1 s (rgN g.1 (g.2 + 1) s)
theorem plf_gpf {s : Int} (hs : 0 < s) : ∀ (l : List Bk) (ff : Int), plf s ff l = (gpf s ff l).flatMap (gpr s)
  | [], _ => rfl
  | b :: r, ff => by
    show rg3 (upS ff s) s (rgN (upS ff s) (b.1 - s + 1) s) ++ plf s (b.1 + b.2) r = (gp1 s ff b ++ gpf s (b.1 + b.2) r).flatMap (gpr s)
    rw [plf_gpf hs r, plf_gap (x := 0) hs, List.flatMap_append]
    congr 1
    unfold gp1
    split
    · rw [List.flatMap_cons, List.flatMap_nil, List.append_nil]
      rfl
    · rfl
theorem gpf_bnd {s W : Int} (hs : 0 < s) : ∀ (l : List Bk) (ff : Int), (∀ b ∈ l, 0 ≤ b.1 ∧ 0 ≤ b.2 ∧ b.1 + b.2 ≤ W) → 0 ≤ ff → ∀ g ∈ gpf s ff l, 0 ≤ g.1 ∧ g.1 ≤ g.2 ∧ g.2 ≤ W
  | [], _, _, _, g, hg => by cases hg
  | b :: r, ff, h, hf, g, hg => by
    obtain ⟨b1, b2, b3⟩ := h b (List.mem_cons_self ..)
    rcases List.mem_append.mp hg with z | z
    · unfold gp1 at z
      split at z
      · rename_i c
        rw [List.mem_singleton.mp z]
        have := upS_ge (x := ff) hs
        have := Int.ediv_mul_le (b.1 - s) (b := s) (by omega)
        exact ⟨by show 0 ≤ upS ff s; omega, c, by show (b.1 - s) / s * s ≤ W; omega⟩
      · cases z
    · exact gpf_bnd hs r (b.1 + b.2) (fun c hc => h c (List.mem_cons_of_mem _ hc)) (by omega) g z
theorem gpf_len (s : Int) : ∀ (l : List Bk) (ff : Int), (gpf s ff l).length ≤ l.length
  | [], _ => Nat.le_refl _
  | b :: r, ff => by
    show (gp1 s ff b ++ _).length ≤ _
    have h1 := gpf_len s r (b.1 + b.2)
    have h2 : (gp1 s ff b).length ≤ 1 := by unfold gp1; split <;> simp
    rw [List.length_append, List.length_cons]
    omega
end Ph

namespace Ph
open PySem PySem.Spec PyProof.Rows L2
/-! ### the lowest place: guarantees (a) and (c) -/
theorem sm_addR (f : Nat → Nat) (a : Nat) : ∀ c, sm f (a + c) = sm f a + sm (fun x => f (a + x)) c
  | 0 => rfl
  | c + 1 => by
    show sm f (a + c) + f (a + c) = sm f a + (sm (fun x => f (a + x)) c + f (a + c))
    rw [sm_addR f a c]
    omega
theorem sm_chunks (f : Nat → Nat) (S : Nat) : ∀ n, sm f (n * S) = sm (fun k => sm (fun x => f (k * S + x)) S) n
  | 0 => by rw [Nat.zero_mul]; rfl
  | n + 1 => by
    rw [Nat.add_mul, Nat.one_mul, sm_addR, sm_chunks f S n]
    rfl
theorem sm_plus (f g : Nat → Nat) : ∀ n, sm (fun x => f x + g x) n = sm f n + sm g n
  | 0 => rfl
  | n + 1 => by
    show sm (fun x => f x + g x) n + (f n + g n) = sm f n + f n + (sm g n + g n)
    rw [sm_plus f g n]
    omega
def ind (a l x : Nat) : Nat := if a ≤ x ∧ x < a + l then 1 else 0
theorem sm_ind (a l : Nat) : ∀ n, sm (ind a l) n = min n (a + l) - min n a
  | 0 => by show 0 = _; omega
  | n + 1 => by
    show sm (ind a l) n + ind a l n = _
    rw [sm_ind a l n]
    unfold ind
    split <;> omega
def ocB (b : Bk) (x : Nat) : Nat := ind b.1.toNat b.2.toNat x
def occ (bs : List Bk) (x : Nat) : Nat := if bs.any (fun b => decide (ocB b x = 1)) = true then 1 else 0
theorem ocB_le (b : Bk) (x : Nat) : ocB b x ≤ 1 := by unfold ocB ind; split <;> omega
theorem occ_cons (b : Bk) (r : List Bk) (x : Nat) : occ (b :: r) x ≤ ocB b x + occ r x := by
  unfold occ
  rw [List.any_cons]
  have := ocB_le b x
  by_cases h : ocB b x = 1
  · rw [h]; split <;> split <;> omega
  · have e : decide (ocB b x = 1) = false := decide_eq_false h
    rw [e, Bool.false_or]
    omega
theorem occ_ge {b : Bk} {bs : List Bk} (h : b ∈ bs) (x : Nat) : ocB b x ≤ occ bs x := by
  unfold occ
  by_cases e : ocB b x = 1
  · rw [if_pos (List.any_eq_true.mpr ⟨b, h, decide_eq_true e⟩)]
    omega
  · have := ocB_le b x
    omega
def totN (bs : List Bk) : Nat := (bs.map fun b => b.2.toNat).sum
theorem occ_sum (N : Nat) : ∀ bs : List Bk, sm (occ bs) N ≤ totN bs
  | [] => by
    have : sm (occ []) N ≤ sm (fun _ => 0) N := sm_le fun k _ => by unfold occ; simp
    have z : ∀ n, sm (fun _ => 0) n = 0 := fun n => by
      induction n with
      | zero => rfl
      | succ n ih => show sm (fun _ => 0) n + 0 = 0; omega
    rw [z] at this
    exact Nat.le_trans this (Nat.zero_le _)
  | b :: r => by
    have h1 : sm (occ (b :: r)) N ≤ sm (fun x => ocB b x + occ r x) N := sm_le fun k _ => occ_cons b r k
    rw [sm_plus] at h1
    have h2 := occ_sum N r
    have h3 : sm (ocB b) N ≤ b.2.toNat := by
      show sm (ind b.1.toNat b.2.toNat) N ≤ _
      rw [sm_ind]
      omega
    unfold totN at *
    rw [List.map_cons, List.sum_cons]
    omega
/-- blocks of a chain, at their multiples -/
def Bok (s : Nat → Nat) (p : Nat) (bs : List Bk) : Prop := ∀ b ∈ bs, ∃ (a j : Nat), j ≤ p ∧ b = (((a * s j : Nat) : Int), ((s j : Nat) : Int))
/-- a chunk with a block has at least as many words as the block, or all -/
theorem chunk_ge {s : Nat → Nat} {p i j k a : Nat} {bs : List Bk} (c : CH s (p + 1)) (hi : i ≤ p) (hj : j ≤ p) (hb : (((a * s j : Nat) : Int), ((s j : Nat) : Int)) ∈ bs) (o1 : a * s j < (k + 1) * s i) (o2 : k * s i < a * s j + s j) :
    (j ≤ i ∧ k * s i ≤ a * s j ∧ s j ≤ sm (fun x => occ bs (k * s i + x)) (s i)) ∨ (i ≤ j ∧ s i ≤ sm (fun x => occ bs (k * s i + x)) (s i)) := by
  have pi := c.pos (i := i) (by omega)
  have pj := c.pos (i := j) (by omega)
  have low : sm (fun x => ind (a * s j) (s j) (k * s i + x)) (s i) ≤ sm (fun x => occ bs (k * s i + x)) (s i) := sm_le fun x _ => by
    have := occ_ge hb (k * s i + x)
    unfold ocB at this
    simp only [Int.toNat_natCast] at this
    exact this
  have val : sm (fun x => ind (a * s j) (s j) (k * s i + x)) (s i) = (min (k * s i + s i) (a * s j + s j) - min (k * s i + s i) (a * s j)) - (min (k * s i) (a * s j + s j) - min (k * s i) (a * s j)) := by
    have h := sm_addR (ind (a * s j) (s j)) (k * s i) (s i)
    rw [sm_ind, sm_ind] at h
    omega
  rw [val] at low
  rw [Nat.add_mul, Nat.one_mul] at o1
  rcases Nat.le_total j i with h | h
  · obtain ⟨r, r1, er⟩ := c.dvd h (by omega)
    left
    have e1 : k * s i = k * r * s j := by rw [er, Nat.mul_comm (s j) r, Nat.mul_assoc]
    have e2 : k * s i + s i = (k * r + r) * s j := by rw [Nat.add_mul, ← e1, er, Nat.mul_comm (s j) r]
    have l1 : k * r ≤ a := by
      rw [e1] at o2
      have : k * r * s j < (a + 1) * s j := by rw [Nat.add_mul, Nat.one_mul]; exact o2
      exact Nat.le_of_lt_succ (Nat.lt_of_mul_lt_mul_right this)
    have l2 : a + 1 ≤ k * r + r := by
      rw [e2] at o1
      exact Nat.lt_of_mul_lt_mul_right o1
    have m1 : k * s i ≤ a * s j := by rw [e1]; exact Nat.mul_le_mul_right _ l1
    have m2 : a * s j + s j ≤ k * s i + s i := by
      rw [e2]
      have := Nat.mul_le_mul_right (s j) l2
      rw [Nat.add_mul, Nat.one_mul] at this
      exact this
    refine ⟨h, m1, ?_⟩
    omega
  · obtain ⟨r, r1, er⟩ := c.dvd h (by omega)
    right
    have e1 : a * s j = a * r * s i := by rw [er, Nat.mul_comm (s i) r, Nat.mul_assoc]
    have e2 : a * s j + s j = (a * r + r) * s i := by rw [Nat.add_mul, ← e1, er, Nat.mul_comm (s i) r]
    have l1 : a * r ≤ k := by
      rw [e1] at o1
      have : a * r * s i < (k + 1) * s i := by rw [Nat.add_mul, Nat.one_mul]; exact o1
      exact Nat.le_of_lt_succ (Nat.lt_of_mul_lt_mul_right this)
    have l2 : k + 1 ≤ a * r + r := by
      rw [e2] at o2
      exact Nat.lt_of_mul_lt_mul_right o2
    have m1 : a * s j ≤ k * s i := by rw [e1]; exact Nat.mul_le_mul_right _ l1
    have m2 : k * s i + s i ≤ a * s j + s j := by
      rw [e2]
      have := Nat.mul_le_mul_right (s i) l2
      rw [Nat.add_mul, Nat.one_mul] at this
      exact this
    refine ⟨h, ?_⟩
    omega
theorem bfn_mono1 {s ρ : Nat → Nat} {M p : Nat} (c : CH s (p + 1)) {i : Nat} : ∀ {j}, i ≤ j → j ≤ p → bfn s ρ M i ≤ bfn s ρ M j
  | 0, h, _ => by rw [Nat.le_zero.mp h]; exact Nat.le_refl _
  | j + 1, h, h2 => by
    rcases Nat.lt_or_ge i (j + 1) with z | z
    · exact Nat.le_trans (bfn_mono1 c (by omega) (by omega)) (bfn_up (c.pos (by omega)))
    · have : i = j + 1 := by omega
      rw [this]; exact Nat.le_refl _
/-- all chunks below are taken and the limit allows one more block: it ends within the outlook -/
theorem low_end {s ρ : Nat → Nat} {p i n M : Nat} {bs : List Bk} (c : CH s (p + 1)) (hi : i ≤ p) (ok : Bok s p bs) (rc : ∀ (a j : Nat), j ≤ p → (((a * s j : Nat) : Int), ((s j : Nat) : Int)) ∈ bs → a * s j + s j ≤ ρ j)
    (full : ∀ k, k < n → ∃ b ∈ bs, b.1 < (((k + 1) * s i : Nat) : Int) ∧ ((k * s i : Nat) : Int) < b.1 + b.2) (lim : totN bs + s i ≤ M) : (n + 1) * s i ≤ bfn s ρ M i := by
  have sum1 : sm (fun k => s (cls (bfn s ρ M) i (k * s i))) n ≤ totN bs := by
    refine Nat.le_trans ?_ (occ_sum (n * s i) bs)
    rw [sm_chunks]
    refine sm_le fun k hk => ?_
    obtain ⟨b, hb, o1, o2⟩ := full k hk
    obtain ⟨a, j, hj, rfl⟩ := ok b hb
    dsimp only at o1 o2
    rcases chunk_ge (k := k) c hi hj hb (by omega) (by omega) with ⟨h1, h2, h3⟩ | ⟨h1, h2⟩
    · refine Nat.le_trans ?_ h3
      have r := rc a j hj hb
      have g : ρ j ≤ bfn s ρ M j := bfn_ge
      have pj := c.pos (i := j) (by omega)
      have : cls (bfn s ρ M) i (k * s i) ≤ j := by
        rcases Nat.lt_or_ge j (cls (bfn s ρ M) i (k * s i)) with z | z
        · have := cls_lo z
          omega
        · exact z
      exact c.mono this (by omega)
    · exact Nat.le_trans (c.mono (cls_le _ _ _) (by omega)) h2
  have last : s (cls (bfn s ρ M) i (n * s i)) ≤ s i := c.mono (cls_le _ _ _) (by omega)
  have sum2 : sm (fun k => s (cls (bfn s ρ M) i (k * s i))) (n + 1) ≤ M := by
    show sm (fun k => s (cls (bfn s ρ M) i (k * s i))) n + s (cls (bfn s ρ M) i (n * s i)) ≤ M
    omega
  cases i with
  | zero =>
    rw [bfn_zero, c.s0, Nat.mul_one]
    have : (n + 1) * 1 ≤ sm (fun k => s (cls (bfn s ρ M) 0 (k * s 0))) (n + 1) := sm_ge fun k _ => by
      show 1 ≤ s 0
      rw [c.s0]; exact Nat.le_refl _
    have := Nat.le_max_left M (ρ 0)
    omega
  | succ i =>
    have S0 := c.pos (i := i + 1) (by omega)
    have h := (ov_iff (s := s) (b := bfn s ρ M) (i := i) (n := n + 1) (M := M) S0 (fun j hj => bfn_up (c.pos (by omega)))).mpr (.inr sum2)
    rw [bfn_succ]
    refine Nat.le_trans ?_ (Nat.le_max_right _ _)
    rw [Nat.mul_comm]
    exact Nat.mul_le_mul_left _ h
/-- reaches within an outlook do not raise it -/
theorem bfn_idem {s ρ : Nat → Nat} {M : Nat} : ∀ i, bfn s (bfn s ρ M) M i = bfn s ρ M i := by
  have key : ∀ n i, i ≤ n → bfn s (bfn s ρ M) M i = bfn s ρ M i := by
    intro n
    induction n with
    | zero =>
      intro i h
      rw [Nat.le_zero.mp h, bfn_zero, bfn_zero]
      omega
    | succ n ih =>
      intro i h
      rcases Nat.lt_or_ge i (n + 1) with z | z
      · exact ih i (by omega)
      · have e : i = n + 1 := by omega
        subst e
        rw [bfn_succ s (bfn s ρ M), ih n (by omega), lw_congr (b' := bfn s ρ M) (fun j hj => ih j (by omega)), bfn_succ s ρ]
        omega
  exact fun i => key i i (Nat.le_refl _)
theorem bfn_within {s ρ ρ' : Nat → Nat} {m M : Nat} (c : CH s m) (h : ∀ i, i < m → ρ' i ≤ bfn s ρ M i) : ∀ i, i < m → bfn s ρ' M i ≤ bfn s ρ M i := fun i hi => by
  have := bfn_mono (s := s) (ρ := bfn s ρ M) (ρ' := ρ') (M := M) (M' := M) c h (Nat.le_refl _) i hi
  rw [bfn_idem] at this
  exact this
theorem cut_oneL {s : Nat → Nat} {p : Nat} : cutV ((tl s (p + 1)).map V.int) (some 1) none = (tl (fun i => s (i + 1)) p).map V.int := by
  have e : (tl s (p + 1)).map V.int = V.int ((s 0 : Nat) : Int) :: (tl (fun i => s (i + 1)) p).map V.int := by
    unfold tl
    rw [List.range_succ_eq_map, List.map_cons, List.map_cons, List.map_map, List.map_map, List.map_map]
    rfl
  rw [e]
  unfold cutV HT.sIx
  simp [tl_len]
  exact List.take_of_length_le (by rw [List.length_map, tl_len]; exact Nat.le_refl _)
theorem BL.at0 {H : Hp} {xs : List V} {b : Bk} {bs : List Bk} (h : BL H xs (b :: bs)) : ∃ x, xs[0]? = some x ∧ BkAt H x b := Paired.get2 h (i := 0) rfl
end Ph

namespace Ph
open PySem PySem.Spec PyProof.Rows L2
/-! ### heaps as objects -/
def hf (c : Addr) (pg M : Int) (t l : Addr) : List (Str × V) := [("chain", .ref c), ("pages", .int pg), ("limit", .int M), ("rule", .str "lowest"), ("blocks", .ref t), ("steps", .ref l)]
theorem hf_chain {c t l : Addr} {pg M : Int} : (hf c pg M t l).lookup ("chain" : Str) = some (.ref c) := rfl
theorem hf_pages {c t l : Addr} {pg M : Int} : (hf c pg M t l).lookup ("pages" : Str) = some (.int pg) := rfl
theorem hf_limit {c t l : Addr} {pg M : Int} : (hf c pg M t l).lookup ("limit" : Str) = some (.int M) := rfl
theorem hf_rule {c t l : Addr} {pg M : Int} : (hf c pg M t l).lookup ("rule" : Str) = some (.str "lowest") := rfl
theorem hf_blocks {c t l : Addr} {pg M : Int} : (hf c pg M t l).lookup ("blocks" : Str) = some (.ref t) := rfl
theorem hf_steps {c t l : Addr} {pg M : Int} : (hf c pg M t l).lookup ("steps" : Str) = some (.ref l) := rfl
theorem hf_put {c t l u : Addr} {pg M : Int} : putF "blocks" (.ref u) (hf c pg M t l) = hf c pg M u l := rfl
/-- what changes at h and at l alone -/
def Fr (h l : Addr) (H H' : Hp) : Prop := ∀ b o, b ≠ h → b ≠ l → H b = some o → H' b = some o
theorem Fr.refl (h l : Addr) (H : Hp) : Fr h l H H := fun _ _ _ _ e => e
theorem Fr.trans {h l : Addr} {H H1 H2 : Hp} (a : Fr h l H H1) (b : Fr h l H1 H2) : Fr h l H H2 := fun c o n1 n2 e => b c o n1 n2 (a c o n1 n2 e)
theorem _root_.L2.Same.fr {h l : Addr} {H H' : Hp} (s : Same H H') : Fr h l H H' := fun _ _ _ _ e => s _ _ e
/-- a heap object at h, its steps at l -/
structure HpA (C : Addr) (H : Hp) (h l c : Addr) (s : Nat → Nat) (p pg M : Nat) (bs : List Bk) (n : Nat) (dx t : Addr) (xs : List V) : Prop where
  ob : H h = some (.ins C dx (hf c pg M t l))
  ch : ChAt H c (tl s (p + 1))
  st : StAt H t bs
  ls : H l = some (.lst xs)
  ln : xs.length ≤ n
def HpAt (C : Addr) (H : Hp) (h l c : Addr) (s : Nat → Nat) (p pg M : Nat) (bs : List Bk) (n : Nat) : Prop := ∃ dx t xs, HpA C H h l c s p pg M bs n dx t xs
theorem HpAt.same {C : Addr} {H H' : Hp} {h l c : Addr} {s : Nat → Nat} {p pg M : Nat} {bs : List Bk} {n : Nat} (a : HpAt C H h l c s p pg M bs n) (sm : Same H H') : HpAt C H' h l c s p pg M bs n := by
  obtain ⟨dx, t, xs, a⟩ := a
  exact ⟨dx, t, xs, sm _ _ a.ob, a.ch.keep sm, a.st.same sm, sm _ _ a.ls, a.ln⟩
theorem HpAt.up {C : Addr} {H : Hp} {h l c : Addr} {s : Nat → Nat} {p pg M : Nat} {bs : List Bk} {n m : Nat} (a : HpAt C H h l c s p pg M bs n) (le : n ≤ m) : HpAt C H h l c s p pg M bs m := by
  obtain ⟨dx, t, xs, a⟩ := a
  exact ⟨dx, t, xs, a.ob, a.ch, a.st, a.ls, Nat.le_trans a.ln le⟩
theorem StAt.mono {H H' : Hp} {t : Addr} {bs : List Bk} (h : StAt H t bs) (kp : KpT H H') : StAt H' t bs := by
  obtain ⟨xs, e, b⟩ := h
  exact ⟨xs, kp _ _ e, BL.kp b kp⟩
theorem ChAt.frz {H H' : Hp} {c : Addr} {C : List Int} (h : ChAt H c C) (kp : ∀ o u, H c = some (.frz o u) → H' c = some (.frz o u)) : ChAt H' c C := let ⟨o, d, e⟩ := h; ⟨o, d, kp _ _ e⟩
theorem Fr.kpT {h l : Addr} {H H' : Hp} {C dx : Addr} {fs : List (Str × V)} {xs : List V} (f : Fr h l H H') (e1 : H h = some (.ins C dx fs)) (e2 : H l = some (.lst xs)) : KpT H H' := fun v zs e => f _ _ (ne_of e e1 (by intro z; cases z)) (ne_of e e2 (by intro z; cases z)) e
theorem Fr.frz {h l c : Addr} {H H' : Hp} {C dx : Addr} {fs : List (Str × V)} {xs : List V} (f : Fr h l H H') (e1 : H h = some (.ins C dx fs)) (e2 : H l = some (.lst xs)) : ∀ o u, H c = some (.frz o u) → H' c = some (.frz o u) := fun o u e => f _ _ (ne_of e e1 (by intro z; cases z)) (ne_of e e2 (by intro z; cases z)) e
theorem But.kpT {p : Addr} {H H' : Hp} {xs : List V} (b : But p H H') (e : H p = some (.lst xs)) : KpT H H' := fun v zs h => b _ _ (ne_of h e (by intro z; cases z)) h
/-- a heap beside another list that changes -/
theorem HpAt.but {C : Addr} {H H' : Hp} {h l c q : Addr} {s : Nat → Nat} {p pg M : Nat} {bs : List Bk} {n : Nat} {ys : List V} (a : HpAt C H h l c s p pg M bs n) (b : But q H H') (e : H q = some (.lst ys)) (nq : l ≠ q) : HpAt C H' h l c s p pg M bs n := by
  obtain ⟨dx, t, xs, a⟩ := a
  refine ⟨dx, t, xs, b _ _ (ne_of a.ob e (by intro z; cases z)) a.ob, a.ch.frz fun o u h => b _ _ (ne_of h e (by intro z; cases z)) h, a.st.mono (b.kpT e), b _ _ nq a.ls, a.ln⟩
end Ph

namespace Ph
open PySem PySem.Spec PyProof.Rows L2
/-! ### a get by the lowest place, a free: what becomes of the state and of the outlook -/
theorem totN_int : ∀ {bs : List Bk}, (∀ b ∈ bs, 0 ≤ b.2) → (bs.map fun b => b.2).sum = ((totN bs : Nat) : Int)
  | [], _ => rfl
  | b :: r, h => by
    have h1 := h b (List.mem_cons_self ..)
    have ih := totN_int (bs := r) fun c hc => h c (List.mem_cons_of_mem _ hc)
    unfold totN at *
    rw [List.map_cons, List.map_cons, List.sum_cons, List.sum_cons, ih]
    omega
theorem St.bok {s : Nat → Nat} {p : Nat} {W : Int} {bs : List Bk} (st : St (tl s (p + 1)) W bs) : Bok s p bs := fun b hb => by
  obtain ⟨h1, h2, h3, h4, h5⟩ := st.ok b hb
  obtain ⟨j, hj, e⟩ := tl_mem.mp h1
  obtain ⟨b1, b2⟩ := b
  dsimp only at *
  subst e
  refine ⟨(b1 / ((s j : Nat) : Int)).toNat, j, by omega, ?_⟩
  have q : 0 ≤ b1 / ((s j : Nat) : Int) := Int.ediv_nonneg h3 (by omega)
  have e2 := Int.mul_ediv_add_emod b1 ((s j : Nat) : Int)
  rw [h4] at e2
  congr 1
  rw [Int.natCast_mul, Int.toNat_of_nonneg q, Int.mul_comm]
  omega
theorem rch_ge {l : Int} {bs : List Bk} {b : Bk} (pos : ∀ b ∈ bs, 0 < b.1 + b.2) (hb : b ∈ bs) (h : b.2 ≤ l) : b.1 + b.2 ≤ rch l bs := by
  unfold rch
  have m : b.1 + b.2 ∈ (bs.filter fun b => decide (b.2 ≤ l)).map fun b => b.1 + b.2 := List.mem_map.mpr ⟨b, List.mem_filter.mpr ⟨hb, decide_eq_true h⟩, rfl⟩
  rcases mxd_spec (l := (bs.filter fun b => decide (b.2 ≤ l)).map fun b => b.1 + b.2) (fun x hx => by
    obtain ⟨c, hc, rfl⟩ := List.mem_map.mp hx
    exact pos c (List.mem_filter.mp hc).1) with ⟨e, _⟩ | ⟨_, e⟩
  · rw [e] at m; cases m
  · exact e _ m
theorem rch_le {l u : Int} {bs : List Bk} (pos : ∀ b ∈ bs, 0 < b.1 + b.2) (u0 : 0 ≤ u) (h : ∀ b ∈ bs, b.2 ≤ l → b.1 + b.2 ≤ u) : 0 ≤ rch l bs ∧ rch l bs ≤ u := by
  unfold rch
  rcases mxd_spec (l := (bs.filter fun b => decide (b.2 ≤ l)).map fun b => b.1 + b.2) (fun x hx => by
    obtain ⟨c, hc, rfl⟩ := List.mem_map.mp hx
    exact pos c (List.mem_filter.mp hc).1) with ⟨_, e⟩ | ⟨m, _⟩
  · rw [e]; exact ⟨Int.le_refl _, u0⟩
  · obtain ⟨c, hc, e⟩ := List.mem_map.mp m
    obtain ⟨h1, h2⟩ := List.mem_filter.mp hc
    have hh := h c h1 (of_decide_eq_true h2)
    have pp := pos c h1
    rw [← e]
    exact ⟨by omega, hh⟩
/-- the reaches, as numbers -/
def Rho (s : Nat → Nat) (p : Nat) (bs : List Bk) (ρ : Nat → Nat) : Prop := ((tl s (p + 1)).map fun l => rch l bs) = tl ρ (p + 1)
theorem Rho.at_ {s ρ : Nat → Nat} {p j : Nat} {bs : List Bk} (h : Rho s p bs ρ) (hj : j ≤ p) : rch ((s j : Nat) : Int) bs = ((ρ j : Nat) : Int) := by
  have e : ((tl s (p + 1)).map fun l => rch l bs)[j]? = (tl ρ (p + 1))[j]? := by rw [h]
  rw [List.getElem?_map, tl_get (by omega), tl_get (by omega)] at e
  exact Option.some.inj e
theorem St.posE {C : List Int} {W : Int} {bs : List Bk} (st : St C W bs) : ∀ b ∈ bs, 0 < b.1 + b.2 := fun b hb => by
  obtain ⟨_, h2, h3, _⟩ := st.ok b hb
  omega
theorem Rho.ex {s : Nat → Nat} {p : Nat} {W : Int} {bs : List Bk} (st : St (tl s (p + 1)) W bs) : ∃ ρ, Rho s p bs ρ := by
  refine ⟨fun j => (rch ((s j : Nat) : Int) bs).toNat, ?_⟩
  unfold Rho tl
  rw [List.map_map]
  refine List.map_congr_left fun j _ => ?_
  show rch ((s j : Nat) : Int) bs = (((rch ((s j : Nat) : Int) bs).toNat : Nat) : Int)
  have h0 : 0 ≤ rch ((s j : Nat) : Int) bs := by
    unfold rch
    rcases mxd_spec (l := (bs.filter fun b => decide (b.2 ≤ ((s j : Nat) : Int))).map fun b => b.1 + b.2) (fun x hx => by
      obtain ⟨c, hc, rfl⟩ := List.mem_map.mp hx
      exact st.posE c (List.mem_filter.mp hc).1) with ⟨_, e⟩ | ⟨m, _⟩
    · rw [e]; exact Int.le_refl _
    · obtain ⟨c, hc, e⟩ := List.mem_map.mp m
      have := st.posE c (List.mem_filter.mp hc).1
      omega
  omega
theorem Rho.nil (s : Nat → Nat) (p : Nat) : Rho s p [] (fun _ => 0) := by
  unfold Rho tl
  rw [List.map_map]
  rfl
/-- where the lowest place lies, and why -/
structure LowP (z : Int) (bs : List Bk) (W x : Int) : Prop where
  mod : x % z = 0
  pos : 0 ≤ x
  fit : x + z ≤ W
  free : ∀ b ∈ bs, x + z ≤ b.1 ∨ b.1 + b.2 ≤ x
  full : ∀ k : Int, 0 ≤ k → k % z = 0 → k < x → ∃ b ∈ bs, b.1 < k + z ∧ k < b.1 + b.2
theorem lowp_of {C : List Int} {z W x : Int} {bs : List Bk} {r : List Int} (hz : 0 < z) (hW : 0 ≤ W) (st : St C W bs) (e : plf z 0 (bs ++ [(W, 0)]) = x :: r) : LowP z bs W x := by
  have mem := plf_mem (s := z) (W := W) hz bs 0 (fun b hb => st.bnd b hb) st.asc hW
  have inc := plf_inc (s := z) (W := W) hz bs 0 (fun b hb => st.bnd b hb) st.asc hW
  rw [e] at mem inc
  obtain ⟨m1, m2, m3, m4⟩ := (mem x).mp (List.mem_cons_self ..)
  refine ⟨m1, m2, m3, m4, fun k k0 km kx => ?_⟩
  have nin : ¬ k ∈ x :: r := fun h => by
    rcases List.mem_cons.mp h with z | z
    · omega
    · have := (List.pairwise_cons.mp inc).1 k z
      omega
  have nf : ¬ ∀ b ∈ bs, k + z ≤ b.1 ∨ b.1 + b.2 ≤ k := fun h => nin ((mem k).mpr ⟨km, k0, by omega, h⟩)
  exact Classical.byContradiction fun no => nf fun b hb => Classical.byContradiction fun h2 => no ⟨b, hb, by omega, by omega⟩
section
variable {s ρ : Nat → Nat} {p M : Nat} {W : Int} {bs : List Bk}
theorem St.rc (c : CH s (p + 1)) (st : St (tl s (p + 1)) W bs) (hρ : Rho s p bs ρ) : ∀ (a j : Nat), j ≤ p → (((a * s j : Nat) : Int), ((s j : Nat) : Int)) ∈ bs → a * s j + s j ≤ ρ j := fun a j hj hb => by
  have h := rch_ge st.posE hb (l := ((s j : Nat) : Int)) (Int.le_refl _)
  rw [hρ.at_ hj] at h
  dsimp only at h
  omega
/-- guarantee (c), one get: it ends within the outlook -/
theorem LowP.ends {i : Nat} {x : Int} (c : CH s (p + 1)) (hi : i ≤ p) (st : St (tl s (p + 1)) W bs) (hρ : Rho s p bs ρ) (lim : (bs.map fun b => b.2).sum + ((s i : Nat) : Int) ≤ M) (lp : LowP ((s i : Nat) : Int) bs W x) :
    ∃ n : Nat, x = ((n * s i : Nat) : Int) ∧ (n + 1) * s i ≤ bfn s ρ M i := by
  have S0 := c.pos (i := i) (by omega)
  have q : 0 ≤ x / ((s i : Nat) : Int) := Int.ediv_nonneg lp.pos (by omega)
  have e2 := Int.mul_ediv_add_emod x ((s i : Nat) : Int)
  rw [lp.mod] at e2
  have ex : x = (((x / ((s i : Nat) : Int)).toNat * s i : Nat) : Int) := by
    rw [Int.natCast_mul, Int.toNat_of_nonneg q, Int.mul_comm]
    omega
  refine ⟨_, ex, ?_⟩
  generalize (x / ((s i : Nat) : Int)).toNat = n at ex
  subst ex
  refine low_end c hi st.bok (st.rc c hρ) (fun k hk => ?_) ?_
  · have kn : k * s i < n * s i := Nat.mul_lt_mul_of_pos_right hk S0
    obtain ⟨b, hb, o1, o2⟩ := lp.full ((k * s i : Nat) : Int) (by omega) (by rw [Int.natCast_mul]; exact Int.mul_emod_left _ _) (by omega)
    refine ⟨b, hb, ?_, o2⟩
    rw [Nat.add_mul, Nat.one_mul]
    omega
  · rw [totN_int fun b hb => by have := (st.ok b hb).2.1; omega] at lim
    omega
/-- guarantee (a), one get: a heap as far as the outlook has a place -/
theorem has_place {i : Nat} (c : CH s (p + 1)) (hi : i ≤ p) (W0 : 0 ≤ W) (st : St (tl s (p + 1)) W bs) (hρ : Rho s p bs ρ) (lim : (bs.map fun b => b.2).sum + ((s i : Nat) : Int) ≤ M) (room : ((bfn s ρ M p : Nat) : Int) ≤ W) :
    ∃ x r, plf ((s i : Nat) : Int) 0 (bs ++ [(W, 0)]) = x :: r := by
  have S0 := c.pos (i := i) (by omega)
  have hz : (0 : Int) < ((s i : Nat) : Int) := by omega
  cases e : plf ((s i : Nat) : Int) 0 (bs ++ [(W, 0)]) with
  | cons x r => exact ⟨x, r, rfl⟩
  | nil =>
    exfalso
    have mem := plf_mem (s := ((s i : Nat) : Int)) (W := W) hz bs 0 (fun b hb => st.bnd b hb) st.asc W0
    rw [e] at mem
    have h := low_end (n := (W / ((s i : Nat) : Int)).toNat) (M := M) c hi st.bok (st.rc c hρ) (fun k hk => ?_) ?_
    · have h2 := bfn_mono1 (s := s) (ρ := ρ) (M := M) c hi (Nat.le_refl p)
      have q : 0 ≤ W / ((s i : Nat) : Int) := Int.ediv_nonneg W0 (by omega)
      have l1 := Int.lt_ediv_add_one_mul_self W hz
      have e1 : (((W / ((s i : Nat) : Int)).toNat + 1) * s i : Nat) ≤ bfn s ρ M p := Nat.le_trans h h2
      have e2 : ((((W / ((s i : Nat) : Int)).toNat + 1) * s i : Nat) : Int) = (W / ((s i : Nat) : Int) + 1) * ((s i : Nat) : Int) := by
        rw [Int.natCast_mul, Int.natCast_add, Int.toNat_of_nonneg q]
        rfl
      have e3 : ((((W / ((s i : Nat) : Int)).toNat + 1) * s i : Nat) : Int) ≤ ((bfn s ρ M p : Nat) : Int) := Int.ofNat_le.mpr e1
      rw [e2] at e3
      omega
    · have q : 0 ≤ W / ((s i : Nat) : Int) := Int.ediv_nonneg W0 (by omega)
      have l1 := Int.ediv_mul_le W (b := ((s i : Nat) : Int)) (by omega)
      have k1 : (((k + 1) * s i : Nat) : Int) ≤ W := by
        have : (((k + 1 : Nat) : Int)) ≤ W / ((s i : Nat) : Int) := by omega
        have := Int.mul_le_mul_of_nonneg_right this (Int.le_of_lt hz)
        rw [Int.natCast_mul]
        omega
      have nf : ¬ ∀ b ∈ bs, ((k * s i : Nat) : Int) + ((s i : Nat) : Int) ≤ b.1 ∨ b.1 + b.2 ≤ ((k * s i : Nat) : Int) := fun h => by
        have := (mem ((k * s i : Nat) : Int)).mpr ⟨by rw [Int.natCast_mul]; exact Int.mul_emod_left _ _, by omega, by rw [Nat.add_mul, Nat.one_mul] at k1; omega, h⟩
        cases this
      exact Classical.byContradiction fun no => nf fun b hb => Classical.byContradiction fun h2 => no ⟨b, hb, by rw [Nat.add_mul, Nat.one_mul]; omega, by omega⟩
    · rw [totN_int fun b hb => by have := (st.ok b hb).2.1; omega] at lim
      omega
theorem get_st {i : Nat} {x : Int} {cs : List Bk} (c : CH s (p + 1)) (hi : i ≤ p) (st : St (tl s (p + 1)) W bs) (lp : LowP ((s i : Nat) : Int) bs W x) (pm : cs.Perm (bs ++ [(x, ((s i : Nat) : Int))])) (srt : cs.Pairwise fun x y => SrtO.lexB y x = false) : St (tl s (p + 1)) W cs := by
  have S0 := c.pos (i := i) (by omega)
  refine sorted_st (fun b hb => ?_) ?_ pm srt
  · rcases List.mem_append.mp hb with z | z
    · exact st.ok b z
    · rw [List.mem_singleton.mp z]
      exact ⟨tl_mem.mpr ⟨i, by omega, rfl⟩, by dsimp only; omega, lp.pos, lp.mod, lp.fit⟩
  · refine List.pairwise_append.mpr ⟨st.asc.imp fun h => .inl h, List.pairwise_singleton _ _, fun b hb d hd => ?_⟩
    rw [List.mem_singleton.mp hd]
    rcases lp.free b hb with h | h
    · exact .inr h
    · exact .inl h
/-- guarantee (c): no number of the outlook rises by a get -/
theorem get_outlook {m i n : Nat} {x : Int} {cs : List Bk} {ρ' : Nat → Nat} (cn : Cn s p m) (hi : i ≤ p) (st : St (tl s (p + 1)) W bs) (hρ : Rho s p bs ρ) (st' : St (tl s (p + 1)) W cs) (hρ' : Rho s p cs ρ') (ex : x = ((n * s i : Nat) : Int)) (en : (n + 1) * s i ≤ bfn s ρ M i) (pm : cs.Perm (bs ++ [(x, ((s i : Nat) : Int))])) :
    ∀ j, j ≤ p → bfn s ρ' M j ≤ bfn s ρ M j := fun j hj => by
  refine bfn_within (m := p + 1) cn.ch (fun j hj => ?_) j (by omega)
  have h := rch_le (l := ((s j : Nat) : Int)) (u := ((bfn s ρ M j : Nat) : Int)) st'.posE (by omega) (fun b hb hl => ?_)
  · rw [hρ'.at_ (by omega)] at h
    omega
  · rcases List.mem_append.mp (pm.mem_iff.mp hb) with z | z
    · have h1 := rch_ge st.posE z hl
      rw [hρ.at_ (by omega)] at h1
      have : ρ j ≤ bfn s ρ M j := bfn_ge
      omega
    · rw [List.mem_singleton.mp z] at hl ⊢
      dsimp only at hl ⊢
      have ij : i ≤ j := by
        rcases Nat.lt_or_ge j i with z2 | z2
        · have : s j < s i := by
            have mono := cn.ch.mono (i := j) (j := i - 1) (by omega) (by omega)
            obtain ⟨r, r2, _, er⟩ := cn.two (i - 1) (by omega)
            have e1 : i - 1 + 1 = i := by omega
            rw [e1] at er
            have pz := cn.ch.pos (i := i - 1) (by omega)
            have : s (i - 1) * 2 ≤ s (i - 1) * r := Nat.mul_le_mul_left _ r2
            omega
          omega
        · exact z2
      have h2 := bfn_mono1 (s := s) (ρ := ρ) (M := M) cn.ch ij (show j ≤ p by omega)
      rw [ex]
      rw [Nat.add_mul, Nat.one_mul] at en
      omega
theorem St.filter {C : List Int} (q : Bk → Bool) (st : St C W bs) : St C W (bs.filter q) := ⟨fun b hb => st.ok b (List.mem_filter.mp hb).1, st.asc.sublist List.filter_sublist⟩
theorem free_outlook {q : Bk → Bool} {ρ' : Nat → Nat} (c : CH s (p + 1)) (st : St (tl s (p + 1)) W bs) (hρ : Rho s p bs ρ) (hρ' : Rho s p (bs.filter q) ρ') : ∀ j, j ≤ p → bfn s ρ' M j ≤ bfn s ρ M j := fun j hj => by
  refine bfn_mono (m := p + 1) c (fun j hj => ?_) (Nat.le_refl _) j (by omega)
  have h := rch_le (l := ((s j : Nat) : Int)) (u := ((ρ j : Nat) : Int)) (st.filter q).posE (by omega) (fun b hb hl => ?_)
  · rw [hρ'.at_ (by omega)] at h
    omega
  · have h1 := rch_ge st.posE (List.mem_filter.mp hb).1 hl
    rw [hρ.at_ (by omega)] at h1
    exact h1
theorem sum_filter {C : List Int} (q : Bk → Bool) (st : St C W bs) : ((bs.filter q).map fun b => b.2).sum ≤ (bs.map fun b => b.2).sum := by
  have h : ∀ b ∈ bs, 0 ≤ b.2 := fun b hb => by have := (st.ok b hb).2.1; omega
  clear st
  induction bs with
  | nil => exact Int.le_refl _
  | cons b r ih =>
    have ih := ih fun c hc => h c (List.mem_cons_of_mem _ hc)
    have := h b (List.mem_cons_self ..)
    by_cases e : q b = true
    · rw [List.filter_cons_of_pos e, List.map_cons, List.map_cons, List.sum_cons, List.sum_cons]
      omega
    · rw [List.filter_cons_of_neg e, List.map_cons, List.sum_cons]
      omega
theorem sum_perm {l m : List Bk} (h : l.Perm m) : (l.map fun b => b.2).sum = (m.map fun b => b.2).sum := by
  have := h.map (fun b : Bk => b.2)
  generalize l.map (fun b : Bk => b.2) = a at this
  generalize m.map (fun b : Bk => b.2) = b at this
  induction this with
  | nil => rfl
  | cons x _ ih => rw [List.sum_cons, List.sum_cons, ih]
  | swap x y l => rw [List.sum_cons, List.sum_cons, List.sum_cons, List.sum_cons]; omega
  | trans _ _ a b => rw [a, b]
end
end Ph

namespace Ph
open PySem PySem.Spec PyProof.Rows L2
section
variable {X : Cx}
/-! ### block not in blocks -/
def rNotInL (K : PySem.W.Frag) : R2 := fun x y H Q => ∃ (b : Bk) (a : Addr) (ys : List V) (cs : List Bk), BkAt H x b ∧ y = .ref a ∧ SqL K H a ys ∧ BL H ys cs ∧ Q (.bl (!decide (b ∈ cs))) H
theorem op_notInL (hu : X.A.units + 64 < cLine) : OpR X (compareOp .NotIn) (rNotInL X.K) := by
  intro pins s σ H x y v u Q I rx ry h
  obtain ⟨b, a, ys, cs, hb, rfl, hl, bl, q⟩ := h
  have dx : Dp X.K H x (bD b) := by
    obtain ⟨t, rfl, e⟩ := hb
    exact .tup (.inl (.inl e)) (.cons (.int _) (.cons (.int _) .nil))
  obtain ⟨_, r1⟩ := Dp.reads I (bD b) x v dx rx
  obtain ⟨_, r2⟩ := Dp.reads I (.list (cs.map bD)) (.ref a) u (.lst hl bl.dp) ry
  refine SeqAt.notIn_list_reads r2 r1 (bDs_lay cs) (bD_lay b) ?_ ⟨.bl _, H, I, rfl, ?_⟩
  · have := bDs_depth cs
    omega
  · rw [bDs_any]
    exact q
end
theorem valV_mem {kvs : List (Key × V)} {k : Key} {v : V} (h : valV kvs k = some v) : ∃ kv ∈ kvs, kv.2 = v := by
  unfold valV at h
  obtain ⟨kv, h1, h2⟩ := Option.map_eq_some_iff.mp h
  exact ⟨kv, List.mem_of_find?_eq_some h1, h2⟩
theorem putK_mem {kvs : List (Key × V)} {k : Key} {v : V} {kv : Key × V} (h : kv ∈ putK kvs k v) : kv ∈ kvs ∨ kv.2 = v := by
  unfold putK at h
  split at h
  · obtain ⟨kv2, h1, h2⟩ := List.mem_map.mp h
    split at h2
    · rw [← h2]; exact .inr rfl
    · rw [← h2]; exact .inl h1
  · rcases List.mem_append.mp h with z | z
    · exact .inl z
    · rw [List.mem_singleton.mp z]; exact .inr rfl
theorem putK_len {kvs : List (Key × V)} {k : Key} {v : V} : (putK kvs k v).length ≤ kvs.length + 1 := by
  unfold putK
  split
  · rw [List.length_map]; omega
  · rw [List.length_append]; exact Nat.le_refl _
/-- the items of a list that stay by a test, and their blocks -/
theorem BL.sub {H : Hp} {xs : List V} {bs : List Bk} (h : BL H xs bs) (q : Nat → Bool) : ∀ n, n ≤ xs.length → ∃ ds, Paired (fun i d => bs[i]? = some d) ((List.range n).filter q) ds ∧ ds.Sublist (bs.take n)
  | 0, _ => ⟨[], .nil, List.Sublist.slnil⟩
  | n + 1, hn => by
    obtain ⟨ds, h1, h2⟩ := BL.sub h q n (by omega)
    obtain ⟨b, hb, _⟩ := BL.get h (List.getElem?_eq_getElem (show n < xs.length by omega))
    have et : bs.take (n + 1) = bs.take n ++ [b] := by rw [List.take_add_one, hb]; rfl
    rw [List.range_succ, List.filter_append, et]
    by_cases e : q n = true
    · rw [List.filter_cons_of_pos e]
      exact ⟨ds ++ [b], Paired.snoc h1 hb, h2.append (List.Sublist.refl _)⟩
    · rw [List.filter_cons_of_neg e, List.filter_nil, List.append_nil]
      exact ⟨ds, h1, h2.trans (List.sublist_append_left _ _)⟩
theorem paired_two {α β γ : Type} {F : α → β → Prop} {G : α → γ → Prop} {R : β → γ → Prop} (h : ∀ a b c, F a b → G a c → R b c) : ∀ {l : List α} {m : List β} {n : List γ}, Paired F l m → Paired G l n → Paired R m n
  | _, _, _, .nil, .nil => .nil
  | _, _, _, .cons x r, .cons y q => .cons (h _ _ _ x y) (paired_two h r q)
end Ph

namespace Ph
open PySem PySem.Spec PyProof.Rows L2
/-! ### a written tuple, known to have no dict of its own -/
def tTupF (t : TA) : TE := fun σ H Q => t σ H fun xs H1 => xs.length ≤ sizeLine ∧ ∀ (p : Addr) (o : Obj), H1 p = none → o.dict = none → Q (.ref p) (upd H1 p (.frz o (.tup xs)))
theorem pe_tupF {X : Cx} {es : List Expr} {t : TA} {x1 : Nat} {pos : Pos} (h : PA X es t) : PE X (.Tuple es x1 pos) (tTupF t) := by
  refine ⟨fun pins s σ H Q I hq => ?_⟩
  refine wpAny_Tuple_spliced (thn (h.run pos pins s σ H _ I hq) fun us s1 ⟨xs, H1, I1, r, z, q⟩ => ⟨by rw [← r.length]; exact z, ?_⟩)
  have hf : H1 s1.heap.objs.size = none := I1.hok.fresh (Nat.le_refl _)
  refine ⟨.ref s1.heap.objs.size, _, I1.laid (t' := s1.toks) (o := .frz { cls := .type "tuple", data := .seq us.toArray } (.tup xs)) (fun b u e => Heap.get?_push_of_some _ e) (Nat.le_refl _) ⟨Heap.get?_push_size _ rfl, z, us, r, IsTup.new _ _⟩, rfl, q _ _ hf rfl⟩
end Ph

namespace Ph
open PySem PySem.Spec PyProof.Rows L2
/-! ### min of a list of pairs of ints -/
section
variable {X : Cx}
def rMinP (K : PySem.W.Frag) : List V → Hp → VK → Prop := fun vs H Q => ∃ (a : Addr) (xs : List V) (k : V → Int × Int), vs = [V.ref a] ∧ SqL K H a xs ∧ (∀ x ∈ xs, ∃ t, x = V.ref t ∧ H t = some (.tup [.int (k x).1, .int (k x).2])) ∧ 0 < xs.length ∧
  ∀ x ∈ xs, (∀ y ∈ xs, SrtO.lexB (k y) (k x) = false) → Q x H
theorem minOf_spec : ∀ (x : Int × Int) (xs : List (Int × Int)), PySem.W.minOf x xs ∈ x :: xs ∧ ∀ y ∈ x :: xs, SrtO.lexB y (PySem.W.minOf x xs) = false
  | x, [] => ⟨List.mem_singleton.mpr rfl, fun y hy => by
      rw [List.mem_singleton.mp hy]
      exact SrtO.lexB_no.mpr (by show ¬ (x.1 < x.1 ∨ (x.1 = x.1 ∧ x.2 < x.2)); omega)⟩
  | x, z :: zs => by
    have e : PySem.W.minOf x (z :: zs) = PySem.W.minOf (if PySem.W.DatumOrd.lt z x = true then z else x) zs := rfl
    rw [e]
    have l : PySem.W.DatumOrd.lt z x = SrtO.lexB z x := rfl
    rw [l]
    by_cases c : SrtO.lexB z x = true
    · rw [if_pos c]
      obtain ⟨h1, h2⟩ := minOf_spec z zs
      refine ⟨List.mem_cons_of_mem _ h1, fun y hy => ?_⟩
      rcases List.mem_cons.mp hy with r | r
      · rw [r]
        have a := SrtO.lexB_iff.mp c
        have b := SrtO.lexB_no.mp (h2 z (List.mem_cons_self ..))
        exact SrtO.lexB_no.mpr (by omega)
      · exact h2 y r
    · rw [if_neg c]
      obtain ⟨h1, h2⟩ := minOf_spec x zs
      refine ⟨?_, fun y hy => ?_⟩
      · rcases List.mem_cons.mp h1 with r | r
        · rw [r]; exact List.mem_cons_self ..
        · exact List.mem_cons_of_mem _ (List.mem_cons_of_mem _ r)
      · rcases List.mem_cons.mp hy with r | r
        · rw [r]; exact h2 x (List.mem_cons_self ..)
        · rcases List.mem_cons.mp r with r | r
          · rw [r]
            have a := SrtO.lexB_no.mp (by simpa using c : SrtO.lexB z x = false)
            have b := SrtO.lexB_no.mp (h2 x (List.mem_cons_self ..))
            exact SrtO.lexB_no.mpr (by omega)
          · exact h2 y (List.mem_cons_of_mem _ r)
theorem cr_minP (hc : X.calm = true) (hu : X.A.units + 3 < cLine) : CallR X (.builtin "min") (rMinP X.K) := by
  intro pins s σ H vs us Q I r h
  obtain ⟨a, xs, k, rfl, hs, hx, h0, q⟩ := h
  obtain ⟨its, rv, pl, hz⟩ := I.list hs
  rw [Vals.ref1 r]
  cases xs with
  | nil => exact absurd h0 (by decide)
  | cons x0 xr =>
    obtain ⟨as, rd⟩ := Dp.readsAll I _ _ its (dp_prs _ hx) rv
    have hd : PyData.depthAll ((x0 :: xr).map fun x => bD (k x)) ≤ 1 := by
      have := bDs_depth ((x0 :: xr).map k)
      rw [List.map_map] at this
      exact this
    have ha : PySem.W.AlikeAll ((x0 :: xr).map fun x => bD (k x)) := by
      have := PySem.W.alikeAll_datum ((x0 :: xr).map k)
      rw [List.map_map] at this
      exact this
    refine PySem.W.min_list_data (x := bD (k x0)) (xs := xr.map fun x => bD (k x)) (I.ok.hd hc) pl.isList (by simpa using rd) ha (by
      have e : PyData.depthAll (bD (k x0) :: xr.map fun x => bD (k x)) ≤ 1 := hd
      omega) (fun i v g tk bs hv rr kp => ?_)
    have em : PySem.W.minD (bD (k x0)) (xr.map fun x => bD (k x)) = bD (PySem.W.minOf (k x0) (xr.map k)) := by
      have := PySem.W.minD_map (k x0) (xr.map k)
      rw [List.map_map] at this
      exact this
    rw [em] at rr
    obtain ⟨hm, hb⟩ := minOf_spec (k x0) (xr.map k)
    have hv : its[i]? = some v := by simpa using hv
    obtain ⟨x, hxi, rx⟩ : ∃ x, (x0 :: xr)[i]? = some x ∧ RelV x v := by
      have hil : i < its.length := (List.getElem?_eq_some_iff.mp hv).1
      have hxl : i < (x0 :: xr).length := by rw [rv.length]; exact hil
      obtain ⟨u, e1, e2⟩ := rv.get (List.getElem?_eq_getElem hxl)
      rw [hv] at e1
      cases e1
      exact ⟨_, List.getElem?_eq_getElem hxl, e2⟩
    have mx := List.mem_of_getElem? hxi
    obtain ⟨t, et, ht⟩ := hx x mx
    have dx : Dp X.K H x (bD (k x)) := by
      subst et
      exact .tup (.inl (.inl ht)) (.cons (.int _) (.cons (.int _) .nil))
    obtain ⟨as2, r2⟩ := Dp.reads I _ _ _ dx rx
    have e := (Reads.unique (Reads.keeps kp r2) _ _ rr).1
    have e3 : k x = PySem.W.minOf (k x0) (xr.map k) := by
      unfold bD at e
      injection e with e
      injection e with e1 e
      injection e with e2 e
      injection e1 with e1
      injection e2 with e2
      exact Prod.ext e1 e2
    refine ⟨x, H, I.kept kp, rx, q x mx fun y hy => ?_⟩
    rw [e3]
    refine hb (k y) ?_
    rcases List.mem_cons.mp hy with z | z
    · rw [z]; exact List.mem_cons_self ..
    · exact List.mem_cons_of_mem _ (List.mem_map.mpr ⟨y, z, rfl⟩)
/-! ### sorted of data of any kind that compare: the same items -/
theorem each_of {α : Type} {R : Value → α → Prop} : ∀ {vs : List Value} {bs : List α}, Paired (fun b v => R v b) bs vs → PySem.W.EachIs R vs bs
  | _, _, .nil => .nil
  | _, _, .cons h t => .cons h (each_of t)
theorem of_each {α : Type} {R : Value → α → Prop} : ∀ {vs : List Value} {bs : List α}, PySem.W.EachIs R vs bs → Paired (fun b v => R v b) bs vs
  | _, _, .nil => .nil
  | _, _, .cons h t => .cons h (of_each t)
def rSortedD (K : PySem.W.Frag) : List V → Hp → VK → Prop := fun vs H Q => ∃ (a : Addr) (xs : List V) (D : V → PyData), vs = [V.ref a] ∧ SqL K H a xs ∧ (∀ x ∈ xs, Dp K H x (D x)) ∧ PySem.W.AllAlike (xs.map D) ∧ PySem.W.Sortable (xs.map D) ∧ (∀ x ∈ xs, (D x).depth ≤ 40) ∧
  ∀ (ys : List V) (p : Addr), ys.Perm xs → ys = xs.mergeSort (PySem.W.dataLe false D) → H p = none → Q (.ref p) (upd H p (.lst ys))
theorem cr_sortedD (hu : X.A.units + 64 < cLine) : CallR X (.builtin "sorted") (rSortedD X.K) := by
  intro pins s σ H vs us Q I r h
  obtain ⟨a, xs, D, rfl, hs, hd, al, sb, dp, q⟩ := h
  obtain ⟨its, rv, pl, hz⟩ := I.list hs
  rw [Vals.ref1 r]
  have rd : ∀ {xs : List V} {its : List Value}, Vals xs its → (∀ x ∈ xs, Dp X.K H x (D x)) → Paired (fun b v => ∃ as, Reads s.heap v (D b) as) xs its := fun {xs its} rv => by
    induction rv with
    | nil => exact fun _ => .nil
    | cons r t ih => exact fun hd => .cons (Dp.reads I _ _ _ (hd _ (List.mem_cons_self ..)) r) (ih fun x hx => hd x (List.mem_cons_of_mem _ hx))
  refine PySem.W.sorted_data (R := fun v x => RelV x v) (enc := D) (bs := xs) (vs := its) pl.isList (each_of rv) (each_of (rd rv hd)) al sb (by have := rv.length; omega) (fun b hb => by have := dp b hb; omega) fun out len e => ?_
  have rv2 : Vals (xs.mergeSort (PySem.W.dataLe false D)) out := of_each e
  obtain ⟨c, hc⟩ := PyProof.Rows.sortedAll_at s.heap its out.toArray
  have hz2 : s.heap.objs.size ≤ s.heap.objs.size + 1 := Nat.le_succ _
  have hn : H (s.heap.objs.size + 1) = none := I.hok.fresh hz2
  have hl2 : (xs.mergeSort (PySem.W.dataLe false D)).length ≤ sizeLine := by rw [List.length_mergeSort]; have := rv.length; omega
  exact ⟨.ref (s.heap.objs.size + 1), _, I.laid (t' := s.toks) (o := .lst (xs.mergeSort (PySem.W.dataLe false D))) (fun _ _ => PyProof.Rows.sortedAll_old) hz2 ⟨hl2, out, c, rv2, hc⟩, rfl, q _ _ (List.mergeSort_perm ..) rfl hn⟩
/-! ### min of data of any kind that compare: one of the items -/
def rMinW (K : PySem.W.Frag) : List V → Hp → VK → Prop := fun vs H Q => ∃ (a : Addr) (xs : List V) (D : V → PyData), vs = [V.ref a] ∧ SqL K H a xs ∧ (∀ x ∈ xs, Dp K H x (D x)) ∧ PySem.W.AlikeAll (xs.map D) ∧ PyData.depthAll (xs.map D) ≤ 40 ∧ 0 < xs.length ∧ ∀ x ∈ xs, Q x H
theorem dpl_of {K : PySem.W.Frag} {H : Hp} {D : V → PyData} : ∀ xs : List V, (∀ x ∈ xs, Dp K H x (D x)) → DpAll K H xs (xs.map D)
  | [], _ => .nil
  | x :: r, h => .cons (h x (List.mem_cons_self ..)) (dpl_of r fun y hy => h y (List.mem_cons_of_mem _ hy))
theorem cr_minW (hc : X.calm = true) (hu : X.A.units + 64 < cLine) : CallR X (.builtin "min") (rMinW X.K) := by
  intro pins s σ H vs us Q I r h
  obtain ⟨a, xs, D, rfl, hs, hd, al, dp, h0, q⟩ := h
  obtain ⟨its, rv, pl, _⟩ := I.list hs
  rw [Vals.ref1 r]
  cases xs with
  | nil => exact absurd h0 (by decide)
  | cons x0 xr =>
    obtain ⟨as, rd⟩ := Dp.readsAll I _ _ its (dpl_of _ hd) rv
    refine PySem.W.min_list_data (x := D x0) (xs := xr.map D) (I.ok.hd hc) pl.isList (by simpa using rd) al (by
      have e : PyData.depthAll (D x0 :: xr.map D) ≤ 40 := dp
      omega) (fun i v g tk bs hv rr kp => ?_)
    have hv : its[i]? = some v := by simpa using hv
    have hil : i < its.length := (List.getElem?_eq_some_iff.mp hv).1
    have hxl : i < (x0 :: xr).length := by rw [rv.length]; exact hil
    obtain ⟨u, e1, e2⟩ := rv.get (List.getElem?_eq_getElem hxl)
    rw [hv] at e1
    cases e1
    exact ⟨_, H, I.kept kp, e2, q _ (List.getElem_mem hxl)⟩
end
end Ph

namespace Ph
open PySem PySem.Spec PyProof.Rows L2
section
variable {X : Cx}
/-! ### repr of data or of None -/
def rRpN (K : PySem.W.Frag) : List V → Hp → VK → Prop := fun xs H Q => (xs = [.non] ∧ Q (.str "None") H) ∨ rRp K xs H Q
theorem call_rpN (hgu : X.A.guards = some []) (hu : X.A.units + 64 < cLine) : CallR X (.builtin "repr") (rRpN X.K) := by
  intro pins s σ H xs us Q I r h
  rcases h with ⟨rfl, q⟩ | h
  · obtain ⟨u, rfl, ru⟩ := vals1 r
    cases ru
    exact P.repr_of_none ⟨.str _, H, I.tok _, ⟨_, rfl⟩, q⟩
  · exact call_rp hgu hu pins s σ H xs us Q I r h
end
/-! ### lists of blocks, and lists of such -/
def lD (bs : List (Int × Int)) : PyData := .list (bs.map bD)
theorem lD_lay (zs : List (Int × Int)) : (lD zs).canLay0 = true := by unfold lD; simp only [PyData.canLay0]; exact bDs_lay zs
theorem lD_depth (zs : List (Int × Int)) : (lD zs).depth ≤ 2 := by
  have h1 := bDs_depth zs
  unfold lD
  simp only [PyData.depth]
  omega
theorem lD_shaped (zs : List (Int × Int)) : SeqAt.shaped (lD zs) = true := by
  have h1 := lD_depth zs
  show ((lD zs).canLay0 && decide ((lD zs).depth ≤ 64)) = true
  rw [lD_lay, decide_eq_true (by omega)]
  rfl
theorem lDs_lay : ∀ zs : List (List (Int × Int)), PyData.canLayAll0 (zs.map lD) = true
  | [] => by simp [PyData.canLayAll0]
  | z :: zs => by simp only [List.map_cons, PyData.canLayAll0, lD_lay, lDs_lay zs, Bool.and_self]
theorem lDs_depth : ∀ zs : List (List (Int × Int)), PyData.depthAll (zs.map lD) ≤ 2
  | [] => by simp [PyData.depthAll]
  | z :: zs => by
    have h1 := lDs_depth zs
    have h2 := lD_depth z
    simp only [List.map_cons, PyData.depthAll]
    omega
theorem lDs_shaped (zs : List (List (Int × Int))) : SeqAt.shaped (.list (zs.map lD)) = true := by
  have h1 := lDs_depth zs
  have h2 : PyData.depth (.list (zs.map lD)) ≤ 64 := by simp only [PyData.depth]; omega
  have h3 : PyData.canLay0 (.list (zs.map lD)) = true := by simp only [PyData.canLay0]; exact lDs_lay zs
  show (PyData.canLay0 (.list (zs.map lD)) && decide (PyData.depth (.list (zs.map lD)) ≤ 64)) = true
  rw [h3, decide_eq_true h2]
  rfl
theorem lD_nil (zs : List (Int × Int)) : PyData.eqv (lD zs) (lD []) = decide (zs = []) := by
  cases zs with
  | nil => simp [lD, PyData.eqv, PyData.eqvAll]
  | cons z zs => simp [lD, PyData.eqv, PyData.eqvAll]
theorem lDs_any (zs : List (List (Int × Int))) : ((zs.map lD).any fun z => PyData.eqv z (lD [])) = decide ([] ∈ zs) := by
  induction zs with
  | nil => simp
  | cons z zs ih =>
    rw [List.map_cons, List.any_cons, ih, lD_nil, Bool.eq_iff_iff, Bool.or_eq_true, decide_eq_true_iff, decide_eq_true_iff, decide_eq_true_iff, List.mem_cons]
    constructor
    · rintro (h | h)
      · exact .inl h.symm
      · exact .inr h
    · rintro (h | h)
      · exact .inl h.symm
      · exact .inr h
end Ph

set_option maxHeartbeats 4000000
/-! PhErr: own errors: isinstance of a caught error that may have a dict, by one class or a tuple of classes; a class called without arguments. -/
namespace Ph
open PySem PySem.Spec PyProof.Rows L2
/-- the dict of a caught error: none, or one that is told -/
def DictK (H : Hp) (d : Option Addr) : Prop := d = none ∨ ∃ dd fs, d = some dd ∧ H dd = some (.xd fs)
section
variable {X : Cx}
theorem inst_of {pins : List (Addr × Obj)} {σ : L2.St} {H : Hp} {s : Shared} {a D : Addr} {d : Option Addr} {oe : Obj} (I : Inv X pins σ H s) (hget : s.heap.get? a = some oe) (hz : Zc (.ref D) d oe) (hf : ∃ vs, oe.data = .fields vs) (k : DictK H d) :
    ∃ od, PySem.W.InstAt s.heap a oe D od := by
  obtain ⟨vs, hv⟩ := hf
  have no : PySem.W.notCls oe = true := by
    unfold PySem.W.notCls
    rw [hv]
  rcases k with rfl | ⟨dd, fs, rfl, e⟩
  · exact ⟨none, hget, hz.1, no, by rw [hz.2]; trivial⟩
  · have hx : ObjOk X.prog X.w H s.heap dd (.xd fs) := I.hok dd _ e
    obtain ⟨mA, hns, _⟩ := hx
    obtain ⟨od, ho, _⟩ := lookIn_ns hns
    exact ⟨some od, hget, hz.1, no, by rw [hz.2]; exact ho⟩
/-- isinstance(e, c): e at a, of the class cls, with the dict d -/
def rIsX (K : PySem.W.Frag) (a : Addr) (cls : Value) (d : Option Addr) : List V → Hp → VK → Prop := fun xs H Q => ∃ (D : Addr) (c : V) (cv : Value) (b : Bool), xs = [.ref a, c] ∧ cls = .ref D ∧ ExcC K D ∧ DictK H d ∧ (∀ u, RelV c u → u = cv) ∧ PySem.W.kitOne K (.ref D) cv = some b ∧ Q (.bl b) H
theorem call_isX {a : Addr} {oe : Obj} {cls : Value} {d : Option Addr} {pn : List (Addr × Obj)} (hz : Zc cls d oe) (hf : ∃ vs, oe.data = .fields vs) : CallR (X.suite a ((a, oe) :: pn)) (.builtin "isinstance") (rIsX X.K a cls d) := by
  intro pins s σ H xs us Q I r h
  obtain ⟨D, c, cv, b, rfl, rfl, C, k, hcv, e, q⟩ := h
  obtain ⟨ua, uc, rfl, ra, rc⟩ : ∃ ua uc, us = [ua, uc] ∧ RelV (.ref a) ua ∧ RelV c uc := by
    cases r with
    | cons r1 r2 => cases r2 with
      | cons r3 r4 =>
        cases r4
        exact ⟨_, _, rfl, r1, r3⟩
  obtain rfl : ua = Value.ref a := ra
  obtain rfl := hcv _ rc
  obtain ⟨hget, _⟩ := I.pin (a, oe) (List.mem_append.mpr (.inl List.mem_cons_self))
  obtain ⟨od, J⟩ := inst_of I hget hz hf k
  have cl : (PySem.W.clsIn X.K D).isSome = true := by
    obtain ⟨cd, hc, _⟩ := PySem.W.any_some C.hd
    rw [hc]
    rfl
  exact PySem.W.kia_one (PySem.W.kitx_exc (od := od) cl C.hg C.hk C.hs C.ha C.hn C.ht C.hm) I.kIn J e (fun z => nomatch z) fun tk => ⟨.bl b, H, I.kept (t' := tk) fun _ _ z => z, rfl, q⟩
/-- isinstance(e, (c, ..)) -/
def rIsXt (K : PySem.W.Frag) (a : Addr) (cls : Value) (d : Option Addr) : List V → Hp → VK → Prop := fun xs H Q => ∃ (D t : Addr) (cs : List V) (cvs : List Value) (b : Bool), xs = [.ref a, .ref t] ∧ cls = .ref D ∧ ExcC K D ∧ DictK H d ∧ H t = some (.tup cs) ∧
  (∀ us, Vals cs us → us = cvs) ∧ PySem.W.kitAny K (.ref D) cvs = some b ∧ Q (.bl b) H
theorem call_isXt {a : Addr} {oe : Obj} {cls : Value} {d : Option Addr} {pn : List (Addr × Obj)} (hz : Zc cls d oe) (hf : ∃ vs, oe.data = .fields vs) : CallR (X.suite a ((a, oe) :: pn)) (.builtin "isinstance") (rIsXt X.K a cls d) := by
  intro pins s σ H xs us Q I r h
  obtain ⟨D, t, cs, cvs, b, rfl, rfl, C, k, ht, hcv, e, q⟩ := h
  obtain ⟨ua, uc, rfl, ra, rc⟩ : ∃ ua uc, us = [ua, uc] ∧ RelV (.ref a) ua ∧ RelV (.ref t) uc := by
    cases r with
    | cons r1 r2 => cases r2 with
      | cons r3 r4 =>
        cases r4
        exact ⟨_, _, rfl, r1, r3⟩
  obtain rfl : ua = Value.ref a := ra
  obtain rfl : uc = Value.ref t := rc
  obtain ⟨hget, _⟩ := I.pin (a, oe) (List.mem_append.mpr (.inl List.mem_cons_self))
  obtain ⟨od, J⟩ := inst_of I hget hz hf k
  have cl : (PySem.W.clsIn X.K D).isSome = true := by
    obtain ⟨cd, hc, _⟩ := PySem.W.any_some C.hd
    rw [hc]
    rfl
  have hx : ObjOk X.prog X.w H s.heap t (.tup cs) := I.hok t _ ht
  obtain ⟨_, its, rv, o, ho, hc, n, hdat⟩ := hx
  obtain rfl := hcv _ rv
  obtain ⟨oc, odd, oda, osl⟩ := o
  dsimp only at hc hdat
  subst hc hdat
  exact PySem.W.kia_tup (PySem.W.kitx_exc (od := od) cl C.hg C.hk C.hs C.ha C.hn C.ht C.hm) I.kIn J ho e (fun z => nomatch z) fun tk => ⟨.bl b, H, I.kept (t' := tk) fun _ _ z => z, rfl, q⟩
/-! ### C(), C's own __init__ doing nothing -/
def spIni0 : Sp := fun vs H Q _ => ∃ a : Addr, vs = [.ref a] ∧ Q .non H
/-- the way out: class C, no dict -/
def tMk0 (C : Addr) : L2.St → Hp → XK → Prop := fun _ H Q => Q (.ref C) none H
theorem pmk_own0 {CX : CXT} {x : Str} {C fI : Addr} {k : Nat} {fd : FuncData} {ps : List Str} {p pos : Pos} (T : OexC X.K C) (iC : PySem.W.findIn X.K (.ref C) "__init__" = some (some (.ref fI))) (tI : PySem.W.typeIn X.K (.ref fI) = some (.type "function"))
    (F1 : FnOk X.prog X.w X.K X.mg X.base CX k fI fd ps spIni0) (hr : Room (k + 1) X.A) (hb : Binds X.K fd ps []) (hx : Passes CX X (fun _ _ _ => False)) (hg : Gl X x) (hm : X.mg x = some (.ref C))
    (hdb : (x == ("__debug__" : Str)) = false := by decide) : PMk X (.Call (.Name x p) [] [] pos) (tMk0 C) := by
  intro pins s σ H Q I q
  obtain ⟨nm, qn, N, bs, bm, sn, sub, ab, col, dd, k0, k1, k2, k3, k5, hC, hbm⟩ := T.cls
  refine wpAny_Call_Name_kw (ld_glob I hg hm (PySem.W.callWith_K0 I.kIn T.kC ?_) hdb)
  show wpAny _ _ (call (.ref C) []) _ _ _
  obtain ⟨hp, g, dr, tk, os⟩ := s
  obtain ⟨z, ez⟩ : ∃ z, z = hp.objs.size := ⟨_, rfl⟩
  have hsz : hp.objs.size ≤ z + 1 := by omega
  have hn : H (z + 1) = none := I.hok.fresh hsz
  obtain ⟨h1, e1⟩ : ∃ h1, h1 = (hp.push (PySem.W.kdv_tup [])).push (PySem.HandSPX.excO C z) := ⟨_, rfl⟩
  have kk : ∀ b o, hp.get? b = some o → h1.get? b = some o := fun b o e => by
    rw [e1]
    exact Heap.get?_push_of_some _ (Heap.get?_push_of_some _ e)
  have hget : h1.get? (z + 1) = some (PySem.HandSPX.excO C z) := by
    subst ez e1
    heap_get
  obtain ⟨H1, eH⟩ : ∃ H1, H1 = upd H (z + 1) (exo (z + 1) C none) := ⟨_, rfl⟩
  have I2 : Inv X pins σ H1 ⟨h1, g, dr, tk, os⟩ := by
    rw [eH]
    exact I.laid (t' := tk) kk hsz (exo_ok hget)
  have r2 : Vals [V.ref (z + 1)] [Value.ref (z + 1)] := .cons rfl .nil
  have wish : spIni0 [.ref (z + 1)] H1 (fun v H2 => v = .non ∧ H2 = H1) (fun _ _ _ => False) := ⟨_, rfl, rfl, rfl⟩
  have hl : ([Value.ref (z + 1)] ++ []).length = ps.length := (F1.len _ _ _ _ wish)
  have run := F1.run _ X.stack ⟨h1, g, dr, tk, os⟩ H1 ⟨[Value.ref (z + 1)], []⟩ [Value.ref (z + 1)] _ _ (fun _ _ _ => False) (hr.make C [] []) (I2.env0.make C [] []) (hb _ [Value.ref (z + 1)] I2.kIn hl) r2 wish
  subst e1
  subst ez
  refine wpAny_call (PySem.HandSPX.call_own F.excBase_ValueError (fun Y => PySem.HandSPX.refsVE_contains Y bm hbm) (I.kIn _ _ hC) (PySem.W.looks_findIn I.kIn iC) (fun self => PySem.W.bind_fn I.kIn self tI) (Nat.zero_le _) (codeAny_mono run fun r s' hq' => ?_))
  cases r with
  | error er => exact hx pins σ _ _ er s' I2 hq'
  | ok fl =>
    cases fl with
    | next => exact hq'.elim
    | brk => exact hq'.elim
    | cont => exact hq'.elim
    | ret u =>
      obtain ⟨v, H2, os2, bare2, un2, hok2, rv, rfl, rfl⟩ := hq'
      obtain ⟨h2, g2, d2, t2, os'⟩ := s'
      refine ⟨rv, ?_⟩
      have ea : H2 (hp.objs.size + 1) = some (exo (hp.objs.size + 1) C none) := by
        rw [eH]
        exact upd_same
      have eo : ∀ {b : Addr}, b ≠ hp.objs.size + 1 → H2 b = H b := fun {b} n => by
        rw [eH]
        exact upd_ne n
      obtain ⟨t0, hoe⟩ := exo_at hok2 ea
      obtain ⟨G, gs, gn⟩ := restrict h2 fun b => !decide (b = hp.objs.size + 1)
      have gk : ∀ {b : Addr}, b ≠ hp.objs.size + 1 → G.get? b = h2.get? b := fun {b} n => gs b (by simp [n])
      have ga : G.get? (hp.objs.size + 1) = none := gn _ (by simp)
      have nb : ∀ {b : Addr} {o : Obj}, hp.get? b = some o → b ≠ hp.objs.size + 1 := fun {b o} e => by
        have l := Heap.lt_size e
        exact Nat.ne_of_lt (Nat.lt_succ_of_lt l)
      have nH : ∀ {b : Addr} {o : HO}, H b = some o → b ≠ hp.objs.size + 1 := fun {b o} e n => by
        rw [n, hn] at e
        cases e
      have U : Un (frs X.stack) [] H H hp G := {
        keep := fun b o e n hf hx => (gk (nb e)).trans (un2.keep b o (kk b o e) ((eo (nb e)).trans n) hf hx)
        slot := fun b o e n hf hx => by
          obtain ⟨sl, q1⟩ := un2.slot b o (kk b o e) ((eo (nb e)).trans n) hf hx
          exact ⟨sl, (gk (nb e)).trans q1⟩
        free := fun b o e n hx => n
        there := fun b o e hx => by
          obtain ⟨o2, q1⟩ := un2.there b o (kk b o e) hx
          exact ⟨o2, (gk (nb e)).trans q1⟩
        tups := fun b xs e => e
        frzs := fun b o v e => e
        tbls := fun b ps e => ⟨#[], by rw [e]; simp⟩ }
      have hok3 : HOk X.prog X.w H G := fun b o e => by
        refine (hok2 b o ((eo (nH e)).trans e)).stay (fun c v hc y => ?_) (fun c hc => ?_) (fun c xs hc => ?_)
        · have nc : c ≠ hp.objs.size + 1 := by
            rcases hc with hc | hc
            · rw [hc]
              exact nH e
            · exact at_ne ea hc exo_own
          exact (gk nc).trans y
        · exact (eo (at_ne ea hc exo_own)).symm.trans hc
        · exact (eo (at_ne ea hc exo_tup)).symm.trans hc
      have J : Inv X pins σ H ⟨G, g2, d2, t2, os'⟩ := I.call' (ch := []) os2 U hok3 bare2 (fun b z => absurd z (by simp))
      refine ⟨_, _, _, ⟨G, g2, d2, t2, os'⟩, H, .ref C, none, rfl, J, fun b o e => ?_, ga, hoe, ⟨rfl, rfl⟩, rfl, rfl, hn, rfl, bare2, raises_own T.exC T.tyC, q⟩
      have n : b ≠ hp.objs.size + 1 := fun n => by
        have e' : G.get? b = some o := e
        rw [n, ga] at e'
        cases e'
      exact (gk n).symm.trans e
end
end Ph

/-! PhDr2: repr of data with dicts; only the dicts themselves must not be sys.modules. -/
namespace Ph
open PySem PySem.Spec PyProof.Rows L2
section
variable (P : Program) (w : World) (h : Heap)
/-- u holds d, and shows it within other data -/
def Sh1 (u : Value) (d : PyData) : Prop := (∃ as, Reads h u d as) ∧ (d.showable = true → d.shown.length ≤ sizeLine → ∃ bs, ReadAtMost h d.depth bs ∧ ReprK P w bs h d.depth u d.shown)
def ShA (us : List Value) (ds : List PyData) : Prop := (∃ as, ReadsAll h us ds as) ∧
  (PyData.showableAll ds = true → (∀ t ∈ PyData.shownAll ds, t.length ≤ sizeLine) → ∃ bs, ReadAtMost h (PyData.depthAll ds) bs ∧ ReprAllK P w bs h (PyData.depthAll ds) us (PyData.shownAll ds))
/-- repr(u) -/
def Top (u : Value) (d : PyData) : Prop := ∀ (A : Around) (E : Value → Shared → Prop) (s : Shared) (Q : Value → Shared → Prop), A.guards = some [] → A.units + (d.depth + 1) < cLine → (∀ b o, h.get? b = some o → s.heap.get? b = some o) →
  (∀ h' t k, (∀ b o, s.heap.get? b = some o → h'.get? b = some o) → Q (.str d.shown t) { s with heap := h', toks := k }) → wpAny (model P w) A (call (.builtin "repr") [u]) Q E s
end
section
variable {P : Program} {w : World} {h : Heap}
theorem ShA.nil : ShA P w h [] [] := ⟨⟨_, .nil⟩, fun _ _ => ⟨[], (fun _ z => nomatch z), by simp only [PyData.shownAll]; exact .nil⟩⟩
theorem ShA.cons {u : Value} {us : List Value} {d : PyData} {ds : List PyData} (x : Sh1 P w h u d) (y : ShA P w h us ds) : ShA P w h (u :: us) (d :: ds) := by
  obtain ⟨⟨as, ra⟩, sa⟩ := x
  obtain ⟨⟨bs, rb⟩, sb⟩ := y
  refine ⟨⟨_, .cons ra rb⟩, fun s1 s2 => ?_⟩
  rw [PyData.showableAll, Bool.and_eq_true] at s1
  rw [PyData.shownAll] at s2
  obtain ⟨b1, r1, k1⟩ := sa s1.1 (s2 _ (List.mem_cons_self ..))
  obtain ⟨b2, r2, k2⟩ := sb s1.2 fun t ht => s2 t (List.mem_cons_of_mem _ ht)
  rw [PyData.shownAll, PyData.depthAll]
  refine ⟨b1 ++ b2, (r1.mono (Nat.le_max_left ..)).append (r2.mono (Nat.le_max_right ..)), .cons ?_ ?_⟩
  · exact (k1.more fun b z => List.mem_append_left _ z).level_le (Nat.le_max_left ..)
  · exact k2.more_le (fun b z => List.mem_append_right _ z) (Nat.le_max_right ..)
theorem lst_rd {a : Addr} {o : Obj} {its : List Value} {n : Nat} {ds : List PyData} (ho : h.get? a = some o) (hc : o.cls = .type "list") (hd : o.data = .seq its.toArray n) (x : ShA P w h its ds) : ∃ as, Reads h (.ref a) (.list ds) as := by
  obtain ⟨⟨as, r⟩, _⟩ := x
  exact ⟨_, .list ho hc hd r⟩
theorem sh_lst {a : Addr} {o : Obj} {its : List Value} {n : Nat} {ds : List PyData} (ho : h.get? a = some o) (hc : o.cls = .type "list") (hd : o.data = .seq its.toArray n) (x : ShA P w h its ds) :
    Sh1 P w h (.ref a) (.list ds) ∧ ((PyData.list ds).showable = true → (PyData.list ds).shown.length ≤ sizeLine → Top P w h (.ref a) (.list ds)) := by
  have rr := lst_rd ho hc hd x
  have get : (PyData.list ds).showable = true → (PyData.list ds).shown.length ≤ sizeLine → ∃ bs, ReadAtMost h (PyData.depthAll ds) bs ∧ a ∉ bs ∧ ReprAllK P w bs h (PyData.depthAll ds) its (PyData.shownAll ds) := fun s1 s2 => by
    rw [PyData.showable] at s1
    rw [PyData.shown] at s2
    obtain ⟨bs, b1, k⟩ := x.2 s1 fun t ht => Nat.le_trans (listText_mem_le ht) s2
    obtain ⟨as, r⟩ := rr
    exact ⟨bs, b1, not_mem_of_deeper r (by rw [PyData.depth]; omega) b1, k⟩
  refine ⟨⟨rr, fun s1 s2 => ?_⟩, fun s1 s2 => ?_⟩
  · obtain ⟨bs, b1, na, k⟩ := get s1 s2
    obtain ⟨as, r⟩ := rr
    refine ⟨a :: bs, ReadAtMost.cons r (by rw [PyData.depth]; omega) b1, ?_⟩
    rw [PyData.depth, PyData.shown]
    cases its with
    | nil =>
      have e : PyData.shownAll ds = [] := by
        have := k.length_eq
        exact List.length_eq_zero_iff.mp this
      rw [e, listText_nil]
      exact ReprK.listEmpty ho hc hd
    | cons y l => exact ReprK.list ho hc hd na (by have := k.length_eq; simpa using this) fun i z e => k.item i z (by simpa using e)
  · intro A E s Q hg hu kp hQ
    obtain ⟨bs, b1, na, k⟩ := get s1 s2
    rw [PyData.shown] at s2 hQ
    rw [PyData.depth] at hu
    refine call_repr_slot (by omega) (T := "list") ⟨o, kp _ _ ho, hc⟩ F.slot_list_repr.toG ?_
    cases its with
    | nil =>
      have e : PyData.shownAll ds = [] := by
        have := k.length_eq
        exact List.length_eq_zero_iff.mp this
      rw [e, listText_nil] at hQ
      exact call_list_repr_empty ⟨o, kp _ _ ho, hc⟩ (kp _ _ ho) hd ⟨_, _, rfl, hQ s.heap _ _ fun _ _ z => z⟩
    | cons y l =>
      exact call_list_reprK ho hc hd na (by have := k.length_eq; simpa using this) (fun i z e => k.item i z (by simpa using e)) hg (fun b _ => Clear.nil b) (by show A.units + 1 + (PyData.depthAll ds + 1) < cLine; omega) kp (fun h' t q z => ⟨_, _, rfl, hQ h' t q z⟩) s2
theorem sh_tup {a : Addr} {o : Obj} {its : Array Value} {n : Nat} {ds : List PyData} (ho : h.get? a = some o) (hc : o.cls = .type "tuple") (hd : o.data = .seq its n) (x : ShA P w h its.toList ds) :
    Sh1 P w h (.ref a) (.tuple ds) ∧ ((PyData.tuple ds).showable = true → (PyData.tuple ds).shown.length ≤ sizeLine → Top P w h (.ref a) (.tuple ds)) := by
  obtain ⟨as, r0⟩ := x.1
  have r : Reads h (.ref a) (.tuple ds) as := .tuple ho hc hd r0
  have get : (PyData.tuple ds).showable = true → (PyData.tuple ds).shown.length ≤ sizeLine → ∃ bs, ReadAtMost h (PyData.depthAll ds) bs ∧ a ∉ bs ∧ ReprAllK P w bs h (PyData.depthAll ds) its.toList (PyData.shownAll ds) := fun s1 s2 => by
    rw [PyData.showable] at s1
    rw [PyData.shown] at s2
    obtain ⟨bs, b1, k⟩ := x.2 s1 fun t ht => Nat.le_trans (tupleText_mem_le ht) s2
    exact ⟨bs, b1, not_mem_of_deeper r (by rw [PyData.depth]; omega) b1, k⟩
  refine ⟨⟨⟨_, r⟩, fun s1 s2 => ?_⟩, fun s1 s2 A E s Q hg hu kp hQ => ?_⟩
  · obtain ⟨bs, b1, na, k⟩ := get s1 s2
    refine ⟨a :: bs, ReadAtMost.cons r (by rw [PyData.depth]; omega) b1, ?_⟩
    rw [PyData.depth, PyData.shown]
    exact ReprK.tuple ho hc hd na k
  · obtain ⟨bs, b1, na, k⟩ := get s1 s2
    rw [PyData.shown] at s2 hQ
    rw [PyData.depth] at hu
    refine call_repr_slot (by omega) (T := "tuple") ⟨o, kp _ _ ho, hc⟩ F.slot_tuple_repr ?_
    exact call_tuple_reprK ho hc hd na k hg (fun b _ => Clear.nil b) (by show A.units + 1 + (PyData.depthAll ds + 1) < cLine; omega) kp (fun h' t q z => ⟨_, _, rfl, hQ h' t q z⟩) s2
theorem sh_dct {a : Addr} {o : Obj} {es : Array DictEntry} {n : Nat} {D : List (PyData × PyData)} (ho : h.get? a = some o) (hc : o.cls = .type "dict") (hd : o.data = .dict es n) (ne : (a == sysModules) = false)
    (x : ShA P w h (es.toList.map (·.key)) (D.map (·.1))) (y : ShA P w h (es.toList.map (·.val)) (D.map (·.2))) :
    Sh1 P w h (.ref a) (.dict D) ∧ ((PyData.dict D).showable = true → (PyData.dict D).shown.length ≤ sizeLine → Top P w h (.ref a) (.dict D)) := by
  obtain ⟨a1, r1⟩ := x.1
  obtain ⟨a2, r2⟩ := y.1
  have r : Reads h (.ref a) (.dict D) _ := .dict ho hc hd r1 r2
  have get : (PyData.dict D).showable = true → (PyData.dict D).shown.length ≤ sizeLine → ∃ bs, ReadAtMost h (PyData.depthKv D) bs ∧ a ∉ bs ∧ ReprEntriesK P w bs h (PyData.depthKv D) es.toList (PyData.shownKv D) := fun s1 s2 => by
    rw [PyData.showable] at s1
    rw [PyData.shown] at s2
    obtain ⟨q1, q2⟩ := PyData.showableKv_split D s1
    obtain ⟨b1, m1, k1⟩ := x.2 q1 fun t ht => by
      obtain ⟨p, hp, l⟩ := PyData.shownKv_key_le D t ht
      exact Nat.le_trans l (Nat.le_trans (dictText_mem_le hp) s2)
    obtain ⟨b2, m2, k2⟩ := y.2 q2 fun t ht => by
      obtain ⟨p, hp, l⟩ := PyData.shownKv_val_le D t ht
      exact Nat.le_trans l (Nat.le_trans (dictText_mem_le hp) s2)
    have m := (m1.mono (PyData.depthAll_keys_le D)).append (m2.mono (PyData.depthAll_vals_le D))
    refine ⟨b1 ++ b2, m, not_mem_of_deeper r (by rw [PyData.depth]; omega) m, ?_⟩
    rw [PyData.shownKv_eq]
    refine ReprEntriesK.of_two es.toList _ _ ?_ ?_
    · exact k1.more_le (fun b z => List.mem_append_left _ z) (PyData.depthAll_keys_le D)
    · exact k2.more_le (fun b z => List.mem_append_right _ z) (PyData.depthAll_vals_le D)
  refine ⟨⟨⟨_, r⟩, fun s1 s2 => ?_⟩, fun s1 s2 A E s Q hg hu kp hQ => ?_⟩
  · obtain ⟨bs, b1, na, k⟩ := get s1 s2
    refine ⟨a :: bs, ReadAtMost.cons r (by rw [PyData.depth]; omega) b1, ?_⟩
    rw [PyData.depth, PyData.shown]
    exact ReprK.dict ho hc hd ne na k
  · obtain ⟨bs, b1, na, k⟩ := get s1 s2
    rw [PyData.shown] at s2 hQ
    rw [PyData.depth] at hu
    refine call_repr_slot (by omega) (T := "dict") ⟨o, kp _ _ ho, hc⟩ F.slot_dict_repr ?_
    exact call_dict_reprK ho hc hd ne na k hg (fun b _ => Clear.nil b) (by show A.units + 1 + (PyData.depthKv D + 1) < cLine; omega) kp (fun h' t q z => ⟨_, _, rfl, hQ h' t q z⟩) s2
end
end Ph

/-! PhDk: data with dicts (keys: ints and texts): read off the heap, and repr of it. -/
namespace Ph
open PySem PySem.Spec PyProof.Rows L2
def keyD : Key → PyData
  | .inl i => .int i
  | .inr x => .str x
mutual
inductive Dq (K : PySem.W.Frag) (H : Hp) : V → PyData → Prop
  | non : Dq K H .non .none
  | bl (b : Bool) : Dq K H (.bl b) (.bool b)
  | int (i : Int) : Dq K H (.int i) (.int i)
  | str (x : Str) : Dq K H (.str x) (.str x)
  | lst {a : Addr} {xs : List V} {ds : List PyData} (hs : SqL K H a xs) (ha : DqAll K H xs ds) : Dq K H (.ref a) (.list ds)
  | tup {a : Addr} {xs : List V} {ds : List PyData} (hs : SqT K H a xs) (ha : DqAll K H xs ds) : Dq K H (.ref a) (.tuple ds)
  | dct {a : Addr} {kvs : List (Key × V)} {ds : List (PyData × PyData)} (hs : Rd H a (.dK kvs)) (ha : DqKvs K H kvs ds) : Dq K H (.ref a) (.dict ds)
inductive DqAll (K : PySem.W.Frag) (H : Hp) : List V → List PyData → Prop
  | nil : DqAll K H [] []
  | cons {v : V} {vs : List V} {d : PyData} {ds : List PyData} (h : Dq K H v d) (r : DqAll K H vs ds) : DqAll K H (v :: vs) (d :: ds)
inductive DqKvs (K : PySem.W.Frag) (H : Hp) : List (Key × V) → List (PyData × PyData) → Prop
  | nil : DqKvs K H [] []
  | cons {k : Key} {v : V} {r : List (Key × V)} {d : PyData} {ds : List (PyData × PyData)} (h : Dq K H v d) (t : DqKvs K H r ds) : DqKvs K H ((k, v) :: r) ((keyD k, d) :: ds)
end
theorem sh_key {P : Program} {w : World} {h : Heap} (k : Key) (u : Value) (e : (mixKind P w).is k u = true) (hi : ∀ i, k = .inl i → (PyData.int i).showable = true → i.natAbs.log2 < 1920) : Sh1 P w h u (keyD k) := by
  rcases keyIs_shape e with ⟨i, t, rfl, rfl⟩ | ⟨x, t, rfl, rfl⟩
  · exact ⟨⟨_, .int i t⟩, fun s1 _ => ⟨[], (fun _ z => nomatch z), by simp only [keyD, PyData.shown]; exact .of_is (ReprIs.int t (hi i rfl s1)) _ _ _⟩⟩
  · exact ⟨⟨_, .str x t⟩, fun _ s2 => ⟨[], (fun _ z => nomatch z), by simp only [keyD, PyData.shown] at s2 ⊢; exact .of_is (ReprIs.str x t s2) _ _ _⟩⟩
theorem int_sh {i : Int} (h : (PyData.int i).showable = true) : i.natAbs.log2 < 1920 := by simpa [PyData.showable] using h
section
variable {X : Cx} {pins : List (Addr × Obj)} {σ : L2.St} {H : Hp} {s : Shared}
theorem Dq.sh (I : Inv X pins σ H s) {v : V} {d : PyData} (h : Dq X.K H v d) : ∀ u, RelV v u → Sh1 X.prog X.w s.heap u d ∧ ∀ a, v = .ref a → d.showable = true → d.shown.length ≤ sizeLine → Top X.prog X.w s.heap u d := by
  refine @Dq.rec X.K H (fun v d _ => ∀ u, RelV v u → Sh1 X.prog X.w s.heap u d ∧ ∀ a, v = .ref a → d.showable = true → d.shown.length ≤ sizeLine → Top X.prog X.w s.heap u d) (fun vs ds _ => ∀ us, Vals vs us → ShA X.prog X.w s.heap us ds)
    (fun kvs D _ => ∀ es us, Pairs (mixKind X.prog X.w) es us → KV kvs us → ShA X.prog X.w s.heap (es.map (·.key)) (D.map (·.1)) ∧ ShA X.prog X.w s.heap (es.map (·.val)) (D.map (·.2))) ?_ ?_ ?_ ?_ ?_ ?_ ?_ ?_ ?_ ?_ ?_ v d h
  · intro u r
    obtain rfl : u = Value.none := r
    exact ⟨⟨⟨_, .none⟩, fun _ _ => ⟨[], (fun _ z => nomatch z), by simp only [PyData.shown]; exact .of_is ReprIs.none _ _ _⟩⟩, fun a z => nomatch z⟩
  · intro b u r
    obtain rfl : u = Value.bool b := r
    exact ⟨⟨⟨_, .bool b⟩, fun _ _ => ⟨[], (fun _ z => nomatch z), by simp only [PyData.shown]; exact .of_is (ReprIs.bool b) _ _ _⟩⟩, fun a z => nomatch z⟩
  · rintro i u ⟨t, rfl⟩
    exact ⟨⟨⟨_, .int i t⟩, fun s1 _ => ⟨[], (fun _ z => nomatch z), by simp only [PyData.shown]; exact .of_is (ReprIs.int t (int_sh s1)) _ _ _⟩⟩, fun a z => nomatch z⟩
  · rintro x u ⟨t, rfl⟩
    exact ⟨⟨⟨_, .str x t⟩, fun _ s2 => ⟨[], (fun _ z => nomatch z), by simp only [PyData.shown] at s2 ⊢; exact .of_is (ReprIs.str x t s2) _ _ _⟩⟩, fun a z => nomatch z⟩
  · intro a xs ds hs _ ih u r
    obtain rfl : u = Value.ref a := r
    obtain ⟨its, rv, ⟨o, n, ho, hc, _, hd⟩, _⟩ := I.list hs
    obtain ⟨x1, x2⟩ := sh_lst ho hc hd (ih _ rv)
    exact ⟨x1, fun _ _ => x2⟩
  · intro a xs ds hs _ ih u r
    obtain rfl : u = Value.ref a := r
    obtain ⟨its, rv, ⟨o, ho, hc, n, hd⟩, _⟩ := I.tuple hs
    obtain ⟨x1, x2⟩ := sh_tup ho hc hd (by simpa using ih _ rv)
    exact ⟨x1, fun _ _ => x2⟩
  · intro a kvs D hs _ ih u r
    obtain rfl : u = Value.ref a := r
    obtain ⟨_, ne, vs, kv, o, es, ep, ho, hx, hdat, _, hp, _⟩ := hs.ok I.hok
    obtain ⟨k1, k2⟩ := ih _ _ hp kv
    obtain ⟨x1, x2⟩ := sh_dct ho hx.1 hdat ne k1 k2
    exact ⟨x1, fun _ _ => x2⟩
  · intro us r
    cases r
    exact .nil
  · intro v vs d ds _ _ i1 i2 us r
    cases r with
    | cons r1 r2 => exact .cons (i1 _ r1).1 (i2 _ r2)
  · intro es us p r
    cases r
    cases p
    exact ⟨.nil, .nil⟩
  · intro k v r d ds _ _ i1 i2 es us p rr
    cases rr with
    | @cons _ q _ _ r1 r2 =>
      obtain ⟨k', u⟩ := q
      obtain ⟨e, ru⟩ := r1
      obtain rfl : k = k' := e
      cases p with
      | cons hk hv p2 =>
        obtain ⟨j1, j2⟩ := i2 _ _ p2 r2
        refine ⟨.cons (sh_key k _ hk fun i _ z => int_sh z) j1, .cons ?_ j2⟩
        show Sh1 _ _ _ (DictEntry.val _) d
        rw [hv]
        exact (i1 _ ru).1
end
section
variable {X : Cx}
/-- repr(x), x any data -/
def rRqA (K : PySem.W.Frag) : List V → Hp → VK → Prop := fun xs H Q => ∃ (x : V) (d : PyData), xs = [x] ∧ Dq K H x d ∧ d.showable = true ∧ d.depth ≤ 60 ∧ d.shown.length ≤ sizeLine ∧ Q (.str d.shown) H
theorem call_rqA (hgu : X.A.guards = some []) (hu : X.A.units + 64 < cLine) : CallR X (.builtin "repr") (rRqA X.K) := by
  intro pins s σ H xs us Q I r h
  obtain ⟨x, d, rfl, dq, sh, dp, ln, q⟩ := h
  obtain ⟨u, rfl, ru⟩ := vals1 r
  have ref : ∀ a, x = .ref a → wpAny (model X.prog X.w) X.A (call (.builtin "repr") [u]) (EP X pins σ Q) X.xe s := fun a e =>
    (dq.sh I u ru).2 a e sh ln X.A X.xe s _ hgu (by omega) (fun _ _ z => z) fun h' t k keep => ⟨.str _, H, I.kept keep, ⟨_, rfl⟩, q⟩
  cases dq with
  | non =>
    obtain rfl : u = Value.none := ru
    exact P.repr_of_none ⟨.str _, H, I.tok _, ⟨_, rfl⟩, by simpa only [PyData.shown] using q⟩
  | bl b =>
    obtain rfl : u = Value.bool b := ru
    exact P.repr_of_bool ⟨.str _, H, I.tok _, ⟨_, rfl⟩, by simpa only [PyData.shown] using q⟩
  | int i =>
    obtain ⟨t, rfl⟩ := ru
    exact P.repr_of_int (int_sh sh) ⟨.str _, H, I.tok _, ⟨_, rfl⟩, by simpa only [PyData.shown] using q⟩
  | str y =>
    obtain ⟨t, rfl⟩ := ru
    exact P.repr_of_str ⟨.str _, H, I.tok _, ⟨_, rfl⟩, by simpa only [PyData.shown] using q⟩ (by simpa only [PyData.shown] using ln)
  | lst _ _ => exact ref _ rfl
  | tup _ _ => exact ref _ rfl
  | dct _ _ => exact ref _ rfl
end
end Ph

/-! PhErm: a method called where its errors are caught: what leaves may speak of the slots. -/
namespace Ph
open PySem PySem.Spec PyProof.Rows L2
def tMethE (C : Addr) (m : Str) (sp : Sp) (E : L2.St → XK) (ta : TE) (t : TA) : TE := fun σ H Q => ta σ H fun x H1 => ∃ a dx fs, x = .ref a ∧ H1 a = some (.ins C dx fs) ∧ fs.lookup m = none ∧ t σ H1 fun vs H2 => sp (.ref a :: vs) H2 Q (E σ)
section
variable {X : Cx} {CX : CXT} {k : Nat} {f C : Addr} {fd : FuncData} {ps : List Str} {sp : Sp} {E : L2.St → XK} {m : Str} {pos apos : Pos} {e o : Expr} {es : List Expr} {ta : TE} {t : TA}
theorem pe_methE {pl : Sem Bool} (he : PE X o ta) (c : Cls X.K C) (hm : Meth X.K C m f) (F : FnOk X.prog X.w X.K X.mg X.base CX k f fd ps sp) (hr : Room k X.A) (hb : Binds X.K fd ps []) (hx : ∀ σ, PassesAt CX X σ (E σ)) (ha : PA X (e :: es) t)
    (hst : starEach (e :: es) X.env = (false, eval e X.env) :: starEach es X.env := by rfl) (hpl : (backTo pos (starEach es X.env)).any (·.1) = false := by rfl)
    (ht : eval (.Call (.Attribute o m apos) (e :: es) [] pos) X.env = (do
      let ov ← eval o X.env
      standAt apos.atName
      let (f, first) ← holding [ov] (getMethod ov m pl)
      callWith pos f first (backTo pos (starEach (e :: es) X.env)) (backToKw pos (keywordEach [] X.env))) := by rfl) :
    PE X (.Call (.Attribute o m apos) (e :: es) [] pos) (tMethE C m sp E ta t) := by
  constructor
  intro pins s σ H Q I h
  refine PySem.W.methodCall_KW (pl := pl) (thn (he.run pins s σ H _ I h) fun u s1 w => ?_) ht
  obtain ⟨x, H1, I1, rx, a, dx, fs, rfl, ea, l, q⟩ := w
  obtain rfl : u = Value.ref a := rx
  refine getmeth_ok I1 ea c hm l (PySem.W.callWith_K (first := [.ref a]) (h₀ := X.base) I.ok.mod.kin hm.kp (thn (ha.run pos pins s1 σ H1 _ I1 q) fun us s2 w2 => ?_) hst hpl)
  obtain ⟨vs, H2, I2, r, q2⟩ := w2
  exact ⟨I2.kIn, run_fnS (us := .ref a :: us) (vs := .ref a :: vs) F hr hb (hx σ) I2 (.cons rfl r) q2⟩
theorem takesNo : Takes X (fun _ _ _ _ => False) := fun _ _ ⟨_, _, _, _, _, _, _, _, _, _, _, _, _, _, _, _, z⟩ => z.elim
end
end Ph

/-! PhCp: the text that repr gives holds code points only. -/
namespace Ph
open PySem PySem.Spec PyProof.Rows L2
/-- all signs are code points -/
def Cp (x : Str) : Prop := ∀ c ∈ x.cps.toList, c < 0x110000
theorem cp_of {s : String} : Cp (Str.ofString s) := by
  rw [Str.ofString_eq_toList]
  intro c hc
  have hc' : c ∈ s.toList.map Char.toNat := by simpa using hc
  obtain ⟨d, _, rfl⟩ := List.mem_map.mp hc'
  have h := d.valid
  show d.val.toNat < 0x110000
  rcases h with h | h
  · have : d.val.toNat < 55296 := h
    omega
  · exact h.2
theorem Cp.app {x y : Str} (a : Cp x) (b : Cp y) : Cp (x ++ y) := fun c hc => by
  have hc' : c ∈ (x.cps ++ y.cps).toList := hc
  rw [Array.toList_append, List.mem_append] at hc'
  exact hc'.elim (a c) (b c)
theorem cp_join {s : Str} (hs : Cp s) : ∀ {ts : List Str}, (∀ t ∈ ts, Cp t) → Cp (Str.join s ts)
  | [], _ => fun c hc => by
    have : c ∈ (#[] : Array Nat).toList := hc
    simp at this
  | [x], h => h x (List.mem_cons_self ..)
  | x :: y :: r, h => ((h x (List.mem_cons_self ..)).app hs).app (cp_join hs fun t ht => h t (List.mem_cons_of_mem _ ht))
theorem cp_from : ∀ {ts : List Str} {k : Nat} {acc : Str}, Cp acc → (∀ t ∈ ts, Cp t) → Cp (textFrom k acc ts)
  | [], _, _, a, _ => a
  | t :: ts, k, acc, a, h => cp_from (ts := ts) ((a.app cp_of).app (h t (List.mem_cons_self ..))) fun u hu => h u (List.mem_cons_of_mem _ hu)
theorem cp_hex {c n : Nat} : ∀ d ∈ List.replicate n 48 ++ (Nat.toDigits 16 c).map Char.toNat, d < 0x110000 := fun d hd => by
  rcases List.mem_append.mp hd with h | h
  · rw [List.eq_of_mem_replicate h]; decide
  · obtain ⟨e, _, rfl⟩ := List.mem_map.mp h
    show e.val.toNat < 0x110000
    rcases e.valid with h | h
    · have : e.val.toNat < 55296 := h
      omega
    · exact h.2
theorem cp_char {q c : Nat} (hc : c < 0x110000) : ∀ d ∈ Builtin.Str.reprChar q c, d < 0x110000 := fun d hd => by
  unfold Builtin.Str.reprChar at hd
  dsimp only at hd
  repeat' split at hd
  all_goals first
    | (simp only [List.mem_cons, List.not_mem_nil, or_false] at hd; omega)
    | (rcases List.mem_append.mp hd with h | h
       · simp only [List.mem_cons, List.not_mem_nil, or_false] at h; omega
       · exact cp_hex d h)
theorem cp_fold {q : Nat} : ∀ {l : List Nat} {acc : Array Nat}, (∀ c ∈ l, c < 0x110000) → (∀ c ∈ acc.toList, c < 0x110000) → ∀ c ∈ (l.foldl (fun out c => out ++ (Builtin.Str.reprChar q c).toArray) acc).toList, c < 0x110000
  | [], acc, _, h => h
  | c :: r, acc, hl, h => cp_fold (l := r) (fun d hd => hl d (List.mem_cons_of_mem _ hd)) fun d hd => by
    rw [Array.toList_append, List.mem_append] at hd
    exact hd.elim (h d) (cp_char (hl c (List.mem_cons_self ..)) d)
theorem cp_repr {x : Str} (h : Cp x) : Cp (reprText x) := fun c hc => by
  have q : reprQuote x < 0x110000 := by
    unfold reprQuote
    split <;> decide
  unfold reprText at hc
  dsimp only at hc
  rw [← Array.foldl_toList, Array.toList_push, List.mem_append] at hc
  rcases hc with h1 | h1
  · exact cp_fold h (fun d hd => by
      have : d = reprQuote x := by simpa using hd
      rw [this]; exact q) c h1
  · rw [List.mem_singleton.mp h1]; exact q
mutual
/-- all texts within hold code points only -/
def cpD : PyData → Bool
  | .none | .bool _ | .int _ => true
  | .str x => PyData.strOk x
  | .list xs | .tuple xs => cpAll xs
  | .dict kvs => cpKv kvs
def cpAll : List PyData → Bool
  | [] => true
  | x :: xs => cpD x && cpAll xs
def cpKv : List (PyData × PyData) → Bool
  | [] => true
  | (k, v) :: r => cpD k && cpD v && cpKv r
end
mutual
theorem cp_shown : ∀ d : PyData, cpD d = true → Cp d.shown
  | .none, _ => cp_of
  | .bool b, _ => by cases b <;> exact cp_of
  | .int i, _ => cp_of
  | .str x, h => by
    rw [PyData.shown]
    refine cp_repr fun c hc => ?_
    have h' : x.cps.all (· < 0x110000) = true := by simpa only [cpD, PyData.strOk] using h
    rw [Array.all_eq_true_iff_forall_mem] at h'
    simpa using h' c (Array.mem_def.mpr hc)
  | .list xs, h => by
    rw [PyData.shown]
    exact (cp_from cp_of (cp_all xs (by simpa only [cpD] using h))).app cp_of
  | .tuple xs, h => by
    rw [PyData.shown]
    exact (Cp.app cp_of (cp_join cp_of (cp_all xs (by simpa only [cpD] using h)))).app cp_of
  | .dict kvs, h => by
    rw [PyData.shown]
    exact (Cp.app cp_of (cp_join cp_of (cp_kvs kvs (by simpa only [cpD] using h)))).app cp_of
theorem cp_all : ∀ xs : List PyData, cpAll xs = true → ∀ t ∈ PyData.shownAll xs, Cp t
  | [], _, t, ht => by simp [PyData.shownAll] at ht
  | x :: r, h, t, ht => by
    rw [cpAll, Bool.and_eq_true] at h
    rw [PyData.shownAll] at ht
    rcases List.mem_cons.mp ht with rfl | z
    · exact cp_shown x h.1
    · exact cp_all r h.2 t z
theorem cp_kvs : ∀ kvs : List (PyData × PyData), cpKv kvs = true → ∀ t ∈ PyData.shownKv kvs, Cp t
  | [], _, t, ht => by simp [PyData.shownKv] at ht
  | (k, v) :: r, h, t, ht => by
    rw [cpKv, Bool.and_eq_true, Bool.and_eq_true] at h
    rw [PyData.shownKv] at ht
    rcases List.mem_cons.mp ht with rfl | z
    · exact ((cp_shown k h.1.1).app cp_of).app (cp_shown v h.1.2)
    · exact cp_kvs r h.2 t z
end
theorem cp_ok {x : Str} (h : Cp x) : PyData.strOk x = true := by
  unfold PyData.strOk
  rw [Array.all_eq_true_iff_forall_mem]
  intro c hc
  exact decide_eq_true (h c (Array.mem_def.mp hc))
theorem shp_str2 {v w : Str} (hv : PyData.strOk v = true) (hw : PyData.strOk w = true) : SeqAt.shaped (.tuple [.str v, .str w]) = true := by
  simp [SeqAt.shaped, PyData.canLay0, PyData.canLayAll0, hv, hw, PyData.depth, PyData.depthAll]
theorem eqv_str2 {v w : Str} : PyData.eqv (.tuple [.str v, .str w]) (.tuple [.str v, .str w]) = true := by simp [PyData.eqv, PyData.eqvAll]
end Ph

/-! PhOdd: data with dicts: kept where what it reaches is kept; bounds of its text. -/
namespace Ph
open PySem PySem.Spec PyProof.Rows L2
theorem sqL_same {K : PySem.W.Frag} {H H' : Hp} {a : Addr} {xs : List V} (s : Same H H') (h : SqL K H a xs) : SqL K H' a xs := s.seq h
theorem sqT_same {K : PySem.W.Frag} {H H' : Hp} {a : Addr} {xs : List V} (s : Same H H') (h : SqT K H a xs) : SqT K H' a xs := by
  rcases h with (h | ⟨o, h⟩) | h
  · exact .inl (.inl (s _ _ h))
  · exact .inl (.inr ⟨o, s _ _ h⟩)
  · exact .inr h
theorem Dq.same {K : PySem.W.Frag} {H H' : Hp} (s : Same H H') {v : V} {d : PyData} (h : Dq K H v d) : Dq K H' v d := by
  refine @Dq.rec K H (fun v d _ => Dq K H' v d) (fun vs ds _ => DqAll K H' vs ds) (fun kvs D _ => DqKvs K H' kvs D) ?_ ?_ ?_ ?_ ?_ ?_ ?_ ?_ ?_ ?_ ?_ v d h
  · exact .non
  · exact .bl
  · exact .int
  · exact .str
  · exact fun hs _ ih => .lst (sqL_same s hs) ih
  · exact fun hs _ ih => .tup (sqT_same s hs) ih
  · exact fun hs _ ih => .dct (hs.elim (fun e => .inl (s _ _ e)) fun ⟨o, e⟩ => .inr ⟨o, s _ _ e⟩) ih
  · exact .nil
  · exact fun _ _ i1 i2 => .cons i1 i2
  · exact .nil
  · exact fun _ _ i1 i2 => .cons i1 i2
/-- a heap without q: what changes at q alone leaves it as it is -/
theorem del_sub {H : Hp} {q : Addr} : Same (del H q) H := fun b o e => by
  by_cases h : b = q
  · rw [h, del_same] at e
    cases e
  · rw [del_ne h] at e
    exact e
structure Shd (d : PyData) (n k : Nat) : Prop where
  sh : d.showable = true
  dp : d.depth ≤ n
  lv : d.leavesShort 40 = true
  wt : d.weight ≤ k
  cp : cpD d = true
theorem Shd.ln {d : PyData} {n k : Nat} (s : Shd d n k) (hk : k ≤ 390000) : d.shown.length ≤ sizeLine := by
  have h := PyData.shown_le 40 (by decide) d s.lv
  have h2 := s.wt
  have h3 : sizeLine = 16777216 := by decide
  omega
theorem Shd.tup1 {d : PyData} {n k : Nat} (s : Shd d n k) : Shd (.tuple [d]) (n + 1) (k + 100) := by
  obtain ⟨h1, h2, h3, h4, h5⟩ := s
  refine ⟨by simp [PyData.showable, PyData.showableAll, h1], by simp [PyData.depth, PyData.depthAll]; omega, by simp [PyData.leavesShort, PyData.leavesShortAll, h3], by simp [PyData.weight, PyData.weightAll]; omega, by simp [cpD, cpAll, h5]⟩
theorem Shd.lst1 {d : PyData} {n k : Nat} (s : Shd d n k) : Shd (.list [d]) (n + 1) (k + 100) := by
  obtain ⟨h1, h2, h3, h4, h5⟩ := s
  refine ⟨by simp [PyData.showable, PyData.showableAll, h1], by simp [PyData.depth, PyData.depthAll]; omega, by simp [PyData.leavesShort, PyData.leavesShortAll, h3], by simp [PyData.weight, PyData.weightAll]; omega, by simp [cpD, cpAll, h5]⟩
theorem Shd.dct1 {d : PyData} {n k : Nat} (s : Shd d n k) : Shd (.dict [(.str "a", d)]) (n + 1) (k + 200) := by
  obtain ⟨h1, h2, h3, h4, h5⟩ := s
  have a1 : (PyData.str "a").showable = true := by decide +kernel
  have a2 : (PyData.str "a").depth = 0 := by decide +kernel
  have a3 : (PyData.str "a").leavesShort 40 = true := by decide +kernel
  have a4 : (PyData.str "a").weight ≤ 100 := by decide +kernel
  refine ⟨by simp [PyData.showable, PyData.showableKv, h1], by simp [PyData.depth, PyData.depthKv]; omega, by rw [PyData.leavesShort, PyData.leavesShortKv, PyData.leavesShortKv, a3, h3]; rfl, ?_, by rw [cpD, cpKv, cpKv, h5]; decide +kernel⟩
  simp [PyData.weight, PyData.weightKv]
  simp [PyData.weight] at a4
  omega
theorem but_del {H H' : Hp} {q : Addr} (b : But q H H') : Same (del H q) (del H' q) := fun c o e => by
  by_cases h : c = q
  · rw [h, del_same] at e
    cases e
  · rw [del_ne h] at e ⊢
    exact b _ _ h e
end Ph

/-! PhOd: odd values: nested data, kept whatever becomes of the addresses S (draws, tables). -/
namespace Ph
open PySem PySem.Spec PyProof.Rows L2
/-- a value that is no integer -/
inductive NoInt (K : PySem.W.Frag) (H : Hp) : V → Prop
  | bl (b : Bool) : NoInt K H (.bl b)
  | ty {x : V} {t : String} (h : TyX K H x (.type t)) (n : kitB t "int" = some false) : NoInt K H x
theorem tyX_same {K : PySem.W.Frag} {H H' : Hp} {x : V} {t : String} (s : Same H H') (h : TyX K H x (.type t)) : TyX K H' x (.type t) := by
  generalize ev : Value.type t = v at h
  cases h with
  | base b =>
    refine .base ?_
    cases b with
    | non => exact .non
    | bl x => exact .bl x
    | int i => exact .int i
    | str x => exact .str x
    | flt x => exact .flt x
    | lst e => exact .lst (s _ _ e)
    | frz e => exact .frz (s _ _ e)
    | tup e => exact .tup (s _ _ e)
    | dK e => exact .dK (s _ _ e)
    | dT e => exact .dT (s _ _ e)
    | ins e c a b d f => exact .ins (s _ _ e) c a b d f
  | byt b => exact .byt b
  | set e => exact .set (s _ _ e)
  | kList e c => exact .kList e c
  | kTuple e c => exact .kTuple e c
  | kDict e c => exact .kDict e c
  | fTuple e => exact .fTuple (s _ _ e)
  | fDict e => exact .fDict (s _ _ e)
theorem NoInt.same {K : PySem.W.Frag} {H H' : Hp} {x : V} (s : Same H H') (h : NoInt K H x) : NoInt K H' x := by
  cases h with
  | bl b => exact .bl b
  | ty h n => exact .ty (tyX_same s h) n
theorem NoInt.ne {K : PySem.W.Frag} {H : Hp} {i : Int} : ¬ NoInt K H (.int i) := fun h => by
  cases h with
  | ty h n =>
    generalize ev : Value.type _ = v at h
    cases h with
    | base b =>
      cases b
      cases ev
      exact absurd n (by decide +kernel)
/-- the heap without the addresses S -/
def hid (S : List Addr) (H : Hp) : Hp := fun b => if b ∈ S then none else H b
theorem hid_at {S : List Addr} {H : Hp} {b : Addr} (n : b ∉ S) : hid S H b = H b := if_neg n
theorem hid_sub {S : List Addr} {H : Hp} : Same (hid S H) H := fun b o e => by
  by_cases h : b ∈ S
  · rw [hid, if_pos h] at e
    cases e
  · rwa [hid_at h] at e
/-- all but S is kept -/
def ButS (S : List Addr) (H H' : Hp) : Prop := ∀ b o, b ∉ S → H b = some o → H' b = some o
theorem ButS.trans {S : List Addr} {H H1 H2 : Hp} (a : ButS S H H1) (b : ButS S H1 H2) : ButS S H H2 := fun c o n e => b c o n (a c o n e)
theorem ButS.refl (S : List Addr) (H : Hp) : ButS S H H := fun _ _ _ e => e
theorem ButS.of {S : List Addr} {H H' : Hp} (s : Same H H') : ButS S H H' := fun b o _ e => s b o e
theorem ButS.but {q : Addr} {H H' : Hp} (b : But q H H') : ButS [q] H H' := fun c o n e => b c o (fun z => n (by rw [z]; exact List.mem_singleton.mpr rfl)) e
theorem ButS.up {S T : List Addr} {H H' : Hp} (b : ButS S H H') (i : ∀ a ∈ S, a ∈ T) : ButS T H H' := fun c o n e => b c o (fun z => n (i c z)) e
theorem hid_but {S : List Addr} {H H' : Hp} (k : ButS S H H') : Same (hid S H) (hid S H') := fun b o e => by
  by_cases h : b ∈ S
  · rw [hid, if_pos h] at e
    cases e
  · rw [hid_at h] at e ⊢
    exact k b o h e
structure OdV (K : PySem.W.Frag) (S : List Addr) (H : Hp) (n : Nat) (x : V) (d : PyData) : Prop where
  dq : Dq K (hid S H) x d
  sd : Shd d (n + 2) (2000 + 200 * n)
  ty : NoInt K (hid S H) x ∨ ∃ i : Int, x = .int i
theorem Shd.up {d : PyData} {n m k l : Nat} (s : Shd d n k) (h1 : n ≤ m) (h2 : k ≤ l) : Shd d m l := ⟨s.sh, Nat.le_trans s.dp h1, s.lv, Nat.le_trans s.wt h2, s.cp⟩
theorem shd_intB {i : Int} (h : i.natAbs < 10 ^ 35) : Shd (.int i) 0 120 := by
  have hl : i.natAbs.log2 < 120 := by
    by_cases z : i.natAbs = 0
    · rw [z]; decide
    · exact (Nat.log2_lt z).mpr (Nat.lt_of_lt_of_le h (by decide))
  refine ⟨?_, by simp only [PyData.depth]; omega, ?_, ?_, by rw [cpD]⟩
  · simp only [PyData.showable, decide_eq_true_eq]
    omega
  · have e := int_text_length_le10 (a := i) (k := 35) (by decide) h
    have e2 : (PyData.shown (.int i)).length ≤ 40 := by
      show (Str.ofString (toString i)).length ≤ 40
      rw [PySem.ofString_length]
      omega
    simp only [PyData.leavesShort]
    exact decide_eq_true e2
  · simp only [PyData.weight]
    split <;> omega
theorem shd_int {i : Int} (h : i.natAbs < 10 ^ 20) : Shd (.int i) 0 120 := shd_intB (Nat.lt_trans h (by decide))
section
variable {K : PySem.W.Frag} {S : List Addr} {H H' : Hp} {n : Nat} {x : V} {d : PyData}
theorem OdV.keep (v : OdV K S H n x d) (k : ButS S H H') : OdV K S H' n x d := ⟨v.dq.same (hid_but k), v.sd, v.ty.elim (fun z => .inl (z.same (hid_but k))) .inr⟩
theorem OdV.same (v : OdV K S H n x d) (s : Same H H') : OdV K S H' n x d := v.keep (.of s)
theorem OdV.up {m : Nat} (v : OdV K S H n x d) (h : n ≤ m) : OdV K S H m x d := ⟨v.dq, v.sd.up (by omega) (by omega), v.ty⟩
theorem OdV.now (v : OdV K S H n x d) : Dq K H x d := v.dq.same hid_sub
theorem OdV.tyn (v : OdV K S H n x d) : NoInt K H x ∨ ∃ i : Int, x = .int i := v.ty.elim (fun z => .inl (z.same hid_sub)) .inr
theorem OdV.int {i : Int} (h : i.natAbs < 10 ^ 20) : OdV K S H 0 (.int i) (.int i) := ⟨.int i, (shd_int h).up (by omega) (by omega), .inr ⟨i, rfl⟩⟩
theorem OdV.intB {i : Int} (h : i.natAbs < 10 ^ 35) : OdV K S H 0 (.int i) (.int i) := ⟨.int i, (shd_intB h).up (by omega) (by omega), .inr ⟨i, rfl⟩⟩
theorem OdV.bl (b : Bool) : OdV K S H 0 (.bl b) (.bool b) := ⟨.bl b, by cases b <;> exact ⟨by decide +kernel, by decide +kernel, by decide +kernel, by decide +kernel, by decide +kernel⟩, .inl (.bl b)⟩
theorem OdV.non : OdV K S H 0 .non .none := ⟨.non, ⟨by decide +kernel, by decide +kernel, by decide +kernel, by decide +kernel, by decide +kernel⟩, .inl (.ty (.base .non) (by decide +kernel))⟩
theorem OdV.str (y : Str) (s : Shd (.str y) 2 2000) : OdV K S H 0 (.str y) (.str y) := ⟨.str y, s, .inl (.ty (.base (.str y)) (by decide +kernel))⟩
theorem OdV.tup {t : Addr} {xs : List V} {ds : List PyData} (e : H t = some (.tup xs)) (nt : t ∉ S) (a : DqAll K (hid S H) xs ds) (s : Shd (.tuple ds) (n + 2) (2000 + 200 * n)) : OdV K S H n (.ref t) (.tuple ds) :=
  have e' : hid S H t = some (.tup xs) := (hid_at nt).trans e
  ⟨.tup (.inl (.inl e')) a, s, .inl (.ty (.base (.tup e')) (by decide +kernel))⟩
theorem OdV.lst {t : Addr} {xs : List V} {ds : List PyData} (e : H t = some (.lst xs)) (nt : t ∉ S) (a : DqAll K (hid S H) xs ds) (s : Shd (.list ds) (n + 2) (2000 + 200 * n)) : OdV K S H n (.ref t) (.list ds) :=
  have e' : hid S H t = some (.lst xs) := (hid_at nt).trans e
  ⟨.lst (.inl (.inl e')) a, s, .inl (.ty (.base (.lst e')) (by decide +kernel))⟩
theorem OdV.dct {t : Addr} {kvs : List (Key × V)} {ds : List (PyData × PyData)} (e : H t = some (.dK kvs)) (nt : t ∉ S) (a : DqKvs K (hid S H) kvs ds) (s : Shd (.dict ds) (n + 2) (2000 + 200 * n)) : OdV K S H n (.ref t) (.dict ds) :=
  have e' : hid S H t = some (.dK kvs) := (hid_at nt).trans e
  ⟨.dct (.inl e') a, s, .inl (.ty (.base (.dK e')) (by decide +kernel))⟩
theorem OdV.tup1 {t : Addr} (v : OdV K S H n x d) (e : H t = some (.tup [x])) (nt : t ∉ S) : OdV K S H (n + 1) (.ref t) (.tuple [d]) := .tup e nt (.cons v.dq .nil) (v.sd.tup1.up (by omega) (by omega))
theorem OdV.lst1 {t : Addr} (v : OdV K S H n x d) (e : H t = some (.lst [x])) (nt : t ∉ S) : OdV K S H (n + 1) (.ref t) (.list [d]) := .lst e nt (.cons v.dq .nil) (v.sd.lst1.up (by omega) (by omega))
theorem OdV.dct1 {t : Addr} (v : OdV K S H n x d) (e : H t = some (.dK [(Sum.inr "a", x)])) (nt : t ∉ S) : OdV K S H (n + 1) (.ref t) (.dict [(.str "a", d)]) := .dct e nt (.cons (k := Sum.inr "a") v.dq .nil) (v.sd.dct1.up (by omega) (by omega))
theorem Shd.tup2 {m k : Nat} (s : Shd d m k) : Shd (.tuple [d, .int 1]) (m + 1) (k + 200) := by
  obtain ⟨h1, h2, h3, h4, h5⟩ := s
  have a1 : (PyData.int 1).showable = true := by decide +kernel
  have a2 : (PyData.int 1).depth = 0 := by decide +kernel
  have a3 : (PyData.int 1).leavesShort 40 = true := by decide +kernel
  have a4 : (PyData.int 1).weight ≤ 100 := by decide +kernel
  refine ⟨by rw [PyData.showable, PyData.showableAll, PyData.showableAll, PyData.showableAll, h1, a1]; rfl, by simp [PyData.depth, PyData.depthAll]; omega, by rw [PyData.leavesShort, PyData.leavesShortAll, PyData.leavesShortAll, PyData.leavesShortAll, a3, h3]; rfl, by simp [PyData.weight, PyData.weightAll]; simp [PyData.weight] at a4; omega, by simp [cpD, cpAll, h5]⟩
theorem OdV.tup2 {t : Addr} (v : OdV K S H n x d) (e : H t = some (.tup [x, .int 1])) (nt : t ∉ S) : OdV K S H (n + 1) (.ref t) (.tuple [d, .int 1]) := .tup e nt (.cons v.dq (.cons (.int 1) .nil)) (v.sd.tup2.up (by omega) (by omega))
end
theorem same_upd2 {H : Hp} {a : Addr} {o o' : HO} (n : H a = none) : Same H (upd (upd H a o) a o') := fun b u e => by
  rw [upd_upd, upd_ne (ne_of_none e n)]
  exact e
/-- the list of what is drawn from -/
def OdL (K : PySem.W.Frag) (S : List Addr) (H : Hp) (xs : List V) : Prop := ∀ x ∈ xs, ∃ d, OdV K S H 0 x d
theorem OdL.keep {K : PySem.W.Frag} {S : List Addr} {H H' : Hp} {xs : List V} (h : OdL K S H xs) (k : ButS S H H') : OdL K S H' xs := fun x hx => (h x hx).elim fun d o => ⟨d, o.keep k⟩
theorem OdL.app {K : PySem.W.Frag} {S : List Addr} {H : Hp} {xs ys : List V} (h : OdL K S H xs) (h' : OdL K S H ys) : OdL K S H (xs ++ ys) := fun x hx => (List.mem_append.mp hx).elim (h x) (h' x)
theorem OdL.nil {K : PySem.W.Frag} {S : List Addr} {H : Hp} : OdL K S H [] := fun x hx => nomatch hx
theorem OdL.cons {K : PySem.W.Frag} {S : List Addr} {H : Hp} {x : V} {xs : List V} {d : PyData} (o : OdV K S H 0 x d) (h : OdL K S H xs) : OdL K S H (x :: xs) := fun y hy => (List.mem_cons.mp hy).elim (fun e => ⟨d, e ▸ o⟩) (h y)
theorem OdL.ints {K : PySem.W.Frag} {S : List Addr} {H : Hp} : ∀ {ns : List Int}, (∀ n ∈ ns, n.natAbs < 10 ^ 20) → OdL K S H (ns.map V.int)
  | [], _ => .nil
  | n :: r, h => .cons (.int (h n (List.mem_cons_self ..))) (OdL.ints fun m hm => h m (List.mem_cons_of_mem _ hm))
end Ph

set_option maxHeartbeats 4000000
/-! PhTry: try .. except X as e: the error kept as a value behind the suite; isinstance and fields of it there. -/
namespace Ph
open PySem PySem.Spec PyProof.Rows L2
/-- a caught error that a name still holds: its class, its dict -/
def ExK (cls : Value) (d : Option Addr) (a : Addr) : HO := .ext fun g => ∃ (ob : Obj) (fs : Array Value), g.get? a = some ob ∧ Zc cls d ob ∧ ob.data = .fields fs
section
variable {X : Cx} {pins : List (Addr × Obj)} {σ : L2.St} {H : Hp} {s : Shared}
theorem exK_at {cls : Value} {d : Option Addr} {a : Addr} (I : Inv X pins σ H s) (e : H a = some (ExK cls d a)) : ∃ ob, s.heap.get? a = some ob ∧ Zc cls d ob ∧ ∃ fs, ob.data = .fields fs := by
  obtain ⟨⟨ob, fs, e1, e2, e3⟩, _⟩ := I.hok a _ e
  exact ⟨ob, e1, e2, fs, e3⟩
/-- an object that came up in this call is tracked from now on -/
theorem track_of {a : Addr} {ob : Obj} {fs : Array Value} {cls : Value} {d : Option Addr} (I : Inv X ((a, ob) :: pins) σ H s) (z : Zc cls d ob) (hf : ob.data = .fields fs) (fresh : X.s_0.heap.get? a = none) (apart : ∀ p ∈ X.pn ++ pins, p.1 ≠ a) :
    Inv X pins σ (upd H a (ExK cls d a)) s := by
  obtain ⟨get, none_, notL, _, _⟩ := I.pin (a, ob) (List.mem_append_right _ List.mem_cons_self)
  have keepH : ∀ {b u}, H b = some u → upd H a (ExK cls d a) b = some u := fun {b u} e => (upd_ne (ne_of_none e none_)).trans e
  have notC : ∀ y c, X.env.cells.lookup y = some c → c ≠ a := fun y c e q => by
    obtain ⟨v, o2, g2, d2⟩ := I.cell y c e
    rw [q, get] at g2
    cases g2
    rw [hf] at d2
    cases d2
  have old : ∀ {b o}, X.s_0.heap.get? b = some o → b ≠ a := fun {b o} e q => by
    rw [q, fresh] at e
    cases e
  exact {
    ok := I.ok
    os := I.os
    bare := I.bare
    base := {
      keep := I.base.keep
      slot := I.base.slot
      free := fun b o e n x => (upd_ne (old e)).trans (I.base.free b o e n x)
      there := I.base.there
      tups := fun b xs e => keepH (I.base.tups b xs e)
      frzs := fun b o u e => keepH (I.base.frzs b o u e)
      tbls := fun b ps e => (I.base.tbls b ps e).elim fun m q => ⟨m, keepH q⟩ }
    loc := I.loc
    cell := I.cell
    free := (upd_ne notL.symm).trans I.free
    freeC := fun y c e => (upd_ne (notC y c e)).trans (I.freeC y c e)
    pin := fun p hp => by
      obtain ⟨q1, q2, q3⟩ := I.pin p ((List.mem_append.mp hp).elim (fun y => List.mem_append_left _ y) fun y => List.mem_append_right _ (List.mem_cons_of_mem _ y))
      exact ⟨q1, (upd_ne (apart p hp)).trans q2, q3⟩
    hok := fun b u e => by
      by_cases h : b = a
      · subst h
        rw [upd_same] at e
        cases e
        exact ⟨⟨ob, fs, get, z, hf⟩, ⟨ob, get⟩, fun g1 g2 ⟨o2, f2, y1, y2⟩ y3 => ⟨o2, f2, y3 _ y1, y2⟩⟩
      · rw [upd_ne h] at e
        exact (I.hok b u e).stay (fun _ _ _ y => y) (fun _ y => keepH y) fun _ _ y => keepH y
    len := I.len }
end
/-- the wish of 'except X as n' (slot i), the error still known behind the suite -/
def wKept (K : PySem.W.Frag) (c : Value) (i : Nat) (ts : Addr → Value → Option Addr → TS) (D : Ends) : WX := fun cls d σ H =>
  PySem.W.exmOne K cls c = some true ∧ ∀ a, H a = none → ts a cls d ⟨fun σ' H' => H' a = none → D.nx (σ'.set i none) (upd H' a (ExK cls d a)), D.rt, fun σ' H' => D.bk (σ'.set i none) H', fun σ' H' => D.ct (σ'.set i none) H'⟩ (σ.set i (some (.ref a))) H
section
variable {X : Cx} {x n : Str} {c : Value} {i : Nat} {body suite : List Stmt} {st₀ : Stmt} {np pos pos' : Pos} {tb : WX → TS} {ts : Addr → Value → Option Addr → TS}
theorem ps_try_keep (stk : X.stack = X.env :: X.outer) (fr : X.env.frame = some X.env.locals) (hex : X.ex = []) (nd : X.N.Nodup) (slot : X.N[i]? = some n) (kd : X.env.kindOf n = some .local) (hc : Names X x c)
    (hbody : ∀ (W : WX) (pn : List (Addr × Obj)) (xe : Value → Shared → Prop), Takes (X.tr pn xe) W → PassesOwn (model X.prog X.w) X.A X.env xe → PSs (X.tr pn xe) body (tb W))
    (hsuite : ∀ (a : Addr) (oe : Obj) (cls : Value) (d : Option Addr) (pn : List (Addr × Obj)), Zc cls d oe → (∃ fs, oe.data = .fields fs) → PSs (X.suite a ((a, oe) :: pn)) (st₀ :: suite) (ts a cls d)) :
    PS X (.Try body [.ExceptHandler (some (.Name x np)) (some n) (st₀ :: suite) pos'] [] [] pos) (fun D σ H => tb (wKept X.K c i ts D) D σ H) := by
  constructor
  intro pins s σ H D I want
  have allFr : X.A.frames = some (X.env :: X.outer) := by rw [← stk]; exact I.ok.frames
  let Xt : Value → Shared → Prop := fun e t1 => wpAny (model X.prog X.w) X.A (noteFrame e X.env) (fun _ t2 => wpAny (model X.prog X.w) X.A (setFlight e none) (fun _ t3 =>
    wpAny (model X.prog X.w) X.A (handleBy e X.env [.ExceptHandler (some (.Name x np)) (some n) (st₀ :: suite) pos']) (SP X pins D) X.xe t3) X.xe t2) X.xe t1
  have catch_ : Takes (X.tr (X.pn ++ pins) Xt) (wKept X.K c i ts D) := by
    rintro u s' ⟨a, B, sI, pins', σ', H', cls, d, rfl, J', inB, up, sky, na, hos, bare, hexm, hyes⟩
    have J : Inv X pins σ' H' sI := J'.ofTry I.ok
    have sky2 : Sky B (X.env :: X.outer) a (Zc cls d) X.env.locals s'.heap := stk ▸ sky
    show wpAny (model X.prog X.w) X.A (noteFrame (.ref a) X.env) _ _ _
    refine Sky.land Zc.steady allFr fr sky2 fun g3 fly3 up3 => ?_
    have J3 : Inv X pins σ' H' { s' with heap := g3 } := J.landed inB fly3.1 (up.trans up3) hos bare
    obtain ⟨o3, f3, at3, z3, d3⟩ := fly3.there
    have offFr : ∀ {g : Heap} {o : Obj} {f : Array Value}, g.FunFrames B (X.env :: X.outer) → g.get? a = some o → o.data = .fields f → a ∉ frs (X.env :: X.outer) := fun ff e dd hm => by
      obtain ⟨_, o2, e2, no2⟩ := ff.mem hm
      rw [e] at e2
      cases e2
      exact no2 _ dd
    have off := offFr fly3.2.2.1 at3 d3
    have offL : a ≠ X.env.locals := fun z => off (List.mem_filterMap.mpr ⟨X.env, List.mem_cons_self, by rw [fr, z]⟩)
    have offO : a ∉ X.fs := fun hm => (List.mem_filterMap.mp hm).elim fun e q => off (List.mem_filterMap.mpr ⟨e, List.mem_cons_of_mem _ q.1, q.2⟩)
    have newI : sI.heap.get? a = none := by
      cases q : sI.heap.get? a with
      | none => rfl
      | some o =>
        have := inB a o q (by rw [stk]; exact off)
        rw [fly3.2.1] at this
        cases this
    have new0 : X.s_0.heap.get? a = none := by
      cases q : X.s_0.heap.get? a with
      | none => rfl
      | some o =>
        obtain ⟨o2, q2⟩ := J.base.there a o q (by rw [hex]; exact fun y => nomatch y)
        rw [newI] at q2
        cases q2
    have apart : ∀ p ∈ X.pn ++ pins, p.1 ≠ a := fun p hp q => by
      have := (J.pin p hp).1
      rw [q, newI] at this
      cases this
    have S3 := J3.suite at3 d3 na offL offO
    refine wpAny_handleBy_cons (codeAny_handlers_test ?_) (fun q => nomatch q)
    have typ : PySem.W.Looks (model X.prog X.w) g3 (typeOf (.ref a)) cls := fun A Q E s k q => wpAny_typeOf_ref (k _ _ at3) (z3.1.symm ▸ q)
    have asks := PySem.W.exm_one (M := model X.prog X.w) J3.kIn typ hexm
    have named : ∀ {Q E : Value → Shared → Prop}, Q c { s' with heap := g3 } → wpAny (model X.prog X.w) (X.A.mark (some (.ref a))) (eval (.Name x np) X.env) Q E { s' with heap := g3 } := fun {Q E} q => by
      rcases hc with ⟨gl, dbg, own | ⟨out, boot, nn⟩⟩
      · exact ld_glob (X := X.suite a ((a, o3) :: (X.pn ++ pins))) S3 gl own q dbg
      · exact ld_blt (X := X.suite a ((a, o3) :: (X.pn ++ pins))) S3 gl out boot q nn dbg
    refine named (asks.here ?_)
    refine codeAny_handlers_suite_as (HandSPX.lands_againZ fly3 fun g4 fly4 up4 => ?_)
    have J4 : Inv X pins σ' H' { s' with heap := g4 } := J.landed inB fly4.1 ((up.trans up3).trans up4) hos bare
    obtain ⟨o4, f4, at4, z4, d4⟩ := fly4.there
    have S4 := J4.suite at4 d4 na offL offO
    refine store_ok (X := X.suite a ((a, o4) :: (X.pn ++ pins))) (v := .ref a) S4 nd slot (.inl kd) rfl (fun s5 S5 => ?_) (.inr kd)
    refine wpAny_mono ((hsuite a o4 cls d (X.pn ++ pins) z4 ⟨_, d4⟩).run [] s5 _ H' _ S5 (hyes a na)) (fun flow s6 out => ?_) (fun _ _ y => y.elim)
    have plain : ∀ {σ6 : L2.St} {H6 : Hp} {Q : Shared → Prop}, Inv (X.suite a ((a, o4) :: (X.pn ++ pins))) [] σ6 H6 s6 → (∀ s7, Inv X pins (σ6.set i none) H6 s7 → Q s7) →
        wpAny (model X.prog X.w) X.A (do bindName X.env n .none; unbindBehindTheSuite X.env n pos') (fun _ s7 => Q s7) X.xe s6 := fun S6 hq => gone_ok (S6.unsuite I.ok) nd slot kd hq
    match flow, out with
    | .next, ⟨σ6, H6, S6, q6⟩ =>
      have P6 : Inv X ((a, o4) :: pins) σ6 H6 s6 := (S6.unsuite I.ok).pins_of fun p hp => S6.pin p (List.mem_append_left _ ((List.mem_cons.mp hp).elim (fun e => e ▸ List.mem_cons_self) fun e => List.mem_cons_of_mem _ (List.mem_append_right _ e)))
      exact gone_ok P6 nd slot kd fun s7 J7 => ⟨_, _, track_of J7 z4 d4 new0 apart, q6 (J7.pin (a, o4) (List.mem_append_right _ List.mem_cons_self)).2.1⟩
    | .brk, ⟨σ6, H6, S6, q6⟩ => exact plain S6 fun s7 J7 => ⟨_, _, J7, q6⟩
    | .cont, ⟨σ6, H6, S6, q6⟩ => exact plain S6 fun s7 J7 => ⟨_, _, J7, q6⟩
    | .ret u, ⟨v6, σ6, H6, S6, r6, q6⟩ => exact plain S6 fun s7 J7 => ⟨_, _, _, J7, r6, q6⟩
  refine wpAny_Try_except (wpAny_mono ((hbody _ _ _ catch_ PassesOwn.looking).run [] s σ H D (I.toTry _) want) (fun f s1 out => ?_) fun e s1 he => he)
  match f, out with
  | .next, ⟨σ', H', J, q⟩ => exact wpAny_execs_nil ⟨_, _, J.ofTry I.ok, q⟩
  | .brk, ⟨σ', H', J, q⟩ => exact ⟨_, _, J.ofTry I.ok, q⟩
  | .cont, ⟨σ', H', J, q⟩ => exact ⟨_, _, J.ofTry I.ok, q⟩
  | .ret u, ⟨v, σ', H', J, r, q⟩ => exact ⟨_, _, _, J.ofTry I.ok, r, q⟩
end
/-! ### isinstance and fields of a kept error -/
section
variable {X : Cx}
theorem inst_at {h : Heap} {a D : Addr} {d : Option Addr} {oe : Obj} {P : Program} {w : World} {H : Hp} (hok : HOk P w H h) (hget : h.get? a = some oe) (hz : Zc (.ref D) d oe) (hf : ∃ vs, oe.data = .fields vs) (k : DictK H d) : ∃ od, PySem.W.InstAt h a oe D od := by
  obtain ⟨vs, hv⟩ := hf
  have no : PySem.W.notCls oe = true := by
    unfold PySem.W.notCls
    rw [hv]
  rcases k with rfl | ⟨dd, fs, rfl, e⟩
  · exact ⟨none, hget, hz.1, no, by rw [hz.2]; trivial⟩
  · obtain ⟨mA, hns, _⟩ : ObjOk P w H h dd (.xd fs) := hok dd _ e
    obtain ⟨od, ho, _⟩ := lookIn_ns hns
    exact ⟨some od, hget, hz.1, no, by rw [hz.2]; exact ho⟩
/-- isinstance(e, c), e a kept error -/
def rIsK (K : PySem.W.Frag) : List V → Hp → VK → Prop := fun xs H Q => ∃ (a D : Addr) (d : Option Addr) (c : V) (cv : Value) (b : Bool), xs = [.ref a, c] ∧ H a = some (ExK (.ref D) d a) ∧ ExcC K D ∧ DictK H d ∧ (∀ u, RelV c u → u = cv) ∧ PySem.W.kitOne K (.ref D) cv = some b ∧ Q (.bl b) H
theorem call_isK : CallR X (.builtin "isinstance") (rIsK X.K) := by
  intro pins s σ H xs us Q I r h
  obtain ⟨a, D, d, c, cv, b, rfl, ea, C, k, hcv, e, q⟩ := h
  obtain ⟨ua, uc, rfl, ra, rc⟩ : ∃ ua uc, us = [ua, uc] ∧ RelV (.ref a) ua ∧ RelV c uc := by
    cases r with
    | cons r1 r2 => cases r2 with
      | cons r3 r4 =>
        cases r4
        exact ⟨_, _, rfl, r1, r3⟩
  obtain rfl : ua = Value.ref a := ra
  obtain rfl := hcv _ rc
  obtain ⟨oe, hget, hz, hf⟩ := exK_at I ea
  obtain ⟨od, J⟩ := inst_at I.hok hget hz hf k
  have cl : (PySem.W.clsIn X.K D).isSome = true := by
    obtain ⟨cd, hc, _⟩ := PySem.W.any_some C.hd
    rw [hc]
    rfl
  exact PySem.W.kia_one (PySem.W.kitx_exc (od := od) cl C.hg C.hk C.hs C.ha C.hn C.ht C.hm) I.kIn J e (fun z => nomatch z) fun tk => ⟨.bl b, H, I.kept (t' := tk) fun _ _ z => z, rfl, q⟩
/-- e.f, e a kept error of the class C -/
def tXk (C : Addr) (f : Str) (te : TE) : TE := fun σ H Q => te σ H fun x H1 => ∃ (a dd : Addr) (fs : List (Str × V)) (v : V), x = .ref a ∧ H1 a = some (ExK (.ref C) (some dd) a) ∧ H1 dd = some (.xd fs) ∧ fs.lookup f = some v ∧ Q v H1
theorem pe_xk {C : Addr} {e : Expr} {te : TE} {pos : Pos} {n : Str} (T : XfC X.K C) (hno : PySem.W.findIn X.K (.ref C) n = some none) (he : PE X e te) (hb : attributeBase e n X.env (eval e X.env) = eval e X.env := by rfl) : PE X (.Attribute e n pos) (tXk C n te) := by
  constructor
  intro pins s σ H Q I h
  refine attr_of hb (thn (he.run pins s σ H _ I h) fun u s1 ⟨x, H1, I1, rx, a, dd, fs, v, ex, ea, ed, l, q⟩ => ?_)
  subst ex
  obtain rfl : u = Value.ref a := rx
  obtain ⟨oe, hget, hz, vs, hd⟩ := exK_at I1 ea
  obtain ⟨mA, hns, hr⟩ : ObjOk X.prog X.w H1 s1.heap dd (.xd fs) := I1.hok dd _ ed
  obtain ⟨od, ho, hl⟩ := lookIn_ns hns
  obtain ⟨u, hu, ru⟩ := RelO.some_of (v := v) (o := mA n) (by rw [← l]; exact hr n)
  have J : PySem.W.InstAt s1.heap a oe C (some od) := ⟨hget, hz.1, by unfold PySem.W.notCls; rw [hd], by rw [hz.2]; exact ho⟩
  exact HandSPX.exc_get I1.kIn J T.ga T.gg T.exC (PySem.W.findObj_own T.hdC hno rfl (by rw [hl, hu])) (handed_of ru) ⟨v, H1, I1.tok _, ru, q⟩
end
end Ph

set_option maxHeartbeats 4000000
/-! PhTab: the end of a law whose defs make lambdas or defs (their code objects' tables are tracked), the guards known. -/
namespace Ph
open PySem PySem.Spec PyProof.Rows L2 LamX
/-- code objects and their tables: empty at the start, no part of the written part -/
structure TabsE (K : PySem.W.Frag) (h : Heap) (cs : List (Addr × Addr)) : Prop where
  em : ∀ p ∈ cs, h.get? p.2 = some { cls := .none, data := .fields #[] }
  out : ∀ p ∈ cs, K.lookup p.2 = none
  cd : ∀ p ∈ cs, PySem.W.CodeHd h p.1 p.2
theorem TabsE.at {K : PySem.W.Frag} {h : Heap} {cs : List (Addr × Addr)} (T : TabsE K h cs) {b : Addr} (hb : b ∈ cs.map (·.2)) : h.get? b = some { cls := .none, data := .fields #[] } ∧ K.lookup b = none ∧ ∃ c, PySem.W.CodeHd h c b := by
  obtain ⟨p, hp, rfl⟩ := List.mem_map.mp hb
  exact ⟨T.em p hp, T.out p hp, p.1, T.cd p hp⟩
section
variable {P : Program} {w : World} {K : PySem.W.Frag} {mg mb : Str → Option Value} {k : Nat} {fa a : Addr} {fd : FuncData} {x : Str} {sp : Sp} {s₁ : Shared} {vs : List Value} {ns : List Int} {cs : List (Addr × Addr)}
theorem end_coreT (T : TabsE K s₁.heap cs) (KX : K.In s₁.heap) (hns : s₁.heap.Ns mainGlobals mg) (hb : s₁.heap.Ns builtinsNs mb) (hbb : ∀ z : Str, z ≠ "__name__" → mb z = bootBuiltins z) (lim : s₁.heap.NoLimit) (gens : s₁.gens = #[])
    (hbm : ∃ (bm : Addr) (ob : Obj), mg "__builtins__" = some (.ref bm) ∧ bm ≠ builtinsNs ∧ s₁.heap.get? bm = some ob ∧ ob.cls = .type "module" ∧ ob.dict = some builtinsNs ∧ ob.data = .plain)
    (isList : ∃ (vz : Array Value) (nz : Nat), s₁.heap.get? a = some { cls := .type "list", data := .seq vz nz }) (room : Room k callerA) (F : ∀ base : Heap, K.In base → base.Ns mainGlobals mg → (∀ p ∈ cs, TabB base mg p.1 p.2) → FnG P w K mg base CX0 k fa fd [x] sp) (bnd : ∀ (s : Shared) (u : Value), BindsTo s fd ⟨[u], []⟩ [(x, u)])
    (H : Hp) (alone : ∀ b o, H b = some o → (b = a ∧ ∃ ob zs, o = .frz ob (.lst zs)) ∨ (b ∈ cs.map (·.2) ∧ o = .tbl #[])) (tabs : ∀ p ∈ cs, H p.2 = some (.tbl #[])) (ok : HOk P w H s₁.heap) (free : H a ≠ none → K.lookup a = none) (want : sp [.ref a] H (fun v _ => v = .bl true) fun _ _ _ => False) :
    codeAny (model P w) callerA (.call (.ref fa) ⟨[.ref a], []⟩) (LawEnd s₁) s₁ := by
  obtain ⟨vz, nz, ha⟩ := isList
  -- what is neither a list nor an empty table is not tracked
  have plain : ∀ {b : Addr} {o : Obj}, s₁.heap.get? b = some o → (∀ v m, o.data ≠ .seq v m) → o.data ≠ .fields #[] → H b = none := fun {b o} g n1 n2 => by
    cases z : H b with
    | none => rfl
    | some u =>
      rcases alone b u z with ⟨e, _⟩ | ⟨e, _⟩
      · rw [e, ha] at g
        cases g
        exact absurd rfl (n1 vz nz)
      · rw [(T.at e).1] at g
        cases g
        exact absurd rfl n2
  have dictFree : ∀ {b : Addr} {o : Obj} {es : Array DictEntry} {ep : Nat}, s₁.heap.get? b = some o → o.data = .dict es ep → H b = none := fun g d => plain g (fun v m z => by rw [d] at z; cases z) fun z => by rw [d] at z; cases z
  have ns2 : ∀ {b : Addr} {m : Str → Option Value}, s₁.heap.Ns b m → (hidT s₁.heap H).Ns b m := fun ⟨o, es, ep, g, d, rest⟩ => ⟨o, es, ep, hidT_get g (dictFree g d), d, rest⟩
  have kin : K.In (hidT s₁.heap H) := fun b o g => hidT_get (KX b o g) (by
    cases z : H b with
    | none => rfl
    | some u =>
      rcases alone b u z with ⟨e, _⟩ | ⟨e, _⟩
      · subst e
        rw [free (by rw [z]; exact fun q => nomatch q)] at g
        cases g
      · rw [(T.at e).2.1] at g
        cases g)
  have modu : L2.Mod K mg (hidT s₁.heap H) := ⟨kin, ns2 hns, ⟨mb, ns2 hb, hbb⟩, let ⟨mc, z1, z2⟩ := lim; ⟨mc, ns2 z1, z2⟩⟩
  have made : ∀ p ∈ cs, TabB (hidT s₁.heap H) mg p.1 p.2 := fun p hp => by
    constructor
    · obtain ⟨o, us, file, tf, flags, tg, inF, text, tt, e1, r1, r2, r3, rest⟩ := T.cd p hp
      refine ⟨o, us, file, tf, flags, tg, inF, text, tt, hidT_get e1 (plain e1 (fun v m z => by rw [r2] at z; cases z) fun z => ?_), r1, r2, r3, rest⟩
      rw [r2] at z
      cases z
      simp at r3
    · obtain ⟨bm, ob, b1, b2, b3, b4, b5, b6⟩ := hbm
      refine ⟨bm, ob, b1, b2, fun q => ?_, fun q => ?_, hidT_get b3 (plain b3 (fun v m z => by rw [b6] at z; cases z) fun z => by rw [b6] at z; cases z), b4, b5, b6⟩
      · obtain ⟨o, es, ep, e, hd, _⟩ := hns
        rw [q, e] at b3
        cases b3
        rw [hd] at b6
        cases b6
      · rw [q, T.em p hp] at b3
        cases b3
        cases b6
    · intro z
      obtain ⟨o, es, ep, e, hd, _⟩ := hns
      rw [z, T.em p hp] at e
      cases e
      cases hd
  have env : Env0 P w K mg (hidT s₁.heap H) callerA [] s₁ H := ⟨rfl, modu, fun b o g => of_hidT g, Nat.le_of_eq (hidT_size _ _), trivial, fun b hb => (List.not_mem_nil hb).elim, ok, .of_eq gens⟩
  refine codeAny_mono ((F _ kin (ns2 hns) made).go callerA [] s₁ H ⟨[.ref a], []⟩ [.ref a] [.ref a] _ _ rfl room env (bnd s₁ (.ref a)) (.cons rfl .nil) want) fun r s2 out => ?_
  match r, out with
  | .error _, out => exact out.elim
  | .ok (.ret u), ⟨v, H', os, bare, un, ok2, rel, good⟩ =>
    have good' : v = .bl true := good
    subst good'
    obtain rfl : u = Value.bool true := rel
    have fixed : ∀ {b : Addr} {o : Obj}, b ∉ cs.map (·.2) → s₁.heap.get? b = some o → s2.heap.get? b = some o := fun {b o} nb g => by
      cases z : H b with
      | none => exact un.keep b o g z (fun q => (List.not_mem_nil q).elim) (by simp)
      | some u =>
        rcases alone b u z with ⟨_, ob, zs, rfl⟩ | ⟨e, _⟩
        · obtain ⟨e1, _⟩ := ok b _ z
          obtain ⟨e2, _⟩ := ok2 b _ (un.frzs b ob _ z)
          rw [g] at e1
          cases e1
          exact e2
        · exact absurd e nb
    have more : ∀ {b : Addr}, b ∈ cs.map (·.2) → ∃ vs2 : Array Value, s2.heap.get? b = some { cls := .none, data := .fields vs2 } := fun {b} hb => by
      obtain ⟨p, hp, rfl⟩ := List.mem_map.mp hb
      obtain ⟨m2, z⟩ := un.tbls p.2 #[] (tabs p hp)
      exact ⟨_, ok2 p.2 _ z⟩
    refine ⟨rfl, ⟨fun b o g => ?_, fun b o g => ?_⟩, os, bare⟩
    · by_cases hb : b ∈ cs.map (·.2)
      · obtain ⟨em, _, c, cd⟩ := T.at hb
        obtain ⟨vs2, g2⟩ := more hb
        rw [em] at g
        cases g
        exact .inr (.inl ⟨(cd.tab em).isCodeTable, rfl, #[], vs2, rfl, by rw [Array.empty_append]; exact g2⟩)
      · exact .inl (fixed hb g)
    · by_cases hb : b ∈ cs.map (·.2)
      · exact (more hb).elim fun vs2 g2 => ⟨_, g2⟩
      · exact ⟨o, fixed hb g⟩
theorem end_callT (T : TabsE K s₁.heap cs) (KX : K.In s₁.heap) (hns : s₁.heap.Ns mainGlobals mg) (hb : s₁.heap.Ns builtinsNs mb) (hbb : ∀ z : Str, z ≠ "__name__" → mb z = bootBuiltins z) (lim : s₁.heap.NoLimit) (gens : s₁.gens = #[])
    (hbm : ∃ (bm : Addr) (ob : Obj), mg "__builtins__" = some (.ref bm) ∧ bm ≠ builtinsNs ∧ s₁.heap.get? bm = some ob ∧ ob.cls = .type "module" ∧ ob.dict = some builtinsNs ∧ ob.data = .plain)
    (ha : s₁.heap.get? a = some { cls := .type "list", data := .seq vs.toArray }) (hi : IntsAre vs ns) (hl : ns.length ≤ sizeLine) (room : Room k callerA) (F : ∀ base : Heap, K.In base → base.Ns mainGlobals mg → (∀ p ∈ cs, TabB base mg p.1 p.2) → FnG P w K mg base CX0 k fa fd [x] sp) (bnd : ∀ (s : Shared) (u : Value), BindsTo s fd ⟨[u], []⟩ [(x, u)])
    (want : ∀ H : Hp, (∀ p ∈ cs, H p.2 = some (.tbl #[])) → SqL K H a (ns.map V.int) → sp [.ref a] H (fun v _ => v = .bl true) fun _ _ _ => False) :
    codeAny (model P w) callerA (.call (.ref fa) ⟨[.ref a], []⟩) (LawEnd s₁) s₁ := by
  have notT : a ∉ cs.map (·.2) := fun z => by
    have g := (T.at z).1
    rw [ha] at g
    cases g
  have memT : ∀ p ∈ cs, p.2 ∈ cs.map (·.2) := fun p hp => List.mem_map_of_mem hp
  let HT : Hp := fun b => if b ∈ cs.map (·.2) then some (.tbl #[]) else none
  have HTy : ∀ {b}, b ∈ cs.map (·.2) → HT b = some (.tbl #[]) := fun h => if_pos h
  have HTn : ∀ {b}, b ∉ cs.map (·.2) → HT b = none := fun h => if_neg h
  cases lk : K.lookup a with
  | some o =>
    have g := KX a o lk
    rw [ha] at g
    cases g
    refine end_coreT T KX hns hb hbb lim gens hbm ⟨_, _, ha⟩ room F bnd HT (fun b o z => ?_) (fun p hp => HTy (memT p hp)) (fun b u z => ?_) (fun z => absurd (HTn notT) z) (want _ (fun p hp => HTy (memT p hp)) (.inr ⟨_, vs.toArray, _, lk, rfl, rfl, rfl, by rw [List.size_toArray, hi.length]; exact hl, by simpa using vals_ints hi⟩))
    · by_cases h : b ∈ cs.map (·.2)
      · exact .inr ⟨h, (Option.some.inj ((HTy h).symm.trans z)).symm⟩
      · rw [HTn h] at z
        cases z
    · by_cases h : b ∈ cs.map (·.2)
      · have e := Option.some.inj ((HTy h).symm.trans z)
        subst e
        exact (T.at h).1
      · rw [HTn h] at z
        cases z
  | none =>
    let HS : Hp := upd HT a (.frz { cls := .type "list", data := .seq vs.toArray } (.lst (ns.map V.int)))
    have onT : ∀ p ∈ cs, HS p.2 = some (.tbl #[]) := fun p hp => (upd_ne (fun z => notT (by rw [← z]; exact memT p hp))).trans (HTy (memT p hp))
    refine end_coreT T KX hns hb hbb lim gens hbm ⟨_, _, ha⟩ room F bnd HS (fun b o z => ?_) onT (fun b u z => ?_) (fun _ => lk) (want _ onT (.inl (.inr ⟨_, upd_same⟩)))
    · by_cases e : b = a
      · subst e
        have z' := Option.some.inj (upd_same.symm.trans z)
        exact .inl ⟨rfl, _, _, z'.symm⟩
      · have z1 : HT b = some o := (upd_ne e).symm.trans z
        by_cases h : b ∈ cs.map (·.2)
        · exact .inr ⟨h, (Option.some.inj ((HTy h).symm.trans z1)).symm⟩
        · rw [HTn h] at z1
          cases z1
    · by_cases e : b = a
      · subst e
        have z' := Option.some.inj (upd_same.symm.trans z)
        subst z'
        exact ⟨ha, by rw [List.length_map]; exact hl, vs, _, vals_ints hi, ha⟩
      · have z1 : HT b = some u := (upd_ne e).symm.trans z
        by_cases h : b ∈ cs.map (·.2)
        · have e2 := Option.some.inj ((HTy h).symm.trans z1)
          subst e2
          exact (T.at h).1
        · rw [HTn h] at z1
          cases z1
end
/-- what the head tells of the tables of the defs that are named -/
def TabsTold (q : Program) (K : PySem.W.Frag) (h : Heap) : Prop := ∀ (x : Str) (c P : Addr), ((recsOf q).find? fun e => e.name == x).isSome = true → PySem.W.tabIn K x = some (c, P) → PySem.W.CodeHd h c P ∧ h.get? P = some { cls := .none, data := .fields #[] }
theorem walkTG {l : PySem.W.OpenLaw} {n k : Nat} {q : Program} {loose : List Str} {XP : (Str → Option Value) → Heap → Prop} {YP : World → Heap → Prop} {d : DefRec} {K : Params → PySem.W.Frag} {sp : PySem.W.Frag → List (Addr × Addr) → Sp} {x : Str}
    (hn : l.most = some n) (hn2 : n ≤ sizeLine) (hdf : d.params.defaults = []) (room : Room k callerA) (hY : ∀ (w : World) (h : Heap), YP w h → (K w.params).In h)
    (F : ∀ (w : World) (mg : Str → Option Value) (fa : Addr) (h : Heap), (K w.params).In h → h.Ns mainGlobals mg → mg d.name = some (.ref fa) → TabsTold q (K w.params) h →
      ∃ (fd : FuncData) (cs : List (Addr × Addr)), TabsE (K w.params) h cs ∧ (∀ (s : Shared) (u : Value), BindsTo s fd ⟨[u], []⟩ [(x, u)]) ∧
        (∀ (H : Hp) (a : Addr) (ns : List Int), ns.length ≤ n → (∀ p ∈ cs, H p.2 = some (.tbl #[])) → SqL (K w.params) H a (ns.map V.int) → sp (K w.params) cs [.ref a] H (fun v _ => v = .bl true) fun _ _ _ => False) ∧
        ∀ base : Heap, (K w.params).In base → base.Ns mainGlobals mg → (∀ p ∈ cs, TabB base mg p.1 p.2) → FnG l.prog w (K w.params) mg base CX0 k fa fd [x] (sp (K w.params) cs)) :
    PySem.W.WalkO q loose XP YP l.row.toRowW d [] (fun f vs => PySem.call f vs) := by
  refine Att.attach_call hn hdf fun w s₀ s₁ mg mb fa o pm cd doc a vs ns G Y ho hd hcd hmg hobj hints hlen hg => ?_
  obtain ⟨fd, cs, T, bnd, want, hF⟩ := F w mg fa _ (hY w _ Y) G.T.g hmg fun y c P hr ht => by
    obtain ⟨d2, hd2⟩ := Option.isSome_iff_exists.mp hr
    exact PySem.W.tab_of G.T (hY w _ Y) hd2 ht
  exact end_callT T (hY w _ Y) G.T.g G.T.b G.T.builtins G.T.nolimit hg G.T.bmain hobj hints (Nat.le_trans hlen hn2) room hF bnd fun H hT hS => want H a ns hlen hT hS
end Ph

/-! PhEi: own errors of one field: their __init__, raising them. -/
namespace Ph
open PySem PySem.Spec PyProof.Rows L2
/-- E(x): the field f is x -/
def spEi (C : Addr) (f : Str) : Sp := fun vs H Q _ => ∃ (a : Addr) (x : V), vs = [.ref a, x] ∧ H a = some (exo a C none) ∧ ∀ dx, H dx = none → dx ≠ a → Q .non (upd (upd H dx (exd dx [(f, x)])) a (exo a C (some dx)))
/-- what a raised error is to who catches it -/
def ErrX (C : Addr) (f : Str) (x : V) (H : Hp) (E : XK) : Prop := ∀ H' d, Same H H' → H' d = some (.xd [(f, x)]) → E (.ref C) (some d) H'
theorem ErrX.from {C : Addr} {f : Str} {x : V} {H H1 : Hp} {E : XK} (q : ErrX C f x H E) (s : Same H H1) : ErrX C f x H1 E := fun H' d s' e => q H' d (s.trans s') e
theorem ei_out {H : Hp} {C : Addr} {f : Str} {x : V} {E : XK} (q : ErrX C f x H E) (a : Addr) (na : H a = none) :
    spEi C f [.ref a, x] (upd H a (exo a C none)) (fun v H2 => v = .non ∧ ∃ (d : Addr) (fs : List (Str × V)), H2 a = some (exo a C (some d)) ∧ H2 d = some (exd d fs) ∧ H d = none ∧ E (.ref C) (some d) (upd (del H2 a) d (.xd fs))) (fun _ _ _ => False) := by
  refine ⟨a, x, rfl, upd_same, fun dx ndx ne => ?_⟩
  have nd : H dx = none := by
    rw [upd_ne ne] at ndx
    exact ndx
  refine ⟨rfl, dx, [(f, x)], upd_same, by rw [upd_ne ne]; exact upd_same, nd, q _ dx (fun b o e => ?_) upd_same⟩
  have n1 : b ≠ dx := ne_of_none e nd
  have n2 : b ≠ a := ne_of_none e na
  rw [upd_ne n1, del_ne n2, upd_ne n2, upd_ne n1, upd_ne n2]
  exact e
/-- is_integer of any value -/
def spI2 (K : PySem.W.Frag) : Sp := fun vs H Q _ => ∃ x : V, vs = [x] ∧ ((∃ i : Int, x = .int i ∧ Q (.bl true) H) ∨ (NoInt K H x ∧ Q (.bl false) H))
/-- a def that keeps one promise and another, the second by raising -/
theorem fn_or {P : Program} {w : World} {K : PySem.W.Frag} {mg : Str → Option Value} {base : Heap} {k : Nat} {f : Addr} {fd : FuncData} {ps : List Str} {s1 s2 : Sp} (F1 : FnOk P w K mg base CX0 k f fd ps s1) (F2 : FnOk P w K mg base (L2.CX P w) k f fd ps s2) :
    FnOk P w K mg base (L2.CX P w) k f fd ps (fun vs H Q E => s1 vs H Q E ∨ s2 vs H Q E) :=
  ⟨fun vs H Q E h => h.elim (F1.len vs H Q E) (F2.len vs H Q E), fun A outer s H args us vs Q E hr e0 hb r h => h.elim (fun h => codeAny_mono (F1.run A outer s H args us vs Q E hr e0 hb r h) fun r s' out => match r, out with
    | .error _, out => (show False from out).elim
    | .ok (.ret _), out => out) (F2.run A outer s H args us vs Q E hr e0 hb r)⟩
/-- an argument that is no size; one that is no address -/
def BadZ (K : PySem.W.Frag) (H : Hp) (C : List Int) (x : V) : Prop := NoInt K H x ∨ ∃ i : Int, x = .int i ∧ i ∉ C
def BadA (K : PySem.W.Frag) (H : Hp) (z : Int) (y : V) : Prop := NoInt K H y ∨ ∃ A : Int, y = .int A ∧ (A < 0 ∨ A % z ≠ 0)
theorem BadZ.same {K : PySem.W.Frag} {H H' : Hp} {C : List Int} {x : V} (s : Same H H') (b : BadZ K H C x) : BadZ K H' C x := b.elim (fun n => .inl (n.same s)) .inr
theorem BadA.same {K : PySem.W.Frag} {H H' : Hp} {z : Int} {y : V} (s : Same H H') (b : BadA K H z y) : BadA K H' z y := b.elim (fun n => .inl (n.same s)) .inr
/-- what check_address raises -/
def BadC (K : PySem.W.Frag) (CB CP : Addr) (H : Hp) (c : Addr) (x y : V) (E : XK) : Prop := ∃ C, ChAt H c C ∧ ((BadZ K H C x ∧ ErrX CB "size" x H E) ∨ ∃ z : Int, x = .int z ∧ z ∈ C ∧ 0 < z ∧ BadA K H z y ∧ ErrX CP "address" y H E)
end Ph

/-! PhLam: defs that make lambdas: the heap without the tables, the tables kept, the code object known. -/
namespace Ph
open PySem PySem.Spec PyProof.Rows L2 LamX
/-- the heap without the tables of code objects -/
def ntb (H : Hp) : Hp := fun b => match H b with
  | some (.tbl _) => none
  | x => x
theorem ntb_at {H : Hp} {b : Addr} {o : HO} (e : H b = some o) (n : ∀ ps, o ≠ .tbl ps) : ntb H b = some o := by
  unfold ntb
  rw [e]
  cases o <;> first
    | rfl
    | exact absurd rfl (n _)
theorem ntb_of {H : Hp} {b : Addr} {o : HO} (e : ntb H b = some o) : H b = some o ∧ ∀ ps, o ≠ .tbl ps := by
  unfold ntb at e
  split at e
  · cases e
  · refine ⟨e, fun ps z => ?_⟩
    rename_i h
    exact h ps (e.trans (by rw [z]))
theorem ntb_sub {H : Hp} : Same (ntb H) H := fun b o e => (ntb_of e).1
theorem ntb_ext {H H' : Hp} (x : ExtN H H') : Same (ntb H) (ntb H') := fun b o e => by
  obtain ⟨e1, n⟩ := ntb_of e
  exact ntb_at (x b o e1 n) n
theorem ntb_same {H H' : Hp} (s : Same H H') : Same (ntb H) (ntb H') := ntb_ext (.of s)
theorem ntb_but {q : Addr} {H H' : Hp} (x : But q H H') : ButS [q] (ntb H) (ntb H') := fun b o nb e => by
  obtain ⟨e1, n⟩ := ntb_of e
  exact ntb_at (x b o (fun z => nb (List.mem_singleton.mpr z)) e1) n
section
variable {T : List (Addr × Str)} {H H' : Hp}
theorem tabs_but {q : Addr} {xs : List V} (t : Tabs T H) (b : But q H H') (e : H q = some (.lst xs)) : Tabs T H' := fun p hp => by
  obtain ⟨ps, h1, h2, h3⟩ := t p hp
  refine ⟨ps, b _ _ (fun z => ?_) h1, h2, fun pos cv hc => ?_⟩
  · rw [z, e] at h1
    cases h1
  · obtain ⟨c, e1, e2⟩ := h3 pos cv hc
    refine ⟨c, e1, b _ _ (fun z => ?_) e2⟩
    rw [z, e] at e2
    unfold CodeO at e2
    cases e2
theorem tabs_same (t : Tabs T H) (s : Same H H') : Tabs T H' := t.ext s
theorem ext_tup {t : Addr} {xs : List V} (x : ExtN H H') (e : H t = some (.tup xs)) : H' t = some (.tup xs) := x _ _ e fun _ z => nomatch z
theorem ext_lst {t : Addr} {xs : List V} (x : ExtN H H') (e : H t = some (.lst xs)) : H' t = some (.lst xs) := x _ _ e fun _ z => nomatch z
theorem ext_frz {t : Addr} {o : Obj} {u : HO} (x : ExtN H H') (e : H t = some (.frz o u)) : H' t = some (.frz o u) := x _ _ e fun _ z => nomatch z
theorem ext_seq {K : PySem.W.Frag} {t : Addr} {xs : List V} (x : ExtN H H') (e : SqL K H t xs) : SqL K H' t xs := by
  rcases e with (e | ⟨o, e⟩) | e
  · exact .inl (.inl (ext_lst x e))
  · exact .inl (.inr ⟨o, ext_frz x e⟩)
  · exact .inr e
theorem pot_ext {q : Addr} (x : ExtN H H') (p : Pot H q) : Pot H' q := by
  obtain ⟨g, r, e, v⟩ := p
  exact ⟨g, r, ext_lst x e, v⟩
theorem pot_tabs {q : Addr} (t : Tabs T H) (b : But q H H') (p : Pot H q) : Tabs T H' := by
  obtain ⟨g, r, e, v⟩ := p
  exact tabs_but t b e
end
/-- okG, the code object known -/
theorem okGC {P : Program} {w : World} {K : PySem.W.Frag} {mg : Str → Option Value} {base : Heap} {x qual : Str} {st : Stmt} {f : Addr} {fd : FuncData} {N ps : List Str} {k : Nat} {sp : Sp} {c : Addr} (F : Fun K x qual st f fd) (hc : fd.code = .ref c) (S : FnScope N ps (defScope st)) (cnt : ∀ vs H Q E, sp vs H Q E → vs.length = ps.length)
    (body : ∀ (A : Around) (outer : List Env) (s : Shared) (H : Hp) (vs : List V) (Q : VK) (E : XK), (A.deeper (envOfC qual (defScope st) s.heap.objs.size f (.ref c))).guards = some [] → Room k (A.deeper (envOfC qual (defScope st) s.heap.objs.size f (.ref c))) → sp vs H Q E →
      ∃ t, PSs (cxOf CX0 P w K mg base N qual (defScope st) f (.ref c) A outer s H E).nox (defBody st) t ∧ t { nx := fun _ H' => Q .non H', rt := Q } (start N vs) H) : FnG P w K mg base CX0 (k + 1) f fd ps sp := by
  obtain ⟨oc, od, kV, doc, pm, an, cdv, ct, osl, rfl, lk, hcd⟩ := F.ex
  obtain rfl : cdv = Value.ref c := hc
  refine ⟨cnt, fun A outer s H args us vs Q E hgu room env bnd vals want => ?_⟩
  have old : ∀ b o, base.get? b = some o → s.heap.get? b = some o := fun b o z => (env.bs b o z).1
  refine Att.call_fn (env.mod.kin.keeps old) (env.mod.nolimit.keeps old) lk hcd room.depth bnd ?_ (fun s1 inside => ?_) S.co S.gen S.kind
  · rw [List.all_eq_true]
    rintro ⟨n, v⟩ hy
    rcases S.par n (List.of_mem_zip hy).1 with z | z <;> simp [z]
  · obtain ⟨t, ht, hq⟩ := body A outer s H vs Q E ((guards_deeper A _).trans hgu) (room.deeper _) want
    have I0 : Inv (cxOf CX0 P w K mg base N qual (defScope st) f (.ref c) A outer s H E) [] (start N vs) H s1 := inv_start S room.hd env (cnt _ _ _ _ want) vals inside
    refine wpAny_mono (ht.nox.run [] s1 (start N vs) H _ I0 hq) (fun flow s2 done => ?_) fun e s2 bad => bad
    have fin : ∀ {σ' : L2.St} {H' : Hp} {v : V} {u : Value}, Inv (cxOf CX0 P w K mg base N qual (defScope st) f (.ref c) A outer s H E) [] σ' H' s2 → RelV v u → Q v H' → CE outer P w H s Q u s2 :=
      fun J rel good => ⟨_, _, J.os, J.bare, J.base, J.hok, rel, good⟩
    match flow, done with
    | .ret u, ⟨v, σ', H', J, rel, good⟩ => exact fin J rel good
    | .next, ⟨σ', H', J, good⟩ => exact fin (v := V.non) (u := Value.none) J rfl good
    | .brk, ⟨_, _, _, z⟩ => exact z.elim
    | .cont, ⟨_, _, _, z⟩ => exact z.elim
/-- tabIn's code object is the def's -/
theorem tab_code {K : PySem.W.Frag} {x : Str} {c P f : Addr} {oc : Value} {od : Option Addr} {fd : FuncData} {sl : Array (Option Value)} (t : PySem.W.tabIn K x = some (c, P)) (n : PySem.W.nsIn K mainGlobals x = some (some (.ref f))) (l : K.lookup f = some ⟨oc, od, .func fd, sl⟩) : fd.code = .ref c := by
  unfold PySem.W.tabIn at t
  rw [n] at t
  simp only [l] at t
  split at t
  · rename_i c' e
    split at t
    · split at t
      · cases t
        exact e
      · cases t
    · cases t
  · cases t
end Ph

set_option maxHeartbeats 4000000
/-! PhAct: a lambda handed to a def that calls it within try: what is raised may speak of the slots of that def. -/
namespace Ph
open PySem PySem.Spec PyProof.Rows L2 LamX
section
variable {X : Cx} {pins : List (Addr × Obj)} {σ : L2.St} {H : Hp} {s : Shared}
/-- the context of the def that got the lambda -/
abbrev gotCx (X : Cx) (Ng : List Str) (x : Str) (sg : Scope) (g : Addr) (cdg : Value) (s : Shared) (H : Hp) : Cx := cxOf C8.CX0 X.prog X.w X.K X.mg X.base Ng x sg g cdg X.A X.stack s H C8.E0
/-- what a() reads there -/
def tAct (f c' : Addr) (q : Str) (tl : XK → Hp → VK → Prop) (W : WX) : TE := fun σZ HZ Q => σZ[0]? = some (some (.ref f)) ∧ HZ c' = some (CodeO c' q) ∧ ∃ E : XK, (∀ cls d H', E cls d H' → W cls d σZ H') ∧ tl E HZ Q
theorem pe_actS {Ng : List Str} {x : Str} {sg : Scope} {g f c' : Addr} {cdg pm ctv : Value} {params : Arguments} {body : Expr} {scope : Scope} {k : Nat} {a : Str} {pn : List (Addr × Obj)} {xe : Value → Shared → Prop} {W : WX} {p1 p2 : Pos} {t : XK → TE}
    (I : Inv X pins σ H s) (L : LamS X.env.scope scope) (obj : s.heap.get? f = some (PySem.W.kla_obj "<lambda>" (X.env.qual ++ "<lambda>") params body scope (cloFrom X.env.cells scope.names []) pm c' ctv)) (untr : H f = none) (offF : f ∉ frs X.stack)
    (bnd : bindArgs (PySem.W.kla_fn "<lambda>" (X.env.qual ++ "<lambda>") params body scope (cloFrom X.env.cells scope.names []) pm (.ref c') ctv) ⟨[], []⟩ = pure [])
    (tk : Takes ((gotCx X Ng x sg g cdg s H).tr pn xe) W) (room : Room (k + 1) (X.A.deeper (envOfC x sg s.heap.objs.size g cdg)))
    (hbody : ∀ (A : Around) (outer : List Env) (s : Shared) (H : Hp) (E : XK), Room k (A.deeper (lamEnv X scope s.heap.objs.size f c')) → PE (lamCx X A outer s H E scope f c') body (t E))
    (hN : Ng[0]? = some a) (hv : Vis sg a) (hd : (a == ("__debug__" : Str)) = false) (hcd : (a == ("__classdict__" : Str)) = false) :
    PE ((gotCx X Ng x sg g cdg s H).tr pn xe) (.Call (.Name a p1) [] [] p2) (tAct f c' (X.env.qual ++ "<lambda>") (fun E H' Q' => t E σ H' Q') W) := by
  constructor
  rintro pinsZ sZ σZ HZ Q IZ ⟨at0, code, E, hW, want⟩
  refine wpAny_Call_Name_kw (thn ((pe_var (pos := p1) (i := 0) hN hv hd hcd).run pinsZ sZ σZ HZ (fun v G => v = .ref f ∧ G = HZ) IZ ⟨.ref f, at0, rfl, rfl⟩) fun u s1 ⟨v, G, I1, rel, hval⟩ => ?_)
  obtain ⟨rfl, rfl⟩ := hval
  obtain rfl : u = Value.ref f := rel
  have un : Un (frs X.stack) [] H G s.heap s1.heap := I1.base
  have still := un.keep f _ obj untr offF (fun z => List.not_mem_nil z)
  obtain ⟨⟨oc, vs, tq, get, dat, nm⟩, _, _⟩ := I1.hok c' _ code
  refine PySem.W.callWith_F0 ⟨_, _, _, _, still⟩ (wpAny_call ?_)
  have run : codeAny (model X.prog X.w) (X.A.deeper (envOfC x sg s.heap.objs.size g cdg)) (.call (.ref f) ⟨[], []⟩) (CR (L2.CX X.prog X.w) (envOfC x sg s.heap.objs.size g cdg :: X.stack) X.prog X.w G s1 Q E) s1 := by
    refine PySem.W.kla_callFunE room.depth still rfl L.co L.gen rfl ⟨c', oc, vs, tq, rfl, get, dat, nm⟩ ?_
    rw [bnd]
    refine wpAny_pure (wpAny_newFunctionEnv (fun y hy => (L.own y hy).2) (fun y hy => (List.not_mem_nil hy).elim) (fun h₁ ns sub => ⟨I1.nolimit.fresh _ sub, ?_⟩) L.kind)
    show codeAny _ _ (.expr body (lamEnv X scope s1.heap.objs.size f c')) _ _
    have grows : ∀ b o, s1.heap.get? b = some o → h₁.get? b = some o := fun b o e => sub.extBut b o (Nat.ne_of_lt (Heap.lt_size e)) (Heap.get?_push_of_some _ e)
    have J := lam_start2 (A := X.A.deeper (envOfC x sg s.heap.objs.size g cdg)) (outer := envOfC x sg s.heap.objs.size g cdg :: X.stack) (E := E) (f := f) (c' := c') (tk := s1.toks + ([] : List (Str × Value)).length) I L I1.env0 room.hd un ns grows
    exact PySem.W.kla_codeExpr (wpAny_mono ((hbody _ _ s1 G E (room.deeper _)).run [] _ _ G Q J want) (fun v s' ⟨y, G', J', r', q'⟩ => ⟨y, G', J'.os, J'.bare, J'.base, J'.hok, r', q'⟩) fun e s' hq => hq)
  refine codeAny_mono run fun r s' out => ?_
  match r, out with
  | .error e, out => exact tk e s' (XE.of_call I1 (fun cls d H' h => hW cls d H' h) out)
  | .ok (.ret u), out => exact I1.after out
end
/-- the def that calls what it got within try -/
def GivesS (X : Cx) (Ng : List Str) (x : Str) (sg : Scope) (g : Addr) (cdg : Value) (bg : List Stmt) (a : Str) (q : Str) (TT : (XK → Hp → VK → Prop) → Hp → VK → Prop) : Prop :=
  ∀ (f c' : Addr) (s : Shared) (H : Hp) (Q : VK) (tl : XK → Hp → VK → Prop),
    (∀ (W : WX) (pn : List (Addr × Obj)) (xe : Value → Shared → Prop) (p1 p2 : Pos), Takes ((gotCx X Ng x sg g cdg s H).tr pn xe) W → PE ((gotCx X Ng x sg g cdg s H).tr pn xe) (.Call (.Name a p1) [] [] p2) (tAct f c' q tl W)) →
    H c' = some (CodeO c' q) → TT tl H Q →
    ∃ t, PSs (gotCx X Ng x sg g cdg s H).nox bg t ∧ t { nx := fun _ H' => Q .non H', rt := Q } (L2.start Ng [.ref f]) H
section
variable {X : Cx}
/-- x(lambda: body), x a def of the top that is known as Fun -/
theorem pe_lamS {T : List (Addr × Str)} {TT : (XK → Hp → VK → Prop) → Hp → VK → Prop} {x a : Str} {g c P : Addr} {k : Nat} {st : Stmt} {fd : FuncData} {Ng : List Str} {params : Arguments} {body : Expr} {scope : Scope} {t : XK → TE} {p lpos pos : Pos}
    (gl : Gl X x) (hm : X.mg x = some (.ref g)) (F : Fun X.K x x st g fd) (hb : L2.Binds X.K fd [a] []) (Sg : FnScope Ng [a] (defScope st)) (at0 : Ng[0]? = some a) (vis : Vis (defScope st) a)
    (gives : ∀ cdv : Value, GivesS X Ng x (defScope st) g cdv (defBody st) a (X.env.qual ++ "<lambda>") TT) (TB : TabB X.base X.mg c P) (hcode : X.env.code = .ref c) (inT : (P, X.env.qual ++ "<lambda>") ∈ T) (one : ∀ p ∈ T, p.1 = P → p.2 = X.env.qual ++ "<lambda>")
    (room : Room (k + 2) X.A) (L : LamS X.env.scope scope) (hdef : defaultsOf params X.env = ([], [])) (bnd : ∀ (q : Str) (cl : List (Str × Addr)) (pm cv ctv : Value), bindArgs (PySem.W.kla_fn "<lambda>" q params body scope cl pm cv ctv) ⟨[], []⟩ = pure [])
    (hbody : ∀ (A : Around) (outer : List Env) (s : Shared) (H : Hp) (E : XK) (f c' : Addr), Room k (A.deeper (lamEnv X scope s.heap.objs.size f c')) → PE (lamCx X A outer s H E scope f c') body (t E))
    (hdb : (x == ("__debug__" : Str)) = false := by decide) (hd : (a == ("__debug__" : Str)) = false := by decide) (hcd : (a == ("__classdict__" : Str)) = false := by decide) :
    PE X (.Call (.Name x p) [.Lambda params body scope lpos] [] pos) (tLam T TT t) := by
  obtain ⟨oc, od, kV, doc, pm, an, cdv, ct, osl, rfl, lk, hcd2⟩ := F.ex
  constructor
  rintro pins s σ H Q I ⟨tabs, want⟩
  refine wpAny_Call_Name_kw (ld_glob I gl hm ?_ hdb)
  refine PySem.W.callWith_K (h₀ := X.base) I.ok.mod.kin F.kp ?_ (by rfl) (by rfl)
  show wpAny _ _ (spliced ((false, eval (.Lambda params body scope lpos) X.env) :: backTo pos (starEach [] X.env))) _ _ s
  refine Calls.spliced_cons (lam_make2 I TB hcode inT one tabs hdef (L.has I.ok) fun f c' pm' ctv H1 s' I1 grown tabs1 obj untr offF code => Calls.spliced_nil ⟨I1.kIn, ?_⟩)
  refine wpAny_call (codeAny_mono (R := CR C8.CX0 X.stack X.prog X.w H1 s' Q C8.E0) ?_ fun r s2 out => ?_)
  · refine run_ofS (N := Ng) (ps := [a]) (us := [.ref f]) (vs := [.ref f]) lk hcd2 Sg room I1.env0 (hb s' [.ref f] I1.kIn rfl) (.cons rfl .nil) rfl fun room2 => ?_
    obtain ⟨t', ht', hq'⟩ := gives cdv f c' s' H1 Q (fun E H' Q' => t E σ H' Q') (fun W pn xe p1 p2 tk => pe_actS I1 L obj untr offF (bnd _ _ _ _ _) tk room2 (fun A outer s H E hr2 => hbody A outer s H E f c' hr2) at0 vis hd hcd) code (want H1 grown tabs1)
    exact ⟨t', ht'.nox, hq'⟩
  · match r, out with
    | .error e, out => exact (show False from out).elim
    | .ok (.ret u), out => exact I1.after out
end
end Ph

/-! PhTyq: the type of any data, for isinstance by a built-in class. -/
namespace Ph
open PySem PySem.Spec PyProof.Rows L2
def tyN : PyData → String
  | .none => "NoneType" | .bool _ => "bool" | .int _ => "int" | .str _ => "str" | .list _ => "list" | .tuple _ => "tuple" | .dict _ => "dict"
theorem sqL_ty {K : PySem.W.Frag} {H : Hp} {a : Addr} {xs : List V} (h : SqL K H a xs) : TyX K H (.ref a) (.type "list") := by
  rcases h with (e | ⟨o, e⟩) | ⟨o, its, n, e, c, _⟩
  · exact .base (.lst e)
  · exact .base (.frz e)
  · exact .kList e c
theorem sqT_ty {K : PySem.W.Frag} {H : Hp} {a : Addr} {xs : List V} (h : SqT K H a xs) : TyX K H (.ref a) (.type "tuple") := by
  rcases h with (e | ⟨o, e⟩) | ⟨o, its, n, e, c, _⟩
  · exact .base (.tup e)
  · exact .fTuple e
  · exact .kTuple e c
theorem rdK_ty {K : PySem.W.Frag} {H : Hp} {a : Addr} {xs : List (Key × V)} (h : Rd H a (.dK xs)) : TyX K H (.ref a) (.type "dict") := by
  rcases h with e | ⟨o, e⟩
  · exact .base (.dK e)
  · exact .fDict e
theorem dq_ty {K : PySem.W.Frag} {H : Hp} {x : V} {d : PyData} (h : Dq K H x d) : TyX K H x (.type (tyN d)) := by
  cases h with
  | non => exact .base .non
  | bl b => exact .base (.bl b)
  | int i => exact .base (.int i)
  | str y => exact .base (.str y)
  | lst hs ha => exact sqL_ty hs
  | tup hs ha => exact sqT_ty hs
  | dct hs ha => exact rdK_ty hs
/-- is it a text -/
def isSt : V → Bool | .str _ => true | _ => false
def isInt : V → Bool | .int _ => true | .bl _ => true | _ => false
theorem dq_str {K : PySem.W.Frag} {H : Hp} {x : V} {d : PyData} (h : Dq K H x d) : kitB (tyN d) "str" = some (isSt x) := by cases h <;> (dsimp only [tyN, isSt, isInt]; decide +kernel)
theorem dq_isInt {K : PySem.W.Frag} {H : Hp} {x : V} {d : PyData} (h : Dq K H x d) : kitB (tyN d) "int" = some (isInt x) := by cases h <;> (dsimp only [tyN, isSt, isInt]; decide +kernel)
end Ph
namespace Ph
open PySem PySem.Spec PyProof.Rows L2
def isTu : PyData → Bool | .tuple _ => true | _ => false
theorem dq_isTu {K : PySem.W.Frag} {H : Hp} {x : V} {d : PyData} (h : Dq K H x d) : kitB (tyN d) "tuple" = some (isTu d) := by cases h <;> (dsimp only [tyN, isTu]; decide +kernel)
end Ph

/-! PhKt: isinstance of a kept error by a tuple of classes. -/
namespace Ph
open PySem PySem.Spec PyProof.Rows L2
section
variable {X : Cx}
def rIsKt (K : PySem.W.Frag) : List V → Hp → VK → Prop := fun xs H Q => ∃ (a D t : Addr) (d : Option Addr) (cs : List V) (cvs : List Value) (b : Bool), xs = [.ref a, .ref t] ∧ H a = some (ExK (.ref D) d a) ∧ ExcC K D ∧ DictK H d ∧ H t = some (.tup cs) ∧
  (∀ us, Vals cs us → us = cvs) ∧ PySem.W.kitAny K (.ref D) cvs = some b ∧ Q (.bl b) H
theorem call_isKt : CallR X (.builtin "isinstance") (rIsKt X.K) := by
  intro pins s σ H xs us Q I r h
  obtain ⟨a, D, t, d, cs, cvs, b, rfl, ea, C, k, ht, hcv, e, q⟩ := h
  obtain ⟨ua, uc, rfl, ra, rc⟩ : ∃ ua uc, us = [ua, uc] ∧ RelV (.ref a) ua ∧ RelV (.ref t) uc := by
    cases r with
    | cons r1 r2 => cases r2 with
      | cons r3 r4 =>
        cases r4
        exact ⟨_, _, rfl, r1, r3⟩
  obtain rfl : ua = Value.ref a := ra
  obtain rfl : uc = Value.ref t := rc
  obtain ⟨oe, hget, hz, hf⟩ := exK_at I ea
  obtain ⟨od, J⟩ := inst_at I.hok hget hz hf k
  have cl : (PySem.W.clsIn X.K D).isSome = true := by
    obtain ⟨cd, hc, _⟩ := PySem.W.any_some C.hd
    rw [hc]
    rfl
  have hx : ObjOk X.prog X.w H s.heap t (.tup cs) := I.hok t _ ht
  obtain ⟨_, its, rv, o, ho, hc, n, hdat⟩ := hx
  obtain rfl := hcv _ rv
  obtain ⟨oc, odd, oda, osl⟩ := o
  dsimp only at hc hdat
  subst hc hdat
  exact PySem.W.kia_tup (PySem.W.kitx_exc (od := od) cl C.hg C.hk C.hs C.ha C.hn C.ht C.hm) I.kIn J ho e (fun z => nomatch z) fun tk => ⟨.bl b, H, I.kept (t' := tk) fun _ _ z => z, rfl, q⟩
def rIsV (K : PySem.W.Frag) : List V → Hp → VK → Prop := fun xs H Q => rIsK K xs H Q ∨ rIsKt K xs H Q
theorem call_isV : CallR X (.builtin "isinstance") (rIsV X.K) := fun pins s σ H xs us Q I r h => h.elim (call_isK pins s σ H xs us Q I r) (call_isKt pins s σ H xs us Q I r)
end
end Ph

namespace PySem
open Sem (wp)
set_option maxHeartbeats 1000000 in
theorem ph_enum1 {v : Value} {o : Obj} {H : Heap → Prop} (B : Begins v o H) :
    Meets (Builtin.«enumerate.__new__» ⟨[.type "enumerate", v], []⟩) (fun _ R s => H s.heap ∧
      R (.ok (.ret (.ref (s.heap.push o).objs.size))) { s with heap := (s.heap.push o).push { cls := .type "enumerate", data := .fields #[.none, .bool false, .ref s.heap.objs.size, rawInt 0, .none, .none] } }) :=
  .of_wp fun prog w A R s h => by
    obtain ⟨hp, g, d, tk, os⟩ := s; obtain ⟨h1, h⟩ := h
    have hsub := sub_enumerate
    have q1 : ∀ {A' : Around} {E : Value → Shared → Prop} {Q : Value → Shared → Prop}, Q (.ref hp.objs.size) ⟨hp.push o, g, d, tk, os⟩ → wpAny (model prog w) A' (pyIter v) Q E ⟨hp, g, d, tk, os⟩ :=
      fun q => B.iter prog w _ _ ⟨hp, g, d, tk, os⟩ _ h1 q
    wp_walk using q1
    refine wpAny_stack_any fun st => wpAny_pure ?_
    split
    · rename_i c _ _ _ _ _
      cases (c == Value.type "enumerate")
      · wp_walk using q1
        exact ⟨_, rfl, h⟩
      · wp_walk using q1
        exact ⟨_, rfl, h⟩
    · wp_walk using q1
      exact ⟨_, rfl, h⟩
theorem ph_enum {prog : Program} {w : World} {A : Around} {E : Value → Shared → Prop} {s : Shared} {v : Value} {o : Obj} {H : Heap → Prop} {Q : Value → Shared → Prop} (B : Begins v o H) (h1 : H s.heap)
    (h : ∀ h', IsEnum h' (s.heap.objs.size + 1) s.heap.objs.size 0 .none → h'.get? s.heap.objs.size = some o → h'.objs.size = s.heap.objs.size + 2 →
      (∀ b o, s.heap.get? b = some o → h'.get? b = some o) → Q (.ref (s.heap.objs.size + 1)) { s with heap := h' }) :
    wpAny (model prog w) A (call (.type "enumerate") [v]) Q E s := by
  refine callType_new F.called_enumerate (by decide) (F.typeCall_enumerate_1 _) (F.newCall_enumerate_1 _) (fun obj => F.args_object_init_2 obj _) F.entry_enumerate_new
    (ph_enum1 B) ⟨h1, ?_⟩
  have hz : (s.heap.push o).objs.size = s.heap.objs.size + 1 := Heap.size_push ..
  show _ ∧ _
  rw [hz]
  have he : IsEnum ((s.heap.push o).push { cls := .type "enumerate", data := .fields #[.none, .bool false, .ref s.heap.objs.size, rawInt 0, .none, .none] }) (s.heap.objs.size + 1) s.heap.objs.size 0 .none := by
    have := Heap.get?_push_size (s.heap.push o) (o := { cls := .type "enumerate", data := .fields #[.none, .bool false, .ref s.heap.objs.size, rawInt 0, .none, .none] }) rfl
    rw [hz] at this; exact this
  refine ⟨⟨_, he, rfl⟩, h _ he (Heap.get?_push_of_some _ (Heap.get?_push_size _ B.free)) (by rw [Heap.size_push, hz]) fun b o x => Heap.get?_push_of_some _ (Heap.get?_push_of_some _ x)⟩
end PySem
namespace Ph
open PySem PySem.Spec PyProof.Rows L2
/-! ### enumerate of a tuple or a list (true: a tuple) -/
def IteK (k : Bool) (K : PySem.W.Frag) (a : Addr) : It :=
  ⟨fun i H => ∃ (xs : List V) (x : V), SqK k K H a xs ∧ xs[i]? = some x, fun i H v H' => ∃ T x, v = .ref T ∧ H T = none ∧ H' = upd H T (.tup [.int (i : Nat), x]) ∧ ∀ xs, SqK k K H a xs → xs[i]? = some x, fun i H => ∃ xs : List V, SqK k K H a xs ∧ i = xs.length⟩
theorem turn_enumK {P : Program} {w : World} {K : PySem.W.Frag} {elts : List Expr} {kk : Nat} {tpos : Pos} {k : Bool} (a e it : Addr) (na : a ≠ it) (ne : e ≠ it) (nea : e ≠ a) :
    Turn P w K (.Tuple elts kk tpos) (IteK k K a) [e, it] e (fun i h => (∃ old, IsEnum h e it ((i : Nat) : Int) old) ∧ ItrK k h it a i) where
  mem := by simp
  obj := fun i h st b hb => by
    obtain ⟨⟨old, he⟩, h1⟩ := st
    have e' : b = e ∨ b = it := by simpa using hb
    rcases e' with z | z
    · rw [z]; exact ⟨_, he, fun v q => nomatch q⟩
    · rw [z]; exact h1.obj
  keep := fun i h h' st k => let ⟨⟨old, he⟩, hi⟩ := st; ⟨⟨old, k e (by simp) _ he⟩, hi.on fun o q => k it (by simp) o q⟩
  item := by
    intro X hP hw hK hc i pins s σ H E I hf st hg
    subst hP hw hK
    obtain ⟨⟨old, he⟩, hit⟩ := st
    obtain ⟨xs, x, hq, hx⟩ := hg
    obtain ⟨its, rv, p, _⟩ := Inv.seqK I hq
    obtain ⟨u, hu, ru⟩ := rv.get hx
    have hel : e < s.heap.objs.size := Heap.lt_size he
    have hil : it < s.heap.objs.size := by obtain ⟨_, q, _⟩ := hit.obj; exact Heap.lt_size q
    have l1 : i < its.toArray.size := by
      have := (List.getElem?_eq_some_iff.mp hu).1
      simpa using this
    have hh : X.A.in1.handled = none := I.ok.hd hc
    refine wpAny_pyNext_enum_itemD (drawK k hh it a na its.toArray) he ⟨hit, p⟩ l1 ne (by simp [ne, nea]) fun y h' tk hy ho hst hT hsz hk => ?_
    have ey : y = u := by
      have q : its.toArray[i]? = some u := by simpa using hu
      rw [hy] at q
      exact Option.some.inj q
    subst ey
    refine ⟨_, rfl, wpAny_letOwnedTupleGo_enum (s := { s with heap := h', toks := tk + 1 }) ho fun h'' he' sb => ?_⟩
    have hT2 : h''.get? s.heap.objs.size = some { cls := .type "tuple", data := .seq #[.int i tk, y] } := (sb.2 _ (Nat.ne_of_gt hel)).trans hT
    have new : ObjOk X.prog X.w (upd H s.heap.objs.size (.tup [.int (i : Nat), x])) h'' s.heap.objs.size (.tup [.int (i : Nat), x]) :=
      ⟨by show 2 ≤ sizeLine; decide, [.int i tk, y], .cons ⟨_, rfl⟩ (.cons ru .nil), ⟨_, hT2, rfl, _, rfl⟩⟩
    have I1 : Inv X pins σ (upd H s.heap.objs.size (.tup [.int (i : Nat), x])) { s with heap := h'', toks := tk + 1 } :=
      I.turnedNew (ch := [e, it]) (fun b ob hb q => (sb.2 b (fun z => hb (by simp [z]))).trans (hk b ob (fun z => hb (by simp [z])) (fun z => hb (by simp [z])) q)) hf (Nat.le_refl _) new
    refine ⟨.ref s.heap.objs.size, _, I1, rfl, ⟨_, x, rfl, I.hok.fresh (Nat.le_refl _), rfl, fun ys hy => by rw [Inv.seqK_inj I hy hq]; exact hx⟩, ⟨⟨y, ?_⟩, hst.1.on fun o q => (sb.2 it (Ne.symm ne)).trans q⟩, fun b hb => ?_⟩
    · have e1 : ((i + 1 : Nat) : Int) = (i : Int) + 1 := by omega
      rw [e1]; exact he'
    · have hb' : b < s.heap.objs.size := by
        have e' : b = e ∨ b = it := by simpa using hb
        rcases e' with z | z
        · rw [z]; exact hel
        · rw [z]; exact hil
      rw [upd_ne (Nat.ne_of_lt hb')]
      exact (hf b hb).1
  done := by
    intro X hP hw hK hc i pins s σ H E I hf st hg
    subst hP hw hK
    obtain ⟨⟨old, he⟩, hit⟩ := st
    obtain ⟨xs, hq, hx⟩ := hg
    obtain ⟨its, rv, p, _⟩ := Inv.seqK I hq
    obtain ⟨f0, f1, f2, f3, f4, f5⟩ := hf it (by simp)
    have hh : X.A.in1.handled = none := I.ok.hd hc
    have en : i = its.toArray.size := by rw [hx, rv.length]; simp
    exact wpAny_pyNext_enum_endD (drawK k hh it a na its.toArray) he (by rw [← en]; exact ⟨hit, p⟩) fun h' eb => ⟨rfl, I.turned (t' := s.toks) (fun b o hb q => eb b o hb q) f0 f1 f3 f4 f5⟩
  self := fun A i s Q E st h => let ⟨⟨_, he⟩, _⟩ := st; wpAny_pyIter_enum he h
def iEnumK (k : Bool) (K : PySem.W.Frag) (ta : TA) : TI := fun σ H R => ta σ H fun vs H1 => ∃ a xs, vs = [.ref a] ∧ SqK k K H1 a xs ∧ R (IteK k K a) H1
theorem pi_enumK {k : Bool} {X : Cx} {e : Expr} {ta : TA} {p pos tpos : Pos} {elts : List Expr} {kk : Nat} (hg : Gl X "enumerate") (hm : X.mg "enumerate" = none) (ha : PA X [e] ta) (hs : starEach [e] X.env = [(false, eval e X.env)] := by rfl) :
    L2.PI X (.Tuple elts kk tpos) (.Call (.Name "enumerate" p) [e] [] pos) (iEnumK k X.K ta) := by
  refine ⟨fun pins s σ H R I h => ?_⟩
  refine Call_ (ld_blt I hg hm boot_enumerate (PyProof.Rows.callWith_type1 (thn (ha.run pos pins s σ H _ I h) fun us s1 ⟨vs, H1, I1, r1, q1⟩ => ?_) hs rfl))
  obtain ⟨a, xs, ex, hq, q⟩ := q1
  subst ex
  cases r1 with
  | cons r rr =>
    cases rr
    cases r
    obtain ⟨its, rv, p', la⟩ := Inv.seqK I1 hq
    refine ph_enum (beginK k a its.toArray) p' fun h' he hit hsz hk => wpAny_pyIter_enum he ?_
    have I2 : Inv X pins σ H1 { s1 with heap := h' } := I1.kept (t' := s1.toks) hk
    refine ⟨s1.heap.objs.size + 1, [s1.heap.objs.size + 1, s1.heap.objs.size], _, _, H1, rfl, I2, turn_enumK a (s1.heap.objs.size + 1) s1.heap.objs.size (Nat.ne_of_lt la) (Nat.succ_ne_self _) (Nat.ne_of_gt (Nat.lt_succ_of_lt la)), ⟨⟨.none, he⟩, itoK_it hit⟩, fun b hb => ?_, q⟩
    have e' : b = s1.heap.objs.size + 1 ∨ b = s1.heap.objs.size := by simpa using hb
    have hle : s1.heap.objs.size ≤ b := by
      rcases e' with z | z
      · rw [z]; exact Nat.le_add_right _ _
      · rw [z]; exact Nat.le_refl _
    exact I1.fpOk hle (I1.hok.fresh hle)
theorem walk_enumK {k : Bool} {K : PySem.W.Frag} {a : Addr} {xs : List V} : Walk (IteK k K a) xs.length (fun H => SqK k K H a xs) (YPair (fun i => some (.int (i : Nat))) (fun i => xs[i]?)) := by
  refine ⟨fun i _ hi q => ⟨xs, xs[i], q, by simp [hi]⟩, fun _ q => ⟨xs, q, rfl⟩, fun i H v H' _ q y => ?_⟩
  obtain ⟨T, x, h1, h2, h3, h4⟩ := y
  exact ⟨T, _, x, h1, h2, h3, rfl, h4 xs q⟩
end Ph

/-! PhDeq: a dict is never equal to a text. -/
namespace Ph
open PySem PySem.SeqAt
open AutoSeq1 (wpAny_loadPart')
open MeetsSeq
theorem dict_declines (l : Addr) (c : Value) (dt : Data) (dd : Option Addr) (sl : Array (Option Value)) (b : Str) (u : Tok) :
    Meets (Builtin.«dict.__eq__» ⟨[.ref l, .str b u], []⟩) (fun _ R s => s.heap.get? l = some { cls := c, dict := dd, data := dt, slots := sl } ∧ R (.ok (.ret .notImplemented)) s) :=
  .of_wp fun prog w A R s h => by obtain ⟨hp, g, d, tk, os⟩ := s; obtain ⟨hl, h⟩ := h; have f1 := F.sub_str_dict; wp_walk using wpAny_loadPart' hl; exact ⟨_, rfl, h⟩
theorem str_declines (b : Str) (u : Tok) (l : Addr) (c : Value) (ks : Array DictEntry) (n : Nat) (dd : Option Addr) (sl : Array (Option Value)) :
    Meets (Builtin.«str.__eq__» ⟨[.str b u, .ref l], []⟩) (fun _ R s => s.heap.get? l = some { cls := c, dict := dd, data := .dict ks n, slots := sl } ∧ R (.ok (.ret .notImplemented)) s) :=
  .of_wp fun prog w A R s h => by obtain ⟨hp, g, d, tk, os⟩ := s; obtain ⟨hl, h⟩ := h; wp_walk using wpAny_loadPart' hl, wpAny_load hl; exact ⟨_, rfl, h⟩
section
variable {A : Around} {s : Shared}
theorem eq_str_dict {l : Addr} {c : Value} {ks : Array DictEntry} {n : Nat} {dd : Option Addr} {sl : Array (Option Value)} (b : Str) (u : Tok) (ho : s.heap.get? l = some { cls := .type "dict", dict := dd, data := .dict ks n, slots := sl }) (hu : A.units < cLine) : EqAt A s (.str b u) (.ref l) false := fun prog w E Q h => by
  have rc : RcAt A s (.str b u) (.ref l) false := fun prog w E Q h =>
    rc_eq_decline_or (k := false) (typeIs_str s b u) ⟨_, ho, rfl⟩ (by decide) F.sub_dict_str F.slot_str_eq F.slot_dict_eq_refl
      (fun _ hq => call_meets F.slot_str_eq (typeIs_str s b u) F.entry_str_eq (F.args_str_eq_2 _ _) (str_declines b u l (.type "dict") ks n dd sl) ⟨ho, hq⟩)
      (fun _ hq => call_meets F.slot_dict_eq_refl ⟨_, ho, rfl⟩ F.entry_dict_eq (F.args_dict_eq_2 _ _) (dict_declines l (.type "dict") (.dict ks n) dd sl b u) ⟨ho, hq⟩)
      (fun _ hq => wpAny_of_eq (rfl : isSame (.str b u) (.ref l) = pure false) hq) (.inr hu) h
  unfold eqBool
  refine wpAny_holding ?_
  refine wpAny_ite_split (fun hab => absurd (eq_of_beq hab) nofun) (fun _ => ?_)
  exact wpAny_bind (rc prog w E _ (wpAny_truthy_bool h))
end
open PySem.Spec PyProof.Rows L2
section
variable {X : Cx}
theorem vals_strs {f : Str → Bool} : ∀ {ss : List Str} {its : List Value}, Vals (ss.map V.str) its → (∀ y ∈ its, ∃ z t, y = .str z t) ∧ (its.any fun y => match y with | .str z _ => f z | _ => false) = ss.any f
  | [], its, h => by cases h; exact ⟨(fun _ z => nomatch z), rfl⟩
  | z :: r, _, h => by
    cases h with
    | cons h1 h2 =>
      obtain ⟨t, rfl⟩ := h1
      obtain ⟨i1, i2⟩ := vals_strs (f := f) h2
      refine ⟨fun y hy => ?_, ?_⟩
      · rcases List.mem_cons.mp hy with e | e
        · exact ⟨z, t, e⟩
        · exact i1 y e
      · simp only [List.any_cons, i2]
/-- x in t, t a tuple of texts, x any data -/
def rInW (K : PySem.W.Frag) : R2 := fun x y H Q => ∃ d t, ∃ ss : List Str, y = .ref t ∧ Dq K H x d ∧ SqT K H t (ss.map V.str) ∧ Q (.bl (ss.any fun s => decide (x = V.str s))) H
theorem op_inW (hu : X.A.units + 1 < cLine) : OpR X (compareOp .In) (rInW X.K) := by
  intro pins s σ H x y v u Q I rx ry h
  obtain ⟨d, t, ss, rfl, dx, st, q⟩ := h
  obtain rfl : u = Value.ref t := ry
  obtain ⟨its, rv, p, _⟩ := I.tuple st
  have hu1 : X.A.in1.units < cLine := hu
  have key : ∀ z t', EqAt X.A.in1 s (.str z t') v (decide (x = V.str z)) := fun z t' => by
    cases dx with
    | non => obtain rfl : v = Value.none := rx; exact EqAt.str_none z t'
    | bl b => obtain rfl : v = Value.bool b := rx; exact EqAt.str_bool z t' b
    | int i => obtain ⟨t2, rfl⟩ := rx; exact EqAt.str_int z t' i t2
    | str y => 
      obtain ⟨t2, rfl⟩ := rx
      have e : (z == y) = decide (V.str y = V.str z) := by
        by_cases c : z = y
        · subst c; simp
        · have : ¬ (V.str y = V.str z) := fun w => c (by cases w; rfl)
          simp [c, this]
      exact e ▸ EqAt.str_str z t' y t2
    | @lst a xs ds hs ha =>
      obtain rfl : v = Value.ref a := rx
      obtain ⟨its, _, p, _⟩ := I.list hs
      exact EqAt.str_list z t' p.isList hu1
    | @tup a xs ds hs ha =>
      obtain rfl : v = Value.ref a := rx
      obtain ⟨its, _, p, _⟩ := I.tuple hs
      exact EqAt.str_tuple z t' p hu1
    | @dct a kvs D hs hk =>
      obtain rfl : v = Value.ref a := rx
      obtain ⟨_, ne, vs, kv, o, es, ep, ho, hx, hdat, _, hp, _⟩ := hs.ok I.hok
      obtain ⟨cls, dd, data, sl⟩ := o
      obtain rfl : cls = .type "dict" := hx.1
      obtain rfl : data = .dict es ep := hdat
      exact eq_str_dict (c := .none) z t' ho hu1
  refine in_tupleAt (fun y => match y with | .str z _ => decide (x = V.str z) | _ => false) p (fun y hy => ?_) ⟨.bl _, H, I, ?_, q⟩
  · obtain ⟨z, t', rfl⟩ := (vals_strs (f := fun z => decide (x = V.str z)) rv).1 y (by simpa using hy)
    exact key z t'
  · have e := (vals_strs (f := fun z => decide (x = V.str z)) rv).2
    rw [← e]
    simp
    rfl
end
end Ph

/-! PhOkc: a def whose code object is known (it makes defs or lambdas), as FnOk: no guards asked. -/
namespace Ph
open PySem PySem.Spec PyProof.Rows L2
theorem okC {P : Program} {w : World} {K : PySem.W.Frag} {mg : Str → Option Value} {base : Heap} {x qual : Str} {st : Stmt} {f : Addr} {fd : FuncData} {N ps : List Str} {k : Nat} {sp : Sp} {c : Addr} (F : Fun K x qual st f fd) (hc : fd.code = .ref c) (S : FnScope N ps (defScope st)) (len : ∀ vs H Q E, sp vs H Q E → vs.length = ps.length)
    (hbody : ∀ (A : Around) (outer : List Env) (s : Shared) (H : Hp) (vs : List V) (Q : VK) (E : XK), Room k (A.deeper (envOfC qual (defScope st) s.heap.objs.size f (.ref c))) → sp vs H Q E →
      ∃ t, PSs (cxOf CX0 P w K mg base N qual (defScope st) f (.ref c) A outer s H E).nox (defBody st) t ∧ t { nx := fun _ H' => Q .non H', rt := Q } (start N vs) H) : FnOk P w K mg base CX0 (k + 1) f fd ps sp := by
  obtain ⟨oc, od, kV, doc, pm, an, cdv, ct, osl, rfl, lk, hcd⟩ := F.ex
  obtain rfl : cdv = Value.ref c := hc
  refine fn_of lk hcd S len fun A outer s H vs Q E hr hsp => ?_
  obtain ⟨t, h, q⟩ := hbody A outer s H vs Q E hr hsp
  exact ⟨t, h.nox, q⟩
theorem okCX {P : Program} {w : World} {K : PySem.W.Frag} {mg : Str → Option Value} {base : Heap} {x qual : Str} {st : Stmt} {f : Addr} {fd : FuncData} {N ps : List Str} {k : Nat} {sp : Sp} {c : Addr} (F : Fun K x qual st f fd) (hc : fd.code = .ref c) (S : FnScope N ps (defScope st)) (len : ∀ vs H Q E, sp vs H Q E → vs.length = ps.length)
    (hbody : ∀ (A : Around) (outer : List Env) (s : Shared) (H : Hp) (vs : List V) (Q : VK) (E : XK), Room k (A.deeper (envOfC qual (defScope st) s.heap.objs.size f (.ref c))) → sp vs H Q E →
      ∃ t, PSs (cxOf (L2.CX P w) P w K mg base N qual (defScope st) f (.ref c) A outer s H E) (defBody st) t ∧ t { nx := fun _ H' => Q .non H', rt := Q } (start N vs) H) : FnOk P w K mg base (L2.CX P w) (k + 1) f fd ps sp := by
  obtain ⟨oc, od, kV, doc, pm, an, cdv, ct, osl, rfl, lk, hcd⟩ := F.ex
  obtain rfl : cdv = Value.ref c := hc
  exact fn_of lk hcd S len fun A outer s H vs Q E hr hsp => hbody A outer s H vs Q E hr hsp
/-- the heap may grow, tables aside: what an ExtN leaves -/
theorem ext_st {H H' : Hp} {t : Addr} {bs : List Bk} (x : LamX.ExtN H H') (h : StAt H t bs) : StAt H' t bs := by
  obtain ⟨xs, e, bl⟩ := h
  exact ⟨xs, ext_tup x e, BL.kp bl fun v us e => ext_tup x e⟩
theorem ext_ch {H H' : Hp} {c : Addr} {C : List Int} (x : LamX.ExtN H H') (h : ChAt H c C) : ChAt H' c C := h.frz fun o u e => ext_frz x e
theorem ext_ins {H H' : Hp} {h : Addr} {C dx : Addr} {fs : List (Str × V)} (x : LamX.ExtN H H') (e : H h = some (.ins C dx fs)) : H' h = some (.ins C dx fs) := x _ _ e fun _ z => nomatch z
end Ph

/-! PhHr: a heap of any rule, as an object, with its steps. -/
namespace Ph
open PySem PySem.Spec PyProof.Rows L2
def hfr (r : Str) (c : Addr) (pg M : Int) (t l : Addr) : List (Str × V) := [("chain", .ref c), ("pages", .int pg), ("limit", .int M), ("rule", .str r), ("blocks", .ref t), ("steps", .ref l)]
section
variable {r : Str} {c t l u : Addr} {pg M : Int}
theorem hr_chain : (hfr r c pg M t l).lookup ("chain" : Str) = some (.ref c) := rfl
theorem hr_pages : (hfr r c pg M t l).lookup ("pages" : Str) = some (.int pg) := rfl
theorem hr_limit : (hfr r c pg M t l).lookup ("limit" : Str) = some (.int M) := rfl
theorem hr_rule : (hfr r c pg M t l).lookup ("rule" : Str) = some (.str r) := rfl
theorem hr_blocks : (hfr r c pg M t l).lookup ("blocks" : Str) = some (.ref t) := rfl
theorem hr_steps : (hfr r c pg M t l).lookup ("steps" : Str) = some (.ref l) := rfl
theorem hr_put : putF "blocks" (.ref u) (hfr r c pg M t l) = hfr r c pg M u l := rfl
theorem hr_puts : putF "steps" (.ref u) (hfr r c pg M t l) = hfr r c pg M t u := rfl
end
abbrev Tri := Str × Int × Int
def StL (H : Hp) (xs : List V) (ss : List Tri) : Prop := Paired (fun x (t : Tri) => ∃ T, x = V.ref T ∧ H T = some (.tup [.str t.1, .int t.2.1, .int t.2.2])) xs ss
theorem paired_impL {α β : Type} {R S : α → β → Prop} (h : ∀ a b, R a b → S a b) : ∀ {l : List α} {m : List β}, Paired R l m → Paired S l m
  | _, _, .nil => .nil
  | _, _, .cons x r => .cons (h _ _ x) (paired_impL h r)
theorem StL.kp {H H' : Hp} {xs : List V} {ss : List Tri} (h : StL H xs ss) (k : KpT H H') : StL H' xs ss := paired_impL (fun x t ⟨T, e1, e2⟩ => ⟨T, e1, k _ _ e2⟩) h
theorem StL.len {H : Hp} {xs : List V} {ss : List Tri} (h : StL H xs ss) : xs.length = ss.length := h.length
structure HrA (C : Addr) (H : Hp) (h l c : Addr) (r : Str) (s : Nat → Nat) (p pg M : Nat) (bs : List Bk) (ss : List Tri) (dx t : Addr) (xs : List V) : Prop where
  ob : H h = some (.ins C dx (hfr r c pg M t l))
  ch : ChAt H c (tl s (p + 1))
  st : StAt H t bs
  ls : H l = some (.lst xs)
  sl : StL H xs ss
def HrS (C : Addr) (H : Hp) (h l c : Addr) (r : Str) (s : Nat → Nat) (p pg M : Nat) (bs : List Bk) (ss : List Tri) : Prop := ∃ dx t xs, HrA C H h l c r s p pg M bs ss dx t xs
section
variable {C : Addr} {H H' : Hp} {h l c : Addr} {r : Str} {s : Nat → Nat} {p pg M : Nat} {bs : List Bk} {ss : List Tri}
theorem HrA.kp {dx t : Addr} {xs : List V} (a : HrA C H h l c r s p pg M bs ss dx t xs) (k1 : ∀ C' dx' fs, H h = some (.ins C' dx' fs) → H' h = some (.ins C' dx' fs)) (k2 : ∀ ys, H l = some (.lst ys) → H' l = some (.lst ys)) (k3 : KpT H H') (k4 : ∀ o u, H c = some (.frz o u) → H' c = some (.frz o u)) : HrA C H' h l c r s p pg M bs ss dx t xs :=
  ⟨k1 _ _ _ a.ob, a.ch.frz k4, a.st.mono k3, k2 _ a.ls, a.sl.kp k3⟩
theorem HrS.same (a : HrS C H h l c r s p pg M bs ss) (sm : Same H H') : HrS C H' h l c r s p pg M bs ss := by
  obtain ⟨dx, t, xs, a⟩ := a
  exact ⟨dx, t, xs, a.kp (fun _ _ _ e => sm _ _ e) (fun _ e => sm _ _ e) (fun _ _ e => sm _ _ e) fun _ _ e => sm _ _ e⟩
theorem HrS.ext (a : HrS C H h l c r s p pg M bs ss) (x : LamX.ExtN H H') : HrS C H' h l c r s p pg M bs ss := by
  obtain ⟨dx, t, xs, a⟩ := a
  exact ⟨dx, t, xs, a.kp (fun _ _ _ e => ext_ins x e) (fun _ e => ext_lst x e) (fun _ _ e => ext_tup x e) fun _ _ e => ext_frz x e⟩
theorem HrS.but {q : Addr} {ys : List V} (a : HrS C H h l c r s p pg M bs ss) (b : But q H H') (e : H q = some (.lst ys)) (nq : l ≠ q) : HrS C H' h l c r s p pg M bs ss := by
  obtain ⟨dx, t, xs, a⟩ := a
  exact ⟨dx, t, xs, a.kp (fun _ _ _ e1 => b _ _ (ne_of e1 e (by intro z; cases z)) e1) (fun _ e1 => b _ _ nq e1) (b.kpT e) fun _ _ e1 => b _ _ (ne_of e1 e (by intro z; cases z)) e1⟩
/-- beside another object that changes -/
theorem HrS.butI {q C' dx' : Addr} {fs : List (Str × V)} (a : HrS C H h l c r s p pg M bs ss) (b : But q H H') (e : H q = some (.ins C' dx' fs)) (nq : h ≠ q) : HrS C H' h l c r s p pg M bs ss := by
  obtain ⟨dx, t, xs, a⟩ := a
  exact ⟨dx, t, xs, a.kp (fun _ _ _ e1 => b _ _ nq e1) (fun _ e1 => b _ _ (ne_of e1 e (by intro z; cases z)) e1) (fun _ _ e1 => b _ _ (ne_of e1 e (by intro z; cases z)) e1) fun _ _ e1 => b _ _ (ne_of e1 e (by intro z; cases z)) e1⟩
/-- what stands beside another heap that changes -/
theorem HrS.fr {h2 l2 C2 dx2 : Addr} {fs : List (Str × V)} {ys : List V} (a : HrS C H h l c r s p pg M bs ss) (f : Fr h2 l2 H H') (e1 : H h2 = some (.ins C2 dx2 fs)) (e2 : H l2 = some (.lst ys)) (nh : h ≠ h2) (nl : l ≠ l2) : HrS C H' h l c r s p pg M bs ss := by
  obtain ⟨dx, t, xs, a⟩ := a
  exact ⟨dx, t, xs, a.kp (fun _ _ _ e => f _ _ nh (ne_of e e2 (by intro z; cases z)) e) (fun _ e => f _ _ (ne_of e e1 (by intro z; cases z)) nl e) (f.kpT e1 e2) (f.frz e1 e2)⟩
end
theorem paired_snocR {α β : Type} {R : α → β → Prop} : ∀ {l : List α} {m : List β} {b : β}, Paired R l (m ++ [b]) → ∃ l' a, l = l' ++ [a] ∧ Paired R l' m ∧ R a b
  | _, [], b, h => by
    cases h with
    | cons x r =>
      cases r
      exact ⟨[], _, rfl, .nil, x⟩
  | _, c :: m, b, h => by
    cases h with
    | cons x r =>
      obtain ⟨l', a, e1, e2, e3⟩ := paired_snocR r
      exact ⟨_ :: l', a, by rw [e1]; rfl, .cons x e2, e3⟩
end Ph

/-! PhHw: histories of a heap, whatever places its blocks were put at; the newest step first. -/
namespace Ph
open PySem PySem.Spec PyProof.Rows L2
namespace HW
theorem perm_filt {e : Bk} : ∀ {cs : List Bk}, cs.Pairwise (fun x y => x.1 ≠ y.1) → e ∈ cs → cs.Perm (e :: cs.filter fun b => decide (b.1 ≠ e.1))
  | c :: r, pw, h => by
    obtain ⟨p1, p2⟩ := List.pairwise_cons.mp pw
    rcases List.mem_cons.mp h with z | z
    · subst z
      have : (r.filter fun b => decide (b.1 ≠ e.1)) = r := List.filter_eq_self.mpr fun b hb => decide_eq_true fun z => p1 b hb z.symm
      rw [List.filter_cons_of_neg (by simp), this]
    · have ne := p1 e z
      rw [List.filter_cons_of_pos (by simpa using ne)]
      exact ((perm_filt p2 z).cons c).trans (List.Perm.swap ..)
theorem st_app {C : List Int} {W : Int} {bs : List Bk} (st : St C W bs) : bs.Pairwise apart := st.asc.imp fun h => .inl h
theorem St_nes {C : List Int} {W : Int} {bs : List Bk} (st : St C W bs) : bs.Pairwise fun x y => x.1 ≠ y.1 :=  st.asc.imp_of_mem fun {b c} hb hc h z => by
  have := (st.ok b hb).2.1
  omega
theorem St_lex {C : List Int} {W : Int} {bs : List Bk} (st : St C W bs) : bs.Pairwise fun x y => SrtO.lexB y x = false :=  st.asc.imp_of_mem fun {b c} hb hc h => SrtO.lexB_no.mpr (by
  have := (st.ok b hb).2.1
  omega)
theorem add_st {C : List Int} {W a z : Int} {bs cs : List Bk} (st : St C W bs) (ok : okB C W (a, z)) (ap : ∀ b ∈ bs, a + z ≤ b.1 ∨ b.1 + b.2 ≤ a) (p : cs.Perm (bs ++ [(a, z)])) (srt : cs.Pairwise fun x y => SrtO.lexB y x = false) : St C W cs := by
  refine sorted_st (fun b hb => ?_) (List.pairwise_append.mpr ⟨st_app st, List.pairwise_singleton _ _, fun b hb c hc => ?_⟩) p srt
  · rcases List.mem_append.mp hb with h | h
    · exact st.ok b h
    · rw [List.mem_singleton.mp h]
      exact ok
  · rw [List.mem_singleton.mp hc]
    rcases ap b hb with h | h
    · exact .inr h
    · exact .inl h
theorem len_sum : ∀ {bs : List Bk}, (∀ b ∈ bs, 1 ≤ b.2) → (bs.length : Int) ≤ (bs.map fun b => b.2).sum
  | [], _ => Int.le_refl _
  | b :: r, h => by
    have h1 := h b (List.mem_cons_self ..)
    have ih := len_sum (bs := r) fun c hc => h c (List.mem_cons_of_mem _ hc)
    rw [List.length_cons, List.map_cons, List.sum_cons]
    omega
abbrev tt (bs : List Bk) : Int := (bs.map fun b => b.2).sum
theorem tt_perm {bs cs : List Bk} (pm : cs.Perm bs) : tt cs = tt bs := sum_perm pm
theorem tt_snoc (bs : List Bk) (b : Bk) : tt (bs ++ [b]) = tt bs + b.2 := by
  unfold tt
  rw [List.map_append, List.sum_append]
  simp
theorem tt_filt {C : List Int} {W : Int} {bs : List Bk} {e : Bk} (st : St C W bs) (he : e ∈ bs) : tt bs - tt (bs.filter fun b => decide (b.1 ≠ e.1)) = e.2 := by
  have h1 : tt bs = e.2 + tt (bs.filter fun b => decide (b.1 ≠ e.1)) := by
    rw [tt_perm (perm_filt (St_nes st) he)]
    rfl
  omega
end HW
/-- a place for a block: within the heap, beside its blocks -/
structure Spt (z : Int) (bs : List Bk) (W x : Int) : Prop where
  mod : x % z = 0
  pos : 0 ≤ x
  fit : x + z ≤ W
  free : ∀ b ∈ bs, x + z ≤ b.1 ∨ b.1 + b.2 ≤ x
inductive Hw (s : Nat → Nat) (p : Nat) (W : Int) (M : Nat) : List Tri → List Bk → Prop
  | nil : Hw s p W M [] []
  | get {rs : List Tri} {bs cs : List Bk} {x : Int} {i : Nat} : Hw s p W M rs bs → i ≤ p → (bs.map fun b => b.2).sum + ((s i : Nat) : Int) ≤ M → Spt ((s i : Nat) : Int) bs W x → cs.Perm (bs ++ [(x, ((s i : Nat) : Int))]) → (cs.Pairwise fun x y => SrtO.lexB y x = false) → Hw s p W M ((("get" : Str), x, ((s i : Nat) : Int)) :: rs) cs
  | free {rs : List Tri} {bs : List Bk} {e : Bk} : Hw s p W M rs bs → e ∈ bs → Hw s p W M ((("free" : Str), e.1, e.2) :: rs) (bs.filter fun b => decide (b.1 ≠ e.1))
section
variable {s : Nat → Nat} {p M : Nat} {W : Int}
theorem Hw.st {rs : List Tri} {bs : List Bk} (c : CH s (p + 1)) (h : Hw s p W M rs bs) : St (tl s (p + 1)) W bs := by
  induction h with
  | nil => exact ⟨(fun b hb => nomatch hb), List.Pairwise.nil⟩
  | @get rs bs cs x i _ hi _ sp pm srt ih =>
    have := c.pos (i := i) (by omega)
    exact HW.add_st ih ⟨tl_mem.mpr ⟨i, by omega, rfl⟩, by show 1 ≤ ((s i : Nat) : Int); omega, sp.pos, sp.mod, sp.fit⟩ sp.free pm srt
  | free _ _ ih => exact ih.filter _
theorem Hw.tot {rs : List Tri} {bs : List Bk} (c : CH s (p + 1)) (h : Hw s p W M rs bs) : HW.tt bs ≤ M := by
  induction h with
  | nil => exact Int.natCast_nonneg _
  | @get rs bs cs x i _ hi hM sp pm srt ih =>
    rw [HW.tt_perm pm, HW.tt_snoc]
    exact hM
  | @free _ bs e h he ih =>
    have h1 := HW.tt_filt (h.st c) he
    have h2 := ((h.st c).ok e he).2.1
    omega
theorem Hw.len {rs : List Tri} {bs : List Bk} (c : CH s (p + 1)) (h : Hw s p W M rs bs) : bs.length ≤ M := by
  have h1 := HW.len_sum (bs := bs) fun b hb => ((h.st c).ok b hb).2.1
  have h2 := h.tot c
  unfold HW.tt at h2
  omega
theorem Hw.uniq {rs : List Tri} {bs cs : List Bk} (c : CH s (p + 1)) (h : Hw s p W M rs bs) (h' : Hw s p W M rs cs) : bs = cs := by
  induction h generalizing cs with
  | nil => cases h'; rfl
  | @get rs bs1 cs1 x i h1 hi hM sp pm srt ih =>
    generalize ez : ((s i : Nat) : Int) = z at h'
    cases h' with
    | @get _ bs2 _ _ i2 h2 hi2 hM2 sp2 pm2 srt2 =>
      have e1 := ih h2
      subst e1
      rw [ez] at pm
      exact perm_lex (pm.trans pm2.symm) srt srt2
  | @free rs bs1 e h1 he ih =>
    obtain ⟨e1, e2⟩ := e
    dsimp only at h'
    cases h' with
    | @free _ bs2 e' h2 he' =>
      have f1 := ih h2
      subst f1
      rfl
theorem Hw.tail {t : Tri} {rs : List Tri} {cs : List Bk} (h : Hw s p W M (t :: rs) cs) : ∃ bs, Hw s p W M rs bs := by
  cases h with
  | get h1 => exact ⟨_, h1⟩
  | free h1 _ => exact ⟨_, h1⟩
theorem Hw.pre {ss : List Tri} {bs : List Bk} (h : Hw s p W M ss.reverse bs) : ∀ n i, i + n = ss.length → ∃ cs, Hw s p W M (ss.take i).reverse cs
  | 0, i, e => ⟨bs, by rw [List.take_of_length_le (by omega)]; exact h⟩
  | n + 1, i, e => by
    obtain ⟨cs, h'⟩ := Hw.pre h n (i + 1) (by omega)
    have hlt : i < ss.length := by omega
    rw [List.take_add_one, List.getElem?_eq_getElem hlt, List.reverse_append] at h'
    exact h'.tail
theorem Hw.undo {st : Tri} {rs : List Tri} {cs : List Bk} (c : CH s (p + 1)) (h : Hw s p W M (st :: rs) cs) : ∃ bs, Hw s p W M rs bs ∧
    ((st.1 = "get" ∧ (∃ b ∈ cs, b.1 = st.2.1) ∧ (cs.filter fun b => decide (b.1 ≠ st.2.1)) = bs) ∨ (st.1 = "free" ∧ ∀ ds : List Bk, ds.Perm (cs ++ [(st.2.1, st.2.2)]) → (ds.Pairwise fun x y => SrtO.lexB y x = false) → ds = bs)) := by
  have st0 := h.st c
  cases h with
  | @get _ bs _ x i h1 hi hM sp pm srt =>
    refine ⟨bs, h1, .inl ⟨rfl, ⟨(x, ((s i : Nat) : Int)), pm.mem_iff.mpr (List.mem_append_right _ (List.mem_singleton.mpr rfl)), rfl⟩, ?_⟩⟩
    have stb := h1.st c
    have hin : (x, ((s i : Nat) : Int)) ∈ cs := pm.mem_iff.mpr (List.mem_append_right _ (List.mem_singleton.mpr rfl))
    have pf := HW.perm_filt (HW.St_nes st0) hin
    have pm2 : (cs.filter fun b => decide (b.1 ≠ x)).Perm bs := (List.perm_cons (x, ((s i : Nat) : Int))).mp (pf.symm.trans (pm.trans List.perm_append_comm))
    exact perm_lex pm2 (HW.St_lex (st0.filter _)) (HW.St_lex stb)
  | @free _ bs e h1 he =>
    refine ⟨bs, h1, .inr ⟨rfl, fun ds pm srt => ?_⟩⟩
    have stb := h1.st c
    have pf := HW.perm_filt (HW.St_nes stb) he
    exact perm_lex (pm.trans (List.perm_append_comm.trans pf.symm)) srt (HW.St_lex stb)
theorem Hw.gf {rs : List Tri} {bs : List Bk} (h : Hw s p W M rs bs) : ∀ t ∈ rs, t.1 = "get" ∨ t.1 = "free" := by
  induction h with
  | nil => exact fun t h => nomatch h
  | get _ _ _ _ _ _ ih =>
    intro t ht
    rcases List.mem_cons.mp ht with z | z
    · rw [z]; exact .inl rfl
    · exact ih t z
  | free _ _ ih =>
    intro t ht
    rcases List.mem_cons.mp ht with z | z
    · rw [z]; exact .inr rfl
    · exact ih t z
/-- the next step of a history -/
theorem Hw.step {ss : List Tri} {bs bi : List Bk} {i : Nat} {t : Tri} (c : CH s (p + 1)) (h : Hw s p W M ss.reverse bs) (hi : ss[i]? = some t) (hm : Hw s p W M (ss.take i).reverse bi) :
    (∃ j x cs, j ≤ p ∧ t = (("get" : Str), x, ((s j : Nat) : Int)) ∧ HW.tt bi + ((s j : Nat) : Int) ≤ M ∧ Spt ((s j : Nat) : Int) bi W x ∧ cs.Perm (bi ++ [(x, ((s j : Nat) : Int))]) ∧ (cs.Pairwise fun x y => SrtO.lexB y x = false) ∧ Hw s p W M (ss.take (i + 1)).reverse cs) ∨
    ∃ e ∈ bi, t = (("free" : Str), e.1, e.2) ∧ Hw s p W M (ss.take (i + 1)).reverse (bi.filter fun b => decide (b.1 ≠ e.1)) := by
  have hlt := (List.getElem?_eq_some_iff.mp hi).1
  have etk : (ss.take (i + 1)).reverse = t :: (ss.take i).reverse := by
    rw [List.take_add_one, hi, List.reverse_append]
    rfl
  obtain ⟨cs, h'⟩ := h.pre (ss.length - (i + 1)) (i + 1) (by omega)
  rw [etk] at h' ⊢
  cases h' with
  | @get _ b2 _ x j h1 hj hM sp pm srt =>
    have e1 := hm.uniq c h1
    subst e1
    exact .inl ⟨j, x, cs, hj, rfl, hM, sp, pm, srt, .get h1 hj hM sp pm srt⟩
  | @free _ b2 e h1 he =>
    have e1 := hm.uniq c h1
    subst e1
    exact .inr ⟨e, he, rfl, .free h1 he⟩
end
/-! ### events and histories -/
def evV (t : Tri) : List V := if t.1 = "get" then [.str "get", .int t.2.2, .int t.2.1] else [.str "free", .int t.2.1]
theorem evV_get (x z : Int) : evV (("get" : Str), x, z) = [.str "get", .int z, .int x] := if_pos rfl
theorem evV_free (x z : Int) : evV (("free" : Str), x, z) = [.str "free", .int x] := if_neg (show ¬ (("free" : Str) = "get") by decide +kernel)
def GF (t : Tri) : Prop := t.1 = "get" ∨ t.1 = "free"
def EvL (H : Hp) (ys : List V) (ss : List Tri) : Prop := Paired (fun y (t : Tri) => ∃ T, y = V.ref T ∧ H T = some (.tup (evV t))) ys ss
def HisAt (H : Hp) (u : Addr) (ss : List Tri) : Prop := ∃ ys, H u = some (.tup ys) ∧ EvL H ys ss
theorem EvL.kp {H H' : Hp} {ys : List V} {ss : List Tri} (h : EvL H ys ss) (k : KpT H H') : EvL H' ys ss := paired_impL (fun x t ⟨T, e1, e2⟩ => ⟨T, e1, k _ _ e2⟩) h
theorem HisAt.kp {H H' : Hp} {u : Addr} {ss : List Tri} (h : HisAt H u ss) (k : KpT H H') : HisAt H' u ss := by
  obtain ⟨ys, e, l⟩ := h
  exact ⟨ys, k _ _ e, l.kp k⟩
theorem HisAt.same {H H' : Hp} {u : Addr} {ss : List Tri} (h : HisAt H u ss) (s : Same H H') : HisAt H' u ss := h.kp fun _ _ e => s _ _ e
theorem paired_get' {α β : Type} {F : α → β → Prop} : ∀ {l : List α} {m : List β}, l.length = m.length → (∀ (i : Nat) (a : α) (b : β), l[i]? = some a → m[i]? = some b → F a b) → Paired F l m
  | [], [], _, _ => .nil
  | [], _ :: _, e, _ => by cases e
  | _ :: _, [], e, _ => by cases e
  | a :: l, b :: m, e, h => .cons (h 0 a b rfl rfl) (paired_get' (by simpa using e) fun i a' b' h1 h2 => h (i + 1) a' b' h1 h2)
end Ph

/-! PhRd: events of any value: which of them can be done (by their data); any data compared with a text. -/
namespace Ph
open PySem PySem.Spec PyProof.Rows L2
/-! ### any data == a text -/
section
open PySem.SeqAt MeetsSeq
variable {A : Around} {s : Shared}
theorem rc_dict_str {l : Addr} {ks : Array DictEntry} {n : Nat} {dd : Option Addr} {sl : Array (Option Value)} (b : Str) (u : Tok) (ho : s.heap.get? l = some { cls := .type "dict", dict := dd, data := .dict ks n, slots := sl }) (hu : A.units < cLine) : SeqAt.RcAt A s (.ref l) (.str b u) false := fun prog w E Q h =>
  rc_eq_decline_or (k := false) ⟨_, ho, rfl⟩ (typeIs_str s b u) (by decide) F.sub_str_dict F.slot_dict_eq F.slot_str_eq_refl
    (fun _ hq => call_meets F.slot_dict_eq ⟨_, ho, rfl⟩ F.entry_dict_eq (F.args_dict_eq_2 _ _) (dict_declines l (.type "dict") (.dict ks n) dd sl b u) ⟨ho, hq⟩)
    (fun _ hq => call_meets F.slot_str_eq_refl (typeIs_str s b u) F.entry_str_eq (F.args_str_eq_2 _ _) (str_declines b u l (.type "dict") ks n dd sl) ⟨ho, hq⟩)
    (fun _ hq => wpAny_of_eq (rfl : isSame (.ref l) (.str b u) = pure false) hq) (.inr hu) h
end
section
variable {X : Cx}
/-- x == t, t a text, x any data -/
def rEqW (K : PySem.W.Frag) : R2 := fun x y H Q => ∃ d z, y = .str z ∧ Dq K H x d ∧ Q (.bl (decide (x = V.str z))) H
theorem op_eqW (hu : X.A.units < cLine) : OpR X (compareOp .Eq) (rEqW X.K) := by
  intro pins s σ H x y v u Q I rx ry h
  obtain ⟨d, z, rfl, dx, q⟩ := h
  obtain ⟨t, rfl⟩ := (show ∃ t, u = Value.str z t from ry)
  have key : SeqAt.RcAt X.A s v (.str z t) (decide (x = V.str z)) := by
    cases dx with
    | non => obtain rfl : v = Value.none := rx; exact SeqAt.RcAt.none_str z t
    | bl b => obtain rfl : v = Value.bool b := rx; exact SeqAt.RcAt.bool_str b z t
    | int i => obtain ⟨t2, rfl⟩ := rx; exact SeqAt.RcAt.int_str i t2 z t
    | str y => 
      obtain ⟨t2, rfl⟩ := rx
      have e : (y == z) = decide (V.str y = V.str z) := by
        by_cases c : y = z
        · subst c; simp
        · have : ¬ (V.str y = V.str z) := fun w => c (by cases w; rfl)
          simp [c, this]
      exact e ▸ SeqAt.RcAt.str_str y t2 z t
    | @lst a xs ds hs ha =>
      obtain rfl : v = Value.ref a := rx
      obtain ⟨its, _, p, _⟩ := I.list hs
      exact SeqAt.RcAt.list_str z t p.isList hu
    | @tup a xs ds hs ha =>
      obtain rfl : v = Value.ref a := rx
      obtain ⟨its, _, p, _⟩ := I.tuple hs
      exact SeqAt.RcAt.tuple_str z t p hu
    | @dct a kvs D hs hk =>
      obtain rfl : v = Value.ref a := rx
      obtain ⟨_, ne, vs, kv, o, es, ep, ho, hx, hdat, _, hp, _⟩ := hs.ok I.hok
      obtain ⟨cls, dd, data, sl⟩ := o
      obtain rfl : cls = .type "dict" := hx.1
      obtain rfl : data = .dict es ep := hdat
      exact rc_dict_str z t ho hu
  exact key _ _ _ _ ⟨.bl _, H, I, rfl, q⟩
end
theorem dq_noInt {K : PySem.W.Frag} {H : Hp} {x : V} {d : PyData} (h : Dq K H x d) : (NoInt K H x ∧ ∀ i, d ≠ .int i) ∨ ∃ i : Int, x = .int i ∧ d = .int i := by
  have ty := dq_ty h
  cases h with
  | int i => exact .inr ⟨i, rfl, rfl⟩
  | bl b => exact .inl ⟨.bl b, fun i z => nomatch z⟩
  | non => exact .inl ⟨.ty ty (by dsimp only [tyN]; decide +kernel), fun i z => nomatch z⟩
  | str y => exact .inl ⟨.ty ty (by dsimp only [tyN]; decide +kernel), fun i z => nomatch z⟩
  | lst hs ha => exact .inl ⟨.ty ty (by dsimp only [tyN]; decide +kernel), fun i z => nomatch z⟩
  | tup hs ha => exact .inl ⟨.ty ty (by dsimp only [tyN]; decide +kernel), fun i z => nomatch z⟩
  | dct hs ha => exact .inl ⟨.ty ty (by dsimp only [tyN]; decide +kernel), fun i z => nomatch z⟩
theorem dq_isStr {K : PySem.W.Frag} {H : Hp} {x : V} {d : PyData} (h : Dq K H x d) (z : Str) : x = .str z ↔ d = .str z := by
  cases h <;> constructor <;> intro e <;> cases e <;> rfl
theorem dqAll_len {K : PySem.W.Frag} {H : Hp} : ∀ {xs : List V} {ds : List PyData}, DqAll K H xs ds → xs.length = ds.length
  | _, _, .nil => rfl
  | _, _, .cons _ r => by rw [List.length_cons, List.length_cons, dqAll_len r]
theorem dqAll_get {K : PySem.W.Frag} {H : Hp} : ∀ {xs : List V} {ds : List PyData} {i : Nat} {x : V}, DqAll K H xs ds → xs[i]? = some x → ∃ d, ds[i]? = some d ∧ Dq K H x d
  | _, _, 0, _, .cons h _, e => by cases e; exact ⟨_, rfl, h⟩
  | _, _, i + 1, _, .cons _ r, e => dqAll_get (i := i) r e
/-! ### events that can be done -/
def evD (t : Tri) : PyData := if t.1 = "get" then .tuple [.str "get", .int t.2.2, .int t.2.1] else .tuple [.str "free", .int t.2.1]
theorem evD_get (a z : Int) : evD (("get" : Str), a, z) = .tuple [.str "get", .int z, .int a] := if_pos rfl
theorem evD_free (a z : Int) : evD (("free" : Str), a, z) = .tuple [.str "free", .int a] := if_neg (show ¬ (("free" : Str) = "get") by decide +kernel)
/-- the data of an event that can be done with the blocks bs -/
def GoodD (s : Nat → Nat) (p : Nat) (W : Int) (M : Nat) (bs : List Bk) (d : PyData) : Prop :=
  (∃ j a, j ≤ p ∧ d = .tuple [.str "get", .int ((s j : Nat) : Int), .int a] ∧ HW.tt bs + ((s j : Nat) : Int) ≤ M ∧ Spt ((s j : Nat) : Int) bs W a) ∨ ∃ b ∈ bs, d = .tuple [.str "free", .int b.1]
structure RunD (s : Nat → Nat) (p : Nat) (W : Int) (M : Nat) (ds : List PyData) (bs : List Bk) (ss : List Tri) : Prop where
  hw : Hw s p W M ss.reverse bs
  ev : ds = ss.map evD
section
variable {s : Nat → Nat} {p M : Nat} {W : Int}
theorem run_nil : RunD s p W M [] [] [] := ⟨.nil, rfl⟩
theorem pw_uniq {bs : List Bk} {b c : Bk} (h : bs.Pairwise fun x y => x.1 ≠ y.1) (hb : b ∈ bs) (hc : c ∈ bs) (e : b.1 = c.1) : b = c := by
  induction bs with
  | nil => cases hb
  | cons a r ih =>
    obtain ⟨h1, h2⟩ := List.pairwise_cons.mp h
    rcases List.mem_cons.mp hb with z | z <;> rcases List.mem_cons.mp hc with y | y
    · rw [z, y]
    · rw [z] at e; exact absurd e (h1 c y)
    · rw [y] at e; exact absurd e.symm (h1 b z)
    · exact ih h2 z y
theorem hw_ev {rs : List Tri} {bs : List Bk} (c : CH s (p + 1)) (h : Hw s p W M rs bs) : ∀ {rs' : List Tri} {bs' : List Bk}, Hw s p W M rs' bs' → rs.map evD = rs'.map evD → rs = rs' ∧ bs = bs' := by
  induction h with
  | nil =>
    intro rs' bs' h' e
    cases h' with
    | nil => exact ⟨rfl, rfl⟩
    | get => cases e
    | free => cases e
  | @get rs bs cs x i h1 hi hM sp pm srt ih =>
    intro rs' bs' h' e
    cases h' with
    | nil => cases e
    | @get rs2 bs2 cs2 x2 i2 h2 hi2 hM2 sp2 pm2 srt2 =>
      rw [List.map_cons, List.map_cons, evD_get, evD_get] at e
      injection e with e1 e2
      injection e1 with e1
      injection e1 with _ e1
      injection e1 with e1 e3
      injection e3 with e3 _
      injection e1 with e1
      injection e3 with e3
      subst e3
      obtain ⟨q1, q2⟩ := ih h2 e2
      subst q1 q2
      rw [e1] at pm ⊢
      exact ⟨rfl, perm_lex (pm.trans pm2.symm) srt srt2⟩
    | @free rs2 bs2 b h2 hb =>
      rw [List.map_cons, List.map_cons, evD_get, evD_free] at e
      injection e with e1 e2
      injection e1 with e1
      injection e1 with _ e1
      injection e1 with _ e1
      cases e1
  | @free rs bs b h1 hb ih =>
    intro rs' bs' h' e
    cases h' with
    | nil => cases e
    | @get rs2 bs2 cs2 x2 i2 h2 hi2 hM2 sp2 pm2 srt2 =>
      rw [List.map_cons, List.map_cons, evD_get, evD_free] at e
      injection e with e1 e2
      injection e1 with e1
      injection e1 with _ e1
      injection e1 with _ e1
      cases e1
    | @free rs2 bs2 b2 h2 hb2 =>
      rw [List.map_cons, List.map_cons, evD_free, evD_free] at e
      injection e with e1 e2
      injection e1 with e1
      injection e1 with _ e1
      injection e1 with e1 _
      injection e1 with e1
      obtain ⟨q1, q2⟩ := ih h2 e2
      subst q1 q2
      have st := h1.st c
      have eb : b = b2 := by
        have := HW.St_nes st
        exact pw_uniq this hb hb2 e1
      subst eb
      exact ⟨rfl, rfl⟩
theorem RunD.uniq {ds : List PyData} {bs bs' : List Bk} {ss ss' : List Tri} (c : CH s (p + 1)) (r : RunD s p W M ds bs ss) (r' : RunD s p W M ds bs' ss') : bs = bs' ∧ ss = ss' := by
  have e : ss.reverse.map evD = ss'.reverse.map evD := by rw [List.map_reverse, List.map_reverse, ← r.ev, ← r'.ev]
  obtain ⟨h1, h2⟩ := hw_ev c r.hw r'.hw e
  exact ⟨h2, by have := congrArg List.reverse h1; rwa [List.reverse_reverse, List.reverse_reverse] at this⟩
/-- a run's last event could be done -/
theorem RunD.last {ds : List PyData} {d : PyData} {cs : List Bk} {ss' : List Tri} (r : RunD s p W M (ds ++ [d]) cs ss') : ∃ bs ss, RunD s p W M ds bs ss ∧ GoodD s p W M bs d := by
  obtain ⟨hw, ev⟩ := r
  generalize er : ss'.reverse = rs at hw
  obtain rfl : ss' = rs.reverse := by rw [← er, List.reverse_reverse]
  cases hw with
  | nil => simp at ev
  | @get rs bs cs x i h1 hi hM sp pm srt =>
    rw [List.reverse_cons, List.map_append] at ev
    obtain ⟨e1, e2⟩ := List.append_inj' ev rfl
    rw [List.map_cons, evD_get, List.map_nil] at e2
    injection e2 with e2
    exact ⟨bs, rs.reverse, ⟨by rw [List.reverse_reverse]; exact h1, e1⟩, .inl ⟨i, x, hi, e2, hM, sp⟩⟩
  | @free rs bs b h1 hb =>
    rw [List.reverse_cons, List.map_append] at ev
    obtain ⟨e1, e2⟩ := List.append_inj' ev rfl
    rw [List.map_cons, evD_free, List.map_nil] at e2
    injection e2 with e2
    exact ⟨bs, rs.reverse, ⟨by rw [List.reverse_reverse]; exact h1, e1⟩, .inr ⟨b, hb, e2⟩⟩
theorem RunD.pre {ds : List PyData} {bs : List Bk} {ss : List Tri} (r : RunD s p W M ds bs ss) (i : Nat) : ∃ cs, RunD s p W M (ds.take i) cs (ss.take i) := by
  by_cases h : i ≤ ss.length
  · obtain ⟨cs, h'⟩ := r.hw.pre (ss.length - i) i (by omega)
    exact ⟨cs, h', by rw [r.ev, List.map_take]⟩
  · exact ⟨bs, by rw [List.take_of_length_le (by omega)]; exact r.hw, by rw [r.ev, List.take_of_length_le (by rw [List.length_map]; omega), List.take_of_length_le (by omega)]⟩
/-- what becomes of a history -/
inductive Out
  | done (bs : List Bk) (ss : List Tri)
  | bad (i : Nat)
inductive OutD (s : Nat → Nat) (p : Nat) (W : Int) (M : Nat) : PyData → Out → Prop
  | notT {d : PyData} : (∀ ds, d ≠ .tuple ds) → OutD s p W M d (.bad 0)
  | done {ds : List PyData} {bs : List Bk} {ss : List Tri} : RunD s p W M ds bs ss → OutD s p W M (.tuple ds) (.done bs ss)
  | bad {ds : List PyData} {bs : List Bk} {ss : List Tri} {d : PyData} {i : Nat} : RunD s p W M (ds.take i) bs ss → ds[i]? = some d → ¬ GoodD s p W M bs d → OutD s p W M (.tuple ds) (.bad i)
theorem bad_not {ds : List PyData} {bs cs : List Bk} {ss ts : List Tri} {d : PyData} {i n : Nat} (c : CH s (p + 1)) (r : RunD s p W M (ds.take i) bs ss) (e : ds[i]? = some d) (g : ¬ GoodD s p W M bs d) (hn : i < n) (r' : RunD s p W M (ds.take n) cs ts) : False := by
  obtain ⟨cs1, r1⟩ := r'.pre (i + 1)
  rw [List.take_take, Nat.min_eq_left (by omega), List.take_add_one, e] at r1
  obtain ⟨bs2, ss2, r2, g2⟩ := RunD.last (d := d) r1
  obtain ⟨e1, _⟩ := r.uniq c r2
  rw [e1] at g
  exact g g2
theorem OutD.uniq {d : PyData} {o o' : Out} (c : CH s (p + 1)) (h : OutD s p W M d o) (h' : OutD s p W M d o') : o = o' := by
  cases h with
  | notT n =>
    cases h' with
    | notT => rfl
    | done => exact absurd rfl (n _)
    | bad => exact absurd rfl (n _)
  | @done ds bs ss r =>
    cases h' with
    | notT n => exact absurd rfl (n _)
    | done r' =>
      obtain ⟨e1, e2⟩ := r.uniq c r'
      rw [e1, e2]
    | @bad _ bs2 ss2 d2 i r2 e g =>
      exfalso
      have hi := (List.getElem?_eq_some_iff.mp e).1
      exact bad_not c r2 e g hi (n := ds.length) (by rw [List.take_length]; exact r)
  | @bad ds bs ss d1 i r e g =>
    cases h' with
    | notT n => exact absurd rfl (n _)
    | done r' =>
      exfalso
      have hi := (List.getElem?_eq_some_iff.mp e).1
      exact bad_not c r e g hi (n := ds.length) (by rw [List.take_length]; exact r')
    | @bad _ bs2 ss2 d2 i2 r2 e2 g2 =>
      rcases Nat.lt_trichotomy i i2 with z | z | z
      · exact (bad_not c r e g z r2).elim
      · rw [z]
      · exact (bad_not c r2 e2 g2 z r).elim
end
/-- the data of an item that has the form of an event -/
def formD : PyData → Bool
  | .tuple [.str w, _, _] => decide (w = "get")
  | .tuple [.str w, _] => decide (w = "free")
  | _ => false
theorem good_form {s : Nat → Nat} {p M : Nat} {W : Int} {bs : List Bk} {d : PyData} (g : GoodD s p W M bs d) : formD d = true := by
  rcases g with ⟨j, a, _, e, _⟩ | ⟨b, _, e⟩ <;> rw [e] <;> simp [formD]
end Ph
namespace Ph
open PySem PySem.Spec PyProof.Rows L2
theorem form_iff {d : PyData} (h : formD d = true) : (∃ d1 d2, d = .tuple [.str "get", d1, d2]) ∨ ∃ d1, d = .tuple [.str "free", d1] := by
  unfold formD at h
  split at h
  · exact .inl ⟨_, _, by rw [of_decide_eq_true h]⟩
  · exact .inr ⟨_, by rw [of_decide_eq_true h]⟩
  · cases h
end Ph
namespace Ph
open PySem PySem.Spec PyProof.Rows L2
section
variable {X : Cx}
/-- t == (), t any tuple -/
def rEqT0 (K : PySem.W.Frag) : R2 := fun x y H Q => ∃ (a b : Addr) (xs : List V), x = .ref a ∧ y = .ref b ∧ SqT K H a xs ∧ SqT K H b [] ∧ Q (.bl xs.isEmpty) H
theorem op_eqT0 (hu : X.A.units < cLine) : OpR X (compareOp .Eq) (rEqT0 X.K) := by
  intro pins s σ H x y v u Q I rx ry h
  obtain ⟨a, b, xs, rfl, rfl, ha, hb, q⟩ := h
  obtain rfl : v = Value.ref a := rx
  obtain rfl : u = Value.ref b := ry
  obtain ⟨its, rv, p, _⟩ := I.tuple ha
  obtain ⟨its2, rv2, p2, _⟩ := I.tuple hb
  obtain rfl : its2 = [] := by cases rv2; rfl
  have key := SeqAt.RcAt.tuples (A := X.A) (s := s) (e := fun _ => true) p p2 hu (fun j h1 h2 => absurd h2 (by simp))
  have e : ((List.range (min its.toArray.size ([] : List Value).toArray.size)).all (fun _ => true) && its.toArray.size == ([] : List Value).toArray.size) = xs.isEmpty := by
    cases rv with
    | nil => rfl
    | cons r t => simp
  rw [e] at key
  exact key _ _ _ _ ⟨.bl _, H, I, rfl, q⟩
end
end Ph
namespace Ph
open PySem PySem.Spec PyProof.Rows L2
/-- data without dicts, as HandS tells it -/
theorem Dq.dp {K : PySem.W.Frag} {H : Hp} {v : V} {d : PyData} (h : Dq K H v d) : d.canLay0 = true → Dp K H v d := by
  refine @Dq.rec K H (fun v d _ => d.canLay0 = true → Dp K H v d) (fun vs ds _ => PyData.canLayAll0 ds = true → DpAll K H vs ds) (fun kvs D _ => True) ?_ ?_ ?_ ?_ ?_ ?_ ?_ ?_ ?_ ?_ ?_ v d h
  · exact fun _ => .non
  · exact fun b _ => .bl b
  · exact fun i _ => .int i
  · exact fun x _ => .str x
  · intro a xs ds hs ha ih c
    rw [PyData.canLay0] at c
    exact .lst hs (ih c)
  · intro a xs ds hs ha ih c
    rw [PyData.canLay0] at c
    exact .tup hs (ih c)
  · intro a kvs ds hs ha ih c
    rw [PyData.canLay0] at c
    cases c
  · exact fun _ => .nil
  · intro v vs d ds h r i1 i2 c
    rw [PyData.canLayAll0, Bool.and_eq_true] at c
    exact .cons (i1 c.1) (i2 c.2)
  · trivial
  · intros
    trivial
theorem evD_lay (t : Tri) : (evD t).canLay0 = true := by
  have h1 : PyData.strOk "get" = true := by decide +kernel
  have h2 : PyData.strOk "free" = true := by decide +kernel
  unfold evD
  split <;> simp [PyData.canLay0, PyData.canLayAll0, h1, h2]
theorem evD_depth (t : Tri) : (evD t).depth = 1 := by
  unfold evD
  split <;> simp [PyData.depth, PyData.depthAll]
theorem evDs_lay : ∀ ss : List Tri, PyData.canLayAll0 (ss.map evD) = true
  | [] => by simp [PyData.canLayAll0]
  | z :: zs => by simp [PyData.canLayAll0, evD_lay z, evDs_lay zs]
theorem evDs_depth : ∀ ss : List Tri, PyData.depthAll (ss.map evD) ≤ 1
  | [] => by simp [PyData.depthAll]
  | z :: zs => by
    have h1 := evDs_depth zs
    have h2 := evD_depth z
    simp only [List.map_cons, PyData.depthAll, h2]
    omega
theorem evDs_tlay (ss : List Tri) : PyData.canLay0 (.tuple (ss.map evD)) = true := by
  simp only [PyData.canLay0]
  exact evDs_lay ss
theorem evDs_shaped (ss : List Tri) : SeqAt.shaped (.tuple (ss.map evD)) = true := by
  have h1 := evDs_depth ss
  have h2 : PyData.depth (.tuple (ss.map evD)) ≤ 64 := by simp only [PyData.depth]; omega
  show (PyData.canLay0 (.tuple (ss.map evD)) && decide (PyData.depth (.tuple (ss.map evD)) ≤ 64)) = true
  rw [evDs_tlay, decide_eq_true h2]
  rfl
theorem dq_evs {K : PySem.W.Frag} {H : Hp} : ∀ {xs : List V} {ss : List Tri}, EvL H xs ss → DqAll K H xs (ss.map evD)
  | _, _, .nil => .nil
  | _, _, .cons (b := t) ⟨T, e, h⟩ r => by
    rw [e]
    refine .cons ?_ (dq_evs r)
    unfold evV at h
    unfold evD
    split at h
    · rename_i c
      rw [if_pos c]
      exact .tup (.inl (.inl h)) (.cons (.str _) (.cons (.int _) (.cons (.int _) .nil)))
    · rename_i c
      rw [if_neg c]
      exact .tup (.inl (.inl h)) (.cons (.str _) (.cons (.int _) .nil))
theorem his_dq {K : PySem.W.Frag} {H : Hp} {u : Addr} {ss : List Tri} (h : HisAt H u ss) : Dq K H (.ref u) (.tuple (ss.map evD)) := by
  obtain ⟨ys, e, l⟩ := h
  exact .tup (.inl (.inl e)) (dq_evs l)
end Ph

/-! PhTx: numbers, words and lines of a text; events read from lines. -/
namespace Ph
open PySem PySem.Spec PyProof.Rows L2
def isDg (c : Nat) : Bool := decide (48 ≤ c) && decide (c ≤ 57)
theorem isDg_iff {c : Nat} : isDg c = true ↔ 48 ≤ c ∧ c ≤ 57 := by simp [isDg]
/-- the number that a word is -/
def numOf (w : Str) : Option Nat := if 1 ≤ w.length ∧ w.length ≤ 20 ∧ (TL.tl w).all isDg = true ∧ ¬ ((TL.tl w)[0]? = some 48 ∧ 1 < w.length) then some (NumText.digitsVal (TL.tl w)) else none
def numV : Option Nat → V
  | none => .non
  | some n => .int (n : Int)
theorem dgs_ten : TL.tl (Str.ofString "0123456789") = [48, 49, 50, 51, 52, 53, 54, 55, 56, 57] := by
  rw [TL.tl_ofString]
  decide +kernel
theorem mem_ten {c : Nat} : c ∈ [48, 49, 50, 51, 52, 53, 54, 55, 56, 57] ↔ isDg c = true := by
  rw [isDg_iff]
  simp only [List.mem_cons, List.not_mem_nil, or_false]
  omega
theorem in_ten (c : Nat) : decide (c ∈ (Str.ofString "0123456789").cps.toList) = isDg c := by
  rw [Bool.eq_iff_iff, decide_eq_true_eq]
  show c ∈ TL.tl _ ↔ _
  rw [dgs_ten, mem_ten]
theorem goes_ten (c : Nat) : (Str.ofString "0123456789").cps.contains c = isDg c := by
  rw [Bool.eq_iff_iff, Array.contains_iff_mem, ← Array.mem_toList_iff]
  show c ∈ TL.tl _ ↔ _
  rw [dgs_ten, mem_ten]
theorem strip_dg (w : Str) : Txt.stripChars w (Str.ofString "0123456789") = Str.empty ↔ (TL.tl w).all isDg = true := by
  have go : (fun c => (Str.ofString "0123456789").cps.contains c) = isDg := funext goes_ten
  have e0 : Txt.stripChars w (Str.ofString "0123456789") = Txt.stripBy isDg true true w := by
    unfold Txt.stripChars
    rw [← go]
  rw [e0, stripBy_eq]
  obtain ⟨l1, l2, l3⟩ := lo_facts isDg w
  obtain ⟨h1, h2, h3, h4⟩ := hi_facts isDg w (stripLo isDg true w) l1
  generalize stripLo isDg true w = lo at l1 l2 l3 h1 h2 h3 h4 ⊢
  generalize stripHi isDg true w lo = hi at h1 h2 h3 h4 ⊢
  have len : w.length = (TL.tl w).length := TL.len_tl w
  have gd : ∀ k, w.cps.getD k 0 = (TL.tl w).getD k 0 := fun k => (getD_list w k).symm
  constructor
  · intro e
    have e1 : ((TL.tl w).drop lo).take (hi - lo) = [] := by
      rw [← TL.tl_strSub, e]
      rfl
    have e2 : hi - lo = 0 ∨ (TL.tl w).length ≤ lo := by
      rcases List.take_eq_nil_iff.mp e1 with z | z
      · exact .inl z
      · exact .inr (List.drop_eq_nil_iff.mp z)
    rw [List.all_eq_true]
    intro c hc
    obtain ⟨k, hk, rfl⟩ := List.mem_iff_getElem.mp hc
    have ek : (TL.tl w)[k] = w.cps.getD k 0 := by
      rw [gd, List.getD_eq_getElem?_getD, List.getElem?_eq_getElem hk]
      rfl
    rw [ek]
    by_cases c1 : k < lo
    · exact l2 k c1
    · exact h3 k (by omega) (by omega)
  · intro a
    rw [List.all_eq_true] at a
    have e : lo = w.length := by
      rcases l3 with z | z
      · exact z
      · by_cases c : lo < w.length
        · have c2 : lo < (TL.tl w).length := by omega
          rw [gd, List.getD_eq_getElem?_getD, List.getElem?_eq_getElem c2] at z
          have y := a _ (List.getElem_mem c2)
          rw [Option.getD_some, y] at z
          cases z
        · omega
    have e2 : hi = lo := by omega
    rw [e2]
    refine TL.ext_tl ?_
    rw [TL.tl_strSub, Nat.sub_self, List.take_zero]
    rfl
theorem dgs_lt : ∀ (l : List Nat) (a : Nat), (l.all isDg = true) → l.foldl (fun acc c => acc * 10 + (c - 48)) a < (a + 1) * 10 ^ l.length
  | [], a, _ => by simp
  | c :: r, a, h => by
    rw [List.all_cons, Bool.and_eq_true] at h
    have hc := isDg_iff.mp h.1
    have := dgs_lt r (a * 10 + (c - 48)) h.2
    rw [List.foldl_cons, List.length_cons]
    refine Nat.lt_of_lt_of_le this ?_
    rw [Nat.pow_succ, Nat.mul_comm (10 ^ r.length) 10, ← Nat.mul_assoc]
    exact Nat.mul_le_mul_right _ (by omega)
theorem numOf_lt {w : Str} {n : Nat} (h : numOf w = some n) : n < 10 ^ 20 := by
  unfold numOf at h
  split at h
  · rename_i c
    cases h
    have a := dgs_lt (TL.tl w) 0 c.2.2.1
    refine Nat.lt_of_lt_of_le a ?_
    rw [Nat.zero_add, Nat.one_mul]
    exact Nat.pow_le_pow_right (by decide) (by rw [← TL.len_tl]; exact c.2.1)
  · cases h
theorem numOf_int {w : Str} {n : Nat} (h : numOf w = some n) : PySem.intText? w = some (n : Int) := by
  unfold numOf at h
  split at h
  · rename_i c
    cases h
    obtain ⟨c1, c2, c3, _⟩ := c
    have := SX.int_S (a := TL.tl w) c3 (fun z => by rw [TL.len_tl, z] at c1; simp at c1) (by rw [← TL.len_tl]; omega)
    rw [← this]
  · cases h
theorem tlw_get {w : Str} {k : Nat} (h : k < w.length) : atI w.cps.toList (k : Int) = some ((TL.tl w)[k]'(by rw [← TL.len_tl]; exact h)) := by
  have e := TL.len_tl w
  exact atI_nat (List.getElem?_eq_getElem _)
/-! ### words and lines -/
theorem spl_ne {S : List Nat} : ∀ (l : List Nat) (k : Nat) (acc : List Nat), TL.spl S k acc l ≠ []
  | [], k, acc => by rw [TL.spl_nil]; exact List.cons_ne_nil _ _
  | c :: r, 0, acc => by
    by_cases h : TL.pre S (c :: r) = true
    · rw [TL.spl_hit h]; exact List.cons_ne_nil _ _
    · rw [TL.spl_miss (by simpa using h)]; exact spl_ne r 0 _
  | c :: r, k + 1, acc => spl_ne r k acc
theorem spl_wt {S : List Nat} : ∀ (l : List Nat) (k : Nat) (acc : List Nat), ((TL.spl S k acc l).map List.length).sum + (TL.spl S k acc l).length ≤ acc.length + l.length + 1
  | [], k, acc => by rw [TL.spl_nil]; simp
  | c :: r, 0, acc => by
    by_cases h : TL.pre S (c :: r) = true
    · rw [TL.spl_hit h]
      have := spl_wt (S := S) r (S.length - 1) []
      simp only [List.map_cons, List.sum_cons, List.length_cons, List.length_nil] at this ⊢
      omega
    · rw [TL.spl_miss (by simpa using h)]
      have := spl_wt (S := S) r 0 (acc ++ [c])
      simp only [List.length_append, List.length_cons, List.length_nil] at this ⊢
      omega
  | c :: r, k + 1, acc => by
    have := spl_wt (S := S) r k acc
    show ((TL.spl S k acc r).map List.length).sum + (TL.spl S k acc r).length ≤ _
    simp only [List.length_cons]
    omega
/-- the weight of a list of texts: their lengths and a sign behind each -/
def twt (xs : List Str) : Nat := (xs.map (·.length)).sum + xs.length
theorem twt_cons (x : Str) (xs : List Str) : twt (x :: xs) = x.length + 1 + twt xs := by
  unfold twt
  simp only [List.map_cons, List.sum_cons, List.length_cons]
  omega
theorem twt_app (xs ys : List Str) : twt (xs ++ ys) = twt xs + twt ys := by
  unfold twt
  rw [List.map_append, List.sum_append, List.length_append]
  omega
theorem twt_take (xs : List Str) (n : Nat) : twt (xs.take n) ≤ twt xs := by
  have := twt_app (xs.take n) (xs.drop n)
  rw [List.take_append_drop] at this
  omega
theorem twt_drop (xs : List Str) (n : Nat) : twt (xs.drop n) ≤ twt xs := by
  have := twt_app (xs.take n) (xs.drop n)
  rw [List.take_append_drop] at this
  omega
theorem twt_rev (xs : List Str) : twt xs.reverse = twt xs := by
  unfold twt
  rw [List.map_reverse, List.sum_reverse, List.length_reverse]
theorem twt_mem {x : Str} : ∀ {xs : List Str}, x ∈ xs → x.length + 1 ≤ twt xs
  | y :: ys, h => by
    rw [twt_cons]
    rcases List.mem_cons.mp h with rfl | h
    · omega
    · have := twt_mem h
      omega
theorem twt_len (xs : List Str) : xs.length ≤ twt xs := by
  unfold twt
  omega
section
variable {x y : Str} (hy : TL.tl y ≠ []) (hk : y.cps.all (· < 256) = true)
include hy hk
theorem split_ne : Txt.split x y ≠ [] := fun z => by
  have := TL.split_spl x y hy (TL.kind_ok hk)
  rw [z] at this
  exact spl_ne _ _ _ this.symm
theorem split_wt : twt (Txt.split x y) ≤ x.length + 1 := by
  have e := TL.split_spl x y hy (TL.kind_ok hk)
  have l := spl_wt (S := TL.tl y) (TL.tl x) 0 []
  rw [← e, List.map_map, List.length_map] at l
  unfold twt
  rw [TL.len_tl x]
  have e2 : (List.length ∘ TL.tl) = fun s : Str => s.length := funext fun s => (TL.len_tl s).symm
  rw [e2] at l
  simpa using l
end
theorem nl_ok : TL.tl (Str.ofString "\n") ≠ [] ∧ (Str.ofString "\n").cps.all (· < 256) = true := by decide +kernel
theorem sp_ok : TL.tl (Str.ofString " ") ≠ [] ∧ (Str.ofString " ").cps.all (· < 256) = true := by decide +kernel
theorem co_ok : TL.tl (Str.ofString ":") ≠ [] ∧ (Str.ofString ":").cps.all (· < 256) = true := by decide +kernel
theorem sl_ok : TL.tl (Str.ofString "/") ≠ [] ∧ (Str.ofString "/").cps.all (· < 256) = true := by decide +kernel
/-- the lines of a text, the words of a line -/
def linesT (x : Str) : List Str := Txt.split x "\n"
def wordsT (x : Str) : List Str := Txt.split x " "
theorem linesT_ne (x : Str) : linesT x ≠ [] := split_ne nl_ok.1 nl_ok.2
theorem linesT_wt (x : Str) : twt (linesT x) ≤ x.length + 1 := split_wt nl_ok.1 nl_ok.2
theorem wordsT_ne (x : Str) : wordsT x ≠ [] := split_ne sp_ok.1 sp_ok.2
theorem wordsT_wt (x : Str) : twt (wordsT x) ≤ x.length + 1 := split_wt sp_ok.1 sp_ok.2
theorem linesT_le {x l : Str} (h : l ∈ linesT x) : l.length ≤ x.length := by
  have := twt_mem h
  have := linesT_wt x
  omega
theorem linesT_len (x : Str) : (linesT x).length ≤ x.length + 1 := Nat.le_trans (twt_len _) (linesT_wt x)
theorem wordsT_le {x l : Str} (h : l ∈ wordsT x) : l.length ≤ x.length := by
  have := twt_mem h
  have := wordsT_wt x
  omega
theorem wordsT_len (x : Str) : (wordsT x).length ≤ x.length + 1 := Nat.le_trans (twt_len _) (wordsT_wt x)
theorem sD_all : ∀ xs ys : List Str, PyData.eqvAll (xs.map PyData.str) (ys.map PyData.str) = decide (xs = ys)
  | [], [] => by simp [PyData.eqvAll]
  | [], _ :: _ => by simp [PyData.eqvAll]
  | _ :: _, [] => by simp [PyData.eqvAll]
  | x :: xs, y :: ys => by
    rw [List.map_cons, List.map_cons, PyData.eqvAll, sD_all xs ys, PyData.eqv, Bool.eq_iff_iff]
    simp
theorem sD_eqv (xs ys : List Str) : PyData.eqv (.list (xs.map PyData.str)) (.list (ys.map PyData.str)) = decide (xs = ys) := by
  rw [PyData.eqv, sD_all]
theorem dp_strs {K : PySem.W.Frag} {H : Hp} : ∀ xs : List Str, DpAll K H (xs.map V.str) (xs.map PyData.str)
  | [] => .nil
  | x :: xs => .cons (.str x) (dp_strs xs)
/-- a text of code points -/
def Gw (w : Str) : Prop := ∀ c ∈ TL.tl w, c < 0x110000
theorem Gw.ok {w : Str} (h : Gw w) : PySem.PyData.strOk w = true := by
  unfold PySem.PyData.strOk
  rw [Array.all_eq_true']
  intro c hc
  exact decide_eq_true (h c (Array.mem_toList_iff.mpr hc))
theorem Gw.app {v w : Str} (h : Gw v) (k : Gw w) : Gw (v ++ w) := fun c hc => by
  rw [TL.tl_append] at hc
  exact (List.mem_append.mp hc).elim (h c) (k c)
theorem spl_mem {S : List Nat} {p : List Nat} {c : Nat} : ∀ (l : List Nat) (k : Nat) (acc : List Nat), p ∈ TL.spl S k acc l → c ∈ p → c ∈ acc ∨ c ∈ l
  | [], k, acc, h, hc => by
    rw [TL.spl_nil, List.mem_singleton] at h
    rw [h] at hc
    exact .inl hc
  | d :: r, 0, acc, h, hc => by
    by_cases q : TL.pre S (d :: r) = true
    · rw [TL.spl_hit q] at h
      rcases List.mem_cons.mp h with rfl | h
      · exact .inl hc
      · rcases spl_mem r _ _ h hc with z | z
        · exact absurd z List.not_mem_nil
        · exact .inr (List.mem_cons_of_mem _ z)
    · rw [TL.spl_miss (by simpa using q)] at h
      rcases spl_mem r _ _ h hc with z | z
      · rcases List.mem_append.mp z with z | z
        · exact .inl z
        · rw [List.mem_singleton.mp z]
          exact .inr (List.mem_cons_self ..)
      · exact .inr (List.mem_cons_of_mem _ z)
  | d :: r, k + 1, acc, h, hc => (spl_mem r k acc h hc).imp _root_.id (List.mem_cons_of_mem _)
theorem split_mem {x y p : Str} (hy : TL.tl y ≠ []) (hk : y.cps.all (· < 256) = true) (h : p ∈ Txt.split x y) (g : Gw x) : Gw p := fun c hc => by
  have e := TL.split_spl x y hy (TL.kind_ok hk)
  have m : TL.tl p ∈ TL.spl (TL.tl y) 0 [] (TL.tl x) := by
    rw [← e]
    exact List.mem_map_of_mem h
  rcases spl_mem _ _ _ m hc with z | z
  · exact absurd z List.not_mem_nil
  · exact g c z
theorem Gw.lines {x l : Str} (g : Gw x) (h : l ∈ linesT x) : Gw l := split_mem nl_ok.1 nl_ok.2 h g
theorem Gw.words {x l : Str} (g : Gw x) (h : l ∈ wordsT x) : Gw l := split_mem sp_ok.1 sp_ok.2 h g
theorem joinL_mem {S : List Nat} {c : Nat} : ∀ {ps : List (List Nat)}, c ∈ TL.joinL S ps → c ∈ S ∨ ∃ p ∈ ps, c ∈ p
  | [], h => absurd h List.not_mem_nil
  | [p], h => .inr ⟨p, List.mem_singleton.mpr rfl, h⟩
  | p :: q :: r, h => by
    have h : c ∈ p ++ (S ++ TL.joinL S (q :: r)) := h
    rcases List.mem_append.mp h with h | h
    · exact .inr ⟨p, List.mem_cons_self .., h⟩
    · rcases List.mem_append.mp h with h | h
      · exact .inl h
      · exact (joinL_mem h).imp _root_.id fun ⟨p, hp, z⟩ => ⟨p, List.mem_cons_of_mem _ hp, z⟩
theorem Gw.join {y : Str} {ps : List Str} (g : Gw y) (h : ∀ p ∈ ps, Gw p) : Gw (Txt.join y ps) := fun c hc => by
  rw [TL.join_eq, TL.tl_join] at hc
  rcases joinL_mem hc with z | ⟨p, hp, z⟩
  · exact g c z
  · obtain ⟨q, hq, rfl⟩ := List.mem_map.mp hp
    exact h q hq c z
theorem join_le {y : Str} {ps : List Str} (h : y.length ≤ 1) : (Txt.join y ps).length ≤ twt ps := by
  rw [TL.join_eq]
  refine Nat.le_trans (StrLaws.join_length_le y ps) ?_
  unfold twt
  have : ps.length * y.length ≤ ps.length * 1 := Nat.mul_le_mul_left _ h
  omega
theorem Gw.cut {z : Str} {lo hi : Option Int} (g : Gw z) : Gw (cutS z lo hi) := fun c hc => by
  unfold cutS at hc
  exact g c (List.mem_of_mem_drop (List.mem_of_mem_take hc))
theorem Gw.lit {s : String} (h : (s.toList.all fun c => decide (c.toNat < 0x110000)) = true) : Gw (Str.ofString s) := fun c hc => by
  rw [TL.tl_ofString] at hc
  obtain ⟨d, hd, rfl⟩ := List.mem_map.mp hc
  exact of_decide_eq_true (List.all_eq_true.mp h d hd)
theorem Gw.num (n : Nat) : Gw (Str.ofString (toString ((n : Nat) : Int))) := fun c hc => by
  rw [TL.tl_num] at hc
  have := TL.numL_digits n c hc
  omega
theorem stD_ok : ∀ xs : List Str, (∀ x ∈ xs, Gw x) → PyData.canLayAll0 (xs.map PyData.str) = true ∧ PyData.depthAll (xs.map PyData.str) ≤ 1
  | [], _ => by simp [PyData.canLayAll0, PyData.depthAll]
  | x :: xs, g => by
    have ih := stD_ok xs fun y hy => g y (List.mem_cons_of_mem _ hy)
    have gx := (g x (List.mem_cons_self ..)).ok
    refine ⟨by simp [PyData.canLayAll0, PyData.canLay0, ih.1, gx], ?_⟩
    have := ih.2
    simp only [List.map_cons, PyData.depthAll, PyData.depth]
    omega
theorem stD_shaped (xs : List Str) (g : ∀ x ∈ xs, Gw x) : SeqAt.shaped (.list (xs.map PyData.str)) = true := by
  have h := stD_ok xs g
  have h2 : PyData.depth (.list (xs.map PyData.str)) ≤ 64 := by simp only [PyData.depth]; omega
  have h3 : PyData.canLay0 (.list (xs.map PyData.str)) = true := by simp only [PyData.canLay0]; exact h.1
  show (PyData.canLay0 (.list (xs.map PyData.str)) && decide (PyData.depth (.list (xs.map PyData.str)) ≤ 64)) = true
  rw [h3, decide_eq_true h2]
  rfl
theorem cut_preT {xs : List V} {j : Nat} (h : j ≤ xs.length) : cutV xs none (some (j : Int)) = xs.take j := by
  unfold cutV
  rw [show HT.sIx xs.length xs.length (some (j : Int)) = min j xs.length from HT.sIx_nat xs.length xs.length j, HT.sIx_none, Nat.min_eq_left h]
  rfl
theorem cut_sufT {xs : List V} {j : Nat} (h : j ≤ xs.length) : cutV xs (some (j : Int)) none = xs.drop j := by
  unfold cutV
  rw [show HT.sIx xs.length 0 (some (j : Int)) = min j xs.length from HT.sIx_nat xs.length 0 j, HT.sIx_none, Nat.min_eq_left h]
  rw [List.take_of_length_le (by rw [List.length_drop]; omega)]
theorem ix_strs {ws : List Str} {i : Nat} {a : Str} (h : ws[i]? = some a) : atI (ws.map V.str) (i : Int) = some (.str a) := atI_nat (by rw [List.getElem?_map, h]; rfl)
theorem str_emp : ("" : Str) = Str.empty := TL.ext_tl (by rw [TL.tl_ofString]; rfl)
theorem dec_str {a b : Str} : decide (V.str a = V.str b) = decide (a = b) := by
  rw [Bool.eq_iff_iff, decide_eq_true_eq, decide_eq_true_eq]
  exact ⟨fun h => V.str.inj h, fun h => congrArg V.str h⟩
theorem dec_int2 {a b : Int} : decide (V.int a = V.int b) = decide (a = b) := by
  rw [Bool.eq_iff_iff, decide_eq_true_eq, decide_eq_true_eq]
  exact ⟨fun h => V.int.inj h, fun h => congrArg V.int h⟩
theorem seq_splitT {t u : TS} {D : Ends} {σ : L2.St} {H : Hp} (R : L2.St → Hp → Prop) (h1 : ∀ D' : Ends, D'.rt = D.rt → (∀ σ' H', R σ' H' → D'.nx σ' H') → t D' σ H) (h2 : ∀ σ' H', R σ' H' → u D σ' H') : tSeq t u D σ H := h1 _ rfl h2
/-! ### events -/
inductive Tev
  | get (s a : Nat)
  | bad (s : Nat)
  | free (a : Nat)
deriving DecidableEq
def tevV : Tev → List V
  | .get s a => [.str "get", .int (s : Int), .int (a : Int)]
  | .bad s => [.str "get", .int (s : Int), .non]
  | .free a => [.str "free", .int (a : Int)]
def tevD : Tev → PyData
  | .get s a => .tuple [.str "get", .int (s : Int), .int (a : Int)]
  | .bad s => .tuple [.str "get", .int (s : Int), .none]
  | .free a => .tuple [.str "free", .int (a : Int)]
def Tev.isBad : Tev → Bool
  | .bad _ => true
  | _ => false
def Tev.lastV : Tev → V
  | .get _ a => .int (a : Int)
  | .bad _ => .non
  | .free a => .int (a : Int)
/-- numbers of an event -/
def Tev.lt (N : Nat) : Tev → Prop
  | .get s a => s < N ∧ a < N
  | .bad s => s < N
  | .free a => a < N
theorem tev_last (e : Tev) : atI (tevV e) (-1) = some e.lastV := by cases e <;> rfl
/-- the event that a line's words are -/
def tevOf (C : List Nat) (ws : List Str) : Option Tev :=
  if ws.length = 2 ∧ ws[0]? = some ("free" : Str) then (numOf (ws.getD 1 Str.empty)).map .free
  else if ws.length < 3 ∨ ws[0]? ≠ some ("get" : Str) then none
  else match numOf (ws.getD 1 Str.empty) with
    | none => none
    | some s => if s ∉ C then none
      else if ws.drop 2 = [("fails" : Str)] then some (.bad s)
      else if ws.length ≠ 4 ∨ ws[2]? ≠ some ("at" : Str) then none
      else match numOf (ws.getD 3 Str.empty) with
        | none => none
        | some a => if a % s ≠ 0 then none else some (.get s a)
theorem tevOf_lt {C : List Nat} {ws : List Str} {e : Tev} (h : tevOf C ws = some e) : e.lt (10 ^ 20) := by
  unfold tevOf at h
  split at h
  · cases hn : numOf (ws.getD 1 Str.empty) with
    | none => rw [hn] at h; cases h
    | some n => rw [hn] at h; cases h; exact numOf_lt hn
  · split at h
    · cases h
    · split at h
      · cases h
      · rename_i s hs
        split at h
        · cases h
        · split at h
          · cases h; exact numOf_lt hs
          · split at h
            · cases h
            · split at h
              · cases h
              · rename_i a ha
                split at h
                · cases h
                · cases h; exact ⟨numOf_lt hs, numOf_lt ha⟩
/-- has the last of the events failed -/
def lastBad (es : List Tev) : Bool := (es.getLast?.map Tev.isBad).getD false
/-- the events of lines, or the row where something is not right -/
def hisGo (C : List Nat) : List Str → Nat → List Tev → Nat ⊕ List Tev
  | [], _, es => .inr es
  | l :: ls, n, es => if lastBad es then .inl n else match tevOf C (wordsT l) with
    | none => .inl n
    | some e => hisGo C ls (n + 1) (es ++ [e])
def hisOf (C : List Nat) (x : Str) : Nat ⊕ List Tev :=
  if (linesT x)[0]? = some ("-" : Str) then (if (linesT x).length = 1 then .inr [] else .inl 1) else hisGo C (linesT x) 0 []
theorem hisGo_len {C : List Nat} : ∀ {ls : List Str} {n : Nat} {es es' : List Tev}, hisGo C ls n es = .inr es' → es'.length = es.length + ls.length ∧ ((∀ e ∈ es, e.lt (10 ^ 20)) → ∀ e ∈ es', e.lt (10 ^ 20))
  | [], n, es, es', h => by cases h; exact ⟨rfl, _root_.id⟩
  | l :: ls, n, es, es', h => by
    unfold hisGo at h
    split at h
    · cases h
    · split at h
      · cases h
      · rename_i e he
        obtain ⟨a, b⟩ := hisGo_len h
        rw [List.length_append] at a
        refine ⟨by simp only [List.length_cons, List.length_nil] at a ⊢; omega, fun q => b fun e' he' => ?_⟩
        rcases List.mem_append.mp he' with z | z
        · exact q _ z
        · rw [List.mem_singleton.mp z]; exact tevOf_lt he
theorem hisGo_row {C : List Nat} : ∀ {ls : List Str} {n : Nat} {es : List Tev} {r : Nat}, hisGo C ls n es = .inl r → n ≤ r ∧ r < n + ls.length
  | [], n, es, r, h => by cases h
  | l :: ls, n, es, r, h => by
    unfold hisGo at h
    rw [List.length_cons]
    split at h
    · cases h; omega
    · split at h
      · cases h; omega
      · have := hisGo_row h
        omega
theorem hisOf_len {C : List Nat} {x : Str} {es : List Tev} (h : hisOf C x = .inr es) : es.length ≤ x.length + 1 ∧ ∀ e ∈ es, e.lt (10 ^ 20) := by
  unfold hisOf at h
  split at h
  · split at h
    · cases h
      exact ⟨Nat.zero_le _, fun _ z => absurd z (List.not_mem_nil)⟩
    · cases h
  · obtain ⟨a, b⟩ := hisGo_len h
    exact ⟨by rw [a]; simpa using linesT_len x, b fun _ z => absurd z (List.not_mem_nil)⟩
theorem hisOf_row {C : List Nat} {x : Str} {r : Nat} (h : hisOf C x = .inl r) : r ≤ x.length + 1 := by
  unfold hisOf at h
  split at h
  · split at h
    · cases h
    · cases h; omega
  · have := hisGo_row h
    have := linesT_len x
    omega
/-! ### events in the heap -/
def TevS (H : Hp) (ys : List V) (es : List Tev) : Prop := Paired (fun y e => ∃ t, y = V.ref t ∧ H t = some (.tup (tevV e))) ys es
theorem TevS.same {H H' : Hp} (s : Same H H') : ∀ {ys : List V} {es : List Tev}, TevS H ys es → TevS H' ys es
  | _, _, .nil => .nil
  | _, _, .cons ⟨t, e, h⟩ r => .cons ⟨t, e, s _ _ h⟩ (TevS.same s r)
theorem TevS.keep {H H' : Hp} {D : Addr} (n : ∀ xs, H D ≠ some (.tup xs)) (s : ∀ b o, b ≠ D → H b = some o → H' b = some o) : ∀ {ys : List V} {es : List Tev}, TevS H ys es → TevS H' ys es
  | _, _, .nil => .nil
  | _, _, .cons ⟨t, e, h⟩ r => .cons ⟨t, e, s _ _ (fun z => n _ (by rw [← z]; exact h)) h⟩ (TevS.keep n s r)
theorem TevS.snoc {H : Hp} {t : Addr} {e : Tev} (h : H t = some (.tup (tevV e))) : ∀ {ys : List V} {es : List Tev}, TevS H ys es → TevS H (ys ++ [.ref t]) (es ++ [e])
  | _, _, .nil => .cons ⟨t, rfl, h⟩ .nil
  | _, _, .cons a r => .cons a (TevS.snoc h r)
theorem TevS.length {H : Hp} : ∀ {ys : List V} {es : List Tev}, TevS H ys es → ys.length = es.length
  | _, _, .nil => rfl
  | _, _, .cons _ r => congrArg (· + 1) (TevS.length r)
theorem TevS.last {H : Hp} : ∀ {ys : List V} {es : List Tev}, TevS H ys es → (ys = [] ∧ es = []) ∨ ∃ ys' t es' e, ys = ys' ++ [V.ref t] ∧ es = es' ++ [e] ∧ H t = some (.tup (tevV e))
  | _, _, .nil => .inl ⟨rfl, rfl⟩
  | _, _, @Paired.cons _ _ _ y e ys es ⟨t, a, h⟩ r => by
    subst a
    rcases TevS.last r with ⟨rfl, rfl⟩ | ⟨ys', t', es', e', rfl, rfl, h'⟩
    · exact .inr ⟨[], t, [], e, rfl, rfl, h⟩
    · exact .inr ⟨.ref t :: ys', t', e :: es', e', rfl, rfl, h'⟩
theorem lastBad_snoc (es : List Tev) (e : Tev) : lastBad (es ++ [e]) = e.isBad := by
  unfold lastBad
  rw [List.getLast?_append]
  rfl
theorem tev_dp {K : PySem.W.Frag} {H : Hp} {t : Addr} {e : Tev} (h : H t = some (.tup (tevV e))) : Dp K H (.ref t) (tevD e) := by
  cases e with
  | get s a => exact .tup (.inl (.inl h)) (.cons (.str _) (.cons (.int _) (.cons (.int _) .nil)))
  | bad s => exact .tup (.inl (.inl h)) (.cons (.str _) (.cons (.int _) (.cons .non .nil)))
  | free a => exact .tup (.inl (.inl h)) (.cons (.str _) (.cons (.int _) .nil))
theorem tev_dq {K : PySem.W.Frag} {H : Hp} {t : Addr} {e : Tev} (h : H t = some (.tup (tevV e))) : Dq K H (.ref t) (tevD e) := by
  cases e with
  | get s a => exact .tup (.inl (.inl h)) (.cons (.str _) (.cons (.int _) (.cons (.int _) .nil)))
  | bad s => exact .tup (.inl (.inl h)) (.cons (.str _) (.cons (.int _) (.cons .non .nil)))
  | free a => exact .tup (.inl (.inl h)) (.cons (.str _) (.cons (.int _) .nil))
theorem TevS.dp {K : PySem.W.Frag} {H : Hp} : ∀ {ys : List V} {es : List Tev}, TevS H ys es → DpAll K H ys (es.map tevD)
  | _, _, .nil => .nil
  | _, _, .cons ⟨t, a, h⟩ r => by
    subst a
    exact .cons (tev_dp h) (TevS.dp r)
theorem TevS.dq {K : PySem.W.Frag} {H : Hp} : ∀ {ys : List V} {es : List Tev}, TevS H ys es → DqAll K H ys (es.map tevD)
  | _, _, .nil => .nil
  | _, _, .cons ⟨t, a, h⟩ r => by
    subst a
    exact .cons (tev_dq h) (TevS.dq r)
theorem ok_lits : PySem.PyData.strOk "get" = true ∧ PySem.PyData.strOk "free" = true := by decide +kernel
theorem tevD_lay (e : Tev) : PyData.canLay0 (tevD e) = true ∧ PyData.depth (tevD e) ≤ 2 := by
  cases e <;> simp [tevD, PyData.canLay0, PyData.canLayAll0, PyData.depth, PyData.depthAll, ok_lits.1, ok_lits.2]
theorem tevDs_lay : ∀ es : List Tev, PyData.canLayAll0 (es.map tevD) = true ∧ PyData.depthAll (es.map tevD) ≤ 2
  | [] => by simp [PyData.canLayAll0, PyData.depthAll]
  | e :: es => by
    have ih := tevDs_lay es
    have h := tevD_lay e
    refine ⟨by simp [PyData.canLayAll0, ih.1, h.1], ?_⟩
    simp only [List.map_cons, PyData.depthAll]
    omega
theorem tevDs_shaped (es : List Tev) : SeqAt.shaped (.list (es.map tevD)) = true := by
  have h := tevDs_lay es
  have h2 : PyData.depth (.list (es.map tevD)) ≤ 64 := by simp only [PyData.depth]; omega
  have h3 : PyData.canLay0 (.list (es.map tevD)) = true := by simp only [PyData.canLay0]; exact h.1
  show (PyData.canLay0 (.list (es.map tevD)) && decide (PyData.depth (.list (es.map tevD)) ≤ 64)) = true
  rw [h3, decide_eq_true h2]
  rfl
theorem tevDs_nil (es : List Tev) : PyData.eqv (.list (es.map tevD)) (.list []) = decide (es = []) := by
  cases es with
  | nil => simp [PyData.eqv, PyData.eqvAll]
  | cons e es => simp [PyData.eqv, PyData.eqvAll]
/-- data that may be shown -/
structure Shw (d : PyData) (n b : Nat) : Prop where
  sh : d.showable = true
  dp : d.depth ≤ n
  lv : d.leavesShort 40 = true
  bk : d.bulk ≤ b
theorem Shw.len {d : PyData} {n b : Nat} (s : Shw d n b) (hb : b ≤ 390000) : d.shown.length ≤ sizeLine := by
  have := PyData.shown_le_bulk 40 (by decide) d s.lv
  have := s.bk
  have : sizeLine = 16777216 := by decide
  omega
theorem nat20 {n : Nat} (h : n < 10 ^ 20) : ((n : Nat) : Int).natAbs < 10 ^ 20 := by
  rw [Int.natAbs_natCast]
  exact h
structure ShwA (ds : List PyData) (n b : Nat) : Prop where
  sh : PyData.showableAll ds = true
  dp : PyData.depthAll ds ≤ n
  lv : PyData.leavesShortAll 40 ds = true
  bk : PyData.bulkAll ds ≤ b
theorem ShwA.nil (n : Nat) : ShwA [] n 0 := ⟨rfl, Nat.zero_le _, rfl, Nat.le_refl _⟩
theorem ShwA.cons {d : PyData} {ds : List PyData} {n b c : Nat} (h : Shw d n b) (r : ShwA ds n c) : ShwA (d :: ds) n (b + 1 + c) := by
  obtain ⟨h1, h2, h3, h4⟩ := h
  obtain ⟨r1, r2, r3, r4⟩ := r
  exact ⟨by rw [PyData.showableAll, h1, r1]; rfl, by rw [PyData.depthAll]; omega, by rw [PyData.leavesShortAll, h3, r3]; rfl, by rw [PyData.bulkAll]; omega⟩
theorem ShwA.tup {ds : List PyData} {n b : Nat} (r : ShwA ds n b) : Shw (.tuple ds) (n + 1) b :=
  ⟨by rw [PyData.showable]; exact r.sh, by rw [PyData.depth]; have := r.dp; omega, by rw [PyData.leavesShort]; exact r.lv, by rw [PyData.bulk]; exact r.bk⟩
theorem ShwA.lst {ds : List PyData} {n b : Nat} (r : ShwA ds n b) : Shw (.list ds) (n + 1) b :=
  ⟨by rw [PyData.showable]; exact r.sh, by rw [PyData.depth]; have := r.dp; omega, by rw [PyData.leavesShort]; exact r.lv, by rw [PyData.bulk]; exact r.bk⟩
theorem Shw.up {d : PyData} {n b m c : Nat} (h : Shw d n b) (hn : n ≤ m) (hb : b ≤ c) : Shw d m c := ⟨h.sh, Nat.le_trans h.dp hn, h.lv, Nat.le_trans h.bk hb⟩
theorem shw_int {i : Int} (h : i.natAbs < 10 ^ 20) (n : Nat) : Shw (.int i) n 0 := ⟨(shd_int h).sh, Nat.zero_le _, (shd_int h).lv, Nat.le_refl _⟩
theorem shw_non (n : Nat) : Shw .none n 0 := ⟨rfl, Nat.zero_le _, rfl, Nat.le_refl _⟩
theorem shw_bool (b : Bool) (n : Nat) : Shw (.bool b) n 0 := ⟨rfl, Nat.zero_le _, rfl, Nat.le_refl _⟩
theorem shw_str {x : Str} (h : Gw x) (n : Nat) : Shw (.str x) n x.length := ⟨rfl, Nat.zero_le _, by
    rw [PyData.leavesShort, List.all_eq_true]
    intro c hc
    exact decide_eq_true (Nat.lt_trans (h c hc) (by decide)), Nat.le_refl _⟩
theorem gw_get : Gw "get" ∧ Gw "free" ∧ Gw "read" ∧ Gw "row" ∧ Gw "other" := ⟨Gw.lit (by decide +kernel), Gw.lit (by decide +kernel), Gw.lit (by decide +kernel), Gw.lit (by decide +kernel), Gw.lit (by decide +kernel)⟩
theorem tevD_shw {e : Tev} (h : e.lt (10 ^ 20)) : Shw (tevD e) 2 7 := by
  have l1 : (Str.ofString "get").length = 3 := by decide +kernel
  have l2 : (Str.ofString "free").length = 4 := by decide +kernel
  cases e with
  | get s a => exact (ShwA.cons (shw_str gw_get.1 1) (.cons (shw_int (nat20 h.1) 1) (.cons (shw_int (nat20 h.2) 1) (.nil 1)))).tup.up (by decide) (by rw [l1]; decide)
  | bad s => exact (ShwA.cons (shw_str gw_get.1 1) (.cons (shw_int (nat20 h) 1) (.cons (shw_non 1) (.nil 1)))).tup.up (by decide) (by rw [l1]; decide)
  | free a => exact (ShwA.cons (shw_str gw_get.2.1 1) (.cons (shw_int (nat20 h) 1) (.nil 1))).tup.up (by decide) (by rw [l2]; decide)
theorem tevDs_shw : ∀ es : List Tev, (∀ e ∈ es, e.lt (10 ^ 20)) → ShwA (es.map tevD) 2 (8 * es.length)
  | [], _ => .nil 2
  | e :: es, h => by
    have ih := tevDs_shw es fun x hx => h x (List.mem_cons_of_mem _ hx)
    have he := ShwA.cons (tevD_shw (h e (List.mem_cons_self ..))) ih
    exact ⟨he.sh, he.dp, he.lv, Nat.le_trans he.bk (by rw [List.length_cons]; omega)⟩
end Ph

namespace Ph
open PySem PySem.Spec PyProof.Rows L2 PySem.Calls
section
variable {X : Cx}
/-- d.pop(k), there -/
def rDPop : V → List V → Hp → VK → Prop := fun x vs H Q => ∃ (a : Addr) (kvs : List (Key × V)) (k : Key) (v : V), x = .ref a ∧ vs = [kV k] ∧ H a = some (.dK kvs) ∧ valV kvs k = some v ∧ Q v (upd H a (.dK (dropK kvs k)))
theorem mtd_pop : MtR X "dict.pop" rDPop := by
  intro pins s σ H x vs v us Q I rx rv h
  obtain ⟨a, kvs, k, y, rfl, rfl, ea, hv, q⟩ := h
  cases rx
  obtain ⟨u, rfl, ru⟩ := rv.one
  exact d_pop (more := []) I ea ru hv (.inl rfl) fun w' s' I' r' => ⟨y, _, I', r', q⟩
end
theorem valV_drop {kvs : List (Key × V)} {k j : Key} : valV (dropK kvs k) j = if j = k then none else valV kvs j := by
  unfold valV dropK
  induction kvs with
  | nil => simp
  | cons p r ih =>
    by_cases h : p.1 = k
    · rw [List.filter_cons_of_neg (by simp [h]), ih]
      by_cases h2 : j = k
      · rw [if_pos h2, if_pos h2]
      · rw [if_neg h2, if_neg h2, List.find?_cons_of_neg (by simpa [h] using fun z => h2 z.symm)]
    · rw [List.filter_cons_of_pos (by simpa using h)]
      by_cases h3 : p.1 = j
      · have h2 : ¬ j = k := fun z => h (h3.trans z)
        rw [if_neg h2, List.find?_cons_of_pos (by simpa using h3), List.find?_cons_of_pos (by simpa using h3)]
      · rw [List.find?_cons_of_neg (by simpa using h3), List.find?_cons_of_neg (by simpa using h3)]
        exact ih
/-- which ints are keys behind a pop -/
theorem hasI_drop {kvs : List (Key × V)} {a i : Int} : hasI (dropK kvs (Sum.inl a)) i = (hasI kvs i && decide (i ≠ a)) := by
  unfold hasI
  rw [valV_drop]
  by_cases h : i = a
  · subst h
    simp
  · rw [if_neg (by simpa using h)]
    simp [h]
/-! ### keys without doubles, and how many there are -/
def KNd (kvs : List (Key × V)) : Prop := (kvs.map (·.1)).Nodup
theorem KNd.drop {kvs : List (Key × V)} (h : KNd kvs) (k : Key) : KNd (dropK kvs k) := h.sublist (List.filter_sublist.map _)
theorem KNd.drop_len {kvs : List (Key × V)} {k : Key} : KNd kvs → (valV kvs k).isSome = true → (dropK kvs k).length + 1 = kvs.length := by
  unfold KNd valV dropK
  induction kvs with
  | nil => intro _ h; simp at h
  | cons p r ih =>
    intro nd h
    obtain ⟨n1, n2⟩ := List.nodup_cons.mp nd
    by_cases e : p.1 = k
    · have none : (r.filter fun kv => decide (kv.1 ≠ k)) = r := List.filter_eq_self.mpr fun kv hkv => decide_eq_true fun z => n1 (by show p.1 ∈ _; rw [e, ← z]; exact List.mem_map.mpr ⟨kv, hkv, rfl⟩)
      rw [List.filter_cons_of_neg (by simp [e]), none, List.length_cons]
    · rw [List.find?_cons_of_neg (by simpa using e)] at h
      rw [List.filter_cons_of_pos (by simpa using e), List.length_cons, List.length_cons, ih n2 h]
theorem KNd.put {kvs : List (Key × V)} {k : Key} {v : V} (h : KNd kvs) (n : valV kvs k = none) : KNd (putK kvs k v) ∧ (putK kvs k v).length = kvs.length + 1 := by
  rw [putK_new v n]
  refine ⟨?_, by rw [List.length_append]; rfl⟩
  unfold KNd at h ⊢
  rw [List.map_append]
  refine List.nodup_append.mpr ⟨h, by simp, fun a ha b hb z => ?_⟩
  rw [List.map_cons, List.map_nil, List.mem_singleton] at hb
  subst z
  obtain ⟨kv, hkv, e⟩ := List.mem_map.mp ha
  unfold valV at n
  rw [Option.map_eq_none_iff] at n
  have := List.find?_eq_none.mp n kv hkv
  simp [e, hb] at this
theorem KNd.merge : ∀ {more kvs : List (Key × V)}, KNd kvs → KNd more → (∀ kv ∈ more, valV kvs kv.1 = none) → KNd (mergeK kvs more) ∧ (mergeK kvs more).length = kvs.length + more.length
  | [], kvs, h, _, _ => ⟨h, rfl⟩
  | kv :: r, kvs, h, hm, hn => by
    have hm' : (kv.1 :: r.map (·.1)).Nodup := hm
    obtain ⟨n1, n2⟩ := List.nodup_cons.mp hm'
    obtain ⟨p1, p2⟩ := h.put (v := kv.2) (hn kv (List.mem_cons_self ..))
    obtain ⟨m1, m2⟩ := KNd.merge (more := r) p1 n2 fun kv' h' => by
      rw [valV_put, if_neg (fun z => n1 (by rw [← z]; exact List.mem_map.mpr ⟨kv', h', rfl⟩))]
      exact hn kv' (List.mem_cons_of_mem _ h')
    refine ⟨m1, ?_⟩
    show (mergeK (putK kvs kv.1 kv.2) r).length = _
    rw [m2, p2, List.length_cons]
    omega
end Ph

namespace Ph
open PySem PySem.Spec PyProof.Rows L2
section
variable {X : Cx}
/-- a dict != {} -/
def rNeE : R2 := fun x y H Q => ∃ a b ks, x = .ref a ∧ y = .ref b ∧ H a = some (.dK ks) ∧ H b = some (.dK []) ∧ Q (.bl (decide (ks ≠ []))) H
theorem op_neE (hu : X.A.units < cLine) : OpR X (compareOp .NotEq) rNeE := by
  intro pins s σ H x y v u Q I rx ry h
  obtain ⟨a, b, ks, rfl, rfl, ea, eb, q⟩ := h
  obtain rfl : v = Value.ref a := rx
  obtain rfl : u = Value.ref b := ry
  obtain ⟨_, ya, va, ra, da⟩ := (show ObjOk X.prog X.w H s.heap a (.dK ks) from I.hok a _ ea)
  obtain ⟨_, yb, vb, rb, db⟩ := (show ObjOk X.prog X.w H s.heap b (.dK []) from I.hok b _ eb)
  have lb : vb.length = 0 := by rw [← rb.length]; rfl
  refine PySem.W.keq_ne (knd := mixKind X.prog X.w) (r := true) ya yb da db hu (fun e => hits_all rb ra ?_) (fin_bl I q ?_)
  · have : ks = [] := List.length_eq_zero_iff.mp (by rw [ra.length, e, lb])
    subst this
    intro p hp
    cases hp
  · rw [← ra.length, lb]
    cases ks <;> simp
/-- sorted(dict) with ints as keys, any number -/
theorem call_sortedDW (hcalm : X.calm = true) : CallR X (.builtin "sorted") (fun xs H Q => ∃ (a : Addr) (kvs : List (Key × V)) (ks : List Int), xs = [.ref a] ∧ Rd H a (.dK kvs) ∧ kvs.map (·.1) = ks.map Sum.inl ∧ ks.length ≤ 5000 ∧
    ∀ (ys : List Int) (p : Addr), ys.Perm ks → ys.Pairwise (· ≤ ·) → H p = none → Q (.ref p) (upd H p (.lst (ys.map V.int)))) := by
  intro pins s σ H xs us Q I r q
  obtain ⟨a, kvs, ks, ex, hd, hks, h64, q⟩ := q
  subst ex
  obtain ⟨u, eu, rx⟩ := vals1 r
  subst eu
  cases rx
  obtain ⟨z, lo, vs, rel, dd⟩ := dk_rd I.hok hd
  obtain ⟨ep, hat⟩ := dd.dictAt
  have hkeys : vs.map (·.1) = ks.map Sum.inl := rel.keys.symm.trans hks
  have hl : vs.length = ks.length := by
    have e := congrArg List.length hkeys
    rw [List.length_map, List.length_map] at e
    exact e
  have k5 : ks.length ≤ sizeLine := Nat.le_trans h64 (by decide)
  have h16 : vs.length ≤ sizeLine := by rw [hl]; exact k5
  refine Calls.call_function_entry PyProof.Rows.kind_sorted PyProof.Rows.plain_sorted PyProof.Rows.entry_sorted (PyProof.Rows.args_sorted1 _) ?_
  unfold Builtin.«sorted»
  refine wpAny_bind (m := checkCount "sorted" 1 1 _) (wpAny_pure ?_)
  refine wpAny_bind (PySem.W.kdu_collect (A := X.A.in1) (PySem.W.kdl_dict (knd := mixKind X.prog X.w) (kvs := vs) (ep := ep) lo) (I.ok.hd hcalm) hat h16 fun h' tk acc hk hacc => ?_)
  have hal : acc.toList.length = ks.length := by rw [Array.length_toList, hacc.1, hl]
  have hS : IntsAre acc.toList ks := ints_each hal fun j v e => by
    obtain ⟨k, x, e1, e2⟩ := hacc.2 j v (by rw [← Array.getElem?_toList]; exact e)
    have e3 : (vs.map (·.1))[j]? = some k := by rw [List.getElem?_map, e1]; rfl
    rw [hkeys, List.getElem?_map] at e3
    cases e4 : ks[j]? with
    | none => rw [e4] at e3; cases e3
    | some y =>
      rw [e4] at e3
      have e5 : Sum.inl y = k := Option.some.inj e3
      subst e5
      rcases keyIs_shape (show keyIs (Sum.inl y) v = true from e2) with ⟨i, t, ek, ev⟩ | ⟨z, t, ek, ev⟩
      · cases ek
        exact ⟨y, t, rfl, ev⟩
      · cases ek
  have I1 : Inv X pins σ H { s with heap := h', toks := tk } := I.kept hk
  have few : acc.toList.length ≤ sizeLine := by rw [hal]; exact k5
  refine wpAny_bind (wpAny_newList ?_ few)
  have hoL : (h'.push (seqObj "list" acc.toList.toArray 0)).get? h'.objs.size = some (seqObj "list" acc.toList.toArray 0) := Heap.get?_push_size _ rfl
  show wpAny _ _ _ _ _ { s with heap := h'.push (seqObj "list" acc.toList.toArray 0), toks := tk }
  refine wpAny_bind (wpAny_holding (wpAny_call_entry PyProof.Rows.slot_list_sort ⟨_, hoL, rfl⟩ PyProof.Rows.entry_list_sort (SrtO.list_sort_ord (s := { s with heap := h'.push (seqObj "list" acc.toList.toArray 0), toks := tk }) SrtO.swo_int hoL few (fun h2 => SrtO.ints_sortable hS h2) fun out b1 b2 => ⟨_, rfl, ?_⟩) (PyProof.Rows.args_list_sort _)))
  obtain ⟨g1, g2, g3⟩ := SrtO.ints_out hS b1 b2
  obtain ⟨e', he'⟩ := PyProof.Rows.sortedHeap_at (vs := acc.toList) (out := out.toArray) hoL
  have hlen : ((out.map SrtO.iv).map V.int).length ≤ sizeLine := by
    rw [List.length_map, g2.length_eq]
    exact k5
  refine wpAny_pure ⟨_, rfl, .ref h'.objs.size, upd H h'.objs.size (.lst ((out.map SrtO.iv).map V.int)), I1.laid (t' := tk) (fun b u e => ?_) (Nat.le_refl _)
    (show ObjOk X.prog X.w _ _ _ (.lst ((out.map SrtO.iv).map V.int)) from ⟨hlen, out, e', vals_of_ints g1, he'⟩), rfl, q _ _ g2 g3 (I1.hok.fresh (Nat.le_refl _))⟩
  have hb : b < h'.objs.size := Heap.lt_size e
  rw [PyProof.Rows.sortedHeap_old (Nat.ne_of_lt hb) (by rw [size_push']; exact Nat.lt_succ_of_lt hb)]
  exact Heap.get?_push_of_some _ e
end
theorem il_nil (zs : List Int) : PyData.eqv (.list (zs.map PyData.int)) (.list []) = decide (zs = []) := by
  cases zs with
  | nil => simp [PyData.eqv, PyData.eqvAll]
  | cons z r => simp [PyData.eqv, PyData.eqvAll]
/-! ### blocks held in a dict: start, size -/
def kvh (ls : List Bk) : List (Key × V) := ls.map fun e => (Sum.inl e.1, V.int e.2)
theorem kvh_keys (ls : List Bk) : (kvh ls).map (·.1) = (ls.map fun e => e.1).map Sum.inl := by
  unfold kvh
  rw [List.map_map, List.map_map]
  rfl
theorem kvh_len (ls : List Bk) : (kvh ls).length = ls.length := by unfold kvh; rw [List.length_map]
theorem kvh_none {a : Int} : ∀ {ls : List Bk}, (∀ e ∈ ls, e.1 ≠ a) → valV (kvh ls) (Sum.inl a) = none
  | [], _ => rfl
  | e :: r, h => by
    have h1 := h e (List.mem_cons_self ..)
    have ih := kvh_none (a := a) (ls := r) fun x hx => h x (List.mem_cons_of_mem _ hx)
    show valV ((Sum.inl e.1, V.int _) :: kvh r) (Sum.inl a) = none
    unfold valV at ih ⊢
    rw [List.find?_cons_of_neg (by simpa using h1)]
    exact ih
theorem kvh_at {e : Bk} : ∀ {ls : List Bk}, ls.Pairwise (fun x y => x.1 ≠ y.1) → e ∈ ls → valV (kvh ls) (Sum.inl e.1) = some (V.int e.2)
  | x :: r, pw, h => by
    obtain ⟨p1, p2⟩ := List.pairwise_cons.mp pw
    rcases List.mem_cons.mp h with h | h
    · subst h
      show valV ((Sum.inl e.1, V.int _) :: kvh r) (Sum.inl e.1) = _
      exact valV_pos rfl
    · have ih := kvh_at p2 h
      have ne := p1 e h
      show valV ((Sum.inl x.1, V.int _) :: kvh r) (Sum.inl e.1) = _
      unfold valV at ih ⊢
      rw [List.find?_cons_of_neg (by simpa using ne)]
      exact ih
theorem kvh_put {ls : List Bk} {a m : Int} (h : ∀ e ∈ ls, e.1 ≠ a) : putK (kvh ls) (Sum.inl a) (V.int m) = kvh (ls ++ [(a, m)]) := by
  rw [putK_new _ (kvh_none h)]
  unfold kvh
  rw [List.map_append]
  rfl
theorem kvh_drop (ls : List Bk) (a : Int) : dropK (kvh ls) (Sum.inl a) = kvh (ls.filter fun b => decide (b.1 ≠ a)) := by
  unfold dropK kvh
  induction ls with
  | nil => rfl
  | cons e r ih =>
    rw [List.map_cons]
    by_cases h : e.1 = a
    · rw [List.filter_cons_of_neg (by simp [h]), List.filter_cons_of_neg (by simp [h]), ih]
    · rw [List.filter_cons_of_pos (by simp [h]), List.filter_cons_of_pos (by simp [h]), ih]
      rfl
end Ph

namespace Ph
open PySem PySem.Spec PyProof.Rows L2
/-! ### sum(d.values()) -/
theorem preSum_getD : ∀ is : List Int, preSum (fun i => is.getD i 0) is.length = is.sum
  | [] => rfl
  | x :: r => by
    rw [List.length_cons, PySem.W.kdu_shift, List.sum_cons, ← preSum_getD r]
    rfl
section
variable {X : Cx} {o : Expr} {p pos apos mpos : Pos} {td : TE}
/-- sum(o.values()), a dict with int values -/
def tSumVals (td : TE) : TE := fun σ H Q => td σ H fun x H1 => ∃ (a : Addr) (kvs : List (Key × V)) (is : List Int), x = V.ref a ∧ H1 a = some (.dK kvs) ∧ kvs.map (·.2) = is.map V.int ∧ Q (.int is.sum) H1
theorem pe_sumVals (hc : X.calm = true) (hg : Gl X "sum") (hm : X.mg "sum" = none) (hd : PE X o td) (hbase : attributeBase o "values" X.env (eval o X.env) = eval o X.env := by rfl) (hline : (apos.endLine == mpos.line) = true := by rfl)
    (hse : starEach [Expr.Call (.Attribute o "values" apos) [] [] mpos] X.env = [(false, eval (Expr.Call (.Attribute o "values" apos) [] [] mpos) X.env)] := by rfl) :
    PE X (.Call (.Name "sum" p) [.Call (.Attribute o "values" apos) [] [] mpos] [] pos) (tSumVals td) := by
  refine ⟨fun pins s σ H Q I h => ?_⟩
  refine wpAny_Call_Name_kw (ld_blt I hg hm (u := .builtin "sum") (by first | rfl | decide +kernel) ?_ (by first | decide +kernel | decide) (by first | decide +kernel | decide))
  rw [hse]
  refine PySem.callWith_builtin1 (wpAny_Call_method0_late hbase hline (thn (hd.run pins s σ H _ I h) fun v s1 ⟨x, H1, I1, r1, a, kvs, is, ex, ha, hv, q⟩ => ?_))
  subst ex
  obtain rfl : v = Value.ref a := r1
  obtain ⟨_, hsys, vs, rel, dof⟩ := dk_of I1.hok ha
  obtain ⟨ep, dat⟩ := dof.dictAt
  have dat' := dat
  obtain ⟨ob, es, ho, ex, hdat, hko, hpr, hnd⟩ := dat'
  refine ⟨"dict", "dict.values", F.plainAttrs_dict, F.slot_dict_values, F.type_dict_values, ⟨ob, ho, ex.1⟩, fun b e => ?_, Calls.callWith_builtin rfl (PySem.evalArgs_none ?_)⟩
  · cases e
    exact ⟨ob, ho, ex.2.1⟩
  refine call_meetsIn F.slot_dict_values ⟨ob, ho, ex.1⟩ F.entry_dict_values (F.args_dict_values_1 _) (meets_dict_values (mixKind X.prog X.w) a hsys) ⟨⟨vs, dof⟩, ?_⟩
  have k1 : ∀ b u, s1.heap.get? b = some u → (s1.heap.push { cls := .type "dict_values", data := .fields #[.ref a] }).get? b = some u := fun b u e => Heap.get?_push_of_some _ e
  have dat1 : (s1.heap.push { cls := .type "dict_values", data := .fields #[.ref a] }).DictAt (mixKind X.prog X.w) a vs ep := dat.keep k1
  have hlv : vs.length = is.length := by
    have e1 := congrArg List.length hv
    rw [List.length_map, List.length_map] at e1
    rw [← e1]
    exact (KV.length rel).symm
  have hval : ∀ (i : Nat) (v : Value), (∃ k, vs[i]? = some (k, v)) → ∃ t, v = Value.int (is.getD i 0) t := fun i v ⟨k, hk⟩ => by
    obtain ⟨x, h1, h2⟩ := KV.at' rel hk
    have e1 : (kvs.map (·.2))[i]? = some x := by rw [List.getElem?_map, h1] <;> rfl
    rw [hv, List.getElem?_map] at e1
    obtain ⟨j, hj, e2⟩ := Option.map_eq_some_iff.mp e1
    subst e2
    obtain ⟨t, e3⟩ := h2
    refine ⟨t, ?_⟩
    rw [e3, List.getD_eq_getElem?_getD, hj] <;> rfl
  have S := PySem.W.kdl_values (prog := X.prog) (w := X.w) (knd := mixKind X.prog X.w) (kvs := vs) (ep := ep) (r := s1.heap.objs.size) (d := a)
  have ok : (s1.heap.push { cls := .type "dict_values", data := .fields #[.ref a] }).IsValuesView s1.heap.objs.size a ∧ (s1.heap.push { cls := .type "dict_values", data := .fields #[.ref a] }).DictAt (mixKind X.prog X.w) a vs ep := ⟨⟨_, Heap.get?_push_size _ rfl, rfl, rfl⟩, dat1⟩
  refine call_sum_walkAnyS ?_
  obtain ⟨oI, St, hit, W, st⟩ := S.iter X.A.in1 { s1 with heap := s1.heap.push { cls := .type "dict_values", data := .fields #[.ref a] } } (I.ok.hd hc) ok
  refine hit _ _ ⟨_, _, _, _, vs.length, _, _, fun i => is.getD i 0, rfl, W.toS, st, fun b hb => ?_, hval, fun s' t' hm => ?_⟩
  · show b < ((s1.heap.push { cls := .type "dict_values", data := .fields #[.ref a] }).push oI).objs.size
    rw [Heap.size_push]
    rcases List.mem_cons.mp hb with e | hb
    · rw [e]; exact Nat.lt_succ_self _
    · rw [List.mem_singleton.mp hb]; exact Nat.lt_succ_of_lt (S.there _ ok).2
  · have hk : ∀ b o, s1.heap.get? b = some o → s'.heap.get? b = some o := fun b o e =>
      hm.heap b o (fun hI => absurd (Heap.lt_size (k1 b o e)) (by rw [List.mem_singleton.mp hI]; exact Nat.lt_irrefl _)) (Heap.get?_push_of_some _ (k1 b o e))
    rw [Moved.eq_with hm]
    rw [hlv, preSum_getD]
    exact ⟨.int _, H1, I1.kept (t' := s'.toks) hk, ⟨_, rfl⟩, q⟩
end
end Ph

namespace Ph
open PySem PySem.Spec PyProof.Rows L2 PySem.Calls HT
section
variable {prog : Program} {w : World} {A : Around} {E : Value → Shared → Prop} {s : Shared}
theorem rev_pick (xs : Array Value) : ((List.range xs.size).filterMap fun (k : Nat) => xs[(((xs.size : Int) - 1) + (k : Int) * (-1)).toNat]?).toArray = xs.toList.reverse.toArray := by
  have e : ((List.range xs.size).filterMap fun (k : Nat) => xs[(((xs.size : Int) - 1) + (k : Int) * (-1)).toNat]?) = ((List.range xs.size).map fun k => xs.size - 1 - k).filterMap (xs[·]?) := by
    rw [List.filterMap_map]
    congr 1
    funext k
    have : (((xs.size : Int) - 1) + (k : Int) * (-1)).toNat = xs.size - 1 - k := by omega
    show xs[_]? = xs[_]?
    rw [this]
  rw [e, PySem.W.krv_range, List.filterMap_reverse, PySem.W.krv_all]
theorem sliceApplied_rev {sl : Addr} {vs : Value} {n : Nat} {Q : Int × Int × Nat → Shared → Prop} (hs : s.heap.IsSliceOf sl .none .none vs) (ps : IsPart vs (some (-1)))
    (h : Q ((n : Int) - 1, -1, n) s) : wpAny (model prog w) A (Builtin.Slice.sliceApplied (.ref sl) (pure (n : Int))) Q E s := by
  obtain ⟨os, hos, hcs, hds⟩ := id hs
  unfold Builtin.Slice.sliceApplied Builtin.Slice.sliceFields
  refine wpAny_bind (wpAny_bind (wpAny_field hos hds (x := .none) rfl (wpAny_bind (wpAny_field hos hds (x := .none) rfl (wpAny_bind (wpAny_field hos hds (x := vs) rfl (wpAny_pure ?_)))))))
  refine wpAny_bind (slicePart_ ps ?_)
  show wpAny _ _ (if ((-1 : Int) == 0) = true then _ else _) _ _ s
  rw [if_neg (by decide)]
  refine wpAny_bind (slicePart_ .none (wpAny_bind (slicePart_ .none (wpAny_bind (wpAny_pure ?_)))))
  show wpAny _ _ (pure (((n : Int) - 1), (-1 : Int), Builtin.Slice.slicePlaces ((n : Int) - 1) (-1) (-1))) _ _ s
  have e : Builtin.Slice.slicePlaces ((n : Int) - 1) (-1) (-1) = n := by
    unfold Builtin.Slice.slicePlaces
    have h1 : ¬ ((-1 : Int) > 0) := by decide
    rw [if_neg h1]
    by_cases h : (n : Int) - 1 > -1
    · rw [if_pos h, show (- -1 : Int) = 1 by decide, Int.ediv_one]
      omega
    · rw [if_neg h]
      omega
  rw [e]
  exact wpAny_pure h
theorem getItem_tuple_rev {t sl : Addr} {items : Array Value} {vs : Value} {Q : Value → Shared → Prop} (ht : IsTup s.heap t items) (hs : s.heap.IsSliceOf sl .none .none vs) (ps : IsPart vs (some (-1)))
    (h : Q (.ref s.heap.objs.size) { s with heap := s.heap.push { cls := .type "tuple", data := .seq items.toList.reverse.toArray } })
    (hsz : items.size ≤ sizeLine) : wpAny (model prog w) A (getItem (.ref t) (.ref sl)) Q E s := by
  have htake : sizeOk (.seq items.toList.reverse.toArray) := by
    show items.toList.reverse.toArray.size ≤ sizeLine
    rw [List.size_toArray, List.length_reverse, Array.length_toList]
    omega
  obtain ⟨os, hos, hcs, hds⟩ := id hs
  have hTs : s.TypeIs (.ref sl) "slice" := ⟨os, hos, hcs⟩
  unfold getItem
  try with_reducible refine wpAny_holding ?_
  first | refine wpAny_bind (wpAny_pure ?_) | skip
  refine wpAny_bind (wpAny_sequenceKey ht.typeIs (by decide) ?_)
  refine wpAny_bind (wpAny_callSpecial?_slot (name := Str.ofString "__getitem__") ht.typeIs PyProof.Rows.slot_tuple_getitem
    (wpAny_call_entry PyProof.Rows.slot_tuple_getitem ht.typeIs entry_tuple_getitem ?_ (args_tuple_getitem _ _)))
  show wpAny _ _ (Builtin.Tuple.tupleItemsOf (.ref t) >>= _) _ _ s
  refine wpAny_bind (tupleItemsOf_ ht ?_)
  refine wpAny_bind (wpAny_typeOf hTs ?_)
  rw [if_pos (by decide)]
  refine wpAny_bind (sliceApplied_rev hs ps ?_)
  have hno : ¬ ((((items.size : Int) - 1) == 0 && (-1 : Int) == 1 && items.size == items.size) = true) := by
    intro q
    rw [Bool.and_eq_true, Bool.and_eq_true] at q
    exact absurd q.1.2 (by decide)
  show wpAny _ _ (if (((items.size : Int) - 1) == 0 && (-1 : Int) == 1 && items.size == items.size) = true then _ else _) _ _ s
  rw [if_neg hno, rev_pick]
  first
    | exact wpAny_bind (m := Builtin.Tuple.tupleExact _) (wpAny_newObj_type (wpAny_pure ⟨_, rfl, wpAny_pure h⟩) htake)
    | exact wpAny_bind (m := Builtin.Tuple.tupleExact _) (wpAny_newObj_type (wpAny_bind (wpAny_pure (wpAny_pure ⟨_, rfl, wpAny_pure h⟩))) htake)
    | exact wpAny_bind (wpAny_bind (m := Builtin.Tuple.tupleExact _) (wpAny_newObj_type (wpAny_pure (wpAny_pure ⟨_, rfl, wpAny_pure h⟩)) htake))
    | exact wpAny_bind (wpAny_bind (m := Builtin.Tuple.tupleExact _) (wpAny_newObj_type (wpAny_pure ⟨_, rfl, wpAny_pure h⟩) htake))
end
section
variable {X : Cx}
/-- t[::-1] of a tuple -/
def tRevT (K : PySem.W.Frag) (te : TE) : TE := fun σ H Q => te σ H fun x H1 => ∃ a xs, x = .ref a ∧ SqT K H1 a xs ∧ ∀ p, H1 p = none → Q (.ref p) (upd H1 p (.tup xs.reverse))
theorem pe_revT {e : Expr} {te : TE} {k : Nat} {p1 p2 p3 pos : Pos} (he : PE X e te) : PE X (.Subscript e (.Slice none none (some (.UnaryOp .USub (.Constant (.int 1) k p1) p2)) p3) pos) (tRevT X.K te) := by
  refine ⟨fun pins s σ H Q I h => ?_⟩
  refine Subscript_ (thn (he.run pins s σ H _ I h) fun v s1 ⟨x, H1, I1, r1, q1⟩ => ?_)
  obtain ⟨a, xs, ex, hx, q⟩ := q1
  subst ex
  cases r1
  have hst : PO X (some (.UnaryOp .USub (.Constant (.int 1) k p1) p2)) (tPart (tUn (rU fun i => .int (-i)) (tC (.int 1)))) := po_some (pe_un un_neg pe_int)
  refine wpAny_Slice (thn (po_none.run pins s1 σ H1 (fun o H2 => o = none ∧ H2 = H1) I1 ⟨rfl, rfl⟩) fun vl s2 ⟨l, H2, I2, pl, el, e2⟩ => ?_)
  subst el e2
  refine thn (po_none.run pins s2 σ H2 (fun o H3 => o = none ∧ H3 = H2) I2 ⟨rfl, rfl⟩) fun vu s3 ⟨u, H3, I3, pu, eu, e3⟩ => ?_
  subst eu e3
  refine thn (hst.run pins s3 σ H3 (fun o H4 => o = some (-1) ∧ H4 = H3) I3 ⟨1, rfl, -1, rfl, rfl, rfl⟩) fun vs s4 ⟨o, H4, I4, ps, eo, e4⟩ => ?_
  subst eo e4
  cases pl
  cases pu
  have I5 : Inv X pins σ H4 { s4 with heap := s4.heap.push { cls := .type "slice", data := .fields #[.none, .none, vs] } } := I4.kept (t' := s4.toks) fun b ob q => Heap.get?_push_of_some _ q
  obtain ⟨its, r, ht, hz⟩ := I5.tuple hx
  have hlen := r.length
  show wpAny (model X.prog X.w) X.A (subscriptTail e (.Slice none none (some (.UnaryOp .USub (.Constant (.int 1) k p1) p2)) p3) (.ref a) (.ref s4.heap.objs.size)) (EP X pins σ Q) X.xe { s4 with heap := s4.heap.push { cls := .type "slice", data := .fields #[.none, .none, vs] } }
  refine tail_any (ops := [.ref a, .ref s4.heap.objs.size]) ht.typeIs (PyProof.Rows.slot_tuple_getitem.lookup) ?_ (by with_unfolding_all rfl)
  refine getItem_tuple_rev ht (Heap.IsSliceOf.new _ .none .none vs) ps ?_ (by rw [List.size_toArray]; omega)
  refine ⟨.ref _, _, I5.laid (t' := s4.toks) (o := .tup xs.reverse) (fun b ob q => Heap.get?_push_of_some _ q) (Nat.le_refl _) ?_, rfl, q _ (I5.hok.fresh (Nat.le_refl _))⟩
  refine ⟨by rw [List.length_reverse]; exact hz, _, r.reverse, ⟨_, Heap.get?_push_size _ rfl, rfl, _, rfl⟩⟩
/-- repr(True), repr(False) -/
def tx (b : Bool) : Str := if b then "True" else "False"
theorem call_repr_bl : CallR X (.builtin "repr") (fun xs H Q => ∃ b, xs = [.bl b] ∧ Q (.str (tx b)) H) := by
  intro pins s σ H xs us Q I r h
  obtain ⟨b, rfl, q⟩ := h
  obtain ⟨u, rfl, r1⟩ := vals1 r
  cases r1
  exact PySem.P.repr_of_bool ⟨.str _, H, I.tok _, ⟨_, rfl⟩, q⟩
end
end Ph

/-! PhRvL: a[::-1] of a list: a new list. -/
namespace Ph
open PySem PySem.Spec PyProof.Rows L2 PySem.Calls HT
section
variable {X : Cx}
def tRevL (K : PySem.W.Frag) (te : TE) : TE := fun σ H Q => te σ H fun x H1 => ∃ a xs, x = .ref a ∧ SqL K H1 a xs ∧ ∀ p, H1 p = none → Q (.ref p) (upd H1 p (.lst xs.reverse))
theorem pe_revL {e : Expr} {te : TE} {k : Nat} {p1 p2 p3 pos : Pos} (he : PE X e te) : PE X (.Subscript e (.Slice none none (some (.UnaryOp .USub (.Constant (.int 1) k p1) p2)) p3) pos) (tRevL X.K te) := by
  refine ⟨fun pins s σ H Q I h => ?_⟩
  refine Subscript_ (thn (he.run pins s σ H _ I h) fun v s1 ⟨x, H1, I1, r1, q1⟩ => ?_)
  obtain ⟨a, xs, ex, hx, q⟩ := q1
  subst ex
  cases r1
  have hst : PO X (some (.UnaryOp .USub (.Constant (.int 1) k p1) p2)) (tPart (tUn (rU fun i => .int (-i)) (tC (.int 1)))) := po_some (pe_un un_neg pe_int)
  refine wpAny_Slice (thn (po_none.run pins s1 σ H1 (fun o H2 => o = none ∧ H2 = H1) I1 ⟨rfl, rfl⟩) fun vl s2 ⟨l, H2, I2, pl, el, e2⟩ => ?_)
  subst el e2
  refine thn (po_none.run pins s2 σ H2 (fun o H3 => o = none ∧ H3 = H2) I2 ⟨rfl, rfl⟩) fun vu s3 ⟨u, H3, I3, pu, eu, e3⟩ => ?_
  subst eu e3
  refine thn (hst.run pins s3 σ H3 (fun o H4 => o = some (-1) ∧ H4 = H3) I3 ⟨1, rfl, -1, rfl, rfl, rfl⟩) fun vs s4 ⟨o, H4, I4, ps, eo, e4⟩ => ?_
  subst eo e4
  cases pl
  cases pu
  have I5 : Inv X pins σ H4 { s4 with heap := s4.heap.push { cls := .type "slice", data := .fields #[.none, .none, vs] } } := I4.kept (t' := s4.toks) fun b ob q => Heap.get?_push_of_some _ q
  obtain ⟨its, r, ht, hz⟩ := I5.list hx
  have hlen := r.length
  show wpAny (model X.prog X.w) X.A (subscriptTail e (.Slice none none (some (.UnaryOp .USub (.Constant (.int 1) k p1) p2)) p3) (.ref a) (.ref s4.heap.objs.size)) (EP X pins σ Q) X.xe { s4 with heap := s4.heap.push { cls := .type "slice", data := .fields #[.none, .none, vs] } }
  refine tail_any (ops := [.ref a, .ref s4.heap.objs.size]) ht.isList.typeIs (slot_list_getitem.lookup) ?_ (by with_unfolding_all rfl)
  refine wpAny_getItem_list_slice ht.isList (Heap.IsSliceOf.new _ .none .none vs) .none .none ps (by decide) ?_ (by rw [List.size_toArray] <;> omega)
  rw [PySem.W.krv_pick]
  refine ⟨.ref _, _, I5.laid (t' := s4.toks) (o := .lst xs.reverse) (fun b ob q => Heap.get?_push_of_some _ q) (Nat.le_refl _) ?_, rfl, q _ (I5.hok.fresh (Nat.le_refl _))⟩
  exact ⟨by rw [List.length_reverse]; exact hz, _, 0, r.reverse, Heap.get?_push_size _ rfl⟩
end
end Ph

/-! PhLs: list(text). -/
namespace Ph
open PySem PySem.Spec PyProof.Rows L2
theorem vals_ptw : ∀ {xs : List V} {us : List Value}, xs.length = us.length → (∀ (i : Nat) (x : V) (u : Value), xs[i]? = some x → us[i]? = some u → RelV x u) → Vals xs us
  | [], [], _, _ => .nil
  | [], _ :: _, h, _ => by simp at h
  | _ :: _, [], h, _ => by simp at h
  | x :: xs, u :: us, h, r => .cons (r 0 x u rfl rfl) (vals_ptw (by simpa using h) fun i a b ha hb => r (i + 1) a b ha hb)
/-- the signs of a text -/
def signsV (z : Str) : List V := (TL.tl z).map fun c => V.str ⟨#[c]⟩
section
variable {X : Cx}
theorem call_listStr (hcalm : X.calm = true) : CallR X (.type "list") (fun xs H Q => ∃ z : Str, xs = [.str z] ∧ z.length ≤ sizeLine ∧ ∀ p, H p = none → Q (.ref p) (upd H p (.lst (signsV z)))) := by
  intro pins s σ H xs us Q I r q
  obtain ⟨z, rfl, hz, q⟩ := q
  obtain ⟨u, rfl, rx⟩ := vals1 r
  obtain ⟨t, rfl⟩ := rx
  have ln : (signsV z).length = z.cps.size := by
    unfold signsV
    rw [List.length_map, ← TL.len_tl]
    rfl
  refine call_list_str (I.ok.hd hcalm) z t (fun h' tk acc c' hk hD hacc => ?_) hz
  have hv : Vals (signsV z) acc.toList := by
    refine vals_ptw (ln.trans (hacc.1.symm.trans Array.length_toList.symm)) fun i x u hx hu => ?_
    rw [Array.getElem?_toList] at hu
    obtain ⟨c, t', hc, rfl⟩ := hacc.2 i u hu
    have hx2 : (signsV z)[i]? = some (V.str ⟨#[c]⟩) := by
      unfold signsV
      rw [List.getElem?_map]
      show Option.map _ (z.cps.toList[i]?) = _
      rw [Array.getElem?_toList, hc]
      rfl
    rw [hx] at hx2
    cases hx2
    exact ⟨t', rfl⟩
  refine ⟨.ref s.heap.objs.size, upd H s.heap.objs.size (.lst (signsV z)), I.laid (t' := tk) hk (Nat.le_refl _)
    (show ObjOk X.prog X.w _ _ _ (.lst (signsV z)) from ⟨by rw [ln]; exact hz, acc.toList, c', hv, by rw [Array.toArray_toList]; exact hD⟩), rfl, q _ (I.hok.fresh (Nat.le_refl _))⟩
end
theorem signs_gw {z : Str} (g : Gw z) : ∀ x ∈ signsV z, ∃ y : Str, x = .str y ∧ Gw y ∧ y.length = 1 := fun x hx => by
  obtain ⟨c, hc, rfl⟩ := List.mem_map.mp hx
  exact ⟨⟨#[c]⟩, rfl, fun d hd => by rw [List.mem_singleton.mp hd]; exact g c hc, rfl⟩
end Ph

set_option maxHeartbeats 2000000
namespace Ph
open PySem PySem.Spec PyProof.Rows L2 LamX NdefX
set_option autoImplicit false
/-! ### max(xs, key=f), f a def made within the def -/
section
variable {X : Cx} {pins : List (Addr × Obj)} {σ : L2.St} {H : Hp} {s : Shared} {F : NF} {f l : Addr} {ps fr : List Str} {js : List Nat} {k : Nat} {sp : List (Option V) → Sp}
/-- what stands beside the loop: the iterator, its scratch list -/
structure Bes (X : Cx) (pins : List (Addr × Obj)) (H : Hp) (I S : Addr) : Prop where
  i : FpOk X pins H I
  s : FpOk X pins H S
/-- calls of the function f in the heap H -/
def RunsF (X : Cx) (k : Nat) (H : Hp) (f : Addr) (F : NF) (fr : List Str) (sp : List (Option V) → Sp) : Prop := ∀ (A : Around) (outer : List Env) (s : Shared) (us : List Value) (vs : List V) (ws : List (Option V)) (Q : VK), Room k A → Env0 X.prog X.w X.K X.mg X.base A outer s H → CellsAt F.cl fr ws s.heap H → Vals vs us → sp ws vs H Q E0 → codeAny (model X.prog X.w) A (.call (.ref f) ⟨us, []⟩) (CR CX0 outer X.prog X.w H s Q E0) s
theorem runsK (hf : H f = some (FnO f F)) (Fn : NOkK X.prog X.w X.K X.mg X.base CX0 k f F ps fr sp) : RunsF X k H f F fr sp := fun A outer s us vs ws Q hr e0 C r q => Fn.run A outer s H us vs ws Q E0 hr e0 hf C r q
theorem runsN (hf : H f = some (FnO f F)) (hcd : H F.c = some (CodeO F.c F.qual)) (Fn : NOk X.prog X.w X.K X.mg X.base CX0 k f F ps fr sp) : RunsF X k H f F fr sp := fun A outer s us vs ws Q hr e0 C r q => Fn.run A outer s H us vs ws Q E0 hr e0 hf hcd C r q
theorem key_run {ns : List Int} {its : List Value} {kf : Int → Int} {I S : Addr} {op : CmpOp} {bt : Nat → Nat → Bool} (hr : Room (k + 1) X.A) (Fn : RunsF X k H f F fr sp) (cp : X.Ok → Caps X F.cl fr js) (B : Bes X pins H I S) (hf : H f = some (FnO f F)) (rv : Vals (ns.map V.int) its)
    (hls : ∀ s', Inv X pins σ H s' → s'.heap.IsList l its.toArray)
    (hk : ∀ n ∈ ns, ∀ Q : VK, Q (.int (kf n)) H → sp (js.map (slotAt σ)) [.int n] H Q E0)
    (hcmp : CmpOf X.prog X.w X.A.in1 op (fun i v => ∃ t, v = .int (kf (ns.getD i 0)) t) bt) :
    KeyRun X.prog X.w X.A.in1 (.ref f) op S [I] (fun a b => b = a) its.toArray.size (fun i v => its.toArray[i]? = some v) (fun i s' => s'.heap.IsListIter I l i ∧ s'.heap.IsList l its.toArray) (fun s' => Inv X pins σ H s') (fun i v _ => ∃ t, v = .int (kf (ns.getD i 0)) t) bt where
  keep := fun s1 s2 I1 m => by
    obtain ⟨h2, g2, d2, t2, o2⟩ := s2
    have e1 : g2 = s1.gens := m.gens
    have e2 : d2 = s1.drawn := m.drawn
    have e3 : o2 = s1.os := m.os
    subst e1 e2 e3
    exact I1.turnedL (ch := S :: [I]) (fun b o hb e => m.heap b o hb e) fun b hb => by
      rcases List.mem_cons.mp hb with z | z
      · rw [z]; exact B.s
      · rw [List.mem_singleton.mp z]; exact B.i
  keepV := fun _ _ _ _ h _ => h
  turn := fun i v s1 o Q E hi hP I1 hst hS hQ => by
    obtain ⟨⟨oI, hoI, hoc, hod⟩, hli⟩ := hst
    have hi' : i < its.length := by simpa using hi
    have hv : its[i]? = some v := by simpa using hP
    have ln := rv.length
    rw [List.length_map] at ln
    have hn : ns.getD i 0 ∈ ns := by
      rw [List.getD_eq_getElem?_getD, List.getElem?_eq_getElem (by omega)]
      exact List.getElem_mem _
    obtain ⟨t, rfl⟩ : ∃ t, v = .int (ns.getD i 0) t := by
      obtain ⟨u, hu, ru⟩ := Vals.get rv (i := i) (x := V.int (ns.getD i 0)) (by rw [List.getElem?_map, List.getD_eq_getElem?_getD, List.getElem?_eq_getElem (by omega)]; rfl)
      rw [hv] at hu
      cases hu
      exact ru
    refine wpAny_call (codeAny_mono (Fn X.A.in1 X.stack s1 [.int (ns.getD i 0) t] [.int (ns.getD i 0)] _ (fun x H' => x = .int (kf (ns.getD i 0)) ∧ H' = H) hr.in1 I1.env0.in1 (cells_of I1 (cp I1.ok)) (.cons ⟨t, rfl⟩ .nil) (hk _ hn _ ⟨rfl, rfl⟩)) fun r s2 out => ?_)
    match r, out with
    | .error _, out => exact False.elim out
    | .ok (.ret u), out =>
      obtain ⟨x, H', os, bare, un, hok, rx, ex, eH⟩ := id out
      subst ex eH
      obtain ⟨t2, rfl⟩ := rx
      have ns1 : ∀ b, FpOk X pins H' b → b ∉ frs X.stack := fun b fp z => (List.mem_cons.mp (I1.stkSub b z)).elim fp.2.1 fp.2.2.1
      have kS := un.keep S o hS B.s.1 (ns1 S B.s) (by simp)
      have kI := un.keep I oI hoI B.i.1 (ns1 I B.i) (by simp)
      obtain ⟨x, H2, I2, rx, ex, eH⟩ := I1.after out
      subst eH
      exact hQ _ s2 I2 ⟨⟨oI, kI, hoc, hod⟩, hls _ I2⟩ kS ⟨t2, rfl⟩ fun _ _ h => h
  cmp := fun i j ki kj s1 Q E _ hi hj q => hcmp i j ki kj s1 Q E hi hj q
theorem best_gt (num : Nat → Int) : ∀ k, argBest (fun i j => decide (num i > num j)) k ≤ k ∧ ∀ j, j ≤ k → num j ≤ num (argBest (fun i j => decide (num i > num j)) k) ∧ (j < argBest (fun i j => decide (num i > num j)) k → num j < num (argBest (fun i j => decide (num i > num j)) k))
  | 0 => ⟨Nat.le_refl _, fun j hj => by
      have : j = 0 := by omega
      subst this
      exact ⟨Int.le_refl _, fun h => absurd h (Nat.not_lt_zero _)⟩⟩
  | k + 1 => by
    obtain ⟨h1, h2⟩ := best_gt num k
    simp only [argBest]
    by_cases hc : num (k + 1) > num (argBest (fun i j => decide (num i > num j)) k)
    · rw [if_pos (by simpa using hc)]
      refine ⟨Nat.le_refl _, fun j hj => ?_⟩
      by_cases e : j = k + 1
      · subst e
        exact ⟨Int.le_refl _, fun h => absurd h (Nat.lt_irrefl _)⟩
      · have := (h2 j (by omega)).1
        exact ⟨by omega, fun _ => by omega⟩
    · rw [if_neg (by simpa using hc)]
      refine ⟨by omega, fun j hj => ?_⟩
      by_cases e : j = k + 1
      · subst e
        exact ⟨by omega, fun h => by omega⟩
      · exact h2 j (by omega)
theorem run_maxKey {ol : Obj} {ns : List Int} {kf : Int → Int} {Q : VK} (hc : X.calm = true) (hr : Room (k + 1) X.A) (Fn : RunsF X k H f F fr sp) (cp : X.Ok → Caps X F.cl fr js) (I : Inv X pins σ H s) (hf : H f = some (FnO f F)) (hl : H l = some (.frz ol (.lst (ns.map V.int)))) (hne : ns ≠ [])
    (hk : ∀ n ∈ ns, ∀ Q : VK, Q (.int (kf n)) H → sp (js.map (slotAt σ)) [.int n] H Q E0)
    (q : ∀ (i : Nat) (m : Int), ns[i]? = some m → (∀ (j : Nat) (n : Int), ns[j]? = some n → kf n ≤ kf m ∧ (j < i → kf n < kf m)) → Q (.int m) H) :
    wpAny (model X.prog X.w) X.A (call (.builtin "max") [.ref l] [(Str.ofString "key", .ref f)]) (EP X pins σ Q) X.xe s := by
  have hname : (toString "max" ++ toString ".loop" : String) = "max.loop" := by decide
  have hq : SqL X.K H l (ns.map V.int) := .inl (.inr ⟨ol, hl⟩)
  obtain ⟨its, rv, pl, hz⟩ := I.list hq
  have hls := pl.isList
  have hlsA : ∀ s', Inv X pins σ H s' → s'.heap.IsList l its.toArray := fun s' I' => by
    obtain ⟨o, ho, hrest⟩ := id hls
    have e1 := (I.hok l _ hl).1
    have e2 := (I'.hok l _ hl).1
    rw [ho] at e1
    cases e1
    exact ⟨_, e2, hrest⟩
  have ln := rv.length
  rw [List.length_map] at ln
  have hn0 : 0 < ns.length := List.length_pos_iff.mpr hne
  obtain ⟨ol, hol, _⟩ := id hls
  have hll : l < s.heap.objs.size := Heap.lt_size hol
  refine kmk_tree PySem.F.kind_max PySem.F.plain_max PySem.F.entry_max (kmk_max_key _ _) ?_
  show wpAny _ X.A.in1 (Builtin.Builtins.bindParams "max" ["key", "default"] 0 ⟨[], [(Str.ofString "key", .ref f)]⟩ >>= _) _ _ s
  refine wpAny_bind (wpAny_of_eq (show Builtin.Builtins.bindParams "max" ["key", "default"] 0 ⟨[], [(Str.ofString "key", .ref f)]⟩ = pure [some (.ref f), none] from rfl) ?_)
  refine wpAny_bind (wpAny_pure ?_)
  refine wpAny_bind (wpAny_pyIter_list hls ?_)
  refine wpAny_bind (wpAny_newList ?_ (Nat.zero_le _))
  rw [hname]
  have hS : (s.heap.push { cls := .type "list_iterator", data := .fields #[.ref l, .int 0 0] }).objs.size = s.heap.objs.size + 1 := size_push' ..
  have hlI : l ≠ s.heap.objs.size := Nat.ne_of_lt hll
  refine wpAny_pure ⟨plainId_quiet PySem.F.plain_max_loop _, ?_⟩
  have gI : ((s.heap.push { cls := .type "list_iterator", data := .fields #[.ref l, .int 0 0] }).push (seqObj "list" #[] 0)).get? s.heap.objs.size = some { cls := .type "list_iterator", data := .fields #[.ref l, .int 0 0] } :=
    Heap.get?_push_of_some _ (Heap.get?_push_size _ rfl)
  have gS : ((s.heap.push { cls := .type "list_iterator", data := .fields #[.ref l, .int 0 0] }).push (seqObj "list" #[] 0)).get? (s.heap.push { cls := .type "list_iterator", data := .fields #[.ref l, .int 0 0] }).objs.size = some (seqObj "list" #[] 0) := Heap.get?_push_size _ rfl
  have W := (Walks.list (prog := X.prog) (w := X.w) (A := X.A.in1) (I.ok.hd hc) s.heap.objs.size l hlI its.toArray).toS
  have fI : H s.heap.objs.size = none := I.hok.fresh (Nat.le_refl _)
  have fS : H (s.heap.push { cls := .type "list_iterator", data := .fields #[.ref l, .int 0 0] }).objs.size = none := I.hok.fresh (by rw [hS]; omega)
  have B : Bes X pins H s.heap.objs.size (s.heap.push { cls := .type "list_iterator", data := .fields #[.ref l, .int 0 0] }).objs.size := ⟨I.fpOk (Nat.le_refl _) fI, I.fpOk (by rw [hS]; omega) fS⟩
  have KR := key_run (op := .Gt) (l := l) hr Fn cp B hf rv hlsA hk (CmpOf.ints_gt (P := fun i v => ∃ t, v = .int (kf (ns.getD i 0)) t) (fun i => kf (ns.getD i 0)) fun i v h => h)
  have I1 : Inv X pins σ H { s with heap := (s.heap.push { cls := .type "list_iterator", data := .fields #[.ref l, .int 0 0] }).push (seqObj "list" #[] 0), toks := s.toks } := I.kept (t' := s.toks) fun b o e => Heap.get?_push_of_some _ (Heap.get?_push_of_some _ e)
  refine codeAny_max_loop_firstK W _ ?_ KR [] ?_ (I.kept (t' := s.toks) fun b o e => Heap.get?_push_of_some _ (Heap.get?_push_of_some _ e)) ?_ gS fun v s' hv I' => ?_
  · intro hm
    rcases List.mem_cons.mp hm with z | z
    · rw [hS] at z
      exact absurd z (Nat.ne_of_gt (Nat.lt_succ_self _))
    · have z := List.mem_singleton.mp z
      rw [hS] at z
      exact absurd z (Nat.ne_of_gt (Nat.lt_succ_of_lt hll))
  · rw [List.size_toArray]
    omega
  · exact ⟨⟨_, gI, rfl, rfl⟩, hlsA _ I1⟩
  · obtain ⟨b1, b2⟩ := best_gt (fun i => kf (ns.getD i 0)) (its.toArray.size - 1)
    rw [List.size_toArray] at b1 b2 hv
    generalize argBest (fun i j => decide (kf (ns.getD i 0) > kf (ns.getD j 0))) (its.length - 1) = bi at *
    have hbi : bi < ns.length := by omega
    have gt : ∀ (j : Nat) (n : Int), ns[j]? = some n → ns.getD j 0 = n := fun j n e => by rw [List.getD_eq_getElem?_getD, e]; rfl
    obtain ⟨u, hu, ru⟩ := Vals.get rv (i := bi) (x := V.int ns[bi]) (by rw [List.getElem?_map, List.getElem?_eq_getElem hbi]; rfl)
    have hv' : its[bi]? = some v := by simpa using hv
    rw [hv'] at hu
    cases hu
    refine ⟨.int ns[bi], H, I', ru, q bi _ (List.getElem?_eq_getElem hbi) fun j n e => ?_⟩
    have hj := (List.getElem?_eq_some_iff.mp e).1
    have := b2 j (by omega)
    rw [gt j n e, gt bi _ (List.getElem?_eq_getElem hbi)] at this
    exact this
theorem best_lt (num : Nat → Int) : ∀ k, argBest (fun i j => decide (num i < num j)) k ≤ k ∧ ∀ j, j ≤ k → num (argBest (fun i j => decide (num i < num j)) k) ≤ num j ∧ (j < argBest (fun i j => decide (num i < num j)) k → num (argBest (fun i j => decide (num i < num j)) k) < num j)
  | 0 => ⟨Nat.le_refl _, fun j hj => by
      have : j = 0 := by omega
      subst this
      exact ⟨Int.le_refl _, fun h => absurd h (Nat.not_lt_zero _)⟩⟩
  | k + 1 => by
    obtain ⟨h1, h2⟩ := best_lt num k
    simp only [argBest]
    by_cases hc : num (k + 1) < num (argBest (fun i j => decide (num i < num j)) k)
    · rw [if_pos (by simpa using hc)]
      refine ⟨Nat.le_refl _, fun j hj => ?_⟩
      by_cases e : j = k + 1
      · subst e
        exact ⟨Int.le_refl _, fun h => absurd h (Nat.lt_irrefl _)⟩
      · have := (h2 j (by omega)).1
        exact ⟨by omega, fun _ => by omega⟩
    · rw [if_neg (by simpa using hc)]
      refine ⟨by omega, fun j hj => ?_⟩
      by_cases e : j = k + 1
      · subst e
        exact ⟨by omega, fun h => by omega⟩
      · exact h2 j (by omega)
theorem run_minKey {ol : Obj} {ns : List Int} {kf : Int → Int} {Q : VK} (hc : X.calm = true) (hr : Room (k + 1) X.A) (Fn : RunsF X k H f F fr sp) (cp : X.Ok → Caps X F.cl fr js) (I : Inv X pins σ H s) (hf : H f = some (FnO f F)) (hl : H l = some (.frz ol (.lst (ns.map V.int)))) (hne : ns ≠ [])
    (hk : ∀ n ∈ ns, ∀ Q : VK, Q (.int (kf n)) H → sp (js.map (slotAt σ)) [.int n] H Q E0)
    (q : ∀ (i : Nat) (m : Int), ns[i]? = some m → (∀ (j : Nat) (n : Int), ns[j]? = some n → kf m ≤ kf n ∧ (j < i → kf m < kf n)) → Q (.int m) H) :
    wpAny (model X.prog X.w) X.A (call (.builtin "min") [.ref l] [(Str.ofString "key", .ref f)]) (EP X pins σ Q) X.xe s := by
  have hname : (toString "min" ++ toString ".loop" : String) = "min.loop" := by decide
  have hq : SqL X.K H l (ns.map V.int) := .inl (.inr ⟨ol, hl⟩)
  obtain ⟨its, rv, pl, hz⟩ := I.list hq
  have hls := pl.isList
  have hlsA : ∀ s', Inv X pins σ H s' → s'.heap.IsList l its.toArray := fun s' I' => by
    obtain ⟨o, ho, hrest⟩ := id hls
    have e1 := (I.hok l _ hl).1
    have e2 := (I'.hok l _ hl).1
    rw [ho] at e1
    cases e1
    exact ⟨_, e2, hrest⟩
  have ln := rv.length
  rw [List.length_map] at ln
  have hn0 : 0 < ns.length := List.length_pos_iff.mpr hne
  obtain ⟨ol, hol, _⟩ := id hls
  have hll : l < s.heap.objs.size := Heap.lt_size hol
  refine kmk_tree PySem.F.kind_min PySem.F.plain_min PySem.F.entry_min (kmk_min_key _ _) ?_
  show wpAny _ X.A.in1 (Builtin.Builtins.bindParams "min" ["key", "default"] 0 ⟨[], [(Str.ofString "key", .ref f)]⟩ >>= _) _ _ s
  refine wpAny_bind (wpAny_of_eq (show Builtin.Builtins.bindParams "min" ["key", "default"] 0 ⟨[], [(Str.ofString "key", .ref f)]⟩ = pure [some (.ref f), none] from rfl) ?_)
  refine wpAny_bind (wpAny_pure ?_)
  refine wpAny_bind (wpAny_pyIter_list hls ?_)
  refine wpAny_bind (wpAny_newList ?_ (Nat.zero_le _))
  rw [hname]
  have hS : (s.heap.push { cls := .type "list_iterator", data := .fields #[.ref l, .int 0 0] }).objs.size = s.heap.objs.size + 1 := size_push' ..
  have hlI : l ≠ s.heap.objs.size := Nat.ne_of_lt hll
  refine wpAny_pure ⟨plainId_quiet PySem.F.plain_min_loop _, ?_⟩
  have gI : ((s.heap.push { cls := .type "list_iterator", data := .fields #[.ref l, .int 0 0] }).push (seqObj "list" #[] 0)).get? s.heap.objs.size = some { cls := .type "list_iterator", data := .fields #[.ref l, .int 0 0] } :=
    Heap.get?_push_of_some _ (Heap.get?_push_size _ rfl)
  have gS : ((s.heap.push { cls := .type "list_iterator", data := .fields #[.ref l, .int 0 0] }).push (seqObj "list" #[] 0)).get? (s.heap.push { cls := .type "list_iterator", data := .fields #[.ref l, .int 0 0] }).objs.size = some (seqObj "list" #[] 0) := Heap.get?_push_size _ rfl
  have W := (Walks.list (prog := X.prog) (w := X.w) (A := X.A.in1) (I.ok.hd hc) s.heap.objs.size l hlI its.toArray).toS
  have fI : H s.heap.objs.size = none := I.hok.fresh (Nat.le_refl _)
  have fS : H (s.heap.push { cls := .type "list_iterator", data := .fields #[.ref l, .int 0 0] }).objs.size = none := I.hok.fresh (by rw [hS]; omega)
  have B : Bes X pins H s.heap.objs.size (s.heap.push { cls := .type "list_iterator", data := .fields #[.ref l, .int 0 0] }).objs.size := ⟨I.fpOk (Nat.le_refl _) fI, I.fpOk (by rw [hS]; omega) fS⟩
  have KR := key_run (op := .Lt) (l := l) hr Fn cp B hf rv hlsA hk (CmpOf.ints_lt (P := fun i v => ∃ t, v = .int (kf (ns.getD i 0)) t) (fun i => kf (ns.getD i 0)) fun i v h => h)
  have I1 : Inv X pins σ H { s with heap := (s.heap.push { cls := .type "list_iterator", data := .fields #[.ref l, .int 0 0] }).push (seqObj "list" #[] 0), toks := s.toks } := I.kept (t' := s.toks) fun b o e => Heap.get?_push_of_some _ (Heap.get?_push_of_some _ e)
  refine codeAny_min_loop_firstK W _ ?_ KR [] ?_ (I.kept (t' := s.toks) fun b o e => Heap.get?_push_of_some _ (Heap.get?_push_of_some _ e)) ?_ gS fun v s' hv I' => ?_
  · intro hm
    rcases List.mem_cons.mp hm with z | z
    · rw [hS] at z
      exact absurd z (Nat.ne_of_gt (Nat.lt_succ_self _))
    · have z := List.mem_singleton.mp z
      rw [hS] at z
      exact absurd z (Nat.ne_of_gt (Nat.lt_succ_of_lt hll))
  · rw [List.size_toArray]
    omega
  · exact ⟨⟨_, gI, rfl, rfl⟩, hlsA _ I1⟩
  · obtain ⟨b1, b2⟩ := best_lt (fun i => kf (ns.getD i 0)) (its.toArray.size - 1)
    rw [List.size_toArray] at b1 b2 hv
    generalize argBest (fun i j => decide (kf (ns.getD i 0) < kf (ns.getD j 0))) (its.length - 1) = bi at *
    have hbi : bi < ns.length := by omega
    have gt : ∀ (j : Nat) (n : Int), ns[j]? = some n → ns.getD j 0 = n := fun j n e => by rw [List.getD_eq_getElem?_getD, e]; rfl
    obtain ⟨u, hu, ru⟩ := Vals.get rv (i := bi) (x := V.int ns[bi]) (by rw [List.getElem?_map, List.getElem?_eq_getElem hbi]; rfl)
    have hv' : its[bi]? = some v := by simpa using hv
    rw [hv'] at hu
    cases hu
    refine ⟨.int ns[bi], H, I', ru, q bi _ (List.getElem?_eq_getElem hbi) fun j n e => ?_⟩
    have hj := (List.getElem?_eq_some_iff.mp e).1
    have := b2 j (by omega)
    rw [gt j n e, gt bi _ (List.getElem?_eq_getElem hbi)] at this
    exact this
/-- the expressions, the list locked -/
def rKeyM (F : NF) (js : List Nat) (sp : List (Option V) → Sp) (le : Int → Int → Prop) (lt : Int → Int → Prop) : L2.St → List V → List V → Hp → VK → Prop := fun σ vs zs H Q => ∃ (l f : Addr) (ol : Obj) (ns : List Int) (kf : Int → Int), vs = [.ref l] ∧ zs = [.ref f] ∧ H f = some (FnO f F) ∧ H l = some (.frz ol (.lst (ns.map V.int))) ∧ ns ≠ [] ∧
  (∀ n ∈ ns, ∀ Q : VK, Q (.int (kf n)) H → sp (js.map (slotAt σ)) [.int n] H Q E0) ∧ ∀ (i : Nat) (m : Int), ns[i]? = some m → (∀ (j : Nat) (n : Int), ns[j]? = some n → le (kf n) (kf m) ∧ (j < i → lt (kf n) (kf m))) → Q (.int m) H
def tKeyM (r : L2.St → List V → List V → Hp → VK → Prop) (t tk : TA) : TE := fun σ H Q => t σ H fun vs H1 => tk σ H1 fun zs H2 => r σ vs zs H2 Q
section
variable {x : Str} {p pos : Pos} {e : Expr} {es : List Expr} {kws : List Keyword} {t tk : TA}
theorem pe_maxKey (hc : X.calm = true) (hr : Room (k + 1) X.A) (Fn : ∀ f, NOkK X.prog X.w X.K X.mg X.base CX0 k f F ps fr sp) (cp : X.Ok → Caps X F.cl fr js) (hg : Gl X x) (hm : X.mg x = none) (hv : bootBuiltins x = some (.builtin "max")) (ha : PA X (e :: es) t) (hk : PK X kws tk) (hn : x ≠ "__name__" := by decide) (hdb : (x == ("__debug__" : Str)) = false := by decide)
    (he : backTo pos (starEach (e :: es) X.env) = (false, eval e X.env) :: backTo pos (starEach es X.env) := by rfl) (hpl : (backTo pos (starEach (e :: es) X.env)).any (·.1) = false := by rfl)
    (hall : (backToKw pos (keywordEach kws X.env)).all (·.1.isSome) = true := by rfl) (hnone : (backToKw pos (keywordEach kws X.env)).any (·.1.isNone) = false := by rfl) (hks : (backToKw pos (keywordEach kws X.env)).filterMap (·.1) = [Str.ofString "key"] := by rfl) :
    PE X (.Call (.Name x p) (e :: es) kws pos) (tKeyM (rKeyM F js sp (· ≤ ·) (· < ·)) t tk) := by
  refine ⟨fun pins s σ H Q I h => ?_⟩
  refine wpAny_Call_Name_kw (ld_blt I hg hm hv ?_ hn hdb)
  refine PyProof.Rows.callWith_kw (thn (ha.run pos pins s σ H _ I h) fun us s1 ⟨vs, H1, I1, r1, q1⟩ => thn (hk.run pos pins s1 σ H1 _ I1 q1) fun ws s2 ⟨zs, H2, I2, r2, q2⟩ => ?_) he hpl hall hnone
  rw [hks]
  obtain ⟨l, f, ol, ns, kf, rfl, rfl, hf, hl, hne, hh, q⟩ := q2
  rw [Vals.ref1 r1, Vals.ref1 r2]
  exact run_maxKey hc hr (runsK hf (Fn f)) cp I2 hf hl hne hh q
theorem pe_minKey (hc : X.calm = true) (hr : Room (k + 1) X.A) (Fn : ∀ f, NOkK X.prog X.w X.K X.mg X.base CX0 k f F ps fr sp) (cp : X.Ok → Caps X F.cl fr js) (hg : Gl X x) (hm : X.mg x = none) (hv : bootBuiltins x = some (.builtin "min")) (ha : PA X (e :: es) t) (hk : PK X kws tk) (hn : x ≠ "__name__" := by decide) (hdb : (x == ("__debug__" : Str)) = false := by decide)
    (he : backTo pos (starEach (e :: es) X.env) = (false, eval e X.env) :: backTo pos (starEach es X.env) := by rfl) (hpl : (backTo pos (starEach (e :: es) X.env)).any (·.1) = false := by rfl)
    (hall : (backToKw pos (keywordEach kws X.env)).all (·.1.isSome) = true := by rfl) (hnone : (backToKw pos (keywordEach kws X.env)).any (·.1.isNone) = false := by rfl) (hks : (backToKw pos (keywordEach kws X.env)).filterMap (·.1) = [Str.ofString "key"] := by rfl) :
    PE X (.Call (.Name x p) (e :: es) kws pos) (tKeyM (rKeyM F js sp (· ≥ ·) (· > ·)) t tk) := by
  refine ⟨fun pins s σ H Q I h => ?_⟩
  refine wpAny_Call_Name_kw (ld_blt I hg hm hv ?_ hn hdb)
  refine PyProof.Rows.callWith_kw (thn (ha.run pos pins s σ H _ I h) fun us s1 ⟨vs, H1, I1, r1, q1⟩ => thn (hk.run pos pins s1 σ H1 _ I1 q1) fun ws s2 ⟨zs, H2, I2, r2, q2⟩ => ?_) he hpl hall hnone
  rw [hks]
  obtain ⟨l, f, ol, ns, kf, rfl, rfl, hf, hl, hne, hh, q⟩ := q2
  rw [Vals.ref1 r1, Vals.ref1 r2]
  exact run_minKey hc hr (runsK hf (Fn f)) cp I2 hf hl hne hh q
def rKeyN (mk : Addr → NF) (js : List Nat) (sp : List (Option V) → Sp) (le : Int → Int → Prop) (lt : Int → Int → Prop) : L2.St → List V → List V → Hp → VK → Prop := fun σ vs zs H Q => ∃ (l f c' : Addr) (ol : Obj) (ns : List Int) (kf : Int → Int), vs = [.ref l] ∧ zs = [.ref f] ∧ H f = some (FnO f (mk c')) ∧ H c' = some (CodeO c' (mk c').qual) ∧ H l = some (.frz ol (.lst (ns.map V.int))) ∧ ns ≠ [] ∧
  (∀ n ∈ ns, ∀ Q : VK, Q (.int (kf n)) H → sp (js.map (slotAt σ)) [.int n] H Q E0) ∧ ∀ (i : Nat) (m : Int), ns[i]? = some m → (∀ (j : Nat) (n : Int), ns[j]? = some n → le (kf n) (kf m) ∧ (j < i → lt (kf n) (kf m))) → Q (.int m) H
variable {mk : Addr → NF}
theorem pe_maxKeyN (hc : X.calm = true) (hr : Room (k + 1) X.A) (Fn : ∀ f c', NOk X.prog X.w X.K X.mg X.base CX0 k f (mk c') ps fr sp) (cp : ∀ c', X.Ok → Caps X (mk c').cl fr js) (hmc : ∀ c', (mk c').c = c') (hg : Gl X x) (hm : X.mg x = none) (hv : bootBuiltins x = some (.builtin "max")) (ha : PA X (e :: es) t) (hk : PK X kws tk) (hn : x ≠ "__name__" := by decide) (hdb : (x == ("__debug__" : Str)) = false := by decide)
    (he : backTo pos (starEach (e :: es) X.env) = (false, eval e X.env) :: backTo pos (starEach es X.env) := by rfl) (hpl : (backTo pos (starEach (e :: es) X.env)).any (·.1) = false := by rfl)
    (hall : (backToKw pos (keywordEach kws X.env)).all (·.1.isSome) = true := by rfl) (hnone : (backToKw pos (keywordEach kws X.env)).any (·.1.isNone) = false := by rfl) (hks : (backToKw pos (keywordEach kws X.env)).filterMap (·.1) = [Str.ofString "key"] := by rfl) :
    PE X (.Call (.Name x p) (e :: es) kws pos) (tKeyM (rKeyN mk js sp (· ≤ ·) (· < ·)) t tk) := by
  refine ⟨fun pins s σ H Q I h => ?_⟩
  refine wpAny_Call_Name_kw (ld_blt I hg hm hv ?_ hn hdb)
  refine PyProof.Rows.callWith_kw (thn (ha.run pos pins s σ H _ I h) fun us s1 ⟨vs, H1, I1, r1, q1⟩ => thn (hk.run pos pins s1 σ H1 _ I1 q1) fun ws s2 ⟨zs, H2, I2, r2, q2⟩ => ?_) he hpl hall hnone
  rw [hks]
  obtain ⟨l, f, c', ol, ns, kf, rfl, rfl, hf, hcd, hl, hne, hh, q⟩ := q2
  rw [Vals.ref1 r1, Vals.ref1 r2]
  exact run_maxKey hc hr (runsN hf (by rw [hmc]; exact hcd) (Fn f c')) (cp c') I2 hf hl hne hh q
theorem pe_minKeyN (hc : X.calm = true) (hr : Room (k + 1) X.A) (Fn : ∀ f c', NOk X.prog X.w X.K X.mg X.base CX0 k f (mk c') ps fr sp) (cp : ∀ c', X.Ok → Caps X (mk c').cl fr js) (hmc : ∀ c', (mk c').c = c') (hg : Gl X x) (hm : X.mg x = none) (hv : bootBuiltins x = some (.builtin "min")) (ha : PA X (e :: es) t) (hk : PK X kws tk) (hn : x ≠ "__name__" := by decide) (hdb : (x == ("__debug__" : Str)) = false := by decide)
    (he : backTo pos (starEach (e :: es) X.env) = (false, eval e X.env) :: backTo pos (starEach es X.env) := by rfl) (hpl : (backTo pos (starEach (e :: es) X.env)).any (·.1) = false := by rfl)
    (hall : (backToKw pos (keywordEach kws X.env)).all (·.1.isSome) = true := by rfl) (hnone : (backToKw pos (keywordEach kws X.env)).any (·.1.isNone) = false := by rfl) (hks : (backToKw pos (keywordEach kws X.env)).filterMap (·.1) = [Str.ofString "key"] := by rfl) :
    PE X (.Call (.Name x p) (e :: es) kws pos) (tKeyM (rKeyN mk js sp (· ≥ ·) (· > ·)) t tk) := by
  refine ⟨fun pins s σ H Q I h => ?_⟩
  refine wpAny_Call_Name_kw (ld_blt I hg hm hv ?_ hn hdb)
  refine PyProof.Rows.callWith_kw (thn (ha.run pos pins s σ H _ I h) fun us s1 ⟨vs, H1, I1, r1, q1⟩ => thn (hk.run pos pins s1 σ H1 _ I1 q1) fun ws s2 ⟨zs, H2, I2, r2, q2⟩ => ?_) he hpl hall hnone
  rw [hks]
  obtain ⟨l, f, c', ol, ns, kf, rfl, rfl, hf, hcd, hl, hne, hh, q⟩ := q2
  rw [Vals.ref1 r1, Vals.ref1 r2]
  exact run_minKey hc hr (runsN hf (by rw [hmc]; exact hcd) (Fn f c')) (cp c') I2 hf hl hne hh q
end
end
end Ph

/-! PhTT: several tables of code objects side by side (lambdas, nested defs): Tabs T, each table with one name. -/
namespace Ph
open PySem PySem.Spec PyProof.Rows L2
def nT (T : List (Addr × Str)) : List NdefX.NTab := T.map fun p => (p.1, fun _ _ => p.2)
theorem nT_iff {T : List (Addr × Str)} {H : Hp} : NdefX.TabsN (nT T) H ↔ LamX.Tabs T H := by
  constructor
  · intro h p hp
    exact NdefX.TabN.to (h (p.1, fun _ _ => p.2) (List.mem_map.mpr ⟨p, hp, rfl⟩))
  · intro h q hq
    obtain ⟨p, hp, rfl⟩ := List.mem_map.mp hq
    exact NdefX.TabN.of (h p hp)
/-- the table at P is tracked, under this one name -/
def InT (T : List (Addr × Str)) (P : Addr) (q : Str) : Prop := (P, q) ∈ T ∧ ∀ p ∈ T, p.1 = P → p.2 = q
theorem InT.n {T : List (Addr × Str)} {P : Addr} {q : Str} (h : InT T P q) : (P, fun _ _ => q) ∈ nT T ∧ ∀ p ∈ nT T, p.1 = P → p.2 = fun _ _ => q := by
  refine ⟨List.mem_map.mpr ⟨(P, q), h.1, rfl⟩, fun p hp e => ?_⟩
  obtain ⟨r, hr, rfl⟩ := List.mem_map.mp hp
  have := h.2 r hr e
  funext _ _
  exact this
theorem InT.one (P : Addr) (q : Str) : InT [(P, q)] P q := ⟨.head _, fun p hp _ => by rw [List.mem_singleton.mp hp]⟩
section
variable {T : List (Addr × Str)} {H H' : Hp}
theorem tabsT_but {q : Addr} {xs : List V} (t : LamX.Tabs T H) (b : But q H H') (e : H q = some (.lst xs)) : LamX.Tabs T H' := fun p hp => by
  obtain ⟨ps, h1, h2, h3⟩ := t p hp
  refine ⟨ps, b _ _ (ne_of h1 e (by intro z; cases z)) h1, h2, fun pos cv hc => ?_⟩
  obtain ⟨c, e1, e2⟩ := h3 pos cv hc
  exact ⟨c, e1, b _ _ (ne_of e2 e (by intro z; unfold LamX.CodeO at z; cases z)) e2⟩
theorem tabsT_fr {h l C dx : Addr} {fs : List (Str × V)} {xs : List V} (t : LamX.Tabs T H) (f : Fr h l H H') (e1 : H h = some (.ins C dx fs)) (e2 : H l = some (.lst xs)) : LamX.Tabs T H' := fun p hp => by
  obtain ⟨ps, h1, h2, h3⟩ := t p hp
  refine ⟨ps, f _ _ (ne_of h1 e1 (by intro z; cases z)) (ne_of h1 e2 (by intro z; cases z)) h1, h2, fun pos cv hc => ?_⟩
  obtain ⟨c, e3, e4⟩ := h3 pos cv hc
  exact ⟨c, e3, f _ _ (ne_of e4 e1 (by intro z; unfold LamX.CodeO at z; cases z)) (ne_of e4 e2 (by intro z; unfold LamX.CodeO at z; cases z)) e4⟩
theorem tabsT_butI {g C dx : Addr} {fs : List (Str × V)} (t : LamX.Tabs T H) (f : But g H H') (e1 : H g = some (.ins C dx fs)) : LamX.Tabs T H' := fun p hp => by
  obtain ⟨ps, h1, h2, h3⟩ := t p hp
  refine ⟨ps, f _ _ (ne_of h1 e1 (by intro z; cases z)) h1, h2, fun pos cv hc => ?_⟩
  obtain ⟨c, e3, e4⟩ := h3 pos cv hc
  exact ⟨c, e3, f _ _ (ne_of e4 e1 (by intro z; unfold LamX.CodeO at z; cases z)) e4⟩
theorem tabsT_nil (h : ∀ p ∈ T, H p.1 = some (.tbl #[])) : LamX.Tabs T H := fun p hp => LamX.TabS.nil (h p hp)
end
end Ph

/-! PhAnE: values of any kind (dicts too) with a bound on their text, kept whatever becomes of q; tuples of such, cut and joined. -/
namespace Ph
open PySem PySem.Spec PyProof.Rows L2
structure ShdAll (ds : List PyData) (n k : Nat) : Prop where
  sh : PyData.showableAll ds = true
  dp : PyData.depthAll ds ≤ n
  lv : PyData.leavesShortAll 40 ds = true
  wt : PyData.weightAll ds ≤ k
  cp : cpAll ds = true
theorem ShdAll.nil (n k : Nat) : ShdAll [] n k := ⟨rfl, Nat.zero_le _, rfl, Nat.zero_le _, rfl⟩
theorem ShdAll.cons {d : PyData} {ds : List PyData} {n k l : Nat} (h : Shd d n k) (t : ShdAll ds n l) : ShdAll (d :: ds) n (k + 1 + l) := by
  obtain ⟨h1, h2, h3, h4, h5⟩ := h
  obtain ⟨t1, t2, t3, t4, t5⟩ := t
  refine ⟨by rw [PyData.showableAll, h1, t1]; rfl, ?_, by rw [PyData.leavesShortAll, h3, t3]; rfl, ?_, by rw [cpAll, h5, t5]; rfl⟩
  · simp only [PyData.depthAll]
    omega
  · simp only [PyData.weightAll]
    omega
theorem ShdAll.tuple {ds : List PyData} {n k : Nat} (h : ShdAll ds n k) : Shd (.tuple ds) (n + 1) k := by
  obtain ⟨h1, h2, h3, h4, h5⟩ := h
  refine ⟨by rw [PyData.showable]; exact h1, by simp only [PyData.depth]; omega, by rw [PyData.leavesShort]; exact h3, by simp only [PyData.weight]; exact h4, by rw [cpD]; exact h5⟩
theorem ShdAll.list {ds : List PyData} {n k : Nat} (h : ShdAll ds n k) : Shd (.list ds) (n + 1) k := by
  obtain ⟨h1, h2, h3, h4, h5⟩ := h
  refine ⟨by rw [PyData.showable]; exact h1, by simp only [PyData.depth]; omega, by rw [PyData.leavesShort]; exact h3, by simp only [PyData.weight]; exact h4, by rw [cpD]; exact h5⟩
def AnyE (K : PySem.W.Frag) (q : Addr) (H : Hp) (n k : Nat) (x : V) : Prop := ∃ d, Dq K (hid [q] H) x d ∧ Shd d n k
section
variable {K : PySem.W.Frag} {q : Addr} {H H' : Hp} {n k m l : Nat} {x : V}
theorem AnyE.but (v : AnyE K q H n k x) (b : But q H H') : AnyE K q H' n k x := let ⟨d, h, s⟩ := v; ⟨d, h.same (hid_but (ButS.but b)), s⟩
theorem AnyE.same (v : AnyE K q H n k x) (s : Same H H') : AnyE K q H' n k x := v.but (Same.but s)
theorem AnyE.up (v : AnyE K q H n k x) (h1 : n ≤ m) (h2 : k ≤ l) : AnyE K q H m l x := let ⟨d, h, s⟩ := v; ⟨d, h, s.up h1 h2⟩
theorem AnyE.ofT {d : PyData} (o : OdV K [q] (ntb H) n x d) : AnyE K q H (n + 2) (2000 + 200 * n) x := ⟨d, o.dq.same (hid_but (ButS.of ntb_sub)), o.sd⟩
theorem AnyE.intB {i : Int} (h : i.natAbs < 10 ^ 35) : AnyE K q H 0 120 (.int i) := ⟨_, .int i, shd_intB h⟩
theorem AnyE.str {y : Str} (s : Shd (.str y) n k) : AnyE K q H n k (.str y) := ⟨_, .str y, s⟩
theorem AnyE.non : AnyE K q H 0 120 .non := ⟨_, .non, ⟨by decide +kernel, by decide +kernel, by decide +kernel, by decide +kernel, by decide +kernel⟩⟩
theorem AnyE.all : ∀ {xs : List V}, (∀ y ∈ xs, AnyE K q H n k y) → ∃ ds, DqAll K (hid [q] H) xs ds ∧ ShdAll ds n ((k + 1) * xs.length)
  | [], _ => ⟨[], .nil, .nil _ _⟩
  | y :: r, h => by
    obtain ⟨ds, h1, h2⟩ := AnyE.all (xs := r) fun z hz => h z (List.mem_cons_of_mem _ hz)
    obtain ⟨d, h3, h4⟩ := h y (List.mem_cons_self ..)
    refine ⟨d :: ds, .cons h3 h1, ?_⟩
    have := ShdAll.cons h4 h2
    rw [List.length_cons, Nat.mul_add, Nat.mul_one, Nat.add_comm]
    exact this
theorem AnyE.tup {t : Addr} {xs : List V} (e : H t = some (.tup xs)) (nt : t ≠ q) (h : ∀ y ∈ xs, AnyE K q H n k y) : AnyE K q H (n + 1) ((k + 1) * xs.length) (.ref t) := by
  obtain ⟨ds, h1, h2⟩ := AnyE.all h
  exact ⟨.tuple ds, .tup (.inl (.inl ((hid_at (fun z => nt (List.mem_singleton.mp z))).trans e))) h1, h2.tuple⟩
theorem AnyE.lst {t : Addr} {xs : List V} (e : H t = some (.lst xs)) (nt : t ≠ q) (h : ∀ y ∈ xs, AnyE K q H n k y) : AnyE K q H (n + 1) ((k + 1) * xs.length) (.ref t) := by
  obtain ⟨ds, h1, h2⟩ := AnyE.all h
  exact ⟨.list ds, .lst (.inl (.inl ((hid_at (fun z => nt (List.mem_singleton.mp z))).trans e))) h1, h2.list⟩
end
section
variable {X : Cx}
theorem cut_whole {xs : List V} {lo hi : Option Int} (h : HT.sIx xs.length 0 lo = 0 ∧ HT.sIx xs.length xs.length hi = xs.length) : cutV xs lo hi = xs := by
  unfold cutV
  rw [h.1, h.2, List.drop_zero]
  exact List.take_length
def rSlS : V → Option Int → Option Int → Hp → VK → Prop := fun x lo hi H Q => ∃ a xs, x = .ref a ∧ H a = some (.tup xs) ∧ ∀ p H', Same H H' → H' p = some (.tup (cutV xs lo hi)) → Q (.ref p) H'
theorem sl_tupS : SlR X rSlS := by
  intro pins s σ H x v vl vu lo hi sl Q I rx hs pl pu h
  obtain ⟨a, xs, rfl, hx, q⟩ := h
  exact sl_tupA pins s σ H _ v vl vu lo hi sl Q I rx hs pl pu ⟨a, xs, rfl, .inl (.inl hx), fun hw => q a H (Same.refl H) (by rw [cut_whole hw]; exact hx), fun _ p np => q p _ (same_upd np) upd_same⟩
theorem small1000 {n : Nat} (h : n ≤ 1000) : n < sizeLine := Nat.lt_of_le_of_lt h (by decide)
def rCatS : R2 := fun x y H Q => ∃ a b xs ys, x = .ref a ∧ y = .ref b ∧ H a = some (.tup xs) ∧ H b = some (.tup ys) ∧ xs.length + ys.length ≤ 1000 ∧ ∀ p H', Same H H' → H' p = some (.tup (xs ++ ys)) → Q (.ref p) H'
theorem op_catS : OpR X (binaryOp .Add) rCatS := by
  intro pins s σ H x y v u Q I rx ry h
  obtain ⟨a, b, xs, ys, rfl, rfl, ha, hb, hz, q⟩ := h
  refine op_catA pins s σ H _ _ v u Q I rx ry ⟨a, b, xs, ys, rfl, rfl, .inl (.inl ha), .inl (.inl hb), Nat.le_of_lt (small1000 hz), fun e => q b H (Same.refl H) (by rw [e]; exact hb), fun _ e => q a H (Same.refl H) (by rw [e, List.append_nil]; exact ha), fun _ _ p np => q p _ (same_upd np) upd_same⟩
end
theorem cut_le {xs : List V} {lo hi : Option Int} : (cutV xs lo hi).length ≤ xs.length := by
  unfold cutV
  rw [List.length_take, List.length_drop]
  omega
theorem cut_sub {xs : List V} {lo hi : Option Int} {x : V} (h : x ∈ cutV xs lo hi) : x ∈ xs := List.mem_of_mem_drop (List.mem_of_mem_take h)
end Ph
namespace Ph
open PySem PySem.Spec PyProof.Rows L2
theorem DqAll.app {K : PySem.W.Frag} {H : Hp} : ∀ {xs ys : List V} {ds es : List PyData}, DqAll K H xs ds → DqAll K H ys es → DqAll K H (xs ++ ys) (ds ++ es)
  | _, _, _, _, .nil, h => h
  | _, _, _, _, .cons a r, h => .cons a (DqAll.app r h)
theorem ShdAll.app : ∀ {ds es : List PyData} {n k l : Nat}, ShdAll ds n k → ShdAll es n l → ShdAll (ds ++ es) n (k + l)
  | [], es, n, k, l, _, h => ⟨h.sh, h.dp, h.lv, by have := h.wt; simp only [List.nil_append]; omega, h.cp⟩
  | d :: r, es, n, k, l, h, h' => by
    obtain ⟨h1, h2, h3, h4, h5⟩ := h
    rw [PyData.showableAll, Bool.and_eq_true] at h1
    rw [PyData.leavesShortAll, Bool.and_eq_true] at h3
    rw [cpAll, Bool.and_eq_true] at h5
    simp only [PyData.depthAll] at h2
    simp only [PyData.weightAll] at h4
    obtain ⟨t1, t2, t3, t4, t5⟩ := ShdAll.app (ds := r) (n := n) (k := k - d.weight - 1) ⟨h1.2, by omega, h3.2, by omega, h5.2⟩ h'
    refine ⟨?_, ?_, ?_, ?_, ?_⟩
    · rw [List.cons_append, PyData.showableAll, h1.1, t1]; rfl
    · rw [List.cons_append]; simp only [PyData.depthAll]; omega
    · rw [List.cons_append, PyData.leavesShortAll, h3.1, t3]; rfl
    · rw [List.cons_append]; simp only [PyData.weightAll]; omega
    · rw [List.cons_append, cpAll, h5.1, t5]; rfl
/-- the members of a tuple, told with their weight together -/
def AllE (K : PySem.W.Frag) (q : Addr) (H : Hp) (n k : Nat) (xs : List V) : Prop := ∃ ds, DqAll K (hid [q] H) xs ds ∧ ShdAll ds n k
section
variable {K : PySem.W.Frag} {q : Addr} {H H' : Hp} {n k m l : Nat} {xs ys : List V}
theorem AllE.of (h : ∀ y ∈ xs, AnyE K q H n k y) : AllE K q H n ((k + 1) * xs.length) xs := AnyE.all h
theorem AllE.app (a : AllE K q H n k xs) (b : AllE K q H n l ys) : AllE K q H n (k + l) (xs ++ ys) := let ⟨_, a1, a2⟩ := a; let ⟨_, b1, b2⟩ := b; ⟨_, a1.app b1, a2.app b2⟩
theorem ShdAll.upn {ds : List PyData} (h : ShdAll ds n k) (h1 : n ≤ m) (h2 : k ≤ l) : ShdAll ds m l := ⟨h.sh, Nat.le_trans h.dp h1, h.lv, Nat.le_trans h.wt h2, h.cp⟩
theorem AllE.up (a : AllE K q H n k xs) (h1 : n ≤ m) (h2 : k ≤ l) : AllE K q H m l xs := let ⟨_, a1, a2⟩ := a; ⟨_, a1, a2.upn h1 h2⟩
theorem AllE.tup {t : Addr} (a : AllE K q H n k xs) (e : H t = some (.tup xs)) (nt : t ≠ q) : AnyE K q H (n + 1) k (.ref t) := let ⟨_, a1, a2⟩ := a; ⟨_, .tup (.inl (.inl ((hid_at (fun z => nt (List.mem_singleton.mp z))).trans e))) a1, a2.tuple⟩
theorem AllE.one {x : V} (h : AnyE K q H n k x) : AllE K q H n (k + 1) [x] := (AllE.of (xs := [x]) (n := n) (k := k) fun y hy => by rw [List.mem_singleton.mp hy]; exact h).up (Nat.le_refl _) (by simp)
theorem AllE.cut {lo hi : Option Int} (h : ∀ y ∈ xs, AnyE K q H n k y) (hl : xs.length ≤ l) : AllE K q H n ((k + 1) * l) (cutV xs lo hi) := (AllE.of fun y hy => h y (cut_sub hy)).up (Nat.le_refl _) (Nat.mul_le_mul_left _ (Nat.le_trans cut_le hl))
end
end Ph

/-! PhRvF: t[::-1] of a tuple: a new tuple, frozen. -/
namespace Ph
open PySem PySem.Spec PyProof.Rows L2 PySem.Calls HT
section
variable {X : Cx}
def tRevF (K : PySem.W.Frag) (te : TE) : TE := fun σ H Q => te σ H fun x H1 => ∃ a xs, x = .ref a ∧ SqT K H1 a xs ∧ ∀ p (o : Obj), H1 p = none → o.dict = none → Q (.ref p) (upd H1 p (.frz o (.tup xs.reverse)))
theorem pe_revF {e : Expr} {te : TE} {k : Nat} {p1 p2 p3 pos : Pos} (he : PE X e te) : PE X (.Subscript e (.Slice none none (some (.UnaryOp .USub (.Constant (.int 1) k p1) p2)) p3) pos) (tRevF X.K te) := by
  refine ⟨fun pins s σ H Q I h => ?_⟩
  refine Subscript_ (thn (he.run pins s σ H _ I h) fun v s1 ⟨x, H1, I1, r1, q1⟩ => ?_)
  obtain ⟨a, xs, ex, hx, q⟩ := q1
  subst ex
  cases r1
  have hst : PO X (some (.UnaryOp .USub (.Constant (.int 1) k p1) p2)) (tPart (tUn (rU fun i => .int (-i)) (tC (.int 1)))) := po_some (pe_un un_neg pe_int)
  refine wpAny_Slice (thn (po_none.run pins s1 σ H1 (fun o H2 => o = none ∧ H2 = H1) I1 ⟨rfl, rfl⟩) fun vl s2 ⟨l, H2, I2, pl, el, e2⟩ => ?_)
  subst el e2
  refine thn (po_none.run pins s2 σ H2 (fun o H3 => o = none ∧ H3 = H2) I2 ⟨rfl, rfl⟩) fun vu s3 ⟨u, H3, I3, pu, eu, e3⟩ => ?_
  subst eu e3
  refine thn (hst.run pins s3 σ H3 (fun o H4 => o = some (-1) ∧ H4 = H3) I3 ⟨1, rfl, -1, rfl, rfl, rfl⟩) fun vs s4 ⟨o, H4, I4, ps, eo, e4⟩ => ?_
  subst eo e4
  cases pl
  cases pu
  have I5 : Inv X pins σ H4 { s4 with heap := s4.heap.push { cls := .type "slice", data := .fields #[.none, .none, vs] } } := I4.kept (t' := s4.toks) fun b ob q => Heap.get?_push_of_some _ q
  obtain ⟨its, r, ht, hz⟩ := I5.tuple hx
  have hlen := r.length
  show wpAny (model X.prog X.w) X.A (subscriptTail e (.Slice none none (some (.UnaryOp .USub (.Constant (.int 1) k p1) p2)) p3) (.ref a) (.ref s4.heap.objs.size)) (EP X pins σ Q) X.xe { s4 with heap := s4.heap.push { cls := .type "slice", data := .fields #[.none, .none, vs] } }
  refine tail_any (ops := [.ref a, .ref s4.heap.objs.size]) ht.typeIs (PyProof.Rows.slot_tuple_getitem.lookup) ?_ (by with_unfolding_all rfl)
  refine getItem_tuple_rev ht (Heap.IsSliceOf.new _ .none .none vs) ps ?_ (by rw [List.size_toArray]; omega)
  refine ⟨.ref _, _, I5.laid (t' := s4.toks) (o := .frz _ (.tup xs.reverse)) (fun b ob q => Heap.get?_push_of_some _ q) (Nat.le_refl _) ⟨Heap.get?_push_size _ rfl, by rw [List.length_reverse]; exact hz, _, r.reverse, IsTup.new _ _⟩, rfl, q _ _ (I5.hok.fresh (Nat.le_refl _)) rfl⟩
end
end Ph

/-! PhEqO: x == y and x != y of two instances of one class that says nothing of == itself. -/
namespace HN
open PySem PySem.Spec PyProof.Rows PySem.SeqAt
section
variable {M : Model} {prog : Program} {w : World} {A : Around} {E : Value → Shared → Prop} {s : Shared} {K : PySem.W.Frag} {x y C : Addr} {ox oy : Obj} {od oe : Option Obj}
theorem inst_noTuple (I : PySem.W.InstAt s.heap x ox C od) : ox.cls ≠ .type "tuple" := by
  rw [I.cls]
  intro e
  cases e
theorem call_objEqS {Q : Value → Shared → Prop} (X : K.In s.heap) (I : PySem.W.InstAt s.heap x ox C od) (hm : PySem.W.mroIn K C (.type "object") = some true) (hq : Q (.bool true) s) :
    wpAny (model prog w) A (call (.builtin "object.__eq__") [.ref x, .ref x]) Q E s :=
  wpAny_call (codeAny_call_builtin F.cmp_object.eq.plain F.cmpEntry_eq (PySem.W.check_slot F.cmpKind_eq F.cmpSplit_eq (I.type.andThen (PySem.W.looks_mroIn X hm)) (F.cmpArgs_eq _ _) (objEq_entry_same hq)))
theorem call_objEqO {Q : Value → Shared → Prop} (X : K.In s.heap) (I : PySem.W.InstAt s.heap x ox C od) (J : PySem.W.InstAt s.heap y oy C oe) (hxy : x ≠ y) (hm : PySem.W.mroIn K C (.type "object") = some true) (hq : Q .notImplemented s) :
    wpAny (model prog w) A (call (.builtin "object.__eq__") [.ref x, .ref y]) Q E s :=
  wpAny_call (codeAny_call_builtin F.cmp_object.eq.plain F.cmpEntry_eq (PySem.W.check_slot F.cmpKind_eq F.cmpSplit_eq (I.type.andThen (PySem.W.looks_mroIn X hm)) (F.cmpArgs_eq _ _) (objEq_entry_other hxy I.at_ J.at_ (inst_noTuple I) hq)))
theorem rc_instS (hu : A.units < cLine) (X : K.In s.heap) (I : PySem.W.InstAt s.heap x ox C od) (hm : PySem.W.mroIn K C (.type "object") = some true) (hs : PySem.W.findIn K (.ref C) "__eq__" = some (some (.builtin "object.__eq__"))) :
    RcAt A s (.ref x) (.ref x) true := fun prog w E Q h => by
  have one : wpAny (model prog w) A (tryCompare (.ref x) "__eq__" (.ref x)) (fun r s' => r = some (.bool true) ∧ s' = s) E s := by
    unfold tryCompare
    exact wpAny_bind (ifBound_objEq X I hs (call_objEqS X I hm (wpAny_pure ⟨rfl, rfl⟩)))
  simp only [richCompare, cmpInfo_Eq, oneThing_ref]
  refine wpAny_holding (wpAny_bind (wpAny_cRoomFor hu ?_))
  refine wpAny_bind (I.type.here ?_)
  refine wpAny_bind (I.type.here ?_)
  simp only [bne_self_eq_false, Bool.false_eq_true, if_false]
  refine wpAny_bind (wpAny_pure ?_)
  simp only [Bool.false_eq_true, if_false]
  refine wpAny_bind (m := tryCompare (.ref x) _ (.ref x)) (wpAny_mono one (fun r s1 z => ?_) fun _ _ e => e)
  obtain ⟨z1, z2⟩ := z
  subst z1
  subst z2
  exact wpAny_pure h
theorem rc_instO (hu : A.units < cLine) (X : K.In s.heap) (I : PySem.W.InstAt s.heap x ox C od) (J : PySem.W.InstAt s.heap y oy C oe) (hxy : x ≠ y) (hm : PySem.W.mroIn K C (.type "object") = some true) (hs : PySem.W.findIn K (.ref C) "__eq__" = some (some (.builtin "object.__eq__"))) :
    RcAt A s (.ref x) (.ref y) false := fun prog w E Q h => by
  have one : wpAny (model prog w) A (tryCompare (.ref x) "__eq__" (.ref y)) (fun r s' => r = none ∧ s' = s) E s := by
    unfold tryCompare
    exact wpAny_bind (ifBound_objEq X I hs (call_objEqO X I J hxy hm (wpAny_pure ⟨rfl, rfl⟩)))
  have two : wpAny (model prog w) A (tryCompare (.ref y) "__eq__" (.ref x)) (fun r s' => r = none ∧ s' = s) E s := by
    unfold tryCompare
    exact wpAny_bind (ifBound_objEq X J hs (call_objEqO X J I hxy.symm hm (wpAny_pure ⟨rfl, rfl⟩)))
  simp only [richCompare, cmpInfo_Eq, oneThing_ref]
  refine wpAny_holding (wpAny_bind (wpAny_cRoomFor hu ?_))
  refine wpAny_bind (I.type.here ?_)
  refine wpAny_bind (J.type.here ?_)
  simp only [bne_self_eq_false, Bool.false_eq_true, if_false]
  refine wpAny_bind (wpAny_pure ?_)
  simp only [Bool.false_eq_true, if_false, Bool.not_false, if_true]
  refine wpAny_bind (m := tryCompare (.ref x) _ (.ref y)) (wpAny_mono one (fun r s1 z => ?_) fun _ _ e => e)
  obtain ⟨z1, z2⟩ := z
  subst z1
  subst z2
  refine wpAny_bind (m := tryCompare (.ref y) _ (.ref x)) (wpAny_mono two (fun r s2 z => ?_) fun _ _ e => e)
  obtain ⟨z1, z2⟩ := z
  subst z1
  subst z2
  exact wpAny_bind (wpAny_rule (wpAny_bind (wpAny_isSame_ref_other hxy I.at_ J.at_ (inst_noTuple I) (wpAny_pure h))))
theorem ifBound_objNe {args : List Value} {Q : Option Value → Shared → Prop} (X : K.In s.heap) (I : PySem.W.InstAt s.heap x ox C od) (hs : PySem.W.findIn K (.ref C) "__ne__" = some (some (.builtin "object.__ne__")))
    (h : wpAny M A (call (.builtin "object.__ne__") (.ref x :: args)) (fun v => Q (some v)) E s) : wpAny M A (callSpecialIfBound? (.ref x) "__ne__" args) Q E s := by
  simp only [callSpecialIfBound?, bindSpecialIfBound?]
  refine wpAny_holding (wpAny_bind (wpAny_bind (wpAny_bind (I.type.here ((PySem.W.looks_findIn X hs).here ?_)))))
  refine wpAny_bind (wpAny_askSetting (wpAny_ite ?_))
  have fin : wpAny M A (call (.builtin "object.__ne__") ([.ref x] ++ args) >>= fun v => pure (some v)) Q E s := wpAny_bind (wpAny_mono h (fun v s' h' => wpAny_pure h') fun _ _ h' => h')
  split
  · exact wpAny_bind (wpAny_of_eq (F.cmp_object.ne.bind _) (wpAny_pure (by exact fin)))
  · exact wpAny_tryCatch (wpAny_bind (wpAny_of_eq (F.cmp_object.ne.bind _) (wpAny_pure (by exact fin))))
theorem objNe_entryO (hu : A.units < cLine) (X : K.In s.heap) (I : PySem.W.InstAt s.heap x ox C od) (J : PySem.W.InstAt s.heap y oy C oe) (hxy : x ≠ y) (hm : PySem.W.mroIn K C (.type "object") = some true) (hs : PySem.W.findIn K (.ref C) "__eq__" = some (some (.builtin "object.__eq__")))
    {Q : Fin → Shared → Prop} (hq : Q (.done (.ret .notImplemented)) s) : wpAny (model prog w) A (Builtin.«object.__ne__» ⟨[.ref x, .ref y], []⟩) Q E s := by
  unfold Builtin.«object.__ne__»
  repeat (first | with_reducible refine wpAny_cRoomFor hu ?_ | with_reducible refine ifBound_objEq X I hs (call_objEqO X I J hxy hm ?_) | wp_step)
  exact hq
theorem call_objNeO (hu : A.units + 1 < cLine) {Q : Value → Shared → Prop} (X : K.In s.heap) (I : PySem.W.InstAt s.heap x ox C od) (J : PySem.W.InstAt s.heap y oy C oe) (hxy : x ≠ y) (hm : PySem.W.mroIn K C (.type "object") = some true) (hs : PySem.W.findIn K (.ref C) "__eq__" = some (some (.builtin "object.__eq__"))) (hq : Q .notImplemented s) :
    wpAny (model prog w) A (call (.builtin "object.__ne__") [.ref x, .ref y]) Q E s :=
  wpAny_call (codeAny_call_builtin F.cmp_object.ne.plain F.cmpEntry_ne (PySem.W.check_slot F.cmpKind_ne F.cmpSplit_ne (I.type.andThen (PySem.W.looks_mroIn X hm)) (F.cmpArgs_ne _ _) (objNe_entryO (A := A.in1) hu X I J hxy hm hs hq)))
theorem ne_instO (hu : A.units + 1 < cLine) (X : K.In s.heap) (I : PySem.W.InstAt s.heap x ox C od) (J : PySem.W.InstAt s.heap y oy C oe) (hxy : x ≠ y) (hm : PySem.W.mroIn K C (.type "object") = some true) (hs : PySem.W.findIn K (.ref C) "__eq__" = some (some (.builtin "object.__eq__"))) (hn : PySem.W.findIn K (.ref C) "__ne__" = some (some (.builtin "object.__ne__")))
    {Q : Value → Shared → Prop} (h : Q (.bool true) s) : wpAny (model prog w) A (richCompare .NotEq (.ref x) (.ref y)) Q E s := by
  have hu0 : A.units < cLine := Nat.lt_of_succ_lt hu
  have one : wpAny (model prog w) A (tryCompare (.ref x) "__ne__" (.ref y)) (fun r s' => r = none ∧ s' = s) E s := by
    unfold tryCompare
    exact wpAny_bind (ifBound_objNe X I hn (call_objNeO hu X I J hxy hm hs (wpAny_pure ⟨rfl, rfl⟩)))
  have two : wpAny (model prog w) A (tryCompare (.ref y) "__ne__" (.ref x)) (fun r s' => r = none ∧ s' = s) E s := by
    unfold tryCompare
    exact wpAny_bind (ifBound_objNe X J hn (call_objNeO hu X J I hxy.symm hm hs (wpAny_pure ⟨rfl, rfl⟩)))
  simp only [richCompare, cmpInfo_NotEq, oneThing_ref]
  refine wpAny_holding (wpAny_bind (wpAny_cRoomFor hu0 ?_))
  refine wpAny_bind (I.type.here ?_)
  refine wpAny_bind (J.type.here ?_)
  simp only [bne_self_eq_false, Bool.false_eq_true, if_false]
  refine wpAny_bind (wpAny_pure ?_)
  simp only [Bool.false_eq_true, if_false, Bool.not_false, if_true]
  refine wpAny_bind (m := tryCompare (.ref x) _ (.ref y)) (wpAny_mono one (fun r s1 z => ?_) fun _ _ e => e)
  obtain ⟨z1, z2⟩ := z
  subst z1
  subst z2
  refine wpAny_bind (m := tryCompare (.ref y) _ (.ref x)) (wpAny_mono two (fun r s2 z => ?_) fun _ _ e => e)
  obtain ⟨z1, z2⟩ := z
  subst z1
  subst z2
  exact wpAny_bind (wpAny_rule (wpAny_bind (wpAny_isSame_ref_other hxy I.at_ J.at_ (inst_noTuple I) (wpAny_pure h))))
end
end HN
namespace Ph
open PySem PySem.Spec PyProof.Rows L2
/-- a class that says nothing of == itself -/
structure EqC (K : PySem.W.Frag) (C : Addr) : Prop where
  mro : PySem.W.mroIn K C (.type "object") = some true
  eq : PySem.W.findIn K (.ref C) "__eq__" = some (some (.builtin "object.__eq__"))
  ne : PySem.W.findIn K (.ref C) "__ne__" = some (some (.builtin "object.__ne__"))
section
variable {X : Cx}
def rEqO (K : PySem.W.Frag) : R2 := fun x y H Q => ∃ a b C dx dy fs gs, x = .ref a ∧ y = .ref b ∧ H a = some (.ins C dx fs) ∧ H b = some (.ins C dy gs) ∧ EqC K C ∧ Q (.bl (decide (a = b))) H
theorem op_eqO (hu : X.A.units < cLine) : OpR X (compareOp .Eq) (rEqO X.K) := by
  intro pins s σ H x y v u Q I rx ry h
  obtain ⟨a, b, C, dx, dy, fs, gs, rfl, rfl, ha, hb, ec, q⟩ := h
  cases rx
  cases ry
  obtain ⟨mA, O, _⟩ := ins_get I.hok ha
  obtain ⟨od, J, _⟩ := O.look
  obtain ⟨mB, O2, _⟩ := ins_get I.hok hb
  obtain ⟨oe, J2, _⟩ := O2.look
  by_cases e : a = b
  · subst e
    rw [decide_eq_true rfl] at q
    exact HN.rc_instS hu I.kIn J ec.mro ec.eq _ _ _ _ ⟨.bl true, H, I, rfl, q⟩
  · rw [decide_eq_false e] at q
    exact HN.rc_instO hu I.kIn J J2 e ec.mro ec.eq _ _ _ _ ⟨.bl false, H, I, rfl, q⟩
def rNeO (K : PySem.W.Frag) : R2 := fun x y H Q => ∃ a b C dx dy fs gs, x = .ref a ∧ y = .ref b ∧ H a = some (.ins C dx fs) ∧ H b = some (.ins C dy gs) ∧ EqC K C ∧ a ≠ b ∧ Q (.bl true) H
theorem op_neO (hu : X.A.units + 1 < cLine) : OpR X (compareOp .NotEq) (rNeO X.K) := by
  intro pins s σ H x y v u Q I rx ry h
  obtain ⟨a, b, C, dx, dy, fs, gs, rfl, rfl, ha, hb, ec, e, q⟩ := h
  cases rx
  cases ry
  obtain ⟨mA, O, _⟩ := ins_get I.hok ha
  obtain ⟨od, J, _⟩ := O.look
  obtain ⟨mB, O2, _⟩ := ins_get I.hok hb
  obtain ⟨oe, J2, _⟩ := O2.look
  exact HN.ne_instO hu I.kIn J J2 e ec.mro ec.eq ec.ne ⟨.bl true, H, I, rfl, q⟩
end
end Ph

set_option maxHeartbeats 8000000
namespace Ph
open PySem PySem.Spec PyProof.Rows L2
def topS (i : Nat) : Stmt := PySem.Challenge.pw_pinnedheap_k70_texts_written_and_read.main.body.getD i (.Pass ⟨0, 0, 0, 0⟩)
structure Fns (K : PySem.W.Frag) (mg : Str → Option Value) where
  N : Nm6 K mg
  nve : mg "ValueError" = none
  CHeapError : Addr
  gcHeapError : mg "HeapError" = some (.ref CHeapError)
  CBadText : Addr
  gcBadText : mg "BadText" = some (.ref CBadText)
  oxBadText : OexC K CBadText
  ecBadText : ExcC K CBadText
  xfBadText : XfC K CBadText
  nfBadText_row : PySem.W.findIn K (.ref CBadText) "row" = some none
  isBadText_HeapError : PySem.W.kitOne K (.ref CBadText) (.ref CHeapError) = some true
  isBadText_BadText : PySem.W.kitOne K (.ref CBadText) (.ref CBadText) = some true
  isBadText_ValueError : PySem.W.kitOne K (.ref CBadText) (.type "ValueError") = some true
  exBadText : PySem.W.exmOne K (.ref CBadText) (.ref CHeapError) = some true
  exBadText_BadText : PySem.W.exmOne K (.ref CBadText) (.ref CBadText) = some true
  k_MOST_SIZES : ∃ t : Tok, mg "MOST_SIZES" = some (.int 12 t)
  k_LARGEST_SIZE : ∃ t : Tok, mg "LARGEST_SIZE" = some (.int 1000000000 t)
  k_DIGITS : ∃ t : Tok, mg "DIGITS" = some (.str "0123456789" t)
  k_MOST_DIGITS : ∃ t : Tok, mg "MOST_DIGITS" = some (.int 20 t)
  fHc : Addr
  fdHc : FuncData
  FHc : Fun K "show_chain" "show_chain" (topS 1) fHc fdHc
  bHc : Binds K fdHc ["chain"] []
  gHc : mg "show_chain" = some (.ref fHc)
  fHs : Addr
  fdHs : FuncData
  FHs : Fun K "show_state" "show_state" (topS 2) fHs fdHs
  bHs : Binds K fdHs ["state"] []
  gHs : mg "show_state" = some (.ref fHs)
  fHh : Addr
  fdHh : FuncData
  FHh : Fun K "show_history" "show_history" (topS 3) fHh fdHh
  bHh : Binds K fdHh ["history"] []
  gHh : mg "show_history" = some (.ref fHh)
  fHe : Addr
  fdHe : FuncData
  FHe : Fun K "show_event" "show_event" (topS 4) fHe fdHe
  bHe : Binds K fdHe ["event"] []
  gHe : mg "show_event" = some (.ref fHe)
  fBx : Addr
  fdBx : FuncData
  FBx : Fun K "__init__" "BadText.__init__" (inClass (topS 7) 0) fBx fdBx
  bBx : Binds K fdBx ["self", "row"] []
  iBx : PySem.W.findIn K (.ref CBadText) "__init__" = some (some (.ref fBx))
  tBx : PySem.W.typeIn K (.ref fBx) = some (.type "function")
  fI : Addr
  fdI : FuncData
  FI : Fun K "is_integer" "is_integer" (topS 9) fI fdI
  bI : Binds K fdI ["value"] []
  gI : mg "is_integer" = some (.ref fI)
  fCi : Addr
  fdCi : FuncData
  FCi : Fun K "is_chain" "is_chain" (topS 13) fCi fdCi
  bCi : Binds K fdCi ["value"] []
  gCi : mg "is_chain" = some (.ref fCi)
  fMf : Addr
  fdMf : FuncData
  FMf : Fun K "may_follow" "may_follow" (topS 14) fMf fdMf
  bMf : Binds K fdMf ["larger", "size"] []
  gMf : mg "may_follow" = some (.ref fMf)
  fZ : Addr
  fdZ : FuncData
  FZ : Fun K "is_size" "is_size" (topS 15) fZ fdZ
  bZ : Binds K fdZ ["chain", "value"] []
  gZ : mg "is_size" = some (.ref fZ)
  fIs : Addr
  fdIs : FuncData
  FIs : Fun K "is_state" "is_state" (topS 17) fIs fdIs
  bIs : Binds K fdIs ["chain", "pages", "value"] []
  gIs : mg "is_state" = some (.ref fIs)
  fIb : Addr
  fdIb : FuncData
  FIb : Fun K "is_block" "is_block" (topS 18) fIb fdIb
  bIb : Binds K fdIb ["chain", "value"] []
  gIb : mg "is_block" = some (.ref fIb)
  fRc : Addr
  fdRc : FuncData
  FRc : Fun K "read_chain" "read_chain" (topS 22) fRc fdRc
  bRc : Binds K fdRc ["text"] []
  gRc : mg "read_chain" = some (.ref fRc)
  fRs : Addr
  fdRs : FuncData
  FRs : Fun K "read_state" "read_state" (topS 23) fRs fdRs
  bRs : Binds K fdRs ["chain", "pages", "text"] []
  gRs : mg "read_state" = some (.ref fRs)
  fRh : Addr
  fdRh : FuncData
  FRh : Fun K "read_history" "read_history" (topS 24) fRh fdRh
  bRh : Binds K fdRh ["chain", "text"] []
  gRh : mg "read_history" = some (.ref fRh)
  fCr : Addr
  fdCr : FuncData
  FCr : Fun K "check_row" "check_row" (topS 25) fCr fdCr
  bCr : Binds K fdCr ["row", "right"] []
  gCr : mg "check_row" = some (.ref fCr)
  fLi : Addr
  fdLi : FuncData
  FLi : Fun K "lines_of" "lines_of" (topS 26) fLi fdLi
  bLi : Binds K fdLi ["text"] []
  gLi : mg "lines_of" = some (.ref fLi)
  fNi : Addr
  fdNi : FuncData
  FNi : Fun K "number_in" "number_in" (topS 27) fNi fdNi
  bNi : Binds K fdNi ["text"] []
  gNi : mg "number_in" = some (.ref fNi)
  fNs : Addr
  fdNs : FuncData
  FNs : Fun K "numbers_in" "numbers_in" (topS 28) fNs fdNs
  bNs : Binds K fdNs ["text", "sign"] []
  gNs : mg "numbers_in" = some (.ref fNs)
  fCn : Addr
  fdCn : FuncData
  FCn : Fun K "chain_in" "chain_in" (topS 29) fCn fdCn
  bCn : Binds K fdCn ["line"] []
  gCn : mg "chain_in" = some (.ref fCn)
  fSi : Addr
  fdSi : FuncData
  FSi : Fun K "state_in" "state_in" (topS 30) fSi fdSi
  bSi : Binds K fdSi ["line"] []
  gSi : mg "state_in" = some (.ref fSi)
  fEi : Addr
  fdEi : FuncData
  FEi : Fun K "event_in" "event_in" (topS 31) fEi fdEi
  bEi : Binds K fdEi ["chain", "line"] []
  gEi : mg "event_in" = some (.ref fEi)
  fDw : Addr
  fdDw : FuncData
  FDw : Fun K "_law_pot" "_law_pot" (topS 33) fDw fdDw
  bDw : Binds K fdDw ["_law_script", "_law_index"] []
  gDw : mg "_law_pot" = some (.ref fDw)
  fNx : Addr
  fdNx : FuncData
  FNx : Fun K "_law_draw" "_law_draw" (topS 34) fNx fdNx
  bNx : Binds K fdNx ["_law_pot_here", "_law_count"] []
  gNx : mg "_law_draw" = some (.ref fNx)
  fPk : Addr
  fdPk : FuncData
  FPk : Fun K "_law_pick" "_law_pick" (topS 35) fPk fdPk
  bPk : Binds K fdPk ["_law_pot_here", "_law_some"] []
  gPk : mg "_law_pick" = some (.ref fPk)
  fSc : Addr
  fdSc : FuncData
  FSc : Fun K "_law_small_chain" "_law_small_chain" (topS 36) fSc fdSc
  bSc : Binds K fdSc ["_law_pot_here"] []
  gSc : mg "_law_small_chain" = some (.ref fSc)
  fWo : Addr
  fdWo : FuncData
  FWo : Fun K "_law_words_of" "_law_words_of" (topS 37) fWo fdWo
  bWo : Binds K fdWo ["_law_blocks"] []
  gWo : mg "_law_words_of" = some (.ref fWo)
  fLp : Addr
  fdLp : FuncData
  FLp : Fun K "_law_places" "_law_places" (topS 38) fLp fdLp
  bLp : Binds K fdLp ["_law_sizes", "_law_heap_pages", "_law_blocks", "_law_many"] []
  gLp : mg "_law_places" = some (.ref fLp)
  fDs : Addr
  fdDs : FuncData
  FDs : Fun K "_law_drawn_state" "_law_drawn_state" (topS 39) fDs fdDs
  bDs : Binds K fdDs ["_law_pot_here", "_law_sizes", "_law_heap_pages", "_law_most"] []
  gDs : mg "_law_drawn_state" = some (.ref fDs)
  fRo : Addr
  fdRo : FuncData
  FRo : Fun K "_law_row_of" "_law_row_of" (topS 40) fRo fdRo
  bRo : Binds K fdRo ["_law_blocks"] []
  gRo : mg "_law_row_of" = some (.ref fRo)
  fLo : Addr
  fdLo : FuncData
  FLo : Fun K "_law_line_of" "_law_line_of" (topS 41) fLo fdLo
  bLo : Binds K fdLo ["_law_deed"] []
  gLo : mg "_law_line_of" = some (.ref fLo)
  fMb : Addr
  fdMb : FuncData
  FMb : Fun K "_law_many_blocks" "_law_many_blocks" (topS 42) fMb fdMb
  bMb : Binds K fdMb ["_law_pot_here"] []
  gMb : mg "_law_many_blocks" = some (.ref fMb)
  fGc : Addr
  fdGc : FuncData
  FGc : Fun K "_law_great_chain" "_law_great_chain" (topS 43) fGc fdGc
  bGc : Binds K fdGc ["_law_pot_here"] []
  gGc : mg "_law_great_chain" = some (.ref fGc)
  fEg : Addr
  fdEg : FuncData
  FEg : Fun K "_law_events" "_law_events" (topS 44) fEg fdEg
  bEg : Binds K fdEg ["_law_pot_here", "_law_sizes"] []
  gEg : mg "_law_events" = some (.ref fEg)
  fLr : Addr
  fdLr : FuncData
  FLr : Fun K "_law_long_right" "_law_long_right" (topS 45) fLr fdLr
  bLr : Binds K fdLr ["_law_pot_here"] []
  gLr : mg "_law_long_right" = some (.ref fLr)
  fLaw : Addr
  fdLaw : FuncData
  FLaw : Fun K "law" "law" (topS 46) fLaw fdLaw
  bLaw : Binds K fdLaw ["_law_script"] []
  gLaw : mg "law" = some (.ref fLaw)
abbrev sHc : Stmt := (topS 1)
abbrev scHcS : Stmt := sHc
abbrev scHcN : List Str := ["chain", "size"]
theorem scHc : FnScope ["chain", "size"] ["chain"] (defScope sHc) := ⟨rfl, rfl, rfl, by decide +kernel, rfl, by decide +kernel, by decide +kernel⟩
abbrev sHs : Stmt := (topS 2)
abbrev scHsS : Stmt := sHs
abbrev scHsN : List Str := ["state", "address", "size"]
theorem scHs : FnScope ["state", "address", "size"] ["state"] (defScope sHs) := ⟨rfl, rfl, rfl, by decide +kernel, rfl, by decide +kernel, by decide +kernel⟩
abbrev sHh : Stmt := (topS 3)
abbrev scHhS : Stmt := sHh
abbrev scHhN : List Str := ["history", "event"]
theorem scHh : FnScope ["history", "event"] ["history"] (defScope sHh) := ⟨rfl, rfl, rfl, by decide +kernel, rfl, by decide +kernel, by decide +kernel⟩
abbrev sHe : Stmt := (topS 4)
abbrev scHeS : Stmt := sHe
abbrev scHeN : List Str := ["event", "word", "size", "address"]
theorem scHe : FnScope ["event", "word", "size", "address"] ["event"] (defScope sHe) := ⟨rfl, rfl, rfl, by decide +kernel, rfl, by decide +kernel, by decide +kernel⟩
abbrev sBx : Stmt := (inClass (topS 7) 0)
abbrev scBxS : Stmt := sBx
abbrev scBxN : List Str := ["self", "row"]
theorem scBx : FnScope ["self", "row"] ["self", "row"] (defScope sBx) := ⟨rfl, rfl, rfl, by decide +kernel, rfl, by decide +kernel, by decide +kernel⟩
abbrev sI : Stmt := (topS 9)
abbrev scIS : Stmt := sI
abbrev scIN : List Str := ["value"]
theorem scI : FnScope ["value"] ["value"] (defScope sI) := ⟨rfl, rfl, rfl, by decide +kernel, rfl, by decide +kernel, by decide +kernel⟩
abbrev sCi : Stmt := (topS 13)
abbrev scCiS : Stmt := sCi
abbrev scCiN : List Str := ["value", "size", "larger"]
theorem scCi : FnScope ["value", "size", "larger"] ["value"] (defScope sCi) := ⟨rfl, rfl, rfl, by decide +kernel, rfl, by decide +kernel, by decide +kernel⟩
abbrev sMf : Stmt := (topS 14)
abbrev scMfS : Stmt := sMf
abbrev scMfN : List Str := ["larger", "size"]
theorem scMf : FnScope ["larger", "size"] ["larger", "size"] (defScope sMf) := ⟨rfl, rfl, rfl, by decide +kernel, rfl, by decide +kernel, by decide +kernel⟩
abbrev sZ : Stmt := (topS 15)
abbrev scZS : Stmt := sZ
abbrev scZN : List Str := ["chain", "value"]
theorem scZ : FnScope ["chain", "value"] ["chain", "value"] (defScope sZ) := ⟨rfl, rfl, rfl, by decide +kernel, rfl, by decide +kernel, by decide +kernel⟩
abbrev sIs : Stmt := (topS 17)
abbrev scIsS : Stmt := sIs
abbrev scIsN : List Str := ["chain", "pages", "value", "end", "address", "size", "item"]
theorem scIs : FnScope ["chain", "pages", "value", "end", "address", "size", "item"] ["chain", "pages", "value"] (defScope sIs) := ⟨rfl, rfl, rfl, by decide +kernel, rfl, by decide +kernel, by decide +kernel⟩
abbrev sIb : Stmt := (topS 18)
abbrev scIbS : Stmt := sIb
abbrev scIbN : List Str := ["chain", "value", "address", "size"]
theorem scIb : FnScope ["chain", "value", "address", "size"] ["chain", "value"] (defScope sIb) := ⟨rfl, rfl, rfl, by decide +kernel, rfl, by decide +kernel, by decide +kernel⟩
abbrev sRc : Stmt := (topS 22)
abbrev scRcS : Stmt := sRc
abbrev scRcN : List Str := ["text", "lines", "chain"]
theorem scRc : FnScope ["text", "lines", "chain"] ["text"] (defScope sRc) := ⟨rfl, rfl, rfl, by decide +kernel, rfl, by decide +kernel, by decide +kernel⟩
abbrev sRs : Stmt := (topS 23)
abbrev scRsS : Stmt := sRs
abbrev scRsN : List Str := ["chain", "pages", "text", "lines", "state"]
theorem scRs : FnScope ["chain", "pages", "text", "lines", "state"] ["chain", "pages", "text"] (defScope sRs) := ⟨rfl, rfl, rfl, by decide +kernel, rfl, by decide +kernel, by decide +kernel⟩
abbrev sRh : Stmt := (topS 24)
abbrev scRhS : Stmt := sRh
abbrev scRhN : List Str := ["chain", "text", "lines", "events", "row", "line", "event"]
theorem scRh : FnScope ["chain", "text", "lines", "events", "row", "line", "event"] ["chain", "text"] (defScope sRh) := ⟨rfl, rfl, rfl, by decide +kernel, rfl, by decide +kernel, by decide +kernel⟩
abbrev sCr : Stmt := (topS 25)
abbrev scCrS : Stmt := sCr
abbrev scCrN : List Str := ["row", "right"]
theorem scCr : FnScope ["row", "right"] ["row", "right"] (defScope sCr) := ⟨rfl, rfl, rfl, by decide +kernel, rfl, by decide +kernel, by decide +kernel⟩
abbrev sLi : Stmt := (topS 26)
abbrev scLiS : Stmt := sLi
abbrev scLiN : List Str := ["text"]
theorem scLi : FnScope ["text"] ["text"] (defScope sLi) := ⟨rfl, rfl, rfl, by decide +kernel, rfl, by decide +kernel, by decide +kernel⟩
abbrev sNi : Stmt := (topS 27)
abbrev scNiS : Stmt := sNi
abbrev scNiN : List Str := ["text", "sign"]
theorem scNi : FnScope ["text", "sign"] ["text"] (defScope sNi) := ⟨rfl, rfl, rfl, by decide +kernel, rfl, by decide +kernel, by decide +kernel⟩
abbrev sNs : Stmt := (topS 28)
abbrev scNsS : Stmt := sNs
abbrev scNsN : List Str := ["text", "sign", "part"]
theorem scNs : FnScope ["text", "sign", "part"] ["text", "sign"] (defScope sNs) := ⟨rfl, rfl, rfl, by decide +kernel, rfl, by decide +kernel, by decide +kernel⟩
abbrev sCn : Stmt := (topS 29)
abbrev scCnS : Stmt := sCn
abbrev scCnN : List Str := ["line", "chain"]
theorem scCn : FnScope ["line", "chain"] ["line"] (defScope sCn) := ⟨rfl, rfl, rfl, by decide +kernel, rfl, by decide +kernel, by decide +kernel⟩
abbrev sSi : Stmt := (topS 30)
abbrev scSiS : Stmt := sSi
abbrev scSiN : List Str := ["line", "part"]
theorem scSi : FnScope ["line", "part"] ["line"] (defScope sSi) := ⟨rfl, rfl, rfl, by decide +kernel, rfl, by decide +kernel, by decide +kernel⟩
abbrev sEi : Stmt := (topS 31)
abbrev scEiS : Stmt := sEi
abbrev scEiN : List Str := ["chain", "line", "words", "address", "size"]
theorem scEi : FnScope ["chain", "line", "words", "address", "size"] ["chain", "line"] (defScope sEi) := ⟨rfl, rfl, rfl, by decide +kernel, rfl, by decide +kernel, by decide +kernel⟩
abbrev sDw : Stmt := (topS 33)
abbrev scDwS : Stmt := sDw
abbrev scDwN : List Str := ["_law_script", "_law_index", "_law_cell", "_law_own"]
theorem scDw : FnScope ["_law_script", "_law_index", "_law_cell", "_law_own"] ["_law_script", "_law_index"] (defScope sDw) := ⟨rfl, rfl, rfl, by decide +kernel, rfl, by decide +kernel, by decide +kernel⟩
abbrev sNx : Stmt := (topS 34)
abbrev scNxS : Stmt := sNx
abbrev scNxN : List Str := ["_law_pot_here", "_law_count", "_law_digit", "_law_mixed"]
theorem scNx : FnScope ["_law_pot_here", "_law_count", "_law_digit", "_law_mixed"] ["_law_pot_here", "_law_count"] (defScope sNx) := ⟨rfl, rfl, rfl, by decide +kernel, rfl, by decide +kernel, by decide +kernel⟩
abbrev sPk : Stmt := (topS 35)
abbrev scPkS : Stmt := sPk
abbrev scPkN : List Str := ["_law_pot_here", "_law_some"]
theorem scPk : FnScope ["_law_pot_here", "_law_some"] ["_law_pot_here", "_law_some"] (defScope sPk) := ⟨rfl, rfl, rfl, by decide +kernel, rfl, by decide +kernel, by decide +kernel⟩
abbrev sSc : Stmt := (topS 36)
abbrev scScS : Stmt := sSc
abbrev scScN : List Str := ["_law_pot_here"]
theorem scSc : FnScope ["_law_pot_here"] ["_law_pot_here"] (defScope sSc) := ⟨rfl, rfl, rfl, by decide +kernel, rfl, by decide +kernel, by decide +kernel⟩
abbrev sWo : Stmt := (topS 37)
abbrev scWoS : Stmt := sWo
abbrev scWoN : List Str := ["_law_blocks", "_law_found", "_law_begin", "_law_many", "_law_word"]
theorem scWo : FnScope ["_law_blocks", "_law_found", "_law_begin", "_law_many", "_law_word"] ["_law_blocks"] (defScope sWo) := ⟨rfl, rfl, rfl, by decide +kernel, rfl, by decide +kernel, by decide +kernel⟩
abbrev sLp : Stmt := (topS 38)
abbrev scLpS : Stmt := sLp
abbrev scLpN : List Str := ["_law_sizes", "_law_heap_pages", "_law_blocks", "_law_many", "_law_taken", "_law_found", "_law_begin", "_law_word"]
theorem scLp : FnScope ["_law_sizes", "_law_heap_pages", "_law_blocks", "_law_many", "_law_taken", "_law_found", "_law_begin", "_law_word"] ["_law_sizes", "_law_heap_pages", "_law_blocks", "_law_many"] (defScope sLp) := ⟨rfl, rfl, rfl, by decide +kernel, rfl, by decide +kernel, by decide +kernel⟩
abbrev sDs : Stmt := (topS 39)
abbrev scDsS : Stmt := sDs
abbrev scDsN : List Str := ["_law_pot_here", "_law_sizes", "_law_heap_pages", "_law_most", "_law_blocks", "_law_turn", "_law_many", "_law_fitting"]
theorem scDs : FnScope ["_law_pot_here", "_law_sizes", "_law_heap_pages", "_law_most", "_law_blocks", "_law_turn", "_law_many", "_law_fitting"] ["_law_pot_here", "_law_sizes", "_law_heap_pages", "_law_most"] (defScope sDs) := ⟨rfl, rfl, rfl, by decide +kernel, rfl, by decide +kernel, by decide +kernel⟩
abbrev sRo : Stmt := (topS 40)
abbrev scRoS : Stmt := sRo
abbrev scRoN : List Str := ["_law_blocks", "_law_begin", "_law_many"]
theorem scRo : FnScope ["_law_blocks", "_law_begin", "_law_many"] ["_law_blocks"] (defScope sRo) := ⟨rfl, rfl, rfl, by decide +kernel, rfl, by decide +kernel, by decide +kernel⟩
abbrev sLo : Stmt := (topS 41)
abbrev scLoS : Stmt := sLo
abbrev scLoN : List Str := ["_law_deed"]
theorem scLo : FnScope ["_law_deed"] ["_law_deed"] (defScope sLo) := ⟨rfl, rfl, rfl, by decide +kernel, rfl, by decide +kernel, by decide +kernel⟩
abbrev sMb : Stmt := (topS 42)
abbrev scMbS : Stmt := sMb
abbrev scMbN : List Str := ["_law_pot_here", "_law_found", "_law_some", "_law_begin", "_law_at", "_law_many"]
theorem scMb : FnScope ["_law_pot_here", "_law_found", "_law_some", "_law_begin", "_law_at", "_law_many"] ["_law_pot_here"] (defScope sMb) := ⟨rfl, rfl, rfl, by decide +kernel, rfl, by decide +kernel, by decide +kernel⟩
abbrev sGc : Stmt := (topS 43)
abbrev scGcS : Stmt := sGc
abbrev scGcN : List Str := ["_law_pot_here", "_law_sizes", "_law_turn", "_law_ratio"]
theorem scGc : FnScope ["_law_pot_here", "_law_sizes", "_law_turn", "_law_ratio"] ["_law_pot_here"] (defScope sGc) := ⟨rfl, rfl, rfl, by decide +kernel, rfl, by decide +kernel, by decide +kernel⟩
abbrev sEg : Stmt := (topS 44)
abbrev scEgS : Stmt := sEg
abbrev scEgN : List Str := ["_law_pot_here", "_law_sizes", "_law_found", "_law_turn", "_law_many", "_law_begin"]
theorem scEg : FnScope ["_law_pot_here", "_law_sizes", "_law_found", "_law_turn", "_law_many", "_law_begin"] ["_law_pot_here", "_law_sizes"] (defScope sEg) := ⟨rfl, rfl, rfl, by decide +kernel, rfl, by decide +kernel, by decide +kernel⟩
abbrev sLr : Stmt := (topS 45)
abbrev scLrS : Stmt := sLr
abbrev scLrN : List Str := ["_law_pot_here", "_law_found", "_law_turn", "_law_begin", "_law_some", "_law_written", "_law_deed"]
theorem scLr : FnScope ["_law_pot_here", "_law_found", "_law_turn", "_law_begin", "_law_some", "_law_written", "_law_deed"] ["_law_pot_here"] (defScope sLr) := ⟨rfl, rfl, rfl, by decide +kernel, rfl, by decide +kernel, by decide +kernel⟩
abbrev sLaw : Stmt := (topS 46)
abbrev scLawS : Stmt := sLaw
abbrev scLawN : List Str := ["_law_script", "_law_pot_here", "_law_blocks", "_law_written", "_law_index", "_law_turn", "_law_great", "_law_sizes", "_law_heap_pages", "_law_some", "_law_many", "_law_deed"]
theorem scLaw : FnScope ["_law_script", "_law_pot_here", "_law_blocks", "_law_written", "_law_index", "_law_turn", "_law_great", "_law_sizes", "_law_heap_pages", "_law_some", "_law_many", "_law_deed"] ["_law_script"] (defScope sLaw) := ⟨rfl, rfl, rfl, by decide +kernel, rfl, by decide +kernel, by decide +kernel⟩
end Ph

set_option maxHeartbeats 8000000
namespace Ph
open PySem PySem.Spec PyProof.Rows L2
/-! ### the program's bounds -/
theorem tl_atI {s : Nat → Nat} {m i : Nat} (h : i < m) : atI ((tl s m).map V.int) (i : Int) = some (.int (s i)) := atI_nat (tl_getV h)
theorem tl_atL {s : Nat → Nat} {m : Nat} : atI ((tl s (m + 1)).map V.int) (-1) = some (.int (s m)) := by
  rw [tl_succ, List.map_append]
  exact atI_last _ _
/-! ### the draws -/
section
variable {P : Program} {w : World} {K : PySem.W.Frag} {mg : Str → Option Value} {base : Heap}
theorem dig_mod (x y : Int) (hy : 0 < y) (hw : y.natAbs < 2 ^ 3000) : 0 ≤ x % y ∧ (x % y).natAbs < 2 ^ 3000 := by
  have h0 : 0 ≤ x % y := Int.emod_nonneg _ (by omega)
  exact ⟨h0, wide_le h0 (Int.le_of_lt (Int.emod_lt_of_pos _ hy)) hw⟩
theorem dig_mul {x : Int} (h : 0 ≤ x ∧ x.natAbs < 2 ^ 3000) (b : Bool) : CMulW x (if b = true then 1 else 0) :=
  wide_mul (b := 2) h.2 (by cases b <;> decide) (by decide) (by decide) (by decide)
theorem dig_ok {x : Int} (h : 0 ≤ x ∧ x.natAbs < 2 ^ 3000) (b : Bool) : 0 ≤ x * (if b = true then 1 else 0) ∧ (x * (if b = true then 1 else 0)).natAbs < 2 ^ 3000 := by
  cases b
  · rw [if_neg (by decide), Int.mul_zero]
    exact ⟨Int.le_refl _, Nat.pow_pos (by decide)⟩
  · rw [if_pos rfl, Int.mul_one]
    exact h
def spDw (K : PySem.W.Frag) : Sp := fun vs H Q _ => ∃ (a : Addr) (ns : List Int) (k : Nat), vs = [.ref a, .int k] ∧ SqL K H a (ns.map V.int) ∧ k ≤ 1000 ∧ ∀ H' p, Same H H' → H p = none → Po H' p → Q (.ref p) H'
theorem ok_Dw {k : Nat} (Z : Fns K mg) : FnOk P w K mg base CX0 (k + 1) Z.fDw Z.fdDw ["_law_script", "_law_index"] (spDw K) := by
  refine Z.FDw.ok scDw (fun vs H Q E h => ?_) (fun cdv A outer s H vs Q E hr h => ?_)
  · obtain ⟨a, ns, k, rfl, _⟩ := h
    rfl
  · obtain ⟨a, ns, n, rfl, hS, hn, q⟩ := h
    refine ⟨_, (pss_cons (ps_set (i := 2) scDw.nd rfl (.inl rfl) (pe_ifExp (pt_cmpR op_lt (pv 1) (pe_callB call_len_seq (by rfl) Z.N.len (by decide +kernel) (pa_cons (pv 0) pa_nil)) (nomark _)) (pe_ix ix_list (pv 0) (pv 1) (fun _ _ => rfl)) (pe_op op_add (pe_op op_mul pe_int (pv 1)) pe_int)))
 (pss_cons (ps_set (i := 3) scDw.nd rfl (.inl rfl) (pe_op op_mulW (pe_op op_mod (pe_callB call_abs (by rfl) Z.N.abs (by decide +kernel) (pa_cons (pv 2) pa_nil)) (pe_op op_powW (pe_op op_pow pe_int pe_int) pe_int)) (pe_callTy call_int1 (by rfl) Z.N.int (by decide +kernel) (pa_cons (pe_cmpR op_ge (pe_callB call_abs (by rfl) Z.N.abs (by decide +kernel) (pa_cons (pv 2) pa_nil)) (pe_op op_pow pe_int pe_int) (nomark _)) pa_nil))))
 (pss_one (ps_ret (pe_lst (pa_cons (pv 3) (pa_cons (pe_op op_mod (pe_op op_mul (pe_op op_add (pe_op op_add (pe_op op_mod (pv 2) pe_int) (pe_op op_mul (pe_op op_mul pe_int (pv 1)) (pv 1))) pe_int) pe_int) pe_int) (pa_cons pe_int pa_nil)))))))), ?_⟩
    have big : (0 : Int) < ((10 : Int) ^ (60 : Int).toNat) ^ (5 : Int).toNat ∧ (((10 : Int) ^ (60 : Int).toNat) ^ (5 : Int).toNat).natAbs < 2 ^ 3000 := by decide +kernel
    have pw : CPowW ((10 : Int) ^ (60 : Int).toNat) 5 := ⟨by decide, by decide +kernel⟩
    refine ⟨.int n, rfl, .ref a, rfl, a, _, rfl, .inl hS, _, _, rfl, rfl, _, rfl, ite2 (fun e => ?_) (fun e => ?_)⟩
    · have e1 : (n : Int) < ((ns.map V.int).length : Nat) := of_decide_eq_true e
      have e2 : n < ns.length := by
        rw [List.length_map] at e1
        omega
      refine ⟨.ref a, rfl, .int n, rfl, a, ns.map V.int, n, .int ns[n], rfl, rfl, hS, atI_nat (j := n) (by rw [List.getElem?_map, List.getElem?_eq_getElem e2]; rfl), ?_⟩
      refine ⟨.int _, rfl, _, rfl, _, _, rfl, rfl, ⟨by decide, by decide, by decide⟩, _, _, rfl, rfl, pw, _, _, rfl, rfl, big.1, .int _, rfl, _, rfl, _, _, rfl, rfl, ⟨by decide, by decide, by decide⟩, _, _, rfl, rfl, .inr ⟨_, rfl, _, _, rfl, rfl, dig_mul (dig_mod _ _ big.1 big.2) _, ?_⟩⟩
      refine ⟨.int _, rfl, .int _, rfl, _, _, rfl, rfl, (by decide : (0 : Int) < 2305843009213693951), .int n, rfl, _, _, rfl, rfl, .inl ⟨by decide, by decide⟩, .int n, rfl, _, _, rfl, rfl, .inr ⟨by omega, by omega⟩, _, _, rfl, rfl, _, _, rfl, rfl, _, _, rfl, rfl, .inr ⟨by decide, by decide⟩, _, _, rfl, rfl, (by decide : (0 : Int) < 2305843009213693951), (by show 3 ≤ sizeLine; decide), fun p np => ?_⟩
      exact q _ p (same_upd np) np ⟨_, _, _, upd_same, (dig_ok (dig_mod _ _ big.1 big.2) _).1, (dig_ok (dig_mod _ _ big.1 big.2) _).2, Int.emod_nonneg _ (by decide), Int.emod_lt_of_pos _ (by decide), by decide⟩
    · refine ⟨.int n, rfl, _, _, rfl, rfl, .inl ⟨by decide, by decide⟩, _, _, rfl, rfl, ?_⟩
      refine ⟨.int _, rfl, _, rfl, _, _, rfl, rfl, ⟨by decide, by decide, by decide⟩, _, _, rfl, rfl, pw, _, _, rfl, rfl, big.1, .int _, rfl, _, rfl, _, _, rfl, rfl, ⟨by decide, by decide, by decide⟩, _, _, rfl, rfl, .inr ⟨_, rfl, _, _, rfl, rfl, dig_mul (dig_mod _ _ big.1 big.2) _, ?_⟩⟩
      refine ⟨.int _, rfl, .int _, rfl, _, _, rfl, rfl, (by decide : (0 : Int) < 2305843009213693951), .int n, rfl, _, _, rfl, rfl, .inl ⟨by decide, by decide⟩, .int n, rfl, _, _, rfl, rfl, .inr ⟨by omega, by omega⟩, _, _, rfl, rfl, _, _, rfl, rfl, _, _, rfl, rfl, .inr ⟨by decide, by decide⟩, _, _, rfl, rfl, (by decide : (0 : Int) < 2305843009213693951), (by show 3 ≤ sizeLine; decide), fun p np => ?_⟩
      exact q _ p (same_upd np) np ⟨_, _, _, upd_same, (dig_ok (dig_mod _ _ big.1 big.2) _).1, (dig_ok (dig_mod _ _ big.1 big.2) _).2, Int.emod_nonneg _ (by decide), Int.emod_lt_of_pos _ (by decide), by decide⟩
def spNx : Sp := fun vs H Q _ => ∃ (p : Addr) (b : Int), vs = [.ref p, .int b] ∧ Po H p ∧ 0 < b ∧ b < 4611686018427387904 ∧ ∀ H' d, But p H H' → Po H' p → 0 ≤ d → d < b → Q (.int d) H'
theorem ok_Nx {k : Nat} (Z : Fns K mg) : FnOk P w K mg base CX0 (k + 1) Z.fNx Z.fdNx ["_law_pot_here", "_law_count"] spNx := by
  refine Z.FNx.ok scNx (fun vs H Q E h => ?_) (fun cdv A outer s H vs Q E hr h => ?_)
  · obtain ⟨p, n, rfl, _⟩ := h
    rfl
  · obtain ⟨p, n, rfl, ⟨g, r, m, hp, hv⟩, hn0, hn1, q⟩ := h
    refine ⟨_, (pss_cons (ps_if (pt_cmpR op_gt (pe_ix ix_list (pv 0) pe_int (fun _ _ => rfl)) pe_int (nomark _))
 (pss_cons (ps_set (i := 2) scNx.nd rfl (.inl rfl) (pe_op op_mod (pe_ix ix_list (pv 0) pe_int (fun _ _ => rfl)) (pv 1)))
 (pss_cons (ps_asg (pe_op op_fdivW (pe_ix ix_list (pv 0) pe_int (fun _ _ => rfl)) (pv 1)) (pg_sub (pv 0) pe_int set_list))
 (pss_one (ps_ret (pv 2))))) pss_nil)
 (pss_cons (ps_asg (pe_op op_add (pe_ix ix_list (pv 0) pe_int (fun _ _ => rfl)) pe_int) (pg_sub (pv 0) pe_int set_list))
 (pss_cons (ps_set (i := 3) scNx.nd rfl (.inl rfl) (pe_op op_add (pe_op op_add (pe_op op_mul (pe_ix ix_list (pv 0) pe_int (fun _ _ => rfl)) pe_int) (pe_op op_mul pe_int (pe_ix ix_list (pv 0) pe_int (fun _ _ => rfl)))) pe_int))
 (pss_cons (ps_asg (pe_op op_mod (pv 3) pe_int) (pg_sub (pv 0) pe_int set_list))
 (pss_one (ps_ret (pe_op op_mod (pe_op op_fdiv (pe_op op_mod (pe_op op_mul (pe_op op_fdiv (pe_ix ix_list (pv 0) pe_int (fun _ _ => rfl)) pe_int) (pe_op op_add (pe_op op_mod (pe_ix ix_list (pv 0) pe_int (fun _ _ => rfl)) pe_int) pe_int)) pe_int) pe_int) (pv 1)))))))), ?_⟩
    have hL : SqL K H p [.int g, .int r, .int m] := .inl (.inl hp)
    refine ⟨.ref p, rfl, p, _, 0, .int g, rfl, rfl, hL, atI_nat (j := 0) rfl, g, 0, rfl, rfl, _, rfl, ite2 (fun e => ?_) (fun e => ?_)⟩
    · refine ⟨.ref p, rfl, p, _, 0, .int g, rfl, rfl, hL, atI_nat (j := 0) rfl, .int n, rfl, g, n, rfl, rfl, hn0, ?_⟩
      refine ⟨.ref p, rfl, p, _, 0, .int g, rfl, rfl, hL, atI_nat (j := 0) rfl, .int n, rfl, g, n, rfl, rfl, wide_div (b := 62) hn0 ?_ (by decide) (by decide), .ref p, rfl, p, _, 0, 0, rfl, rfl, hp, rfl, _, rfl, ?_⟩
      · have : (2 : Nat) ^ 62 = 4611686018427387904 := by decide
        rw [this]
        omega
      · have d0 : 0 ≤ g / n := Int.ediv_nonneg hv.g0 (by omega)
        have d1 : g / n ≤ g := Int.ediv_le_self _ hv.g0
        refine q _ _ but_upd ⟨_, _, _, upd_same, d0, wide_le d0 d1 hv.g1, hv.r0, hv.r1, hv.n0⟩ (Int.emod_nonneg _ (by omega)) (Int.emod_lt_of_pos _ hn0)
    · have n0 := hv.n0
      have r0 := hv.r0
      have r1 := hv.r1
      refine ⟨.ref p, rfl, p, _, 2, .int m, rfl, rfl, hL, atI_nat (j := 2) rfl, _, _, rfl, rfl, .ref p, rfl, p, _, 2, 2, rfl, rfl, hp, rfl, ?_⟩
      have hp2 : upd H p (.lst [.int g, .int r, .int (m + 1)]) p = some (.lst [.int g, .int r, .int (m + 1)]) := upd_same
      have hL2 : SqL K (upd H p (.lst [.int g, .int r, .int (m + 1)])) p [.int g, .int r, .int (m + 1)] := .inl (.inl hp2)
      refine ⟨.ref p, rfl, p, _, 1, .int r, rfl, rfl, hL2, atI_nat (j := 1) rfl, _, _, rfl, rfl, .inl ⟨by omega, by omega⟩, .ref p, rfl, p, _, 2, .int (m + 1), rfl, rfl, hL2, atI_nat (j := 2) rfl, _, _, rfl, rfl, .inl ⟨by decide, by decide⟩, _, _, rfl, rfl, _, _, rfl, rfl, ?_⟩
      refine ⟨.int _, rfl, _, _, rfl, rfl, (by decide : (0 : Int) < 2305843009213693951), .ref p, rfl, p, _, 1, 1, rfl, rfl, hp2, rfl, ?_⟩
      generalize r * 1181783497276652981 + 97531 * (m + 1) + 13 = y
      have m0 : 0 ≤ y % 2305843009213693951 := Int.emod_nonneg _ (by decide)
      have m1 : y % 2305843009213693951 < 2305843009213693951 := Int.emod_lt_of_pos _ (by decide)
      have hp3 : upd (upd H p (.lst [.int g, .int r, .int (m + 1)])) p (.lst [.int g, .int (y % 2305843009213693951), .int (m + 1)]) p = some (.lst [.int g, .int (y % 2305843009213693951), .int (m + 1)]) := upd_same
      have hL3 : SqL K (upd (upd H p (.lst [.int g, .int r, .int (m + 1)])) p (.lst [.int g, .int (y % 2305843009213693951), .int (m + 1)])) p [.int g, .int (y % 2305843009213693951), .int (m + 1)] := .inl (.inl hp3)
      refine ⟨.ref p, rfl, p, _, 1, .int (y % 2305843009213693951), rfl, rfl, hL3, atI_nat (j := 1) rfl, _, _, rfl, rfl, ⟨by decide, by decide⟩, .ref p, rfl, p, _, 1, .int (y % 2305843009213693951), rfl, rfl, hL3, atI_nat (j := 1) rfl, _, _, rfl, rfl, (by decide : (0 : Int) < 65537), _, _, rfl, rfl, _, _, rfl, rfl, .inl ⟨by omega, by omega⟩, _, _, rfl, rfl, (by decide : (0 : Int) < 2305843009213693921), _, _, rfl, rfl, ⟨by decide, by decide⟩, .int n, rfl, _, _, rfl, rfl, hn0, ?_⟩
      exact q _ _ (But.trans but_upd but_upd) ⟨_, _, _, hp3, hv.g0, hv.g1, m0, m1, by omega⟩ (Int.emod_nonneg _ (by omega)) (Int.emod_lt_of_pos _ hn0)
def spPk (K : PySem.W.Frag) : Sp := fun vs H Q _ => ∃ (p l : Addr) (xs : List V), vs = [.ref p, .ref l] ∧ Po H p ∧ (SqL K H l xs ∨ SqT K H l xs) ∧ l ≠ p ∧ xs ≠ [] ∧ xs.length ≤ 100000 ∧ ∀ H' x, But p H H' → Po H' p → x ∈ xs → Q x H'
theorem ok_Pk {k : Nat} (Z : Fns K mg) : FnOk P w K mg base CX0 (k + 1 + 1) Z.fPk Z.fdPk ["_law_pot_here", "_law_some"] (spPk K) := by
  have GNx : FnOk P w K mg base CX0 (k + 1) Z.fNx Z.fdNx ["_law_pot_here", "_law_count"] spNx := ok_Nx Z
  refine Z.FPk.ok scPk (fun vs H Q E h => ?_) (fun cdv A outer s H vs Q E hr h => ?_)
  · obtain ⟨p, l, xs, rfl, _⟩ := h
    rfl
  · obtain ⟨p, l, xs, rfl, hp, hl, hne, hx, hlen, q⟩ := h
    refine ⟨_, (pss_one (ps_ret (pe_ix ix_any (pv 1) (pe_call GNx (hr.mono (by omega)) (by rfl) Z.gNx Z.FNx.kp Z.bNx .nil pass0 (pa_cons (pv 0) (pa_cons (pe_callB call_len_seq (by rfl) Z.N.len (by decide +kernel) (pa_cons (pv 1) pa_nil)) pa_nil))) (fun _ _ => rfl)))), ?_⟩
    have hx0 : 0 < xs.length := List.length_pos_iff.mpr hx
    refine ⟨.ref l, rfl, .ref p, rfl, .ref l, rfl, l, xs, rfl, hl, p, _, rfl, hp, ?_, ?_, fun H' d hb hp' d0 d1 => ?_⟩
    · omega
    · omega
    · obtain ⟨j, rfl⟩ : ∃ j : Nat, d = j := ⟨d.toNat, by omega⟩
      have hd : j < xs.length := by omega
      rcases hl with hl | hl
      · exact .inl ⟨l, xs, j, xs[j], rfl, rfl, hb.seq hne hl, atI_nat (List.getElem?_eq_getElem hd), q _ _ hb hp' (List.getElem_mem hd)⟩
      · exact .inr ⟨l, xs, j, xs[j], rfl, rfl, hb.tup hne hl, atI_nat (List.getElem?_eq_getElem hd), q _ _ hb hp' (List.getElem_mem hd)⟩
end
section
variable {P : Program} {w : World} {K : PySem.W.Frag} {mg : Str → Option Value} {base : Heap}
def spSc : Sp := fun vs H Q _ => ∃ (p : Addr), vs = [.ref p] ∧ Po H p ∧ ∀ H' t s n, But p H H' → Po H' p → ChAt H' t (tl s (n + 1)) → Cn s n 8 → n ≤ 4 → Q (.ref t) H'
theorem ok_Sc {k : Nat} (Z : Fns K mg) : FnOk P w K mg base CX0 (k + 1 + 1 + 1) Z.fSc Z.fdSc ["_law_pot_here"] spSc := by
  have GPk : FnOk P w K mg base CX0 (k + 1 + 1) Z.fPk Z.fdPk ["_law_pot_here", "_law_some"] (spPk K) := ok_Pk Z
  refine Z.FSc.ok scSc (fun vs H Q E h => ?_) (fun cdv A outer s H vs Q E hr h => ?_)
  · obtain ⟨p, rfl, _⟩ := h
    rfl
  · obtain ⟨p, rfl, hp, q⟩ := h
    refine ⟨_, (pss_one (ps_ret (pe_call GPk (hr.mono (by omega)) (by rfl) Z.gPk Z.FPk.kp Z.bPk .nil pass0 (pa_cons (pv 0) (pa_cons (pe_lst (pa_cons (pe_tupF (pa_cons pe_int pa_nil)) (pa_cons (pe_tupF (pa_cons pe_int (pa_cons pe_int pa_nil))) (pa_cons (pe_tupF (pa_cons pe_int (pa_cons pe_int pa_nil))) (pa_cons (pe_tupF (pa_cons pe_int (pa_cons pe_int (pa_cons pe_int pa_nil)))) (pa_cons (pe_tupF (pa_cons pe_int (pa_cons pe_int pa_nil))) (pa_cons (pe_tupF (pa_cons pe_int (pa_cons pe_int (pa_cons pe_int pa_nil)))) (pa_cons (pe_tupF (pa_cons pe_int (pa_cons pe_int (pa_cons pe_int pa_nil)))) (pa_cons (pe_tupF (pa_cons pe_int (pa_cons pe_int (pa_cons pe_int (pa_cons pe_int pa_nil))))) (pa_cons (pe_tupF (pa_cons pe_int (pa_cons pe_int pa_nil))) pa_nil)))))))))) pa_nil))))), ?_⟩
    refine ⟨.ref p, rfl, ?_⟩
    have s0 : Same H H := Same.refl _
    refine ⟨(by show 1 ≤ sizeLine; decide), fun t1 o1 n1 od1 => ?_⟩
    have s1 := s0.trans (same_upd (o := .frz o1 (.tup [.int 1])) n1)
    have h1 : upd H t1 (.frz o1 (.tup [.int 1])) t1 = some (.frz o1 (.tup [.int 1])) := upd_same
    generalize upd H t1 (.frz o1 (.tup [.int 1])) = H1 at *
    refine ⟨(by show 2 ≤ sizeLine; decide), fun t2 o2 n2 od2 => ?_⟩
    have s2 := s1.trans (same_upd (o := .frz o2 (.tup [.int 1, .int 2])) n2)
    have h2 : upd H1 t2 (.frz o2 (.tup [.int 1, .int 2])) t2 = some (.frz o2 (.tup [.int 1, .int 2])) := upd_same
    have h1 := same_upd (o := .frz o2 (.tup [.int 1, .int 2])) n2 _ _ h1
    generalize upd H1 t2 (.frz o2 (.tup [.int 1, .int 2])) = H2 at *
    refine ⟨(by show 2 ≤ sizeLine; decide), fun t3 o3 n3 od3 => ?_⟩
    have s3 := s2.trans (same_upd (o := .frz o3 (.tup [.int 1, .int 3])) n3)
    have h3 : upd H2 t3 (.frz o3 (.tup [.int 1, .int 3])) t3 = some (.frz o3 (.tup [.int 1, .int 3])) := upd_same
    have h1 := same_upd (o := .frz o3 (.tup [.int 1, .int 3])) n3 _ _ h1
    have h2 := same_upd (o := .frz o3 (.tup [.int 1, .int 3])) n3 _ _ h2
    generalize upd H2 t3 (.frz o3 (.tup [.int 1, .int 3])) = H3 at *
    refine ⟨(by show 3 ≤ sizeLine; decide), fun t4 o4 n4 od4 => ?_⟩
    have s4 := s3.trans (same_upd (o := .frz o4 (.tup [.int 1, .int 2, .int 4])) n4)
    have h4 : upd H3 t4 (.frz o4 (.tup [.int 1, .int 2, .int 4])) t4 = some (.frz o4 (.tup [.int 1, .int 2, .int 4])) := upd_same
    have h1 := same_upd (o := .frz o4 (.tup [.int 1, .int 2, .int 4])) n4 _ _ h1
    have h2 := same_upd (o := .frz o4 (.tup [.int 1, .int 2, .int 4])) n4 _ _ h2
    have h3 := same_upd (o := .frz o4 (.tup [.int 1, .int 2, .int 4])) n4 _ _ h3
    generalize upd H3 t4 (.frz o4 (.tup [.int 1, .int 2, .int 4])) = H4 at *
    refine ⟨(by show 2 ≤ sizeLine; decide), fun t5 o5 n5 od5 => ?_⟩
    have s5 := s4.trans (same_upd (o := .frz o5 (.tup [.int 1, .int 4])) n5)
    have h5 : upd H4 t5 (.frz o5 (.tup [.int 1, .int 4])) t5 = some (.frz o5 (.tup [.int 1, .int 4])) := upd_same
    have h1 := same_upd (o := .frz o5 (.tup [.int 1, .int 4])) n5 _ _ h1
    have h2 := same_upd (o := .frz o5 (.tup [.int 1, .int 4])) n5 _ _ h2
    have h3 := same_upd (o := .frz o5 (.tup [.int 1, .int 4])) n5 _ _ h3
    have h4 := same_upd (o := .frz o5 (.tup [.int 1, .int 4])) n5 _ _ h4
    generalize upd H4 t5 (.frz o5 (.tup [.int 1, .int 4])) = H5 at *
    refine ⟨(by show 3 ≤ sizeLine; decide), fun t6 o6 n6 od6 => ?_⟩
    have s6 := s5.trans (same_upd (o := .frz o6 (.tup [.int 1, .int 2, .int 6])) n6)
    have h6 : upd H5 t6 (.frz o6 (.tup [.int 1, .int 2, .int 6])) t6 = some (.frz o6 (.tup [.int 1, .int 2, .int 6])) := upd_same
    have h1 := same_upd (o := .frz o6 (.tup [.int 1, .int 2, .int 6])) n6 _ _ h1
    have h2 := same_upd (o := .frz o6 (.tup [.int 1, .int 2, .int 6])) n6 _ _ h2
    have h3 := same_upd (o := .frz o6 (.tup [.int 1, .int 2, .int 6])) n6 _ _ h3
    have h4 := same_upd (o := .frz o6 (.tup [.int 1, .int 2, .int 6])) n6 _ _ h4
    have h5 := same_upd (o := .frz o6 (.tup [.int 1, .int 2, .int 6])) n6 _ _ h5
    generalize upd H5 t6 (.frz o6 (.tup [.int 1, .int 2, .int 6])) = H6 at *
    refine ⟨(by show 3 ≤ sizeLine; decide), fun t7 o7 n7 od7 => ?_⟩
    have s7 := s6.trans (same_upd (o := .frz o7 (.tup [.int 1, .int 3, .int 6])) n7)
    have h7 : upd H6 t7 (.frz o7 (.tup [.int 1, .int 3, .int 6])) t7 = some (.frz o7 (.tup [.int 1, .int 3, .int 6])) := upd_same
    have h1 := same_upd (o := .frz o7 (.tup [.int 1, .int 3, .int 6])) n7 _ _ h1
    have h2 := same_upd (o := .frz o7 (.tup [.int 1, .int 3, .int 6])) n7 _ _ h2
    have h3 := same_upd (o := .frz o7 (.tup [.int 1, .int 3, .int 6])) n7 _ _ h3
    have h4 := same_upd (o := .frz o7 (.tup [.int 1, .int 3, .int 6])) n7 _ _ h4
    have h5 := same_upd (o := .frz o7 (.tup [.int 1, .int 3, .int 6])) n7 _ _ h5
    have h6 := same_upd (o := .frz o7 (.tup [.int 1, .int 3, .int 6])) n7 _ _ h6
    generalize upd H6 t7 (.frz o7 (.tup [.int 1, .int 3, .int 6])) = H7 at *
    refine ⟨(by show 4 ≤ sizeLine; decide), fun t8 o8 n8 od8 => ?_⟩
    have s8 := s7.trans (same_upd (o := .frz o8 (.tup [.int 1, .int 2, .int 4, .int 8])) n8)
    have h8 : upd H7 t8 (.frz o8 (.tup [.int 1, .int 2, .int 4, .int 8])) t8 = some (.frz o8 (.tup [.int 1, .int 2, .int 4, .int 8])) := upd_same
    have h1 := same_upd (o := .frz o8 (.tup [.int 1, .int 2, .int 4, .int 8])) n8 _ _ h1
    have h2 := same_upd (o := .frz o8 (.tup [.int 1, .int 2, .int 4, .int 8])) n8 _ _ h2
    have h3 := same_upd (o := .frz o8 (.tup [.int 1, .int 2, .int 4, .int 8])) n8 _ _ h3
    have h4 := same_upd (o := .frz o8 (.tup [.int 1, .int 2, .int 4, .int 8])) n8 _ _ h4
    have h5 := same_upd (o := .frz o8 (.tup [.int 1, .int 2, .int 4, .int 8])) n8 _ _ h5
    have h6 := same_upd (o := .frz o8 (.tup [.int 1, .int 2, .int 4, .int 8])) n8 _ _ h6
    have h7 := same_upd (o := .frz o8 (.tup [.int 1, .int 2, .int 4, .int 8])) n8 _ _ h7
    generalize upd H7 t8 (.frz o8 (.tup [.int 1, .int 2, .int 4, .int 8])) = H8 at *
    refine ⟨(by show 2 ≤ sizeLine; decide), fun t9 o9 n9 od9 => ?_⟩
    have s9 := s8.trans (same_upd (o := .frz o9 (.tup [.int 1, .int 5])) n9)
    have h9 : upd H8 t9 (.frz o9 (.tup [.int 1, .int 5])) t9 = some (.frz o9 (.tup [.int 1, .int 5])) := upd_same
    have h1 := same_upd (o := .frz o9 (.tup [.int 1, .int 5])) n9 _ _ h1
    have h2 := same_upd (o := .frz o9 (.tup [.int 1, .int 5])) n9 _ _ h2
    have h3 := same_upd (o := .frz o9 (.tup [.int 1, .int 5])) n9 _ _ h3
    have h4 := same_upd (o := .frz o9 (.tup [.int 1, .int 5])) n9 _ _ h4
    have h5 := same_upd (o := .frz o9 (.tup [.int 1, .int 5])) n9 _ _ h5
    have h6 := same_upd (o := .frz o9 (.tup [.int 1, .int 5])) n9 _ _ h6
    have h7 := same_upd (o := .frz o9 (.tup [.int 1, .int 5])) n9 _ _ h7
    have h8 := same_upd (o := .frz o9 (.tup [.int 1, .int 5])) n9 _ _ h8
    generalize upd H8 t9 (.frz o9 (.tup [.int 1, .int 5])) = H9 at *
    refine ⟨(by show 9 ≤ sizeLine; decide), fun l nl => ?_⟩
    have hpn := hp.same s9
    have sl := same_upd (o := .lst [.ref t1, .ref t2, .ref t3, .ref t4, .ref t5, .ref t6, .ref t7, .ref t8, .ref t9]) nl
    refine ⟨p, l, _, rfl, hpn.same sl, .inl (.inl (.inl upd_same)), (hpn.ne_none nl).symm, List.cons_ne_nil _ _, by simp, fun H2 v b2 hp2 hv => ?_⟩
    have bb : But p H H2 := (Same.but (s9.trans sl)).trans b2
    simp only [List.mem_cons, List.not_mem_nil, or_false] at hv
    rcases hv with rfl | rfl | rfl | rfl | rfl | rfl | rfl | rfl | rfl
    · obtain ⟨s, n, e, _, cn⟩ := Gnk.cn (m := 8) (ns := [1]) (x := 1) (.one : Gnk 8 _ _) (by decide)
      have ln : (1 : Nat) = n + 1 := (congrArg List.length e).trans (tl_len s (n + 1))
      refine q _ t1 s n bb hp2 (e ▸ ⟨o1, od1, b2 _ _ ((hpn.same sl).nefrz (sl _ _ h1)) (sl _ _ h1)⟩) cn (by omega)
    · obtain ⟨s, n, e, _, cn⟩ := Gnk.cn (m := 8) (ns := [1, 2]) (x := 2) ((.step (r := 2) .one (by decide) (by decide) (by decide)) : Gnk 8 _ _) (by decide)
      have ln : (2 : Nat) = n + 1 := (congrArg List.length e).trans (tl_len s (n + 1))
      refine q _ t2 s n bb hp2 (e ▸ ⟨o2, od2, b2 _ _ ((hpn.same sl).nefrz (sl _ _ h2)) (sl _ _ h2)⟩) cn (by omega)
    · obtain ⟨s, n, e, _, cn⟩ := Gnk.cn (m := 8) (ns := [1, 3]) (x := 3) ((.step (r := 3) .one (by decide) (by decide) (by decide)) : Gnk 8 _ _) (by decide)
      have ln : (2 : Nat) = n + 1 := (congrArg List.length e).trans (tl_len s (n + 1))
      refine q _ t3 s n bb hp2 (e ▸ ⟨o3, od3, b2 _ _ ((hpn.same sl).nefrz (sl _ _ h3)) (sl _ _ h3)⟩) cn (by omega)
    · obtain ⟨s, n, e, _, cn⟩ := Gnk.cn (m := 8) (ns := [1, 2, 4]) (x := 4) ((.step (r := 2) (.step (r := 2) .one (by decide) (by decide) (by decide)) (by decide) (by decide) (by decide)) : Gnk 8 _ _) (by decide)
      have ln : (3 : Nat) = n + 1 := (congrArg List.length e).trans (tl_len s (n + 1))
      refine q _ t4 s n bb hp2 (e ▸ ⟨o4, od4, b2 _ _ ((hpn.same sl).nefrz (sl _ _ h4)) (sl _ _ h4)⟩) cn (by omega)
    · obtain ⟨s, n, e, _, cn⟩ := Gnk.cn (m := 8) (ns := [1, 4]) (x := 4) ((.step (r := 4) .one (by decide) (by decide) (by decide)) : Gnk 8 _ _) (by decide)
      have ln : (2 : Nat) = n + 1 := (congrArg List.length e).trans (tl_len s (n + 1))
      refine q _ t5 s n bb hp2 (e ▸ ⟨o5, od5, b2 _ _ ((hpn.same sl).nefrz (sl _ _ h5)) (sl _ _ h5)⟩) cn (by omega)
    · obtain ⟨s, n, e, _, cn⟩ := Gnk.cn (m := 8) (ns := [1, 2, 6]) (x := 6) ((.step (r := 3) (.step (r := 2) .one (by decide) (by decide) (by decide)) (by decide) (by decide) (by decide)) : Gnk 8 _ _) (by decide)
      have ln : (3 : Nat) = n + 1 := (congrArg List.length e).trans (tl_len s (n + 1))
      refine q _ t6 s n bb hp2 (e ▸ ⟨o6, od6, b2 _ _ ((hpn.same sl).nefrz (sl _ _ h6)) (sl _ _ h6)⟩) cn (by omega)
    · obtain ⟨s, n, e, _, cn⟩ := Gnk.cn (m := 8) (ns := [1, 3, 6]) (x := 6) ((.step (r := 2) (.step (r := 3) .one (by decide) (by decide) (by decide)) (by decide) (by decide) (by decide)) : Gnk 8 _ _) (by decide)
      have ln : (3 : Nat) = n + 1 := (congrArg List.length e).trans (tl_len s (n + 1))
      refine q _ t7 s n bb hp2 (e ▸ ⟨o7, od7, b2 _ _ ((hpn.same sl).nefrz (sl _ _ h7)) (sl _ _ h7)⟩) cn (by omega)
    · obtain ⟨s, n, e, _, cn⟩ := Gnk.cn (m := 8) (ns := [1, 2, 4, 8]) (x := 8) ((.step (r := 2) (.step (r := 2) (.step (r := 2) .one (by decide) (by decide) (by decide)) (by decide) (by decide) (by decide)) (by decide) (by decide) (by decide)) : Gnk 8 _ _) (by decide)
      have ln : (4 : Nat) = n + 1 := (congrArg List.length e).trans (tl_len s (n + 1))
      refine q _ t8 s n bb hp2 (e ▸ ⟨o8, od8, b2 _ _ ((hpn.same sl).nefrz (sl _ _ h8)) (sl _ _ h8)⟩) cn (by omega)
    · obtain ⟨s, n, e, _, cn⟩ := Gnk.cn (m := 8) (ns := [1, 5]) (x := 5) ((.step (r := 5) .one (by decide) (by decide) (by decide)) : Gnk 8 _ _) (by decide)
      have ln : (2 : Nat) = n + 1 := (congrArg List.length e).trans (tl_len s (n + 1))
      refine q _ t9 s n bb hp2 (e ▸ ⟨o9, od9, b2 _ _ ((hpn.same sl).nefrz (sl _ _ h9)) (sl _ _ h9)⟩) cn (by omega)
end
end Ph

set_option maxHeartbeats 8000000
namespace Ph
open PySem PySem.Spec PyProof.Rows L2
section
variable {P : Program} {w : World} {K : PySem.W.Frag} {mg : Str → Option Value} {base : Heap}

end
theorem valV_any2 (kvs : List (Key × V)) (i : Int) : hasI kvs i = (valV kvs (Sum.inl i)).isSome := rfl
theorem any_rng {kvs : List (Key × V)} {se : Int} {cn : Nat} : ((List.range cn).map fun (j : Nat) => hasI kvs (se + (j : Int))).any id = true ↔ ∃ w : Int, se ≤ w ∧ w < se + cn ∧ hasI kvs w = true := by
  rw [List.any_eq_true]
  constructor
  · rintro ⟨b, hb, hb2⟩
    obtain ⟨j, hj, e3⟩ := List.mem_map.mp hb
    have := List.mem_range.mp hj
    exact ⟨se + j, by omega, by omega, by rw [e3]; exact hb2⟩
  · rintro ⟨w, w1, w2, w3⟩
    refine ⟨true, List.mem_map.mpr ⟨(w - se).toNat, List.mem_range.mpr (by omega), ?_⟩, rfl⟩
    rw [show se + (((w - se).toNat : Nat) : Int) = w by omega]
    exact w3
/-- the words of some blocks, as the keys of a dict -/
def Wds (kvs : List (Key × V)) (bs : List Bk) : Prop := ∀ w : Int, hasI kvs w = true ↔ ∃ b ∈ bs, b.1 ≤ w ∧ w < b.1 + b.2
theorem wds_add {kvs : List (Key × V)} {bs : List Bk} {se : Int} {cn : Nat} (h : Wds kvs bs) : Wds (mergeK kvs (mergeK [] ((List.range cn).map fun (j : Nat) => ((Sum.inl (se + (j : Int)) : Key), V.bl true)))) (bs ++ [(se, (cn : Int))]) := fun w => by
  rw [hasI_merge, Bool.or_eq_true, h w, valV_any, ← hasI, hasI_merge, Bool.or_eq_true]
  constructor
  · rintro (⟨b, hb, h1⟩ | h1)
    · exact ⟨b, List.mem_append_left _ hb, h1⟩
    · refine ⟨(se, cn), List.mem_append_right _ (List.mem_singleton.mpr rfl), ?_⟩
      rcases h1 with h1 | h1
      · exact absurd h1 (by simp [hasI, valV])
      · obtain ⟨kv, hkv, e⟩ := List.any_eq_true.mp h1
        obtain ⟨j, hj, rfl⟩ := List.mem_map.mp hkv
        have e2 := of_decide_eq_true e
        have := List.mem_range.mp hj
        dsimp only at e2
        injection e2 with e2
        exact ⟨by dsimp only; omega, by dsimp only; omega⟩
  · rintro ⟨b, hb, h1, h2⟩
    rcases List.mem_append.mp hb with z | z
    · exact .inl ⟨b, z, h1, h2⟩
    · rw [List.mem_singleton.mp z] at h1 h2
      dsimp only at h1 h2
      refine .inr (.inr (List.any_eq_true.mpr ⟨(Sum.inl (se + (((w - se).toNat : Nat) : Int)), V.bl true), List.mem_map.mpr ⟨(w - se).toNat, List.mem_range.mpr (by omega), rfl⟩, decide_eq_true ?_⟩))
      dsimp only
      congr 1
      omega
section
variable {P : Program} {w : World} {K : PySem.W.Frag} {mg : Str → Option Value} {base : Heap}
def spWo : Sp := fun vs H Q _ => ∃ (t : Addr) (xs : List V) (bs : List Bk), vs = [.ref t] ∧ H t = some (.lst xs) ∧ BL H xs bs ∧ bs.length ≤ 2000 ∧ (∀ b ∈ bs, 0 ≤ b.1 ∧ b.1 ≤ 4000000 ∧ 0 ≤ b.2 ∧ b.2 ≤ 2000) ∧ ∀ H' d kvs, Same H H' → H d = none → H' d = some (.dK kvs) → Wds kvs bs → Q (.ref d) H'
theorem ok_Wo {k : Nat} (Z : Fns K mg) : FnOk P w K mg base CX0 (k + 1) Z.fWo Z.fdWo ["_law_blocks"] spWo := by
  refine Z.FWo.ok scWo (fun vs H Q E h => ?_) (fun cdv A outer s H vs Q E hr h => ?_)
  · obtain ⟨t, xs, bs, rfl, _⟩ := h
    rfl
  · obtain ⟨t, xs, bs, rfl, ht, bl, hl, hb0, q⟩ := h
    refine ⟨_, (pss_cons (ps_set (i := 1) scWo.nd rfl (.inl rfl) pe_dnewK)
 (pss_cons (ps_for PassesOwn.never rfl (pi_list (pv 0)) (pg_tup (by rfl) (pgs_cons (pg_name (i := 2) scWo.nd rfl (.inl rfl)) (pgs_cons (pg_name (i := 3) scWo.nd rfl (.inl rfl)) pgs_nil)))
 (pss_one (ps_expr (pe_bm PySem.F.plainAttrs_dict PySem.F.slot_dict_update PySem.F.type_dict_update mtd_update (pv 1) (pa_cons (pe_callTy (call_dictP rfl) (by rfl) Z.N.dict (by decide +kernel) (pa_cons (pe_lc (own := [("_law_word", 4)]) (g := (gName 4)) (tt := tYes) (by rfl) scWo.nd (pi_range2 (by rfl) Z.N.range (pa_cons (pv 2) (pa_cons (pe_op op_add (pv 2) (pv 3)) pa_nil))) (blkOk_by (N := scWoN) (sc := defScope scWoS) (by decide +kernel)) (fun _ _ _ _ _ => (pg_name (i := 4) scWo.nd rfl (.inl rfl))) (fun _ _ _ _ _ => pts_nil) (fun _ _ _ _ _ => (pe_tup (pa_cons (pv 4) (pa_cons pe_bl pa_nil))))) pa_nil)) pa_nil)))))
 (pss_one (ps_ret (pv 1))))), ?_⟩
    refine fun d nd => ?_
    have sd := same_upd (o := .dK []) nd
    have hd : upd H d (.dK []) d = some (.dK []) := upd_same
    generalize upd H d (.dK []) = H2 at *
    have ht2 := sd _ _ ht
    have bl2 := BL.kp bl fun v us e => sd _ _ e
    refine ⟨.ref t, rfl, t, rfl, ⟨_, .inl (.inl ht2)⟩, ?_⟩
    refine for_it (walk_list (K := K) (a := t) (xs := xs)) (fun i σ H3 => ∃ y2 y3 y4 kvs, σ = [some (.ref t), some (.ref d), y2, y3, y4] ∧ But d H2 H3 ∧ H3 d = some (.dK kvs) ∧ Wds kvs (bs.take i) ∧ kvs.length ≤ 2000 * i)
      ⟨none, none, none, [], rfl, But.refl _ _, hd, fun w => ?_, Nat.le_refl _⟩ (fun i σ H3 _ p => ?_) ?_ ?_
    · constructor
      · intro h
        exact absurd h (by simp [hasI, valV])
      · rintro ⟨b, hb, _⟩
        cases hb
    · obtain ⟨_, _, _, _, _, b3, _⟩ := p
      exact .inl (.inl (b3 _ _ (ne_of ht2 hd (by intro z; cases z)) ht2))
    · rintro i x1 σ H0 H3 hi ⟨y4, y5, y6, kvs, rfl, b3, hd3, wd, lk⟩ ⟨rfl, hx⟩
      obtain ⟨b, hb, u, rfl, hu⟩ := BL.get bl2 hx
      have hu3 := b3 _ _ (ne_of hu hd (by intro z; cases z)) hu
      have etk : bs.take (i + 1) = bs.take i ++ [b] := by rw [List.take_add_one, hb]; rfl
      obtain ⟨b1, b2, b5, b6⟩ := hb0 b (List.mem_of_getElem? hb)
      have hil : i < 2000 := by rw [bl.len] at hi; omega
      obtain ⟨se, cl⟩ := b
      dsimp only at *
      obtain ⟨cn, rfl⟩ : ∃ cn : Nat, cl = cn := ⟨cl.toNat, by omega⟩
      have ecn : (se + (cn : Int) - se).toNat = cn := by omega
      refine ⟨u, _, rfl, .inl (.inl hu3), rfl, _, _, rfl, _, _, rfl, rfl, ?_⟩
      refine ⟨.ref d, rfl, .inr (.inr (.inl ⟨rfl, .inl ⟨_, hd3⟩⟩)), .int se, rfl, .int se, rfl, .int cn, rfl, _, _, rfl, rfl, se, se + cn, rfl, ⟨by omega, by omega, by omega, by omega⟩, fun D2 nD2 => ?_⟩
      rw [ecn]
      refine lc_range (lo := se) (n := cn) (fun i H8 => Same H3 H8 ∧ ∃ ps, H8 D2 = some (.lst (ps.map V.ref)) ∧ Paired (fun q kv => H8 q = some (.tup [kV kv.1, kv.2])) ps ((List.range i).map fun (j : Nat) => ((Sum.inl (se + (j : Int)) : Key), V.bl true)))
        ⟨same_upd nD2, [], upd_same, .nil⟩ (fun i H8 hi p8 => ?_) (fun H8 p8 => ?_)
      · obtain ⟨s8, ps, hD8, hpr⟩ := p8
        have lps : ps.length = i := by
          have := hpr.length
          simpa using this
        refine ⟨rfl, .int (se + i), rfl, (by show 2 ≤ sizeLine; decide), fun T nT => ⟨_, by rw [upd_ne (ne_of_none hD8 nT)]; exact hD8, ?_, fun b z hz => ?_, ps ++ [T], ?_, ?_⟩⟩
        · rw [List.length_map, lps]
          exact Nat.lt_of_lt_of_le (show i < 4000001 by omega) (by decide)
        · rw [upd_ne (ne_of_none hz nD2), upd_ne (ne_of_none (s8 _ _ hz) nT)]
          exact s8 _ _ hz
        · rw [upd_same]
          simp
        · rw [List.range_succ, List.map_append]
          refine Paired.snoc ?_ ?_
          · refine paired_imp (fun q kv hq => ?_) hpr
            rw [upd_ne (ne_of hq hD8 (by intro z; cases z)), upd_ne (ne_of_none hq nT)]
            exact hq
          · rw [upd_ne (ne_of_none hD8 nT).symm, upd_same]
            rfl
      · obtain ⟨s8, ps, hD8, hpr⟩ := p8
        refine ⟨D2, ps, _, rfl, .inl (.inl hD8), paired_imp (fun q kv hq => .inl (.inl hq)) hpr, fun q nq => ?_⟩
        have s9 := same_upd (o := .dK (mergeK [] ((List.range cn).map fun (j : Nat) => ((Sum.inl (se + (j : Int)) : Key), V.bl true)))) nq
        have hd9 := s9 _ _ (s8 _ _ hd3)
        have hml : (mergeK [] ((List.range cn).map fun (j : Nat) => ((Sum.inl (se + (j : Int)) : Key), V.bl true))).length ≤ cn := by
          refine Nat.le_trans (length_mergeK _ _) ?_
          simp
        refine ⟨d, q, kvs, _, rfl, rfl, ne_of_none (s8 _ _ hd3) nq, hd9, upd_same, ?_, ?_⟩
        · exact Nat.le_trans (show _ ≤ 4000001 by omega) (by decide)
        refine ⟨_, _, _, _, rfl, b3.trans ((Same.but (s8.trans s9)).trans but_upd), upd_same, ?_, ?_⟩
        · rw [etk]
          exact wds_add wd
        · have := length_mergeK (mergeK [] ((List.range cn).map fun (j : Nat) => ((Sum.inl (se + (j : Int)) : Key), V.bl true))) kvs
          omega
    · rintro σ H3 ⟨y2, y3, y4, kvs, rfl, b3, hd3, wd, lk⟩
      have etk : bs.take xs.length = bs := List.take_of_length_le (by rw [bl.len]; exact Nat.le_refl _)
      rw [etk] at wd
      exact ⟨.ref d, rfl, q _ d kvs (fun b o e => b3 _ _ (ne_of_none e nd) (sd _ _ e)) nd hd3 wd⟩
/-- all that a place is, but for the smaller ones -/
structure Spot (z : Int) (bs : List Bk) (W x : Int) : Prop where
  mod : x % z = 0
  pos : 0 ≤ x
  fit : x + z ≤ W
  free : ∀ b ∈ bs, x + z ≤ b.1 ∨ b.1 + b.2 ≤ x
def spLp : Sp := fun vs H Q _ => ∃ (c t : Addr) (s : Nat → Nat) (p pg : Nat) (z : Int) (xs : List V) (bs : List Bk), vs = [.ref c, .int pg, .ref t, .int z] ∧ ChAt H c (tl s (p + 1)) ∧ s p ≤ 2000 ∧ pg ≤ 2000 ∧ 0 < z ∧ z ≤ 2000 ∧ H t = some (.lst xs) ∧ BL H xs bs ∧ bs.length ≤ 2000 ∧ (∀ b ∈ bs, 0 ≤ b.1 ∧ b.1 ≤ 4000000 ∧ 1 ≤ b.2 ∧ b.2 ≤ 2000) ∧ ∀ (H' : Hp) (D : Addr) (ns : List Int), Same H H' → H D = none → H' D = some (.lst (ns.map V.int)) → (∀ x ∈ ns, Spot z bs ((pg : Int) * ((s p : Nat) : Int)) x) → (ns.length : Int) ≤ (pg : Int) * ((s p : Nat) : Int) → Q (.ref D) H'
theorem ok_Lp {k : Nat} (Z : Fns K mg) : FnOk P w K mg base CX0 (k + 1 + 1) Z.fLp Z.fdLp ["_law_sizes", "_law_heap_pages", "_law_blocks", "_law_many"] spLp := by
  have GWo : FnOk P w K mg base CX0 (k + 1) Z.fWo Z.fdWo ["_law_blocks"] spWo := ok_Wo Z
  refine Z.FLp.ok scLp (fun vs H Q E h => ?_) (fun cdv A outer s H vs Q E hr h => ?_)
  · obtain ⟨c, t, s, p, pg, z, xs, bs, rfl, _⟩ := h
    rfl
  · obtain ⟨c, t, sz, p, pg, z, xs, bs, rfl, hc, sp, hpg, z0, z1, ht, bl, hl, hb0, q⟩ := h
    refine ⟨_, (pss_cons (ps_asg (pe_tup (pa_cons (pe_call GWo (hr.mono (by omega)) (by rfl) Z.gWo Z.FWo.kp Z.bWo .nil pass0 (pa_cons (pv 2) pa_nil)) (pa_cons (pe_lst pa_nil) pa_nil))) (pg_tup (by rfl) (pgs_cons (pg_name (i := 4) scLp.nd rfl (.inr rfl)) (pgs_cons (pg_name (i := 5) scLp.nd rfl (.inl rfl)) pgs_nil))))
 (pss_cons (ps_for PassesOwn.never rfl (pi_range3 (by rfl) Z.N.range (pa_cons pe_int (pa_cons (pe_op op_add (pe_op op_sub (pe_op op_mul (pv 1) (pe_ix ix_tup (pv 0) (pe_un un_neg pe_int) (fun _ _ => rfl))) (pv 3)) pe_int) (pa_cons (pv 3) pa_nil)))) (pg_name (i := 6) scLp.nd rfl (.inl rfl))
 (pss_one (ps_if (pt_not (pt_val (pe_callB (cr_any rfl) (by rfl) Z.N.any (by decide +kernel) (pa_cons (pe_lc (own := [("_law_word", 7)]) (g := (gName 7)) (tt := tYes) (by rfl) scLp.nd (pi_range2 (by rfl) Z.N.range (pa_cons (pv 6) (pa_cons (pe_op op_add (pv 6) (pv 3)) pa_nil))) (blkOk_by (N := scLpN) (sc := defScope scLpS) (by decide +kernel)) (fun _ _ _ _ _ => (pg_name (i := 7) scLp.nd rfl (.inl rfl))) (fun _ _ _ _ _ => pts_nil) (fun _ _ _ _ _ => (pe_cmp ((pc_din (hu_of hr)) (pv 7) (pv 4))))) pa_nil))))
 (pss_one (ps_expr (pe_bm PySem.F.plainAttrs_list PySem.F.slot_list_append PySem.F.type_list_append mt_append (pv 5) (pa_cons (pv 6) pa_nil)))) pss_nil)))
 (pss_one (ps_ret (pv 5))))), ?_⟩
    refine ⟨.ref t, rfl, t, xs, bs, rfl, ht, bl, hl, fun b hb => ?_, fun H1 d kvs s1 nd hd wd => ?_⟩
    · have := hb0 b hb
      omega
    refine ⟨(by show 0 ≤ sizeLine; decide), fun D nD => ?_⟩
    have sD := same_upd (o := .lst []) nD
    have hD : upd H1 D (.lst []) D = some (.lst []) := upd_same
    have hd2 := sD _ _ hd
    generalize upd H1 D (.lst []) = H2 at *
    refine ⟨(by show 2 ≤ sizeLine; decide), fun T nT => ⟨T, _, rfl, .inl (.inl upd_same), rfl, _, _, rfl, _, _, rfl, rfl, ?_⟩⟩
    have sT := same_upd (o := .tup [.ref d, .ref D]) nT
    have hd3 := sT _ _ hd2
    have hD3 := sT _ _ hD
    have s13 := sD.trans sT
    generalize upd H2 T (.tup [.ref d, .ref D]) = H3 at *
    have hc3 := (hc.keep s1).keep s13
    obtain ⟨W, eW, W0, W1⟩ : ∃ W : Int, (pg : Int) * ((sz p : Nat) : Int) = W ∧ 0 ≤ W ∧ W ≤ 4000000 := ⟨_, rfl, Int.mul_nonneg (by omega) (by omega), Int.le_trans (Int.mul_le_mul (show (pg : Int) ≤ 2000 by omega) (show ((sz p : Nat) : Int) ≤ 2000 by omega) (by omega) (by decide)) (by decide)⟩
    rw [eW] at q
    refine ⟨.int _, rfl, .ref c, rfl, 1, rfl, c, _, -1, _, rfl, rfl, hc3.sq, tl_atL, _, _, rfl, rfl, .inr ⟨by omega, by omega⟩, .int z, rfl, _, _, rfl, rfl, _, _, rfl, rfl, .int z, rfl, 0, (pg : Int) * ((sz p : Nat) : Int) - z + 1, z, rgN 0 ((pg : Int) * ((sz p : Nat) : Int) - z + 1) z, rfl, RgC.up z0 (by omega) ⟨by decide, by decide⟩ ⟨by rw [eW]; omega, by rw [eW]; omega⟩, ?_⟩
    rw [eW]
    have rgl := rgN_le (i := 0) (j := W - z + 1) z0
    have nDd : D ≠ d := ne_of hD3 hd3 (by intro z; cases z)
    obtain ⟨zn, rfl⟩ : ∃ zn : Nat, z = zn := ⟨z.toNat, by omega⟩
    refine for_rangeC (lo := 0) (c := (zn : Int)) (n := rgN 0 (W - zn + 1) zn) (fun i σ H4 => ∃ y6 y7 ns, σ = [some (.ref c), some (.int pg), some (.ref t), some (.int (zn : Int)), some (.ref d), some (.ref D), y6, y7] ∧ But D H3 H4 ∧ H4 D = some (.lst (List.map V.int ns)) ∧ (∀ x ∈ ns, Spot (zn : Int) bs W x) ∧ ns.length ≤ i)
      ⟨none, none, [], rfl, But.refl _ _, hD3, (fun x h => nomatch h), Nat.le_refl _⟩ ?_ ?_
    · rintro i σ H4 hi ⟨y6, y7, ns, rfl, b4, hD4, ok, ln⟩
      have hm : (0 : Int) + (i : Int) * (zn : Int) ∈ rg3 0 (zn : Int) (rgN 0 (W - zn + 1) zn) := List.mem_map.mpr ⟨i, List.mem_range.mpr hi, rfl⟩
      obtain ⟨m1, m2, m3⟩ := (mem_rg3 z0).mp hm
      rw [Int.sub_zero] at m3
      generalize (0 : Int) + (i : Int) * (zn : Int) = a at *
      have hd4 := b4 _ _ nDd.symm hd3
      have ecn : (a + (zn : Int) - a).toNat = zn := by omega
      refine ⟨.int a, rfl, .int a, rfl, .int zn, rfl, _, _, rfl, rfl, a, a + zn, rfl, ⟨by omega, by omega, by omega, by omega⟩, fun E2 nE => ?_⟩
      rw [ecn]
      refine lc_range (lo := a) (n := zn) (fun j H7 => Same H4 H7 ∧ H7 E2 = some (.lst (((List.range j).map fun (j : Nat) => hasI kvs (a + (j : Int))).map V.bl))) ⟨same_upd nE, upd_same⟩ (fun j H7 hj p7 => ?_) (fun H7 p7 => ?_)
      · obtain ⟨s7, hD7⟩ := p7
        refine ⟨rfl, .int (a + j), rfl, .ref d, rfl, d, _, rfl, DGet.k (k := Sum.inl (a + (j : Int))) (s7 _ _ hd4), _, hD7, ?_, fun b z hz => ?_, ?_⟩
        · rw [List.length_map, List.length_map, List.length_range]
          exact Nat.lt_of_lt_of_le (show j < 4000001 by omega) (by decide)
        · rw [upd_ne (ne_of_none hz nE)]
          exact s7 _ _ hz
        · rw [upd_same, List.range_succ]
          simp [hasI]
      · obtain ⟨s7, hE7⟩ := p7
        have hD7 := s7 _ _ hD4
        refine ⟨E2, _, rfl, .inl (.inl hE7), _, rfl, ite2 (fun c0 => ?_) (fun c0 => ?_)⟩
        · have nany : ¬ ((List.range zn).map fun (j : Nat) => hasI kvs (a + (j : Int))).any id = true := fun h => by rw [h] at c0; cases c0
          have spt : Spot (zn : Int) bs W a := ⟨m3, m1, by omega, fun b hb => by
            obtain ⟨b1, b2, b3, b5⟩ := hb0 b hb
            rcases Int.lt_or_le b.1 (a + zn) with h | h
            · rcases Int.lt_or_le a (b.1 + b.2) with h2 | h2
              · exfalso
                apply nany
                rcases Int.lt_or_le b.1 a with h3 | h3
                · exact any_rng.mpr ⟨a, by omega, by omega, (wd a).mpr ⟨b, hb, by omega, by omega⟩⟩
                · exact any_rng.mpr ⟨b.1, by omega, by omega, (wd b.1).mpr ⟨b, hb, by omega, by omega⟩⟩
              · exact .inr h2
            · exact .inl h⟩
          refine ⟨.ref D, rfl, .inl ⟨rfl, _, .inl (.inl hD7)⟩, .int a, rfl, D, _, _, rfl, rfl, hD7, ?_, _, _, ns ++ [a], rfl, b4.trans ((Same.but s7).trans but_upd), ?_, fun x hx => ?_, ?_⟩
          · rw [List.length_map]
            exact Nat.lt_of_lt_of_le (show ns.length < 4000001 by omega) (by decide)
          · rw [upd_same, List.map_append]
            rfl
          · rcases List.mem_append.mp hx with h | h
            · exact ok x h
            · rw [List.mem_singleton.mp h]; exact spt
          · rw [List.length_append]
            show ns.length + 1 ≤ i + 1
            omega
        · exact ⟨_, _, ns, rfl, b4.trans (Same.but s7), hD7, ok, by omega⟩
    · rintro σ H4 ⟨y6, y7, ns, rfl, b4, hD4, ok, ln⟩
      have nDH : H D = none := none_of_same s1 nD
      exact ⟨.ref D, rfl, q _ D ns (fun b o e => b4 _ _ (ne_of_none e nDH) (s13 _ _ (s1 _ _ e))) nDH hD4 ok (by omega)⟩
end
end Ph

set_option maxHeartbeats 8000000
namespace Ph
open PySem PySem.Spec PyProof.Rows L2
theorem eqv_nilL (ns : List Int) : PyData.eqv (.list (ns.map PyData.int)) (.list []) = ns.isEmpty := by
  cases ns with
  | nil => simp [PyData.eqv, PyData.eqvAll]
  | cons n r => simp [PyData.eqv, PyData.eqvAll]
section
variable {P : Program} {w : World} {K : PySem.W.Frag} {mg : Str → Option Value} {base : Heap}
def spDs : Sp := fun vs H Q _ => ∃ (p c : Addr) (s : Nat → Nat) (n m pg mo : Nat), vs = [.ref p, .ref c, .int pg, .int mo] ∧ Po H p ∧ ChAt H c (tl s (n + 1)) ∧ Cn s n m ∧ m ≤ 100 ∧ n < 100 ∧ pg ≤ 100 ∧ mo ≤ 100 ∧ ∀ H' t bs, But p H H' → Po H' p → StAt H' t bs → St (tl s (n + 1)) ((pg : Int) * ((s n : Nat) : Int)) bs → bs.length ≤ mo → Q (.ref t) H'
theorem ok_Ds {k : Nat} (Z : Fns K mg) : FnOk P w K mg base CX0 (k + 1 + 1 + 1) Z.fDs Z.fdDs ["_law_pot_here", "_law_sizes", "_law_heap_pages", "_law_most"] spDs := by
  have GNx : FnOk P w K mg base CX0 (k + 1) Z.fNx Z.fdNx ["_law_pot_here", "_law_count"] spNx := ok_Nx Z
  have GPk : FnOk P w K mg base CX0 (k + 1 + 1) Z.fPk Z.fdPk ["_law_pot_here", "_law_some"] (spPk K) := ok_Pk Z
  have GLp : FnOk P w K mg base CX0 (k + 1 + 1) Z.fLp Z.fdLp ["_law_sizes", "_law_heap_pages", "_law_blocks", "_law_many"] spLp := ok_Lp Z
  refine Z.FDs.ok scDs (fun vs H Q E h => ?_) (fun cdv A outer s H vs Q E hr h => ?_)
  · obtain ⟨p, c, s, n, m, pg, mo, rfl, _⟩ := h
    rfl
  · obtain ⟨p, c, sz, n, m, pg, mo, rfl, hp, hc, cn, hm, hn, hpg, hmo, q⟩ := h
    have hu64 := u64_of hr
    refine ⟨_, (pss_cons (ps_set (i := 4) scDs.nd rfl (.inl rfl) (pe_lst pa_nil))
 (pss_cons (ps_for PassesOwn.never rfl (pi_range1 (by rfl) Z.N.range (pa_cons (pe_call GNx (hr.mono (by omega)) (by rfl) Z.gNx Z.FNx.kp Z.bNx .nil pass0 (pa_cons (pv 0) (pa_cons (pe_op op_add (pv 3) pe_int) pa_nil))) pa_nil)) (pg_name (i := 5) scDs.nd rfl (.inl rfl))
 (pss_cons (ps_set (i := 6) scDs.nd rfl (.inl rfl) (pe_call GPk (hr.mono (by omega)) (by rfl) Z.gPk Z.FPk.kp Z.bPk .nil pass0 (pa_cons (pv 0) (pa_cons (pv 1) pa_nil))))
 (pss_cons (ps_set (i := 7) scDs.nd rfl (.inl rfl) (pe_call GLp (hr.mono (by omega)) (by rfl) Z.gLp Z.FLp.kp Z.bLp .nil pass0 (pa_cons (pv 1) (pa_cons (pv 2) (pa_cons (pv 4) (pa_cons (pv 6) pa_nil))))))
 (pss_one (ps_if (pt_cmpR (op_neD hu64) (pv 7) (pe_lst pa_nil) (nomark _))
 (pss_one (ps_expr (pe_bm PySem.F.plainAttrs_list PySem.F.slot_list_append PySem.F.type_list_append mt_append (pv 4) (pa_cons (pe_tup (pa_cons (pe_call GPk (hr.mono (by omega)) (by rfl) Z.gPk Z.FPk.kp Z.bPk .nil pass0 (pa_cons (pv 0) (pa_cons (pv 7) pa_nil))) (pa_cons (pv 6) pa_nil))) pa_nil)))) pss_nil)))))
 (pss_one (ps_ret (pe_callTy call_tuple_of (by rfl) Z.N.tuple (by decide +kernel) (pa_cons (pe_callB cr_sortedPO (by rfl) Z.N.sorted (by decide +kernel) (pa_cons (pv 4) pa_nil)) pa_nil)))))), ?_⟩
    have top : ∀ j, j ≤ n → sz j ≤ 100 := fun j hj => Nat.le_trans (Nat.le_trans (cn.ch.mono hj (by omega)) cn.top) hm
    have topn := top n (Nat.le_refl _)
    obtain ⟨W, eW, W0, W1⟩ : ∃ W : Int, (pg : Int) * ((sz n : Nat) : Int) = W ∧ 0 ≤ W ∧ W ≤ 10000 := ⟨_, rfl, Int.mul_nonneg (by omega) (by omega), Int.le_trans (Int.mul_le_mul (show (pg : Int) ≤ 100 by omega) (show ((sz n : Nat) : Int) ≤ 100 by omega) (by omega) (by decide)) (by decide)⟩
    rw [eW] at q
    refine ⟨(by show 0 ≤ sizeLine; decide), fun B nB => ?_⟩
    have npB : p ≠ B := hp.ne_none nB
    have sB := same_upd (o := .lst []) nB
    refine ⟨.ref p, rfl, .int _, rfl, _, _, rfl, rfl, p, _, rfl, hp.same sB, by omega, by omega, fun H1 d b1 hp1 d0 d1 => ⟨_, rfl, by omega, by omega, ?_⟩⟩
    have hB1 := b1 _ _ npB.symm (upd_same (H := H) (a := B) (o := .lst []))
    refine for_range (lo := 0) (n := d.toNat) (fun i σ H2 => ∃ y5 y6 y7 xs bs, σ = [some (.ref p), some (.ref c), some (.int pg), some (.int mo), some (.ref B), y5, y6, y7] ∧ Po H2 p ∧ (∀ b o, b ≠ p → b ≠ B → H b = some o → H2 b = some o) ∧ H2 B = some (.lst xs) ∧ BL H2 xs bs ∧ (∀ b ∈ bs, okB (tl sz (n + 1)) W b) ∧ bs.Pairwise apart ∧ bs.length ≤ i)
      ⟨none, none, none, [], [], rfl, hp1, fun b o n1 n2 e => b1 _ _ n1 (by rw [upd_ne n2]; exact e), hB1, .nil, (fun b h => nomatch h), List.Pairwise.nil, Nat.le_refl _⟩ ?_ ?_
    · rintro i σ H2 hi ⟨y5, y6, y7, xs, bs, rfl, hp2, kp, hB, bl, ok, ap, ln⟩
      have hc2 : ChAt H2 c (tl sz (n + 1)) := hc.frz fun o u e => kp _ _ (hp.nefrz e) (ne_of_none e nB) e
      refine ⟨.ref p, rfl, .ref c, rfl, p, c, _, rfl, hp2, .inr hc2.sq, ?_, ?_, ?_, fun H3 v b3 hp3 hv => ?_⟩
      · obtain ⟨o, _, e⟩ := hc2
        exact hp2.nefrz e
      · intro z
        have := congrArg List.length z
        rw [List.length_map, tl_len] at this
        simp at this
      · rw [List.length_map, tl_len]
        omega
      obtain ⟨j, hj, rfl⟩ : ∃ j, j ≤ n ∧ v = .int ((sz j : Nat) : Int) := by
        obtain ⟨z, hz, rfl⟩ := List.mem_map.mp hv
        obtain ⟨j, hj, rfl⟩ := tl_mem.mp hz
        exact ⟨j, by omega, rfl⟩
      have j0 := cn.ch.pos (i := j) (by omega)
      have j1 := top j hj
      have hB3 := b3 _ _ npB.symm hB
      have bl3 := BL.kp bl fun v us e => b3 _ _ (hp2.netup e) e
      have hc3 : ChAt H3 c (tl sz (n + 1)) := hc2.frz fun o u e => b3 _ _ (hp2.nefrz e) e
      refine ⟨.ref c, rfl, .int _, rfl, .ref B, rfl, .int _, rfl, c, B, sz, n, pg, _, xs, bs, rfl, hc3, by omega, by omega, by omega, by omega, hB3, bl3, by omega, fun b hb => ?_, fun H4 D ns s4 nD hD spt nl => ?_⟩
      · obtain ⟨h1, h2, h3, h4, h5⟩ := ok b hb
        obtain ⟨jj, hjj, e⟩ := tl_mem.mp h1
        have := top jj (by omega)
        omega
      rw [eW] at spt nl
      have hp4 := hp3.same s4
      have hB4 := s4 _ _ hB3
      have bl4 := BL.kp bl3 fun v us e => s4 _ _ e
      have kp4 : ∀ b o, b ≠ p → b ≠ B → H b = some o → H4 b = some o := fun b o n1 n2 e => s4 _ _ (b3 _ _ n1 (kp b o n1 n2 e))
      refine ⟨.ref D, rfl, (by show 0 ≤ sizeLine; decide), fun L nL => ?_⟩
      have sL := same_upd (o := .lst []) nL
      refine ⟨.list (ns.map PyData.int), .list [], .lst (.inl (.inl (sL _ _ hD))) (dpI _), .lst (.inl (.inl upd_same)) .nil, il_shaped _, il_shaped [], _, rfl, ite2 (fun c0 => ?_) (fun c0 => ?_)⟩
      · have ne : ns ≠ [] := fun z => by
          rw [eqv_nilL, z] at c0
          cases c0
        have hD5 := sL _ _ hD
        have hp5 := hp4.same sL
        have hB5 := sL _ _ hB4
        have bl5 := BL.kp bl4 fun v us e => sL _ _ e
        generalize upd H4 L (.lst []) = H5 at *
        refine ⟨.ref B, rfl, .inl ⟨rfl, _, .inl (.inl hB5)⟩, .ref p, rfl, .ref D, rfl, p, D, _, rfl, hp5, .inl (.inl (.inl hD5)), (hp3.ne_none nD).symm, ?_, ?_, fun H6 v b6 hp6 hv => ?_⟩
        · intro z
          exact ne (List.map_eq_nil_iff.mp z)
        · rw [List.length_map]
          omega
        obtain ⟨x, hx, rfl⟩ := List.mem_map.mp hv
        have sx := spt x hx
        refine ⟨.int _, rfl, (by show 2 ≤ sizeLine; decide), fun T nT => ?_⟩
        have sT := same_upd (o := .tup [.int x, .int ((sz j : Nat) : Int)]) nT
        have hB6 := sT _ _ (b6 _ _ npB.symm hB5)
        have kpB : KpT (upd H6 T (.tup [.int x, .int ((sz j : Nat) : Int)])) (upd (upd H6 T (.tup [.int x, .int ((sz j : Nat) : Int)])) B (.lst (xs ++ [.ref T]))) := fun v us e => by
          rw [upd_ne (ne_of e hB6 (by intro z; cases z))]
          exact e
        refine ⟨B, _, _, rfl, rfl, hB6, Nat.lt_of_le_of_lt (show xs.length ≤ 200 by rw [bl.len]; omega) (by decide), _, _, _, xs ++ [.ref T], bs ++ [(x, ((sz j : Nat) : Int))], rfl, (hp6.same sT).keep npB, fun b o n1 n2 e => ?_, upd_same, ?_, fun b hb => ?_, ?_, ?_⟩
        · rw [upd_ne n2]
          exact sT _ _ (b6 _ _ n1 (sL _ _ (kp4 b o n1 n2 e)))
        · exact BL.app (BL.kp bl5 fun v us e => kpB v us (sT _ _ (b6 _ _ (hp5.netup e) e))) (.cons ⟨T, rfl, kpB _ _ upd_same⟩ .nil)
        · rcases List.mem_append.mp hb with h | h
          · exact ok b h
          · rw [List.mem_singleton.mp h]
            exact ⟨tl_mem.mpr ⟨j, by omega, rfl⟩, by dsimp only; omega, sx.pos, sx.mod, sx.fit⟩
        · refine List.pairwise_append.mpr ⟨ap, List.pairwise_singleton _ _, fun b hb e he => ?_⟩
          rw [List.mem_singleton.mp he]
          rcases sx.free b hb with h | h
          · exact .inr h
          · exact .inl h
        · rw [List.length_append]
          show bs.length + 1 ≤ i + 1
          omega
      · exact ⟨_, _, _, xs, bs, rfl, hp4.same sL, fun b o n1 n2 e => sL _ _ (kp4 b o n1 n2 e), sL _ _ hB4, BL.kp bl4 fun v us e => sL _ _ e, ok, ap, by omega⟩
    · rintro σ H2 ⟨y5, y6, y7, xs, bs, rfl, hp2, kp, hB, bl, ok, ap, ln⟩
      refine ⟨.ref B, rfl, B, xs, kH H2, rfl, .inl (.inl hB), fun x hx => ?_, fun zs o srt stb no => ?_⟩
      · obtain ⟨b, hb⟩ := bl.all x hx
        rw [hb.k]
        exact hb
      · have pm : zs.Perm xs := stb.perm
        have ally : ∀ x ∈ zs, ∃ b, BkAt H2 x b := fun x hx => bl.all x (pm.mem_iff.mp hx)
        have blz := BL.of ally
        have pm2 : (zs.map (kH H2)).Perm bs := by
          rw [← bl.map]
          exact pm.map _
        have so := same_upd (o := .lst zs) no
        refine ⟨o, zs, rfl, .inl ⟨.inl (.inl upd_same), fun u nu => ?_⟩⟩
        have su := same_upd (o := .tup zs) nu
        have s24 := so.trans su
        refine q _ u (zs.map (kH H2)) (fun b o nb e => s24 _ _ (kp b o nb (ne_of_none e nB) e)) (hp2.same s24) ⟨zs, upd_same, BL.kp blz fun v us e => s24 _ _ e⟩ (sorted_st ok ap pm2 (List.pairwise_map.mpr srt)) ?_
        rw [pm2.length_eq]
        omega
end
end Ph

set_option maxHeartbeats 8000000
namespace Ph
open PySem PySem.Spec PyProof.Rows L2
theorem in_intsL (x : Int) : ∀ C : List Int, inV (.int x) (C.map V.int) = decide (x ∈ C)
  | [] => by simp [inV]
  | c :: C => by
    have ih := in_intsL x C
    unfold inV at *
    rw [List.map_cons, List.any_cons, ih]
    show ((c == x) || decide (x ∈ C)) = decide (x ∈ c :: C)
    rw [Bool.eq_iff_iff]
    simp only [Bool.or_eq_true, beq_iff_eq, decide_eq_true_eq, List.mem_cons]
    exact ⟨fun h => h.imp (·.symm) _root_.id, fun h => h.imp (·.symm) _root_.id⟩
theorem in_nats (n : Nat) (C : List Nat) : inV (.int n) ((C.map fun n : Nat => (n : Int)).map V.int) = decide (n ∈ C) := by
  rw [in_intsL, Bool.eq_iff_iff, decide_eq_true_eq, decide_eq_true_eq, List.mem_map]
  exact ⟨fun ⟨m, h, e⟩ => by rw [← Int.ofNat_inj.mp e]; exact h, fun h => ⟨n, h, rfl⟩⟩
/-- the state behind a test that goes on in both ways -/
theorem num_none {w : Str} (h : ¬ (1 ≤ w.length ∧ w.length ≤ 20 ∧ (TL.tl w).all isDg = true ∧ ¬ ((TL.tl w)[0]? = some 48 ∧ 1 < w.length))) : numV (numOf w) = .non := by
  unfold numOf
  rw [if_neg h]
  rfl
theorem num_some {w : Str} (h : 1 ≤ w.length ∧ w.length ≤ 20 ∧ (TL.tl w).all isDg = true ∧ ¬ ((TL.tl w)[0]? = some 48 ∧ 1 < w.length)) : ∃ n, numOf w = some n := by
  unfold numOf
  rw [if_pos h]
  exact ⟨_, rfl⟩
section
variable {P : Program} {w : World} {K : PySem.W.Frag} {mg : Str → Option Value} {base : Heap}
theorem ok_Bx {k : Nat} (Z : Fns K mg) : FnOk P w K mg base CX0 (k + 1) Z.fBx Z.fdBx ["self", "row"] (spEi Z.CBadText "row") := by
  refine Z.FBx.ok scBx (fun vs H Q E h => ?_) (fun cdv A outer s H vs Q E hr h => ?_)
  · obtain ⟨a, x, rfl, _⟩ := h
    rfl
  · obtain ⟨a, x, rfl, ha, q⟩ := h
    refine ⟨_, (pss_one (ps_ost (pv 0) (pv 1) rfl)), ?_⟩
    exact ⟨x, rfl, .ref a, rfl, a, Z.CBadText, rfl, Z.oxBadText, Z.nfBadText_row, .inl ⟨ha, q⟩⟩
/-- is_integer of a number or None -/
def spIo : Sp := fun vs H Q _ => ∃ o : Option Nat, vs = [numV o] ∧ Q (.bl o.isSome) H
theorem ok_I {k : Nat} (Z : Fns K mg) : FnOk P w K mg base CX0 (k + 1) Z.fI Z.fdI ["value"] spIo := by
  refine Z.FI.ok scI (fun vs H Q E h => ?_) (fun cdv A outer s H vs Q E hr h => ?_)
  · obtain ⟨o, rfl, _⟩ := h
    rfl
  · obtain ⟨o, rfl, q⟩ := h
    refine ⟨_, (pss_one (ps_ret (pe_and (pe_callB call_isi (by rfl) Z.N.isinstance (by decide +kernel) (pa_cons (pv 0) (pa_cons (pe_bltn (v := .ty "int") (by rfl) Z.N.int (by decide +kernel) rfl) pa_nil))) (pe_one (pe_not (pe_callB call_isi (by rfl) Z.N.isinstance (by decide +kernel) (pa_cons (pv 0) (pa_cons (pe_bltn (v := .ty "bool") (by rfl) Z.N.bool (by decide +kernel) rfl) pa_nil)))))))), ?_⟩
    cases o with
    | none => exact ⟨.non, rfl, .non, .ty "int", .type "NoneType", .type "int", false, rfl, .ty _, .base .non, kit_ty (by decide +kernel), _, rfl, ite2 (fun c => absurd c (by decide)) (fun _ => q)⟩
    | some n =>
      refine ⟨.int n, rfl, .int n, .ty "int", .type "int", .type "int", true, rfl, .ty _, .base (.int _), kit_ty (by decide +kernel), _, rfl, ite2 (fun _ => ?_) (fun c => absurd rfl c)⟩
      exact ⟨.int n, rfl, .int n, .ty "bool", .type "int", .type "bool", false, rfl, .ty _, .base (.int _), kit_ty (by decide +kernel), _, rfl, q⟩
/-- is a number, if it is one, in the chain -/
def inO (o : Option Nat) (C : List Nat) : Bool := match o with
  | none => false
  | some n => decide (n ∈ C)
def spZo (K : PySem.W.Frag) : Sp := fun vs H Q _ => ∃ (c : Addr) (C : List Nat) (o : Option Nat), vs = [.ref c, numV o] ∧ SqT K H c ((C.map fun n : Nat => (n : Int)).map V.int) ∧ Q (.bl (inO o C)) H
theorem ok_Z {k : Nat} (Z : Fns K mg) : FnOk P w K mg base CX0 (k + 1 + 1) Z.fZ Z.fdZ ["chain", "value"] (spZo K) := by
  have GI : FnOk P w K mg base CX0 (k + 1) Z.fI Z.fdI ["value"] spIo := ok_I Z
  refine Z.FZ.ok scZ (fun vs H Q E h => ?_) (fun cdv A outer s H vs Q E hr h => ?_)
  · obtain ⟨c, C, o, rfl, _⟩ := h
    rfl
  · obtain ⟨c, C, o, rfl, hc, q⟩ := h
    refine ⟨_, (pss_one (ps_ret (pe_and (pe_call GI (hr.mono (by omega)) (by rfl) Z.gI Z.FI.kp Z.bI .nil pass0 (pa_cons (pv 1) pa_nil)) (pe_one (pe_cmpR op_in_seq (pv 1) (pv 0) (by rfl)))))), ?_⟩
    cases o with
    | none => exact ⟨.non, rfl, none, rfl, _, rfl, ite2 (fun c => absurd c (by decide)) (fun _ => q)⟩
    | some n =>
      refine ⟨.int n, rfl, some n, rfl, _, rfl, ite2 (fun _ => ?_) (fun c => absurd rfl c)⟩
      refine ⟨.int n, rfl, .ref c, rfl, c, _, rfl, .inr hc, rfl, flat_ints _, ?_⟩
      have e : (if false = true then !inV (V.int n) ((C.map fun n : Nat => (n : Int)).map V.int) else inV (V.int n) ((C.map fun n : Nat => (n : Int)).map V.int)) = decide (n ∈ C) := in_nats n C
      rw [e]
      exact q
def spCr (CB : Addr) : Sp := fun vs H Q E => ∃ (n : Nat) (b : Bool), vs = [.int n, .bl b] ∧ ((b = true ∧ Q .non H) ∨ (b = false ∧ ErrX CB "row" (.int n) H E))
theorem okX_Cr {k : Nat} (Z : Fns K mg) : FnOk P w K mg base (L2.CX P w) (k + 1 + 1 + 1) Z.fCr Z.fdCr ["row", "right"] (spCr Z.CBadText) := by
  have GBx : FnOk P w K mg base CX0 (k + 1) Z.fBx Z.fdBx ["self", "row"] (spEi Z.CBadText "row") := ok_Bx Z
  refine Z.FCr.okX scCr (fun vs H Q E h => ?_) (fun cdv A outer s H vs Q E hr h => ?_)
  · obtain ⟨n, b, rfl, _⟩ := h
    rfl
  · obtain ⟨n, b, rfl, q⟩ := h
    refine ⟨_, (pss_one (ps_if (pt_not (pt_val (pv 1)))
 (pss_one (ps_raise rfl (takes_of rfl rfl rfl rfl) (pmk_oex Z.oxBadText Z.iBx Z.tBx GBx (hr.mono (by omega)) Z.bBx .nil pass0 (by rfl) Z.gcBadText (pa_cons (pv 0) pa_nil)))) pss_nil)), ?_⟩
    rcases q with ⟨rfl, q⟩ | ⟨rfl, q⟩
    · exact ⟨.bl true, rfl, _, rfl, ite2 (fun c => absurd c (by decide)) (fun _ => q)⟩
    · exact ⟨.bl false, rfl, _, rfl, ite2 (fun _ => ⟨.int n, rfl, (by show 1 ≤ 1000; decide), fun a0 na => ei_out q a0 na⟩) (fun c => absurd rfl c)⟩
def spLi (CB : Addr) : Sp := fun vs H Q E => ∃ w : Str, vs = [.str w] ∧ w.length + 2 ≤ sizeLine ∧ ∀ p, H p = none → Q (.ref p) (upd H p (.lst ((linesT w).map V.str)))
theorem okX_Li {k : Nat} (Z : Fns K mg) : FnOk P w K mg base (L2.CX P w) (k + 1 + 1 + 1) Z.fLi Z.fdLi ["text"] (spLi Z.CBadText) := by
  have GBx : FnOk P w K mg base CX0 (k + 1) Z.fBx Z.fdBx ["self", "row"] (spEi Z.CBadText "row") := ok_Bx Z
  refine Z.FLi.okX scLi (fun vs H Q E h => ?_) (fun cdv A outer s H vs Q E hr h => ?_)
  · obtain ⟨w, rfl, _⟩ := h
    rfl
  · obtain ⟨w, rfl, q⟩ := h
    refine ⟨_, (pss_cons (ps_if (pt_not (pt_val (pe_callB call_isi (by rfl) Z.N.isinstance (by decide +kernel) (pa_cons (pv 0) (pa_cons (pe_bltn (v := .ty "str") (by rfl) Z.N.str (by decide +kernel) rfl) pa_nil)))))
 (pss_one (ps_raise rfl (takes_of rfl rfl rfl rfl) (pmk_oex Z.oxBadText Z.iBx Z.tBx GBx (hr.mono (by omega)) Z.bBx .nil pass0 (by rfl) Z.gcBadText (pa_cons pe_int pa_nil)))) pss_nil)
 (pss_one (ps_ret (pe_bm PySem.F.plainAttrs_str PySem.F.slot_str_split PySem.F.type_str_split mt_split (pv 0) (pa_cons pe_str pa_nil))))), ?_⟩
    refine ⟨.str w, rfl, .str w, .ty "str", .type "str", .type "str", true, rfl, .ty _, .base (.str _), kit_ty (by decide +kernel), _, rfl, ite2 (fun c => absurd c (by decide)) (fun _ => ?_)⟩
    exact ⟨.str w, rfl, rfl, w, "\n", rfl, rfl, by decide +kernel, q.1, q.2⟩
def spNi : Sp := fun vs H Q E => ∃ w : Str, vs = [.str w] ∧ w.length ≤ sizeLine ∧ ∀ H', Same H H' → Q (numV (numOf w)) H'
theorem ok_Ni {k : Nat} (Z : Fns K mg) : FnOk P w K mg base CX0 (k + 1) Z.fNi Z.fdNi ["text"] spNi := by
  refine Z.FNi.ok scNi (fun vs H Q E h => ?_) (fun cdv A outer s H vs Q E hr h => ?_)
  · obtain ⟨w, rfl, _⟩ := h
    rfl
  · obtain ⟨w, rfl, hl, q⟩ := h
    refine ⟨_, (pss_cons (ps_if (PW.pt (pw_or (pt_not (pt_chain op_le op_le pe_int (pe_callB call_len_str (by rfl) Z.N.len (by decide +kernel) (pa_cons (pv 0) pa_nil)) (pe_glob (v := .int 20) (by rfl) Z.k_MOST_DIGITS.choose_spec ⟨_, rfl⟩))) (pw_or1 (pt_not (pt_val (pe_callB (cr_all rfl) (by rfl) Z.N.all (by decide +kernel) (pa_cons (pe_lc (own := [("sign", 1)]) (g := (gName 1)) (tt := tYes) (by rfl) scNi.nd (pi_str (pv 0)) (blkOk_by (N := scNiN) (sc := defScope scNiS) (by decide +kernel)) (fun _ _ _ _ _ => (pg_name (i := 1) scNi.nd rfl (.inl rfl))) (fun _ _ _ _ _ => pts_nil) (fun _ _ _ _ _ => (pe_cmpR op_in_sign (pv 1) (pe_glob (v := .str "0123456789") (by rfl) Z.k_DIGITS.choose_spec ⟨_, rfl⟩) (by rfl)))) pa_nil)))))))
 (pss_one (ps_ret pe_non)) pss_nil)
 (pss_cons (ps_if (PW.pt (pw_and (pt_cmpR op_eq (pe_ix ix_str (pv 0) pe_int (fun _ _ => rfl)) pe_str (nomark _)) (pw_and1 (pt_cmpR op_gt (pe_callB call_len_str (by rfl) Z.N.len (by decide +kernel) (pa_cons (pv 0) pa_nil)) pe_int (nomark _)))))
 (pss_one (ps_ret pe_non)) pss_nil)
 (pss_one (ps_ret (pe_callTy call_int_str (by rfl) Z.N.int (by decide +kernel) (pa_cons (pv 0) pa_nil)))))), ?_⟩
    have no : ∀ H', ¬ (1 ≤ w.length ∧ w.length ≤ 20 ∧ (TL.tl w).all isDg = true ∧ ¬ ((TL.tl w)[0]? = some 48 ∧ 1 < w.length)) → Same H H' → Q .non H' := fun H' h s => by
      rw [← num_none h]
      exact q _ s
    refine ⟨.str w, rfl, w, rfl, hl, _, _, rfl, rfl, _, rfl, ite2 (fun c1 => ?_) (fun c1 => ?_)⟩
    · have c1 : (1 : Int) ≤ (w.length : Nat) := of_decide_eq_true c1
      refine ⟨_, _, rfl, rfl, _, rfl, ite2 (fun c2 => ?_) (fun c2 => ?_)⟩
      · have c2 : ¬ ((w.length : Nat) : Int) ≤ 20 := of_decide_eq_false (by simpa using c2)
        exact no H (fun z => c2 (by omega)) (Same.refl _)
      · have c2 : ((w.length : Nat) : Int) ≤ 20 := by
          by_cases z : ((w.length : Nat) : Int) ≤ 20
          · exact z
          · exact absurd (by rw [decide_eq_false z]; rfl) c2
        have ew : w.cps.size = (TL.tl w).length := TL.len_tl w
        have el : w.length = (TL.tl w).length := TL.len_tl w
        refine ⟨.str w, rfl, w, rfl, fun D nD => ?_⟩
        refine lc_it (walk_str (z := w)) (fun i G => Same H G ∧ G D = some (.lst ((((TL.tl w).take i).map isDg).map V.bl))) ⟨same_upd nD, upd_same⟩ (fun _ _ _ _ => trivial) (fun i x G G' hi s yy => ?_) (fun G s => ?_)
        · obtain ⟨rfl, c, hc, rfl⟩ := yy
          have hc2 : (TL.tl w)[i]? = some c := by
            show w.cps.toList[i]? = _
            rw [Array.getElem?_toList]
            exact hc
          refine ⟨rfl, ?_⟩
          delta tYes
          refine ite2 (fun _ => ?_) (fun z => absurd rfl z)
          refine ⟨.str ⟨#[c]⟩, rfl, c, "0123456789", rfl, rfl, _, s.2, ?_, fun b o e => by rw [upd_ne (ne_of_none e nD)]; exact s.1 _ _ e, ?_⟩
          · rw [List.length_map, List.length_map, List.length_take]
            exact small1000 (Nat.le_trans (Nat.min_le_right _ _) (by omega))
          · rw [upd_same, in_ten, List.take_add_one, hc2]
            simp only [List.map_append, Option.toList_some, List.map_cons, List.map_nil]
        · have sG := s.1
          refine ⟨D, _, rfl, .inl (.inl s.2), ?_⟩
          rw [List.take_of_length_le (by omega)]
          have eall : ((TL.tl w).map isDg).all _root_.id = (TL.tl w).all isDg := by rw [List.all_map]; rfl
          show ∃ c, V.bl (((TL.tl w).map isDg).all _root_.id) = V.bl c ∧ _
          rw [eall]
          refine ⟨_, rfl, ite2 (fun c3 => ?_) (fun c3 => ?_)⟩
          · exact no G (fun z => by rw [z.2.2.1] at c3; cases c3) sG
          · have c3 : (TL.tl w).all isDg = true := by
              cases h : (TL.tl w).all isDg
              · rw [h] at c3; exact absurd rfl c3
              · rfl
            have g0 := tlw_get (w := w) (k := 0) (by omega)
            generalize hz : (TL.tl w)[0]'(by rw [← TL.len_tl]; omega) = z0 at g0
            have g1 : (TL.tl w)[0]? = some z0 := by rw [← hz]; exact List.getElem?_eq_getElem _
            have e48 : decide (V.str ⟨#[z0]⟩ = V.str "0") = decide (z0 = 48) := by
              rw [Bool.eq_iff_iff, decide_eq_true_eq, decide_eq_true_eq]
              constructor
              · intro h
                injection h with h
                have := congrArg TL.tl h
                rw [TL.tl_ofString] at this
                exact List.head_eq_of_cons_eq this
              · intro h
                rw [h]
                rfl
            refine ⟨.str w, rfl, w, 0, z0, rfl, rfl, hl, g0, rfl, ?_⟩
            rw [e48]
            refine ⟨_, rfl, ite2 (fun c4 => ?_) (fun c4 => ?_)⟩
            · have c4 : z0 = 48 := of_decide_eq_true c4
              refine ⟨.str w, rfl, w, rfl, hl, _, _, rfl, rfl, _, rfl, ite2 (fun c5 => ?_) (fun c5 => ?_)⟩
              · exact no G (fun z => z.2.2.2 ⟨by rw [g1, c4], by have := of_decide_eq_true c5; omega⟩) sG
              · have c5 : ¬ (1 : Int) < (w.length : Nat) := of_decide_eq_false (by simpa using c5)
                obtain ⟨n, hn⟩ := num_some (w := w) ⟨by omega, by omega, c3, fun z => c5 (by omega)⟩
                refine ⟨.str w, rfl, w, n, rfl, numOf_int hn, Nat.le_trans (by omega : w.length ≤ 20) (by decide), ?_⟩
                have := q G sG
                rw [hn] at this
                exact this
            · have c4 : ¬ z0 = 48 := of_decide_eq_false (by simpa using c4)
              obtain ⟨n, hn⟩ := num_some (w := w) ⟨by omega, by omega, c3, fun z => c4 (Option.some.inj (g1.symm.trans z.1))⟩
              refine ⟨.str w, rfl, w, n, rfl, numOf_int hn, Nat.le_trans (by omega : w.length ≤ 20) (by decide), ?_⟩
              have := q G sG
              rw [hn] at this
              exact this
    · have c1 : ¬ (1 : Int) ≤ (w.length : Nat) := of_decide_eq_false (by simpa using c1)
      exact ⟨_, rfl, ite2 (fun _ => no H (fun z => c1 (by omega)) (Same.refl _)) (fun z => absurd rfl z)⟩
end
end Ph

set_option maxHeartbeats 8000000
namespace Ph
open PySem PySem.Spec PyProof.Rows L2
theorem dec_e48 (z0 : Nat) : decide (V.str ⟨#[z0]⟩ = V.str "0") = decide (z0 = 48) := by
  rw [Bool.eq_iff_iff, decide_eq_true_eq, decide_eq_true_eq]
  constructor
  · intro h
    injection h with h
    have := congrArg TL.tl h
    rw [TL.tl_ofString] at this
    exact List.head_eq_of_cons_eq this
  · intro h
    rw [h]
    rfl
theorem str_empty {w : Str} : w = "" ↔ w.length = 0 := by
  constructor
  · intro h
    rw [h]
    rfl
  · intro h
    refine TL.ext_tl ?_
    rw [TL.len_tl] at h
    rw [List.length_eq_zero_iff.mp h]
    rfl
section
variable {P : Program} {w : World} {K : PySem.W.Frag} {mg : Str → Option Value} {base : Heap}
/-- the event of a line -/
def spEv (K : PySem.W.Frag) : Sp := fun vs H Q _ => ∃ (c : Addr) (C : List Nat) (l : Str), vs = [.ref c, .str l] ∧ SqT K H c ((C.map fun n : Nat => (n : Int)).map V.int) ∧ (∀ n ∈ C, 0 < n) ∧ l.length + 2 ≤ sizeLine ∧ Gw l ∧
  (∀ H', Same H H' → tevOf C (wordsT l) = none → Q .non H') ∧ ∀ H' T e, Same H H' → tevOf C (wordsT l) = some e → H' T = some (.tup (tevV e)) → Q (.ref T) H'
theorem tev_none {C : List Nat} {ws : List Str} (h0 : ¬ (ws.length = 2 ∧ ws[0]? = some ("free" : Str))) (h : ws.length < 3 ∨ ws[0]? ≠ some ("get" : Str)) : tevOf C ws = none := by
  unfold tevOf
  rw [if_neg h0, if_pos h]
theorem tev_free {C : List Nat} {ws : List Str} (h0 : ws.length = 2 ∧ ws[0]? = some ("free" : Str)) : tevOf C ws = (numOf (ws.getD 1 Str.empty)).map .free := by
  unfold tevOf
  rw [if_pos h0]
theorem tev_size {C : List Nat} {ws : List Str} (h0 : ¬ (ws.length = 2 ∧ ws[0]? = some ("free" : Str))) (h : ¬ (ws.length < 3 ∨ ws[0]? ≠ some ("get" : Str))) (n : ∀ s, numOf (ws.getD 1 Str.empty) = some s → s ∉ C) : tevOf C ws = none := by
  unfold tevOf
  rw [if_neg h0, if_neg h]
  split
  · rfl
  · rename_i s hs
    rw [if_pos (n s hs)]
theorem tev_get {C : List Nat} {ws : List Str} {s : Nat} (h0 : ¬ (ws.length = 2 ∧ ws[0]? = some ("free" : Str))) (h : ¬ (ws.length < 3 ∨ ws[0]? ≠ some ("get" : Str))) (n : numOf (ws.getD 1 Str.empty) = some s) (m : s ∈ C) : tevOf C ws =
      if ws.drop 2 = [("fails" : Str)] then some (.bad s)
      else if ws.length ≠ 4 ∨ ws[2]? ≠ some ("at" : Str) then none
      else match numOf (ws.getD 3 Str.empty) with
        | none => none
        | some a => if a % s ≠ 0 then none else some (.get s a) := by
  unfold tevOf
  rw [if_neg h0, if_neg h, n]
  dsimp only
  exact if_neg (fun z => z m)
theorem ok_Ei {k : Nat} (Z : Fns K mg) : FnOk P w K mg base CX0 (k + 1 + 1 + 1) Z.fEi Z.fdEi ["chain", "line"] (spEv K) := by
  have GNi : FnOk P w K mg base CX0 (k + 1) Z.fNi Z.fdNi ["text"] spNi := ok_Ni Z
  have GZ : FnOk P w K mg base CX0 (k + 1 + 1) Z.fZ Z.fdZ ["chain", "value"] (spZo K) := ok_Z Z
  refine Z.FEi.ok scEi (fun vs H Q E h => ?_) (fun cdv A outer s H vs Q E hr h => ?_)
  · obtain ⟨c, C, l, rfl, _⟩ := h
    rfl
  · obtain ⟨c, C, l, rfl, hc, hC, hl, gl, q0, q1⟩ := h
    have hu64 := u64_of hr
    refine ⟨_, (pss_cons (ps_set (i := 2) scEi.nd rfl (.inl rfl) (pe_bm PySem.F.plainAttrs_str PySem.F.slot_str_split PySem.F.type_str_split mt_split (pv 1) (pa_cons pe_str pa_nil)))
 (pss_cons (ps_if (PW.pt (pw_and (pt_cmpR op_eq (pe_callB call_len_seq (by rfl) Z.N.len (by decide +kernel) (pa_cons (pv 2) pa_nil)) pe_int (nomark _)) (pw_and1 (pt_cmpR op_eq (pe_ix ix_list (pv 2) pe_int (fun _ _ => rfl)) pe_str (nomark _)))))
 (pss_cons (ps_set (i := 3) scEi.nd rfl (.inl rfl) (pe_call GNi (hr.mono (by omega)) (by rfl) Z.gNi Z.FNi.kp Z.bNi .nil pass0 (pa_cons (pe_ix ix_list (pv 2) pe_int (fun _ _ => rfl)) pa_nil)))
 (pss_one (ps_ret (pe_ifExp (pt_cmpR op_isN (pv 3) pe_non (nomark _)) pe_non (pe_tup (pa_cons pe_str (pa_cons (pv 3) pa_nil))))))) pss_nil)
 (pss_cons (ps_if (PW.pt (pw_or (pt_cmpR op_lt (pe_callB call_len_seq (by rfl) Z.N.len (by decide +kernel) (pa_cons (pv 2) pa_nil)) pe_int (nomark _)) (pw_or1 (pt_cmpR op_ne (pe_ix ix_list (pv 2) pe_int (fun _ _ => rfl)) pe_str (nomark _)))))
 (pss_one (ps_ret pe_non)) pss_nil)
 (pss_cons (ps_set (i := 4) scEi.nd rfl (.inl rfl) (pe_call GNi (hr.mono (by omega)) (by rfl) Z.gNi Z.FNi.kp Z.bNi .nil pass0 (pa_cons (pe_ix ix_list (pv 2) pe_int (fun _ _ => rfl)) pa_nil)))
 (pss_cons (ps_if (pt_not (pt_val (pe_call GZ (hr.mono (by omega)) (by rfl) Z.gZ Z.FZ.kp Z.bZ .nil pass0 (pa_cons (pv 0) (pa_cons (pv 4) pa_nil)))))
 (pss_one (ps_ret pe_non)) pss_nil)
 (pss_cons (ps_if (pt_cmpR (op_eqD hu64) (pe_slice sl_list (pv 2) (po_some pe_int) po_none) (pe_lst (pa_cons pe_str pa_nil)) (nomark _))
 (pss_one (ps_ret (pe_tup (pa_cons pe_str (pa_cons (pv 4) (pa_cons pe_non pa_nil)))))) pss_nil)
 (pss_cons (ps_if (PW.pt (pw_or (pt_cmpR op_ne (pe_callB call_len_seq (by rfl) Z.N.len (by decide +kernel) (pa_cons (pv 2) pa_nil)) pe_int (nomark _)) (pw_or1 (pt_cmpR op_ne (pe_ix ix_list (pv 2) pe_int (fun _ _ => rfl)) pe_str (nomark _)))))
 (pss_one (ps_ret pe_non)) pss_nil)
 (pss_cons (ps_set (i := 3) scEi.nd rfl (.inl rfl) (pe_call GNi (hr.mono (by omega)) (by rfl) Z.gNi Z.FNi.kp Z.bNi .nil pass0 (pa_cons (pe_ix ix_list (pv 2) pe_int (fun _ _ => rfl)) pa_nil)))
 (pss_cons (ps_if (PW.pt (pw_or (pt_cmpR op_isN (pv 3) pe_non (nomark _)) (pw_or1 (pt_cmpR op_ne (pe_op op_mod (pv 3) (pv 4)) pe_int (nomark _)))))
 (pss_one (ps_ret pe_non)) pss_nil)
 (pss_one (ps_ret (pe_tup (pa_cons pe_str (pa_cons (pv 4) (pa_cons (pv 3) pa_nil))))))))))))))), ?_⟩
    refine ⟨.str l, rfl, rfl, l, " ", rfl, rfl, by decide +kernel, hl, fun W nW => ?_⟩
    have s1 := same_upd (o := .lst ((Txt.split l " ").map V.str)) nW
    have hW0 : upd H W (.lst ((Txt.split l " ").map V.str)) W = some (.lst ((Txt.split l " ").map V.str)) := upd_same
    generalize upd H W (.lst ((Txt.split l " ").map V.str)) = H1 at s1 hW0 ⊢
    have wl := wordsT_len l
    have wle := fun (x : Str) (hx : x ∈ wordsT l) => wordsT_le hx
    have wne := wordsT_ne l
    have gw := fun (x : Str) (hx : x ∈ wordsT l) => gl.words hx
    have q1' := fun (H' : Hp) (T : Addr) (e : Tev) (s : Same H1 H') => q1 H' T e (s1.trans s)
    have q0' := fun (H' : Hp) (s : Same H1 H') => q0 H' (s1.trans s)
    change H1 W = some (.lst ((wordsT l).map V.str)) at hW0
    generalize wordsT l = ws at hW0 wl wle wne gw q0' q1'
    clear q0 q1 nW
    have hW : SqL K H1 W (ws.map V.str) := .inl (.inl hW0)
    have lW : ((ws.map V.str).length : Int) = (ws.length : Nat) := by rw [List.length_map]
    obtain ⟨w0, e0⟩ : ∃ w0, ws[0]? = some w0 := by
      cases ws with
      | nil => exact absurd rfl wne
      | cons a r => exact ⟨a, rfl⟩
    dsimp only [gName]
    refine seq_splitT (fun σ' H' => σ' = [some (.ref c), some (.str l), some (.ref W), none, none] ∧ H' = H1 ∧ ¬ (ws.length = 2 ∧ ws[0]? = some ("free" : Str))) (fun D' rt1 hD' => ?_) ?_
    · refine ⟨.ref W, rfl, W, _, rfl, .inl hW, rfl, ?_⟩
      rw [dec_int2, lW]
      refine ⟨_, rfl, ite2 (fun c1 => ?_) (fun c1 => ?_)⟩
      · have c1 : ws.length = 2 := by have := of_decide_eq_true c1; omega
        refine ⟨.ref W, rfl, W, _, 0, _, rfl, rfl, hW, ix_strs e0, rfl, ?_⟩
        rw [dec_str]
        refine ⟨_, rfl, ite2 (fun c2 => ?_) (fun c2 => ?_)⟩
        · have c2 : w0 = "free" := of_decide_eq_true c2
          have cc : ws.length = 2 ∧ ws[0]? = some ("free" : Str) := ⟨c1, by rw [e0, c2]⟩
          obtain ⟨w1, e1⟩ : ∃ w1, ws[1]? = some w1 := ⟨_, List.getElem?_eq_getElem (by omega)⟩
          have g1 : ws.getD 1 Str.empty = w1 := by rw [List.getD_eq_getElem?_getD, e1]; rfl
          refine ⟨.ref W, rfl, W, _, 1, _, rfl, rfl, hW, ix_strs e1, w1, rfl, by have := wle w1 (List.mem_of_getElem? e1); omega, fun H2 s2 => ?_⟩
          have tf := tev_free (C := C) cc
          rw [g1] at tf
          have r0 : tevOf C ws = none → D'.rt .non H2 := fun z => by rw [rt1]; exact q0' H2 s2 z
          have r1 : ∀ H' T e, Same H2 H' → tevOf C ws = some e → H' T = some (.tup (tevV e)) → D'.rt (.ref T) H' := fun H' T e s z y => by rw [rt1]; exact q1' H' T e (s2.trans s) z y
          cases hn : numOf w1 with
          | none =>
            rw [hn] at tf
            exact ⟨.non, rfl, rfl, _, rfl, ite2 (fun _ => r0 tf) (fun z => absurd rfl z)⟩
          | some n =>
            rw [hn] at tf
            refine ⟨.int n, rfl, rfl, _, rfl, ite2 (fun z => nomatch (of_decide_eq_true z)) (fun _ => ⟨.int n, rfl, (by show 2 ≤ sizeLine; decide), fun T nT => ?_⟩)⟩
            exact r1 _ T (.free n) (same_upd nT) tf upd_same
        · have c2 : ¬ w0 = "free" := fun z => c2 (decide_eq_true z)
          exact hD' _ _ ⟨rfl, rfl, fun z => c2 (Option.some.inj (e0.symm.trans z.2))⟩
      · have c1 : ¬ ws.length = 2 := fun z => c1 (decide_eq_true (by omega))
        exact hD' _ _ ⟨rfl, rfl, fun z => c1 z.1⟩
    rintro σ1 G1 ⟨rfl, rfl, nf⟩
    refine seq_splitT (fun σ' H' => σ' = [some (.ref c), some (.str l), some (.ref W), none, none] ∧ H' = G1 ∧ ¬ (ws.length < 3 ∨ ws[0]? ≠ some ("get" : Str))) (fun D' rt1 hD' => ?_) ?_
    · have no : (ws.length < 3 ∨ ws[0]? ≠ some ("get" : Str)) → D'.rt .non G1 := fun h => by
        rw [rt1]
        exact q0' G1 (Same.refl _) (tev_none nf h)
      refine ⟨.ref W, rfl, W, _, rfl, .inl hW, _, _, rfl, rfl, ?_⟩
      rw [lW]
      refine ⟨_, rfl, ite2 (fun c1 => ?_) (fun c1 => ?_)⟩
      · exact no (.inl (by have := of_decide_eq_true c1; omega))
      · have c1 : ¬ ws.length < 3 := fun z => c1 (decide_eq_true (by omega))
        refine ⟨.ref W, rfl, W, _, 0, _, rfl, rfl, hW, ix_strs e0, rfl, ?_⟩
        rw [dec_str]
        refine ⟨_, rfl, ite2 (fun c2 => ?_) (fun c2 => ?_)⟩
        · have c2 : ¬ w0 = "get" := by simpa using c2
          exact no (.inr fun z => c2 (Option.some.inj (e0.symm.trans z)))
        · have c2 : w0 = "get" := by simpa using c2
          exact hD' _ _ ⟨rfl, rfl, fun z => z.elim c1 (fun z => z (by rw [e0, c2]))⟩
    rintro σ1 G2 ⟨rfl, rfl, ng⟩
    have l3 : 3 ≤ ws.length := Nat.le_of_not_lt fun z => ng (.inl z)
    obtain ⟨w1, e1⟩ : ∃ w1, ws[1]? = some w1 := ⟨_, List.getElem?_eq_getElem (by omega)⟩
    obtain ⟨w2, e2⟩ : ∃ w2, ws[2]? = some w2 := ⟨_, List.getElem?_eq_getElem (by omega)⟩
    have g1 : ws.getD 1 Str.empty = w1 := by rw [List.getD_eq_getElem?_getD, e1]; rfl
    refine ⟨.ref W, rfl, W, _, 1, _, rfl, rfl, hW, ix_strs e1, w1, rfl, by have := wle w1 (List.mem_of_getElem? e1); omega, fun H2 s2 => ?_⟩
    dsimp only [gName]
    refine ⟨.ref c, rfl, numV (numOf w1), rfl, c, C, numOf w1, rfl, (s1.trans s2).tup hc, ?_⟩
    have q0s := fun (h : tevOf C ws = none) (H' : Hp) (s : Same H2 H') => q0' H' (s2.trans s) h
    by_cases hz : ∃ s, numOf w1 = some s ∧ s ∈ C
    · obtain ⟨z, hz, hm⟩ := hz
      have tg := tev_get nf ng (by rw [g1]; exact hz) hm
      have z0 := hC z hm
      have hW2 : SqL K H2 W (ws.map V.str) := .inl (.inl (s2 _ _ hW0))
      have ei : inO (numOf w1) C = true := by rw [hz]; exact decide_eq_true hm
      rw [ei, hz]
      refine ⟨_, rfl, ite2 (fun y => absurd y (by decide)) (fun _ => ?_)⟩
      refine ⟨.ref W, rfl, 2, rfl, W, _, rfl, hW2, fun L nL => ?_⟩
      have cl : cutV (ws.map V.str) (some ((2 : Nat) : Int)) none = (ws.drop 2).map V.str := by rw [cut_sufT (by rw [List.length_map]; omega), List.map_drop]
      have sL := same_upd (o := .lst (cutV (ws.map V.str) (some ((2 : Nat) : Int)) none)) nL
      have hL0 : upd H2 L (.lst (cutV (ws.map V.str) (some ((2 : Nat) : Int)) none)) L = some (.lst ((ws.drop 2).map V.str)) := by rw [upd_same, cl]
      change (fun (x : V) (H1 : Hp) => _) (.ref L) (upd H2 L (.lst (cutV (ws.map V.str) (some ((2 : Nat) : Int)) none)))
      generalize upd H2 L (.lst (cutV (ws.map V.str) (some ((2 : Nat) : Int)) none)) = H3 at sL hL0 ⊢
      refine ⟨(by show 1 ≤ sizeLine; decide), fun F nF => ?_⟩
      have sF := same_upd (o := .lst [V.str "fails"]) nF
      have hF0 : upd H3 F (.lst [V.str "fails"]) F = some (.lst [V.str "fails"]) := upd_same
      generalize upd H3 F (.lst [V.str "fails"]) = H4 at sF hF0 ⊢
      have s24 : Same H2 H4 := sL.trans sF
      refine ⟨.list ((ws.drop 2).map PyData.str), .list ([("fails" : Str)].map PyData.str), .lst (.inl (.inl (sF _ _ hL0))) (dp_strs _), .lst (.inl (.inl hF0)) (dp_strs [("fails" : Str)]), stD_shaped _ (fun x hx => gw x (List.mem_of_mem_drop hx)), stD_shaped [("fails" : Str)] (fun x hx => by rw [List.mem_singleton.mp hx]; exact Gw.lit (by decide +kernel)), ?_⟩
      rw [sD_eqv]
      refine ⟨_, rfl, ite2 (fun y => ?_) (fun y => ?_)⟩
      · have y : ws.drop 2 = [("fails" : Str)] := of_decide_eq_true y
        rw [if_pos y] at tg
        exact ⟨.int z, rfl, (by show 3 ≤ sizeLine; decide), fun T nT => q1' _ T (.bad z) (s2.trans (s24.trans (same_upd nT))) tg upd_same⟩
      · have y : ¬ ws.drop 2 = [("fails" : Str)] := fun x => y (decide_eq_true x)
        rw [if_neg y] at tg
        have hW4 : SqL K H4 W (ws.map V.str) := .inl (.inl (s24 _ _ (s2 _ _ hW0)))
        delta tNext
        dsimp only
        refine seq_splitT (fun σ' H' => σ' = [some (.ref c), some (.str l), some (.ref W), none, some (.int z)] ∧ H' = H4 ∧ ¬ (ws.length ≠ 4 ∨ ws[2]? ≠ some ("at" : Str))) (fun D' rt1 hD' => ?_) ?_
        · have no : (ws.length ≠ 4 ∨ ws[2]? ≠ some ("at" : Str)) → D'.rt .non H4 := fun h => by
            rw [rt1]
            rw [if_pos h] at tg
            exact q0s tg H4 s24
          refine ⟨.ref W, rfl, W, _, rfl, .inl hW4, rfl, ?_⟩
          rw [dec_int2, lW]
          refine ⟨_, rfl, ite2 (fun c1 => ?_) (fun c1 => ?_)⟩
          · have c1 : ¬ ((ws.length : Nat) : Int) = 4 := by simpa using c1
            exact no (.inl (by omega))
          · have c1 : ((ws.length : Nat) : Int) = 4 := by simpa using c1
            refine ⟨.ref W, rfl, W, _, 2, _, rfl, rfl, hW4, ix_strs e2, rfl, ?_⟩
            rw [dec_str]
            refine ⟨_, rfl, ite2 (fun c2 => ?_) (fun c2 => ?_)⟩
            · have c2 : ¬ w2 = "at" := by simpa using c2
              exact no (.inr fun z => c2 (Option.some.inj (e2.symm.trans z)))
            · have c2 : w2 = "at" := by simpa using c2
              exact hD' _ _ ⟨rfl, rfl, fun z => z.elim (fun z => z (by omega)) (fun z => z (by rw [e2, c2]))⟩
        rintro σ1 G3 ⟨rfl, rfl, na⟩
        rw [if_neg na] at tg
        have l4 : ws.length = 4 := by
          by_cases h : ws.length = 4
          · exact h
          · exact absurd (.inl h) na
        obtain ⟨w3, e3⟩ : ∃ w3, ws[3]? = some w3 := ⟨_, List.getElem?_eq_getElem (by omega)⟩
        have g3 : ws.getD 3 Str.empty = w3 := by rw [List.getD_eq_getElem?_getD, e3]; rfl
        rw [g3] at tg
        refine ⟨.ref W, rfl, W, _, 3, _, rfl, rfl, hW4, ix_strs e3, w3, rfl, by have := wle w3 (List.mem_of_getElem? e3); omega, fun H5 s5 => ?_⟩
        dsimp only [gName]
        have s25 := s24.trans s5
        cases hn : numOf w3 with
        | none =>
          rw [hn] at tg
          exact ⟨.non, rfl, rfl, _, rfl, ite2 (fun _ => q0s tg H5 s25) (fun z => absurd rfl z)⟩
        | some n =>
          rw [hn] at tg
          dsimp only at tg
          refine ⟨.int n, rfl, rfl, _, rfl, ite2 (fun z => nomatch (of_decide_eq_true z)) (fun _ => ?_)⟩
          refine ⟨.int n, rfl, .int z, rfl, n, z, rfl, rfl, by omega, rfl, ?_⟩
          rw [dec_int2]
          have em : ((n : Int) % (z : Int) = 0) ↔ n % z = 0 := by
            rw [← Int.natCast_emod]
            omega
          refine ⟨_, rfl, ite2 (fun c5 => ?_) (fun c5 => ?_)⟩
          · have c5 : ¬ n % z = 0 := fun y => by
              rw [decide_eq_true (em.mpr y)] at c5
              cases c5
            rw [if_pos c5] at tg
            exact q0s tg H5 s25
          · have c5 : n % z = 0 := by
              by_cases y : n % z = 0
              · exact y
              · exact absurd (by rw [decide_eq_false (fun h => y (em.mp h))]; rfl) c5
            rw [if_neg (fun h => h c5)] at tg
            exact ⟨.int z, rfl, .int n, rfl, (by show 3 ≤ sizeLine; decide), fun T nT => q1' _ T (.get z n) (s2.trans (s25.trans (same_upd nT))) tg upd_same⟩
    · have n : ∀ s, numOf (ws.getD 1 Str.empty) = some s → s ∉ C := fun s e m => hz ⟨s, by rw [← g1]; exact e, m⟩
      have eb : inO (numOf w1) C = false := by
        cases hn : numOf w1 with
        | none => rfl
        | some s => exact decide_eq_false fun m => hz ⟨s, hn, m⟩
      rw [eb]
      exact ⟨_, rfl, ite2 (fun _ => q0s (tev_size nf ng n) H2 (Same.refl _)) (fun z => absurd rfl z)⟩
end
end Ph

set_option maxHeartbeats 8000000
namespace Ph
open PySem PySem.Spec PyProof.Rows L2
theorem drop_fails {ws : List Str} {f : Str} : ws.drop 2 = [f] ↔ ws.length = 3 ∧ ws[2]? = some f := by
  constructor
  · intro h
    have l := congrArg List.length h
    rw [List.length_drop] at l
    simp only [List.length_cons, List.length_nil] at l
    refine ⟨by omega, ?_⟩
    have := congrArg (fun l : List Str => l[0]?) h
    simpa [List.getElem?_drop] using this
  · rintro ⟨l, e⟩
    match ws, l, e with
    | [a, b, c], _, e => 
      have : c = f := Option.some.inj e
      rw [this]
      rfl
section
variable {P : Program} {w : World} {K : PySem.W.Frag} {mg : Str → Option Value} {base : Heap}
def spRh (K : PySem.W.Frag) (CB : Addr) : Sp := fun vs H Q E => ∃ (c : Addr) (C : List Nat) (x : Str), vs = [.ref c, .str x] ∧ SqT K H c ((C.map fun n : Nat => (n : Int)).map V.int) ∧ (∀ n ∈ C, 0 < n) ∧ x.length ≤ 40000 ∧ Gw x ∧
  (∀ n, hisOf C x = .inl n → ErrX CB "row" (.int n) H E) ∧ ∀ H' T es ys, Same H H' → hisOf C x = .inr es → H' T = some (.tup ys) → TevS H' ys es → Q (.ref T) H'
theorem okX_Rh {k : Nat} (Z : Fns K mg) : FnOk P w K mg base (L2.CX P w) (k + 1 + 1 + 1 + 1) Z.fRh Z.fdRh ["chain", "text"] (spRh K Z.CBadText) := by
  have XCr : FnOk P w K mg base (L2.CX P w) (k + 1 + 1 + 1) Z.fCr Z.fdCr ["row", "right"] (spCr Z.CBadText) := okX_Cr Z
  have XLi : FnOk P w K mg base (L2.CX P w) (k + 1 + 1 + 1) Z.fLi Z.fdLi ["text"] (spLi Z.CBadText) := okX_Li Z
  have GEi : FnOk P w K mg base CX0 (k + 1 + 1 + 1) Z.fEi Z.fdEi ["chain", "line"] (spEv K) := ok_Ei Z
  refine Z.FRh.okX scRh (fun vs H Q E h => ?_) (fun cdv A outer s H vs Q E hr h => ?_)
  · obtain ⟨c, C, x, rfl, _⟩ := h
    rfl
  · obtain ⟨c, C, x, rfl, hc, hC, hl, gx, qe, q⟩ := h
    refine ⟨_, (pss_cons (ps_set (i := 2) scRh.nd rfl (.inl rfl) (pe_call XLi (hr.mono (by omega)) (by rfl) Z.gLi Z.FLi.kp Z.bLi .nil (passes_call (takes_of rfl rfl rfl rfl) (fun _ _ _ _ h => h)) (pa_cons (pv 1) pa_nil)))
 (pss_cons (ps_if (pt_cmpR op_eq (pe_ix ix_list (pv 2) pe_int (fun _ _ => rfl)) pe_str (nomark _))
 (pss_cons (ps_expr (pe_call XCr (hr.mono (by omega)) (by rfl) Z.gCr Z.FCr.kp Z.bCr .nil (passes_call (takes_of rfl rfl rfl rfl) (fun _ _ _ _ h => h)) (pa_cons pe_int (pa_cons (pe_cmpR op_eq (pe_callB call_len_seq (by rfl) Z.N.len (by decide +kernel) (pa_cons (pv 2) pa_nil)) pe_int (nomark _)) pa_nil))))
 (pss_one (ps_ret (pe_tup pa_nil)))) pss_nil)
 (pss_cons (ps_set (i := 3) scRh.nd rfl (.inl rfl) (pe_lst pa_nil))
 (pss_cons (ps_for (passes_of rfl) rfl (pi_enum (by rfl) Z.N.enumerate (pa_cons (pv 2) pa_nil)) (pg_tup (by rfl) (pgs_cons (pg_name (i := 4) scRh.nd rfl (.inl rfl)) (pgs_cons (pg_name (i := 5) scRh.nd rfl (.inl rfl)) pgs_nil)))
 (pss_cons (ps_expr (pe_call XCr (hr.mono (by omega)) (by rfl) Z.gCr Z.FCr.kp Z.bCr .nil (passes_call (takes_of rfl rfl rfl rfl) (fun _ _ _ _ h => h)) (pa_cons (pv 4) (pa_cons (pe_or (pe_notT (pv 3)) (pe_one (pe_cmpR op_notN (pe_ix ix_tup (pe_ix ix_list (pv 3) (pe_un un_neg pe_int) (fun _ _ => rfl)) (pe_un un_neg pe_int) (fun _ _ => rfl)) pe_non (nomark _)))) pa_nil))))
 (pss_cons (ps_set (i := 6) scRh.nd rfl (.inl rfl) (pe_call GEi (hr.mono (by omega)) (by rfl) Z.gEi Z.FEi.kp Z.bEi .nil pass0 (pa_cons (pv 0) (pa_cons (pv 5) pa_nil))))
 (pss_cons (ps_expr (pe_call XCr (hr.mono (by omega)) (by rfl) Z.gCr Z.FCr.kp Z.bCr .nil (passes_call (takes_of rfl rfl rfl rfl) (fun _ _ _ _ h => h)) (pa_cons (pv 4) (pa_cons (pe_cmpR op_notN (pv 6) pe_non (nomark _)) pa_nil))))
 (pss_one (ps_expr (pe_bm PySem.F.plainAttrs_list PySem.F.slot_list_append PySem.F.type_list_append mt_append (pv 3) (pa_cons (pv 6) pa_nil))))))))
 (pss_one (ps_ret (pe_callTy call_tuple_of (by rfl) Z.N.tuple (by decide +kernel) (pa_cons (pv 3) pa_nil)))))))), ?_⟩
    refine ⟨.str x, rfl, x, rfl, by have : sizeLine = 16777216 := (by decide); omega, fun L nL => ?_⟩
    have sH1 := same_upd (o := .lst ((linesT x).map V.str)) nL
    have hL0 : upd H L (.lst ((linesT x).map V.str)) L = some (.lst ((linesT x).map V.str)) := upd_same
    generalize upd H L (.lst ((linesT x).map V.str)) = H1 at sH1 hL0 ⊢
    have lne := linesT_ne x
    have llen := linesT_len x
    have lle := fun (l : Str) (h : l ∈ linesT x) => linesT_le h
    have lgw := fun (l : Str) (h : l ∈ linesT x) => gx.lines h
    have lT : (((linesT x).map V.str).length : Int) = ((linesT x).length : Nat) := by rw [List.length_map]
    have hL : SqL K H1 L ((linesT x).map V.str) := .inl (.inl hL0)
    obtain ⟨l0, e0⟩ : ∃ l0, (linesT x)[0]? = some l0 := by
      cases h : linesT x with
      | nil => exact absurd h lne
      | cons a r => exact ⟨a, rfl⟩
    dsimp only [gName]
    refine seq_splitT (fun σ' H' => σ' = [some (.ref c), some (.str x), some (.ref L), none, none, none, none] ∧ H' = H1 ∧ ¬ (linesT x)[0]? = some ("-" : Str)) (fun D' rt1 hD' => ?_) ?_
    · refine ⟨.ref L, rfl, L, _, 0, _, rfl, rfl, hL, ix_strs e0, rfl, ?_⟩
      rw [dec_str]
      refine ⟨_, rfl, ite2 (fun c1 => ?_) (fun c1 => ?_)⟩
      · have c1 : l0 = "-" := of_decide_eq_true c1
        refine ⟨.ref L, rfl, L, _, rfl, .inl hL, rfl, ?_⟩
        rw [dec_int2, lT]
        by_cases c2 : (linesT x).length = 1
        · have ho : hisOf C x = .inr [] := by
            unfold hisOf
            rw [if_pos (by rw [e0, c1]), if_pos c2]
          refine ⟨1, _, rfl, .inl ⟨decide_eq_true (by omega), ?_⟩⟩
          refine ⟨(by show 0 ≤ sizeLine; decide), fun T nT => ?_⟩
          rw [rt1]
          exact q _ T [] [] (sH1.trans (same_upd nT)) ho upd_same .nil
        · have ho : hisOf C x = .inl 1 := by
            unfold hisOf
            rw [if_pos (by rw [e0, c1]), if_neg c2]
          exact ⟨1, _, rfl, .inr ⟨decide_eq_false (by omega), (qe 1 ho).from sH1⟩⟩
      · have c1 : ¬ l0 = "-" := fun z => c1 (decide_eq_true z)
        exact hD' _ _ ⟨rfl, rfl, fun z => c1 (Option.some.inj (e0.symm.trans z))⟩
    rintro σ1 G1 ⟨rfl, rfl, nd⟩
    have ho : hisOf C x = hisGo C (linesT x) 0 [] := by
      unfold hisOf
      rw [if_neg nd]
    refine ⟨(by show 0 ≤ sizeLine; decide), fun E0 nE => ?_⟩
    dsimp only [gName]
    have nEL : E0 ≠ L := (ne_of_none hL0 nE).symm
    have sH2 := same_upd (o := .lst []) nE
    have hE0 : upd G1 E0 (.lst []) E0 = some (.lst []) := upd_same
    have nEH : H E0 = none := by
      cases h : H E0 with
      | none => rfl
      | some o => rw [sH1 _ _ h] at nE; cases nE
    generalize upd G1 E0 (.lst []) = H2 at sH2 hE0 ⊢
    refine ⟨.ref L, rfl, L, _, rfl, .inl (.inl (sH2 _ _ hL0)), ?_⟩
    refine for_it (walk_enum (K := K) (a := L) (xs := (linesT x).map V.str)) (fun i σ G => ∃ y4 y5 y6 ys es, σ = [some (.ref c), some (.str x), some (.ref L), some (.ref E0), y4, y5, y6] ∧ Same H G ∧ G L = some (.lst ((linesT x).map V.str)) ∧ G E0 = some (.lst ys) ∧ TevS G ys es ∧ es.length = i ∧ hisOf C x = hisGo C ((linesT x).drop i) i es)
      ⟨none, none, none, [], [], rfl, sH1.trans sH2, sH2 _ _ hL0, hE0, .nil, rfl, ho⟩ ?_ ?_ ?_
    · rintro i σ G _ ⟨_, _, _, ys, es, _, _, hLG, _⟩
      exact .inl (.inl hLG)
    · rintro i v σ G G' hi ⟨y4, y5, y6, ys, es, rfl, sG, hLG, hEG, tv, le, hg⟩ ⟨T, x1, x2, rfl, nT, rfl, e1, e2⟩
      rw [List.length_map] at hi
      cases e1
      have e2 : ((linesT x).map V.str)[i]? = some x2 := e2
      obtain ⟨l, hl⟩ : ∃ l, (linesT x)[i]? = some l := ⟨_, List.getElem?_eq_getElem hi⟩
      rw [List.getElem?_map, hl] at e2
      cases e2
      have edr : (linesT x).drop i = l :: (linesT x).drop (i + 1) := by
        rw [List.drop_eq_getElem_cons hi]
        congr 1
        exact (List.getElem?_eq_some_iff.mp hl).2
      rw [edr] at hg
      unfold hisGo at hg
      have sT := same_upd (o := .tup [.int (i : Int), .str l]) nT
      refine ⟨T, _, rfl, .inl (.inl upd_same), rfl, _, _, rfl, _, _, rfl, rfl, ?_⟩
      have sG2 := sG.trans sT
      have hL2 := sT _ _ hLG
      have hE2 := sT _ _ hEG
      have tv2 := TevS.same sT tv
      generalize upd G T (.tup [.int (i : Int), .str l]) = G2 at *
      clear sT nT hLG hEG tv
      have lmem := List.mem_of_getElem? hl
      have hEL : SqL K G2 E0 ys := .inl (.inl hE2)
      refine seq_splitT (fun σ' H' => σ' = [some (.ref c), some (.str x), some (.ref L), some (.ref E0), some (.int (i : Int)), some (.str l), y6] ∧ H' = G2 ∧ lastBad es = false) (fun D' rt1 hD' => ?_) ?_
      · rcases TevS.last tv2 with ⟨rfl, rfl⟩ | ⟨ys', t, es', e, rfl, rfl, ht⟩
        · refine ⟨.int i, rfl, .ref E0, rfl, false, .inl ⟨_, hEL, rfl⟩, _, rfl, ite2 (fun _ => ?_) (fun z => absurd rfl z)⟩
          exact ⟨i, true, rfl, .inl ⟨rfl, hD' _ _ ⟨rfl, rfl, rfl⟩⟩⟩
        · refine ⟨.int i, rfl, .ref E0, rfl, true, .inl ⟨_, hEL, by simp⟩, _, rfl, ite2 (fun z => absurd z (by decide)) (fun _ => ?_)⟩
          rw [lastBad_snoc] at hg
          refine ⟨.ref E0, rfl, 1, rfl, E0, _, -1, _, rfl, rfl, hEL, atI_last _ _, 1, rfl, t, _, -1, _, rfl, rfl, .inl (.inl ht), tev_last e, rfl, ?_⟩
          have eb : (!decide (e.lastV = V.non)) = !e.isBad := by
            cases e with
            | get s a => rfl
            | bad s => rfl
            | free a => rfl
          rw [eb]
          cases hb : e.isBad with
          | false => exact ⟨i, true, rfl, .inl ⟨rfl, hD' _ _ ⟨rfl, rfl, by rw [lastBad_snoc]; exact hb⟩⟩⟩
          | true =>
            rw [hb, if_pos rfl] at hg
            exact ⟨i, false, rfl, .inr ⟨rfl, (qe i hg).from sG2⟩⟩
      rintro σ2 G3 ⟨rfl, rfl, nb⟩
      rw [nb, if_neg (by decide)] at hg
      refine ⟨.ref c, rfl, .str l, rfl, c, C, l, rfl, sG2.tup hc, hC, ?_, lgw l lmem, fun G4 s4 hn => ?_, fun G4 t e s4 hn ht => ?_⟩
      · have := lle l lmem
        have : sizeLine = 16777216 := by decide
        omega
      · rw [hn] at hg
        dsimp only [gName]
        exact ⟨.int i, rfl, .non, rfl, rfl, i, false, rfl, .inr ⟨rfl, (qe i hg).from (sG2.trans s4)⟩⟩
      · rw [hn] at hg
        dsimp only [gName]
        refine ⟨.int i, rfl, .ref t, rfl, rfl, i, true, rfl, .inl ⟨rfl, ?_⟩⟩
        have hE4 := s4 _ _ hE2
        have tv4 := TevS.same s4 tv2
        refine ⟨.ref E0, rfl, .inl ⟨rfl, _, .inl (.inl hE4)⟩, .ref t, rfl, E0, ys, _, rfl, rfl, hE4, ?_, ?_⟩
        · rw [TevS.length tv4]
          have : sizeLine = 16777216 := by decide
          omega
        · have n1 : ∀ xs, G4 E0 ≠ some (.tup xs) := fun xs z => by rw [hE4] at z; cases z
          refine ⟨_, _, _, ys ++ [.ref t], es ++ [e], rfl, ?_, ?_, upd_same, ?_, by rw [List.length_append]; simp; omega, hg⟩
          · intro b o eb
            have nb : b ≠ E0 := ne_of_none eb nEH
            rw [upd_ne nb]
            exact (sG2.trans s4) _ _ eb
          · rw [upd_ne nEL.symm]
            exact s4 _ _ hL2
          · exact TevS.keep n1 (fun b o nb eb => by rw [upd_ne nb]; exact eb) (TevS.snoc ht tv4)
    · rintro σ G ⟨y4, y5, y6, ys, es, rfl, sG, hLG, hEG, tv, le, hg⟩
      rw [List.length_map, List.drop_length] at hg
      refine ⟨.ref E0, rfl, E0, ys, rfl, .inl ⟨.inl (.inl hEG), fun T nT => ?_⟩⟩
      have sT := same_upd (o := .tup ys) nT
      exact q _ T es ys (sG.trans sT) (by rw [hg]; rfl) upd_same (TevS.same sT tv)
end
end Ph

set_option maxHeartbeats 8000000
namespace Ph
open PySem PySem.Spec PyProof.Rows L2
theorem hu_1 {k : Nat} {A : Around} (h : Room k A) : A.units + 1 < cLine := by
  have := hu_of h
  omega
section
variable {X : Cx}
/-! ### t[lo:hi] of any tuple -/
def rSlQ (K : PySem.W.Frag) : V → Option Int → Option Int → Hp → VK → Prop := fun x lo hi H Q => ∃ a xs, x = .ref a ∧ SqT K H a xs ∧ ∀ p H', Same H H' → SqT K H' p (cutV xs lo hi) → Q (.ref p) H'
theorem sl_tupQ : SlR X (rSlQ X.K) := by
  intro pins s σ H x v vl vu lo hi sl Q I rx hs pl pu h
  obtain ⟨a, xs, rfl, hx, q⟩ := h
  exact sl_tupA pins s σ H _ v vl vu lo hi sl Q I rx hs pl pu ⟨a, xs, rfl, hx, fun hw => q a H (Same.refl H) (by rw [cut_whole hw]; exact hx), fun _ p np => q p _ (same_upd np) (.inl (.inl upd_same))⟩
end
theorem sl_tupQK {X : Cx} {K : PySem.W.Frag} (e : X.K = K) : SlR X (rSlQ K) := e ▸ sl_tupQ
theorem cut_fromI {xs : List V} {j : Nat} (h : j ≤ xs.length) : cutV xs (some (j : Int)) none = xs.drop j := by
  unfold cutV
  rw [show HT.sIx xs.length 0 (some (j : Int)) = min j xs.length from HT.sIx_nat xs.length 0 j, HT.sIx_none, Nat.min_eq_left h]
  exact List.take_of_length_le (by rw [List.length_drop]; exact Nat.le_refl _)
theorem cut_tailI (a : Int) (r : List Int) : cutV (((a :: r) : List Int).map V.int) (some 1) none = r.map V.int := by
  rw [show ((1 : Int)) = ((1 : Nat) : Int) from rfl, cut_fromI (j := 1) (by simp)]
  rfl
theorem dqAll_same {K : PySem.W.Frag} {H H' : Hp} (s : Same H H') : ∀ {xs : List V} {ds : List PyData}, DqAll K H xs ds → DqAll K H' xs ds
  | _, _, .nil => .nil
  | _, _, .cons h r => .cons (h.same s) (dqAll_same s r)
section
variable {P : Program} {w : World} {K : PySem.W.Frag} {mg : Str → Option Value} {base : Heap}
theorem ok_I2 {k : Nat} (Z : Fns K mg) : FnOk P w K mg base CX0 (k + 1) Z.fI Z.fdI ["value"] (spI2 K) := by
  refine Z.FI.ok scI (fun vs H Q E h => ?_) (fun cdv A outer s H vs Q E hr h => ?_)
  · obtain ⟨x, rfl, _⟩ := h
    rfl
  · obtain ⟨x, rfl, h⟩ := h
    refine ⟨_, (pss_one (ps_ret (pe_and (pe_callB call_isi (by rfl) Z.N.isinstance (by decide +kernel) (pa_cons (pv 0) (pa_cons (pe_bltn (v := .ty "int") (by rfl) Z.N.int (by decide +kernel) rfl) pa_nil))) (pe_one (pe_not (pe_callB call_isi (by rfl) Z.N.isinstance (by decide +kernel) (pa_cons (pv 0) (pa_cons (pe_bltn (v := .ty "bool") (by rfl) Z.N.bool (by decide +kernel) rfl) pa_nil)))))))), ?_⟩
    rcases h with ⟨i, rfl, q⟩ | ⟨n, q⟩
    · refine ⟨.int i, rfl, .int i, .ty "int", .type "int", .type "int", true, rfl, .ty _, .base (.int _), kit_ty (by decide +kernel), _, rfl, ite2 (fun _ => ?_) (fun c => absurd rfl c)⟩
      exact ⟨.int i, rfl, .int i, .ty "bool", .type "int", .type "bool", false, rfl, .ty _, .base (.int _), kit_ty (by decide +kernel), _, rfl, q⟩
    cases n with
    | bl b =>
      refine ⟨.bl b, rfl, .bl b, .ty "int", .type "bool", .type "int", true, rfl, .ty _, .base (.bl _), kit_ty (by decide +kernel), _, rfl, ite2 (fun _ => ?_) (fun c => absurd rfl c)⟩
      exact ⟨.bl b, rfl, .bl b, .ty "bool", .type "bool", .type "bool", true, rfl, .ty _, .base (.bl _), kit_ty (by decide +kernel), _, rfl, q⟩
    | @ty _ t h n =>
      exact ⟨x, rfl, x, .ty "int", .type t, .type "int", false, rfl, .ty _, h, kit_ty n, _, rfl, ite2 (fun c => absurd c (by decide)) (fun _ => q)⟩
end
/-! ### what a chain is, by its data -/
def fz (ns : List Int) (j : Nat) : Bool := decide (0 < ns.getD j 0 ∧ ns.getD j 0 < ns.getD (j + 1) 0 ∧ ns.getD (j + 1) 0 % ns.getD j 0 = 0)
def IsCL (ns : List Int) : Prop := 1 ≤ ns.length ∧ ns.length ≤ 12 ∧ ns.getD 0 0 = 1 ∧ ns.getD (ns.length - 1) 0 ≤ 1000000000 ∧ ∀ j, j < ns.length - 1 → fz ns j = true
def IsCD (d : PyData) : Prop := ∃ ns : List Int, d = .tuple (ns.map PyData.int) ∧ IsCL ns
def bI : V → Bool
  | .int _ => true
  | _ => false
theorem dqAll_ints {K : PySem.W.Frag} {H : Hp} : ∀ {xs : List V} {ds : List PyData}, DqAll K H xs ds → (xs.map bI).all id = true → ∃ ns : List Int, xs = ns.map V.int ∧ ds = ns.map PyData.int
  | _, _, .nil, _ => ⟨[], rfl, rfl⟩
  | _, _, .cons h r, e => by
    rw [List.map_cons, List.all_cons, Bool.and_eq_true] at e
    obtain ⟨ns, e1, e2⟩ := dqAll_ints r e.2
    cases h <;> first | exact absurd e.1 (by decide) | exact ⟨_ :: ns, by rw [e1]; rfl, by rw [e2]; rfl⟩ | exact absurd e.1 (fun z => nomatch z)
theorem dqAll_ofInts {K : PySem.W.Frag} {H : Hp} : ∀ {ns : List Int} {xs : List V}, DqAll K H xs (ns.map PyData.int) → xs = ns.map V.int
  | [], _, h => by
    cases h
    rfl
  | n :: r, _, h => by
    cases h with
    | cons a b =>
      cases a
      rw [dqAll_ofInts b]
      rfl
theorem ints_all (ns : List Int) : ((ns.map V.int).map bI).all id = true := by
  rw [List.all_eq_true]
  intro b hb
  rw [List.map_map] at hb
  obtain ⟨n, _, e⟩ := List.mem_map.mp hb
  rw [← e]
  rfl
theorem ints_inj : ∀ {a b : List Int}, a.map PyData.int = b.map PyData.int → a = b
  | [], [], _ => rfl
  | [], _ :: _, h => by simp at h
  | _ :: _, [], h => by simp at h
  | x :: r, y :: t, h => by
    rw [List.map_cons, List.map_cons] at h
    injection h with h1 h2
    injection h1 with h1
    rw [h1, ints_inj h2]
theorem isCD_ints {ns : List Int} : IsCD (.tuple (ns.map PyData.int)) ↔ IsCL ns := by
  constructor
  · rintro ⟨ms, e, h⟩
    injection e with e
    rw [ints_inj e]
    exact h
  · exact fun h => ⟨ns, rfl, h⟩
theorem bI_no {K : PySem.W.Frag} {H : Hp} {x : V} (n : NoInt K H x) : bI x = false := by
  cases n with
  | bl b => rfl
  | @ty x t h n => cases x <;> first | rfl | (cases h with | base h => cases h; exact absurd n (by decide +kernel))
theorem fz_iff {ns : List Int} {j : Nat} {a b : Int} (h1 : ns[j]? = some a) (h2 : ns[j + 1]? = some b) : fz ns j = decide (0 < a ∧ a < b ∧ b % a = 0) := by
  unfold fz
  rw [List.getD_eq_getElem?_getD, List.getD_eq_getElem?_getD, h1, h2]
  rfl
theorem all_fz {ns : List Int} {n : Nat} : ((List.range n).map (fz ns)).all id = true ↔ ∀ j, j < n → fz ns j = true := by
  rw [List.all_map, List.all_eq_true]
  exact ⟨fun h j hj => h j (List.mem_range.mpr hj), fun h j hj => h j (List.mem_range.mp hj)⟩
theorem last_ints {ns : List Int} (h : 1 ≤ ns.length) : atI (ns.map V.int) (-1) = some (.int (ns.getD (ns.length - 1) 0)) := by
  obtain ⟨l, z, rfl⟩ : ∃ l z, ns = l ++ [z] := ⟨ns.dropLast, ns.getLast (fun e => by rw [e] at h; cases h), (List.dropLast_concat_getLast _).symm⟩
  rw [List.map_append]
  have e : (l ++ [z]).getD ((l ++ [z]).length - 1) 0 = z := by
    rw [List.length_append, List.getD_eq_getElem?_getD]
    simp
  rw [e]
  exact atI_last _ _
theorem head_ints {ns : List Int} (h : 1 ≤ ns.length) : (ns.map V.int)[0]? = some (.int (ns.getD 0 0)) := by
  cases ns with
  | nil => cases h
  | cons a r => rfl
section
variable {P : Program} {w : World} {K : PySem.W.Frag} {mg : Str → Option Value} {base : Heap}
def spMf : Sp := fun vs H Q _ => ∃ l s : Int, vs = [.int l, .int s] ∧ Q (.bl (decide (0 < s ∧ s < l ∧ l % s = 0))) H
theorem ok_Mf {k : Nat} (Z : Fns K mg) : FnOk P w K mg base CX0 (k + 1) Z.fMf Z.fdMf ["larger", "size"] spMf := by
  refine Z.FMf.ok scMf (fun vs H Q E h => ?_) (fun cdv A outer s H vs Q E hr h => ?_)
  · obtain ⟨l, s, rfl, _⟩ := h
    rfl
  · obtain ⟨l, z, rfl, q⟩ := h
    refine ⟨_, (pss_one (ps_ret (pe_and (pe_chain op_lt op_lt pe_int (pv 1) (pv 0)) (pe_one (pe_cmpR op_eq (pe_op op_mod (pv 0) (pv 1)) pe_int (nomark _)))))), ?_⟩
    refine ⟨.int z, rfl, _, _, rfl, rfl, _, rfl, ite2 (fun c => ?_) (fun c => ?_)⟩
    · have c1 : 0 < z := of_decide_eq_true c
      refine ⟨.int l, rfl, _, _, rfl, rfl, _, rfl, ite2 (fun c => ?_) (fun c => ?_)⟩
      · have c2 : z < l := of_decide_eq_true c
        refine ⟨.int l, rfl, .int z, rfl, _, _, rfl, rfl, c1, rfl, ?_⟩
        have e : decide (0 < z ∧ z < l ∧ l % z = 0) = decide (V.int (l % z) = V.int 0) := by
          rw [decide_eq_decide]
          exact ⟨fun h => by rw [h.2.2], fun h => ⟨c1, c2, V.int.inj h⟩⟩
        rw [e] at q
        exact q
      · have e : decide (0 < z ∧ z < l ∧ l % z = 0) = false := decide_eq_false fun h => c (decide_eq_true h.2.1)
        rw [e] at q
        exact q
    · have e : decide (0 < z ∧ z < l ∧ l % z = 0) = false := decide_eq_false fun h => c (decide_eq_true h.1)
      rw [e] at q
      exact ⟨_, rfl, iteF q⟩
def spCi (K : PySem.W.Frag) : Sp := fun vs H Q _ => ∃ (x : V) (d : PyData), vs = [x] ∧ Dq K H x d ∧ ∀ H' b, Same H H' → (b = true ↔ IsCD d) → Q (.bl b) H'
theorem ok_Ci {k : Nat} (Z : Fns K mg) : FnOk P w K mg base CX0 (k + 1 + 1) Z.fCi Z.fdCi ["value"] (spCi K) := by
  have GI : FnOk P w K mg base CX0 (k + 1) Z.fI Z.fdI ["value"] (spI2 K) := ok_I2 Z
  have GMf : FnOk P w K mg base CX0 (k + 1) Z.fMf Z.fdMf ["larger", "size"] spMf := ok_Mf Z
  refine Z.FCi.ok scCi (fun vs H Q E h => ?_) (fun cdv A outer s H vs Q E hr h => ?_)
  · obtain ⟨x, d, rfl, _⟩ := h
    rfl
  · obtain ⟨x, d, rfl, dx, q⟩ := h
    refine ⟨_, (pss_cons (ps_if (PW.pt (pw_or (pt_not (pt_val (pe_callB call_isi (by rfl) Z.N.isinstance (by decide +kernel) (pa_cons (pv 0) (pa_cons (pe_bltn (v := .ty "tuple") (by rfl) Z.N.tuple (by decide +kernel) rfl) pa_nil))))) (pw_or1 (pt_not (pt_chain op_le op_le pe_int (pe_callB call_len_seq (by rfl) Z.N.len (by decide +kernel) (pa_cons (pv 0) pa_nil)) (pe_glob (v := .int 12) (by rfl) Z.k_MOST_SIZES.choose_spec ⟨_, rfl⟩))))))
 (pss_one (ps_ret pe_bl)) pss_nil)
 (pss_cons (ps_if (pt_not (pt_val (pe_callB (cr_all rfl) (by rfl) Z.N.all (by decide +kernel) (pa_cons (pe_lc (own := [("size", 1)]) (g := (gName 1)) (tt := tYes) (by rfl) scCi.nd (pi_tup (pv 0)) (blkOk_by (N := scCiN) (sc := defScope scCiS) (by decide +kernel)) (fun _ _ _ _ _ => (pg_name (i := 1) scCi.nd rfl (.inl rfl))) (fun _ _ _ _ _ => pts_nil) (fun _ _ _ _ _ => (pe_call GI (hr.mono (by omega)) (by rfl) Z.gI Z.FI.kp Z.bI .nil pass0 (pa_cons (pv 1) pa_nil)))) pa_nil))))
 (pss_one (ps_ret pe_bl)) pss_nil)
 (pss_cons (ps_if (PW.pt (pw_or (pt_cmpR op_ne (pe_ix ix_tup (pv 0) pe_int (fun _ _ => rfl)) pe_int (nomark _)) (pw_or1 (pt_cmpR op_gt (pe_ix ix_tup (pv 0) (pe_un un_neg pe_int) (fun _ _ => rfl)) (pe_glob (v := .int 1000000000) (by rfl) Z.k_LARGEST_SIZE.choose_spec ⟨_, rfl⟩) (nomark _)))))
 (pss_one (ps_ret pe_bl)) pss_nil)
 (pss_one (ps_ret (pe_callB (cr_all rfl) (by rfl) Z.N.all (by decide +kernel) (pa_cons (pe_lc (own := [("size", 1), ("larger", 2)]) (g := (gTup K 2 (gCons (gName 1) (gCons (gName 2) gNil)))) (tt := tYes) (by rfl) scCi.nd (pi_zipK (k1 := true) (k2 := true) (by rfl) Z.N.zip (pa_cons (pv 0) (pa_cons (pe_slice sl_tupQ (pv 0) (po_some pe_int) po_none) pa_nil))) (blkOk_by (N := scCiN) (sc := defScope scCiS) (by decide +kernel)) (fun _ _ _ _ _ => (pg_tup (by rfl) (pgs_cons (pg_name (i := 1) scCi.nd rfl (.inl rfl)) (pgs_cons (pg_name (i := 2) scCi.nd rfl (.inl rfl)) pgs_nil)))) (fun _ _ _ _ _ => pts_nil) (fun _ _ _ _ _ => (pe_call GMf (hr.mono (by omega)) (by rfl) Z.gMf Z.FMf.kp Z.bMf .nil pass0 (pa_cons (pv 2) (pa_cons (pv 1) pa_nil))))) pa_nil))))))), ?_⟩
    have no : ∀ {H' : Hp}, Same H H' → ¬ IsCD d → Q (.bl false) H' := fun s n => q _ _ s ⟨fun z => (Bool.false_ne_true z).elim, fun g => absurd g n⟩
    refine ⟨x, rfl, x, .ty "tuple", .type (tyN d), .type "tuple", _, rfl, .ty _, dq_ty dx, kit_ty (dq_isTu dx), _, rfl, ite2 (fun c0 => ?_) (fun c0 => ?_)⟩
    · refine no (.refl _) fun ⟨ns, e, _⟩ => ?_
      rw [e] at c0
      simp [isTu] at c0
    cases dx with
    | @tup t xs ds hs ha =>
      have ln := dqAll_len ha
      refine ⟨.ref t, rfl, t, _, rfl, .inr hs, _, _, rfl, rfl, _, rfl, ite2 (fun c1 => ?_) (fun c1 => ?_)⟩
      · have l1 : (1 : Int) ≤ (xs.length : Nat) := of_decide_eq_true c1
        refine ⟨_, _, rfl, rfl, _, rfl, ite2 (fun c2 => ?_) (fun c2 => ?_)⟩
        · refine no (.refl _) fun ⟨ns, e, h⟩ => ?_
          injection e with e
          rw [e, List.length_map] at ln
          have := h.2.1
          have c2 := of_decide_eq_false (by simpa using c2 : decide (((xs.length : Nat) : Int) ≤ 12) = false)
          omega
        have l12 : ((xs.length : Nat) : Int) ≤ 12 := by simpa using c2
        refine ⟨.ref t, rfl, t, rfl, ⟨_, hs⟩, fun D nD => ?_⟩
        refine lc_tpF (K := K) (fun x => V.bl (bI x)) hs nD (Nat.lt_of_le_of_lt (show xs.length ≤ 12 by omega) (by decide)) (fun y hy H2 sm Y hY => ?_) (fun H2 sm hD => ?_)
        · obtain ⟨i, hi⟩ := List.mem_iff_getElem?.mp hy
          obtain ⟨e, _, dy⟩ := dqAll_get ha hi
          refine ⟨rfl, y, rfl, y, rfl, ?_⟩
          rcases dq_noInt (dy.same sm) with ⟨n1, _⟩ | ⟨i, rfl, _⟩
          · have e2 := bI_no n1
            rw [e2] at hY
            exact .inr ⟨n1, hY _ (Same.refl _)⟩
          · exact .inl ⟨i, rfl, hY _ (Same.refl _)⟩
        refine ⟨D, xs.map bI, rfl, by rw [List.map_map]; exact .inl (.inl hD), _, rfl, ite2 (fun c3 => ?_) (fun c3 => ?_)⟩
        · refine no sm fun ⟨ns, e, _⟩ => ?_
          injection e with e
          subst e
          rw [dqAll_ofInts ha, ints_all] at c3
          cases c3
        obtain ⟨ns, rfl, rfl⟩ := dqAll_ints ha (by simpa using c3)
        rw [isCD_ints] at q no
        rw [List.length_map] at l1 l12
        have l1' : 1 ≤ ns.length := by omega
        have hs2 := sqT_same sm hs
        refine ⟨.ref t, rfl, t, _, 0, _, rfl, rfl, hs2, atI_nat (j := 0) (head_ints l1'), rfl, _, rfl, ite2 (fun c4 => ?_) (fun c4 => ?_)⟩
        · exact no sm fun h => by
            rw [h.2.2.1] at c4
            exact absurd c4 (by decide)
        have h0 : ns.getD 0 0 = 1 := by simpa using c4
        refine ⟨.ref t, rfl, 1, rfl, t, _, -1, _, rfl, rfl, hs2, last_ints l1', _, _, rfl, rfl, _, rfl, ite2 (fun c5 => ?_) (fun c5 => ?_)⟩
        · exact no sm fun h => by
            have := of_decide_eq_true c5
            have := h.2.2.2.1
            omega
        have h9 : ns.getD (ns.length - 1) 0 ≤ 1000000000 := by
          have := of_decide_eq_false (by simpa using c5 : decide ((1000000000 : Int) < ns.getD (ns.length - 1) 0) = false)
          omega
        refine ⟨.ref t, rfl, .ref t, rfl, 1, rfl, t, _, rfl, hs2, fun u H3 s3 hu => ?_⟩
        have cut : cutV (ns.map V.int) (some 1) none = ns.tail.map V.int := by
          cases ns with
          | nil => cases l1'
          | cons a r => exact cut_tailI a r
        rw [cut] at hu
        refine ⟨t, u, _, _, rfl, sqT_same s3 hs2, hu, fun D2 nD2 => ?_⟩
        refine lc_R (walk_zipK (k1 := true) (k2 := true) (K := K) (a := t) (b := u) (xs := ns.map V.int) (ys := ns.tail.map V.int) (n := ns.length - 1) (by rw [List.length_map, List.length_map, List.length_tail]; omega)) (fun _ _ _ _ y => YPair.same y) (fun _ j y => y = .bl (fz ns j)) (fun _ _ _ _ _ h => h) nD2 (Nat.lt_of_le_of_lt (show ns.length - 1 ≤ 12 by omega) (by decide)) (fun H5 s5 => ⟨sqT_same s5 (sqT_same s3 hs2), sqT_same s5 hu⟩) (fun j x H5 H6 hj s5 y Z hZ => ?_) (fun H5 zs s5 hD2 pr2 => ?_)
        · obtain ⟨T, x1, x2, rfl, nT, rfl, e1, e2⟩ := y
          have e1' : (ns.map V.int)[j]? = some x1 := e1
          have e2' : (ns.tail.map V.int)[j]? = some x2 := e2
          rw [List.getElem?_map] at e1' e2'
          obtain ⟨a, ea, rfl⟩ := Option.map_eq_some_iff.mp e1'
          obtain ⟨b, eb, rfl⟩ := Option.map_eq_some_iff.mp e2'
          rw [List.getElem?_tail] at eb
          refine ⟨T, _, rfl, .inl (.inl upd_same), rfl, _, _, rfl, _, _, rfl, rfl, rfl, .int _, rfl, .int _, rfl, b, a, rfl, hZ _ _ (Same.refl _) ?_⟩
          rw [fz_iff ea eb]
        · rw [paired_eq pr2] at hD2
          refine ⟨D2, (List.range (ns.length - 1)).map (fz ns), rfl, by rw [List.map_map]; exact .inl (.inl hD2), ?_⟩
          refine q _ _ (sm.trans (s3.trans s5)) ?_
          rw [all_fz]
          exact ⟨fun h => ⟨l1', by omega, h0, h9, h⟩, fun h => h.2.2.2.2⟩
      · refine ⟨_, rfl, ?_⟩
        refine iteT (no (.refl _) fun ⟨ns, e, h⟩ => ?_)
        injection e with e
        rw [e, List.length_map] at ln
        have := h.1
        have c1 := of_decide_eq_false (by simpa using c1 : decide ((1 : Int) ≤ ((xs.length : Nat) : Int)) = false)
        omega
    | _ => exact absurd rfl c0
end
end Ph

set_option maxHeartbeats 8000000
namespace Ph
open PySem PySem.Spec PyProof.Rows L2
/-! ### numbers between signs, blocks, states -/
def nums (os : List (Option Nat)) : List V := os.map numV
def colonsT (w : Str) : List (Option Nat) := (Txt.split w ":").map numOf
def slashT (w : Str) : List (Option Nat) := (Txt.split w "/").map numOf
def rowsT (l : Str) : List (List (Option Nat)) := if l = "-" then [] else (wordsT l).map colonsT
/-- is it a block of the chain -/
def isBl (C : List Nat) : List (Option Nat) → Bool
  | [some a, some s] => decide (s ∈ C) && decide (a % s = 0)
  | _ => false
/-- do the blocks come in order, and within the heap -/
def endsOk (W : Nat) : Nat → List (List (Option Nat)) → Bool
  | e, [] => decide (e ≤ W)
  | e, [some a, some s] :: r => if a < e then false else endsOk W (a + s) r
  | _, _ :: _ => false
def isStB (C : List Nat) (W : Nat) (rows : List (List (Option Nat))) : Bool := rows.all (isBl C) && endsOk W 0 rows
/-- rows in the heap -/
def RowS (H : Hp) (xs : List V) (rows : List (List (Option Nat))) : Prop := Paired (fun y os => ∃ t, y = V.ref t ∧ H t = some (.tup (nums os))) xs rows
theorem RowS.same {H H' : Hp} (s : Same H H') : ∀ {xs : List V} {rows : List (List (Option Nat))}, RowS H xs rows → RowS H' xs rows
  | _, _, .nil => .nil
  | _, _, .cons ⟨t, e, h⟩ r => .cons ⟨t, e, s _ _ h⟩ (RowS.same s r)
theorem RowS.snoc {H : Hp} {t : Addr} {os : List (Option Nat)} (h : H t = some (.tup (nums os))) : ∀ {xs : List V} {rows : List (List (Option Nat))}, RowS H xs rows → RowS H (xs ++ [.ref t]) (rows ++ [os])
  | _, _, .nil => .cons ⟨t, rfl, h⟩ .nil
  | _, _, .cons a r => .cons a (RowS.snoc h r)
theorem RowS.length {H : Hp} : ∀ {xs : List V} {rows : List (List (Option Nat))}, RowS H xs rows → xs.length = rows.length
  | _, _, .nil => rfl
  | _, _, .cons _ r => congrArg (· + 1) (RowS.length r)
theorem RowS.get {H : Hp} {i : Nat} {os : List (Option Nat)} : ∀ {xs : List V} {rows : List (List (Option Nat))}, RowS H xs rows → rows[i]? = some os → ∃ t, xs[i]? = some (V.ref t) ∧ H t = some (.tup (nums os)) := fun h e => by
  obtain ⟨a, ha, t, rfl, ht⟩ := Paired.get2 h e
  exact ⟨t, ha, ht⟩
theorem RowS.keep {H H' : Hp} {D : Addr} (n : ∀ xs, H D ≠ some (.tup xs)) (s : ∀ b o, b ≠ D → H b = some o → H' b = some o) : ∀ {xs : List V} {rows : List (List (Option Nat))}, RowS H xs rows → RowS H' xs rows
  | _, _, .nil => .nil
  | _, _, .cons ⟨t, e, h⟩ r => .cons ⟨t, e, s _ _ (fun z => n _ (by rw [← z]; exact h)) h⟩ (RowS.keep n s r)
theorem isBl_iff {C : List Nat} {os : List (Option Nat)} : isBl C os = true ↔ ∃ a s, os = [some a, some s] ∧ s ∈ C ∧ a % s = 0 := by
  constructor
  · intro h
    match os, h with
    | [some a, some s], h =>
      have h : (decide (s ∈ C) && decide (a % s = 0)) = true := h
      rw [Bool.and_eq_true, decide_eq_true_eq, decide_eq_true_eq] at h
      exact ⟨a, s, rfl, h.1, h.2⟩
  · rintro ⟨a, s, rfl, h1, h2⟩
    show (decide (s ∈ C) && decide (a % s = 0)) = true
    rw [decide_eq_true h1, decide_eq_true h2]
    rfl
theorem isBl_len {C : List Nat} {os : List (Option Nat)} (h : os.length ≠ 2) : isBl C os = false := by
  cases e : isBl C os
  · rfl
  · obtain ⟨a, s, rfl, _⟩ := isBl_iff.mp e
    exact absurd rfl h
theorem getLast_atI {C : List Nat} {L : Nat} (h : C.getLast? = some L) : atI ((C.map fun n : Nat => (n : Int)).map V.int) (-1) = some (.int (L : Int)) := by
  obtain ⟨l, hl⟩ := List.getLast?_eq_some_iff.mp h
  rw [hl, List.map_append, List.map_append]
  exact atI_last _ _
section
variable {P : Program} {w : World} {K : PySem.W.Frag} {mg : Str → Option Value} {base : Heap}
def spNs : Sp := fun vs H Q _ => ∃ x y : Str, vs = [.str x, .str y] ∧ TL.tl y ≠ [] ∧ y.cps.all (· < 256) = true ∧ x.length + 2 ≤ sizeLine ∧ ∀ H' t, Same H H' → H' t = some (.tup (nums ((Txt.split x y).map numOf))) → Q (.ref t) H'
theorem ok_Ns {k : Nat} (Z : Fns K mg) : FnOk P w K mg base CX0 (k + 1 + 1) Z.fNs Z.fdNs ["text", "sign"] spNs := by
  have GNi : FnOk P w K mg base CX0 (k + 1) Z.fNi Z.fdNi ["text"] spNi := ok_Ni Z
  refine Z.FNs.ok scNs (fun vs H Q E h => ?_) (fun cdv A outer s H vs Q E hr h => ?_)
  · obtain ⟨x, y, rfl, _⟩ := h
    rfl
  · obtain ⟨x, y, rfl, hy, hk, hl, q⟩ := h
    refine ⟨_, (pss_one (ps_ret (pe_callTy call_tuple_of (by rfl) Z.N.tuple (by decide +kernel) (pa_cons (pe_lc (own := [("part", 2)]) (g := (gName 2)) (tt := tYes) (by rfl) scNs.nd (pi_list (pe_bm PySem.F.plainAttrs_str PySem.F.slot_str_split PySem.F.type_str_split mt_split (pv 0) (pa_cons (pv 1) pa_nil))) (blkOk_by (N := scNsN) (sc := defScope scNsS) (by decide +kernel)) (fun _ _ _ _ _ => (pg_name (i := 2) scNs.nd rfl (.inl rfl))) (fun _ _ _ _ _ => pts_nil) (fun _ _ _ _ _ => (pe_call GNi (hr.mono (by omega)) (by rfl) Z.gNi Z.FNi.kp Z.bNi .nil pass0 (pa_cons (pv 2) pa_nil)))) pa_nil)))), ?_⟩
    refine ⟨.str x, rfl, rfl, .str y, rfl, x, y, rfl, rfl, ?_, hl, fun W nW => ?_⟩
    · rw [beq_eq_false_iff_ne, TL.len_tl]
      exact fun z => hy (List.length_eq_zero_iff.mp z)
    have s1 := same_upd (o := .lst ((Txt.split x y).map V.str)) nW
    have hW0 : upd H W (.lst ((Txt.split x y).map V.str)) W = some (.lst ((Txt.split x y).map V.str)) := upd_same
    generalize upd H W (.lst ((Txt.split x y).map V.str)) = H1 at s1 hW0 ⊢
    have wt := split_wt (x := x) hy hk
    have wl := twt_len (Txt.split x y)
    have wle := fun (z : Str) (hz : z ∈ Txt.split x y) => twt_mem hz
    have q' := fun (H' : Hp) (t : Addr) (s : Same H1 H') => q H' t (s1.trans s)
    generalize Txt.split x y = ws at hW0 wt wl wle q' ⊢
    refine ⟨W, rfl, ⟨_, .inl (.inl hW0)⟩, fun D nD => ?_⟩
    refine lc_it (walk_list (K := K) (a := W) (xs := ws.map V.str)) (fun i G => Same H1 G ∧ G D = some (.lst ((ws.take i).map fun w => numV (numOf w)))) ⟨same_upd nD, upd_same⟩ (fun i G _ s => .inl (.inl (s.1 _ _ hW0))) (fun i x G G' hi s yy => ?_) (fun G s => ?_)
    · obtain ⟨rfl, hx⟩ := yy
      rw [List.getElem?_map] at hx
      obtain ⟨a, ha, rfl⟩ := Option.map_eq_some_iff.mp hx
      refine ⟨rfl, ?_⟩
      delta tYes
      refine ite2 (fun _ => ?_) (fun z => absurd rfl z)
      refine ⟨.str a, rfl, a, rfl, by have := wle a (List.mem_of_getElem? ha); omega, fun G2 s2 => ⟨_, s2 _ _ s.2, ?_, fun b o e => by rw [upd_ne (ne_of_none e nD)]; exact s2 _ _ (s.1 _ _ e), ?_⟩⟩
      · rw [List.length_map, List.length_take]
        refine Nat.lt_of_le_of_lt (Nat.min_le_right _ _) ?_
        omega
      · rw [upd_same, List.take_add_one, ha]
        simp only [List.map_append, Option.toList_some, List.map_cons, List.map_nil]
    have hD0 := s.2
    rw [List.length_map, List.take_length] at hD0
    refine ⟨D, _, rfl, .inl ⟨.inl (.inl hD0), fun T nT => q' _ T (s.1.trans (same_upd nT)) ?_⟩⟩
    rw [upd_same]
    unfold nums
    rw [List.map_map]
    rfl
def spIb (K : PySem.W.Frag) : Sp := fun vs H Q _ => ∃ (c t : Addr) (C : List Nat) (os : List (Option Nat)), vs = [.ref c, .ref t] ∧ SqT K H c ((C.map fun n : Nat => (n : Int)).map V.int) ∧ (∀ n ∈ C, 0 < n) ∧ H t = some (.tup (nums os)) ∧ Q (.bl (isBl C os)) H
theorem ok_Ib {k : Nat} (Z : Fns K mg) : FnOk P w K mg base CX0 (k + 1 + 1 + 1) Z.fIb Z.fdIb ["chain", "value"] (spIb K) := by
  have GI : FnOk P w K mg base CX0 (k + 1) Z.fI Z.fdI ["value"] spIo := ok_I Z
  have GZ : FnOk P w K mg base CX0 (k + 1 + 1) Z.fZ Z.fdZ ["chain", "value"] (spZo K) := ok_Z Z
  refine Z.FIb.ok scIb (fun vs H Q E h => ?_) (fun cdv A outer s H vs Q E hr h => ?_)
  · obtain ⟨c, t, C, os, rfl, _⟩ := h
    rfl
  · obtain ⟨c, t, C, os, rfl, hc, hC, ht, q⟩ := h
    refine ⟨_, (pss_cons (ps_if (PW.pt (pw_or (pt_not (pt_val (pe_callB call_isi (by rfl) Z.N.isinstance (by decide +kernel) (pa_cons (pv 1) (pa_cons (pe_bltn (v := .ty "tuple") (by rfl) Z.N.tuple (by decide +kernel) rfl) pa_nil))))) (pw_or1 (pt_cmpR op_ne (pe_callB call_len_seq (by rfl) Z.N.len (by decide +kernel) (pa_cons (pv 1) pa_nil)) pe_int (nomark _)))))
 (pss_one (ps_ret pe_bl)) pss_nil)
 (pss_cons (ps_asg (pv 1) (pg_tup (by rfl) (pgs_cons (pg_name (i := 2) scIb.nd rfl (.inl rfl)) (pgs_cons (pg_name (i := 3) scIb.nd rfl (.inl rfl)) pgs_nil))))
 (pss_one (ps_ret (pe_and (pe_call GI (hr.mono (by omega)) (by rfl) Z.gI Z.FI.kp Z.bI .nil pass0 (pa_cons (pv 2) pa_nil)) (pe_and (pe_call GZ (hr.mono (by omega)) (by rfl) Z.gZ Z.FZ.kp Z.bZ .nil pass0 (pa_cons (pv 0) (pa_cons (pv 3) pa_nil))) (pe_one (pe_cmpR op_eq (pe_op op_mod (pv 2) (pv 3)) pe_int (nomark _))))))))), ?_⟩
    refine seq_splitT (fun σ' H' => σ' = [some (.ref c), some (.ref t), none, none] ∧ H' = H ∧ os.length = 2) (fun D' rt1 hD' => ?_) ?_
    · refine ⟨.ref t, rfl, .ref t, .ty "tuple", .type "tuple", .type "tuple", true, rfl, .ty _, .base (.tup ht), kit_ty (by decide +kernel), _, rfl, ite2 (fun c => absurd c (by decide)) (fun _ => ?_)⟩
      refine ⟨.ref t, rfl, t, _, rfl, .inr (.inl (.inl ht)), rfl, ?_⟩
      have ln : (((nums os).length : Nat) : Int) = os.length := by unfold nums; rw [List.length_map]
      rw [dec_int2, ln]
      refine ⟨_, rfl, ite2 (fun c1 => ?_) (fun c1 => ?_)⟩
      · have c1 : ¬ ((os.length : Nat) : Int) = 2 := by simpa using c1
        rw [isBl_len (by omega)] at q
        show D'.rt _ _
        rw [rt1]
        exact q
      · have c1 : ((os.length : Nat) : Int) = 2 := by simpa using c1
        exact hD' _ _ ⟨rfl, rfl, by omega⟩
    rintro σ1 H1 ⟨rfl, rfl, l2⟩
    match os, l2 with
    | [o1, o2], _ =>
      refine ⟨.ref t, rfl, t, _, rfl, .inl (.inl ht), rfl, _, _, rfl, _, _, rfl, rfl, ?_⟩
      refine ⟨numV o1, rfl, o1, rfl, _, rfl, ?_⟩
      cases o1 with
      | none => exact ite2 (fun c => absurd c (by decide)) (fun _ => q)
      | some a =>
        refine ite2 (fun _ => ?_) (fun c => absurd rfl c)
        refine ⟨.ref c, rfl, numV o2, rfl, c, C, o2, rfl, hc, _, rfl, ?_⟩
        cases o2 with
        | none => exact ite2 (fun c => nomatch (show false = true from c)) (fun _ => q)
        | some s =>
          by_cases hm : s ∈ C
          · refine ite2 (fun _ => ?_) (fun z => absurd (decide_eq_true hm) z)
            have s0 := hC s hm
            refine ⟨.int a, rfl, .int s, rfl, a, s, rfl, rfl, by omega, rfl, ?_⟩
            rw [dec_int2]
            have em : decide ((a : Int) % (s : Int) = 0) = isBl C [some a, some s] := by
              show _ = (decide (s ∈ C) && decide (a % s = 0))
              rw [decide_eq_true hm, Bool.true_and, ← Int.natCast_emod]
              rw [Bool.eq_iff_iff, decide_eq_true_eq, decide_eq_true_eq]
              omega
            rw [em]
            exact q
          · refine ite2 (fun z => absurd (of_decide_eq_true z) hm) (fun _ => ?_)
            have em : isBl C [some a, some s] = false := by
              show (decide (s ∈ C) && decide (a % s = 0)) = false
              rw [decide_eq_false hm]
              rfl
            rw [em] at q
            exact q
def spIs (K : PySem.W.Frag) : Sp := fun vs H Q _ => ∃ (c t : Addr) (C : List Nat) (pg L : Nat) (xs : List V) (rows : List (List (Option Nat))), vs = [.ref c, .int pg, .ref t] ∧ SqT K H c ((C.map fun n : Nat => (n : Int)).map V.int) ∧ (∀ n ∈ C, 0 < n) ∧ C.getLast? = some L ∧ L < 2 ^ 60 ∧ pg < 2 ^ 100 ∧ H t = some (.tup xs) ∧ RowS H xs rows ∧ rows.length ≤ 1000000 ∧ ∀ H', Same H H' → Q (.bl (isStB C (pg * L) rows)) H'
theorem ok_Is {k : Nat} (Z : Fns K mg) : FnOk P w K mg base CX0 (k + 1 + 1 + 1 + 1) Z.fIs Z.fdIs ["chain", "pages", "value"] (spIs K) := by
  have GIb : FnOk P w K mg base CX0 (k + 1 + 1 + 1) Z.fIb Z.fdIb ["chain", "value"] (spIb K) := ok_Ib Z
  refine Z.FIs.ok scIs (fun vs H Q E h => ?_) (fun cdv A outer s H vs Q E hr h => ?_)
  · obtain ⟨c, t, C, pg, L, xs, rows, rfl, _⟩ := h
    rfl
  · obtain ⟨c, t, C, pg, L, xs, rows, rfl, hc, hC, hL, L60, pg100, ht, hr0, hn, q⟩ := h
    refine ⟨_, (pss_cons (ps_if (PW.pt (pw_or (pt_not (pt_val (pe_callB call_isi (by rfl) Z.N.isinstance (by decide +kernel) (pa_cons (pv 2) (pa_cons (pe_bltn (v := .ty "tuple") (by rfl) Z.N.tuple (by decide +kernel) rfl) pa_nil))))) (pw_or1 (pt_not (pt_val (pe_callB (cr_all rfl) (by rfl) Z.N.all (by decide +kernel) (pa_cons (pe_lc (own := [("item", 6)]) (g := (gName 6)) (tt := tYes) (by rfl) scIs.nd (pi_tup (pv 2)) (blkOk_by (N := scIsN) (sc := defScope scIsS) (by decide +kernel)) (fun _ _ _ _ _ => (pg_name (i := 6) scIs.nd rfl (.inl rfl))) (fun _ _ _ _ _ => pts_nil) (fun _ _ _ _ _ => (pe_call GIb (hr.mono (by omega)) (by rfl) Z.gIb Z.FIb.kp Z.bIb .nil pass0 (pa_cons (pv 0) (pa_cons (pv 6) pa_nil))))) pa_nil)))))))
 (pss_one (ps_ret pe_bl)) pss_nil)
 (pss_cons (ps_set (i := 3) scIs.nd rfl (.inl rfl) pe_int)
 (pss_cons (ps_for PassesOwn.never rfl (pi_tup (pv 2)) (pg_tup (by rfl) (pgs_cons (pg_name (i := 4) scIs.nd rfl (.inl rfl)) (pgs_cons (pg_name (i := 5) scIs.nd rfl (.inl rfl)) pgs_nil)))
 (pss_cons (ps_if (pt_cmpR op_lt (pv 4) (pv 3) (nomark _))
 (pss_one (ps_ret pe_bl)) pss_nil)
 (pss_one (ps_set (i := 3) scIs.nd rfl (.inl rfl) (pe_op op_add (pv 4) (pv 5))))))
 (pss_one (ps_ret (pe_cmpR op_le (pv 3) (pe_op op_mul (pv 1) (pe_ix ix_tup (pv 0) (pe_un un_neg pe_int) (fun _ _ => rfl))) (nomark _))))))), ?_⟩
    refine seq_splitT (fun σ' H' => σ' = [some (.ref c), some (.int pg), some (.ref t), none, none, none, none] ∧ Same H H' ∧ rows.all (isBl C) = true) (fun D' rt1 hD' => ?_) ?_
    · refine ⟨.ref t, rfl, .ref t, .ty "tuple", .type "tuple", .type "tuple", true, rfl, .ty _, .base (.tup ht), kit_ty (by decide +kernel), _, rfl, ite2 (fun c => absurd c (by decide)) (fun _ => ?_)⟩
      refine ⟨.ref t, rfl, t, rfl, ⟨_, .inl (.inl ht)⟩, fun D nD => ?_⟩
      refine lc_it (walk_tup (K := K) (a := t) (xs := xs)) (fun i G => Same H G ∧ G D = some (.lst (((rows.take i).map (isBl C)).map V.bl))) ⟨same_upd nD, upd_same⟩ (fun i G _ s => .inl (.inl (s.1 _ _ ht))) (fun i x G G' hi s yy => ?_) (fun G s => ?_)
      · obtain ⟨rfl, hx⟩ := yy
        have li : i < rows.length := by rw [← RowS.length hr0]; exact hi
        obtain ⟨t', hx', ht'⟩ := RowS.get hr0 (List.getElem?_eq_getElem li)
        rw [hx] at hx'
        cases hx'
        refine ⟨rfl, ?_⟩
        delta tYes
        refine ite2 (fun _ => ?_) (fun z => absurd rfl z)
        refine ⟨.ref c, rfl, .ref t', rfl, c, t', C, _, rfl, s.1.tup hc, hC, s.1 _ _ ht', _, s.2, ?_, fun b o e => by rw [upd_ne (ne_of_none e nD)]; exact s.1 _ _ e, ?_⟩
        · rw [List.length_map, List.length_map, List.length_take]
          refine Nat.lt_of_le_of_lt (Nat.min_le_right _ _) ?_
          have : sizeLine = 16777216 := by decide
          omega
        · rw [upd_same, List.take_add_one, List.getElem?_eq_getElem li]
          simp only [List.map_append, Option.toList_some, List.map_cons, List.map_nil]
      · have hD0 := s.2
        rw [RowS.length hr0, List.take_length] at hD0
        have ea : ((rows.map (isBl C)).all id) = rows.all (isBl C) := by rw [List.all_map]; rfl
        refine ⟨D, rows.map (isBl C), rfl, .inl (.inl hD0), ?_⟩
        show ∃ k, V.bl ((rows.map (isBl C)).all id) = V.bl k ∧ _
        rw [ea]
        refine ⟨_, rfl, ite2 (fun c1 => ?_) (fun c1 => ?_)⟩
        · have c1 : rows.all (isBl C) = false := by simpa using c1
          show D'.rt _ _
          rw [rt1]
          have := q G s.1
          unfold isStB at this
          rw [c1] at this
          exact this
        · have c1 : rows.all (isBl C) = true := by simpa using c1
          exact hD' _ _ ⟨rfl, s.1, c1⟩
    rintro σ1 H1 ⟨rfl, s1, al⟩
    have eS : isStB C (pg * L) rows = endsOk (pg * L) 0 rows := by unfold isStB; rw [al]; rfl
    rw [eS] at q
    dsimp only [gName]
    refine ⟨.ref t, rfl, t, rfl, ⟨_, .inl (.inl (s1 _ _ ht))⟩, ?_⟩
    refine for_it (walk_tup (K := K) (a := t) (xs := xs)) (fun i σ G => ∃ (e : Nat) (y4 y5 : Option V), σ = [some (.ref c), some (.int pg), some (.ref t), some (.int (e : Int)), y4, y5, none] ∧ Same H G ∧ endsOk (pg * L) 0 rows = endsOk (pg * L) e (rows.drop i)) ⟨0, none, none, rfl, s1, rfl⟩ ?_ ?_ ?_
    · rintro i σ G _ ⟨_, _, _, _, sG, _⟩
      exact .inl (.inl (sG _ _ ht))
    · rintro i v σ G G' hi ⟨e, y4, y5, rfl, sG, eq⟩ ⟨rfl, hv⟩
      have li : i < rows.length := by rw [← RowS.length hr0]; exact hi
      obtain ⟨t', hx', ht'⟩ := RowS.get hr0 (List.getElem?_eq_getElem li)
      rw [hv] at hx'
      cases hx'
      obtain ⟨a, z, er, hz, _⟩ := isBl_iff.mp (List.all_eq_true.mp al _ (List.getElem_mem li))
      rw [List.drop_eq_getElem_cons li, er] at eq
      rw [er] at ht'
      have eq : endsOk (pg * L) 0 rows = if a < e then false else endsOk (pg * L) (a + z) (rows.drop (i + 1)) := eq
      refine ⟨t', _, rfl, .inl (.inl (sG _ _ ht')), rfl, _, _, rfl, _, _, rfl, rfl, ?_⟩
      refine ⟨.int a, rfl, .int e, rfl, _, _, rfl, rfl, _, rfl, ite2 (fun c1 => ?_) (fun c1 => ?_)⟩
      · have c1 : a < e := by have := of_decide_eq_true c1; omega
        rw [if_pos c1] at eq
        rw [eq] at q
        exact q _ sG
      · have c1 : ¬ a < e := fun z => c1 (decide_eq_true (by omega))
        rw [if_neg c1] at eq
        exact ⟨.int a, rfl, .int z, rfl, _, _, rfl, rfl, a + z, _, _, rfl, sG, eq⟩
    · rintro σ G ⟨e, y4, y5, rfl, sG, eq⟩
      rw [RowS.length hr0, List.drop_length] at eq
      refine ⟨.int e, rfl, .int pg, rfl, .ref c, rfl, 1, rfl, c, _, -1, _, rfl, rfl, sG.tup hc, getLast_atI hL, _, _, rfl, rfl, .inr ⟨by omega, by omega⟩, _, _, rfl, rfl, ?_⟩
      have ee : decide ((e : Int) ≤ (pg : Int) * (L : Int)) = endsOk (pg * L) 0 rows := by
        rw [eq]
        show _ = decide (e ≤ pg * L)
        rw [Bool.eq_iff_iff, decide_eq_true_eq, decide_eq_true_eq]
        have : (pg : Int) * (L : Int) = ((pg * L : Nat) : Int) := (Int.natCast_mul _ _).symm
        omega
      show Q (.bl (decide ((e : Int) ≤ (pg : Int) * (L : Int)))) _
      rw [ee]
      exact q _ sG
end
end Ph

set_option maxHeartbeats 8000000
namespace Ph
open PySem PySem.Spec PyProof.Rows L2
/-! ### data -/
def numD : Option Nat → PyData
  | none => .none
  | some n => .int (n : Int)
def oD (os : List (Option Nat)) : PyData := .tuple (os.map numD)
def rowsD (rows : List (List (Option Nat))) : PyData := .tuple (rows.map oD)
theorem nums_dq {K : PySem.W.Frag} {H : Hp} : ∀ os : List (Option Nat), DqAll K H (nums os) (os.map numD)
  | [] => .nil
  | none :: r => .cons .non (nums_dq r)
  | some n :: r => .cons (.int _) (nums_dq r)
theorem o_dq {K : PySem.W.Frag} {H : Hp} {t : Addr} {os : List (Option Nat)} (h : H t = some (.tup (nums os))) : Dq K H (.ref t) (oD os) := .tup (.inl (.inl h)) (nums_dq os)
theorem RowS.dq {K : PySem.W.Frag} {H : Hp} : ∀ {xs : List V} {rows : List (List (Option Nat))}, RowS H xs rows → DqAll K H xs (rows.map oD)
  | _, _, .nil => .nil
  | _, _, .cons ⟨t, e, h⟩ r => by
    subst e
    exact .cons (o_dq h) (RowS.dq r)
theorem rows_dq {K : PySem.W.Frag} {H : Hp} {t : Addr} {xs : List V} {rows : List (List (Option Nat))} (h : H t = some (.tup xs)) (r : RowS H xs rows) : Dq K H (.ref t) (rowsD rows) := .tup (.inl (.inl h)) r.dq
def headT (x : Str) : Str := (linesT x).headD Str.empty
theorem headT_get (x : Str) : (linesT x)[0]? = some (headT x) := by
  unfold headT
  cases h : linesT x with
  | nil => exact absurd h (linesT_ne x)
  | cons a r => rfl
theorem headT_mem (x : Str) : headT x ∈ linesT x := List.mem_of_getElem? (headT_get x)
section
variable {P : Program} {w : World} {K : PySem.W.Frag} {mg : Str → Option Value} {base : Heap}
def spCn : Sp := fun vs H Q _ => ∃ l : Str, vs = [.str l] ∧ l.length + 2 ≤ sizeLine ∧ (∀ H', Same H H' → ¬ IsCD (oD (slashT l)) → Q .non H') ∧ ∀ H' t, Same H H' → IsCD (oD (slashT l)) → H' t = some (.tup (nums (slashT l))) → Q (.ref t) H'
theorem ok_Cn {k : Nat} (Z : Fns K mg) : FnOk P w K mg base CX0 (k + 1 + 1 + 1) Z.fCn Z.fdCn ["line"] spCn := by
  have GNs : FnOk P w K mg base CX0 (k + 1 + 1) Z.fNs Z.fdNs ["text", "sign"] spNs := ok_Ns Z
  have GCi : FnOk P w K mg base CX0 (k + 1 + 1) Z.fCi Z.fdCi ["value"] (spCi K) := ok_Ci Z
  refine Z.FCn.ok scCn (fun vs H Q E h => ?_) (fun cdv A outer s H vs Q E hr h => ?_)
  · obtain ⟨l, rfl, _⟩ := h
    rfl
  · obtain ⟨l, rfl, hl, q0, q1⟩ := h
    refine ⟨_, (pss_cons (ps_set (i := 1) scCn.nd rfl (.inl rfl) (pe_call GNs (hr.mono (by omega)) (by rfl) Z.gNs Z.FNs.kp Z.bNs .nil pass0 (pa_cons (pv 0) (pa_cons pe_str pa_nil))))
 (pss_cons (ps_if (pt_val (pe_call GCi (hr.mono (by omega)) (by rfl) Z.gCi Z.FCi.kp Z.bCi .nil pass0 (pa_cons (pv 1) pa_nil)))
 (pss_one (ps_ret (pv 1))) pss_nil)
 (pss_one (ps_ret pe_non)))), ?_⟩
    refine ⟨.str l, rfl, l, "/", rfl, sl_ok.1, sl_ok.2, hl, fun H1 t s1 ht => ?_⟩
    dsimp only [gName]
    have ht : H1 t = some (.tup (nums (slashT l))) := ht
    refine ⟨.ref t, rfl, .ref t, _, rfl, o_dq ht, fun H2 b s2 hb => ?_⟩
    refine ⟨_, rfl, ite2 (fun c => ?_) (fun c => ?_)⟩
    · exact ⟨.ref t, rfl, q1 _ t (s1.trans s2) (hb.mp c) (s2 _ _ ht)⟩
    · exact q0 _ (s1.trans s2) (fun z => c (hb.mpr z))
def spSi : Sp := fun vs H Q _ => ∃ l : Str, vs = [.str l] ∧ l.length + 2 ≤ sizeLine ∧ ∀ H' t xs, Same H H' → H' t = some (.tup xs) → RowS H' xs (rowsT l) → Q (.ref t) H'
theorem ok_Si {k : Nat} (Z : Fns K mg) : FnOk P w K mg base CX0 (k + 1 + 1 + 1) Z.fSi Z.fdSi ["line"] spSi := by
  have GNs : FnOk P w K mg base CX0 (k + 1 + 1) Z.fNs Z.fdNs ["text", "sign"] spNs := ok_Ns Z
  refine Z.FSi.ok scSi (fun vs H Q E h => ?_) (fun cdv A outer s H vs Q E hr h => ?_)
  · obtain ⟨l, rfl, _⟩ := h
    rfl
  · obtain ⟨l, rfl, hl, q⟩ := h
    refine ⟨_, (pss_cons (ps_if (pt_cmpR op_eq (pv 0) pe_str (nomark _))
 (pss_one (ps_ret (pe_tup pa_nil))) pss_nil)
 (pss_one (ps_ret (pe_callTy call_tuple_of (by rfl) Z.N.tuple (by decide +kernel) (pa_cons (pe_lc (own := [("part", 1)]) (g := (gName 1)) (tt := tYes) (by rfl) scSi.nd (pi_list (pe_bm PySem.F.plainAttrs_str PySem.F.slot_str_split PySem.F.type_str_split mt_split (pv 0) (pa_cons pe_str pa_nil))) (blkOk_by (N := scSiN) (sc := defScope scSiS) (by decide +kernel)) (fun _ _ _ _ _ => (pg_name (i := 1) scSi.nd rfl (.inl rfl))) (fun _ _ _ _ _ => pts_nil) (fun _ _ _ _ _ => (pe_call GNs (hr.mono (by omega)) (by rfl) Z.gNs Z.FNs.kp Z.bNs .nil pass0 (pa_cons (pv 1) (pa_cons pe_str pa_nil))))) pa_nil))))), ?_⟩
    refine seq_splitT (fun σ' H' => σ' = [some (.str l), none] ∧ H' = H ∧ ¬ l = "-") (fun D' rt1 hD' => ?_) ?_
    · refine ⟨.str l, rfl, rfl, ?_⟩
      rw [dec_str]
      refine ⟨_, rfl, ite2 (fun c1 => ?_) (fun c1 => ?_)⟩
      · have c1 : l = "-" := of_decide_eq_true c1
        refine ⟨(by show 0 ≤ sizeLine; decide), fun T nT => ?_⟩
        show D'.rt _ _
        rw [rt1]
        refine q _ T [] (same_upd nT) upd_same ?_
        unfold rowsT
        rw [if_pos c1]
        exact .nil
      · exact hD' _ _ ⟨rfl, rfl, fun z => c1 (decide_eq_true z)⟩
    rintro σ1 H0 ⟨rfl, rfl, nd⟩
    have er : rowsT l = (wordsT l).map colonsT := by unfold rowsT; rw [if_neg nd]
    refine ⟨.str l, rfl, rfl, l, " ", rfl, rfl, by decide +kernel, hl, fun W nW => ?_⟩
    have s1 := same_upd (o := .lst ((Txt.split l " ").map V.str)) nW
    have hW0 : upd H0 W (.lst ((Txt.split l " ").map V.str)) W = some (.lst ((Txt.split l " ").map V.str)) := upd_same
    generalize upd H0 W (.lst ((Txt.split l " ").map V.str)) = H1 at s1 hW0 ⊢
    have wl := wordsT_len l
    have wle := fun (z : Str) (hz : z ∈ wordsT l) => wordsT_le hz
    have q' := fun (H' : Hp) (t : Addr) (xs : List V) (s : Same H1 H') => q H' t xs (s1.trans s)
    change H1 W = some (.lst ((wordsT l).map V.str)) at hW0
    rw [er] at q'
    generalize wordsT l = ws at hW0 wl wle q' ⊢
    refine ⟨W, rfl, ⟨_, .inl (.inl hW0)⟩, fun D nD => ?_⟩
    have nDH := nD
    refine lc_it (walk_list (K := K) (a := W) (xs := ws.map V.str)) (fun i G => Same H1 G ∧ ∃ xs, G D = some (.lst xs) ∧ RowS G xs ((ws.take i).map colonsT)) ⟨same_upd nD, [], upd_same, .nil⟩ (fun i G _ s => .inl (.inl (s.1 _ _ hW0))) (fun i x G G' hi s yy => ?_) (fun G s => ?_)
    · obtain ⟨rfl, hx⟩ := yy
      rw [List.getElem?_map] at hx
      obtain ⟨a, ha, rfl⟩ := Option.map_eq_some_iff.mp hx
      obtain ⟨sG, xs, hD, rs⟩ := s
      refine ⟨rfl, ?_⟩
      delta tYes
      refine ite2 (fun _ => ?_) (fun z => absurd rfl z)
      rw [List.length_map] at hi
      refine ⟨.str a, rfl, a, ":", rfl, co_ok.1, co_ok.2, by have := wle a (List.mem_of_getElem? ha); omega, fun G2 t s2 ht => ⟨_, s2 _ _ hD, ?_, fun b o e => by rw [upd_ne (ne_of_none e nDH)]; exact s2 _ _ (sG _ _ e), _, upd_same, ?_⟩⟩
      · rw [RowS.length rs, List.length_map, List.length_take]
        refine Nat.lt_of_le_of_lt (Nat.min_le_right _ _) ?_
        omega
      · rw [List.take_add_one, ha]
        simp only [List.map_append, Option.toList_some, List.map_cons, List.map_nil]
        have n1 : ∀ xs, G2 D ≠ some (.tup xs) := fun xs z => by rw [s2 _ _ hD] at z; cases z
        exact RowS.keep n1 (fun b o nb eb => by rw [upd_ne nb]; exact eb) (RowS.snoc ht (RowS.same s2 rs))
    · obtain ⟨sG, xs, hD, rs⟩ := s
      rw [List.length_map, List.take_length] at rs
      refine ⟨D, _, rfl, .inl ⟨.inl (.inl hD), fun T nT => ?_⟩⟩
      exact q' _ T _ (sG.trans (same_upd nT)) upd_same (RowS.same (same_upd nT) rs)
def spRc (CB : Addr) : Sp := fun vs H Q E => ∃ x : Str, vs = [.str x] ∧ x.length ≤ 40000 ∧ (¬ IsCD (oD (slashT (headT x))) → ErrX CB "row" (.int 0) H E) ∧ (IsCD (oD (slashT (headT x))) → (linesT x).length ≠ 1 → ErrX CB "row" (.int 1) H E) ∧
  (IsCD (oD (slashT (headT x))) → (linesT x).length = 1 → ∀ H' t, Same H H' → H' t = some (.tup (nums (slashT (headT x)))) → Q (.ref t) H')
theorem okX_Rc {k : Nat} (Z : Fns K mg) : FnOk P w K mg base (L2.CX P w) (k + 1 + 1 + 1 + 1) Z.fRc Z.fdRc ["text"] (spRc Z.CBadText) := by
  have XLi : FnOk P w K mg base (L2.CX P w) (k + 1 + 1 + 1) Z.fLi Z.fdLi ["text"] (spLi Z.CBadText) := okX_Li Z
  have XCr : FnOk P w K mg base (L2.CX P w) (k + 1 + 1 + 1) Z.fCr Z.fdCr ["row", "right"] (spCr Z.CBadText) := okX_Cr Z
  have GCn : FnOk P w K mg base CX0 (k + 1 + 1 + 1) Z.fCn Z.fdCn ["line"] spCn := ok_Cn Z
  refine Z.FRc.okX scRc (fun vs H Q E h => ?_) (fun cdv A outer s H vs Q E hr h => ?_)
  · obtain ⟨x, rfl, _⟩ := h
    rfl
  · obtain ⟨x, rfl, hl, q0, q1, q2⟩ := h
    refine ⟨_, (pss_cons (ps_set (i := 1) scRc.nd rfl (.inl rfl) (pe_call XLi (hr.mono (by omega)) (by rfl) Z.gLi Z.FLi.kp Z.bLi .nil (passes_call (takes_of rfl rfl rfl rfl) (fun _ _ _ _ h => h)) (pa_cons (pv 0) pa_nil)))
 (pss_cons (ps_set (i := 2) scRc.nd rfl (.inl rfl) (pe_call GCn (hr.mono (by omega)) (by rfl) Z.gCn Z.FCn.kp Z.bCn .nil pass0 (pa_cons (pe_ix ix_list (pv 1) pe_int (fun _ _ => rfl)) pa_nil)))
 (pss_cons (ps_expr (pe_call XCr (hr.mono (by omega)) (by rfl) Z.gCr Z.FCr.kp Z.bCr .nil (passes_call (takes_of rfl rfl rfl rfl) (fun _ _ _ _ h => h)) (pa_cons pe_int (pa_cons (pe_cmpR op_notN (pv 2) pe_non (nomark _)) pa_nil))))
 (pss_cons (ps_expr (pe_call XCr (hr.mono (by omega)) (by rfl) Z.gCr Z.FCr.kp Z.bCr .nil (passes_call (takes_of rfl rfl rfl rfl) (fun _ _ _ _ h => h)) (pa_cons pe_int (pa_cons (pe_cmpR op_eq (pe_callB call_len_seq (by rfl) Z.N.len (by decide +kernel) (pa_cons (pv 1) pa_nil)) pe_int (nomark _)) pa_nil))))
 (pss_one (ps_ret (pv 2))))))), ?_⟩
    have szl : sizeLine = 16777216 := by decide
    refine ⟨.str x, rfl, x, rfl, by omega, fun L nL => ?_⟩
    have s1 := same_upd (o := .lst ((linesT x).map V.str)) nL
    have hL0 : upd H L (.lst ((linesT x).map V.str)) L = some (.lst ((linesT x).map V.str)) := upd_same
    generalize upd H L (.lst ((linesT x).map V.str)) = H1 at s1 hL0 ⊢
    have hh := headT_get x
    have hle := linesT_le (headT_mem x)
    dsimp only [gName]
    refine ⟨.ref L, rfl, L, _, 0, _, rfl, rfl, .inl (.inl hL0), ix_strs hh, headT x, rfl, by omega, fun H2 s2 no => ?_, fun H2 t s2 yes ht => ?_⟩
    · dsimp only [gName]
      exact ⟨.non, rfl, rfl, 0, false, rfl, .inr ⟨rfl, (q0 no).from (s1.trans s2)⟩⟩
    · dsimp only [gName]
      refine ⟨.ref t, rfl, rfl, 0, true, rfl, .inl ⟨rfl, ?_⟩⟩
      have lT : (((linesT x).map V.str).length : Int) = ((linesT x).length : Nat) := by rw [List.length_map]
      refine ⟨.ref L, rfl, L, _, rfl, .inl (.inl (.inl (s2 _ _ hL0))), rfl, ?_⟩
      rw [dec_int2, lT]
      by_cases c : (linesT x).length = 1
      · refine ⟨1, true, by rw [decide_eq_true (by omega)]; rfl, .inl ⟨rfl, .ref t, rfl, q2 yes c _ t (s1.trans s2) ht⟩⟩
      · exact ⟨1, false, by rw [decide_eq_false (by omega)]; rfl, .inr ⟨rfl, (q1 yes c).from (s1.trans s2)⟩⟩
def spRs (K : PySem.W.Frag) (CB : Addr) : Sp := fun vs H Q E => ∃ (c : Addr) (C : List Nat) (pg L : Nat) (x : Str), vs = [.ref c, .int pg, .str x] ∧ SqT K H c ((C.map fun n : Nat => (n : Int)).map V.int) ∧ (∀ n ∈ C, 0 < n) ∧ C.getLast? = some L ∧ L < 2 ^ 60 ∧ pg < 2 ^ 100 ∧ x.length ≤ 40000 ∧
  (isStB C (pg * L) (rowsT (headT x)) = false → ErrX CB "row" (.int 0) H E) ∧ (isStB C (pg * L) (rowsT (headT x)) = true → (linesT x).length ≠ 1 → ErrX CB "row" (.int 1) H E) ∧
  (isStB C (pg * L) (rowsT (headT x)) = true → (linesT x).length = 1 → ∀ H' t xs, Same H H' → H' t = some (.tup xs) → RowS H' xs (rowsT (headT x)) → Q (.ref t) H')
theorem rowsT_len (l : Str) : (rowsT l).length ≤ l.length + 1 := by
  unfold rowsT
  split
  · exact Nat.zero_le _
  · rw [List.length_map]; exact wordsT_len l
theorem okX_Rs {k : Nat} (Z : Fns K mg) : FnOk P w K mg base (L2.CX P w) (k + 1 + 1 + 1 + 1 + 1) Z.fRs Z.fdRs ["chain", "pages", "text"] (spRs K Z.CBadText) := by
  have XLi : FnOk P w K mg base (L2.CX P w) (k + 1 + 1 + 1) Z.fLi Z.fdLi ["text"] (spLi Z.CBadText) := okX_Li Z
  have XCr : FnOk P w K mg base (L2.CX P w) (k + 1 + 1 + 1) Z.fCr Z.fdCr ["row", "right"] (spCr Z.CBadText) := okX_Cr Z
  have GSi : FnOk P w K mg base CX0 (k + 1 + 1 + 1) Z.fSi Z.fdSi ["line"] spSi := ok_Si Z
  have GIs : FnOk P w K mg base CX0 (k + 1 + 1 + 1 + 1) Z.fIs Z.fdIs ["chain", "pages", "value"] (spIs K) := ok_Is Z
  refine Z.FRs.okX scRs (fun vs H Q E h => ?_) (fun cdv A outer s H vs Q E hr h => ?_)
  · obtain ⟨c, C, pg, L, x, rfl, _⟩ := h
    rfl
  · obtain ⟨c, C, pg, M, x, rfl, hc, hC, hM, M60, pg100, hl, q0, q1, q2⟩ := h
    refine ⟨_, (pss_cons (ps_set (i := 3) scRs.nd rfl (.inl rfl) (pe_call XLi (hr.mono (by omega)) (by rfl) Z.gLi Z.FLi.kp Z.bLi .nil (passes_call (takes_of rfl rfl rfl rfl) (fun _ _ _ _ h => h)) (pa_cons (pv 2) pa_nil)))
 (pss_cons (ps_set (i := 4) scRs.nd rfl (.inl rfl) (pe_call GSi (hr.mono (by omega)) (by rfl) Z.gSi Z.FSi.kp Z.bSi .nil pass0 (pa_cons (pe_ix ix_list (pv 3) pe_int (fun _ _ => rfl)) pa_nil)))
 (pss_cons (ps_expr (pe_call XCr (hr.mono (by omega)) (by rfl) Z.gCr Z.FCr.kp Z.bCr .nil (passes_call (takes_of rfl rfl rfl rfl) (fun _ _ _ _ h => h)) (pa_cons pe_int (pa_cons (pe_call GIs (hr.mono (by omega)) (by rfl) Z.gIs Z.FIs.kp Z.bIs .nil pass0 (pa_cons (pv 0) (pa_cons (pv 1) (pa_cons (pv 4) pa_nil)))) pa_nil))))
 (pss_cons (ps_expr (pe_call XCr (hr.mono (by omega)) (by rfl) Z.gCr Z.FCr.kp Z.bCr .nil (passes_call (takes_of rfl rfl rfl rfl) (fun _ _ _ _ h => h)) (pa_cons pe_int (pa_cons (pe_cmpR op_eq (pe_callB call_len_seq (by rfl) Z.N.len (by decide +kernel) (pa_cons (pv 3) pa_nil)) pe_int (nomark _)) pa_nil))))
 (pss_one (ps_ret (pv 4))))))), ?_⟩
    have szl : sizeLine = 16777216 := by decide
    refine ⟨.str x, rfl, x, rfl, by omega, fun L nL => ?_⟩
    have s1 := same_upd (o := .lst ((linesT x).map V.str)) nL
    have hL0 : upd H L (.lst ((linesT x).map V.str)) L = some (.lst ((linesT x).map V.str)) := upd_same
    generalize upd H L (.lst ((linesT x).map V.str)) = H1 at s1 hL0 ⊢
    have hh := headT_get x
    have hle := linesT_le (headT_mem x)
    have rl := rowsT_len (headT x)
    dsimp only [gName]
    refine ⟨.ref L, rfl, L, _, 0, _, rfl, rfl, .inl (.inl hL0), ix_strs hh, headT x, rfl, by omega, fun H2 t xs s2 ht rs => ?_⟩
    dsimp only [gName]
    refine ⟨.ref c, rfl, .int pg, rfl, .ref t, rfl, c, t, C, pg, M, xs, _, rfl, (s1.trans s2).tup hc, hC, hM, M60, pg100, ht, rs, by omega, fun H3 s3 => ?_⟩
    have s03 := s1.trans (s2.trans s3)
    cases hb : isStB C (pg * M) (rowsT (headT x)) with
    | false => exact ⟨0, false, rfl, .inr ⟨rfl, (q0 hb).from s03⟩⟩
    | true =>
      refine ⟨0, true, rfl, .inl ⟨rfl, ?_⟩⟩
      have lT : (((linesT x).map V.str).length : Int) = ((linesT x).length : Nat) := by rw [List.length_map]
      refine ⟨.ref L, rfl, L, _, rfl, .inl (.inl (.inl ((s2.trans s3) _ _ hL0))), rfl, ?_⟩
      rw [dec_int2, lT]
      by_cases c : (linesT x).length = 1
      · refine ⟨1, true, by rw [decide_eq_true (by omega)]; rfl, .inl ⟨rfl, .ref t, rfl, q2 hb c _ t xs s03 (s3 _ _ ht) (RowS.same s3 rs)⟩⟩
      · exact ⟨1, false, by rw [decide_eq_false (by omega)]; rfl, .inr ⟨rfl, (q1 hb c).from s03⟩⟩
end
end Ph

set_option maxHeartbeats 8000000
namespace Ph
open PySem PySem.Spec PyProof.Rows L2
theorem wt_fit {ws : List Str} {n : Nat} (h : twt ws ≤ n) (hn : n ≤ 1000000) {s : Str} (hs : s.length ≤ 1) : (ws.map (·.length)).sum + ws.length * s.length ≤ 16777216 := by
  have a := h
  unfold twt at a
  have : ws.length * s.length ≤ ws.length * 1 := Nat.mul_le_mul_left _ hs
  omega
theorem ixN_natT {n j : Nat} (hj : j < n) : ixN n (j : Int) = some j := by
  unfold ixN
  rw [if_pos (by omega), if_pos (by omega)]
  simp
/-- a short text -/
structure Tx (w : Str) (n : Nat) : Prop where
  gw : Gw w
  len : w.length ≤ n
theorem Tx.lit {s : String} {n : Nat} (h : (s.toList.all fun c => decide (c.toNat < 0x110000)) = true) (l : (Str.ofString s).length ≤ n) : Tx (Str.ofString s) n := ⟨Gw.lit h, l⟩
theorem Tx.app {v w : Str} {a b : Nat} (h : Tx v a) (k : Tx w b) : Tx (v ++ w) (a + b) := ⟨h.gw.app k.gw, by rw [Str.length_append]; have := h.len; have := k.len; omega⟩
theorem Tx.up {w : Str} {a b : Nat} (h : Tx w a) (l : a ≤ b) : Tx w b := ⟨h.gw, Nat.le_trans h.len l⟩
theorem Tx.num {i : Int} {k : Nat} (h0 : 0 ≤ i) (hk : 0 < k) (h : i.toNat < 10 ^ k) : Tx (Str.ofString (toString i)) k := by
  obtain ⟨n, rfl⟩ := Int.eq_ofNat_of_zero_le h0
  refine ⟨Gw.num n, ?_⟩
  rw [TL.len_tl, TL.tl_num]
  exact TL.numL_len hk (by simpa using h)
theorem log_small {i : Int} (h : i.natAbs < 2 ^ 100) : i.natAbs.log2 < 1920 := by
  by_cases z : i.natAbs = 0
  · rw [z]; decide
  · exact Nat.lt_trans ((Nat.log2_lt z).mpr h) (by decide)
theorem twt_le {ys : List Str} {n : Nat} (h : ∀ y ∈ ys, Tx y n) : twt ys ≤ (n + 1) * ys.length := by
  induction ys with
  | nil => simp [twt]
  | cons y ys ih =>
    rw [twt_cons, List.length_cons, Nat.mul_add]
    have := ih fun z hz => h z (List.mem_cons_of_mem _ hz)
    have := (h y (List.mem_cons_self ..)).len
    omega
theorem join_tx {ys : List Str} {n : Nat} (h : ∀ y ∈ ys, Tx y n) : Tx (Txt.join "\n" ys) ((n + 1) * ys.length) :=
  ⟨Gw.join (Gw.lit (by decide +kernel)) fun y hy => (h y hy).gw, Nat.le_trans (join_le (by decide +kernel)) (twt_le h)⟩
theorem join_fit {ys : List Str} {n : Nat} (h : ∀ y ∈ ys, Tx y n) (hl : (n + 1) * ys.length ≤ 1000000) : (ys.map (·.length)).sum + ys.length * (Str.ofString "\n").length ≤ 16777216 := wt_fit (Nat.le_trans (twt_le h) hl) (Nat.le_refl _) (by decide +kernel)
/-! ### texts of blocks -/
def numT (i : Int) : Str := Str.ofString (toString i)
def blkT (b : Bk) : Str := numT b.1 ++ ":" ++ numT b.2
def rowTxt (bs : List Bk) : Str := if bs = [] then "-" else Txt.join " " (bs.map blkT)
theorem st_nil {K : PySem.W.Frag} (bs : List Bk) : PyData.eqv (.tuple (bs.map bD)) (.tuple []) = decide (bs = []) := by
  cases bs with
  | nil => simp [PyData.eqv, PyData.eqvAll]
  | cons b bs => simp [PyData.eqv, PyData.eqvAll]
theorem numT_tx {i : Int} (h0 : 0 ≤ i) (h1 : i ≤ 1000000) : Tx (numT i) 7 := Tx.num h0 (by decide) (by omega)
theorem blkT_tx {b : Bk} (h : 0 ≤ b.1 ∧ b.1 ≤ 1000000 ∧ 0 ≤ b.2 ∧ b.2 ≤ 1000000) : Tx (blkT b) 15 := Tx.app (Tx.app (numT_tx h.1 h.2.1) (Tx.lit (s := ":") (n := 1) (by decide +kernel) (by decide +kernel))) (numT_tx h.2.2.1 h.2.2.2)
theorem blks_tx {bs : List Bk} (h : ∀ b ∈ bs, 0 ≤ b.1 ∧ b.1 ≤ 1000000 ∧ 0 ≤ b.2 ∧ b.2 ≤ 1000000) : ∀ y ∈ bs.map blkT, Tx y 15 := fun y hy => by
  obtain ⟨b, hb, rfl⟩ := List.mem_map.mp hy
  exact blkT_tx (h b hb)
theorem rowTxt_tx {bs : List Bk} (h : ∀ b ∈ bs, 0 ≤ b.1 ∧ b.1 ≤ 1000000 ∧ 0 ≤ b.2 ∧ b.2 ≤ 1000000) : Tx (rowTxt bs) (16 * bs.length + 1) := by
  unfold rowTxt
  split
  · exact (Tx.lit (n := 1) (by decide +kernel) (by decide +kernel)).up (by omega)
  · have b := blks_tx h
    refine ⟨Gw.join (Gw.lit (by decide +kernel)) fun y hy => (b y hy).gw, Nat.le_trans (join_le (by decide +kernel)) (Nat.le_trans (twt_le b) ?_)⟩
    rw [List.length_map]
    omega
section
variable {P : Program} {w : World} {K : PySem.W.Frag} {mg : Str → Option Value} {base : Heap}
def spRo : Sp := fun vs H Q _ => ∃ (t : Addr) (bs : List Bk), vs = [.ref t] ∧ StAt H t bs ∧ bs.length ≤ 1000 ∧ (∀ b ∈ bs, 0 ≤ b.1 ∧ b.1 ≤ 1000000 ∧ 0 ≤ b.2 ∧ b.2 ≤ 1000000) ∧ ∀ H', Same H H' → Q (.str (rowTxt bs)) H'
theorem ok_Ro {k : Nat} (Z : Fns K mg) : FnOk P w K mg base CX0 (k + 1) Z.fRo Z.fdRo ["_law_blocks"] spRo := by
  refine Z.FRo.ok scRo (fun vs H Q E h => ?_) (fun cdv A outer s H vs Q E hr h => ?_)
  · obtain ⟨t, bs, rfl, _⟩ := h
    rfl
  · obtain ⟨t, bs, rfl, ⟨xs, ht, bl⟩, hn, hb, q⟩ := h
    have hu64 := u64_of hr
    refine ⟨_, (pss_one (ps_ret (pe_ifExp (pt_cmpR (op_neD hu64) (pv 0) (pe_tup pa_nil) (nomark _)) (pe_bm PySem.F.plainAttrs_str PySem.F.slot_str_join PySem.F.type_str_join mt_join pe_str (pa_cons (pe_lc (own := [("_law_begin", 1), ("_law_many", 2)]) (g := (gTup K 2 (gCons (gName 1) (gCons (gName 2) gNil)))) (tt := tYes) (by rfl) scRo.nd (pi_tup (pv 0)) (blkOk_by (N := scRoN) (sc := defScope scRoS) (by decide +kernel)) (fun _ _ _ _ _ => (pg_tup (by rfl) (pgs_cons (pg_name (i := 1) scRo.nd rfl (.inl rfl)) (pgs_cons (pg_name (i := 2) scRo.nd rfl (.inl rfl)) pgs_nil)))) (fun _ _ _ _ _ => pts_nil) (fun _ _ _ _ _ => (pe_op op_add_str (pe_op op_add_str (pe_callTy call_str_int (by rfl) Z.N.str (by decide +kernel) (pa_cons (pv 1) pa_nil)) pe_str) (pe_callTy call_str_int (by rfl) Z.N.str (by decide +kernel) (pa_cons (pv 2) pa_nil))))) pa_nil)) pe_str))), ?_⟩
    have szl : sizeLine = 16777216 := by decide
    have st : StAt H t bs := ⟨xs, ht, bl⟩
    refine ⟨.ref t, rfl, (by show 0 ≤ sizeLine; decide), fun N nN => ?_⟩
    have sN := same_upd (o := .tup []) nN
    have hN : upd H N (.tup []) N = some (.tup []) := upd_same
    generalize upd H N (.tup []) = H1 at sN hN ⊢
    have bl1 := BL.kp bl fun v us e => sN _ _ e
    have st1 : StAt H1 t bs := ⟨xs, sN _ _ ht, bl1⟩
    refine ⟨_, _, st1.dp, .tup (.inl (.inl hN)) .nil, sD_shaped bs, sD_shaped [], ?_⟩
    rw [st_nil (K := K)]
    refine ⟨_, rfl, ite2 (fun c1 => ?_) (fun c1 => ?_)⟩
    · have c1 : ¬ bs = [] := fun z => by rw [z] at c1; exact absurd c1 (by decide)
      refine ⟨rfl, .ref t, rfl, t, rfl, ⟨_, .inl (.inl (sN _ _ ht))⟩, fun D nD => ?_⟩
      refine lc_it (walk_tup (K := K) (a := t) (xs := xs)) (fun i G => Same H1 G ∧ G D = some (.lst (((bs.take i).map blkT).map V.str))) ⟨same_upd nD, upd_same⟩ (fun i G _ s => .inl (.inl (s.1 _ _ (sN _ _ ht)))) (fun i x G G' hi s yy => ?_) (fun G s => ?_)
      · obtain ⟨rfl, hx⟩ := yy
        obtain ⟨b, hbi, u, rfl, hu⟩ := BL.get bl1 hx
        obtain ⟨h1, h2, h3, h4⟩ := hb b (List.mem_of_getElem? hbi)
        have e1 : b.1.natAbs < 2 ^ 100 := Nat.lt_of_le_of_lt (by omega : b.1.natAbs ≤ 1000000) (by decide)
        have e2 : b.2.natAbs < 2 ^ 100 := Nat.lt_of_le_of_lt (by omega : b.2.natAbs ≤ 1000000) (by decide)
        have tx := (blkT_tx (hb b (List.mem_of_getElem? hbi))).len
        unfold blkT numT at tx
        rw [Str.length_append, Str.length_append] at tx
        refine ⟨u, _, rfl, .inl (.inl (s.1 _ _ hu)), rfl, _, _, rfl, _, _, rfl, rfl, rfl, ?_⟩
        delta tYes
        refine ite2 (fun _ => ?_) (fun z => absurd rfl z)
        refine ⟨.int b.1, rfl, b.1, rfl, log_small e1, _, _, rfl, rfl, by omega, .int b.2, rfl, b.2, rfl, log_small e2, _, _, rfl, rfl, by rw [Str.length_append]; omega, _, s.2, ?_, fun b o e => by rw [upd_ne (ne_of_none e nD)]; exact s.1 _ _ e, ?_⟩
        · rw [List.length_map, List.length_map, List.length_take]
          exact Nat.lt_of_le_of_lt (Nat.min_le_right _ _) (by omega)
        · rw [upd_same, List.take_add_one, hbi]
          simp only [List.map_append, Option.toList_some, List.map_cons, List.map_nil]
          rfl
      · have hD0 := s.2
        rw [bl.len, List.take_length] at hD0
        have tb := blks_tx hb
        refine ⟨" ", D, _, rfl, rfl, .inl (.inl (.inl hD0)), wt_fit (twt_le tb) (by rw [List.length_map]; omega) (by decide +kernel), ?_⟩
        have e : rowTxt bs = Txt.join " " (bs.map blkT) := by unfold rowTxt; rw [if_neg c1]
        rw [← e]
        exact q G (sN.trans s.1)
    · have c1 : bs = [] := by
        by_cases z : bs = []
        · exact z
        · rw [decide_eq_false z] at c1; exact absurd rfl c1
      have e : rowTxt bs = "-" := by unfold rowTxt; rw [if_pos c1]
      have := q H1 sN
      rw [e] at this
      exact this
def grp4 : List (List Bk) := [[(0, 4)], [(0, 2), (2, 2)], [(0, 1), (2, 2)], [(1, 1), (3, 1)], [(0, 2), (3, 1)]]
inductive Many : Nat → List Bk → Prop
  | nil : Many 0 []
  | step {i : Nat} {bs g : List Bk} : Many i bs → g ∈ grp4 → Many (i + 1) (bs ++ g.map fun b => (4 * (i : Int) + b.1, b.2))
theorem grp4_ok {g : List Bk} (h : g ∈ grp4) : g.length ≤ 2 ∧ ∀ b ∈ g, 0 ≤ b.1 ∧ b.1 ≤ 3 ∧ 1 ≤ b.2 ∧ b.2 ≤ 4 := by
  unfold grp4 at h
  simp only [List.mem_cons, List.not_mem_nil, or_false] at h
  rcases h with rfl | rfl | rfl | rfl | rfl <;> decide
theorem Many.ok : ∀ {i : Nat} {bs : List Bk}, Many i bs → bs.length ≤ 2 * i ∧ ∀ b ∈ bs, 0 ≤ b.1 ∧ b.1 < 4 * i ∧ 1 ≤ b.2 ∧ b.2 ≤ 4
  | _, _, .nil => ⟨Nat.le_refl _, fun _ h => absurd h List.not_mem_nil⟩
  | _, _, .step (i := i) m hg => by
    obtain ⟨h1, h2⟩ := m.ok
    obtain ⟨g1, g2⟩ := grp4_ok hg
    refine ⟨by rw [List.length_append, List.length_map]; omega, fun b hb => ?_⟩
    rcases List.mem_append.mp hb with hb | hb
    · have := h2 b hb
      omega
    · obtain ⟨c, hc, rfl⟩ := List.mem_map.mp hb
      have := g2 c hc
      dsimp only
      omega
def spMb : Sp := fun vs H Q _ => ∃ (p : Addr), vs = [.ref p] ∧ Po H p ∧ ∀ H' t bs, But p H H' → Po H' p → Many 130 bs → StAt H' t bs → Q (.ref t) H'
def GrpAt (H : Hp) (x : V) (g : List Bk) : Prop := ∃ l ys, x = .ref l ∧ H l = some (.lst ys) ∧ BL H ys g
theorem ok_Mb {k : Nat} (Z : Fns K mg) : FnOk P w K mg base CX0 (k + 1 + 1 + 1) Z.fMb Z.fdMb ["_law_pot_here"] spMb := by
  have GPk : FnOk P w K mg base CX0 (k + 1 + 1) Z.fPk Z.fdPk ["_law_pot_here", "_law_some"] (spPk K) := ok_Pk Z
  refine Z.FMb.ok scMb (fun vs H Q E h => ?_) (fun cdv A outer s H vs Q E hr h => ?_)
  · obtain ⟨p, rfl, _⟩ := h
    rfl
  · obtain ⟨p, rfl, hp, q⟩ := h
    refine ⟨_, (pss_cons (ps_set (i := 1) scMb.nd rfl (.inl rfl) (pe_lst pa_nil))
 (pss_cons (ps_set (i := 2) scMb.nd rfl (.inl rfl) (pe_lst (pa_cons (pe_lst (pa_cons (pe_tup (pa_cons pe_int (pa_cons pe_int pa_nil))) pa_nil)) (pa_cons (pe_lst (pa_cons (pe_tup (pa_cons pe_int (pa_cons pe_int pa_nil))) (pa_cons (pe_tup (pa_cons pe_int (pa_cons pe_int pa_nil))) pa_nil))) (pa_cons (pe_lst (pa_cons (pe_tup (pa_cons pe_int (pa_cons pe_int pa_nil))) (pa_cons (pe_tup (pa_cons pe_int (pa_cons pe_int pa_nil))) pa_nil))) (pa_cons (pe_lst (pa_cons (pe_tup (pa_cons pe_int (pa_cons pe_int pa_nil))) (pa_cons (pe_tup (pa_cons pe_int (pa_cons pe_int pa_nil))) pa_nil))) (pa_cons (pe_lst (pa_cons (pe_tup (pa_cons pe_int (pa_cons pe_int pa_nil))) (pa_cons (pe_tup (pa_cons pe_int (pa_cons pe_int pa_nil))) pa_nil))) pa_nil)))))))
 (pss_cons (ps_for PassesOwn.never rfl (pi_range3 (by rfl) Z.N.range (pa_cons pe_int (pa_cons pe_int (pa_cons pe_int pa_nil)))) (pg_name (i := 3) scMb.nd rfl (.inr rfl))
 (pss_one (ps_expr (pe_bm PySem.F.plainAttrs_list PySem.F.slot_list_extend PySem.F.type_list_extend mt_extend (pv 1) (pa_cons (pe_lc (own := [("_law_at", 4), ("_law_many", 5)]) (g := (gTup K 2 (gCons (gName 4) (gCons (gName 5) gNil)))) (tt := tYes) (by rfl) scMb.nd (pi_list (pe_call GPk (hr.mono (by omega)) (by rfl) Z.gPk Z.FPk.kp Z.bPk .nil pass0 (pa_cons (pv 0) (pa_cons (pv 2) pa_nil)))) (blkOk_by (N := scMbN) (sc := defScope scMbS) (by decide +kernel)) (fun _ _ _ _ _ => (pg_tup (by rfl) (pgs_cons (pg_name (i := 4) scMb.nd rfl (.inl rfl)) (pgs_cons (pg_name (i := 5) scMb.nd rfl (.inl rfl)) pgs_nil)))) (fun _ _ _ _ _ => pts_nil) (fun _ _ _ _ _ => (pe_tup (pa_cons (pe_op op_add (pv 3) (pv 4)) (pa_cons (pv 5) pa_nil))))) pa_nil)))))
 (pss_one (ps_ret (pe_callTy call_tuple_of (by rfl) Z.N.tuple (by decide +kernel) (pa_cons (pv 1) pa_nil))))))), ?_⟩
    have szl : sizeLine = 16777216 := by decide
    refine ⟨(by show 0 ≤ sizeLine; decide), fun F nF => ?_⟩
    have npF := hp.ne_none nF
    have hF0 : upd H F (.lst []) F = some (.lst []) := upd_same
    have s0 := same_upd (o := .lst []) nF
    generalize upd H F (.lst []) = G0 at s0 hF0 ⊢
    dsimp only [gName]
    refine ⟨(by show 2 ≤ sizeLine; decide), fun t1 nt1 => ?_⟩
    have z1 := same_upd (o := .tup [.int 0, .int 4]) nt1
    have ht1 : upd G0 t1 (.tup [.int 0, .int 4]) t1 = some (.tup [.int 0, .int 4]) := upd_same
    generalize upd G0 t1 (.tup [.int 0, .int 4]) = G1 at z1 ht1 ⊢
    refine ⟨(by show 1 ≤ sizeLine; decide), fun l2 nl2 => ?_⟩
    have z2 := same_upd (o := .lst [.ref t1]) nl2
    have hl2 : upd G1 l2 (.lst [.ref t1]) l2 = some (.lst [.ref t1]) := upd_same
    generalize upd G1 l2 (.lst [.ref t1]) = G2 at z2 hl2 ⊢
    refine ⟨(by show 2 ≤ sizeLine; decide), fun t3 nt3 => ?_⟩
    have z3 := same_upd (o := .tup [.int 0, .int 2]) nt3
    have ht3 : upd G2 t3 (.tup [.int 0, .int 2]) t3 = some (.tup [.int 0, .int 2]) := upd_same
    generalize upd G2 t3 (.tup [.int 0, .int 2]) = G3 at z3 ht3 ⊢
    refine ⟨(by show 2 ≤ sizeLine; decide), fun t4 nt4 => ?_⟩
    have z4 := same_upd (o := .tup [.int 2, .int 2]) nt4
    have ht4 : upd G3 t4 (.tup [.int 2, .int 2]) t4 = some (.tup [.int 2, .int 2]) := upd_same
    generalize upd G3 t4 (.tup [.int 2, .int 2]) = G4 at z4 ht4 ⊢
    refine ⟨(by show 2 ≤ sizeLine; decide), fun l5 nl5 => ?_⟩
    have z5 := same_upd (o := .lst [.ref t3, .ref t4]) nl5
    have hl5 : upd G4 l5 (.lst [.ref t3, .ref t4]) l5 = some (.lst [.ref t3, .ref t4]) := upd_same
    generalize upd G4 l5 (.lst [.ref t3, .ref t4]) = G5 at z5 hl5 ⊢
    refine ⟨(by show 2 ≤ sizeLine; decide), fun t6 nt6 => ?_⟩
    have z6 := same_upd (o := .tup [.int 0, .int 1]) nt6
    have ht6 : upd G5 t6 (.tup [.int 0, .int 1]) t6 = some (.tup [.int 0, .int 1]) := upd_same
    generalize upd G5 t6 (.tup [.int 0, .int 1]) = G6 at z6 ht6 ⊢
    refine ⟨(by show 2 ≤ sizeLine; decide), fun t7 nt7 => ?_⟩
    have z7 := same_upd (o := .tup [.int 2, .int 2]) nt7
    have ht7 : upd G6 t7 (.tup [.int 2, .int 2]) t7 = some (.tup [.int 2, .int 2]) := upd_same
    generalize upd G6 t7 (.tup [.int 2, .int 2]) = G7 at z7 ht7 ⊢
    refine ⟨(by show 2 ≤ sizeLine; decide), fun l8 nl8 => ?_⟩
    have z8 := same_upd (o := .lst [.ref t6, .ref t7]) nl8
    have hl8 : upd G7 l8 (.lst [.ref t6, .ref t7]) l8 = some (.lst [.ref t6, .ref t7]) := upd_same
    generalize upd G7 l8 (.lst [.ref t6, .ref t7]) = G8 at z8 hl8 ⊢
    refine ⟨(by show 2 ≤ sizeLine; decide), fun t9 nt9 => ?_⟩
    have z9 := same_upd (o := .tup [.int 1, .int 1]) nt9
    have ht9 : upd G8 t9 (.tup [.int 1, .int 1]) t9 = some (.tup [.int 1, .int 1]) := upd_same
    generalize upd G8 t9 (.tup [.int 1, .int 1]) = G9 at z9 ht9 ⊢
    refine ⟨(by show 2 ≤ sizeLine; decide), fun t10 nt10 => ?_⟩
    have z10 := same_upd (o := .tup [.int 3, .int 1]) nt10
    have ht10 : upd G9 t10 (.tup [.int 3, .int 1]) t10 = some (.tup [.int 3, .int 1]) := upd_same
    generalize upd G9 t10 (.tup [.int 3, .int 1]) = G10 at z10 ht10 ⊢
    refine ⟨(by show 2 ≤ sizeLine; decide), fun l11 nl11 => ?_⟩
    have z11 := same_upd (o := .lst [.ref t9, .ref t10]) nl11
    have hl11 : upd G10 l11 (.lst [.ref t9, .ref t10]) l11 = some (.lst [.ref t9, .ref t10]) := upd_same
    generalize upd G10 l11 (.lst [.ref t9, .ref t10]) = G11 at z11 hl11 ⊢
    refine ⟨(by show 2 ≤ sizeLine; decide), fun t12 nt12 => ?_⟩
    have z12 := same_upd (o := .tup [.int 0, .int 2]) nt12
    have ht12 : upd G11 t12 (.tup [.int 0, .int 2]) t12 = some (.tup [.int 0, .int 2]) := upd_same
    generalize upd G11 t12 (.tup [.int 0, .int 2]) = G12 at z12 ht12 ⊢
    refine ⟨(by show 2 ≤ sizeLine; decide), fun t13 nt13 => ?_⟩
    have z13 := same_upd (o := .tup [.int 3, .int 1]) nt13
    have ht13 : upd G12 t13 (.tup [.int 3, .int 1]) t13 = some (.tup [.int 3, .int 1]) := upd_same
    generalize upd G12 t13 (.tup [.int 3, .int 1]) = G13 at z13 ht13 ⊢
    refine ⟨(by show 2 ≤ sizeLine; decide), fun l14 nl14 => ?_⟩
    have z14 := same_upd (o := .lst [.ref t12, .ref t13]) nl14
    have hl14 : upd G13 l14 (.lst [.ref t12, .ref t13]) l14 = some (.lst [.ref t12, .ref t13]) := upd_same
    generalize upd G13 l14 (.lst [.ref t12, .ref t13]) = G14 at z14 hl14 ⊢
    refine ⟨(by show 5 ≤ sizeLine; decide), fun S nS => ?_⟩
    have z15 := same_upd (o := .lst [.ref l2, .ref l5, .ref l8, .ref l11, .ref l14]) nS
    have hS : upd G14 S (.lst [.ref l2, .ref l5, .ref l8, .ref l11, .ref l14]) S = some (.lst [.ref l2, .ref l5, .ref l8, .ref l11, .ref l14]) := upd_same
    generalize upd G14 S (.lst [.ref l2, .ref l5, .ref l8, .ref l11, .ref l14]) = G15 at z15 hS ⊢
    have sPrev := (z1.trans (z2.trans (z3.trans (z4.trans (z5.trans (z6.trans (z7.trans (z8.trans (z9.trans (z10.trans (z11.trans (z12.trans (z13.trans (z14))))))))))))))
    have sAll := (z1.trans (z2.trans (z3.trans (z4.trans (z5.trans (z6.trans (z7.trans (z8.trans (z9.trans (z10.trans (z11.trans (z12.trans (z13.trans (z14.trans (z15)))))))))))))))
    have hpS := (hp.same s0).same sAll
    have hF := sAll _ _ hF0
    have grps : ∀ x ∈ [V.ref l2, .ref l5, .ref l8, .ref l11, .ref l14], ∃ g, g ∈ grp4 ∧ GrpAt G15 x g := fun x hx => by
      simp only [List.mem_cons, List.not_mem_nil, or_false] at hx
      rcases hx with rfl | rfl | rfl | rfl | rfl
      · exact ⟨[(0, 4)], by unfold grp4; simp, l2, _, rfl, (z3.trans (z4.trans (z5.trans (z6.trans (z7.trans (z8.trans (z9.trans (z10.trans (z11.trans (z12.trans (z13.trans (z14.trans (z15))))))))))))) _ _ hl2, (.cons ⟨t1, rfl, (z2.trans (z3.trans (z4.trans (z5.trans (z6.trans (z7.trans (z8.trans (z9.trans (z10.trans (z11.trans (z12.trans (z13.trans (z14.trans (z15)))))))))))))) _ _ ht1⟩ .nil)⟩
      · exact ⟨[(0, 2), (2, 2)], by unfold grp4; simp, l5, _, rfl, (z6.trans (z7.trans (z8.trans (z9.trans (z10.trans (z11.trans (z12.trans (z13.trans (z14.trans (z15)))))))))) _ _ hl5, (.cons ⟨t3, rfl, (z4.trans (z5.trans (z6.trans (z7.trans (z8.trans (z9.trans (z10.trans (z11.trans (z12.trans (z13.trans (z14.trans (z15)))))))))))) _ _ ht3⟩ (.cons ⟨t4, rfl, (z5.trans (z6.trans (z7.trans (z8.trans (z9.trans (z10.trans (z11.trans (z12.trans (z13.trans (z14.trans (z15))))))))))) _ _ ht4⟩ .nil))⟩
      · exact ⟨[(0, 1), (2, 2)], by unfold grp4; simp, l8, _, rfl, (z9.trans (z10.trans (z11.trans (z12.trans (z13.trans (z14.trans (z15))))))) _ _ hl8, (.cons ⟨t6, rfl, (z7.trans (z8.trans (z9.trans (z10.trans (z11.trans (z12.trans (z13.trans (z14.trans (z15))))))))) _ _ ht6⟩ (.cons ⟨t7, rfl, (z8.trans (z9.trans (z10.trans (z11.trans (z12.trans (z13.trans (z14.trans (z15)))))))) _ _ ht7⟩ .nil))⟩
      · exact ⟨[(1, 1), (3, 1)], by unfold grp4; simp, l11, _, rfl, (z12.trans (z13.trans (z14.trans (z15)))) _ _ hl11, (.cons ⟨t9, rfl, (z10.trans (z11.trans (z12.trans (z13.trans (z14.trans (z15)))))) _ _ ht9⟩ (.cons ⟨t10, rfl, (z11.trans (z12.trans (z13.trans (z14.trans (z15))))) _ _ ht10⟩ .nil))⟩
      · exact ⟨[(0, 2), (3, 1)], by unfold grp4; simp, l14, _, rfl, (z15) _ _ hl14, (.cons ⟨t12, rfl, (z13.trans (z14.trans (z15))) _ _ ht12⟩ (.cons ⟨t13, rfl, (z14.trans (z15)) _ _ ht13⟩ .nil))⟩
    have lO : ([V.ref l2, .ref l5, .ref l8, .ref l11, .ref l14]).length = 5 := rfl
    generalize [V.ref l2, .ref l5, .ref l8, .ref l11, .ref l14] = os at hS grps lO
    have b0 : But p H G15 := fun b o _ e => sAll _ _ (s0 _ _ e)
    have npS : S ≠ p := fun z => by
      obtain ⟨_, _, _, e, _⟩ := hp
      rw [← z] at e
      rw [sPrev _ _ (s0 _ _ e)] at nS
      cases nS
    have nSF : S ≠ F := fun z => by
      rw [z, sPrev _ _ hF0] at nS
      cases nS
    clear sAll sPrev nS z1 z2 z3 z4 z5 z6 z7 z8 z9 z10 z11 z12 z13 z14 z15 ht1 ht3 ht4 ht6 ht7 ht9 ht10 ht12 ht13 hl2 hl5 hl8 hl11 hl14 nt1 nt3 nt4 nt6 nt7 nt9 nt10 nt12 nt13 nl2 nl5 nl8 nl11 nl14
    dsimp only [gName]
    refine ⟨0, 520, 4, rgN 0 520 4, rfl, RgC.up (by decide) (by decide) ⟨by decide, by decide⟩ ⟨by decide, by decide⟩, ?_⟩
    have e130 : rgN 0 520 4 = 130 := by decide +kernel
    rw [e130]
    refine for_rangeC (lo := 0) (c := 4) (n := 130) (fun i σ G => ∃ (y3 y4 y5 : Option V) (xs : List V) (bs : List Bk), σ = [some (.ref p), some (.ref F), some (.ref S), y3, y4, y5] ∧ (∀ b o, b ≠ p → b ≠ F → G15 b = some o → G b = some o) ∧ Po G p ∧ G F = some (.lst xs) ∧ BL G xs bs ∧ Many i bs) ⟨none, none, none, [], [], rfl, fun _ _ _ _ e => e, hpS, hF, .nil, .nil⟩ ?_ ?_
    · rintro i σ G hi ⟨y3, y4, y5, xs, bs, rfl, fr, hpG, hFG, bl, mn⟩
      have hSG := fr _ _ npS nSF hS
      refine ⟨.ref F, rfl, .inl ⟨rfl, _, .inl (.inl hFG)⟩, .ref p, rfl, .ref S, rfl, p, S, os, rfl, hpG, .inl (.inl (.inl hSG)), npS, (fun z => by rw [z] at lO; simp at lO), by omega, fun G1 v b1 hp1 hv => ?_⟩
      obtain ⟨g, hg, l, ys, rfl, hl, blg⟩ := grps v hv
      obtain ⟨g1, g2⟩ := grp4_ok hg
      have ly : ys.length = g.length := blg.len
      have npl : l ≠ p := fun z => by
        obtain ⟨_, _, _, e, _⟩ := hpS
        rw [z, e] at hl
        cases hl
        simp at ly
        omega
      have nlF : l ≠ F := fun z => by
        rw [z, hF] at hl
        cases hl
        have : g ≠ [] := by
          unfold grp4 at hg
          simp only [List.mem_cons, List.not_mem_nil, or_false] at hg
          rcases hg with rfl | rfl | rfl | rfl | rfl <;> simp
        exact this (List.length_eq_zero_iff.mp ly.symm)
      have hF1 := b1 _ _ npF.symm hFG
      have hl1 := b1 _ _ npl (fr _ _ npl nlF hl)
      have bl1 : BL G1 ys g := BL.kp blg fun v us e => b1 _ _ (hpS.netup e) (fr _ _ (hpS.netup e) (ne_of e hF (by intro z; cases z)) e)
      have blx : BL G1 xs bs := BL.kp bl fun v us e => b1 _ _ (hpG.netup e) e
      refine ⟨l, rfl, ⟨_, .inl (.inl hl1)⟩, fun D nD => ?_⟩
      have nDF := ne_of_none hF1 nD
      refine lc_it (walk_list (K := K) (a := l) (xs := ys)) (fun j E => Same G1 E ∧ ∃ zs, E D = some (.lst zs) ∧ BL E zs ((g.take j).map fun b => (4 * (i : Int) + b.1, b.2))) ⟨same_upd nD, [], upd_same, .nil⟩ (fun j E _ s => .inl (.inl (s.1 _ _ hl1))) (fun j x E E' hj s yy => ?_) (fun E s => ?_)
      · obtain ⟨rfl, hx⟩ := yy
        obtain ⟨b, hbj, u, rfl, hu⟩ := BL.get bl1 hx
        obtain ⟨sE, zs, hDE, bz⟩ := s
        refine ⟨u, _, rfl, .inl (.inl (sE _ _ hu)), rfl, _, _, rfl, _, _, rfl, rfl, rfl, ?_⟩
        delta tYes
        refine ite2 (fun _ => ?_) (fun z => absurd rfl z)
        refine ⟨.int _, rfl, .int b.1, rfl, _, _, rfl, rfl, .int b.2, rfl, (by show 2 ≤ sizeLine; decide), fun T nT => ?_⟩
        have sT := same_upd (o := .tup [.int (0 + (i : Int) * 4 + b.1), .int b.2]) nT
        have hT : upd E' T (.tup [.int (0 + (i : Int) * 4 + b.1), .int b.2]) T = some (.tup [.int (0 + (i : Int) * 4 + b.1), .int b.2]) := upd_same
        generalize upd E' T (.tup [.int (0 + (i : Int) * 4 + b.1), .int b.2]) = E2 at sT hT ⊢
        have hD2 := sT _ _ hDE
        refine ⟨zs, hD2, ?_, fun b o e => by rw [upd_ne (ne_of_none e nD)]; exact sT _ _ (sE _ _ e), _, upd_same, ?_⟩
        · rw [bz.len, List.length_map, List.length_take]
          exact Nat.lt_of_le_of_lt (Nat.min_le_right _ _) (by omega)
        · rw [List.take_add_one, hbj]
          simp only [List.map_append, Option.toList_some, List.map_cons, List.map_nil]
          have e4 : (0 : Int) + (i : Int) * 4 + b.1 = 4 * (i : Int) + b.1 := by omega
          rw [e4] at hT
          refine Paired.snoc (BL.kp bz fun v us e => ?_) ⟨T, rfl, ?_⟩
          · rw [upd_ne (ne_of (sT _ _ e) hD2 (by intro z; cases z))]
            exact sT _ _ e
          · rw [upd_ne (ne_of hT hD2 (by intro z; cases z))]
            exact hT
      · obtain ⟨sE, zs, hDE, bz⟩ := s
        rw [ly, List.take_length] at bz
        have hFE := sE _ _ hF1
        obtain ⟨mo1, _⟩ := mn.ok
        have bx := BL.kp blx fun v us e => sE _ _ e
        refine ⟨F, D, xs, zs, rfl, rfl, hFE, hDE, ?_, ?_⟩
        · rw [bx.len, bz.len, List.length_map]
          omega
        · refine ⟨_, _, _, xs ++ zs, _, rfl, fun b o n1 n2 e => ?_, (hp1.same sE).keep npF, upd_same, ?_, .step mn hg⟩
          · rw [upd_ne n2]
            exact sE _ _ (b1 _ _ n1 (fr _ _ n1 n2 e))
          · refine BL.app (BL.kp bx fun v us e => ?_) (BL.kp bz fun v us e => ?_)
            · rw [upd_ne (ne_of e hFE (by intro z; cases z))]
              exact e
            · rw [upd_ne (ne_of e hFE (by intro z; cases z))]
              exact e
    · rintro σ G ⟨y3, y4, y5, xs, bs, rfl, fr, hpG, hFG, bl, mn⟩
      refine ⟨.ref F, rfl, F, xs, rfl, .inl ⟨.inl (.inl hFG), fun T nT => ?_⟩⟩
      have sT := same_upd (o := .tup xs) nT
      exact q _ T bs (fun b o nb e => sT _ _ (fr _ _ nb (ne_of_none e nF) (b0 _ _ nb e))) (hpG.same sT) mn ⟨xs, upd_same, BL.kp bl fun v us e => sT _ _ e⟩
end
end Ph

set_option maxHeartbeats 8000000
namespace Ph
open PySem PySem.Spec PyProof.Rows L2
/-! ### texts that are read back -/
theorem numL_head : ∀ n : Nat, 1 ≤ n → (TL.numL n)[0]? ≠ some 48 := by
  intro n
  induction n using Nat.strongRecOn with
  | _ n ih =>
    intro h1 h
    by_cases c : n < 10
    · rw [TL.numL_lt c] at h
      simp at h
      omega
    · rw [TL.numL_step (by omega)] at h
      have ne := TL.numL_ne (n / 10)
      cases e : TL.numL (n / 10) with
      | nil => exact ne e
      | cons a r =>
        refine ih (n / 10) (by omega) (by omega) ?_
        rw [e] at h ⊢
        exact h
theorem tl_numT (n : Nat) : TL.tl (numT (n : Int)) = TL.numL n := TL.tl_num n
theorem numOf_numT {n : Nat} (h : n < 10 ^ 20) : numOf (numT (n : Int)) = some n := by
  unfold numOf
  have len : (numT (n : Int)).length = (TL.numL n).length := by rw [TL.len_tl, tl_numT]
  have l20 := TL.numL_len (by decide : 0 < 20) h
  have l1 : 1 ≤ (TL.numL n).length := List.length_pos_iff.mpr (TL.numL_ne n)
  have al : (TL.tl (numT (n : Int))).all isDg = true := by
    rw [tl_numT, List.all_eq_true]
    exact fun c hc => isDg_iff.mpr (TL.numL_digits n c hc)
  have nz : ¬ ((TL.tl (numT (n : Int)))[0]? = some 48 ∧ 1 < (numT (n : Int)).length) := by
    rintro ⟨h1, h2⟩
    rw [tl_numT] at h1
    by_cases c : n < 10
    · rw [len, TL.numL_lt c] at h2
      exact absurd h2 (by simp)
    · exact numL_head n (by omega) h1
  rw [if_pos ⟨by omega, by omega, al, nz⟩, tl_numT, TL.numL_val]
theorem numT_free {n s : Nat} (h : s < 48 ∨ 57 < s) : s ∉ TL.tl (numT (n : Int)) := by
  rw [tl_numT]
  exact TL.numL_free h
theorem join1 (y x : Str) : Txt.join y [x] = x := by
  rw [TL.join_eq]
  rfl
theorem join2 (y a b : Str) : Txt.join y [a, b] = a ++ y ++ b := by
  rw [TL.join_eq]
  rfl
theorem join4 (y a b c d : Str) : Txt.join y [a, b, c, d] = a ++ y ++ (b ++ y ++ (c ++ y ++ d)) := by
  rw [TL.join_eq]
  rfl
theorem join3 (y a b c : Str) : Txt.join y [a, b, c] = a ++ y ++ (b ++ y ++ c) := by
  rw [TL.join_eq]
  rfl
theorem tl_co : TL.tl (":" : Str) = [58] := by decide +kernel
theorem tl_sp : TL.tl (" " : Str) = [32] := by decide +kernel
theorem tl_nl : TL.tl ("\n" : Str) = [10] := by decide +kernel
theorem tl_sl : TL.tl ("/" : Str) = [47] := by decide +kernel
theorem lines_one {x : Str} (h : 10 ∉ TL.tl x) : linesT x = [x] := by
  have := TL.split_join (y := "\n") tl_nl nl_ok.2 (parts := [x]) (by simp) (fun p hp => by rw [List.mem_singleton.mp hp]; exact h)
  rw [join1] at this
  exact this
theorem head_one {x : Str} (h : 10 ∉ TL.tl x) : headT x = x := by
  unfold headT
  rw [lines_one h]
  rfl
theorem join_free {y : Str} {s : Nat} {ps : List Str} (hy : s ∉ TL.tl y) (h : ∀ p ∈ ps, s ∉ TL.tl p) : s ∉ TL.tl (Txt.join y ps) := fun hc => by
  rw [TL.join_eq, TL.tl_join] at hc
  rcases joinL_mem hc with z | ⟨p, hp, z⟩
  · exact hy z
  · obtain ⟨q, hq, rfl⟩ := List.mem_map.mp hp
    exact h q hq z
theorem app_free {v w : Str} {s : Nat} (h : s ∉ TL.tl v) (k : s ∉ TL.tl w) : s ∉ TL.tl (v ++ w) := fun hc => by
  rw [TL.tl_append] at hc
  exact (List.mem_append.mp hc).elim h k
/-- a block whose numbers are small -/
def BkN (b : Bk) : Prop := 0 ≤ b.1 ∧ b.1 < 10 ^ 20 ∧ 0 ≤ b.2 ∧ b.2 < 10 ^ 20
def rowO (b : Bk) : List (Option Nat) := [some b.1.toNat, some b.2.toNat]
theorem blkT_free {b : Bk} (h : BkN b) {s : Nat} (hs : s < 48 ∨ 57 < s) (hc : s ≠ 58) : s ∉ TL.tl (blkT b) := by
  obtain ⟨a, ea⟩ := Int.eq_ofNat_of_zero_le h.1
  obtain ⟨c, ec⟩ := Int.eq_ofNat_of_zero_le h.2.2.1
  unfold blkT
  rw [ea, ec]
  exact app_free (app_free (numT_free hs) (by rw [tl_co]; simpa using hc)) (numT_free hs)
theorem colons_blk {b : Bk} (h : BkN b) : colonsT (blkT b) = rowO b := by
  obtain ⟨a, ea⟩ := Int.eq_ofNat_of_zero_le h.1
  obtain ⟨c, ec⟩ := Int.eq_ofNat_of_zero_le h.2.2.1
  have e : blkT b = Txt.join ":" [numT (a : Int), numT (c : Int)] := by
    rw [join2]
    unfold blkT
    rw [ea, ec]
  have sp := TL.split_join (y := ":") tl_co co_ok.2 (parts := [numT (a : Int), numT (c : Int)]) (by simp) (fun p hp => by
    simp only [List.mem_cons, List.not_mem_nil, or_false] at hp
    rcases hp with rfl | rfl <;> exact numT_free (by decide))
  unfold colonsT
  rw [e, sp]
  have h1 := h.2.1
  have h2 := h.2.2.2
  rw [ea] at h1
  rw [ec] at h2
  have a20 : a < 10 ^ 20 := by exact_mod_cast h1
  have c20 : c < 10 ^ 20 := by exact_mod_cast h2
  simp only [List.map_cons, List.map_nil, numOf_numT a20, numOf_numT c20]
  unfold rowO
  rw [ea, ec]
  rfl
theorem row_lines {bs : List Bk} (h : ∀ b ∈ bs, BkN b) : 10 ∉ TL.tl (rowTxt bs) := by
  unfold rowTxt
  split
  · decide +kernel
  · refine join_free (by rw [tl_sp]; decide) fun p hp => ?_
    obtain ⟨b, hb, rfl⟩ := List.mem_map.mp hp
    exact blkT_free (h b hb) (by decide) (by decide)
theorem rows_row {bs : List Bk} (h : ∀ b ∈ bs, BkN b) : rowsT (rowTxt bs) = bs.map rowO := by
  by_cases c : bs = []
  · subst c
    have e : rowTxt [] = "-" := rfl
    rw [e]
    unfold rowsT
    rw [if_pos rfl]
    rfl
  · have e : rowTxt bs = Txt.join " " (bs.map blkT) := by unfold rowTxt; rw [if_neg c]
    have sp : wordsT (rowTxt bs) = bs.map blkT := by
      unfold wordsT
      rw [e]
      exact TL.split_join (y := " ") tl_sp sp_ok.2 (parts := bs.map blkT) (by simpa using c) (fun p hp => by
        obtain ⟨b, hb, rfl⟩ := List.mem_map.mp hp
        exact blkT_free (h b hb) (by decide) (by decide))
    have nd : ¬ rowTxt bs = "-" := fun z => by
      have w1 : wordsT "-" = [("-" : Str)] := by decide +kernel
      rw [z, w1] at sp
      cases bs with
      | nil => exact c rfl
      | cons b r =>
        rw [List.map_cons] at sp
        have e2 : ("-" : Str) = blkT b := (List.cons.inj sp).1
        have m : 58 ∈ TL.tl (blkT b) := by
          unfold blkT
          rw [TL.tl_append, TL.tl_append, tl_co]
          simp
        rw [← e2] at m
        exact absurd m (by decide +kernel)
    unfold rowsT
    rw [if_neg nd, sp, List.map_map]
    exact List.map_congr_left fun b hb => colons_blk (h b hb)
theorem rowsD_row {bs : List Bk} (h : ∀ b ∈ bs, 0 ≤ b.1 ∧ 0 ≤ b.2) : rowsD (bs.map rowO) = .tuple (bs.map bD) := by
  unfold rowsD
  rw [List.map_map]
  congr 1
  refine List.map_congr_left fun b hb => ?_
  obtain ⟨h1, h2⟩ := h b hb
  show PyData.tuple [.int (b.1.toNat : Int), .int (b.2.toNat : Int)] = PyData.tuple [.int b.1, .int b.2]
  rw [Int.toNat_of_nonneg h1, Int.toNat_of_nonneg h2]
/-- a state is one by is_state -/
theorem ends_rows {W : Nat} : ∀ {bs : List Bk} {e : Nat}, (bs.Pairwise fun b c => b.1 + b.2 ≤ c.1) → (∀ b ∈ bs, (e : Int) ≤ b.1 ∧ 0 ≤ b.2 ∧ b.1 + b.2 ≤ W) → e ≤ W → endsOk W e (bs.map rowO) = true
  | [], e, _, _, h => decide_eq_true h
  | b :: r, e, p, h, _ => by
    obtain ⟨h1, h2, h3⟩ := h b (List.mem_cons_self ..)
    obtain ⟨p1, p2⟩ := List.pairwise_cons.mp p
    show (if b.1.toNat < e then false else endsOk W (b.1.toNat + b.2.toNat) (r.map rowO)) = true
    rw [if_neg (by omega)]
    exact ends_rows p2 (fun c hc => by
      have := h c (List.mem_cons_of_mem _ hc)
      have := p1 c hc
      omega) (by omega)
theorem isStB_st {C : List Nat} {W : Nat} {bs : List Bk} (st : St (C.map fun n : Nat => (n : Int)) (W : Int) bs) : isStB C W (bs.map rowO) = true := by
  unfold isStB
  rw [ends_rows st.asc (fun b hb => by
    obtain ⟨_, h1, h2, _, h3⟩ := st.ok b hb
    omega) (Nat.zero_le _), Bool.and_true, List.all_eq_true]
  intro os hos
  obtain ⟨b, hb, rfl⟩ := List.mem_map.mp hos
  obtain ⟨hm, h1, h2, hmod, h3⟩ := st.ok b hb
  refine isBl_iff.mpr ⟨b.1.toNat, b.2.toNat, rfl, ?_, ?_⟩
  · obtain ⟨n, hn, e⟩ := List.mem_map.mp hm
    rw [← e, Int.toNat_natCast]
    exact hn
  · have e1 := Int.toNat_of_nonneg h2
    have e2 := Int.toNat_of_nonneg (show (0 : Int) ≤ b.2 by omega)
    rw [← e1, ← e2, ← Int.natCast_emod] at hmod
    omega
theorem Many.st : ∀ {i : Nat} {bs : List Bk}, Many i bs → St [1, 2, 4] ((4 * i : Nat) : Int) bs
  | _, _, .nil => ⟨fun _ h => absurd h List.not_mem_nil, .nil⟩
  | _, _, .step (i := i) (bs := bs) (g := g) m hg => by
    have ih := m.st
    have gk : ∀ b ∈ g, (b.2 = 1 ∨ b.2 = 2 ∨ b.2 = 4) ∧ 0 ≤ b.1 ∧ b.1 % b.2 = 0 ∧ b.1 + b.2 ≤ 4 := by
      unfold grp4 at hg
      simp only [List.mem_cons, List.not_mem_nil, or_false] at hg
      rcases hg with rfl | rfl | rfl | rfl | rfl <;> decide
    have ga : g.Pairwise fun b c => b.1 + b.2 ≤ c.1 := by
      unfold grp4 at hg
      simp only [List.mem_cons, List.not_mem_nil, or_false] at hg
      rcases hg with rfl | rfl | rfl | rfl | rfl <;> decide
    refine ⟨fun b hb => ?_, List.pairwise_append.mpr ⟨ih.asc, List.pairwise_map.mpr (ga.imp fun {b c} h => by dsimp only; omega), fun b hb c hc => ?_⟩⟩
    · rcases List.mem_append.mp hb with hb | hb
      · obtain ⟨h0, h1, h2, h3, h4⟩ := ih.ok b hb
        exact ⟨h0, h1, h2, h3, by omega⟩
      · obtain ⟨c, hc, rfl⟩ := List.mem_map.mp hb
        obtain ⟨h1, h2, h3, h4⟩ := gk c hc
        obtain ⟨c1, c2⟩ := c
        dsimp only at h1 h2 h3 h4
        show c2 ∈ [(1 : Int), 2, 4] ∧ 1 ≤ c2 ∧ 0 ≤ 4 * (i : Int) + c1 ∧ (4 * (i : Int) + c1) % c2 = 0 ∧ 4 * (i : Int) + c1 + c2 ≤ ((4 * (i + 1) : Nat) : Int)
        rcases h1 with rfl | rfl | rfl
        · exact ⟨by simp, by decide, by omega, by omega, by omega⟩
        · exact ⟨by simp, by decide, by omega, by omega, by omega⟩
        · exact ⟨by simp, by decide, by omega, by omega, by omega⟩
    · obtain ⟨h0, h1, h2, h3, h4⟩ := ih.ok b hb
      obtain ⟨d, hd, rfl⟩ := List.mem_map.mp hc
      have := gk d hd
      dsimp only
      omega
/-! ### chains -/
def chT (C : List Nat) : Str := Txt.join "/" (C.map fun n : Nat => numT (n : Int))
theorem slash_chT {C : List Nat} (ne : C ≠ []) (h : ∀ n ∈ C, n < 10 ^ 20) : slashT (chT C) = C.map some := by
  have sp := TL.split_join (y := "/") tl_sl sl_ok.2 (parts := C.map fun n : Nat => numT (n : Int)) (by simpa using ne) (fun p hp => by
    obtain ⟨n, _, rfl⟩ := List.mem_map.mp hp
    exact numT_free (by decide))
  unfold slashT chT
  rw [sp, List.map_map]
  exact List.map_congr_left fun n hn => numOf_numT (h n hn)
theorem ch_lines (C : List Nat) : 10 ∉ TL.tl (chT C) := join_free (by rw [tl_sl]; decide) fun p hp => by
  obtain ⟨n, _, rfl⟩ := List.mem_map.mp hp
  exact numT_free (by decide)
theorem oD_some (C : List Nat) : oD (C.map some) = .tuple ((C.map fun n : Nat => (n : Int)).map PyData.int) := by
  unfold oD
  rw [List.map_map, List.map_map]
  rfl
/-! ### histories -/
def lineT : Tev → Str
  | .get s a => "get " ++ numT (s : Int) ++ (" at " ++ numT (a : Int))
  | .bad s => "get " ++ numT (s : Int) ++ " fails"
  | .free a => "free " ++ numT (a : Int)
def histT (es : List Tev) : Str := if es = [] then "-" else Txt.join "\n" (es.map lineT)
theorem str_assoc (a b c : Str) : a ++ b ++ c = a ++ (b ++ c) := TL.ext_tl (by rw [TL.tl_append, TL.tl_append, TL.tl_append, TL.tl_append, List.append_assoc])
theorem lits4 : ("get" : Str) ++ " " = "get " ∧ (" " : Str) ++ ("at" ++ " ") = " at " ∧ (" " : Str) ++ "fails" = " fails" ∧ ("free" : Str) ++ " " = "free " := by decide +kernel
def wds : Tev → List Str
  | .get s a => ["get", numT (s : Int), "at", numT (a : Int)]
  | .bad s => ["get", numT (s : Int), "fails"]
  | .free a => ["free", numT (a : Int)]
theorem line_join (e : Tev) : lineT e = Txt.join " " (wds e) := by
  cases e with
  | get s a =>
    show "get " ++ numT (s : Int) ++ (" at " ++ numT (a : Int)) = Txt.join " " ["get", numT (s : Int), "at", numT (a : Int)]
    rw [join4, ← lits4.1, ← lits4.2.1]
    simp only [str_assoc]
  | bad s =>
    show "get " ++ numT (s : Int) ++ " fails" = Txt.join " " ["get", numT (s : Int), "fails"]
    rw [join3, ← lits4.1, ← lits4.2.2.1]
    simp only [str_assoc]
  | free a =>
    show "free " ++ numT (a : Int) = Txt.join " " ["free", numT (a : Int)]
    rw [join2, ← lits4.2.2.2]
theorem lit_free : (∀ s ∈ [10, 32], s ∉ TL.tl ("get" : Str) ∧ s ∉ TL.tl ("at" : Str) ∧ s ∉ TL.tl ("fails" : Str) ∧ s ∉ TL.tl ("free" : Str)) := by decide +kernel
theorem wds_free {e : Tev} {s : Nat} (h : s ∈ [10, 32]) : ∀ p ∈ wds e, s ∉ TL.tl p := fun p hp => by
  obtain ⟨h1, h2, h3, h4⟩ := lit_free s h
  have hn : ∀ n : Nat, s ∉ TL.tl (numT (n : Int)) := fun n => numT_free (by
    simp only [List.mem_cons, List.not_mem_nil, or_false] at h
    omega)
  cases e with
  | get a b =>
    simp only [wds, List.mem_cons, List.not_mem_nil, or_false] at hp
    rcases hp with rfl | rfl | rfl | rfl
    · exact h1
    · exact hn _
    · exact h2
    · exact hn _
  | bad a =>
    simp only [wds, List.mem_cons, List.not_mem_nil, or_false] at hp
    rcases hp with rfl | rfl | rfl
    · exact h1
    · exact hn _
    · exact h3
  | free a =>
    simp only [wds, List.mem_cons, List.not_mem_nil, or_false] at hp
    rcases hp with rfl | rfl
    · exact h4
    · exact hn _
theorem words_line (e : Tev) : wordsT (lineT e) = wds e := by
  unfold wordsT
  rw [line_join]
  exact TL.split_join (y := " ") tl_sp sp_ok.2 (parts := wds e) (by cases e <;> simp [wds]) (wds_free (by decide))
theorem line_nl (e : Tev) : 10 ∉ TL.tl (lineT e) := by
  rw [line_join]
  exact join_free (by rw [tl_sp]; decide) (wds_free (by decide))
/-- an event that may be written -/
def Tev.okC (C : List Nat) : Tev → Prop
  | .get s a => s ∈ C ∧ s < 10 ^ 20 ∧ a < 10 ^ 20 ∧ a % s = 0
  | .bad s => s ∈ C ∧ s < 10 ^ 20
  | .free a => a < 10 ^ 20
theorem tev_line {C : List Nat} {e : Tev} (h : e.okC C) : tevOf C (wordsT (lineT e)) = some e := by
  rw [words_line]
  have ne : ¬ ("get" : Str) = "free" := by decide +kernel
  cases e with
  | get s a =>
    obtain ⟨h1, h2, h3, h4⟩ := h
    have f : ¬ ((wds (.get s a)).length = 2 ∧ (wds (.get s a))[0]? = some ("free" : Str)) := fun z => absurd z.1 (by simp [wds])
    have g : ¬ ((wds (.get s a)).length < 3 ∨ (wds (.get s a))[0]? ≠ some ("get" : Str)) := fun z => z.elim (fun z => absurd z (by simp [wds])) (fun z => z rfl)
    rw [tev_get f g (numOf_numT h2) h1]
    have d : ¬ (wds (.get s a)).drop 2 = [("fails" : Str)] := fun z => by
      have := congrArg List.length z
      exact absurd this (by simp [wds])
    rw [if_neg d, if_neg (fun z => z.elim (fun z => z rfl) (fun z => z rfl))]
    have n3 : numOf ((wds (.get s a)).getD 3 Str.empty) = some a := numOf_numT h3
    rw [n3]
    dsimp only
    rw [if_neg (fun z => z h4)]
  | bad s =>
    obtain ⟨h1, h2⟩ := h
    have f : ¬ ((wds (.bad s)).length = 2 ∧ (wds (.bad s))[0]? = some ("free" : Str)) := fun z => absurd z.1 (by simp [wds])
    have g : ¬ ((wds (.bad s)).length < 3 ∨ (wds (.bad s))[0]? ≠ some ("get" : Str)) := fun z => z.elim (fun z => absurd z (by simp [wds])) (fun z => z rfl)
    rw [tev_get f g (numOf_numT h2) h1]
    exact if_pos rfl
  | free a =>
    rw [tev_free ⟨rfl, rfl⟩]
    have n1 : numOf ((wds (.free a)).getD 1 Str.empty) = some a := numOf_numT h
    rw [n1]
    rfl
theorem go_lines {C : List Nat} : ∀ {es : List Tev} {n : Nat} {acc : List Tev}, (∀ e ∈ es, e.okC C) → lastBad acc = false → (∀ e ∈ es.dropLast, e.isBad = false) → hisGo C (es.map lineT) n acc = .inr (acc ++ es)
  | [], n, acc, _, _, _ => by
    rw [List.append_nil]
    rfl
  | e :: es, n, acc, ok, lb, nb => by
    show (if lastBad acc then Sum.inl n else match tevOf C (wordsT (lineT e)) with
      | none => .inl n
      | some e => hisGo C (es.map lineT) (n + 1) (acc ++ [e])) = _
    rw [lb, tev_line (ok e (List.mem_cons_self ..))]
    rw [if_neg (by decide)]
    cases es with
    | nil => rfl
    | cons f fs =>
      have hb : e.isBad = false := nb e (by simp [List.dropLast])
      have := go_lines (C := C) (es := f :: fs) (n := n + 1) (acc := acc ++ [e]) (fun x hx => ok x (List.mem_cons_of_mem _ hx)) (by rw [lastBad_snoc]; exact hb) (fun x hx => nb x (by
        rw [List.dropLast_cons_of_ne_nil (List.cons_ne_nil _ _)]
        exact List.mem_cons_of_mem _ hx))
      rw [List.append_assoc] at this
      exact this
theorem his_hist {C : List Nat} {es : List Tev} (ok : ∀ e ∈ es, e.okC C) (nb : ∀ e ∈ es.dropLast, e.isBad = false) : hisOf C (histT es) = .inr es := by
  by_cases c : es = []
  · subst c
    have e : histT [] = "-" := rfl
    have l : linesT "-" = [("-" : Str)] := by decide +kernel
    unfold hisOf
    rw [e, l]
    rfl
  · have e : histT es = Txt.join "\n" (es.map lineT) := by unfold histT; rw [if_neg c]
    have sp : linesT (histT es) = es.map lineT := by
      unfold linesT
      rw [e]
      exact TL.split_join (y := "\n") tl_nl nl_ok.2 (parts := es.map lineT) (by simpa using c) (fun p hp => by
        obtain ⟨x, _, rfl⟩ := List.mem_map.mp hp
        exact line_nl x)
    unfold hisOf
    rw [sp]
    have n0 : ¬ (es.map lineT)[0]? = some ("-" : Str) := fun z => by
      cases es with
      | nil => exact c rfl
      | cons x r =>
        have e2 : lineT x = "-" := Option.some.inj z
        have w := words_line x
        rw [e2] at w
        have w1 : wordsT "-" = [("-" : Str)] := by decide +kernel
        rw [w1] at w
        have := congrArg List.length w
        cases x <;> simp [wds] at this
    rw [if_neg n0, go_lines ok rfl nb]
    rfl
end Ph

set_option maxHeartbeats 8000000
namespace Ph
open PySem PySem.Spec PyProof.Rows L2
theorem emp_app (x : Str) : Str.empty ++ x = x := TL.ext_tl (by rw [TL.tl_append]; rfl)
theorem num_len {n : Nat} (h : n < 10 ^ 20) : (numT (n : Int)).length ≤ 20 := (Tx.num (i := (n : Int)) (k := 20) (by omega) (by decide) (by simpa using h)).len
theorem line_len {e : Tev} (h : e.lt (10 ^ 20)) : Tx (lineT e) 60 := by
  cases e with
  | get s a => exact (Tx.app (Tx.app (Tx.lit (s := "get ") (n := 4) (by decide +kernel) (by decide +kernel)) (Tx.num (i := (s : Int)) (k := 20) (by omega) (by decide) (by simpa using h.1))) (Tx.app (Tx.lit (s := " at ") (n := 4) (by decide +kernel) (by decide +kernel)) (Tx.num (i := (a : Int)) (k := 20) (by omega) (by decide) (by simpa using h.2)))).up (by decide)
  | bad s => exact (Tx.app (Tx.app (Tx.lit (s := "get ") (n := 4) (by decide +kernel) (by decide +kernel)) (Tx.num (i := (s : Int)) (k := 20) (by omega) (by decide) (by simpa [Tev.lt] using h))) (Tx.lit (s := " fails") (n := 6) (by decide +kernel) (by decide +kernel))).up (by decide)
  | free a => exact (Tx.app (Tx.lit (s := "free ") (n := 5) (by decide +kernel) (by decide +kernel)) (Tx.num (i := (a : Int)) (k := 20) (by omega) (by decide) (by simpa [Tev.lt] using h))).up (by decide)
theorem nlog {n : Nat} (h : n < 10 ^ 20) : ((n : Nat) : Int).natAbs.log2 < 1920 := log_small (by rw [Int.natAbs_natCast]; exact Nat.lt_trans h (by decide))
section
variable {P : Program} {w : World} {K : PySem.W.Frag} {mg : Str → Option Value} {base : Heap}
def spHc (K : PySem.W.Frag) : Sp := fun vs H Q _ => ∃ (c : Addr) (C : List Nat), vs = [.ref c] ∧ SqT K H c ((C.map fun n : Nat => (n : Int)).map V.int) ∧ C.length ≤ 100 ∧ (∀ n ∈ C, n < 10 ^ 20) ∧ ∀ H', Same H H' → Q (.str (chT C)) H'
theorem ok_Hc {k : Nat} (Z : Fns K mg) : FnOk P w K mg base CX0 (k + 1) Z.fHc Z.fdHc ["chain"] (spHc K) := by
  refine Z.FHc.ok scHc (fun vs H Q E h => ?_) (fun cdv A outer s H vs Q E hr h => ?_)
  · obtain ⟨c, C, rfl, _⟩ := h
    rfl
  · obtain ⟨c, C, rfl, hc, lC, small, q⟩ := h
    refine ⟨_, (pss_one (ps_ret (pe_bm PySem.F.plainAttrs_str PySem.F.slot_str_join PySem.F.type_str_join mt_join pe_str (pa_cons (pe_lc (own := [("size", 1)]) (g := (gName 1)) (tt := tYes) (by rfl) scHc.nd (pi_tup (pv 0)) (blkOk_by (N := scHcN) (sc := defScope scHcS) (by decide +kernel)) (fun _ _ _ _ _ => (pg_name (i := 1) scHc.nd rfl (.inl rfl))) (fun _ _ _ _ _ => pts_nil) (fun _ _ _ _ _ => (pe_callTy call_str_int (by rfl) Z.N.str (by decide +kernel) (pa_cons (pv 1) pa_nil)))) pa_nil)))), ?_⟩
    refine ⟨rfl, .ref c, rfl, c, rfl, ⟨_, hc⟩, fun D nD => ?_⟩
    refine lc_it (walk_tup (K := K) (a := c) (xs := (C.map fun n : Nat => (n : Int)).map V.int)) (fun i G => Same H G ∧ G D = some (.lst (((C.take i).map fun n : Nat => numT (n : Int)).map V.str))) ⟨same_upd nD, upd_same⟩ (fun i G _ s => s.1.tup hc) (fun i x G G' hi s yy => ?_) (fun G2 s => ?_)
    · obtain ⟨rfl, hx⟩ := yy
      rw [List.getElem?_map, List.getElem?_map] at hx
      obtain ⟨z, hz, rfl⟩ := Option.map_eq_some_iff.mp hx
      obtain ⟨n, hn, rfl⟩ := Option.map_eq_some_iff.mp hz
      refine ⟨rfl, ?_⟩
      delta tYes
      refine ite2 (fun _ => ?_) (fun z => absurd rfl z)
      refine ⟨.int n, rfl, n, rfl, nlog (small n (List.mem_of_getElem? hn)), _, s.2, ?_, fun b o e => by rw [upd_ne (ne_of_none e nD)]; exact s.1 _ _ e, ?_⟩
      · rw [List.length_map, List.length_map, List.length_take]
        exact Nat.lt_of_le_of_lt (Nat.le_trans (Nat.min_le_right _ _) lC) (by decide)
      · rw [upd_same, List.take_add_one, hn]
        simp only [List.map_append, Option.toList_some, List.map_cons, List.map_nil]
        rfl
    · have hD2 := s.2
      rw [List.length_map, List.length_map, List.take_length] at hD2
      have tC : ∀ y ∈ C.map (fun n : Nat => numT (n : Int)), Tx y 20 := fun y hy => by
        obtain ⟨n, hn, rfl⟩ := List.mem_map.mp hy
        exact Tx.num (by omega) (by decide) (by simpa using small n hn)
      exact ⟨"/", D, _, rfl, rfl, .inl (.inl (.inl hD2)), wt_fit (twt_le tC) (by rw [List.length_map]; omega) (by decide +kernel), q _ s.1⟩
def spHs : Sp := spRo
theorem ok_Hs {k : Nat} (Z : Fns K mg) : FnOk P w K mg base CX0 (k + 1) Z.fHs Z.fdHs ["state"] spHs := by
  refine Z.FHs.ok scHs (fun vs H Q E h => ?_) (fun cdv A outer s H vs Q E hr h => ?_)
  · obtain ⟨t, bs, rfl, _⟩ := h
    rfl
  · obtain ⟨t, bs, rfl, ⟨xs, ht, bl⟩, hn, hb, q⟩ := h
    refine ⟨_, (pss_cons (ps_if (pt_not (pt_truth (pv 0) (fun _ => rfl)))
 (pss_one (ps_ret pe_str)) pss_nil)
 (pss_one (ps_ret (pe_bm PySem.F.plainAttrs_str PySem.F.slot_str_join PySem.F.type_str_join mt_join pe_str (pa_cons (pe_lc (own := [("address", 1), ("size", 2)]) (g := (gTup K 2 (gCons (gName 1) (gCons (gName 2) gNil)))) (tt := tYes) (by rfl) scHs.nd (pi_tup (pv 0)) (blkOk_by (N := scHsN) (sc := defScope scHsS) (by decide +kernel)) (fun _ _ _ _ _ => (pg_tup (by rfl) (pgs_cons (pg_name (i := 1) scHs.nd rfl (.inl rfl)) (pgs_cons (pg_name (i := 2) scHs.nd rfl (.inl rfl)) pgs_nil)))) (fun _ _ _ _ _ => pts_nil) (fun _ _ _ _ _ => (pe_joined (.cons (pe_fmt (pv 1)) (.cons pe_str (.cons (pe_fmt (pv 2)) .nil)))))) pa_nil))))), ?_⟩
    have szl : sizeLine = 16777216 := by decide
    refine seq_splitT (fun σ' H' => σ' = [some (.ref t), none, none] ∧ H' = H ∧ ¬ bs = []) (fun D' rt1 hD' => ?_) ?_
    · refine ⟨.ref t, rfl, !xs.isEmpty, .inr (.inl ⟨xs, .inl (.inl ht), rfl⟩), ?_⟩
      have e : xs.isEmpty = decide (bs = []) := by
        have := bl.len
        cases xs with
        | nil => cases bs with
          | nil => rfl
          | cons b r => simp at this
        | cons x r => cases bs with
          | nil => simp at this
          | cons b r => rfl
      rw [e]
      refine ite2 (fun c => ?_) (fun c => ?_)
      · have c : bs = [] := by simpa using c
        show D'.rt _ _
        rw [rt1]
        have := q H (Same.refl _)
        have e2 : rowTxt bs = "-" := by unfold rowTxt; rw [if_pos c]
        rw [e2] at this
        exact this
      · have c : ¬ bs = [] := by simpa using c
        exact hD' _ _ ⟨rfl, rfl, c⟩
    rintro σ1 H1 ⟨rfl, rfl, c1⟩
    refine ⟨rfl, .ref t, rfl, t, rfl, ⟨_, .inl (.inl ht)⟩, fun D nD => ?_⟩
    refine lc_it (te := fun σ H Q => tJs [tFmt (tVar 1), tC (V.str ":"), tFmt (tVar 2)] Str.empty σ H fun out H1 => Q (V.str out) H1) (walk_tup (K := K) (a := t) (xs := xs)) (fun i G => Same H1 G ∧ G D = some (.lst (((bs.take i).map blkT).map V.str))) ⟨same_upd nD, upd_same⟩ (fun i G _ s => .inl (.inl (s.1 _ _ ht))) (fun i x G G' hi s yy => ?_) (fun G s => ?_)
    · obtain ⟨rfl, hx⟩ := yy
      obtain ⟨b, hbi, u, rfl, hu⟩ := BL.get bl hx
      obtain ⟨h1, h2, h3, h4⟩ := hb b (List.mem_of_getElem? hbi)
      have e1 : b.1.natAbs < 2 ^ 100 := Nat.lt_of_le_of_lt (by omega : b.1.natAbs ≤ 1000000) (by decide)
      have e2 : b.2.natAbs < 2 ^ 100 := Nat.lt_of_le_of_lt (by omega : b.2.natAbs ≤ 1000000) (by decide)
      have tx := (blkT_tx (hb b (List.mem_of_getElem? hbi))).len
      unfold blkT numT at tx
      have tx2 := tx
      rw [Str.length_append, Str.length_append] at tx2
      refine ⟨u, _, rfl, .inl (.inl (s.1 _ _ hu)), rfl, _, _, rfl, _, _, rfl, rfl, rfl, ?_⟩
      delta tYes
      refine ite2 (fun _ => ?_) (fun z => absurd rfl z)
      refine ⟨.int b.1, rfl, .inr ⟨b.1, rfl, log_small e1, _, rfl, by rw [emp_app]; omega, _, rfl, by rw [emp_app, Str.length_append]; omega, .int b.2, rfl, .inr ⟨b.2, rfl, log_small e2, _, rfl, by rw [emp_app]; omega, ?_⟩⟩⟩
      rw [emp_app]
      refine ⟨_, s.2, ?_, fun b o e => by rw [upd_ne (ne_of_none e nD)]; exact s.1 _ _ e, ?_⟩
      · rw [List.length_map, List.length_map, List.length_take]
        exact Nat.lt_of_le_of_lt (Nat.min_le_right _ _) (by omega)
      · rw [upd_same, List.take_add_one, hbi]
        simp only [List.map_append, Option.toList_some, List.map_cons, List.map_nil]
        rfl
    · have hD0 := s.2
      rw [bl.len, List.take_length] at hD0
      have tb := blks_tx hb
      refine ⟨" ", D, _, rfl, rfl, .inl (.inl (.inl hD0)), wt_fit (twt_le tb) (by rw [List.length_map]; omega) (by decide +kernel), ?_⟩
      have e : rowTxt bs = Txt.join " " (bs.map blkT) := by unfold rowTxt; rw [if_neg c1]
      rw [← e]
      exact q G s.1
def spHe : Sp := fun vs H Q _ => ∃ (t : Addr) (e : Tev), vs = [.ref t] ∧ H t = some (.tup (tevV e)) ∧ e.lt (10 ^ 20) ∧ ∀ H', Same H H' → Q (.str (lineT e)) H'
theorem ok_He {k : Nat} (Z : Fns K mg) : FnOk P w K mg base CX0 (k + 1) Z.fHe Z.fdHe ["event"] spHe := by
  refine Z.FHe.ok scHe (fun vs H Q E h => ?_) (fun cdv A outer s H vs Q E hr h => ?_)
  · obtain ⟨t, e, rfl, _⟩ := h
    rfl
  · obtain ⟨t, e, rfl, ht, lt, q⟩ := h
    refine ⟨_, (pss_cons (ps_if (pt_cmpR op_eq (pe_ix ix_tup (pv 0) pe_int (fun _ _ => rfl)) pe_str (nomark _))
 (pss_one (ps_ret (pe_joined (.cons pe_str (.cons (pe_fmt (pe_ix ix_tup (pv 0) pe_int (fun _ _ => rfl))) .nil))))) pss_nil)
 (pss_cons (ps_asg (pv 0) (pg_tup (by rfl) (pgs_cons (pg_name (i := 1) scHe.nd rfl (.inl rfl)) (pgs_cons (pg_name (i := 2) scHe.nd rfl (.inl rfl)) (pgs_cons (pg_name (i := 3) scHe.nd rfl (.inl rfl)) pgs_nil)))))
 (pss_cons (ps_if (pt_cmpR op_isN (pv 3) pe_non (nomark _))
 (pss_one (ps_ret (pe_joined (.cons pe_str (.cons (pe_fmt (pv 2)) (.cons pe_str .nil)))))) pss_nil)
 (pss_one (ps_ret (pe_joined (.cons pe_str (.cons (pe_fmt (pv 2)) (.cons pe_str (.cons (pe_fmt (pv 3)) .nil)))))))))), ?_⟩
    have szl : sizeLine = 16777216 := by decide
    have hT : SqT K H t (tevV e) := .inl (.inl ht)
    have ll := (line_len lt).len
    have q0 := q H (Same.refl _)
    have hgf : decide (V.str "get" = V.str "free") = false := by decide +kernel
    cases e with
    | free a =>
      have ll : (("free " : Str) ++ Str.ofString (toString (a : Int))).length ≤ 60 := ll
      refine ⟨.ref t, rfl, t, _, 0, _, rfl, rfl, hT, atI_nat (j := 0) rfl, rfl, _, rfl, ite2 (fun _ => ?_) (fun c => absurd (decide_eq_true rfl) c)⟩
      refine ⟨_, rfl, by rw [emp_app]; decide +kernel, .ref t, rfl, t, _, 1, _, rfl, rfl, hT, atI_nat (j := 1) rfl, .inr ⟨(a : Int), rfl, nlog lt, _, rfl, by rw [emp_app]; omega, ?_⟩⟩
      rw [emp_app]
      exact q0
    | bad s =>
      have ll : (("get " : Str) ++ Str.ofString (toString (s : Int)) ++ " fails").length ≤ 60 := ll
      have l2 := ll
      rw [Str.length_append] at l2
      refine ⟨.ref t, rfl, t, _, 0, _, rfl, rfl, hT, atI_nat (j := 0) rfl, rfl, _, rfl, ite2 (fun c => absurd c (by rw [hgf]; decide)) (fun _ => ?_)⟩
      refine ⟨.ref t, rfl, t, _, rfl, .inl (.inl ht), rfl, _, _, rfl, _, _, rfl, _, _, rfl, rfl, ?_⟩
      refine ⟨.non, rfl, rfl, _, rfl, ite2 (fun _ => ?_) (fun c => absurd rfl c)⟩
      refine ⟨_, rfl, by rw [emp_app]; decide +kernel, .int s, rfl, .inr ⟨(s : Int), rfl, nlog lt, _, rfl, by rw [emp_app]; omega, _, rfl, by rw [emp_app]; omega, ?_⟩⟩
      rw [emp_app]
      exact q0
    | get s a =>
      have ll : (("get " : Str) ++ Str.ofString (toString (s : Int)) ++ (" at " ++ Str.ofString (toString (a : Int)))).length ≤ 60 := ll
      have l2 := ll
      rw [Str.length_append, Str.length_append (a := " at ")] at l2
      refine ⟨.ref t, rfl, t, _, 0, _, rfl, rfl, hT, atI_nat (j := 0) rfl, rfl, _, rfl, ite2 (fun c => absurd c (by rw [hgf]; decide)) (fun _ => ?_)⟩
      refine ⟨.ref t, rfl, t, _, rfl, .inl (.inl ht), rfl, _, _, rfl, _, _, rfl, _, _, rfl, rfl, ?_⟩
      refine ⟨.int a, rfl, rfl, _, rfl, ite2 (fun c => nomatch (of_decide_eq_true c)) (fun _ => ?_)⟩
      refine ⟨_, rfl, by rw [emp_app]; decide +kernel, .int s, rfl, .inr ⟨(s : Int), rfl, nlog lt.1, _, rfl, by rw [emp_app]; omega, _, rfl, by rw [emp_app, Str.length_append]; omega, .int a, rfl, .inr ⟨(a : Int), rfl, nlog lt.2, _, rfl, by rw [emp_app, str_assoc]; omega, ?_⟩⟩⟩
      rw [emp_app, str_assoc]
      exact q0
theorem ok_Lo {k : Nat} (Z : Fns K mg) : FnOk P w K mg base CX0 (k + 1) Z.fLo Z.fdLo ["_law_deed"] spHe := by
  refine Z.FLo.ok scLo (fun vs H Q E h => ?_) (fun cdv A outer s H vs Q E hr h => ?_)
  · obtain ⟨t, e, rfl, _⟩ := h
    rfl
  · obtain ⟨t, e, rfl, ht, lt, q⟩ := h
    refine ⟨_, (pss_cons (ps_if (pt_cmpR op_eq (pe_ix ix_tup (pv 0) pe_int (fun _ _ => rfl)) pe_str (nomark _))
 (pss_one (ps_ret (pe_op op_add_str pe_str (pe_callTy call_str_int (by rfl) Z.N.str (by decide +kernel) (pa_cons (pe_ix ix_tup (pv 0) pe_int (fun _ _ => rfl)) pa_nil))))) pss_nil)
 (pss_one (ps_ret (pe_op op_add_str (pe_op op_add_str pe_str (pe_callTy call_str_int (by rfl) Z.N.str (by decide +kernel) (pa_cons (pe_ix ix_tup (pv 0) pe_int (fun _ _ => rfl)) pa_nil))) (pe_ifExp (pt_cmpR op_isN (pe_ix ix_tup (pv 0) pe_int (fun _ _ => rfl)) pe_non (nomark _)) pe_str (pe_op op_add_str pe_str (pe_callTy call_str_int (by rfl) Z.N.str (by decide +kernel) (pa_cons (pe_ix ix_tup (pv 0) pe_int (fun _ _ => rfl)) pa_nil)))))))), ?_⟩
    have szl : sizeLine = 16777216 := by decide
    have hT : SqT K H t (tevV e) := .inl (.inl ht)
    have ll := (line_len lt).len
    have q0 := q H (Same.refl _)
    have hgf : decide (V.str "get" = V.str "free") = false := by decide +kernel
    cases e with
    | free a =>
      have ll : (("free " : Str) ++ Str.ofString (toString (a : Int))).length ≤ 60 := ll
      rw [Str.length_append] at ll
      refine ⟨.ref t, rfl, t, _, 0, _, rfl, rfl, hT, atI_nat (j := 0) rfl, rfl, _, rfl, ite2 (fun _ => ?_) (fun c => absurd (decide_eq_true rfl) c)⟩
      exact ⟨.ref t, rfl, t, _, 1, _, rfl, rfl, hT, atI_nat (j := 1) rfl, (a : Int), rfl, nlog lt, _, _, rfl, rfl, by omega, q0⟩
    | bad s =>
      have ll : (("get " : Str) ++ Str.ofString (toString (s : Int)) ++ " fails").length ≤ 60 := ll
      have l2 := ll
      rw [Str.length_append, Str.length_append] at l2
      refine ⟨.ref t, rfl, t, _, 0, _, rfl, rfl, hT, atI_nat (j := 0) rfl, rfl, _, rfl, ite2 (fun c => absurd c (by rw [hgf]; decide)) (fun _ => ?_)⟩
      refine ⟨.ref t, rfl, t, _, 1, _, rfl, rfl, hT, atI_nat (j := 1) rfl, (s : Int), rfl, nlog lt, _, _, rfl, rfl, by omega, ?_⟩
      exact ⟨.ref t, rfl, t, _, 2, _, rfl, rfl, hT, atI_nat (j := 2) rfl, rfl, _, rfl, ite2 (fun _ => ⟨_, _, rfl, rfl, by rw [Str.length_append]; omega, q0⟩) (fun c => absurd rfl c)⟩
    | get s a =>
      have ll : (("get " : Str) ++ Str.ofString (toString (s : Int)) ++ (" at " ++ Str.ofString (toString (a : Int)))).length ≤ 60 := ll
      have l2 := ll
      rw [Str.length_append, Str.length_append (a := "get "), Str.length_append (a := " at ")] at l2
      refine ⟨.ref t, rfl, t, _, 0, _, rfl, rfl, hT, atI_nat (j := 0) rfl, rfl, _, rfl, ite2 (fun c => absurd c (by rw [hgf]; decide)) (fun _ => ?_)⟩
      refine ⟨.ref t, rfl, t, _, 1, _, rfl, rfl, hT, atI_nat (j := 1) rfl, (s : Int), rfl, nlog lt.1, _, _, rfl, rfl, by omega, ?_⟩
      refine ⟨.ref t, rfl, t, _, 2, _, rfl, rfl, hT, atI_nat (j := 2) rfl, rfl, _, rfl, ite2 (fun c => nomatch (of_decide_eq_true c)) (fun _ => ?_)⟩
      exact ⟨.ref t, rfl, t, _, 2, _, rfl, rfl, hT, atI_nat (j := 2) rfl, (a : Int), rfl, nlog lt.2, _, _, rfl, rfl, by omega, _, _, rfl, rfl, by rw [Str.length_append, Str.length_append]; omega, q0⟩
def spHh : Sp := fun vs H Q _ => ∃ (t : Addr) (ys : List V) (es : List Tev), vs = [.ref t] ∧ H t = some (.tup ys) ∧ TevS H ys es ∧ es.length ≤ 5000 ∧ (∀ e ∈ es, e.lt (10 ^ 20)) ∧ ∀ H', Same H H' → Q (.str (histT es)) H'
theorem ok_Hh {k : Nat} (Z : Fns K mg) : FnOk P w K mg base CX0 (k + 1 + 1) Z.fHh Z.fdHh ["history"] spHh := by
  have GHe : FnOk P w K mg base CX0 (k + 1) Z.fHe Z.fdHe ["event"] spHe := ok_He Z
  refine Z.FHh.ok scHh (fun vs H Q E h => ?_) (fun cdv A outer s H vs Q E hr h => ?_)
  · obtain ⟨t, ys, es, rfl, _⟩ := h
    rfl
  · obtain ⟨t, ys, es, rfl, ht, tv, le, lt, q⟩ := h
    refine ⟨_, (pss_cons (ps_if (pt_not (pt_truth (pv 0) (fun _ => rfl)))
 (pss_one (ps_ret pe_str)) pss_nil)
 (pss_one (ps_ret (pe_bm PySem.F.plainAttrs_str PySem.F.slot_str_join PySem.F.type_str_join mt_join pe_str (pa_cons (pe_lc (own := [("event", 1)]) (g := (gName 1)) (tt := tYes) (by rfl) scHh.nd (pi_tup (pv 0)) (blkOk_by (N := scHhN) (sc := defScope scHhS) (by decide +kernel)) (fun _ _ _ _ _ => (pg_name (i := 1) scHh.nd rfl (.inl rfl))) (fun _ _ _ _ _ => pts_nil) (fun _ _ _ _ _ => (pe_call GHe (hr.mono (by omega)) (by rfl) Z.gHe Z.FHe.kp Z.bHe .nil pass0 (pa_cons (pv 1) pa_nil)))) pa_nil))))), ?_⟩
    have szl : sizeLine = 16777216 := by decide
    have ln := TevS.length tv
    refine seq_splitT (fun σ' H' => σ' = [some (.ref t), none] ∧ H' = H ∧ ¬ es = []) (fun D' rt1 hD' => ?_) ?_
    · refine ⟨.ref t, rfl, !ys.isEmpty, .inr (.inl ⟨ys, .inl (.inl ht), rfl⟩), ?_⟩
      have e : ys.isEmpty = decide (es = []) := by
        cases ys with
        | nil => cases es with
          | nil => rfl
          | cons b r => simp at ln
        | cons x r => cases es with
          | nil => simp at ln
          | cons b r => rfl
      rw [e]
      refine ite2 (fun c => ?_) (fun c => ?_)
      · have c : es = [] := by simpa using c
        show D'.rt _ _
        rw [rt1]
        have := q H (Same.refl _)
        have e2 : histT es = "-" := by unfold histT; rw [if_pos c]
        rw [e2] at this
        exact this
      · have c : ¬ es = [] := by simpa using c
        exact hD' _ _ ⟨rfl, rfl, c⟩
    rintro σ1 H1 ⟨rfl, rfl, c1⟩
    refine ⟨rfl, .ref t, rfl, t, rfl, ⟨_, .inl (.inl ht)⟩, fun D nD => ?_⟩
    refine lc_it (walk_tup (K := K) (a := t) (xs := ys)) (fun i G => Same H1 G ∧ G D = some (.lst (((es.take i).map lineT).map V.str))) ⟨same_upd nD, upd_same⟩ (fun i G _ s => .inl (.inl (s.1 _ _ ht))) (fun i x G G' hi s yy => ?_) (fun G s => ?_)
    · obtain ⟨rfl, hx⟩ := yy
      have li : i < es.length := by rw [← ln]; exact hi
      obtain ⟨y, hy, u, rfl, hu⟩ := Paired.get2 tv (List.getElem?_eq_getElem li)
      rw [hx] at hy
      cases hy
      refine ⟨rfl, ?_⟩
      delta tYes
      refine ite2 (fun _ => ?_) (fun z => absurd rfl z)
      refine ⟨.ref u, rfl, u, _, rfl, s.1 _ _ hu, lt _ (List.getElem_mem li), fun G2 s2 => ⟨_, s2 _ _ s.2, ?_, fun b o e => by rw [upd_ne (ne_of_none e nD)]; exact s2 _ _ (s.1 _ _ e), ?_⟩⟩
      · rw [List.length_map, List.length_map, List.length_take]
        exact Nat.lt_of_le_of_lt (Nat.min_le_right _ _) (by omega)
      · rw [upd_same, List.take_add_one, List.getElem?_eq_getElem li]
        simp only [List.map_append, Option.toList_some, List.map_cons, List.map_nil]
    · have hD0 := s.2
      rw [ln, List.take_length] at hD0
      have tb : ∀ y ∈ es.map lineT, Tx y 60 := fun y hy => by
        obtain ⟨e, he, rfl⟩ := List.mem_map.mp hy
        exact line_len (lt e he)
      refine ⟨"\n", D, _, rfl, rfl, .inl (.inl (.inl hD0)), wt_fit (twt_le tb) (by rw [List.length_map]; omega) (by decide +kernel), ?_⟩
      have e : histT es = Txt.join "\n" (es.map lineT) := by unfold histT; rw [if_neg c1]
      rw [← e]
      exact q G s.1
end
end Ph

set_option maxHeartbeats 2000000
/-! PhTm: tuple * 0 and tuple * 1. -/
namespace Ph
open PySem PySem.Spec PyProof.Rows L2
theorem mul_one_tup (a : Addr) (xs : Array Value) (e : Nat) (d : Option Addr) (ss : Array (Option Value)) (tk : Tok) :
    Meets (Builtin.«tuple.__mul__» ⟨[.ref a, .int 1 tk], []⟩) (fun _ R s => s.heap.get? a = some { cls := .type "tuple", dict := d, data := .seq xs e, slots := ss } ∧ R (.ok (.ret (Value.ref a))) s) :=
  .of_wp fun prog w A R s h => by
    obtain ⟨hp, g, dr, tks, os⟩ := s
    obtain ⟨ha, h⟩ := h
    have idx := AutoSeq1.idx_int
    wp_walk using wpAny_loadPart' ha
    repeat (first
      | (refine wpAny_ite_false (decide_eq_false (by decide)) ?_; wp_walk using wpAny_loadPart' ha)
      | (refine wpAny_ite_true (decide_eq_true (by simp)) ?_; wp_walk using wpAny_loadPart' ha))
    exact ⟨_, rfl, h⟩
theorem mul_zero_tup (a : Addr) (xs : Array Value) (e : Nat) (d : Option Addr) (ss : Array (Option Value)) (tk : Tok) (ne : xs.isEmpty = false) :
    Meets (Builtin.«tuple.__mul__» ⟨[.ref a, .int 0 tk], []⟩) (fun _ R s => s.heap.get? a = some { cls := .type "tuple", dict := d, data := .seq xs e, slots := ss } ∧
      R (.ok (.ret (Value.ref s.heap.objs.size))) { s with heap := s.heap.push { cls := Value.type "tuple", data := Data.seq #[] }, toks := s.toks }) :=
  .of_wp fun prog w A R s h => by
    obtain ⟨hp, g, dr, tks, os⟩ := s
    obtain ⟨ha, h⟩ := h
    have idx := AutoSeq1.idx_int
    wp_walk using wpAny_loadPart' ha
    repeat (first
      | (refine wpAny_ite_false (decide_eq_false (by decide)) ?_; wp_walk using wpAny_loadPart' ha)
      | (refine wpAny_ite_false (decide_eq_false (by rw [ne]; decide)) ?_; wp_walk using wpAny_loadPart' ha)
      | (refine wpAny_ite_true (decide_eq_true (by simp)) ?_; wp_walk using wpAny_loadPart' ha))
    exact ⟨_, rfl, h⟩
def rRep01 (K : PySem.W.Frag) : R2 := fun x y H Q => ∃ l k xs, x = .ref l ∧ y = .int k ∧ SqT K H l xs ∧ ((k = 1 ∧ Q (.ref l) H) ∨ (k = 0 ∧ xs ≠ [] ∧ ∀ p, H p = none → Q (.ref p) (upd H p (.tup []))))
theorem op_rep01 {X : Cx} : OpR X (binaryOp .Mult) (rRep01 X.K) := by
  intro pins s σ H x y v u Q I rx ry h
  obtain ⟨l, k, xs, rfl, rfl, hT, h⟩ := h
  cases rx
  obtain ⟨t, rfl⟩ := ry
  obtain ⟨its, r, ⟨⟨cls, dd, data, sl⟩, ho, hc, n, hd⟩, hs⟩ := I.tuple hT
  simp only at hc hd
  subst hc hd
  rcases h with ⟨rfl, q⟩ | ⟨rfl, hne, q⟩
  · refine wpAny_binaryOp_repeat_ref (T := "tuple") (U := "int") (by decide) ⟨_, ho, rfl⟩ (fun s' => typeIs_int s' 1 t) noFill_tuple_mul F.fills_int_mul F.slot_int_rmul repeat_tuple F.slot_int_index.lookup
      (call_meets F.slot_int_rmul (typeIs_int s 1 t) F.entry_int_rmul (F.args_int_rmul_2 _ _) (int_rmul_tuple 1 t l its.toArray n dd sl) ⟨ho, rfl, ⟨_, ho, rfl⟩, call_meets F.slot_tuple_mul ⟨_, ho, rfl⟩ F.entry_tuple_mul (F.args_tuple_mul_2 _ _) (mul_one_tup l its.toArray n dd sl t) ⟨ho, ?_⟩⟩)
    exact ⟨.ref l, H, I, rfl, q⟩
  · have hi : its.toArray.isEmpty = false := by
      cases its with
      | nil => exact absurd (List.eq_nil_of_length_eq_zero r.length) hne
      | cons a b => rfl
    refine wpAny_binaryOp_repeat_ref (T := "tuple") (U := "int") (by decide) ⟨_, ho, rfl⟩ (fun s' => typeIs_int s' 0 t) noFill_tuple_mul F.fills_int_mul F.slot_int_rmul repeat_tuple F.slot_int_index.lookup
      (call_meets F.slot_int_rmul (typeIs_int s 0 t) F.entry_int_rmul (F.args_int_rmul_2 _ _) (int_rmul_tuple 0 t l its.toArray n dd sl) ⟨ho, rfl, ⟨_, ho, rfl⟩, call_meets F.slot_tuple_mul ⟨_, ho, rfl⟩ F.entry_tuple_mul (F.args_tuple_mul_2 _ _) (mul_zero_tup l its.toArray n dd sl t hi) ⟨ho, ?_⟩⟩)
    refine ⟨.ref s.heap.objs.size, _, I.laid (t' := s.toks) (o := .tup []) (fun b ob q => Heap.get?_push_of_some _ q) (Nat.le_refl _) ⟨Nat.zero_le _, [], .nil, IsTup.new _ _⟩, rfl, q _ (I.hok.fresh (Nat.le_refl _))⟩
end Ph

set_option maxHeartbeats 8000000
namespace Ph
open PySem PySem.Spec PyProof.Rows L2
theorem line_lenK {k : Nat} (hk : 0 < k) {e : Tev} (h : e.lt (10 ^ k)) : Tx (lineT e) (2 * k + 10) := by
  cases e with
  | get s a => exact (Tx.app (Tx.app (Tx.lit (s := "get ") (n := 4) (by decide +kernel) (by decide +kernel)) (Tx.num (i := (s : Int)) (k := k) (by omega) hk (by simpa using h.1))) (Tx.app (Tx.lit (s := " at ") (n := 4) (by decide +kernel) (by decide +kernel)) (Tx.num (i := (a : Int)) (k := k) (by omega) hk (by simpa using h.2)))).up (by omega)
  | bad s => exact (Tx.app (Tx.app (Tx.lit (s := "get ") (n := 4) (by decide +kernel) (by decide +kernel)) (Tx.num (i := (s : Int)) (k := k) (by omega) hk (by simpa [Tev.lt] using h))) (Tx.lit (s := " fails") (n := 6) (by decide +kernel) (by decide +kernel))).up (by omega)
  | free a => exact (Tx.app (Tx.lit (s := "free ") (n := 5) (by decide +kernel) (by decide +kernel)) (Tx.num (i := (a : Int)) (k := k) (by omega) hk (by simpa [Tev.lt] using h))).up (by omega)
section
variable {P : Program} {w : World} {K : PySem.W.Frag} {mg : Str → Option Value} {base : Heap}
def spGc : Sp := fun vs H Q _ => ∃ p : Addr, vs = [.ref p] ∧ Po H p ∧ ∀ (H' : Hp) (t : Addr) (s : Nat → Nat) (n : Nat), But p H H' → Po H' p → H' t = some (.tup ((tl s (n + 1)).map V.int)) → Cn s n 1000000000 → n ≤ 11 → Q (.ref t) H'
theorem ok_Gc {k : Nat} (Z : Fns K mg) : FnOk P w K mg base CX0 (k + 1 + 1 + 1) Z.fGc Z.fdGc ["_law_pot_here"] spGc := by
  have GNx : FnOk P w K mg base CX0 (k + 1) Z.fNx Z.fdNx ["_law_pot_here", "_law_count"] spNx := ok_Nx Z
  have GPk : FnOk P w K mg base CX0 (k + 1 + 1) Z.fPk Z.fdPk ["_law_pot_here", "_law_some"] (spPk K) := ok_Pk Z
  refine Z.FGc.ok scGc (fun vs H Q E h => ?_) (fun cdv A outer s H vs Q E hr h => ?_)
  · obtain ⟨p, rfl, _⟩ := h
    rfl
  · obtain ⟨p, rfl, hp, q⟩ := h
    refine ⟨_, (pss_cons (ps_set (i := 1) scGc.nd rfl (.inl rfl) (pe_lst (pa_cons pe_int pa_nil)))
 (pss_cons (ps_for PassesOwn.never rfl (pi_range1 (by rfl) Z.N.range (pa_cons (pe_call GNx (hr.mono (by omega)) (by rfl) Z.gNx Z.FNx.kp Z.bNx .nil pass0 (pa_cons (pv 0) (pa_cons pe_int pa_nil))) pa_nil)) (pg_name (i := 2) scGc.nd rfl (.inl rfl))
 (pss_cons (ps_set (i := 3) scGc.nd rfl (.inl rfl) (pe_call GPk (hr.mono (by omega)) (by rfl) Z.gPk Z.FPk.kp Z.bPk .nil pass0 (pa_cons (pv 0) (pa_cons (pe_lst (pa_cons pe_int (pa_cons pe_int (pa_cons pe_int (pa_cons pe_int (pa_cons pe_int (pa_cons pe_int pa_nil))))))) pa_nil))))
 (pss_one (ps_if (pt_cmpR op_le (pe_op op_mul (pe_ix ix_list (pv 1) (pe_un un_neg pe_int) (fun _ _ => rfl)) (pv 3)) (pe_op op_pow pe_int pe_int) (nomark _))
 (pss_one (ps_expr (pe_bm PySem.F.plainAttrs_list PySem.F.slot_list_append PySem.F.type_list_append mt_append (pv 1) (pa_cons (pe_op op_mul (pe_ix ix_list (pv 1) (pe_un un_neg pe_int) (fun _ _ => rfl)) (pv 3)) pa_nil)))) pss_nil))))
 (pss_one (ps_ret (pe_callTy call_tuple_of (by rfl) Z.N.tuple (by decide +kernel) (pa_cons (pv 1) pa_nil)))))), ?_⟩
    have e9 : (10 : Int) ^ (9 : Int).toNat = 1000000000 := by decide
    refine ⟨by decide, fun o no => ?_⟩
    have npo : p ≠ o := hp.ne_none no
    have no2 : o ≠ p := npo.symm
    refine ⟨.ref p, rfl, p, 12, rfl, hp.same (same_upd no), by decide, by decide, fun H1 d b1 hp1 d0 d1 => ⟨_, rfl, by omega, by omega, ?_⟩⟩
    have ho1 := b1 _ _ no2 (upd_same (H := H) (a := o) (o := .lst [.int 1]))
    refine for_range (lo := 0) (n := d.toNat) (fun i σ H2 => ∃ y3 y4 ns x, σ = [some (.ref p), some (.ref o), y3, y4] ∧ Po H2 p ∧ (∀ b x, b ≠ p → b ≠ o → H b = some x → H2 b = some x) ∧ H2 o = some (.lst (ns.map V.int)) ∧ Gnk 1000000000 ns x ∧ ns.length ≤ i + 1)
      ⟨none, none, [1], 1, rfl, hp1, fun b x n1 n2 h => b1 _ _ n1 (by rw [upd_ne n2]; exact h), ho1, .one, by simp⟩ ?_ ?_
    · rintro i σ H2 hi ⟨y4, y5, ns, x, rfl, hp2, hB, ho2, hk, hl⟩
      refine ⟨.ref p, rfl, (by show 6 ≤ sizeLine; decide), fun l nl => ?_⟩
      have nlp : l ≠ p := (hp2.ne_none nl).symm
      have nlo : o ≠ l := ne_of_none ho2 nl
      refine ⟨p, l, _, rfl, hp2.same (same_upd nl), .inl (.inl (.inl upd_same)), nlp, List.cons_ne_nil _ _, by simp, fun H4 v hb4 hp4 hv => ?_⟩
      have ho4 : H4 o = some (.lst (ns.map V.int)) := hb4 _ _ no2 (by rw [upd_ne nlo]; exact ho2)
      have hB4 : ∀ b x, b ≠ p → b ≠ o → H b = some x → H4 b = some x := fun b x n1 n2 h => by
        have h3 := hB b x n1 n2 h
        exact hb4 _ _ n1 (by rw [upd_ne (ne_of_none h3 nl)]; exact h3)
      obtain ⟨r, rfl, hr2, hr6⟩ : ∃ r : Int, v = .int r ∧ 2 ≤ r ∧ r ≤ 1000 := by
        simp only [List.mem_cons, List.not_mem_nil, or_false] at hv
        rcases hv with h | h | h | h | h | h <;> exact ⟨_, h, by decide, by decide⟩
      obtain ⟨ini, rfl⟩ := hk.last
      have hL4 : SqL K H4 o ((ini ++ [x]).map V.int) := .inl (.inl ho4)
      have gl : atI ((ini ++ [x]).map V.int) (-1) = some (.int x) := by
        rw [List.map_append]
        exact atI_last _ _
      have x1 := hk.pos
      have x2 := hk.le (by decide)
      refine ⟨.ref o, rfl, 1, rfl, o, _, -1, _, rfl, rfl, hL4, gl, .int r, rfl, x, r, rfl, rfl, .inl ⟨by omega, by omega⟩, _, _, rfl, rfl, ⟨by decide, by decide, by decide⟩, _, _, rfl, rfl, _, rfl, ite2 (fun c => ?_) (fun c => ?_)⟩
      · have c1 : x * r ≤ 1000000000 := by
          have := of_decide_eq_true c
          rw [e9] at this
          exact this
        refine ⟨.ref o, rfl, .inl ⟨rfl, _, hL4⟩, .ref o, rfl, 1, rfl, o, _, -1, _, rfl, rfl, hL4, gl, .int r, rfl, x, r, rfl, rfl, .inl ⟨by omega, by omega⟩, o, _, _, rfl, rfl, ho4, ?_, ?_⟩
        · rw [List.length_map]
          exact small1000 (by omega)
        · refine ⟨_, _, ini ++ [x] ++ [x * r], x * r, rfl, hp4.keep npo, ?_, ?_, .step hk (by omega) hr6 c1, ?_⟩
          · intro b z n1 n2 h
            rw [upd_ne n2]
            exact hB4 b z n1 n2 h
          · rw [upd_same, List.map_append (l₂ := [x * r])]
            rfl
          · rw [List.length_append]
            simp
            simp at hl
            omega
      · exact ⟨_, _, _, x, rfl, hp4, hB4, ho4, hk, by omega⟩
    · rintro σ H2 ⟨y4, y5, ns, x, rfl, hp2, hB, ho2, hk, hl⟩
      refine ⟨.ref o, rfl, o, _, rfl, .inl ⟨.inl (.inl ho2), fun t nt => ?_⟩⟩
      obtain ⟨s, n, rfl, _, cn⟩ := hk.cn (by decide)
      rw [tl_len] at hl
      refine q _ t s n (fun b z n1 h => ?_) (hp2.same (same_upd nt)) upd_same cn (by omega)
      have h3 := hB b z n1 (ne_of_none h no) h
      rw [upd_ne (ne_of_none h3 nt)]
      exact h3
def spEg : Sp := fun vs H Q _ => ∃ (p c : Addr) (s : Nat → Nat) (n : Nat), vs = [.ref p, .ref c] ∧ Po H p ∧ H c = some (.tup ((tl s (n + 1)).map V.int)) ∧ Cn s n 1000000000 ∧ n ≤ 11 ∧ ∀ (H' : Hp) (T : Addr) (ys : List V) (es : List Tev), But p H H' → Po H' p → H' T = some (.tup ys) → TevS H' ys es → es.length ≤ 21 → (∀ e ∈ es, e.okC ((List.range (n + 1)).map s)) → (∀ e ∈ es.dropLast, e.isBad = false) → Q (.ref T) H'
theorem ok_Eg {k : Nat} (Z : Fns K mg) : FnOk P w K mg base CX0 (k + 1 + 1 + 1) Z.fEg Z.fdEg ["_law_pot_here", "_law_sizes"] spEg := by
  have GNx : FnOk P w K mg base CX0 (k + 1) Z.fNx Z.fdNx ["_law_pot_here", "_law_count"] spNx := ok_Nx Z
  have GPk : FnOk P w K mg base CX0 (k + 1 + 1) Z.fPk Z.fdPk ["_law_pot_here", "_law_some"] (spPk K) := ok_Pk Z
  refine Z.FEg.ok scEg (fun vs H Q E h => ?_) (fun cdv A outer s H vs Q E hr h => ?_)
  · obtain ⟨p, c, s, n, rfl, _⟩ := h
    rfl
  · obtain ⟨p, c, sz, n, rfl, hp, hc, cn, n11, q⟩ := h
    refine ⟨_, (pss_cons (ps_set (i := 2) scEg.nd rfl (.inl rfl) (pe_lst pa_nil))
 (pss_cons (ps_for PassesOwn.never rfl (pi_range1 (by rfl) Z.N.range (pa_cons (pe_call GNx (hr.mono (by omega)) (by rfl) Z.gNx Z.FNx.kp Z.bNx .nil pass0 (pa_cons (pv 0) (pa_cons pe_int pa_nil))) pa_nil)) (pg_name (i := 3) scEg.nd rfl (.inl rfl))
 (pss_cons (ps_set (i := 4) scEg.nd rfl (.inl rfl) (pe_call GPk (hr.mono (by omega)) (by rfl) Z.gPk Z.FPk.kp Z.bPk .nil pass0 (pa_cons (pv 0) (pa_cons (pv 1) pa_nil))))
 (pss_cons (ps_set (i := 5) scEg.nd rfl (.inl rfl) (pe_call GPk (hr.mono (by omega)) (by rfl) Z.gPk Z.FPk.kp Z.bPk .nil pass0 (pa_cons (pv 0) (pa_cons (pe_lst (pa_cons pe_int (pa_cons (pe_call GNx (hr.mono (by omega)) (by rfl) Z.gNx Z.FNx.kp Z.bNx .nil pass0 (pa_cons (pv 0) (pa_cons pe_int pa_nil))) (pa_cons (pe_call GNx (hr.mono (by omega)) (by rfl) Z.gNx Z.FNx.kp Z.bNx .nil pass0 (pa_cons (pv 0) (pa_cons (pe_op op_pow pe_int pe_int) pa_nil))) pa_nil)))) pa_nil))))
 (pss_one (ps_expr (pe_bm PySem.F.plainAttrs_list PySem.F.slot_list_append PySem.F.type_list_append mt_append (pv 2) (pa_cons (pe_call GPk (hr.mono (by omega)) (by rfl) Z.gPk Z.FPk.kp Z.bPk .nil pass0 (pa_cons (pv 0) (pa_cons (pe_lst (pa_cons (pe_tup (pa_cons pe_str (pa_cons (pv 4) (pa_cons (pe_op op_mul (pv 5) (pv 4)) pa_nil)))) (pa_cons (pe_tup (pa_cons pe_str (pa_cons (pv 5) pa_nil))) pa_nil))) pa_nil))) pa_nil)))))))
 (pss_one (ps_ret (pe_op op_catS (pe_callTy call_tuple_of (by rfl) Z.N.tuple (by decide +kernel) (pa_cons (pv 2) pa_nil)) (pe_op op_rep01 (pe_tup (pa_cons (pe_tup (pa_cons pe_str (pa_cons (pe_ix ix_tup (pv 1) (pe_un un_neg pe_int) (fun _ _ => rfl)) (pa_cons pe_non pa_nil)))) pa_nil)) (pe_call GNx (hr.mono (by omega)) (by rfl) Z.gNx Z.FNx.kp Z.bNx .nil pass0 (pa_cons (pv 0) (pa_cons pe_int pa_nil))))))))), ?_⟩
    have szl : sizeLine = 16777216 := by decide
    have e10 : (10 : Int) ^ (10 : Int).toNat = 10000000000 := by decide
    have hcT : SqT K H c ((tl sz (n + 1)).map V.int) := .inl (.inl hc)
    have lC : ((tl sz (n + 1)).map V.int).length = n + 1 := by rw [List.length_map, tl_len]
    refine ⟨(by show 0 ≤ sizeLine; decide), fun F nF => ?_⟩
    have npF := hp.ne_none nF
    have s0 := same_upd (o := .lst []) nF
    have hF0 : upd H F (.lst []) F = some (.lst []) := upd_same
    have hp0 := hp.same s0
    have hc0 := s0 _ _ hc
    generalize upd H F (.lst []) = G0 at s0 hF0 hp0 hc0 ⊢
    have ncp : c ≠ p := hp.netup hc
    have ncF : c ≠ F := ne_of_none hc nF
    dsimp only [gName]
    refine ⟨.ref p, rfl, p, 21, rfl, hp0, by decide, by decide, fun H1 d b1 hp1 d0 d1 => ⟨_, rfl, by omega, by omega, ?_⟩⟩
    refine for_range (lo := 0) (n := d.toNat) (fun i σ G => ∃ (y3 y4 y5 : Option V) (xs : List V) (es : List Tev), σ = [some (.ref p), some (.ref c), some (.ref F), y3, y4, y5] ∧ (∀ b o, b ≠ p → b ≠ F → G0 b = some o → G b = some o) ∧ Po G p ∧ G F = some (.lst xs) ∧ TevS G xs es ∧ es.length = i ∧ (∀ e ∈ es, e.okC ((List.range (n + 1)).map sz)) ∧ ∀ e ∈ es, e.isBad = false)
      ⟨none, none, none, [], [], rfl, fun b o n1 _ e => b1 _ _ n1 e, hp1, b1 _ _ npF.symm hF0, .nil, rfl, fun _ h => absurd h List.not_mem_nil, fun _ h => absurd h List.not_mem_nil⟩ ?_ ?_
    · rintro i σ G hi ⟨y3, y4, y5, xs, es, rfl, fr, hpG, hFG, tv, le, ok, nb⟩
      have hcG := fr _ _ ncp ncF hc0
      refine ⟨.ref p, rfl, .ref c, rfl, p, c, _, rfl, hpG, .inr (.inl (.inl hcG)), ncp, (fun z => by rw [z] at lC; simp at lC), by omega, fun G1 v c1 hp1 hv => ?_⟩
      obtain ⟨m, rfl, hm⟩ : ∃ m, v = .int (m : Nat) ∧ m ∈ (List.range (n + 1)).map sz := by
        unfold tl at hv
        rw [List.map_map] at hv
        obtain ⟨j, hj, rfl⟩ := List.mem_map.mp hv
        exact ⟨sz j, rfl, List.mem_map.mpr ⟨j, hj, rfl⟩⟩
      obtain ⟨m0, m9⟩ : 0 < m ∧ m ≤ 1000000000 := by
        obtain ⟨j, hj, rfl⟩ := List.mem_map.mp hm
        have hj := List.mem_range.mp hj
        have := cn.ch.mono (i := j) (j := n) (by omega) (by omega)
        have := cn.top
        exact ⟨cn.ch.pos hj, by omega⟩
      dsimp only [gName]
      refine ⟨.ref p, rfl, .ref p, rfl, p, 30, rfl, hp1, by decide, by decide, fun G2 e c2 hp2 e0 e1 => ?_⟩
      refine ⟨.ref p, rfl, _, _, rfl, rfl, ⟨by decide, by decide, by decide⟩, p, _, rfl, hp2, by decide, by decide, fun G3 f c3 hp3 f0 f1 => ?_⟩
      rw [e10] at f1
      refine ⟨(by show 3 ≤ sizeLine; decide), fun L nL => ⟨p, L, _, rfl, hp3.same (same_upd nL), .inl (.inl (.inl upd_same)), (hp3.ne_none nL).symm, List.cons_ne_nil _ _, by simp, fun G4 v c4 hp4 hv => ?_⟩⟩
      have sL := same_upd (o := .lst [V.int 0, .int e, .int f]) nL
      obtain ⟨bg, rfl, hbg⟩ : ∃ bg : Nat, v = .int (bg : Int) ∧ bg < 10000000000 := by
        simp only [List.mem_cons, List.not_mem_nil, or_false] at hv
        rcases hv with h | h | h
        · exact ⟨0, h, by decide⟩
        · exact ⟨e.toNat, by rw [h]; congr 1; omega, by omega⟩
        · exact ⟨f.toNat, by rw [h]; congr 1; omega, by omega⟩
      dsimp only [gName]
      have ka : ∀ b o, b ≠ p → G b = some o → G4 b = some o := fun b o nb eb => c4 _ _ nb (sL _ _ (c3 _ _ nb (c2 _ _ nb (c1 _ _ nb eb))))
      have hF4 := ka _ _ npF.symm hFG
      have em : (bg : Int) * (m : Int) = ((bg * m : Nat) : Int) := (Int.natCast_mul _ _).symm
      refine ⟨.ref F, rfl, .inl ⟨rfl, _, .inl (.inl hF4)⟩, .ref p, rfl, .int m, rfl, .int bg, rfl, .int m, rfl, bg, m, rfl, rfl, .inl ⟨by omega, by omega⟩, (by show 3 ≤ sizeLine; decide), fun ta nta => ?_⟩
      dsimp only
      rw [em]
      have sa := same_upd (o := .tup [V.str "get", .int m, .int ((bg * m : Nat) : Int)]) nta
      have hta : upd G4 ta (.tup [V.str "get", .int m, .int ((bg * m : Nat) : Int)]) ta = some (.tup [V.str "get", .int m, .int ((bg * m : Nat) : Int)]) := upd_same
      generalize upd G4 ta (.tup [V.str "get", .int m, .int ((bg * m : Nat) : Int)]) = G5 at sa hta ⊢
      refine ⟨.int bg, rfl, (by show 2 ≤ sizeLine; decide), fun tb ntb => ?_⟩
      have sb := same_upd (o := .tup [V.str "free", .int bg]) ntb
      have htb : upd G5 tb (.tup [V.str "free", .int bg]) tb = some (.tup [V.str "free", .int bg]) := upd_same
      generalize upd G5 tb (.tup [V.str "free", .int bg]) = G6 at sb htb ⊢
      have hp6 := (hp4.same sa).same sb
      refine ⟨(by show 2 ≤ sizeLine; decide), fun L2 nL2 => ⟨p, L2, _, rfl, hp6.same (same_upd nL2), .inl (.inl (.inl upd_same)), (hp6.ne_none nL2).symm, List.cons_ne_nil _ _, by simp, fun G7 v c7 hp7 hv => ?_⟩⟩
      have sL2 := same_upd (o := .lst [V.ref ta, .ref tb]) nL2
      have kb : ∀ b o, b ≠ p → G4 b = some o → G7 b = some o := fun b o nb eb => c7 _ _ nb (sL2 _ _ (sb _ _ (sa _ _ eb)))
      obtain ⟨u, ev, rfl, hu, oke, nbe⟩ : ∃ u ev, v = .ref u ∧ G7 u = some (.tup (tevV ev)) ∧ ev.okC ((List.range (n + 1)).map sz) ∧ ev.isBad = false := by
        simp only [List.mem_cons, List.not_mem_nil, or_false] at hv
        rcases hv with rfl | rfl
        · refine ⟨ta, .get m (bg * m), rfl, c7 _ _ (hp6.netup (sb _ _ hta)) (sL2 _ _ (sb _ _ hta)), ⟨hm, Nat.lt_of_le_of_lt m9 (by decide), ?_, Nat.mul_mod_left _ _⟩, rfl⟩
          exact Nat.lt_of_le_of_lt (Nat.mul_le_mul (Nat.le_of_lt hbg) m9) (by decide)
        · exact ⟨tb, .free bg, rfl, c7 _ _ (hp6.netup htb) (sL2 _ _ htb), Nat.lt_trans hbg (by decide), rfl⟩
      have hF7 := kb _ _ npF.symm hF4
      have tv7 : TevS G7 xs es := TevS.keep (D := p) (fun xs z => by
        obtain ⟨_, _, _, e, _⟩ := hpG
        rw [e] at z
        cases z) (fun b o nb eb => kb _ _ nb (ka _ _ nb eb)) tv
      refine ⟨F, xs, _, rfl, rfl, hF7, by rw [TevS.length tv]; omega, ?_⟩
      have n1 : ∀ xs, G7 F ≠ some (.tup xs) := fun xs z => by rw [hF7] at z; cases z
      refine ⟨_, _, _, xs ++ [.ref u], es ++ [ev], rfl, fun b o nb1 nb2 eb => ?_, hp7.keep npF, upd_same, TevS.keep n1 (fun b o nb eb => by rw [upd_ne nb]; exact eb) (TevS.snoc hu tv7), by rw [List.length_append]; simp; omega, fun e he => ?_, fun e he => ?_⟩
      · rw [upd_ne nb2]
        exact kb _ _ nb1 (ka _ _ nb1 (fr b o nb1 nb2 eb))
      · rcases List.mem_append.mp he with h | h
        · exact ok e h
        · rw [List.mem_singleton.mp h]
          exact oke
      · rcases List.mem_append.mp he with h | h
        · exact nb e h
        · rw [List.mem_singleton.mp h]
          exact nbe
    · rintro σ G ⟨y3, y4, y5, xs, es, rfl, fr, hpG, hFG, tv, le, ok, nb⟩
      have hcG := fr _ _ ncp ncF hc0
      refine ⟨.ref F, rfl, F, xs, rfl, .inl ⟨.inl (.inl hFG), fun T1 nT1 => ?_⟩⟩
      have s1 := same_upd (o := .tup xs) nT1
      have hT1 : upd G T1 (.tup xs) T1 = some (.tup xs) := upd_same
      generalize upd G T1 (.tup xs) = G1 at s1 hT1 ⊢
      refine ⟨.ref c, rfl, 1, rfl, c, _, -1, _, rfl, rfl, .inl (.inl (s1 _ _ hcG)), tl_atL, (by show 3 ≤ sizeLine; decide), fun u nu => ?_⟩
      have su := same_upd (o := .tup [V.str "get", .int ((sz n : Nat) : Int), .non]) nu
      have hu : upd G1 u (.tup [V.str "get", .int ((sz n : Nat) : Int), .non]) u = some (.tup [V.str "get", .int ((sz n : Nat) : Int), .non]) := upd_same
      generalize upd G1 u (.tup [V.str "get", .int ((sz n : Nat) : Int), .non]) = G2 at su hu ⊢
      refine ⟨(by show 1 ≤ sizeLine; decide), fun U nU => ?_⟩
      have sU := same_upd (o := .tup [V.ref u]) nU
      have hU : upd G2 U (.tup [V.ref u]) U = some (.tup [V.ref u]) := upd_same
      generalize upd G2 U (.tup [V.ref u]) = G3 at sU hU ⊢
      have hp3 := ((hpG.same s1).same su).same sU
      refine ⟨.ref p, rfl, p, 2, rfl, hp3, by decide, by decide, fun G4 e c4 hp4 e0 e1 => ?_⟩
      have hU4 := c4 _ _ (hp3.netup hU) hU
      have hT4 := c4 _ _ (hp3.netup (sU _ _ (su _ _ hT1))) (sU _ _ (su _ _ hT1))
      have hu4 := c4 _ _ (hp3.netup (sU _ _ hu)) (sU _ _ hu)
      have kg : ∀ b o, b ≠ p → G b = some o → G4 b = some o := fun b o nb eb => c4 _ _ nb (sU _ _ (su _ _ (s1 _ _ eb)))
      have tv4 : TevS G4 xs es := TevS.keep (D := p) (fun xs z => by
        obtain ⟨_, _, _, e, _⟩ := hpG
        rw [e] at z
        cases z) kg tv
      have kH : ∀ b o, b ≠ p → H b = some o → G4 b = some o := fun b o nb eb => kg _ _ nb (fr _ _ nb (ne_of_none eb nF) (s0 _ _ eb))
      have lxs := TevS.length tv
      have sn : sz n ∈ (List.range (n + 1)).map sz := List.mem_map.mpr ⟨n, List.mem_range.mpr (by omega), rfl⟩
      have sn9 : sz n < 10 ^ 20 := Nat.lt_of_le_of_lt cn.top (by decide)
      refine ⟨U, e, _, rfl, rfl, .inl (.inl hU4), ?_⟩
      rcases (show e = 1 ∨ e = 0 by omega) with rfl | rfl
      · refine .inl ⟨rfl, T1, U, xs, [.ref u], rfl, rfl, hT4, hU4, by simp; omega, fun T G5 s5 hT => ?_⟩
        refine q G5 T _ (es ++ [.bad (sz n)]) (fun b o nb eb => s5 _ _ (kH b o nb eb)) (hp4.same s5) hT (TevS.snoc (s5 _ _ hu4) (TevS.same s5 tv4)) (by rw [List.length_append]; simp; omega) (fun e he => ?_) (fun e he => ?_)
        · rcases List.mem_append.mp he with h | h
          · exact ok e h
          · rw [List.mem_singleton.mp h]
            exact ⟨sn, sn9⟩
        · rw [List.dropLast_concat] at he
          exact nb e he
      · refine .inr ⟨rfl, List.cons_ne_nil _ _, fun O nO => ?_⟩
        have sO := same_upd (o := .tup []) nO
        refine ⟨T1, O, xs, [], rfl, rfl, sO _ _ hT4, upd_same, by simp; omega, fun T G5 s5 hT => ?_⟩
        rw [List.append_nil] at hT
        exact q G5 T _ es (fun b o nb eb => s5 _ _ (sO _ _ (kH b o nb eb))) ((hp4.same sO).same s5) hT (TevS.same (sO.trans s5) tv4) (by omega) ok (fun e he => nb e ((List.dropLast_sublist es).subset he))
def spLr : Sp := fun vs H Q _ => ∃ p : Addr, vs = [.ref p] ∧ Po H p ∧ ∀ (H' : Hp), But p H H' → Po H' p → Q (.bl true) H'
theorem ok_Lr {k : Nat} (Z : Fns K mg) : FnG P w K mg base CX0 (k + 1 + 1 + 1 + 1 + 1) Z.fLr Z.fdLr ["_law_pot_here"] spLr := by
  have GNx : FnOk P w K mg base CX0 (k + 1) Z.fNx Z.fdNx ["_law_pot_here", "_law_count"] spNx := ok_Nx Z
  have GPk : FnOk P w K mg base CX0 (k + 1 + 1) Z.fPk Z.fdPk ["_law_pot_here", "_law_some"] (spPk K) := ok_Pk Z
  have GLo : FnOk P w K mg base CX0 (k + 1) Z.fLo Z.fdLo ["_law_deed"] spHe := ok_Lo Z
  have GHh : FnOk P w K mg base CX0 (k + 1 + 1) Z.fHh Z.fdHh ["history"] spHh := ok_Hh Z
  have XRh : FnOk P w K mg base (L2.CX P w) (k + 1 + 1 + 1 + 1) Z.fRh Z.fdRh ["chain", "text"] (spRh K Z.CBadText) := okX_Rh Z
  refine okG Z.FLr scLr (fun vs H Q E h => ?_) (fun cdv A outer s H vs Q E hgu hr h => ?_)
  · obtain ⟨p, rfl, _⟩ := h
    rfl
  · obtain ⟨p, rfl, hp, q⟩ := h
    have hu64 := u64_of hr
    refine ⟨_, (pss_cons (ps_set (i := 1) scLr.nd rfl (.inl rfl) (pe_lst pa_nil))
 (pss_cons (ps_for PassesOwn.never rfl (pi_range1 (by rfl) Z.N.range (pa_cons (pe_op op_add pe_int (pe_call GNx (hr.mono (by omega)) (by rfl) Z.gNx Z.FNx.kp Z.bNx .nil pass0 (pa_cons (pv 0) (pa_cons pe_int pa_nil)))) pa_nil)) (pg_name (i := 2) scLr.nd rfl (.inl rfl))
 (pss_cons (ps_set (i := 3) scLr.nd rfl (.inl rfl) (pe_call GNx (hr.mono (by omega)) (by rfl) Z.gNx Z.FNx.kp Z.bNx .nil pass0 (pa_cons (pv 0) (pa_cons pe_int pa_nil))))
 (pss_one (ps_expr (pe_bm PySem.F.plainAttrs_list PySem.F.slot_list_append PySem.F.type_list_append mt_append (pv 1) (pa_cons (pe_call GPk (hr.mono (by omega)) (by rfl) Z.gPk Z.FPk.kp Z.bPk .nil pass0 (pa_cons (pv 0) (pa_cons (pe_lst (pa_cons (pe_tup (pa_cons pe_str (pa_cons pe_int (pa_cons (pv 3) pa_nil)))) (pa_cons (pe_tup (pa_cons pe_str (pa_cons pe_int (pa_cons (pe_op op_mul pe_int (pv 3)) pa_nil)))) (pa_cons (pe_tup (pa_cons pe_str (pa_cons (pv 3) pa_nil))) pa_nil)))) pa_nil))) pa_nil))))))
 (pss_cons (ps_set (i := 4) scLr.nd rfl (.inl rfl) (pe_callTy call_tuple_of (by rfl) Z.N.tuple (by decide +kernel) (pa_cons (pv 1) pa_nil)))
 (pss_cons (ps_set (i := 5) scLr.nd rfl (.inl rfl) (pe_bm PySem.F.plainAttrs_str PySem.F.slot_str_join PySem.F.type_str_join mt_join pe_str (pa_cons (pe_lc (own := [("_law_deed", 6)]) (g := (gName 6)) (tt := tYes) (by rfl) scLr.nd (pi_tup (pv 4)) (blkOk_by (N := scLrN) (sc := defScope scLrS) (by decide +kernel)) (fun _ _ _ _ _ => (pg_name (i := 6) scLr.nd rfl (.inl rfl))) (fun _ _ _ _ _ => pts_nil) (fun _ _ _ _ _ => (pe_call GLo (hr.mono (by omega)) (by rfl) Z.gLo Z.FLo.kp Z.bLo .nil pass0 (pa_cons (pv 6) pa_nil)))) pa_nil)))
 (pss_one (ps_ret (pe_and (pe_cmpR op_eq (pe_call GHh (hr.mono (by omega)) (by rfl) Z.gHh Z.FHh.kp Z.bHh .nil pass0 (pa_cons (pv 4) pa_nil)) (pv 5) (nomark _)) (pe_one (pe_cmpR op_eq (pe_callB (call_rqA hgu hu64) (by rfl) Z.N.repr (by decide +kernel) (pa_cons (pe_call XRh (hr.mono (by omega)) (by rfl) Z.gRh Z.FRh.kp Z.bRh .nil passL (pa_cons (pe_tup (pa_cons pe_int (pa_cons pe_int pa_nil))) (pa_cons (pv 5) pa_nil))) pa_nil)) (pe_callB (call_rqA hgu hu64) (by rfl) Z.N.repr (by decide +kernel) (pa_cons (pv 4) pa_nil)) (nomark _)))))))))), ?_⟩
    have szl : sizeLine = 16777216 := by decide
    refine ⟨(by show 0 ≤ sizeLine; decide), fun F nF => ?_⟩
    have npF := hp.ne_none nF
    have s0 := same_upd (o := .lst []) nF
    have hF0 : upd H F (.lst []) F = some (.lst []) := upd_same
    have hp0 := hp.same s0
    generalize upd H F (.lst []) = G0 at s0 hF0 hp0 ⊢
    dsimp only [gName]
    refine ⟨.ref p, rfl, p, 601, rfl, hp0, by decide, by decide, fun H1 d b1 hp1 d0 d1 => ⟨_, _, rfl, rfl, _, rfl, by omega, by omega, ?_⟩⟩
    refine for_range (lo := 0) (n := (400 + d).toNat) (fun i σ G => ∃ (y2 y3 : Option V) (xs : List V) (es : List Tev), σ = [some (.ref p), some (.ref F), y2, y3, none, none, none] ∧ (∀ b o, b ≠ p → b ≠ F → G0 b = some o → G b = some o) ∧ Po G p ∧ G F = some (.lst xs) ∧ TevS G xs es ∧ es.length = i ∧ (∀ e ∈ es, e.okC [1, 2] ∧ e.lt (10 ^ 2)) ∧ ∀ e ∈ es, e.isBad = false)
      ⟨none, none, [], [], rfl, fun b o n1 _ e => b1 _ _ n1 e, hp1, b1 _ _ npF.symm hF0, .nil, rfl, fun _ h => absurd h List.not_mem_nil, fun _ h => absurd h List.not_mem_nil⟩ ?_ ?_
    · rintro i σ G hi ⟨y2, y3, xs, es, rfl, fr, hpG, hFG, tv, le, ok, nb⟩
      refine ⟨.ref p, rfl, p, 40, rfl, hpG, by decide, by decide, fun G4 bg c4 hp4 e0 e1 => ?_⟩
      obtain ⟨bg, rfl⟩ := Int.eq_ofNat_of_zero_le e0
      dsimp only [gName]
      have hF4 := c4 _ _ npF.symm hFG
      have em : (2 : Int) * (bg : Int) = ((2 * bg : Nat) : Int) := (Int.natCast_mul 2 bg).symm
      refine ⟨.ref F, rfl, .inl ⟨rfl, _, .inl (.inl hF4)⟩, .ref p, rfl, .int bg, rfl, (by show 3 ≤ sizeLine; decide), fun ta nta => ?_⟩
      have sa := same_upd (o := .tup [V.str "get", .int 1, .int bg]) nta
      have hta : upd G4 ta (.tup [V.str "get", .int 1, .int bg]) ta = some (.tup [V.str "get", .int 1, .int bg]) := upd_same
      generalize upd G4 ta (.tup [V.str "get", .int 1, .int bg]) = G5 at sa hta ⊢
      refine ⟨.int bg, rfl, 2, bg, rfl, rfl, .inl ⟨by decide, by decide⟩, (by show 3 ≤ sizeLine; decide), fun tc ntc => ?_⟩
      dsimp only
      rw [em]
      have sc := same_upd (o := .tup [V.str "get", .int 2, .int ((2 * bg : Nat) : Int)]) ntc
      have htc : upd G5 tc (.tup [V.str "get", .int 2, .int ((2 * bg : Nat) : Int)]) tc = some (.tup [V.str "get", .int 2, .int ((2 * bg : Nat) : Int)]) := upd_same
      generalize upd G5 tc (.tup [V.str "get", .int 2, .int ((2 * bg : Nat) : Int)]) = G55 at sc htc ⊢
      refine ⟨.int bg, rfl, (by show 2 ≤ sizeLine; decide), fun tb ntb => ?_⟩
      have sb := same_upd (o := .tup [V.str "free", .int bg]) ntb
      have htb : upd G55 tb (.tup [V.str "free", .int bg]) tb = some (.tup [V.str "free", .int bg]) := upd_same
      generalize upd G55 tb (.tup [V.str "free", .int bg]) = G6 at sb htb ⊢
      have hp6 := ((hp4.same sa).same sc).same sb
      refine ⟨(by show 3 ≤ sizeLine; decide), fun L2 nL2 => ⟨p, L2, _, rfl, hp6.same (same_upd nL2), .inl (.inl (.inl upd_same)), (hp6.ne_none nL2).symm, List.cons_ne_nil _ _, by simp, fun G7 v c7 hp7 hv => ?_⟩⟩
      have sL2 := same_upd (o := .lst [V.ref ta, .ref tc, .ref tb]) nL2
      have kb : ∀ b o, b ≠ p → G b = some o → G7 b = some o := fun b o nb eb => c7 _ _ nb (sL2 _ _ (sb _ _ (sc _ _ (sa _ _ (c4 _ _ nb eb)))))
      have h2 : (10 : Nat) ^ 2 = 100 := by decide
      have h20 : (100 : Nat) < 10 ^ 20 := by decide
      obtain ⟨u, ev, rfl, hu, oke, nbe⟩ : ∃ u ev, v = .ref u ∧ G7 u = some (.tup (tevV ev)) ∧ (ev.okC [1, 2] ∧ ev.lt (10 ^ 2)) ∧ ev.isBad = false := by
        simp only [List.mem_cons, List.not_mem_nil, or_false] at hv
        rcases hv with rfl | rfl | rfl
        · exact ⟨ta, .get 1 bg, rfl, c7 _ _ (hp6.netup (sb _ _ (sc _ _ hta))) (sL2 _ _ (sb _ _ (sc _ _ hta))), ⟨⟨by simp, by decide, by omega, Nat.mod_one _⟩, by decide, by rw [h2]; omega⟩, rfl⟩
        · exact ⟨tc, .get 2 (2 * bg), rfl, c7 _ _ (hp6.netup (sb _ _ htc)) (sL2 _ _ (sb _ _ htc)), ⟨⟨by simp, by decide, by omega, by omega⟩, by decide, by rw [h2]; omega⟩, rfl⟩
        · exact ⟨tb, .free bg, rfl, c7 _ _ (hp6.netup htb) (sL2 _ _ htb), ⟨by show bg < 10 ^ 20; omega, by show bg < 10 ^ 2; rw [h2]; omega⟩, rfl⟩
      have hF7 := kb _ _ npF.symm hFG
      have tv7 : TevS G7 xs es := TevS.keep (D := p) (fun xs z => by
        obtain ⟨_, _, _, e, _⟩ := hpG
        rw [e] at z
        cases z) kb tv
      refine ⟨F, xs, _, rfl, rfl, hF7, by rw [TevS.length tv]; omega, ?_⟩
      have n1 : ∀ xs, G7 F ≠ some (.tup xs) := fun xs z => by rw [hF7] at z; cases z
      refine ⟨_, _, xs ++ [.ref u], es ++ [ev], rfl, fun b o nb1 nb2 eb => ?_, hp7.keep npF, upd_same, TevS.keep n1 (fun b o nb eb => by rw [upd_ne nb]; exact eb) (TevS.snoc hu tv7), by rw [List.length_append]; simp; omega, fun e he => ?_, fun e he => ?_⟩
      · rw [upd_ne nb2]
        exact kb _ _ nb1 (fr b o nb1 nb2 eb)
      · rcases List.mem_append.mp he with h | h
        · exact ok e h
        · rw [List.mem_singleton.mp h]
          exact oke
      · rcases List.mem_append.mp he with h | h
        · exact nb e h
        · rw [List.mem_singleton.mp h]
          exact nbe
    · rintro σ G ⟨y2, y3, xs, es, rfl, fr, hpG, hFG, tv, le, ok, nb⟩
      have lxs := TevS.length tv
      have ne : ¬ es = [] := fun z => by rw [z] at le; simp at le; omega
      have lt20 : ∀ e ∈ es, e.lt (10 ^ 20) := fun e he => by
        have := (ok e he).2
        have h : (10 : Nat) ^ 2 ≤ 10 ^ 20 := by decide
        cases e with
        | get s a => exact ⟨Nat.lt_of_lt_of_le this.1 h, Nat.lt_of_lt_of_le this.2 h⟩
        | bad s => exact Nat.lt_of_lt_of_le this h
        | free a => exact Nat.lt_of_lt_of_le this h
      have tb : ∀ y ∈ es.map lineT, Tx y 14 := fun y hy => by
        obtain ⟨e, he, rfl⟩ := List.mem_map.mp hy
        exact line_lenK (by decide) (ok e he).2
      have eh : histT es = Txt.join "\n" (es.map lineT) := by unfold histT; rw [if_neg ne]
      have hx : (histT es).length ≤ 40000 := by
        rw [eh]
        refine Nat.le_trans (join_le (by decide +kernel)) (Nat.le_trans (twt_le tb) ?_)
        rw [List.length_map]
        omega
      have gx : Gw (histT es) := by
        rw [eh]
        exact Gw.join (Gw.lit (by decide +kernel)) fun y hy => (tb y hy).gw
      have ho := his_hist (C := [1, 2]) (fun e he => (ok e he).1) (fun e he => nb e ((List.dropLast_sublist es).subset he))
      refine ⟨.ref F, rfl, F, xs, rfl, .inl ⟨.inl (.inl hFG), fun T1 nT1 => ?_⟩⟩
      have s1 := same_upd (o := .tup xs) nT1
      have hT1 : upd G T1 (.tup xs) T1 = some (.tup xs) := upd_same
      have tv1 := TevS.same s1 tv
      have hp1 := hpG.same s1
      have k1 : ∀ b o, b ≠ p → H b = some o → upd G T1 (.tup xs) b = some o := fun b o nb' eb => s1 _ _ (fr _ _ nb' (ne_of_none eb nF) (s0 _ _ eb))
      generalize upd G T1 (.tup xs) = G1 at s1 hT1 tv1 hp1 k1 ⊢
      dsimp only [gName]
      refine ⟨rfl, .ref T1, rfl, T1, rfl, ⟨_, .inl (.inl hT1)⟩, fun D nD => ?_⟩
      refine lc_it (walk_tup (K := K) (a := T1) (xs := xs)) (fun i G => Same G1 G ∧ G D = some (.lst (((es.take i).map lineT).map V.str))) ⟨same_upd nD, upd_same⟩ (fun i G _ s => .inl (.inl (s.1 _ _ hT1))) (fun i x G G' hi s yy => ?_) (fun G2 s => ?_)
      · obtain ⟨rfl, hx⟩ := yy
        have li : i < es.length := by rw [← lxs]; exact hi
        obtain ⟨y, hy, u, rfl, hu⟩ := Paired.get2 tv1 (List.getElem?_eq_getElem li)
        rw [hx] at hy
        cases hy
        refine ⟨rfl, ?_⟩
        delta tYes
        refine ite2 (fun _ => ?_) (fun z => absurd rfl z)
        refine ⟨.ref u, rfl, u, _, rfl, s.1 _ _ hu, lt20 _ (List.getElem_mem li), fun G2 s2 => ⟨_, s2 _ _ s.2, ?_, fun b o e => by rw [upd_ne (ne_of_none e nD)]; exact s2 _ _ (s.1 _ _ e), ?_⟩⟩
        · rw [List.length_map, List.length_map, List.length_take]
          exact Nat.lt_of_le_of_lt (Nat.min_le_right _ _) (by omega)
        · rw [upd_same, List.take_add_one, List.getElem?_eq_getElem li]
          simp only [List.map_append, Option.toList_some, List.map_cons, List.map_nil]
      have hD0 := s.2
      have s2 := s.1
      rw [lxs, List.take_length] at hD0
      refine ⟨"\n", D, _, rfl, rfl, .inl (.inl (.inl hD0)), wt_fit (twt_le tb) (by rw [List.length_map]; omega) (by decide +kernel), ?_⟩
      rw [← eh]
      dsimp only [gName]
      refine ⟨.ref T1, rfl, T1, xs, es, rfl, s2 _ _ hT1, TevS.same s2 tv1, by omega, lt20, fun G3 s3 => ?_⟩
      have bulk : ShwA (es.map tevD) 2 (8 * es.length) := tevDs_shw es lt20
      have sh : Shw (.tuple (es.map tevD)) 3 (8 * es.length) := bulk.tup
      have l3 := sh.len (by omega)
      generalize hX : histT es = X at hx gx ho eh ⊢
      refine ⟨.str X, rfl, rfl, _, rfl, ?_⟩
      rw [decide_eq_true rfl]
      refine ite2 (fun _ => ?_) (fun c => absurd rfl c)
      refine ⟨(by show 2 ≤ sizeLine; decide), fun C nC => ⟨.str X, rfl, C, [1, 2], X, rfl, .inl (.inl upd_same), by decide, hx, gx, fun n hn => (by rw [ho] at hn; cases hn), fun G5 T es' ys s5 hn hT tv5 => ?_⟩⟩
      rw [ho] at hn
      cases hn
      have s15 := s2.trans (s3.trans ((same_upd nC).trans s5))
      refine ⟨_, _, rfl, .tup (.inl (.inl hT)) tv5.dq, sh.sh, Nat.le_trans sh.dp (by decide), l3, .ref T1, rfl, _, _, rfl, .tup (.inl (.inl (s15 _ _ hT1))) (TevS.same s15 tv1).dq, sh.sh, Nat.le_trans sh.dp (by decide), l3, rfl, ?_⟩
      generalize PyData.tuple (es.map tevD) = d
      show Q (.bl (decide (V.str d.shown = V.str d.shown))) _
      rw [decide_eq_true rfl]
      exact q _ (fun b o nb' eb => s15 _ _ (k1 b o nb' eb)) (hp1.same s15)
end
end Ph

set_option maxHeartbeats 8000000
namespace Ph
open PySem PySem.Spec PyProof.Rows L2
theorem bkN_of {b : Bk} (h : 0 ≤ b.1 ∧ b.1 ≤ 1000000 ∧ 0 ≤ b.2 ∧ b.2 ≤ 1000000) : BkN b := by
  obtain ⟨h1, h2, h3, h4⟩ := h
  have e : (1000000 : Int) < 10 ^ 20 := by decide
  exact ⟨h1, Int.lt_of_le_of_lt h2 e, h3, Int.lt_of_le_of_lt h4 e⟩
theorem row_len {bs : List Bk} (h : ∀ b ∈ bs, 0 ≤ b.1 ∧ b.1 ≤ 1000000 ∧ 0 ≤ b.2 ∧ b.2 ≤ 1000000) (l : bs.length ≤ 1000) : (rowTxt bs).length ≤ 40000 := by
  unfold rowTxt
  split
  · decide +kernel
  · refine Nat.le_trans (join_le (by decide +kernel)) (Nat.le_trans (twt_le (blks_tx h)) ?_)
    rw [List.length_map]
    omega
theorem rows_dp {K : PySem.W.Frag} {H : Hp} {t : Addr} {xs : List V} {rows : List (List (Option Nat))} (h : H t = some (.tup xs)) (r : RowS H xs rows) (c : (rowsD rows).canLay0 = true) : Dp K H (.ref t) (rowsD rows) := (rows_dq h r).dp c
theorem cl_great {s : Nat → Nat} {p : Nat} (cn : Cn s p 1000000000) (p11 : p ≤ 11) : IsCL (tl s (p + 1)) := by
  have gd : ∀ j, j ≤ p → (tl s (p + 1)).getD j 0 = ((s j : Nat) : Int) := fun j hj => by rw [List.getD_eq_getElem?_getD, tl_get (by omega)]; rfl
  refine ⟨by rw [tl_len]; omega, by rw [tl_len]; omega, by rw [gd 0 (by omega), cn.ch.s0]; rfl, ?_, fun j hj => ?_⟩
  · rw [tl_len, Nat.add_sub_cancel, gd p (Nat.le_refl _)]
    have := cn.top
    omega
  · rw [tl_len, Nat.add_sub_cancel] at hj
    rw [fz_iff (tl_get (by omega)) (tl_get (by omega))]
    obtain ⟨r, r2, _, er⟩ := cn.two j hj
    have h0 := cn.ch.pos (i := j) (by omega)
    have : s j * 2 ≤ s j * r := Nat.mul_le_mul_left _ r2
    rw [er]
    refine decide_eq_true ⟨by omega, by omega, ?_⟩
    have := Int.mul_emod_right ((s j : Nat) : Int) ((r : Nat) : Int)
    rw [Int.natCast_mul]
    exact this
theorem BL.dq {K : PySem.W.Frag} {H : Hp} : ∀ {xs : List V} {bs : List Bk}, BL H xs bs → DqAll K H xs (bs.map bD)
  | _, _, .nil => .nil
  | _, _, .cons ⟨t, e1, e2⟩ r => by
    rw [List.map_cons]
    refine .cons ?_ (BL.dq r)
    rw [e1]
    exact .tup (.inl (.inl e2)) (.cons (.int _) (.cons (.int _) .nil))
theorem StAt.dq {K : PySem.W.Frag} {H : Hp} {t : Addr} {bs : List Bk} (h : StAt H t bs) : Dq K H (.ref t) (.tuple (bs.map bD)) := by
  obtain ⟨xs, e, bl⟩ := h
  exact .tup (.inl (.inl e)) bl.dq
theorem bDs_shw : ∀ bs : List Bk, (∀ b ∈ bs, 0 ≤ b.1 ∧ b.1 ≤ 1000000 ∧ 0 ≤ b.2 ∧ b.2 ≤ 1000000) → ShwA (bs.map bD) 2 (3 * bs.length)
  | [], _ => .nil 2
  | b :: r, h => by
    have ih := bDs_shw r fun c hc => h c (List.mem_cons_of_mem _ hc)
    obtain ⟨h1, h2, h3, h4⟩ := h b (List.mem_cons_self ..)
    have e : (1000000 : Nat) < 10 ^ 20 := by decide
    have s1 : Shw (bD b) 2 2 := (ShwA.cons (shw_int (Nat.lt_of_le_of_lt (by omega : b.1.natAbs ≤ 1000000) e) 1) (.cons (shw_int (Nat.lt_of_le_of_lt (by omega : b.2.natAbs ≤ 1000000) e) 1) (.nil 1))).tup
    have := ShwA.cons s1 ih
    rw [List.length_cons, show 3 * (r.length + 1) = 2 + 1 + 3 * r.length by omega]
    exact this
theorem bD_shw {bs : List Bk} (h : ∀ b ∈ bs, 0 ≤ b.1 ∧ b.1 ≤ 1000000 ∧ 0 ≤ b.2 ∧ b.2 ≤ 1000000) : Shw (.tuple (bs.map bD)) 3 (3 * bs.length) := (bDs_shw bs h).tup
theorem ints_shw : ∀ ns : List Int, (∀ n ∈ ns, n.natAbs < 10 ^ 20) → ShwA (ns.map PyData.int) 1 ns.length
  | [], _ => .nil 1
  | n :: r, h => by
    have := ShwA.cons (shw_int (h n (List.mem_cons_self ..)) 1) (ints_shw r fun c hc => h c (List.mem_cons_of_mem _ hc))
    rw [List.length_cons, show r.length + 1 = 0 + 1 + r.length by omega]
    exact this
theorem dqI {K : PySem.W.Frag} {H : Hp} : ∀ ns : List Int, DqAll K H (ns.map V.int) (ns.map PyData.int)
  | [] => .nil
  | _ :: r => .cons (.int _) (dqI r)
theorem lay_of {d : PyData} (h : SeqAt.shaped d = true) : d.canLay0 = true := by
  have h : (PyData.canLay0 d && decide (PyData.depth d ≤ 64)) = true := h
  rw [Bool.and_eq_true] at h
  exact h.1
theorem ne_self {x : V} : (!decide (x = x)) = false := by rw [decide_eq_true rfl]; rfl
structure RsF (C : List Nat) (W : Nat) (bs : List Bk) : Prop where
  is : isStB C W (rowsT (headT (rowTxt bs))) = true
  one : (linesT (rowTxt bs)).length = 1
  len : (rowTxt bs).length ≤ 40000
  dq : ∀ {K : PySem.W.Frag} {H : Hp} {t : Addr} {xs : List V}, H t = some (.tup xs) → RowS H xs (rowsT (headT (rowTxt bs))) → Dq K H (.ref t) (.tuple (bs.map bD))
theorem rs_f {C : List Nat} {W : Nat} {bs : List Bk} (st : St (C.map fun n : Nat => (n : Int)) (W : Int) bs) (bd : ∀ b ∈ bs, 0 ≤ b.1 ∧ b.1 ≤ 1000000 ∧ 0 ≤ b.2 ∧ b.2 ≤ 1000000) (lb : bs.length ≤ 1000) : RsF C W bs := by
  have bN : ∀ b ∈ bs, BkN b := fun b hb => bkN_of (bd b hb)
  have nl := row_lines bN
  have h1 := head_one nl
  have h2 := lines_one nl
  have h3 := rows_row bN
  refine ⟨by rw [h1, h3]; exact isStB_st st, by rw [h2]; rfl, row_len bd lb, fun {K H t xs} ht rs => ?_⟩
  rw [h1, h3] at rs
  have := rows_dq (K := K) ht rs
  rw [rowsD_row fun b hb => ⟨(bd b hb).1, (bd b hb).2.2.1⟩] at this
  exact this
structure RcF (C : List Nat) : Prop where
  cd : IsCD (oD (slashT (headT (chT C))))
  one : (linesT (chT C)).length = 1
  len : (chT C).length ≤ 40000
  dq : ∀ {K : PySem.W.Frag} {H : Hp} {t : Addr}, H t = some (.tup (nums (slashT (headT (chT C))))) → Dq K H (.ref t) (.tuple ((C.map fun n : Nat => (n : Int)).map PyData.int))
theorem rc_f {C : List Nat} (ne : C ≠ []) (h20 : ∀ n ∈ C, n < 10 ^ 20) (lc : C.length ≤ 100) (cl : IsCL (C.map fun n : Nat => (n : Int))) : RcF C := by
  have nl := ch_lines C
  have h1 := head_one nl
  have h2 := lines_one nl
  have h3 := slash_chT ne h20
  have txC : ∀ y ∈ C.map (fun n : Nat => numT (n : Int)), Tx y 20 := fun y hy => by
    obtain ⟨n, hn, rfl⟩ := List.mem_map.mp hy
    exact Tx.num (by omega) (by decide) (by simpa using h20 n hn)
  refine ⟨?_, by rw [h2]; rfl, ?_, fun {K H t} ht => ?_⟩
  · rw [h1, h3, oD_some]
    exact isCD_ints.mpr cl
  · unfold chT
    refine Nat.le_trans (join_le (by decide +kernel)) (Nat.le_trans (twt_le txC) ?_)
    rw [List.length_map]
    omega
  · have := o_dq (K := K) ht
    rw [h1, h3, oD_some] at this
    exact this
theorem tevDt_shaped (es : List Tev) : SeqAt.shaped (.tuple (es.map tevD)) = true := by
  have h := tevDs_lay es
  have h2 : PyData.depth (.tuple (es.map tevD)) ≤ 64 := by simp only [PyData.depth]; omega
  have h3 : PyData.canLay0 (.tuple (es.map tevD)) = true := by simp only [PyData.canLay0]; exact h.1
  show (PyData.canLay0 (.tuple (es.map tevD)) && decide (PyData.depth (.tuple (es.map tevD)) ≤ 64)) = true
  rw [h3, decide_eq_true h2]
  rfl
theorem tevDt_nil (es : List Tev) : PyData.eqv (.tuple (es.map tevD)) (.tuple []) = decide (es = []) := by
  cases es with
  | nil => simp [PyData.eqv, PyData.eqvAll]
  | cons e es => simp [PyData.eqv, PyData.eqvAll]
theorem sql_same {K : PySem.W.Frag} {a : Addr} {H H' : Hp} {xs : List V} (s : Same H H') (h : SqL K H a xs) : SqL K H' a xs := But.seq (p := a + 1) (fun b o _ e => s b o e) (Nat.ne_of_lt (Nat.lt_succ_self a)) h
theorem chAt_po {p c : Addr} {H H' : Hp} {C : List Int} (h : ChAt H c C) (b : But p H H') (P : Po H p) : ChAt H' c C := by
  obtain ⟨o, d, e⟩ := h
  refine ⟨o, d, b _ _ (fun z => ?_) e⟩
  obtain ⟨g, r, n, e', _⟩ := P
  rw [z, e'] at e
  cases e
section
variable {P : Program} {w : World} {K : PySem.W.Frag} {mg : Str → Option Value} {base : Heap}
def spLaw (K : PySem.W.Frag) : Sp := fun vs H Q _ => ∃ (a : Addr) (ns : List Int), vs = [.ref a] ∧ SqL K H a (ns.map V.int) ∧ ns.length ≤ 63 ∧ ∀ H', Q (.bl true) H'
theorem ok_Law {k : Nat} (Z : Fns K mg) : FnG P w K mg base CX0 (k + 1 + 1 + 1 + 1 + 1 + 1) Z.fLaw Z.fdLaw ["_law_script"] (spLaw K) := by
  have GDw : FnOk P w K mg base CX0 (k + 1) Z.fDw Z.fdDw ["_law_script", "_law_index"] (spDw K) := ok_Dw Z
  have GNx : FnOk P w K mg base CX0 (k + 1) Z.fNx Z.fdNx ["_law_pot_here", "_law_count"] spNx := ok_Nx Z
  have GSc : FnOk P w K mg base CX0 (k + 1 + 1 + 1) Z.fSc Z.fdSc ["_law_pot_here"] spSc := ok_Sc Z
  have GDs : FnOk P w K mg base CX0 (k + 1 + 1 + 1) Z.fDs Z.fdDs ["_law_pot_here", "_law_sizes", "_law_heap_pages", "_law_most"] spDs := ok_Ds Z
  have GMb : FnOk P w K mg base CX0 (k + 1 + 1 + 1) Z.fMb Z.fdMb ["_law_pot_here"] spMb := ok_Mb Z
  have GRo : FnOk P w K mg base CX0 (k + 1) Z.fRo Z.fdRo ["_law_blocks"] spRo := ok_Ro Z
  have GHs : FnOk P w K mg base CX0 (k + 1) Z.fHs Z.fdHs ["state"] spHs := ok_Hs Z
  have GHc : FnOk P w K mg base CX0 (k + 1) Z.fHc Z.fdHc ["chain"] (spHc K) := ok_Hc Z
  have GHh : FnOk P w K mg base CX0 (k + 1 + 1) Z.fHh Z.fdHh ["history"] spHh := ok_Hh Z
  have GLo : FnOk P w K mg base CX0 (k + 1) Z.fLo Z.fdLo ["_law_deed"] spHe := ok_Lo Z
  have GGc : FnOk P w K mg base CX0 (k + 1 + 1 + 1) Z.fGc Z.fdGc ["_law_pot_here"] spGc := ok_Gc Z
  have GEg : FnOk P w K mg base CX0 (k + 1 + 1 + 1) Z.fEg Z.fdEg ["_law_pot_here", "_law_sizes"] spEg := ok_Eg Z
  have GLr : FnG P w K mg base CX0 (k + 1 + 1 + 1 + 1 + 1) Z.fLr Z.fdLr ["_law_pot_here"] spLr := ok_Lr Z
  have XRc : FnOk P w K mg base (L2.CX P w) (k + 1 + 1 + 1 + 1) Z.fRc Z.fdRc ["text"] (spRc Z.CBadText) := okX_Rc Z
  have XRs : FnOk P w K mg base (L2.CX P w) (k + 1 + 1 + 1 + 1 + 1) Z.fRs Z.fdRs ["chain", "pages", "text"] (spRs K Z.CBadText) := okX_Rs Z
  have XRh : FnOk P w K mg base (L2.CX P w) (k + 1 + 1 + 1 + 1) Z.fRh Z.fdRh ["chain", "text"] (spRh K Z.CBadText) := okX_Rh Z
  refine okG Z.FLaw scLaw (fun vs H Q E h => ?_) (fun cdv A outer s H vs Q E hgu hr h => ?_)
  · obtain ⟨a, ns, rfl, _⟩ := h
    rfl
  · obtain ⟨a, ns, rfl, hS, hl, fin⟩ := h
    have hu64 := u64_of hr
    refine ⟨_, (pss_cons (ps_set (i := 1) scLaw.nd rfl (.inl rfl) (pe_call GDw (hr.mono (by omega)) (by rfl) Z.gDw Z.FDw.kp Z.bDw .nil pass0 (pa_cons (pv 0) (pa_cons pe_int pa_nil))))
 (pss_cons (ps_set (i := 2) scLaw.nd rfl (.inl rfl) (pe_call GMb (hr.mono (by omega)) (by rfl) Z.gMb Z.FMb.kp Z.bMb .nil pass0 (pa_cons (pv 1) pa_nil)))
 (pss_cons (ps_set (i := 3) scLaw.nd rfl (.inl rfl) (pe_call GRo (hr.mono (by omega)) (by rfl) Z.gRo Z.FRo.kp Z.bRo .nil pass0 (pa_cons (pv 2) pa_nil)))
 (pss_cons (ps_if (PW.pt (pw_or (pt_cmpR op_ne (pe_call GHs (hr.mono (by omega)) (by rfl) Z.gHs Z.FHs.kp Z.bHs .nil pass0 (pa_cons (pv 2) pa_nil)) (pv 3) (nomark _)) (pw_or (pt_cmpR (op_neD hu64) (pe_call XRs (hr.mono (by omega)) (by rfl) Z.gRs Z.FRs.kp Z.bRs .nil passL (pa_cons (pe_tup (pa_cons pe_int (pa_cons pe_int (pa_cons pe_int pa_nil)))) (pa_cons pe_int (pa_cons (pv 3) pa_nil)))) (pv 2) (nomark _)) (pw_or1 (pt_not (pt_val (pe_callG GLr hgu (hr.mono (by omega)) (by rfl) Z.gLr Z.FLr.kp Z.bLr (pa_cons (pv 1) pa_nil))))))))
 (pss_one (ps_ret pe_bl)) pss_nil)
 (pss_cons (ps_for PassesOwn.never rfl (pi_range1 (by rfl) Z.N.range (pa_cons (pe_callB (call_max2 rfl) (by rfl) Z.N.max (by decide +kernel) (pa_cons pe_int (pa_cons (pe_callB (call_min2 rfl) (by rfl) Z.N.min (by decide +kernel) (pa_cons pe_int (pa_cons (pe_callB call_len_seq (by rfl) Z.N.len (by decide +kernel) (pa_cons (pv 0) pa_nil)) pa_nil))) pa_nil))) pa_nil)) (pg_name (i := 4) scLaw.nd rfl (.inl rfl))
 (pss_cons (ps_set (i := 1) scLaw.nd rfl (.inl rfl) (pe_call GDw (hr.mono (by omega)) (by rfl) Z.gDw Z.FDw.kp Z.bDw .nil pass0 (pa_cons (pv 0) (pa_cons (pv 4) pa_nil))))
 (pss_one (ps_for PassesOwn.never rfl (pi_range1 (by rfl) Z.N.range (pa_cons pe_int pa_nil)) (pg_name (i := 5) scLaw.nd rfl (.inl rfl))
 (pss_cons (ps_set (i := 6) scLaw.nd rfl (.inl rfl) (pe_call GGc (hr.mono (by omega)) (by rfl) Z.gGc Z.FGc.kp Z.bGc .nil pass0 (pa_cons (pv 1) pa_nil)))
 (pss_cons (ps_set (i := 3) scLaw.nd rfl (.inl rfl) (pe_bm PySem.F.plainAttrs_str PySem.F.slot_str_join PySem.F.type_str_join mt_join pe_str (pa_cons (pe_lc (own := [("_law_many", 10)]) (g := (gName 10)) (tt := tYes) (by rfl) scLaw.nd (pi_tup (pv 6)) (blkOk_by (N := scLawN) (sc := defScope scLawS) (by decide +kernel)) (fun _ _ _ _ _ => (pg_name (i := 10) scLaw.nd rfl (.inl rfl))) (fun _ _ _ _ _ => pts_nil) (fun _ _ _ _ _ => (pe_callTy call_str_int (by rfl) Z.N.str (by decide +kernel) (pa_cons (pv 10) pa_nil)))) pa_nil)))
 (pss_cons (ps_if (PW.pt (pw_or (pt_cmpR op_ne (pe_call GHc (hr.mono (by omega)) (by rfl) Z.gHc Z.FHc.kp Z.bHc .nil pass0 (pa_cons (pv 6) pa_nil)) (pv 3) (nomark _)) (pw_or1 (pt_cmpR op_ne (pe_callB (call_rqA hgu hu64) (by rfl) Z.N.repr (by decide +kernel) (pa_cons (pe_call XRc (hr.mono (by omega)) (by rfl) Z.gRc Z.FRc.kp Z.bRc .nil passL (pa_cons (pv 3) pa_nil)) pa_nil)) (pe_callB (call_rqA hgu hu64) (by rfl) Z.N.repr (by decide +kernel) (pa_cons (pv 6) pa_nil)) (nomark _)))))
 (pss_one (ps_ret pe_bl)) pss_nil)
 (pss_cons (ps_par (i := 7) (j := 8) (by rfl) scLaw.nd rfl rfl (by decide) rfl rfl (pa_cons (pe_call GSc (hr.mono (by omega)) (by rfl) Z.gSc Z.FSc.kp Z.bSc .nil pass0 (pa_cons (pv 1) pa_nil)) (pa_cons (pe_call GNx (hr.mono (by omega)) (by rfl) Z.gNx Z.FNx.kp Z.bNx .nil pass0 (pa_cons (pv 1) (pa_cons pe_int pa_nil))) pa_nil)) (by rfl))
 (pss_cons (ps_set (i := 2) scLaw.nd rfl (.inl rfl) (pe_call GDs (hr.mono (by omega)) (by rfl) Z.gDs Z.FDs.kp Z.bDs .nil pass0 (pa_cons (pv 1) (pa_cons (pv 7) (pa_cons (pv 8) (pa_cons pe_int pa_nil))))))
 (pss_cons (ps_set (i := 3) scLaw.nd rfl (.inl rfl) (pe_call GRo (hr.mono (by omega)) (by rfl) Z.gRo Z.FRo.kp Z.bRo .nil pass0 (pa_cons (pv 2) pa_nil)))
 (pss_cons (ps_if (PW.pt (pw_or (pt_cmpR op_ne (pe_call GHs (hr.mono (by omega)) (by rfl) Z.gHs Z.FHs.kp Z.bHs .nil pass0 (pa_cons (pv 2) pa_nil)) (pv 3) (nomark _)) (pw_or1 (pt_cmpR op_ne (pe_callB (call_rqA hgu hu64) (by rfl) Z.N.repr (by decide +kernel) (pa_cons (pe_call XRs (hr.mono (by omega)) (by rfl) Z.gRs Z.FRs.kp Z.bRs .nil passL (pa_cons (pv 7) (pa_cons (pv 8) (pa_cons (pv 3) pa_nil)))) pa_nil)) (pe_callB (call_rqA hgu hu64) (by rfl) Z.N.repr (by decide +kernel) (pa_cons (pv 2) pa_nil)) (nomark _)))))
 (pss_one (ps_ret pe_bl)) pss_nil)
 (pss_cons (ps_set (i := 9) scLaw.nd rfl (.inl rfl) (pe_call GEg (hr.mono (by omega)) (by rfl) Z.gEg Z.FEg.kp Z.bEg .nil pass0 (pa_cons (pv 1) (pa_cons (pv 6) pa_nil))))
 (pss_cons (ps_set (i := 3) scLaw.nd rfl (.inl rfl) (pe_ifExp (pt_cmpR (op_neD hu64) (pv 9) (pe_tup pa_nil) (nomark _)) (pe_bm PySem.F.plainAttrs_str PySem.F.slot_str_join PySem.F.type_str_join mt_join pe_str (pa_cons (pe_lc (own := [("_law_deed", 11)]) (g := (gName 11)) (tt := tYes) (by rfl) scLaw.nd (pi_tup (pv 9)) (blkOk_by (N := scLawN) (sc := defScope scLawS) (by decide +kernel)) (fun _ _ _ _ _ => (pg_name (i := 11) scLaw.nd rfl (.inl rfl))) (fun _ _ _ _ _ => pts_nil) (fun _ _ _ _ _ => (pe_call GLo (hr.mono (by omega)) (by rfl) Z.gLo Z.FLo.kp Z.bLo .nil pass0 (pa_cons (pv 11) pa_nil)))) pa_nil)) pe_str))
 (pss_one (ps_if (PW.pt (pw_or (pt_cmpR op_ne (pe_call GHh (hr.mono (by omega)) (by rfl) Z.gHh Z.FHh.kp Z.bHh .nil pass0 (pa_cons (pv 9) pa_nil)) (pv 3) (nomark _)) (pw_or1 (pt_cmpR op_ne (pe_callB (call_rqA hgu hu64) (by rfl) Z.N.repr (by decide +kernel) (pa_cons (pe_call XRh (hr.mono (by omega)) (by rfl) Z.gRh Z.FRh.kp Z.bRh .nil passL (pa_cons (pv 6) (pa_cons (pv 3) pa_nil))) pa_nil)) (pe_callB (call_rqA hgu hu64) (by rfl) Z.N.repr (by decide +kernel) (pa_cons (pv 9) pa_nil)) (nomark _)))))
 (pss_one (ps_ret pe_bl)) pss_nil)))))))))))))))
 (pss_one (ps_ret (pe_cmpR (op_eqD hu64) (pe_lst (pa_cons (pe_call GHs (hr.mono (by omega)) (by rfl) Z.gHs Z.FHs.kp Z.bHs .nil pass0 (pa_cons (pe_tup pa_nil) pa_nil)) (pa_cons (pe_call GHh (hr.mono (by omega)) (by rfl) Z.gHh Z.FHh.kp Z.bHh .nil pass0 (pa_cons (pe_tup pa_nil) pa_nil)) (pa_cons (pe_call XRs (hr.mono (by omega)) (by rfl) Z.gRs Z.FRs.kp Z.bRs .nil passL (pa_cons (pe_tup (pa_cons pe_int pa_nil)) (pa_cons pe_int (pa_cons pe_str pa_nil)))) (pa_cons (pe_call XRh (hr.mono (by omega)) (by rfl) Z.gRh Z.FRh.kp Z.bRh .nil passL (pa_cons (pe_tup (pa_cons pe_int pa_nil)) (pa_cons pe_str pa_nil))) pa_nil))))) (pe_lst (pa_cons pe_str (pa_cons pe_str (pa_cons (pe_tup pa_nil) (pa_cons (pe_tup pa_nil) pa_nil))))) (nomark _))))))))), ?_⟩
    have szl : sizeLine = 16777216 := by decide
    refine ⟨.ref a, rfl, a, ns, 0, rfl, hS, by omega, fun H1 p s1 np hp => ?_⟩
    dsimp only [gName]
    refine ⟨.ref p, rfl, p, rfl, hp, fun H2 b bs b2 hp2 mn hb => ?_⟩
    dsimp only [gName]
    obtain ⟨lbs, okb⟩ := mn.ok
    have bd : ∀ b ∈ bs, 0 ≤ b.1 ∧ b.1 ≤ 1000000 ∧ 0 ≤ b.2 ∧ b.2 ≤ 1000000 := fun b hb => by have := okb b hb; omega
    have bN : ∀ b ∈ bs, BkN b := fun b hb => bkN_of (bd b hb)
    have ba : ∀ b o, b ≠ p → H b = some o → H2 b = some o := fun b o n e => b2 _ _ n (s1 _ _ e)
    refine ⟨.ref b, rfl, b, bs, rfl, hb, by omega, bd, fun H3 s3 => ?_⟩
    dsimp only [gName]
    have lx := row_len bd (by omega : bs.length ≤ 1000)
    refine seq_splitT (fun σ' H' => σ' = [some (.ref a), some (.ref p), some (.ref b), some (.str (rowTxt bs)), none, none, none, none, none, none, none, none] ∧ Same H H') (fun D' rt1 hD' => ?_) ?_
    · refine ⟨.ref b, rfl, b, bs, rfl, hb.same s3, by omega, bd, fun H4 s4 => ?_⟩
      have s34 := s3.trans s4
      refine ⟨.str (rowTxt bs), rfl, rfl, _, rfl, ?_⟩
      rw [ne_self]
      refine ite2 (fun c => absurd c (by decide)) (fun _ => ?_)
      refine ⟨(by show 3 ≤ sizeLine; decide), fun U nU => ⟨.str (rowTxt bs), rfl, ?_⟩⟩
      have sU := same_upd (o := .tup [V.int 1, .int 2, .int 4]) nU
      have f := rs_f (C := [1, 2, 4]) (W := 4 * 130) mn.st bd (by omega)
      refine ⟨U, [1, 2, 4], 130, 4, rowTxt bs, rfl, .inl (.inl upd_same), by decide, rfl, by decide, by decide, f.len, fun z => absurd (f.is.symm.trans z) (by decide), fun _ z => absurd f.one z, fun _ _ H5 t xs s5 ht rs => ?_⟩
      have dq := f.dq (K := K) ht rs
      refine ⟨.ref b, rfl, _, _, dq.dp (lay_of (sD_shaped bs)), ((((hb.same s34).same sU).same s5)).dp, sD_shaped bs, sD_shaped bs, ?_⟩
      rw [sD_eqv_refl]
      refine ⟨_, rfl, ite2 (fun c => absurd c (by decide)) (fun _ => ?_)⟩
      have s6 := s34.trans (sU.trans s5)
      refine ⟨.ref p, rfl, p, rfl, hp2.same s6, fun H6 b6 hp6 => ?_⟩
      refine ⟨true, rfl, ite2 (fun c => absurd c (by decide)) (fun _ => ?_)⟩
      exact hD' _ _ ⟨rfl, fun c o e => b6 _ _ (ne_of_none e np) (s6 _ _ (ba _ _ (ne_of_none e np) e))⟩
    rintro σ1 H4 ⟨rfl, x1⟩
    clear hb mn hp2 hp
    refine seq_splitT (fun σ' H' => True) (fun D' rt1 hD' => ?_) ?_
    · refine ⟨.ref a, rfl, a, _, rfl, .inl (sql_same x1 hS), _, _, rfl, _, _, rfl, ?_⟩
      rw [List.length_map]
      generalize hz : (if (if (ns.length : Int) < 3 then (ns.length : Int) else 3) > 1 then (if (ns.length : Int) < 3 then (ns.length : Int) else 3) else (1 : Int)) = z
      have z3 : 0 ≤ z ∧ z ≤ 3 := by
        rw [← hz]
        split <;> split <;> omega
      refine ⟨z, rfl, by omega, by omega, ?_⟩
      refine for_range (lo := 0) (n := z.toNat) (fun i σ G => ∃ y1 y2 y3 y4 y5 y6 y7 y8 y9, σ = [some (.ref a), y1, y2, y3, y4, y5, y6, y7, y8, y9, none, none] ∧ Same H G) ⟨_, _, _, _, _, _, _, _, _, rfl, x1⟩ ?_ ?_
      · rintro i σ G hi ⟨y1, y2, y3, y4, y5, y6, y7, y8, y9, rfl, xG⟩
        have e : (0 : Int) + (i : Int) = ((i : Nat) : Int) := by omega
        rw [e]
        refine ⟨.ref a, rfl, .int i, rfl, a, ns, i, rfl, sql_same xG hS, by omega, fun G1 p s1 np hp => ?_⟩
        dsimp only [gName]
        refine ⟨4, rfl, by decide, by decide, ?_⟩
        refine for_range (lo := 0) (n := 4) (fun j σ F => ∃ y2 y3 y5 y6 y7 y8 y9, σ = [some (.ref a), some (.ref p), y2, y3, some (.int i), y5, y6, y7, y8, y9, none, none] ∧ But p G1 F ∧ Po F p) ⟨_, _, _, _, _, _, _, rfl, But.refl _ _, hp⟩ ?_ ?_
        · rintro j σ F hj ⟨y2, y3, y5, y6, y7, y8, y9, rfl, xF, hpF⟩
          dsimp only [gName]
          refine ⟨.ref p, rfl, p, rfl, hpF, fun F1 c sz n b1 hp1 hc cn n11 => ?_⟩
          have xF1 := xF.trans b1
          have eC : (((List.range (n + 1)).map sz).map fun n : Nat => (n : Int)) = tl sz (n + 1) := by
            unfold tl
            rw [List.map_map]
            rfl
          have cl := cl_great cn n11
          have okC : ∀ m ∈ (List.range (n + 1)).map sz, 0 < m ∧ m < 10 ^ 20 := fun m hm => by
            obtain ⟨k, hk, rfl⟩ := List.mem_map.mp hm
            have hk := List.mem_range.mp hk
            have := cn.ch.mono (i := k) (j := n) (by omega) (by omega)
            have := cn.top
            exact ⟨cn.ch.pos hk, Nat.lt_of_le_of_lt (by omega : sz k ≤ 1000000000) (by decide)⟩
          have nl : ((List.range (n + 1)).map sz).length ≤ 12 := by rw [List.length_map, List.length_range]; omega
          have ne : (List.range (n + 1)).map sz ≠ [] := fun z => by
            have := congrArg List.length z
            rw [List.length_map, List.length_range] at this
            simp at this
          have hcE := hc
          rw [← eC] at cl hc
          have f := rc_f ne (fun m hm => (okC m hm).2) (by omega) cl
          generalize hC : (List.range (n + 1)).map sz = C at okC nl ne hc f
          dsimp only [gName]
          have hcT : ∀ {G : Hp}, G c = some (.tup ((C.map fun n : Nat => (n : Int)).map V.int)) → SqT K G c ((C.map fun n : Nat => (n : Int)).map V.int) := fun e => .inl (.inl e)
          refine ⟨rfl, .ref c, rfl, c, rfl, ⟨_, hcT hc⟩, fun D nD => ?_⟩
          refine lc_it (walk_tup (K := K) (a := c) (xs := (C.map fun n : Nat => (n : Int)).map V.int)) (fun i G => Same F1 G ∧ G D = some (.lst (((C.take i).map fun n : Nat => numT (n : Int)).map V.str))) ⟨same_upd nD, upd_same⟩ (fun i G _ s => s.1.tup (hcT hc)) (fun i x G G' hi s yy => ?_) (fun F2 s => ?_)
          · obtain ⟨rfl, hx⟩ := yy
            rw [List.getElem?_map, List.getElem?_map] at hx
            obtain ⟨z, hz, rfl⟩ := Option.map_eq_some_iff.mp hx
            obtain ⟨n, hn, rfl⟩ := Option.map_eq_some_iff.mp hz
            refine ⟨rfl, ?_⟩
            delta tYes
            refine ite2 (fun _ => ?_) (fun z => absurd rfl z)
            refine ⟨.int n, rfl, n, rfl, nlog (okC n (List.mem_of_getElem? hn)).2, _, s.2, ?_, fun b o e => by rw [upd_ne (ne_of_none e nD)]; exact s.1 _ _ e, ?_⟩
            · rw [List.length_map, List.length_map, List.length_take]
              exact Nat.lt_of_le_of_lt (Nat.le_trans (Nat.min_le_right _ _) nl) (by decide)
            · rw [upd_same, List.take_add_one, hn]
              simp only [List.map_append, Option.toList_some, List.map_cons, List.map_nil]
              rfl
          have hD2 := s.2
          rw [List.length_map, List.length_map, List.take_length] at hD2
          have txC : ∀ y ∈ C.map (fun n : Nat => numT (n : Int)), Tx y 20 := fun y hy => by
            obtain ⟨n, hn, rfl⟩ := List.mem_map.mp hy
            exact Tx.num (by omega) (by decide) (by simpa using (okC n hn).2)
          have s2 := s.1
          refine ⟨"/", D, _, rfl, rfl, .inl (.inl (.inl hD2)), wt_fit (twt_le txC) (by rw [List.length_map]; omega) (by decide +kernel), ?_⟩
          have eX : Txt.join "/" (C.map fun n : Nat => numT (n : Int)) = chT C := rfl
          rw [eX]
          dsimp only [gName]
          have hc2 := s2 _ _ hc
          have hp2 := hp1.same s2
          have xF2 : But p G1 F2 := fun b o nb e => s2 _ _ (xF1 _ _ nb e)
          clear hD2 eX
          obtain ⟨fcd, fone, flen, fdq⟩ := f
          -- the first test
          refine seq_splitT (fun σ' H' => σ' = [some (.ref a), some (.ref p), y2, some (.str (chT C)), some (.int i), some (.int (0 + (j : Int))), some (.ref c), y7, y8, y9, none, none] ∧ Same F2 H') (fun D2 rt2 hD2 => ?_) ?_
          · refine ⟨.ref c, rfl, c, C, rfl, hcT hc2, by omega, fun n hn => (okC n hn).2, fun F3 s3 => ⟨.str (chT C), rfl, rfl, _, rfl, ?_⟩⟩
            rw [ne_self]
            refine ite2 (fun c => absurd c (by decide)) (fun _ => ?_)
            refine ⟨.str (chT C), rfl, chT C, rfl, flen, fun z => absurd fcd z, fun _ z => absurd fone z, fun _ _ F4 t s4 ht => ?_⟩
            have sh : Shw (.tuple ((C.map fun n : Nat => (n : Int)).map PyData.int)) 2 (C.map fun n : Nat => (n : Int)).length := (ints_shw _ fun m hm => by
              obtain ⟨n, hn, rfl⟩ := List.mem_map.mp hm
              exact nat20 (okC n hn).2).tup
            have l3 := sh.len (by rw [List.length_map]; omega)
            have s34 := s3.trans s4
            refine ⟨_, _, rfl, fdq ht, sh.sh, Nat.le_trans sh.dp (by decide), l3, .ref c, rfl, _, _, rfl, .tup (hcT (s34 _ _ hc2)) (dqI _), sh.sh, Nat.le_trans sh.dp (by decide), l3, rfl, _, rfl, ?_⟩
            rw [ne_self]
            exact ite2 (fun c => absurd c (by decide)) (fun _ => hD2 _ _ ⟨rfl, s34⟩)
          rintro σ3 F3 ⟨rfl, s3⟩
          have hc3 := s3 _ _ hc2
          have hp3 := hp2.same s3
          have xF3 : But p G1 F3 := fun b o nb e => s3 _ _ (xF2 _ _ nb e)
          refine ⟨.ref p, rfl, p, rfl, hp3, fun F4 c2 sz2 n2 b4 hp4 hc4 cn4 n4 => ?_⟩
          refine ⟨.ref p, rfl, p, 12, rfl, hp4, by decide, by decide, fun F5 d b5 hp5 d0 d1 => ?_⟩
          obtain ⟨d, rfl⟩ := Int.eq_ofNat_of_zero_le d0
          refine ⟨_, _, rfl, ?_⟩
          dsimp only
          refine ⟨.ref p, rfl, .ref c2, rfl, .int d, rfl, p, c2, sz2, n2, 8, d, 14, rfl, hp5, (chAt_po hc4 b5 hp4), cn4, by decide, by omega, by omega, by decide, fun F6 t bs b6 hp6 st stb lb => ?_⟩
          dsimp only [gName]
          have b36 : But p F3 F6 := b4.trans (b5.trans b6)
          have hc6 := b36 _ _ (hp3.netup hc3) hc3
          have hcs : ChAt F6 c2 (tl sz2 (n2 + 1)) := chAt_po (chAt_po hc4 b5 hp4) b6 hp5
          have xF6 : But p G1 F6 := xF3.trans b36
          have ok2 : ∀ m ∈ (List.range (n2 + 1)).map sz2, 0 < m := fun m hm => by
            obtain ⟨k, hk, rfl⟩ := List.mem_map.mp hm
            have hk := List.mem_range.mp hk
            exact cn4.ch.pos hk
          have eC2 : (((List.range (n2 + 1)).map sz2).map fun n : Nat => (n : Int)) = tl sz2 (n2 + 1) := by
            unfold tl
            rw [List.map_map]
            rfl
          have lst : ((List.range (n2 + 1)).map sz2).getLast? = some (sz2 n2) := by
            rw [List.range_succ, List.map_append]
            simp
          have hcsT : SqT K F6 c2 ((((List.range (n2 + 1)).map sz2).map fun n : Nat => (n : Int)).map V.int) := by
            rw [eC2]
            exact hcs.sq
          have top2 := cn4.top
          have bd : ∀ b ∈ bs, 0 ≤ b.1 ∧ b.1 ≤ 1000000 ∧ 0 ≤ b.2 ∧ b.2 ≤ 1000000 := fun b hb => by
            have h := stb.ok b hb
            have hW : (d : Int) * ((sz2 n2 : Nat) : Int) ≤ 12 * 8 := Int.mul_le_mul (by omega) (by omega) (by omega) (by decide)
            obtain ⟨_, h1, h2, _, h3⟩ := h
            generalize (d : Int) * ((sz2 n2 : Nat) : Int) = W at hW h3
            omega
          rw [← Int.natCast_mul, ← eC2] at stb
          have g := rs_f (W := d * sz2 n2) stb bd (by omega)
          generalize (List.range (n2 + 1)).map sz2 = C2 at ok2 lst hcsT g
          clear eC2
          refine ⟨.ref t, rfl, t, bs, rfl, st, by omega, bd, fun F7 s7 => ?_⟩
          dsimp only [gName]
          refine seq_splitT (fun σ' H' => σ' = [some (.ref a), some (.ref p), some (.ref t), some (.str (rowTxt bs)), some (.int i), some (.int (0 + (j : Int))), some (.ref c), some (.ref c2), some (.int d), y9, none, none] ∧ Same F6 H') (fun D3 rt3 hD3 => ?_) ?_
          · refine ⟨.ref t, rfl, t, bs, rfl, st.same s7, by omega, bd, fun F8 s8 => ⟨.str (rowTxt bs), rfl, rfl, _, rfl, ?_⟩⟩
            rw [ne_self]
            refine ite2 (fun c => absurd c (by decide)) (fun _ => ?_)
            have s78 := s7.trans s8
            refine ⟨.ref c2, rfl, .int d, rfl, .str (rowTxt bs), rfl, c2, C2, d, sz2 n2, rowTxt bs, rfl, s78.tup hcsT, ok2, lst, Nat.lt_of_le_of_lt top2 (by decide), Nat.lt_of_le_of_lt (by omega : d ≤ 12) (by decide), g.len, fun z => absurd (g.is.symm.trans z) (by decide), fun _ z => absurd g.one z, fun _ _ F9 t9 xs s9 ht rs => ?_⟩
            have sh := bD_shw bd
            have l3 := sh.len (by omega)
            have s79 := s78.trans s9
            refine ⟨_, _, rfl, g.dq ht rs, sh.sh, Nat.le_trans sh.dp (by decide), l3, .ref t, rfl, _, _, rfl, (st.same s79).dq, sh.sh, Nat.le_trans sh.dp (by decide), l3, rfl, _, rfl, ?_⟩
            rw [ne_self]
            exact ite2 (fun c => absurd c (by decide)) (fun _ => hD3 _ _ ⟨rfl, s79⟩)
          rintro σ7 F7 ⟨rfl, s7⟩
          have hc7 := s7 _ _ hc6
          have hp7 := hp6.same s7
          have xF7 : But p G1 F7 := fun b o nb e => s7 _ _ (xF6 _ _ nb e)
          have hc7' := hc7
          rw [← hC, eC] at hc7'
          refine ⟨.ref p, rfl, .ref c, rfl, p, c, sz, n, rfl, hp7, hc7', cn, n11, fun F8 T ys es b8 hp8 hT tv le okE nbE => ?_⟩
          rw [hC] at okE
          dsimp only [gName]
          have hc8 := b8 _ _ (hp7.netup hc7) hc7
          have xF8 : But p G1 F8 := xF7.trans b8
          have lt20 : ∀ e ∈ es, e.lt (10 ^ 20) := fun e he => by
            have := okE e he
            cases e with
            | get s a => exact ⟨this.2.1, this.2.2.1⟩
            | bad s => exact this.2
            | free a => exact this
          have ln := TevS.length tv
          have tb : ∀ y ∈ es.map lineT, Tx y 60 := fun y hy => by
            obtain ⟨e, he, rfl⟩ := List.mem_map.mp hy
            exact line_len (lt20 e he)
          refine seq_splitT (fun σ' H' => σ' = [some (.ref a), some (.ref p), some (.ref t), some (.str (histT es)), some (.int i), some (.int (0 + (j : Int))), some (.ref c), some (.ref c2), some (.int d), some (.ref T), none, none] ∧ Same F8 H') (fun D4 rt4 hD4 => ?_) ?_
          · refine ⟨.ref T, rfl, (by show 0 ≤ sizeLine; decide), fun U nU => ?_⟩
            have sU := same_upd (o := .tup []) nU
            refine ⟨.tuple (es.map tevD), .tuple [], .tup (.inl (.inl (sU _ _ hT))) (TevS.same sU tv).dp, .tup (.inl (.inl upd_same)) .nil, tevDt_shaped es, tevDt_shaped [], ?_⟩
            rw [tevDt_nil]
            generalize upd F8 U (.tup []) = G8 at sU ⊢
            have hT8 := sU _ _ hT
            have tv8 := TevS.same sU tv
            refine ⟨_, rfl, ite2 (fun c1 => ?_) (fun c1 => ?_)⟩
            · have c1 : ¬ es = [] := by simpa using c1
              refine ⟨rfl, .ref T, rfl, T, rfl, ⟨_, .inl (.inl hT8)⟩, fun D nD => ?_⟩
              refine lc_it (walk_tup (K := K) (a := T) (xs := ys)) (fun i G => Same G8 G ∧ G D = some (.lst (((es.take i).map lineT).map V.str))) ⟨same_upd nD, upd_same⟩ (fun i G _ s => .inl (.inl (s.1 _ _ hT8))) (fun i x G G' hi s yy => ?_) (fun G s => ?_)
              · obtain ⟨rfl, hx⟩ := yy
                have li : i < es.length := by rw [← ln]; exact hi
                obtain ⟨y, hy, u, rfl, hu⟩ := Paired.get2 tv8 (List.getElem?_eq_getElem li)
                rw [hx] at hy
                cases hy
                refine ⟨rfl, ?_⟩
                delta tYes
                refine ite2 (fun _ => ?_) (fun z => absurd rfl z)
                refine ⟨.ref u, rfl, u, _, rfl, s.1 _ _ hu, lt20 _ (List.getElem_mem li), fun G2 s2 => ⟨_, s2 _ _ s.2, ?_, fun b o e => by rw [upd_ne (ne_of_none e nD)]; exact s2 _ _ (s.1 _ _ e), ?_⟩⟩
                · rw [List.length_map, List.length_map, List.length_take]
                  exact Nat.lt_of_le_of_lt (Nat.min_le_right _ _) (by omega)
                · rw [upd_same, List.take_add_one, List.getElem?_eq_getElem li]
                  simp only [List.map_append, Option.toList_some, List.map_cons, List.map_nil]
              · have hD0 := s.2
                rw [ln, List.take_length] at hD0
                refine ⟨"\n", D, _, rfl, rfl, .inl (.inl (.inl hD0)), wt_fit (twt_le tb) (by rw [List.length_map]; omega) (by decide +kernel), ?_⟩
                have e : histT es = Txt.join "\n" (es.map lineT) := by unfold histT; rw [if_neg c1]
                rw [← e]
                exact hD4 _ _ ⟨rfl, sU.trans s.1⟩
            · have c1 : es = [] := by simpa using c1
              have e : histT es = "-" := by unfold histT; rw [if_pos c1]
              rw [e] at hD4
              exact hD4 _ _ ⟨rfl, sU⟩
          rintro σ8 F9 ⟨rfl, s9⟩
          have hp9 := hp8.same s9
          have hc9 := s9 _ _ hc8
          have xF9 : But p G1 F9 := fun b o nb e => s9 _ _ (xF8 _ _ nb e)
          have tv9 := TevS.same s9 tv
          have hT9 := s9 _ _ hT
          refine ⟨.ref T, rfl, T, ys, es, rfl, hT9, tv9, by omega, lt20, fun F10 s10 => ⟨.str (histT es), rfl, rfl, _, rfl, ?_⟩⟩
          rw [ne_self]
          refine ite2 (fun c => absurd c (by decide)) (fun _ => ?_)
          have bulk : ShwA (es.map tevD) 2 (8 * es.length) := tevDs_shw es lt20
          have sh : Shw (.tuple (es.map tevD)) 3 (8 * es.length) := bulk.tup
          have l3 := sh.len (by omega)
          have hx : (histT es).length ≤ 40000 := by
            unfold histT
            split
            · decide +kernel
            · refine Nat.le_trans (join_le (by decide +kernel)) (Nat.le_trans (twt_le tb) ?_)
              rw [List.length_map]
              omega
          have gx : Gw (histT es) := by
            unfold histT
            split
            · exact Gw.lit (by decide +kernel)
            · exact Gw.join (Gw.lit (by decide +kernel)) fun y hy => (tb y hy).gw
          have ho := his_hist okE nbE
          refine ⟨.ref c, rfl, .str (histT es), rfl, c, C, histT es, rfl, hcT (s10 _ _ hc9), fun n hn => (okC n hn).1, hx, gx, fun n hn => (by rw [ho] at hn; cases hn), fun F11 T2 es' ys' s11 hn hT2 tv2 => ?_⟩
          rw [ho] at hn
          cases hn
          have s1011 := s10.trans s11
          refine ⟨_, _, rfl, .tup (.inl (.inl hT2)) tv2.dq, sh.sh, Nat.le_trans sh.dp (by decide), l3, .ref T, rfl, _, _, rfl, .tup (.inl (.inl (s1011 _ _ hT9))) (TevS.same s1011 tv9).dq, sh.sh, Nat.le_trans sh.dp (by decide), l3, rfl, _, rfl, ?_⟩
          rw [ne_self]
          refine ite2 (fun c => absurd c (by decide)) (fun _ => ?_)
          exact ⟨_, _, _, _, _, _, _, rfl, fun b o nb e => s1011 _ _ (xF9 _ _ nb e), hp9.same s1011⟩
        · rintro σ F ⟨y2, y3, y5, y6, y7, y8, y9, rfl, xF, hpF⟩
          exact ⟨_, _, _, _, _, _, _, _, _, rfl, fun b o e => xF _ _ (ne_of_none (xG _ _ e) np) (s1 _ _ (xG _ _ e))⟩
      · rintro σ G _
        exact hD' _ _ trivial
    rintro σ6 H6 -
    have f := rs_f (C := [1]) (W := 0 * 1) (bs := []) ⟨fun _ h => absurd h List.not_mem_nil, .nil⟩ (fun _ h => absurd h List.not_mem_nil) (by decide)
    have ho := his_hist (C := [1]) (es := []) (fun _ h => absurd h List.not_mem_nil) (fun _ h => absurd h List.not_mem_nil)
    refine ⟨(by show 0 ≤ sizeLine; decide), fun U1 n1 => ⟨U1, [], rfl, ⟨[], upd_same, .nil⟩, by decide, fun _ h => absurd h List.not_mem_nil, fun G1 t1 => ?_⟩⟩
    refine ⟨(by show 0 ≤ sizeLine; decide), fun U2 n2 => ⟨U2, [], [], rfl, upd_same, .nil, by decide, fun _ h => absurd h List.not_mem_nil, fun G2 t2 => ?_⟩⟩
    refine ⟨(by show 1 ≤ sizeLine; decide), fun U3 n3 => ⟨U3, [1], 0, 1, rowTxt [], rfl, .inl (.inl upd_same), by decide, rfl, by decide, by decide, f.len, fun z => absurd (f.is.symm.trans z) (by decide), fun _ z => absurd f.one z, fun _ _ G3 R xs t3 hR rs => ?_⟩⟩
    have dR := f.dq (K := K) hR rs
    refine ⟨(by show 1 ≤ sizeLine; decide), fun U4 n4 => ⟨U4, [1], histT [], rfl, .inl (.inl upd_same), by decide, by decide +kernel, Gw.lit (by decide +kernel), fun n hn => (by rw [ho] at hn; cases hn), fun G4 T es ys t4 hn hT tv => ?_⟩⟩
    rw [ho] at hn
    cases hn
    cases tv
    have dR4 := dR.same ((same_upd n4).trans t4)
    have e1 : rowTxt [] = "-" := rfl
    have e2 : histT [] = "-" := rfl
    have sh : SeqAt.shaped (.list [.str "-", .str "-", .tuple [], .tuple []]) = true := by decide +kernel
    have ev : PyData.eqv (.list [.str "-", .str "-", .tuple [], .tuple []]) (.list [.str "-", .str "-", .tuple [], .tuple []]) = true := by simp [PyData.eqv, PyData.eqvAll]
    have dR5 : ∀ {G : Hp}, Same G4 G → Dp K G (.ref R) (.tuple []) := fun s => (dR4.same s).dp (lay_of (sD_shaped []))
    have dT5 : ∀ {G : Hp}, Same G4 G → Dp K G (.ref T) (.tuple []) := fun s => .tup (.inl (.inl (s _ _ hT))) .nil
    refine ⟨(by show 4 ≤ sizeLine; decide), fun L1 m1 => ?_⟩
    have u1 := same_upd (o := .lst [V.str (rowTxt []), .str (histT []), .ref R, .ref T]) m1
    have hL1 : upd G4 L1 (.lst [V.str (rowTxt []), .str (histT []), .ref R, .ref T]) L1 = some (.lst [V.str (rowTxt []), .str (histT []), .ref R, .ref T]) := upd_same
    refine ⟨(by show 0 ≤ sizeLine; decide), fun T1 m2 => ⟨(by show 0 ≤ sizeLine; decide), fun T2 m3 => ⟨(by show 4 ≤ sizeLine; decide), fun L2 m4 => ?_⟩⟩⟩
    have u2 := same_upd (o := .tup []) m2
    have u3 := same_upd (o := .tup []) m3
    have u4 := same_upd (o := .lst [V.str "-", .str "-", .ref T1, .ref T2]) m4
    have u24 := u2.trans (u3.trans u4)
    refine ⟨.list [.str "-", .str "-", .tuple [], .tuple []], .list [.str "-", .str "-", .tuple [], .tuple []], ?_, ?_, sh, sh, ?_⟩
    · refine .lst (.inl (.inl (u24 _ _ hL1))) ?_
      rw [e1, e2]
      exact .cons (.str _) (.cons (.str _) (.cons (dR5 (u1.trans u24)) (.cons (dT5 (u1.trans u24)) .nil)))
    · refine .lst (.inl (.inl upd_same)) ?_
      exact .cons (.str _) (.cons (.str _) (.cons (.tup (.inl (.inl ((u3.trans u4) _ _ upd_same))) .nil) (.cons (.tup (.inl (.inl (u4 _ _ upd_same))) .nil) .nil)))
    · rw [ev]
      exact fin _
end
end Ph

set_option maxHeartbeats 8000000
namespace Ph
open PySem PySem.Spec PyProof.Rows L2
theorem all_mk {l : PySem.W.OpenLaw} {w : World} {K : PySem.W.Frag} {h : Heap} {mg : Str → Option Value} {fa : Addr} (X : K.In h) (G : h.Ns mainGlobals mg) (hfa : mg "law" = some (.ref fa))
    {CHeapError : Addr} (aCHeapError : PySem.W.nsIn K mainGlobals "HeapError" = some (some (.ref CHeapError)))
    {CBadText : Addr} (aCBadText : PySem.W.nsIn K mainGlobals "BadText" = some (some (.ref CBadText)))
    (bxH : PySem.W.subIn K (.ref CHeapError) (.type "BaseException") = some true) (hdH : PySem.W.hasDictIn K CHeapError = true) (tyH : PySem.W.typeIn K (.ref CHeapError) = some (.type "type"))
    (zve : PySem.W.nsIn K mainGlobals "ValueError" = some none)
    (cgX : PySem.W.specialIn K (.builtin "object.__class__") "__get__" = some (some (.builtin "getset_descriptor.__get__"))) (ctX : PySem.W.takesIn K (.builtin "object.__class__") = some true)
    {nmBadText qBadText : Str} {NBadText : Addr} {bsBadText : List Value} {snBadText : List Str} {subBadText : List Value} {abBadText : Bool} {colBadText : Option Bool} {ddBadText : Option Addr} {m0BadText m1BadText m2BadText m3BadText m5BadText : Option Value}
    (xLBadText : K.lookup CBadText = some (excClassObj nmBadText qBadText CBadText NBadText bsBadText [.ref CHeapError, .type "ValueError", .type "Exception", .type "BaseException", .type "object"] true snBadText subBadText abBadText colBadText ddBadText m0BadText m1BadText m2BadText m3BadText m5BadText "ValueError.__new__"))
    (saBadText : PySem.W.findIn K (.ref CBadText) "__setattr__" = some (some (.builtin "object.__setattr__"))) (bxBadText : PySem.W.subIn K (.ref CBadText) (.type "BaseException") = some true) (tyBadText : PySem.W.typeIn K (.ref CBadText) = some (.type "type")) (kpBadText : PySem.W.keepIn K (.ref CBadText) = true)
    (gaBadText : PySem.W.findIn K (.ref CBadText) "__getattribute__" = some (some (.builtin "BaseException.__getattribute__"))) (ggBadText : PySem.W.findIn K (.ref CBadText) "__getattr__" = some none) (hdBadText : PySem.W.hasDictIn K CBadText = true) (caBadText : PySem.W.findIn K (.ref CBadText) "__class__" = some (some (.builtin "object.__class__"))) (moBadText : PySem.W.mroIn K CBadText (.type "object") = some true)
    (sHBadText : PySem.W.subIn K (.ref CBadText) (.ref CHeapError) = some true) (isBadText_ValueError : PySem.W.kitOne K (.ref CBadText) (.type "ValueError") = some true)
    (nfBadText_row : PySem.W.findIn K (.ref CBadText) "row" = some none)
    (isBadText_HeapError : PySem.W.kitOne K (.ref CBadText) (.ref CHeapError) = some true)
    (isBadText_BadText : PySem.W.kitOne K (.ref CBadText) (.ref CBadText) = some true)
    (ssBadText_BadText : PySem.W.subIn K (.ref CBadText) (.ref CBadText) = some true)
    {t_MOST_SIZES : Tok} (v_MOST_SIZES : PySem.W.nsIn K mainGlobals "MOST_SIZES" = some (some (.int 12 t_MOST_SIZES)))
    {t_LARGEST_SIZE : Tok} (v_LARGEST_SIZE : PySem.W.nsIn K mainGlobals "LARGEST_SIZE" = some (some (.int 1000000000 t_LARGEST_SIZE)))
    {t_DIGITS : Tok} (v_DIGITS : PySem.W.nsIn K mainGlobals "DIGITS" = some (some (.str "0123456789" t_DIGITS)))
    {t_MOST_DIGITS : Tok} (v_MOST_DIGITS : PySem.W.nsIn K mainGlobals "MOST_DIGITS" = some (some (.int 20 t_MOST_DIGITS)))
    {f1 : Addr} {od1 an1 : Option Addr} {sl1 : Array (Option Value)} {oc1 kV1 dc1 pm1 cd1 ct1 : Value} (a1 : PySem.W.nsIn K mainGlobals "show_chain" = some (some (.ref f1))) (l1 : K.lookup f1 = some ⟨oc1, od1, .func (PySem.W.fnOf "show_chain" "show_chain" (defArgs (topS 1)) (defBody (topS 1)) (defScope (topS 1)) .none kV1 dc1 pm1 an1 cd1 ct1), sl1⟩) (c1 : PySem.W.codeIn K cd1 "show_chain" = true) (k1 : PySem.W.keepIn K (.ref f1) = true)
    {f2 : Addr} {od2 an2 : Option Addr} {sl2 : Array (Option Value)} {oc2 kV2 dc2 pm2 cd2 ct2 : Value} (a2 : PySem.W.nsIn K mainGlobals "show_state" = some (some (.ref f2))) (l2 : K.lookup f2 = some ⟨oc2, od2, .func (PySem.W.fnOf "show_state" "show_state" (defArgs (topS 2)) (defBody (topS 2)) (defScope (topS 2)) .none kV2 dc2 pm2 an2 cd2 ct2), sl2⟩) (c2 : PySem.W.codeIn K cd2 "show_state" = true) (k2 : PySem.W.keepIn K (.ref f2) = true)
    {f3 : Addr} {od3 an3 : Option Addr} {sl3 : Array (Option Value)} {oc3 kV3 dc3 pm3 cd3 ct3 : Value} (a3 : PySem.W.nsIn K mainGlobals "show_history" = some (some (.ref f3))) (l3 : K.lookup f3 = some ⟨oc3, od3, .func (PySem.W.fnOf "show_history" "show_history" (defArgs (topS 3)) (defBody (topS 3)) (defScope (topS 3)) .none kV3 dc3 pm3 an3 cd3 ct3), sl3⟩) (c3 : PySem.W.codeIn K cd3 "show_history" = true) (k3 : PySem.W.keepIn K (.ref f3) = true)
    {f4 : Addr} {od4 an4 : Option Addr} {sl4 : Array (Option Value)} {oc4 kV4 dc4 pm4 cd4 ct4 : Value} (a4 : PySem.W.nsIn K mainGlobals "show_event" = some (some (.ref f4))) (l4 : K.lookup f4 = some ⟨oc4, od4, .func (PySem.W.fnOf "show_event" "show_event" (defArgs (topS 4)) (defBody (topS 4)) (defScope (topS 4)) .none kV4 dc4 pm4 an4 cd4 ct4), sl4⟩) (c4 : PySem.W.codeIn K cd4 "show_event" = true) (k4 : PySem.W.keepIn K (.ref f4) = true)
    {f5 : Addr} {od5 an5 : Option Addr} {sl5 : Array (Option Value)} {oc5 kV5 dc5 pm5 cd5 ct5 : Value} (a5 : PySem.W.findIn K (.ref CBadText) "__init__" = some (some (.ref f5))) (i5 : PySem.W.typeIn K (.ref f5) = some (.type "function")) (l5 : K.lookup f5 = some ⟨oc5, od5, .func (PySem.W.fnOf "__init__" "BadText.__init__" (defArgs (inClass (topS 7) 0)) (defBody (inClass (topS 7) 0)) (defScope (inClass (topS 7) 0)) .none kV5 dc5 pm5 an5 cd5 ct5), sl5⟩) (c5 : PySem.W.codeIn K cd5 "BadText.__init__" = true) (k5 : PySem.W.keepIn K (.ref f5) = true)
    {f6 : Addr} {od6 an6 : Option Addr} {sl6 : Array (Option Value)} {oc6 kV6 dc6 pm6 cd6 ct6 : Value} (a6 : PySem.W.nsIn K mainGlobals "is_integer" = some (some (.ref f6))) (l6 : K.lookup f6 = some ⟨oc6, od6, .func (PySem.W.fnOf "is_integer" "is_integer" (defArgs (topS 9)) (defBody (topS 9)) (defScope (topS 9)) .none kV6 dc6 pm6 an6 cd6 ct6), sl6⟩) (c6 : PySem.W.codeIn K cd6 "is_integer" = true) (k6 : PySem.W.keepIn K (.ref f6) = true)
    {f7 : Addr} {od7 an7 : Option Addr} {sl7 : Array (Option Value)} {oc7 kV7 dc7 pm7 cd7 ct7 : Value} (a7 : PySem.W.nsIn K mainGlobals "is_chain" = some (some (.ref f7))) (l7 : K.lookup f7 = some ⟨oc7, od7, .func (PySem.W.fnOf "is_chain" "is_chain" (defArgs (topS 13)) (defBody (topS 13)) (defScope (topS 13)) .none kV7 dc7 pm7 an7 cd7 ct7), sl7⟩) (c7 : PySem.W.codeIn K cd7 "is_chain" = true) (k7 : PySem.W.keepIn K (.ref f7) = true)
    {f8 : Addr} {od8 an8 : Option Addr} {sl8 : Array (Option Value)} {oc8 kV8 dc8 pm8 cd8 ct8 : Value} (a8 : PySem.W.nsIn K mainGlobals "may_follow" = some (some (.ref f8))) (l8 : K.lookup f8 = some ⟨oc8, od8, .func (PySem.W.fnOf "may_follow" "may_follow" (defArgs (topS 14)) (defBody (topS 14)) (defScope (topS 14)) .none kV8 dc8 pm8 an8 cd8 ct8), sl8⟩) (c8 : PySem.W.codeIn K cd8 "may_follow" = true) (k8 : PySem.W.keepIn K (.ref f8) = true)
    {f9 : Addr} {od9 an9 : Option Addr} {sl9 : Array (Option Value)} {oc9 kV9 dc9 pm9 cd9 ct9 : Value} (a9 : PySem.W.nsIn K mainGlobals "is_size" = some (some (.ref f9))) (l9 : K.lookup f9 = some ⟨oc9, od9, .func (PySem.W.fnOf "is_size" "is_size" (defArgs (topS 15)) (defBody (topS 15)) (defScope (topS 15)) .none kV9 dc9 pm9 an9 cd9 ct9), sl9⟩) (c9 : PySem.W.codeIn K cd9 "is_size" = true) (k9 : PySem.W.keepIn K (.ref f9) = true)
    {f10 : Addr} {od10 an10 : Option Addr} {sl10 : Array (Option Value)} {oc10 kV10 dc10 pm10 cd10 ct10 : Value} (a10 : PySem.W.nsIn K mainGlobals "is_state" = some (some (.ref f10))) (l10 : K.lookup f10 = some ⟨oc10, od10, .func (PySem.W.fnOf "is_state" "is_state" (defArgs (topS 17)) (defBody (topS 17)) (defScope (topS 17)) .none kV10 dc10 pm10 an10 cd10 ct10), sl10⟩) (c10 : PySem.W.codeIn K cd10 "is_state" = true) (k10 : PySem.W.keepIn K (.ref f10) = true)
    {f11 : Addr} {od11 an11 : Option Addr} {sl11 : Array (Option Value)} {oc11 kV11 dc11 pm11 cd11 ct11 : Value} (a11 : PySem.W.nsIn K mainGlobals "is_block" = some (some (.ref f11))) (l11 : K.lookup f11 = some ⟨oc11, od11, .func (PySem.W.fnOf "is_block" "is_block" (defArgs (topS 18)) (defBody (topS 18)) (defScope (topS 18)) .none kV11 dc11 pm11 an11 cd11 ct11), sl11⟩) (c11 : PySem.W.codeIn K cd11 "is_block" = true) (k11 : PySem.W.keepIn K (.ref f11) = true)
    {f12 : Addr} {od12 an12 : Option Addr} {sl12 : Array (Option Value)} {oc12 kV12 dc12 pm12 cd12 ct12 : Value} (a12 : PySem.W.nsIn K mainGlobals "read_chain" = some (some (.ref f12))) (l12 : K.lookup f12 = some ⟨oc12, od12, .func (PySem.W.fnOf "read_chain" "read_chain" (defArgs (topS 22)) (defBody (topS 22)) (defScope (topS 22)) .none kV12 dc12 pm12 an12 cd12 ct12), sl12⟩) (c12 : PySem.W.codeIn K cd12 "read_chain" = true) (k12 : PySem.W.keepIn K (.ref f12) = true)
    {f13 : Addr} {od13 an13 : Option Addr} {sl13 : Array (Option Value)} {oc13 kV13 dc13 pm13 cd13 ct13 : Value} (a13 : PySem.W.nsIn K mainGlobals "read_state" = some (some (.ref f13))) (l13 : K.lookup f13 = some ⟨oc13, od13, .func (PySem.W.fnOf "read_state" "read_state" (defArgs (topS 23)) (defBody (topS 23)) (defScope (topS 23)) .none kV13 dc13 pm13 an13 cd13 ct13), sl13⟩) (c13 : PySem.W.codeIn K cd13 "read_state" = true) (k13 : PySem.W.keepIn K (.ref f13) = true)
    {f14 : Addr} {od14 an14 : Option Addr} {sl14 : Array (Option Value)} {oc14 kV14 dc14 pm14 cd14 ct14 : Value} (a14 : PySem.W.nsIn K mainGlobals "read_history" = some (some (.ref f14))) (l14 : K.lookup f14 = some ⟨oc14, od14, .func (PySem.W.fnOf "read_history" "read_history" (defArgs (topS 24)) (defBody (topS 24)) (defScope (topS 24)) .none kV14 dc14 pm14 an14 cd14 ct14), sl14⟩) (c14 : PySem.W.codeIn K cd14 "read_history" = true) (k14 : PySem.W.keepIn K (.ref f14) = true)
    {f15 : Addr} {od15 an15 : Option Addr} {sl15 : Array (Option Value)} {oc15 kV15 dc15 pm15 cd15 ct15 : Value} (a15 : PySem.W.nsIn K mainGlobals "check_row" = some (some (.ref f15))) (l15 : K.lookup f15 = some ⟨oc15, od15, .func (PySem.W.fnOf "check_row" "check_row" (defArgs (topS 25)) (defBody (topS 25)) (defScope (topS 25)) .none kV15 dc15 pm15 an15 cd15 ct15), sl15⟩) (c15 : PySem.W.codeIn K cd15 "check_row" = true) (k15 : PySem.W.keepIn K (.ref f15) = true)
    {f16 : Addr} {od16 an16 : Option Addr} {sl16 : Array (Option Value)} {oc16 kV16 dc16 pm16 cd16 ct16 : Value} (a16 : PySem.W.nsIn K mainGlobals "lines_of" = some (some (.ref f16))) (l16 : K.lookup f16 = some ⟨oc16, od16, .func (PySem.W.fnOf "lines_of" "lines_of" (defArgs (topS 26)) (defBody (topS 26)) (defScope (topS 26)) .none kV16 dc16 pm16 an16 cd16 ct16), sl16⟩) (c16 : PySem.W.codeIn K cd16 "lines_of" = true) (k16 : PySem.W.keepIn K (.ref f16) = true)
    {f17 : Addr} {od17 an17 : Option Addr} {sl17 : Array (Option Value)} {oc17 kV17 dc17 pm17 cd17 ct17 : Value} (a17 : PySem.W.nsIn K mainGlobals "number_in" = some (some (.ref f17))) (l17 : K.lookup f17 = some ⟨oc17, od17, .func (PySem.W.fnOf "number_in" "number_in" (defArgs (topS 27)) (defBody (topS 27)) (defScope (topS 27)) .none kV17 dc17 pm17 an17 cd17 ct17), sl17⟩) (c17 : PySem.W.codeIn K cd17 "number_in" = true) (k17 : PySem.W.keepIn K (.ref f17) = true)
    {f18 : Addr} {od18 an18 : Option Addr} {sl18 : Array (Option Value)} {oc18 kV18 dc18 pm18 cd18 ct18 : Value} (a18 : PySem.W.nsIn K mainGlobals "numbers_in" = some (some (.ref f18))) (l18 : K.lookup f18 = some ⟨oc18, od18, .func (PySem.W.fnOf "numbers_in" "numbers_in" (defArgs (topS 28)) (defBody (topS 28)) (defScope (topS 28)) .none kV18 dc18 pm18 an18 cd18 ct18), sl18⟩) (c18 : PySem.W.codeIn K cd18 "numbers_in" = true) (k18 : PySem.W.keepIn K (.ref f18) = true)
    {f19 : Addr} {od19 an19 : Option Addr} {sl19 : Array (Option Value)} {oc19 kV19 dc19 pm19 cd19 ct19 : Value} (a19 : PySem.W.nsIn K mainGlobals "chain_in" = some (some (.ref f19))) (l19 : K.lookup f19 = some ⟨oc19, od19, .func (PySem.W.fnOf "chain_in" "chain_in" (defArgs (topS 29)) (defBody (topS 29)) (defScope (topS 29)) .none kV19 dc19 pm19 an19 cd19 ct19), sl19⟩) (c19 : PySem.W.codeIn K cd19 "chain_in" = true) (k19 : PySem.W.keepIn K (.ref f19) = true)
    {f20 : Addr} {od20 an20 : Option Addr} {sl20 : Array (Option Value)} {oc20 kV20 dc20 pm20 cd20 ct20 : Value} (a20 : PySem.W.nsIn K mainGlobals "state_in" = some (some (.ref f20))) (l20 : K.lookup f20 = some ⟨oc20, od20, .func (PySem.W.fnOf "state_in" "state_in" (defArgs (topS 30)) (defBody (topS 30)) (defScope (topS 30)) .none kV20 dc20 pm20 an20 cd20 ct20), sl20⟩) (c20 : PySem.W.codeIn K cd20 "state_in" = true) (k20 : PySem.W.keepIn K (.ref f20) = true)
    {f21 : Addr} {od21 an21 : Option Addr} {sl21 : Array (Option Value)} {oc21 kV21 dc21 pm21 cd21 ct21 : Value} (a21 : PySem.W.nsIn K mainGlobals "event_in" = some (some (.ref f21))) (l21 : K.lookup f21 = some ⟨oc21, od21, .func (PySem.W.fnOf "event_in" "event_in" (defArgs (topS 31)) (defBody (topS 31)) (defScope (topS 31)) .none kV21 dc21 pm21 an21 cd21 ct21), sl21⟩) (c21 : PySem.W.codeIn K cd21 "event_in" = true) (k21 : PySem.W.keepIn K (.ref f21) = true)
    {f22 : Addr} {od22 an22 : Option Addr} {sl22 : Array (Option Value)} {oc22 kV22 dc22 pm22 cd22 ct22 : Value} (a22 : PySem.W.nsIn K mainGlobals "_law_pot" = some (some (.ref f22))) (l22 : K.lookup f22 = some ⟨oc22, od22, .func (PySem.W.fnOf "_law_pot" "_law_pot" (defArgs (topS 33)) (defBody (topS 33)) (defScope (topS 33)) .none kV22 dc22 pm22 an22 cd22 ct22), sl22⟩) (c22 : PySem.W.codeIn K cd22 "_law_pot" = true) (k22 : PySem.W.keepIn K (.ref f22) = true)
    {f23 : Addr} {od23 an23 : Option Addr} {sl23 : Array (Option Value)} {oc23 kV23 dc23 pm23 cd23 ct23 : Value} (a23 : PySem.W.nsIn K mainGlobals "_law_draw" = some (some (.ref f23))) (l23 : K.lookup f23 = some ⟨oc23, od23, .func (PySem.W.fnOf "_law_draw" "_law_draw" (defArgs (topS 34)) (defBody (topS 34)) (defScope (topS 34)) .none kV23 dc23 pm23 an23 cd23 ct23), sl23⟩) (c23 : PySem.W.codeIn K cd23 "_law_draw" = true) (k23 : PySem.W.keepIn K (.ref f23) = true)
    {f24 : Addr} {od24 an24 : Option Addr} {sl24 : Array (Option Value)} {oc24 kV24 dc24 pm24 cd24 ct24 : Value} (a24 : PySem.W.nsIn K mainGlobals "_law_pick" = some (some (.ref f24))) (l24 : K.lookup f24 = some ⟨oc24, od24, .func (PySem.W.fnOf "_law_pick" "_law_pick" (defArgs (topS 35)) (defBody (topS 35)) (defScope (topS 35)) .none kV24 dc24 pm24 an24 cd24 ct24), sl24⟩) (c24 : PySem.W.codeIn K cd24 "_law_pick" = true) (k24 : PySem.W.keepIn K (.ref f24) = true)
    {f25 : Addr} {od25 an25 : Option Addr} {sl25 : Array (Option Value)} {oc25 kV25 dc25 pm25 cd25 ct25 : Value} (a25 : PySem.W.nsIn K mainGlobals "_law_small_chain" = some (some (.ref f25))) (l25 : K.lookup f25 = some ⟨oc25, od25, .func (PySem.W.fnOf "_law_small_chain" "_law_small_chain" (defArgs (topS 36)) (defBody (topS 36)) (defScope (topS 36)) .none kV25 dc25 pm25 an25 cd25 ct25), sl25⟩) (c25 : PySem.W.codeIn K cd25 "_law_small_chain" = true) (k25 : PySem.W.keepIn K (.ref f25) = true)
    {f26 : Addr} {od26 an26 : Option Addr} {sl26 : Array (Option Value)} {oc26 kV26 dc26 pm26 cd26 ct26 : Value} (a26 : PySem.W.nsIn K mainGlobals "_law_words_of" = some (some (.ref f26))) (l26 : K.lookup f26 = some ⟨oc26, od26, .func (PySem.W.fnOf "_law_words_of" "_law_words_of" (defArgs (topS 37)) (defBody (topS 37)) (defScope (topS 37)) .none kV26 dc26 pm26 an26 cd26 ct26), sl26⟩) (c26 : PySem.W.codeIn K cd26 "_law_words_of" = true) (k26 : PySem.W.keepIn K (.ref f26) = true)
    {f27 : Addr} {od27 an27 : Option Addr} {sl27 : Array (Option Value)} {oc27 kV27 dc27 pm27 cd27 ct27 : Value} (a27 : PySem.W.nsIn K mainGlobals "_law_places" = some (some (.ref f27))) (l27 : K.lookup f27 = some ⟨oc27, od27, .func (PySem.W.fnOf "_law_places" "_law_places" (defArgs (topS 38)) (defBody (topS 38)) (defScope (topS 38)) .none kV27 dc27 pm27 an27 cd27 ct27), sl27⟩) (c27 : PySem.W.codeIn K cd27 "_law_places" = true) (k27 : PySem.W.keepIn K (.ref f27) = true)
    {f28 : Addr} {od28 an28 : Option Addr} {sl28 : Array (Option Value)} {oc28 kV28 dc28 pm28 cd28 ct28 : Value} (a28 : PySem.W.nsIn K mainGlobals "_law_drawn_state" = some (some (.ref f28))) (l28 : K.lookup f28 = some ⟨oc28, od28, .func (PySem.W.fnOf "_law_drawn_state" "_law_drawn_state" (defArgs (topS 39)) (defBody (topS 39)) (defScope (topS 39)) .none kV28 dc28 pm28 an28 cd28 ct28), sl28⟩) (c28 : PySem.W.codeIn K cd28 "_law_drawn_state" = true) (k28 : PySem.W.keepIn K (.ref f28) = true)
    {f29 : Addr} {od29 an29 : Option Addr} {sl29 : Array (Option Value)} {oc29 kV29 dc29 pm29 cd29 ct29 : Value} (a29 : PySem.W.nsIn K mainGlobals "_law_row_of" = some (some (.ref f29))) (l29 : K.lookup f29 = some ⟨oc29, od29, .func (PySem.W.fnOf "_law_row_of" "_law_row_of" (defArgs (topS 40)) (defBody (topS 40)) (defScope (topS 40)) .none kV29 dc29 pm29 an29 cd29 ct29), sl29⟩) (c29 : PySem.W.codeIn K cd29 "_law_row_of" = true) (k29 : PySem.W.keepIn K (.ref f29) = true)
    {f30 : Addr} {od30 an30 : Option Addr} {sl30 : Array (Option Value)} {oc30 kV30 dc30 pm30 cd30 ct30 : Value} (a30 : PySem.W.nsIn K mainGlobals "_law_line_of" = some (some (.ref f30))) (l30 : K.lookup f30 = some ⟨oc30, od30, .func (PySem.W.fnOf "_law_line_of" "_law_line_of" (defArgs (topS 41)) (defBody (topS 41)) (defScope (topS 41)) .none kV30 dc30 pm30 an30 cd30 ct30), sl30⟩) (c30 : PySem.W.codeIn K cd30 "_law_line_of" = true) (k30 : PySem.W.keepIn K (.ref f30) = true)
    {f31 : Addr} {od31 an31 : Option Addr} {sl31 : Array (Option Value)} {oc31 kV31 dc31 pm31 cd31 ct31 : Value} (a31 : PySem.W.nsIn K mainGlobals "_law_many_blocks" = some (some (.ref f31))) (l31 : K.lookup f31 = some ⟨oc31, od31, .func (PySem.W.fnOf "_law_many_blocks" "_law_many_blocks" (defArgs (topS 42)) (defBody (topS 42)) (defScope (topS 42)) .none kV31 dc31 pm31 an31 cd31 ct31), sl31⟩) (c31 : PySem.W.codeIn K cd31 "_law_many_blocks" = true) (k31 : PySem.W.keepIn K (.ref f31) = true)
    {f32 : Addr} {od32 an32 : Option Addr} {sl32 : Array (Option Value)} {oc32 kV32 dc32 pm32 cd32 ct32 : Value} (a32 : PySem.W.nsIn K mainGlobals "_law_great_chain" = some (some (.ref f32))) (l32 : K.lookup f32 = some ⟨oc32, od32, .func (PySem.W.fnOf "_law_great_chain" "_law_great_chain" (defArgs (topS 43)) (defBody (topS 43)) (defScope (topS 43)) .none kV32 dc32 pm32 an32 cd32 ct32), sl32⟩) (c32 : PySem.W.codeIn K cd32 "_law_great_chain" = true) (k32 : PySem.W.keepIn K (.ref f32) = true)
    {f33 : Addr} {od33 an33 : Option Addr} {sl33 : Array (Option Value)} {oc33 kV33 dc33 pm33 cd33 ct33 : Value} (a33 : PySem.W.nsIn K mainGlobals "_law_events" = some (some (.ref f33))) (l33 : K.lookup f33 = some ⟨oc33, od33, .func (PySem.W.fnOf "_law_events" "_law_events" (defArgs (topS 44)) (defBody (topS 44)) (defScope (topS 44)) .none kV33 dc33 pm33 an33 cd33 ct33), sl33⟩) (c33 : PySem.W.codeIn K cd33 "_law_events" = true) (k33 : PySem.W.keepIn K (.ref f33) = true)
    {f34 : Addr} {od34 an34 : Option Addr} {sl34 : Array (Option Value)} {oc34 kV34 dc34 pm34 cd34 ct34 : Value} (a34 : PySem.W.nsIn K mainGlobals "_law_long_right" = some (some (.ref f34))) (l34 : K.lookup f34 = some ⟨oc34, od34, .func (PySem.W.fnOf "_law_long_right" "_law_long_right" (defArgs (topS 45)) (defBody (topS 45)) (defScope (topS 45)) .none kV34 dc34 pm34 an34 cd34 ct34), sl34⟩) (c34 : PySem.W.codeIn K cd34 "_law_long_right" = true) (k34 : PySem.W.keepIn K (.ref f34) = true)
    {f35 : Addr} {od35 an35 : Option Addr} {sl35 : Array (Option Value)} {oc35 kV35 dc35 pm35 cd35 ct35 : Value} (a35 : PySem.W.nsIn K mainGlobals "law" = some (some (.ref f35))) (l35 : K.lookup f35 = some ⟨oc35, od35, .func (PySem.W.fnOf "law" "law" (defArgs (topS 46)) (defBody (topS 46)) (defScope (topS 46)) .none kV35 dc35 pm35 an35 cd35 ct35), sl35⟩) (c35 : PySem.W.codeIn K cd35 "law" = true) (k35 : PySem.W.keepIn K (.ref f35) = true)
    (z1 : PySem.W.nsIn K mainGlobals "len" = some none)
    (z2 : PySem.W.nsIn K mainGlobals "abs" = some none)
    (z3 : PySem.W.nsIn K mainGlobals "int" = some none)
    (z4 : PySem.W.nsIn K mainGlobals "range" = some none)
    (z5 : PySem.W.nsIn K mainGlobals "tuple" = some none)
    (z6 : PySem.W.nsIn K mainGlobals "max" = some none)
    (z7 : PySem.W.nsIn K mainGlobals "min" = some none)
    (z8 : PySem.W.nsIn K mainGlobals "repr" = some none)
    (z9 : PySem.W.nsIn K mainGlobals "isinstance" = some none)
    (z10 : PySem.W.nsIn K mainGlobals "bool" = some none)
    (z11 : PySem.W.nsIn K mainGlobals "all" = some none)
    (z12 : PySem.W.nsIn K mainGlobals "any" = some none)
    (z13 : PySem.W.nsIn K mainGlobals "list" = some none)
    (z14 : PySem.W.nsIn K mainGlobals "dict" = some none)
    (z15 : PySem.W.nsIn K mainGlobals "sorted" = some none)
    (z16 : PySem.W.nsIn K mainGlobals "set" = some none)
    (z17 : PySem.W.nsIn K mainGlobals "sum" = some none)
    (z18 : PySem.W.nsIn K mainGlobals "zip" = some none)
    (z19 : PySem.W.nsIn K mainGlobals "enumerate" = some none)
    (z20 : PySem.W.nsIn K mainGlobals "reversed" = some none)
    (z21 : PySem.W.nsIn K mainGlobals "str" = some none)
    (zd : PySem.W.nsIn K cStatics "sys.int_max_str_digits" = some none) :
    ∃ fd : FuncData, (∀ (s : Shared) (v : Value), BindsTo s fd ⟨[v], []⟩ [("_law_script", v)]) ∧ ∀ base : Heap, K.In base → base.Ns mainGlobals mg → FnG l.prog w K mg base CX0 (0 + 1 + 1 + 1 + 1 + 1 + 1) fa fd ["_law_script"] (spLaw K) := by
  have e := hfa.symm.trans (PySem.W.mg_of X G a35)
  cases e
  have F1 := fun_mk (x := "show_chain") (qual := "show_chain") (st := (topS 1)) l1 c1 k1
  have F2 := fun_mk (x := "show_state") (qual := "show_state") (st := (topS 2)) l2 c2 k2
  have F3 := fun_mk (x := "show_history") (qual := "show_history") (st := (topS 3)) l3 c3 k3
  have F4 := fun_mk (x := "show_event") (qual := "show_event") (st := (topS 4)) l4 c4 k4
  have F5 := fun_mk (x := "__init__") (qual := "BadText.__init__") (st := (inClass (topS 7) 0)) l5 c5 k5
  have F6 := fun_mk (x := "is_integer") (qual := "is_integer") (st := (topS 9)) l6 c6 k6
  have F7 := fun_mk (x := "is_chain") (qual := "is_chain") (st := (topS 13)) l7 c7 k7
  have F8 := fun_mk (x := "may_follow") (qual := "may_follow") (st := (topS 14)) l8 c8 k8
  have F9 := fun_mk (x := "is_size") (qual := "is_size") (st := (topS 15)) l9 c9 k9
  have F10 := fun_mk (x := "is_state") (qual := "is_state") (st := (topS 17)) l10 c10 k10
  have F11 := fun_mk (x := "is_block") (qual := "is_block") (st := (topS 18)) l11 c11 k11
  have F12 := fun_mk (x := "read_chain") (qual := "read_chain") (st := (topS 22)) l12 c12 k12
  have F13 := fun_mk (x := "read_state") (qual := "read_state") (st := (topS 23)) l13 c13 k13
  have F14 := fun_mk (x := "read_history") (qual := "read_history") (st := (topS 24)) l14 c14 k14
  have F15 := fun_mk (x := "check_row") (qual := "check_row") (st := (topS 25)) l15 c15 k15
  have F16 := fun_mk (x := "lines_of") (qual := "lines_of") (st := (topS 26)) l16 c16 k16
  have F17 := fun_mk (x := "number_in") (qual := "number_in") (st := (topS 27)) l17 c17 k17
  have F18 := fun_mk (x := "numbers_in") (qual := "numbers_in") (st := (topS 28)) l18 c18 k18
  have F19 := fun_mk (x := "chain_in") (qual := "chain_in") (st := (topS 29)) l19 c19 k19
  have F20 := fun_mk (x := "state_in") (qual := "state_in") (st := (topS 30)) l20 c20 k20
  have F21 := fun_mk (x := "event_in") (qual := "event_in") (st := (topS 31)) l21 c21 k21
  have F22 := fun_mk (x := "_law_pot") (qual := "_law_pot") (st := (topS 33)) l22 c22 k22
  have F23 := fun_mk (x := "_law_draw") (qual := "_law_draw") (st := (topS 34)) l23 c23 k23
  have F24 := fun_mk (x := "_law_pick") (qual := "_law_pick") (st := (topS 35)) l24 c24 k24
  have F25 := fun_mk (x := "_law_small_chain") (qual := "_law_small_chain") (st := (topS 36)) l25 c25 k25
  have F26 := fun_mk (x := "_law_words_of") (qual := "_law_words_of") (st := (topS 37)) l26 c26 k26
  have F27 := fun_mk (x := "_law_places") (qual := "_law_places") (st := (topS 38)) l27 c27 k27
  have F28 := fun_mk (x := "_law_drawn_state") (qual := "_law_drawn_state") (st := (topS 39)) l28 c28 k28
  have F29 := fun_mk (x := "_law_row_of") (qual := "_law_row_of") (st := (topS 40)) l29 c29 k29
  have F30 := fun_mk (x := "_law_line_of") (qual := "_law_line_of") (st := (topS 41)) l30 c30 k30
  have F31 := fun_mk (x := "_law_many_blocks") (qual := "_law_many_blocks") (st := (topS 42)) l31 c31 k31
  have F32 := fun_mk (x := "_law_great_chain") (qual := "_law_great_chain") (st := (topS 43)) l32 c32 k32
  have F33 := fun_mk (x := "_law_events") (qual := "_law_events") (st := (topS 44)) l33 c33 k33
  have F34 := fun_mk (x := "_law_long_right") (qual := "_law_long_right") (st := (topS 45)) l34 c34 k34
  have F35 := fun_mk (x := "law") (qual := "law") (st := (topS 46)) l35 c35 k35
  let Z : Fns K mg := {
    N := ⟨PySem.W.mg_none_of X G z1, PySem.W.mg_none_of X G z2, PySem.W.mg_none_of X G z3, PySem.W.mg_none_of X G z4, PySem.W.mg_none_of X G z5, PySem.W.mg_none_of X G z6, PySem.W.mg_none_of X G z7, PySem.W.mg_none_of X G z8, PySem.W.mg_none_of X G z9, PySem.W.mg_none_of X G z10, PySem.W.mg_none_of X G z11, PySem.W.mg_none_of X G z12, PySem.W.mg_none_of X G z13, PySem.W.mg_none_of X G z14, PySem.W.mg_none_of X G z15, PySem.W.mg_none_of X G z16, PySem.W.mg_none_of X G z17, PySem.W.mg_none_of X G z18, PySem.W.mg_none_of X G z19, PySem.W.mg_none_of X G z20, PySem.W.mg_none_of X G z21, zd⟩,
    CHeapError := CHeapError,
    gcHeapError := PySem.W.mg_of X G aCHeapError,
    CBadText := CBadText,
    gcBadText := PySem.W.mg_of X G aCBadText,
    nve := PySem.W.mg_none_of X G zve,
    exBadText_BadText := PySem.W.exm_ref bxBadText hdBadText tyBadText ssBadText_BadText,
    oxBadText := ⟨⟨nmBadText, qBadText, NBadText, bsBadText, _, snBadText, subBadText, abBadText, colBadText, ddBadText, m0BadText, m1BadText, m2BadText, m3BadText, m5BadText, xLBadText, rfl⟩, saBadText, bxBadText, tyBadText, kpBadText⟩,
    ecBadText := ⟨gaBadText, ggBadText, bxBadText, hdBadText, caBadText, cgX, ctX, moBadText⟩,
    xfBadText := ⟨gaBadText, ggBadText, bxBadText, hdBadText⟩,
    exBadText := PySem.W.exm_ref bxH hdH tyH sHBadText,
    isBadText_ValueError := isBadText_ValueError,
    nfBadText_row := nfBadText_row,
    isBadText_HeapError := isBadText_HeapError,
    isBadText_BadText := isBadText_BadText,
    k_MOST_SIZES := ⟨t_MOST_SIZES, PySem.W.mg_of X G v_MOST_SIZES⟩,
    k_LARGEST_SIZE := ⟨t_LARGEST_SIZE, PySem.W.mg_of X G v_LARGEST_SIZE⟩,
    k_DIGITS := ⟨t_DIGITS, PySem.W.mg_of X G v_DIGITS⟩,
    k_MOST_DIGITS := ⟨t_MOST_DIGITS, PySem.W.mg_of X G v_MOST_DIGITS⟩,
    fHc := f1, fdHc := _, FHc := F1, bHc := (F1.binds (ps := ["chain"]) fun _ _ _ _ _ _ us hl => match us, hl with | [_], _ => rfl), gHc := PySem.W.mg_of X G a1,
    fHs := f2, fdHs := _, FHs := F2, bHs := (F2.binds (ps := ["state"]) fun _ _ _ _ _ _ us hl => match us, hl with | [_], _ => rfl), gHs := PySem.W.mg_of X G a2,
    fHh := f3, fdHh := _, FHh := F3, bHh := (F3.binds (ps := ["history"]) fun _ _ _ _ _ _ us hl => match us, hl with | [_], _ => rfl), gHh := PySem.W.mg_of X G a3,
    fHe := f4, fdHe := _, FHe := F4, bHe := (F4.binds (ps := ["event"]) fun _ _ _ _ _ _ us hl => match us, hl with | [_], _ => rfl), gHe := PySem.W.mg_of X G a4,
    fBx := f5, fdBx := _, FBx := F5, bBx := (F5.binds (ps := ["self", "row"]) fun _ _ _ _ _ _ us hl => match us, hl with | [_, _], _ => rfl), iBx := a5, tBx := i5,
    fI := f6, fdI := _, FI := F6, bI := (F6.binds (ps := ["value"]) fun _ _ _ _ _ _ us hl => match us, hl with | [_], _ => rfl), gI := PySem.W.mg_of X G a6,
    fCi := f7, fdCi := _, FCi := F7, bCi := (F7.binds (ps := ["value"]) fun _ _ _ _ _ _ us hl => match us, hl with | [_], _ => rfl), gCi := PySem.W.mg_of X G a7,
    fMf := f8, fdMf := _, FMf := F8, bMf := (F8.binds (ps := ["larger", "size"]) fun _ _ _ _ _ _ us hl => match us, hl with | [_, _], _ => rfl), gMf := PySem.W.mg_of X G a8,
    fZ := f9, fdZ := _, FZ := F9, bZ := (F9.binds (ps := ["chain", "value"]) fun _ _ _ _ _ _ us hl => match us, hl with | [_, _], _ => rfl), gZ := PySem.W.mg_of X G a9,
    fIs := f10, fdIs := _, FIs := F10, bIs := (F10.binds (ps := ["chain", "pages", "value"]) fun _ _ _ _ _ _ us hl => match us, hl with | [_, _, _], _ => rfl), gIs := PySem.W.mg_of X G a10,
    fIb := f11, fdIb := _, FIb := F11, bIb := (F11.binds (ps := ["chain", "value"]) fun _ _ _ _ _ _ us hl => match us, hl with | [_, _], _ => rfl), gIb := PySem.W.mg_of X G a11,
    fRc := f12, fdRc := _, FRc := F12, bRc := (F12.binds (ps := ["text"]) fun _ _ _ _ _ _ us hl => match us, hl with | [_], _ => rfl), gRc := PySem.W.mg_of X G a12,
    fRs := f13, fdRs := _, FRs := F13, bRs := (F13.binds (ps := ["chain", "pages", "text"]) fun _ _ _ _ _ _ us hl => match us, hl with | [_, _, _], _ => rfl), gRs := PySem.W.mg_of X G a13,
    fRh := f14, fdRh := _, FRh := F14, bRh := (F14.binds (ps := ["chain", "text"]) fun _ _ _ _ _ _ us hl => match us, hl with | [_, _], _ => rfl), gRh := PySem.W.mg_of X G a14,
    fCr := f15, fdCr := _, FCr := F15, bCr := (F15.binds (ps := ["row", "right"]) fun _ _ _ _ _ _ us hl => match us, hl with | [_, _], _ => rfl), gCr := PySem.W.mg_of X G a15,
    fLi := f16, fdLi := _, FLi := F16, bLi := (F16.binds (ps := ["text"]) fun _ _ _ _ _ _ us hl => match us, hl with | [_], _ => rfl), gLi := PySem.W.mg_of X G a16,
    fNi := f17, fdNi := _, FNi := F17, bNi := (F17.binds (ps := ["text"]) fun _ _ _ _ _ _ us hl => match us, hl with | [_], _ => rfl), gNi := PySem.W.mg_of X G a17,
    fNs := f18, fdNs := _, FNs := F18, bNs := (F18.binds (ps := ["text", "sign"]) fun _ _ _ _ _ _ us hl => match us, hl with | [_, _], _ => rfl), gNs := PySem.W.mg_of X G a18,
    fCn := f19, fdCn := _, FCn := F19, bCn := (F19.binds (ps := ["line"]) fun _ _ _ _ _ _ us hl => match us, hl with | [_], _ => rfl), gCn := PySem.W.mg_of X G a19,
    fSi := f20, fdSi := _, FSi := F20, bSi := (F20.binds (ps := ["line"]) fun _ _ _ _ _ _ us hl => match us, hl with | [_], _ => rfl), gSi := PySem.W.mg_of X G a20,
    fEi := f21, fdEi := _, FEi := F21, bEi := (F21.binds (ps := ["chain", "line"]) fun _ _ _ _ _ _ us hl => match us, hl with | [_, _], _ => rfl), gEi := PySem.W.mg_of X G a21,
    fDw := f22, fdDw := _, FDw := F22, bDw := (F22.binds (ps := ["_law_script", "_law_index"]) fun _ _ _ _ _ _ us hl => match us, hl with | [_, _], _ => rfl), gDw := PySem.W.mg_of X G a22,
    fNx := f23, fdNx := _, FNx := F23, bNx := (F23.binds (ps := ["_law_pot_here", "_law_count"]) fun _ _ _ _ _ _ us hl => match us, hl with | [_, _], _ => rfl), gNx := PySem.W.mg_of X G a23,
    fPk := f24, fdPk := _, FPk := F24, bPk := (F24.binds (ps := ["_law_pot_here", "_law_some"]) fun _ _ _ _ _ _ us hl => match us, hl with | [_, _], _ => rfl), gPk := PySem.W.mg_of X G a24,
    fSc := f25, fdSc := _, FSc := F25, bSc := (F25.binds (ps := ["_law_pot_here"]) fun _ _ _ _ _ _ us hl => match us, hl with | [_], _ => rfl), gSc := PySem.W.mg_of X G a25,
    fWo := f26, fdWo := _, FWo := F26, bWo := (F26.binds (ps := ["_law_blocks"]) fun _ _ _ _ _ _ us hl => match us, hl with | [_], _ => rfl), gWo := PySem.W.mg_of X G a26,
    fLp := f27, fdLp := _, FLp := F27, bLp := (F27.binds (ps := ["_law_sizes", "_law_heap_pages", "_law_blocks", "_law_many"]) fun _ _ _ _ _ _ us hl => match us, hl with | [_, _, _, _], _ => rfl), gLp := PySem.W.mg_of X G a27,
    fDs := f28, fdDs := _, FDs := F28, bDs := (F28.binds (ps := ["_law_pot_here", "_law_sizes", "_law_heap_pages", "_law_most"]) fun _ _ _ _ _ _ us hl => match us, hl with | [_, _, _, _], _ => rfl), gDs := PySem.W.mg_of X G a28,
    fRo := f29, fdRo := _, FRo := F29, bRo := (F29.binds (ps := ["_law_blocks"]) fun _ _ _ _ _ _ us hl => match us, hl with | [_], _ => rfl), gRo := PySem.W.mg_of X G a29,
    fLo := f30, fdLo := _, FLo := F30, bLo := (F30.binds (ps := ["_law_deed"]) fun _ _ _ _ _ _ us hl => match us, hl with | [_], _ => rfl), gLo := PySem.W.mg_of X G a30,
    fMb := f31, fdMb := _, FMb := F31, bMb := (F31.binds (ps := ["_law_pot_here"]) fun _ _ _ _ _ _ us hl => match us, hl with | [_], _ => rfl), gMb := PySem.W.mg_of X G a31,
    fGc := f32, fdGc := _, FGc := F32, bGc := (F32.binds (ps := ["_law_pot_here"]) fun _ _ _ _ _ _ us hl => match us, hl with | [_], _ => rfl), gGc := PySem.W.mg_of X G a32,
    fEg := f33, fdEg := _, FEg := F33, bEg := (F33.binds (ps := ["_law_pot_here", "_law_sizes"]) fun _ _ _ _ _ _ us hl => match us, hl with | [_, _], _ => rfl), gEg := PySem.W.mg_of X G a33,
    fLr := f34, fdLr := _, FLr := F34, bLr := (F34.binds (ps := ["_law_pot_here"]) fun _ _ _ _ _ _ us hl => match us, hl with | [_], _ => rfl), gLr := PySem.W.mg_of X G a34,
    fLaw := fa, fdLaw := _, FLaw := F35, bLaw := (F35.binds (ps := ["_law_script"]) fun _ _ _ _ _ _ us hl => match us, hl with | [_], _ => rfl), gLaw := PySem.W.mg_of X G a35 }
  exact ⟨PySem.W.fnOf "law" "law" (defArgs (topS 46)) (defBody (topS 46)) (defScope (topS 46)) .none kV35 dc35 pm35 an35 cd35 ct35, fun s v => .of_eq rfl, fun base _ _ => ok_Law (k := 0) Z⟩
end Ph
open PySem PySem.W PyProof.Rows
set_option maxHeartbeats 0 in
theorem PySem.Challenge.cw_pinnedheap_k70_texts_written_and_read_holds : PySem.Challenge.rw_pinnedheap_k70_texts_written_and_read.Holds := by
  w_on; o_law; k_head; (case hw => w_witness2)
  k_fill
  refine Ph.walkG (l := PySem.Challenge.rw_pinnedheap_k70_texts_written_and_read) (n := 63) (k := (0 + 1 + 1 + 1 + 1 + 1 + 1)) (x := "_law_script") (sp := fun w => Ph.spLaw _) rfl (by decide) rfl ⟨rfl, by decide, by decide⟩ (fun w h Y => by first | exact PySem.W.kIn_of Y | exact PySem.W.km_in_of Y) ?F (fun _ _ a ns hl hS => ⟨a, ns, rfl, hS, hl, fun _ => rfl⟩)
  case F =>
    intro w mg fa h KX G hmg
    refine' Ph.all_mk KX G hmg ?aCHeapError ?aCBadText ?bxH ?hdH ?tyH ?zve ?cgX ?ctX ?xLBadText ?saBadText ?bxBadText ?tyBadText ?kpBadText ?gaBadText ?ggBadText ?hdBadText ?caBadText ?moBadText ?sHBadText ?isBadText_ValueError ?nfBadText_row ?isBadText_HeapError ?isBadText_BadText ?ssBadText_BadText ?v_MOST_SIZES ?v_LARGEST_SIZE ?v_DIGITS ?v_MOST_DIGITS ?a1 ?l1 ?c1 ?k1 ?a2 ?l2 ?c2 ?k2 ?a3 ?l3 ?c3 ?k3 ?a4 ?l4 ?c4 ?k4 ?a5 ?i5 ?l5 ?c5 ?k5 ?a6 ?l6 ?c6 ?k6 ?a7 ?l7 ?c7 ?k7 ?a8 ?l8 ?c8 ?k8 ?a9 ?l9 ?c9 ?k9 ?a10 ?l10 ?c10 ?k10 ?a11 ?l11 ?c11 ?k11 ?a12 ?l12 ?c12 ?k12 ?a13 ?l13 ?c13 ?k13 ?a14 ?l14 ?c14 ?k14 ?a15 ?l15 ?c15 ?k15 ?a16 ?l16 ?c16 ?k16 ?a17 ?l17 ?c17 ?k17 ?a18 ?l18 ?c18 ?k18 ?a19 ?l19 ?c19 ?k19 ?a20 ?l20 ?c20 ?k20 ?a21 ?l21 ?c21 ?k21 ?a22 ?l22 ?c22 ?k22 ?a23 ?l23 ?c23 ?k23 ?a24 ?l24 ?c24 ?k24 ?a25 ?l25 ?c25 ?k25 ?a26 ?l26 ?c26 ?k26 ?a27 ?l27 ?c27 ?k27 ?a28 ?l28 ?c28 ?k28 ?a29 ?l29 ?c29 ?k29 ?a30 ?l30 ?c30 ?k30 ?a31 ?l31 ?c31 ?k31 ?a32 ?l32 ?c32 ?k32 ?a33 ?l33 ?c33 ?k33 ?a34 ?l34 ?c34 ?k34 ?a35 ?l35 ?c35 ?k35 ?z1 ?z2 ?z3 ?z4 ?z5 ?z6 ?z7 ?z8 ?z9 ?z10 ?z11 ?z12 ?z13 ?z14 ?z15 ?z16 ?z17 ?z18 ?z19 ?z20 ?z21 ?zd
    (case aCHeapError => first | k_is | kit_is | rfl | decide +kernel); (case aCBadText => first | k_is | kit_is | rfl | decide +kernel); (case bxH => first | k_is | kit_is | rfl | decide +kernel); (case hdH => first | k_is | kit_is | rfl | decide +kernel); (case tyH => first | k_is | kit_is | rfl | decide +kernel); (case zve => first | k_is | kit_is | rfl | decide +kernel); (case cgX => first | k_is | kit_is | rfl | decide +kernel); (case ctX => first | k_is | kit_is | rfl | decide +kernel); (case xLBadText => first | k_is | kit_is | rfl | decide +kernel); (case saBadText => first | k_is | kit_is | rfl | decide +kernel); (case bxBadText => first | k_is | kit_is | rfl | decide +kernel); (case tyBadText => first | k_is | kit_is | rfl | decide +kernel); (case kpBadText => first | k_is | kit_is | rfl | decide +kernel); (case gaBadText => first | k_is | kit_is | rfl | decide +kernel); (case ggBadText => first | k_is | kit_is | rfl | decide +kernel); (case hdBadText => first | k_is | kit_is | rfl | decide +kernel); (case caBadText => first | k_is | kit_is | rfl | decide +kernel); (case moBadText => first | k_is | kit_is | rfl | decide +kernel); (case sHBadText => first | k_is | kit_is | rfl | decide +kernel); (case isBadText_ValueError => first | k_is | kit_is | rfl | decide +kernel); (case nfBadText_row => first | k_is | kit_is | rfl | decide +kernel); (case isBadText_HeapError => first | k_is | kit_is | rfl | decide +kernel); (case isBadText_BadText => first | k_is | kit_is | rfl | decide +kernel); (case ssBadText_BadText => first | k_is | kit_is | rfl | decide +kernel); (case v_MOST_SIZES => first | k_is | kit_is | rfl | decide +kernel); (case v_LARGEST_SIZE => first | k_is | kit_is | rfl | decide +kernel); (case v_DIGITS => first | k_is | kit_is | rfl | decide +kernel); (case v_MOST_DIGITS => first | k_is | kit_is | rfl | decide +kernel); (case a1 => first | k_is | kit_is | rfl | decide +kernel); (case l1 => first | k_is | kit_is | rfl | decide +kernel); (case c1 => first | k_is | kit_is | rfl | decide +kernel); (case k1 => first | k_is | kit_is | rfl | decide +kernel); (case a2 => first | k_is | kit_is | rfl | decide +kernel); (case l2 => first | k_is | kit_is | rfl | decide +kernel); (case c2 => first | k_is | kit_is | rfl | decide +kernel); (case k2 => first | k_is | kit_is | rfl | decide +kernel); (case a3 => first | k_is | kit_is | rfl | decide +kernel); (case l3 => first | k_is | kit_is | rfl | decide +kernel); (case c3 => first | k_is | kit_is | rfl | decide +kernel); (case k3 => first | k_is | kit_is | rfl | decide +kernel); (case a4 => first | k_is | kit_is | rfl | decide +kernel); (case l4 => first | k_is | kit_is | rfl | decide +kernel); (case c4 => first | k_is | kit_is | rfl | decide +kernel); (case k4 => first | k_is | kit_is | rfl | decide +kernel); (case a5 => first | k_is | kit_is | rfl | decide +kernel); (case i5 => first | k_is | kit_is | rfl | decide +kernel); (case l5 => first | k_is | kit_is | rfl | decide +kernel); (case c5 => first | k_is | kit_is | rfl | decide +kernel); (case k5 => first | k_is | kit_is | rfl | decide +kernel); (case a6 => first | k_is | kit_is | rfl | decide +kernel); (case l6 => first | k_is | kit_is | rfl | decide +kernel); (case c6 => first | k_is | kit_is | rfl | decide +kernel); (case k6 => first | k_is | kit_is | rfl | decide +kernel); (case a7 => first | k_is | kit_is | rfl | decide +kernel); (case l7 => first | k_is | kit_is | rfl | decide +kernel); (case c7 => first | k_is | kit_is | rfl | decide +kernel); (case k7 => first | k_is | kit_is | rfl | decide +kernel); (case a8 => first | k_is | kit_is | rfl | decide +kernel); (case l8 => first | k_is | kit_is | rfl | decide +kernel); (case c8 => first | k_is | kit_is | rfl | decide +kernel); (case k8 => first | k_is | kit_is | rfl | decide +kernel); (case a9 => first | k_is | kit_is | rfl | decide +kernel); (case l9 => first | k_is | kit_is | rfl | decide +kernel); (case c9 => first | k_is | kit_is | rfl | decide +kernel); (case k9 => first | k_is | kit_is | rfl | decide +kernel); (case a10 => first | k_is | kit_is | rfl | decide +kernel); (case l10 => first | k_is | kit_is | rfl | decide +kernel); (case c10 => first | k_is | kit_is | rfl | decide +kernel); (case k10 => first | k_is | kit_is | rfl | decide +kernel); (case a11 => first | k_is | kit_is | rfl | decide +kernel); (case l11 => first | k_is | kit_is | rfl | decide +kernel); (case c11 => first | k_is | kit_is | rfl | decide +kernel); (case k11 => first | k_is | kit_is | rfl | decide +kernel); (case a12 => first | k_is | kit_is | rfl | decide +kernel); (case l12 => first | k_is | kit_is | rfl | decide +kernel); (case c12 => first | k_is | kit_is | rfl | decide +kernel); (case k12 => first | k_is | kit_is | rfl | decide +kernel); (case a13 => first | k_is | kit_is | rfl | decide +kernel); (case l13 => first | k_is | kit_is | rfl | decide +kernel); (case c13 => first | k_is | kit_is | rfl | decide +kernel); (case k13 => first | k_is | kit_is | rfl | decide +kernel); (case a14 => first | k_is | kit_is | rfl | decide +kernel); (case l14 => first | k_is | kit_is | rfl | decide +kernel); (case c14 => first | k_is | kit_is | rfl | decide +kernel); (case k14 => first | k_is | kit_is | rfl | decide +kernel); (case a15 => first | k_is | kit_is | rfl | decide +kernel); (case l15 => first | k_is | kit_is | rfl | decide +kernel); (case c15 => first | k_is | kit_is | rfl | decide +kernel); (case k15 => first | k_is | kit_is | rfl | decide +kernel); (case a16 => first | k_is | kit_is | rfl | decide +kernel); (case l16 => first | k_is | kit_is | rfl | decide +kernel); (case c16 => first | k_is | kit_is | rfl | decide +kernel); (case k16 => first | k_is | kit_is | rfl | decide +kernel); (case a17 => first | k_is | kit_is | rfl | decide +kernel); (case l17 => first | k_is | kit_is | rfl | decide +kernel); (case c17 => first | k_is | kit_is | rfl | decide +kernel); (case k17 => first | k_is | kit_is | rfl | decide +kernel); (case a18 => first | k_is | kit_is | rfl | decide +kernel); (case l18 => first | k_is | kit_is | rfl | decide +kernel); (case c18 => first | k_is | kit_is | rfl | decide +kernel); (case k18 => first | k_is | kit_is | rfl | decide +kernel); (case a19 => first | k_is | kit_is | rfl | decide +kernel); (case l19 => first | k_is | kit_is | rfl | decide +kernel); (case c19 => first | k_is | kit_is | rfl | decide +kernel); (case k19 => first | k_is | kit_is | rfl | decide +kernel); (case a20 => first | k_is | kit_is | rfl | decide +kernel); (case l20 => first | k_is | kit_is | rfl | decide +kernel); (case c20 => first | k_is | kit_is | rfl | decide +kernel); (case k20 => first | k_is | kit_is | rfl | decide +kernel); (case a21 => first | k_is | kit_is | rfl | decide +kernel); (case l21 => first | k_is | kit_is | rfl | decide +kernel); (case c21 => first | k_is | kit_is | rfl | decide +kernel); (case k21 => first | k_is | kit_is | rfl | decide +kernel); (case a22 => first | k_is | kit_is | rfl | decide +kernel); (case l22 => first | k_is | kit_is | rfl | decide +kernel); (case c22 => first | k_is | kit_is | rfl | decide +kernel); (case k22 => first | k_is | kit_is | rfl | decide +kernel); (case a23 => first | k_is | kit_is | rfl | decide +kernel); (case l23 => first | k_is | kit_is | rfl | decide +kernel); (case c23 => first | k_is | kit_is | rfl | decide +kernel); (case k23 => first | k_is | kit_is | rfl | decide +kernel); (case a24 => first | k_is | kit_is | rfl | decide +kernel); (case l24 => first | k_is | kit_is | rfl | decide +kernel); (case c24 => first | k_is | kit_is | rfl | decide +kernel); (case k24 => first | k_is | kit_is | rfl | decide +kernel); (case a25 => first | k_is | kit_is | rfl | decide +kernel); (case l25 => first | k_is | kit_is | rfl | decide +kernel); (case c25 => first | k_is | kit_is | rfl | decide +kernel); (case k25 => first | k_is | kit_is | rfl | decide +kernel); (case a26 => first | k_is | kit_is | rfl | decide +kernel); (case l26 => first | k_is | kit_is | rfl | decide +kernel); (case c26 => first | k_is | kit_is | rfl | decide +kernel); (case k26 => first | k_is | kit_is | rfl | decide +kernel); (case a27 => first | k_is | kit_is | rfl | decide +kernel); (case l27 => first | k_is | kit_is | rfl | decide +kernel); (case c27 => first | k_is | kit_is | rfl | decide +kernel); (case k27 => first | k_is | kit_is | rfl | decide +kernel); (case a28 => first | k_is | kit_is | rfl | decide +kernel); (case l28 => first | k_is | kit_is | rfl | decide +kernel); (case c28 => first | k_is | kit_is | rfl | decide +kernel); (case k28 => first | k_is | kit_is | rfl | decide +kernel); (case a29 => first | k_is | kit_is | rfl | decide +kernel); (case l29 => first | k_is | kit_is | rfl | decide +kernel); (case c29 => first | k_is | kit_is | rfl | decide +kernel); (case k29 => first | k_is | kit_is | rfl | decide +kernel); (case a30 => first | k_is | kit_is | rfl | decide +kernel); (case l30 => first | k_is | kit_is | rfl | decide +kernel); (case c30 => first | k_is | kit_is | rfl | decide +kernel); (case k30 => first | k_is | kit_is | rfl | decide +kernel); (case a31 => first | k_is | kit_is | rfl | decide +kernel); (case l31 => first | k_is | kit_is | rfl | decide +kernel); (case c31 => first | k_is | kit_is | rfl | decide +kernel); (case k31 => first | k_is | kit_is | rfl | decide +kernel); (case a32 => first | k_is | kit_is | rfl | decide +kernel); (case l32 => first | k_is | kit_is | rfl | decide +kernel); (case c32 => first | k_is | kit_is | rfl | decide +kernel); (case k32 => first | k_is | kit_is | rfl | decide +kernel); (case a33 => first | k_is | kit_is | rfl | decide +kernel); (case l33 => first | k_is | kit_is | rfl | decide +kernel); (case c33 => first | k_is | kit_is | rfl | decide +kernel); (case k33 => first | k_is | kit_is | rfl | decide +kernel); (case a34 => first | k_is | kit_is | rfl | decide +kernel); (case l34 => first | k_is | kit_is | rfl | decide +kernel); (case c34 => first | k_is | kit_is | rfl | decide +kernel); (case k34 => first | k_is | kit_is | rfl | decide +kernel); (case a35 => first | k_is | kit_is | rfl | decide +kernel); (case l35 => first | k_is | kit_is | rfl | decide +kernel); (case c35 => first | k_is | kit_is | rfl | decide +kernel); (case k35 => first | k_is | kit_is | rfl | decide +kernel); (case z1 => first | k_is | kit_is | rfl | decide +kernel); (case z2 => first | k_is | kit_is | rfl | decide +kernel); (case z3 => first | k_is | kit_is | rfl | decide +kernel); (case z4 => first | k_is | kit_is | rfl | decide +kernel); (case z5 => first | k_is | kit_is | rfl | decide +kernel); (case z6 => first | k_is | kit_is | rfl | decide +kernel); (case z7 => first | k_is | kit_is | rfl | decide +kernel); (case z8 => first | k_is | kit_is | rfl | decide +kernel); (case z9 => first | k_is | kit_is | rfl | decide +kernel); (case z10 => first | k_is | kit_is | rfl | decide +kernel); (case z11 => first | k_is | kit_is | rfl | decide +kernel); (case z12 => first | k_is | kit_is | rfl | decide +kernel); (case z13 => first | k_is | kit_is | rfl | decide +kernel); (case z14 => first | k_is | kit_is | rfl | decide +kernel); (case z15 => first | k_is | kit_is | rfl | decide +kernel); (case z16 => first | k_is | kit_is | rfl | decide +kernel); (case z17 => first | k_is | kit_is | rfl | decide +kernel); (case z18 => first | k_is | kit_is | rfl | decide +kernel); (case z19 => first | k_is | kit_is | rfl | decide +kernel); (case z20 => first | k_is | kit_is | rfl | decide +kernel); (case z21 => first | k_is | kit_is | rfl | decide +kernel); (case zd => first | k_is | kit_is | rfl | decide +kernel)
