import PyProof.Rows.All
import Wide.All
import OpenK.AllK
import Wide.FinOn
import HandS.ForMost
import HandS.SetFor
import HandS.Strs
import HandS.SortInts
import HandS.Conv
import KE.KDictSum
import HandS.ForExc
import HandS.Wide
import HandS.Zip
import HandS.TupAny
import HandS.RaiseMore
import HandS.IsInst
import KE.KIntText
import HandS.SortRule
import HandS.SortKw
import HandS.Star
import KE.DataMinMax
import HandS.SetBool
import HandS.Walk
import KE.GoesEnum
import HandS.TupLe
import HandS.Deep
import PyProof.P3In
import PyProof.ReprRoads
import PyProof.ReprLen
import KE.DatumOrd
import KE.KTupSum
import HandS.Sort
import KE.KDictList
import HandS.Small
import HandS.Defaults
import HandS.Style
import HandS.DictComp
import HandS.MakeKwOnly
import PyProof.EnumMake
import PyProof.Draws
import PyProof.CallFns
import KE.SortData
import KE.LtData
import KE.KExcIs
import HandS.Exc
import HandS.ExcIs
import HandS.ExcField
import HandS.ExcInit
import PyProof.RowDictHeap
import HandS.ExcOwn
import HandS.WordsExc
import PyProof.Lay0
import HandS.NestedK
import HandS.Iter
import KE.DataMinKey
import KE.KMinKey
import HandS.EndTab
import KE.KNest
import KE.KRevSl
import HandS.SlotsOwn
import PyProof.EqKinds
import PyProof.FactsAll.dict_1
import PyProof.FactsAll.subtypes_4
import KE.KDictPairs
import HandS.ExcCtx
import HandS.SuiteRaise
import HandS.RaiseFrom
import HandS.ExcInitHot
import HandS.Flow
import HandS.TupMul
import PySem.Challenge.RW_pinnedheap_k46_exhaustions_of_any_value
set_option Elab.async false
set_option linter.all false
set_option maxRecDepth 100000
namespace Ph
open PySem PySem.Spec PyProof.Rows L2
/-! ### set(list of ints): the members, any number of them below the line -/
abbrev sob (w : World) : Obj := { cls := .type "set", dict := none, data := .set #[] 0 (.fresh 0 0 (!w.params.followText "set-order")) }
section
variable {P : Program} {w : World} {A : Around} {E : Value → Shared → Prop} {s : Shared}
set_option maxHeartbeats 4000000 in
theorem set_of_list {l : Addr} {its : Array Value} (ns : List Int) {Q : Value → Shared → Prop} (calm : A.handled = none) (isl : s.heap.IsList l its) (ints0 : IntsAre its.toList ns) (few : ns.length + 1 < scanBound)
    (q : ∀ (g : Heap) (tk c : Nat), SetR w g s.heap.objs.size (fun j => decide (j ∈ ns)) c → c ≤ ns.length → (∀ b u, s.heap.get? b = some u → g.get? b = some u) → Q (.ref s.heap.objs.size) { s with heap := g, toks := tk }) :
    wpAny (model P w) A (call (.type "set") [.ref l]) Q E s := by
  have size : its.size = ns.length := by rw [← Array.length_toList]; exact IntsAre.length ints0
  have y1 := F.called_set.made
  have y2 := F.called_set.sub
  have y3 := F.called_set.notType
  have y4 := F.called_set.canCreate
  have y5 := F.typeCall_set_1 (.ref l)
  obtain ⟨c0, tl, y6⟩ := F.called_set.mro
  refine wpAny_call (codeAny_of_tree ?_)
  show wpAny (model P w) _ (callAny (.type "set") ⟨[.ref l], []⟩) _ _ s
  refine wpAny_pure ⟨Code.quiet_builtin _ (by decide +kernel), codeAny_builtin F.entry_type_call ?_⟩; rw [Around.under_plain (weight_type_call_type "set" [.ref l] []) rfl]
  repeat (any_goals (first | assumption | wp_step))
  refine codeAny_mono (code_set_led1 (.ref l) (E := E) (Q₁ := fun z t => z = .ref s.heap.objs.size ∧ t = { s with heap := s.heap.push (sob w) }) ⟨rfl, rfl⟩) fun r s₁ hr => ?_
  match r, hr with
  | .error e, hr => exact hr
  | .ok (.ret z), hr =>
    obtain ⟨rfl, rfl⟩ := hr
    have at0 : (s.heap.push (sob w)).get? s.heap.objs.size = some (sob w) := Heap.get?_push_size _ rfl
    have ty0 : Shared.TypeIs { s with heap := s.heap.push (sob w) } (.ref s.heap.objs.size) "set" := ⟨_, at0, rfl⟩
    have y7 := F.called_set.init.lookup
    have y8 := F.called_set.init.bind (.ref s.heap.objs.size)
    repeat (any_goals (first | assumption | wp_step))
    refine codeAny_mono (codeAny_call_builtin (R := wants (fun r t => r = .none ∧ ∃ g tk c, t = { s with heap := g, toks := tk } ∧ SetR w g s.heap.objs.size (fun j => decide (j ∈ ns)) c ∧ c ≤ ns.length ∧ (∀ b u, s.heap.get? b = some u → g.get? b = some u)) E)
      F.called_set.init.plain F.entry_set_init (check_set_init_1 ty0 ?_)) fun r₂ s₂ hr₂ => ?_
    · obtain ⟨⟨oc, od, dt, os⟩, hol, ec, nl, ed⟩ := isl
      cases ec; cases ed
      have hol1 : (s.heap.push (sob w)).get? l = some { cls := .type "list", dict := od, data := .seq its nl, slots := os } := Heap.get?_push_of_some _ hol
      have y9 := F.sub_list_set
      have y10 := F.sub_list_frozenset
      have y11 : (Value.type "list" == Value.type "dict") = false := by decide
      have isl1 : (s.heap.push (sob w)).IsList l its := ⟨_, hol1, rfl, nl, rfl⟩
      unfold Builtin.«set.__init__» noKeywords Builtin.Frozenset.updateFrom
      generalize hPI : pyIter = PI; wp_walk; subst hPI
      refine wpAny_pyIter_list isl1 (wpAny_bind (wpAny_runValue ?_))
      have lS : l < s.heap.objs.size := Heap.lt_size hol
      have sz1 : (s.heap.push (sob w)).objs.size = s.heap.objs.size + 1 := Heap.size_push ..
      have calm3 : A.in1.in1.in1.handled = none := by simp [calm]
      refine set_update_ints ((Walks.list calm3 (s.heap.push (sob w)).objs.size l (by rw [sz1]; exact Nat.ne_of_lt (Nat.lt_succ_of_lt lS)) its).toS) s.heap.objs.size ?_ ns size few ?_ (its.size - 0) 0 _ (by omega) (Nat.zero_le _) ⟨⟨_, Heap.get?_push_size _ rfl, rfl, rfl⟩, isl1.push _⟩ ?_ ?_
      · rw [sz1]
        intro z
        rcases List.mem_cons.mp z with e | e
        · exact Nat.ne_of_lt (Nat.lt_succ_self _) e
        · exact Nat.ne_of_gt lS (List.mem_singleton.mp e)
      · intro i v hv
        have hi : i < ns.length := by rw [← size]; exact (Array.getElem?_eq_some_iff.mp hv).1
        obtain ⟨t, e⟩ := PyProof.Rows.IntsAre.int_at ints0 i v (by rw [Array.getElem?_toList]; exact hv)
        exact ⟨ns[i], t, List.getElem?_eq_getElem hi, by rw [e, List.getD_eq_getElem?_getD, List.getElem?_eq_getElem hi]; rfl⟩
      · exact ⟨0, Nat.le_refl 0, setR_new_at (Heap.get?_push_of_some _ at0)⟩
      · rintro ⟨g, g2, d', tk', os'⟩ c hm hc hS
        cases (show g2 = s.gens from hm.gens)
        cases (show d' = s.drawn from hm.drawn)
        cases (show os' = s.os from hm.os)
        rw [size] at hc
        show wpAny _ _ _ _ _ _
        refine wpAny_pure ?_
        show wpAny _ _ (ret Value.none) _ _ _
        refine wpAny_pure ⟨rfl, g, tk', c, rfl, hS, hc, fun b u e => hm.heap b u (fun z => ?_) (Heap.get?_push_of_some _ (Heap.get?_push_of_some _ e))⟩
        have hb := Heap.lt_size e
        rw [sz1] at z
        rcases List.mem_cons.mp z with e | e
        · exact Nat.ne_of_lt hb e
        · exact Nat.ne_of_lt (Nat.lt_succ_of_lt hb) (List.mem_singleton.mp e)
    · match r₂, hr₂ with
      | .error e, h => exact h
      | .ok (.ret r), h =>
        obtain ⟨rfl, g, tk, c, rfl, h1, h2, h3⟩ := h
        repeat (any_goals (first | assumption | wp_step))
        exact q _ _ _ h1 h2 h3
      | .ok .next, h => exact h.elim
end
section
variable {X : Cx}
/-- set(xs), xs a list of ints -/
def rSetI (K : PySem.W.Frag) (w : World) : List V → Hp → VK → Prop := fun vs H Q => ∃ (l : Addr) (ns : List Int), vs = [V.ref l] ∧ SqL K H l (ns.map V.int) ∧ ns.length + 1 < scanBound ∧
  ∀ a c, H a = none → (ns.Nodup → c = ns.length) → Q (.ref a) (upd H a (SetO w a (fun j => decide (j ∈ ns)) c))
theorem cr_setI (hc : X.calm = true) : CallR X (.type "set") (rSetI X.K X.w) := by
  intro pins s σ H vs us Q I r h
  obtain ⟨l, ns, rfl, hl, few, q⟩ := h
  obtain ⟨its, rv, pl, hz⟩ := I.list hl
  rw [Vals.ref1 r]
  refine set_of_list ns (I.ok.hd hc) pl.isList (by simpa using rv.ints) few fun g tk c R _ k => ?_
  refine ⟨.ref _, upd H s.heap.objs.size (SetO X.w s.heap.objs.size (fun j => decide (j ∈ ns)) c), I.laid (t' := tk) k (Nat.le_refl _) (setO_new R), rfl, q _ _ (I.hok.fresh (Nat.le_refl _)) fun nd => ?_⟩
  obtain ⟨o, es, ep, t, ho, hex, hd, good, nd2, mem, _, _, hn, _⟩ := R
  have pm : (es.toList.map keyOf).Perm ns := (List.perm_ext_iff_of_nodup nd2 nd).mpr fun k => by rw [← mem k]; exact decide_eq_true_iff
  rw [← hn, ← pm.length_eq, List.length_map, Array.length_toList]
end
end Ph

namespace Ph
open PySem PySem.Spec PyProof.Rows L2
section
variable {P : Program} {w : World} {A : Around} {E : Value → Shared → Prop} {s : Shared}
/-- sorted(set of ints), any number of members -/
theorem sorted_of_set {a : Addr} {S : Int → Bool} {n : Nat} {Q : Value → Shared → Prop} (R : SetR w s.heap a S n) (calm : A.handled = none)
    (q : ∀ t p (out : Array Value) (c : Nat) (ns : List Int), (∀ b u, s.heap.get? b = some u → t.heap.get? b = some u) → t.gens = s.gens → t.os = s.os → s.heap.objs.size ≤ p → t.heap.get? p = some (seqObj "list" out c) → IntsAre out.toList ns → ns.Pairwise (· < ·) → (∀ k, k ∈ ns ↔ S k = true) → ns.length = n → Q (.ref p) t) :
    wpAny (model P w) A (call (.builtin "sorted") [.ref a]) Q E s := by
  obtain ⟨o, es, ep, t, ho, hex, hd, good, nd, mem, few, fits, hn, ris, led⟩ := R
  refine Calls.call_function_entry kind_sorted plain_sorted entry_sorted (args_sorted1 _) ?_; unfold Builtin.«sorted»
  refine wpAny_bind (m := checkCount "sorted" 1 1 _) (wpAny_pure (wpAny_bind (collect_set (A := A.in1) calm ⟨o, ho, hex.1, hd⟩ fits few ris led fun s1 vs k1 hz g1 o1 pm => ?_)))
  have lenv : vs.length = n := by rw [pm.length_eq, List.length_map, Array.length_toList]; exact hn
  have bound : vs.length ≤ sizeLine := by rw [lenv, ← hn]; exact Nat.le_trans (Nat.le_of_lt few) (by decide +kernel)
  have isI : ∀ v ∈ vs, ∃ k tk, v = Value.int k tk := fun v hv => by
    obtain ⟨e, he, q1⟩ := List.mem_map.mp (pm.mem_iff.mp hv)
    obtain ⟨k, tk, h1, _⟩ := good e he
    exact ⟨k, tk, q1 ▸ h1⟩
  have hI := SrtO.ints_iv isI
  have keys : (vs.map SrtO.iv).Perm (es.toList.map keyOf) := by
    have z := pm.map SrtO.iv
    rw [List.map_map] at z
    refine z.trans (List.Perm.of_eq (List.map_congr_left fun e he => ?_))
    obtain ⟨k, tk, h1, h2⟩ := good e he
    show SrtO.iv e.2 = keyOf e
    rw [key_vInt, h1]
    rfl
  refine wpAny_bind (wpAny_newList ?_ bound)
  have at1 : (s1.heap.push (seqObj "list" vs.toArray 0)).get? s1.heap.objs.size = some (seqObj "list" vs.toArray 0) := Heap.get?_push_size _ rfl
  refine wpAny_bind (wpAny_holding (wpAny_call_entry slot_list_sort ⟨_, at1, rfl⟩ entry_list_sort (SrtO.list_sort_ord SrtO.swo_int at1 bound (fun h2 => SrtO.ints_sortable hI h2) fun out b1 b2 => ⟨_, rfl, ?_⟩) (args_list_sort _)))
  obtain ⟨k2, k3, k4⟩ := SrtO.ints_out hI b1 b2
  obtain ⟨c, hc⟩ := sortedHeap_at (vs := vs) (out := out.toArray) at1
  have pn := k3.trans keys
  refine wpAny_pure ⟨_, rfl, q _ s1.heap.objs.size out.toArray c (out.map SrtO.iv) (fun b u e => ?_) g1 o1 hz hc (by simpa using k2) (lt_of_le_nodup _ k4 (pn.nodup_iff.mpr nd)) (fun k => by rw [pn.mem_iff, ← mem k]) ?_⟩
  · have z := k1 b u e
    have lt := Heap.lt_size z
    show (sortedHeap (s1.heap.push (seqObj "list" vs.toArray 0)) s1.heap.objs.size vs out.toArray).get? b = some u
    rw [sortedHeap_old (Nat.ne_of_lt lt) (by rw [size_push']; exact Nat.lt_succ_of_lt lt)]
    exact Heap.get?_push_of_some _ z
  · rw [pn.length_eq, List.length_map, Array.length_toList]; exact hn
end
section
variable {X : Cx}
def rSortedS2 (w : World) : List V → Hp → VK → Prop := fun vs H Q => ∃ (a : Addr) (S : Int → Bool) (n : Nat), vs = [V.ref a] ∧ H a = some (SetO w a S n) ∧
  ∀ (ns : List Int) (p : Addr), ns.Pairwise (· < ·) → (∀ k : Int, k ∈ ns ↔ S k = true) → H p = none → Q (.ref p) (upd H p (.lst (ns.map V.int)))
theorem cr_sortedS2 (hc : X.calm = true) : CallR X (.builtin "sorted") (rSortedS2 X.w) := by
  intro pins s σ H vs us Q I r h
  obtain ⟨a, S, n, rfl, ha, q⟩ := h
  have R := setO_get I ha
  have few : n < scanBound := by
    obtain ⟨_, es, _, _, _, _, _, _, _, _, few, _, hn, _⟩ := R
    rw [← hn]; exact few
  rw [Vals.ref1 r]
  refine sorted_of_set R (I.ok.hd hc) fun t p out c ns k g o hp hg hi hs hm hl => ?_
  have len : (ns.map V.int).length ≤ sizeLine := by rw [List.length_map, hl]; exact Nat.le_trans (Nat.le_of_lt few) (by decide +kernel)
  have J : Inv X pins σ (upd H p (.lst (ns.map V.int))) { s with heap := t.heap, gens := t.gens, drawn := t.drawn, toks := t.toks } :=
    I.call (ch := []) (Un.laid k hp (I.hok.fresh hp)) (I.hok.laid k hp ⟨len, out.toList, c, vals_of_ints hi, hg⟩) (g ▸ I.bare) (fun _ z => nomatch z)
  have e : t = { s with heap := t.heap, gens := t.gens, drawn := t.drawn, toks := t.toks } := by
    obtain ⟨h1, h2, h3, h4, h5⟩ := t
    cases o
    rfl
  rw [e]
  exact ⟨.ref p, _, J, rfl, q ns p hs hm (I.hok.fresh hp)⟩
/-- len(set of ints) -/
def rLenSet (w : World) : List V → Hp → VK → Prop := fun vs H Q => ∃ (a : Addr) (S : Int → Bool) (n : Nat), vs = [V.ref a] ∧ H a = some (SetO w a S n) ∧ Q (.int n) H
theorem cr_lenSet : CallR X (.builtin "len") (rLenSet X.w) := by
  intro pins s σ H vs us Q I r h
  obtain ⟨a, S, n, rfl, ha, q⟩ := h
  obtain ⟨o, es, ep, t, ho, hex, hd, _, _, _, few, fits, hn, _⟩ := setO_get I ha
  rw [Vals.ref1 r]
  refine call_len_set ho hex hd fits ?_ ⟨.int n, H, I.tok _, ⟨_, by rw [← hn]⟩, q⟩
  have h1 : (es.size : Int) < scanBound := Int.ofNat_lt.mpr few
  exact Int.lt_of_lt_of_le h1 (by decide +kernel)
/-- t.index(k), a tuple of ints: the first place -/
theorem flat_ints (ys : List Int) : (ys.map V.int).all flatV = true := by
  rw [List.all_map]
  exact List.all_eq_true.mpr fun _ _ => rfl
theorem mt_tindexI : MtR X "tuple.index" (fun x xs H Q => ∃ p, ∃ ys : List Int, ∃ z j, x = .ref p ∧ xs = [.int z] ∧ SqT X.K H p (ys.map V.int) ∧ ys[j]? = some z ∧ (∀ m, m < j → ys[m]? ≠ some z) ∧ Q (.int (j : Nat)) H) := by
  intro pins s σ H x xs v us Q I rx rs h
  obtain ⟨p, ys, z, j, rfl, rfl, hq, hy, hno, q⟩ := h
  cases rx
  obtain ⟨u, rfl, t, rfl⟩ := vals1 rs
  obtain ⟨its, r, ⟨⟨cls, dd, dt, sl⟩, ho, hc, n, hd⟩, hz⟩ := I.tuple hq
  cases hc
  cases hd
  have len : its.toArray.size = ys.length := by rw [List.size_toArray, ← r.length, List.length_map]
  have at' : ∀ (m : Nat) (hm : m < its.toArray.size), ∃ y t', ys[m]? = some y ∧ its.toArray[m] = Value.int y t' := fun m hm => by
    have hm' : m < ys.length := len ▸ hm
    obtain ⟨w, hw, t', hw'⟩ := r.get (i := m) (x := .int ys[m]) (by simp [hm'])
    refine ⟨ys[m], t', List.getElem?_eq_getElem hm', ?_⟩
    rw [← hw', ← (List.getElem?_eq_some_iff.mp hw).2]
    simp
  have hj : j < its.toArray.size := by rw [len]; exact (List.getElem?_eq_some_iff.mp hy).1
  refine call_meets PySem.F.slot_tuple_index ⟨_, ho, rfl⟩ PySem.F.entry_tuple_index (PySem.F.args_tuple_index_2 _ _) (TI.tuple_indexAt p its.toArray n dd sl (.int z t) (eqU (.int z)) j hj ?_ ?_)
    ⟨ho, fun w hw => mem_eqAt (x := .int z) ⟨t, rfl⟩ rfl r (flat_ints ys) w (by simpa using hw), ⟨.int (j : Nat), H, I.tok _, ⟨_, rfl⟩, q⟩⟩
  · obtain ⟨y, t', h1, h2⟩ := at' j hj
    rw [hy] at h1
    cases h1
    rw [h2]
    show decide (z = z) = true
    exact decide_eq_true rfl
  · intro m hm hmj
    obtain ⟨y, t', h1, h2⟩ := at' m hm
    rw [h2]
    show decide (y = z) = false
    exact decide_eq_false fun e => hno m hmj (e ▸ h1)
end
end Ph

namespace Ph
open PySem PySem.Spec PyProof.Rows L2
/-! ### a tuple whose object is known: it has no dict of its own, so its methods can be called -/
def ChAt (H : Hp) (c : Addr) (C : List Int) : Prop := ∃ o : Obj, o.dict = none ∧ H c = some (.frz o (.tup (C.map V.int)))
theorem ChAt.sq {K : PySem.W.Frag} {H : Hp} {c : Addr} {C : List Int} (h : ChAt H c C) : SqT K H c (C.map V.int) := let ⟨o, _, e⟩ := h; .inl (.inr ⟨o, e⟩)
theorem ChAt.keep {H H' : Hp} {c : Addr} {C : List Int} (h : ChAt H c C) (s : ∀ b o, H b = some o → H' b = some o) : ChAt H' c C := let ⟨o, d, e⟩ := h; ⟨o, d, s _ _ e⟩
section
variable {X : Cx}
/-- tuple(list): a new one -/
theorem call_tuple_frz : CallR X (.type "tuple") (fun xs H Q => ∃ p ys, xs = [.ref p] ∧ SqL X.K H p ys ∧ ∀ l (o : Obj), H l = none → o.dict = none → Q (.ref l) (upd H l (.frz o (.tup ys)))) := by
  intro pins s σ H xs us Q I r h
  obtain ⟨p, ys, rfl, hq, q⟩ := h
  obtain ⟨u, rfl, rx⟩ := vals1 r
  cases rx
  obtain ⟨its, r', pl, hz⟩ := I.list hq
  have len := r'.length
  refine call_tuple_list pl.isList (fun g k => ?_) (by rw [List.size_toArray]; omega)
  have J := I.kept (t' := s.toks) k
  refine ⟨.ref g.objs.size, _, J.laid (t' := s.toks) (o := .frz { cls := .type "tuple", data := .seq its.toArray } (.tup ys)) (fun b u e => Heap.get?_push_of_some _ e) (Nat.le_refl _) ⟨Heap.get?_push_size _ rfl, hz, its, r', IsTup.new _ _⟩, rfl, q _ _ (J.hok.fresh (Nat.le_refl _)) rfl⟩
variable {o e : Expr} {es : List Expr} {to : TE} {t : TA} {apos cpos : Pos} {name : Str} {id : String} {r : V → List V → Hp → VK → Prop}
/-- c.m(..), c such a tuple -/
def tBT (r : V → List V → Hp → VK → Prop) (to : TE) (t : TA) : TE := fun σ H Q => to σ H fun x H1 => (∃ c C, x = .ref c ∧ ChAt H1 c C) ∧ t σ H1 fun xs H2 => r x xs H2 Q
theorem pe_bmT (slot : Slot "tuple" name id) (hty : typeOf (.builtin id) = pure (.type "method_descriptor")) (hm : MtR X id r) (ho : PE X o to) (ha : PA X (e :: es) t)
    (hbase : attributeBase o name X.env (eval o X.env) = eval o X.env := by rfl)
    (hfew : ((backTo cpos (starEach (e :: es) X.env)).all (fun x => !x.1) && (backToKw cpos (keywordEach [] X.env)).all (fun x => x.1.isSome) && decide ((e :: es).length + ([] : List Keyword).length + (if ([] : List Keyword).isEmpty then 0 else 1) < 30)) = true := by rfl)
    (hline : (apos.endLine == cpos.line) = true := by rfl) (hse : starEach (e :: es) X.env = (false, eval e X.env) :: starEach es X.env := by rfl) (hpl : (backTo cpos (starEach es X.env)).any (·.1) = false := by rfl) :
    PE X (.Call (.Attribute o name apos) (e :: es) [] cpos) (tBT r to t) := ⟨fun pins s σ H Q I h => by
  refine wpAny_Call_method_late hbase hfew hline rfl (thn (ho.run pins s σ H _ I h) fun v s1 ⟨x, H1, I1, r1, ⟨c, C, ex, oc, od, hc⟩, q1⟩ => ?_)
  subst ex
  cases r1
  obtain ⟨g, _, its, _, ⟨u, hu, hcl, _⟩⟩ := I1.hok c _ hc
  rw [g] at hu
  cases hu
  have hA := ha.run cpos pins s1 σ H1 _ I1 q1
  refine ⟨"tuple", id, PySem.F.plainAttrs_tuple, slot, hty, ⟨oc, g, hcl⟩, fun a z => by cases z; exact ⟨oc, g, od⟩, ?_⟩
  rw [hse] at hA ⊢
  refine Calls.callWith_builtin (by show (false || (backTo cpos (starEach es X.env)).any (·.1)) = false; rw [hpl]; rfl) (Calls.evalArgs_plain (thn hA fun us s2 ⟨vs, H2, I2, r2, q2⟩ => hm pins s2 σ H2 (.ref c) vs (.ref c) us Q I2 rfl r2 q2))⟩
end
end Ph

namespace Ph
open PySem PySem.Spec PyProof.Rows L2 PySem.NumText PySem.Calls
/-! ### the limit on digits stands as it was at the beginning -/
theorem noDigits_of {K : PySem.W.Frag} {h : Heap} (X : K.In h) (L : h.NoLimit) (e : PySem.W.nsIn K cStatics "sys.int_max_str_digits" = some none) : h.NoDigits := by
  obtain ⟨mc, G, _⟩ := L
  refine ⟨mc, G, ?_⟩
  obtain ⟨o, es, ep, ho, hd, _, hf⟩ := G
  unfold PySem.W.nsIn at e
  split at e
  · rename_i c d es' n' sl q
    have := X _ _ q
    rw [ho] at this
    cases this
    cases hd
    split at e
    · cases e
    · rename_i he
      rw [← hf]
      unfold nsFind findBy
      rw [← Array.find?_toList, he]
      rfl
  · cases e
theorem wp_digits {M : Model} {A : Around} {E : Value → Shared → Prop} {s : Shared} {Q : Nat → Shared → Prop} (hn : s.heap.NoDigits) (h : Q 4300 s) : wpAny M A Builtin.intMaxStrDigits Q E s := by
  obtain ⟨mc, hns, hnone⟩ := hn
  unfold Builtin.intMaxStrDigits
  refine wpAny_bind (wpAny_nsGet hns ?_)
  rw [hnone]
  exact wpAny_pure h
/-! ### int(text) of more than 640 digits -/
theorem wp_textW {M : Model} {A : Around} {E : Value → Shared → Prop} {s : Shared} {Q : Value → Shared → Prop} {v : Value} {text : List Nat} {n : Int} (hn : s.heap.NoDigits)
    (hs : ¬ (text.takeWhile (· != 0)).length ≤ 640) (hr : (int_private% "readNumeral") 4300 10 (text.takeWhile (· != 0)) = (int_private% "Numeral.value") n)
    (ha : ((text.takeWhile (· != 0)).length == text.length) = true) (h : Q (.int n s.toks) { s with toks := s.toks + 1 }) :
    wpAny M A ((int_private% "intFromText") v text 10) Q E s := by
  show wpAny M A (if (text.takeWhile (· != 0)).length ≤ 640 then _ else (Builtin.intMaxStrDigits >>= _)) Q E s
  rw [if_neg hs]
  refine wpAny_bind (wp_digits hn ?_)
  dsimp only
  rw [hr]
  dsimp only
  rw [if_pos ha]
  exact wpAny_mkInt h
set_option maxHeartbeats 4000000 in
theorem meets_textW {x : PySem.Str} {u : Tok} {n : Int} (hs : ¬ (numSeenOf x).length ≤ 640) (hr : (int_private% "readNumeral") 4300 10 (numSeenOf x) = (int_private% "Numeral.value") n) (ha : ((numSeenOf x).length == (numTextOf x).length) = true) :
    Meets (Builtin.«int.__new__» ⟨[.type "int", .str x u], []⟩) (fun _ R s => s.heap.NoDigits ∧ R (.ok (.ret (.int n s.toks))) { s with toks := s.toks + 1 }) :=
  .of_wp fun prog w A R s h => by
    obtain ⟨hn, h⟩ := h
    obtain ⟨hp, g, d, tk, os⟩ := s
    have f1 := F.conv_sub_int
    have f2 := F.madeHere_int
    have f3 := PySem.W.KIN.str_int
    have f4 := PySem.W.KIN.str_idx
    have f5 := PySem.W.KIN.str_trunc
    have f6 : typeOf (.str x u) = pure (.type "str") := rfl
    have hk := PySem.W.KIN.Hid.mk (And.intro hs (And.intro hr ha))
    have hk2 := PySem.W.KIN.Hid.mk hn
    clear hs hr ha hn
    repeat (any_goals (first
      | assumption
      | ((with_reducible show wpAny _ _ ((int_private% "intFromText") _ _ _) _ _ _); refine wp_textW hk2.out hk.out.1 hk.out.2.1 hk.out.2.2 ?_)
      | wp_step))
    all_goals first | exact ⟨_, rfl, h⟩ | skip
def big9 : PySem.Str := (Str.ofString "1") ++ Txt.mul (Str.ofString "0") 900
theorem reps_list (c : Nat) : ∀ (k : Nat) (acc : Array Nat), ((List.replicate k (#[c] : Array Nat)).foldl (· ++ ·) acc).toList = acc.toList ++ List.replicate k c
  | 0, acc => by simp
  | k + 1, acc => by
    rw [List.replicate_succ, List.foldl_cons, reps_list c k, List.replicate_succ]
    simp
theorem zeros_list : (Txt.mul (Str.ofString "0") 900).cps.toList = List.replicate 900 48 := by
  have e : Txt.mul (Str.ofString "0") 900 = ⟨(List.replicate 900 (#[48] : Array Nat)).foldl (· ++ ·) #[]⟩ := by
    unfold Txt.mul
    rw [if_neg (by decide), if_neg (by decide +kernel)]
    rfl
  rw [e]
  exact reps_list 48 900 #[]
theorem big9_list : big9.cps.toList = 49 :: List.replicate 900 48 := by
  have e : big9.cps.toList = (Str.ofString "1").cps.toList ++ (Txt.mul (Str.ofString "0") 900).cps.toList := Array.toList_append
  rw [e, zeros_list]
  rfl
theorem big9_digits : AllDigits big9.cps.toList := by
  rw [big9_list]
  intro d hd
  rcases List.mem_cons.mp hd with e | e
  · subst e; decide
  · rw [(List.mem_replicate.mp e).2]; decide
theorem digits_zeros : ∀ (k a : Nat), (List.replicate k 48).foldl (fun acc c => acc * 10 + (c - 48)) a = a * 10 ^ k
  | 0, a => by simp
  | k + 1, a => by
    rw [List.replicate_succ, List.foldl_cons, digits_zeros k, Nat.pow_succ]
    show (a * 10 + 0) * 10 ^ k = a * (10 ^ k * 10)
    rw [Nat.add_zero, Nat.mul_assoc, Nat.mul_comm 10 (10 ^ k)]
theorem big9_val : digitsVal big9.cps.toList = 10 ^ 900 := by
  rw [big9_list]
  unfold digitsVal
  rw [List.foldl_cons, digits_zeros]
  show (0 * 10 + 1) * 10 ^ 900 = 10 ^ 900
  rw [Nat.zero_mul, Nat.zero_add, Nat.one_mul]
theorem big9_length : big9.length = 901 := by
  have e : big9.cps.toList.length = big9.length := Array.length_toList
  rw [← e, big9_list, List.length_cons, List.length_replicate]
theorem ten_ex : ∃ t : Int, intText? big9 = some t ∧ 0 < t ∧ t.natAbs < 2 ^ 3000 := by
  refine ⟨_, intText_digits big9_digits (by rw [big9_list]; exact List.cons_ne_nil _ _) (by rw [big9_length]; decide), ?_, ?_⟩
  · rw [big9_val]
    exact Int.natCast_pos.mpr (Nat.pow_pos (by decide))
  · rw [big9_val, Int.natAbs_natCast]
    decide +kernel
noncomputable def ten9 : Int := Classical.choose ten_ex
theorem big9_int : intText? big9 = some ten9 := (Classical.choose_spec ten_ex).1
theorem ten9_pos : 0 < ten9 := (Classical.choose_spec ten_ex).2.1
theorem ten9_lt : ten9.natAbs < 2 ^ 3000 := (Classical.choose_spec ten_ex).2.2
theorem big9_text : numTextOf big9 = big9.cps.toList ∧ numSeenOf big9 = big9.cps.toList := numText_signs fun c hc => Or.inr (big9_digits c hc)
theorem big9_seen : ¬ (numSeenOf big9).length ≤ 640 := by
  rw [big9_text.2, big9_list, List.length_cons, List.length_replicate]
  decide
theorem big9_all : ((numSeenOf big9).length == (numTextOf big9).length) = true := by
  rw [big9_text.1, big9_text.2]
  exact beq_self_eq_true _
theorem big9_read : (int_private% "readNumeral") 4300 10 (numSeenOf big9) = (int_private% "Numeral.value") ten9 := by
  rcases read4300 big9 (by rw [big9_length]; decide) with ⟨n, h1, h2, h3⟩ | ⟨h1, _⟩
  · rw [Option.some.inj (big9_int.symm.trans h1)]
    exact h3
  · rw [big9_int] at h1
    cases h1
theorem zeros_length : (Txt.mul (Str.ofString "0") 900).length = 900 := by
  have e : (Txt.mul (Str.ofString "0") 900).cps.toList.length = (Txt.mul (Str.ofString "0") 900).length := Array.length_toList
  rw [← e, zeros_list, List.length_replicate]
theorem big9_len : (Str.ofString "1").length + (Txt.mul (Str.ofString "0") 900).length ≤ sizeLine := by
  rw [zeros_length]
  decide +kernel
theorem zeros_ok : MulOk (Str.ofString "0") 900 := ⟨by decide, fun _ _ => by decide +kernel, fun _ _ => by decide +kernel⟩
section
variable {X : Cx}
theorem Inv.noDigits {pins : List (Addr × Obj)} {σ : List (Option V)} {H : Hp} {s : Shared} (I : Inv X pins σ H s) (e : PySem.W.nsIn X.K cStatics "sys.int_max_str_digits" = some none) : s.heap.NoDigits :=
  (noDigits_of I.ok.mod.kin I.ok.mod.nolimit e).keeps I.bk
theorem call_big9 (e : PySem.W.nsIn X.K cStatics "sys.int_max_str_digits" = some none) : CallR X (.type "int") (fun xs H Q => xs = [.str big9] ∧ Q (.int ten9) H) := by
  intro pins s σ H xs us Q I r h
  obtain ⟨rfl, q⟩ := h
  obtain ⟨u, rfl, t, rfl⟩ := vals1 r
  exact call_int_1 (meets_textW big9_seen big9_read big9_all) ⟨Inv.noDigits I e, ⟨typeIs_int _ _ _, ⟨.int ten9, H, I.tok _, ⟨_, rfl⟩, q⟩⟩⟩
/-- text * number -/
theorem op_repS : OpR X (binaryOp .Mult) (fun x y H Q => ∃ z k, x = .str z ∧ y = .int k ∧ MulOk z k ∧ Q (.str (Txt.mul z k)) H) := by
  intro pins s σ H x y v u Q I rx ry h
  obtain ⟨i, j, rfl, rfl, hz, q⟩ := h
  obtain ⟨t, rfl⟩ := rx
  obtain ⟨t', rfl⟩ := ry
  exact SB.mul hz (fun t' k => ⟨.str _, H, I.tok _, ⟨_, rfl⟩, q⟩)
theorem iop_mulW : OpR X (inplaceOp .Mult) (rI CMulW fun i j => .int (i * j)) := opI fun _ _ _ _ _ _ _ hc q => imul_int q hc.ok
theorem ip_mulW : PIp X .Mult (fun x y H Q => ∃ i j, x = .int i ∧ y = .int j ∧ CMulW i j ∧ Q (.int (i * j)) H) := by
  intro pins s σ H x y v u Q I r1 r2 h
  obtain ⟨i, j, e1, e2, hc, q⟩ := h
  subst e1; subst e2
  obtain ⟨t, rfl⟩ := r1
  obtain ⟨t', rfl⟩ := r2
  exact imul_int ⟨.int _, H, I.tok _, ⟨_, rfl⟩, q⟩ hc.ok
theorem repr_wide {prog : Program} {w : World} {A : Around} {E : Value → Shared → Prop} {s : Shared} {a : Int} {t : Tok} {Q : Value → Shared → Prop} (hn : s.heap.NoDigits) (hlt : a.natAbs < 10 ^ 4300) (h : Q (.str (toString a) s.toks) { s with toks := s.toks + 1 }) :
    wpAny (model prog w) A (call (.builtin "repr") [.int a t]) Q E s := by
  refine Calls.call_function_entry F.kind_repr F.plain_repr F.entry_repr (F.args_repr1 _) ?_
  unfold Builtin.«repr»
  refine wpAny_bind (m := oneArg "repr" _) (wpAny_pure ?_)
  have hv : [Value.int a t].any Value.onHeap = false := rfl
  simp only [cRoomFor, hv, Bool.false_eq_true, if_false, pure_bind]
  refine wpAny_bind (wpAny_specialOf (name := Str.ofString "__repr__") (typeIs_int s a t) F.slot_int_repr.lookup ?_)
  refine wpAny_bind (m := callSpecialIfBound? (.int a t) (Str.ofString "__repr__")) (wpAny_callSpecialIfBound?_slot (name := Str.ofString "__repr__") (typeIs_int s a t) F.slot_int_repr ?_)
  refine wpAny_call_entry F.slot_int_repr (typeIs_int s a t) F.entry_int_repr ?_ (F.args_int_repr_1 _)
  unfold Builtin.«int.__repr__»
  show wpAny _ _ (do let r ← Builtin.overDigitLimit? a; _) _ _ s
  refine wpAny_bind (overDigitLimit_any hn (fun hlt => ?_) (fun hge => absurd hlt (Nat.not_lt.mpr hge)))
  refine wpAny_bind (wpAny_mkStr (wpAny_pure ⟨_, rfl, ?_⟩) (int_text_fits10 hlt))
  refine wpAny_bind (wpAny_isInstance (T := "str") (b := true) rfl isSubtype_str_str ?_)
  exact wpAny_pure ⟨_, rfl, h⟩
theorem call_reprW (e : PySem.W.nsIn X.K cStatics "sys.int_max_str_digits" = some none) : CallR X (.builtin "repr") (fun xs H Q => ∃ i, xs = [.int i] ∧ i.natAbs < 10 ^ 4300 ∧ Q (.str (toString i)) H) := by
  intro pins s σ H xs us Q I r h
  obtain ⟨i, rfl, hz, q⟩ := h
  obtain ⟨u, rfl, t, rfl⟩ := vals1 r
  exact repr_wide (Inv.noDigits I e) hz ⟨.str _, H, I.tok _, ⟨_, rfl⟩, q⟩
end
end Ph

namespace Ph
open PySem PySem.Spec PyProof.Rows L2 PySem.Calls
section
variable {X : Cx}
/-- d.update(e), both tracked dicts -/
def rDUp : V → List V → Hp → VK → Prop := fun x vs H Q => ∃ (a b : Addr) (ks ls : List (Key × V)), x = .ref a ∧ vs = [.ref b] ∧ a ≠ b ∧ H a = some (.dK ks) ∧ H b = some (.dK ls) ∧ ks.length + ls.length ≤ sizeLine ∧ Q .non (upd H a (.dK (mergeK ks ls)))
theorem mtd_update : MtR X "dict.update" rDUp := by
  intro pins s σ H x vs v us Q I rx rv h
  obtain ⟨a, b, ks, ls, rfl, rfl, nab, ea, eb, hz, q⟩ := h
  cases rx
  obtain ⟨u, rfl, ru⟩ := rv.one
  cases ru
  obtain ⟨za, hda, va, ra, da⟩ := dk_of I.hok ea
  obtain ⟨zb, hdb, vb, rb, db⟩ := dk_of I.hok eb
  refine call_meetsIn PySem.F.slot_dict_update da.typeIs PySem.F.entry_dict_update (PySem.F.args_dict_update_2 _ _) (meets_dict_update (mixKind X.prog X.w) a b nab hdb) ⟨va, vb, da, db, by rw [← ra.length, ← rb.length]; exact hz, fun h' d1 d2 sb => ?_⟩
  have he : ∃ o, h'.get? a = some o := let ⟨o, _, _, ho, _⟩ := d1; ⟨o, ho⟩
  exact ⟨.non, _, d_write (t' := s.toks) I (by rw [ea]; exact True.intro) sb he (dk_new (Nat.le_trans (length_mergeK ls ks) hz) hda (rb.merge ra) d1), rfl, q⟩
end
/-- which ints are keys -/
def hasI (kvs : List (Key × V)) (i : Int) : Bool := (valV kvs (Sum.inl i)).isSome
theorem hasI_merge : ∀ (more kvs : List (Key × V)) (i : Int), hasI (mergeK kvs more) i = (hasI kvs i || more.any fun kv => decide (kv.1 = Sum.inl i))
  | [], kvs, i => by
    show hasI kvs i = (hasI kvs i || false)
    rw [Bool.or_false]
  | kv :: r, kvs, i => by
    have e : mergeK kvs (kv :: r) = mergeK (putK kvs kv.1 kv.2) r := rfl
    rw [e, hasI_merge r, List.any_cons]
    unfold hasI
    rw [valV_put]
    by_cases h : (Sum.inl i : Key) = kv.1
    · rw [if_pos h, h]
      simp
    · rw [if_neg h, decide_eq_false (fun z => h z.symm), Bool.false_or]
end Ph

namespace Ph
open PySem PySem.Spec PyProof.Rows L2
/-! ### max(ints, default=d) -/
def mxd (d : Int) : List Int → Int
  | [] => d
  | n :: r => r.foldl max n
theorem alike_ints (ns : List Int) : PySem.W.AlikeAll (ns.map PyData.int) := by
  refine ⟨fun x hx y hy => ?_, fun x hx => ?_⟩
  · obtain ⟨a, _, rfl⟩ := List.mem_map.mp hx
    obtain ⟨b, _, rfl⟩ := List.mem_map.mp hy
    rfl
  · obtain ⟨a, _, rfl⟩ := List.mem_map.mp hx
    exact fun z => nomatch z
theorem dpI {K : PySem.W.Frag} {H : Hp} : ∀ ns : List Int, DpAll K H (ns.map V.int) (ns.map PyData.int)
  | [] => .nil
  | n :: r => .cons (.int n) (dpI r)
theorem depthI : ∀ ns : List Int, PyData.depthAll (ns.map PyData.int) ≤ 1
  | [] => by simp [PyData.depthAll]
  | n :: r => by
    have h := depthI r
    simp only [List.map_cons, PyData.depthAll, PyData.depth]
    omega
section
variable {X : Cx}
def rMaxDf (K : PySem.W.Frag) : List V → List V → Hp → VK → Prop := fun xs zs H Q => ∃ (l : Addr) (ns : List Int) (d : Int), xs = [.ref l] ∧ zs = [.int d] ∧ SqL K H l (ns.map V.int) ∧ Q (.int (mxd d ns)) H
theorem cr_maxDf (hc : X.calm = true) (hu : X.A.units + 2 < cLine) : CallRK X (.builtin "max") ["default"] (rMaxDf X.K) := by
  intro pins s σ H xs zs us ws Q I r rz h
  obtain ⟨l, ns, d, rfl, rfl, hl, q⟩ := h
  obtain ⟨its, rv, pl, hz⟩ := I.list hl
  rw [Vals.ref1 r]
  obtain ⟨w, rfl, t, rfl⟩ := vals1 rz
  obtain ⟨as, rd⟩ := Dp.readsAll I _ _ its (dpI ns) rv
  have hd := depthI ns
  refine PySem.W.max_list_default (d := .int d t) (I.ok.hd hc) pl.isList (by simpa using rd) (alike_ints ns) (by omega) (fun e g tk k => ?_) (fun y ys i v g tk bs e hv rv k => ?_)
  · have e2 : ns = [] := List.map_eq_nil_iff.mp e
    rw [e2] at q
    exact ⟨.int d, H, I.kept k, ⟨t, rfl⟩, q⟩
  · cases ns with
    | nil => cases e
    | cons n r =>
      injection e with e1 e2
      subst e1
      subst e2
      rw [PySem.W.maxD_ints] at rv
      cases rv with
      | int _ t' => exact ⟨.int (r.foldl max n), H, I.kept k, ⟨t', rfl⟩, q⟩
/-! ### list(range(a, b, c)) -/
def rg3 (i c : Int) (n : Nat) : List Int := (List.range n).map fun (t : Nat) => i + (t : Int) * c
def tLst3 (ta : TA) : TE := fun σ H Q => ta σ H fun vs H1 => ∃ (i j c : Int) (n : Nat), vs = [.int i, .int j, .int c] ∧ RgC i j c n ∧ n ≤ 2 ^ 24 ∧ ∀ q, H1 q = none → Q (.ref q) (upd H1 q (.lst ((rg3 i c n).map V.int)))
theorem vals_rg3 {i c : Int} {n : Nat} {acc : Array Value} (h : ItemsOf (fun j v => ∃ t, v = .int (i + j * c) t) acc n) : Vals ((rg3 i c n).map V.int) acc.toList := by
  have e : acc.toList.length = n := by rw [Array.length_toList]; exact h.1
  unfold rg3
  rw [List.map_map, ← e]
  refine vals_of_get acc.toList _ fun j u hj => ?_
  obtain ⟨t, rfl⟩ := h.2 j u (by rw [← hj, Array.getElem?_toList])
  exact ⟨t, rfl⟩
theorem pe_listRg3 {a b c : Expr} {ta : TA} {p p2 pos pos2 : Pos} (hc : X.calm = true) (hg : Gl X "list") (hm : X.mg "list" = none) (hg2 : Gl X "range") (hm2 : X.mg "range" = none) (ha : PA X [a, b, c] ta)
    (na : starEach [Expr.Call (.Name "range" p2) [a, b, c] [] pos2] X.env = (false, eval (Expr.Call (.Name "range" p2) [a, b, c] [] pos2) X.env) :: starEach [] X.env := by rfl)
    (hs : starEach [a, b, c] X.env = (false, eval a X.env) :: starEach [b, c] X.env := by rfl) (hpl : (backTo pos2 (starEach [b, c] X.env)).any (·.1) = false := by rfl) :
    PE X (.Call (.Name "list" p) [.Call (.Name "range" p2) [a, b, c] [] pos2] [] pos) (tLst3 ta) := by
  refine ⟨fun pins s σ H Q I h => ?_⟩
  refine Call_ (ld_blt I hg hm boot_list (PyProof.Rows.callWith_type1 (args_cons ?_ na) na))
  refine Call_ (ld_blt I hg2 hm2 boot_range (PyProof.Rows.callWith_type1 (thn (ha.run pos2 pins s σ H _ I h) fun us s1 ⟨vs, H1, I1, r1, i, j, k, n, e, ⟨c0, c1, c2, c3⟩, hn, q⟩ => ?_) hs hpl))
  subst e
  obtain ⟨t1, t2, t3, rfl⟩ : ∃ t1 t2 t3, us = [Value.int i t1, .int j t2, .int k t3] := by
    cases r1 with
    | cons ra rr =>
      cases rr with
      | cons rb rr =>
        cases rr with
        | cons rd rr =>
          cases rr
          obtain ⟨t1, rfl⟩ := ra
          obtain ⟨t2, rfl⟩ := rb
          obtain ⟨t3, rfl⟩ := rd
          exact ⟨t1, t2, t3, rfl⟩
  · skip
    refine call_range_3 c0 (args_nil ?_) (.inl (PyProof.noPylong_small c1))
    have I2 : Inv X pins σ H1 { s1 with heap := s1.heap.push { cls := .type "range", data := .fields #[.int i t1, .int j t2, .int k t3] } } := I1.kept (t' := s1.toks) fun b o e => Heap.get?_push_of_some _ e
    refine call_list_range (n := n) (I2.ok.hd hc) (IsRange.new ..) c2 c3 hn fun g tk acc cc keep at' it => ?_
    refine ⟨.ref _, upd H1 _ (.lst ((rg3 i k n).map V.int)), I2.laid (t' := tk) keep (Nat.le_refl _) ⟨?_, acc.toList, cc, vals_rg3 it, ?_⟩, rfl, q _ (I2.hok.fresh (Nat.le_refl _))⟩
    · unfold rg3
      rw [List.length_map, List.length_map, List.length_range, sizeLine_eq]
      omega
    · rw [Array.toArray_toList]; exact at'
end
end Ph

set_option maxHeartbeats 2000000
namespace Ph
open PySem PySem.Spec PyProof.Rows L2
/-! ### {e for x in xs}, e an int -/
abbrev TurnI (w : World) (D : Addr) (te : TE) (σ2 : L2.St) (H3 : Hp) (Nx : Hp → Prop) : Prop :=
  te σ2 H3 fun y H4 => ∃ (c : Int) (S : Int → Bool) (n : Nat), y = .int c ∧ H4 D = some (SetO w D S n) ∧ n + 1 < scanBound ∧ Nx (upd H4 D (SetO w D (fun j => S j || decide (j = c)) (if S c = true then n else n + 1)))
def tScI (w : World) (wi : TI) (g : TG) (tt : TT) (te : TE) (vs : List Nat) : TE := fun σ H Q => wi σ H fun J H1 => ∀ D, H1 D = none → ∃ W : Nat → Nat → Hp → Prop, (∃ m, W 0 m (upd H1 D (SetO w D (fun _ => false) 0))) ∧ ∀ i m H, W i m H →
  (J.stop i H ∧ Q (.ref D) H) ∨ (J.go i H ∧ ∃ Nx : Hp → Prop, (∀ H', Nx H' → ∃ m', m' < m ∧ W (i + 1) m' H') ∧ ∀ x H', J.yld i H x H' → g x (wipe σ vs) H' fun σ2 H2 => wipe σ2 vs = wipe σ vs ∧ tt σ2 H2 fun b H3 => if b = true then TurnI w D te σ2 H3 Nx else Nx H3)
section
variable {X : Cx}
abbrev BlkG (X : Cx) (scope : Scope) (F : Cx → Prop) : Prop := ∀ (s : Shared) (H : Hp) (C : Addr) (cl : List (PySem.Str × Addr)) (fp : List Addr), F (X.blk s H scope (compEnvC scope cl C X.env) fp)
theorem pe_scI {elt tg iter : Expr} {ifs : List Expr} {scope : Scope} {own : List (PySem.Str × Nat)} {pos : Pos} {wi : TI} {g : TG} {tt : TT} {te : TE} (calm : X.calm = true) (nod : X.N.Nodup) (walk : PI X tg iter wi) (blk : BlkOk X.N X.env.scope scope own)
    (gs : BlkG X scope fun Y => PG Y tg g) (ts : BlkG X scope fun Y => PTs Y ifs tt) (es : BlkG X scope fun Y => PE Y elt te) (fold : ∀ x, foldedSetIterable iter X.env x = pure x := by intro _; rfl) :
    PE X (.SetComp elt [⟨tg, iter, ifs, 0⟩] scope pos) (tScI X.w wi g tt te (own.map (·.2))) := by
  refine ⟨fun pins s σ H Q I want => ?_⟩
  rw [PpSet.eval_SetComp]
  have captured : ∀ y ∈ scope.names, y.2 = .free → ∃ c, X.env.cells.lookup y.1 = some c := fun y hy e => (blk.free y hy e).elim (fun k => I.ok.has _ (.inl k)) fun k => I.ok.has _ (.inr k)
  refine wpAny_comprehension_free rfl fold (closure_ok captured) blk.kind (fun y hy e => by rw [blk.uniq y hy, e]) (thn (walk.run pins s σ H _ I want) fun xv s1 hx => thn hx fun itv s2 h2 => ?_)
  obtain ⟨it, fp, tn, J, H2, rfl, I2, T, tn2, fp2, q⟩ := h2
  refine PpSet.newSet_ok (newEnv_comp ?_)
  have freshD : H2 s2.heap.objs.size = none := I2.hok.fresh (Nat.le_refl _)
  obtain ⟨W, ⟨m0, start⟩, step⟩ := q _ freshD
  have low : ∀ b ∈ fp, b < s2.heap.objs.size := fun b hb => let ⟨o, e, _⟩ := T.obj _ _ tn2 b hb; Heap.lt_size e
  have I3 : Inv X pins σ (upd H2 s2.heap.objs.size (SetO X.w s2.heap.objs.size (fun _ => false) 0)) { s2 with heap := s2.heap.push (sob X.w) } := I2.laid (t' := s2.toks) (fun b o e => Heap.get?_push_of_some _ e) (Nat.le_refl _) (setO_new (setR_fresh X.w))
  have fp3 : ∀ b ∈ fp, FpOk X pins (upd H2 s2.heap.objs.size (SetO X.w s2.heap.objs.size (fun _ => false) 0)) b ∧ b < (s2.heap.push (sob X.w)).objs.size := fun b hb => by
    refine ⟨⟨?_, (fp2 b hb).2⟩, by rw [Heap.size_push]; exact Nat.lt_succ_of_lt (low b hb)⟩
    rw [upd_ne (Nat.ne_of_lt (low b hb))]
    exact (fp2 b hb).1
  have tn3 : tn 0 (s2.heap.push (sob X.w)) := T.keep _ _ _ tn2 fun b _ o e => Heap.get?_push_of_some _ e
  have I4 := block_start I3 blk nod fp3
  generalize eD : s2.heap.objs.size = D at start step I3 fp3 I4 ⊢
  generalize eS : ({ s2 with heap := s2.heap.push (sob X.w) } : Shared) = s3 at I3 fp3 tn3 I4 ⊢
  generalize eH : upd H2 D (SetO X.w D (fun _ => false) 0) = H3 at start I3 fp3 I4
  have tn3' : tn 0 s3.heap := by rw [← eS]; exact tn3
  have fp3' : ∀ b ∈ fp, FpOk X pins H3 b ∧ b < s3.heap.objs.size := fun b hb => by
    have := fp3 b hb
    rw [← eS]
    exact this
  have G := gs s3 H3 s3.heap.objs.size (cellsFrom (s3.heap.objs.size + 1) scope.names (cloFrom X.env.cells scope.names [])) fp
  have Te := ts s3 H3 s3.heap.objs.size (cellsFrom (s3.heap.objs.size + 1) scope.names (cloFrom X.env.cells scope.names [])) fp
  have El := es s3 H3 s3.heap.objs.size (cellsFrom (s3.heap.objs.size + 1) scope.names (cloFrom X.env.cells scope.names [])) fp
  have shape : codeAny (model X.prog X.w) X.A (.compStart (.SetComp elt [⟨tg, iter, ifs, 0⟩] scope pos) 0 (.ref it) (.ref D) (compEnvC scope (cellsFrom (s3.heap.objs.size + 1) scope.names (cloFrom X.env.cells scope.names [])) s3.heap.objs.size X.env))
      (compPost (model X.prog X.w) X.A X.xe none (EP X pins σ Q) (.ref D) s3.heap.objs.size) { s3 with heap := pushCells (s3.heap.push { cls := .type "dict", data := .dict #[] }) scope.names } := by
    generalize eE : compEnvC scope (cellsFrom (s3.heap.objs.size + 1) scope.names (cloFrom X.env.cells scope.names [])) s3.heap.objs.size X.env = ce at I4 G Te El ⊢
    have locs : ce.locals = s3.heap.objs.size := by subst eE; rfl
    generalize e4 : ({ s3 with heap := pushCells (s3.heap.push { cls := .type "dict", data := .dict #[] }) scope.names } : Shared) = s4 at I4 ⊢
    have tn4 : tn 0 s4.heap := T.keep _ _ _ tn3' fun b _ o e => by rw [← e4]; exact pushCells_keeps _ _ _ _ (Heap.get?_push_of_some _ e)
    have off : ∀ {σ' : L2.St} {H' : Hp} {s' : Shared}, Inv (X.blk s3 H3 scope ce fp) [] σ' H' s' → (∀ b ∈ fp, H' b = none) → ∀ b ∈ fp, FpOk (X.blk s3 H3 scope ce fp) [] H' b := fun J hn b hb =>
      ⟨hn b hb, (J.ok.exf b hb).1, J.ok.exfs b hb, .inl hb, fun x c e => (J.ok.exf b hb).2 x c e, fun p hp => nomatch (show p ∈ ([] : List (Addr × Obj)) from by simpa using hp)⟩
    have loop : codeAny (model X.prog X.w) X.A (.compLoop (.SetComp elt [⟨tg, iter, ifs, 0⟩] scope pos) 0 (.ref it) (.ref D) ce) (compPost (model X.prog X.w) X.A X.xe none (EP X pins σ Q) (.ref D) s3.heap.objs.size) s4 := by
      refine PpSet.compLoopS_any (fun n s' => ∃ i H', Inv (X.blk s3 H3 scope ce fp) [] (wipe σ (own.map (·.2))) H' s' ∧ tn i s'.heap ∧ (∀ b ∈ fp, H' b = none) ∧ W i n H') ?_ m0 ⟨0, H3, I4, tn4, fun b hb => (fp3' b hb).1.1, start⟩
      rintro n s5 ⟨i, H5, I5, tn5, free5, w5⟩
      rcases step i n H5 w5 with ⟨stop, done⟩ | ⟨go, Nx, lower, turn⟩
      · refine thnF (T.done (X.blk s3 H3 scope ce fp) rfl rfl rfl calm i [] s5 _ H5 (fun _ _ => False) I5 (off I5 free5) tn5 stop) fun r s6 ⟨hr, I6⟩ => ?_
        subst hr
        have I7 : Inv X pins σ H5 s6 := I3.call' (ch := fp) I6.os I6.base I6.hok I6.bare fun b hb => let z := (fp3' b hb).1.2; ⟨z.2.2.1, z.1, z.2.2.2.1, z.2.2.2.2⟩
        obtain ⟨m, names, _⟩ := I6.loc
        have names' : s6.heap.Ns s3.heap.objs.size m := locs ▸ (show s6.heap.Ns ce.locals m from names)
        have none5 : H5 s3.heap.objs.size = none := locs ▸ (show H5 ce.locals = none from I6.free)
        obtain ⟨f0, f1, f2, f3, f4, f5⟩ := I3.fpOk (Nat.le_refl s3.heap.objs.size) none5
        exact ⟨m, names', fun g sb => ⟨.ref D, H5, I7.turned (t' := s6.toks) (fun b o hb e => (sb.2 b hb).trans e) f0 f1 f3 f4 f5, rfl, done⟩⟩
      · refine thnF (T.item (X.blk s3 H3 scope ce fp) rfl rfl rfl calm i [] s5 _ H5 (fun _ _ => False) I5 (off I5 free5) tn5 go) fun r s6 ⟨u, hr, h6⟩ => ?_
        subst hr
        refine thnF h6 fun _ s7 ⟨x, H7, I7, r7, y7, tn7, free7⟩ => ?_
        refine thnF (G.run _ s7 _ H7 x u _ (I7.pinned (off I7 free7) (T.obj _ _ tn7)) r7 (turn x H7 y7)) fun _ s8 ⟨σ8, H8, I8, wiped, q8⟩ => ?_
        refine thnF (Te.run _ s8 σ8 H8 _ I8 q8) fun b s9 ⟨H9, I9, q9⟩ => ?_
        have back : ∀ {s' : Shared} {H' : Hp}, Inv (X.blk s3 H3 scope ce fp) ([] ++ pinsAt fp s7.heap) σ8 H' s' → Nx H' → ∃ m, m < n ∧ ∃ i H', Inv (X.blk s3 H3 scope ce fp) [] (wipe σ (own.map (·.2))) H' s' ∧ tn i s'.heap ∧ (∀ b ∈ fp, H' b = none) ∧ W i m H' := fun {s' H'} J nx => by
          obtain ⟨m', less, w'⟩ := lower H' nx
          have held : ∀ b ∈ fp, ∀ o, s7.heap.get? b = some o → s'.heap.get? b = some o ∧ H' b = none := fun b hb o e => let z := J.pin (b, o) (List.mem_append_right _ (List.mem_append_right _ (mem_pinsAt hb e))); ⟨z.1, z.2.1⟩
          refine ⟨m', less, i + 1, H', (J.unpinned (pins := [])).weak (by rw [← wiped, wipe_length]) (fun j v e => (wipe_some (wiped ▸ e)).1), T.keep _ _ _ tn7 fun b hb o e => (held b hb o e).1, fun b hb => ?_, w'⟩
          obtain ⟨o, e, _⟩ := T.obj _ _ tn7 b hb
          exact (held b hb o e).2
        cases b with
        | false => exact back I9 (by simpa using q9)
        | true =>
          have q9' : TurnI X.w D te σ8 H9 Nx := by simpa using q9
          refine thnF (El.run _ s9 σ8 H9 _ I9 q9') fun z s10 ⟨yv, H10, I10, r10, c, S0, n0, ey, at10, room, nx⟩ => ?_
          subst ey
          obtain ⟨tk, rfl⟩ := r10
          refine setR_add (setO_get (X := X.blk s3 H3 scope ce fp) I10 at10) room fun g sb new => ?_
          have there : ∃ u, g.get? D = some u := let ⟨o, _, _, _, ho, _⟩ := new; ⟨o, ho⟩
          exact back (I10.write (e := D) (t' := s10.toks + 1) (by rw [at10]; trivial) (.inl rfl) (fun b u hb hu => (sb.2 b hb).trans hu) there (setO_new new)) nx
    exact PpSet.codeAny_compStart_set loop (T.self X.A 0 _ _ _ tn4 loop)
  exact shape
/-- over a tuple, the steps leave the heap as it is -/
theorem sc_tupF {w : World} {K : PySem.W.Frag} {a : Addr} {xs : List V} {g : TG} {tt : TT} {te : TE} {vs : List Nat} {σ : L2.St} {H1 : Hp} {D : Addr} {Qd : Hp → Prop} (f : V → Int) (ht : SqT K H1 a xs) (nD : H1 D = none) (few : xs.length + 1 < scanBound)
    (hs : ∀ x ∈ xs, ∀ H, (∀ b o, H1 b = some o → H b = some o) → ∀ (Y : V → Hp → Prop) (N : Hp → Prop), Y (.int (f x)) H → g x (wipe σ vs) H fun σ2 H2 => wipe σ2 vs = wipe σ vs ∧ tt σ2 H2 fun b H3 => if b = true then te σ2 H3 Y else N H3)
    (hd : ∀ H n, (∀ b o, H1 b = some o → H b = some o) → H D = some (SetO w D (fun j => decide (j ∈ xs.map f)) n) → Qd H) :
    ∃ W : Nat → Nat → Hp → Prop, (∃ m, W 0 m (upd H1 D (SetO w D (fun _ => false) 0))) ∧ ∀ i m H, W i m H →
      ((Itt K a).stop i H ∧ Qd H) ∨ ((Itt K a).go i H ∧ ∃ Nx : Hp → Prop, (∀ H', Nx H' → ∃ m', m' < m ∧ W (i + 1) m' H') ∧ ∀ x H', (Itt K a).yld i H x H' → g x (wipe σ vs) H' fun σ2 H2 => wipe σ2 vs = wipe σ vs ∧ tt σ2 H2 fun b H3 => if b = true then TurnI w D te σ2 H3 Nx else Nx H3) := by
  have tupStays : ∀ H, (∀ b o, H1 b = some o → H b = some o) → SqT K H a xs := fun H k => by
    rcases ht with (h | ⟨o, h⟩) | h
    · exact .inl (.inl (k _ _ h))
    · exact .inl (.inr ⟨o, k _ _ h⟩)
    · exact .inr h
  refine ⟨fun i m H => m = xs.length - i ∧ i ≤ xs.length ∧ (∀ b o, H1 b = some o → H b = some o) ∧ ∃ n, n ≤ i ∧ H D = some (SetO w D (fun j => decide (j ∈ (xs.take i).map f)) n), ⟨xs.length, by simp, Nat.zero_le _, fun b o e => ?_, 0, Nat.le_refl _, ?_⟩, ?_⟩
  · rw [upd_ne (ne_of_none e nD)]; exact e
  · rw [upd_same]
    congr
  rintro i m H ⟨rfl, hi, k, n, hn, hD⟩
  have hq := tupStays H k
  by_cases hlt : i < xs.length
  · refine .inr ⟨⟨xs, xs[i], hq, by simp [hlt]⟩, fun H' => (∀ b o, H1 b = some o → H' b = some o) ∧ ∃ n, n ≤ i + 1 ∧ H' D = some (SetO w D (fun j => decide (j ∈ (xs.take (i + 1)).map f)) n), fun H' p => ⟨xs.length - (i + 1), by omega, rfl, hlt, p.1, p.2⟩, fun x H' y => ?_⟩
    obtain ⟨rfl, y⟩ := y
    have hx := y xs hq
    refine hs x (List.mem_of_getElem? hx) _ k _ _ ⟨f x, _, n, rfl, hD, by omega, fun b o e => ?_, (if decide (f x ∈ (xs.take i).map f) = true then n else n + 1), ?_, ?_⟩
    · rw [upd_ne (ne_of_none e nD)]; exact k _ _ e
    · split <;> omega
    · rw [upd_same]
      congr
      funext j
      rw [List.take_add_one, hx, Bool.eq_iff_iff]
      simp
  · have e : i = xs.length := by omega
    subst e
    rw [List.take_of_length_le (Nat.le_refl _)] at hD
    exact .inl ⟨⟨xs, hq, Nat.le_refl _⟩, hd H n k hD⟩
end
end Ph

namespace Ph
open PySem PySem.Spec PyProof.Rows L2
/-! ### comprehensions whose steps leave the heap as it is -/
section
variable {K : PySem.W.Frag} {a : Addr} {xs : List V} {g : TG} {tt : TT} {te : TE} {vs : List Nat} {σ : L2.St} {H1 : Hp} {D : Addr} {Qd : Hp → Prop}
abbrev Stp (g : TG) (tt : TT) (te : TE) (vs : List Nat) (σ : L2.St) (H1 : Hp) (f : V → Option V) (x : V) : Prop :=
  ∀ H, (∀ b o, H1 b = some o → H b = some o) → ∀ (Y : V → Hp → Prop) (N : Hp → Prop), (∀ y, f x = some y → Y y H) → (f x = none → N H) →
    g x (wipe σ vs) H fun σ2 H2 => wipe σ2 vs = wipe σ vs ∧ tt σ2 H2 fun b H3 => if b = true then te σ2 H3 Y else N H3
theorem take_filterMap {α β : Type} (f : α → Option β) {l : List α} {i : Nat} {x : α} (h : l[i]? = some x) : (l.take (i + 1)).filterMap f = (l.take i).filterMap f ++ (f x).toList := by
  rw [List.take_add_one, h, List.filterMap_append]
  congr 1
theorem fm_len {α β : Type} (f : α → Option β) (l : List α) (i : Nat) : ((l.take i).filterMap f).length ≤ l.length := by
  refine Nat.le_trans (List.length_filterMap_le _ _) ?_
  rw [List.length_take]
  omega
theorem lc_tupF (f : V → Option V) (ht : SqT K H1 a xs) (nD : H1 D = none) (hlen : xs.length < sizeLine) (hs : ∀ x ∈ xs, Stp g tt te vs σ H1 f x) (hd : ∀ H, (∀ b o, H1 b = some o → H b = some o) → H D = some (.lst (xs.filterMap f)) → Qd H) :
    ∃ W : Nat → Nat → Hp → Prop, (∃ m, W 0 m (upd H1 D (.lst []))) ∧ ∀ i m H, W i m H →
      ((Itt K a).stop i H ∧ Qd H) ∨ ((Itt K a).go i H ∧ ∃ Nx : Hp → Prop, (∀ H', Nx H' → ∃ m', m' < m ∧ W (i + 1) m' H') ∧ ∀ x H', (Itt K a).yld i H x H' → g x (wipe σ vs) H' fun σ2 H2 => wipe σ2 vs = wipe σ vs ∧ tt σ2 H2 fun b H3 =>
        if b = true then te σ2 H3 fun y H4 => ∃ acc, H4 D = some (.lst acc) ∧ acc.length < sizeLine ∧ Nx (upd H4 D (.lst (acc ++ [y]))) else Nx H3) := by
  refine lc_tup (K := K) (a := a) (xs := xs) (fun i H => (∀ b o, H1 b = some o → H b = some o) ∧ H D = some (.lst ((xs.take i).filterMap f))) ⟨fun b o e => ?_, ?_⟩ (fun i H _ p => ?_) (fun i x H hx p => ?_) (fun H p => ?_)
  · rw [upd_ne (ne_of_none e nD)]; exact e
  · rw [upd_same]; rfl
  · rcases ht with (h | ⟨o, h⟩) | h
    · exact .inl (.inl (p.1 _ _ h))
    · exact .inl (.inr ⟨o, p.1 _ _ h⟩)
    · exact .inr h
  · refine hs x (List.mem_of_getElem? hx) H p.1 _ _ (fun y ey => ⟨_, p.2, Nat.lt_of_le_of_lt (fm_len f xs i) hlen, fun b o e => ?_, ?_⟩) fun en => ⟨p.1, ?_⟩
    · rw [upd_ne (ne_of_none e nD)]; exact p.1 _ _ e
    · rw [upd_same, take_filterMap f hx, ey]; rfl
    · rw [take_filterMap f hx, en]; simpa using p.2
  · refine hd H p.1 ?_
    have := p.2
    rwa [List.take_of_length_le (Nat.le_refl _)] at this
theorem lc_listF (f : V → Option V) (ht : SqL K H1 a xs) (nD : H1 D = none) (hlen : xs.length < sizeLine) (hs : ∀ x ∈ xs, Stp g tt te vs σ H1 f x) (hd : ∀ H, (∀ b o, H1 b = some o → H b = some o) → H D = some (.lst (xs.filterMap f)) → Qd H) :
    ∃ W : Nat → Nat → Hp → Prop, (∃ m, W 0 m (upd H1 D (.lst []))) ∧ ∀ i m H, W i m H →
      ((Itl K a).stop i H ∧ Qd H) ∨ ((Itl K a).go i H ∧ ∃ Nx : Hp → Prop, (∀ H', Nx H' → ∃ m', m' < m ∧ W (i + 1) m' H') ∧ ∀ x H', (Itl K a).yld i H x H' → g x (wipe σ vs) H' fun σ2 H2 => wipe σ2 vs = wipe σ vs ∧ tt σ2 H2 fun b H3 =>
        if b = true then te σ2 H3 fun y H4 => ∃ acc, H4 D = some (.lst acc) ∧ acc.length < sizeLine ∧ Nx (upd H4 D (.lst (acc ++ [y]))) else Nx H3) := by
  refine lc_list (K := K) (a := a) (xs := xs) (fun i H => (∀ b o, H1 b = some o → H b = some o) ∧ H D = some (.lst ((xs.take i).filterMap f))) ⟨fun b o e => ?_, ?_⟩ (fun i H _ p => ?_) (fun i x H hx p => ?_) (fun H p => ?_)
  · rw [upd_ne (ne_of_none e nD)]; exact e
  · rw [upd_same]; rfl
  · rcases ht with (h | ⟨o, h⟩) | h
    · exact .inl (.inl (p.1 _ _ h))
    · exact .inl (.inr ⟨o, p.1 _ _ h⟩)
    · exact .inr h
  · refine hs x (List.mem_of_getElem? hx) H p.1 _ _ (fun y ey => ⟨_, p.2, Nat.lt_of_le_of_lt (fm_len f xs i) hlen, fun b o e => ?_, ?_⟩) fun en => ⟨p.1, ?_⟩
    · rw [upd_ne (ne_of_none e nD)]; exact p.1 _ _ e
    · rw [upd_same, take_filterMap f hx, ey]; rfl
    · rw [take_filterMap f hx, en]; simpa using p.2
  · refine hd H p.1 ?_
    have := p.2
    rwa [List.take_of_length_le (Nat.le_refl _)] at this
/-- over the keys of a dict that stands still -/
theorem lc_keysF {d : Addr} {od : Obj} {kvs : List (Key × V)} (f : V → Option V) (ht : H1 d = some (.frz od (.dK kvs))) (nD : H1 D = none) (hlen : kvs.length < sizeLine) (hs : ∀ x ∈ kvs.map (fun kv => kV kv.1), Stp g tt te vs σ H1 f x) (hd : ∀ H, (∀ b o, H1 b = some o → H b = some o) → H D = some (.lst ((kvs.map fun kv => kV kv.1).filterMap f)) → Qd H) :
    ∃ W : Nat → Nat → Hp → Prop, (∃ m, W 0 m (upd H1 D (.lst []))) ∧ ∀ i m H, W i m H →
      ((Itk d od kvs).stop i H ∧ Qd H) ∨ ((Itk d od kvs).go i H ∧ ∃ Nx : Hp → Prop, (∀ H', Nx H' → ∃ m', m' < m ∧ W (i + 1) m' H') ∧ ∀ x H', (Itk d od kvs).yld i H x H' → g x (wipe σ vs) H' fun σ2 H2 => wipe σ2 vs = wipe σ vs ∧ tt σ2 H2 fun b H3 =>
        if b = true then te σ2 H3 fun y H4 => ∃ acc, H4 D = some (.lst acc) ∧ acc.length < sizeLine ∧ Nx (upd H4 D (.lst (acc ++ [y]))) else Nx H3) := by
  refine lc_it walk_keys (fun i H => (∀ b o, H1 b = some o → H b = some o) ∧ H D = some (.lst (((kvs.map fun kv => kV kv.1).take i).filterMap f))) ⟨fun b o e => ?_, ?_⟩ (fun i H _ p => p.1 _ _ ht) (fun i x H H' hi p y => ?_) (fun H p => ?_)
  · rw [upd_ne (ne_of_none e nD)]; exact e
  · rw [upd_same]; rfl
  · obtain ⟨rfl, k, v, hk, rfl⟩ := y
    have hx : (kvs.map fun kv => kV kv.1)[i]? = some (kV k) := by rw [List.getElem?_map, hk]; rfl
    refine hs _ (List.mem_of_getElem? hx) _ p.1 _ _ (fun y ey => ⟨_, p.2, Nat.lt_of_le_of_lt (fm_len f _ i) (by rw [List.length_map]; exact hlen), fun b o e => ?_, ?_⟩) fun en => ⟨p.1, ?_⟩
    · rw [upd_ne (ne_of_none e nD)]; exact p.1 _ _ e
    · rw [upd_same, take_filterMap f hx, ey]; rfl
    · rw [take_filterMap f hx, en]; simpa using p.2
  · refine hd H p.1 ?_
    have := p.2
    rwa [List.take_of_length_le (by rw [List.length_map]; exact Nat.le_refl _)] at this
end
end Ph

namespace Ph
open PySem PySem.Spec PyProof.Rows L2
/-! ### zip of a tuple and a list, in any mix (true: a tuple) -/
def SqK (k : Bool) (K : PySem.W.Frag) (H : Hp) (a : Addr) (xs : List V) : Prop := if k = true then SqT K H a xs else SqL K H a xs
def ItrK (k : Bool) (g : Heap) (j l : Addr) (n : Nat) : Prop := if k = true then g.IsTupleIter j l n else g.IsListIter j l n
def SeqK (k : Bool) (g : Heap) (l : Addr) (vs : Array Value) : Prop := if k = true then g.IsTuple l vs else g.IsList l vs
def itoK (k : Bool) (l : Addr) : Obj := if k = true then { cls := .type "tuple_iterator", data := .fields #[.ref l, .int 0 0] } else { cls := .type "list_iterator", data := .fields #[.ref l, .int 0 0] }
theorem ItrK.obj {k : Bool} {g : Heap} {j l : Addr} {n : Nat} (h : ItrK k g j l n) : ∃ o, g.get? j = some o ∧ ∀ v, o.data ≠ .cell v := by
  cases k <;> (obtain ⟨o, e, _, d⟩ := h; exact ⟨o, e, fun v q => by rw [d] at q; cases q⟩)
theorem ItrK.on {k : Bool} {g g' : Heap} {j l : Addr} {n : Nat} (h : ItrK k g j l n) (e : ∀ o, g.get? j = some o → g'.get? j = some o) : ItrK k g' j l n := by
  cases k
  · exact Heap.IsListIter.at h e
  · exact Heap.IsTupleIter.at h e
theorem drawK {P : Program} {w : World} {A : Around} (k : Bool) (hh : A.handled = none) (j l : Addr) (ne : l ≠ j) (vs : Array Value) :
    Draws P w A j [j, l] vs.size (fun i v => vs[i]? = some v) (fun i g => ItrK k g j l i ∧ SeqK k g l vs) := by
  cases k
  · exact Draws.list hh j l ne vs
  · exact Draws.tuple hh j l ne vs
theorem beginK (k : Bool) (l : Addr) (vs : Array Value) : Begins (.ref l) (itoK k l) fun g => SeqK k g l vs := by
  cases k
  · exact begins_list l vs
  · exact begins_tuple l vs
theorem itoK_it {k : Bool} {g : Heap} {j l : Addr} (h : g.get? j = some (itoK k l)) : ItrK k g j l 0 := by
  cases k <;> exact ⟨_, h, rfl, rfl⟩
theorem Inv.seqK {X : Cx} {pins : List (Addr × Obj)} {σ : L2.St} {H : Hp} {s : Shared} {k : Bool} {a : Addr} {xs : List V} (I : Inv X pins σ H s) (h : SqK k X.K H a xs) : ∃ vs : List Value, Vals xs vs ∧ SeqK k s.heap a vs.toArray ∧ a < s.heap.objs.size := by
  cases k
  · obtain ⟨vs, r, p, _⟩ := I.list h
    exact ⟨vs, r, p.isList, p.lt⟩
  · obtain ⟨vs, r, p, _⟩ := I.tuple h
    obtain ⟨o, e, _⟩ := id p
    exact ⟨vs, r, p, Heap.lt_size e⟩
theorem Inv.seqK_inj {X : Cx} {pins : List (Addr × Obj)} {σ : L2.St} {H : Hp} {s : Shared} {k : Bool} {a : Addr} {xs ys : List V} (I : Inv X pins σ H s) (h : SqK k X.K H a xs) (h2 : SqK k X.K H a ys) : xs = ys := by
  cases k
  · exact I.list_inj h h2
  · exact I.tuple_inj h h2
def ItzK (k1 k2 : Bool) (K : PySem.W.Frag) (a b : Addr) : It :=
  ⟨fun i H => ∃ (xs ys : List V) (x y : V), SqK k1 K H a xs ∧ SqK k2 K H b ys ∧ xs[i]? = some x ∧ ys[i]? = some y,
    fun i H v H2 => ∃ T x y, v = .ref T ∧ H T = none ∧ H2 = upd H T (.tup [x, y]) ∧ (∀ xs, SqK k1 K H a xs → xs[i]? = some x) ∧ ∀ ys, SqK k2 K H b ys → ys[i]? = some y,
    fun i H => ∃ xs ys : List V, SqK k1 K H a xs ∧ SqK k2 K H b ys ∧ i ≤ xs.length ∧ i ≤ ys.length ∧ (i = xs.length ∨ i = ys.length)⟩
theorem mem5 {c z t u j1 j2 : Addr} (h : c ∈ [z, t, u, j1, j2]) : c = z ∨ c = t ∨ c = u ∨ c = j1 ∨ c = j2 := by simpa using h
theorem turn_zipK {P : Program} {w : World} {K : PySem.W.Frag} {es : List Expr} {kk : Nat} {tp : Pos} {k1 k2 : Bool} {a b z t u j1 j2 : Addr} (D : ZipSep2 z t u j1 j2 [j1, a] [j2, b]) (n1 : a ≠ j1) (n2 : b ≠ j2) :
    Turn P w K (.Tuple es kk tp) (ItzK k1 k2 K a b) [z, t, u, j1, j2] z (fun i g => IsZip g z t u .none ∧ IsTupOf2 g t (.ref j1) (.ref j2) ∧ (∃ x y, IsTupOf2 g u x y) ∧ ItrK k1 g j1 a i ∧ ItrK k2 g j2 b i) where
  mem := List.mem_cons_self ..
  obj := fun i g st c hc => by
    obtain ⟨hz, ht, ⟨x, y, hu⟩, h1, h2⟩ := st
    rcases mem5 hc with rfl | rfl | rfl | rfl | rfl
    · exact ⟨_, hz, fun v q => nomatch q⟩
    · exact ⟨_, ht, fun v q => nomatch q⟩
    · exact ⟨_, hu, fun v q => nomatch q⟩
    · exact h1.obj
    · exact h2.obj
  keep := fun i g g2 st kp => by
    obtain ⟨hz, ht, ⟨x, y, hu⟩, h1, h2⟩ := st
    exact ⟨kp z (by simp) _ hz, kp t (by simp) _ ht, ⟨x, y, kp u (by simp) _ hu⟩, h1.on fun o => kp j1 (by simp) o, h2.on fun o => kp j2 (by simp) o⟩
  item := by
    intro X eP ew eK hc i pins s σ H E I hf st hg
    subst eP ew eK
    obtain ⟨hz, ht, ⟨x0, y0, hu⟩, h1, h2⟩ := st
    obtain ⟨xs, ys, x, y, qx, qy, gx, gy⟩ := hg
    obtain ⟨vs, r1, p1, _⟩ := Inv.seqK I qx
    obtain ⟨vt, r2, p2, _⟩ := Inv.seqK I qy
    obtain ⟨v1, gv1, rv1⟩ := r1.get gx
    obtain ⟨v2, gv2, rv2⟩ := r2.get gy
    have zl : z < s.heap.objs.size := Heap.lt_size hz
    have l1 : i < vs.toArray.size := by
      have := (List.getElem?_eq_some_iff.mp gv1).1
      simpa using this
    have l2 : i < vt.toArray.size := by
      have := (List.getElem?_eq_some_iff.mp gv2).1
      simpa using this
    have hh : X.A.in1.handled = none := I.ok.hd hc
    refine wpAny_pyNext_zipD2_item D (drawK k1 hh j1 a n1 vs.toArray) (drawK k2 hh j2 b n2 vt.toArray) hz ht hu ⟨h1, p1⟩ ⟨h2, p2⟩ l1 l2 fun y1 y2 g tk e1 e2 hz1 hu1 st1 st2 hT hsz hk => ?_
    have f1 : y1 = v1 := by
      have q : vs.toArray[i]? = some v1 := by simpa using gv1
      rw [q] at e1
      exact (Option.some.inj e1).symm
    have f2 : y2 = v2 := by
      have q : vt.toArray[i]? = some v2 := by simpa using gv2
      rw [q] at e2
      exact (Option.some.inj e2).symm
    subst f1 f2
    refine ⟨_, rfl, wpAny_letOwnedTupleGo_zip (s := { s with heap := g, toks := tk }) hz1 fun g2 hz2 sb => ?_⟩
    have hT2 : g2.get? s.heap.objs.size = some { cls := .type "tuple", data := .seq #[y1, y2] } := (sb.2 _ (Nat.ne_of_gt zl)).trans hT
    have new : ObjOk X.prog X.w (upd H s.heap.objs.size (.tup [x, y])) g2 s.heap.objs.size (.tup [x, y]) :=
      ⟨(by show 2 ≤ sizeLine; decide), [y1, y2], .cons rv1 (.cons rv2 .nil), ⟨_, hT2, rfl, _, rfl⟩⟩
    have I1 : Inv X pins σ (upd H s.heap.objs.size (.tup [x, y])) { s with heap := g2, toks := tk } :=
      I.turnedNew (t' := tk) (ch := [z, t, u, j1, j2]) (fun c o nb q => (sb.2 c (fun e => nb (by simp [e]))).trans (hk c o (fun e => nb (by simp [e])) (fun e => nb (by simp [e])) (fun e => nb (by simp [e])) (fun e => nb (by simp [e])) q)) hf (Nat.le_refl _) new
    refine ⟨.ref s.heap.objs.size, _, I1, rfl, ⟨_, x, y, rfl, I.hok.fresh (Nat.le_refl _), rfl, fun l hl => by rw [Inv.seqK_inj I hl qx]; exact gx, fun l hl => by rw [Inv.seqK_inj I hl qy]; exact gy⟩, ⟨hz2, ?_, ⟨y1, y2, ?_⟩, ?_, ?_⟩, fun c hm => ?_⟩
    · exact (sb.2 _ D.TIz).trans (hk _ _ D.TIz D.TITO D.TIi1 D.TIi2 ht)
    · exact (sb.2 _ D.TOz).trans hu1
    · exact st1.1.on fun o q => (sb.2 _ D.zi1.symm).trans q
    · exact st2.1.on fun o q => (sb.2 _ D.zi2.symm).trans q
    · have lt : c < s.heap.objs.size := by
        rcases mem5 hm with rfl | rfl | rfl | rfl | rfl
        · exact zl
        · exact Heap.lt_size ht
        · exact Heap.lt_size hu
        · obtain ⟨_, e, _⟩ := h1.obj
          exact Heap.lt_size e
        · obtain ⟨_, e, _⟩ := h2.obj
          exact Heap.lt_size e
      rw [upd_ne (Nat.ne_of_lt lt)]
      exact (hf c hm).1
  done := by
    intro X eP ew eK hc i pins s σ H E I hf st hg
    subst eP ew eK
    obtain ⟨hz, ht, ⟨x0, y0, hu⟩, h1, h2⟩ := st
    obtain ⟨xs, ys, qx, qy, le1, le2, hend⟩ := hg
    obtain ⟨vs, r1, p1, _⟩ := Inv.seqK I qx
    obtain ⟨vt, r2, p2, _⟩ := Inv.seqK I qy
    have m1 := r1.length
    have m2 := r2.length
    have hh : X.A.in1.handled = none := I.ok.hd hc
    have s1 : vs.toArray.size = xs.length := by simp [m1]
    have s2 : vt.toArray.size = ys.length := by simp [m2]
    exact wpAny_pyNext_zipD2_end D (drawK k1 hh j1 a n1 vs.toArray) (drawK k2 hh j2 b n2 vt.toArray) hz ht hu ⟨h1, p1⟩ ⟨h2, p2⟩ (by rw [s1]; exact le1) (by rw [s2]; exact le2) (by rw [s1, s2]; exact hend) fun g tk hk =>
      ⟨rfl, I.turnedL (t' := tk) (ch := [z, t, u, j1, j2]) (fun c o nb q => hk c o (fun e => nb (by simp [e])) (fun e => nb (by simp [e])) (fun e => nb (by simp [e])) (fun e => nb (by simp [e])) q) hf⟩
  self := fun A i s Q E st h => wpAny_pyIter_zip st.1 h
def iZipK (k1 k2 : Bool) (K : PySem.W.Frag) (ta : TA) : TI := fun σ H R => ta σ H fun us H1 => ∃ a b xs ys, us = [.ref a, .ref b] ∧ SqK k1 K H1 a xs ∧ SqK k2 K H1 b ys ∧ R (ItzK k1 k2 K a b) H1
theorem pi_zipK {k1 k2 : Bool} {X : Cx} {e e2 : Expr} {ta : TA} {p pos tp : Pos} {es : List Expr} {kk : Nat} (hg : Gl X "zip") (hm : X.mg "zip" = none) (ha : PA X [e, e2] ta)
    (hs : starEach [e, e2] X.env = (false, eval e X.env) :: starEach [e2] X.env := by rfl) (hp : (backTo pos (starEach [e2] X.env)).any (·.1) = false := by rfl) :
    PI X (.Tuple es kk tp) (.Call (.Name "zip" p) [e, e2] [] pos) (iZipK k1 k2 X.K ta) := by
  refine ⟨fun pins s σ H R I h => ?_⟩
  refine Call_ (ld_blt I hg hm PyProof.Rows.boot_zip (PyProof.Rows.callWith_type1 (thn (ha.run pos pins s σ H _ I h) fun us s1 ⟨vs, H1, I1, rs, q1⟩ => ?_) hs hp))
  obtain ⟨a, b, xs, ys, rfl, qx, qy, q⟩ := q1
  cases rs with
  | cons r rr =>
    cases rr with
    | cons r2 rr =>
      cases rr
      cases r
      cases r2
      obtain ⟨va, _, p1, la⟩ := Inv.seqK I1 qx
      obtain ⟨vb, _, p2, lb⟩ := Inv.seqK I1 qy
      refine zip_begins2 (beginK k1 a va.toArray) (beginK k2 b vb.toArray) p1 p2 fun g hz ht hu g1 g2 hsz hk => wpAny_pyIter_zip hz ?_
      have I2 : Inv X pins σ H1 { s1 with heap := g } := I1.kept (t' := s1.toks) hk
      refine ⟨s1.heap.objs.size + 4, [s1.heap.objs.size + 4, s1.heap.objs.size + 2, s1.heap.objs.size + 3, s1.heap.objs.size, s1.heap.objs.size + 1], _, _, H1, rfl, I2, turn_zipK (k1 := k1) (k2 := k2) (zip_sep2 (fp1 := [a]) (fp2 := [b]) ?_ ?_) ?_ ?_, ⟨hz, ht, ⟨_, _, hu⟩, itoK_it g1, itoK_it g2⟩, fun c hm => ?_, q⟩
      · intro c hcm
        rw [List.mem_singleton.mp hcm]
        exact la
      · intro c hcm
        rw [List.mem_singleton.mp hcm]
        exact lb
      · exact Nat.ne_of_lt la
      · exact Nat.ne_of_lt (Nat.lt_succ_of_lt lb)
      · have le : s1.heap.objs.size ≤ c := by
          rcases mem5 hm with rfl | rfl | rfl | rfl | rfl <;> first | exact Nat.le_add_right _ _ | exact Nat.le_refl _
        exact I1.fpOk le (I1.hok.fresh le)
/-- a loop over such a zip -/
theorem for_zipK {k1 k2 : Bool} {K : PySem.W.Frag} {a b : Addr} {xs ys : List V} {g : TG} {tb : TS} {D : Ends} {σ : L2.St} {H : Hp} (n : Nat) (hn : n = min xs.length ys.length) (Pv : Nat → L2.St → Hp → Prop) (h0 : Pv 0 σ H) (hq : ∀ i σ H, Pv i σ H → SqK k1 K H a xs ∧ SqK k2 K H b ys)
    (hs : ∀ (i : Nat) (x y : V) (T : Addr) (σ : L2.St) (H : Hp), i < n → xs[i]? = some x → ys[i]? = some y → Pv i σ H → H T = none → g (.ref T) σ (upd H T (.tup [x, y])) fun σ2 H2 => tb { D with nx := Pv (i + 1), ct := Pv (i + 1), bk := D.nx } σ2 H2) (hd : ∀ σ H, Pv n σ H → D.nx σ H) :
    ∃ W : Nat → Nat → L2.St → Hp → Prop, (∃ m, W 0 m σ H) ∧ ∀ i m σ H, W i m σ H →
      ((ItzK k1 k2 K a b).stop i H ∧ D.nx σ H) ∨ ((ItzK k1 k2 K a b).go i H ∧ ∃ N : L2.St → Hp → Prop, (∀ σ' H', N σ' H' → ∃ m', m' < m ∧ W (i + 1) m' σ' H') ∧ ∀ v H', (ItzK k1 k2 K a b).yld i H v H' → g v σ H' fun σ2 H2 => tb { D with nx := N, ct := N, bk := D.nx } σ2 H2) := by
  refine ⟨fun i m σ H => m = n - i ∧ i ≤ n ∧ Pv i σ H, ⟨n, rfl, Nat.zero_le _, h0⟩, ?_⟩
  rintro i m σ H ⟨rfl, hi, p⟩
  obtain ⟨qx, qy⟩ := hq i σ H p
  rcases Nat.lt_or_ge i n with lt | ge
  · have l1 : i < xs.length := by omega
    have l2 : i < ys.length := by omega
    refine .inr ⟨⟨xs, ys, _, _, qx, qy, List.getElem?_eq_getElem l1, List.getElem?_eq_getElem l2⟩, Pv (i + 1), fun σ' H' p' => ⟨n - (i + 1), by omega, rfl, lt, p'⟩, fun v H' yl => ?_⟩
    obtain ⟨T, x, y, rfl, nT, rfl, f1, f2⟩ := yl
    exact hs i x y T σ H lt (f1 xs qx) (f2 ys qy) p nT
  · have e : i = n := Nat.le_antisymm hi ge
    subst e
    exact .inl ⟨⟨xs, ys, qx, qy, by omega, by omega, by omega⟩, hd σ H p⟩
end Ph

namespace Ph
/-! ### the bounds, as sums over chunks -/
def cdw (x s : Nat) : Nat := (x + s - 1) / s
theorem lt_cdw {x s k : Nat} (h : 0 < s) : k < cdw x s ↔ k * s < x := by
  unfold cdw
  show k + 1 ≤ _ ↔ _
  rw [Nat.le_div_iff_mul_le h, Nat.add_mul, Nat.one_mul]
  omega
theorem cdw_mono {x y s : Nat} (h : x ≤ y) : cdw x s ≤ cdw y s := Nat.div_le_div_right (by omega)
theorem cdw_mul {n s : Nat} (h : 0 < s) : cdw (n * s) s = n := by
  unfold cdw
  rw [Nat.div_eq_iff (by omega)]
  have : n * s + s = (n + 1) * s := by rw [Nat.add_mul, Nat.one_mul]
  omega
theorem le_cdw {x s : Nat} (h : 0 < s) : x ≤ cdw x s * s := by
  by_cases c : x ≤ cdw x s * s
  · exact c
  · have := (lt_cdw (x := x) (k := cdw x s) h).mpr (by omega)
    omega
theorem cdw_lt {x s : Nat} (h : 0 < s) : cdw x s * s < x + s := by
  cases e : cdw x s with
  | zero => omega
  | succ k =>
    have := (lt_cdw (x := x) (k := k) h).mp (by omega)
    rw [Nat.add_mul, Nat.one_mul]
    omega
def sm (f : Nat → Nat) : Nat → Nat
  | 0 => 0
  | n + 1 => sm f n + f n
theorem sm_mono {f : Nat → Nat} {a : Nat} : ∀ {c : Nat}, a ≤ c → sm f a ≤ sm f c
  | 0, h => by rw [Nat.le_zero.mp h]; exact Nat.le_refl _
  | c + 1, h => by
    rcases Nat.lt_or_ge a (c + 1) with z | z
    · exact Nat.le_trans (sm_mono (Nat.le_of_lt_succ z)) (Nat.le_add_right _ _)
    · rw [Nat.le_antisymm h z]; exact Nat.le_refl _
theorem sm_le {f g : Nat → Nat} : ∀ {n : Nat}, (∀ k, k < n → f k ≤ g k) → sm f n ≤ sm g n
  | 0, _ => Nat.le_refl _
  | n + 1, h => Nat.add_le_add (sm_le fun k hk => h k (Nat.lt_succ_of_lt hk)) (h n (Nat.lt_succ_self n))
theorem sm_congr {f g : Nat → Nat} : ∀ {n : Nat}, (∀ k, k < n → f k = g k) → sm f n = sm g n
  | 0, _ => rfl
  | n + 1, h => by
    show sm f n + f n = sm g n + g n
    rw [sm_congr fun k hk => h k (Nat.lt_succ_of_lt hk), h n (Nat.lt_succ_self n)]
theorem sm_const {f : Nat → Nat} {a v : Nat} : ∀ {c : Nat}, a ≤ c → (∀ k, a ≤ k → k < c → f k = v) → sm f c = sm f a + v * (c - a)
  | 0, h, _ => by rw [Nat.le_zero.mp h]; rfl
  | c + 1, h, hf => by
    rcases Nat.lt_or_ge a (c + 1) with z | z
    · show sm f c + f c = _
      rw [sm_const (Nat.le_of_lt_succ z) fun k h1 h2 => hf k h1 (Nat.lt_succ_of_lt h2), hf c (Nat.le_of_lt_succ z) (Nat.lt_succ_self c), Nat.succ_sub (Nat.le_of_lt_succ z), Nat.mul_succ]
      omega
    · rw [Nat.le_antisymm h z]
      simp
theorem sm_ge {f : Nat → Nat} {v : Nat} : ∀ {n : Nat}, (∀ k, k < n → v ≤ f k) → n * v ≤ sm f n
  | 0, _ => by omega
  | n + 1, h => by
    have := sm_ge (n := n) fun k hk => h k (Nat.lt_succ_of_lt hk)
    have := h n (Nat.lt_succ_self n)
    show (n + 1) * v ≤ sm f n + f n
    rw [Nat.add_mul, Nat.one_mul]
    omega
/-- every r-th number alone -/
theorem sm_step {f : Nat → Nat} {r : Nat} (hr : 1 ≤ r) : ∀ {a n : Nat}, (a = 0 ∨ (a - 1) * r < n) → sm (fun k => f (k * r)) a ≤ sm f n
  | 0, _, _ => Nat.zero_le _
  | a + 1, n, h => by
    have h1 : a * r < n := by rcases h with z | z; · omega
                              · exact z
    have ih : sm (fun k => f (k * r)) a ≤ sm f (a * r) := by
      refine sm_step hr ?_
      cases a with
      | zero => exact .inl rfl
      | succ a => 
        right
        show a * r < (a + 1) * r
        rw [Nat.add_mul, Nat.one_mul]
        omega
    show sm _ a + f (a * r) ≤ _
    exact Nat.le_trans (Nat.add_le_add_right ih _) (sm_mono (f := f) (a := a * r + 1) h1)
/-- the class of the blocks that reach x: the first below i whose number is greater -/
def cls (b : Nat → Nat) : Nat → Nat → Nat
  | 0, _ => 0
  | i + 1, x => if cls b i x < i then cls b i x else if x < b i then i else i + 1
theorem cls_le (b : Nat → Nat) : ∀ (i x : Nat), cls b i x ≤ i
  | 0, _ => Nat.le_refl _
  | i + 1, x => by
    have := cls_le b i x
    unfold cls
    split
    · omega
    · split <;> omega
theorem cls_hi {b : Nat → Nat} : ∀ {i x : Nat}, cls b i x < i → x < b (cls b i x)
  | 0, _, h => absurd h (by omega)
  | i + 1, x, h => by
    unfold cls at h ⊢
    split
    · rename_i c
      exact cls_hi c
    · rename_i c
      rw [if_neg c] at h
      split
      · rename_i c2
        exact c2
      · rename_i c2
        rw [if_neg c2] at h
        omega
theorem cls_lo {b : Nat → Nat} : ∀ {i x j : Nat}, j < cls b i x → b j ≤ x
  | 0, _, _, h => absurd h (by unfold cls; omega)
  | i + 1, x, j, h => by
    have l := cls_le b i x
    unfold cls at h
    by_cases c : cls b i x < i
    · rw [if_pos c] at h
      exact cls_lo h
    · rw [if_neg c] at h
      by_cases c2 : x < b i
      · rw [if_pos c2] at h
        exact cls_lo (i := i) (by omega)
      · rw [if_neg c2] at h
        by_cases e : j = i
        · rw [e]; omega
        · exact cls_lo (i := i) (by omega)
theorem cls_eq {b : Nat → Nat} {i x j : Nat} (hj : j ≤ i) (lo : ∀ j', j' < j → b j' ≤ x) (hi : j < i → x < b j) : cls b i x = j := by
  have l := cls_le b i x
  rcases Nat.lt_trichotomy (cls b i x) j with z | z | z
  · have h1 := cls_hi (b := b) (i := i) (x := x) (by omega)
    have h2 := lo _ z
    omega
  · exact z
  · have h1 := cls_lo z
    have h2 := hi (by omega)
    omega
theorem cls_anti {b b' : Nat → Nat} {i x : Nat} (h : ∀ j, j < i → b j ≤ b' j) : cls b' i x ≤ cls b i x := by
  rcases Nat.lt_or_ge (cls b i x) (cls b' i x) with z | z
  · have l := cls_le b' i x
    have h1 := cls_hi (b := b) (i := i) (x := x) (by omega)
    have h2 := cls_lo z
    have h3 := h (cls b i x) (by omega)
    omega
  · exact z
def pvn (b : Nat → Nat) (t : Nat) : Nat → Nat
  | 0 => 0
  | j + 1 => cdw (b j) t
/-- the words that keep busy all chunks of t words before the numbers of the first i classes -/
def Lw (s b : Nat → Nat) (t i : Nat) : Nat := sm (fun j => s j * (pvn b t (j + 1) - pvn b t j)) i
theorem lw_sum {s b : Nat → Nat} {t i : Nat} (ht : 0 < t) (hm : ∀ j, j + 1 < i → b j ≤ b (j + 1)) : ∀ j, j ≤ i → Lw s b t j = sm (fun k => s (cls b i (k * t))) (pvn b t j)
  | 0, _ => rfl
  | j + 1, hj => by
    have mm : ∀ d j', j' + d + 1 = j → b j' ≤ b (j - 1) := by
      intro d
      induction d with
      | zero => intro j' e; have : j - 1 = j' := by omega
                rw [this]; exact Nat.le_refl _
      | succ d ih => intro j' e; exact Nat.le_trans (hm j' (by omega)) (ih (j' + 1) (by omega))
    have le : pvn b t j ≤ pvn b t (j + 1) := by
      cases j with
      | zero => exact Nat.zero_le _
      | succ j => exact cdw_mono (hm j (by omega))
    show Lw s b t j + s j * _ = _
    rw [lw_sum ht hm j (by omega), sm_const le (v := s j) fun k h1 h2 => ?_]
    have e : cls b i (k * t) = j := by
      refine cls_eq (by omega) (fun j' hj' => ?_) (fun _ => (lt_cdw ht).mp h2)
      cases j with
      | zero => omega
      | succ j0 =>
        have h3 : ¬ k * t < b j0 := fun h => by
          have := (lt_cdw ht).mpr h
          have h1' : cdw (b j0) t ≤ k := h1
          omega
        have h4 := mm (j0 - j') j' (by omega)
        show b j' ≤ k * t
        have : j0 + 1 - 1 = j0 := rfl
        rw [this] at h4
        omega
    rw [e]
structure CH (s : Nat → Nat) (m : Nat) : Prop where
  s0 : s 0 = 1
  dv : ∀ i, i + 1 < m → ∃ r, 1 ≤ r ∧ s (i + 1) = s i * r
theorem CH.pos {s : Nat → Nat} {m : Nat} (c : CH s m) : ∀ {i}, i < m → 1 ≤ s i
  | 0, _ => by rw [c.s0]; exact Nat.le_refl _
  | i + 1, h => by
    obtain ⟨r, hr, e⟩ := c.dv i h
    rw [e]
    exact Nat.le_trans (Nat.le_refl 1) (Nat.mul_le_mul (c.pos (by omega)) hr)
theorem CH.mono1 {s : Nat → Nat} {m i : Nat} (c : CH s m) (h : i + 1 < m) : s i ≤ s (i + 1) := by
  obtain ⟨r, hr, e⟩ := c.dv i h
  rw [e]
  exact Nat.le_mul_of_pos_right _ hr
theorem CH.mono {s : Nat → Nat} {m i : Nat} (c : CH s m) : ∀ {j}, i ≤ j → j < m → s i ≤ s j
  | 0, h, _ => by rw [Nat.le_zero.mp h]; exact Nat.le_refl _
  | j + 1, h, hj => by
    rcases Nat.lt_or_ge i (j + 1) with z | z
    · exact Nat.le_trans (c.mono (Nat.le_of_lt_succ z) (by omega)) (c.mono1 hj)
    · rw [Nat.le_antisymm h z]; exact Nat.le_refl _
theorem CH.dvd {s : Nat → Nat} {m i : Nat} (c : CH s m) : ∀ {j}, i ≤ j → j < m → ∃ r, 1 ≤ r ∧ s j = s i * r
  | 0, h, _ => by rw [Nat.le_zero.mp h]; exact ⟨1, Nat.le_refl _, by rw [Nat.mul_one]⟩
  | j + 1, h, hj => by
    rcases Nat.lt_or_ge i (j + 1) with z | z
    · obtain ⟨r, hr, e⟩ := c.dvd (Nat.le_of_lt_succ z) (by omega)
      obtain ⟨r2, hr2, e2⟩ := c.dv j hj
      exact ⟨r * r2, Nat.le_trans (Nat.le_refl 1) (Nat.mul_le_mul hr hr2), by rw [e2, e, Nat.mul_assoc]⟩
    · rw [Nat.le_antisymm h z]; exact ⟨1, Nat.le_refl _, by rw [Nat.mul_one]⟩
structure BD (s b : Nat → Nat) (m M : Nat) : Prop where
  b0 : b 0 = M
  bs : ∀ i, i + 1 < m → b (i + 1) = s (i + 1) * (cdw (b i) (s (i + 1)) + (M - Lw s b (s (i + 1)) (i + 1)) / s (i + 1))
def SS (s b : Nat → Nat) (i n : Nat) : Nat := sm (fun k => s (cls b i (k * s i))) n
section
variable {s b : Nat → Nat} {m M : Nat} (c : CH s m) (B : BD s b m M)
include c B
theorem BD.up {i : Nat} (h : i + 1 < m) : b i ≤ b (i + 1) := by
  have p := c.pos h
  rw [B.bs i h]
  have := le_cdw (x := b i) p
  rw [Nat.mul_comm] at this
  exact Nat.le_trans this (Nat.mul_le_mul_left _ (Nat.le_add_right _ _))
theorem BD.mono {i : Nat} : ∀ {j}, i ≤ j → j < m → b i ≤ b j
  | 0, h, _ => by rw [Nat.le_zero.mp h]; exact Nat.le_refl _
  | j + 1, h, hj => by
    rcases Nat.lt_or_ge i (j + 1) with z | z
    · exact Nat.le_trans (BD.mono (Nat.le_of_lt_succ z) (by omega)) (B.up c hj)
    · rw [Nat.le_antisymm h z]; exact Nat.le_refl _
theorem BD.num {i : Nat} (h : i < m) : b i / s i * s i = b i := by
  have p := c.pos h
  cases i with
  | zero => rw [c.s0]; omega
  | succ i => rw [B.bs i h, Nat.mul_div_cancel_left _ p, Nat.mul_comm]
theorem BD.ss_lw {i : Nat} (h : i < m) : Lw s b (s i) i = SS s b i (pvn b (s i) i) := lw_sum (s := s) (b := b) (c.pos h) (fun j hj => B.up c (by omega)) i (Nat.le_refl _)
theorem BD.key : ∀ {i : Nat}, i < m → SS s b i (b i / s i) ≤ M ∧ M < SS s b i (b i / s i) + s i ∧ Lw s b (s i) i ≤ M
  | 0, h => by
    have e : ∀ n, SS s b 0 n = n := fun n => by
      unfold SS
      rw [sm_const (f := fun k => s (cls b 0 (k * s 0))) (a := 0) (v := 1) (Nat.zero_le n) fun k _ _ => c.s0]
      show 0 + _ = _
      omega
    rw [e, c.s0, B.b0]
    refine ⟨by omega, by omega, Nat.zero_le _⟩
  | i + 1, h => by
    have p := c.pos h
    obtain ⟨k1, k2, k3⟩ := BD.key (i := i) (by omega)
    have hL : Lw s b (s (i + 1)) (i + 1) ≤ M := by
      rw [B.ss_lw c h]
      show SS s b (i + 1) (cdw (b i) (s (i + 1))) ≤ M
      obtain ⟨r, hr, er⟩ := c.dv i h
      refine Nat.le_trans (Nat.le_trans (m := sm (fun k => (fun q => s (cls b i (q * s i))) (k * r)) (cdw (b i) (s (i + 1)))) (sm_le fun k hk => ?_) (sm_step (f := fun q => s (cls b i (q * s i))) hr (n := b i / s i) ?_)) k1
      · have hk2 := (lt_cdw p).mp hk
        have e : k * s (i + 1) = k * r * s i := by rw [er, Nat.mul_assoc, Nat.mul_comm (s i) r]
        dsimp only
        rw [e] at hk2 ⊢
        have : cls b (i + 1) (k * r * s i) = cls b i (k * r * s i) := by
          have l := cls_le b i (k * r * s i)
          show (if cls b i (k * r * s i) < i then cls b i (k * r * s i) else if k * r * s i < b i then i else i + 1) = _
          split
          · rfl
          · omega
        rw [this]
        exact Nat.le_refl _
      · cases e : cdw (b i) (s (i + 1)) with
        | zero => exact .inl rfl
        | succ a =>
          right
          have h1 := (lt_cdw (x := b i) (k := a) p).mp (by omega)
          rw [er, Nat.mul_comm (s i) r, ← Nat.mul_assoc, ← B.num c (i := i) (by omega)] at h1
          exact Nat.lt_of_mul_lt_mul_right h1
    have hS : SS s b (i + 1) (b (i + 1) / s (i + 1)) = Lw s b (s (i + 1)) (i + 1) + s (i + 1) * ((M - Lw s b (s (i + 1)) (i + 1)) / s (i + 1)) := by
      rw [B.bs i h, Nat.mul_div_cancel_left _ p]
      generalize (M - Lw s b (s (i + 1)) (i + 1)) / s (i + 1) = d
      rw [B.ss_lw c h]
      show SS s b (i + 1) (cdw (b i) (s (i + 1)) + d) = SS s b (i + 1) (cdw (b i) (s (i + 1))) + _
      unfold SS
      rw [sm_const (a := cdw (b i) (s (i + 1))) (v := s (i + 1)) (Nat.le_add_right _ _) fun k h1 _ => ?_, Nat.add_sub_cancel_left]
      have e : cls b (i + 1) (k * s (i + 1)) = i + 1 := by
        refine cls_eq (Nat.le_refl _) (fun j hj => ?_) (fun z => absurd z (by omega))
        have h3 : ¬ k * s (i + 1) < b i := fun z => by
          have := (lt_cdw p).mpr z
          omega
        have := B.mono c (i := j) (j := i) (by omega) (by omega)
        omega
      rw [e]
    rw [hS]
    have d1 := Nat.div_mul_le_self (M - Lw s b (s (i + 1)) (i + 1)) (s (i + 1))
    have d2 := Nat.lt_div_mul_add (a := M - Lw s b (s (i + 1)) (i + 1)) p
    rw [Nat.mul_comm] at d1 d2
    exact ⟨by omega, by omega, hL⟩
theorem BD.iff {i n : Nat} (h : i < m) : n ≤ b i / s i ↔ SS s b i n ≤ M := by
  obtain ⟨k1, k2, k3⟩ := B.key c h
  constructor
  · intro z
    exact Nat.le_trans (sm_mono z) k1
  · intro z
    rcases Nat.lt_or_ge (b i / s i) n with y | y
    · have h1 : SS s b i (b i / s i + 1) ≤ SS s b i n := sm_mono y
      have h2 : SS s b i (b i / s i + 1) = SS s b i (b i / s i) + s i := by
        show _ + s (cls b i (b i / s i * s i)) = _
        rw [B.num c h, cls_eq (Nat.le_refl i) (fun j hj => B.mono c (by omega) h) (fun z => absurd z (by omega))]
        rfl
      omega
    · exact y
theorem BD.ge {i : Nat} (h : i < m) : M ≤ b i := by
  have := B.mono c (i := 0) (Nat.zero_le i) h
  rw [B.b0] at this
  exact this
omit B in
theorem SS_anti {t b' : Nat → Nat} {i i' n : Nat} (hs : s i = t i') (h : ∀ k, t (cls b' i' (k * s i)) ≤ s (cls b i (k * s i))) : SS t b' i' n ≤ SS s b i n := by
  unfold SS
  rw [← hs]
  exact sm_le fun k _ => h k
omit B in
/-- fewer live words never reach further -/
theorem BD.le {b' : Nat → Nat} {M' : Nat} (B : BD s b m M) (B' : BD s b' m M') (h : M ≤ M') : ∀ i, i < m → b i ≤ b' i := by
  intro i
  induction i using Nat.strongRecOn with
  | ind i ih =>
    intro hi
    have h1 : b i / s i ≤ b' i / s i := by
      rw [B'.iff c hi]
      refine Nat.le_trans (SS_anti c rfl fun k => ?_) (Nat.le_trans ((B.key c hi).1) h)
      refine c.mono (cls_anti fun j hj => ih j hj (by omega)) ?_
      have := cls_le b i (k * s i)
      omega
    rw [← B.num c hi, ← B'.num c hi]
    exact Nat.mul_le_mul_right _ h1
omit B in
/-- a page more of words needs a page more -/
theorem BD.more {b' : Nat → Nat} {i : Nat} (B : BD s b m M) (hi : i < m) (B' : BD s b' m (M + s i)) : b i / s i + 1 ≤ b' i / s i := by
  rw [B'.iff c hi]
  show SS s b' i (b i / s i) + s (cls b' i (b i / s i * s i)) ≤ _
  have h1 : SS s b' i (b i / s i) ≤ M := by
    refine Nat.le_trans (SS_anti c rfl fun k => ?_) ((B.key c hi).1)
    refine c.mono (cls_anti fun j hj => BD.le c B B' (Nat.le_add_right _ _) j (by omega)) ?_
    have := cls_le b i (k * s i)
    omega
  have h2 : s (cls b' i (b i / s i * s i)) ≤ s i := c.mono (cls_le _ _ _) hi
  omega
/-- with sizes left out no class reaches further -/
theorem BD.fewer {t b' σ : Nat → Nat} {p : Nat} (ct : CH t p) (B' : BD t b' p M) (e : ∀ a, a < p → t a = s (σ a)) (lt : ∀ a, a < p → σ a < m) (up : ∀ a a', a < a' → a' < p → σ a < σ a') : ∀ a, a < p → b' a ≤ b (σ a) := by
  intro a
  induction a using Nat.strongRecOn with
  | ind a ih =>
    intro ha
    have h1 : b' a / t a ≤ b (σ a) / s (σ a) := by
      rw [B.iff c (lt a ha)]
      refine Nat.le_trans (SS_anti ct (s := t) (t := s) (b := b') (b' := b) (i := a) (i' := σ a) (e a ha) fun k => ?_) ((B'.key ct ha).1)
      have l := cls_le b' a (k * t a)
      have l2 := cls_le b (σ a) (k * t a)
      rw [e _ (Nat.lt_of_le_of_lt l ha)]
      refine c.mono ?_ (lt _ (Nat.lt_of_le_of_lt l ha))
      rcases Nat.lt_or_ge (cls b' a (k * t a)) a with z | z
      · rcases Nat.lt_or_ge (σ (cls b' a (k * t a))) (cls b (σ a) (k * t a)) with y | y
        · have h2 := cls_hi z
          have h3 := ih _ z (by omega)
          have h4 := cls_lo y
          omega
        · exact y
      · rw [Nat.le_antisymm l z]
        exact l2
    rw [← B'.num ct ha, ← B.num c (lt a ha), e a ha]
    rw [e a ha] at h1
    exact Nat.mul_le_mul_right _ h1
/-- careless rules open at least as many pages -/
theorem BD.careless {i : Nat} (hi : i < m) (h0 : 0 < b i) : ∃ j, j ≤ i ∧ s j ≤ M ∧ (b i / s i - 1) * (s i / s j) + s j ≤ M := by
  have p := c.pos hi
  have hn := B.num c hi
  have n0 : 0 < b i / s i := by
    rcases Nat.eq_zero_or_pos (b i / s i) with z | z
    · rw [z] at hn; omega
    · exact z
  generalize hx : (b i / s i - 1) * s i = x
  have l := cls_le b i x
  have hj : cls b i x < m := by omega
  have pj := c.pos hj
  obtain ⟨r, hr, er⟩ := c.dvd l hi
  have hq : s i / s (cls b i x) = r := by rw [er]; exact Nat.mul_div_cancel_left _ pj
  rw [← hx] at hq er pj hj l
  rw [← hx] at *
  generalize hc : cls b i ((b i / s i - 1) * s i) = j at *
  have ex : (b i / s i - 1) * s i = (b i / s i - 1) * r * s j := by rw [er, Nat.mul_assoc, Nat.mul_comm (s j) r]
  have lo : ∀ j', j' < j → b j' ≤ (b i / s i - 1) * r * s j := fun j' hj' => by
    rw [← ex]
    exact cls_lo (by rw [hc]; exact hj')
  have h1 : (b i / s i - 1) * r + 1 ≤ b j / s j := by
    have h2 : (b i / s i - 1) * r * s j < b j := by
      rcases Nat.lt_or_ge j i with z | z
      · rw [← ex]
        have := cls_hi (b := b) (i := i) (x := (b i / s i - 1) * s i) (by omega)
        rw [hc] at this
        exact this
      · have : j = i := by omega
        rw [← ex, this, ← hn]
        have h3 : b i / s i * s i / s i = b i / s i := Nat.mul_div_cancel _ p
        rw [h3]
        exact Nat.mul_lt_mul_of_pos_right (by omega) p
    rw [← B.num c hj] at h2
    exact Nat.lt_of_mul_lt_mul_right h2
  rw [B.iff c hj] at h1
  have h3 : SS s b j ((b i / s i - 1) * r + 1) = SS s b j ((b i / s i - 1) * r) + s j := by
    show _ + s (cls b j ((b i / s i - 1) * r * s j)) = _
    rw [cls_eq (Nat.le_refl j) lo (fun z => absurd z (by omega))]
    rfl
  have h4 : (b i / s i - 1) * r * 1 ≤ SS s b j ((b i / s i - 1) * r) := sm_ge fun k _ => c.pos (Nat.lt_of_le_of_lt (cls_le _ _ _) hj)
  refine ⟨j, l, by omega, ?_⟩
  rw [hq]
  omega

theorem pvn_dv {t t' r : Nat} (ht : 0 < t) (hr : 1 ≤ r) (e : t' = t * r) {j : Nat} (hd : ∀ j', j' < j → ∃ q, b j' = t' * q) : pvn b t j = r * pvn b t' j := by
  cases j with
  | zero => rfl
  | succ j =>
    obtain ⟨q, hq⟩ := hd j (Nat.lt_succ_self j)
    show cdw (b j) t = r * cdw (b j) t'
    have p : 0 < t' := by rw [e]; exact Nat.mul_pos ht hr
    have e1 : b j = q * t' := by rw [hq, Nat.mul_comm]
    have e2 : b j = (r * q) * t := by rw [hq, e, Nat.mul_comm r q, Nat.mul_assoc, Nat.mul_comm q, Nat.mul_assoc, Nat.mul_comm t, Nat.mul_comm r q]; simp [Nat.mul_assoc, Nat.mul_comm, Nat.mul_left_comm]
    rw [e2, cdw_mul ht, ← e2, e1, cdw_mul p]
omit c B in
theorem sm_mulL {f g : Nat → Nat} {r : Nat} : ∀ {n : Nat}, (∀ k, k < n → f k = r * g k) → sm f n = r * sm g n
  | 0, _ => rfl
  | n + 1, h => by
    show sm f n + f n = r * (sm g n + g n)
    rw [sm_mulL fun k hk => h k (Nat.lt_succ_of_lt hk), h n (Nat.lt_succ_self n), Nat.mul_add]
/-- limits that are multiples of the page times each ratio -/
theorem BD.exact {p : Nat} (hp : p + 1 = m) (hM : ∀ i, i + 1 < m → ∃ r u, 1 ≤ r ∧ s (i + 1) = s i * r ∧ M = s p * r * u) (h0 : ∃ u, M = s p * u) :
    ∀ i, i < m → (∀ j, j ≤ i → ∃ q, b j = s p * q) ∧ Lw s b (s i) (i + 1) = M ∧ ∀ j, j + 1 ≤ i → b (j + 1) + M / (s (j + 1) / s j) = b j + M := by
  intro i
  induction i with
  | zero =>
    intro h
    refine ⟨fun j hj => ?_, ?_, fun j hj => absurd hj (by omega)⟩
    · rw [Nat.le_zero.mp hj, B.b0]
      exact h0
    · show 0 + s 0 * (cdw (b 0) (s 0) - 0) = M
      rw [c.s0, B.b0]
      have := cdw_mul (n := M) (s := 1) (by omega)
      rw [Nat.mul_one] at this
      rw [this]
      omega
  | succ i ih =>
    intro h
    obtain ⟨i1, i2, i3⟩ := ih (by omega)
    obtain ⟨r, u, hr, er, eM⟩ := hM i h
    have pi := c.pos (i := i) (by omega)
    have pt := c.pos h
    obtain ⟨v, hv, ev⟩ := c.dvd (i := i + 1) (j := p) (by omega) (by omega)
    have hd : ∀ j', j' < i + 1 → ∃ q, b j' = s (i + 1) * q := fun j' hj => by
      obtain ⟨q, hq⟩ := i1 j' (by omega)
      exact ⟨v * q, by rw [hq, ev, Nat.mul_assoc]⟩
    have eL : Lw s b (s i) (i + 1) = r * Lw s b (s (i + 1)) (i + 1) := by
      unfold Lw
      refine sm_mulL fun j hj => ?_
      rw [pvn_dv c B pi hr er (j := j + 1) fun j' hj' => hd j' (by omega), pvn_dv c B pi hr er (j := j) fun j' hj' => hd j' (by omega), ← Nat.mul_sub, Nat.mul_left_comm]
    have eq : Lw s b (s (i + 1)) (i + 1) = s p * u := by
      rw [i2, eM] at eL
      have : r * (s p * u) = r * Lw s b (s (i + 1)) (i + 1) := by rw [← eL, Nat.mul_left_comm, Nat.mul_assoc]
      exact (Nat.eq_of_mul_eq_mul_left (by omega) this).symm
    have eMr : M = r * (s p * u) := by rw [eM, Nat.mul_comm (s p) r, Nat.mul_assoc]
    have hle : s p * u ≤ M := by rw [eMr]; exact Nat.le_mul_of_pos_left _ (by omega)
    have eMs : M - s p * u = s (i + 1) * (v * ((r - 1) * u)) := by
      have : M = s p * u + (r - 1) * (s p * u) := by
        rw [eMr]
        conv => lhs; rw [show r = 1 + (r - 1) by omega, Nat.add_mul, Nat.one_mul]
      rw [this, Nat.add_sub_cancel_left, ev]
      simp [Nat.mul_assoc, Nat.mul_comm, Nat.mul_left_comm]
    obtain ⟨q, hq⟩ := hd i (by omega)
    have eb : b (i + 1) = b i + (M - s p * u) := by
      rw [B.bs i h, eq, eMs, Nat.mul_div_cancel_left _ pt, hq, Nat.mul_comm (s (i + 1)) q, cdw_mul pt, Nat.mul_add, Nat.mul_comm q]
    have er2 : s (i + 1) / s i = r := by rw [er]; exact Nat.mul_div_cancel_left _ pi
    have eMd : M / r = s p * u := by rw [eMr]; exact Nat.mul_div_cancel_left _ (by omega)
    refine ⟨fun j hj => ?_, ?_, fun j hj => ?_⟩
    · rcases Nat.lt_or_ge j (i + 1) with z | z
      · exact i1 j (by omega)
      · rw [Nat.le_antisymm hj z, eb]
        obtain ⟨q2, hq2⟩ := i1 i (Nat.le_refl _)
        obtain ⟨u2, hu2⟩ := h0
        refine ⟨q2 + (u2 - u), ?_⟩
        rw [Nat.mul_add, ← hq2, Nat.mul_sub, ← hu2]
    · show Lw s b (s (i + 1)) (i + 1) + s (i + 1) * (cdw (b (i + 1)) (s (i + 1)) - cdw (b i) (s (i + 1))) = M
      have e1 : b i = q * s (i + 1) := by rw [hq, Nat.mul_comm]
      have e2 : b (i + 1) = (q + v * ((r - 1) * u)) * s (i + 1) := by rw [eb, eMs, e1, Nat.add_mul, Nat.mul_comm (s (i + 1))]
      rw [e2, e1, cdw_mul pt, cdw_mul pt, Nat.add_sub_cancel_left, ← eMs, eq]
      omega
    · rcases Nat.lt_or_ge j i with z | z
      · exact i3 j (by omega)
      · have : j = i := by omega
        rw [this, er2, eMd, eb]
        omega
omit c B in
theorem cls_up {i x y : Nat} (h : x ≤ y) : cls b i x ≤ cls b i y := by
  rcases Nat.lt_or_ge (cls b i y) (cls b i x) with z | z
  · have l := cls_le b i x
    have h1 := cls_hi (b := b) (i := i) (x := y) (by omega)
    have h2 := cls_lo z
    omega
  · exact z
omit c B in
theorem sm_group {f : Nat → Nat} {r : Nat} (hr : 1 ≤ r) (hf : ∀ x y, x ≤ y → f x ≤ f y) : ∀ K, sm f (K * r + 1) ≤ r * sm (fun k => f (k * r)) (K + 1)
  | 0 => by
    show sm f (0 * r + 1) ≤ r * (0 + f (0 * r))
    rw [Nat.zero_mul, Nat.zero_add, Nat.zero_add]
    show 0 + f 0 ≤ r * f 0
    have := Nat.mul_le_mul_right (f 0) hr
    omega
  | K + 1 => by
    have ih := sm_group hr hf K
    have h2 : ∀ n, n ≤ r → sm f (K * r + 1 + n) ≤ sm f (K * r + 1) + n * f ((K + 1) * r) := by
      intro n
      induction n with
      | zero => intro _; show sm f (K * r + 1) ≤ _; omega
      | succ n ih =>
        intro hn
        have h1 := ih (by omega)
        have h3 : f (K * r + 1 + n) ≤ f ((K + 1) * r) := hf _ _ (by rw [Nat.add_mul, Nat.one_mul]; omega)
        show sm f (K * r + 1 + n) + f (K * r + 1 + n) ≤ _
        rw [Nat.add_mul, Nat.one_mul]
        omega
    have h3 := h2 r (Nat.le_refl _)
    have e : (K + 1) * r + 1 = K * r + 1 + r := by rw [Nat.add_mul, Nat.one_mul]; omega
    rw [e]
    show _ ≤ r * (sm _ (K + 1) + f ((K + 1) * r))
    rw [Nat.mul_add]
    omega
/-- the bounds without rounding, and two sizes more -/
theorem BD.smooth {i r : Nat} (h : i + 1 < m) (hr : 1 ≤ r) (er : s (i + 1) = s i * r) : r * b (i + 1) + M ≤ r * b i + r * M + 2 * (r * s (i + 1)) := by
  have p := c.pos h
  have pi := c.pos (i := i) (by omega)
  obtain ⟨k1, k2, k3⟩ := B.key c (i := i) (by omega)
  obtain ⟨j1, j2, j3⟩ := B.key c h
  have hb : b (i + 1) + Lw s b (s (i + 1)) (i + 1) ≤ b i + s (i + 1) + M := by
    rw [B.bs i h, Nat.mul_add]
    have h1 := cdw_lt (x := b i) p
    have h2 := Nat.div_mul_le_self (M - Lw s b (s (i + 1)) (i + 1)) (s (i + 1))
    rw [Nat.mul_comm] at h1 h2
    omega
  have hf : ∀ x y, x ≤ y → s (cls b i (x * s i)) ≤ s (cls b i (y * s i)) := fun x y hxy => c.mono (cls_up (Nat.mul_le_mul_right _ hxy)) (Nat.lt_of_le_of_lt (cls_le _ _ _) (by omega))
  have hl : M ≤ r * Lw s b (s (i + 1)) (i + 1) + s (i + 1) := by
    rw [B.ss_lw c h]
    show M ≤ r * SS s b (i + 1) (cdw (b i) (s (i + 1))) + _
    have hn := B.num c (i := i) (by omega)
    cases e : cdw (b i) (s (i + 1)) with
    | zero =>
      have h1 : b i = 0 := by
        have := le_cdw (x := b i) p
        rw [e] at this
        omega
      have := B.ge c (i := i) (by omega)
      omega
    | succ K =>
      have g := sm_group hr hf K
      have e1 : SS s b (i + 1) (K + 1) = sm (fun k => s (cls b i (k * r * s i))) (K + 1) := by
        unfold SS
        refine sm_congr fun k hk => ?_
        have hk2 := (lt_cdw (x := b i) (k := k) p).mp (by omega)
        have e2 : k * s (i + 1) = k * r * s i := by rw [er, Nat.mul_assoc, Nat.mul_comm (s i) r]
        rw [e2] at hk2 ⊢
        have : cls b (i + 1) (k * r * s i) = cls b i (k * r * s i) := by
          have l := cls_le b i (k * r * s i)
          show (if cls b i (k * r * s i) < i then cls b i (k * r * s i) else if k * r * s i < b i then i else i + 1) = _
          split
          · rfl
          · omega
        rw [this]
      rw [e1]
      have hN : b i / s i ≤ (K * r + 1) + (r - 1) := by
        have h1 : b i ≤ (K + 1) * s (i + 1) := by
          have := le_cdw (x := b i) p
          rw [e] at this
          exact this
        have h2 : b i / s i * s i ≤ (K + 1) * r * s i := by
          rw [hn, Nat.mul_assoc, Nat.mul_comm r, ← er]
          exact h1
        have h3 := Nat.le_of_mul_le_mul_right h2 pi
        rw [Nat.add_mul, Nat.one_mul] at h3
        omega
      have hv : ∀ n, SS s b i ((K * r + 1) + n) ≤ SS s b i (K * r + 1) + n * s i := by
        intro n
        induction n with
        | zero => show SS s b i (K * r + 1) ≤ _; omega
        | succ n ih =>
          show SS s b i (K * r + 1 + n) + s (cls b i ((K * r + 1 + n) * s i)) ≤ _
          have := c.mono (cls_le b i ((K * r + 1 + n) * s i)) (by omega)
          have e3 : (n + 1) * s i = n * s i + s i := by rw [Nat.add_mul, Nat.one_mul]
          rw [e3]
          omega
      have h4 := hv (r - 1)
      have h5 : SS s b i (b i / s i) ≤ SS s b i ((K * r + 1) + (r - 1)) := sm_mono hN
      have h6 : (r - 1) * s i + s i = s (i + 1) := by
        rw [er, Nat.mul_comm (s i) r]
        conv => rhs; rw [show r = (r - 1) + 1 by omega, Nat.add_mul, Nat.one_mul]
      have h7 : SS s b i (K * r + 1) ≤ r * sm (fun k => s (cls b i (k * r * s i))) (K + 1) := g
      omega
  have h8 := Nat.mul_le_mul_left r hb
  rw [Nat.mul_add, Nat.mul_add, Nat.mul_add] at h8
  have h9 : s (i + 1) ≤ r * s (i + 1) := Nat.le_mul_of_pos_left _ hr
  omega
end
end Ph

namespace Ph
open PySem PySem.Spec PyProof.Rows L2
/-- the first m numbers of a row of numbers -/
def tl (s : Nat → Nat) (m : Nat) : List Int := (List.range m).map fun i => ((s i : Nat) : Int)
theorem tl_len (s : Nat → Nat) (m : Nat) : (tl s m).length = m := by unfold tl; simp
theorem tl_get {s : Nat → Nat} {m i : Nat} (h : i < m) : (tl s m)[i]? = some ((s i : Nat) : Int) := by
  unfold tl
  rw [List.getElem?_map, List.getElem?_range h]
  rfl
theorem tl_getV {s : Nat → Nat} {m i : Nat} (h : i < m) : ((tl s m).map V.int)[i]? = some (V.int ((s i : Nat) : Int)) := by
  rw [List.getElem?_map, tl_get h]
  rfl
theorem tl_succ (s : Nat → Nat) (m : Nat) : tl s (m + 1) = tl s m ++ [((s m : Nat) : Int)] := by
  unfold tl
  rw [List.range_succ, List.map_append]
  rfl
theorem tl_congr {s t : Nat → Nat} {m : Nat} (h : ∀ i, i < m → s i = t i) : tl s m = tl t m := by
  unfold tl
  refine List.map_congr_left fun i hi => ?_
  rw [h i (List.mem_range.mp hi)]
theorem tl_last {s : Nat → Nat} {m : Nat} : tl s (m + 1) = tl s m ++ [((s m : Nat) : Int)] := tl_succ s m
theorem tl_mem {s : Nat → Nat} {m : Nat} {x : Int} : x ∈ tl s m ↔ ∃ i, i < m ∧ x = ((s i : Nat) : Int) := by
  unfold tl
  rw [List.mem_map]
  constructor
  · rintro ⟨i, hi, e⟩
    exact ⟨i, List.mem_range.mp hi, e.symm⟩
  · rintro ⟨i, hi, e⟩
    exact ⟨i, List.mem_range.mpr hi, e.symm⟩
/-- every row of whole numbers from 0 is such a row -/
theorem tl_of {C : List Int} (h : ∀ x ∈ C, 0 ≤ x) : C = tl (fun i => (C.getD i 0).toNat) C.length := by
  apply List.ext_getElem?
  intro i
  rcases Nat.lt_or_ge i C.length with z | z
  · rw [tl_get z, List.getElem?_eq_getElem z]
    have h1 := h _ (List.getElem_mem z)
    have h2 : C.getD i 0 = C[i] := by simp [List.getD_eq_getElem?_getD, List.getElem?_eq_getElem z]
    rw [h2]
    congr 1
    omega
  · rw [List.getElem?_eq_none z, List.getElem?_eq_none (by rw [tl_len]; exact z)]
theorem up_cdw {n s : Nat} (hs : 0 < s) : -(-(n : Int) / (s : Int)) = ((cdw n s : Nat) : Int) := by
  have h1 := le_cdw (x := n) hs
  have h2 := cdw_lt (x := n) hs
  have e : -(n : Int) / (s : Int) = -((cdw n s : Nat) : Int) := by
    have hs' : (0 : Int) < s := by omega
    have h1' : (n : Int) ≤ (cdw n s : Nat) * (s : Int) := by exact_mod_cast h1
    have h2' : (cdw n s : Nat) * (s : Int) < (n : Int) + s := by exact_mod_cast h2
    apply Int.le_antisymm
    · have : -(n : Int) / (s : Int) < -((cdw n s : Nat) : Int) + 1 := by
        rw [Int.ediv_lt_iff_lt_mul hs', Int.add_mul, Int.neg_mul, Int.one_mul]
        omega
      omega
    · rw [Int.le_ediv_iff_mul_le hs', Int.neg_mul]
      omega
  rw [e]
  omega
theorem up2_cdw {n s : Nat} (hs : 0 < s) : ((n : Int) + (s : Int) - 1) / (s : Int) = ((cdw n s : Nat) : Int) := by
  unfold cdw
  have : (n : Int) + (s : Int) - 1 = ((n + s - 1 : Nat) : Int) := by omega
  rw [this]
  exact (Int.natCast_ediv _ _).symm
/-- the numbers, begun with reaches -/
def bls (s ρ : Nat → Nat) (M : Nat) : Nat → Nat → Nat
  | 0, _ => max M (ρ 0)
  | i + 1, j => if j = i + 1 then max (ρ (i + 1)) (s (i + 1) * (cdw (bls s ρ M i i) (s (i + 1)) + (M - Lw s (bls s ρ M i) (s (i + 1)) (i + 1)) / s (i + 1))) else bls s ρ M i j
def bfn (s ρ : Nat → Nat) (M j : Nat) : Nat := bls s ρ M j j
theorem bls_eq (s ρ : Nat → Nat) (M : Nat) : ∀ {i j : Nat}, j ≤ i → bls s ρ M i j = bfn s ρ M j
  | 0, j, h => by rw [Nat.le_zero.mp h]; rfl
  | i + 1, j, h => by
    rcases Nat.lt_or_ge j (i + 1) with z | z
    · rw [← bls_eq s ρ M (i := i) (j := j) (by omega)]
      show (if j = i + 1 then _ else _) = _
      rw [if_neg (by omega)]
    · rw [Nat.le_antisymm h z]; rfl
theorem pvn_congr {b b' : Nat → Nat} {t j : Nat} (h : ∀ i, i < j → b i = b' i) : pvn b t j = pvn b' t j := by
  cases j with
  | zero => rfl
  | succ j => show cdw _ _ = cdw _ _; rw [h j (Nat.lt_succ_self j)]
theorem lw_congr {s b b' : Nat → Nat} {t i : Nat} (h : ∀ j, j < i → b j = b' j) : Lw s b t i = Lw s b' t i := by
  unfold Lw
  refine sm_congr fun j hj => ?_
  rw [pvn_congr (j := j + 1) fun k hk => h k (by omega), pvn_congr (j := j) fun k hk => h k (by omega)]
theorem bfn_zero (s ρ : Nat → Nat) (M : Nat) : bfn s ρ M 0 = max M (ρ 0) := rfl
theorem bfn_succ (s ρ : Nat → Nat) (M i : Nat) : bfn s ρ M (i + 1) = max (ρ (i + 1)) (s (i + 1) * (cdw (bfn s ρ M i) (s (i + 1)) + (M - Lw s (bfn s ρ M) (s (i + 1)) (i + 1)) / s (i + 1))) := by
  show (if i + 1 = i + 1 then _ else _) = _
  rw [if_pos rfl, lw_congr fun j hj => bls_eq s ρ M (i := i) (j := j) (by omega)]
  rfl
theorem bd_bfn (s : Nat → Nat) (m M : Nat) : BD s (bfn s (fun _ => 0) M) m M := by
  refine ⟨?_, fun i hi => ?_⟩
  · rw [bfn_zero]; exact Nat.max_eq_left (Nat.zero_le _)
  · rw [bfn_succ]; exact Nat.max_eq_right (Nat.zero_le _)
theorem bfn_up {s ρ : Nat → Nat} {M i : Nat} (h : 0 < s (i + 1)) : bfn s ρ M i ≤ bfn s ρ M (i + 1) := by
  rw [bfn_succ]
  have := le_cdw (x := bfn s ρ M i) h
  rw [Nat.mul_comm] at this
  exact Nat.le_trans (Nat.le_trans this (Nat.mul_le_mul_left _ (Nat.le_add_right _ _))) (Nat.le_max_right _ _)
theorem BD.uniq {s b b' : Nat → Nat} {m M : Nat} (c : CH s m) (B : BD s b m M) (B' : BD s b' m M) {i : Nat} (h : i < m) : b i = b' i :=
  Nat.le_antisymm (BD.le c B B' (Nat.le_refl _) i h) (BD.le c B' B (Nat.le_refl _) i h)
end Ph

namespace Ph
open PySem PySem.Spec PyProof.Rows L2
/-! ### the pot -/
def But (p : Addr) (H H' : Hp) : Prop := ∀ b o, b ≠ p → H b = some o → H' b = some o
theorem But.refl (p : Addr) (H : Hp) : But p H H := fun _ _ _ h => h
theorem But.trans {p : Addr} {H H1 H2 : Hp} (a : But p H H1) (b : But p H1 H2) : But p H H2 := fun c o n h => b c o n (a c o n h)
theorem Same.but {p : Addr} {H H' : Hp} (a : Same H H') : But p H H' := fun b o _ h => a b o h
theorem same_upd {H : Hp} {p : Addr} {o : HO} (h : H p = none) : Same H (upd H p o) := fun b x e => by
  rw [upd_ne (ne_of_none e h)]
  exact e
theorem but_upd {H : Hp} {p : Addr} {o : HO} : But p H (upd H p o) := fun b x n e => by
  rw [upd_ne n]
  exact e
def mM : Int := 2305843009213693951
structure PotV (g r : Int) : Prop where
  g0 : 0 ≤ g
  g1 : g.natAbs < 2 ^ 3000
  r0 : 0 ≤ r
  r1 : r < 2305843009213693951
def Pot (H : Hp) (p : Addr) : Prop := ∃ g r : Int, H p = some (.lst [.int g, .int r]) ∧ PotV g r
theorem great_mod (x : Int) : 0 ≤ x % ten9 ∧ (x % ten9).natAbs < 2 ^ 3000 := by
  have p := ten9_pos
  have h0 : 0 ≤ x % ten9 := Int.emod_nonneg _ (by omega)
  exact ⟨h0, wide_le h0 (Int.le_of_lt (Int.emod_lt_of_pos _ p)) ten9_lt⟩
theorem great_mul (x : Int) (b : Bool) : CMulW (x % ten9) (if b = true then 1 else 0) :=
  wide_mul (b := 2) (great_mod x).2 (by cases b <;> decide) (by decide) (by decide) (by decide)
theorem great_pot (x : Int) (b : Bool) : 0 ≤ x % ten9 * (if b = true then 1 else 0) ∧ (x % ten9 * (if b = true then 1 else 0)).natAbs < 2 ^ 3000 := by
  cases b
  · rw [if_neg (by decide), Int.mul_zero]
    exact ⟨Int.le_refl _, Nat.pow_pos (by decide)⟩
  · rw [if_pos rfl, Int.mul_one]
    exact great_mod x
theorem But.seq {K : PySem.W.Frag} {p a : Addr} {H H' : Hp} {xs : List V} (b : But p H H') (n : a ≠ p) (h : SqL K H a xs) : SqL K H' a xs := by
  rcases h with (h | ⟨o, h⟩) | h
  · exact .inl (.inl (b _ _ n h))
  · exact .inl (.inr ⟨o, b _ _ n h⟩)
  · exact .inr h
theorem But.none {p a : Addr} {H H' : Hp} (b : But p H H') (n : a ≠ p) (h : H' a = none) : H a = none := by
  cases q : H a with
  | none => rfl
  | some o => rw [b a o n q] at h; cases h
theorem Pot.same {H H' : Hp} {p : Addr} (P : Pot H p) (s : Same H H') : Pot H' p := by
  obtain ⟨g, r, h, v⟩ := P
  exact ⟨g, r, s _ _ h, v⟩
theorem Pot.ne_none {H : Hp} {p q : Addr} (P : Pot H p) (h : H q = none) : p ≠ q := by
  obtain ⟨g, r, e, v⟩ := P
  exact ne_of_none e h
inductive Lnk (m : Int) : List Int → Int → Prop
  | one : Lnk m [1] 1
  | step {ns : List Int} {x r : Int} : Lnk m ns x → 2 ≤ r → r ≤ 6 → x * r ≤ m → ns.length < 12 → Lnk m (ns ++ [x * r]) (x * r)
theorem Lnk.pos {m x : Int} {ns : List Int} (h : Lnk m ns x) : 1 ≤ x := by
  induction h with
  | one => decide
  | step h h1 h2 h3 h4 ih =>
    have := Int.mul_le_mul ih h1 (by decide) (by omega)
    omega
theorem Lnk.last {m x : Int} {ns : List Int} (h : Lnk m ns x) : ∃ r, ns = r ++ [x] := by
  cases h with
  | one => exact ⟨[], rfl⟩
  | step h h1 h2 h3 h4 => exact ⟨_, rfl⟩
theorem Lnk.le {m x : Int} {ns : List Int} (h : Lnk m ns x) (hm : 1 ≤ m) : x ≤ m := by
  cases h with
  | one => exact hm
  | step h h1 h2 h3 h4 => exact h3
theorem Lnk.len {m x : Int} {ns : List Int} (h : Lnk m ns x) : 1 ≤ ns.length ∧ ns.length ≤ 12 := by
  cases h with
  | one => decide
  | step h h1 h2 h3 h4 => rw [List.length_append]; exact ⟨by simp, by simp; omega⟩
structure Nm5 (K : PySem.W.Frag) (mg : Str → Option Value) : Prop where
  len : mg "len" = none
  abs : mg "abs" = none
  int : mg "int" = none
  range : mg "range" = none
  tuple : mg "tuple" = none
  max : mg "max" = none
  min : mg "min" = none
  repr : mg "repr" = none
  isinstance : mg "isinstance" = none
  bool : mg "bool" = none
  all : mg "all" = none
  any : mg "any" = none
  list : mg "list" = none
  dict : mg "dict" = none
  sorted : mg "sorted" = none
  set : mg "set" = none
  sum : mg "sum" = none
  zip : mg "zip" = none
  dig : PySem.W.nsIn K cStatics "sys.int_max_str_digits" = some none
theorem _root_.L2.Same.tup {K : PySem.W.Frag} {H H' : Hp} {a : Addr} {xs : List V} (e : Same H H') (h : SqT K H a xs) : SqT K H' a xs := by
  rcases h with (h | ⟨o, h⟩) | h
  · exact .inl (.inl (e _ _ h))
  · exact .inl (.inr ⟨o, e _ _ h⟩)
  · exact .inr h
theorem But.tup {K : PySem.W.Frag} {p a : Addr} {H H' : Hp} {xs : List V} (b : But p H H') (n : a ≠ p) (h : SqT K H a xs) : SqT K H' a xs := by
  rcases h with (h | ⟨o, h⟩) | h
  · exact .inl (.inl (b _ _ n h))
  · exact .inl (.inr ⟨o, b _ _ n h⟩)
  · exact .inr h
theorem paired_imp {α β : Type} {F G : α → β → Prop} (h : ∀ a b, F a b → G a b) : ∀ {l : List α} {m : List β}, Paired F l m → Paired G l m
  | _, _, .nil => .nil
  | _, _, .cons x r => .cons (h _ _ x) (paired_imp h r)
/-! ### blocks in the heap -/
def BkAt (H : Hp) (x : V) (b : Int × Int) : Prop := ∃ t, x = .ref t ∧ H t = some (.tup [.int b.1, .int b.2])
def BL (H : Hp) (xs : List V) (bs : List (Int × Int)) : Prop := Paired (BkAt H) xs bs
theorem BL.mono {H H' : Hp} (h : ∀ t ys, H t = some (.tup ys) → H' t = some (.tup ys)) : ∀ {xs : List V} {bs : List (Int × Int)}, BL H xs bs → BL H' xs bs
  | _, _, .nil => .nil
  | _, _, .cons ⟨t, e1, e2⟩ r => .cons ⟨t, e1, h _ _ e2⟩ (BL.mono h r)
theorem BL.len {H : Hp} : ∀ {xs : List V} {bs : List (Int × Int)}, BL H xs bs → xs.length = bs.length
  | _, _, .nil => rfl
  | _, _, .cons _ r => by rw [List.length_cons, List.length_cons, BL.len r]
def kH (H : Hp) : V → Int × Int
  | .ref t => match H t with
    | some (.tup [.int a, .int s]) => (a, s)
    | _ => (0, 0)
  | _ => (0, 0)
theorem BkAt.k {H : Hp} {x : V} {b : Int × Int} (h : BkAt H x b) : kH H x = b := by
  obtain ⟨t, rfl, e⟩ := h
  show (match H t with
    | some (.tup [.int a, .int s]) => (a, s)
    | _ => (0, 0)) = b
  rw [e]
theorem BL.map {H : Hp} : ∀ {xs : List V} {bs : List (Int × Int)}, BL H xs bs → xs.map (kH H) = bs
  | _, _, .nil => rfl
  | _, _, .cons h r => by rw [List.map_cons, h.k, BL.map r]
theorem BL.all {H : Hp} : ∀ {xs : List V} {bs : List (Int × Int)}, BL H xs bs → ∀ x ∈ xs, ∃ b, BkAt H x b
  | _, _, .nil => fun x hx => by cases hx
  | _, _, .cons h r => fun x hx => by
    rcases List.mem_cons.mp hx with e | e
    · rw [e]; exact ⟨_, h⟩
    · exact BL.all r x e
theorem BL.of {H : Hp} : ∀ {xs : List V}, (∀ x ∈ xs, ∃ b, BkAt H x b) → BL H xs (xs.map (kH H))
  | [], _ => .nil
  | x :: r, h => by
    obtain ⟨b, hb⟩ := h x (List.mem_cons_self ..)
    rw [List.map_cons, hb.k]
    exact .cons hb (BL.of fun y hy => h y (List.mem_cons_of_mem _ hy))
def StAt (H : Hp) (t : Addr) (bs : List (Int × Int)) : Prop := ∃ xs, H t = some (.tup xs) ∧ BL H xs bs
theorem StAt.same {H H' : Hp} {t : Addr} {bs : List (Int × Int)} (h : StAt H t bs) (s : Same H H') : StAt H' t bs := by
  obtain ⟨xs, e, b⟩ := h
  exact ⟨xs, s _ _ e, b.mono fun t ys e => s _ _ e⟩
theorem Pot.netup {H : Hp} {p t : Addr} {xs : List V} (P : Pot H p) (e : H t = some (.tup xs)) : t ≠ p := fun z => by
  obtain ⟨g, r, e0, _⟩ := P
  rw [z, e0] at e
  cases e
theorem Pot.nefrz {H : Hp} {p t : Addr} {ob : Obj} {u : HO} (P : Pot H p) (e : H t = some (.frz ob u)) : t ≠ p := fun z => by
  obtain ⟨g, r, e0, _⟩ := P
  rw [z, e0] at e
  cases e
theorem ChAt.but {p : Addr} {H H' : Hp} {c : Addr} {C : List Int} (h : ChAt H c C) (b : But p H H') (P : Pot H p) : ChAt H' c C := let ⟨o, d, e⟩ := h; ⟨o, d, b _ _ (P.nefrz e) e⟩
theorem StAt.but {p : Addr} {H H' : Hp} {t : Addr} {bs : List (Int × Int)} (h : StAt H t bs) (b : But p H H') (P : Pot H p) : StAt H' t bs := by
  obtain ⟨xs, e, bl⟩ := h
  exact ⟨xs, b _ _ (P.netup e) e, bl.mono fun t ys e => b _ _ (P.netup e) e⟩
/-! ### states -/
def okB (C : List Int) (W : Int) (b : Int × Int) : Prop := b.2 ∈ C ∧ 1 ≤ b.2 ∧ 0 ≤ b.1 ∧ b.1 % b.2 = 0 ∧ b.1 + b.2 ≤ W
def apart (b c : Int × Int) : Prop := b.1 + b.2 ≤ c.1 ∨ c.1 + c.2 ≤ b.1
structure St (C : List Int) (W : Int) (bs : List (Int × Int)) : Prop where
  ok : ∀ b ∈ bs, okB C W b
  asc : bs.Pairwise fun b c => b.1 + b.2 ≤ c.1
theorem sorted_st {C : List Int} {W : Int} {bs cs : List (Int × Int)} (h1 : ∀ b ∈ bs, okB C W b) (h2 : bs.Pairwise apart) (hp : cs.Perm bs) (hs : cs.Pairwise fun x y => SrtO.lexB y x = false) : St C W cs := by
  have ok : ∀ b ∈ cs, okB C W b := fun b hb => h1 b (hp.mem_iff.mp hb)
  refine ⟨ok, ?_⟩
  have ap : cs.Pairwise apart := (hp.pairwise_iff (R := apart) (fun {x y} h => h.symm)).mpr h2
  refine (List.pairwise_and_iff.mpr ⟨ap, hs⟩).imp_of_mem fun {b c} hb hc h => ?_
  obtain ⟨h3, h4⟩ := h
  rcases h3 with h5 | h5
  · exact h5
  · exfalso
    obtain ⟨_, k1, _⟩ := ok c hc
    have : SrtO.lexB c b = true := by
      unfold SrtO.lexB
      simp
      rw [if_neg (by omega)]
      omega
    rw [this] at h4
    cases h4
abbrev Bk := Int × Int
def rch (l : Int) (bs : List Bk) : Int := mxd 0 ((bs.filter fun b => decide (b.2 ≤ l)).map fun b => b.1 + b.2)
theorem foldl_max : ∀ (l : List Int) (n : Int), (∀ x ∈ l, x ≤ l.foldl max n) ∧ n ≤ l.foldl max n ∧ (l.foldl max n = n ∨ l.foldl max n ∈ l)
  | [], n => ⟨(fun x hx => nomatch hx), Int.le_refl _, .inl rfl⟩
  | a :: r, n => by
    obtain ⟨h1, h2, h3⟩ := foldl_max r (max n a)
    rw [List.foldl_cons]
    refine ⟨fun x hx => ?_, by omega, ?_⟩
    · rcases List.mem_cons.mp hx with e | e
      · rw [e]; omega
      · exact h1 x e
    · rcases h3 with e | e
      · rcases (by omega : max n a = n ∨ max n a = a) with z | z
        · left; omega
        · right; rw [e, z]; exact List.mem_cons_self ..
      · right; exact List.mem_cons_of_mem _ e
theorem mxd_spec {l : List Int} (h : ∀ x ∈ l, 0 < x) : (l = [] ∧ mxd 0 l = 0) ∨ (mxd 0 l ∈ l ∧ ∀ x ∈ l, x ≤ mxd 0 l) := by
  cases l with
  | nil => exact .inl ⟨rfl, rfl⟩
  | cons n r =>
    right
    obtain ⟨h1, h2, h3⟩ := foldl_max r n
    show r.foldl max n ∈ n :: r ∧ ∀ x ∈ n :: r, x ≤ r.foldl max n
    refine ⟨?_, fun x hx => ?_⟩
    · rcases h3 with e | e
      · rw [e]; exact List.mem_cons_self ..
      · exact List.mem_cons_of_mem _ e
    · rcases List.mem_cons.mp hx with e | e
      · rw [e]; exact h2
      · exact h1 x e
/-! ### comprehensions whose steps lay new things -/
theorem lc_tupR {K : PySem.W.Frag} {a : Addr} {xs : List V} {g : TG} {te : TE} {vs : List Nat} {σ : L2.St} {H1 : Hp} {D : Addr} {Qd : Hp → Prop} (R : Hp → V → V → Prop) (mono : ∀ H H' x y, (∀ v zs, H v = some (.tup zs) → H' v = some (.tup zs)) → R H x y → R H' x y)
    (ht : SqT K H1 a xs) (nD : H1 D = none) (hlen : xs.length < sizeLine)
    (hs : ∀ x ∈ xs, ∀ H, Same H1 H → ∀ Y : V → Hp → Prop, (∀ y H', Same H H' → R H' x y → Y y H') → g x (wipe σ vs) H fun σ2 H2 => wipe σ2 vs = wipe σ vs ∧ te σ2 H2 Y)
    (hd : ∀ H ys, Same H1 H → H D = some (.lst ys) → Paired (R H) xs ys → Qd H) :
    ∃ W : Nat → Nat → Hp → Prop, (∃ m, W 0 m (upd H1 D (.lst []))) ∧ ∀ i m H, W i m H →
      ((Itt K a).stop i H ∧ Qd H) ∨ ((Itt K a).go i H ∧ ∃ Nx : Hp → Prop, (∀ H', Nx H' → ∃ m', m' < m ∧ W (i + 1) m' H') ∧ ∀ x H', (Itt K a).yld i H x H' → g x (wipe σ vs) H' fun σ2 H2 => wipe σ2 vs = wipe σ vs ∧ tYes σ2 H2 fun b H3 =>
        if b = true then te σ2 H3 fun y H4 => ∃ acc, H4 D = some (.lst acc) ∧ acc.length < sizeLine ∧ Nx (upd H4 D (.lst (acc ++ [y]))) else Nx H3) := by
  refine lc_tup (fun i H => Same H1 H ∧ ∃ ys, H D = some (.lst ys) ∧ Paired (R H) (xs.take i) ys) ⟨same_upd nD, [], upd_same, .nil⟩ (fun i H _ p => p.1.tup ht) (fun i x H hx p => ?_) (fun H p => ?_)
  · obtain ⟨sm, ys, hD, pr⟩ := p
    have hlen2 : ys.length < sizeLine := by
      have h1 := pr.length
      rw [List.length_take] at h1
      omega
    have := hs x (List.mem_of_getElem? hx) H sm (fun y H4 => ∃ acc, H4 D = some (.lst acc) ∧ acc.length < sizeLine ∧ (Same H1 (upd H4 D (.lst (acc ++ [y]))) ∧ ∃ ys, upd H4 D (.lst (acc ++ [y])) D = some (.lst ys) ∧ Paired (R (upd H4 D (.lst (acc ++ [y])))) (xs.take (i + 1)) ys)) (fun y H4 s4 r4 => ?_)
    · exact this
    · have hD4 := s4 _ _ hD
      have tk : ∀ v zs, H4 v = some (.tup zs) → upd H4 D (.lst (ys ++ [y])) v = some (.tup zs) := fun v zs e => by
        rw [upd_ne (ne_of e hD4 (by intro z; cases z))]
        exact e
      refine ⟨ys, hD4, hlen2, fun b o e => ?_, ys ++ [y], upd_same, ?_⟩
      · rw [upd_ne (ne_of_none e nD)]
        exact s4 _ _ (sm _ _ e)
      · rw [List.take_add_one, hx]
        exact Paired.snoc (paired_imp (fun a b h => mono _ _ _ _ (fun v zs e => tk v zs (s4 _ _ e)) h) pr) (mono _ _ _ _ tk r4)
  · obtain ⟨sm, ys, hD, pr⟩ := p
    rw [List.take_of_length_le (Nat.le_refl _)] at pr
    exact hd H ys sm hD pr
theorem paired_fun {α β : Type} {f : α → β} {F : α → β → Prop} (h : ∀ a b, F a b → b = f a) : ∀ {l : List α} {m : List β}, Paired F l m → m = l.map f
  | _, _, .nil => rfl
  | _, _, .cons x r => by rw [List.map_cons, h _ _ x, paired_fun h r]
theorem fm_if (p : Bk → Bool) (f : Bk → Int) (k : V → Bk) : ∀ xs : List V, xs.filterMap (fun x => if p (k x) = true then some (V.int (f (k x))) else none) = (((xs.map k).filter p).map f).map V.int
  | [] => rfl
  | x :: r => by
    have ih := fm_if p f k r
    by_cases c : p (k x) = true
    · rw [List.map_cons, List.filter_cons_of_pos c, List.map_cons, List.map_cons, ← ih, List.filterMap_cons_some (b := V.int (f (k x))) (by rw [if_pos c])]
    · rw [List.map_cons, List.filter_cons_of_neg c, ← ih, List.filterMap_cons_none (by rw [if_neg c])]
theorem u2_of {A : Around} {k : Nat} (hr : Room k A) : A.units + 2 < cLine := by have := hr.un; omega
def iV : V → Int
  | .int i => i
  | _ => 0
end Ph

namespace Ph
open PySem PySem.Spec PyProof.Rows L2
/-- a comprehension over zip of two tuples, the second one not longer -/
theorem lc_zipS {K : PySem.W.Frag} {a b : Addr} {xs ys : List V} {g : TG} {tt : TT} {te : TE} {vs : List Nat} {σ : L2.St} {H1 : Hp} {D : Addr} {Qd : Hp → Prop} (hl : ys.length ≤ xs.length) (Pv : Nat → Hp → Prop) (h0 : Pv 0 (upd H1 D (.lst []))) (hq : ∀ i H, Pv i H → SqT K H a xs ∧ SqT K H b ys)
    (hs : ∀ (i : Nat) (x y : V) (T : Addr) (H : Hp), xs[i]? = some x → ys[i]? = some y → Pv i H → H T = none → g (.ref T) (wipe σ vs) (upd H T (.tup [x, y])) fun σ2 H2 => wipe σ2 vs = wipe σ vs ∧ tt σ2 H2 fun b H3 =>
      if b = true then te σ2 H3 fun y H4 => ∃ acc, H4 D = some (.lst acc) ∧ acc.length < sizeLine ∧ Pv (i + 1) (upd H4 D (.lst (acc ++ [y]))) else Pv (i + 1) H3) (hd : ∀ H, Pv ys.length H → Qd H) :
    ∃ W : Nat → Nat → Hp → Prop, (∃ m, W 0 m (upd H1 D (.lst []))) ∧ ∀ i m H, W i m H →
      ((RZ.ItzT K a b).stop i H ∧ Qd H) ∨ ((RZ.ItzT K a b).go i H ∧ ∃ Nx : Hp → Prop, (∀ H', Nx H' → ∃ m', m' < m ∧ W (i + 1) m' H') ∧ ∀ x H', (RZ.ItzT K a b).yld i H x H' → g x (wipe σ vs) H' fun σ2 H2 => wipe σ2 vs = wipe σ vs ∧ tt σ2 H2 fun b H3 =>
        if b = true then te σ2 H3 fun y H4 => ∃ acc, H4 D = some (.lst acc) ∧ acc.length < sizeLine ∧ Nx (upd H4 D (.lst (acc ++ [y]))) else Nx H3) := by
  refine ⟨fun i m H => m = ys.length - i ∧ i ≤ ys.length ∧ Pv i H, ⟨ys.length, rfl, Nat.zero_le _, h0⟩, ?_⟩
  rintro i m H ⟨rfl, hi, p⟩
  obtain ⟨qx, qy⟩ := hq i H p
  by_cases hlt : i < ys.length
  · have hlt2 : i < xs.length := by omega
    refine .inr ⟨⟨xs, ys, _, _, qx, qy, List.getElem?_eq_getElem hlt2, List.getElem?_eq_getElem hlt⟩, Pv (i + 1), fun H' p' => ⟨ys.length - (i + 1), by omega, rfl, hlt, p'⟩, fun v H' y => ?_⟩
    obtain ⟨T, x', y', rfl, hT, rfl, f1, f2⟩ := y
    exact hs i x' y' T H (f1 xs qx) (f2 ys qy) p hT
  · have e : i = ys.length := by omega
    subst e
    exact .inl ⟨⟨xs, ys, qx, qy, Or.inr (Nat.le_refl _)⟩, hd H p⟩
end Ph

namespace Ph
open PySem PySem.Spec PyProof.Rows L2
/-! ### comprehensions whose items are known, whose steps may lay new things -/
theorem keepD {H1 H4 : Hp} {D : Addr} {o : HO} (nD : H1 D = none) (s : Same H1 H4) : Same H1 (upd H4 D o) := fun b u e => by
  rw [upd_ne (ne_of_none e nD)]
  exact s _ _ e
theorem lc_rgF {lo : Int} {n : Nat} {g : TG} {te : TE} {vs : List Nat} {σ : L2.St} {H1 : Hp} {D : Addr} {Qd : Hp → Prop} (f : Nat → V) (nD : H1 D = none) (hlen : n < sizeLine)
    (hs : ∀ i, i < n → ∀ H, Same H1 H → ∀ Y : V → Hp → Prop, (∀ H', Same H H' → Y (f i) H') → g (.int (lo + (i : Int))) (wipe σ vs) H fun σ2 H2 => wipe σ2 vs = wipe σ vs ∧ te σ2 H2 Y)
    (hd : ∀ H, Same H1 H → H D = some (.lst ((List.range n).map f)) → Qd H) :
    ∃ W : Nat → Nat → Hp → Prop, (∃ m, W 0 m (upd H1 D (.lst []))) ∧ ∀ i m H, W i m H →
      ((Itr lo n).stop i H ∧ Qd H) ∨ ((Itr lo n).go i H ∧ ∃ Nx : Hp → Prop, (∀ H', Nx H' → ∃ m', m' < m ∧ W (i + 1) m' H') ∧ ∀ x H', (Itr lo n).yld i H x H' → g x (wipe σ vs) H' fun σ2 H2 => wipe σ2 vs = wipe σ vs ∧ tYes σ2 H2 fun b H3 =>
        if b = true then te σ2 H3 fun y H4 => ∃ acc, H4 D = some (.lst acc) ∧ acc.length < sizeLine ∧ Nx (upd H4 D (.lst (acc ++ [y]))) else Nx H3) := by
  refine lc_range (fun i H => Same H1 H ∧ H D = some (.lst ((List.range i).map f))) ⟨same_upd nD, upd_same⟩ (fun i H hi p => ?_) (fun H p => hd H p.1 p.2)
  obtain ⟨sm, hD⟩ := p
  refine hs i hi H sm _ fun H4 s4 => ?_
  refine ⟨_, s4 _ _ hD, by rw [List.length_map, List.length_range]; omega, keepD nD (sm.trans s4), ?_⟩
  rw [upd_same, List.range_succ, List.map_append]
  rfl
theorem lc_lsF {K : PySem.W.Frag} {a : Addr} {xs : List V} {g : TG} {te : TE} {vs : List Nat} {σ : L2.St} {H1 : Hp} {D : Addr} {Qd : Hp → Prop} (f : V → V) (ha : SqL K H1 a xs) (nD : H1 D = none) (hlen : xs.length < sizeLine)
    (hs : ∀ x ∈ xs, ∀ H, Same H1 H → ∀ Y : V → Hp → Prop, (∀ H', Same H H' → Y (f x) H') → g x (wipe σ vs) H fun σ2 H2 => wipe σ2 vs = wipe σ vs ∧ te σ2 H2 Y)
    (hd : ∀ H, Same H1 H → H D = some (.lst (xs.map f)) → Qd H) :
    ∃ W : Nat → Nat → Hp → Prop, (∃ m, W 0 m (upd H1 D (.lst []))) ∧ ∀ i m H, W i m H →
      ((Itl K a).stop i H ∧ Qd H) ∨ ((Itl K a).go i H ∧ ∃ Nx : Hp → Prop, (∀ H', Nx H' → ∃ m', m' < m ∧ W (i + 1) m' H') ∧ ∀ x H', (Itl K a).yld i H x H' → g x (wipe σ vs) H' fun σ2 H2 => wipe σ2 vs = wipe σ vs ∧ tYes σ2 H2 fun b H3 =>
        if b = true then te σ2 H3 fun y H4 => ∃ acc, H4 D = some (.lst acc) ∧ acc.length < sizeLine ∧ Nx (upd H4 D (.lst (acc ++ [y]))) else Nx H3) := by
  refine lc_list (fun i H => Same H1 H ∧ H D = some (.lst ((xs.take i).map f))) ⟨same_upd nD, upd_same⟩ (fun i H _ p => p.1.seq ha) (fun i x H hx p => ?_) (fun H p => hd H p.1 (by rw [p.2, List.take_of_length_le (Nat.le_refl _)]))
  obtain ⟨sm, hD⟩ := p
  refine hs x (List.mem_of_getElem? hx) H sm _ fun H4 s4 => ?_
  refine ⟨_, s4 _ _ hD, by rw [List.length_map, List.length_take]; omega, keepD nD (sm.trans s4), ?_⟩
  rw [upd_same, List.take_add_one, hx, List.map_append]
  rfl
theorem lc_tpF {K : PySem.W.Frag} {a : Addr} {xs : List V} {g : TG} {te : TE} {vs : List Nat} {σ : L2.St} {H1 : Hp} {D : Addr} {Qd : Hp → Prop} (f : V → V) (ha : SqT K H1 a xs) (nD : H1 D = none) (hlen : xs.length < sizeLine)
    (hs : ∀ x ∈ xs, ∀ H, Same H1 H → ∀ Y : V → Hp → Prop, (∀ H', Same H H' → Y (f x) H') → g x (wipe σ vs) H fun σ2 H2 => wipe σ2 vs = wipe σ vs ∧ te σ2 H2 Y)
    (hd : ∀ H, Same H1 H → H D = some (.lst (xs.map f)) → Qd H) :
    ∃ W : Nat → Nat → Hp → Prop, (∃ m, W 0 m (upd H1 D (.lst []))) ∧ ∀ i m H, W i m H →
      ((Itt K a).stop i H ∧ Qd H) ∨ ((Itt K a).go i H ∧ ∃ Nx : Hp → Prop, (∀ H', Nx H' → ∃ m', m' < m ∧ W (i + 1) m' H') ∧ ∀ x H', (Itt K a).yld i H x H' → g x (wipe σ vs) H' fun σ2 H2 => wipe σ2 vs = wipe σ vs ∧ tYes σ2 H2 fun b H3 =>
        if b = true then te σ2 H3 fun y H4 => ∃ acc, H4 D = some (.lst acc) ∧ acc.length < sizeLine ∧ Nx (upd H4 D (.lst (acc ++ [y]))) else Nx H3) := by
  refine lc_tup (fun i H => Same H1 H ∧ H D = some (.lst ((xs.take i).map f))) ⟨same_upd nD, upd_same⟩ (fun i H _ p => p.1.tup ha) (fun i x H hx p => ?_) (fun H p => hd H p.1 (by rw [p.2, List.take_of_length_le (Nat.le_refl _)]))
  obtain ⟨sm, hD⟩ := p
  refine hs x (List.mem_of_getElem? hx) H sm _ fun H4 s4 => ?_
  refine ⟨_, s4 _ _ hD, by rw [List.length_map, List.length_take]; omega, keepD nD (sm.trans s4), ?_⟩
  rw [upd_same, List.take_add_one, hx, List.map_append]
  rfl
theorem lc_zpF {K : PySem.W.Frag} {a b : Addr} {xs ys : List V} {g : TG} {te : TE} {vs : List Nat} {σ : L2.St} {H1 : Hp} {D : Addr} {Qd : Hp → Prop} (n : Nat) (hn : ys.length = n) (hl : n ≤ xs.length) (f : Nat → V) (ha : SqT K H1 a xs) (hb : SqT K H1 b ys) (nD : H1 D = none) (hlen : n < sizeLine)
    (hs : ∀ i x y T, i < n → xs[i]? = some x → ys[i]? = some y → ∀ H, Same H1 H → H T = none → ∀ Y : V → Hp → Prop, (∀ H', Same H H' → Y (f i) H') → g (.ref T) (wipe σ vs) (upd H T (.tup [x, y])) fun σ2 H2 => wipe σ2 vs = wipe σ vs ∧ te σ2 H2 Y)
    (hd : ∀ H, Same H1 H → H D = some (.lst ((List.range n).map f)) → Qd H) :
    ∃ W : Nat → Nat → Hp → Prop, (∃ m, W 0 m (upd H1 D (.lst []))) ∧ ∀ i m H, W i m H →
      ((RZ.ItzT K a b).stop i H ∧ Qd H) ∨ ((RZ.ItzT K a b).go i H ∧ ∃ Nx : Hp → Prop, (∀ H', Nx H' → ∃ m', m' < m ∧ W (i + 1) m' H') ∧ ∀ x H', (RZ.ItzT K a b).yld i H x H' → g x (wipe σ vs) H' fun σ2 H2 => wipe σ2 vs = wipe σ vs ∧ tYes σ2 H2 fun b H3 =>
        if b = true then te σ2 H3 fun y H4 => ∃ acc, H4 D = some (.lst acc) ∧ acc.length < sizeLine ∧ Nx (upd H4 D (.lst (acc ++ [y]))) else Nx H3) := by
  subst hn
  refine lc_zipS hl (fun i H => Same H1 H ∧ H D = some (.lst ((List.range i).map f))) ⟨same_upd nD, upd_same⟩ (fun i H p => ⟨p.1.tup ha, p.1.tup hb⟩) (fun i x y T H hx hy p nT => ?_) (fun H p => hd H p.1 p.2)
  obtain ⟨sm, hD⟩ := p
  have hi : i < ys.length := (List.getElem?_eq_some_iff.mp hy).1
  refine hs i x y T hi hx hy H sm nT _ fun H4 s4 => ?_
  refine ⟨_, s4 _ _ hD, by rw [List.length_map, List.length_range]; omega, keepD nD (sm.trans s4), ?_⟩
  rw [upd_same, List.range_succ, List.map_append]
  rfl
/-- sums of rows of numbers -/
theorem sum_tl (f : Nat → Nat) : ∀ n, ((List.range n).map fun i => ((f i : Nat) : Int)).sum = ((sm f n : Nat) : Int)
  | 0 => rfl
  | n + 1 => by
    rw [List.range_succ, List.map_append, List.sum_append, sum_tl f n]
    show _ + (((f n : Nat) : Int) + 0) = ((sm f n + f n : Nat) : Int)
    omega
end Ph

namespace Ph
open PySem PySem.Spec PyProof.Rows L2
section
variable {X : Cx}
def rSlK (K : PySem.W.Frag) : V → Option Int → Option Int → Hp → VK → Prop := fun x lo hi H Q => ∃ a xs, x = .ref a ∧ SqT K H a xs ∧ ∀ q H', Same H H' → SqT K H' q (cutV xs lo hi) → Q (.ref q) H'
theorem cutv_whole {xs : List V} {lo hi : Option Int} (hw : HT.sIx xs.length 0 lo = 0 ∧ HT.sIx xs.length xs.length hi = xs.length) : cutV xs lo hi = xs := by
  unfold cutV
  rw [hw.1, hw.2]
  simp
theorem cutv_le {xs : List V} {lo hi : Option Int} : (cutV xs lo hi).length ≤ xs.length := by
  unfold cutV
  simp only [List.length_take, List.length_drop]
  omega
theorem sl_tupK : SlR X (rSlK X.K) := by
  intro pins s σ H x v vl vu lo hi sl Q I rx hs pl pu h
  obtain ⟨a, xs, rfl, hx, q⟩ := h
  exact sl_tupA pins s σ H _ v vl vu lo hi sl Q I rx hs pl pu ⟨a, xs, rfl, hx, fun hw => q a H (Same.refl H) (by rw [cutv_whole hw]; exact hx), fun _ p np => q p _ (same_upd np) (.inl (.inl upd_same))⟩
def rCatK (K : PySem.W.Frag) : V → V → Hp → VK → Prop := fun x y H Q => ∃ a b xs ys, x = .ref a ∧ y = .ref b ∧ SqT K H a xs ∧ SqT K H b ys ∧ xs.length + ys.length ≤ sizeLine ∧ ∀ q H', Same H H' → SqT K H' q (xs ++ ys) → Q (.ref q) H'
theorem op_catK : OpR X (binaryOp .Add) (rCatK X.K) := by
  intro pins s σ H x y v u Q I rx ry h
  obtain ⟨a, b, xs, ys, rfl, rfl, ha, hb, hz, q⟩ := h
  refine op_catA pins s σ H _ _ v u Q I rx ry ⟨a, b, xs, ys, rfl, rfl, ha, hb, hz, fun e => q b H (Same.refl H) (by rw [e]; exact hb), fun _ e => q a H (Same.refl H) (by rw [e, List.append_nil]; exact ha), fun _ _ p np => q p _ (same_upd np) (.inl (.inl upd_same))⟩
end
end Ph

namespace Ph
open PySem PySem.Spec PyProof.Rows L2
section
variable {X : Cx}
/-- x in t, t a tuple of data -/
def rInT (K : PySem.W.Frag) : R2 := fun x y H Q => ∃ d ds, Dp K H x d ∧ Dp K H y (.tuple ds) ∧ SeqAt.shaped d = true ∧ SeqAt.shaped (.tuple ds) = true ∧ Q (.bl (ds.any fun z => PyData.eqv z d)) H
theorem op_inT (hu : X.A.units + 65 < cLine) : OpR X (compareOp .In) (rInT X.K) := by
  intro pins s σ H x y v u Q I rx ry h
  obtain ⟨d, ds, dx, dy, sx, sy, q⟩ := h
  obtain ⟨_, r1⟩ := Dp.reads I d x v dx rx
  obtain ⟨_, r2⟩ := Dp.reads I (.tuple ds) y u dy ry
  exact SeqAt.in_tuple_reads r2 r1 (SeqAt.canLay_of_shaped sy) (SeqAt.canLay_of_shaped sx) (room_in_shaped sx hu) ⟨.bl _, H, I, rfl, q⟩
/-- a thing that is only read from now on -/
def tFrz (t : TE) : TE := fun σ H Q => t σ H fun v H1 => ∃ d u, v = .ref d ∧ H1 d = some u ∧ Mut (some u) ∧ ∀ od, Q v (upd H1 d (.frz od u))
theorem pe_frz {e : Expr} {t : TE} (h : PE X e t) : PE X e (tFrz t) := by
  refine ⟨fun pins s σ H Q I hw => ?_⟩
  refine thn (h.run pins s σ _ _ I hw) fun v s1 ⟨x, H1, I1, r, d, u, ex, hd, mu, q⟩ => ?_
  obtain ⟨od, I2⟩ := I1.lock hd mu
  exact ⟨x, _, I2, r, q od⟩
end
/-! ### blocks and states as data -/
def bD (b : Int × Int) : PyData := .tuple [.int b.1, .int b.2]
theorem bD_lay (b : Int × Int) : (bD b).canLay0 = true := by simp [bD, PyData.canLay0, PyData.canLayAll0]
theorem bD_depth (b : Int × Int) : (bD b).depth = 1 := by simp [bD, PyData.depth, PyData.depthAll]
theorem bDs_lay : ∀ zs : List (Int × Int), PyData.canLayAll0 (zs.map bD) = true
  | [] => by simp [PyData.canLayAll0]
  | z :: zs => by simp [PyData.canLayAll0, bD_lay z, bDs_lay zs]
theorem bDs_depth : ∀ zs : List (Int × Int), PyData.depthAll (zs.map bD) ≤ 1
  | [] => by simp [PyData.depthAll]
  | z :: zs => by
    have h1 := bDs_depth zs
    have h2 := bD_depth z
    simp only [List.map_cons, PyData.depthAll, h2]
    omega
theorem bD_shaped (b : Int × Int) : SeqAt.shaped (bD b) = true := by
  show ((bD b).canLay0 && decide ((bD b).depth ≤ 64)) = true
  rw [bD_lay, bD_depth]
  rfl
theorem sD_shaped (zs : List (Int × Int)) : SeqAt.shaped (.tuple (zs.map bD)) = true := by
  have h1 := bDs_depth zs
  have h2 : PyData.depth (.tuple (zs.map bD)) ≤ 64 := by simp only [PyData.depth]; omega
  have h3 : PyData.canLay0 (.tuple (zs.map bD)) = true := by simp only [PyData.canLay0]; exact bDs_lay zs
  show (PyData.canLay0 (.tuple (zs.map bD)) && decide (PyData.depth (.tuple (zs.map bD)) ≤ 64)) = true
  rw [h3, decide_eq_true h2]
  rfl
theorem bD_eqv (b c : Int × Int) : PyData.eqv (bD b) (bD c) = decide (b = c) := by
  obtain ⟨b1, b2⟩ := b
  obtain ⟨c1, c2⟩ := c
  have e : PyData.eqv (bD (b1, b2)) (bD (c1, c2)) = ((b1 == c1) && ((b2 == c2) && true)) := by simp only [bD, PyData.eqv, PyData.eqvAll]
  rw [e, Bool.and_true, Bool.eq_iff_iff, Bool.and_eq_true, beq_iff_eq, beq_iff_eq, decide_eq_true_iff, Prod.mk.injEq]
theorem bDs_any (b : Int × Int) : ∀ zs : List (Int × Int), ((zs.map bD).any fun z => PyData.eqv z (bD b)) = decide (b ∈ zs)
  | [] => by simp
  | z :: zs => by
    rw [List.map_cons, List.any_cons, bDs_any b zs, bD_eqv, Bool.eq_iff_iff, Bool.or_eq_true, decide_eq_true_iff, decide_eq_true_iff, decide_eq_true_iff, List.mem_cons]
    exact ⟨fun h => h.imp Eq.symm id, fun h => h.imp Eq.symm id⟩
theorem sD_eqv_refl (zs : List (Int × Int)) : PyData.eqv (.tuple (zs.map bD)) (.tuple (zs.map bD)) = true := by
  simp only [PyData.eqv]
  induction zs with
  | nil => simp [PyData.eqvAll]
  | cons z zs ih => simp [PyData.eqvAll, ih, bD_eqv]
end Ph

namespace Ph
open PySem PySem.Spec PyProof.Rows L2
/-! ### a def's promise where no repr is under way (the guards are known to be empty) -/
structure FnG (P : Program) (w : World) (K : PySem.W.Frag) (mg : Str → Option Value) (base : Heap) (CX : CXT) (k : Nat) (f : Addr) (fd : FuncData) (ps : List Str) (sp : Sp) : Prop where
  cnt : ∀ vs H Q E, sp vs H Q E → vs.length = ps.length
  go : ∀ (A : Around) (outer : List Env) (s : Shared) (H : Hp) (args : Args) (us : List Value) (vs : List V) (Q : VK) (E : XK), A.guards = some [] → Room k A →
    Env0 P w K mg base A outer s H → BindsTo s fd args (ps.zip us) → Vals vs us → sp vs H Q E → codeAny (model P w) A (.call (.ref f) args) (CR CX outer P w H s Q E) s
theorem guards_deeper (A : Around) (env : Env) : (A.deeper env).guards = A.guards := by
  first
    | rfl
    | (cases A; rfl)
section
variable {P : Program} {w : World} {K : PySem.W.Frag} {mg : Str → Option Value} {base : Heap}
theorem FnG.of {CX : CXT} {k : Nat} {f : Addr} {fd : FuncData} {ps : List Str} {sp : Sp} (F : FnOk P w K mg base CX k f fd ps sp) : FnG P w K mg base CX k f fd ps sp :=
  ⟨F.len, fun A outer s H args us vs Q E _ => F.run A outer s H args us vs Q E⟩
theorem okG {x qual : Str} {st : Stmt} {f : Addr} {fd : FuncData} {N ps : List Str} {k : Nat} {sp : Sp} (F : Fun K x qual st f fd) (S : FnScope N ps (defScope st)) (cnt : ∀ vs H Q E, sp vs H Q E → vs.length = ps.length)
    (body : ∀ (cdv : Value) (A : Around) (outer : List Env) (s : Shared) (H : Hp) (vs : List V) (Q : VK) (E : XK), (A.deeper (envOfC qual (defScope st) s.heap.objs.size f cdv)).guards = some [] → Room k (A.deeper (envOfC qual (defScope st) s.heap.objs.size f cdv)) → sp vs H Q E →
      ∃ t, PSs (cxOf CX0 P w K mg base N qual (defScope st) f cdv A outer s H E).nox (defBody st) t ∧ t { nx := fun _ H' => Q .non H', rt := Q } (start N vs) H) : FnG P w K mg base CX0 (k + 1) f fd ps sp := by
  obtain ⟨oc, od, kV, doc, pm, an, cdv, ct, osl, rfl, lk, hcd⟩ := F.ex
  refine ⟨cnt, fun A outer s H args us vs Q E hgu room env bnd vals want => ?_⟩
  have old : ∀ b o, base.get? b = some o → s.heap.get? b = some o := fun b o z => (env.bs b o z).1
  refine Att.call_fn (env.mod.kin.keeps old) (env.mod.nolimit.keeps old) lk hcd room.depth bnd ?_ (fun s1 inside => ?_) S.co S.gen S.kind
  · rw [List.all_eq_true]
    rintro ⟨n, v⟩ hy
    rcases S.par n (List.of_mem_zip hy).1 with z | z <;> simp [z]
  · obtain ⟨t, ht, hq⟩ := body cdv A outer s H vs Q E ((guards_deeper A _).trans hgu) (room.deeper _) want
    have I0 : Inv (cxOf CX0 P w K mg base N qual (defScope st) f cdv A outer s H E) [] (start N vs) H s1 := inv_start S room.hd env (cnt _ _ _ _ want) vals inside
    refine wpAny_mono (ht.nox.run [] s1 (start N vs) H _ I0 hq) (fun flow s2 done => ?_) fun e s2 bad => bad
    have fin : ∀ {σ' : L2.St} {H' : Hp} {v : V} {u : Value}, Inv (cxOf CX0 P w K mg base N qual (defScope st) f cdv A outer s H E) [] σ' H' s2 → RelV v u → Q v H' → CE outer P w H s Q u s2 :=
      fun J rel good => ⟨_, _, J.os, J.bare, J.base, J.hok, rel, good⟩
    match flow, done with
    | .ret u, ⟨v, σ', H', J, rel, good⟩ => exact fin J rel good
    | .next, ⟨σ', H', J, good⟩ => exact fin (v := V.non) (u := Value.none) J rfl good
    | .brk, ⟨_, _, _, z⟩ => exact z.elim
    | .cont, ⟨_, _, _, z⟩ => exact z.elim
end
section
variable {X : Cx} {k : Nat} {f : Addr} {fd : FuncData} {ps : List Str} {sp : Sp} {x : Str} {p pos : Pos} {e : Expr} {es : List Expr} {t : TA}
/-- f(e, ..) of such a def, no exception leaves it -/
theorem pe_callG (F : FnG X.prog X.w X.K X.mg X.base CX0 k f fd ps sp) (hgu : X.A.guards = some []) (room : Room k X.A) (hg : Gl X x) (hm : X.mg x = some (.ref f)) (hk : PySem.W.keepIn X.K (.ref f) = true) (hb : Binds X.K fd ps [])
    (ha : PA X (e :: es) t) (hdb : (x == ("__debug__" : Str)) = false := by decide) (he : starEach (e :: es) X.env = (false, eval e X.env) :: starEach es X.env := by rfl) (hpl : (backTo pos (starEach es X.env)).any (·.1) = false := by rfl) :
    PE X (.Call (.Name x p) (e :: es) [] pos) (tCall sp [] E0 t) := ⟨fun pins s σ H Q I want => by
  refine wpAny_Call_Name_kw (ld_glob I hg hm ?_ hdb)
  refine PySem.W.callWith_K (h₀ := X.base) I.ok.mod.kin hk (thn (ha.run pos pins s σ H _ I want) fun us s1 ⟨vs, H1, I1, vals, good⟩ => ⟨I1.kIn, ?_⟩) he hpl
  have n1 : (us ++ []).length = ps.length := by
    rw [← (vals.append (Paired.nil : Vals [] [])).length]
    exact F.cnt _ _ _ _ good
  refine wpAny_call (codeAny_mono (F.go X.A X.stack s1 H1 ⟨us, []⟩ (us ++ []) (vs ++ []) Q E0 hgu room I1.env0 (hb s1 us I1.kIn n1) (vals.append .nil) good) fun r s2 out => ?_)
  match r, out with
  | .ok (.ret u), out => exact I1.after out
  | .error _, out => exact out.elim⟩
/-- repr of lists and tuples of data -/
theorem call_reprD (hgu : X.A.guards = some []) (hu : X.A.units + 64 < cLine) : CallR X (.builtin "repr") (fun xs H Q => ∃ (a : Addr) (d : PyData), xs = [.ref a] ∧ Dp X.K H (.ref a) d ∧ d.showable = true ∧ d.hasDict = false ∧ d.depth ≤ 60 ∧ d.shown.length ≤ sizeLine ∧ Q (.str d.shown) H) := by
  intro pins s σ H xs us Q I r h
  obtain ⟨a, d, rfl, dp, sh, nd, dep, len, q⟩ := h
  obtain ⟨u, rfl, ru⟩ := vals1 r
  obtain ⟨as, rd⟩ := Dp.reads I d _ _ dp ru
  cases ru
  exact repr_of_reads' rd sh (PyData.noDict_hsm nd) hgu (by omega) (fun _ _ z => z) (fun h' v tk keep => ⟨.str _, H, I.kept keep, ⟨_, rfl⟩, q⟩) len
end
/-- tuples of ints as data -/
theorem dp_ints {K : PySem.W.Frag} {H : Hp} : ∀ ns : List Int, DpAll K H (ns.map V.int) (ns.map PyData.int)
  | [] => .nil
  | n :: r => .cons (.int n) (dp_ints r)
theorem showable_ints : ∀ ns : List Int, (∀ n ∈ ns, n.natAbs.log2 < 1920) → PyData.showableAll (ns.map PyData.int) = true
  | [], _ => by simp [PyData.showableAll]
  | n :: r, h => by
    have h1 := h n (List.mem_cons_self ..)
    have h2 := showable_ints r fun m hm => h m (List.mem_cons_of_mem _ hm)
    simp only [List.map_cons, PyData.showableAll, PyData.showable, h2, Bool.and_true, decide_eq_true h1]
theorem noDict_ints : ∀ ns : List Int, PyData.hasDictAll (ns.map PyData.int) = false
  | [] => by simp [PyData.hasDictAll]
  | n :: r => by
    have h2 := noDict_ints r
    simp only [List.map_cons, PyData.hasDictAll, PyData.hasDict, h2, Bool.or_self]
theorem depth_ints : ∀ ns : List Int, PyData.depthAll (ns.map PyData.int) ≤ 2
  | [] => by simp [PyData.depthAll]
  | n :: r => by
    have h2 := depth_ints r
    simp only [List.map_cons, PyData.depthAll, PyData.depth]
    omega
theorem shown_ints : ∀ ns : List Int, PyData.shownAll (ns.map PyData.int) = ns.map fun n => (toString n : Str)
  | [] => by simp [PyData.shownAll]
  | n :: r => by
    simp only [List.map_cons, PyData.shownAll, PyData.shown, shown_ints r]
end Ph

namespace Ph
open PySem PySem.Spec PyProof.Rows L2
/-! ### data that repr can show -/
structure Rp (d : PyData) : Prop where
  sh : d.showable = true
  nd : d.hasDict = false
  dp : d.depth ≤ 60
  ln : d.shown.length ≤ sizeLine
/-- short leaves, no dict -/
structure Sho (d : PyData) (n k : Nat) : Prop where
  sh : d.showable = true
  nd : d.hasDict = false
  dp : d.depth ≤ n
  lv : d.leavesShort 24 = true
  wt : d.weight ≤ k
structure ShoAll (ds : List PyData) (n k : Nat) : Prop where
  sh : PyData.showableAll ds = true
  nd : PyData.hasDictAll ds = false
  dp : PyData.depthAll ds ≤ n
  lv : PyData.leavesShortAll 24 ds = true
  wt : PyData.weightAll ds ≤ k
theorem Sho.rp {d : PyData} {n k : Nat} (s : Sho d n k) (hn : n ≤ 60) (hk : k ≤ 600000) : Rp d := by
  refine ⟨s.sh, s.nd, Nat.le_trans s.dp hn, ?_⟩
  have h := PyData.shown_le 24 (by decide) d s.lv
  have h2 := s.wt
  have h3 : sizeLine = 16777216 := by decide
  omega
theorem sho_int {i : Int} (h : i.natAbs < 10 ^ 20) : Sho (.int i) 0 67 := by
  have hl : i.natAbs.log2 < 67 := by
    by_cases z : i.natAbs = 0
    · rw [z]; decide
    · exact (Nat.log2_lt z).mpr (Nat.lt_of_lt_of_le h (by decide))
  refine ⟨?_, by simp only [PyData.hasDict], by simp only [PyData.depth]; omega, ?_, ?_⟩
  · simp only [PyData.showable, decide_eq_true_eq]
    omega
  · have e := int_text_length_le10 (a := i) (k := 20) (by decide) h
    have e2 : (PyData.shown (.int i)).length ≤ 24 := by
      show (Str.ofString (toString i)).length ≤ 24
      rw [PySem.ofString_length]
      omega
    simp only [PyData.leavesShort]
    exact decide_eq_true e2
  · simp only [PyData.weight]
    split <;> omega
theorem ShoAll.nil (n k : Nat) : ShoAll [] n k := ⟨by simp only [PyData.showableAll], by simp only [PyData.hasDictAll], by simp only [PyData.depthAll]; omega, by simp only [PyData.leavesShortAll], by simp only [PyData.weightAll]; omega⟩
theorem ShoAll.cons {d : PyData} {ds : List PyData} {n k m : Nat} (s : Sho d n k) (r : ShoAll ds n m) : ShoAll (d :: ds) n (k + 1 + m) := by
  refine ⟨by simp only [PyData.showableAll, s.sh, r.sh, Bool.and_self], by simp only [PyData.hasDictAll, s.nd, r.nd, Bool.or_self], ?_, by simp only [PyData.leavesShortAll, s.lv, r.lv, Bool.and_self], ?_⟩
  · have h1 := s.dp
    have h2 := r.dp
    simp only [PyData.depthAll]
    omega
  · have h1 := s.wt
    have h2 := r.wt
    simp only [PyData.weightAll]
    omega
theorem ShoAll.of {ds : List PyData} {n k : Nat} (h : ∀ d ∈ ds, Sho d n k) : ShoAll ds n ((k + 1) * ds.length) := by
  induction ds with
  | nil => exact .nil _ _
  | cons d r ih =>
    have s := ShoAll.cons (h d (List.mem_cons_self ..)) (ih fun x hx => h x (List.mem_cons_of_mem _ hx))
    rw [List.length_cons, Nat.mul_add, Nat.mul_one, Nat.add_comm]
    exact s
theorem ShoAll.tuple {ds : List PyData} {n k : Nat} (s : ShoAll ds n k) : Sho (.tuple ds) (n + 1) k :=
  ⟨by simp only [PyData.showable]; exact s.sh, by simp only [PyData.hasDict]; exact s.nd, by have := s.dp; simp only [PyData.depth]; omega, by simp only [PyData.leavesShort]; exact s.lv, by simp only [PyData.weight]; exact s.wt⟩
theorem ShoAll.list {ds : List PyData} {n k : Nat} (s : ShoAll ds n k) : Sho (.list ds) (n + 1) k :=
  ⟨by simp only [PyData.showable]; exact s.sh, by simp only [PyData.hasDict]; exact s.nd, by have := s.dp; simp only [PyData.depth]; omega, by simp only [PyData.leavesShort]; exact s.lv, by simp only [PyData.weight]; exact s.wt⟩
theorem sho_ints {ns : List Int} (h : ∀ n ∈ ns, n.natAbs < 10 ^ 20) : ShoAll (ns.map PyData.int) 0 (68 * ns.length) := by
  have := ShoAll.of (ds := ns.map PyData.int) (n := 0) (k := 67) fun d hd => by
    obtain ⟨i, hi, rfl⟩ := List.mem_map.mp hd
    exact sho_int (h i hi)
  rwa [List.length_map] at this
theorem rp_tupI {ns : List Int} (h : ∀ n ∈ ns, n.natAbs < 10 ^ 20) (hl : ns.length ≤ 8000) : Rp (.tuple (ns.map PyData.int)) := (sho_ints h).tuple.rp (by omega) (by omega)
theorem rp_lstI {ns : List Int} (h : ∀ n ∈ ns, n.natAbs < 10 ^ 20) (hl : ns.length ≤ 8000) : Rp (.list (ns.map PyData.int)) := (sho_ints h).list.rp (by omega) (by omega)
theorem sho_bk {b : Int × Int} (h1 : b.1.natAbs < 10 ^ 20) (h2 : b.2.natAbs < 10 ^ 20) : Sho (bD b) 1 136 := (sho_ints (ns := [b.1, b.2]) (fun n hn => by
  rcases List.mem_cons.mp hn with e | e
  · rw [e]; exact h1
  · rw [List.mem_singleton.mp e]; exact h2)).tuple
theorem rp_st {bs : List (Int × Int)} (h : ∀ b ∈ bs, b.1.natAbs < 10 ^ 20 ∧ b.2.natAbs < 10 ^ 20) (hl : bs.length ≤ 4000) : Rp (.tuple (bs.map bD)) := by
  have := ShoAll.of (ds := bs.map bD) (n := 1) (k := 136) fun d hd => by
    obtain ⟨b, hb, rfl⟩ := List.mem_map.mp hd
    exact sho_bk (h b hb).1 (h b hb).2
  rw [List.length_map] at this
  exact this.tuple.rp (by omega) (by omega)
section
variable {X : Cx}
/-- repr(e) of such data -/
def rRp (K : PySem.W.Frag) : List V → Hp → VK → Prop := fun xs H Q => ∃ (a : Addr) (d : PyData), xs = [.ref a] ∧ Dp K H (.ref a) d ∧ Rp d ∧ Q (.str d.shown) H
theorem call_rp (hgu : X.A.guards = some []) (hu : X.A.units + 64 < cLine) : CallR X (.builtin "repr") (rRp X.K) := by
  intro pins s σ H xs us Q I r h
  obtain ⟨a, d, e, dp, rp, q⟩ := h
  exact call_reprD hgu hu pins s σ H xs us Q I r ⟨a, d, e, dp, rp.sh, rp.nd, rp.dp, rp.ln, q⟩
end
end Ph

namespace Ph
open PySem PySem.Spec PyProof.Rows L2
/-! ### tuples of ints and states as data -/
theorem il_lay : ∀ ns : List Int, PyData.canLayAll0 (ns.map PyData.int) = true
  | [] => by simp [PyData.canLayAll0]
  | z :: zs => by simp [PyData.canLayAll0, PyData.canLay0, il_lay zs]
theorem il_depth : ∀ zs : List Int, PyData.depthAll (zs.map PyData.int) ≤ 1
  | [] => by simp [PyData.depthAll]
  | z :: zs => by
    have h1 := il_depth zs
    simp only [List.map_cons, PyData.depthAll, PyData.depth]
    omega
theorem tl_shaped (zs : List Int) : SeqAt.shaped (.tuple (zs.map PyData.int)) = true := by
  have h1 := il_depth zs
  have h2 : PyData.depth (.tuple (zs.map PyData.int)) ≤ 64 := by simp only [PyData.depth]; omega
  have h3 : PyData.canLay0 (.tuple (zs.map PyData.int)) = true := by simp only [PyData.canLay0]; exact il_lay zs
  show (PyData.canLay0 (.tuple (zs.map PyData.int)) && decide (PyData.depth (.tuple (zs.map PyData.int)) ≤ 64)) = true
  rw [h3, decide_eq_true h2]
  rfl
theorem il_shaped (zs : List Int) : SeqAt.shaped (.list (zs.map PyData.int)) = true := by
  have h1 := il_depth zs
  have h2 : PyData.depth (.list (zs.map PyData.int)) ≤ 64 := by simp only [PyData.depth]; omega
  have h3 : PyData.canLay0 (.list (zs.map PyData.int)) = true := by simp only [PyData.canLay0]; exact il_lay zs
  show (PyData.canLay0 (.list (zs.map PyData.int)) && decide (PyData.depth (.list (zs.map PyData.int)) ≤ 64)) = true
  rw [h3, decide_eq_true h2]
  rfl
theorem il_all (zs : List Int) : PyData.eqvAll (zs.map PyData.int) (zs.map PyData.int) = true := by
  induction zs with
  | nil => simp [PyData.eqvAll]
  | cons z zs ih => simp [PyData.eqvAll, ih, PyData.eqv]
theorem tl_eqv (zs : List Int) : PyData.eqv (.tuple (zs.map PyData.int)) (.tuple (zs.map PyData.int)) = true := by
  simp only [PyData.eqv]
  exact il_all zs
theorem il_eqv (zs : List Int) : PyData.eqv (.list (zs.map PyData.int)) (.list (zs.map PyData.int)) = true := by
  simp only [PyData.eqv]
  exact il_all zs
theorem BL.dp {K : PySem.W.Frag} {H : Hp} : ∀ {xs : List V} {bs : List Bk}, BL H xs bs → DpAll K H xs (bs.map bD)
  | _, _, .nil => .nil
  | _, _, .cons ⟨t, e1, e2⟩ r => by
    rw [List.map_cons]
    refine .cons ?_ (BL.dp r)
    rw [e1]
    exact .tup (.inl (.inl e2)) (.cons (.int _) (.cons (.int _) .nil))
theorem StAt.dp {K : PySem.W.Frag} {H : Hp} {t : Addr} {bs : List Bk} (h : StAt H t bs) : Dp K H (.ref t) (.tuple (bs.map bD)) := by
  obtain ⟨xs, e, bl⟩ := h
  exact .tup (.inl (.inl e)) bl.dp
theorem SqT.dp {K : PySem.W.Frag} {H : Hp} {t : Addr} {ns : List Int} (h : SqT K H t (ns.map V.int)) : Dp K H (.ref t) (.tuple (ns.map PyData.int)) := .tup h (dpI ns)
theorem BL.app {H : Hp} : ∀ {xs ys : List V} {bs cs : List Bk}, BL H xs bs → BL H ys cs → BL H (xs ++ ys) (bs ++ cs)
  | _, _, _, _, .nil, h => h
  | _, _, _, _, .cons h r, k => .cons h (BL.app r k)
theorem u64_of {A : Around} {k : Nat} (hr : Room k A) : A.units + 64 < cLine := by have := hr.un; omega
theorem perm_sorted : ∀ {l m : List Int}, m.Perm l → l.Pairwise (· ≤ ·) → m.Pairwise (· ≤ ·) → m = l := fun {l m} p h1 h2 => p.eq_of_pairwise (fun a b _ _ x y => Int.le_antisymm x y) h2 h1
theorem tl_pair {s : Nat → Nat} {m : Nat} (h : ∀ i, i + 1 < m → s i ≤ s (i + 1)) : (tl s m).Pairwise (· ≤ ·) := by
  induction m with
  | zero => exact List.Pairwise.nil
  | succ m ih =>
    rw [tl_succ, List.pairwise_append]
    refine ⟨ih fun i hi => h i (by omega), List.pairwise_singleton _ _, fun a ha b hb => ?_⟩
    obtain ⟨i, hi, rfl⟩ := tl_mem.mp ha
    rw [List.mem_singleton.mp hb]
    have : ∀ d i, i + d = m → s i ≤ s m := by
      intro d
      induction d with
      | zero => intro i e; rw [← e]; exact Nat.le_refl _
      | succ d ihd => intro i e; exact Nat.le_trans (h i (by omega)) (ihd (i + 1) (by omega))
    have := this (m - i) i (by omega)
    omega
/-- how far the bounds reach at the most -/
theorem BD.ub {s b : Nat → Nat} {m M : Nat} (c : CH s m) (B : BD s b m M) {S : Nat} (hS : ∀ j, j < m → s j ≤ S) : ∀ i, i < m → b i ≤ (i + 1) * M + i * S
  | 0, h => by rw [B.b0]; omega
  | i + 1, h => by
    have ih := BD.ub c B hS i (by omega)
    have p := c.pos h
    have h1 := cdw_lt (x := b i) p
    have h2 := Nat.div_mul_le_self (M - Lw s b (s (i + 1)) (i + 1)) (s (i + 1))
    have h3 := hS _ h
    rw [B.bs i h, Nat.mul_add]
    rw [Nat.mul_comm] at h1 h2
    have e1 : (i + 1 + 1) * M = (i + 1) * M + M := by rw [Nat.add_mul, Nat.one_mul]
    have e2 : (i + 1) * S = i * S + S := by rw [Nat.add_mul, Nat.one_mul]
    rw [e1, e2]
    omega
end Ph

namespace Ph
open PySem PySem.Spec PyProof.Rows L2
section
variable {P : Program} {w : World} {A : Around} {E : Value → Shared → Prop} {s : Shared}
/-- the items of a tuple, laid into a list first -/
theorem collect_tup {a : Addr} {us : List Value} {Q : List Value → Shared → Prop} (ht : s.heap.IsTuple a us.toArray) (few : us.length ≤ sizeLine)
    (q : ∀ g, (∀ b o, s.heap.get? b = some o → g.get? b = some o) → s.heap.objs.size ≤ g.objs.size → Q us { s with heap := g }) :
    wpAny (model P w) A (collect (.ref a)) Q E s := by
  obtain ⟨o, ho, hc, n, hd⟩ := id ht
  have at0 : (s.heap.push (seqObj "list" #[] 0)).get? s.heap.objs.size = some (seqObj "list" #[] 0) := Heap.get?_push_size _ rfl
  have at1 : (s.heap.push (seqObj "list" #[] 0)).get? a = some o := Heap.get?_push_of_some _ ho
  unfold collect
  refine wpAny_bind (wpAny_runValue (codeAny_builtin entry_proto_collect' ?_))
  show wpAny _ _ (do again (.builtin "list.__iadd__" ⟨[← newList [], .ref a], []⟩)) _ _ s
  refine wpAny_bind (wpAny_newList (wpAny_pure ⟨Code.quiet_builtin _ (by decide +kernel), codeAny_builtin entry_list_iadd' ?_⟩))
  show wpAny _ _ (Builtin.List.listExtendWith (.ref s.heap.objs.size) (.ref a) (.ref s.heap.objs.size)) _ _ { s with heap := s.heap.push (seqObj "list" #[] 0) }
  unfold Builtin.List.listExtendWith
  refine wpAny_bind (wpAny_typeOf (T := "tuple") ⟨o, at1, hc⟩ ?_)
  have same : (Value.type "tuple" == Value.type "tuple") = true := by rfl
  rw [if_pos (by rw [same]; simp)]
  refine wpAny_bind (listItems_at at1 hd ?_)
  refine wpAny_bind (listItems_at (xs := #[]) (n := 0) at0 rfl ?_)
  rw [if_neg (by simp)]
  refine wpAny_bind (listUpdate_at (xs := #[]) (n := 0) at0 rfl ?_ (Nat.zero_le _) (by show (#[] ++ us.toArray).size ≤ sizeLine + 1; simp only [Array.size_append, List.size_toArray, List.length_nil]; omega))
  refine wpAny_pure ?_
  refine wpAny_bind (m := load s.heap.objs.size) (wpAny_load (get?_update_seq at0 _) ?_)
  have e : ((#[] : Array Value) ++ us.toArray).toList = us := by simp
  show wpAny _ _ (pure ((#[] : Array Value) ++ us.toArray).toList) Q E _
  rw [e]
  refine wpAny_pure (q _ (fun b u hb => ?_) ?_)
  · have lt := Heap.lt_size hb
    rw [Heap.get?_update_ne _ _ _ _ (Nat.ne_of_lt lt)]
    exact Heap.get?_push_of_some _ hb
  · rw [Heap.size_update, size_push']
    exact Nat.le_succ _
theorem sorted_of_tup {a : Addr} {us : List Value} {is : List Int} {Q : Value → Shared → Prop} (ht : s.heap.IsTuple a us.toArray) (few : us.length ≤ sizeLine) (hI : IntsAre us is)
    (q : ∀ g p (out : Array Value) (c : Nat) (ns : List Int), (∀ b u, s.heap.get? b = some u → g.get? b = some u) → s.heap.objs.size ≤ p → g.get? p = some (seqObj "list" out c) → IntsAre out.toList ns → ns.Perm is → ns.Pairwise (· ≤ ·) → Q (.ref p) { s with heap := g }) :
    wpAny (model P w) A (call (.builtin "sorted") [.ref a]) Q E s := by
  refine Calls.call_function_entry kind_sorted plain_sorted entry_sorted (args_sorted1 _) ?_; unfold Builtin.«sorted»
  refine wpAny_bind (m := checkCount "sorted" 1 1 _) (wpAny_pure (wpAny_bind (collect_tup ht few fun g keep hz => ?_)))
  refine wpAny_bind (wpAny_newList ?_ few)
  have at1 : (g.push (seqObj "list" us.toArray 0)).get? g.objs.size = some (seqObj "list" us.toArray 0) := Heap.get?_push_size _ rfl
  refine wpAny_bind (wpAny_holding (wpAny_call_entry slot_list_sort ⟨_, at1, rfl⟩ entry_list_sort (SrtO.list_sort_ord SrtO.swo_int at1 few (fun h2 => SrtO.ints_sortable hI h2) fun out b1 b2 => ⟨_, rfl, ?_⟩) (args_list_sort _)))
  obtain ⟨k2, k3, k4⟩ := SrtO.ints_out hI b1 b2
  obtain ⟨c, hc⟩ := sortedHeap_at (vs := us) (out := out.toArray) at1
  refine wpAny_pure ⟨_, rfl, q _ g.objs.size out.toArray c (out.map SrtO.iv) (fun b u e => ?_) hz hc (by simpa using k2) k3 k4⟩
  have z := keep b u e
  have lt := Heap.lt_size z
  show (sortedHeap (g.push (seqObj "list" us.toArray 0)) g.objs.size us out.toArray).get? b = some u
  rw [sortedHeap_old (Nat.ne_of_lt lt) (by rw [size_push']; exact Nat.lt_succ_of_lt lt)]
  exact Heap.get?_push_of_some _ z
end
section
variable {X : Cx}
def rSortedTI (K : PySem.W.Frag) : List V → Hp → VK → Prop := fun vs H Q => ∃ (a : Addr) (ns : List Int), vs = [V.ref a] ∧ SqT K H a (ns.map V.int) ∧ ∀ (ms : List Int) (p : Addr), ms.Perm ns → ms.Pairwise (· ≤ ·) → H p = none → Q (.ref p) (upd H p (.lst (ms.map V.int)))
theorem cr_sortedTI : CallR X (.builtin "sorted") (rSortedTI X.K) := by
  intro pins s σ H vs us Q I r h
  obtain ⟨a, ns, rfl, hs, q⟩ := h
  obtain ⟨its, rv, hl, hz⟩ := I.tuple hs
  rw [Vals.ref1 r]
  have hi := rv.ints
  have few : its.length ≤ sizeLine := by rw [← rv.length]; exact hz
  refine sorted_of_tup hl few hi fun g p out c ms keep hp hg hm pm2 srt => ?_
  have len : (ms.map V.int).length ≤ sizeLine := by rw [List.length_map, pm2.length_eq, ← List.length_map (f := V.int)]; exact hz
  exact ⟨.ref p, upd H p (.lst (ms.map V.int)), I.laid (t' := s.toks) keep hp ⟨len, out.toList, c, vals_of_ints hm, hg⟩, rfl, q ms p pm2 srt (I.hok.fresh hp)⟩
end
end Ph

namespace Ph
open PySem PySem.Spec PyProof.Rows L2
/-! ### the end of a law whose promise asks for empty guards -/
section
variable {P : Program} {w : World} {K : PySem.W.Frag} {mg mb : Str → Option Value} {k : Nat} {fa a : Addr} {fd : FuncData} {x : Str} {sp : Sp} {s₁ : Shared} {vs : List Value} {ns : List Int}
abbrev LawEnd (s₁ : Shared) : Result → Shared → Prop := fun r s' => r = .ok (.ret (.bool true)) ∧ OldK s₁.heap s'.heap ∧ s'.os = s₁.os ∧ AllBare s'.gens
theorem end_core (KX : K.In s₁.heap) (hns : s₁.heap.Ns mainGlobals mg) (hb : s₁.heap.Ns builtinsNs mb) (hbb : ∀ z : Str, z ≠ "__name__" → mb z = bootBuiltins z) (lim : s₁.heap.NoLimit) (gens : s₁.gens = #[])
    (isList : ∃ o, s₁.heap.get? a = some o ∧ ∀ es ep, o.data ≠ .dict es ep) (room : Room k callerA) (F : ∀ base : Heap, K.In base → base.Ns mainGlobals mg → FnG P w K mg base CX0 k fa fd [x] sp) (bnd : ∀ (s : Shared) (u : Value), BindsTo s fd ⟨[u], []⟩ [(x, u)])
    (H : Hp) (alone : ∀ b o, H b = some o → b = a ∧ ∃ ob zs, o = .frz ob (.lst zs)) (ok : HOk P w H s₁.heap) (free : H a ≠ none → K.lookup a = none) (want : sp [.ref a] H (fun v _ => v = .bl true) fun _ _ _ => False) :
    codeAny (model P w) callerA (.call (.ref fa) ⟨[.ref a], []⟩) (LawEnd s₁) s₁ := by
  obtain ⟨oa, ha, noD⟩ := isList
  have none_of : ∀ {b : Addr}, b ≠ a → H b = none := fun {b} nb => by
    cases z : H b with
    | none => rfl
    | some o => exact absurd (alone b o z).1 nb
  have dictFree : ∀ {b : Addr} {o : Obj} {es : Array DictEntry} {ep : Nat}, s₁.heap.get? b = some o → o.data = .dict es ep → H b = none := fun {b o es ep} g d => none_of fun z => by
    subst z
    rw [ha] at g
    cases g
    exact noD es ep d
  have ns2 : ∀ {b : Addr} {m : Str → Option Value}, s₁.heap.Ns b m → (hidT s₁.heap H).Ns b m := fun ⟨o, es, ep, g, d, rest⟩ => ⟨o, es, ep, hidT_get g (dictFree g d), d, rest⟩
  have kin : K.In (hidT s₁.heap H) := fun b o g => hidT_get (KX b o g) (by
    cases z : H b with
    | none => rfl
    | some u =>
      have e1 := (alone b u z).1
      subst e1
      rw [free (by rw [z]; exact fun q => nomatch q)] at g
      cases g)
  have modu : Mod K mg (hidT s₁.heap H) := ⟨kin, ns2 hns, ⟨mb, ns2 hb, hbb⟩, let ⟨mc, z1, z2⟩ := lim; ⟨mc, ns2 z1, z2⟩⟩
  have env : Env0 P w K mg (hidT s₁.heap H) callerA [] s₁ H := ⟨rfl, modu, fun b o g => of_hidT g, Nat.le_of_eq (hidT_size _ _), trivial, fun b hb => (List.not_mem_nil hb).elim, ok, .of_eq gens⟩
  refine codeAny_mono ((F _ kin (ns2 hns)).go callerA [] s₁ H ⟨[.ref a], []⟩ [.ref a] [.ref a] _ _ rfl room env (bnd s₁ (.ref a)) (.cons rfl .nil) want) fun r s2 out => ?_
  match r, out with
  | .error _, out => exact out.elim
  | .ok (.ret u), ⟨v, H', os, bare, un, ok2, rel, good⟩ =>
    have good' : v = .bl true := good
    subst good'
    obtain rfl : u = Value.bool true := rel
    refine ⟨rfl, OldK.of_keep fun b o g => ?_, os, bare⟩
    cases z : H b with
    | none => exact un.keep b o g z (fun q => (List.not_mem_nil q).elim) (by simp)
    | some u =>
      obtain ⟨_, ob, zs, rfl⟩ := alone b u z
      obtain ⟨e1, _⟩ := ok b _ z
      obtain ⟨e2, _⟩ := ok2 b _ (un.frzs b ob _ z)
      rw [g] at e1
      cases e1
      exact e2
theorem end_call (KX : K.In s₁.heap) (hns : s₁.heap.Ns mainGlobals mg) (hb : s₁.heap.Ns builtinsNs mb) (hbb : ∀ z : Str, z ≠ "__name__" → mb z = bootBuiltins z) (lim : s₁.heap.NoLimit) (gens : s₁.gens = #[])
    (ha : s₁.heap.get? a = some { cls := .type "list", data := .seq vs.toArray }) (hi : IntsAre vs ns) (hl : ns.length ≤ sizeLine) (room : Room k callerA) (F : ∀ base : Heap, K.In base → base.Ns mainGlobals mg → FnG P w K mg base CX0 k fa fd [x] sp) (bnd : ∀ (s : Shared) (u : Value), BindsTo s fd ⟨[u], []⟩ [(x, u)])
    (want : ∀ H : Hp, SqL K H a (ns.map V.int) → sp [.ref a] H (fun v _ => v = .bl true) fun _ _ _ => False) :
    codeAny (model P w) callerA (.call (.ref fa) ⟨[.ref a], []⟩) (LawEnd s₁) s₁ := by
  have isL : ∃ o, s₁.heap.get? a = some o ∧ ∀ es ep, o.data ≠ .dict es ep := ⟨_, ha, fun _ _ z => nomatch z⟩
  cases lk : K.lookup a with
  | some o =>
    have g := KX a o lk
    rw [ha] at g
    cases g
    refine end_core KX hns hb hbb lim gens isL room F bnd (fun _ => none) (fun b o z => nomatch z) (fun b u z => nomatch z) (fun z => (z rfl).elim) (want _ (.inr ⟨_, vs.toArray, _, lk, rfl, rfl, rfl, by rw [List.size_toArray, hi.length]; exact hl, by simpa using vals_ints hi⟩))
  | none =>
    refine end_core KX hns hb hbb lim gens isL room F bnd (fun b => if b = a then some (.frz { cls := .type "list", data := .seq vs.toArray } (.lst (ns.map V.int))) else none) (fun b o z => ?_) (fun b u z => ?_) (fun _ => lk) (want _ (.inl (.inr ⟨_, if_pos rfl⟩)))
    · by_cases e : b = a
      · have z' := (if_pos e).symm.trans z
        cases z'
        exact ⟨e, _, _, rfl⟩
      · exact nomatch (if_neg e).symm.trans z
    · by_cases e : b = a
      · have z' := (if_pos e).symm.trans z
        cases z'
        subst e
        exact ⟨ha, by rw [List.length_map]; exact hl, vs, _, vals_ints hi, ha⟩
      · exact nomatch (if_neg e).symm.trans z
end
theorem walkG {l : PySem.W.OpenLaw} {n k : Nat} {q : Program} {loose : List Str} {XP : (Str → Option Value) → Heap → Prop} {YP : World → Heap → Prop} {d : DefRec} {K : Params → PySem.W.Frag} {sp : World → Sp} {x : Str}
    (hn : l.most = some n) (hn2 : n ≤ sizeLine) (hdf : d.params.defaults = []) (room : Room k callerA) (hY : ∀ (w : World) (h : Heap), YP w h → (K w.params).In h)
    (F : ∀ (w : World) (mg : Str → Option Value) (fa : Addr) (h : Heap), (K w.params).In h → h.Ns mainGlobals mg → mg d.name = some (.ref fa) →
      ∃ fd : FuncData, (∀ (s : Shared) (u : Value), BindsTo s fd ⟨[u], []⟩ [(x, u)]) ∧ ∀ base : Heap, (K w.params).In base → base.Ns mainGlobals mg → FnG l.prog w (K w.params) mg base CX0 k fa fd [x] (sp w))
    (want : ∀ (w : World) (H : Hp) (a : Addr) (ns : List Int), ns.length ≤ n → SqL (K w.params) H a (ns.map V.int) → sp w [.ref a] H (fun v _ => v = .bl true) fun _ _ _ => False) :
    PySem.W.WalkO q loose XP YP l.row.toRowW d [] (fun f vs => PySem.call f vs) := by
  refine Att.attach_call hn hdf fun w s₀ s₁ mg mb fa o pm cd doc a vs ns G Y ho hd hcd hmg hobj hints hlen hg => ?_
  obtain ⟨fd, bnd, hF⟩ := F w mg fa _ (hY w _ Y) G.T.g hmg
  exact end_call (hY w _ Y) G.T.g G.T.b G.T.builtins G.T.nolimit hg hobj hints (Nat.le_trans hlen hn2) room hF bnd fun H hS => want w H a ns hlen hS
end Ph

namespace Ph
open PySem PySem.Spec PyProof.Rows L2
section
variable {X : Cx}
/-! ### powers of wide numbers; an item of a list or a tuple -/
def CPowW (i j : Int) : Prop := 0 ≤ j ∧ (Builtin.Int.intBits i : Int) * j ≤ 2 ^ 27
theorem op_powW : OpR X (binaryOp .Pow) (rI CPowW fun i j => .int (i ^ j.toNat)) := opI fun _ _ _ _ _ _ _ hc q => pow_int hc.1 hc.2 q
def rIxA (K : PySem.W.Frag) : V → V → Hp → VK → Prop := fun x y H Q => rIxL K x y H Q ∨ rIxT K x y H Q
theorem ix_any : IxR X (rIxA X.K) := by
  intro ea eb pins s σ H x y v u Q I rx ry h hs
  rcases h with h | h
  · exact ix_list ea eb pins s σ H x y v u Q I rx ry h hs
  · exact ix_tup ea eb pins s σ H x y v u Q I rx ry h hs
end
theorem join {R G : Hp → Prop} {C : Prop} (m : (∀ Hx, R Hx → G Hx) → C) (k : ∀ Hx, R Hx → G Hx) : C := m k
/-! ### draws: digits, a mixed number, a count -/
structure DrV (c : Nat) (g r n : Int) : Prop where
  g0 : 0 ≤ g
  g1 : g.natAbs < 2 ^ 3000
  r0 : 0 ≤ r
  r1 : r < 2305843009213693921
  n0 : 0 ≤ n
  n1 : n ≤ c
def Dr (c : Nat) (H : Hp) (p : Addr) : Prop := ∃ g r n : Int, H p = some (.lst [.int g, .int r, .int n]) ∧ DrV c g r n
theorem Dr.up {c d : Nat} {H : Hp} {p : Addr} (h : Dr c H p) (le : c ≤ d) : Dr d H p := by
  obtain ⟨g, r, n, e, v⟩ := h
  exact ⟨g, r, n, e, v.g0, v.g1, v.r0, v.r1, v.n0, by have := v.n1; omega⟩
theorem Dr.same {c : Nat} {H H' : Hp} {p : Addr} (P : Dr c H p) (s : Same H H') : Dr c H' p := by
  obtain ⟨g, r, n, h, v⟩ := P
  exact ⟨g, r, n, s _ _ h, v⟩
theorem Dr.ne_none {c : Nat} {H : Hp} {p q : Addr} (P : Dr c H p) (h : H q = none) : p ≠ q := by
  obtain ⟨g, r, n, e, v⟩ := P
  exact ne_of_none e h
theorem Dr.netup {c : Nat} {H : Hp} {p t : Addr} {xs : List V} (P : Dr c H p) (e : H t = some (.tup xs)) : t ≠ p := fun z => by
  obtain ⟨g, r, n, e0, _⟩ := P
  rw [z, e0] at e
  cases e
theorem Dr.nefrz {c : Nat} {H : Hp} {p t : Addr} {ob : Obj} {u : HO} (P : Dr c H p) (e : H t = some (.frz ob u)) : t ≠ p := fun z => by
  obtain ⟨g, r, n, e0, _⟩ := P
  rw [z, e0] at e
  cases e
theorem Dr.keep {c : Nat} {H : Hp} {p o : Addr} {u : HO} (P : Dr c H p) (n : p ≠ o) : Dr c (upd H o u) p := by
  obtain ⟨g, r, k, e0, v⟩ := P
  exact ⟨g, r, k, by rw [upd_ne n]; exact e0, v⟩
def TAt (H : Hp) (c : Addr) (C : List Int) : Prop := H c = some (.tup (C.map V.int)) ∨ ChAt H c C
theorem TAt.sq {K : PySem.W.Frag} {H : Hp} {c : Addr} {C : List Int} (h : TAt H c C) : SqT K H c (C.map V.int) := by
  rcases h with h | h
  · exact .inl (.inl h)
  · exact h.sq
theorem TAt.same {H H' : Hp} {c : Addr} {C : List Int} (h : TAt H c C) (s : Same H H') : TAt H' c C := by
  rcases h with h | h
  · exact .inl (s _ _ h)
  · exact .inr (h.keep s)
theorem TAt.butD {k : Nat} {p : Addr} {H H' : Hp} {c : Addr} {C : List Int} (h : TAt H c C) (b : But p H H') (P : Dr k H p) : TAt H' c C := by
  rcases h with h | ⟨o, d, e⟩
  · exact .inl (b _ _ (P.netup h) h)
  · exact .inr ⟨o, d, b _ _ (P.nefrz e) e⟩
/-- a chain of p + 1 sizes, each one at least twice the one before, none above m -/
structure Cn (s : Nat → Nat) (p m : Nat) : Prop where
  ch : CH s (p + 1)
  two : ∀ i, i < p → ∃ r, 2 ≤ r ∧ r ≤ 1000 ∧ s (i + 1) = s i * r
  top : s p ≤ m
inductive Gnk (m : Int) : List Int → Int → Prop
  | one : Gnk m [1] 1
  | step {ns : List Int} {x r : Int} : Gnk m ns x → 2 ≤ r → r ≤ 1000 → x * r ≤ m → Gnk m (ns ++ [x * r]) (x * r)
theorem Gnk.pos {m x : Int} {ns : List Int} (h : Gnk m ns x) : 1 ≤ x := by
  induction h with
  | one => decide
  | step h h1 h2 h3 ih =>
    have := Int.mul_le_mul ih h1 (by decide) (by omega)
    omega
theorem Gnk.last {m x : Int} {ns : List Int} (h : Gnk m ns x) : ∃ r, ns = r ++ [x] := by
  cases h with
  | one => exact ⟨[], rfl⟩
  | step h h1 h2 h3 => exact ⟨_, rfl⟩
theorem Gnk.le {m x : Int} {ns : List Int} (h : Gnk m ns x) (hm : 1 ≤ m) : x ≤ m := by
  cases h with
  | one => exact hm
  | step h h1 h2 h3 => exact h3
theorem Gnk.cn {m x : Int} {ns : List Int} (h : Gnk m ns x) (hm : 1 ≤ m) : ∃ s p, ns = tl s (p + 1) ∧ x = ((s p : Nat) : Int) ∧ Cn s p m.toNat := by
  induction h with
  | one => exact ⟨fun _ => 1, 0, rfl, rfl, ⟨rfl, fun i hi => absurd hi (by omega)⟩, fun i hi => absurd hi (by omega), by show 1 ≤ _; omega⟩
  | step h h1 h2 h3 ih =>
    rename_i ns x r
    obtain ⟨s, p, e1, e2, c⟩ := ih
    obtain ⟨q, rfl⟩ : ∃ q : Nat, r = q := ⟨r.toNat, by omega⟩
    have lo : ∀ i, i ≤ p → (if i ≤ p then s i else s p * q) = s i := fun i hi => if_pos hi
    have top : (if p + 1 ≤ p then s (p + 1) else s p * q) = s p * q := if_neg (by omega)
    have st : ∀ i, i < p + 1 → ∃ r, 2 ≤ r ∧ r ≤ 1000 ∧ (fun i => if i ≤ p then s i else s p * q) (i + 1) = (fun i => if i ≤ p then s i else s p * q) i * r := fun i hi => by
      rcases Nat.lt_or_ge i p with z | z
      · obtain ⟨r, a1, a2, a3⟩ := c.two i z
        refine ⟨r, a1, a2, ?_⟩
        dsimp only
        rw [lo i (by omega), lo (i + 1) (by omega)]
        exact a3
      · have : i = p := by omega
        subst this
        refine ⟨q, by omega, by omega, ?_⟩
        dsimp only
        rw [lo i (Nat.le_refl _), top]
    refine ⟨fun i => if i ≤ p then s i else s p * q, p + 1, ?_, ?_, ⟨?_, fun i hi => ?_⟩, st, ?_⟩
    · rw [tl_succ, top, e1, e2]
      congr 1
      exact tl_congr fun i hi => (lo i (by omega)).symm
    · show _ = ((if p + 1 ≤ p then s (p + 1) else s p * q : Nat) : Int)
      rw [top, e2]
      push_cast
      rfl
    · show (if 0 ≤ p then s 0 else _) = 1
      rw [if_pos (Nat.zero_le _)]
      exact c.ch.s0
    · obtain ⟨r, a1, _, a3⟩ := st i (by omega)
      exact ⟨r, by omega, a3⟩
    · show (if p + 1 ≤ p then s (p + 1) else s p * q) ≤ _
      rw [top]
      rw [e2] at h3
      have : ((s p * q : Nat) : Int) ≤ m := by push_cast; exact h3
      omega
section
variable {X : Cx}
theorem cutv_map {C : List Int} {lo hi : Option Int} : ∃ D : List Int, D.map V.int = cutV (C.map V.int) lo hi ∧ D.length ≤ C.length := by
  unfold cutV
  refine ⟨_, by rw [← List.map_drop, ← List.map_take], ?_⟩
  rw [List.length_take, List.length_drop]
  omega
theorem map_int_inj {C D : List Int} (h : C.map V.int = D.map V.int) : C = D := by
  have := congrArg (List.map iV) h
  rw [List.map_map, List.map_map] at this
  have e : iV ∘ V.int = id := by funext x; rfl
  rw [e, List.map_id, List.map_id] at this
  exact this
def rSlJ : V → Option Int → Option Int → Hp → VK → Prop := fun x lo hi H Q => ∃ a C, x = .ref a ∧ TAt H a C ∧ ∀ q H' D, Same H H' → D.map V.int = cutV (C.map V.int) lo hi → TAt H' q D → Q (.ref q) H'
theorem sl_tupJ : SlR X rSlJ := by
  intro pins s σ H x v vl vu lo hi sl Q I rx hs pl pu h
  obtain ⟨a, C, rfl, hx, q⟩ := h
  obtain ⟨D, eD, _⟩ := cutv_map (C := C) (lo := lo) (hi := hi)
  exact sl_tupA pins s σ H _ v vl vu lo hi sl Q I rx hs pl pu ⟨a, _, rfl, hx.sq, fun hw => q a H C (Same.refl H) (cutv_whole hw).symm hx, fun _ p np => q p _ D (same_upd np) eD (.inl (by rw [upd_same, eD]))⟩
def rCatJ : V → V → Hp → VK → Prop := fun x y H Q => ∃ a b C D, x = .ref a ∧ y = .ref b ∧ TAt H a C ∧ TAt H b D ∧ C.length + D.length ≤ sizeLine ∧ ∀ q H', Same H H' → TAt H' q (C ++ D) → Q (.ref q) H'
theorem op_catJ : OpR X (binaryOp .Add) rCatJ := by
  intro pins s σ H x y v u Q I rx ry h
  obtain ⟨a, b, C, D, rfl, rfl, ha, hb, hz, q⟩ := h
  refine op_catA pins s σ H _ _ v u Q I rx ry ⟨a, b, _, _, rfl, rfl, ha.sq, hb.sq, by rw [List.length_map, List.length_map]; exact hz, fun e => ?_, fun _ e => ?_, fun _ _ p np => q p _ (same_upd np) (.inl (by rw [upd_same, List.map_append]))⟩
  · rw [List.map_eq_nil_iff.mp e] at q
    exact q b H (Same.refl H) hb
  · rw [List.map_eq_nil_iff.mp e, List.append_nil] at q
    exact q a H (Same.refl H) ha
end
theorem cut_first {s : Nat → Nat} {n : Nat} : cutV ((tl s (n + 1)).map V.int) none (some 1) = [V.int ((s 0 : Nat) : Int)] := by
  have e : (tl s (n + 1)).map V.int = V.int ((s 0 : Nat) : Int) :: (tl (fun i => s (i + 1)) n).map V.int := by
    unfold tl
    rw [List.range_succ_eq_map]
    simp [Function.comp_def]
  rw [e]
  unfold cutV HT.sIx
  simp [tl_len]
theorem cut_lastp {s : Nat → Nat} {n : Nat} : cutV ((tl s (n + 1)).map V.int) (some (-1)) none = [V.int ((s n : Nat) : Int)] := by
  have l : ((tl s (n + 1)).map V.int).length = n + 1 := by rw [List.length_map, tl_len]
  have i1 : HT.sIx ((tl s (n + 1)).map V.int).length 0 (some (-1)) = n := by
    rw [l]
    unfold HT.sIx
    simp
    try omega
  have i2 : HT.sIx ((tl s (n + 1)).map V.int).length ((tl s (n + 1)).map V.int).length none = n + 1 := by rw [l]; rfl
  unfold cutV
  rw [i1, i2, tl_succ, List.map_append, List.drop_left' (by rw [List.length_map, tl_len])]
  simp
theorem cut_mid {s : Nat → Nat} {n : Nat} : cutV ((tl s (n + 1 + 1)).map V.int) (some 1) (some (-1)) = (tl (fun i => s (i + 1)) n).map V.int := by
  have l : ((tl s (n + 1 + 1)).map V.int).length = n + 1 + 1 := by rw [List.length_map, tl_len]
  have i1 : HT.sIx ((tl s (n + 1 + 1)).map V.int).length 0 (some 1) = 1 := by
    rw [l]
    unfold HT.sIx
    simp
  have i2 : HT.sIx ((tl s (n + 1 + 1)).map V.int).length ((tl s (n + 1 + 1)).map V.int).length (some (-1)) = n + 1 := by
    rw [l]
    unfold HT.sIx
    simp
    try omega
  unfold cutV
  rw [i1, i2, tl_succ]
  have e : (tl s (n + 1)).map V.int = V.int ((s 0 : Nat) : Int) :: (tl (fun i => s (i + 1)) n).map V.int := by
    unfold tl
    rw [List.range_succ_eq_map]
    simp [Function.comp_def]
  rw [List.map_append, e]
  simp
  rw [List.take_left' (by rw [List.length_map, tl_len])]
end Ph

namespace Ph
open PySem PySem.Spec PyProof.Rows L2
/-! ### the third pot: digits, a mixed number, a count -/
structure PoV (g r n : Int) : Prop where
  g0 : 0 ≤ g
  g1 : g.natAbs < 2 ^ 3000
  r0 : 0 ≤ r
  r1 : r < 2305843009213693951
  n0 : 0 ≤ n
def Po (H : Hp) (p : Addr) : Prop := ∃ g r n : Int, H p = some (.lst [.int g, .int r, .int n]) ∧ PoV g r n
theorem Po.same {H H' : Hp} {p : Addr} (P : Po H p) (s : Same H H') : Po H' p := by
  obtain ⟨g, r, n, h, v⟩ := P
  exact ⟨g, r, n, s _ _ h, v⟩
theorem Po.ne_none {H : Hp} {p q : Addr} (P : Po H p) (h : H q = none) : p ≠ q := by
  obtain ⟨g, r, n, e, v⟩ := P
  exact ne_of_none e h
theorem Po.netup {H : Hp} {p t : Addr} {xs : List V} (P : Po H p) (e : H t = some (.tup xs)) : t ≠ p := fun z => by
  obtain ⟨g, r, n, e0, _⟩ := P
  rw [z, e0] at e
  cases e
theorem Po.nefrz {H : Hp} {p t : Addr} {ob : Obj} {u : HO} (P : Po H p) (e : H t = some (.frz ob u)) : t ≠ p := fun z => by
  obtain ⟨g, r, n, e0, _⟩ := P
  rw [z, e0] at e
  cases e
theorem Po.keep {H : Hp} {p o : Addr} {u : HO} (P : Po H p) (n : p ≠ o) : Po (upd H o u) p := by
  obtain ⟨g, r, k, e0, v⟩ := P
  exact ⟨g, r, k, by rw [upd_ne n]; exact e0, v⟩
theorem TAt.butP {p : Addr} {H H' : Hp} {c : Addr} {C : List Int} (h : TAt H c C) (b : But p H H') (P : Po H p) : TAt H' c C := by
  rcases h with h | ⟨o, d, e⟩
  · exact .inl (b _ _ (P.netup h) h)
  · exact .inr ⟨o, d, b _ _ (P.nefrz e) e⟩
/-! ### max of a list of pairs of ints -/
section
variable {X : Cx}
def rMaxP (K : PySem.W.Frag) : List V → Hp → VK → Prop := fun vs H Q => ∃ (a : Addr) (xs : List V) (k : V → Int × Int), vs = [V.ref a] ∧ SqL K H a xs ∧ (∀ x ∈ xs, ∃ t, x = V.ref t ∧ H t = some (.tup [.int (k x).1, .int (k x).2])) ∧ 0 < xs.length ∧
  ∀ x ∈ xs, (∀ y ∈ xs, SrtO.lexB (k x) (k y) = false) → Q x H
theorem maxOf_spec : ∀ (x : Int × Int) (xs : List (Int × Int)), PySem.W.maxOf x xs ∈ x :: xs ∧ ∀ y ∈ x :: xs, SrtO.lexB (PySem.W.maxOf x xs) y = false
  | x, [] => ⟨List.mem_singleton.mpr rfl, fun y hy => by
      rw [List.mem_singleton.mp hy]
      exact SrtO.lexB_no.mpr (by show ¬ (x.1 < x.1 ∨ (x.1 = x.1 ∧ x.2 < x.2)); omega)⟩
  | x, z :: zs => by
    have e : PySem.W.maxOf x (z :: zs) = PySem.W.maxOf (if PySem.W.DatumOrd.lt x z = true then z else x) zs := rfl
    rw [e]
    have l : PySem.W.DatumOrd.lt x z = SrtO.lexB x z := rfl
    rw [l]
    by_cases c : SrtO.lexB x z = true
    · rw [if_pos c]
      obtain ⟨h1, h2⟩ := maxOf_spec z zs
      refine ⟨List.mem_cons_of_mem _ h1, fun y hy => ?_⟩
      rcases List.mem_cons.mp hy with r | r
      · rw [r]
        have a := SrtO.lexB_iff.mp c
        have b := SrtO.lexB_no.mp (h2 z (List.mem_cons_self ..))
        exact SrtO.lexB_no.mpr (by omega)
      · exact h2 y r
    · rw [if_neg c]
      obtain ⟨h1, h2⟩ := maxOf_spec x zs
      refine ⟨?_, fun y hy => ?_⟩
      · rcases List.mem_cons.mp h1 with r | r
        · rw [r]; exact List.mem_cons_self ..
        · exact List.mem_cons_of_mem _ (List.mem_cons_of_mem _ r)
      · rcases List.mem_cons.mp hy with r | r
        · rw [r]; exact h2 x (List.mem_cons_self ..)
        · rcases List.mem_cons.mp r with r | r
          · rw [r]
            have a := SrtO.lexB_no.mp (by simpa using c : SrtO.lexB x z = false)
            have b := SrtO.lexB_no.mp (h2 x (List.mem_cons_self ..))
            exact SrtO.lexB_no.mpr (by omega)
          · exact h2 y (List.mem_cons_of_mem _ r)
theorem dp_prs {K : PySem.W.Frag} {H : Hp} {k : V → Int × Int} : ∀ xs : List V, (∀ x ∈ xs, ∃ t, x = V.ref t ∧ H t = some (.tup [.int (k x).1, .int (k x).2])) → DpAll K H xs (xs.map fun x => bD (k x))
  | [], _ => .nil
  | x :: r, h => by
    obtain ⟨t, e, ht⟩ := h x (List.mem_cons_self ..)
    refine .cons ?_ (dp_prs r fun y hy => h y (List.mem_cons_of_mem _ hy))
    subst e
    exact .tup (.inl (.inl ht)) (.cons (.int _) (.cons (.int _) .nil))
theorem cr_maxP (hc : X.calm = true) (hu : X.A.units + 3 < cLine) : CallR X (.builtin "max") (rMaxP X.K) := by
  intro pins s σ H vs us Q I r h
  obtain ⟨a, xs, k, rfl, hs, hx, h0, q⟩ := h
  obtain ⟨its, rv, pl, hz⟩ := I.list hs
  rw [Vals.ref1 r]
  cases xs with
  | nil => exact absurd h0 (by decide)
  | cons x0 xr =>
    obtain ⟨as, rd⟩ := Dp.readsAll I _ _ its (dp_prs _ hx) rv
    have hd : PyData.depthAll ((x0 :: xr).map fun x => bD (k x)) ≤ 1 := by
      have := bDs_depth ((x0 :: xr).map k)
      rw [List.map_map] at this
      exact this
    have ha : PySem.W.AlikeAll ((x0 :: xr).map fun x => bD (k x)) := by
      have := PySem.W.alikeAll_datum ((x0 :: xr).map k)
      rw [List.map_map] at this
      exact this
    refine PySem.W.max_list_data (x := bD (k x0)) (xs := xr.map fun x => bD (k x)) (I.ok.hd hc) pl.isList (by simpa using rd) ha (by
      have e : PyData.depthAll (bD (k x0) :: xr.map fun x => bD (k x)) ≤ 1 := hd
      omega) (fun i v g tk bs hv rr kp => ?_)
    have em : PySem.W.maxD (bD (k x0)) (xr.map fun x => bD (k x)) = bD (PySem.W.maxOf (k x0) (xr.map k)) := by
      have := PySem.W.maxD_map (k x0) (xr.map k)
      rw [List.map_map] at this
      exact this
    rw [em] at rr
    obtain ⟨hm, hb⟩ := maxOf_spec (k x0) (xr.map k)
    have hv : its[i]? = some v := by simpa using hv
    obtain ⟨x, hxi, rx⟩ : ∃ x, (x0 :: xr)[i]? = some x ∧ RelV x v := by
      have hil : i < its.length := (List.getElem?_eq_some_iff.mp hv).1
      have hxl : i < (x0 :: xr).length := by rw [rv.length]; exact hil
      obtain ⟨u, e1, e2⟩ := rv.get (List.getElem?_eq_getElem hxl)
      rw [hv] at e1
      cases e1
      exact ⟨_, List.getElem?_eq_getElem hxl, e2⟩
    have mx := List.mem_of_getElem? hxi
    obtain ⟨t, et, ht⟩ := hx x mx
    have dx : Dp X.K H x (bD (k x)) := by
      subst et
      exact .tup (.inl (.inl ht)) (.cons (.int _) (.cons (.int _) .nil))
    obtain ⟨as2, r2⟩ := Dp.reads I _ _ _ dx rx
    have e := (Reads.unique (Reads.keeps kp r2) _ _ rr).1
    have e3 : k x = PySem.W.maxOf (k x0) (xr.map k) := by
      unfold bD at e
      injection e with e
      injection e with e1 e
      injection e with e2 e
      injection e1 with e1
      injection e2 with e2
      exact Prod.ext e1 e2
    refine ⟨x, H, I.kept kp, rx, q x mx fun y hy => ?_⟩
    rw [e3]
    refine hb (k y) ?_
    rcases List.mem_cons.mp hy with z | z
    · rw [z]; exact List.mem_cons_self ..
    · exact List.mem_cons_of_mem _ (List.mem_map.mpr ⟨y, z, rfl⟩)
end
end Ph

namespace Ph
open PySem PySem.Spec PyProof.Rows L2
theorem SqK.same {k : Bool} {K : PySem.W.Frag} {H H' : Hp} {a : Addr} {xs : List V} (h : SqK k K H a xs) (s : Same H H') : SqK k K H' a xs := by
  cases k
  · exact s.seq h
  · exact s.tup h
/-- a comprehension over zip of tuples and lists, in any mix -/
theorem lc_zkF {k1 k2 : Bool} {K : PySem.W.Frag} {a b : Addr} {xs ys : List V} {g : TG} {te : TE} {vs : List Nat} {σ : L2.St} {H1 : Hp} {D : Addr} {Qd : Hp → Prop} (n : Nat) (hn : n = min xs.length ys.length) (f : Nat → V) (ha : SqK k1 K H1 a xs) (hb : SqK k2 K H1 b ys) (nD : H1 D = none) (hlen : n < sizeLine)
    (hs : ∀ i x y T, i < n → xs[i]? = some x → ys[i]? = some y → ∀ H, Same H1 H → H T = none → ∀ Y : V → Hp → Prop, (∀ H', Same H H' → Y (f i) H') → g (.ref T) (wipe σ vs) (upd H T (.tup [x, y])) fun σ2 H2 => wipe σ2 vs = wipe σ vs ∧ te σ2 H2 Y)
    (hd : ∀ H, Same H1 H → H D = some (.lst ((List.range n).map f)) → Qd H) :
    ∃ W : Nat → Nat → Hp → Prop, (∃ m, W 0 m (upd H1 D (.lst []))) ∧ ∀ i m H, W i m H →
      ((ItzK k1 k2 K a b).stop i H ∧ Qd H) ∨ ((ItzK k1 k2 K a b).go i H ∧ ∃ Nx : Hp → Prop, (∀ H', Nx H' → ∃ m', m' < m ∧ W (i + 1) m' H') ∧ ∀ x H', (ItzK k1 k2 K a b).yld i H x H' → g x (wipe σ vs) H' fun σ2 H2 => wipe σ2 vs = wipe σ vs ∧ tYes σ2 H2 fun b H3 =>
        if b = true then te σ2 H3 fun y H4 => ∃ acc, H4 D = some (.lst acc) ∧ acc.length < sizeLine ∧ Nx (upd H4 D (.lst (acc ++ [y]))) else Nx H3) := by
  refine ⟨fun i m H => m = n - i ∧ i ≤ n ∧ Same H1 H ∧ H D = some (.lst ((List.range i).map f)), ⟨n, rfl, Nat.zero_le _, same_upd nD, upd_same⟩, ?_⟩
  rintro i m H ⟨rfl, hi, sm, hD⟩
  have qx := ha.same sm
  have qy := hb.same sm
  rcases Nat.lt_or_ge i n with lt | ge
  · have l1 : i < xs.length := by omega
    have l2 : i < ys.length := by omega
    refine .inr ⟨⟨xs, ys, _, _, qx, qy, List.getElem?_eq_getElem l1, List.getElem?_eq_getElem l2⟩, fun H' => Same H1 H' ∧ H' D = some (.lst ((List.range (i + 1)).map f)), fun H' p => ⟨n - (i + 1), by omega, rfl, lt, p⟩, fun v H' yl => ?_⟩
    obtain ⟨T, x, y, rfl, nT, rfl, f1, f2⟩ := yl
    refine hs i x y T lt (f1 xs qx) (f2 ys qy) H sm nT _ fun H4 s4 => ?_
    refine ⟨_, s4 _ _ hD, by rw [List.length_map, List.length_range]; omega, keepD nD (sm.trans s4), ?_⟩
    rw [upd_same, List.range_succ, List.map_append]
    rfl
  · have e : i = n := Nat.le_antisymm hi ge
    subst e
    exact .inl ⟨⟨xs, ys, qx, qy, by omega, by omega, by omega⟩, hd H sm hD⟩
end Ph

namespace Ph
open PySem PySem.Spec PyProof.Rows L2
/-! ### walks: zip of tuples and lists; comprehensions whose items are laid anew -/
theorem walk_zipK {k1 k2 : Bool} {K : PySem.W.Frag} {a b : Addr} {xs ys : List V} {n : Nat} (hn : n = min xs.length ys.length) : Walk (ItzK k1 k2 K a b) n (fun H => SqK k1 K H a xs ∧ SqK k2 K H b ys) (YPair (fun i => xs[i]?) (fun i => ys[i]?)) := by
  subst hn
  refine ⟨fun i _ hi q => ?_, fun _ q => ⟨xs, ys, q.1, q.2, by omega, by omega, by omega⟩, fun i H v H' _ q y => ?_⟩
  · have h1 : i < xs.length := by omega
    have h2 : i < ys.length := by omega
    exact ⟨xs, ys, xs[i], ys[i], q.1, q.2, by simp [h1], by simp [h2]⟩
  · obtain ⟨T, x, z, h1, h2, h3, h4, h5⟩ := y
    exact ⟨T, x, z, h1, h2, h3, h4 xs q.1, h5 ys q.2⟩
theorem walk_enumT {K : PySem.W.Frag} {a : Addr} {xs : List V} : Walk (Itt K a) xs.length (fun H => SqT K H a xs) (YAt xs) := walk_tup
theorem YPair.same {xs ys : Nat → Option V} {i : Nat} {H H' : Hp} {v : V} (h : YPair xs ys i H v H') : Same H H' := by
  obtain ⟨T, x, y, _, nT, e, _⟩ := h
  rw [e]
  exact same_upd nT
theorem YAt.same {xs : List V} {i : Nat} {H H' : Hp} {v : V} (h : YAt xs i H v H') : Same H H' := by
  rw [h.1]; exact Same.refl _
theorem YFn.same {f : Nat → V} {i : Nat} {H H' : Hp} {v : V} (h : YFn f i H v H') : Same H H' := by
  rw [h.1]; exact Same.refl _
theorem none_of_same {H H' : Hp} {D : Addr} (s : Same H H') (n : H' D = none) : H D = none := by
  cases e : H D with
  | none => rfl
  | some o => rw [s _ _ e] at n; cases n
theorem joinS {R G : L2.St → Hp → Prop} {C : Prop} (m : (∀ σ H, R σ H → G σ H) → C) (k : ∀ σ H, R σ H → G σ H) : C := m k
abbrev KpT (H H' : Hp) : Prop := ∀ v zs, H v = some (.tup zs) → H' v = some (.tup zs)
/-- a comprehension with a test; R tells of each item that stays, by its turn -/
theorem lc_RF {J : It} {n : Nat} {G : Hp → Prop} {Y : Nat → Hp → V → Hp → Prop} (w : Walk J n G Y) (hY : ∀ i H x H', Y i H x H' → Same H H') {g : TG} {tt : TT} {te : TE} {vs : List Nat} {σ : L2.St} {H1 : Hp} {D : Addr} {Qd : Hp → Prop}
    (p : Nat → Bool) (R : Hp → Nat → V → Prop) (mono : ∀ H H' i y, KpT H H' → R H i y → R H' i y) (nD : H1 D = none) (hlen : n < sizeLine) (hG : ∀ H, Same H1 H → G H)
    (hs : ∀ i x H H', i < n → Same H1 H → Y i H x H' → ∀ (Z : V → Hp → Prop) (N : Hp → Prop), (∀ y H4, Same H' H4 → p i = true → R H4 i y → Z y H4) → (∀ H4, Same H' H4 → p i = false → N H4) →
      g x (wipe σ vs) H' fun σ2 H2 => wipe σ2 vs = wipe σ vs ∧ tt σ2 H2 fun b H3 => if b = true then te σ2 H3 Z else N H3)
    (hd : ∀ H ys, Same H1 H → H D = some (.lst ys) → Paired (R H) ((List.range n).filter p) ys → Qd H) :
    ∃ W : Nat → Nat → Hp → Prop, (∃ m, W 0 m (upd H1 D (.lst []))) ∧ ∀ i m H, W i m H →
      (J.stop i H ∧ Qd H) ∨ (J.go i H ∧ ∃ Nx : Hp → Prop, (∀ H', Nx H' → ∃ m', m' < m ∧ W (i + 1) m' H') ∧ ∀ x H', J.yld i H x H' → g x (wipe σ vs) H' fun σ2 H2 => wipe σ2 vs = wipe σ vs ∧ tt σ2 H2 fun b H3 =>
        if b = true then te σ2 H3 fun y H4 => ∃ acc, H4 D = some (.lst acc) ∧ acc.length < sizeLine ∧ Nx (upd H4 D (.lst (acc ++ [y]))) else Nx H3) := by
  refine lc_it w (fun i H => Same H1 H ∧ ∃ ys, H D = some (.lst ys) ∧ Paired (R H) ((List.range i).filter p) ys) ⟨same_upd nD, [], upd_same, .nil⟩ (fun i H _ q => hG H q.1) (fun i x H H' hi q y => ?_) (fun H q => ?_)
  · obtain ⟨sm, ys, hD, pr⟩ := q
    have s' := hY _ _ _ _ y
    have hlen2 : ys.length < sizeLine := by
      have h1 := pr.length
      have h2 := List.length_filter_le p (List.range i)
      rw [List.length_range] at h2
      omega
    refine hs i x H H' hi sm y _ _ (fun y H4 s4 pi r4 => ?_) (fun H4 s4 pi => ?_)
    · have hD4 := s4 _ _ (s' _ _ hD)
      have tk : KpT H4 (upd H4 D (.lst (ys ++ [y]))) := fun v zs e => by
        rw [upd_ne (ne_of e hD4 (by intro z; cases z))]
        exact e
      refine ⟨ys, hD4, hlen2, fun b o e => ?_, ys ++ [y], upd_same, ?_⟩
      · rw [upd_ne (ne_of_none e nD)]
        exact s4 _ _ (s' _ _ (sm _ _ e))
      · rw [List.range_succ, List.filter_append, List.filter_cons_of_pos (by simpa using pi)]
        exact Paired.snoc (paired_imp (fun a b h => mono _ _ _ _ (fun v zs e => tk v zs (s4 _ _ (s' _ _ e))) h) pr) (mono _ _ _ _ tk r4)
    · refine ⟨(sm.trans s').trans s4, ys, s4 _ _ (s' _ _ hD), ?_⟩
      rw [List.range_succ, List.filter_append, List.filter_cons_of_neg (by simp [pi]), List.filter_nil, List.append_nil]
      exact paired_imp (fun a b h => mono _ _ _ _ (fun v zs e => s4 _ _ (s' _ _ e)) h) pr
  · obtain ⟨sm, ys, hD, pr⟩ := q
    exact hd H ys sm hD pr
theorem lc_R {J : It} {n : Nat} {G : Hp → Prop} {Y : Nat → Hp → V → Hp → Prop} (w : Walk J n G Y) (hY : ∀ i H x H', Y i H x H' → Same H H') {g : TG} {te : TE} {vs : List Nat} {σ : L2.St} {H1 : Hp} {D : Addr} {Qd : Hp → Prop}
    (R : Hp → Nat → V → Prop) (mono : ∀ H H' i y, KpT H H' → R H i y → R H' i y) (nD : H1 D = none) (hlen : n < sizeLine) (hG : ∀ H, Same H1 H → G H)
    (hs : ∀ i x H H', i < n → Same H1 H → Y i H x H' → ∀ (Z : V → Hp → Prop), (∀ y H4, Same H' H4 → R H4 i y → Z y H4) →
      g x (wipe σ vs) H' fun σ2 H2 => wipe σ2 vs = wipe σ vs ∧ te σ2 H2 Z)
    (hd : ∀ H ys, Same H1 H → H D = some (.lst ys) → Paired (R H) (List.range n) ys → Qd H) :
    ∃ W : Nat → Nat → Hp → Prop, (∃ m, W 0 m (upd H1 D (.lst []))) ∧ ∀ i m H, W i m H →
      (J.stop i H ∧ Qd H) ∨ (J.go i H ∧ ∃ Nx : Hp → Prop, (∀ H', Nx H' → ∃ m', m' < m ∧ W (i + 1) m' H') ∧ ∀ x H', J.yld i H x H' → g x (wipe σ vs) H' fun σ2 H2 => wipe σ2 vs = wipe σ vs ∧ tYes σ2 H2 fun b H3 =>
        if b = true then te σ2 H3 fun y H4 => ∃ acc, H4 D = some (.lst acc) ∧ acc.length < sizeLine ∧ Nx (upd H4 D (.lst (acc ++ [y]))) else Nx H3) :=
  lc_RF w hY (fun _ => true) R mono nD hlen hG (fun i x H H' hi sm y Z N hZ hN => hs i x H H' hi sm y Z fun y H4 s4 r => hZ y H4 s4 rfl r)
    (fun H ys sm hD pr => hd H ys sm hD (by
      have e : (List.range n).filter (fun _ => true) = List.range n := List.filter_eq_self.mpr fun _ _ => rfl
      rw [e] at pr
      exact pr))
theorem Paired.get {α β : Type} {F : α → β → Prop} : ∀ {l : List α} {m : List β} {i : Nat} {a : α}, Paired F l m → l[i]? = some a → ∃ b, m[i]? = some b ∧ F a b
  | _, _, _, _, .nil, h => by simp at h
  | _, _, 0, _, .cons x _, h => by simp at h; subst h; exact ⟨_, rfl, x⟩
  | _, _, i + 1, _, .cons _ r, h => by
    obtain ⟨b, e, f⟩ := Paired.get (i := i) r (by simpa using h)
    exact ⟨b, by simpa using e, f⟩
theorem Paired.get2 {α β : Type} {F : α → β → Prop} : ∀ {l : List α} {m : List β} {i : Nat} {b : β}, Paired F l m → m[i]? = some b → ∃ a, l[i]? = some a ∧ F a b
  | _, _, _, _, .nil, h => by simp at h
  | _, _, 0, _, .cons x _, h => by simp at h; subst h; exact ⟨_, rfl, x⟩
  | _, _, i + 1, _, .cons _ r, h => by
    obtain ⟨b, e, f⟩ := Paired.get2 (i := i) r (by simpa using h)
    exact ⟨b, by simpa using e, f⟩
/-- the items are a function of the turn -/
theorem paired_eq {α β : Type} {f : α → β} : ∀ {l : List α} {m : List β}, Paired (fun a b => b = f a) l m → m = l.map f
  | _, _, .nil => rfl
  | _, _, .cons h r => by rw [h, paired_eq r]; rfl
theorem SqT.butL {K : PySem.W.Frag} {H H' : Hp} {u D : Addr} {xs l : List V} (h : SqT K H u xs) (b : But D H H') (hD : H D = some (.lst l)) : SqT K H' u xs := by
  rcases h with (h | ⟨o, h⟩) | h
  · exact .inl (.inl (b _ _ (ne_of h hD (by intro z; cases z)) h))
  · exact .inl (.inr ⟨o, b _ _ (ne_of h hD (by intro z; cases z)) h⟩)
  · exact .inr h
/-- names of built-ins -/
structure Nm6 (K : PySem.W.Frag) (mg : Str → Option Value) : Prop where
  len : mg "len" = none
  abs : mg "abs" = none
  int : mg "int" = none
  range : mg "range" = none
  tuple : mg "tuple" = none
  max : mg "max" = none
  min : mg "min" = none
  repr : mg "repr" = none
  isinstance : mg "isinstance" = none
  bool : mg "bool" = none
  all : mg "all" = none
  any : mg "any" = none
  list : mg "list" = none
  dict : mg "dict" = none
  sorted : mg "sorted" = none
  set : mg "set" = none
  sum : mg "sum" = none
  zip : mg "zip" = none
  enumerate : mg "enumerate" = none
  reversed : mg "reversed" = none
  str : mg "str" = none
  dig : PySem.W.nsIn K cStatics "sys.int_max_str_digits" = some none
end Ph

namespace Ph
open PySem PySem.Spec PyProof.Rows L2
/-! ### loops that count up; any(ints) -/
theorem while_n {c : TT} {tb : TS} {D : Ends} {σ : L2.St} {H : Hp} (n : Nat) (Pv : Nat → L2.St → Hp → Prop) (h0 : Pv 0 σ H)
    (hs : ∀ i σ H, i ≤ n → Pv i σ H → c σ H fun b H1 => if b = true then ∃ N : L2.St → Hp → Prop, (∀ σ' H', N σ' H' → ∃ m', m' < n - i ∧ ∃ i', i' ≤ n ∧ m' = n - i' ∧ Pv i' σ' H') ∧ tb { D with nx := N, ct := N, bk := D.nx } σ H1 else D.nx σ H1) : tWhile c tb D σ H :=
  ⟨fun m σ H => ∃ i, i ≤ n ∧ m = n - i ∧ Pv i σ H, ⟨n - 0, 0, Nat.zero_le _, rfl, h0⟩, fun m σ H ⟨i, hi, e, p⟩ => e ▸ hs i σ H hi p⟩
theorem wn_next {n i : Nat} {Pv : Nat → L2.St → Hp → Prop} (h : i < n) : ∀ σ' H', Pv (i + 1) σ' H' → ∃ m', m' < n - i ∧ ∃ i', i' ≤ n ∧ m' = n - i' ∧ Pv i' σ' H' := fun σ' H' p => ⟨n - (i + 1), by omega, i + 1, by omega, rfl, p⟩
theorem ints_at {vs : List Value} {ns : List Int} (h : IntsAre vs ns) : ∀ {i : Nat} {v : Value}, vs[i]? = some v → ∃ t, v = .int (ns.getD i 0) t := by
  induction h with
  | nil => intro i v e; simp at e
  | cons n t h ih =>
    intro i v e
    cases i with
    | zero =>
      simp at e
      exact ⟨t, e.symm⟩
    | succ i =>
      simp at e
      obtain ⟨t', e'⟩ := ih e
      exact ⟨t', by rw [e']; simp⟩
theorem truth_ints {P : Program} {w : World} {A : Around} {ns : List Int} {vs : List Value} (h : IntsAre vs ns) :
    TruthOf P w A (fun i v => vs.toArray[i]? = some v) (fun i => (ns.getD i 0 != 0)) := fun i v s Q E hv hq => by
  have hv2 : vs[i]? = some v := by simpa using hv
  obtain ⟨t, rfl⟩ := ints_at h hv2
  exact PyProof.Rows.truthy_int hq
section
variable {X : Cx}
def rAnyI (K : PySem.W.Frag) : List V → Hp → VK → Prop := fun vs H Q => ∃ (a : Addr) (ns : List Int), vs = [V.ref a] ∧ SqL K H a (ns.map V.int) ∧ Q (.bl ((List.range ns.length).any fun i => (ns.getD i 0 != 0))) H
theorem cr_anyI (hc : X.calm = true) : CallR X (.builtin "any") (rAnyI X.K) := by
  intro pins s σ H vs us Q I r h
  obtain ⟨a, ns, rfl, hs, q⟩ := h
  obtain ⟨its, rv, hl, _⟩ := I.list hs
  rw [Vals.ref1 r]
  have hb := rv.ints
  have len : its.length = ns.length := by rw [← rv.length, List.length_map]
  refine call_any_walk (iter_any hl.isList fun s2 e2 st hne => ?_)
  subst e2
  refine ⟨_, _, _, _, _, _, _, rfl, Walks.list (A := X.A.in1) (I.ok.hd hc) _ a hne its.toArray, st, truth_ints hb, fun g tk hk => ?_⟩
  refine ⟨.bl _, H, I.kept fun b o eo => hk b o (fun hm => ?_) (Heap.get?_push_of_some _ eo), ?_, q⟩
  · rcases List.mem_cons.mp hm with e1 | hm
    · exact absurd (e1 ▸ Heap.lt_size eo) (Nat.lt_irrefl _)
    · cases hm
  · show Value.bool _ = Value.bool _
    rw [List.size_toArray, len]
end
end Ph

namespace Ph
open PySem PySem.Spec PyProof.Rows L2
section
variable {X : Cx}
/-! ### sum of a tuple of ints -/
def rSumT (K : PySem.W.Frag) : List V → Hp → VK → Prop := fun vs H Q => ∃ (a : Addr) (ns : List Int), vs = [V.ref a] ∧ SqT K H a (ns.map V.int) ∧ Q (.int ns.sum) H
theorem cr_sumT (hc : X.calm = true) : CallR X (.builtin "sum") (rSumT X.K) := by
  intro pins s σ H vs us Q I r h
  obtain ⟨a, ns, rfl, hs, q⟩ := h
  obtain ⟨its, rv, hl, _⟩ := I.tuple hs
  rw [Vals.ref1 r]
  have hi := rv.ints
  obtain ⟨xs, e⟩ := hi.allInts.items
  have hn : numsOf (intItems xs).toList = ns := by rw [← e]; exact hi.numsOf
  rw [nums_intItems] at hn
  rw [e] at hl
  refine PySem.W.ktm_sumG (I.ok.hd hc) hl fun h' tk t' hk => ?_
  refine ⟨.int _, H, I.kept hk, ⟨_, rfl⟩, ?_⟩
  have e2 : preSum (numAt xs) xs.size = ns.sum := by rw [preSum_eq, List.take_of_length_le (by simp), hn]
  rw [e2]
  exact q
theorem u3_of {A : Around} {k : Nat} (hr : Room k A) : A.units + 3 < cLine := by
  have := u64_of hr
  omega
end
end Ph

namespace Ph
open PySem PySem.Spec PyProof.Rows L2
/-! ### numbers begun with reaches: more reach, more words, never less -/
theorem ov_iff {s b : Nat → Nat} {i n M : Nat} (ht : 0 < s (i + 1)) (hm : ∀ j, j + 1 < i + 1 → b j ≤ b (j + 1)) :
    n ≤ cdw (b i) (s (i + 1)) + (M - Lw s b (s (i + 1)) (i + 1)) / s (i + 1) ↔ n ≤ cdw (b i) (s (i + 1)) ∨ sm (fun k => s (cls b (i + 1) (k * s (i + 1)))) n ≤ M := by
  have lw : Lw s b (s (i + 1)) (i + 1) = sm (fun k => s (cls b (i + 1) (k * s (i + 1)))) (cdw (b i) (s (i + 1))) := lw_sum (s := s) (b := b) ht hm (i + 1) (Nat.le_refl _)
  have mono : ∀ d j, j + d = i → b j ≤ b i := by
    intro d
    induction d with
    | zero => intro j e; have : j = i := by omega
              rw [this]; exact Nat.le_refl _
    | succ d ih => intro j e; exact Nat.le_trans (hm j (by omega)) (ih (j + 1) (by omega))
  have tail : ∀ n, cdw (b i) (s (i + 1)) ≤ n → sm (fun k => s (cls b (i + 1) (k * s (i + 1)))) n = Lw s b (s (i + 1)) (i + 1) + s (i + 1) * (n - cdw (b i) (s (i + 1))) := fun n hn => by
    rw [lw]
    refine sm_const hn fun k h1 _ => ?_
    have e : cls b (i + 1) (k * s (i + 1)) = i + 1 := by
      refine cls_eq (Nat.le_refl _) (fun j hj => ?_) (fun z => absurd z (by omega))
      have h3 : ¬ k * s (i + 1) < b i := fun z => by
        have := (lt_cdw ht).mpr z
        omega
      have := mono (i - j) j (by omega)
      omega
    rw [e]
  generalize cdw (b i) (s (i + 1)) = C at lw tail ⊢
  generalize Lw s b (s (i + 1)) (i + 1) = L at lw tail ⊢
  constructor
  · intro h
    rcases Nat.lt_or_ge C n with z | z
    · right
      rw [tail n (by omega)]
      have h1 : n - C ≤ (M - L) / s (i + 1) := by omega
      rw [Nat.le_div_iff_mul_le ht, Nat.mul_comm] at h1
      have h2 : s (i + 1) * 1 ≤ s (i + 1) * (n - C) := Nat.mul_le_mul_left _ (by omega)
      omega
    · exact .inl z
  · intro h
    rcases Nat.lt_or_ge C n with z | z
    · rcases h with h | h
      · omega
      · rw [tail n (by omega)] at h
        have h1 : n - C ≤ (M - L) / s (i + 1) := by
          rw [Nat.le_div_iff_mul_le ht, Nat.mul_comm]
          omega
        omega
    · exact Nat.le_trans z (Nat.le_add_right _ _)
theorem bfn_mono {s ρ ρ' : Nat → Nat} {m M M' : Nat} (c : CH s m) (hρ : ∀ i, i < m → ρ' i ≤ ρ i) (hM : M' ≤ M) : ∀ i, i < m → bfn s ρ' M' i ≤ bfn s ρ M i := by
  intro i
  induction i using Nat.strongRecOn with
  | ind i ih =>
    intro hi
    cases i with
    | zero =>
      rw [bfn_zero, bfn_zero]
      have := hρ 0 hi
      omega
    | succ i =>
      have ht := c.pos hi
      have up : ∀ (ρ : Nat → Nat) (M : Nat) j, j + 1 < i + 1 → bfn s ρ M j ≤ bfn s ρ M (j + 1) := fun ρ M j hj => bfn_up (c.pos (by omega))
      rw [bfn_succ, bfn_succ]
      have h1 : cdw (bfn s ρ' M' i) (s (i + 1)) + (M' - Lw s (bfn s ρ' M') (s (i + 1)) (i + 1)) / s (i + 1) ≤ cdw (bfn s ρ M i) (s (i + 1)) + (M - Lw s (bfn s ρ M) (s (i + 1)) (i + 1)) / s (i + 1) := by
        rw [ov_iff ht (up ρ M)]
        rcases (ov_iff (n := cdw (bfn s ρ' M' i) (s (i + 1)) + (M' - Lw s (bfn s ρ' M') (s (i + 1)) (i + 1)) / s (i + 1)) ht (up ρ' M')).mp (Nat.le_refl _) with z | z
        · exact .inl (Nat.le_trans z (cdw_mono (ih i (by omega) (by omega))))
        · refine .inr (Nat.le_trans (sm_le fun k _ => ?_) (Nat.le_trans z hM))
          refine c.mono (cls_anti fun j hj => ih j (by omega) (by omega)) ?_
          have := cls_le (bfn s ρ' M') (i + 1) (k * s (i + 1))
          omega
      have h2 := Nat.mul_le_mul_left (s (i + 1)) h1
      have h3 := hρ (i + 1) hi
      omega
theorem bfn_ge {s ρ : Nat → Nat} {M i : Nat} : ρ i ≤ bfn s ρ M i := by
  cases i with
  | zero => rw [bfn_zero]; exact Nat.le_max_right _ _
  | succ i => rw [bfn_succ]; exact Nat.le_max_left _ _
/-- how far the numbers can lie out -/
theorem bfn_ub {s ρ : Nat → Nat} {m M S R : Nat} (c : CH s m) (hS : ∀ j, j < m → s j ≤ S) (hR : ∀ j, j < m → ρ j ≤ R) : ∀ i, i < m → bfn s ρ M i ≤ (i + 1) * M + i * S + R
  | 0, h => by
    rw [bfn_zero]
    have := hR 0 h
    omega
  | i + 1, h => by
    have ih := bfn_ub (M := M) c hS hR i (by omega)
    have p := c.pos h
    have h1 := cdw_lt (x := bfn s ρ M i) p
    have h2 := Nat.div_mul_le_self (M - Lw s (bfn s ρ M) (s (i + 1)) (i + 1)) (s (i + 1))
    have h3 := hS _ h
    have h4 := hR _ h
    rw [bfn_succ, Nat.mul_add]
    rw [Nat.mul_comm] at h1 h2
    have e1 : (i + 1 + 1) * M = (i + 1) * M + M := by rw [Nat.add_mul, Nat.one_mul]
    have e2 : (i + 1) * S = i * S + S := by rw [Nat.add_mul, Nat.one_mul]
    rw [e1, e2]
    omega
end Ph

namespace Ph
open PySem PySem.Spec PyProof.Rows L2
section
variable {P : Program} {w : World} {A : Around} {E : Value → Shared → Prop} {s : Shared}
/-- sorted(tuple of pairs of ints) -/
theorem sorted_of_tupP {a : Addr} {us : List Value} {k : Value → Int × Int} {Q : Value → Shared → Prop} (ht : s.heap.IsTuple a us.toArray) (few : us.length ≤ sizeLine) (hp : ∀ v, v ∈ us → Srt.IsPair s.heap v (k v).1 (k v).2)
    (q : ∀ g p (out : List Value) (c : Nat), (∀ b u, s.heap.get? b = some u → g.get? b = some u) → s.heap.objs.size ≤ p → g.get? p = some (seqObj "list" out.toArray c) → SrtO.Srtd (fun v u => SrtO.lexB (k v) (k u)) out → SrtO.Stb (fun v u => SrtO.lexB (k v) (k u)) out us → Q (.ref p) { s with heap := g }) :
    wpAny (model P w) A (call (.builtin "sorted") [.ref a]) Q E s := by
  refine Calls.call_function_entry kind_sorted plain_sorted entry_sorted (args_sorted1 _) ?_; unfold Builtin.«sorted»
  refine wpAny_bind (m := checkCount "sorted" 1 1 _) (wpAny_pure (wpAny_bind (collect_tup ht few fun g keep hz => ?_)))
  refine wpAny_bind (wpAny_newList ?_ few)
  have at1 : (g.push (seqObj "list" us.toArray 0)).get? g.objs.size = some (seqObj "list" us.toArray 0) := Heap.get?_push_size _ rfl
  refine wpAny_bind (wpAny_holding (wpAny_call_entry slot_list_sort ⟨_, at1, rfl⟩ entry_list_sort (SrtO.list_sort_ord (SrtO.swo_lex k) at1 few (fun h2 => ?_) fun out b1 b2 => ⟨_, rfl, ?_⟩) (args_list_sort _)))
  · refine SrtO.pairs_sortableO (by omega) (fun v hv => (hp v hv).keeps fun b o e _ => Heap.get?_push_of_some _ (keep b o e)) fun o e => ?_
    have e2 : some o = some (seqObj "list" us.toArray 0) := e.symm.trans at1
    cases e2
    intro z
    exact absurd (Value.type.inj z) (by decide)
  · obtain ⟨c, hc⟩ := sortedHeap_at (vs := us) (out := out.toArray) at1
    refine wpAny_pure ⟨_, rfl, q _ g.objs.size out c (fun b u e => ?_) hz hc b1 b2⟩
    have z := keep b u e
    have lt := Heap.lt_size z
    show (sortedHeap (g.push (seqObj "list" us.toArray 0)) g.objs.size us out.toArray).get? b = some u
    rw [sortedHeap_old (Nat.ne_of_lt lt) (by rw [size_push']; exact Nat.lt_succ_of_lt lt)]
    exact Heap.get?_push_of_some _ z
end
section
variable {X : Cx}
def rSortedPT (K : PySem.W.Frag) : List V → Hp → VK → Prop := fun vs H Q => ∃ (a : Addr) (xs : List V) (k : V → Int × Int), vs = [V.ref a] ∧ SqT K H a xs ∧ (∀ x ∈ xs, ∃ t, x = V.ref t ∧ H t = some (.tup [.int (k x).1, .int (k x).2])) ∧
  ∀ ys p, SrtO.Srtd (ltP k) ys → SrtO.Stb (ltP k) ys xs → H p = none → Q (.ref p) (upd H p (.lst ys))
theorem cr_sortedPT : CallR X (.builtin "sorted") (rSortedPT X.K) := by
  intro pins s σ H vs us Q I r h
  obtain ⟨a, xs, k, rfl, hs, hx, q⟩ := h
  obtain ⟨its, rv, hl, hz⟩ := I.tuple hs
  rw [Vals.ref1 r]
  obtain ⟨e1, e2⟩ := refs_back rv fun x m => by
    obtain ⟨t, e, _⟩ := hx x m
    exact ⟨t, e⟩
  refine sorted_of_tupP (k := fun u => k (backV u)) hl (by rw [← rv.length]; exact hz) (fun v hv => ?_) fun g p out c keep hp hg h1 h2 => ?_
  · obtain ⟨t, rfl⟩ := e2 v hv
    have hm : V.ref t ∈ xs := by rw [e1]; exact List.mem_map.mpr ⟨_, hv, rfl⟩
    obtain ⟨t2, e, ht⟩ := hx _ hm
    cases e
    obtain ⟨_, its2, r2, o, ho, hc, n, hd⟩ := I.hok _ _ ht
    obtain ⟨u1, u2, rfl, ri, rj⟩ := vals2 r2
    obtain ⟨t1, rfl⟩ := ri
    obtain ⟨t3, rfl⟩ := rj
    exact ⟨t, o, t1, t3, n, rfl, ho, hc, hd⟩
  · have h3 : ∀ u ∈ out, ∃ a, u = Value.ref a := fun u hu => e2 u (h2.perm.mem_iff.mp hu)
    have hb : SrtO.Stb (ltP k) (out.map backV) xs := by
      rw [e1]
      exact SrtO.Stb.map (ltP_swo k) backV h2
    refine ⟨.ref p, upd H p (.lst (out.map backV)), I.laid (t' := s.toks) keep hp ⟨?_, out, c, vals_back h3, hg⟩, rfl, q _ p (SrtO.srtd_map h1) hb (I.hok.fresh hp)⟩
    rw [hb.len]
    exact hz
end
end Ph

namespace Ph
open PySem PySem.Spec PyProof.Rows L2
section
variable {P : Program} {w : World} {A : Around} {E : Value → Shared → Prop} {s : Shared} {T : String} {r d : Addr} {n : Nat} {Pv : Nat → Value → Prop} {OK : Heap → Prop}
/-- tuple(x), x walked as the library's source of a list -/
theorem code_tuple_src {Q₁ : Value → Shared → Prop} (S : PySem.W.KdlSrc P w T r d n Pv OK) (calm : A.handled = none) (ok : OK s.heap) (hn : n ≤ sizeLine) (nT : (Value.type T == Value.type "tuple") = false) (nL : (Value.type T == Value.type "list") = false)
    (q : ∀ (g : Heap) (tk : Nat) (acc : Array Value), (∀ b u, s.heap.get? b = some u → g.get? b = some u) → ItemsOf Pv acc n → Q₁ (.ref g.objs.size) { s with heap := g.push { cls := .type "tuple", data := .seq acc }, toks := tk }) :
    codeAny (model P w) A (.call (.builtin "tuple.__new__") ⟨[.type "tuple", .ref r], []⟩) (wants Q₁ E) s := by
  refine codeAny_of_tree ?_
  show wpAny (model P w) A.in1 (do checkBuiltinCall "tuple.__new__" ⟨[.type "tuple", .ref r], []⟩; again (.builtin "tuple.__new__" ⟨[.type "tuple", .ref r], []⟩)) _ _ s
  refine wpAny_bind (wpAny_of_eq (F.newCall_tuple_1 _) (wpAny_pure ⟨plainId_quiet F.plain_tuple_new _, codeAny_builtin F.entry_tuple_new ?_⟩)); rw [Around.under_plainId F.plain_tuple_new _]
  have y1 := sub_tuple_self
  have y2 := init_tuple_lookup
  have y3 := madeHere_tuple
  have ty := S.type _ ok
  have calm1 : A.in1.handled = none := calm
  wp_walk using wpAny_typeOf ty, PySem.W.kdu_collect (A := A.in1) S calm1 ok hn
  intro g tk acc k it
  show wpAny (model P w) _ (Builtin.Tuple.tupleExact acc.toList.toArray >>= fun v => ret v) _ _ _
  unfold Builtin.Tuple.tupleExact
  refine wpAny_bind (wpAny_newObj_type ?_ (by show acc.toList.toArray.size ≤ sizeLine; rw [Array.toArray_toList, it.1]; exact hn))
  rw [Array.toArray_toList]
  exact wpAny_pure (q g tk acc k it)
theorem call_tuple_src {Q : Value → Shared → Prop} (S : PySem.W.KdlSrc P w T r d n Pv OK) (calm : A.handled = none) (ok : OK s.heap) (hn : n ≤ sizeLine) (nT : (Value.type T == Value.type "tuple") = false) (nL : (Value.type T == Value.type "list") = false)
    (q : ∀ (g : Heap) (tk : Nat) (acc : Array Value), (∀ b u, s.heap.get? b = some u → g.get? b = some u) → ItemsOf Pv acc n → Q (.ref g.objs.size) { s with heap := g.push { cls := .type "tuple", data := .seq acc }, toks := tk }) :
    wpAny (model P w) A (call (.type "tuple") [.ref r]) Q E s := by
  refine callType_codes (Q₁ := fun z t => t.TypeIs z "tuple" ∧ Q z t) F.called_tuple (F.typeCall_tuple_1 _) F.entry_object_init (code_tuple_src (A := A.in1) S calm ok hn nT nL fun g tk acc k it => ⟨⟨_, Heap.get?_push_size _ rfl, rfl⟩, q g tk acc k it⟩) fun z t h => ?_
  exact ⟨h.1, F.args_object_init_2 z _, object_init_meets F.called_tuple.init.lookup F.called_tuple.made (by decide) P w A.in1 _ t ⟨h.1, rfl, h.2⟩⟩
end
section
variable {X : Cx} {o : Expr} {p pos apos mpos : Pos} {td : TE}
/-- tuple(d.values()) -/
def tTupVals (td : TE) : TE := fun σ H Q => td σ H fun x H1 => ∃ a kvs, x = V.ref a ∧ H1 a = some (.dK kvs) ∧ ∀ q, H1 q = none → Q (.ref q) (upd H1 q (.tup (kvs.map (·.2))))
theorem pe_tupVals (hc : X.calm = true) (hg : Gl X "tuple") (hm : X.mg "tuple" = none) (hd : PE X o td) (hbase : attributeBase o "values" X.env (eval o X.env) = eval o X.env := by rfl) (hline : (apos.endLine == mpos.line) = true := by rfl)
    (hse : starEach [Expr.Call (.Attribute o "values" apos) [] [] mpos] X.env = [(false, eval (Expr.Call (.Attribute o "values" apos) [] [] mpos) X.env)] := by rfl) :
    PE X (.Call (.Name "tuple" p) [.Call (.Attribute o "values" apos) [] [] mpos] [] pos) (tTupVals td) := by
  refine ⟨fun pins s σ H Q I h => ?_⟩
  refine Call_ (ld_blt I hg hm boot_tuple ?_)
  refine PyProof.Rows.callWith_type1 (PyProof.Rows.args_cons (wpAny_Call_method0_late hbase hline (thn (hd.run pins s σ H _ I h) fun v s1 ⟨x, H1, I1, r1, a, kvs, ex, ha, q⟩ => ?_)) hse) hse rfl
  subst ex
  obtain rfl : v = Value.ref a := r1
  obtain ⟨z, hsys, vs, rel, dof⟩ := dk_of I1.hok ha
  obtain ⟨ep, dat⟩ := dof.dictAt
  obtain ⟨ob, es, ho, ex, _⟩ := id dat
  refine ⟨"dict", "dict.values", F.plainAttrs_dict, F.slot_dict_values, F.type_dict_values, ⟨ob, ho, ex.1⟩, fun b e => by cases e; exact ⟨ob, ho, ex.2.1⟩, Calls.callWith_builtin rfl (PySem.evalArgs_none ?_)⟩
  refine call_meetsIn F.slot_dict_values ⟨ob, ho, ex.1⟩ F.entry_dict_values (F.args_dict_values_1 _) (meets_dict_values (mixKind X.prog X.w) a hsys) ⟨⟨vs, dof⟩, ?_⟩
  refine PyProof.Rows.args_nil ?_
  have lv : kvs.length = vs.length := KV.length rel
  refine call_tuple_src (PySem.W.kdl_values (knd := mixKind X.prog X.w) (kvs := vs) (ep := ep) (r := s1.heap.objs.size) (d := a)) (I.ok.hd hc) ⟨⟨_, Heap.get?_push_size _ rfl, rfl, rfl⟩, dat.keep fun b u e => Heap.get?_push_of_some _ e⟩ (by rw [← lv]; exact z) (by decide) (by decide) fun g tk acc k it => ?_
  have keep : ∀ b u, s1.heap.get? b = some u → (g.push { cls := .type "tuple", data := .seq acc }).get? b = some u := fun b u e => Heap.get?_push_of_some _ (k b u (Heap.get?_push_of_some _ e))
  have low : s1.heap.objs.size ≤ g.objs.size := by
    have := k s1.heap.objs.size _ (Heap.get?_push_size _ rfl)
    exact Nat.le_of_lt (Heap.lt_size this)
  have rv : Vals (kvs.map (·.2)) acc.toList := vals_of_at ((List.length_map _).trans (lv.trans (it.1.symm.trans Array.length_toList.symm))) fun j x u h1 h2 => by
    obtain ⟨kk, hk⟩ := it.2 j u (by rw [← Array.getElem?_toList]; exact h2)
    obtain ⟨x', h3, h4⟩ := KV.at' rel hk
    rw [List.getElem?_map, h3] at h1
    cases h1
    exact h4
  refine ⟨.ref _, upd H1 g.objs.size (.tup (kvs.map (·.2))), I1.laid (t' := tk) keep low ?_, rfl, q _ (I1.hok.fresh low)⟩
  exact ⟨by rw [List.length_map]; exact z, acc.toList, rv, ⟨_, Heap.get?_push_size _ rfl, rfl, 0, by rw [Array.toArray_toList]⟩⟩
end
end Ph

namespace Ph
open PySem PySem.Spec PyProof.Rows L2
theorem BL.get {H : Hp} : ∀ {xs : List V} {bs : List (Int × Int)} {i : Nat} {x : V}, BL H xs bs → xs[i]? = some x → ∃ b, bs[i]? = some b ∧ BkAt H x b
  | _, _, _, _, .nil, h => by simp at h
  | _, _, 0, _, .cons hb r, h => by
    have e := Option.some.inj h
    rw [← e]
    exact ⟨_, rfl, hb⟩
  | _ :: l1, _ :: l2, i + 1, x, .cons hb r, h => by
    have h' : l1[i]? = some x := h
    obtain ⟨b, e1, e2⟩ := BL.get (H := H) (xs := l1) (bs := l2) r h'
    exact ⟨b, e1, e2⟩
def ent (s : Int) (E : List Bk) (ys : List V) : List (Key × V) := List.zipWith (fun b y => (Sum.inl (b.1 / s), y)) E ys
theorem ent_snoc (s : Int) (E : List Bk) (ys : List V) (b : Bk) (y : V) (h : E.length = ys.length) : ent s (E ++ [b]) (ys ++ [y]) = ent s E ys ++ [(Sum.inl (b.1 / s), y)] := by
  unfold ent
  rw [List.zipWith_append h]
  rfl
theorem ent_snd (s : Int) : ∀ (E : List Bk) (ys : List V), E.length = ys.length → (ent s E ys).map (·.2) = ys
  | [], [], _ => rfl
  | _ :: E, y :: ys, h => by
    show y :: (ent s E ys).map (·.2) = y :: ys
    rw [ent_snd s E ys (by simpa using h)]
  | [], _ :: _, h => by simp at h
  | _ :: _, [], h => by simp at h
theorem ent_none (s q : Int) : ∀ (E : List Bk) (ys : List V), (∀ b ∈ E, b.1 / s ≠ q) → valV (ent s E ys) (Sum.inl q) = none
  | [], ys, _ => by cases ys <;> rfl
  | _ :: _, [], _ => rfl
  | b :: E, y :: ys, h => by
    have e : ent s (b :: E) (y :: ys) = (Sum.inl (b.1 / s), y) :: ent s E ys := rfl
    rw [e, valV_neg (fun z => h b (List.mem_cons_self ..) (Sum.inl.inj z))]
    exact ent_none s q E ys fun c hc => h c (List.mem_cons_of_mem _ hc)
theorem ent_len (s : Int) (E : List Bk) (ys : List V) : (ent s E ys).length ≤ E.length := by
  unfold ent
  rw [List.length_zipWith]
  omega
theorem put_snoc {kvs : List (Key × V)} {k : Key} {y v : V} (h : valV kvs k = none) : putK (kvs ++ [(k, y)]) k v = kvs ++ [(k, v)] := by
  have h1 : (kvs.any fun kv => decide (kv.1 = k)) = false := by
    rw [valV_any, h]
    rfl
  unfold putK
  rw [if_pos (by rw [List.any_append, h1]; simp), List.map_append]
  congr 1
  · have h2 := List.any_eq_false.mp h1
    conv => rhs; rw [← List.map_id kvs]
    refine List.map_congr_left fun kv hkv => ?_
    have h3 := h2 kv hkv
    rw [if_neg (by simpa using h3)]
    rfl
  · simp
theorem BL.snoc_inv {H : Hp} : ∀ {E0 : List Bk} {m : Bk} {ys : List V}, BL H ys (E0 ++ [m]) → ∃ ys0 y, ys = ys0 ++ [y] ∧ BL H ys0 E0 ∧ BkAt H y m
  | [], _, _, .cons h .nil => ⟨[], _, rfl, .nil, h⟩
  | _ :: _, _, _, .cons h r => by
    obtain ⟨ys0, y, e, b, k⟩ := BL.snoc_inv r
    exact ⟨_ :: ys0, y, by rw [e]; rfl, .cons h b, k⟩
section
variable {X : Cx} {o : Expr} {p pos apos mpos : Pos} {td : TE}
/-- list(d.values()) -/
def tLstVals (td : TE) : TE := fun σ H Q => td σ H fun x H1 => ∃ a kvs, x = V.ref a ∧ H1 a = some (.dK kvs) ∧ ∀ q, H1 q = none → Q (.ref q) (upd H1 q (.lst (kvs.map (·.2))))
theorem pe_lstVals (hc : X.calm = true) (hg : Gl X "list") (hm : X.mg "list" = none) (hd : PE X o td) (hbase : attributeBase o "values" X.env (eval o X.env) = eval o X.env := by rfl) (hline : (apos.endLine == mpos.line) = true := by rfl)
    (hse : starEach [Expr.Call (.Attribute o "values" apos) [] [] mpos] X.env = [(false, eval (Expr.Call (.Attribute o "values" apos) [] [] mpos) X.env)] := by rfl) :
    PE X (.Call (.Name "list" p) [.Call (.Attribute o "values" apos) [] [] mpos] [] pos) (tLstVals td) := by
  refine ⟨fun pins s σ H Q I h => ?_⟩
  refine Call_ (ld_blt I hg hm boot_list ?_)
  refine PyProof.Rows.callWith_type1 (PyProof.Rows.args_cons (wpAny_Call_method0_late hbase hline (thn (hd.run pins s σ H _ I h) fun v s1 ⟨x, H1, I1, r1, a, kvs, ex, ha, q⟩ => ?_)) hse) hse rfl
  subst ex
  obtain rfl : v = Value.ref a := r1
  obtain ⟨z, hsys, vs, rel, dof⟩ := dk_of I1.hok ha
  obtain ⟨ep, dat⟩ := dof.dictAt
  obtain ⟨ob, es, ho, ex, _⟩ := id dat
  refine ⟨"dict", "dict.values", F.plainAttrs_dict, F.slot_dict_values, F.type_dict_values, ⟨ob, ho, ex.1⟩, fun b e => by cases e; exact ⟨ob, ho, ex.2.1⟩, Calls.callWith_builtin rfl (PySem.evalArgs_none ?_)⟩
  refine call_meetsIn F.slot_dict_values ⟨ob, ho, ex.1⟩ F.entry_dict_values (F.args_dict_values_1 _) (meets_dict_values (mixKind X.prog X.w) a hsys) ⟨⟨vs, dof⟩, ?_⟩
  refine PyProof.Rows.args_nil ?_
  have lv : kvs.length = vs.length := KV.length rel
  refine PySem.W.kdl_call (PySem.W.kdl_values (knd := mixKind X.prog X.w) (kvs := vs) (ep := ep) (r := s1.heap.objs.size) (d := a)) (I.ok.hd hc) ⟨⟨_, Heap.get?_push_size _ rfl, rfl, rfl⟩, dat.keep fun b u e => Heap.get?_push_of_some _ e⟩ (by rw [← lv]; exact z) fun g tk acc cc k hob it => ?_
  have keep : ∀ b u, s1.heap.get? b = some u → g.get? b = some u := fun b u e => k b u (Heap.get?_push_of_some _ e)
  have rv : Vals (kvs.map (·.2)) acc.toList := vals_of_at ((List.length_map _).trans (lv.trans (it.1.symm.trans Array.length_toList.symm))) fun j x u h1 h2 => by
    obtain ⟨kk, hk⟩ := it.2 j u (by rw [← Array.getElem?_toList]; exact h2)
    obtain ⟨x', h3, h4⟩ := KV.at' rel hk
    rw [List.getElem?_map, h3] at h1
    cases h1
    exact h4
  have low : s1.heap.objs.size ≤ (s1.heap.push { cls := .type "dict_values", data := .fields #[.ref a] }).objs.size := by rw [size_push']; exact Nat.le_succ _
  refine ⟨.ref _, upd H1 _ (.lst (kvs.map (·.2))), I1.laid (t' := tk) keep low ⟨by rw [List.length_map]; exact z, acc.toList, cc, rv, ?_⟩, rfl, q _ (I1.hok.fresh low)⟩
  rw [Array.toArray_toList]
  exact hob

end
end Ph

namespace Ph
open PySem PySem.Spec PyProof.Rows L2
theorem BL.kp {H H' : Hp} {xs : List V} {bs : List Bk} (h : BL H xs bs) (kp : KpT H H') : BL H' xs bs := BL.mono kp h
theorem catSt {K : PySem.W.Frag} {H : Hp} {a b : Addr} {bs cs : List Bk} {Q : VK} (h1 : StAt H a bs) (h2 : StAt H b cs) (hl : bs.length + cs.length ≤ 10000) (q : ∀ H' p, Same H H' → StAt H' p (bs ++ cs) → Q (.ref p) H') : rCatA K (.ref a) (.ref b) H Q := by
  obtain ⟨xs, e1, b1⟩ := id h1
  obtain ⟨ys, e2, b2⟩ := id h2
  have l1 := b1.len
  have l2 := b2.len
  refine ⟨a, b, xs, ys, rfl, rfl, .inl (.inl e1), .inl (.inl e2), Nat.le_trans (show _ ≤ 10000 by omega) (by decide), fun z => ?_, fun _ z => ?_, fun _ _ p np => ?_⟩
  · have : bs = [] := by
      rw [z] at l1
      exact List.length_eq_zero_iff.mp l1.symm
    rw [this] at q
    exact q _ _ (Same.refl _) h2
  · have : cs = [] := by
      rw [z] at l2
      exact List.length_eq_zero_iff.mp l2.symm
    rw [this, List.append_nil] at q
    exact q _ _ (Same.refl _) h1
  · have s := same_upd (o := .tup (xs ++ ys)) np
    exact q _ _ s ⟨_, upd_same, (b1.app b2).mono fun t zs e => s _ _ e⟩
theorem perm_lex {l m : List Bk} (p : l.Perm m) (h1 : l.Pairwise fun x y => SrtO.lexB y x = false) (h2 : m.Pairwise fun x y => SrtO.lexB y x = false) : l = m :=
  p.eq_of_pairwise (fun a b _ _ x y => by
    have h3 := SrtO.lexB_no.mp x
    have h4 := SrtO.lexB_no.mp y
    exact Prod.ext (by omega) (by omega)) h1 h2
/-- blocks at 0, t, 2 t ..; the k-th has f k words -/
def bkl (t : Nat) (f : Nat → Nat) (n : Nat) : List Bk := (List.range n).map fun k => (((k * t : Nat) : Int), ((f k : Nat) : Int))
theorem bkl_succ (t : Nat) (f : Nat → Nat) (n : Nat) : bkl t f (n + 1) = bkl t f n ++ [(((n * t : Nat) : Int), ((f n : Nat) : Int))] := by
  unfold bkl
  rw [List.range_succ, List.map_append]
  rfl
theorem bkl_len (t : Nat) (f : Nat → Nat) (n : Nat) : (bkl t f n).length = n := by
  unfold bkl
  rw [List.length_map, List.length_range]
theorem bkl_get {t : Nat} {f : Nat → Nat} {n k : Nat} (h : k < n) : (bkl t f n)[k]? = some (((k * t : Nat) : Int), ((f k : Nat) : Int)) := by
  unfold bkl
  rw [List.getElem?_map, List.getElem?_range h]
  rfl
theorem bkl_mem {t : Nat} {f : Nat → Nat} {n : Nat} {b : Bk} : b ∈ bkl t f n ↔ ∃ k, k < n ∧ b = (((k * t : Nat) : Int), ((f k : Nat) : Int)) := by
  unfold bkl
  rw [List.mem_map]
  constructor
  · rintro ⟨k, hk, rfl⟩
    exact ⟨k, List.mem_range.mp hk, rfl⟩
  · rintro ⟨k, hk, rfl⟩
    exact ⟨k, List.mem_range.mpr hk, rfl⟩
theorem bkl_congr {t : Nat} {f g : Nat → Nat} {n : Nat} (h : ∀ k, k < n → f k = g k) : bkl t f n = bkl t g n := by
  unfold bkl
  refine List.map_congr_left fun k hk => ?_
  rw [h k (List.mem_range.mp hk)]
theorem bkl_sorted {t : Nat} (ht : 0 < t) (f : Nat → Nat) : ∀ n, (bkl t f n).Pairwise fun x y => SrtO.lexB y x = false
  | 0 => List.Pairwise.nil
  | n + 1 => by
    rw [bkl_succ, List.pairwise_append]
    refine ⟨bkl_sorted ht f n, List.pairwise_singleton _ _, fun a ha b hb => ?_⟩
    obtain ⟨k, hk, rfl⟩ := bkl_mem.mp ha
    rw [List.mem_singleton.mp hb]
    have : k * t < n * t := Nat.mul_lt_mul_of_pos_right hk ht
    exact SrtO.lexB_no.mpr (by dsimp only; omega)
theorem cdw_step {j r : Nat} (hr : 0 < r) : (j % r = 0 ∧ cdw j r = j / r ∧ cdw (j + 1) r = j / r + 1) ∨ (j % r ≠ 0 ∧ cdw j r = j / r + 1 ∧ cdw (j + 1) r = j / r + 1) := by
  have e : j = r * (j / r) + j % r := (Nat.div_add_mod j r).symm
  have m := Nat.mod_lt j hr
  generalize j / r = q at *
  generalize j % r = c at *
  subst e
  have h1 : ∀ x, x < r → cdw (r * q + 1 + x) r = q + 1 := fun x hx => by
    unfold cdw
    have : r * q + 1 + x + r - 1 = x + r * (q + 1) := by rw [Nat.mul_add, Nat.mul_one]; omega
    rw [this, Nat.add_mul_div_left _ _ hr, Nat.div_eq_of_lt hx]
    omega
  rcases Nat.eq_zero_or_pos c with z | z
  · subst z
    refine .inl ⟨rfl, ?_, ?_⟩
    · unfold cdw
      have : r * q + 0 + r - 1 = (r - 1) + r * q := by omega
      rw [this, Nat.add_mul_div_left _ _ hr, Nat.div_eq_of_lt (by omega)]
      omega
    · exact h1 0 hr
  · refine .inr ⟨by omega, ?_, ?_⟩
    · have := h1 (c - 1) (by omega)
      have e : r * q + 1 + (c - 1) = r * q + c := by omega
      rw [e] at this
      exact this
    · have := h1 c m
      have e : r * q + 1 + c = r * q + c + 1 := by omega
      rw [e] at this
      exact this
section
variable {X : Cx}
def rSetJ (K : PySem.W.Frag) (w : World) : List V → Hp → VK → Prop := fun vs H Q => ∃ (l : Addr) (ns : List Int), vs = [V.ref l] ∧ SqL K H l (ns.map V.int) ∧ ns.length + 1 < scanBound ∧ ∀ H' a c, Same H H' → H' a = some (SetO w a (fun j => decide (j ∈ ns)) c) → (ns.Nodup → c = ns.length) → Q (.ref a) H'
theorem cr_setJ (hc : X.calm = true) : CallR X (.type "set") (rSetJ X.K X.w) := fun pins s σ H vs us Q I r h => cr_setI hc pins s σ H vs us Q I r (by
  obtain ⟨l, ns, e, h1, h2, q⟩ := h
  exact ⟨l, ns, e, h1, h2, fun a c na hc => q _ a c (same_upd na) upd_same hc⟩)
end
theorem paired_mapL {α β γ : Type} {F : γ → β → Prop} {f : α → β} : ∀ {l : List α} {m : List γ}, Paired (fun a c => F c (f a)) l m → Paired F m (l.map f)
  | _, _, .nil => .nil
  | _, _, .cons h r => .cons h (paired_mapL r)
theorem inc_ext : ∀ {l m : List Int}, l.Pairwise (· < ·) → m.Pairwise (· < ·) → (∀ k, k ∈ l ↔ k ∈ m) → l = m
  | [], [], _, _, _ => rfl
  | [], y :: m, _, _, h => by have := (h y).mpr (List.mem_cons_self ..); cases this
  | x :: l, [], _, _, h => by have := (h x).mp (List.mem_cons_self ..); cases this
  | x :: l, y :: m, hl, hm, h => by
    obtain ⟨l1, l2⟩ := List.pairwise_cons.mp hl
    obtain ⟨m1, m2⟩ := List.pairwise_cons.mp hm
    have e : x = y := by
      have a := List.mem_cons.mp ((h x).mp (List.mem_cons_self ..))
      have b := List.mem_cons.mp ((h y).mpr (List.mem_cons_self ..))
      rcases a with a | a
      · exact a
      · rcases b with b | b
        · exact b.symm
        · have := m1 x a
          have := l1 y b
          omega
    subst e
    rw [inc_ext l2 m2 fun k => ?_]
    constructor
    · intro hk
      have := l1 k hk
      rcases List.mem_cons.mp ((h k).mp (List.mem_cons_of_mem _ hk)) with z | z
      · omega
      · exact z
    · intro hk
      have := m1 k hk
      rcases List.mem_cons.mp ((h k).mpr (List.mem_cons_of_mem _ hk)) with z | z
      · omega
      · exact z
end Ph

namespace Ph
open PySem PySem.Spec PyProof.Rows L2
/-! ### ranges with a step -/
def upS (x s : Int) : Int := -(-x / s) * s
theorem upS_ge {x s : Int} (hs : 0 < s) : x ≤ upS x s := by
  unfold upS
  have := Int.ediv_mul_le (-x) (b := s) (by omega)
  rw [Int.neg_mul]
  omega
theorem upS_lt {x s : Int} (hs : 0 < s) : upS x s < x + s := by
  unfold upS
  have := Int.lt_ediv_add_one_mul_self (-x) hs
  rw [Int.add_mul, Int.one_mul] at this
  rw [Int.neg_mul]
  omega
theorem upS_mod {x s : Int} : upS x s % s = 0 := by
  unfold upS
  exact Int.mul_emod_left _ _
/-- how many numbers a range gives -/
def rgN (i j c : Int) : Nat := (Builtin.Range.rangeSize i j c).toNat
theorem rgN_nonneg {i j c : Int} (hc : 0 < c) : 0 ≤ Builtin.Range.rangeSize i j c := by
  unfold Builtin.Range.rangeSize
  rw [if_pos hc]
  split
  · have : 0 ≤ (j - i - 1) / c := Int.ediv_nonneg (by omega) (by omega)
    omega
  · exact Int.le_refl _
theorem rgN_le {i j c : Int} (hc : 0 < c) : rgN i j c ≤ (j - i).toNat := by
  unfold rgN Builtin.Range.rangeSize
  rw [if_pos hc]
  split
  · have : (j - i - 1) / c ≤ j - i - 1 := Int.ediv_le_self _ (by omega)
    omega
  · simp
theorem rg3_inc {i c : Int} (hc : 0 < c) (n : Nat) : (rg3 i c n).Pairwise (· < ·) := by
  unfold rg3
  rw [List.pairwise_map]
  refine List.pairwise_lt_range.imp fun {a b} h => ?_
  have : (a : Int) * c < b * c := Int.mul_lt_mul_of_pos_right (by omega) hc
  omega
theorem mem_rg3 {i j c k : Int} (hc : 0 < c) : k ∈ rg3 i c (rgN i j c) ↔ i ≤ k ∧ k < j ∧ (k - i) % c = 0 := by
  have hn := rgN_nonneg (i := i) (j := j) hc
  unfold rg3
  rw [List.mem_map]
  constructor
  · rintro ⟨t, ht, rfl⟩
    have ht := List.mem_range.mp ht
    have t0 : 0 ≤ (t : Int) * c := Int.mul_nonneg (by omega) (by omega)
    have hl : (t : Int) < Builtin.Range.rangeSize i j c := by unfold rgN at ht; omega
    unfold Builtin.Range.rangeSize at hl
    rw [if_pos hc] at hl
    refine ⟨by omega, ?_, ?_⟩
    · split at hl
      · have h1 : (t : Int) * c ≤ (j - i - 1) / c * c := Int.mul_le_mul_of_nonneg_right (by omega) (by omega)
        have h2 := Int.ediv_mul_le (j - i - 1) (b := c) (by omega)
        omega
      · omega
    · rw [show i + (t : Int) * c - i = t * c by omega]
      exact Int.mul_emod_left _ _
  · rintro ⟨h1, h2, h3⟩
    obtain ⟨t, ht⟩ := Int.dvd_of_emod_eq_zero h3
    have t0 : 0 ≤ t := by
      by_cases z : 0 ≤ t
      · exact z
      · have : c * t < 0 := Int.mul_neg_of_pos_of_neg hc (by omega)
        omega
    refine ⟨t.toNat, List.mem_range.mpr ?_, ?_⟩
    · have hl : t < Builtin.Range.rangeSize i j c := by
        unfold Builtin.Range.rangeSize
        rw [if_pos hc, if_pos (by omega)]
        have : t ≤ (j - i - 1) / c := by
          rw [Int.le_ediv_iff_mul_le hc]
          rw [Int.mul_comm]
          omega
        omega
      unfold rgN
      omega
    · rw [Int.toNat_of_nonneg t0, Int.mul_comm]
      omega
theorem inc_append {l m : List Int} (hl : l.Pairwise (· < ·)) (hm : m.Pairwise (· < ·)) (h : ∀ a ∈ l, ∀ b ∈ m, a < b) : (l ++ m).Pairwise (· < ·) := List.pairwise_append.mpr ⟨hl, hm, h⟩
/-! ### places -/
def plf (s : Int) : Int → List Bk → List Int
  | _, [] => []
  | ff, b :: r => rg3 (upS ff s) s (rgN (upS ff s) (b.1 - s + 1) s) ++ plf s (b.1 + b.2) r
def free (s : Int) (bs : List Bk) (W k : Int) : Prop := k % s = 0 ∧ 0 ≤ k ∧ k + s ≤ W ∧ ∀ b ∈ bs, k + s ≤ b.1 ∨ b.1 + b.2 ≤ k
theorem up_mod {s ff k : Int} (hs : 0 < s) : upS ff s ≤ k ∧ (k - upS ff s) % s = 0 ↔ ff ≤ k ∧ k % s = 0 := by
  have h1 := upS_ge (x := ff) hs
  have h2 := upS_lt (x := ff) hs
  have h3 := upS_mod (x := ff) (s := s)
  obtain ⟨q, hq⟩ := Int.dvd_of_emod_eq_zero h3
  constructor
  · rintro ⟨a, b⟩
    refine ⟨by omega, ?_⟩
    obtain ⟨r, hr⟩ := Int.dvd_of_emod_eq_zero b
    have : k = s * (q + r) := by rw [Int.mul_add]; omega
    rw [this]
    exact Int.mul_emod_right _ _
  · rintro ⟨a, b⟩
    obtain ⟨r, hr⟩ := Int.dvd_of_emod_eq_zero b
    have e : k - upS ff s = s * (r - q) := by rw [Int.mul_sub]; omega
    refine ⟨?_, by rw [e]; exact Int.mul_emod_right _ _⟩
    by_cases z : upS ff s ≤ k
    · exact z
    · exfalso
      have : r - q < 0 := by
        by_cases z2 : r - q < 0
        · exact z2
        · have : 0 ≤ s * (r - q) := Int.mul_nonneg (by omega) (by omega)
          omega
      have h5 : s * (r - q) ≤ s * (-1) := Int.mul_le_mul_of_nonneg_left (by omega) (by omega)
      omega
theorem plf_mem {s W : Int} (hs : 0 < s) : ∀ (bs : List Bk) (ff : Int), (∀ b ∈ bs, ff ≤ b.1 ∧ 1 ≤ b.2 ∧ b.1 + b.2 ≤ W) → bs.Pairwise (fun b c => b.1 + b.2 ≤ c.1) → ff ≤ W → ∀ k, k ∈ plf s ff (bs ++ [(W, 0)]) ↔ k % s = 0 ∧ ff ≤ k ∧ k + s ≤ W ∧ ∀ b ∈ bs, k + s ≤ b.1 ∨ b.1 + b.2 ≤ k
  | [], ff, _, _, _, k => by
    show k ∈ rg3 (upS ff s) s (rgN (upS ff s) (W - s + 1) s) ++ [] ↔ _
    rw [List.append_nil, mem_rg3 hs]
    have h := up_mod (ff := ff) (k := k) hs
    constructor
    · rintro ⟨a, b, c⟩
      obtain ⟨d, e⟩ := h.mp ⟨a, c⟩
      exact ⟨e, d, by omega, fun b hb => by cases hb⟩
    · rintro ⟨a, b, c, _⟩
      obtain ⟨d, e⟩ := h.mpr ⟨b, a⟩
      exact ⟨d, by omega, e⟩
  | b :: r, ff, hb, hp, hW, k => by
    obtain ⟨p1, p2⟩ := List.pairwise_cons.mp hp
    obtain ⟨b1, b2, b3⟩ := hb b (List.mem_cons_self ..)
    have ih := plf_mem hs r (b.1 + b.2) (fun c hc => ⟨p1 c hc, (hb c (List.mem_cons_of_mem _ hc)).2⟩) p2 b3 k
    show k ∈ rg3 (upS ff s) s (rgN (upS ff s) (b.1 - s + 1) s) ++ plf s (b.1 + b.2) (r ++ [(W, 0)]) ↔ _
    rw [List.mem_append, mem_rg3 hs, ih]
    have h := up_mod (ff := ff) (k := k) hs
    constructor
    · rintro (⟨a, c, d⟩ | ⟨a, c, d, e⟩)
      · obtain ⟨f, g⟩ := h.mp ⟨a, d⟩
        refine ⟨g, f, by omega, fun x hx => ?_⟩
        rcases List.mem_cons.mp hx with z | z
        · rw [z]; left; omega
        · have := p1 x z
          left; omega
      · refine ⟨a, by omega, d, fun x hx => ?_⟩
        rcases List.mem_cons.mp hx with z | z
        · rw [z]; right; exact c
        · exact e x z
    · rintro ⟨a, c, d, e⟩
      rcases e b (List.mem_cons_self ..) with z | z
      · obtain ⟨f, g⟩ := h.mpr ⟨c, a⟩
        exact .inl ⟨f, by omega, g⟩
      · exact .inr ⟨a, z, d, fun x hx => e x (List.mem_cons_of_mem _ hx)⟩
theorem plf_inc {s W : Int} (hs : 0 < s) : ∀ (bs : List Bk) (ff : Int), (∀ b ∈ bs, ff ≤ b.1 ∧ 1 ≤ b.2 ∧ b.1 + b.2 ≤ W) → bs.Pairwise (fun b c => b.1 + b.2 ≤ c.1) → ff ≤ W → (plf s ff (bs ++ [(W, 0)])).Pairwise (· < ·)
  | [], ff, _, _, _ => by
    show (rg3 (upS ff s) s (rgN (upS ff s) (W - s + 1) s) ++ []).Pairwise (· < ·)
    rw [List.append_nil]
    exact rg3_inc hs _
  | b :: r, ff, hb, hp, hW => by
    obtain ⟨p1, p2⟩ := List.pairwise_cons.mp hp
    obtain ⟨b1, b2, b3⟩ := hb b (List.mem_cons_self ..)
    have hb' : ∀ c ∈ r, b.1 + b.2 ≤ c.1 ∧ 1 ≤ c.2 ∧ c.1 + c.2 ≤ W := fun c hc => ⟨p1 c hc, (hb c (List.mem_cons_of_mem _ hc)).2⟩
    refine inc_append (rg3_inc hs _) (plf_inc hs r (b.1 + b.2) hb' p2 b3) fun x hx y hy => ?_
    have h1 := ((mem_rg3 hs).mp hx).2.1
    have h2 := ((plf_mem hs r (b.1 + b.2) hb' p2 b3 y).mp hy).2.1
    omega
theorem St.bnd {C : List Int} {W : Int} {bs : List Bk} (st : St C W bs) : ∀ b ∈ bs, 0 ≤ b.1 ∧ 1 ≤ b.2 ∧ b.1 + b.2 ≤ W := fun b hb => let ⟨_, h1, h2, _, h3⟩ := st.ok b hb; ⟨h2, h1, h3⟩
/-! ### a state behind another one -/
def fin : Int → List Bk → Int
  | ff, [] => ff
  | _, b :: r => fin (b.1 + b.2) r
theorem fin_snoc : ∀ (l : List Bk) (ff : Int) (b : Bk), fin ff (l ++ [b]) = b.1 + b.2
  | [], _, _ => rfl
  | _ :: r, _, b => fin_snoc r _ b
theorem plf_snoc (s : Int) : ∀ (l : List Bk) (ff : Int) (b : Bk), plf s ff (l ++ [b]) = plf s ff l ++ rg3 (upS (fin ff l) s) s (rgN (upS (fin ff l) s) (b.1 - s + 1) s)
  | [], ff, b => by
    show rg3 _ _ _ ++ [] = [] ++ _
    rw [List.append_nil]
    rfl
  | c :: r, ff, b => by
    show rg3 _ _ _ ++ plf s (c.1 + c.2) (r ++ [b]) = (rg3 _ _ _ ++ plf s (c.1 + c.2) r) ++ _
    rw [plf_snoc s r, List.append_assoc]
    rfl
theorem rg3_len (i c : Int) (n : Nat) : (rg3 i c n).length = n := by unfold rg3; simp
theorem plf_len {s : Int} (hs : 0 < s) : ∀ (l : List Bk) (ff e : Int), (∀ b ∈ l, ff ≤ b.1 ∧ 0 ≤ b.2 ∧ b.1 + b.2 ≤ e) → l.Pairwise (fun b c => b.1 + b.2 ≤ c.1) → ff ≤ e → (plf s ff l).length ≤ (e - ff).toNat
  | [], ff, e, _, _, _ => by show 0 ≤ _; omega
  | b :: r, ff, e, hb, hp, he => by
    obtain ⟨p1, p2⟩ := List.pairwise_cons.mp hp
    obtain ⟨b1, b2, b3⟩ := hb b (List.mem_cons_self ..)
    have ih := plf_len hs r (b.1 + b.2) e (fun c hc => ⟨p1 c hc, (hb c (List.mem_cons_of_mem _ hc)).2⟩) p2 b3
    show (rg3 _ _ _ ++ plf s (b.1 + b.2) r).length ≤ _
    rw [List.length_append, rg3_len]
    have h1 := rgN_le (i := upS ff s) (j := b.1 - s + 1) hs
    have h2 := upS_ge (x := ff) hs
    omega
theorem fin_bnd : ∀ (l : List Bk) (ff e : Int), (∀ b ∈ l, ff ≤ b.1 ∧ 0 ≤ b.2 ∧ b.1 + b.2 ≤ e) → ff ≤ e → l.Pairwise (fun b c => b.1 + b.2 ≤ c.1) → ff ≤ fin ff l ∧ fin ff l ≤ e
  | [], ff, e, _, he, _ => ⟨Int.le_refl _, he⟩
  | b :: r, ff, e, hb, he, hp => by
    obtain ⟨p1, p2⟩ := List.pairwise_cons.mp hp
    obtain ⟨b1, b2, b3⟩ := hb b (List.mem_cons_self ..)
    have ih := fin_bnd r (b.1 + b.2) e (fun c hc => ⟨p1 c hc, (hb c (List.mem_cons_of_mem _ hc)).2⟩) b3 p2
    show ff ≤ fin (b.1 + b.2) r ∧ _
    exact ⟨by omega, ih.2⟩
theorem RgC.up {i j c : Int} (hc : 0 < c) (hc2 : c < 1073741824) (hi : -(2 ^ 61) ≤ i ∧ i < 2 ^ 61) (hj : -(2 ^ 61) ≤ j ∧ j < 2 ^ 61) : RgC i j c (rgN i j c) := by
  have h1 := rgN_le (i := i) (j := j) hc
  have h0 := rgN_nonneg (i := i) (j := j) hc
  have h2 : Builtin.Range.rangeSize i j c = ((rgN i j c : Nat) : Int) := by unfold rgN; omega
  refine ⟨by omega, by omega, ?_, h2⟩
  unfold Builtin.Range.small
  rw [h2]
  simp only [Builtin.Range.rangeFitsLong, Bool.and_eq_true, Bool.or_eq_true, decide_eq_true_eq, beq_iff_eq, if_pos hc]
  omega
theorem St.asc0 {C : List Int} {W : Int} {bs : List Bk} (st : St C W bs) (h0 : 0 ≤ W) : (∀ b ∈ bs ++ [(W, 0)], 0 ≤ b.1 ∧ 0 ≤ b.2 ∧ b.1 + b.2 ≤ W) ∧ (bs ++ [(W, 0)]).Pairwise (fun b c : Bk => b.1 + b.2 ≤ c.1) := by
  refine ⟨fun b hb => ?_, List.pairwise_append.mpr ⟨st.asc, by simp, fun b hb c hc => ?_⟩⟩
  · rcases List.mem_append.mp hb with z | z
    · have := st.bnd b z
      omega
    · rw [List.mem_singleton.mp z]
      dsimp only
      omega
  · rw [List.mem_singleton.mp hc]
    exact (st.bnd b hb).2.2
theorem plf_gap {s x : Int} (hs : 0 < s) (ff a : Int) : rg3 (upS ff s) s (rgN (upS ff s) (a - s + 1) s) = if upS ff s ≤ (a - s) / s * s then rg3 (upS ff s) s (rgN (upS ff s) ((a - s) / s * s + 1) s) else [] := by
  have key : ∀ k, k % s = 0 → (k ≤ a - s ↔ k ≤ (a - s) / s * s) := fun k hk => by
    have e : k = k / s * s := by
      have := Int.mul_ediv_add_emod k s
      rw [hk, Int.mul_comm] at this
      omega
    constructor
    · intro h
      have h1 : k / s ≤ (a - s) / s := Int.ediv_le_ediv hs h
      have := Int.mul_le_mul_of_nonneg_right h1 (Int.le_of_lt hs)
      omega
    · intro h
      have := Int.ediv_mul_le (a - s) (b := s) (by omega)
      omega
  have um : upS ff s % s = 0 := upS_mod
  have mm : ∀ k, (k - upS ff s) % s = 0 → k % s = 0 := fun k h => by
    have e : k = (k - upS ff s) + upS ff s := by omega
    rw [e, Int.add_emod, h, um]
    simp
  split
  · refine inc_ext (rg3_inc hs _) (rg3_inc hs _) fun k => ?_
    rw [mem_rg3 hs, mem_rg3 hs]
    constructor
    · rintro ⟨h1, h2, h3⟩
      have := (key k (mm k h3)).mp (by omega)
      exact ⟨h1, by omega, h3⟩
    · rintro ⟨h1, h2, h3⟩
      have := (key k (mm k h3)).mpr (by omega)
      exact ⟨h1, by omega, h3⟩
  · rename_i h
    cases e : rg3 (upS ff s) s (rgN (upS ff s) (a - s + 1) s) with
    | nil => rfl
    | cons k r =>
      have hk : k ∈ rg3 (upS ff s) s (rgN (upS ff s) (a - s + 1) s) := by rw [e]; exact List.mem_cons_self ..
      rw [mem_rg3 hs] at hk
      have := (key (upS ff s) um).mp (by omega)
      omega
def gp1 (s ff : Int) (b : Bk) : List Bk := if upS ff s ≤ (b.1 - s) / s * s then [(upS ff s, (b.1 - s) / s * s)] else []
def gpf (s : Int) : Int → List Bk → List Bk
  | _, [] => []
  | ff, b :: r => gp1 s ff b ++ gpf s (b.1 + b.2) r
theorem gpf_snoc (s : Int) : ∀ (l : List Bk) (ff : Int) (b : Bk), gpf s ff (l ++ [b]) = gpf s ff l ++ gp1 s (fin ff l) b
  | [], ff, b => by show gp1 s ff b ++ [] = [] ++ _; rw [List.append_nil]; rfl
  | c :: r, ff, b => by
    show gp1 s ff c ++ gpf s (c.1 + c.2) (r ++ [b]) = gp1 s ff c ++ gpf s (c.1 + c.2) r ++ _
    rw [gpf_snoc s r, List.append_assoc]
    rfl
def gpr (s : Int) (g : Bk) : List Int := rg3 g.1 s (rgN g.1 (g.2 + 1) s)
theorem plf_gpf {s : Int} (hs : 0 < s) : ∀ (l : List Bk) (ff : Int), plf s ff l = (gpf s ff l).flatMap (gpr s)
  | [], _ => rfl
  | b :: r, ff => by
    show rg3 (upS ff s) s (rgN (upS ff s) (b.1 - s + 1) s) ++ plf s (b.1 + b.2) r = (gp1 s ff b ++ gpf s (b.1 + b.2) r).flatMap (gpr s)
    rw [plf_gpf hs r, plf_gap (x := 0) hs, List.flatMap_append]
    congr 1
    unfold gp1
    split
    · rw [List.flatMap_cons, List.flatMap_nil, List.append_nil]
      rfl
    · rfl
theorem gpf_bnd {s W : Int} (hs : 0 < s) : ∀ (l : List Bk) (ff : Int), (∀ b ∈ l, 0 ≤ b.1 ∧ 0 ≤ b.2 ∧ b.1 + b.2 ≤ W) → 0 ≤ ff → ∀ g ∈ gpf s ff l, 0 ≤ g.1 ∧ g.1 ≤ g.2 ∧ g.2 ≤ W
  | [], _, _, _, g, hg => by cases hg
  | b :: r, ff, h, hf, g, hg => by
    obtain ⟨b1, b2, b3⟩ := h b (List.mem_cons_self ..)
    rcases List.mem_append.mp hg with z | z
    · unfold gp1 at z
      split at z
      · rename_i c
        rw [List.mem_singleton.mp z]
        have := upS_ge (x := ff) hs
        have := Int.ediv_mul_le (b.1 - s) (b := s) (by omega)
        exact ⟨by show 0 ≤ upS ff s; omega, c, by show (b.1 - s) / s * s ≤ W; omega⟩
      · cases z
    · exact gpf_bnd hs r (b.1 + b.2) (fun c hc => h c (List.mem_cons_of_mem _ hc)) (by omega) g z
theorem gpf_len (s : Int) : ∀ (l : List Bk) (ff : Int), (gpf s ff l).length ≤ l.length
  | [], _ => Nat.le_refl _
  | b :: r, ff => by
    show (gp1 s ff b ++ _).length ≤ _
    have h1 := gpf_len s r (b.1 + b.2)
    have h2 : (gp1 s ff b).length ≤ 1 := by unfold gp1; split <;> simp
    rw [List.length_append, List.length_cons]
    omega
end Ph

namespace Ph
open PySem PySem.Spec PyProof.Rows L2
/-! ### the lowest place: guarantees (a) and (c) -/
theorem sm_addR (f : Nat → Nat) (a : Nat) : ∀ c, sm f (a + c) = sm f a + sm (fun x => f (a + x)) c
  | 0 => rfl
  | c + 1 => by
    show sm f (a + c) + f (a + c) = sm f a + (sm (fun x => f (a + x)) c + f (a + c))
    rw [sm_addR f a c]
    omega
theorem sm_chunks (f : Nat → Nat) (S : Nat) : ∀ n, sm f (n * S) = sm (fun k => sm (fun x => f (k * S + x)) S) n
  | 0 => by rw [Nat.zero_mul]; rfl
  | n + 1 => by
    rw [Nat.add_mul, Nat.one_mul, sm_addR, sm_chunks f S n]
    rfl
theorem sm_plus (f g : Nat → Nat) : ∀ n, sm (fun x => f x + g x) n = sm f n + sm g n
  | 0 => rfl
  | n + 1 => by
    show sm (fun x => f x + g x) n + (f n + g n) = sm f n + f n + (sm g n + g n)
    rw [sm_plus f g n]
    omega
def ind (a l x : Nat) : Nat := if a ≤ x ∧ x < a + l then 1 else 0
theorem sm_ind (a l : Nat) : ∀ n, sm (ind a l) n = min n (a + l) - min n a
  | 0 => by show 0 = _; omega
  | n + 1 => by
    show sm (ind a l) n + ind a l n = _
    rw [sm_ind a l n]
    unfold ind
    split <;> omega
def ocB (b : Bk) (x : Nat) : Nat := ind b.1.toNat b.2.toNat x
def occ (bs : List Bk) (x : Nat) : Nat := if bs.any (fun b => decide (ocB b x = 1)) = true then 1 else 0
theorem ocB_le (b : Bk) (x : Nat) : ocB b x ≤ 1 := by unfold ocB ind; split <;> omega
theorem occ_cons (b : Bk) (r : List Bk) (x : Nat) : occ (b :: r) x ≤ ocB b x + occ r x := by
  unfold occ
  rw [List.any_cons]
  have := ocB_le b x
  by_cases h : ocB b x = 1
  · rw [h]; split <;> split <;> omega
  · have e : decide (ocB b x = 1) = false := decide_eq_false h
    rw [e, Bool.false_or]
    omega
theorem occ_ge {b : Bk} {bs : List Bk} (h : b ∈ bs) (x : Nat) : ocB b x ≤ occ bs x := by
  unfold occ
  by_cases e : ocB b x = 1
  · rw [if_pos (List.any_eq_true.mpr ⟨b, h, decide_eq_true e⟩)]
    omega
  · have := ocB_le b x
    omega
def totN (bs : List Bk) : Nat := (bs.map fun b => b.2.toNat).sum
theorem occ_sum (N : Nat) : ∀ bs : List Bk, sm (occ bs) N ≤ totN bs
  | [] => by
    have : sm (occ []) N ≤ sm (fun _ => 0) N := sm_le fun k _ => by unfold occ; simp
    have z : ∀ n, sm (fun _ => 0) n = 0 := fun n => by
      induction n with
      | zero => rfl
      | succ n ih => show sm (fun _ => 0) n + 0 = 0; omega
    rw [z] at this
    exact Nat.le_trans this (Nat.zero_le _)
  | b :: r => by
    have h1 : sm (occ (b :: r)) N ≤ sm (fun x => ocB b x + occ r x) N := sm_le fun k _ => occ_cons b r k
    rw [sm_plus] at h1
    have h2 := occ_sum N r
    have h3 : sm (ocB b) N ≤ b.2.toNat := by
      show sm (ind b.1.toNat b.2.toNat) N ≤ _
      rw [sm_ind]
      omega
    unfold totN at *
    rw [List.map_cons, List.sum_cons]
    omega
/-- blocks of a chain, at their multiples -/
def Bok (s : Nat → Nat) (p : Nat) (bs : List Bk) : Prop := ∀ b ∈ bs, ∃ (a j : Nat), j ≤ p ∧ b = (((a * s j : Nat) : Int), ((s j : Nat) : Int))
/-- a chunk with a block has at least as many words as the block, or all -/
theorem chunk_ge {s : Nat → Nat} {p i j k a : Nat} {bs : List Bk} (c : CH s (p + 1)) (hi : i ≤ p) (hj : j ≤ p) (hb : (((a * s j : Nat) : Int), ((s j : Nat) : Int)) ∈ bs) (o1 : a * s j < (k + 1) * s i) (o2 : k * s i < a * s j + s j) :
    (j ≤ i ∧ k * s i ≤ a * s j ∧ s j ≤ sm (fun x => occ bs (k * s i + x)) (s i)) ∨ (i ≤ j ∧ s i ≤ sm (fun x => occ bs (k * s i + x)) (s i)) := by
  have pi := c.pos (i := i) (by omega)
  have pj := c.pos (i := j) (by omega)
  have low : sm (fun x => ind (a * s j) (s j) (k * s i + x)) (s i) ≤ sm (fun x => occ bs (k * s i + x)) (s i) := sm_le fun x _ => by
    have := occ_ge hb (k * s i + x)
    unfold ocB at this
    simp only [Int.toNat_natCast] at this
    exact this
  have val : sm (fun x => ind (a * s j) (s j) (k * s i + x)) (s i) = (min (k * s i + s i) (a * s j + s j) - min (k * s i + s i) (a * s j)) - (min (k * s i) (a * s j + s j) - min (k * s i) (a * s j)) := by
    have h := sm_addR (ind (a * s j) (s j)) (k * s i) (s i)
    rw [sm_ind, sm_ind] at h
    omega
  rw [val] at low
  rw [Nat.add_mul, Nat.one_mul] at o1
  rcases Nat.le_total j i with h | h
  · obtain ⟨r, r1, er⟩ := c.dvd h (by omega)
    left
    have e1 : k * s i = k * r * s j := by rw [er, Nat.mul_comm (s j) r, Nat.mul_assoc]
    have e2 : k * s i + s i = (k * r + r) * s j := by rw [Nat.add_mul, ← e1, er, Nat.mul_comm (s j) r]
    have l1 : k * r ≤ a := by
      rw [e1] at o2
      have : k * r * s j < (a + 1) * s j := by rw [Nat.add_mul, Nat.one_mul]; exact o2
      exact Nat.le_of_lt_succ (Nat.lt_of_mul_lt_mul_right this)
    have l2 : a + 1 ≤ k * r + r := by
      rw [e2] at o1
      exact Nat.lt_of_mul_lt_mul_right o1
    have m1 : k * s i ≤ a * s j := by rw [e1]; exact Nat.mul_le_mul_right _ l1
    have m2 : a * s j + s j ≤ k * s i + s i := by
      rw [e2]
      have := Nat.mul_le_mul_right (s j) l2
      rw [Nat.add_mul, Nat.one_mul] at this
      exact this
    refine ⟨h, m1, ?_⟩
    omega
  · obtain ⟨r, r1, er⟩ := c.dvd h (by omega)
    right
    have e1 : a * s j = a * r * s i := by rw [er, Nat.mul_comm (s i) r, Nat.mul_assoc]
    have e2 : a * s j + s j = (a * r + r) * s i := by rw [Nat.add_mul, ← e1, er, Nat.mul_comm (s i) r]
    have l1 : a * r ≤ k := by
      rw [e1] at o1
      have : a * r * s i < (k + 1) * s i := by rw [Nat.add_mul, Nat.one_mul]; exact o1
      exact Nat.le_of_lt_succ (Nat.lt_of_mul_lt_mul_right this)
    have l2 : k + 1 ≤ a * r + r := by
      rw [e2] at o2
      exact Nat.lt_of_mul_lt_mul_right o2
    have m1 : a * s j ≤ k * s i := by rw [e1]; exact Nat.mul_le_mul_right _ l1
    have m2 : k * s i + s i ≤ a * s j + s j := by
      rw [e2]
      have := Nat.mul_le_mul_right (s i) l2
      rw [Nat.add_mul, Nat.one_mul] at this
      exact this
    refine ⟨h, ?_⟩
    omega
theorem bfn_mono1 {s ρ : Nat → Nat} {M p : Nat} (c : CH s (p + 1)) {i : Nat} : ∀ {j}, i ≤ j → j ≤ p → bfn s ρ M i ≤ bfn s ρ M j
  | 0, h, _ => by rw [Nat.le_zero.mp h]; exact Nat.le_refl _
  | j + 1, h, h2 => by
    rcases Nat.lt_or_ge i (j + 1) with z | z
    · exact Nat.le_trans (bfn_mono1 c (by omega) (by omega)) (bfn_up (c.pos (by omega)))
    · have : i = j + 1 := by omega
      rw [this]; exact Nat.le_refl _
/-- all chunks below are taken and the limit allows one more block: it ends within the outlook -/
theorem low_end {s ρ : Nat → Nat} {p i n M : Nat} {bs : List Bk} (c : CH s (p + 1)) (hi : i ≤ p) (ok : Bok s p bs) (rc : ∀ (a j : Nat), j ≤ p → (((a * s j : Nat) : Int), ((s j : Nat) : Int)) ∈ bs → a * s j + s j ≤ ρ j)
    (full : ∀ k, k < n → ∃ b ∈ bs, b.1 < (((k + 1) * s i : Nat) : Int) ∧ ((k * s i : Nat) : Int) < b.1 + b.2) (lim : totN bs + s i ≤ M) : (n + 1) * s i ≤ bfn s ρ M i := by
  have sum1 : sm (fun k => s (cls (bfn s ρ M) i (k * s i))) n ≤ totN bs := by
    refine Nat.le_trans ?_ (occ_sum (n * s i) bs)
    rw [sm_chunks]
    refine sm_le fun k hk => ?_
    obtain ⟨b, hb, o1, o2⟩ := full k hk
    obtain ⟨a, j, hj, rfl⟩ := ok b hb
    dsimp only at o1 o2
    rcases chunk_ge (k := k) c hi hj hb (by omega) (by omega) with ⟨h1, h2, h3⟩ | ⟨h1, h2⟩
    · refine Nat.le_trans ?_ h3
      have r := rc a j hj hb
      have g : ρ j ≤ bfn s ρ M j := bfn_ge
      have pj := c.pos (i := j) (by omega)
      have : cls (bfn s ρ M) i (k * s i) ≤ j := by
        rcases Nat.lt_or_ge j (cls (bfn s ρ M) i (k * s i)) with z | z
        · have := cls_lo z
          omega
        · exact z
      exact c.mono this (by omega)
    · exact Nat.le_trans (c.mono (cls_le _ _ _) (by omega)) h2
  have last : s (cls (bfn s ρ M) i (n * s i)) ≤ s i := c.mono (cls_le _ _ _) (by omega)
  have sum2 : sm (fun k => s (cls (bfn s ρ M) i (k * s i))) (n + 1) ≤ M := by
    show sm (fun k => s (cls (bfn s ρ M) i (k * s i))) n + s (cls (bfn s ρ M) i (n * s i)) ≤ M
    omega
  cases i with
  | zero =>
    rw [bfn_zero, c.s0, Nat.mul_one]
    have : (n + 1) * 1 ≤ sm (fun k => s (cls (bfn s ρ M) 0 (k * s 0))) (n + 1) := sm_ge fun k _ => by
      show 1 ≤ s 0
      rw [c.s0]; exact Nat.le_refl _
    have := Nat.le_max_left M (ρ 0)
    omega
  | succ i =>
    have S0 := c.pos (i := i + 1) (by omega)
    have h := (ov_iff (s := s) (b := bfn s ρ M) (i := i) (n := n + 1) (M := M) S0 (fun j hj => bfn_up (c.pos (by omega)))).mpr (.inr sum2)
    rw [bfn_succ]
    refine Nat.le_trans ?_ (Nat.le_max_right _ _)
    rw [Nat.mul_comm]
    exact Nat.mul_le_mul_left _ h
/-- reaches within an outlook do not raise it -/
theorem bfn_idem {s ρ : Nat → Nat} {M : Nat} : ∀ i, bfn s (bfn s ρ M) M i = bfn s ρ M i := by
  have key : ∀ n i, i ≤ n → bfn s (bfn s ρ M) M i = bfn s ρ M i := by
    intro n
    induction n with
    | zero =>
      intro i h
      rw [Nat.le_zero.mp h, bfn_zero, bfn_zero]
      omega
    | succ n ih =>
      intro i h
      rcases Nat.lt_or_ge i (n + 1) with z | z
      · exact ih i (by omega)
      · have e : i = n + 1 := by omega
        subst e
        rw [bfn_succ s (bfn s ρ M), ih n (by omega), lw_congr (b' := bfn s ρ M) (fun j hj => ih j (by omega)), bfn_succ s ρ]
        omega
  exact fun i => key i i (Nat.le_refl _)
theorem bfn_within {s ρ ρ' : Nat → Nat} {m M : Nat} (c : CH s m) (h : ∀ i, i < m → ρ' i ≤ bfn s ρ M i) : ∀ i, i < m → bfn s ρ' M i ≤ bfn s ρ M i := fun i hi => by
  have := bfn_mono (s := s) (ρ := bfn s ρ M) (ρ' := ρ') (M := M) (M' := M) c h (Nat.le_refl _) i hi
  rw [bfn_idem] at this
  exact this
theorem cut_oneL {s : Nat → Nat} {p : Nat} : cutV ((tl s (p + 1)).map V.int) (some 1) none = (tl (fun i => s (i + 1)) p).map V.int := by
  have e : (tl s (p + 1)).map V.int = V.int ((s 0 : Nat) : Int) :: (tl (fun i => s (i + 1)) p).map V.int := by
    unfold tl
    rw [List.range_succ_eq_map, List.map_cons, List.map_cons, List.map_map, List.map_map, List.map_map]
    rfl
  rw [e]
  unfold cutV HT.sIx
  simp [tl_len]
  exact List.take_of_length_le (by rw [List.length_map, tl_len]; exact Nat.le_refl _)
theorem BL.at0 {H : Hp} {xs : List V} {b : Bk} {bs : List Bk} (h : BL H xs (b :: bs)) : ∃ x, xs[0]? = some x ∧ BkAt H x b := Paired.get2 h (i := 0) rfl
end Ph

namespace Ph
open PySem PySem.Spec PyProof.Rows L2
/-! ### heaps as objects -/
def hf (c : Addr) (pg M : Int) (t l : Addr) : List (Str × V) := [("chain", .ref c), ("pages", .int pg), ("limit", .int M), ("rule", .str "lowest"), ("blocks", .ref t), ("steps", .ref l)]
theorem hf_chain {c t l : Addr} {pg M : Int} : (hf c pg M t l).lookup ("chain" : Str) = some (.ref c) := rfl
theorem hf_pages {c t l : Addr} {pg M : Int} : (hf c pg M t l).lookup ("pages" : Str) = some (.int pg) := rfl
theorem hf_limit {c t l : Addr} {pg M : Int} : (hf c pg M t l).lookup ("limit" : Str) = some (.int M) := rfl
theorem hf_rule {c t l : Addr} {pg M : Int} : (hf c pg M t l).lookup ("rule" : Str) = some (.str "lowest") := rfl
theorem hf_blocks {c t l : Addr} {pg M : Int} : (hf c pg M t l).lookup ("blocks" : Str) = some (.ref t) := rfl
theorem hf_steps {c t l : Addr} {pg M : Int} : (hf c pg M t l).lookup ("steps" : Str) = some (.ref l) := rfl
theorem hf_put {c t l u : Addr} {pg M : Int} : putF "blocks" (.ref u) (hf c pg M t l) = hf c pg M u l := rfl
/-- what changes at h and at l alone -/
def Fr (h l : Addr) (H H' : Hp) : Prop := ∀ b o, b ≠ h → b ≠ l → H b = some o → H' b = some o
theorem Fr.refl (h l : Addr) (H : Hp) : Fr h l H H := fun _ _ _ _ e => e
theorem Fr.trans {h l : Addr} {H H1 H2 : Hp} (a : Fr h l H H1) (b : Fr h l H1 H2) : Fr h l H H2 := fun c o n1 n2 e => b c o n1 n2 (a c o n1 n2 e)
theorem _root_.L2.Same.fr {h l : Addr} {H H' : Hp} (s : Same H H') : Fr h l H H' := fun _ _ _ _ e => s _ _ e
/-- a heap object at h, its steps at l -/
structure HpA (C : Addr) (H : Hp) (h l c : Addr) (s : Nat → Nat) (p pg M : Nat) (bs : List Bk) (n : Nat) (dx t : Addr) (xs : List V) : Prop where
  ob : H h = some (.ins C dx (hf c pg M t l))
  ch : ChAt H c (tl s (p + 1))
  st : StAt H t bs
  ls : H l = some (.lst xs)
  ln : xs.length ≤ n
def HpAt (C : Addr) (H : Hp) (h l c : Addr) (s : Nat → Nat) (p pg M : Nat) (bs : List Bk) (n : Nat) : Prop := ∃ dx t xs, HpA C H h l c s p pg M bs n dx t xs
theorem HpAt.same {C : Addr} {H H' : Hp} {h l c : Addr} {s : Nat → Nat} {p pg M : Nat} {bs : List Bk} {n : Nat} (a : HpAt C H h l c s p pg M bs n) (sm : Same H H') : HpAt C H' h l c s p pg M bs n := by
  obtain ⟨dx, t, xs, a⟩ := a
  exact ⟨dx, t, xs, sm _ _ a.ob, a.ch.keep sm, a.st.same sm, sm _ _ a.ls, a.ln⟩
theorem HpAt.up {C : Addr} {H : Hp} {h l c : Addr} {s : Nat → Nat} {p pg M : Nat} {bs : List Bk} {n m : Nat} (a : HpAt C H h l c s p pg M bs n) (le : n ≤ m) : HpAt C H h l c s p pg M bs m := by
  obtain ⟨dx, t, xs, a⟩ := a
  exact ⟨dx, t, xs, a.ob, a.ch, a.st, a.ls, Nat.le_trans a.ln le⟩
theorem StAt.mono {H H' : Hp} {t : Addr} {bs : List Bk} (h : StAt H t bs) (kp : KpT H H') : StAt H' t bs := by
  obtain ⟨xs, e, b⟩ := h
  exact ⟨xs, kp _ _ e, BL.kp b kp⟩
theorem ChAt.frz {H H' : Hp} {c : Addr} {C : List Int} (h : ChAt H c C) (kp : ∀ o u, H c = some (.frz o u) → H' c = some (.frz o u)) : ChAt H' c C := let ⟨o, d, e⟩ := h; ⟨o, d, kp _ _ e⟩
theorem Fr.kpT {h l : Addr} {H H' : Hp} {C dx : Addr} {fs : List (Str × V)} {xs : List V} (f : Fr h l H H') (e1 : H h = some (.ins C dx fs)) (e2 : H l = some (.lst xs)) : KpT H H' := fun v zs e => f _ _ (ne_of e e1 (by intro z; cases z)) (ne_of e e2 (by intro z; cases z)) e
theorem Fr.frz {h l c : Addr} {H H' : Hp} {C dx : Addr} {fs : List (Str × V)} {xs : List V} (f : Fr h l H H') (e1 : H h = some (.ins C dx fs)) (e2 : H l = some (.lst xs)) : ∀ o u, H c = some (.frz o u) → H' c = some (.frz o u) := fun o u e => f _ _ (ne_of e e1 (by intro z; cases z)) (ne_of e e2 (by intro z; cases z)) e
theorem But.kpT {p : Addr} {H H' : Hp} {xs : List V} (b : But p H H') (e : H p = some (.lst xs)) : KpT H H' := fun v zs h => b _ _ (ne_of h e (by intro z; cases z)) h
/-- a heap beside another list that changes -/
theorem HpAt.but {C : Addr} {H H' : Hp} {h l c q : Addr} {s : Nat → Nat} {p pg M : Nat} {bs : List Bk} {n : Nat} {ys : List V} (a : HpAt C H h l c s p pg M bs n) (b : But q H H') (e : H q = some (.lst ys)) (nq : l ≠ q) : HpAt C H' h l c s p pg M bs n := by
  obtain ⟨dx, t, xs, a⟩ := a
  refine ⟨dx, t, xs, b _ _ (ne_of a.ob e (by intro z; cases z)) a.ob, a.ch.frz fun o u h => b _ _ (ne_of h e (by intro z; cases z)) h, a.st.mono (b.kpT e), b _ _ nq a.ls, a.ln⟩
end Ph

namespace Ph
open PySem PySem.Spec PyProof.Rows L2
/-! ### a get by the lowest place, a free: what becomes of the state and of the outlook -/
theorem totN_int : ∀ {bs : List Bk}, (∀ b ∈ bs, 0 ≤ b.2) → (bs.map fun b => b.2).sum = ((totN bs : Nat) : Int)
  | [], _ => rfl
  | b :: r, h => by
    have h1 := h b (List.mem_cons_self ..)
    have ih := totN_int (bs := r) fun c hc => h c (List.mem_cons_of_mem _ hc)
    unfold totN at *
    rw [List.map_cons, List.map_cons, List.sum_cons, List.sum_cons, ih]
    omega
theorem St.bok {s : Nat → Nat} {p : Nat} {W : Int} {bs : List Bk} (st : St (tl s (p + 1)) W bs) : Bok s p bs := fun b hb => by
  obtain ⟨h1, h2, h3, h4, h5⟩ := st.ok b hb
  obtain ⟨j, hj, e⟩ := tl_mem.mp h1
  obtain ⟨b1, b2⟩ := b
  dsimp only at *
  subst e
  refine ⟨(b1 / ((s j : Nat) : Int)).toNat, j, by omega, ?_⟩
  have q : 0 ≤ b1 / ((s j : Nat) : Int) := Int.ediv_nonneg h3 (by omega)
  have e2 := Int.mul_ediv_add_emod b1 ((s j : Nat) : Int)
  rw [h4] at e2
  congr 1
  rw [Int.natCast_mul, Int.toNat_of_nonneg q, Int.mul_comm]
  omega
theorem rch_ge {l : Int} {bs : List Bk} {b : Bk} (pos : ∀ b ∈ bs, 0 < b.1 + b.2) (hb : b ∈ bs) (h : b.2 ≤ l) : b.1 + b.2 ≤ rch l bs := by
  unfold rch
  have m : b.1 + b.2 ∈ (bs.filter fun b => decide (b.2 ≤ l)).map fun b => b.1 + b.2 := List.mem_map.mpr ⟨b, List.mem_filter.mpr ⟨hb, decide_eq_true h⟩, rfl⟩
  rcases mxd_spec (l := (bs.filter fun b => decide (b.2 ≤ l)).map fun b => b.1 + b.2) (fun x hx => by
    obtain ⟨c, hc, rfl⟩ := List.mem_map.mp hx
    exact pos c (List.mem_filter.mp hc).1) with ⟨e, _⟩ | ⟨_, e⟩
  · rw [e] at m; cases m
  · exact e _ m
theorem rch_le {l u : Int} {bs : List Bk} (pos : ∀ b ∈ bs, 0 < b.1 + b.2) (u0 : 0 ≤ u) (h : ∀ b ∈ bs, b.2 ≤ l → b.1 + b.2 ≤ u) : 0 ≤ rch l bs ∧ rch l bs ≤ u := by
  unfold rch
  rcases mxd_spec (l := (bs.filter fun b => decide (b.2 ≤ l)).map fun b => b.1 + b.2) (fun x hx => by
    obtain ⟨c, hc, rfl⟩ := List.mem_map.mp hx
    exact pos c (List.mem_filter.mp hc).1) with ⟨_, e⟩ | ⟨m, _⟩
  · rw [e]; exact ⟨Int.le_refl _, u0⟩
  · obtain ⟨c, hc, e⟩ := List.mem_map.mp m
    obtain ⟨h1, h2⟩ := List.mem_filter.mp hc
    have hh := h c h1 (of_decide_eq_true h2)
    have pp := pos c h1
    rw [← e]
    exact ⟨by omega, hh⟩
/-- the reaches, as numbers -/
def Rho (s : Nat → Nat) (p : Nat) (bs : List Bk) (ρ : Nat → Nat) : Prop := ((tl s (p + 1)).map fun l => rch l bs) = tl ρ (p + 1)
theorem Rho.at_ {s ρ : Nat → Nat} {p j : Nat} {bs : List Bk} (h : Rho s p bs ρ) (hj : j ≤ p) : rch ((s j : Nat) : Int) bs = ((ρ j : Nat) : Int) := by
  have e : ((tl s (p + 1)).map fun l => rch l bs)[j]? = (tl ρ (p + 1))[j]? := by rw [h]
  rw [List.getElem?_map, tl_get (by omega), tl_get (by omega)] at e
  exact Option.some.inj e
theorem St.posE {C : List Int} {W : Int} {bs : List Bk} (st : St C W bs) : ∀ b ∈ bs, 0 < b.1 + b.2 := fun b hb => by
  obtain ⟨_, h2, h3, _⟩ := st.ok b hb
  omega
theorem Rho.ex {s : Nat → Nat} {p : Nat} {W : Int} {bs : List Bk} (st : St (tl s (p + 1)) W bs) : ∃ ρ, Rho s p bs ρ := by
  refine ⟨fun j => (rch ((s j : Nat) : Int) bs).toNat, ?_⟩
  unfold Rho tl
  rw [List.map_map]
  refine List.map_congr_left fun j _ => ?_
  show rch ((s j : Nat) : Int) bs = (((rch ((s j : Nat) : Int) bs).toNat : Nat) : Int)
  have h0 : 0 ≤ rch ((s j : Nat) : Int) bs := by
    unfold rch
    rcases mxd_spec (l := (bs.filter fun b => decide (b.2 ≤ ((s j : Nat) : Int))).map fun b => b.1 + b.2) (fun x hx => by
      obtain ⟨c, hc, rfl⟩ := List.mem_map.mp hx
      exact st.posE c (List.mem_filter.mp hc).1) with ⟨_, e⟩ | ⟨m, _⟩
    · rw [e]; exact Int.le_refl _
    · obtain ⟨c, hc, e⟩ := List.mem_map.mp m
      have := st.posE c (List.mem_filter.mp hc).1
      omega
  omega
theorem Rho.nil (s : Nat → Nat) (p : Nat) : Rho s p [] (fun _ => 0) := by
  unfold Rho tl
  rw [List.map_map]
  rfl
/-- where the lowest place lies, and why -/
structure LowP (z : Int) (bs : List Bk) (W x : Int) : Prop where
  mod : x % z = 0
  pos : 0 ≤ x
  fit : x + z ≤ W
  free : ∀ b ∈ bs, x + z ≤ b.1 ∨ b.1 + b.2 ≤ x
  full : ∀ k : Int, 0 ≤ k → k % z = 0 → k < x → ∃ b ∈ bs, b.1 < k + z ∧ k < b.1 + b.2
theorem lowp_of {C : List Int} {z W x : Int} {bs : List Bk} {r : List Int} (hz : 0 < z) (hW : 0 ≤ W) (st : St C W bs) (e : plf z 0 (bs ++ [(W, 0)]) = x :: r) : LowP z bs W x := by
  have mem := plf_mem (s := z) (W := W) hz bs 0 (fun b hb => st.bnd b hb) st.asc hW
  have inc := plf_inc (s := z) (W := W) hz bs 0 (fun b hb => st.bnd b hb) st.asc hW
  rw [e] at mem inc
  obtain ⟨m1, m2, m3, m4⟩ := (mem x).mp (List.mem_cons_self ..)
  refine ⟨m1, m2, m3, m4, fun k k0 km kx => ?_⟩
  have nin : ¬ k ∈ x :: r := fun h => by
    rcases List.mem_cons.mp h with z | z
    · omega
    · have := (List.pairwise_cons.mp inc).1 k z
      omega
  have nf : ¬ ∀ b ∈ bs, k + z ≤ b.1 ∨ b.1 + b.2 ≤ k := fun h => nin ((mem k).mpr ⟨km, k0, by omega, h⟩)
  exact Classical.byContradiction fun no => nf fun b hb => Classical.byContradiction fun h2 => no ⟨b, hb, by omega, by omega⟩
section
variable {s ρ : Nat → Nat} {p M : Nat} {W : Int} {bs : List Bk}
theorem St.rc (c : CH s (p + 1)) (st : St (tl s (p + 1)) W bs) (hρ : Rho s p bs ρ) : ∀ (a j : Nat), j ≤ p → (((a * s j : Nat) : Int), ((s j : Nat) : Int)) ∈ bs → a * s j + s j ≤ ρ j := fun a j hj hb => by
  have h := rch_ge st.posE hb (l := ((s j : Nat) : Int)) (Int.le_refl _)
  rw [hρ.at_ hj] at h
  dsimp only at h
  omega
/-- guarantee (c), one get: it ends within the outlook -/
theorem LowP.ends {i : Nat} {x : Int} (c : CH s (p + 1)) (hi : i ≤ p) (st : St (tl s (p + 1)) W bs) (hρ : Rho s p bs ρ) (lim : (bs.map fun b => b.2).sum + ((s i : Nat) : Int) ≤ M) (lp : LowP ((s i : Nat) : Int) bs W x) :
    ∃ n : Nat, x = ((n * s i : Nat) : Int) ∧ (n + 1) * s i ≤ bfn s ρ M i := by
  have S0 := c.pos (i := i) (by omega)
  have q : 0 ≤ x / ((s i : Nat) : Int) := Int.ediv_nonneg lp.pos (by omega)
  have e2 := Int.mul_ediv_add_emod x ((s i : Nat) : Int)
  rw [lp.mod] at e2
  have ex : x = (((x / ((s i : Nat) : Int)).toNat * s i : Nat) : Int) := by
    rw [Int.natCast_mul, Int.toNat_of_nonneg q, Int.mul_comm]
    omega
  refine ⟨_, ex, ?_⟩
  generalize (x / ((s i : Nat) : Int)).toNat = n at ex
  subst ex
  refine low_end c hi st.bok (st.rc c hρ) (fun k hk => ?_) ?_
  · have kn : k * s i < n * s i := Nat.mul_lt_mul_of_pos_right hk S0
    obtain ⟨b, hb, o1, o2⟩ := lp.full ((k * s i : Nat) : Int) (by omega) (by rw [Int.natCast_mul]; exact Int.mul_emod_left _ _) (by omega)
    refine ⟨b, hb, ?_, o2⟩
    rw [Nat.add_mul, Nat.one_mul]
    omega
  · rw [totN_int fun b hb => by have := (st.ok b hb).2.1; omega] at lim
    omega
/-- guarantee (a), one get: a heap as far as the outlook has a place -/
theorem has_place {i : Nat} (c : CH s (p + 1)) (hi : i ≤ p) (W0 : 0 ≤ W) (st : St (tl s (p + 1)) W bs) (hρ : Rho s p bs ρ) (lim : (bs.map fun b => b.2).sum + ((s i : Nat) : Int) ≤ M) (room : ((bfn s ρ M p : Nat) : Int) ≤ W) :
    ∃ x r, plf ((s i : Nat) : Int) 0 (bs ++ [(W, 0)]) = x :: r := by
  have S0 := c.pos (i := i) (by omega)
  have hz : (0 : Int) < ((s i : Nat) : Int) := by omega
  cases e : plf ((s i : Nat) : Int) 0 (bs ++ [(W, 0)]) with
  | cons x r => exact ⟨x, r, rfl⟩
  | nil =>
    exfalso
    have mem := plf_mem (s := ((s i : Nat) : Int)) (W := W) hz bs 0 (fun b hb => st.bnd b hb) st.asc W0
    rw [e] at mem
    have h := low_end (n := (W / ((s i : Nat) : Int)).toNat) (M := M) c hi st.bok (st.rc c hρ) (fun k hk => ?_) ?_
    · have h2 := bfn_mono1 (s := s) (ρ := ρ) (M := M) c hi (Nat.le_refl p)
      have q : 0 ≤ W / ((s i : Nat) : Int) := Int.ediv_nonneg W0 (by omega)
      have l1 := Int.lt_ediv_add_one_mul_self W hz
      have e1 : (((W / ((s i : Nat) : Int)).toNat + 1) * s i : Nat) ≤ bfn s ρ M p := Nat.le_trans h h2
      have e2 : ((((W / ((s i : Nat) : Int)).toNat + 1) * s i : Nat) : Int) = (W / ((s i : Nat) : Int) + 1) * ((s i : Nat) : Int) := by
        rw [Int.natCast_mul, Int.natCast_add, Int.toNat_of_nonneg q]
        rfl
      have e3 : ((((W / ((s i : Nat) : Int)).toNat + 1) * s i : Nat) : Int) ≤ ((bfn s ρ M p : Nat) : Int) := Int.ofNat_le.mpr e1
      rw [e2] at e3
      omega
    · have q : 0 ≤ W / ((s i : Nat) : Int) := Int.ediv_nonneg W0 (by omega)
      have l1 := Int.ediv_mul_le W (b := ((s i : Nat) : Int)) (by omega)
      have k1 : (((k + 1) * s i : Nat) : Int) ≤ W := by
        have : (((k + 1 : Nat) : Int)) ≤ W / ((s i : Nat) : Int) := by omega
        have := Int.mul_le_mul_of_nonneg_right this (Int.le_of_lt hz)
        rw [Int.natCast_mul]
        omega
      have nf : ¬ ∀ b ∈ bs, ((k * s i : Nat) : Int) + ((s i : Nat) : Int) ≤ b.1 ∨ b.1 + b.2 ≤ ((k * s i : Nat) : Int) := fun h => by
        have := (mem ((k * s i : Nat) : Int)).mpr ⟨by rw [Int.natCast_mul]; exact Int.mul_emod_left _ _, by omega, by rw [Nat.add_mul, Nat.one_mul] at k1; omega, h⟩
        cases this
      exact Classical.byContradiction fun no => nf fun b hb => Classical.byContradiction fun h2 => no ⟨b, hb, by rw [Nat.add_mul, Nat.one_mul]; omega, by omega⟩
    · rw [totN_int fun b hb => by have := (st.ok b hb).2.1; omega] at lim
      omega
theorem get_st {i : Nat} {x : Int} {cs : List Bk} (c : CH s (p + 1)) (hi : i ≤ p) (st : St (tl s (p + 1)) W bs) (lp : LowP ((s i : Nat) : Int) bs W x) (pm : cs.Perm (bs ++ [(x, ((s i : Nat) : Int))])) (srt : cs.Pairwise fun x y => SrtO.lexB y x = false) : St (tl s (p + 1)) W cs := by
  have S0 := c.pos (i := i) (by omega)
  refine sorted_st (fun b hb => ?_) ?_ pm srt
  · rcases List.mem_append.mp hb with z | z
    · exact st.ok b z
    · rw [List.mem_singleton.mp z]
      exact ⟨tl_mem.mpr ⟨i, by omega, rfl⟩, by dsimp only; omega, lp.pos, lp.mod, lp.fit⟩
  · refine List.pairwise_append.mpr ⟨st.asc.imp fun h => .inl h, List.pairwise_singleton _ _, fun b hb d hd => ?_⟩
    rw [List.mem_singleton.mp hd]
    rcases lp.free b hb with h | h
    · exact .inr h
    · exact .inl h
/-- guarantee (c): no number of the outlook rises by a get -/
theorem get_outlook {m i n : Nat} {x : Int} {cs : List Bk} {ρ' : Nat → Nat} (cn : Cn s p m) (hi : i ≤ p) (st : St (tl s (p + 1)) W bs) (hρ : Rho s p bs ρ) (st' : St (tl s (p + 1)) W cs) (hρ' : Rho s p cs ρ') (ex : x = ((n * s i : Nat) : Int)) (en : (n + 1) * s i ≤ bfn s ρ M i) (pm : cs.Perm (bs ++ [(x, ((s i : Nat) : Int))])) :
    ∀ j, j ≤ p → bfn s ρ' M j ≤ bfn s ρ M j := fun j hj => by
  refine bfn_within (m := p + 1) cn.ch (fun j hj => ?_) j (by omega)
  have h := rch_le (l := ((s j : Nat) : Int)) (u := ((bfn s ρ M j : Nat) : Int)) st'.posE (by omega) (fun b hb hl => ?_)
  · rw [hρ'.at_ (by omega)] at h
    omega
  · rcases List.mem_append.mp (pm.mem_iff.mp hb) with z | z
    · have h1 := rch_ge st.posE z hl
      rw [hρ.at_ (by omega)] at h1
      have : ρ j ≤ bfn s ρ M j := bfn_ge
      omega
    · rw [List.mem_singleton.mp z] at hl ⊢
      dsimp only at hl ⊢
      have ij : i ≤ j := by
        rcases Nat.lt_or_ge j i with z2 | z2
        · have : s j < s i := by
            have mono := cn.ch.mono (i := j) (j := i - 1) (by omega) (by omega)
            obtain ⟨r, r2, _, er⟩ := cn.two (i - 1) (by omega)
            have e1 : i - 1 + 1 = i := by omega
            rw [e1] at er
            have pz := cn.ch.pos (i := i - 1) (by omega)
            have : s (i - 1) * 2 ≤ s (i - 1) * r := Nat.mul_le_mul_left _ r2
            omega
          omega
        · exact z2
      have h2 := bfn_mono1 (s := s) (ρ := ρ) (M := M) cn.ch ij (show j ≤ p by omega)
      rw [ex]
      rw [Nat.add_mul, Nat.one_mul] at en
      omega
theorem St.filter {C : List Int} (q : Bk → Bool) (st : St C W bs) : St C W (bs.filter q) := ⟨fun b hb => st.ok b (List.mem_filter.mp hb).1, st.asc.sublist List.filter_sublist⟩
theorem free_outlook {q : Bk → Bool} {ρ' : Nat → Nat} (c : CH s (p + 1)) (st : St (tl s (p + 1)) W bs) (hρ : Rho s p bs ρ) (hρ' : Rho s p (bs.filter q) ρ') : ∀ j, j ≤ p → bfn s ρ' M j ≤ bfn s ρ M j := fun j hj => by
  refine bfn_mono (m := p + 1) c (fun j hj => ?_) (Nat.le_refl _) j (by omega)
  have h := rch_le (l := ((s j : Nat) : Int)) (u := ((ρ j : Nat) : Int)) (st.filter q).posE (by omega) (fun b hb hl => ?_)
  · rw [hρ'.at_ (by omega)] at h
    omega
  · have h1 := rch_ge st.posE (List.mem_filter.mp hb).1 hl
    rw [hρ.at_ (by omega)] at h1
    exact h1
theorem sum_filter {C : List Int} (q : Bk → Bool) (st : St C W bs) : ((bs.filter q).map fun b => b.2).sum ≤ (bs.map fun b => b.2).sum := by
  have h : ∀ b ∈ bs, 0 ≤ b.2 := fun b hb => by have := (st.ok b hb).2.1; omega
  clear st
  induction bs with
  | nil => exact Int.le_refl _
  | cons b r ih =>
    have ih := ih fun c hc => h c (List.mem_cons_of_mem _ hc)
    have := h b (List.mem_cons_self ..)
    by_cases e : q b = true
    · rw [List.filter_cons_of_pos e, List.map_cons, List.map_cons, List.sum_cons, List.sum_cons]
      omega
    · rw [List.filter_cons_of_neg e, List.map_cons, List.sum_cons]
      omega
theorem sum_perm {l m : List Bk} (h : l.Perm m) : (l.map fun b => b.2).sum = (m.map fun b => b.2).sum := by
  have := h.map (fun b : Bk => b.2)
  generalize l.map (fun b : Bk => b.2) = a at this
  generalize m.map (fun b : Bk => b.2) = b at this
  induction this with
  | nil => rfl
  | cons x _ ih => rw [List.sum_cons, List.sum_cons, ih]
  | swap x y l => rw [List.sum_cons, List.sum_cons, List.sum_cons, List.sum_cons]; omega
  | trans _ _ a b => rw [a, b]
end
end Ph

namespace Ph
open PySem PySem.Spec PyProof.Rows L2
section
variable {X : Cx}
/-! ### block not in blocks -/
def rNotInL (K : PySem.W.Frag) : R2 := fun x y H Q => ∃ (b : Bk) (a : Addr) (ys : List V) (cs : List Bk), BkAt H x b ∧ y = .ref a ∧ SqL K H a ys ∧ BL H ys cs ∧ Q (.bl (!decide (b ∈ cs))) H
theorem op_notInL (hu : X.A.units + 64 < cLine) : OpR X (compareOp .NotIn) (rNotInL X.K) := by
  intro pins s σ H x y v u Q I rx ry h
  obtain ⟨b, a, ys, cs, hb, rfl, hl, bl, q⟩ := h
  have dx : Dp X.K H x (bD b) := by
    obtain ⟨t, rfl, e⟩ := hb
    exact .tup (.inl (.inl e)) (.cons (.int _) (.cons (.int _) .nil))
  obtain ⟨_, r1⟩ := Dp.reads I (bD b) x v dx rx
  obtain ⟨_, r2⟩ := Dp.reads I (.list (cs.map bD)) (.ref a) u (.lst hl bl.dp) ry
  refine SeqAt.notIn_list_reads r2 r1 (bDs_lay cs) (bD_lay b) ?_ ⟨.bl _, H, I, rfl, ?_⟩
  · have := bDs_depth cs
    omega
  · rw [bDs_any]
    exact q
end
theorem valV_mem {kvs : List (Key × V)} {k : Key} {v : V} (h : valV kvs k = some v) : ∃ kv ∈ kvs, kv.2 = v := by
  unfold valV at h
  obtain ⟨kv, h1, h2⟩ := Option.map_eq_some_iff.mp h
  exact ⟨kv, List.mem_of_find?_eq_some h1, h2⟩
theorem putK_mem {kvs : List (Key × V)} {k : Key} {v : V} {kv : Key × V} (h : kv ∈ putK kvs k v) : kv ∈ kvs ∨ kv.2 = v := by
  unfold putK at h
  split at h
  · obtain ⟨kv2, h1, h2⟩ := List.mem_map.mp h
    split at h2
    · rw [← h2]; exact .inr rfl
    · rw [← h2]; exact .inl h1
  · rcases List.mem_append.mp h with z | z
    · exact .inl z
    · rw [List.mem_singleton.mp z]; exact .inr rfl
theorem putK_len {kvs : List (Key × V)} {k : Key} {v : V} : (putK kvs k v).length ≤ kvs.length + 1 := by
  unfold putK
  split
  · rw [List.length_map]; omega
  · rw [List.length_append]; exact Nat.le_refl _
/-- the items of a list that stay by a test, and their blocks -/
theorem BL.sub {H : Hp} {xs : List V} {bs : List Bk} (h : BL H xs bs) (q : Nat → Bool) : ∀ n, n ≤ xs.length → ∃ ds, Paired (fun i d => bs[i]? = some d) ((List.range n).filter q) ds ∧ ds.Sublist (bs.take n)
  | 0, _ => ⟨[], .nil, List.Sublist.slnil⟩
  | n + 1, hn => by
    obtain ⟨ds, h1, h2⟩ := BL.sub h q n (by omega)
    obtain ⟨b, hb, _⟩ := BL.get h (List.getElem?_eq_getElem (show n < xs.length by omega))
    have et : bs.take (n + 1) = bs.take n ++ [b] := by rw [List.take_add_one, hb]; rfl
    rw [List.range_succ, List.filter_append, et]
    by_cases e : q n = true
    · rw [List.filter_cons_of_pos e]
      exact ⟨ds ++ [b], Paired.snoc h1 hb, h2.append (List.Sublist.refl _)⟩
    · rw [List.filter_cons_of_neg e, List.filter_nil, List.append_nil]
      exact ⟨ds, h1, h2.trans (List.sublist_append_left _ _)⟩
theorem paired_two {α β γ : Type} {F : α → β → Prop} {G : α → γ → Prop} {R : β → γ → Prop} (h : ∀ a b c, F a b → G a c → R b c) : ∀ {l : List α} {m : List β} {n : List γ}, Paired F l m → Paired G l n → Paired R m n
  | _, _, _, .nil, .nil => .nil
  | _, _, _, .cons x r, .cons y q => .cons (h _ _ _ x y) (paired_two h r q)
end Ph

namespace Ph
open PySem PySem.Spec PyProof.Rows L2
/-! ### a written tuple, known to have no dict of its own -/
def tTupF (t : TA) : TE := fun σ H Q => t σ H fun xs H1 => xs.length ≤ sizeLine ∧ ∀ (p : Addr) (o : Obj), H1 p = none → o.dict = none → Q (.ref p) (upd H1 p (.frz o (.tup xs)))
theorem pe_tupF {X : Cx} {es : List Expr} {t : TA} {x1 : Nat} {pos : Pos} (h : PA X es t) : PE X (.Tuple es x1 pos) (tTupF t) := by
  refine ⟨fun pins s σ H Q I hq => ?_⟩
  refine wpAny_Tuple_spliced (thn (h.run pos pins s σ H _ I hq) fun us s1 ⟨xs, H1, I1, r, z, q⟩ => ⟨by rw [← r.length]; exact z, ?_⟩)
  have hf : H1 s1.heap.objs.size = none := I1.hok.fresh (Nat.le_refl _)
  refine ⟨.ref s1.heap.objs.size, _, I1.laid (t' := s1.toks) (o := .frz { cls := .type "tuple", data := .seq us.toArray } (.tup xs)) (fun b u e => Heap.get?_push_of_some _ e) (Nat.le_refl _) ⟨Heap.get?_push_size _ rfl, z, us, r, IsTup.new _ _⟩, rfl, q _ _ hf rfl⟩
end Ph

namespace Ph
open PySem PySem.Spec PyProof.Rows L2
/-! ### sum(d.values()) -/
theorem preSum_getD : ∀ is : List Int, preSum (fun i => is.getD i 0) is.length = is.sum
  | [] => rfl
  | x :: r => by
    rw [List.length_cons, PySem.W.kdu_shift, List.sum_cons, ← preSum_getD r]
    rfl
section
variable {X : Cx} {o : Expr} {p pos apos mpos : Pos} {td : TE}
/-- sum(o.values()), a dict with int values -/
def tSumVals (td : TE) : TE := fun σ H Q => td σ H fun x H1 => ∃ (a : Addr) (kvs : List (Key × V)) (is : List Int), x = V.ref a ∧ H1 a = some (.dK kvs) ∧ kvs.map (·.2) = is.map V.int ∧ Q (.int is.sum) H1
theorem pe_sumVals (hc : X.calm = true) (hg : Gl X "sum") (hm : X.mg "sum" = none) (hd : PE X o td) (hbase : attributeBase o "values" X.env (eval o X.env) = eval o X.env := by rfl) (hline : (apos.endLine == mpos.line) = true := by rfl)
    (hse : starEach [Expr.Call (.Attribute o "values" apos) [] [] mpos] X.env = [(false, eval (Expr.Call (.Attribute o "values" apos) [] [] mpos) X.env)] := by rfl) :
    PE X (.Call (.Name "sum" p) [.Call (.Attribute o "values" apos) [] [] mpos] [] pos) (tSumVals td) := by
  refine ⟨fun pins s σ H Q I h => ?_⟩
  refine wpAny_Call_Name_kw (ld_blt I hg hm (u := .builtin "sum") (by first | rfl | decide +kernel) ?_ (by first | decide +kernel | decide) (by first | decide +kernel | decide))
  rw [hse]
  refine PySem.callWith_builtin1 (wpAny_Call_method0_late hbase hline (thn (hd.run pins s σ H _ I h) fun v s1 ⟨x, H1, I1, r1, a, kvs, is, ex, ha, hv, q⟩ => ?_))
  subst ex
  obtain rfl : v = Value.ref a := r1
  obtain ⟨_, hsys, vs, rel, dof⟩ := dk_of I1.hok ha
  obtain ⟨ep, dat⟩ := dof.dictAt
  have dat' := dat
  obtain ⟨ob, es, ho, ex, hdat, hko, hpr, hnd⟩ := dat'
  refine ⟨"dict", "dict.values", F.plainAttrs_dict, F.slot_dict_values, F.type_dict_values, ⟨ob, ho, ex.1⟩, fun b e => ?_, Calls.callWith_builtin rfl (PySem.evalArgs_none ?_)⟩
  · cases e
    exact ⟨ob, ho, ex.2.1⟩
  refine call_meetsIn F.slot_dict_values ⟨ob, ho, ex.1⟩ F.entry_dict_values (F.args_dict_values_1 _) (meets_dict_values (mixKind X.prog X.w) a hsys) ⟨⟨vs, dof⟩, ?_⟩
  have k1 : ∀ b u, s1.heap.get? b = some u → (s1.heap.push { cls := .type "dict_values", data := .fields #[.ref a] }).get? b = some u := fun b u e => Heap.get?_push_of_some _ e
  have dat1 : (s1.heap.push { cls := .type "dict_values", data := .fields #[.ref a] }).DictAt (mixKind X.prog X.w) a vs ep := dat.keep k1
  have hlv : vs.length = is.length := by
    have e1 := congrArg List.length hv
    rw [List.length_map, List.length_map] at e1
    rw [← e1]
    exact (KV.length rel).symm
  have hval : ∀ (i : Nat) (v : Value), (∃ k, vs[i]? = some (k, v)) → ∃ t, v = Value.int (is.getD i 0) t := fun i v ⟨k, hk⟩ => by
    obtain ⟨x, h1, h2⟩ := KV.at' rel hk
    have e1 : (kvs.map (·.2))[i]? = some x := by rw [List.getElem?_map, h1] <;> rfl
    rw [hv, List.getElem?_map] at e1
    obtain ⟨j, hj, e2⟩ := Option.map_eq_some_iff.mp e1
    subst e2
    obtain ⟨t, e3⟩ := h2
    refine ⟨t, ?_⟩
    rw [e3, List.getD_eq_getElem?_getD, hj] <;> rfl
  have S := PySem.W.kdl_values (prog := X.prog) (w := X.w) (knd := mixKind X.prog X.w) (kvs := vs) (ep := ep) (r := s1.heap.objs.size) (d := a)
  have ok : (s1.heap.push { cls := .type "dict_values", data := .fields #[.ref a] }).IsValuesView s1.heap.objs.size a ∧ (s1.heap.push { cls := .type "dict_values", data := .fields #[.ref a] }).DictAt (mixKind X.prog X.w) a vs ep := ⟨⟨_, Heap.get?_push_size _ rfl, rfl, rfl⟩, dat1⟩
  refine call_sum_walkAnyS ?_
  obtain ⟨oI, St, hit, W, st⟩ := S.iter X.A.in1 { s1 with heap := s1.heap.push { cls := .type "dict_values", data := .fields #[.ref a] } } (I.ok.hd hc) ok
  refine hit _ _ ⟨_, _, _, _, vs.length, _, _, fun i => is.getD i 0, rfl, W.toS, st, fun b hb => ?_, hval, fun s' t' hm => ?_⟩
  · show b < ((s1.heap.push { cls := .type "dict_values", data := .fields #[.ref a] }).push oI).objs.size
    rw [Heap.size_push]
    rcases List.mem_cons.mp hb with e | hb
    · rw [e]; exact Nat.lt_succ_self _
    · rw [List.mem_singleton.mp hb]; exact Nat.lt_succ_of_lt (S.there _ ok).2
  · have hk : ∀ b o, s1.heap.get? b = some o → s'.heap.get? b = some o := fun b o e =>
      hm.heap b o (fun hI => absurd (Heap.lt_size (k1 b o e)) (by rw [List.mem_singleton.mp hI]; exact Nat.lt_irrefl _)) (Heap.get?_push_of_some _ (k1 b o e))
    rw [Moved.eq_with hm]
    rw [hlv, preSum_getD]
    exact ⟨.int _, H1, I1.kept (t' := s'.toks) hk, ⟨_, rfl⟩, q⟩
end
end Ph

namespace Ph
open PySem PySem.Spec PyProof.Rows L2 PySem.Calls
section
variable {X : Cx}
/-- d.pop(k), there -/
def rDPop : V → List V → Hp → VK → Prop := fun x vs H Q => ∃ (a : Addr) (kvs : List (Key × V)) (k : Key) (v : V), x = .ref a ∧ vs = [kV k] ∧ H a = some (.dK kvs) ∧ valV kvs k = some v ∧ Q v (upd H a (.dK (dropK kvs k)))
theorem mtd_pop : MtR X "dict.pop" rDPop := by
  intro pins s σ H x vs v us Q I rx rv h
  obtain ⟨a, kvs, k, y, rfl, rfl, ea, hv, q⟩ := h
  cases rx
  obtain ⟨u, rfl, ru⟩ := rv.one
  exact d_pop (more := []) I ea ru hv (.inl rfl) fun w' s' I' r' => ⟨y, _, I', r', q⟩
end
theorem valV_drop {kvs : List (Key × V)} {k j : Key} : valV (dropK kvs k) j = if j = k then none else valV kvs j := by
  unfold valV dropK
  induction kvs with
  | nil => simp
  | cons p r ih =>
    by_cases h : p.1 = k
    · rw [List.filter_cons_of_neg (by simp [h]), ih]
      by_cases h2 : j = k
      · rw [if_pos h2, if_pos h2]
      · rw [if_neg h2, if_neg h2, List.find?_cons_of_neg (by simpa [h] using fun z => h2 z.symm)]
    · rw [List.filter_cons_of_pos (by simpa using h)]
      by_cases h3 : p.1 = j
      · have h2 : ¬ j = k := fun z => h (h3.trans z)
        rw [if_neg h2, List.find?_cons_of_pos (by simpa using h3), List.find?_cons_of_pos (by simpa using h3)]
      · rw [List.find?_cons_of_neg (by simpa using h3), List.find?_cons_of_neg (by simpa using h3)]
        exact ih
/-- which ints are keys behind a pop -/
theorem hasI_drop {kvs : List (Key × V)} {a i : Int} : hasI (dropK kvs (Sum.inl a)) i = (hasI kvs i && decide (i ≠ a)) := by
  unfold hasI
  rw [valV_drop]
  by_cases h : i = a
  · subst h
    simp
  · rw [if_neg (by simpa using h)]
    simp [h]
/-! ### keys without doubles, and how many there are -/
def KNd (kvs : List (Key × V)) : Prop := (kvs.map (·.1)).Nodup
theorem KNd.drop {kvs : List (Key × V)} (h : KNd kvs) (k : Key) : KNd (dropK kvs k) := h.sublist (List.filter_sublist.map _)
theorem KNd.drop_len {kvs : List (Key × V)} {k : Key} : KNd kvs → (valV kvs k).isSome = true → (dropK kvs k).length + 1 = kvs.length := by
  unfold KNd valV dropK
  induction kvs with
  | nil => intro _ h; simp at h
  | cons p r ih =>
    intro nd h
    obtain ⟨n1, n2⟩ := List.nodup_cons.mp nd
    by_cases e : p.1 = k
    · have none : (r.filter fun kv => decide (kv.1 ≠ k)) = r := List.filter_eq_self.mpr fun kv hkv => decide_eq_true fun z => n1 (by show p.1 ∈ _; rw [e, ← z]; exact List.mem_map.mpr ⟨kv, hkv, rfl⟩)
      rw [List.filter_cons_of_neg (by simp [e]), none, List.length_cons]
    · rw [List.find?_cons_of_neg (by simpa using e)] at h
      rw [List.filter_cons_of_pos (by simpa using e), List.length_cons, List.length_cons, ih n2 h]
theorem KNd.put {kvs : List (Key × V)} {k : Key} {v : V} (h : KNd kvs) (n : valV kvs k = none) : KNd (putK kvs k v) ∧ (putK kvs k v).length = kvs.length + 1 := by
  rw [putK_new v n]
  refine ⟨?_, by rw [List.length_append]; rfl⟩
  unfold KNd at h ⊢
  rw [List.map_append]
  refine List.nodup_append.mpr ⟨h, by simp, fun a ha b hb z => ?_⟩
  rw [List.map_cons, List.map_nil, List.mem_singleton] at hb
  subst z
  obtain ⟨kv, hkv, e⟩ := List.mem_map.mp ha
  unfold valV at n
  rw [Option.map_eq_none_iff] at n
  have := List.find?_eq_none.mp n kv hkv
  simp [e, hb] at this
theorem KNd.merge : ∀ {more kvs : List (Key × V)}, KNd kvs → KNd more → (∀ kv ∈ more, valV kvs kv.1 = none) → KNd (mergeK kvs more) ∧ (mergeK kvs more).length = kvs.length + more.length
  | [], kvs, h, _, _ => ⟨h, rfl⟩
  | kv :: r, kvs, h, hm, hn => by
    have hm' : (kv.1 :: r.map (·.1)).Nodup := hm
    obtain ⟨n1, n2⟩ := List.nodup_cons.mp hm'
    obtain ⟨p1, p2⟩ := h.put (v := kv.2) (hn kv (List.mem_cons_self ..))
    obtain ⟨m1, m2⟩ := KNd.merge (more := r) p1 n2 fun kv' h' => by
      rw [valV_put, if_neg (fun z => n1 (by rw [← z]; exact List.mem_map.mpr ⟨kv', h', rfl⟩))]
      exact hn kv' (List.mem_cons_of_mem _ h')
    refine ⟨m1, ?_⟩
    show (mergeK (putK kvs kv.1 kv.2) r).length = _
    rw [m2, p2, List.length_cons]
    omega
end Ph

namespace Ph
open PySem PySem.Spec PyProof.Rows L2
section
variable {X : Cx}
/-- a dict != {} -/
def rNeE : R2 := fun x y H Q => ∃ a b ks, x = .ref a ∧ y = .ref b ∧ H a = some (.dK ks) ∧ H b = some (.dK []) ∧ Q (.bl (decide (ks ≠ []))) H
theorem op_neE (hu : X.A.units < cLine) : OpR X (compareOp .NotEq) rNeE := by
  intro pins s σ H x y v u Q I rx ry h
  obtain ⟨a, b, ks, rfl, rfl, ea, eb, q⟩ := h
  obtain rfl : v = Value.ref a := rx
  obtain rfl : u = Value.ref b := ry
  obtain ⟨_, ya, va, ra, da⟩ := (show ObjOk X.prog X.w H s.heap a (.dK ks) from I.hok a _ ea)
  obtain ⟨_, yb, vb, rb, db⟩ := (show ObjOk X.prog X.w H s.heap b (.dK []) from I.hok b _ eb)
  have lb : vb.length = 0 := by rw [← rb.length]; rfl
  refine PySem.W.keq_ne (knd := mixKind X.prog X.w) (r := true) ya yb da db hu (fun e => hits_all rb ra ?_) (fin_bl I q ?_)
  · have : ks = [] := List.length_eq_zero_iff.mp (by rw [ra.length, e, lb])
    subst this
    intro p hp
    cases hp
  · rw [← ra.length, lb]
    cases ks <;> simp
/-- sorted(dict) with ints as keys, any number -/
theorem call_sortedDW (hcalm : X.calm = true) : CallR X (.builtin "sorted") (fun xs H Q => ∃ (a : Addr) (kvs : List (Key × V)) (ks : List Int), xs = [.ref a] ∧ Rd H a (.dK kvs) ∧ kvs.map (·.1) = ks.map Sum.inl ∧ ks.length ≤ 5000 ∧
    ∀ (ys : List Int) (p : Addr), ys.Perm ks → ys.Pairwise (· ≤ ·) → H p = none → Q (.ref p) (upd H p (.lst (ys.map V.int)))) := by
  intro pins s σ H xs us Q I r q
  obtain ⟨a, kvs, ks, ex, hd, hks, h64, q⟩ := q
  subst ex
  obtain ⟨u, eu, rx⟩ := vals1 r
  subst eu
  cases rx
  obtain ⟨z, lo, vs, rel, dd⟩ := dk_rd I.hok hd
  obtain ⟨ep, hat⟩ := dd.dictAt
  have hkeys : vs.map (·.1) = ks.map Sum.inl := rel.keys.symm.trans hks
  have hl : vs.length = ks.length := by
    have e := congrArg List.length hkeys
    rw [List.length_map, List.length_map] at e
    exact e
  have k5 : ks.length ≤ sizeLine := Nat.le_trans h64 (by decide)
  have h16 : vs.length ≤ sizeLine := by rw [hl]; exact k5
  refine Calls.call_function_entry PyProof.Rows.kind_sorted PyProof.Rows.plain_sorted PyProof.Rows.entry_sorted (PyProof.Rows.args_sorted1 _) ?_
  unfold Builtin.«sorted»
  refine wpAny_bind (m := checkCount "sorted" 1 1 _) (wpAny_pure ?_)
  refine wpAny_bind (PySem.W.kdu_collect (A := X.A.in1) (PySem.W.kdl_dict (knd := mixKind X.prog X.w) (kvs := vs) (ep := ep) lo) (I.ok.hd hcalm) hat h16 fun h' tk acc hk hacc => ?_)
  have hal : acc.toList.length = ks.length := by rw [Array.length_toList, hacc.1, hl]
  have hS : IntsAre acc.toList ks := ints_each hal fun j v e => by
    obtain ⟨k, x, e1, e2⟩ := hacc.2 j v (by rw [← Array.getElem?_toList]; exact e)
    have e3 : (vs.map (·.1))[j]? = some k := by rw [List.getElem?_map, e1]; rfl
    rw [hkeys, List.getElem?_map] at e3
    cases e4 : ks[j]? with
    | none => rw [e4] at e3; cases e3
    | some y =>
      rw [e4] at e3
      have e5 : Sum.inl y = k := Option.some.inj e3
      subst e5
      rcases keyIs_shape (show keyIs (Sum.inl y) v = true from e2) with ⟨i, t, ek, ev⟩ | ⟨z, t, ek, ev⟩
      · cases ek
        exact ⟨y, t, rfl, ev⟩
      · cases ek
  have I1 : Inv X pins σ H { s with heap := h', toks := tk } := I.kept hk
  have few : acc.toList.length ≤ sizeLine := by rw [hal]; exact k5
  refine wpAny_bind (wpAny_newList ?_ few)
  have hoL : (h'.push (seqObj "list" acc.toList.toArray 0)).get? h'.objs.size = some (seqObj "list" acc.toList.toArray 0) := Heap.get?_push_size _ rfl
  show wpAny _ _ _ _ _ { s with heap := h'.push (seqObj "list" acc.toList.toArray 0), toks := tk }
  refine wpAny_bind (wpAny_holding (wpAny_call_entry PyProof.Rows.slot_list_sort ⟨_, hoL, rfl⟩ PyProof.Rows.entry_list_sort (SrtO.list_sort_ord (s := { s with heap := h'.push (seqObj "list" acc.toList.toArray 0), toks := tk }) SrtO.swo_int hoL few (fun h2 => SrtO.ints_sortable hS h2) fun out b1 b2 => ⟨_, rfl, ?_⟩) (PyProof.Rows.args_list_sort _)))
  obtain ⟨g1, g2, g3⟩ := SrtO.ints_out hS b1 b2
  obtain ⟨e', he'⟩ := PyProof.Rows.sortedHeap_at (vs := acc.toList) (out := out.toArray) hoL
  have hlen : ((out.map SrtO.iv).map V.int).length ≤ sizeLine := by
    rw [List.length_map, g2.length_eq]
    exact k5
  refine wpAny_pure ⟨_, rfl, .ref h'.objs.size, upd H h'.objs.size (.lst ((out.map SrtO.iv).map V.int)), I1.laid (t' := tk) (fun b u e => ?_) (Nat.le_refl _)
    (show ObjOk X.prog X.w _ _ _ (.lst ((out.map SrtO.iv).map V.int)) from ⟨hlen, out, e', vals_of_ints g1, he'⟩), rfl, q _ _ g2 g3 (I1.hok.fresh (Nat.le_refl _))⟩
  have hb : b < h'.objs.size := Heap.lt_size e
  rw [PyProof.Rows.sortedHeap_old (Nat.ne_of_lt hb) (by rw [size_push']; exact Nat.lt_succ_of_lt hb)]
  exact Heap.get?_push_of_some _ e
end
theorem il_nil (zs : List Int) : PyData.eqv (.list (zs.map PyData.int)) (.list []) = decide (zs = []) := by
  cases zs with
  | nil => simp [PyData.eqv, PyData.eqvAll]
  | cons z r => simp [PyData.eqv, PyData.eqvAll]
/-! ### blocks held in a dict: start, size -/
def kvh (ls : List Bk) : List (Key × V) := ls.map fun e => (Sum.inl e.1, V.int e.2)
theorem kvh_keys (ls : List Bk) : (kvh ls).map (·.1) = (ls.map fun e => e.1).map Sum.inl := by
  unfold kvh
  rw [List.map_map, List.map_map]
  rfl
theorem kvh_len (ls : List Bk) : (kvh ls).length = ls.length := by unfold kvh; rw [List.length_map]
theorem kvh_none {a : Int} : ∀ {ls : List Bk}, (∀ e ∈ ls, e.1 ≠ a) → valV (kvh ls) (Sum.inl a) = none
  | [], _ => rfl
  | e :: r, h => by
    have h1 := h e (List.mem_cons_self ..)
    have ih := kvh_none (a := a) (ls := r) fun x hx => h x (List.mem_cons_of_mem _ hx)
    show valV ((Sum.inl e.1, V.int _) :: kvh r) (Sum.inl a) = none
    unfold valV at ih ⊢
    rw [List.find?_cons_of_neg (by simpa using h1)]
    exact ih
theorem kvh_at {e : Bk} : ∀ {ls : List Bk}, ls.Pairwise (fun x y => x.1 ≠ y.1) → e ∈ ls → valV (kvh ls) (Sum.inl e.1) = some (V.int e.2)
  | x :: r, pw, h => by
    obtain ⟨p1, p2⟩ := List.pairwise_cons.mp pw
    rcases List.mem_cons.mp h with h | h
    · subst h
      show valV ((Sum.inl e.1, V.int _) :: kvh r) (Sum.inl e.1) = _
      exact valV_pos rfl
    · have ih := kvh_at p2 h
      have ne := p1 e h
      show valV ((Sum.inl x.1, V.int _) :: kvh r) (Sum.inl e.1) = _
      unfold valV at ih ⊢
      rw [List.find?_cons_of_neg (by simpa using ne)]
      exact ih
theorem kvh_put {ls : List Bk} {a m : Int} (h : ∀ e ∈ ls, e.1 ≠ a) : putK (kvh ls) (Sum.inl a) (V.int m) = kvh (ls ++ [(a, m)]) := by
  rw [putK_new _ (kvh_none h)]
  unfold kvh
  rw [List.map_append]
  rfl
theorem kvh_drop (ls : List Bk) (a : Int) : dropK (kvh ls) (Sum.inl a) = kvh (ls.filter fun b => decide (b.1 ≠ a)) := by
  unfold dropK kvh
  induction ls with
  | nil => rfl
  | cons e r ih =>
    rw [List.map_cons]
    by_cases h : e.1 = a
    · rw [List.filter_cons_of_neg (by simp [h]), List.filter_cons_of_neg (by simp [h]), ih]
    · rw [List.filter_cons_of_pos (by simp [h]), List.filter_cons_of_pos (by simp [h]), ih]
      rfl
end Ph

namespace Ph
open PySem PySem.Spec PyProof.Rows L2
/-- all keywords written, no defaults wanted -/
theorem kbn_all {K : PySem.W.Frag} {x qual : Str} {params : Arguments} {body : List Stmt} {scope : Scope} {kws : List (Str × V)} {f : Addr} {fd : FuncData} {ps : List Str} (F : FunD K x qual params body scope [] kws f fd) (n : Nat) (ks : List Str)
    (h : ∀ (kV doc pm : Value) (an : Option Addr) (cdv ct : Value) (us ws : List Value), us.length = n → ws.length = ks.length → bindArgs (PySem.W.fnOf x qual params body scope .none kV doc pm an cdv ct) ⟨us, ks.zip ws⟩ = pure (ps.zip (us ++ ws))) :
    KBn K fd ps n ks (fun us ws => us ++ ws) (fun vs zs => vs ++ zs) := by
  obtain ⟨oc, od, dV, kV, doc, pm, an, cdv, ct, osl, rfl, lk, hcd, hD, hK⟩ := F.ex
  rcases hD with ⟨_, rfl⟩ | ⟨e, _⟩
  · exact ⟨fun s us ws X l1 l2 => .of_eq (h kV doc pm an cdv ct us ws l1 l2), fun r1 r2 => r1.append r2⟩
  · exact absurd rfl e
theorem cut_to1 (xs : List V) : cutV xs none (some 1) = xs.take 1 := by
  unfold cutV HT.sIx
  cases xs <;> simp
end Ph

namespace Ph
open PySem PySem.Spec PyProof.Rows L2
section
variable {X : Cx}
/-! ### block not in a tuple of blocks -/
def rNotInT (K : PySem.W.Frag) : R2 := fun x y H Q => ∃ (b : Bk) (a : Addr) (ys : List V) (cs : List Bk), BkAt H x b ∧ y = .ref a ∧ SqT K H a ys ∧ BL H ys cs ∧ Q (.bl (!decide (b ∈ cs))) H
theorem op_notInT (hu : X.A.units + 64 < cLine) : OpR X (compareOp .NotIn) (rNotInT X.K) := by
  intro pins s σ H x y v u Q I rx ry h
  obtain ⟨b, a, ys, cs, hb, rfl, hl, bl, q⟩ := h
  have dx : Dp X.K H x (bD b) := by
    obtain ⟨t, rfl, e⟩ := hb
    exact .tup (.inl (.inl e)) (.cons (.int _) (.cons (.int _) .nil))
  obtain ⟨_, r1⟩ := Dp.reads I (bD b) x v dx rx
  obtain ⟨_, r2⟩ := Dp.reads I (.tuple (cs.map bD)) (.ref a) u (.tup hl bl.dp) ry
  refine SeqAt.notIn_tuple_reads r2 r1 (bDs_lay cs) (bD_lay b) ?_ ⟨.bl _, H, I, rfl, ?_⟩
  · have := bDs_depth cs
    omega
  · rw [bDs_any]
    exact q
end
end Ph

namespace PySem
open Sem (wp)
set_option maxHeartbeats 1000000 in
theorem ph_enum1 {v : Value} {o : Obj} {H : Heap → Prop} (B : Begins v o H) :
    Meets (Builtin.«enumerate.__new__» ⟨[.type "enumerate", v], []⟩) (fun _ R s => H s.heap ∧
      R (.ok (.ret (.ref (s.heap.push o).objs.size))) { s with heap := (s.heap.push o).push { cls := .type "enumerate", data := .fields #[.none, .bool false, .ref s.heap.objs.size, rawInt 0, .none, .none] } }) :=
  .of_wp fun prog w A R s h => by
    obtain ⟨hp, g, d, tk, os⟩ := s; obtain ⟨h1, h⟩ := h
    have hsub := sub_enumerate
    have q1 : ∀ {A' : Around} {E : Value → Shared → Prop} {Q : Value → Shared → Prop}, Q (.ref hp.objs.size) ⟨hp.push o, g, d, tk, os⟩ → wpAny (model prog w) A' (pyIter v) Q E ⟨hp, g, d, tk, os⟩ :=
      fun q => B.iter prog w _ _ ⟨hp, g, d, tk, os⟩ _ h1 q
    wp_walk using q1
    refine wpAny_stack_any fun st => wpAny_pure ?_
    split
    · rename_i c _ _ _ _ _
      cases (c == Value.type "enumerate")
      · wp_walk using q1
        exact ⟨_, rfl, h⟩
      · wp_walk using q1
        exact ⟨_, rfl, h⟩
    · wp_walk using q1
      exact ⟨_, rfl, h⟩
theorem ph_enum {prog : Program} {w : World} {A : Around} {E : Value → Shared → Prop} {s : Shared} {v : Value} {o : Obj} {H : Heap → Prop} {Q : Value → Shared → Prop} (B : Begins v o H) (h1 : H s.heap)
    (h : ∀ h', IsEnum h' (s.heap.objs.size + 1) s.heap.objs.size 0 .none → h'.get? s.heap.objs.size = some o → h'.objs.size = s.heap.objs.size + 2 →
      (∀ b o, s.heap.get? b = some o → h'.get? b = some o) → Q (.ref (s.heap.objs.size + 1)) { s with heap := h' }) :
    wpAny (model prog w) A (call (.type "enumerate") [v]) Q E s := by
  refine callType_new F.called_enumerate (by decide) (F.typeCall_enumerate_1 _) (F.newCall_enumerate_1 _) (fun obj => F.args_object_init_2 obj _) F.entry_enumerate_new
    (ph_enum1 B) ⟨h1, ?_⟩
  have hz : (s.heap.push o).objs.size = s.heap.objs.size + 1 := Heap.size_push ..
  show _ ∧ _
  rw [hz]
  have he : IsEnum ((s.heap.push o).push { cls := .type "enumerate", data := .fields #[.none, .bool false, .ref s.heap.objs.size, rawInt 0, .none, .none] }) (s.heap.objs.size + 1) s.heap.objs.size 0 .none := by
    have := Heap.get?_push_size (s.heap.push o) (o := { cls := .type "enumerate", data := .fields #[.none, .bool false, .ref s.heap.objs.size, rawInt 0, .none, .none] }) rfl
    rw [hz] at this; exact this
  refine ⟨⟨_, he, rfl⟩, h _ he (Heap.get?_push_of_some _ (Heap.get?_push_size _ B.free)) (by rw [Heap.size_push, hz]) fun b o x => Heap.get?_push_of_some _ (Heap.get?_push_of_some _ x)⟩
end PySem
namespace Ph
open PySem PySem.Spec PyProof.Rows L2
/-! ### enumerate of a tuple or a list (true: a tuple) -/
def IteK (k : Bool) (K : PySem.W.Frag) (a : Addr) : It :=
  ⟨fun i H => ∃ (xs : List V) (x : V), SqK k K H a xs ∧ xs[i]? = some x, fun i H v H' => ∃ T x, v = .ref T ∧ H T = none ∧ H' = upd H T (.tup [.int (i : Nat), x]) ∧ ∀ xs, SqK k K H a xs → xs[i]? = some x, fun i H => ∃ xs : List V, SqK k K H a xs ∧ i = xs.length⟩
theorem turn_enumK {P : Program} {w : World} {K : PySem.W.Frag} {elts : List Expr} {kk : Nat} {tpos : Pos} {k : Bool} (a e it : Addr) (na : a ≠ it) (ne : e ≠ it) (nea : e ≠ a) :
    Turn P w K (.Tuple elts kk tpos) (IteK k K a) [e, it] e (fun i h => (∃ old, IsEnum h e it ((i : Nat) : Int) old) ∧ ItrK k h it a i) where
  mem := by simp
  obj := fun i h st b hb => by
    obtain ⟨⟨old, he⟩, h1⟩ := st
    have e' : b = e ∨ b = it := by simpa using hb
    rcases e' with z | z
    · rw [z]; exact ⟨_, he, fun v q => nomatch q⟩
    · rw [z]; exact h1.obj
  keep := fun i h h' st k => let ⟨⟨old, he⟩, hi⟩ := st; ⟨⟨old, k e (by simp) _ he⟩, hi.on fun o q => k it (by simp) o q⟩
  item := by
    intro X hP hw hK hc i pins s σ H E I hf st hg
    subst hP hw hK
    obtain ⟨⟨old, he⟩, hit⟩ := st
    obtain ⟨xs, x, hq, hx⟩ := hg
    obtain ⟨its, rv, p, _⟩ := Inv.seqK I hq
    obtain ⟨u, hu, ru⟩ := rv.get hx
    have hel : e < s.heap.objs.size := Heap.lt_size he
    have hil : it < s.heap.objs.size := by obtain ⟨_, q, _⟩ := hit.obj; exact Heap.lt_size q
    have l1 : i < its.toArray.size := by
      have := (List.getElem?_eq_some_iff.mp hu).1
      simpa using this
    have hh : X.A.in1.handled = none := I.ok.hd hc
    refine wpAny_pyNext_enum_itemD (drawK k hh it a na its.toArray) he ⟨hit, p⟩ l1 ne (by simp [ne, nea]) fun y h' tk hy ho hst hT hsz hk => ?_
    have ey : y = u := by
      have q : its.toArray[i]? = some u := by simpa using hu
      rw [hy] at q
      exact Option.some.inj q
    subst ey
    refine ⟨_, rfl, wpAny_letOwnedTupleGo_enum (s := { s with heap := h', toks := tk + 1 }) ho fun h'' he' sb => ?_⟩
    have hT2 : h''.get? s.heap.objs.size = some { cls := .type "tuple", data := .seq #[.int i tk, y] } := (sb.2 _ (Nat.ne_of_gt hel)).trans hT
    have new : ObjOk X.prog X.w (upd H s.heap.objs.size (.tup [.int (i : Nat), x])) h'' s.heap.objs.size (.tup [.int (i : Nat), x]) :=
      ⟨by show 2 ≤ sizeLine; decide, [.int i tk, y], .cons ⟨_, rfl⟩ (.cons ru .nil), ⟨_, hT2, rfl, _, rfl⟩⟩
    have I1 : Inv X pins σ (upd H s.heap.objs.size (.tup [.int (i : Nat), x])) { s with heap := h'', toks := tk + 1 } :=
      I.turnedNew (ch := [e, it]) (fun b ob hb q => (sb.2 b (fun z => hb (by simp [z]))).trans (hk b ob (fun z => hb (by simp [z])) (fun z => hb (by simp [z])) q)) hf (Nat.le_refl _) new
    refine ⟨.ref s.heap.objs.size, _, I1, rfl, ⟨_, x, rfl, I.hok.fresh (Nat.le_refl _), rfl, fun ys hy => by rw [Inv.seqK_inj I hy hq]; exact hx⟩, ⟨⟨y, ?_⟩, hst.1.on fun o q => (sb.2 it (Ne.symm ne)).trans q⟩, fun b hb => ?_⟩
    · have e1 : ((i + 1 : Nat) : Int) = (i : Int) + 1 := by omega
      rw [e1]; exact he'
    · have hb' : b < s.heap.objs.size := by
        have e' : b = e ∨ b = it := by simpa using hb
        rcases e' with z | z
        · rw [z]; exact hel
        · rw [z]; exact hil
      rw [upd_ne (Nat.ne_of_lt hb')]
      exact (hf b hb).1
  done := by
    intro X hP hw hK hc i pins s σ H E I hf st hg
    subst hP hw hK
    obtain ⟨⟨old, he⟩, hit⟩ := st
    obtain ⟨xs, hq, hx⟩ := hg
    obtain ⟨its, rv, p, _⟩ := Inv.seqK I hq
    obtain ⟨f0, f1, f2, f3, f4, f5⟩ := hf it (by simp)
    have hh : X.A.in1.handled = none := I.ok.hd hc
    have en : i = its.toArray.size := by rw [hx, rv.length]; simp
    exact wpAny_pyNext_enum_endD (drawK k hh it a na its.toArray) he (by rw [← en]; exact ⟨hit, p⟩) fun h' eb => ⟨rfl, I.turned (t' := s.toks) (fun b o hb q => eb b o hb q) f0 f1 f3 f4 f5⟩
  self := fun A i s Q E st h => let ⟨⟨_, he⟩, _⟩ := st; wpAny_pyIter_enum he h
def iEnumK (k : Bool) (K : PySem.W.Frag) (ta : TA) : TI := fun σ H R => ta σ H fun vs H1 => ∃ a xs, vs = [.ref a] ∧ SqK k K H1 a xs ∧ R (IteK k K a) H1
theorem pi_enumK {k : Bool} {X : Cx} {e : Expr} {ta : TA} {p pos tpos : Pos} {elts : List Expr} {kk : Nat} (hg : Gl X "enumerate") (hm : X.mg "enumerate" = none) (ha : PA X [e] ta) (hs : starEach [e] X.env = [(false, eval e X.env)] := by rfl) :
    PI X (.Tuple elts kk tpos) (.Call (.Name "enumerate" p) [e] [] pos) (iEnumK k X.K ta) := by
  refine ⟨fun pins s σ H R I h => ?_⟩
  refine Call_ (ld_blt I hg hm boot_enumerate (PyProof.Rows.callWith_type1 (thn (ha.run pos pins s σ H _ I h) fun us s1 ⟨vs, H1, I1, r1, q1⟩ => ?_) hs rfl))
  obtain ⟨a, xs, ex, hq, q⟩ := q1
  subst ex
  cases r1 with
  | cons r rr =>
    cases rr
    cases r
    obtain ⟨its, rv, p', la⟩ := Inv.seqK I1 hq
    refine ph_enum (beginK k a its.toArray) p' fun h' he hit hsz hk => wpAny_pyIter_enum he ?_
    have I2 : Inv X pins σ H1 { s1 with heap := h' } := I1.kept (t' := s1.toks) hk
    refine ⟨s1.heap.objs.size + 1, [s1.heap.objs.size + 1, s1.heap.objs.size], _, _, H1, rfl, I2, turn_enumK a (s1.heap.objs.size + 1) s1.heap.objs.size (Nat.ne_of_lt la) (Nat.succ_ne_self _) (Nat.ne_of_gt (Nat.lt_succ_of_lt la)), ⟨⟨.none, he⟩, itoK_it hit⟩, fun b hb => ?_, q⟩
    have e' : b = s1.heap.objs.size + 1 ∨ b = s1.heap.objs.size := by simpa using hb
    have hle : s1.heap.objs.size ≤ b := by
      rcases e' with z | z
      · rw [z]; exact Nat.le_add_right _ _
      · rw [z]; exact Nat.le_refl _
    exact I1.fpOk hle (I1.hok.fresh hle)
theorem walk_enumK {k : Bool} {K : PySem.W.Frag} {a : Addr} {xs : List V} : Walk (IteK k K a) xs.length (fun H => SqK k K H a xs) (YPair (fun i => some (.int (i : Nat))) (fun i => xs[i]?)) := by
  refine ⟨fun i _ hi q => ⟨xs, xs[i], q, by simp [hi]⟩, fun _ q => ⟨xs, q, rfl⟩, fun i H v H' _ q y => ?_⟩
  obtain ⟨T, x, h1, h2, h3, h4⟩ := y
  exact ⟨T, _, x, h1, h2, h3, rfl, h4 xs q⟩
end Ph

namespace Ph
open PySem PySem.Spec PyProof.Rows L2
section
variable {X : Cx}
/-! ### repr of data or of None -/
def rRpN (K : PySem.W.Frag) : List V → Hp → VK → Prop := fun xs H Q => (xs = [.non] ∧ Q (.str "None") H) ∨ rRp K xs H Q
theorem call_rpN (hgu : X.A.guards = some []) (hu : X.A.units + 64 < cLine) : CallR X (.builtin "repr") (rRpN X.K) := by
  intro pins s σ H xs us Q I r h
  rcases h with ⟨rfl, q⟩ | h
  · obtain ⟨u, rfl, ru⟩ := vals1 r
    cases ru
    exact P.repr_of_none ⟨.str _, H, I.tok _, ⟨_, rfl⟩, q⟩
  · exact call_rp hgu hu pins s σ H xs us Q I r h
end
/-! ### lists of blocks, and lists of such -/
def lD (bs : List (Int × Int)) : PyData := .list (bs.map bD)
theorem lD_lay (zs : List (Int × Int)) : (lD zs).canLay0 = true := by unfold lD; simp only [PyData.canLay0]; exact bDs_lay zs
theorem lD_depth (zs : List (Int × Int)) : (lD zs).depth ≤ 2 := by
  have h1 := bDs_depth zs
  unfold lD
  simp only [PyData.depth]
  omega
theorem lD_shaped (zs : List (Int × Int)) : SeqAt.shaped (lD zs) = true := by
  have h1 := lD_depth zs
  show ((lD zs).canLay0 && decide ((lD zs).depth ≤ 64)) = true
  rw [lD_lay, decide_eq_true (by omega)]
  rfl
theorem lDs_lay : ∀ zs : List (List (Int × Int)), PyData.canLayAll0 (zs.map lD) = true
  | [] => by simp [PyData.canLayAll0]
  | z :: zs => by simp only [List.map_cons, PyData.canLayAll0, lD_lay, lDs_lay zs, Bool.and_self]
theorem lDs_depth : ∀ zs : List (List (Int × Int)), PyData.depthAll (zs.map lD) ≤ 2
  | [] => by simp [PyData.depthAll]
  | z :: zs => by
    have h1 := lDs_depth zs
    have h2 := lD_depth z
    simp only [List.map_cons, PyData.depthAll]
    omega
theorem lDs_shaped (zs : List (List (Int × Int))) : SeqAt.shaped (.list (zs.map lD)) = true := by
  have h1 := lDs_depth zs
  have h2 : PyData.depth (.list (zs.map lD)) ≤ 64 := by simp only [PyData.depth]; omega
  have h3 : PyData.canLay0 (.list (zs.map lD)) = true := by simp only [PyData.canLay0]; exact lDs_lay zs
  show (PyData.canLay0 (.list (zs.map lD)) && decide (PyData.depth (.list (zs.map lD)) ≤ 64)) = true
  rw [h3, decide_eq_true h2]
  rfl
theorem lD_nil (zs : List (Int × Int)) : PyData.eqv (lD zs) (lD []) = decide (zs = []) := by
  cases zs with
  | nil => simp [lD, PyData.eqv, PyData.eqvAll]
  | cons z zs => simp [lD, PyData.eqv, PyData.eqvAll]
theorem lDs_any (zs : List (List (Int × Int))) : ((zs.map lD).any fun z => PyData.eqv z (lD [])) = decide ([] ∈ zs) := by
  induction zs with
  | nil => simp
  | cons z zs ih =>
    rw [List.map_cons, List.any_cons, ih, lD_nil, Bool.eq_iff_iff, Bool.or_eq_true, decide_eq_true_iff, decide_eq_true_iff, decide_eq_true_iff, List.mem_cons]
    constructor
    · rintro (h | h)
      · exact .inl h.symm
      · exact .inr h
    · rintro (h | h)
      · exact .inl h.symm
      · exact .inr h
end Ph

namespace Ph
open PySem PySem.Spec PyProof.Rows L2
/-! ### min of a list of pairs of ints -/
section
variable {X : Cx}
def rMinP (K : PySem.W.Frag) : List V → Hp → VK → Prop := fun vs H Q => ∃ (a : Addr) (xs : List V) (k : V → Int × Int), vs = [V.ref a] ∧ SqL K H a xs ∧ (∀ x ∈ xs, ∃ t, x = V.ref t ∧ H t = some (.tup [.int (k x).1, .int (k x).2])) ∧ 0 < xs.length ∧
  ∀ x ∈ xs, (∀ y ∈ xs, SrtO.lexB (k y) (k x) = false) → Q x H
theorem minOf_spec : ∀ (x : Int × Int) (xs : List (Int × Int)), PySem.W.minOf x xs ∈ x :: xs ∧ ∀ y ∈ x :: xs, SrtO.lexB y (PySem.W.minOf x xs) = false
  | x, [] => ⟨List.mem_singleton.mpr rfl, fun y hy => by
      rw [List.mem_singleton.mp hy]
      exact SrtO.lexB_no.mpr (by show ¬ (x.1 < x.1 ∨ (x.1 = x.1 ∧ x.2 < x.2)); omega)⟩
  | x, z :: zs => by
    have e : PySem.W.minOf x (z :: zs) = PySem.W.minOf (if PySem.W.DatumOrd.lt z x = true then z else x) zs := rfl
    rw [e]
    have l : PySem.W.DatumOrd.lt z x = SrtO.lexB z x := rfl
    rw [l]
    by_cases c : SrtO.lexB z x = true
    · rw [if_pos c]
      obtain ⟨h1, h2⟩ := minOf_spec z zs
      refine ⟨List.mem_cons_of_mem _ h1, fun y hy => ?_⟩
      rcases List.mem_cons.mp hy with r | r
      · rw [r]
        have a := SrtO.lexB_iff.mp c
        have b := SrtO.lexB_no.mp (h2 z (List.mem_cons_self ..))
        exact SrtO.lexB_no.mpr (by omega)
      · exact h2 y r
    · rw [if_neg c]
      obtain ⟨h1, h2⟩ := minOf_spec x zs
      refine ⟨?_, fun y hy => ?_⟩
      · rcases List.mem_cons.mp h1 with r | r
        · rw [r]; exact List.mem_cons_self ..
        · exact List.mem_cons_of_mem _ (List.mem_cons_of_mem _ r)
      · rcases List.mem_cons.mp hy with r | r
        · rw [r]; exact h2 x (List.mem_cons_self ..)
        · rcases List.mem_cons.mp r with r | r
          · rw [r]
            have a := SrtO.lexB_no.mp (by simpa using c : SrtO.lexB z x = false)
            have b := SrtO.lexB_no.mp (h2 x (List.mem_cons_self ..))
            exact SrtO.lexB_no.mpr (by omega)
          · exact h2 y (List.mem_cons_of_mem _ r)
theorem cr_minP (hc : X.calm = true) (hu : X.A.units + 3 < cLine) : CallR X (.builtin "min") (rMinP X.K) := by
  intro pins s σ H vs us Q I r h
  obtain ⟨a, xs, k, rfl, hs, hx, h0, q⟩ := h
  obtain ⟨its, rv, pl, hz⟩ := I.list hs
  rw [Vals.ref1 r]
  cases xs with
  | nil => exact absurd h0 (by decide)
  | cons x0 xr =>
    obtain ⟨as, rd⟩ := Dp.readsAll I _ _ its (dp_prs _ hx) rv
    have hd : PyData.depthAll ((x0 :: xr).map fun x => bD (k x)) ≤ 1 := by
      have := bDs_depth ((x0 :: xr).map k)
      rw [List.map_map] at this
      exact this
    have ha : PySem.W.AlikeAll ((x0 :: xr).map fun x => bD (k x)) := by
      have := PySem.W.alikeAll_datum ((x0 :: xr).map k)
      rw [List.map_map] at this
      exact this
    refine PySem.W.min_list_data (x := bD (k x0)) (xs := xr.map fun x => bD (k x)) (I.ok.hd hc) pl.isList (by simpa using rd) ha (by
      have e : PyData.depthAll (bD (k x0) :: xr.map fun x => bD (k x)) ≤ 1 := hd
      omega) (fun i v g tk bs hv rr kp => ?_)
    have em : PySem.W.minD (bD (k x0)) (xr.map fun x => bD (k x)) = bD (PySem.W.minOf (k x0) (xr.map k)) := by
      have := PySem.W.minD_map (k x0) (xr.map k)
      rw [List.map_map] at this
      exact this
    rw [em] at rr
    obtain ⟨hm, hb⟩ := minOf_spec (k x0) (xr.map k)
    have hv : its[i]? = some v := by simpa using hv
    obtain ⟨x, hxi, rx⟩ : ∃ x, (x0 :: xr)[i]? = some x ∧ RelV x v := by
      have hil : i < its.length := (List.getElem?_eq_some_iff.mp hv).1
      have hxl : i < (x0 :: xr).length := by rw [rv.length]; exact hil
      obtain ⟨u, e1, e2⟩ := rv.get (List.getElem?_eq_getElem hxl)
      rw [hv] at e1
      cases e1
      exact ⟨_, List.getElem?_eq_getElem hxl, e2⟩
    have mx := List.mem_of_getElem? hxi
    obtain ⟨t, et, ht⟩ := hx x mx
    have dx : Dp X.K H x (bD (k x)) := by
      subst et
      exact .tup (.inl (.inl ht)) (.cons (.int _) (.cons (.int _) .nil))
    obtain ⟨as2, r2⟩ := Dp.reads I _ _ _ dx rx
    have e := (Reads.unique (Reads.keeps kp r2) _ _ rr).1
    have e3 : k x = PySem.W.minOf (k x0) (xr.map k) := by
      unfold bD at e
      injection e with e
      injection e with e1 e
      injection e with e2 e
      injection e1 with e1
      injection e2 with e2
      exact Prod.ext e1 e2
    refine ⟨x, H, I.kept kp, rx, q x mx fun y hy => ?_⟩
    rw [e3]
    refine hb (k y) ?_
    rcases List.mem_cons.mp hy with z | z
    · rw [z]; exact List.mem_cons_self ..
    · exact List.mem_cons_of_mem _ (List.mem_map.mpr ⟨y, z, rfl⟩)
/-! ### sorted of data of any kind that compare: the same items -/
theorem each_of {α : Type} {R : Value → α → Prop} : ∀ {vs : List Value} {bs : List α}, Paired (fun b v => R v b) bs vs → PySem.W.EachIs R vs bs
  | _, _, .nil => .nil
  | _, _, .cons h t => .cons h (each_of t)
theorem of_each {α : Type} {R : Value → α → Prop} : ∀ {vs : List Value} {bs : List α}, PySem.W.EachIs R vs bs → Paired (fun b v => R v b) bs vs
  | _, _, .nil => .nil
  | _, _, .cons h t => .cons h (of_each t)
def rSortedD (K : PySem.W.Frag) : List V → Hp → VK → Prop := fun vs H Q => ∃ (a : Addr) (xs : List V) (D : V → PyData), vs = [V.ref a] ∧ SqL K H a xs ∧ (∀ x ∈ xs, Dp K H x (D x)) ∧ PySem.W.AllAlike (xs.map D) ∧ PySem.W.Sortable (xs.map D) ∧ (∀ x ∈ xs, (D x).depth ≤ 40) ∧
  ∀ (ys : List V) (p : Addr), ys.Perm xs → ys = xs.mergeSort (PySem.W.dataLe false D) → H p = none → Q (.ref p) (upd H p (.lst ys))
theorem cr_sortedD (hu : X.A.units + 64 < cLine) : CallR X (.builtin "sorted") (rSortedD X.K) := by
  intro pins s σ H vs us Q I r h
  obtain ⟨a, xs, D, rfl, hs, hd, al, sb, dp, q⟩ := h
  obtain ⟨its, rv, pl, hz⟩ := I.list hs
  rw [Vals.ref1 r]
  have rd : ∀ {xs : List V} {its : List Value}, Vals xs its → (∀ x ∈ xs, Dp X.K H x (D x)) → Paired (fun b v => ∃ as, Reads s.heap v (D b) as) xs its := fun {xs its} rv => by
    induction rv with
    | nil => exact fun _ => .nil
    | cons r t ih => exact fun hd => .cons (Dp.reads I _ _ _ (hd _ (List.mem_cons_self ..)) r) (ih fun x hx => hd x (List.mem_cons_of_mem _ hx))
  refine PySem.W.sorted_data (R := fun v x => RelV x v) (enc := D) (bs := xs) (vs := its) pl.isList (each_of rv) (each_of (rd rv hd)) al sb (by have := rv.length; omega) (fun b hb => by have := dp b hb; omega) fun out len e => ?_
  have rv2 : Vals (xs.mergeSort (PySem.W.dataLe false D)) out := of_each e
  obtain ⟨c, hc⟩ := PyProof.Rows.sortedAll_at s.heap its out.toArray
  have hz2 : s.heap.objs.size ≤ s.heap.objs.size + 1 := Nat.le_succ _
  have hn : H (s.heap.objs.size + 1) = none := I.hok.fresh hz2
  have hl2 : (xs.mergeSort (PySem.W.dataLe false D)).length ≤ sizeLine := by rw [List.length_mergeSort]; have := rv.length; omega
  exact ⟨.ref (s.heap.objs.size + 1), _, I.laid (t' := s.toks) (o := .lst (xs.mergeSort (PySem.W.dataLe false D))) (fun _ _ => PyProof.Rows.sortedAll_old) hz2 ⟨hl2, out, c, rv2, hc⟩, rfl, q _ _ (List.mergeSort_perm ..) rfl hn⟩
/-! ### min of data of any kind that compare: one of the items -/
def rMinW (K : PySem.W.Frag) : List V → Hp → VK → Prop := fun vs H Q => ∃ (a : Addr) (xs : List V) (D : V → PyData), vs = [V.ref a] ∧ SqL K H a xs ∧ (∀ x ∈ xs, Dp K H x (D x)) ∧ PySem.W.AlikeAll (xs.map D) ∧ PyData.depthAll (xs.map D) ≤ 40 ∧ 0 < xs.length ∧ ∀ x ∈ xs, Q x H
theorem dpl_of {K : PySem.W.Frag} {H : Hp} {D : V → PyData} : ∀ xs : List V, (∀ x ∈ xs, Dp K H x (D x)) → DpAll K H xs (xs.map D)
  | [], _ => .nil
  | x :: r, h => .cons (h x (List.mem_cons_self ..)) (dpl_of r fun y hy => h y (List.mem_cons_of_mem _ hy))
theorem cr_minW (hc : X.calm = true) (hu : X.A.units + 64 < cLine) : CallR X (.builtin "min") (rMinW X.K) := by
  intro pins s σ H vs us Q I r h
  obtain ⟨a, xs, D, rfl, hs, hd, al, dp, h0, q⟩ := h
  obtain ⟨its, rv, pl, _⟩ := I.list hs
  rw [Vals.ref1 r]
  cases xs with
  | nil => exact absurd h0 (by decide)
  | cons x0 xr =>
    obtain ⟨as, rd⟩ := Dp.readsAll I _ _ its (dpl_of _ hd) rv
    refine PySem.W.min_list_data (x := D x0) (xs := xr.map D) (I.ok.hd hc) pl.isList (by simpa using rd) al (by
      have e : PyData.depthAll (D x0 :: xr.map D) ≤ 40 := dp
      omega) (fun i v g tk bs hv rr kp => ?_)
    have hv : its[i]? = some v := by simpa using hv
    have hil : i < its.length := (List.getElem?_eq_some_iff.mp hv).1
    have hxl : i < (x0 :: xr).length := by rw [rv.length]; exact hil
    obtain ⟨u, e1, e2⟩ := rv.get (List.getElem?_eq_getElem hxl)
    rw [hv] at e1
    cases e1
    exact ⟨_, H, I.kept kp, e2, q _ (List.getElem_mem hxl)⟩
end
end Ph

set_option maxHeartbeats 4000000
/-! PhErr: own errors: isinstance of a caught error that may have a dict, by one class or a tuple of classes; a class called without arguments. -/
namespace Ph
open PySem PySem.Spec PyProof.Rows L2
/-- the dict of a caught error: none, or one that is told -/
def DictK (H : Hp) (d : Option Addr) : Prop := d = none ∨ ∃ dd fs, d = some dd ∧ H dd = some (.xd fs)
section
variable {X : Cx}
theorem inst_of {pins : List (Addr × Obj)} {σ : L2.St} {H : Hp} {s : Shared} {a D : Addr} {d : Option Addr} {oe : Obj} (I : Inv X pins σ H s) (hget : s.heap.get? a = some oe) (hz : Zc (.ref D) d oe) (hf : ∃ vs, oe.data = .fields vs) (k : DictK H d) :
    ∃ od, PySem.W.InstAt s.heap a oe D od := by
  obtain ⟨vs, hv⟩ := hf
  have no : PySem.W.notCls oe = true := by
    unfold PySem.W.notCls
    rw [hv]
  rcases k with rfl | ⟨dd, fs, rfl, e⟩
  · exact ⟨none, hget, hz.1, no, by rw [hz.2]; trivial⟩
  · have hx : ObjOk X.prog X.w H s.heap dd (.xd fs) := I.hok dd _ e
    obtain ⟨mA, hns, _⟩ := hx
    obtain ⟨od, ho, _⟩ := lookIn_ns hns
    exact ⟨some od, hget, hz.1, no, by rw [hz.2]; exact ho⟩
/-- isinstance(e, c): e at a, of the class cls, with the dict d -/
def rIsX (K : PySem.W.Frag) (a : Addr) (cls : Value) (d : Option Addr) : List V → Hp → VK → Prop := fun xs H Q => ∃ (D : Addr) (c : V) (cv : Value) (b : Bool), xs = [.ref a, c] ∧ cls = .ref D ∧ ExcC K D ∧ DictK H d ∧ (∀ u, RelV c u → u = cv) ∧ PySem.W.kitOne K (.ref D) cv = some b ∧ Q (.bl b) H
theorem call_isX {a : Addr} {oe : Obj} {cls : Value} {d : Option Addr} {pn : List (Addr × Obj)} (hz : Zc cls d oe) (hf : ∃ vs, oe.data = .fields vs) : CallR (X.suite a ((a, oe) :: pn)) (.builtin "isinstance") (rIsX X.K a cls d) := by
  intro pins s σ H xs us Q I r h
  obtain ⟨D, c, cv, b, rfl, rfl, C, k, hcv, e, q⟩ := h
  obtain ⟨ua, uc, rfl, ra, rc⟩ : ∃ ua uc, us = [ua, uc] ∧ RelV (.ref a) ua ∧ RelV c uc := by
    cases r with
    | cons r1 r2 => cases r2 with
      | cons r3 r4 =>
        cases r4
        exact ⟨_, _, rfl, r1, r3⟩
  obtain rfl : ua = Value.ref a := ra
  obtain rfl := hcv _ rc
  obtain ⟨hget, _⟩ := I.pin (a, oe) (List.mem_append.mpr (.inl List.mem_cons_self))
  obtain ⟨od, J⟩ := inst_of I hget hz hf k
  have cl : (PySem.W.clsIn X.K D).isSome = true := by
    obtain ⟨cd, hc, _⟩ := PySem.W.any_some C.hd
    rw [hc]
    rfl
  exact PySem.W.kia_one (PySem.W.kitx_exc (od := od) cl C.hg C.hk C.hs C.ha C.hn C.ht C.hm) I.kIn J e (fun z => nomatch z) fun tk => ⟨.bl b, H, I.kept (t' := tk) fun _ _ z => z, rfl, q⟩
/-- isinstance(e, (c, ..)) -/
def rIsXt (K : PySem.W.Frag) (a : Addr) (cls : Value) (d : Option Addr) : List V → Hp → VK → Prop := fun xs H Q => ∃ (D t : Addr) (cs : List V) (cvs : List Value) (b : Bool), xs = [.ref a, .ref t] ∧ cls = .ref D ∧ ExcC K D ∧ DictK H d ∧ H t = some (.tup cs) ∧
  (∀ us, Vals cs us → us = cvs) ∧ PySem.W.kitAny K (.ref D) cvs = some b ∧ Q (.bl b) H
theorem call_isXt {a : Addr} {oe : Obj} {cls : Value} {d : Option Addr} {pn : List (Addr × Obj)} (hz : Zc cls d oe) (hf : ∃ vs, oe.data = .fields vs) : CallR (X.suite a ((a, oe) :: pn)) (.builtin "isinstance") (rIsXt X.K a cls d) := by
  intro pins s σ H xs us Q I r h
  obtain ⟨D, t, cs, cvs, b, rfl, rfl, C, k, ht, hcv, e, q⟩ := h
  obtain ⟨ua, uc, rfl, ra, rc⟩ : ∃ ua uc, us = [ua, uc] ∧ RelV (.ref a) ua ∧ RelV (.ref t) uc := by
    cases r with
    | cons r1 r2 => cases r2 with
      | cons r3 r4 =>
        cases r4
        exact ⟨_, _, rfl, r1, r3⟩
  obtain rfl : ua = Value.ref a := ra
  obtain rfl : uc = Value.ref t := rc
  obtain ⟨hget, _⟩ := I.pin (a, oe) (List.mem_append.mpr (.inl List.mem_cons_self))
  obtain ⟨od, J⟩ := inst_of I hget hz hf k
  have cl : (PySem.W.clsIn X.K D).isSome = true := by
    obtain ⟨cd, hc, _⟩ := PySem.W.any_some C.hd
    rw [hc]
    rfl
  have hx : ObjOk X.prog X.w H s.heap t (.tup cs) := I.hok t _ ht
  obtain ⟨_, its, rv, o, ho, hc, n, hdat⟩ := hx
  obtain rfl := hcv _ rv
  obtain ⟨oc, odd, oda, osl⟩ := o
  dsimp only at hc hdat
  subst hc hdat
  exact PySem.W.kia_tup (PySem.W.kitx_exc (od := od) cl C.hg C.hk C.hs C.ha C.hn C.ht C.hm) I.kIn J ho e (fun z => nomatch z) fun tk => ⟨.bl b, H, I.kept (t' := tk) fun _ _ z => z, rfl, q⟩
/-! ### C(), C's own __init__ doing nothing -/
def spIni0 : Sp := fun vs H Q _ => ∃ a : Addr, vs = [.ref a] ∧ Q .non H
/-- the way out: class C, no dict -/
def tMk0 (C : Addr) : L2.St → Hp → XK → Prop := fun _ H Q => Q (.ref C) none H
theorem pmk_own0 {CX : CXT} {x : Str} {C fI : Addr} {k : Nat} {fd : FuncData} {ps : List Str} {p pos : Pos} (T : OexC X.K C) (iC : PySem.W.findIn X.K (.ref C) "__init__" = some (some (.ref fI))) (tI : PySem.W.typeIn X.K (.ref fI) = some (.type "function"))
    (F1 : FnOk X.prog X.w X.K X.mg X.base CX k fI fd ps spIni0) (hr : Room (k + 1) X.A) (hb : Binds X.K fd ps []) (hx : Passes CX X (fun _ _ _ => False)) (hg : Gl X x) (hm : X.mg x = some (.ref C))
    (hdb : (x == ("__debug__" : Str)) = false := by decide) : PMk X (.Call (.Name x p) [] [] pos) (tMk0 C) := by
  intro pins s σ H Q I q
  obtain ⟨nm, qn, N, bs, bm, sn, sub, ab, col, dd, k0, k1, k2, k3, k5, hC, hbm⟩ := T.cls
  refine wpAny_Call_Name_kw (ld_glob I hg hm (PySem.W.callWith_K0 I.kIn T.kC ?_) hdb)
  show wpAny _ _ (call (.ref C) []) _ _ _
  obtain ⟨hp, g, dr, tk, os⟩ := s
  obtain ⟨z, ez⟩ : ∃ z, z = hp.objs.size := ⟨_, rfl⟩
  have hsz : hp.objs.size ≤ z + 1 := by omega
  have hn : H (z + 1) = none := I.hok.fresh hsz
  obtain ⟨h1, e1⟩ : ∃ h1, h1 = (hp.push (PySem.W.kdv_tup [])).push (PySem.HandSPX.excO C z) := ⟨_, rfl⟩
  have kk : ∀ b o, hp.get? b = some o → h1.get? b = some o := fun b o e => by
    rw [e1]
    exact Heap.get?_push_of_some _ (Heap.get?_push_of_some _ e)
  have hget : h1.get? (z + 1) = some (PySem.HandSPX.excO C z) := by
    subst ez e1
    heap_get
  obtain ⟨H1, eH⟩ : ∃ H1, H1 = upd H (z + 1) (exo (z + 1) C none) := ⟨_, rfl⟩
  have I2 : Inv X pins σ H1 ⟨h1, g, dr, tk, os⟩ := by
    rw [eH]
    exact I.laid (t' := tk) kk hsz (exo_ok hget)
  have r2 : Vals [V.ref (z + 1)] [Value.ref (z + 1)] := .cons rfl .nil
  have wish : spIni0 [.ref (z + 1)] H1 (fun v H2 => v = .non ∧ H2 = H1) (fun _ _ _ => False) := ⟨_, rfl, rfl, rfl⟩
  have hl : ([Value.ref (z + 1)] ++ []).length = ps.length := (F1.len _ _ _ _ wish)
  have run := F1.run _ X.stack ⟨h1, g, dr, tk, os⟩ H1 ⟨[Value.ref (z + 1)], []⟩ [Value.ref (z + 1)] _ _ (fun _ _ _ => False) (hr.make C [] []) (I2.env0.make C [] []) (hb _ [Value.ref (z + 1)] I2.kIn hl) r2 wish
  subst e1
  subst ez
  refine wpAny_call (PySem.HandSPX.call_own F.excBase_ValueError (fun Y => PySem.HandSPX.refsVE_contains Y bm hbm) (I.kIn _ _ hC) (PySem.W.looks_findIn I.kIn iC) (fun self => PySem.W.bind_fn I.kIn self tI) (Nat.zero_le _) (codeAny_mono run fun r s' hq' => ?_))
  cases r with
  | error er => exact hx pins σ _ _ er s' I2 hq'
  | ok fl =>
    cases fl with
    | next => exact hq'.elim
    | brk => exact hq'.elim
    | cont => exact hq'.elim
    | ret u =>
      obtain ⟨v, H2, os2, bare2, un2, hok2, rv, rfl, rfl⟩ := hq'
      obtain ⟨h2, g2, d2, t2, os'⟩ := s'
      refine ⟨rv, ?_⟩
      have ea : H2 (hp.objs.size + 1) = some (exo (hp.objs.size + 1) C none) := by
        rw [eH]
        exact upd_same
      have eo : ∀ {b : Addr}, b ≠ hp.objs.size + 1 → H2 b = H b := fun {b} n => by
        rw [eH]
        exact upd_ne n
      obtain ⟨t0, hoe⟩ := exo_at hok2 ea
      obtain ⟨G, gs, gn⟩ := restrict h2 fun b => !decide (b = hp.objs.size + 1)
      have gk : ∀ {b : Addr}, b ≠ hp.objs.size + 1 → G.get? b = h2.get? b := fun {b} n => gs b (by simp [n])
      have ga : G.get? (hp.objs.size + 1) = none := gn _ (by simp)
      have nb : ∀ {b : Addr} {o : Obj}, hp.get? b = some o → b ≠ hp.objs.size + 1 := fun {b o} e => by
        have l := Heap.lt_size e
        exact Nat.ne_of_lt (Nat.lt_succ_of_lt l)
      have nH : ∀ {b : Addr} {o : HO}, H b = some o → b ≠ hp.objs.size + 1 := fun {b o} e n => by
        rw [n, hn] at e
        cases e
      have U : Un (frs X.stack) [] H H hp G := {
        keep := fun b o e n hf hx => (gk (nb e)).trans (un2.keep b o (kk b o e) ((eo (nb e)).trans n) hf hx)
        slot := fun b o e n hf hx => by
          obtain ⟨sl, q1⟩ := un2.slot b o (kk b o e) ((eo (nb e)).trans n) hf hx
          exact ⟨sl, (gk (nb e)).trans q1⟩
        free := fun b o e n hx => n
        there := fun b o e hx => by
          obtain ⟨o2, q1⟩ := un2.there b o (kk b o e) hx
          exact ⟨o2, (gk (nb e)).trans q1⟩
        tups := fun b xs e => e
        frzs := fun b o v e => e
        tbls := fun b ps e => ⟨#[], by rw [e]; simp⟩ }
      have hok3 : HOk X.prog X.w H G := fun b o e => by
        refine (hok2 b o ((eo (nH e)).trans e)).stay (fun c v hc y => ?_) (fun c hc => ?_) (fun c xs hc => ?_)
        · have nc : c ≠ hp.objs.size + 1 := by
            rcases hc with hc | hc
            · rw [hc]
              exact nH e
            · exact at_ne ea hc exo_own
          exact (gk nc).trans y
        · exact (eo (at_ne ea hc exo_own)).symm.trans hc
        · exact (eo (at_ne ea hc exo_tup)).symm.trans hc
      have J : Inv X pins σ H ⟨G, g2, d2, t2, os'⟩ := I.call' (ch := []) os2 U hok3 bare2 (fun b z => absurd z (by simp))
      refine ⟨_, _, _, ⟨G, g2, d2, t2, os'⟩, H, .ref C, none, rfl, J, fun b o e => ?_, ga, hoe, ⟨rfl, rfl⟩, rfl, rfl, hn, rfl, bare2, raises_own T.exC T.tyC, q⟩
      have n : b ≠ hp.objs.size + 1 := fun n => by
        have e' : G.get? b = some o := e
        rw [n, ga] at e'
        cases e'
      exact (gk n).symm.trans e
end
end Ph

/-! PhDr2: repr of data with dicts; only the dicts themselves must not be sys.modules. -/
namespace Ph
open PySem PySem.Spec PyProof.Rows L2
section
variable (P : Program) (w : World) (h : Heap)
/-- u holds d, and shows it within other data -/
def Sh1 (u : Value) (d : PyData) : Prop := (∃ as, Reads h u d as) ∧ (d.showable = true → d.shown.length ≤ sizeLine → ∃ bs, ReadAtMost h d.depth bs ∧ ReprK P w bs h d.depth u d.shown)
def ShA (us : List Value) (ds : List PyData) : Prop := (∃ as, ReadsAll h us ds as) ∧
  (PyData.showableAll ds = true → (∀ t ∈ PyData.shownAll ds, t.length ≤ sizeLine) → ∃ bs, ReadAtMost h (PyData.depthAll ds) bs ∧ ReprAllK P w bs h (PyData.depthAll ds) us (PyData.shownAll ds))
/-- repr(u) -/
def Top (u : Value) (d : PyData) : Prop := ∀ (A : Around) (E : Value → Shared → Prop) (s : Shared) (Q : Value → Shared → Prop), A.guards = some [] → A.units + (d.depth + 1) < cLine → (∀ b o, h.get? b = some o → s.heap.get? b = some o) →
  (∀ h' t k, (∀ b o, s.heap.get? b = some o → h'.get? b = some o) → Q (.str d.shown t) { s with heap := h', toks := k }) → wpAny (model P w) A (call (.builtin "repr") [u]) Q E s
end
section
variable {P : Program} {w : World} {h : Heap}
theorem ShA.nil : ShA P w h [] [] := ⟨⟨_, .nil⟩, fun _ _ => ⟨[], (fun _ z => nomatch z), by simp only [PyData.shownAll]; exact .nil⟩⟩
theorem ShA.cons {u : Value} {us : List Value} {d : PyData} {ds : List PyData} (x : Sh1 P w h u d) (y : ShA P w h us ds) : ShA P w h (u :: us) (d :: ds) := by
  obtain ⟨⟨as, ra⟩, sa⟩ := x
  obtain ⟨⟨bs, rb⟩, sb⟩ := y
  refine ⟨⟨_, .cons ra rb⟩, fun s1 s2 => ?_⟩
  rw [PyData.showableAll, Bool.and_eq_true] at s1
  rw [PyData.shownAll] at s2
  obtain ⟨b1, r1, k1⟩ := sa s1.1 (s2 _ (List.mem_cons_self ..))
  obtain ⟨b2, r2, k2⟩ := sb s1.2 fun t ht => s2 t (List.mem_cons_of_mem _ ht)
  rw [PyData.shownAll, PyData.depthAll]
  refine ⟨b1 ++ b2, (r1.mono (Nat.le_max_left ..)).append (r2.mono (Nat.le_max_right ..)), .cons ?_ ?_⟩
  · exact (k1.more fun b z => List.mem_append_left _ z).level_le (Nat.le_max_left ..)
  · exact k2.more_le (fun b z => List.mem_append_right _ z) (Nat.le_max_right ..)
theorem lst_rd {a : Addr} {o : Obj} {its : List Value} {n : Nat} {ds : List PyData} (ho : h.get? a = some o) (hc : o.cls = .type "list") (hd : o.data = .seq its.toArray n) (x : ShA P w h its ds) : ∃ as, Reads h (.ref a) (.list ds) as := by
  obtain ⟨⟨as, r⟩, _⟩ := x
  exact ⟨_, .list ho hc hd r⟩
theorem sh_lst {a : Addr} {o : Obj} {its : List Value} {n : Nat} {ds : List PyData} (ho : h.get? a = some o) (hc : o.cls = .type "list") (hd : o.data = .seq its.toArray n) (x : ShA P w h its ds) :
    Sh1 P w h (.ref a) (.list ds) ∧ ((PyData.list ds).showable = true → (PyData.list ds).shown.length ≤ sizeLine → Top P w h (.ref a) (.list ds)) := by
  have rr := lst_rd ho hc hd x
  have get : (PyData.list ds).showable = true → (PyData.list ds).shown.length ≤ sizeLine → ∃ bs, ReadAtMost h (PyData.depthAll ds) bs ∧ a ∉ bs ∧ ReprAllK P w bs h (PyData.depthAll ds) its (PyData.shownAll ds) := fun s1 s2 => by
    rw [PyData.showable] at s1
    rw [PyData.shown] at s2
    obtain ⟨bs, b1, k⟩ := x.2 s1 fun t ht => Nat.le_trans (listText_mem_le ht) s2
    obtain ⟨as, r⟩ := rr
    exact ⟨bs, b1, not_mem_of_deeper r (by rw [PyData.depth]; omega) b1, k⟩
  refine ⟨⟨rr, fun s1 s2 => ?_⟩, fun s1 s2 => ?_⟩
  · obtain ⟨bs, b1, na, k⟩ := get s1 s2
    obtain ⟨as, r⟩ := rr
    refine ⟨a :: bs, ReadAtMost.cons r (by rw [PyData.depth]; omega) b1, ?_⟩
    rw [PyData.depth, PyData.shown]
    cases its with
    | nil =>
      have e : PyData.shownAll ds = [] := by
        have := k.length_eq
        exact List.length_eq_zero_iff.mp this
      rw [e, listText_nil]
      exact ReprK.listEmpty ho hc hd
    | cons y l => exact ReprK.list ho hc hd na (by have := k.length_eq; simpa using this) fun i z e => k.item i z (by simpa using e)
  · intro A E s Q hg hu kp hQ
    obtain ⟨bs, b1, na, k⟩ := get s1 s2
    rw [PyData.shown] at s2 hQ
    rw [PyData.depth] at hu
    refine call_repr_slot (by omega) (T := "list") ⟨o, kp _ _ ho, hc⟩ F.slot_list_repr.toG ?_
    cases its with
    | nil =>
      have e : PyData.shownAll ds = [] := by
        have := k.length_eq
        exact List.length_eq_zero_iff.mp this
      rw [e, listText_nil] at hQ
      exact call_list_repr_empty ⟨o, kp _ _ ho, hc⟩ (kp _ _ ho) hd ⟨_, _, rfl, hQ s.heap _ _ fun _ _ z => z⟩
    | cons y l =>
      exact call_list_reprK ho hc hd na (by have := k.length_eq; simpa using this) (fun i z e => k.item i z (by simpa using e)) hg (fun b _ => Clear.nil b) (by show A.units + 1 + (PyData.depthAll ds + 1) < cLine; omega) kp (fun h' t q z => ⟨_, _, rfl, hQ h' t q z⟩) s2
theorem sh_tup {a : Addr} {o : Obj} {its : Array Value} {n : Nat} {ds : List PyData} (ho : h.get? a = some o) (hc : o.cls = .type "tuple") (hd : o.data = .seq its n) (x : ShA P w h its.toList ds) :
    Sh1 P w h (.ref a) (.tuple ds) ∧ ((PyData.tuple ds).showable = true → (PyData.tuple ds).shown.length ≤ sizeLine → Top P w h (.ref a) (.tuple ds)) := by
  obtain ⟨as, r0⟩ := x.1
  have r : Reads h (.ref a) (.tuple ds) as := .tuple ho hc hd r0
  have get : (PyData.tuple ds).showable = true → (PyData.tuple ds).shown.length ≤ sizeLine → ∃ bs, ReadAtMost h (PyData.depthAll ds) bs ∧ a ∉ bs ∧ ReprAllK P w bs h (PyData.depthAll ds) its.toList (PyData.shownAll ds) := fun s1 s2 => by
    rw [PyData.showable] at s1
    rw [PyData.shown] at s2
    obtain ⟨bs, b1, k⟩ := x.2 s1 fun t ht => Nat.le_trans (tupleText_mem_le ht) s2
    exact ⟨bs, b1, not_mem_of_deeper r (by rw [PyData.depth]; omega) b1, k⟩
  refine ⟨⟨⟨_, r⟩, fun s1 s2 => ?_⟩, fun s1 s2 A E s Q hg hu kp hQ => ?_⟩
  · obtain ⟨bs, b1, na, k⟩ := get s1 s2
    refine ⟨a :: bs, ReadAtMost.cons r (by rw [PyData.depth]; omega) b1, ?_⟩
    rw [PyData.depth, PyData.shown]
    exact ReprK.tuple ho hc hd na k
  · obtain ⟨bs, b1, na, k⟩ := get s1 s2
    rw [PyData.shown] at s2 hQ
    rw [PyData.depth] at hu
    refine call_repr_slot (by omega) (T := "tuple") ⟨o, kp _ _ ho, hc⟩ F.slot_tuple_repr ?_
    exact call_tuple_reprK ho hc hd na k hg (fun b _ => Clear.nil b) (by show A.units + 1 + (PyData.depthAll ds + 1) < cLine; omega) kp (fun h' t q z => ⟨_, _, rfl, hQ h' t q z⟩) s2
theorem sh_dct {a : Addr} {o : Obj} {es : Array DictEntry} {n : Nat} {D : List (PyData × PyData)} (ho : h.get? a = some o) (hc : o.cls = .type "dict") (hd : o.data = .dict es n) (ne : (a == sysModules) = false)
    (x : ShA P w h (es.toList.map (·.key)) (D.map (·.1))) (y : ShA P w h (es.toList.map (·.val)) (D.map (·.2))) :
    Sh1 P w h (.ref a) (.dict D) ∧ ((PyData.dict D).showable = true → (PyData.dict D).shown.length ≤ sizeLine → Top P w h (.ref a) (.dict D)) := by
  obtain ⟨a1, r1⟩ := x.1
  obtain ⟨a2, r2⟩ := y.1
  have r : Reads h (.ref a) (.dict D) _ := .dict ho hc hd r1 r2
  have get : (PyData.dict D).showable = true → (PyData.dict D).shown.length ≤ sizeLine → ∃ bs, ReadAtMost h (PyData.depthKv D) bs ∧ a ∉ bs ∧ ReprEntriesK P w bs h (PyData.depthKv D) es.toList (PyData.shownKv D) := fun s1 s2 => by
    rw [PyData.showable] at s1
    rw [PyData.shown] at s2
    obtain ⟨q1, q2⟩ := PyData.showableKv_split D s1
    obtain ⟨b1, m1, k1⟩ := x.2 q1 fun t ht => by
      obtain ⟨p, hp, l⟩ := PyData.shownKv_key_le D t ht
      exact Nat.le_trans l (Nat.le_trans (dictText_mem_le hp) s2)
    obtain ⟨b2, m2, k2⟩ := y.2 q2 fun t ht => by
      obtain ⟨p, hp, l⟩ := PyData.shownKv_val_le D t ht
      exact Nat.le_trans l (Nat.le_trans (dictText_mem_le hp) s2)
    have m := (m1.mono (PyData.depthAll_keys_le D)).append (m2.mono (PyData.depthAll_vals_le D))
    refine ⟨b1 ++ b2, m, not_mem_of_deeper r (by rw [PyData.depth]; omega) m, ?_⟩
    rw [PyData.shownKv_eq]
    refine ReprEntriesK.of_two es.toList _ _ ?_ ?_
    · exact k1.more_le (fun b z => List.mem_append_left _ z) (PyData.depthAll_keys_le D)
    · exact k2.more_le (fun b z => List.mem_append_right _ z) (PyData.depthAll_vals_le D)
  refine ⟨⟨⟨_, r⟩, fun s1 s2 => ?_⟩, fun s1 s2 A E s Q hg hu kp hQ => ?_⟩
  · obtain ⟨bs, b1, na, k⟩ := get s1 s2
    refine ⟨a :: bs, ReadAtMost.cons r (by rw [PyData.depth]; omega) b1, ?_⟩
    rw [PyData.depth, PyData.shown]
    exact ReprK.dict ho hc hd ne na k
  · obtain ⟨bs, b1, na, k⟩ := get s1 s2
    rw [PyData.shown] at s2 hQ
    rw [PyData.depth] at hu
    refine call_repr_slot (by omega) (T := "dict") ⟨o, kp _ _ ho, hc⟩ F.slot_dict_repr ?_
    exact call_dict_reprK ho hc hd ne na k hg (fun b _ => Clear.nil b) (by show A.units + 1 + (PyData.depthKv D + 1) < cLine; omega) kp (fun h' t q z => ⟨_, _, rfl, hQ h' t q z⟩) s2
end
end Ph

/-! PhDk: data with dicts (keys: ints and texts): read off the heap, and repr of it. -/
namespace Ph
open PySem PySem.Spec PyProof.Rows L2
def keyD : Key → PyData
  | .inl i => .int i
  | .inr x => .str x
mutual
inductive Dq (K : PySem.W.Frag) (H : Hp) : V → PyData → Prop
  | non : Dq K H .non .none
  | bl (b : Bool) : Dq K H (.bl b) (.bool b)
  | int (i : Int) : Dq K H (.int i) (.int i)
  | str (x : Str) : Dq K H (.str x) (.str x)
  | lst {a : Addr} {xs : List V} {ds : List PyData} (hs : SqL K H a xs) (ha : DqAll K H xs ds) : Dq K H (.ref a) (.list ds)
  | tup {a : Addr} {xs : List V} {ds : List PyData} (hs : SqT K H a xs) (ha : DqAll K H xs ds) : Dq K H (.ref a) (.tuple ds)
  | dct {a : Addr} {kvs : List (Key × V)} {ds : List (PyData × PyData)} (hs : Rd H a (.dK kvs)) (ha : DqKvs K H kvs ds) : Dq K H (.ref a) (.dict ds)
inductive DqAll (K : PySem.W.Frag) (H : Hp) : List V → List PyData → Prop
  | nil : DqAll K H [] []
  | cons {v : V} {vs : List V} {d : PyData} {ds : List PyData} (h : Dq K H v d) (r : DqAll K H vs ds) : DqAll K H (v :: vs) (d :: ds)
inductive DqKvs (K : PySem.W.Frag) (H : Hp) : List (Key × V) → List (PyData × PyData) → Prop
  | nil : DqKvs K H [] []
  | cons {k : Key} {v : V} {r : List (Key × V)} {d : PyData} {ds : List (PyData × PyData)} (h : Dq K H v d) (t : DqKvs K H r ds) : DqKvs K H ((k, v) :: r) ((keyD k, d) :: ds)
end
theorem sh_key {P : Program} {w : World} {h : Heap} (k : Key) (u : Value) (e : (mixKind P w).is k u = true) (hi : ∀ i, k = .inl i → (PyData.int i).showable = true → i.natAbs.log2 < 1920) : Sh1 P w h u (keyD k) := by
  rcases keyIs_shape e with ⟨i, t, rfl, rfl⟩ | ⟨x, t, rfl, rfl⟩
  · exact ⟨⟨_, .int i t⟩, fun s1 _ => ⟨[], (fun _ z => nomatch z), by simp only [keyD, PyData.shown]; exact .of_is (ReprIs.int t (hi i rfl s1)) _ _ _⟩⟩
  · exact ⟨⟨_, .str x t⟩, fun _ s2 => ⟨[], (fun _ z => nomatch z), by simp only [keyD, PyData.shown] at s2 ⊢; exact .of_is (ReprIs.str x t s2) _ _ _⟩⟩
theorem int_sh {i : Int} (h : (PyData.int i).showable = true) : i.natAbs.log2 < 1920 := by simpa [PyData.showable] using h
section
variable {X : Cx} {pins : List (Addr × Obj)} {σ : L2.St} {H : Hp} {s : Shared}
theorem Dq.sh (I : Inv X pins σ H s) {v : V} {d : PyData} (h : Dq X.K H v d) : ∀ u, RelV v u → Sh1 X.prog X.w s.heap u d ∧ ∀ a, v = .ref a → d.showable = true → d.shown.length ≤ sizeLine → Top X.prog X.w s.heap u d := by
  refine @Dq.rec X.K H (fun v d _ => ∀ u, RelV v u → Sh1 X.prog X.w s.heap u d ∧ ∀ a, v = .ref a → d.showable = true → d.shown.length ≤ sizeLine → Top X.prog X.w s.heap u d) (fun vs ds _ => ∀ us, Vals vs us → ShA X.prog X.w s.heap us ds)
    (fun kvs D _ => ∀ es us, Pairs (mixKind X.prog X.w) es us → KV kvs us → ShA X.prog X.w s.heap (es.map (·.key)) (D.map (·.1)) ∧ ShA X.prog X.w s.heap (es.map (·.val)) (D.map (·.2))) ?_ ?_ ?_ ?_ ?_ ?_ ?_ ?_ ?_ ?_ ?_ v d h
  · intro u r
    obtain rfl : u = Value.none := r
    exact ⟨⟨⟨_, .none⟩, fun _ _ => ⟨[], (fun _ z => nomatch z), by simp only [PyData.shown]; exact .of_is ReprIs.none _ _ _⟩⟩, fun a z => nomatch z⟩
  · intro b u r
    obtain rfl : u = Value.bool b := r
    exact ⟨⟨⟨_, .bool b⟩, fun _ _ => ⟨[], (fun _ z => nomatch z), by simp only [PyData.shown]; exact .of_is (ReprIs.bool b) _ _ _⟩⟩, fun a z => nomatch z⟩
  · rintro i u ⟨t, rfl⟩
    exact ⟨⟨⟨_, .int i t⟩, fun s1 _ => ⟨[], (fun _ z => nomatch z), by simp only [PyData.shown]; exact .of_is (ReprIs.int t (int_sh s1)) _ _ _⟩⟩, fun a z => nomatch z⟩
  · rintro x u ⟨t, rfl⟩
    exact ⟨⟨⟨_, .str x t⟩, fun _ s2 => ⟨[], (fun _ z => nomatch z), by simp only [PyData.shown] at s2 ⊢; exact .of_is (ReprIs.str x t s2) _ _ _⟩⟩, fun a z => nomatch z⟩
  · intro a xs ds hs _ ih u r
    obtain rfl : u = Value.ref a := r
    obtain ⟨its, rv, ⟨o, n, ho, hc, _, hd⟩, _⟩ := I.list hs
    obtain ⟨x1, x2⟩ := sh_lst ho hc hd (ih _ rv)
    exact ⟨x1, fun _ _ => x2⟩
  · intro a xs ds hs _ ih u r
    obtain rfl : u = Value.ref a := r
    obtain ⟨its, rv, ⟨o, ho, hc, n, hd⟩, _⟩ := I.tuple hs
    obtain ⟨x1, x2⟩ := sh_tup ho hc hd (by simpa using ih _ rv)
    exact ⟨x1, fun _ _ => x2⟩
  · intro a kvs D hs _ ih u r
    obtain rfl : u = Value.ref a := r
    obtain ⟨_, ne, vs, kv, o, es, ep, ho, hx, hdat, _, hp, _⟩ := hs.ok I.hok
    obtain ⟨k1, k2⟩ := ih _ _ hp kv
    obtain ⟨x1, x2⟩ := sh_dct ho hx.1 hdat ne k1 k2
    exact ⟨x1, fun _ _ => x2⟩
  · intro us r
    cases r
    exact .nil
  · intro v vs d ds _ _ i1 i2 us r
    cases r with
    | cons r1 r2 => exact .cons (i1 _ r1).1 (i2 _ r2)
  · intro es us p r
    cases r
    cases p
    exact ⟨.nil, .nil⟩
  · intro k v r d ds _ _ i1 i2 es us p rr
    cases rr with
    | @cons _ q _ _ r1 r2 =>
      obtain ⟨k', u⟩ := q
      obtain ⟨e, ru⟩ := r1
      obtain rfl : k = k' := e
      cases p with
      | cons hk hv p2 =>
        obtain ⟨j1, j2⟩ := i2 _ _ p2 r2
        refine ⟨.cons (sh_key k _ hk fun i _ z => int_sh z) j1, .cons ?_ j2⟩
        show Sh1 _ _ _ (DictEntry.val _) d
        rw [hv]
        exact (i1 _ ru).1
end
section
variable {X : Cx}
/-- repr(x), x any data -/
def rRqA (K : PySem.W.Frag) : List V → Hp → VK → Prop := fun xs H Q => ∃ (x : V) (d : PyData), xs = [x] ∧ Dq K H x d ∧ d.showable = true ∧ d.depth ≤ 60 ∧ d.shown.length ≤ sizeLine ∧ Q (.str d.shown) H
theorem call_rqA (hgu : X.A.guards = some []) (hu : X.A.units + 64 < cLine) : CallR X (.builtin "repr") (rRqA X.K) := by
  intro pins s σ H xs us Q I r h
  obtain ⟨x, d, rfl, dq, sh, dp, ln, q⟩ := h
  obtain ⟨u, rfl, ru⟩ := vals1 r
  have ref : ∀ a, x = .ref a → wpAny (model X.prog X.w) X.A (call (.builtin "repr") [u]) (EP X pins σ Q) X.xe s := fun a e =>
    (dq.sh I u ru).2 a e sh ln X.A X.xe s _ hgu (by omega) (fun _ _ z => z) fun h' t k keep => ⟨.str _, H, I.kept keep, ⟨_, rfl⟩, q⟩
  cases dq with
  | non =>
    obtain rfl : u = Value.none := ru
    exact P.repr_of_none ⟨.str _, H, I.tok _, ⟨_, rfl⟩, by simpa only [PyData.shown] using q⟩
  | bl b =>
    obtain rfl : u = Value.bool b := ru
    exact P.repr_of_bool ⟨.str _, H, I.tok _, ⟨_, rfl⟩, by simpa only [PyData.shown] using q⟩
  | int i =>
    obtain ⟨t, rfl⟩ := ru
    exact P.repr_of_int (int_sh sh) ⟨.str _, H, I.tok _, ⟨_, rfl⟩, by simpa only [PyData.shown] using q⟩
  | str y =>
    obtain ⟨t, rfl⟩ := ru
    exact P.repr_of_str ⟨.str _, H, I.tok _, ⟨_, rfl⟩, by simpa only [PyData.shown] using q⟩ (by simpa only [PyData.shown] using ln)
  | lst _ _ => exact ref _ rfl
  | tup _ _ => exact ref _ rfl
  | dct _ _ => exact ref _ rfl
end
end Ph

/-! PhErm: a method called where its errors are caught: what leaves may speak of the slots. -/
namespace Ph
open PySem PySem.Spec PyProof.Rows L2
def tMethE (C : Addr) (m : Str) (sp : Sp) (E : L2.St → XK) (ta : TE) (t : TA) : TE := fun σ H Q => ta σ H fun x H1 => ∃ a dx fs, x = .ref a ∧ H1 a = some (.ins C dx fs) ∧ fs.lookup m = none ∧ t σ H1 fun vs H2 => sp (.ref a :: vs) H2 Q (E σ)
section
variable {X : Cx} {CX : CXT} {k : Nat} {f C : Addr} {fd : FuncData} {ps : List Str} {sp : Sp} {E : L2.St → XK} {m : Str} {pos apos : Pos} {e o : Expr} {es : List Expr} {ta : TE} {t : TA}
theorem pe_methE {pl : Sem Bool} (he : PE X o ta) (c : Cls X.K C) (hm : Meth X.K C m f) (F : FnOk X.prog X.w X.K X.mg X.base CX k f fd ps sp) (hr : Room k X.A) (hb : Binds X.K fd ps []) (hx : ∀ σ, PassesAt CX X σ (E σ)) (ha : PA X (e :: es) t)
    (hst : starEach (e :: es) X.env = (false, eval e X.env) :: starEach es X.env := by rfl) (hpl : (backTo pos (starEach es X.env)).any (·.1) = false := by rfl)
    (ht : eval (.Call (.Attribute o m apos) (e :: es) [] pos) X.env = (do
      let ov ← eval o X.env
      standAt apos.atName
      let (f, first) ← holding [ov] (getMethod ov m pl)
      callWith pos f first (backTo pos (starEach (e :: es) X.env)) (backToKw pos (keywordEach [] X.env))) := by rfl) :
    PE X (.Call (.Attribute o m apos) (e :: es) [] pos) (tMethE C m sp E ta t) := by
  constructor
  intro pins s σ H Q I h
  refine PySem.W.methodCall_KW (pl := pl) (thn (he.run pins s σ H _ I h) fun u s1 w => ?_) ht
  obtain ⟨x, H1, I1, rx, a, dx, fs, rfl, ea, l, q⟩ := w
  obtain rfl : u = Value.ref a := rx
  refine getmeth_ok I1 ea c hm l (PySem.W.callWith_K (first := [.ref a]) (h₀ := X.base) I.ok.mod.kin hm.kp (thn (ha.run pos pins s1 σ H1 _ I1 q) fun us s2 w2 => ?_) hst hpl)
  obtain ⟨vs, H2, I2, r, q2⟩ := w2
  exact ⟨I2.kIn, run_fnS (us := .ref a :: us) (vs := .ref a :: vs) F hr hb (hx σ) I2 (.cons rfl r) q2⟩
theorem takesNo : Takes X (fun _ _ _ _ => False) := fun _ _ ⟨_, _, _, _, _, _, _, _, _, _, _, _, _, _, _, _, z⟩ => z.elim
end
end Ph

set_option maxHeartbeats 4000000
/-! PhTry: try .. except X as e: the error kept as a value behind the suite; isinstance and fields of it there. -/
namespace Ph
open PySem PySem.Spec PyProof.Rows L2
/-- a caught error that a name still holds: its class, its dict -/
def ExK (cls : Value) (d : Option Addr) (a : Addr) : HO := .ext fun g => ∃ (ob : Obj) (fs : Array Value), g.get? a = some ob ∧ Zc cls d ob ∧ ob.data = .fields fs
section
variable {X : Cx} {pins : List (Addr × Obj)} {σ : L2.St} {H : Hp} {s : Shared}
theorem exK_at {cls : Value} {d : Option Addr} {a : Addr} (I : Inv X pins σ H s) (e : H a = some (ExK cls d a)) : ∃ ob, s.heap.get? a = some ob ∧ Zc cls d ob ∧ ∃ fs, ob.data = .fields fs := by
  obtain ⟨⟨ob, fs, e1, e2, e3⟩, _⟩ := I.hok a _ e
  exact ⟨ob, e1, e2, fs, e3⟩
/-- an object that came up in this call is tracked from now on -/
theorem track_of {a : Addr} {ob : Obj} {fs : Array Value} {cls : Value} {d : Option Addr} (I : Inv X ((a, ob) :: pins) σ H s) (z : Zc cls d ob) (hf : ob.data = .fields fs) (fresh : X.s_0.heap.get? a = none) (apart : ∀ p ∈ X.pn ++ pins, p.1 ≠ a) :
    Inv X pins σ (upd H a (ExK cls d a)) s := by
  obtain ⟨get, none_, notL, _, _⟩ := I.pin (a, ob) (List.mem_append_right _ List.mem_cons_self)
  have keepH : ∀ {b u}, H b = some u → upd H a (ExK cls d a) b = some u := fun {b u} e => (upd_ne (ne_of_none e none_)).trans e
  have notC : ∀ y c, X.env.cells.lookup y = some c → c ≠ a := fun y c e q => by
    obtain ⟨v, o2, g2, d2⟩ := I.cell y c e
    rw [q, get] at g2
    cases g2
    rw [hf] at d2
    cases d2
  have old : ∀ {b o}, X.s_0.heap.get? b = some o → b ≠ a := fun {b o} e q => by
    rw [q, fresh] at e
    cases e
  exact {
    ok := I.ok
    os := I.os
    bare := I.bare
    base := {
      keep := I.base.keep
      slot := I.base.slot
      free := fun b o e n x => (upd_ne (old e)).trans (I.base.free b o e n x)
      there := I.base.there
      tups := fun b xs e => keepH (I.base.tups b xs e)
      frzs := fun b o u e => keepH (I.base.frzs b o u e)
      tbls := fun b ps e => (I.base.tbls b ps e).elim fun m q => ⟨m, keepH q⟩ }
    loc := I.loc
    cell := I.cell
    free := (upd_ne notL.symm).trans I.free
    freeC := fun y c e => (upd_ne (notC y c e)).trans (I.freeC y c e)
    pin := fun p hp => by
      obtain ⟨q1, q2, q3⟩ := I.pin p ((List.mem_append.mp hp).elim (fun y => List.mem_append_left _ y) fun y => List.mem_append_right _ (List.mem_cons_of_mem _ y))
      exact ⟨q1, (upd_ne (apart p hp)).trans q2, q3⟩
    hok := fun b u e => by
      by_cases h : b = a
      · subst h
        rw [upd_same] at e
        cases e
        exact ⟨⟨ob, fs, get, z, hf⟩, ⟨ob, get⟩, fun g1 g2 ⟨o2, f2, y1, y2⟩ y3 => ⟨o2, f2, y3 _ y1, y2⟩⟩
      · rw [upd_ne h] at e
        exact (I.hok b u e).stay (fun _ _ _ y => y) (fun _ y => keepH y) fun _ _ y => keepH y
    len := I.len }
end
/-- the wish of 'except X as n' (slot i), the error still known behind the suite -/
def wKept (K : PySem.W.Frag) (c : Value) (i : Nat) (ts : Addr → Value → Option Addr → TS) (D : Ends) : WX := fun cls d σ H =>
  PySem.W.exmOne K cls c = some true ∧ ∀ a, H a = none → ts a cls d ⟨fun σ' H' => H' a = none → D.nx (σ'.set i none) (upd H' a (ExK cls d a)), D.rt, fun σ' H' => D.bk (σ'.set i none) H', fun σ' H' => D.ct (σ'.set i none) H'⟩ (σ.set i (some (.ref a))) H
section
variable {X : Cx} {x n : Str} {c : Value} {i : Nat} {body suite : List Stmt} {st₀ : Stmt} {np pos pos' : Pos} {tb : WX → TS} {ts : Addr → Value → Option Addr → TS}
theorem ps_try_keep (stk : X.stack = X.env :: X.outer) (fr : X.env.frame = some X.env.locals) (hex : X.ex = []) (nd : X.N.Nodup) (slot : X.N[i]? = some n) (kd : X.env.kindOf n = some .local) (hc : Names X x c)
    (hbody : ∀ (W : WX) (pn : List (Addr × Obj)) (xe : Value → Shared → Prop), Takes (X.tr pn xe) W → PassesOwn (model X.prog X.w) X.A X.env xe → PSs (X.tr pn xe) body (tb W))
    (hsuite : ∀ (a : Addr) (oe : Obj) (cls : Value) (d : Option Addr) (pn : List (Addr × Obj)), Zc cls d oe → (∃ fs, oe.data = .fields fs) → PSs (X.suite a ((a, oe) :: pn)) (st₀ :: suite) (ts a cls d)) :
    PS X (.Try body [.ExceptHandler (some (.Name x np)) (some n) (st₀ :: suite) pos'] [] [] pos) (fun D σ H => tb (wKept X.K c i ts D) D σ H) := by
  constructor
  intro pins s σ H D I want
  have allFr : X.A.frames = some (X.env :: X.outer) := by rw [← stk]; exact I.ok.frames
  let Xt : Value → Shared → Prop := fun e t1 => wpAny (model X.prog X.w) X.A (noteFrame e X.env) (fun _ t2 => wpAny (model X.prog X.w) X.A (setFlight e none) (fun _ t3 =>
    wpAny (model X.prog X.w) X.A (handleBy e X.env [.ExceptHandler (some (.Name x np)) (some n) (st₀ :: suite) pos']) (SP X pins D) X.xe t3) X.xe t2) X.xe t1
  have catch_ : Takes (X.tr (X.pn ++ pins) Xt) (wKept X.K c i ts D) := by
    rintro u s' ⟨a, B, sI, pins', σ', H', cls, d, rfl, J', inB, up, sky, na, hos, bare, hexm, hyes⟩
    have J : Inv X pins σ' H' sI := J'.ofTry I.ok
    have sky2 : Sky B (X.env :: X.outer) a (Zc cls d) X.env.locals s'.heap := stk ▸ sky
    show wpAny (model X.prog X.w) X.A (noteFrame (.ref a) X.env) _ _ _
    refine Sky.land Zc.steady allFr fr sky2 fun g3 fly3 up3 => ?_
    have J3 : Inv X pins σ' H' { s' with heap := g3 } := J.landed inB fly3.1 (up.trans up3) hos bare
    obtain ⟨o3, f3, at3, z3, d3⟩ := fly3.there
    have offFr : ∀ {g : Heap} {o : Obj} {f : Array Value}, g.FunFrames B (X.env :: X.outer) → g.get? a = some o → o.data = .fields f → a ∉ frs (X.env :: X.outer) := fun ff e dd hm => by
      obtain ⟨_, o2, e2, no2⟩ := ff.mem hm
      rw [e] at e2
      cases e2
      exact no2 _ dd
    have off := offFr fly3.2.2.1 at3 d3
    have offL : a ≠ X.env.locals := fun z => off (List.mem_filterMap.mpr ⟨X.env, List.mem_cons_self, by rw [fr, z]⟩)
    have offO : a ∉ X.fs := fun hm => (List.mem_filterMap.mp hm).elim fun e q => off (List.mem_filterMap.mpr ⟨e, List.mem_cons_of_mem _ q.1, q.2⟩)
    have newI : sI.heap.get? a = none := by
      cases q : sI.heap.get? a with
      | none => rfl
      | some o =>
        have := inB a o q (by rw [stk]; exact off)
        rw [fly3.2.1] at this
        cases this
    have new0 : X.s_0.heap.get? a = none := by
      cases q : X.s_0.heap.get? a with
      | none => rfl
      | some o =>
        obtain ⟨o2, q2⟩ := J.base.there a o q (by rw [hex]; exact fun y => nomatch y)
        rw [newI] at q2
        cases q2
    have apart : ∀ p ∈ X.pn ++ pins, p.1 ≠ a := fun p hp q => by
      have := (J.pin p hp).1
      rw [q, newI] at this
      cases this
    have S3 := J3.suite at3 d3 na offL offO
    refine wpAny_handleBy_cons (codeAny_handlers_test ?_) (fun q => nomatch q)
    have typ : PySem.W.Looks (model X.prog X.w) g3 (typeOf (.ref a)) cls := fun A Q E s k q => wpAny_typeOf_ref (k _ _ at3) (z3.1.symm ▸ q)
    have asks := PySem.W.exm_one (M := model X.prog X.w) J3.kIn typ hexm
    have named : ∀ {Q E : Value → Shared → Prop}, Q c { s' with heap := g3 } → wpAny (model X.prog X.w) (X.A.mark (some (.ref a))) (eval (.Name x np) X.env) Q E { s' with heap := g3 } := fun {Q E} q => by
      rcases hc with ⟨gl, dbg, own | ⟨out, boot, nn⟩⟩
      · exact ld_glob (X := X.suite a ((a, o3) :: (X.pn ++ pins))) S3 gl own q dbg
      · exact ld_blt (X := X.suite a ((a, o3) :: (X.pn ++ pins))) S3 gl out boot q nn dbg
    refine named (asks.here ?_)
    refine codeAny_handlers_suite_as (HandSPX.lands_againZ fly3 fun g4 fly4 up4 => ?_)
    have J4 : Inv X pins σ' H' { s' with heap := g4 } := J.landed inB fly4.1 ((up.trans up3).trans up4) hos bare
    obtain ⟨o4, f4, at4, z4, d4⟩ := fly4.there
    have S4 := J4.suite at4 d4 na offL offO
    refine store_ok (X := X.suite a ((a, o4) :: (X.pn ++ pins))) (v := .ref a) S4 nd slot (.inl kd) rfl (fun s5 S5 => ?_) (.inr kd)
    refine wpAny_mono ((hsuite a o4 cls d (X.pn ++ pins) z4 ⟨_, d4⟩).run [] s5 _ H' _ S5 (hyes a na)) (fun flow s6 out => ?_) (fun _ _ y => y.elim)
    have plain : ∀ {σ6 : L2.St} {H6 : Hp} {Q : Shared → Prop}, Inv (X.suite a ((a, o4) :: (X.pn ++ pins))) [] σ6 H6 s6 → (∀ s7, Inv X pins (σ6.set i none) H6 s7 → Q s7) →
        wpAny (model X.prog X.w) X.A (do bindName X.env n .none; unbindBehindTheSuite X.env n pos') (fun _ s7 => Q s7) X.xe s6 := fun S6 hq => gone_ok (S6.unsuite I.ok) nd slot kd hq
    match flow, out with
    | .next, ⟨σ6, H6, S6, q6⟩ =>
      have P6 : Inv X ((a, o4) :: pins) σ6 H6 s6 := (S6.unsuite I.ok).pins_of fun p hp => S6.pin p (List.mem_append_left _ ((List.mem_cons.mp hp).elim (fun e => e ▸ List.mem_cons_self) fun e => List.mem_cons_of_mem _ (List.mem_append_right _ e)))
      exact gone_ok P6 nd slot kd fun s7 J7 => ⟨_, _, track_of J7 z4 d4 new0 apart, q6 (J7.pin (a, o4) (List.mem_append_right _ List.mem_cons_self)).2.1⟩
    | .brk, ⟨σ6, H6, S6, q6⟩ => exact plain S6 fun s7 J7 => ⟨_, _, J7, q6⟩
    | .cont, ⟨σ6, H6, S6, q6⟩ => exact plain S6 fun s7 J7 => ⟨_, _, J7, q6⟩
    | .ret u, ⟨v6, σ6, H6, S6, r6, q6⟩ => exact plain S6 fun s7 J7 => ⟨_, _, _, J7, r6, q6⟩
  refine wpAny_Try_except (wpAny_mono ((hbody _ _ _ catch_ PassesOwn.looking).run [] s σ H D (I.toTry _) want) (fun f s1 out => ?_) fun e s1 he => he)
  match f, out with
  | .next, ⟨σ', H', J, q⟩ => exact wpAny_execs_nil ⟨_, _, J.ofTry I.ok, q⟩
  | .brk, ⟨σ', H', J, q⟩ => exact ⟨_, _, J.ofTry I.ok, q⟩
  | .cont, ⟨σ', H', J, q⟩ => exact ⟨_, _, J.ofTry I.ok, q⟩
  | .ret u, ⟨v, σ', H', J, r, q⟩ => exact ⟨_, _, _, J.ofTry I.ok, r, q⟩
end
/-! ### isinstance and fields of a kept error -/
section
variable {X : Cx}
theorem inst_at {h : Heap} {a D : Addr} {d : Option Addr} {oe : Obj} {P : Program} {w : World} {H : Hp} (hok : HOk P w H h) (hget : h.get? a = some oe) (hz : Zc (.ref D) d oe) (hf : ∃ vs, oe.data = .fields vs) (k : DictK H d) : ∃ od, PySem.W.InstAt h a oe D od := by
  obtain ⟨vs, hv⟩ := hf
  have no : PySem.W.notCls oe = true := by
    unfold PySem.W.notCls
    rw [hv]
  rcases k with rfl | ⟨dd, fs, rfl, e⟩
  · exact ⟨none, hget, hz.1, no, by rw [hz.2]; trivial⟩
  · obtain ⟨mA, hns, _⟩ : ObjOk P w H h dd (.xd fs) := hok dd _ e
    obtain ⟨od, ho, _⟩ := lookIn_ns hns
    exact ⟨some od, hget, hz.1, no, by rw [hz.2]; exact ho⟩
/-- isinstance(e, c), e a kept error -/
def rIsK (K : PySem.W.Frag) : List V → Hp → VK → Prop := fun xs H Q => ∃ (a D : Addr) (d : Option Addr) (c : V) (cv : Value) (b : Bool), xs = [.ref a, c] ∧ H a = some (ExK (.ref D) d a) ∧ ExcC K D ∧ DictK H d ∧ (∀ u, RelV c u → u = cv) ∧ PySem.W.kitOne K (.ref D) cv = some b ∧ Q (.bl b) H
theorem call_isK : CallR X (.builtin "isinstance") (rIsK X.K) := by
  intro pins s σ H xs us Q I r h
  obtain ⟨a, D, d, c, cv, b, rfl, ea, C, k, hcv, e, q⟩ := h
  obtain ⟨ua, uc, rfl, ra, rc⟩ : ∃ ua uc, us = [ua, uc] ∧ RelV (.ref a) ua ∧ RelV c uc := by
    cases r with
    | cons r1 r2 => cases r2 with
      | cons r3 r4 =>
        cases r4
        exact ⟨_, _, rfl, r1, r3⟩
  obtain rfl : ua = Value.ref a := ra
  obtain rfl := hcv _ rc
  obtain ⟨oe, hget, hz, hf⟩ := exK_at I ea
  obtain ⟨od, J⟩ := inst_at I.hok hget hz hf k
  have cl : (PySem.W.clsIn X.K D).isSome = true := by
    obtain ⟨cd, hc, _⟩ := PySem.W.any_some C.hd
    rw [hc]
    rfl
  exact PySem.W.kia_one (PySem.W.kitx_exc (od := od) cl C.hg C.hk C.hs C.ha C.hn C.ht C.hm) I.kIn J e (fun z => nomatch z) fun tk => ⟨.bl b, H, I.kept (t' := tk) fun _ _ z => z, rfl, q⟩
/-- e.f, e a kept error of the class C -/
def tXk (C : Addr) (f : Str) (te : TE) : TE := fun σ H Q => te σ H fun x H1 => ∃ (a dd : Addr) (fs : List (Str × V)) (v : V), x = .ref a ∧ H1 a = some (ExK (.ref C) (some dd) a) ∧ H1 dd = some (.xd fs) ∧ fs.lookup f = some v ∧ Q v H1
theorem pe_xk {C : Addr} {e : Expr} {te : TE} {pos : Pos} {n : Str} (T : XfC X.K C) (hno : PySem.W.findIn X.K (.ref C) n = some none) (he : PE X e te) (hb : attributeBase e n X.env (eval e X.env) = eval e X.env := by rfl) : PE X (.Attribute e n pos) (tXk C n te) := by
  constructor
  intro pins s σ H Q I h
  refine attr_of hb (thn (he.run pins s σ H _ I h) fun u s1 ⟨x, H1, I1, rx, a, dd, fs, v, ex, ea, ed, l, q⟩ => ?_)
  subst ex
  obtain rfl : u = Value.ref a := rx
  obtain ⟨oe, hget, hz, vs, hd⟩ := exK_at I1 ea
  obtain ⟨mA, hns, hr⟩ : ObjOk X.prog X.w H1 s1.heap dd (.xd fs) := I1.hok dd _ ed
  obtain ⟨od, ho, hl⟩ := lookIn_ns hns
  obtain ⟨u, hu, ru⟩ := RelO.some_of (v := v) (o := mA n) (by rw [← l]; exact hr n)
  have J : PySem.W.InstAt s1.heap a oe C (some od) := ⟨hget, hz.1, by unfold PySem.W.notCls; rw [hd], by rw [hz.2]; exact ho⟩
  exact HandSPX.exc_get I1.kIn J T.ga T.gg T.exC (PySem.W.findObj_own T.hdC hno rfl (by rw [hl, hu])) (handed_of ru) ⟨v, H1, I1.tok _, ru, q⟩
end
end Ph

/-! PhCp: the text that repr gives holds code points only. -/
namespace Ph
open PySem PySem.Spec PyProof.Rows L2
/-- all signs are code points -/
def Cp (x : Str) : Prop := ∀ c ∈ x.cps.toList, c < 0x110000
theorem cp_of {s : String} : Cp (Str.ofString s) := by
  rw [Str.ofString_eq_toList]
  intro c hc
  have hc' : c ∈ s.toList.map Char.toNat := by simpa using hc
  obtain ⟨d, _, rfl⟩ := List.mem_map.mp hc'
  have h := d.valid
  show d.val.toNat < 0x110000
  rcases h with h | h
  · have : d.val.toNat < 55296 := h
    omega
  · exact h.2
theorem Cp.app {x y : Str} (a : Cp x) (b : Cp y) : Cp (x ++ y) := fun c hc => by
  have hc' : c ∈ (x.cps ++ y.cps).toList := hc
  rw [Array.toList_append, List.mem_append] at hc'
  exact hc'.elim (a c) (b c)
theorem cp_join {s : Str} (hs : Cp s) : ∀ {ts : List Str}, (∀ t ∈ ts, Cp t) → Cp (Str.join s ts)
  | [], _ => fun c hc => by
    have : c ∈ (#[] : Array Nat).toList := hc
    simp at this
  | [x], h => h x (List.mem_cons_self ..)
  | x :: y :: r, h => ((h x (List.mem_cons_self ..)).app hs).app (cp_join hs fun t ht => h t (List.mem_cons_of_mem _ ht))
theorem cp_from : ∀ {ts : List Str} {k : Nat} {acc : Str}, Cp acc → (∀ t ∈ ts, Cp t) → Cp (textFrom k acc ts)
  | [], _, _, a, _ => a
  | t :: ts, k, acc, a, h => cp_from (ts := ts) ((a.app cp_of).app (h t (List.mem_cons_self ..))) fun u hu => h u (List.mem_cons_of_mem _ hu)
theorem cp_hex {c n : Nat} : ∀ d ∈ List.replicate n 48 ++ (Nat.toDigits 16 c).map Char.toNat, d < 0x110000 := fun d hd => by
  rcases List.mem_append.mp hd with h | h
  · rw [List.eq_of_mem_replicate h]; decide
  · obtain ⟨e, _, rfl⟩ := List.mem_map.mp h
    show e.val.toNat < 0x110000
    rcases e.valid with h | h
    · have : e.val.toNat < 55296 := h
      omega
    · exact h.2
theorem cp_char {q c : Nat} (hc : c < 0x110000) : ∀ d ∈ Builtin.Str.reprChar q c, d < 0x110000 := fun d hd => by
  unfold Builtin.Str.reprChar at hd
  dsimp only at hd
  repeat' split at hd
  all_goals first
    | (simp only [List.mem_cons, List.not_mem_nil, or_false] at hd; omega)
    | (rcases List.mem_append.mp hd with h | h
       · simp only [List.mem_cons, List.not_mem_nil, or_false] at h; omega
       · exact cp_hex d h)
theorem cp_fold {q : Nat} : ∀ {l : List Nat} {acc : Array Nat}, (∀ c ∈ l, c < 0x110000) → (∀ c ∈ acc.toList, c < 0x110000) → ∀ c ∈ (l.foldl (fun out c => out ++ (Builtin.Str.reprChar q c).toArray) acc).toList, c < 0x110000
  | [], acc, _, h => h
  | c :: r, acc, hl, h => cp_fold (l := r) (fun d hd => hl d (List.mem_cons_of_mem _ hd)) fun d hd => by
    rw [Array.toList_append, List.mem_append] at hd
    exact hd.elim (h d) (cp_char (hl c (List.mem_cons_self ..)) d)
theorem cp_repr {x : Str} (h : Cp x) : Cp (reprText x) := fun c hc => by
  have q : reprQuote x < 0x110000 := by
    unfold reprQuote
    split <;> decide
  unfold reprText at hc
  dsimp only at hc
  rw [← Array.foldl_toList, Array.toList_push, List.mem_append] at hc
  rcases hc with h1 | h1
  · exact cp_fold h (fun d hd => by
      have : d = reprQuote x := by simpa using hd
      rw [this]; exact q) c h1
  · rw [List.mem_singleton.mp h1]; exact q
mutual
/-- all texts within hold code points only -/
def cpD : PyData → Bool
  | .none | .bool _ | .int _ => true
  | .str x => PyData.strOk x
  | .list xs | .tuple xs => cpAll xs
  | .dict kvs => cpKv kvs
def cpAll : List PyData → Bool
  | [] => true
  | x :: xs => cpD x && cpAll xs
def cpKv : List (PyData × PyData) → Bool
  | [] => true
  | (k, v) :: r => cpD k && cpD v && cpKv r
end
mutual
theorem cp_shown : ∀ d : PyData, cpD d = true → Cp d.shown
  | .none, _ => cp_of
  | .bool b, _ => by cases b <;> exact cp_of
  | .int i, _ => cp_of
  | .str x, h => by
    rw [PyData.shown]
    refine cp_repr fun c hc => ?_
    have h' : x.cps.all (· < 0x110000) = true := by simpa only [cpD, PyData.strOk] using h
    rw [Array.all_eq_true_iff_forall_mem] at h'
    simpa using h' c (Array.mem_def.mpr hc)
  | .list xs, h => by
    rw [PyData.shown]
    exact (cp_from cp_of (cp_all xs (by simpa only [cpD] using h))).app cp_of
  | .tuple xs, h => by
    rw [PyData.shown]
    exact (Cp.app cp_of (cp_join cp_of (cp_all xs (by simpa only [cpD] using h)))).app cp_of
  | .dict kvs, h => by
    rw [PyData.shown]
    exact (Cp.app cp_of (cp_join cp_of (cp_kvs kvs (by simpa only [cpD] using h)))).app cp_of
theorem cp_all : ∀ xs : List PyData, cpAll xs = true → ∀ t ∈ PyData.shownAll xs, Cp t
  | [], _, t, ht => by simp [PyData.shownAll] at ht
  | x :: r, h, t, ht => by
    rw [cpAll, Bool.and_eq_true] at h
    rw [PyData.shownAll] at ht
    rcases List.mem_cons.mp ht with rfl | z
    · exact cp_shown x h.1
    · exact cp_all r h.2 t z
theorem cp_kvs : ∀ kvs : List (PyData × PyData), cpKv kvs = true → ∀ t ∈ PyData.shownKv kvs, Cp t
  | [], _, t, ht => by simp [PyData.shownKv] at ht
  | (k, v) :: r, h, t, ht => by
    rw [cpKv, Bool.and_eq_true, Bool.and_eq_true] at h
    rw [PyData.shownKv] at ht
    rcases List.mem_cons.mp ht with rfl | z
    · exact ((cp_shown k h.1.1).app cp_of).app (cp_shown v h.1.2)
    · exact cp_kvs r h.2 t z
end
theorem cp_ok {x : Str} (h : Cp x) : PyData.strOk x = true := by
  unfold PyData.strOk
  rw [Array.all_eq_true_iff_forall_mem]
  intro c hc
  exact decide_eq_true (h c (Array.mem_def.mp hc))
theorem shp_str2 {v w : Str} (hv : PyData.strOk v = true) (hw : PyData.strOk w = true) : SeqAt.shaped (.tuple [.str v, .str w]) = true := by
  simp [SeqAt.shaped, PyData.canLay0, PyData.canLayAll0, hv, hw, PyData.depth, PyData.depthAll]
theorem eqv_str2 {v w : Str} : PyData.eqv (.tuple [.str v, .str w]) (.tuple [.str v, .str w]) = true := by simp [PyData.eqv, PyData.eqvAll]
end Ph

/-! PhOdd: data with dicts: kept where what it reaches is kept; bounds of its text. -/
namespace Ph
open PySem PySem.Spec PyProof.Rows L2
theorem sqL_same {K : PySem.W.Frag} {H H' : Hp} {a : Addr} {xs : List V} (s : Same H H') (h : SqL K H a xs) : SqL K H' a xs := s.seq h
theorem sqT_same {K : PySem.W.Frag} {H H' : Hp} {a : Addr} {xs : List V} (s : Same H H') (h : SqT K H a xs) : SqT K H' a xs := by
  rcases h with (h | ⟨o, h⟩) | h
  · exact .inl (.inl (s _ _ h))
  · exact .inl (.inr ⟨o, s _ _ h⟩)
  · exact .inr h
theorem Dq.same {K : PySem.W.Frag} {H H' : Hp} (s : Same H H') {v : V} {d : PyData} (h : Dq K H v d) : Dq K H' v d := by
  refine @Dq.rec K H (fun v d _ => Dq K H' v d) (fun vs ds _ => DqAll K H' vs ds) (fun kvs D _ => DqKvs K H' kvs D) ?_ ?_ ?_ ?_ ?_ ?_ ?_ ?_ ?_ ?_ ?_ v d h
  · exact .non
  · exact .bl
  · exact .int
  · exact .str
  · exact fun hs _ ih => .lst (sqL_same s hs) ih
  · exact fun hs _ ih => .tup (sqT_same s hs) ih
  · exact fun hs _ ih => .dct (hs.elim (fun e => .inl (s _ _ e)) fun ⟨o, e⟩ => .inr ⟨o, s _ _ e⟩) ih
  · exact .nil
  · exact fun _ _ i1 i2 => .cons i1 i2
  · exact .nil
  · exact fun _ _ i1 i2 => .cons i1 i2
/-- a heap without q: what changes at q alone leaves it as it is -/
theorem del_sub {H : Hp} {q : Addr} : Same (del H q) H := fun b o e => by
  by_cases h : b = q
  · rw [h, del_same] at e
    cases e
  · rw [del_ne h] at e
    exact e
structure Shd (d : PyData) (n k : Nat) : Prop where
  sh : d.showable = true
  dp : d.depth ≤ n
  lv : d.leavesShort 40 = true
  wt : d.weight ≤ k
  cp : cpD d = true
theorem Shd.ln {d : PyData} {n k : Nat} (s : Shd d n k) (hk : k ≤ 390000) : d.shown.length ≤ sizeLine := by
  have h := PyData.shown_le 40 (by decide) d s.lv
  have h2 := s.wt
  have h3 : sizeLine = 16777216 := by decide
  omega
theorem Shd.tup1 {d : PyData} {n k : Nat} (s : Shd d n k) : Shd (.tuple [d]) (n + 1) (k + 100) := by
  obtain ⟨h1, h2, h3, h4, h5⟩ := s
  refine ⟨by simp [PyData.showable, PyData.showableAll, h1], by simp [PyData.depth, PyData.depthAll]; omega, by simp [PyData.leavesShort, PyData.leavesShortAll, h3], by simp [PyData.weight, PyData.weightAll]; omega, by simp [cpD, cpAll, h5]⟩
theorem Shd.lst1 {d : PyData} {n k : Nat} (s : Shd d n k) : Shd (.list [d]) (n + 1) (k + 100) := by
  obtain ⟨h1, h2, h3, h4, h5⟩ := s
  refine ⟨by simp [PyData.showable, PyData.showableAll, h1], by simp [PyData.depth, PyData.depthAll]; omega, by simp [PyData.leavesShort, PyData.leavesShortAll, h3], by simp [PyData.weight, PyData.weightAll]; omega, by simp [cpD, cpAll, h5]⟩
theorem Shd.dct1 {d : PyData} {n k : Nat} (s : Shd d n k) : Shd (.dict [(.str "a", d)]) (n + 1) (k + 200) := by
  obtain ⟨h1, h2, h3, h4, h5⟩ := s
  have a1 : (PyData.str "a").showable = true := by decide +kernel
  have a2 : (PyData.str "a").depth = 0 := by decide +kernel
  have a3 : (PyData.str "a").leavesShort 40 = true := by decide +kernel
  have a4 : (PyData.str "a").weight ≤ 100 := by decide +kernel
  refine ⟨by simp [PyData.showable, PyData.showableKv, h1], by simp [PyData.depth, PyData.depthKv]; omega, by rw [PyData.leavesShort, PyData.leavesShortKv, PyData.leavesShortKv, a3, h3]; rfl, ?_, by rw [cpD, cpKv, cpKv, h5]; decide +kernel⟩
  simp [PyData.weight, PyData.weightKv]
  simp [PyData.weight] at a4
  omega
theorem but_del {H H' : Hp} {q : Addr} (b : But q H H') : Same (del H q) (del H' q) := fun c o e => by
  by_cases h : c = q
  · rw [h, del_same] at e
    cases e
  · rw [del_ne h] at e ⊢
    exact b _ _ h e
end Ph

/-! PhOd: odd values: nested data, kept whatever becomes of the addresses S (draws, tables). -/
namespace Ph
open PySem PySem.Spec PyProof.Rows L2
/-- a value that is no integer -/
inductive NoInt (K : PySem.W.Frag) (H : Hp) : V → Prop
  | bl (b : Bool) : NoInt K H (.bl b)
  | ty {x : V} {t : String} (h : TyX K H x (.type t)) (n : kitB t "int" = some false) : NoInt K H x
theorem tyX_same {K : PySem.W.Frag} {H H' : Hp} {x : V} {t : String} (s : Same H H') (h : TyX K H x (.type t)) : TyX K H' x (.type t) := by
  generalize ev : Value.type t = v at h
  cases h with
  | base b =>
    refine .base ?_
    cases b with
    | non => exact .non
    | bl x => exact .bl x
    | int i => exact .int i
    | str x => exact .str x
    | flt x => exact .flt x
    | lst e => exact .lst (s _ _ e)
    | frz e => exact .frz (s _ _ e)
    | tup e => exact .tup (s _ _ e)
    | dK e => exact .dK (s _ _ e)
    | dT e => exact .dT (s _ _ e)
    | ins e c a b d f => exact .ins (s _ _ e) c a b d f
  | byt b => exact .byt b
  | set e => exact .set (s _ _ e)
  | kList e c => exact .kList e c
  | kTuple e c => exact .kTuple e c
  | kDict e c => exact .kDict e c
  | fTuple e => exact .fTuple (s _ _ e)
  | fDict e => exact .fDict (s _ _ e)
theorem NoInt.same {K : PySem.W.Frag} {H H' : Hp} {x : V} (s : Same H H') (h : NoInt K H x) : NoInt K H' x := by
  cases h with
  | bl b => exact .bl b
  | ty h n => exact .ty (tyX_same s h) n
theorem NoInt.ne {K : PySem.W.Frag} {H : Hp} {i : Int} : ¬ NoInt K H (.int i) := fun h => by
  cases h with
  | ty h n =>
    generalize ev : Value.type _ = v at h
    cases h with
    | base b =>
      cases b
      cases ev
      exact absurd n (by decide +kernel)
/-- the heap without the addresses S -/
def hid (S : List Addr) (H : Hp) : Hp := fun b => if b ∈ S then none else H b
theorem hid_at {S : List Addr} {H : Hp} {b : Addr} (n : b ∉ S) : hid S H b = H b := if_neg n
theorem hid_sub {S : List Addr} {H : Hp} : Same (hid S H) H := fun b o e => by
  by_cases h : b ∈ S
  · rw [hid, if_pos h] at e
    cases e
  · rwa [hid_at h] at e
/-- all but S is kept -/
def ButS (S : List Addr) (H H' : Hp) : Prop := ∀ b o, b ∉ S → H b = some o → H' b = some o
theorem ButS.trans {S : List Addr} {H H1 H2 : Hp} (a : ButS S H H1) (b : ButS S H1 H2) : ButS S H H2 := fun c o n e => b c o n (a c o n e)
theorem ButS.refl (S : List Addr) (H : Hp) : ButS S H H := fun _ _ _ e => e
theorem ButS.of {S : List Addr} {H H' : Hp} (s : Same H H') : ButS S H H' := fun b o _ e => s b o e
theorem ButS.but {q : Addr} {H H' : Hp} (b : But q H H') : ButS [q] H H' := fun c o n e => b c o (fun z => n (by rw [z]; exact List.mem_singleton.mpr rfl)) e
theorem ButS.up {S T : List Addr} {H H' : Hp} (b : ButS S H H') (i : ∀ a ∈ S, a ∈ T) : ButS T H H' := fun c o n e => b c o (fun z => n (i c z)) e
theorem hid_but {S : List Addr} {H H' : Hp} (k : ButS S H H') : Same (hid S H) (hid S H') := fun b o e => by
  by_cases h : b ∈ S
  · rw [hid, if_pos h] at e
    cases e
  · rw [hid_at h] at e ⊢
    exact k b o h e
structure OdV (K : PySem.W.Frag) (S : List Addr) (H : Hp) (n : Nat) (x : V) (d : PyData) : Prop where
  dq : Dq K (hid S H) x d
  sd : Shd d (n + 2) (2000 + 200 * n)
  ty : NoInt K (hid S H) x ∨ ∃ i : Int, x = .int i
theorem Shd.up {d : PyData} {n m k l : Nat} (s : Shd d n k) (h1 : n ≤ m) (h2 : k ≤ l) : Shd d m l := ⟨s.sh, Nat.le_trans s.dp h1, s.lv, Nat.le_trans s.wt h2, s.cp⟩
theorem shd_intB {i : Int} (h : i.natAbs < 10 ^ 35) : Shd (.int i) 0 120 := by
  have hl : i.natAbs.log2 < 120 := by
    by_cases z : i.natAbs = 0
    · rw [z]; decide
    · exact (Nat.log2_lt z).mpr (Nat.lt_of_lt_of_le h (by decide))
  refine ⟨?_, by simp only [PyData.depth]; omega, ?_, ?_, by rw [cpD]⟩
  · simp only [PyData.showable, decide_eq_true_eq]
    omega
  · have e := int_text_length_le10 (a := i) (k := 35) (by decide) h
    have e2 : (PyData.shown (.int i)).length ≤ 40 := by
      show (Str.ofString (toString i)).length ≤ 40
      rw [PySem.ofString_length]
      omega
    simp only [PyData.leavesShort]
    exact decide_eq_true e2
  · simp only [PyData.weight]
    split <;> omega
theorem shd_int {i : Int} (h : i.natAbs < 10 ^ 20) : Shd (.int i) 0 120 := shd_intB (Nat.lt_trans h (by decide))
section
variable {K : PySem.W.Frag} {S : List Addr} {H H' : Hp} {n : Nat} {x : V} {d : PyData}
theorem OdV.keep (v : OdV K S H n x d) (k : ButS S H H') : OdV K S H' n x d := ⟨v.dq.same (hid_but k), v.sd, v.ty.elim (fun z => .inl (z.same (hid_but k))) .inr⟩
theorem OdV.same (v : OdV K S H n x d) (s : Same H H') : OdV K S H' n x d := v.keep (.of s)
theorem OdV.up {m : Nat} (v : OdV K S H n x d) (h : n ≤ m) : OdV K S H m x d := ⟨v.dq, v.sd.up (by omega) (by omega), v.ty⟩
theorem OdV.now (v : OdV K S H n x d) : Dq K H x d := v.dq.same hid_sub
theorem OdV.tyn (v : OdV K S H n x d) : NoInt K H x ∨ ∃ i : Int, x = .int i := v.ty.elim (fun z => .inl (z.same hid_sub)) .inr
theorem OdV.int {i : Int} (h : i.natAbs < 10 ^ 20) : OdV K S H 0 (.int i) (.int i) := ⟨.int i, (shd_int h).up (by omega) (by omega), .inr ⟨i, rfl⟩⟩
theorem OdV.intB {i : Int} (h : i.natAbs < 10 ^ 35) : OdV K S H 0 (.int i) (.int i) := ⟨.int i, (shd_intB h).up (by omega) (by omega), .inr ⟨i, rfl⟩⟩
theorem OdV.bl (b : Bool) : OdV K S H 0 (.bl b) (.bool b) := ⟨.bl b, by cases b <;> exact ⟨by decide +kernel, by decide +kernel, by decide +kernel, by decide +kernel, by decide +kernel⟩, .inl (.bl b)⟩
theorem OdV.non : OdV K S H 0 .non .none := ⟨.non, ⟨by decide +kernel, by decide +kernel, by decide +kernel, by decide +kernel, by decide +kernel⟩, .inl (.ty (.base .non) (by decide +kernel))⟩
theorem OdV.str (y : Str) (s : Shd (.str y) 2 2000) : OdV K S H 0 (.str y) (.str y) := ⟨.str y, s, .inl (.ty (.base (.str y)) (by decide +kernel))⟩
theorem OdV.tup {t : Addr} {xs : List V} {ds : List PyData} (e : H t = some (.tup xs)) (nt : t ∉ S) (a : DqAll K (hid S H) xs ds) (s : Shd (.tuple ds) (n + 2) (2000 + 200 * n)) : OdV K S H n (.ref t) (.tuple ds) :=
  have e' : hid S H t = some (.tup xs) := (hid_at nt).trans e
  ⟨.tup (.inl (.inl e')) a, s, .inl (.ty (.base (.tup e')) (by decide +kernel))⟩
theorem OdV.lst {t : Addr} {xs : List V} {ds : List PyData} (e : H t = some (.lst xs)) (nt : t ∉ S) (a : DqAll K (hid S H) xs ds) (s : Shd (.list ds) (n + 2) (2000 + 200 * n)) : OdV K S H n (.ref t) (.list ds) :=
  have e' : hid S H t = some (.lst xs) := (hid_at nt).trans e
  ⟨.lst (.inl (.inl e')) a, s, .inl (.ty (.base (.lst e')) (by decide +kernel))⟩
theorem OdV.dct {t : Addr} {kvs : List (Key × V)} {ds : List (PyData × PyData)} (e : H t = some (.dK kvs)) (nt : t ∉ S) (a : DqKvs K (hid S H) kvs ds) (s : Shd (.dict ds) (n + 2) (2000 + 200 * n)) : OdV K S H n (.ref t) (.dict ds) :=
  have e' : hid S H t = some (.dK kvs) := (hid_at nt).trans e
  ⟨.dct (.inl e') a, s, .inl (.ty (.base (.dK e')) (by decide +kernel))⟩
theorem OdV.tup1 {t : Addr} (v : OdV K S H n x d) (e : H t = some (.tup [x])) (nt : t ∉ S) : OdV K S H (n + 1) (.ref t) (.tuple [d]) := .tup e nt (.cons v.dq .nil) (v.sd.tup1.up (by omega) (by omega))
theorem OdV.lst1 {t : Addr} (v : OdV K S H n x d) (e : H t = some (.lst [x])) (nt : t ∉ S) : OdV K S H (n + 1) (.ref t) (.list [d]) := .lst e nt (.cons v.dq .nil) (v.sd.lst1.up (by omega) (by omega))
theorem OdV.dct1 {t : Addr} (v : OdV K S H n x d) (e : H t = some (.dK [(Sum.inr "a", x)])) (nt : t ∉ S) : OdV K S H (n + 1) (.ref t) (.dict [(.str "a", d)]) := .dct e nt (.cons (k := Sum.inr "a") v.dq .nil) (v.sd.dct1.up (by omega) (by omega))
theorem Shd.tup2 {m k : Nat} (s : Shd d m k) : Shd (.tuple [d, .int 1]) (m + 1) (k + 200) := by
  obtain ⟨h1, h2, h3, h4, h5⟩ := s
  have a1 : (PyData.int 1).showable = true := by decide +kernel
  have a2 : (PyData.int 1).depth = 0 := by decide +kernel
  have a3 : (PyData.int 1).leavesShort 40 = true := by decide +kernel
  have a4 : (PyData.int 1).weight ≤ 100 := by decide +kernel
  refine ⟨by rw [PyData.showable, PyData.showableAll, PyData.showableAll, PyData.showableAll, h1, a1]; rfl, by simp [PyData.depth, PyData.depthAll]; omega, by rw [PyData.leavesShort, PyData.leavesShortAll, PyData.leavesShortAll, PyData.leavesShortAll, a3, h3]; rfl, by simp [PyData.weight, PyData.weightAll]; simp [PyData.weight] at a4; omega, by simp [cpD, cpAll, h5]⟩
theorem OdV.tup2 {t : Addr} (v : OdV K S H n x d) (e : H t = some (.tup [x, .int 1])) (nt : t ∉ S) : OdV K S H (n + 1) (.ref t) (.tuple [d, .int 1]) := .tup e nt (.cons v.dq (.cons (.int 1) .nil)) (v.sd.tup2.up (by omega) (by omega))
end
theorem same_upd2 {H : Hp} {a : Addr} {o o' : HO} (n : H a = none) : Same H (upd (upd H a o) a o') := fun b u e => by
  rw [upd_upd, upd_ne (ne_of_none e n)]
  exact e
/-- the list of what is drawn from -/
def OdL (K : PySem.W.Frag) (S : List Addr) (H : Hp) (xs : List V) : Prop := ∀ x ∈ xs, ∃ d, OdV K S H 0 x d
theorem OdL.keep {K : PySem.W.Frag} {S : List Addr} {H H' : Hp} {xs : List V} (h : OdL K S H xs) (k : ButS S H H') : OdL K S H' xs := fun x hx => (h x hx).elim fun d o => ⟨d, o.keep k⟩
theorem OdL.app {K : PySem.W.Frag} {S : List Addr} {H : Hp} {xs ys : List V} (h : OdL K S H xs) (h' : OdL K S H ys) : OdL K S H (xs ++ ys) := fun x hx => (List.mem_append.mp hx).elim (h x) (h' x)
theorem OdL.nil {K : PySem.W.Frag} {S : List Addr} {H : Hp} : OdL K S H [] := fun x hx => nomatch hx
theorem OdL.cons {K : PySem.W.Frag} {S : List Addr} {H : Hp} {x : V} {xs : List V} {d : PyData} (o : OdV K S H 0 x d) (h : OdL K S H xs) : OdL K S H (x :: xs) := fun y hy => (List.mem_cons.mp hy).elim (fun e => ⟨d, e ▸ o⟩) (h y)
theorem OdL.ints {K : PySem.W.Frag} {S : List Addr} {H : Hp} : ∀ {ns : List Int}, (∀ n ∈ ns, n.natAbs < 10 ^ 20) → OdL K S H (ns.map V.int)
  | [], _ => .nil
  | n :: r, h => .cons (.int (h n (List.mem_cons_self ..))) (OdL.ints fun m hm => h m (List.mem_cons_of_mem _ hm))
end Ph

set_option maxHeartbeats 2000000
namespace Ph
open PySem PySem.Spec PyProof.Rows L2 LamX NdefX
set_option autoImplicit false
/-! ### max(xs, key=f), f a def made within the def -/
section
variable {X : Cx} {pins : List (Addr × Obj)} {σ : L2.St} {H : Hp} {s : Shared} {F : NF} {f l : Addr} {ps fr : List Str} {js : List Nat} {k : Nat} {sp : List (Option V) → Sp}
/-- what stands beside the loop: the iterator, its scratch list -/
structure Bes (X : Cx) (pins : List (Addr × Obj)) (H : Hp) (I S : Addr) : Prop where
  i : FpOk X pins H I
  s : FpOk X pins H S
/-- calls of the function f in the heap H -/
def RunsF (X : Cx) (k : Nat) (H : Hp) (f : Addr) (F : NF) (fr : List Str) (sp : List (Option V) → Sp) : Prop := ∀ (A : Around) (outer : List Env) (s : Shared) (us : List Value) (vs : List V) (ws : List (Option V)) (Q : VK), Room k A → Env0 X.prog X.w X.K X.mg X.base A outer s H → CellsAt F.cl fr ws s.heap H → Vals vs us → sp ws vs H Q E0 → codeAny (model X.prog X.w) A (.call (.ref f) ⟨us, []⟩) (CR CX0 outer X.prog X.w H s Q E0) s
theorem runsK (hf : H f = some (FnO f F)) (Fn : NOkK X.prog X.w X.K X.mg X.base CX0 k f F ps fr sp) : RunsF X k H f F fr sp := fun A outer s us vs ws Q hr e0 C r q => Fn.run A outer s H us vs ws Q E0 hr e0 hf C r q
theorem runsN (hf : H f = some (FnO f F)) (hcd : H F.c = some (CodeO F.c F.qual)) (Fn : NOk X.prog X.w X.K X.mg X.base CX0 k f F ps fr sp) : RunsF X k H f F fr sp := fun A outer s us vs ws Q hr e0 C r q => Fn.run A outer s H us vs ws Q E0 hr e0 hf hcd C r q
theorem key_run {ns : List Int} {its : List Value} {kf : Int → Int} {I S : Addr} {op : CmpOp} {bt : Nat → Nat → Bool} (hr : Room (k + 1) X.A) (Fn : RunsF X k H f F fr sp) (cp : X.Ok → Caps X F.cl fr js) (B : Bes X pins H I S) (hf : H f = some (FnO f F)) (rv : Vals (ns.map V.int) its)
    (hls : ∀ s', Inv X pins σ H s' → s'.heap.IsList l its.toArray)
    (hk : ∀ n ∈ ns, ∀ Q : VK, Q (.int (kf n)) H → sp (js.map (slotAt σ)) [.int n] H Q E0)
    (hcmp : CmpOf X.prog X.w X.A.in1 op (fun i v => ∃ t, v = .int (kf (ns.getD i 0)) t) bt) :
    KeyRun X.prog X.w X.A.in1 (.ref f) op S [I] (fun a b => b = a) its.toArray.size (fun i v => its.toArray[i]? = some v) (fun i s' => s'.heap.IsListIter I l i ∧ s'.heap.IsList l its.toArray) (fun s' => Inv X pins σ H s') (fun i v _ => ∃ t, v = .int (kf (ns.getD i 0)) t) bt where
  keep := fun s1 s2 I1 m => by
    obtain ⟨h2, g2, d2, t2, o2⟩ := s2
    have e1 : g2 = s1.gens := m.gens
    have e2 : d2 = s1.drawn := m.drawn
    have e3 : o2 = s1.os := m.os
    subst e1 e2 e3
    exact I1.turnedL (ch := S :: [I]) (fun b o hb e => m.heap b o hb e) fun b hb => by
      rcases List.mem_cons.mp hb with z | z
      · rw [z]; exact B.s
      · rw [List.mem_singleton.mp z]; exact B.i
  keepV := fun _ _ _ _ h _ => h
  turn := fun i v s1 o Q E hi hP I1 hst hS hQ => by
    obtain ⟨⟨oI, hoI, hoc, hod⟩, hli⟩ := hst
    have hi' : i < its.length := by simpa using hi
    have hv : its[i]? = some v := by simpa using hP
    have ln := rv.length
    rw [List.length_map] at ln
    have hn : ns.getD i 0 ∈ ns := by
      rw [List.getD_eq_getElem?_getD, List.getElem?_eq_getElem (by omega)]
      exact List.getElem_mem _
    obtain ⟨t, rfl⟩ : ∃ t, v = .int (ns.getD i 0) t := by
      obtain ⟨u, hu, ru⟩ := Vals.get rv (i := i) (x := V.int (ns.getD i 0)) (by rw [List.getElem?_map, List.getD_eq_getElem?_getD, List.getElem?_eq_getElem (by omega)]; rfl)
      rw [hv] at hu
      cases hu
      exact ru
    refine wpAny_call (codeAny_mono (Fn X.A.in1 X.stack s1 [.int (ns.getD i 0) t] [.int (ns.getD i 0)] _ (fun x H' => x = .int (kf (ns.getD i 0)) ∧ H' = H) hr.in1 I1.env0.in1 (cells_of I1 (cp I1.ok)) (.cons ⟨t, rfl⟩ .nil) (hk _ hn _ ⟨rfl, rfl⟩)) fun r s2 out => ?_)
    match r, out with
    | .error _, out => exact False.elim out
    | .ok (.ret u), out =>
      obtain ⟨x, H', os, bare, un, hok, rx, ex, eH⟩ := id out
      subst ex eH
      obtain ⟨t2, rfl⟩ := rx
      have ns1 : ∀ b, FpOk X pins H' b → b ∉ frs X.stack := fun b fp z => (List.mem_cons.mp (I1.stkSub b z)).elim fp.2.1 fp.2.2.1
      have kS := un.keep S o hS B.s.1 (ns1 S B.s) (by simp)
      have kI := un.keep I oI hoI B.i.1 (ns1 I B.i) (by simp)
      obtain ⟨x, H2, I2, rx, ex, eH⟩ := I1.after out
      subst eH
      exact hQ _ s2 I2 ⟨⟨oI, kI, hoc, hod⟩, hls _ I2⟩ kS ⟨t2, rfl⟩ fun _ _ h => h
  cmp := fun i j ki kj s1 Q E _ hi hj q => hcmp i j ki kj s1 Q E hi hj q
theorem best_gt (num : Nat → Int) : ∀ k, argBest (fun i j => decide (num i > num j)) k ≤ k ∧ ∀ j, j ≤ k → num j ≤ num (argBest (fun i j => decide (num i > num j)) k) ∧ (j < argBest (fun i j => decide (num i > num j)) k → num j < num (argBest (fun i j => decide (num i > num j)) k))
  | 0 => ⟨Nat.le_refl _, fun j hj => by
      have : j = 0 := by omega
      subst this
      exact ⟨Int.le_refl _, fun h => absurd h (Nat.not_lt_zero _)⟩⟩
  | k + 1 => by
    obtain ⟨h1, h2⟩ := best_gt num k
    simp only [argBest]
    by_cases hc : num (k + 1) > num (argBest (fun i j => decide (num i > num j)) k)
    · rw [if_pos (by simpa using hc)]
      refine ⟨Nat.le_refl _, fun j hj => ?_⟩
      by_cases e : j = k + 1
      · subst e
        exact ⟨Int.le_refl _, fun h => absurd h (Nat.lt_irrefl _)⟩
      · have := (h2 j (by omega)).1
        exact ⟨by omega, fun _ => by omega⟩
    · rw [if_neg (by simpa using hc)]
      refine ⟨by omega, fun j hj => ?_⟩
      by_cases e : j = k + 1
      · subst e
        exact ⟨by omega, fun h => by omega⟩
      · exact h2 j (by omega)
theorem run_maxKey {ol : Obj} {ns : List Int} {kf : Int → Int} {Q : VK} (hc : X.calm = true) (hr : Room (k + 1) X.A) (Fn : RunsF X k H f F fr sp) (cp : X.Ok → Caps X F.cl fr js) (I : Inv X pins σ H s) (hf : H f = some (FnO f F)) (hl : H l = some (.frz ol (.lst (ns.map V.int)))) (hne : ns ≠ [])
    (hk : ∀ n ∈ ns, ∀ Q : VK, Q (.int (kf n)) H → sp (js.map (slotAt σ)) [.int n] H Q E0)
    (q : ∀ (i : Nat) (m : Int), ns[i]? = some m → (∀ (j : Nat) (n : Int), ns[j]? = some n → kf n ≤ kf m ∧ (j < i → kf n < kf m)) → Q (.int m) H) :
    wpAny (model X.prog X.w) X.A (call (.builtin "max") [.ref l] [(Str.ofString "key", .ref f)]) (EP X pins σ Q) X.xe s := by
  have hname : (toString "max" ++ toString ".loop" : String) = "max.loop" := by decide
  have hq : SqL X.K H l (ns.map V.int) := .inl (.inr ⟨ol, hl⟩)
  obtain ⟨its, rv, pl, hz⟩ := I.list hq
  have hls := pl.isList
  have hlsA : ∀ s', Inv X pins σ H s' → s'.heap.IsList l its.toArray := fun s' I' => by
    obtain ⟨o, ho, hrest⟩ := id hls
    have e1 := (I.hok l _ hl).1
    have e2 := (I'.hok l _ hl).1
    rw [ho] at e1
    cases e1
    exact ⟨_, e2, hrest⟩
  have ln := rv.length
  rw [List.length_map] at ln
  have hn0 : 0 < ns.length := List.length_pos_iff.mpr hne
  obtain ⟨ol, hol, _⟩ := id hls
  have hll : l < s.heap.objs.size := Heap.lt_size hol
  refine kmk_tree PySem.F.kind_max PySem.F.plain_max PySem.F.entry_max (kmk_max_key _ _) ?_
  show wpAny _ X.A.in1 (Builtin.Builtins.bindParams "max" ["key", "default"] 0 ⟨[], [(Str.ofString "key", .ref f)]⟩ >>= _) _ _ s
  refine wpAny_bind (wpAny_of_eq (show Builtin.Builtins.bindParams "max" ["key", "default"] 0 ⟨[], [(Str.ofString "key", .ref f)]⟩ = pure [some (.ref f), none] from rfl) ?_)
  refine wpAny_bind (wpAny_pure ?_)
  refine wpAny_bind (wpAny_pyIter_list hls ?_)
  refine wpAny_bind (wpAny_newList ?_ (Nat.zero_le _))
  rw [hname]
  have hS : (s.heap.push { cls := .type "list_iterator", data := .fields #[.ref l, .int 0 0] }).objs.size = s.heap.objs.size + 1 := size_push' ..
  have hlI : l ≠ s.heap.objs.size := Nat.ne_of_lt hll
  refine wpAny_pure ⟨plainId_quiet PySem.F.plain_max_loop _, ?_⟩
  have gI : ((s.heap.push { cls := .type "list_iterator", data := .fields #[.ref l, .int 0 0] }).push (seqObj "list" #[] 0)).get? s.heap.objs.size = some { cls := .type "list_iterator", data := .fields #[.ref l, .int 0 0] } :=
    Heap.get?_push_of_some _ (Heap.get?_push_size _ rfl)
  have gS : ((s.heap.push { cls := .type "list_iterator", data := .fields #[.ref l, .int 0 0] }).push (seqObj "list" #[] 0)).get? (s.heap.push { cls := .type "list_iterator", data := .fields #[.ref l, .int 0 0] }).objs.size = some (seqObj "list" #[] 0) := Heap.get?_push_size _ rfl
  have W := (Walks.list (prog := X.prog) (w := X.w) (A := X.A.in1) (I.ok.hd hc) s.heap.objs.size l hlI its.toArray).toS
  have fI : H s.heap.objs.size = none := I.hok.fresh (Nat.le_refl _)
  have fS : H (s.heap.push { cls := .type "list_iterator", data := .fields #[.ref l, .int 0 0] }).objs.size = none := I.hok.fresh (by rw [hS]; omega)
  have B : Bes X pins H s.heap.objs.size (s.heap.push { cls := .type "list_iterator", data := .fields #[.ref l, .int 0 0] }).objs.size := ⟨I.fpOk (Nat.le_refl _) fI, I.fpOk (by rw [hS]; omega) fS⟩
  have KR := key_run (op := .Gt) (l := l) hr Fn cp B hf rv hlsA hk (CmpOf.ints_gt (P := fun i v => ∃ t, v = .int (kf (ns.getD i 0)) t) (fun i => kf (ns.getD i 0)) fun i v h => h)
  have I1 : Inv X pins σ H { s with heap := (s.heap.push { cls := .type "list_iterator", data := .fields #[.ref l, .int 0 0] }).push (seqObj "list" #[] 0), toks := s.toks } := I.kept (t' := s.toks) fun b o e => Heap.get?_push_of_some _ (Heap.get?_push_of_some _ e)
  refine codeAny_max_loop_firstK W _ ?_ KR [] ?_ (I.kept (t' := s.toks) fun b o e => Heap.get?_push_of_some _ (Heap.get?_push_of_some _ e)) ?_ gS fun v s' hv I' => ?_
  · intro hm
    rcases List.mem_cons.mp hm with z | z
    · rw [hS] at z
      exact absurd z (Nat.ne_of_gt (Nat.lt_succ_self _))
    · have z := List.mem_singleton.mp z
      rw [hS] at z
      exact absurd z (Nat.ne_of_gt (Nat.lt_succ_of_lt hll))
  · rw [List.size_toArray]
    omega
  · exact ⟨⟨_, gI, rfl, rfl⟩, hlsA _ I1⟩
  · obtain ⟨b1, b2⟩ := best_gt (fun i => kf (ns.getD i 0)) (its.toArray.size - 1)
    rw [List.size_toArray] at b1 b2 hv
    generalize argBest (fun i j => decide (kf (ns.getD i 0) > kf (ns.getD j 0))) (its.length - 1) = bi at *
    have hbi : bi < ns.length := by omega
    have gt : ∀ (j : Nat) (n : Int), ns[j]? = some n → ns.getD j 0 = n := fun j n e => by rw [List.getD_eq_getElem?_getD, e]; rfl
    obtain ⟨u, hu, ru⟩ := Vals.get rv (i := bi) (x := V.int ns[bi]) (by rw [List.getElem?_map, List.getElem?_eq_getElem hbi]; rfl)
    have hv' : its[bi]? = some v := by simpa using hv
    rw [hv'] at hu
    cases hu
    refine ⟨.int ns[bi], H, I', ru, q bi _ (List.getElem?_eq_getElem hbi) fun j n e => ?_⟩
    have hj := (List.getElem?_eq_some_iff.mp e).1
    have := b2 j (by omega)
    rw [gt j n e, gt bi _ (List.getElem?_eq_getElem hbi)] at this
    exact this
theorem best_lt (num : Nat → Int) : ∀ k, argBest (fun i j => decide (num i < num j)) k ≤ k ∧ ∀ j, j ≤ k → num (argBest (fun i j => decide (num i < num j)) k) ≤ num j ∧ (j < argBest (fun i j => decide (num i < num j)) k → num (argBest (fun i j => decide (num i < num j)) k) < num j)
  | 0 => ⟨Nat.le_refl _, fun j hj => by
      have : j = 0 := by omega
      subst this
      exact ⟨Int.le_refl _, fun h => absurd h (Nat.not_lt_zero _)⟩⟩
  | k + 1 => by
    obtain ⟨h1, h2⟩ := best_lt num k
    simp only [argBest]
    by_cases hc : num (k + 1) < num (argBest (fun i j => decide (num i < num j)) k)
    · rw [if_pos (by simpa using hc)]
      refine ⟨Nat.le_refl _, fun j hj => ?_⟩
      by_cases e : j = k + 1
      · subst e
        exact ⟨Int.le_refl _, fun h => absurd h (Nat.lt_irrefl _)⟩
      · have := (h2 j (by omega)).1
        exact ⟨by omega, fun _ => by omega⟩
    · rw [if_neg (by simpa using hc)]
      refine ⟨by omega, fun j hj => ?_⟩
      by_cases e : j = k + 1
      · subst e
        exact ⟨by omega, fun h => by omega⟩
      · exact h2 j (by omega)
theorem run_minKey {ol : Obj} {ns : List Int} {kf : Int → Int} {Q : VK} (hc : X.calm = true) (hr : Room (k + 1) X.A) (Fn : RunsF X k H f F fr sp) (cp : X.Ok → Caps X F.cl fr js) (I : Inv X pins σ H s) (hf : H f = some (FnO f F)) (hl : H l = some (.frz ol (.lst (ns.map V.int)))) (hne : ns ≠ [])
    (hk : ∀ n ∈ ns, ∀ Q : VK, Q (.int (kf n)) H → sp (js.map (slotAt σ)) [.int n] H Q E0)
    (q : ∀ (i : Nat) (m : Int), ns[i]? = some m → (∀ (j : Nat) (n : Int), ns[j]? = some n → kf m ≤ kf n ∧ (j < i → kf m < kf n)) → Q (.int m) H) :
    wpAny (model X.prog X.w) X.A (call (.builtin "min") [.ref l] [(Str.ofString "key", .ref f)]) (EP X pins σ Q) X.xe s := by
  have hname : (toString "min" ++ toString ".loop" : String) = "min.loop" := by decide
  have hq : SqL X.K H l (ns.map V.int) := .inl (.inr ⟨ol, hl⟩)
  obtain ⟨its, rv, pl, hz⟩ := I.list hq
  have hls := pl.isList
  have hlsA : ∀ s', Inv X pins σ H s' → s'.heap.IsList l its.toArray := fun s' I' => by
    obtain ⟨o, ho, hrest⟩ := id hls
    have e1 := (I.hok l _ hl).1
    have e2 := (I'.hok l _ hl).1
    rw [ho] at e1
    cases e1
    exact ⟨_, e2, hrest⟩
  have ln := rv.length
  rw [List.length_map] at ln
  have hn0 : 0 < ns.length := List.length_pos_iff.mpr hne
  obtain ⟨ol, hol, _⟩ := id hls
  have hll : l < s.heap.objs.size := Heap.lt_size hol
  refine kmk_tree PySem.F.kind_min PySem.F.plain_min PySem.F.entry_min (kmk_min_key _ _) ?_
  show wpAny _ X.A.in1 (Builtin.Builtins.bindParams "min" ["key", "default"] 0 ⟨[], [(Str.ofString "key", .ref f)]⟩ >>= _) _ _ s
  refine wpAny_bind (wpAny_of_eq (show Builtin.Builtins.bindParams "min" ["key", "default"] 0 ⟨[], [(Str.ofString "key", .ref f)]⟩ = pure [some (.ref f), none] from rfl) ?_)
  refine wpAny_bind (wpAny_pure ?_)
  refine wpAny_bind (wpAny_pyIter_list hls ?_)
  refine wpAny_bind (wpAny_newList ?_ (Nat.zero_le _))
  rw [hname]
  have hS : (s.heap.push { cls := .type "list_iterator", data := .fields #[.ref l, .int 0 0] }).objs.size = s.heap.objs.size + 1 := size_push' ..
  have hlI : l ≠ s.heap.objs.size := Nat.ne_of_lt hll
  refine wpAny_pure ⟨plainId_quiet PySem.F.plain_min_loop _, ?_⟩
  have gI : ((s.heap.push { cls := .type "list_iterator", data := .fields #[.ref l, .int 0 0] }).push (seqObj "list" #[] 0)).get? s.heap.objs.size = some { cls := .type "list_iterator", data := .fields #[.ref l, .int 0 0] } :=
    Heap.get?_push_of_some _ (Heap.get?_push_size _ rfl)
  have gS : ((s.heap.push { cls := .type "list_iterator", data := .fields #[.ref l, .int 0 0] }).push (seqObj "list" #[] 0)).get? (s.heap.push { cls := .type "list_iterator", data := .fields #[.ref l, .int 0 0] }).objs.size = some (seqObj "list" #[] 0) := Heap.get?_push_size _ rfl
  have W := (Walks.list (prog := X.prog) (w := X.w) (A := X.A.in1) (I.ok.hd hc) s.heap.objs.size l hlI its.toArray).toS
  have fI : H s.heap.objs.size = none := I.hok.fresh (Nat.le_refl _)
  have fS : H (s.heap.push { cls := .type "list_iterator", data := .fields #[.ref l, .int 0 0] }).objs.size = none := I.hok.fresh (by rw [hS]; omega)
  have B : Bes X pins H s.heap.objs.size (s.heap.push { cls := .type "list_iterator", data := .fields #[.ref l, .int 0 0] }).objs.size := ⟨I.fpOk (Nat.le_refl _) fI, I.fpOk (by rw [hS]; omega) fS⟩
  have KR := key_run (op := .Lt) (l := l) hr Fn cp B hf rv hlsA hk (CmpOf.ints_lt (P := fun i v => ∃ t, v = .int (kf (ns.getD i 0)) t) (fun i => kf (ns.getD i 0)) fun i v h => h)
  have I1 : Inv X pins σ H { s with heap := (s.heap.push { cls := .type "list_iterator", data := .fields #[.ref l, .int 0 0] }).push (seqObj "list" #[] 0), toks := s.toks } := I.kept (t' := s.toks) fun b o e => Heap.get?_push_of_some _ (Heap.get?_push_of_some _ e)
  refine codeAny_min_loop_firstK W _ ?_ KR [] ?_ (I.kept (t' := s.toks) fun b o e => Heap.get?_push_of_some _ (Heap.get?_push_of_some _ e)) ?_ gS fun v s' hv I' => ?_
  · intro hm
    rcases List.mem_cons.mp hm with z | z
    · rw [hS] at z
      exact absurd z (Nat.ne_of_gt (Nat.lt_succ_self _))
    · have z := List.mem_singleton.mp z
      rw [hS] at z
      exact absurd z (Nat.ne_of_gt (Nat.lt_succ_of_lt hll))
  · rw [List.size_toArray]
    omega
  · exact ⟨⟨_, gI, rfl, rfl⟩, hlsA _ I1⟩
  · obtain ⟨b1, b2⟩ := best_lt (fun i => kf (ns.getD i 0)) (its.toArray.size - 1)
    rw [List.size_toArray] at b1 b2 hv
    generalize argBest (fun i j => decide (kf (ns.getD i 0) < kf (ns.getD j 0))) (its.length - 1) = bi at *
    have hbi : bi < ns.length := by omega
    have gt : ∀ (j : Nat) (n : Int), ns[j]? = some n → ns.getD j 0 = n := fun j n e => by rw [List.getD_eq_getElem?_getD, e]; rfl
    obtain ⟨u, hu, ru⟩ := Vals.get rv (i := bi) (x := V.int ns[bi]) (by rw [List.getElem?_map, List.getElem?_eq_getElem hbi]; rfl)
    have hv' : its[bi]? = some v := by simpa using hv
    rw [hv'] at hu
    cases hu
    refine ⟨.int ns[bi], H, I', ru, q bi _ (List.getElem?_eq_getElem hbi) fun j n e => ?_⟩
    have hj := (List.getElem?_eq_some_iff.mp e).1
    have := b2 j (by omega)
    rw [gt j n e, gt bi _ (List.getElem?_eq_getElem hbi)] at this
    exact this
/-- the expressions, the list locked -/
def rKeyM (F : NF) (js : List Nat) (sp : List (Option V) → Sp) (le : Int → Int → Prop) (lt : Int → Int → Prop) : L2.St → List V → List V → Hp → VK → Prop := fun σ vs zs H Q => ∃ (l f : Addr) (ol : Obj) (ns : List Int) (kf : Int → Int), vs = [.ref l] ∧ zs = [.ref f] ∧ H f = some (FnO f F) ∧ H l = some (.frz ol (.lst (ns.map V.int))) ∧ ns ≠ [] ∧
  (∀ n ∈ ns, ∀ Q : VK, Q (.int (kf n)) H → sp (js.map (slotAt σ)) [.int n] H Q E0) ∧ ∀ (i : Nat) (m : Int), ns[i]? = some m → (∀ (j : Nat) (n : Int), ns[j]? = some n → le (kf n) (kf m) ∧ (j < i → lt (kf n) (kf m))) → Q (.int m) H
def tKeyM (r : L2.St → List V → List V → Hp → VK → Prop) (t tk : TA) : TE := fun σ H Q => t σ H fun vs H1 => tk σ H1 fun zs H2 => r σ vs zs H2 Q
section
variable {x : Str} {p pos : Pos} {e : Expr} {es : List Expr} {kws : List Keyword} {t tk : TA}
theorem pe_maxKey (hc : X.calm = true) (hr : Room (k + 1) X.A) (Fn : ∀ f, NOkK X.prog X.w X.K X.mg X.base CX0 k f F ps fr sp) (cp : X.Ok → Caps X F.cl fr js) (hg : Gl X x) (hm : X.mg x = none) (hv : bootBuiltins x = some (.builtin "max")) (ha : PA X (e :: es) t) (hk : PK X kws tk) (hn : x ≠ "__name__" := by decide) (hdb : (x == ("__debug__" : Str)) = false := by decide)
    (he : backTo pos (starEach (e :: es) X.env) = (false, eval e X.env) :: backTo pos (starEach es X.env) := by rfl) (hpl : (backTo pos (starEach (e :: es) X.env)).any (·.1) = false := by rfl)
    (hall : (backToKw pos (keywordEach kws X.env)).all (·.1.isSome) = true := by rfl) (hnone : (backToKw pos (keywordEach kws X.env)).any (·.1.isNone) = false := by rfl) (hks : (backToKw pos (keywordEach kws X.env)).filterMap (·.1) = [Str.ofString "key"] := by rfl) :
    PE X (.Call (.Name x p) (e :: es) kws pos) (tKeyM (rKeyM F js sp (· ≤ ·) (· < ·)) t tk) := by
  refine ⟨fun pins s σ H Q I h => ?_⟩
  refine wpAny_Call_Name_kw (ld_blt I hg hm hv ?_ hn hdb)
  refine PyProof.Rows.callWith_kw (thn (ha.run pos pins s σ H _ I h) fun us s1 ⟨vs, H1, I1, r1, q1⟩ => thn (hk.run pos pins s1 σ H1 _ I1 q1) fun ws s2 ⟨zs, H2, I2, r2, q2⟩ => ?_) he hpl hall hnone
  rw [hks]
  obtain ⟨l, f, ol, ns, kf, rfl, rfl, hf, hl, hne, hh, q⟩ := q2
  rw [Vals.ref1 r1, Vals.ref1 r2]
  exact run_maxKey hc hr (runsK hf (Fn f)) cp I2 hf hl hne hh q
theorem pe_minKey (hc : X.calm = true) (hr : Room (k + 1) X.A) (Fn : ∀ f, NOkK X.prog X.w X.K X.mg X.base CX0 k f F ps fr sp) (cp : X.Ok → Caps X F.cl fr js) (hg : Gl X x) (hm : X.mg x = none) (hv : bootBuiltins x = some (.builtin "min")) (ha : PA X (e :: es) t) (hk : PK X kws tk) (hn : x ≠ "__name__" := by decide) (hdb : (x == ("__debug__" : Str)) = false := by decide)
    (he : backTo pos (starEach (e :: es) X.env) = (false, eval e X.env) :: backTo pos (starEach es X.env) := by rfl) (hpl : (backTo pos (starEach (e :: es) X.env)).any (·.1) = false := by rfl)
    (hall : (backToKw pos (keywordEach kws X.env)).all (·.1.isSome) = true := by rfl) (hnone : (backToKw pos (keywordEach kws X.env)).any (·.1.isNone) = false := by rfl) (hks : (backToKw pos (keywordEach kws X.env)).filterMap (·.1) = [Str.ofString "key"] := by rfl) :
    PE X (.Call (.Name x p) (e :: es) kws pos) (tKeyM (rKeyM F js sp (· ≥ ·) (· > ·)) t tk) := by
  refine ⟨fun pins s σ H Q I h => ?_⟩
  refine wpAny_Call_Name_kw (ld_blt I hg hm hv ?_ hn hdb)
  refine PyProof.Rows.callWith_kw (thn (ha.run pos pins s σ H _ I h) fun us s1 ⟨vs, H1, I1, r1, q1⟩ => thn (hk.run pos pins s1 σ H1 _ I1 q1) fun ws s2 ⟨zs, H2, I2, r2, q2⟩ => ?_) he hpl hall hnone
  rw [hks]
  obtain ⟨l, f, ol, ns, kf, rfl, rfl, hf, hl, hne, hh, q⟩ := q2
  rw [Vals.ref1 r1, Vals.ref1 r2]
  exact run_minKey hc hr (runsK hf (Fn f)) cp I2 hf hl hne hh q
def rKeyN (mk : Addr → NF) (js : List Nat) (sp : List (Option V) → Sp) (le : Int → Int → Prop) (lt : Int → Int → Prop) : L2.St → List V → List V → Hp → VK → Prop := fun σ vs zs H Q => ∃ (l f c' : Addr) (ol : Obj) (ns : List Int) (kf : Int → Int), vs = [.ref l] ∧ zs = [.ref f] ∧ H f = some (FnO f (mk c')) ∧ H c' = some (CodeO c' (mk c').qual) ∧ H l = some (.frz ol (.lst (ns.map V.int))) ∧ ns ≠ [] ∧
  (∀ n ∈ ns, ∀ Q : VK, Q (.int (kf n)) H → sp (js.map (slotAt σ)) [.int n] H Q E0) ∧ ∀ (i : Nat) (m : Int), ns[i]? = some m → (∀ (j : Nat) (n : Int), ns[j]? = some n → le (kf n) (kf m) ∧ (j < i → lt (kf n) (kf m))) → Q (.int m) H
variable {mk : Addr → NF}
theorem pe_maxKeyN (hc : X.calm = true) (hr : Room (k + 1) X.A) (Fn : ∀ f c', NOk X.prog X.w X.K X.mg X.base CX0 k f (mk c') ps fr sp) (cp : ∀ c', X.Ok → Caps X (mk c').cl fr js) (hmc : ∀ c', (mk c').c = c') (hg : Gl X x) (hm : X.mg x = none) (hv : bootBuiltins x = some (.builtin "max")) (ha : PA X (e :: es) t) (hk : PK X kws tk) (hn : x ≠ "__name__" := by decide) (hdb : (x == ("__debug__" : Str)) = false := by decide)
    (he : backTo pos (starEach (e :: es) X.env) = (false, eval e X.env) :: backTo pos (starEach es X.env) := by rfl) (hpl : (backTo pos (starEach (e :: es) X.env)).any (·.1) = false := by rfl)
    (hall : (backToKw pos (keywordEach kws X.env)).all (·.1.isSome) = true := by rfl) (hnone : (backToKw pos (keywordEach kws X.env)).any (·.1.isNone) = false := by rfl) (hks : (backToKw pos (keywordEach kws X.env)).filterMap (·.1) = [Str.ofString "key"] := by rfl) :
    PE X (.Call (.Name x p) (e :: es) kws pos) (tKeyM (rKeyN mk js sp (· ≤ ·) (· < ·)) t tk) := by
  refine ⟨fun pins s σ H Q I h => ?_⟩
  refine wpAny_Call_Name_kw (ld_blt I hg hm hv ?_ hn hdb)
  refine PyProof.Rows.callWith_kw (thn (ha.run pos pins s σ H _ I h) fun us s1 ⟨vs, H1, I1, r1, q1⟩ => thn (hk.run pos pins s1 σ H1 _ I1 q1) fun ws s2 ⟨zs, H2, I2, r2, q2⟩ => ?_) he hpl hall hnone
  rw [hks]
  obtain ⟨l, f, c', ol, ns, kf, rfl, rfl, hf, hcd, hl, hne, hh, q⟩ := q2
  rw [Vals.ref1 r1, Vals.ref1 r2]
  exact run_maxKey hc hr (runsN hf (by rw [hmc]; exact hcd) (Fn f c')) (cp c') I2 hf hl hne hh q
theorem pe_minKeyN (hc : X.calm = true) (hr : Room (k + 1) X.A) (Fn : ∀ f c', NOk X.prog X.w X.K X.mg X.base CX0 k f (mk c') ps fr sp) (cp : ∀ c', X.Ok → Caps X (mk c').cl fr js) (hmc : ∀ c', (mk c').c = c') (hg : Gl X x) (hm : X.mg x = none) (hv : bootBuiltins x = some (.builtin "min")) (ha : PA X (e :: es) t) (hk : PK X kws tk) (hn : x ≠ "__name__" := by decide) (hdb : (x == ("__debug__" : Str)) = false := by decide)
    (he : backTo pos (starEach (e :: es) X.env) = (false, eval e X.env) :: backTo pos (starEach es X.env) := by rfl) (hpl : (backTo pos (starEach (e :: es) X.env)).any (·.1) = false := by rfl)
    (hall : (backToKw pos (keywordEach kws X.env)).all (·.1.isSome) = true := by rfl) (hnone : (backToKw pos (keywordEach kws X.env)).any (·.1.isNone) = false := by rfl) (hks : (backToKw pos (keywordEach kws X.env)).filterMap (·.1) = [Str.ofString "key"] := by rfl) :
    PE X (.Call (.Name x p) (e :: es) kws pos) (tKeyM (rKeyN mk js sp (· ≥ ·) (· > ·)) t tk) := by
  refine ⟨fun pins s σ H Q I h => ?_⟩
  refine wpAny_Call_Name_kw (ld_blt I hg hm hv ?_ hn hdb)
  refine PyProof.Rows.callWith_kw (thn (ha.run pos pins s σ H _ I h) fun us s1 ⟨vs, H1, I1, r1, q1⟩ => thn (hk.run pos pins s1 σ H1 _ I1 q1) fun ws s2 ⟨zs, H2, I2, r2, q2⟩ => ?_) he hpl hall hnone
  rw [hks]
  obtain ⟨l, f, c', ol, ns, kf, rfl, rfl, hf, hcd, hl, hne, hh, q⟩ := q2
  rw [Vals.ref1 r1, Vals.ref1 r2]
  exact run_minKey hc hr (runsN hf (by rw [hmc]; exact hcd) (Fn f c')) (cp c') I2 hf hl hne hh q
end
end
end Ph

set_option maxHeartbeats 4000000
/-! PhTab: the end of a law whose defs make lambdas or defs (their code objects' tables are tracked), the guards known. -/
namespace Ph
open PySem PySem.Spec PyProof.Rows L2 LamX
/-- code objects and their tables: empty at the start, no part of the written part -/
structure TabsE (K : PySem.W.Frag) (h : Heap) (cs : List (Addr × Addr)) : Prop where
  em : ∀ p ∈ cs, h.get? p.2 = some { cls := .none, data := .fields #[] }
  out : ∀ p ∈ cs, K.lookup p.2 = none
  cd : ∀ p ∈ cs, PySem.W.CodeHd h p.1 p.2
theorem TabsE.at {K : PySem.W.Frag} {h : Heap} {cs : List (Addr × Addr)} (T : TabsE K h cs) {b : Addr} (hb : b ∈ cs.map (·.2)) : h.get? b = some { cls := .none, data := .fields #[] } ∧ K.lookup b = none ∧ ∃ c, PySem.W.CodeHd h c b := by
  obtain ⟨p, hp, rfl⟩ := List.mem_map.mp hb
  exact ⟨T.em p hp, T.out p hp, p.1, T.cd p hp⟩
section
variable {P : Program} {w : World} {K : PySem.W.Frag} {mg mb : Str → Option Value} {k : Nat} {fa a : Addr} {fd : FuncData} {x : Str} {sp : Sp} {s₁ : Shared} {vs : List Value} {ns : List Int} {cs : List (Addr × Addr)}
theorem end_coreT (T : TabsE K s₁.heap cs) (KX : K.In s₁.heap) (hns : s₁.heap.Ns mainGlobals mg) (hb : s₁.heap.Ns builtinsNs mb) (hbb : ∀ z : Str, z ≠ "__name__" → mb z = bootBuiltins z) (lim : s₁.heap.NoLimit) (gens : s₁.gens = #[])
    (hbm : ∃ (bm : Addr) (ob : Obj), mg "__builtins__" = some (.ref bm) ∧ bm ≠ builtinsNs ∧ s₁.heap.get? bm = some ob ∧ ob.cls = .type "module" ∧ ob.dict = some builtinsNs ∧ ob.data = .plain)
    (isList : ∃ (vz : Array Value) (nz : Nat), s₁.heap.get? a = some { cls := .type "list", data := .seq vz nz }) (room : Room k callerA) (F : ∀ base : Heap, K.In base → base.Ns mainGlobals mg → (∀ p ∈ cs, TabB base mg p.1 p.2) → FnG P w K mg base CX0 k fa fd [x] sp) (bnd : ∀ (s : Shared) (u : Value), BindsTo s fd ⟨[u], []⟩ [(x, u)])
    (H : Hp) (alone : ∀ b o, H b = some o → (b = a ∧ ∃ ob zs, o = .frz ob (.lst zs)) ∨ (b ∈ cs.map (·.2) ∧ o = .tbl #[])) (tabs : ∀ p ∈ cs, H p.2 = some (.tbl #[])) (ok : HOk P w H s₁.heap) (free : H a ≠ none → K.lookup a = none) (want : sp [.ref a] H (fun v _ => v = .bl true) fun _ _ _ => False) :
    codeAny (model P w) callerA (.call (.ref fa) ⟨[.ref a], []⟩) (LawEnd s₁) s₁ := by
  obtain ⟨vz, nz, ha⟩ := isList
  -- what is neither a list nor an empty table is not tracked
  have plain : ∀ {b : Addr} {o : Obj}, s₁.heap.get? b = some o → (∀ v m, o.data ≠ .seq v m) → o.data ≠ .fields #[] → H b = none := fun {b o} g n1 n2 => by
    cases z : H b with
    | none => rfl
    | some u =>
      rcases alone b u z with ⟨e, _⟩ | ⟨e, _⟩
      · rw [e, ha] at g
        cases g
        exact absurd rfl (n1 vz nz)
      · rw [(T.at e).1] at g
        cases g
        exact absurd rfl n2
  have dictFree : ∀ {b : Addr} {o : Obj} {es : Array DictEntry} {ep : Nat}, s₁.heap.get? b = some o → o.data = .dict es ep → H b = none := fun g d => plain g (fun v m z => by rw [d] at z; cases z) fun z => by rw [d] at z; cases z
  have ns2 : ∀ {b : Addr} {m : Str → Option Value}, s₁.heap.Ns b m → (hidT s₁.heap H).Ns b m := fun ⟨o, es, ep, g, d, rest⟩ => ⟨o, es, ep, hidT_get g (dictFree g d), d, rest⟩
  have kin : K.In (hidT s₁.heap H) := fun b o g => hidT_get (KX b o g) (by
    cases z : H b with
    | none => rfl
    | some u =>
      rcases alone b u z with ⟨e, _⟩ | ⟨e, _⟩
      · subst e
        rw [free (by rw [z]; exact fun q => nomatch q)] at g
        cases g
      · rw [(T.at e).2.1] at g
        cases g)
  have modu : L2.Mod K mg (hidT s₁.heap H) := ⟨kin, ns2 hns, ⟨mb, ns2 hb, hbb⟩, let ⟨mc, z1, z2⟩ := lim; ⟨mc, ns2 z1, z2⟩⟩
  have made : ∀ p ∈ cs, TabB (hidT s₁.heap H) mg p.1 p.2 := fun p hp => by
    constructor
    · obtain ⟨o, us, file, tf, flags, tg, inF, text, tt, e1, r1, r2, r3, rest⟩ := T.cd p hp
      refine ⟨o, us, file, tf, flags, tg, inF, text, tt, hidT_get e1 (plain e1 (fun v m z => by rw [r2] at z; cases z) fun z => ?_), r1, r2, r3, rest⟩
      rw [r2] at z
      cases z
      simp at r3
    · obtain ⟨bm, ob, b1, b2, b3, b4, b5, b6⟩ := hbm
      refine ⟨bm, ob, b1, b2, fun q => ?_, fun q => ?_, hidT_get b3 (plain b3 (fun v m z => by rw [b6] at z; cases z) fun z => by rw [b6] at z; cases z), b4, b5, b6⟩
      · obtain ⟨o, es, ep, e, hd, _⟩ := hns
        rw [q, e] at b3
        cases b3
        rw [hd] at b6
        cases b6
      · rw [q, T.em p hp] at b3
        cases b3
        cases b6
    · intro z
      obtain ⟨o, es, ep, e, hd, _⟩ := hns
      rw [z, T.em p hp] at e
      cases e
      cases hd
  have env : Env0 P w K mg (hidT s₁.heap H) callerA [] s₁ H := ⟨rfl, modu, fun b o g => of_hidT g, Nat.le_of_eq (hidT_size _ _), trivial, fun b hb => (List.not_mem_nil hb).elim, ok, .of_eq gens⟩
  refine codeAny_mono ((F _ kin (ns2 hns) made).go callerA [] s₁ H ⟨[.ref a], []⟩ [.ref a] [.ref a] _ _ rfl room env (bnd s₁ (.ref a)) (.cons rfl .nil) want) fun r s2 out => ?_
  match r, out with
  | .error _, out => exact out.elim
  | .ok (.ret u), ⟨v, H', os, bare, un, ok2, rel, good⟩ =>
    have good' : v = .bl true := good
    subst good'
    obtain rfl : u = Value.bool true := rel
    have fixed : ∀ {b : Addr} {o : Obj}, b ∉ cs.map (·.2) → s₁.heap.get? b = some o → s2.heap.get? b = some o := fun {b o} nb g => by
      cases z : H b with
      | none => exact un.keep b o g z (fun q => (List.not_mem_nil q).elim) (by simp)
      | some u =>
        rcases alone b u z with ⟨_, ob, zs, rfl⟩ | ⟨e, _⟩
        · obtain ⟨e1, _⟩ := ok b _ z
          obtain ⟨e2, _⟩ := ok2 b _ (un.frzs b ob _ z)
          rw [g] at e1
          cases e1
          exact e2
        · exact absurd e nb
    have more : ∀ {b : Addr}, b ∈ cs.map (·.2) → ∃ vs2 : Array Value, s2.heap.get? b = some { cls := .none, data := .fields vs2 } := fun {b} hb => by
      obtain ⟨p, hp, rfl⟩ := List.mem_map.mp hb
      obtain ⟨m2, z⟩ := un.tbls p.2 #[] (tabs p hp)
      exact ⟨_, ok2 p.2 _ z⟩
    refine ⟨rfl, ⟨fun b o g => ?_, fun b o g => ?_⟩, os, bare⟩
    · by_cases hb : b ∈ cs.map (·.2)
      · obtain ⟨em, _, c, cd⟩ := T.at hb
        obtain ⟨vs2, g2⟩ := more hb
        rw [em] at g
        cases g
        exact .inr (.inl ⟨(cd.tab em).isCodeTable, rfl, #[], vs2, rfl, by rw [Array.empty_append]; exact g2⟩)
      · exact .inl (fixed hb g)
    · by_cases hb : b ∈ cs.map (·.2)
      · exact (more hb).elim fun vs2 g2 => ⟨_, g2⟩
      · exact ⟨o, fixed hb g⟩
theorem end_callT (T : TabsE K s₁.heap cs) (KX : K.In s₁.heap) (hns : s₁.heap.Ns mainGlobals mg) (hb : s₁.heap.Ns builtinsNs mb) (hbb : ∀ z : Str, z ≠ "__name__" → mb z = bootBuiltins z) (lim : s₁.heap.NoLimit) (gens : s₁.gens = #[])
    (hbm : ∃ (bm : Addr) (ob : Obj), mg "__builtins__" = some (.ref bm) ∧ bm ≠ builtinsNs ∧ s₁.heap.get? bm = some ob ∧ ob.cls = .type "module" ∧ ob.dict = some builtinsNs ∧ ob.data = .plain)
    (ha : s₁.heap.get? a = some { cls := .type "list", data := .seq vs.toArray }) (hi : IntsAre vs ns) (hl : ns.length ≤ sizeLine) (room : Room k callerA) (F : ∀ base : Heap, K.In base → base.Ns mainGlobals mg → (∀ p ∈ cs, TabB base mg p.1 p.2) → FnG P w K mg base CX0 k fa fd [x] sp) (bnd : ∀ (s : Shared) (u : Value), BindsTo s fd ⟨[u], []⟩ [(x, u)])
    (want : ∀ H : Hp, (∀ p ∈ cs, H p.2 = some (.tbl #[])) → SqL K H a (ns.map V.int) → sp [.ref a] H (fun v _ => v = .bl true) fun _ _ _ => False) :
    codeAny (model P w) callerA (.call (.ref fa) ⟨[.ref a], []⟩) (LawEnd s₁) s₁ := by
  have notT : a ∉ cs.map (·.2) := fun z => by
    have g := (T.at z).1
    rw [ha] at g
    cases g
  have memT : ∀ p ∈ cs, p.2 ∈ cs.map (·.2) := fun p hp => List.mem_map_of_mem hp
  let HT : Hp := fun b => if b ∈ cs.map (·.2) then some (.tbl #[]) else none
  have HTy : ∀ {b}, b ∈ cs.map (·.2) → HT b = some (.tbl #[]) := fun h => if_pos h
  have HTn : ∀ {b}, b ∉ cs.map (·.2) → HT b = none := fun h => if_neg h
  cases lk : K.lookup a with
  | some o =>
    have g := KX a o lk
    rw [ha] at g
    cases g
    refine end_coreT T KX hns hb hbb lim gens hbm ⟨_, _, ha⟩ room F bnd HT (fun b o z => ?_) (fun p hp => HTy (memT p hp)) (fun b u z => ?_) (fun z => absurd (HTn notT) z) (want _ (fun p hp => HTy (memT p hp)) (.inr ⟨_, vs.toArray, _, lk, rfl, rfl, rfl, by rw [List.size_toArray, hi.length]; exact hl, by simpa using vals_ints hi⟩))
    · by_cases h : b ∈ cs.map (·.2)
      · exact .inr ⟨h, (Option.some.inj ((HTy h).symm.trans z)).symm⟩
      · rw [HTn h] at z
        cases z
    · by_cases h : b ∈ cs.map (·.2)
      · have e := Option.some.inj ((HTy h).symm.trans z)
        subst e
        exact (T.at h).1
      · rw [HTn h] at z
        cases z
  | none =>
    let HS : Hp := upd HT a (.frz { cls := .type "list", data := .seq vs.toArray } (.lst (ns.map V.int)))
    have onT : ∀ p ∈ cs, HS p.2 = some (.tbl #[]) := fun p hp => (upd_ne (fun z => notT (by rw [← z]; exact memT p hp))).trans (HTy (memT p hp))
    refine end_coreT T KX hns hb hbb lim gens hbm ⟨_, _, ha⟩ room F bnd HS (fun b o z => ?_) onT (fun b u z => ?_) (fun _ => lk) (want _ onT (.inl (.inr ⟨_, upd_same⟩)))
    · by_cases e : b = a
      · subst e
        have z' := Option.some.inj (upd_same.symm.trans z)
        exact .inl ⟨rfl, _, _, z'.symm⟩
      · have z1 : HT b = some o := (upd_ne e).symm.trans z
        by_cases h : b ∈ cs.map (·.2)
        · exact .inr ⟨h, (Option.some.inj ((HTy h).symm.trans z1)).symm⟩
        · rw [HTn h] at z1
          cases z1
    · by_cases e : b = a
      · subst e
        have z' := Option.some.inj (upd_same.symm.trans z)
        subst z'
        exact ⟨ha, by rw [List.length_map]; exact hl, vs, _, vals_ints hi, ha⟩
      · have z1 : HT b = some u := (upd_ne e).symm.trans z
        by_cases h : b ∈ cs.map (·.2)
        · have e2 := Option.some.inj ((HTy h).symm.trans z1)
          subst e2
          exact (T.at h).1
        · rw [HTn h] at z1
          cases z1
end
/-- what the head tells of the tables of the defs that are named -/
def TabsTold (q : Program) (K : PySem.W.Frag) (h : Heap) : Prop := ∀ (x : Str) (c P : Addr), ((recsOf q).find? fun e => e.name == x).isSome = true → PySem.W.tabIn K x = some (c, P) → PySem.W.CodeHd h c P ∧ h.get? P = some { cls := .none, data := .fields #[] }
theorem walkTG {l : PySem.W.OpenLaw} {n k : Nat} {q : Program} {loose : List Str} {XP : (Str → Option Value) → Heap → Prop} {YP : World → Heap → Prop} {d : DefRec} {K : Params → PySem.W.Frag} {sp : PySem.W.Frag → List (Addr × Addr) → Sp} {x : Str}
    (hn : l.most = some n) (hn2 : n ≤ sizeLine) (hdf : d.params.defaults = []) (room : Room k callerA) (hY : ∀ (w : World) (h : Heap), YP w h → (K w.params).In h)
    (F : ∀ (w : World) (mg : Str → Option Value) (fa : Addr) (h : Heap), (K w.params).In h → h.Ns mainGlobals mg → mg d.name = some (.ref fa) → TabsTold q (K w.params) h →
      ∃ (fd : FuncData) (cs : List (Addr × Addr)), TabsE (K w.params) h cs ∧ (∀ (s : Shared) (u : Value), BindsTo s fd ⟨[u], []⟩ [(x, u)]) ∧
        (∀ (H : Hp) (a : Addr) (ns : List Int), ns.length ≤ n → (∀ p ∈ cs, H p.2 = some (.tbl #[])) → SqL (K w.params) H a (ns.map V.int) → sp (K w.params) cs [.ref a] H (fun v _ => v = .bl true) fun _ _ _ => False) ∧
        ∀ base : Heap, (K w.params).In base → base.Ns mainGlobals mg → (∀ p ∈ cs, TabB base mg p.1 p.2) → FnG l.prog w (K w.params) mg base CX0 k fa fd [x] (sp (K w.params) cs)) :
    PySem.W.WalkO q loose XP YP l.row.toRowW d [] (fun f vs => PySem.call f vs) := by
  refine Att.attach_call hn hdf fun w s₀ s₁ mg mb fa o pm cd doc a vs ns G Y ho hd hcd hmg hobj hints hlen hg => ?_
  obtain ⟨fd, cs, T, bnd, want, hF⟩ := F w mg fa _ (hY w _ Y) G.T.g hmg fun y c P hr ht => by
    obtain ⟨d2, hd2⟩ := Option.isSome_iff_exists.mp hr
    exact PySem.W.tab_of G.T (hY w _ Y) hd2 ht
  exact end_callT T (hY w _ Y) G.T.g G.T.b G.T.builtins G.T.nolimit hg G.T.bmain hobj hints (Nat.le_trans hlen hn2) room hF bnd fun H hT hS => want H a ns hlen hT hS
end Ph

/-! PhEi: own errors of one field: their __init__, raising them. -/
namespace Ph
open PySem PySem.Spec PyProof.Rows L2
/-- E(x): the field f is x -/
def spEi (C : Addr) (f : Str) : Sp := fun vs H Q _ => ∃ (a : Addr) (x : V), vs = [.ref a, x] ∧ H a = some (exo a C none) ∧ ∀ dx, H dx = none → dx ≠ a → Q .non (upd (upd H dx (exd dx [(f, x)])) a (exo a C (some dx)))
/-- what a raised error is to who catches it -/
def ErrX (C : Addr) (f : Str) (x : V) (H : Hp) (E : XK) : Prop := ∀ H' d, Same H H' → H' d = some (.xd [(f, x)]) → E (.ref C) (some d) H'
theorem ErrX.from {C : Addr} {f : Str} {x : V} {H H1 : Hp} {E : XK} (q : ErrX C f x H E) (s : Same H H1) : ErrX C f x H1 E := fun H' d s' e => q H' d (s.trans s') e
theorem ei_out {H : Hp} {C : Addr} {f : Str} {x : V} {E : XK} (q : ErrX C f x H E) (a : Addr) (na : H a = none) :
    spEi C f [.ref a, x] (upd H a (exo a C none)) (fun v H2 => v = .non ∧ ∃ (d : Addr) (fs : List (Str × V)), H2 a = some (exo a C (some d)) ∧ H2 d = some (exd d fs) ∧ H d = none ∧ E (.ref C) (some d) (upd (del H2 a) d (.xd fs))) (fun _ _ _ => False) := by
  refine ⟨a, x, rfl, upd_same, fun dx ndx ne => ?_⟩
  have nd : H dx = none := by
    rw [upd_ne ne] at ndx
    exact ndx
  refine ⟨rfl, dx, [(f, x)], upd_same, by rw [upd_ne ne]; exact upd_same, nd, q _ dx (fun b o e => ?_) upd_same⟩
  have n1 : b ≠ dx := ne_of_none e nd
  have n2 : b ≠ a := ne_of_none e na
  rw [upd_ne n1, del_ne n2, upd_ne n2, upd_ne n1, upd_ne n2]
  exact e
/-- is_integer of any value -/
def spI2 (K : PySem.W.Frag) : Sp := fun vs H Q _ => ∃ x : V, vs = [x] ∧ ((∃ i : Int, x = .int i ∧ Q (.bl true) H) ∨ (NoInt K H x ∧ Q (.bl false) H))
/-- a def that keeps one promise and another, the second by raising -/
theorem fn_or {P : Program} {w : World} {K : PySem.W.Frag} {mg : Str → Option Value} {base : Heap} {k : Nat} {f : Addr} {fd : FuncData} {ps : List Str} {s1 s2 : Sp} (F1 : FnOk P w K mg base CX0 k f fd ps s1) (F2 : FnOk P w K mg base (L2.CX P w) k f fd ps s2) :
    FnOk P w K mg base (L2.CX P w) k f fd ps (fun vs H Q E => s1 vs H Q E ∨ s2 vs H Q E) :=
  ⟨fun vs H Q E h => h.elim (F1.len vs H Q E) (F2.len vs H Q E), fun A outer s H args us vs Q E hr e0 hb r h => h.elim (fun h => codeAny_mono (F1.run A outer s H args us vs Q E hr e0 hb r h) fun r s' out => match r, out with
    | .error _, out => (show False from out).elim
    | .ok (.ret _), out => out) (F2.run A outer s H args us vs Q E hr e0 hb r)⟩
/-- an argument that is no size; one that is no address -/
def BadZ (K : PySem.W.Frag) (H : Hp) (C : List Int) (x : V) : Prop := NoInt K H x ∨ ∃ i : Int, x = .int i ∧ i ∉ C
def BadA (K : PySem.W.Frag) (H : Hp) (z : Int) (y : V) : Prop := NoInt K H y ∨ ∃ A : Int, y = .int A ∧ (A < 0 ∨ A % z ≠ 0)
theorem BadZ.same {K : PySem.W.Frag} {H H' : Hp} {C : List Int} {x : V} (s : Same H H') (b : BadZ K H C x) : BadZ K H' C x := b.elim (fun n => .inl (n.same s)) .inr
theorem BadA.same {K : PySem.W.Frag} {H H' : Hp} {z : Int} {y : V} (s : Same H H') (b : BadA K H z y) : BadA K H' z y := b.elim (fun n => .inl (n.same s)) .inr
/-- what check_address raises -/
def BadC (K : PySem.W.Frag) (CB CP : Addr) (H : Hp) (c : Addr) (x y : V) (E : XK) : Prop := ∃ C, ChAt H c C ∧ ((BadZ K H C x ∧ ErrX CB "size" x H E) ∨ ∃ z : Int, x = .int z ∧ z ∈ C ∧ 0 < z ∧ BadA K H z y ∧ ErrX CP "address" y H E)
end Ph

/-! PhLam: defs that make lambdas: the heap without the tables, the tables kept, the code object known. -/
namespace Ph
open PySem PySem.Spec PyProof.Rows L2 LamX
/-- the heap without the tables of code objects -/
def ntb (H : Hp) : Hp := fun b => match H b with
  | some (.tbl _) => none
  | x => x
theorem ntb_at {H : Hp} {b : Addr} {o : HO} (e : H b = some o) (n : ∀ ps, o ≠ .tbl ps) : ntb H b = some o := by
  unfold ntb
  rw [e]
  cases o <;> first
    | rfl
    | exact absurd rfl (n _)
theorem ntb_of {H : Hp} {b : Addr} {o : HO} (e : ntb H b = some o) : H b = some o ∧ ∀ ps, o ≠ .tbl ps := by
  unfold ntb at e
  split at e
  · cases e
  · refine ⟨e, fun ps z => ?_⟩
    rename_i h
    exact h ps (e.trans (by rw [z]))
theorem ntb_sub {H : Hp} : Same (ntb H) H := fun b o e => (ntb_of e).1
theorem ntb_ext {H H' : Hp} (x : ExtN H H') : Same (ntb H) (ntb H') := fun b o e => by
  obtain ⟨e1, n⟩ := ntb_of e
  exact ntb_at (x b o e1 n) n
theorem ntb_same {H H' : Hp} (s : Same H H') : Same (ntb H) (ntb H') := ntb_ext (.of s)
theorem ntb_but {q : Addr} {H H' : Hp} (x : But q H H') : ButS [q] (ntb H) (ntb H') := fun b o nb e => by
  obtain ⟨e1, n⟩ := ntb_of e
  exact ntb_at (x b o (fun z => nb (List.mem_singleton.mpr z)) e1) n
section
variable {T : List (Addr × Str)} {H H' : Hp}
theorem tabs_but {q : Addr} {xs : List V} (t : Tabs T H) (b : But q H H') (e : H q = some (.lst xs)) : Tabs T H' := fun p hp => by
  obtain ⟨ps, h1, h2, h3⟩ := t p hp
  refine ⟨ps, b _ _ (fun z => ?_) h1, h2, fun pos cv hc => ?_⟩
  · rw [z, e] at h1
    cases h1
  · obtain ⟨c, e1, e2⟩ := h3 pos cv hc
    refine ⟨c, e1, b _ _ (fun z => ?_) e2⟩
    rw [z, e] at e2
    unfold CodeO at e2
    cases e2
theorem tabs_same (t : Tabs T H) (s : Same H H') : Tabs T H' := t.ext s
theorem ext_tup {t : Addr} {xs : List V} (x : ExtN H H') (e : H t = some (.tup xs)) : H' t = some (.tup xs) := x _ _ e fun _ z => nomatch z
theorem ext_lst {t : Addr} {xs : List V} (x : ExtN H H') (e : H t = some (.lst xs)) : H' t = some (.lst xs) := x _ _ e fun _ z => nomatch z
theorem ext_frz {t : Addr} {o : Obj} {u : HO} (x : ExtN H H') (e : H t = some (.frz o u)) : H' t = some (.frz o u) := x _ _ e fun _ z => nomatch z
theorem ext_seq {K : PySem.W.Frag} {t : Addr} {xs : List V} (x : ExtN H H') (e : SqL K H t xs) : SqL K H' t xs := by
  rcases e with (e | ⟨o, e⟩) | e
  · exact .inl (.inl (ext_lst x e))
  · exact .inl (.inr ⟨o, ext_frz x e⟩)
  · exact .inr e
theorem pot_ext {q : Addr} (x : ExtN H H') (p : Pot H q) : Pot H' q := by
  obtain ⟨g, r, e, v⟩ := p
  exact ⟨g, r, ext_lst x e, v⟩
theorem pot_tabs {q : Addr} (t : Tabs T H) (b : But q H H') (p : Pot H q) : Tabs T H' := by
  obtain ⟨g, r, e, v⟩ := p
  exact tabs_but t b e
end
/-- okG, the code object known -/
theorem okGC {P : Program} {w : World} {K : PySem.W.Frag} {mg : Str → Option Value} {base : Heap} {x qual : Str} {st : Stmt} {f : Addr} {fd : FuncData} {N ps : List Str} {k : Nat} {sp : Sp} {c : Addr} (F : Fun K x qual st f fd) (hc : fd.code = .ref c) (S : FnScope N ps (defScope st)) (cnt : ∀ vs H Q E, sp vs H Q E → vs.length = ps.length)
    (body : ∀ (A : Around) (outer : List Env) (s : Shared) (H : Hp) (vs : List V) (Q : VK) (E : XK), (A.deeper (envOfC qual (defScope st) s.heap.objs.size f (.ref c))).guards = some [] → Room k (A.deeper (envOfC qual (defScope st) s.heap.objs.size f (.ref c))) → sp vs H Q E →
      ∃ t, PSs (cxOf CX0 P w K mg base N qual (defScope st) f (.ref c) A outer s H E).nox (defBody st) t ∧ t { nx := fun _ H' => Q .non H', rt := Q } (start N vs) H) : FnG P w K mg base CX0 (k + 1) f fd ps sp := by
  obtain ⟨oc, od, kV, doc, pm, an, cdv, ct, osl, rfl, lk, hcd⟩ := F.ex
  obtain rfl : cdv = Value.ref c := hc
  refine ⟨cnt, fun A outer s H args us vs Q E hgu room env bnd vals want => ?_⟩
  have old : ∀ b o, base.get? b = some o → s.heap.get? b = some o := fun b o z => (env.bs b o z).1
  refine Att.call_fn (env.mod.kin.keeps old) (env.mod.nolimit.keeps old) lk hcd room.depth bnd ?_ (fun s1 inside => ?_) S.co S.gen S.kind
  · rw [List.all_eq_true]
    rintro ⟨n, v⟩ hy
    rcases S.par n (List.of_mem_zip hy).1 with z | z <;> simp [z]
  · obtain ⟨t, ht, hq⟩ := body A outer s H vs Q E ((guards_deeper A _).trans hgu) (room.deeper _) want
    have I0 : Inv (cxOf CX0 P w K mg base N qual (defScope st) f (.ref c) A outer s H E) [] (start N vs) H s1 := inv_start S room.hd env (cnt _ _ _ _ want) vals inside
    refine wpAny_mono (ht.nox.run [] s1 (start N vs) H _ I0 hq) (fun flow s2 done => ?_) fun e s2 bad => bad
    have fin : ∀ {σ' : L2.St} {H' : Hp} {v : V} {u : Value}, Inv (cxOf CX0 P w K mg base N qual (defScope st) f (.ref c) A outer s H E) [] σ' H' s2 → RelV v u → Q v H' → CE outer P w H s Q u s2 :=
      fun J rel good => ⟨_, _, J.os, J.bare, J.base, J.hok, rel, good⟩
    match flow, done with
    | .ret u, ⟨v, σ', H', J, rel, good⟩ => exact fin J rel good
    | .next, ⟨σ', H', J, good⟩ => exact fin (v := V.non) (u := Value.none) J rfl good
    | .brk, ⟨_, _, _, z⟩ => exact z.elim
    | .cont, ⟨_, _, _, z⟩ => exact z.elim
/-- tabIn's code object is the def's -/
theorem tab_code {K : PySem.W.Frag} {x : Str} {c P f : Addr} {oc : Value} {od : Option Addr} {fd : FuncData} {sl : Array (Option Value)} (t : PySem.W.tabIn K x = some (c, P)) (n : PySem.W.nsIn K mainGlobals x = some (some (.ref f))) (l : K.lookup f = some ⟨oc, od, .func fd, sl⟩) : fd.code = .ref c := by
  unfold PySem.W.tabIn at t
  rw [n] at t
  simp only [l] at t
  split at t
  · rename_i c' e
    split at t
    · split at t
      · cases t
        exact e
      · cases t
    · cases t
  · cases t
end Ph

/-! PhOkc: a def whose code object is known (it makes defs or lambdas), as FnOk: no guards asked. -/
namespace Ph
open PySem PySem.Spec PyProof.Rows L2
theorem okC {P : Program} {w : World} {K : PySem.W.Frag} {mg : Str → Option Value} {base : Heap} {x qual : Str} {st : Stmt} {f : Addr} {fd : FuncData} {N ps : List Str} {k : Nat} {sp : Sp} {c : Addr} (F : Fun K x qual st f fd) (hc : fd.code = .ref c) (S : FnScope N ps (defScope st)) (len : ∀ vs H Q E, sp vs H Q E → vs.length = ps.length)
    (hbody : ∀ (A : Around) (outer : List Env) (s : Shared) (H : Hp) (vs : List V) (Q : VK) (E : XK), Room k (A.deeper (envOfC qual (defScope st) s.heap.objs.size f (.ref c))) → sp vs H Q E →
      ∃ t, PSs (cxOf CX0 P w K mg base N qual (defScope st) f (.ref c) A outer s H E).nox (defBody st) t ∧ t { nx := fun _ H' => Q .non H', rt := Q } (start N vs) H) : FnOk P w K mg base CX0 (k + 1) f fd ps sp := by
  obtain ⟨oc, od, kV, doc, pm, an, cdv, ct, osl, rfl, lk, hcd⟩ := F.ex
  obtain rfl : cdv = Value.ref c := hc
  refine fn_of lk hcd S len fun A outer s H vs Q E hr hsp => ?_
  obtain ⟨t, h, q⟩ := hbody A outer s H vs Q E hr hsp
  exact ⟨t, h.nox, q⟩
theorem okCX {P : Program} {w : World} {K : PySem.W.Frag} {mg : Str → Option Value} {base : Heap} {x qual : Str} {st : Stmt} {f : Addr} {fd : FuncData} {N ps : List Str} {k : Nat} {sp : Sp} {c : Addr} (F : Fun K x qual st f fd) (hc : fd.code = .ref c) (S : FnScope N ps (defScope st)) (len : ∀ vs H Q E, sp vs H Q E → vs.length = ps.length)
    (hbody : ∀ (A : Around) (outer : List Env) (s : Shared) (H : Hp) (vs : List V) (Q : VK) (E : XK), Room k (A.deeper (envOfC qual (defScope st) s.heap.objs.size f (.ref c))) → sp vs H Q E →
      ∃ t, PSs (cxOf (L2.CX P w) P w K mg base N qual (defScope st) f (.ref c) A outer s H E) (defBody st) t ∧ t { nx := fun _ H' => Q .non H', rt := Q } (start N vs) H) : FnOk P w K mg base (L2.CX P w) (k + 1) f fd ps sp := by
  obtain ⟨oc, od, kV, doc, pm, an, cdv, ct, osl, rfl, lk, hcd⟩ := F.ex
  obtain rfl : cdv = Value.ref c := hc
  exact fn_of lk hcd S len fun A outer s H vs Q E hr hsp => hbody A outer s H vs Q E hr hsp
/-- the heap may grow, tables aside: what an ExtN leaves -/
theorem ext_st {H H' : Hp} {t : Addr} {bs : List Bk} (x : LamX.ExtN H H') (h : StAt H t bs) : StAt H' t bs := by
  obtain ⟨xs, e, bl⟩ := h
  exact ⟨xs, ext_tup x e, BL.kp bl fun v us e => ext_tup x e⟩
theorem ext_ch {H H' : Hp} {c : Addr} {C : List Int} (x : LamX.ExtN H H') (h : ChAt H c C) : ChAt H' c C := h.frz fun o u e => ext_frz x e
theorem ext_ins {H H' : Hp} {h : Addr} {C dx : Addr} {fs : List (Str × V)} (x : LamX.ExtN H H') (e : H h = some (.ins C dx fs)) : H' h = some (.ins C dx fs) := x _ _ e fun _ z => nomatch z
end Ph

/-! PhHr: a heap of any rule, as an object, with its steps. -/
namespace Ph
open PySem PySem.Spec PyProof.Rows L2
def hfr (r : Str) (c : Addr) (pg M : Int) (t l : Addr) : List (Str × V) := [("chain", .ref c), ("pages", .int pg), ("limit", .int M), ("rule", .str r), ("blocks", .ref t), ("steps", .ref l)]
section
variable {r : Str} {c t l u : Addr} {pg M : Int}
theorem hr_chain : (hfr r c pg M t l).lookup ("chain" : Str) = some (.ref c) := rfl
theorem hr_pages : (hfr r c pg M t l).lookup ("pages" : Str) = some (.int pg) := rfl
theorem hr_limit : (hfr r c pg M t l).lookup ("limit" : Str) = some (.int M) := rfl
theorem hr_rule : (hfr r c pg M t l).lookup ("rule" : Str) = some (.str r) := rfl
theorem hr_blocks : (hfr r c pg M t l).lookup ("blocks" : Str) = some (.ref t) := rfl
theorem hr_steps : (hfr r c pg M t l).lookup ("steps" : Str) = some (.ref l) := rfl
theorem hr_put : putF "blocks" (.ref u) (hfr r c pg M t l) = hfr r c pg M u l := rfl
theorem hr_puts : putF "steps" (.ref u) (hfr r c pg M t l) = hfr r c pg M t u := rfl
end
abbrev Tri := Str × Int × Int
def StL (H : Hp) (xs : List V) (ss : List Tri) : Prop := Paired (fun x (t : Tri) => ∃ T, x = V.ref T ∧ H T = some (.tup [.str t.1, .int t.2.1, .int t.2.2])) xs ss
theorem paired_impL {α β : Type} {R S : α → β → Prop} (h : ∀ a b, R a b → S a b) : ∀ {l : List α} {m : List β}, Paired R l m → Paired S l m
  | _, _, .nil => .nil
  | _, _, .cons x r => .cons (h _ _ x) (paired_impL h r)
theorem StL.kp {H H' : Hp} {xs : List V} {ss : List Tri} (h : StL H xs ss) (k : KpT H H') : StL H' xs ss := paired_impL (fun x t ⟨T, e1, e2⟩ => ⟨T, e1, k _ _ e2⟩) h
theorem StL.len {H : Hp} {xs : List V} {ss : List Tri} (h : StL H xs ss) : xs.length = ss.length := h.length
structure HrA (C : Addr) (H : Hp) (h l c : Addr) (r : Str) (s : Nat → Nat) (p pg M : Nat) (bs : List Bk) (ss : List Tri) (dx t : Addr) (xs : List V) : Prop where
  ob : H h = some (.ins C dx (hfr r c pg M t l))
  ch : ChAt H c (tl s (p + 1))
  st : StAt H t bs
  ls : H l = some (.lst xs)
  sl : StL H xs ss
def HrS (C : Addr) (H : Hp) (h l c : Addr) (r : Str) (s : Nat → Nat) (p pg M : Nat) (bs : List Bk) (ss : List Tri) : Prop := ∃ dx t xs, HrA C H h l c r s p pg M bs ss dx t xs
section
variable {C : Addr} {H H' : Hp} {h l c : Addr} {r : Str} {s : Nat → Nat} {p pg M : Nat} {bs : List Bk} {ss : List Tri}
theorem HrA.kp {dx t : Addr} {xs : List V} (a : HrA C H h l c r s p pg M bs ss dx t xs) (k1 : ∀ C' dx' fs, H h = some (.ins C' dx' fs) → H' h = some (.ins C' dx' fs)) (k2 : ∀ ys, H l = some (.lst ys) → H' l = some (.lst ys)) (k3 : KpT H H') (k4 : ∀ o u, H c = some (.frz o u) → H' c = some (.frz o u)) : HrA C H' h l c r s p pg M bs ss dx t xs :=
  ⟨k1 _ _ _ a.ob, a.ch.frz k4, a.st.mono k3, k2 _ a.ls, a.sl.kp k3⟩
theorem HrS.same (a : HrS C H h l c r s p pg M bs ss) (sm : Same H H') : HrS C H' h l c r s p pg M bs ss := by
  obtain ⟨dx, t, xs, a⟩ := a
  exact ⟨dx, t, xs, a.kp (fun _ _ _ e => sm _ _ e) (fun _ e => sm _ _ e) (fun _ _ e => sm _ _ e) fun _ _ e => sm _ _ e⟩
theorem HrS.ext (a : HrS C H h l c r s p pg M bs ss) (x : LamX.ExtN H H') : HrS C H' h l c r s p pg M bs ss := by
  obtain ⟨dx, t, xs, a⟩ := a
  exact ⟨dx, t, xs, a.kp (fun _ _ _ e => ext_ins x e) (fun _ e => ext_lst x e) (fun _ _ e => ext_tup x e) fun _ _ e => ext_frz x e⟩
theorem HrS.but {q : Addr} {ys : List V} (a : HrS C H h l c r s p pg M bs ss) (b : But q H H') (e : H q = some (.lst ys)) (nq : l ≠ q) : HrS C H' h l c r s p pg M bs ss := by
  obtain ⟨dx, t, xs, a⟩ := a
  exact ⟨dx, t, xs, a.kp (fun _ _ _ e1 => b _ _ (ne_of e1 e (by intro z; cases z)) e1) (fun _ e1 => b _ _ nq e1) (b.kpT e) fun _ _ e1 => b _ _ (ne_of e1 e (by intro z; cases z)) e1⟩
/-- beside another object that changes -/
theorem HrS.butI {q C' dx' : Addr} {fs : List (Str × V)} (a : HrS C H h l c r s p pg M bs ss) (b : But q H H') (e : H q = some (.ins C' dx' fs)) (nq : h ≠ q) : HrS C H' h l c r s p pg M bs ss := by
  obtain ⟨dx, t, xs, a⟩ := a
  exact ⟨dx, t, xs, a.kp (fun _ _ _ e1 => b _ _ nq e1) (fun _ e1 => b _ _ (ne_of e1 e (by intro z; cases z)) e1) (fun _ _ e1 => b _ _ (ne_of e1 e (by intro z; cases z)) e1) fun _ _ e1 => b _ _ (ne_of e1 e (by intro z; cases z)) e1⟩
/-- what stands beside another heap that changes -/
theorem HrS.fr {h2 l2 C2 dx2 : Addr} {fs : List (Str × V)} {ys : List V} (a : HrS C H h l c r s p pg M bs ss) (f : Fr h2 l2 H H') (e1 : H h2 = some (.ins C2 dx2 fs)) (e2 : H l2 = some (.lst ys)) (nh : h ≠ h2) (nl : l ≠ l2) : HrS C H' h l c r s p pg M bs ss := by
  obtain ⟨dx, t, xs, a⟩ := a
  exact ⟨dx, t, xs, a.kp (fun _ _ _ e => f _ _ nh (ne_of e e2 (by intro z; cases z)) e) (fun _ e => f _ _ (ne_of e e1 (by intro z; cases z)) nl e) (f.kpT e1 e2) (f.frz e1 e2)⟩
end
theorem paired_snocR {α β : Type} {R : α → β → Prop} : ∀ {l : List α} {m : List β} {b : β}, Paired R l (m ++ [b]) → ∃ l' a, l = l' ++ [a] ∧ Paired R l' m ∧ R a b
  | _, [], b, h => by
    cases h with
    | cons x r =>
      cases r
      exact ⟨[], _, rfl, .nil, x⟩
  | _, c :: m, b, h => by
    cases h with
    | cons x r =>
      obtain ⟨l', a, e1, e2, e3⟩ := paired_snocR r
      exact ⟨_ :: l', a, by rw [e1]; rfl, .cons x e2, e3⟩
end Ph

/-! PhHw: histories of a heap, whatever places its blocks were put at; the newest step first. -/
namespace Ph
open PySem PySem.Spec PyProof.Rows L2
namespace HW
theorem perm_filt {e : Bk} : ∀ {cs : List Bk}, cs.Pairwise (fun x y => x.1 ≠ y.1) → e ∈ cs → cs.Perm (e :: cs.filter fun b => decide (b.1 ≠ e.1))
  | c :: r, pw, h => by
    obtain ⟨p1, p2⟩ := List.pairwise_cons.mp pw
    rcases List.mem_cons.mp h with z | z
    · subst z
      have : (r.filter fun b => decide (b.1 ≠ e.1)) = r := List.filter_eq_self.mpr fun b hb => decide_eq_true fun z => p1 b hb z.symm
      rw [List.filter_cons_of_neg (by simp), this]
    · have ne := p1 e z
      rw [List.filter_cons_of_pos (by simpa using ne)]
      exact ((perm_filt p2 z).cons c).trans (List.Perm.swap ..)
theorem st_app {C : List Int} {W : Int} {bs : List Bk} (st : St C W bs) : bs.Pairwise apart := st.asc.imp fun h => .inl h
theorem St_nes {C : List Int} {W : Int} {bs : List Bk} (st : St C W bs) : bs.Pairwise fun x y => x.1 ≠ y.1 :=  st.asc.imp_of_mem fun {b c} hb hc h z => by
  have := (st.ok b hb).2.1
  omega
theorem St_lex {C : List Int} {W : Int} {bs : List Bk} (st : St C W bs) : bs.Pairwise fun x y => SrtO.lexB y x = false :=  st.asc.imp_of_mem fun {b c} hb hc h => SrtO.lexB_no.mpr (by
  have := (st.ok b hb).2.1
  omega)
theorem add_st {C : List Int} {W a z : Int} {bs cs : List Bk} (st : St C W bs) (ok : okB C W (a, z)) (ap : ∀ b ∈ bs, a + z ≤ b.1 ∨ b.1 + b.2 ≤ a) (p : cs.Perm (bs ++ [(a, z)])) (srt : cs.Pairwise fun x y => SrtO.lexB y x = false) : St C W cs := by
  refine sorted_st (fun b hb => ?_) (List.pairwise_append.mpr ⟨st_app st, List.pairwise_singleton _ _, fun b hb c hc => ?_⟩) p srt
  · rcases List.mem_append.mp hb with h | h
    · exact st.ok b h
    · rw [List.mem_singleton.mp h]
      exact ok
  · rw [List.mem_singleton.mp hc]
    rcases ap b hb with h | h
    · exact .inr h
    · exact .inl h
theorem len_sum : ∀ {bs : List Bk}, (∀ b ∈ bs, 1 ≤ b.2) → (bs.length : Int) ≤ (bs.map fun b => b.2).sum
  | [], _ => Int.le_refl _
  | b :: r, h => by
    have h1 := h b (List.mem_cons_self ..)
    have ih := len_sum (bs := r) fun c hc => h c (List.mem_cons_of_mem _ hc)
    rw [List.length_cons, List.map_cons, List.sum_cons]
    omega
abbrev tt (bs : List Bk) : Int := (bs.map fun b => b.2).sum
theorem tt_perm {bs cs : List Bk} (pm : cs.Perm bs) : tt cs = tt bs := sum_perm pm
theorem tt_snoc (bs : List Bk) (b : Bk) : tt (bs ++ [b]) = tt bs + b.2 := by
  unfold tt
  rw [List.map_append, List.sum_append]
  simp
theorem tt_filt {C : List Int} {W : Int} {bs : List Bk} {e : Bk} (st : St C W bs) (he : e ∈ bs) : tt bs - tt (bs.filter fun b => decide (b.1 ≠ e.1)) = e.2 := by
  have h1 : tt bs = e.2 + tt (bs.filter fun b => decide (b.1 ≠ e.1)) := by
    rw [tt_perm (perm_filt (St_nes st) he)]
    rfl
  omega
end HW
/-- a place for a block: within the heap, beside its blocks -/
structure Spt (z : Int) (bs : List Bk) (W x : Int) : Prop where
  mod : x % z = 0
  pos : 0 ≤ x
  fit : x + z ≤ W
  free : ∀ b ∈ bs, x + z ≤ b.1 ∨ b.1 + b.2 ≤ x
inductive Hw (s : Nat → Nat) (p : Nat) (W : Int) (M : Nat) : List Tri → List Bk → Prop
  | nil : Hw s p W M [] []
  | get {rs : List Tri} {bs cs : List Bk} {x : Int} {i : Nat} : Hw s p W M rs bs → i ≤ p → (bs.map fun b => b.2).sum + ((s i : Nat) : Int) ≤ M → Spt ((s i : Nat) : Int) bs W x → cs.Perm (bs ++ [(x, ((s i : Nat) : Int))]) → (cs.Pairwise fun x y => SrtO.lexB y x = false) → Hw s p W M ((("get" : Str), x, ((s i : Nat) : Int)) :: rs) cs
  | free {rs : List Tri} {bs : List Bk} {e : Bk} : Hw s p W M rs bs → e ∈ bs → Hw s p W M ((("free" : Str), e.1, e.2) :: rs) (bs.filter fun b => decide (b.1 ≠ e.1))
section
variable {s : Nat → Nat} {p M : Nat} {W : Int}
theorem Hw.st {rs : List Tri} {bs : List Bk} (c : CH s (p + 1)) (h : Hw s p W M rs bs) : St (tl s (p + 1)) W bs := by
  induction h with
  | nil => exact ⟨(fun b hb => nomatch hb), List.Pairwise.nil⟩
  | @get rs bs cs x i _ hi _ sp pm srt ih =>
    have := c.pos (i := i) (by omega)
    exact HW.add_st ih ⟨tl_mem.mpr ⟨i, by omega, rfl⟩, by show 1 ≤ ((s i : Nat) : Int); omega, sp.pos, sp.mod, sp.fit⟩ sp.free pm srt
  | free _ _ ih => exact ih.filter _
theorem Hw.tot {rs : List Tri} {bs : List Bk} (c : CH s (p + 1)) (h : Hw s p W M rs bs) : HW.tt bs ≤ M := by
  induction h with
  | nil => exact Int.natCast_nonneg _
  | @get rs bs cs x i _ hi hM sp pm srt ih =>
    rw [HW.tt_perm pm, HW.tt_snoc]
    exact hM
  | @free _ bs e h he ih =>
    have h1 := HW.tt_filt (h.st c) he
    have h2 := ((h.st c).ok e he).2.1
    omega
theorem Hw.len {rs : List Tri} {bs : List Bk} (c : CH s (p + 1)) (h : Hw s p W M rs bs) : bs.length ≤ M := by
  have h1 := HW.len_sum (bs := bs) fun b hb => ((h.st c).ok b hb).2.1
  have h2 := h.tot c
  unfold HW.tt at h2
  omega
theorem Hw.uniq {rs : List Tri} {bs cs : List Bk} (c : CH s (p + 1)) (h : Hw s p W M rs bs) (h' : Hw s p W M rs cs) : bs = cs := by
  induction h generalizing cs with
  | nil => cases h'; rfl
  | @get rs bs1 cs1 x i h1 hi hM sp pm srt ih =>
    generalize ez : ((s i : Nat) : Int) = z at h'
    cases h' with
    | @get _ bs2 _ _ i2 h2 hi2 hM2 sp2 pm2 srt2 =>
      have e1 := ih h2
      subst e1
      rw [ez] at pm
      exact perm_lex (pm.trans pm2.symm) srt srt2
  | @free rs bs1 e h1 he ih =>
    obtain ⟨e1, e2⟩ := e
    dsimp only at h'
    cases h' with
    | @free _ bs2 e' h2 he' =>
      have f1 := ih h2
      subst f1
      rfl
theorem Hw.tail {t : Tri} {rs : List Tri} {cs : List Bk} (h : Hw s p W M (t :: rs) cs) : ∃ bs, Hw s p W M rs bs := by
  cases h with
  | get h1 => exact ⟨_, h1⟩
  | free h1 _ => exact ⟨_, h1⟩
theorem Hw.pre {ss : List Tri} {bs : List Bk} (h : Hw s p W M ss.reverse bs) : ∀ n i, i + n = ss.length → ∃ cs, Hw s p W M (ss.take i).reverse cs
  | 0, i, e => ⟨bs, by rw [List.take_of_length_le (by omega)]; exact h⟩
  | n + 1, i, e => by
    obtain ⟨cs, h'⟩ := Hw.pre h n (i + 1) (by omega)
    have hlt : i < ss.length := by omega
    rw [List.take_add_one, List.getElem?_eq_getElem hlt, List.reverse_append] at h'
    exact h'.tail
theorem Hw.undo {st : Tri} {rs : List Tri} {cs : List Bk} (c : CH s (p + 1)) (h : Hw s p W M (st :: rs) cs) : ∃ bs, Hw s p W M rs bs ∧
    ((st.1 = "get" ∧ (∃ b ∈ cs, b.1 = st.2.1) ∧ (cs.filter fun b => decide (b.1 ≠ st.2.1)) = bs) ∨ (st.1 = "free" ∧ ∀ ds : List Bk, ds.Perm (cs ++ [(st.2.1, st.2.2)]) → (ds.Pairwise fun x y => SrtO.lexB y x = false) → ds = bs)) := by
  have st0 := h.st c
  cases h with
  | @get _ bs _ x i h1 hi hM sp pm srt =>
    refine ⟨bs, h1, .inl ⟨rfl, ⟨(x, ((s i : Nat) : Int)), pm.mem_iff.mpr (List.mem_append_right _ (List.mem_singleton.mpr rfl)), rfl⟩, ?_⟩⟩
    have stb := h1.st c
    have hin : (x, ((s i : Nat) : Int)) ∈ cs := pm.mem_iff.mpr (List.mem_append_right _ (List.mem_singleton.mpr rfl))
    have pf := HW.perm_filt (HW.St_nes st0) hin
    have pm2 : (cs.filter fun b => decide (b.1 ≠ x)).Perm bs := (List.perm_cons (x, ((s i : Nat) : Int))).mp (pf.symm.trans (pm.trans List.perm_append_comm))
    exact perm_lex pm2 (HW.St_lex (st0.filter _)) (HW.St_lex stb)
  | @free _ bs e h1 he =>
    refine ⟨bs, h1, .inr ⟨rfl, fun ds pm srt => ?_⟩⟩
    have stb := h1.st c
    have pf := HW.perm_filt (HW.St_nes stb) he
    exact perm_lex (pm.trans (List.perm_append_comm.trans pf.symm)) srt (HW.St_lex stb)
theorem Hw.gf {rs : List Tri} {bs : List Bk} (h : Hw s p W M rs bs) : ∀ t ∈ rs, t.1 = "get" ∨ t.1 = "free" := by
  induction h with
  | nil => exact fun t h => nomatch h
  | get _ _ _ _ _ _ ih =>
    intro t ht
    rcases List.mem_cons.mp ht with z | z
    · rw [z]; exact .inl rfl
    · exact ih t z
  | free _ _ ih =>
    intro t ht
    rcases List.mem_cons.mp ht with z | z
    · rw [z]; exact .inr rfl
    · exact ih t z
/-- the next step of a history -/
theorem Hw.step {ss : List Tri} {bs bi : List Bk} {i : Nat} {t : Tri} (c : CH s (p + 1)) (h : Hw s p W M ss.reverse bs) (hi : ss[i]? = some t) (hm : Hw s p W M (ss.take i).reverse bi) :
    (∃ j x cs, j ≤ p ∧ t = (("get" : Str), x, ((s j : Nat) : Int)) ∧ HW.tt bi + ((s j : Nat) : Int) ≤ M ∧ Spt ((s j : Nat) : Int) bi W x ∧ cs.Perm (bi ++ [(x, ((s j : Nat) : Int))]) ∧ (cs.Pairwise fun x y => SrtO.lexB y x = false) ∧ Hw s p W M (ss.take (i + 1)).reverse cs) ∨
    ∃ e ∈ bi, t = (("free" : Str), e.1, e.2) ∧ Hw s p W M (ss.take (i + 1)).reverse (bi.filter fun b => decide (b.1 ≠ e.1)) := by
  have hlt := (List.getElem?_eq_some_iff.mp hi).1
  have etk : (ss.take (i + 1)).reverse = t :: (ss.take i).reverse := by
    rw [List.take_add_one, hi, List.reverse_append]
    rfl
  obtain ⟨cs, h'⟩ := h.pre (ss.length - (i + 1)) (i + 1) (by omega)
  rw [etk] at h' ⊢
  cases h' with
  | @get _ b2 _ x j h1 hj hM sp pm srt =>
    have e1 := hm.uniq c h1
    subst e1
    exact .inl ⟨j, x, cs, hj, rfl, hM, sp, pm, srt, .get h1 hj hM sp pm srt⟩
  | @free _ b2 e h1 he =>
    have e1 := hm.uniq c h1
    subst e1
    exact .inr ⟨e, he, rfl, .free h1 he⟩
end
/-! ### events and histories -/
def evV (t : Tri) : List V := if t.1 = "get" then [.str "get", .int t.2.2, .int t.2.1] else [.str "free", .int t.2.1]
theorem evV_get (x z : Int) : evV (("get" : Str), x, z) = [.str "get", .int z, .int x] := if_pos rfl
theorem evV_free (x z : Int) : evV (("free" : Str), x, z) = [.str "free", .int x] := if_neg (show ¬ (("free" : Str) = "get") by decide +kernel)
def GF (t : Tri) : Prop := t.1 = "get" ∨ t.1 = "free"
def EvL (H : Hp) (ys : List V) (ss : List Tri) : Prop := Paired (fun y (t : Tri) => ∃ T, y = V.ref T ∧ H T = some (.tup (evV t))) ys ss
def HisAt (H : Hp) (u : Addr) (ss : List Tri) : Prop := ∃ ys, H u = some (.tup ys) ∧ EvL H ys ss
theorem EvL.kp {H H' : Hp} {ys : List V} {ss : List Tri} (h : EvL H ys ss) (k : KpT H H') : EvL H' ys ss := paired_impL (fun x t ⟨T, e1, e2⟩ => ⟨T, e1, k _ _ e2⟩) h
theorem HisAt.kp {H H' : Hp} {u : Addr} {ss : List Tri} (h : HisAt H u ss) (k : KpT H H') : HisAt H' u ss := by
  obtain ⟨ys, e, l⟩ := h
  exact ⟨ys, k _ _ e, l.kp k⟩
theorem HisAt.same {H H' : Hp} {u : Addr} {ss : List Tri} (h : HisAt H u ss) (s : Same H H') : HisAt H' u ss := h.kp fun _ _ e => s _ _ e
theorem paired_get' {α β : Type} {F : α → β → Prop} : ∀ {l : List α} {m : List β}, l.length = m.length → (∀ (i : Nat) (a : α) (b : β), l[i]? = some a → m[i]? = some b → F a b) → Paired F l m
  | [], [], _, _ => .nil
  | [], _ :: _, e, _ => by cases e
  | _ :: _, [], e, _ => by cases e
  | a :: l, b :: m, e, h => .cons (h 0 a b rfl rfl) (paired_get' (by simpa using e) fun i a' b' h1 h2 => h (i + 1) a' b' h1 h2)
end Ph

/-! PhTT: several tables of code objects side by side (lambdas, nested defs): Tabs T, each table with one name. -/
namespace Ph
open PySem PySem.Spec PyProof.Rows L2
def nT (T : List (Addr × Str)) : List NdefX.NTab := T.map fun p => (p.1, fun _ _ => p.2)
theorem nT_iff {T : List (Addr × Str)} {H : Hp} : NdefX.TabsN (nT T) H ↔ LamX.Tabs T H := by
  constructor
  · intro h p hp
    exact NdefX.TabN.to (h (p.1, fun _ _ => p.2) (List.mem_map.mpr ⟨p, hp, rfl⟩))
  · intro h q hq
    obtain ⟨p, hp, rfl⟩ := List.mem_map.mp hq
    exact NdefX.TabN.of (h p hp)
/-- the table at P is tracked, under this one name -/
def InT (T : List (Addr × Str)) (P : Addr) (q : Str) : Prop := (P, q) ∈ T ∧ ∀ p ∈ T, p.1 = P → p.2 = q
theorem InT.n {T : List (Addr × Str)} {P : Addr} {q : Str} (h : InT T P q) : (P, fun _ _ => q) ∈ nT T ∧ ∀ p ∈ nT T, p.1 = P → p.2 = fun _ _ => q := by
  refine ⟨List.mem_map.mpr ⟨(P, q), h.1, rfl⟩, fun p hp e => ?_⟩
  obtain ⟨r, hr, rfl⟩ := List.mem_map.mp hp
  have := h.2 r hr e
  funext _ _
  exact this
theorem InT.one (P : Addr) (q : Str) : InT [(P, q)] P q := ⟨.head _, fun p hp _ => by rw [List.mem_singleton.mp hp]⟩
section
variable {T : List (Addr × Str)} {H H' : Hp}
theorem tabsT_but {q : Addr} {xs : List V} (t : LamX.Tabs T H) (b : But q H H') (e : H q = some (.lst xs)) : LamX.Tabs T H' := fun p hp => by
  obtain ⟨ps, h1, h2, h3⟩ := t p hp
  refine ⟨ps, b _ _ (ne_of h1 e (by intro z; cases z)) h1, h2, fun pos cv hc => ?_⟩
  obtain ⟨c, e1, e2⟩ := h3 pos cv hc
  exact ⟨c, e1, b _ _ (ne_of e2 e (by intro z; unfold LamX.CodeO at z; cases z)) e2⟩
theorem tabsT_fr {h l C dx : Addr} {fs : List (Str × V)} {xs : List V} (t : LamX.Tabs T H) (f : Fr h l H H') (e1 : H h = some (.ins C dx fs)) (e2 : H l = some (.lst xs)) : LamX.Tabs T H' := fun p hp => by
  obtain ⟨ps, h1, h2, h3⟩ := t p hp
  refine ⟨ps, f _ _ (ne_of h1 e1 (by intro z; cases z)) (ne_of h1 e2 (by intro z; cases z)) h1, h2, fun pos cv hc => ?_⟩
  obtain ⟨c, e3, e4⟩ := h3 pos cv hc
  exact ⟨c, e3, f _ _ (ne_of e4 e1 (by intro z; unfold LamX.CodeO at z; cases z)) (ne_of e4 e2 (by intro z; unfold LamX.CodeO at z; cases z)) e4⟩
theorem tabsT_butI {g C dx : Addr} {fs : List (Str × V)} (t : LamX.Tabs T H) (f : But g H H') (e1 : H g = some (.ins C dx fs)) : LamX.Tabs T H' := fun p hp => by
  obtain ⟨ps, h1, h2, h3⟩ := t p hp
  refine ⟨ps, f _ _ (ne_of h1 e1 (by intro z; cases z)) h1, h2, fun pos cv hc => ?_⟩
  obtain ⟨c, e3, e4⟩ := h3 pos cv hc
  exact ⟨c, e3, f _ _ (ne_of e4 e1 (by intro z; unfold LamX.CodeO at z; cases z)) e4⟩
theorem tabsT_nil (h : ∀ p ∈ T, H p.1 = some (.tbl #[])) : LamX.Tabs T H := fun p hp => LamX.TabS.nil (h p hp)
end
end Ph

namespace Ph
open PySem PySem.Spec PyProof.Rows L2 PySem.Calls HT
section
variable {prog : Program} {w : World} {A : Around} {E : Value → Shared → Prop} {s : Shared}
theorem rev_pick (xs : Array Value) : ((List.range xs.size).filterMap fun (k : Nat) => xs[(((xs.size : Int) - 1) + (k : Int) * (-1)).toNat]?).toArray = xs.toList.reverse.toArray := by
  have e : ((List.range xs.size).filterMap fun (k : Nat) => xs[(((xs.size : Int) - 1) + (k : Int) * (-1)).toNat]?) = ((List.range xs.size).map fun k => xs.size - 1 - k).filterMap (xs[·]?) := by
    rw [List.filterMap_map]
    congr 1
    funext k
    have : (((xs.size : Int) - 1) + (k : Int) * (-1)).toNat = xs.size - 1 - k := by omega
    show xs[_]? = xs[_]?
    rw [this]
  rw [e, PySem.W.krv_range, List.filterMap_reverse, PySem.W.krv_all]
theorem sliceApplied_rev {sl : Addr} {vs : Value} {n : Nat} {Q : Int × Int × Nat → Shared → Prop} (hs : s.heap.IsSliceOf sl .none .none vs) (ps : IsPart vs (some (-1)))
    (h : Q ((n : Int) - 1, -1, n) s) : wpAny (model prog w) A (Builtin.Slice.sliceApplied (.ref sl) (pure (n : Int))) Q E s := by
  obtain ⟨os, hos, hcs, hds⟩ := id hs
  unfold Builtin.Slice.sliceApplied Builtin.Slice.sliceFields
  refine wpAny_bind (wpAny_bind (wpAny_field hos hds (x := .none) rfl (wpAny_bind (wpAny_field hos hds (x := .none) rfl (wpAny_bind (wpAny_field hos hds (x := vs) rfl (wpAny_pure ?_)))))))
  refine wpAny_bind (slicePart_ ps ?_)
  show wpAny _ _ (if ((-1 : Int) == 0) = true then _ else _) _ _ s
  rw [if_neg (by decide)]
  refine wpAny_bind (slicePart_ .none (wpAny_bind (slicePart_ .none (wpAny_bind (wpAny_pure ?_)))))
  show wpAny _ _ (pure (((n : Int) - 1), (-1 : Int), Builtin.Slice.slicePlaces ((n : Int) - 1) (-1) (-1))) _ _ s
  have e : Builtin.Slice.slicePlaces ((n : Int) - 1) (-1) (-1) = n := by
    unfold Builtin.Slice.slicePlaces
    have h1 : ¬ ((-1 : Int) > 0) := by decide
    rw [if_neg h1]
    by_cases h : (n : Int) - 1 > -1
    · rw [if_pos h, show (- -1 : Int) = 1 by decide, Int.ediv_one]
      omega
    · rw [if_neg h]
      omega
  rw [e]
  exact wpAny_pure h
theorem getItem_tuple_rev {t sl : Addr} {items : Array Value} {vs : Value} {Q : Value → Shared → Prop} (ht : IsTup s.heap t items) (hs : s.heap.IsSliceOf sl .none .none vs) (ps : IsPart vs (some (-1)))
    (h : Q (.ref s.heap.objs.size) { s with heap := s.heap.push { cls := .type "tuple", data := .seq items.toList.reverse.toArray } })
    (hsz : items.size ≤ sizeLine) : wpAny (model prog w) A (getItem (.ref t) (.ref sl)) Q E s := by
  have htake : sizeOk (.seq items.toList.reverse.toArray) := by
    show items.toList.reverse.toArray.size ≤ sizeLine
    rw [List.size_toArray, List.length_reverse, Array.length_toList]
    omega
  obtain ⟨os, hos, hcs, hds⟩ := id hs
  have hTs : s.TypeIs (.ref sl) "slice" := ⟨os, hos, hcs⟩
  unfold getItem
  try with_reducible refine wpAny_holding ?_
  first | refine wpAny_bind (wpAny_pure ?_) | skip
  refine wpAny_bind (wpAny_sequenceKey ht.typeIs (by decide) ?_)
  refine wpAny_bind (wpAny_callSpecial?_slot (name := Str.ofString "__getitem__") ht.typeIs PyProof.Rows.slot_tuple_getitem
    (wpAny_call_entry PyProof.Rows.slot_tuple_getitem ht.typeIs entry_tuple_getitem ?_ (args_tuple_getitem _ _)))
  show wpAny _ _ (Builtin.Tuple.tupleItemsOf (.ref t) >>= _) _ _ s
  refine wpAny_bind (tupleItemsOf_ ht ?_)
  refine wpAny_bind (wpAny_typeOf hTs ?_)
  rw [if_pos (by decide)]
  refine wpAny_bind (sliceApplied_rev hs ps ?_)
  have hno : ¬ ((((items.size : Int) - 1) == 0 && (-1 : Int) == 1 && items.size == items.size) = true) := by
    intro q
    rw [Bool.and_eq_true, Bool.and_eq_true] at q
    exact absurd q.1.2 (by decide)
  show wpAny _ _ (if (((items.size : Int) - 1) == 0 && (-1 : Int) == 1 && items.size == items.size) = true then _ else _) _ _ s
  rw [if_neg hno, rev_pick]
  first
    | exact wpAny_bind (m := Builtin.Tuple.tupleExact _) (wpAny_newObj_type (wpAny_pure ⟨_, rfl, wpAny_pure h⟩) htake)
    | exact wpAny_bind (m := Builtin.Tuple.tupleExact _) (wpAny_newObj_type (wpAny_bind (wpAny_pure (wpAny_pure ⟨_, rfl, wpAny_pure h⟩))) htake)
    | exact wpAny_bind (wpAny_bind (m := Builtin.Tuple.tupleExact _) (wpAny_newObj_type (wpAny_pure (wpAny_pure ⟨_, rfl, wpAny_pure h⟩)) htake))
    | exact wpAny_bind (wpAny_bind (m := Builtin.Tuple.tupleExact _) (wpAny_newObj_type (wpAny_pure ⟨_, rfl, wpAny_pure h⟩) htake))
end
section
variable {X : Cx}
/-- t[::-1] of a tuple -/
def tRevT (K : PySem.W.Frag) (te : TE) : TE := fun σ H Q => te σ H fun x H1 => ∃ a xs, x = .ref a ∧ SqT K H1 a xs ∧ ∀ p, H1 p = none → Q (.ref p) (upd H1 p (.tup xs.reverse))
theorem pe_revT {e : Expr} {te : TE} {k : Nat} {p1 p2 p3 pos : Pos} (he : PE X e te) : PE X (.Subscript e (.Slice none none (some (.UnaryOp .USub (.Constant (.int 1) k p1) p2)) p3) pos) (tRevT X.K te) := by
  refine ⟨fun pins s σ H Q I h => ?_⟩
  refine Subscript_ (thn (he.run pins s σ H _ I h) fun v s1 ⟨x, H1, I1, r1, q1⟩ => ?_)
  obtain ⟨a, xs, ex, hx, q⟩ := q1
  subst ex
  cases r1
  have hst : PO X (some (.UnaryOp .USub (.Constant (.int 1) k p1) p2)) (tPart (tUn (rU fun i => .int (-i)) (tC (.int 1)))) := po_some (pe_un un_neg pe_int)
  refine wpAny_Slice (thn (po_none.run pins s1 σ H1 (fun o H2 => o = none ∧ H2 = H1) I1 ⟨rfl, rfl⟩) fun vl s2 ⟨l, H2, I2, pl, el, e2⟩ => ?_)
  subst el e2
  refine thn (po_none.run pins s2 σ H2 (fun o H3 => o = none ∧ H3 = H2) I2 ⟨rfl, rfl⟩) fun vu s3 ⟨u, H3, I3, pu, eu, e3⟩ => ?_
  subst eu e3
  refine thn (hst.run pins s3 σ H3 (fun o H4 => o = some (-1) ∧ H4 = H3) I3 ⟨1, rfl, -1, rfl, rfl, rfl⟩) fun vs s4 ⟨o, H4, I4, ps, eo, e4⟩ => ?_
  subst eo e4
  cases pl
  cases pu
  have I5 : Inv X pins σ H4 { s4 with heap := s4.heap.push { cls := .type "slice", data := .fields #[.none, .none, vs] } } := I4.kept (t' := s4.toks) fun b ob q => Heap.get?_push_of_some _ q
  obtain ⟨its, r, ht, hz⟩ := I5.tuple hx
  have hlen := r.length
  show wpAny (model X.prog X.w) X.A (subscriptTail e (.Slice none none (some (.UnaryOp .USub (.Constant (.int 1) k p1) p2)) p3) (.ref a) (.ref s4.heap.objs.size)) (EP X pins σ Q) X.xe { s4 with heap := s4.heap.push { cls := .type "slice", data := .fields #[.none, .none, vs] } }
  refine tail_any (ops := [.ref a, .ref s4.heap.objs.size]) ht.typeIs (PyProof.Rows.slot_tuple_getitem.lookup) ?_ (by with_unfolding_all rfl)
  refine getItem_tuple_rev ht (Heap.IsSliceOf.new _ .none .none vs) ps ?_ (by rw [List.size_toArray]; omega)
  refine ⟨.ref _, _, I5.laid (t' := s4.toks) (o := .tup xs.reverse) (fun b ob q => Heap.get?_push_of_some _ q) (Nat.le_refl _) ?_, rfl, q _ (I5.hok.fresh (Nat.le_refl _))⟩
  refine ⟨by rw [List.length_reverse]; exact hz, _, r.reverse, ⟨_, Heap.get?_push_size _ rfl, rfl, _, rfl⟩⟩
/-- repr(True), repr(False) -/
def tx (b : Bool) : Str := if b then "True" else "False"
theorem call_repr_bl : CallR X (.builtin "repr") (fun xs H Q => ∃ b, xs = [.bl b] ∧ Q (.str (tx b)) H) := by
  intro pins s σ H xs us Q I r h
  obtain ⟨b, rfl, q⟩ := h
  obtain ⟨u, rfl, r1⟩ := vals1 r
  cases r1
  exact PySem.P.repr_of_bool ⟨.str _, H, I.tok _, ⟨_, rfl⟩, q⟩
end
end Ph

/-! PhEv2: t[::2] of a tuple: every second item. -/
namespace Ph
open PySem PySem.Spec PyProof.Rows L2 PySem.Calls HT
section
variable {prog : Program} {w : World} {A : Around} {E : Value → Shared → Prop} {s : Shared}
def half (n : Nat) : Nat := Builtin.Slice.slicePlaces 0 (n : Int) 2
theorem half_le (n : Nat) : half n ≤ n := by
  unfold half Builtin.Slice.slicePlaces
  rw [if_pos (by decide)]
  by_cases h : (0 : Int) < n
  · rw [if_pos h]
    omega
  · rw [if_neg h]
    exact Nat.zero_le _
def evens {α : Type} (xs : List α) : List α := (List.range (half xs.length)).filterMap fun (k : Nat) => xs[((0 : Int) + (k : Int) * 2).toNat]?
theorem evens_sub {α : Type} (xs : List α) : ∀ x ∈ evens xs, x ∈ xs := fun x hx => by
  obtain ⟨k, _, e⟩ := List.mem_filterMap.mp hx
  exact List.mem_of_getElem? e
theorem evens_len {α : Type} (xs : List α) : (evens xs).length ≤ xs.length := by
  unfold evens
  exact Nat.le_trans (List.length_filterMap_le ..) (by rw [List.length_range]; exact half_le _)
theorem paired_nth {α β : Type} {R : α → β → Prop} : ∀ {l : List α} {m : List β}, Paired R l m → ∀ i : Nat, (l[i]? = none ∧ m[i]? = none) ∨ ∃ a b, l[i]? = some a ∧ m[i]? = some b ∧ R a b
  | _, _, .nil, i => .inl ⟨by simp, by simp⟩
  | _, _, .cons h r, 0 => .inr ⟨_, _, rfl, rfl, h⟩
  | _, _, .cons h r, i + 1 => paired_nth r i
theorem paired_filter {α β γ : Type} {R : α → β → Prop} (f : γ → Option α) (g : γ → Option β) (h : ∀ c, (f c = none ∧ g c = none) ∨ ∃ a b, f c = some a ∧ g c = some b ∧ R a b) : ∀ l : List γ, Paired R (l.filterMap f) (l.filterMap g)
  | [] => .nil
  | c :: r => by
    rcases h c with ⟨e1, e2⟩ | ⟨a, b, e1, e2, hr⟩
    · rw [List.filterMap_cons_none e1, List.filterMap_cons_none e2]
      exact paired_filter f g h r
    · rw [List.filterMap_cons_some e1, List.filterMap_cons_some e2]
      exact .cons hr (paired_filter f g h r)
theorem evens_paired {α β : Type} {R : α → β → Prop} {xs : List α} {ys : List β} (h : Paired R xs ys) : Paired R (evens xs) (evens ys) := by
  unfold evens
  rw [h.length]
  exact paired_filter _ _ (fun k => paired_nth h _) _
theorem ev_pick (xs : Array Value) : ((List.range (half xs.size)).filterMap fun (k : Nat) => xs[((0 : Int) + (k : Int) * 2).toNat]?).toArray = (evens xs.toList).toArray := by
  unfold evens
  rw [Array.length_toList]
  congr 2
  funext k
  rw [Array.getElem?_toList]
theorem sliceApplied_ev {sl : Addr} {vs : Value} {n : Nat} {Q : Int × Int × Nat → Shared → Prop} (hs : s.heap.IsSliceOf sl .none .none vs) (ps : IsPart vs (some 2))
    (h : Q (0, 2, half n) s) : wpAny (model prog w) A (Builtin.Slice.sliceApplied (.ref sl) (pure (n : Int))) Q E s := by
  obtain ⟨os, hos, hcs, hds⟩ := id hs
  unfold Builtin.Slice.sliceApplied Builtin.Slice.sliceFields
  refine wpAny_bind (wpAny_bind (wpAny_field hos hds (x := .none) rfl (wpAny_bind (wpAny_field hos hds (x := .none) rfl (wpAny_bind (wpAny_field hos hds (x := vs) rfl (wpAny_pure ?_)))))))
  refine wpAny_bind (slicePart_ ps ?_)
  show wpAny _ _ (if ((2 : Int) == 0) = true then _ else _) _ _ s
  rw [if_neg (by decide)]
  refine wpAny_bind (slicePart_ .none (wpAny_bind (slicePart_ .none (wpAny_bind (wpAny_pure ?_)))))
  show wpAny _ _ (pure ((0 : Int), (2 : Int), Builtin.Slice.slicePlaces 0 (n : Int) 2)) _ _ s
  exact wpAny_pure h
theorem getItem_tuple_ev {t sl : Addr} {items : Array Value} {vs : Value} {Q : Value → Shared → Prop} (ht : IsTup s.heap t items) (hs : s.heap.IsSliceOf sl .none .none vs) (ps : IsPart vs (some 2))
    (h : Q (.ref s.heap.objs.size) { s with heap := s.heap.push { cls := .type "tuple", data := .seq (evens items.toList).toArray } })
    (hsz : items.size ≤ sizeLine) : wpAny (model prog w) A (getItem (.ref t) (.ref sl)) Q E s := by
  have htake : sizeOk (.seq (evens items.toList).toArray) := by
    show (evens items.toList).toArray.size ≤ sizeLine
    have := evens_len items.toList
    have e : items.toList.length = items.size := Array.length_toList
    show (evens items.toList).length ≤ sizeLine
    omega
  obtain ⟨os, hos, hcs, hds⟩ := id hs
  have hTs : s.TypeIs (.ref sl) "slice" := ⟨os, hos, hcs⟩
  unfold getItem
  try with_reducible refine wpAny_holding ?_
  first | refine wpAny_bind (wpAny_pure ?_) | skip
  refine wpAny_bind (wpAny_sequenceKey ht.typeIs (by decide) ?_)
  refine wpAny_bind (wpAny_callSpecial?_slot (name := Str.ofString "__getitem__") ht.typeIs PyProof.Rows.slot_tuple_getitem
    (wpAny_call_entry PyProof.Rows.slot_tuple_getitem ht.typeIs entry_tuple_getitem ?_ (args_tuple_getitem _ _)))
  show wpAny _ _ (Builtin.Tuple.tupleItemsOf (.ref t) >>= _) _ _ s
  refine wpAny_bind (tupleItemsOf_ ht ?_)
  refine wpAny_bind (wpAny_typeOf hTs ?_)
  rw [if_pos (by decide)]
  refine wpAny_bind (sliceApplied_ev hs ps ?_)
  have hno : ¬ (((0 : Int) == 0 && (2 : Int) == 1 && half items.size == items.size) = true) := by
    intro q
    rw [Bool.and_eq_true, Bool.and_eq_true] at q
    exact absurd q.1.2 (by decide)
  show wpAny _ _ (if ((0 : Int) == 0 && (2 : Int) == 1 && half items.size == items.size) = true then _ else _) _ _ s
  rw [if_neg hno, ev_pick]
  first
    | exact wpAny_bind (m := Builtin.Tuple.tupleExact _) (wpAny_newObj_type (wpAny_pure ⟨_, rfl, wpAny_pure h⟩) htake)
    | exact wpAny_bind (m := Builtin.Tuple.tupleExact _) (wpAny_newObj_type (wpAny_bind (wpAny_pure (wpAny_pure ⟨_, rfl, wpAny_pure h⟩))) htake)
    | exact wpAny_bind (wpAny_bind (m := Builtin.Tuple.tupleExact _) (wpAny_newObj_type (wpAny_pure (wpAny_pure ⟨_, rfl, wpAny_pure h⟩)) htake))
    | exact wpAny_bind (wpAny_bind (m := Builtin.Tuple.tupleExact _) (wpAny_newObj_type (wpAny_pure ⟨_, rfl, wpAny_pure h⟩) htake))
end
section
variable {X : Cx}
/-- t[::2] of a tuple -/
def tEvT (K : PySem.W.Frag) (te : TE) : TE := fun σ H Q => te σ H fun x H1 => ∃ a xs, x = .ref a ∧ SqT K H1 a xs ∧ ∀ p, H1 p = none → Q (.ref p) (upd H1 p (.tup (evens xs)))
theorem pe_evT {e : Expr} {te : TE} {k : Nat} {p1 p3 pos : Pos} (he : PE X e te) : PE X (.Subscript e (.Slice none none (some (.Constant (.int 2) k p1)) p3) pos) (tEvT X.K te) := by
  refine ⟨fun pins s σ H Q I h => ?_⟩
  refine Subscript_ (thn (he.run pins s σ H _ I h) fun v s1 ⟨x, H1, I1, r1, q1⟩ => ?_)
  obtain ⟨a, xs, ex, hx, q⟩ := q1
  subst ex
  cases r1
  have hst : PO X (some (.Constant (.int 2) k p1)) (tPart (tC (.int 2))) := po_some pe_int
  refine wpAny_Slice (thn (po_none.run pins s1 σ H1 (fun o H2 => o = none ∧ H2 = H1) I1 ⟨rfl, rfl⟩) fun vl s2 ⟨l, H2, I2, pl, el, e2⟩ => ?_)
  subst el e2
  refine thn (po_none.run pins s2 σ H2 (fun o H3 => o = none ∧ H3 = H2) I2 ⟨rfl, rfl⟩) fun vu s3 ⟨u, H3, I3, pu, eu, e3⟩ => ?_
  subst eu e3
  refine thn (hst.run pins s3 σ H3 (fun o H4 => o = some 2 ∧ H4 = H3) I3 ⟨2, rfl, rfl, rfl⟩) fun vs s4 ⟨o, H4, I4, ps, eo, e4⟩ => ?_
  subst eo e4
  cases pl
  cases pu
  have I5 : Inv X pins σ H4 { s4 with heap := s4.heap.push { cls := .type "slice", data := .fields #[.none, .none, vs] } } := I4.kept (t' := s4.toks) fun b ob q => Heap.get?_push_of_some _ q
  obtain ⟨its, r, ht, hz⟩ := I5.tuple hx
  have hlen := r.length
  show wpAny (model X.prog X.w) X.A (subscriptTail e (.Slice none none (some (.Constant (.int 2) k p1)) p3) (.ref a) (.ref s4.heap.objs.size)) (EP X pins σ Q) X.xe { s4 with heap := s4.heap.push { cls := .type "slice", data := .fields #[.none, .none, vs] } }
  refine tail_any (ops := [.ref a, .ref s4.heap.objs.size]) ht.typeIs (PyProof.Rows.slot_tuple_getitem.lookup) ?_ (by with_unfolding_all rfl)
  refine getItem_tuple_ev ht (Heap.IsSliceOf.new _ .none .none vs) ps ?_ (by rw [List.size_toArray]; omega)
  refine ⟨.ref _, _, I5.laid (t' := s4.toks) (o := .tup (evens xs)) (fun b ob q => Heap.get?_push_of_some _ q) (Nat.le_refl _) ?_, rfl, q _ (I5.hok.fresh (Nat.le_refl _))⟩
  refine ⟨Nat.le_trans (evens_len xs) hz, _, evens_paired r, ⟨_, Heap.get?_push_size _ rfl, rfl, _, rfl⟩⟩
end
end Ph

namespace Ph
open PySem PySem.Spec PyProof.Rows L2
section
variable {prog : Program} {w : World} {A : Around} {E : Value → Shared → Prop} {s : Shared} {K : PySem.W.Frag} {x C f : Addr} {ox : Obj} {odd : Option Obj}
/-- len(x), own __len__ -/
theorem len_own2 {Q : Value → Shared → Prop} (X : K.In s.heap) (I : PySem.W.InstAt s.heap x ox C odd) (hs : PySem.W.findIn K (.ref C) "__len__" = some (some (.ref f))) (hf : PySem.W.isFn K (.ref f) = true)
    (hcall : wpAny (model prog w) A.in1 (call (.ref f) [.ref x]) (fun r s' => ∃ n u, r = .int n u ∧ 0 ≤ n ∧ n < 2 ^ 63 ∧ Q (.int n s'.toks) { s' with toks := s'.toks + 1 }) E s) :
    wpAny (model prog w) A (call (.builtin "len") [.ref x]) Q E s := by
  refine Calls.call_function_entry kind_len plain_len entry_len (args_len1 _) ?_
  unfold Builtin.«len»
  refine wpAny_bind (m := oneArg "len" _) (wpAny_pure ?_)
  refine wpAny_bind (m := callSpecial? (.ref x) (Str.ofString "__len__")) (PySem.W.special_fn X I hs (beq_iff_eq.mp hf) (wpAny_mono hcall (fun r s' hr => ?_) fun _ _ y => y))
  obtain ⟨n, u, rfl, h0, h1, hq⟩ := hr
  refine wpAny_bind (wpAny_holding (wpAny_pure ?_))
  refine wpAny_bind (wpAny_letGo ?_)
  show wpAny _ _ (if n < 0 then _ else _) _ _ _
  rw [if_neg (by omega)]
  show wpAny _ _ (if n ≥ 2 ^ 63 then _ else _) _ _ _
  rw [if_neg (by omega)]
  exact wpAny_bind (wpAny_mkInt (wpAny_pure ⟨_, rfl, hq⟩))
end
section
variable {X : Cx} {C f : Addr} {fd : FuncData} {sp : Sp} {CX : List Env → Hp → Shared → XK → Value → Shared → Prop} {E : XK} {k : Nat} {ps : List Str}
def rLenOwn (C : Addr) (sp : Sp) (E : XK) : List V → Hp → VK → Prop := fun xs H Q => ∃ a dx fs, xs = [V.ref a] ∧ H a = some (.ins C dx fs) ∧ sp [.ref a] H (fun z H' => ∃ n : Nat, z = .int (n : Int) ∧ n ≤ 1000000000 ∧ Q (.int (n : Int)) H') E
theorem call_lenOwn (hm : Meth X.K C "__len__" f) (F : FnOk X.prog X.w X.K X.mg X.base CX k f fd ps sp) (hr : Room (k + 1) X.A) (hb : Binds X.K fd ps []) (hx : Passes CX X E) : CallR X (.builtin "len") (rLenOwn C sp E) := by
  intro pins s σ H xs us Q I r h
  obtain ⟨a, dx, fs, rfl, ea, q⟩ := h
  obtain ⟨u, rfl, ru⟩ := r.one
  cases (show u = Value.ref a from ru)
  obtain ⟨mA, O, _, _, _, _⟩ := ins_get I.hok ea
  obtain ⟨od, J, _⟩ := O.look
  have hl : ([Value.ref a] ++ ([] : List Value)).length = ps.length := by
    have := F.len _ _ _ _ q
    simpa using this
  have rv : Vals [V.ref a] ([Value.ref a] ++ ([] : List Value)) := .cons rfl .nil
  have run : wpAny (model X.prog X.w) X.A.in1 (call (.ref f) [.ref a]) (EP X pins σ fun z H' => ∃ n : Nat, z = .int (n : Int) ∧ n ≤ 1000000000 ∧ Q (.int (n : Int)) H') X.xe s := by
    refine wpAny_call (codeAny_mono (F.run X.A.in1 X.stack s H ⟨[.ref a], []⟩ ([Value.ref a] ++ []) [.ref a] _ E hr.in1 I.env0.in1 (hb s [.ref a] I.kIn hl) rv q) fun r s' hq => ?_)
    cases r with
    | error e => exact hx pins σ H s e s' I hq
    | ok fl =>
      cases fl with
      | ret u => exact I.after hq
      | next => exact False.elim hq
      | brk => exact False.elim hq
      | cont => exact False.elim hq
  refine len_own2 I.kIn J hm.at_ hm.fn (wpAny_mono run (fun w s' z => ?_) fun _ _ x => x)
  · obtain ⟨z', H', I', rz, n, en, hn, qz⟩ := z
    subst en
    obtain ⟨t, e⟩ := (show ∃ t, w = Value.int (n : Int) t from rz)
    cases e
    exact ⟨n, t, rfl, by omega, by omega, .int n, H', I'.tok _, ⟨_, rfl⟩, qz⟩
end
end Ph

set_option maxHeartbeats 4000000
/-! PhAct: a lambda handed to a def that calls it within try: what is raised may speak of the slots of that def. -/
namespace Ph
open PySem PySem.Spec PyProof.Rows L2 LamX
section
variable {X : Cx} {pins : List (Addr × Obj)} {σ : L2.St} {H : Hp} {s : Shared}
/-- the context of the def that got the lambda -/
abbrev gotCx (X : Cx) (Ng : List Str) (x : Str) (sg : Scope) (g : Addr) (cdg : Value) (s : Shared) (H : Hp) : Cx := cxOf C8.CX0 X.prog X.w X.K X.mg X.base Ng x sg g cdg X.A X.stack s H C8.E0
/-- what a() reads there -/
def tAct (f c' : Addr) (q : Str) (tl : XK → Hp → VK → Prop) (W : WX) : TE := fun σZ HZ Q => σZ[0]? = some (some (.ref f)) ∧ HZ c' = some (CodeO c' q) ∧ ∃ E : XK, (∀ cls d H', E cls d H' → W cls d σZ H') ∧ tl E HZ Q
theorem pe_actS {Ng : List Str} {x : Str} {sg : Scope} {g f c' : Addr} {cdg pm ctv : Value} {params : Arguments} {body : Expr} {scope : Scope} {k : Nat} {a : Str} {pn : List (Addr × Obj)} {xe : Value → Shared → Prop} {W : WX} {p1 p2 : Pos} {t : XK → TE}
    (I : Inv X pins σ H s) (L : LamS X.env.scope scope) (obj : s.heap.get? f = some (PySem.W.kla_obj "<lambda>" (X.env.qual ++ "<lambda>") params body scope (cloFrom X.env.cells scope.names []) pm c' ctv)) (untr : H f = none) (offF : f ∉ frs X.stack)
    (bnd : bindArgs (PySem.W.kla_fn "<lambda>" (X.env.qual ++ "<lambda>") params body scope (cloFrom X.env.cells scope.names []) pm (.ref c') ctv) ⟨[], []⟩ = pure [])
    (tk : Takes ((gotCx X Ng x sg g cdg s H).tr pn xe) W) (room : Room (k + 1) (X.A.deeper (envOfC x sg s.heap.objs.size g cdg)))
    (hbody : ∀ (A : Around) (outer : List Env) (s : Shared) (H : Hp) (E : XK), Room k (A.deeper (lamEnv X scope s.heap.objs.size f c')) → PE (lamCx X A outer s H E scope f c') body (t E))
    (hN : Ng[0]? = some a) (hv : Vis sg a) (hd : (a == ("__debug__" : Str)) = false) (hcd : (a == ("__classdict__" : Str)) = false) :
    PE ((gotCx X Ng x sg g cdg s H).tr pn xe) (.Call (.Name a p1) [] [] p2) (tAct f c' (X.env.qual ++ "<lambda>") (fun E H' Q' => t E σ H' Q') W) := by
  constructor
  rintro pinsZ sZ σZ HZ Q IZ ⟨at0, code, E, hW, want⟩
  refine wpAny_Call_Name_kw (thn ((pe_var (pos := p1) (i := 0) hN hv hd hcd).run pinsZ sZ σZ HZ (fun v G => v = .ref f ∧ G = HZ) IZ ⟨.ref f, at0, rfl, rfl⟩) fun u s1 ⟨v, G, I1, rel, hval⟩ => ?_)
  obtain ⟨rfl, rfl⟩ := hval
  obtain rfl : u = Value.ref f := rel
  have un : Un (frs X.stack) [] H G s.heap s1.heap := I1.base
  have still := un.keep f _ obj untr offF (fun z => List.not_mem_nil z)
  obtain ⟨⟨oc, vs, tq, get, dat, nm⟩, _, _⟩ := I1.hok c' _ code
  refine PySem.W.callWith_F0 ⟨_, _, _, _, still⟩ (wpAny_call ?_)
  have run : codeAny (model X.prog X.w) (X.A.deeper (envOfC x sg s.heap.objs.size g cdg)) (.call (.ref f) ⟨[], []⟩) (CR (L2.CX X.prog X.w) (envOfC x sg s.heap.objs.size g cdg :: X.stack) X.prog X.w G s1 Q E) s1 := by
    refine PySem.W.kla_callFunE room.depth still rfl L.co L.gen rfl ⟨c', oc, vs, tq, rfl, get, dat, nm⟩ ?_
    rw [bnd]
    refine wpAny_pure (wpAny_newFunctionEnv (fun y hy => (L.own y hy).2) (fun y hy => (List.not_mem_nil hy).elim) (fun h₁ ns sub => ⟨I1.nolimit.fresh _ sub, ?_⟩) L.kind)
    show codeAny _ _ (.expr body (lamEnv X scope s1.heap.objs.size f c')) _ _
    have grows : ∀ b o, s1.heap.get? b = some o → h₁.get? b = some o := fun b o e => sub.extBut b o (Nat.ne_of_lt (Heap.lt_size e)) (Heap.get?_push_of_some _ e)
    have J := lam_start2 (A := X.A.deeper (envOfC x sg s.heap.objs.size g cdg)) (outer := envOfC x sg s.heap.objs.size g cdg :: X.stack) (E := E) (f := f) (c' := c') (tk := s1.toks + ([] : List (Str × Value)).length) I L I1.env0 room.hd un ns grows
    exact PySem.W.kla_codeExpr (wpAny_mono ((hbody _ _ s1 G E (room.deeper _)).run [] _ _ G Q J want) (fun v s' ⟨y, G', J', r', q'⟩ => ⟨y, G', J'.os, J'.bare, J'.base, J'.hok, r', q'⟩) fun e s' hq => hq)
  refine codeAny_mono run fun r s' out => ?_
  match r, out with
  | .error e, out => exact tk e s' (XE.of_call I1 (fun cls d H' h => hW cls d H' h) out)
  | .ok (.ret u), out => exact I1.after out
end
/-- the def that calls what it got within try -/
def GivesS (X : Cx) (Ng : List Str) (x : Str) (sg : Scope) (g : Addr) (cdg : Value) (bg : List Stmt) (a : Str) (q : Str) (TT : (XK → Hp → VK → Prop) → Hp → VK → Prop) : Prop :=
  ∀ (f c' : Addr) (s : Shared) (H : Hp) (Q : VK) (tl : XK → Hp → VK → Prop),
    (∀ (W : WX) (pn : List (Addr × Obj)) (xe : Value → Shared → Prop) (p1 p2 : Pos), Takes ((gotCx X Ng x sg g cdg s H).tr pn xe) W → PE ((gotCx X Ng x sg g cdg s H).tr pn xe) (.Call (.Name a p1) [] [] p2) (tAct f c' q tl W)) →
    H c' = some (CodeO c' q) → TT tl H Q →
    ∃ t, PSs (gotCx X Ng x sg g cdg s H).nox bg t ∧ t { nx := fun _ H' => Q .non H', rt := Q } (L2.start Ng [.ref f]) H
section
variable {X : Cx}
/-- x(lambda: body), x a def of the top that is known as Fun -/
theorem pe_lamS {T : List (Addr × Str)} {TT : (XK → Hp → VK → Prop) → Hp → VK → Prop} {x a : Str} {g c P : Addr} {k : Nat} {st : Stmt} {fd : FuncData} {Ng : List Str} {params : Arguments} {body : Expr} {scope : Scope} {t : XK → TE} {p lpos pos : Pos}
    (gl : Gl X x) (hm : X.mg x = some (.ref g)) (F : Fun X.K x x st g fd) (hb : L2.Binds X.K fd [a] []) (Sg : FnScope Ng [a] (defScope st)) (at0 : Ng[0]? = some a) (vis : Vis (defScope st) a)
    (gives : ∀ cdv : Value, GivesS X Ng x (defScope st) g cdv (defBody st) a (X.env.qual ++ "<lambda>") TT) (TB : TabB X.base X.mg c P) (hcode : X.env.code = .ref c) (inT : (P, X.env.qual ++ "<lambda>") ∈ T) (one : ∀ p ∈ T, p.1 = P → p.2 = X.env.qual ++ "<lambda>")
    (room : Room (k + 2) X.A) (L : LamS X.env.scope scope) (hdef : defaultsOf params X.env = ([], [])) (bnd : ∀ (q : Str) (cl : List (Str × Addr)) (pm cv ctv : Value), bindArgs (PySem.W.kla_fn "<lambda>" q params body scope cl pm cv ctv) ⟨[], []⟩ = pure [])
    (hbody : ∀ (A : Around) (outer : List Env) (s : Shared) (H : Hp) (E : XK) (f c' : Addr), Room k (A.deeper (lamEnv X scope s.heap.objs.size f c')) → PE (lamCx X A outer s H E scope f c') body (t E))
    (hdb : (x == ("__debug__" : Str)) = false := by decide) (hd : (a == ("__debug__" : Str)) = false := by decide) (hcd : (a == ("__classdict__" : Str)) = false := by decide) :
    PE X (.Call (.Name x p) [.Lambda params body scope lpos] [] pos) (tLam T TT t) := by
  obtain ⟨oc, od, kV, doc, pm, an, cdv, ct, osl, rfl, lk, hcd2⟩ := F.ex
  constructor
  rintro pins s σ H Q I ⟨tabs, want⟩
  refine wpAny_Call_Name_kw (ld_glob I gl hm ?_ hdb)
  refine PySem.W.callWith_K (h₀ := X.base) I.ok.mod.kin F.kp ?_ (by rfl) (by rfl)
  show wpAny _ _ (spliced ((false, eval (.Lambda params body scope lpos) X.env) :: backTo pos (starEach [] X.env))) _ _ s
  refine Calls.spliced_cons (lam_make2 I TB hcode inT one tabs hdef (L.has I.ok) fun f c' pm' ctv H1 s' I1 grown tabs1 obj untr offF code => Calls.spliced_nil ⟨I1.kIn, ?_⟩)
  refine wpAny_call (codeAny_mono (R := CR C8.CX0 X.stack X.prog X.w H1 s' Q C8.E0) ?_ fun r s2 out => ?_)
  · refine run_ofS (N := Ng) (ps := [a]) (us := [.ref f]) (vs := [.ref f]) lk hcd2 Sg room I1.env0 (hb s' [.ref f] I1.kIn rfl) (.cons rfl .nil) rfl fun room2 => ?_
    obtain ⟨t', ht', hq'⟩ := gives cdv f c' s' H1 Q (fun E H' Q' => t E σ H' Q') (fun W pn xe p1 p2 tk => pe_actS I1 L obj untr offF (bnd _ _ _ _ _) tk room2 (fun A outer s H E hr2 => hbody A outer s H E f c' hr2) at0 vis hd hcd) code (want H1 grown tabs1)
    exact ⟨t', ht'.nox, hq'⟩
  · match r, out with
    | .error e, out => exact (show False from out).elim
    | .ok (.ret u), out => exact I1.after out
end
end Ph

/-! PhTyq: the type of any data, for isinstance by a built-in class. -/
namespace Ph
open PySem PySem.Spec PyProof.Rows L2
def tyN : PyData → String
  | .none => "NoneType" | .bool _ => "bool" | .int _ => "int" | .str _ => "str" | .list _ => "list" | .tuple _ => "tuple" | .dict _ => "dict"
theorem sqL_ty {K : PySem.W.Frag} {H : Hp} {a : Addr} {xs : List V} (h : SqL K H a xs) : TyX K H (.ref a) (.type "list") := by
  rcases h with (e | ⟨o, e⟩) | ⟨o, its, n, e, c, _⟩
  · exact .base (.lst e)
  · exact .base (.frz e)
  · exact .kList e c
theorem sqT_ty {K : PySem.W.Frag} {H : Hp} {a : Addr} {xs : List V} (h : SqT K H a xs) : TyX K H (.ref a) (.type "tuple") := by
  rcases h with (e | ⟨o, e⟩) | ⟨o, its, n, e, c, _⟩
  · exact .base (.tup e)
  · exact .fTuple e
  · exact .kTuple e c
theorem rdK_ty {K : PySem.W.Frag} {H : Hp} {a : Addr} {xs : List (Key × V)} (h : Rd H a (.dK xs)) : TyX K H (.ref a) (.type "dict") := by
  rcases h with e | ⟨o, e⟩
  · exact .base (.dK e)
  · exact .fDict e
theorem dq_ty {K : PySem.W.Frag} {H : Hp} {x : V} {d : PyData} (h : Dq K H x d) : TyX K H x (.type (tyN d)) := by
  cases h with
  | non => exact .base .non
  | bl b => exact .base (.bl b)
  | int i => exact .base (.int i)
  | str y => exact .base (.str y)
  | lst hs ha => exact sqL_ty hs
  | tup hs ha => exact sqT_ty hs
  | dct hs ha => exact rdK_ty hs
/-- is it a text -/
def isSt : V → Bool | .str _ => true | _ => false
def isInt : V → Bool | .int _ => true | .bl _ => true | _ => false
theorem dq_str {K : PySem.W.Frag} {H : Hp} {x : V} {d : PyData} (h : Dq K H x d) : kitB (tyN d) "str" = some (isSt x) := by cases h <;> (dsimp only [tyN, isSt, isInt]; decide +kernel)
theorem dq_isInt {K : PySem.W.Frag} {H : Hp} {x : V} {d : PyData} (h : Dq K H x d) : kitB (tyN d) "int" = some (isInt x) := by cases h <;> (dsimp only [tyN, isSt, isInt]; decide +kernel)
end Ph
namespace Ph
open PySem PySem.Spec PyProof.Rows L2
def isTu : PyData → Bool | .tuple _ => true | _ => false
theorem dq_isTu {K : PySem.W.Frag} {H : Hp} {x : V} {d : PyData} (h : Dq K H x d) : kitB (tyN d) "tuple" = some (isTu d) := by cases h <;> (dsimp only [tyN, isTu]; decide +kernel)
end Ph

/-! PhDeq: a dict is never equal to a text. -/
namespace Ph
open PySem PySem.SeqAt
open AutoSeq1 (wpAny_loadPart')
open MeetsSeq
theorem dict_declines (l : Addr) (c : Value) (dt : Data) (dd : Option Addr) (sl : Array (Option Value)) (b : Str) (u : Tok) :
    Meets (Builtin.«dict.__eq__» ⟨[.ref l, .str b u], []⟩) (fun _ R s => s.heap.get? l = some { cls := c, dict := dd, data := dt, slots := sl } ∧ R (.ok (.ret .notImplemented)) s) :=
  .of_wp fun prog w A R s h => by obtain ⟨hp, g, d, tk, os⟩ := s; obtain ⟨hl, h⟩ := h; have f1 := F.sub_str_dict; wp_walk using wpAny_loadPart' hl; exact ⟨_, rfl, h⟩
theorem str_declines (b : Str) (u : Tok) (l : Addr) (c : Value) (ks : Array DictEntry) (n : Nat) (dd : Option Addr) (sl : Array (Option Value)) :
    Meets (Builtin.«str.__eq__» ⟨[.str b u, .ref l], []⟩) (fun _ R s => s.heap.get? l = some { cls := c, dict := dd, data := .dict ks n, slots := sl } ∧ R (.ok (.ret .notImplemented)) s) :=
  .of_wp fun prog w A R s h => by obtain ⟨hp, g, d, tk, os⟩ := s; obtain ⟨hl, h⟩ := h; wp_walk using wpAny_loadPart' hl, wpAny_load hl; exact ⟨_, rfl, h⟩
section
variable {A : Around} {s : Shared}
theorem eq_str_dict {l : Addr} {c : Value} {ks : Array DictEntry} {n : Nat} {dd : Option Addr} {sl : Array (Option Value)} (b : Str) (u : Tok) (ho : s.heap.get? l = some { cls := .type "dict", dict := dd, data := .dict ks n, slots := sl }) (hu : A.units < cLine) : EqAt A s (.str b u) (.ref l) false := fun prog w E Q h => by
  have rc : RcAt A s (.str b u) (.ref l) false := fun prog w E Q h =>
    rc_eq_decline_or (k := false) (typeIs_str s b u) ⟨_, ho, rfl⟩ (by decide) F.sub_dict_str F.slot_str_eq F.slot_dict_eq_refl
      (fun _ hq => call_meets F.slot_str_eq (typeIs_str s b u) F.entry_str_eq (F.args_str_eq_2 _ _) (str_declines b u l (.type "dict") ks n dd sl) ⟨ho, hq⟩)
      (fun _ hq => call_meets F.slot_dict_eq_refl ⟨_, ho, rfl⟩ F.entry_dict_eq (F.args_dict_eq_2 _ _) (dict_declines l (.type "dict") (.dict ks n) dd sl b u) ⟨ho, hq⟩)
      (fun _ hq => wpAny_of_eq (rfl : isSame (.str b u) (.ref l) = pure false) hq) (.inr hu) h
  unfold eqBool
  refine wpAny_holding ?_
  refine wpAny_ite_split (fun hab => absurd (eq_of_beq hab) nofun) (fun _ => ?_)
  exact wpAny_bind (rc prog w E _ (wpAny_truthy_bool h))
end
open PySem.Spec PyProof.Rows L2
section
variable {X : Cx}
theorem vals_strs {f : Str → Bool} : ∀ {ss : List Str} {its : List Value}, Vals (ss.map V.str) its → (∀ y ∈ its, ∃ z t, y = .str z t) ∧ (its.any fun y => match y with | .str z _ => f z | _ => false) = ss.any f
  | [], its, h => by cases h; exact ⟨(fun _ z => nomatch z), rfl⟩
  | z :: r, _, h => by
    cases h with
    | cons h1 h2 =>
      obtain ⟨t, rfl⟩ := h1
      obtain ⟨i1, i2⟩ := vals_strs (f := f) h2
      refine ⟨fun y hy => ?_, ?_⟩
      · rcases List.mem_cons.mp hy with e | e
        · exact ⟨z, t, e⟩
        · exact i1 y e
      · simp only [List.any_cons, i2]
/-- x in t, t a tuple of texts, x any data -/
def rInW (K : PySem.W.Frag) : R2 := fun x y H Q => ∃ d t, ∃ ss : List Str, y = .ref t ∧ Dq K H x d ∧ SqT K H t (ss.map V.str) ∧ Q (.bl (ss.any fun s => decide (x = V.str s))) H
theorem op_inW (hu : X.A.units + 1 < cLine) : OpR X (compareOp .In) (rInW X.K) := by
  intro pins s σ H x y v u Q I rx ry h
  obtain ⟨d, t, ss, rfl, dx, st, q⟩ := h
  obtain rfl : u = Value.ref t := ry
  obtain ⟨its, rv, p, _⟩ := I.tuple st
  have hu1 : X.A.in1.units < cLine := hu
  have key : ∀ z t', EqAt X.A.in1 s (.str z t') v (decide (x = V.str z)) := fun z t' => by
    cases dx with
    | non => obtain rfl : v = Value.none := rx; exact EqAt.str_none z t'
    | bl b => obtain rfl : v = Value.bool b := rx; exact EqAt.str_bool z t' b
    | int i => obtain ⟨t2, rfl⟩ := rx; exact EqAt.str_int z t' i t2
    | str y => 
      obtain ⟨t2, rfl⟩ := rx
      have e : (z == y) = decide (V.str y = V.str z) := by
        by_cases c : z = y
        · subst c; simp
        · have : ¬ (V.str y = V.str z) := fun w => c (by cases w; rfl)
          simp [c, this]
      exact e ▸ EqAt.str_str z t' y t2
    | @lst a xs ds hs ha =>
      obtain rfl : v = Value.ref a := rx
      obtain ⟨its, _, p, _⟩ := I.list hs
      exact EqAt.str_list z t' p.isList hu1
    | @tup a xs ds hs ha =>
      obtain rfl : v = Value.ref a := rx
      obtain ⟨its, _, p, _⟩ := I.tuple hs
      exact EqAt.str_tuple z t' p hu1
    | @dct a kvs D hs hk =>
      obtain rfl : v = Value.ref a := rx
      obtain ⟨_, ne, vs, kv, o, es, ep, ho, hx, hdat, _, hp, _⟩ := hs.ok I.hok
      obtain ⟨cls, dd, data, sl⟩ := o
      obtain rfl : cls = .type "dict" := hx.1
      obtain rfl : data = .dict es ep := hdat
      exact eq_str_dict (c := .none) z t' ho hu1
  refine in_tupleAt (fun y => match y with | .str z _ => decide (x = V.str z) | _ => false) p (fun y hy => ?_) ⟨.bl _, H, I, ?_, q⟩
  · obtain ⟨z, t', rfl⟩ := (vals_strs (f := fun z => decide (x = V.str z)) rv).1 y (by simpa using hy)
    exact key z t'
  · have e := (vals_strs (f := fun z => decide (x = V.str z)) rv).2
    rw [← e]
    simp
    rfl
end
end Ph

/-! PhKt: isinstance of a kept error by a tuple of classes. -/
namespace Ph
open PySem PySem.Spec PyProof.Rows L2
section
variable {X : Cx}
def rIsKt (K : PySem.W.Frag) : List V → Hp → VK → Prop := fun xs H Q => ∃ (a D t : Addr) (d : Option Addr) (cs : List V) (cvs : List Value) (b : Bool), xs = [.ref a, .ref t] ∧ H a = some (ExK (.ref D) d a) ∧ ExcC K D ∧ DictK H d ∧ H t = some (.tup cs) ∧
  (∀ us, Vals cs us → us = cvs) ∧ PySem.W.kitAny K (.ref D) cvs = some b ∧ Q (.bl b) H
theorem call_isKt : CallR X (.builtin "isinstance") (rIsKt X.K) := by
  intro pins s σ H xs us Q I r h
  obtain ⟨a, D, t, d, cs, cvs, b, rfl, ea, C, k, ht, hcv, e, q⟩ := h
  obtain ⟨ua, uc, rfl, ra, rc⟩ : ∃ ua uc, us = [ua, uc] ∧ RelV (.ref a) ua ∧ RelV (.ref t) uc := by
    cases r with
    | cons r1 r2 => cases r2 with
      | cons r3 r4 =>
        cases r4
        exact ⟨_, _, rfl, r1, r3⟩
  obtain rfl : ua = Value.ref a := ra
  obtain rfl : uc = Value.ref t := rc
  obtain ⟨oe, hget, hz, hf⟩ := exK_at I ea
  obtain ⟨od, J⟩ := inst_at I.hok hget hz hf k
  have cl : (PySem.W.clsIn X.K D).isSome = true := by
    obtain ⟨cd, hc, _⟩ := PySem.W.any_some C.hd
    rw [hc]
    rfl
  have hx : ObjOk X.prog X.w H s.heap t (.tup cs) := I.hok t _ ht
  obtain ⟨_, its, rv, o, ho, hc, n, hdat⟩ := hx
  obtain rfl := hcv _ rv
  obtain ⟨oc, odd, oda, osl⟩ := o
  dsimp only at hc hdat
  subst hc hdat
  exact PySem.W.kia_tup (PySem.W.kitx_exc (od := od) cl C.hg C.hk C.hs C.ha C.hn C.ht C.hm) I.kIn J ho e (fun z => nomatch z) fun tk => ⟨.bl b, H, I.kept (t' := tk) fun _ _ z => z, rfl, q⟩
def rIsV (K : PySem.W.Frag) : List V → Hp → VK → Prop := fun xs H Q => rIsK K xs H Q ∨ rIsKt K xs H Q
theorem call_isV : CallR X (.builtin "isinstance") (rIsV X.K) := fun pins s σ H xs us Q I r h => h.elim (call_isK pins s σ H xs us Q I r) (call_isKt pins s σ H xs us Q I r)
end
end Ph

namespace Ph
open PySem PySem.Spec PyProof.Rows L2
section
variable {X : Cx}
/-! ### t + u of two that are not empty: a new one whose object is known -/
def rCatF (K : PySem.W.Frag) : R2 := fun x y H Q => ∃ a b xs ys, x = .ref a ∧ y = .ref b ∧ SqT K H a xs ∧ SqT K H b ys ∧ xs ≠ [] ∧ ys ≠ [] ∧ xs.length + ys.length ≤ sizeLine ∧
  ∀ p (o : Obj), H p = none → o.dict = none → Q (.ref p) (upd H p (.frz o (.tup (xs ++ ys))))
theorem op_catF : OpR X (binaryOp .Add) (rCatF X.K) := by
  intro pins s σ H x y v u Q I rx ry h
  obtain ⟨a, b, xs, ys, rfl, rfl, ha, hb, hx, hy, hz, q⟩ := h
  cases rx
  cases ry
  obtain ⟨its, r1, p1, _⟩ := I.tuple ha
  obtain ⟨its2, r2, p2, _⟩ := I.tuple hb
  refine HT.cat_tup p1 p2 (fun z => hx (r1.nil_iff.mp z)) (fun z => absurd (r2.nil_iff.mp z) hy) (fun z => ?_) (by rw [← r1.length, ← r2.length]; exact hz)
  exact ⟨.ref s.heap.objs.size, _, I.laid (t' := s.toks) (o := .frz _ (.tup (xs ++ ys))) (fun b ob q => Heap.get?_push_of_some _ q) (Nat.le_refl _) ⟨Heap.get?_push_size _ rfl, by rw [List.length_append]; exact hz, _, r1.append r2, IsTup.new _ _⟩, rfl, q _ _ (I.hok.fresh (Nat.le_refl _)) rfl⟩
end
/-! ### the fourth pot: digits, a seed, a count that is bounded -/
def So (N : Nat) (H : Hp) (p : Addr) : Prop := ∃ g r n : Int, H p = some (.lst [.int g, .int r, .int n]) ∧ PoV g r n ∧ n ≤ N
theorem So.po {N : Nat} {H : Hp} {p : Addr} (s : So N H p) : Po H p := let ⟨g, r, n, e, v, _⟩ := s; ⟨g, r, n, e, v⟩
theorem So.same {N : Nat} {H H' : Hp} {p : Addr} (P : So N H p) (s : Same H H') : So N H' p := by
  obtain ⟨g, r, n, h, v⟩ := P
  exact ⟨g, r, n, s _ _ h, v⟩
theorem So.keep {N : Nat} {H : Hp} {p o : Addr} {u : HO} (P : So N H p) (n : p ≠ o) : So N (upd H o u) p := by
  obtain ⟨g, r, k, e0, v⟩ := P
  exact ⟨g, r, k, by rw [upd_ne n]; exact e0, v⟩
theorem So.but {N : Nat} {H H' : Hp} {p q : Addr} (P : So N H p) (b : But q H H') (n : p ≠ q) : So N H' p := by
  obtain ⟨g, r, k, e0, v⟩ := P
  exact ⟨g, r, k, b _ _ n e0, v⟩
theorem So.up {N M : Nat} {H : Hp} {p : Addr} (P : So N H p) (h : N ≤ M) : So M H p := by
  obtain ⟨g, r, k, e0, v, l⟩ := P
  exact ⟨g, r, k, e0, v, by omega⟩
theorem gm_mod {T x : Int} (h : 0 < T) (hT : T.natAbs < 2 ^ 3000) : 0 ≤ x % T ∧ (x % T).natAbs < 2 ^ 3000 := by
  have h0 : 0 ≤ x % T := Int.emod_nonneg _ (by omega)
  exact ⟨h0, wide_le h0 (Int.le_of_lt (Int.emod_lt_of_pos _ h)) hT⟩
theorem gm_mul {T x : Int} (h : 0 < T) (hT : T.natAbs < 2 ^ 3000) (b : Bool) : CMulW (x % T) (if b = true then 1 else 0) :=
  wide_mul (b := 2) (gm_mod h hT).2 (by cases b <;> decide) (by decide) (by decide) (by decide)
theorem gm_pot {T x : Int} (h : 0 < T) (hT : T.natAbs < 2 ^ 3000) (b : Bool) : 0 ≤ x % T * (if b = true then 1 else 0) ∧ (x % T * (if b = true then 1 else 0)).natAbs < 2 ^ 3000 := by
  cases b
  · rw [if_neg (by decide), Int.mul_zero]
    exact ⟨Int.le_refl _, Nat.pow_pos (by decide)⟩
  · rw [if_pos rfl, Int.mul_one]
    exact gm_mod h hT
def ten300 : Int := (10 ^ (60 : Int).toNat) ^ (5 : Int).toNat
theorem ten300_pos : 0 < ten300 := by unfold ten300; decide +kernel
theorem ten300_lt : ten300.natAbs < 2 ^ 3000 := by unfold ten300; decide +kernel
theorem pow_ok60 : CPowW (10 ^ (60 : Int).toNat) 5 := ⟨by decide, by decide +kernel⟩
end Ph

namespace Ph
open PySem PySem.Spec PyProof.Rows L2
section
variable {X : Cx} {o : Expr} {p pos apos mpos : Pos} {td : TE}
/-- tuple(d.values()), known to be a plain tuple -/
def tTupValsF (td : TE) : TE := fun σ H Q => td σ H fun x H1 => ∃ a kvs, x = V.ref a ∧ H1 a = some (.dK kvs) ∧ ∀ (q : Addr) (o : Obj), H1 q = none → o.dict = none → Q (.ref q) (upd H1 q (.frz o (.tup (kvs.map (·.2)))))
theorem pe_tupValsF (hc : X.calm = true) (hg : Gl X "tuple") (hm : X.mg "tuple" = none) (hd : PE X o td) (hbase : attributeBase o "values" X.env (eval o X.env) = eval o X.env := by rfl) (hline : (apos.endLine == mpos.line) = true := by rfl)
    (hse : starEach [Expr.Call (.Attribute o "values" apos) [] [] mpos] X.env = [(false, eval (Expr.Call (.Attribute o "values" apos) [] [] mpos) X.env)] := by rfl) :
    PE X (.Call (.Name "tuple" p) [.Call (.Attribute o "values" apos) [] [] mpos] [] pos) (tTupValsF td) := by
  refine ⟨fun pins s σ H Q I h => ?_⟩
  refine Call_ (ld_blt I hg hm boot_tuple ?_)
  refine PyProof.Rows.callWith_type1 (PyProof.Rows.args_cons (wpAny_Call_method0_late hbase hline (thn (hd.run pins s σ H _ I h) fun v s1 ⟨x, H1, I1, r1, a, kvs, ex, ha, q⟩ => ?_)) hse) hse rfl
  subst ex
  obtain rfl : v = Value.ref a := r1
  obtain ⟨z, hsys, vs, rel, dof⟩ := dk_of I1.hok ha
  obtain ⟨ep, dat⟩ := dof.dictAt
  obtain ⟨ob, es, ho, ex, _⟩ := id dat
  refine ⟨"dict", "dict.values", F.plainAttrs_dict, F.slot_dict_values, F.type_dict_values, ⟨ob, ho, ex.1⟩, fun b e => by cases e; exact ⟨ob, ho, ex.2.1⟩, Calls.callWith_builtin rfl (PySem.evalArgs_none ?_)⟩
  refine call_meetsIn F.slot_dict_values ⟨ob, ho, ex.1⟩ F.entry_dict_values (F.args_dict_values_1 _) (meets_dict_values (mixKind X.prog X.w) a hsys) ⟨⟨vs, dof⟩, ?_⟩
  refine PyProof.Rows.args_nil ?_
  have lv : kvs.length = vs.length := KV.length rel
  refine call_tuple_src (PySem.W.kdl_values (knd := mixKind X.prog X.w) (kvs := vs) (ep := ep) (r := s1.heap.objs.size) (d := a)) (I.ok.hd hc) ⟨⟨_, Heap.get?_push_size _ rfl, rfl, rfl⟩, dat.keep fun b u e => Heap.get?_push_of_some _ e⟩ (by rw [← lv]; exact z) (by decide) (by decide) fun g tk acc k it => ?_
  have keep : ∀ b u, s1.heap.get? b = some u → (g.push { cls := .type "tuple", data := .seq acc }).get? b = some u := fun b u e => Heap.get?_push_of_some _ (k b u (Heap.get?_push_of_some _ e))
  have low : s1.heap.objs.size ≤ g.objs.size := by
    have := k s1.heap.objs.size _ (Heap.get?_push_size _ rfl)
    exact Nat.le_of_lt (Heap.lt_size this)
  have rv : Vals (kvs.map (·.2)) acc.toList := vals_of_at ((List.length_map _).trans (lv.trans (it.1.symm.trans Array.length_toList.symm))) fun j x u h1 h2 => by
    obtain ⟨kk, hk⟩ := it.2 j u (by rw [← Array.getElem?_toList]; exact h2)
    obtain ⟨x', h3, h4⟩ := KV.at' rel hk
    rw [List.getElem?_map, h3] at h1
    cases h1
    exact h4
  refine ⟨.ref _, upd H1 g.objs.size (.frz { cls := .type "tuple", data := .seq acc } (.tup (kvs.map (·.2)))), I1.laid (t' := tk) keep low ?_, rfl, q _ _ (I1.hok.fresh low) rfl⟩
  exact ⟨Heap.get?_push_size _ rfl, by rw [List.length_map]; exact z, acc.toList, rv, ⟨_, Heap.get?_push_size _ rfl, rfl, 0, by rw [Array.toArray_toList]⟩⟩
end
section
variable {X : Cx}
/-- dict(t), t a plain tuple of pairs (key, value) -/
theorem call_dictT (calm : X.calm = true) : CallR X (.type "dict") (fun xs H Q => ∃ (a : Addr) (o : Obj) (ps : List Addr) (kvs : List (Key × V)), xs = [.ref a] ∧ o.dict = none ∧ H a = some (.frz o (.tup (ps.map V.ref))) ∧ Paired (fun p kv => SqT X.K H p [kV kv.1, kv.2]) ps kvs ∧
    ∀ p, H p = none → Q (.ref p) (upd H p (.dK (mergeK [] kvs)))) := by
  intro pins s σ H xs us Q I r h
  obtain ⟨a, o, ps, kvs, rfl, od, ha, hp, q⟩ := h
  rw [Vals.ref1 r]
  obtain ⟨go, hz, its, rv, tu⟩ := I.hok a _ ha
  have ei := refs_at rv
  subst ei
  rw [List.length_map] at hz
  obtain ⟨prs, rel, hl, hpr⟩ := pairs_of I hp
  obtain ⟨o2, ho2, hc, n, hd⟩ := tu
  rw [go] at ho2
  cases ho2
  have keyOf : ∀ (j : Nat) (z : Key × Value), prs[j]? = some z → ∃ (b : Addr) (u : Value), ps[j]? = some b ∧ IsTup s.heap b #[u, z.2] ∧ keyIs z.1 u = true := hpr
  have ex : ∀ (l : List (Key × Value)) (bs : List Addr), l.length = bs.length → (∀ (j : Nat) (z : Key × Value), l[j]? = some z → ∃ (b : Addr) (u : Value), bs[j]? = some b ∧ IsTup s.heap b #[u, z.2] ∧ keyIs z.1 u = true) →
      ∃ qs : List (Value × Value), qs.length = l.length ∧ ∀ (j : Nat) (k v : Value), qs[j]? = some (k, v) → ∃ (z : Key × Value) (b : Addr), l[j]? = some z ∧ v = z.2 ∧ bs[j]? = some b ∧ IsTup s.heap b #[k, v] ∧ keyIs z.1 k = true := by
    intro l
    induction l with
    | nil => exact fun bs _ _ => ⟨[], rfl, fun j k v e => by simp at e⟩
    | cons z l ih =>
      intro bs e1 e2
      cases bs with
      | nil => simp at e1
      | cons b bs =>
        obtain ⟨qs, q1, q2⟩ := ih bs (by simpa using e1) fun j z' e => by
          obtain ⟨b', u', h1, h2, h3⟩ := e2 (j + 1) z' (by simpa using e)
          exact ⟨b', u', by simpa using h1, h2, h3⟩
        obtain ⟨b', u, h1, h2, h3⟩ := e2 0 z rfl
        refine ⟨(u, z.2) :: qs, by simp [q1], fun j k v e => ?_⟩
        cases j with
        | zero =>
          have e' : (u, z.2) = (k, v) := Option.some.inj e
          cases e'
          exact ⟨z, b', rfl, rfl, h1, h2, h3⟩
        | succ j =>
          obtain ⟨z', b2, k1, k2, k3, k4, k5⟩ := q2 j k v (by simpa using e)
          exact ⟨z', b2, by simpa using k1, k2, by simpa using k3, k4, k5⟩
  obtain ⟨qs, q1, q2⟩ := ex prs ps hl keyOf
  have hm : (s.heap.objs.size == sysModules) = false := beq_eq_false_iff_ne.mpr (Nat.ne_of_gt I.big)
  refine PySem.call_dict_pairs (knd := mixKind X.prog X.w) (kvs := prs) (PySem.PairArg.tuple a ((ps.map Value.ref).toArray) (fun j => ps.getD j 0) qs) (I.ok.hd calm) ⟨⟨o, n, go, hc, od, hd⟩, by simp [q1, hl], fun j k v e => ?_⟩ ⟨q1.symm, fun i k v e => ?_⟩ (by rw [q1, hl]; exact hz) fun h' tk hd' k => ?_
  · obtain ⟨z, b, k1, k2, k3, k4, k5⟩ := q2 j k v e
    have eb : ps.getD j 0 = b := by rw [List.getD_eq_getElem?_getD, k3]; rfl
    dsimp only
    rw [eb]
    refine ⟨by simp [k3], .inl ?_⟩
    obtain ⟨ot, h1, h2, n', h3⟩ := k4
    exact ⟨ot, h1, h2, n', h3⟩
  · obtain ⟨z, b, k1, k2, k3, k4, k5⟩ := q2 i k v e
    exact ⟨z.1, by rw [k1, k2], k5⟩
  · have hlen : (mergeK [] kvs).length ≤ sizeLine := by
      refine Nat.le_trans (length_mergeK kvs []) ?_
      rw [List.length_nil, Nat.zero_add, rel.length, hl]
      exact hz
    exact ⟨.ref s.heap.objs.size, _, I.laid (t' := tk) (fun b u e => k b u (fun z => nomatch z) e) (Nat.le_refl _) (show ObjOk X.prog X.w _ _ _ (.dK (mergeK [] kvs)) from ⟨hlen, hm, merged [] prs, KV.merge rel .nil, hd'⟩), rfl, q _ (I.hok.fresh (Nat.le_refl _))⟩
end
end Ph

/-! PhAnE: values of any kind (dicts too) with a bound on their text, kept whatever becomes of q; tuples of such, cut and joined. -/
namespace Ph
open PySem PySem.Spec PyProof.Rows L2
structure ShdAll (ds : List PyData) (n k : Nat) : Prop where
  sh : PyData.showableAll ds = true
  dp : PyData.depthAll ds ≤ n
  lv : PyData.leavesShortAll 40 ds = true
  wt : PyData.weightAll ds ≤ k
  cp : cpAll ds = true
theorem ShdAll.nil (n k : Nat) : ShdAll [] n k := ⟨rfl, Nat.zero_le _, rfl, Nat.zero_le _, rfl⟩
theorem ShdAll.cons {d : PyData} {ds : List PyData} {n k l : Nat} (h : Shd d n k) (t : ShdAll ds n l) : ShdAll (d :: ds) n (k + 1 + l) := by
  obtain ⟨h1, h2, h3, h4, h5⟩ := h
  obtain ⟨t1, t2, t3, t4, t5⟩ := t
  refine ⟨by rw [PyData.showableAll, h1, t1]; rfl, ?_, by rw [PyData.leavesShortAll, h3, t3]; rfl, ?_, by rw [cpAll, h5, t5]; rfl⟩
  · simp only [PyData.depthAll]
    omega
  · simp only [PyData.weightAll]
    omega
theorem ShdAll.tuple {ds : List PyData} {n k : Nat} (h : ShdAll ds n k) : Shd (.tuple ds) (n + 1) k := by
  obtain ⟨h1, h2, h3, h4, h5⟩ := h
  refine ⟨by rw [PyData.showable]; exact h1, by simp only [PyData.depth]; omega, by rw [PyData.leavesShort]; exact h3, by simp only [PyData.weight]; exact h4, by rw [cpD]; exact h5⟩
theorem ShdAll.list {ds : List PyData} {n k : Nat} (h : ShdAll ds n k) : Shd (.list ds) (n + 1) k := by
  obtain ⟨h1, h2, h3, h4, h5⟩ := h
  refine ⟨by rw [PyData.showable]; exact h1, by simp only [PyData.depth]; omega, by rw [PyData.leavesShort]; exact h3, by simp only [PyData.weight]; exact h4, by rw [cpD]; exact h5⟩
def AnyE (K : PySem.W.Frag) (q : Addr) (H : Hp) (n k : Nat) (x : V) : Prop := ∃ d, Dq K (hid [q] H) x d ∧ Shd d n k
section
variable {K : PySem.W.Frag} {q : Addr} {H H' : Hp} {n k m l : Nat} {x : V}
theorem AnyE.but (v : AnyE K q H n k x) (b : But q H H') : AnyE K q H' n k x := let ⟨d, h, s⟩ := v; ⟨d, h.same (hid_but (ButS.but b)), s⟩
theorem AnyE.same (v : AnyE K q H n k x) (s : Same H H') : AnyE K q H' n k x := v.but (Same.but s)
theorem AnyE.up (v : AnyE K q H n k x) (h1 : n ≤ m) (h2 : k ≤ l) : AnyE K q H m l x := let ⟨d, h, s⟩ := v; ⟨d, h, s.up h1 h2⟩
theorem AnyE.ofT {d : PyData} (o : OdV K [q] (ntb H) n x d) : AnyE K q H (n + 2) (2000 + 200 * n) x := ⟨d, o.dq.same (hid_but (ButS.of ntb_sub)), o.sd⟩
theorem AnyE.intB {i : Int} (h : i.natAbs < 10 ^ 35) : AnyE K q H 0 120 (.int i) := ⟨_, .int i, shd_intB h⟩
theorem AnyE.str {y : Str} (s : Shd (.str y) n k) : AnyE K q H n k (.str y) := ⟨_, .str y, s⟩
theorem AnyE.non : AnyE K q H 0 120 .non := ⟨_, .non, ⟨by decide +kernel, by decide +kernel, by decide +kernel, by decide +kernel, by decide +kernel⟩⟩
theorem AnyE.all : ∀ {xs : List V}, (∀ y ∈ xs, AnyE K q H n k y) → ∃ ds, DqAll K (hid [q] H) xs ds ∧ ShdAll ds n ((k + 1) * xs.length)
  | [], _ => ⟨[], .nil, .nil _ _⟩
  | y :: r, h => by
    obtain ⟨ds, h1, h2⟩ := AnyE.all (xs := r) fun z hz => h z (List.mem_cons_of_mem _ hz)
    obtain ⟨d, h3, h4⟩ := h y (List.mem_cons_self ..)
    refine ⟨d :: ds, .cons h3 h1, ?_⟩
    have := ShdAll.cons h4 h2
    rw [List.length_cons, Nat.mul_add, Nat.mul_one, Nat.add_comm]
    exact this
theorem AnyE.tup {t : Addr} {xs : List V} (e : H t = some (.tup xs)) (nt : t ≠ q) (h : ∀ y ∈ xs, AnyE K q H n k y) : AnyE K q H (n + 1) ((k + 1) * xs.length) (.ref t) := by
  obtain ⟨ds, h1, h2⟩ := AnyE.all h
  exact ⟨.tuple ds, .tup (.inl (.inl ((hid_at (fun z => nt (List.mem_singleton.mp z))).trans e))) h1, h2.tuple⟩
theorem AnyE.lst {t : Addr} {xs : List V} (e : H t = some (.lst xs)) (nt : t ≠ q) (h : ∀ y ∈ xs, AnyE K q H n k y) : AnyE K q H (n + 1) ((k + 1) * xs.length) (.ref t) := by
  obtain ⟨ds, h1, h2⟩ := AnyE.all h
  exact ⟨.list ds, .lst (.inl (.inl ((hid_at (fun z => nt (List.mem_singleton.mp z))).trans e))) h1, h2.list⟩
end
section
variable {X : Cx}
theorem cut_whole {xs : List V} {lo hi : Option Int} (h : HT.sIx xs.length 0 lo = 0 ∧ HT.sIx xs.length xs.length hi = xs.length) : cutV xs lo hi = xs := by
  unfold cutV
  rw [h.1, h.2, List.drop_zero]
  exact List.take_length
def rSlS : V → Option Int → Option Int → Hp → VK → Prop := fun x lo hi H Q => ∃ a xs, x = .ref a ∧ H a = some (.tup xs) ∧ ∀ p H', Same H H' → H' p = some (.tup (cutV xs lo hi)) → Q (.ref p) H'
theorem sl_tupS : SlR X rSlS := by
  intro pins s σ H x v vl vu lo hi sl Q I rx hs pl pu h
  obtain ⟨a, xs, rfl, hx, q⟩ := h
  exact sl_tupA pins s σ H _ v vl vu lo hi sl Q I rx hs pl pu ⟨a, xs, rfl, .inl (.inl hx), fun hw => q a H (Same.refl H) (by rw [cut_whole hw]; exact hx), fun _ p np => q p _ (same_upd np) upd_same⟩
theorem small1000 {n : Nat} (h : n ≤ 1000) : n < sizeLine := Nat.lt_of_le_of_lt h (by decide)
def rCatS : R2 := fun x y H Q => ∃ a b xs ys, x = .ref a ∧ y = .ref b ∧ H a = some (.tup xs) ∧ H b = some (.tup ys) ∧ xs.length + ys.length ≤ 1000 ∧ ∀ p H', Same H H' → H' p = some (.tup (xs ++ ys)) → Q (.ref p) H'
theorem op_catS : OpR X (binaryOp .Add) rCatS := by
  intro pins s σ H x y v u Q I rx ry h
  obtain ⟨a, b, xs, ys, rfl, rfl, ha, hb, hz, q⟩ := h
  refine op_catA pins s σ H _ _ v u Q I rx ry ⟨a, b, xs, ys, rfl, rfl, .inl (.inl ha), .inl (.inl hb), Nat.le_of_lt (small1000 hz), fun e => q b H (Same.refl H) (by rw [e]; exact hb), fun _ e => q a H (Same.refl H) (by rw [e, List.append_nil]; exact ha), fun _ _ p np => q p _ (same_upd np) upd_same⟩
end
theorem cut_le {xs : List V} {lo hi : Option Int} : (cutV xs lo hi).length ≤ xs.length := by
  unfold cutV
  rw [List.length_take, List.length_drop]
  omega
theorem cut_sub {xs : List V} {lo hi : Option Int} {x : V} (h : x ∈ cutV xs lo hi) : x ∈ xs := List.mem_of_mem_drop (List.mem_of_mem_take h)
end Ph
namespace Ph
open PySem PySem.Spec PyProof.Rows L2
theorem DqAll.app {K : PySem.W.Frag} {H : Hp} : ∀ {xs ys : List V} {ds es : List PyData}, DqAll K H xs ds → DqAll K H ys es → DqAll K H (xs ++ ys) (ds ++ es)
  | _, _, _, _, .nil, h => h
  | _, _, _, _, .cons a r, h => .cons a (DqAll.app r h)
theorem ShdAll.app : ∀ {ds es : List PyData} {n k l : Nat}, ShdAll ds n k → ShdAll es n l → ShdAll (ds ++ es) n (k + l)
  | [], es, n, k, l, _, h => ⟨h.sh, h.dp, h.lv, by have := h.wt; simp only [List.nil_append]; omega, h.cp⟩
  | d :: r, es, n, k, l, h, h' => by
    obtain ⟨h1, h2, h3, h4, h5⟩ := h
    rw [PyData.showableAll, Bool.and_eq_true] at h1
    rw [PyData.leavesShortAll, Bool.and_eq_true] at h3
    rw [cpAll, Bool.and_eq_true] at h5
    simp only [PyData.depthAll] at h2
    simp only [PyData.weightAll] at h4
    obtain ⟨t1, t2, t3, t4, t5⟩ := ShdAll.app (ds := r) (n := n) (k := k - d.weight - 1) ⟨h1.2, by omega, h3.2, by omega, h5.2⟩ h'
    refine ⟨?_, ?_, ?_, ?_, ?_⟩
    · rw [List.cons_append, PyData.showableAll, h1.1, t1]; rfl
    · rw [List.cons_append]; simp only [PyData.depthAll]; omega
    · rw [List.cons_append, PyData.leavesShortAll, h3.1, t3]; rfl
    · rw [List.cons_append]; simp only [PyData.weightAll]; omega
    · rw [List.cons_append, cpAll, h5.1, t5]; rfl
/-- the members of a tuple, told with their weight together -/
def AllE (K : PySem.W.Frag) (q : Addr) (H : Hp) (n k : Nat) (xs : List V) : Prop := ∃ ds, DqAll K (hid [q] H) xs ds ∧ ShdAll ds n k
section
variable {K : PySem.W.Frag} {q : Addr} {H H' : Hp} {n k m l : Nat} {xs ys : List V}
theorem AllE.of (h : ∀ y ∈ xs, AnyE K q H n k y) : AllE K q H n ((k + 1) * xs.length) xs := AnyE.all h
theorem AllE.app (a : AllE K q H n k xs) (b : AllE K q H n l ys) : AllE K q H n (k + l) (xs ++ ys) := let ⟨_, a1, a2⟩ := a; let ⟨_, b1, b2⟩ := b; ⟨_, a1.app b1, a2.app b2⟩
theorem ShdAll.upn {ds : List PyData} (h : ShdAll ds n k) (h1 : n ≤ m) (h2 : k ≤ l) : ShdAll ds m l := ⟨h.sh, Nat.le_trans h.dp h1, h.lv, Nat.le_trans h.wt h2, h.cp⟩
theorem AllE.up (a : AllE K q H n k xs) (h1 : n ≤ m) (h2 : k ≤ l) : AllE K q H m l xs := let ⟨_, a1, a2⟩ := a; ⟨_, a1, a2.upn h1 h2⟩
theorem AllE.tup {t : Addr} (a : AllE K q H n k xs) (e : H t = some (.tup xs)) (nt : t ≠ q) : AnyE K q H (n + 1) k (.ref t) := let ⟨_, a1, a2⟩ := a; ⟨_, .tup (.inl (.inl ((hid_at (fun z => nt (List.mem_singleton.mp z))).trans e))) a1, a2.tuple⟩
theorem AllE.one {x : V} (h : AnyE K q H n k x) : AllE K q H n (k + 1) [x] := (AllE.of (xs := [x]) (n := n) (k := k) fun y hy => by rw [List.mem_singleton.mp hy]; exact h).up (Nat.le_refl _) (by simp)
theorem AllE.cut {lo hi : Option Int} (h : ∀ y ∈ xs, AnyE K q H n k y) (hl : xs.length ≤ l) : AllE K q H n ((k + 1) * l) (cutV xs lo hi) := (AllE.of fun y hy => h y (cut_sub hy)).up (Nat.le_refl _) (Nat.mul_le_mul_left _ (Nat.le_trans cut_le hl))
end
end Ph

/-! PhRd: events of any value: which of them can be done (by their data); any data compared with a text. -/
namespace Ph
open PySem PySem.Spec PyProof.Rows L2
/-! ### any data == a text -/
section
open PySem.SeqAt MeetsSeq
variable {A : Around} {s : Shared}
theorem rc_dict_str {l : Addr} {ks : Array DictEntry} {n : Nat} {dd : Option Addr} {sl : Array (Option Value)} (b : Str) (u : Tok) (ho : s.heap.get? l = some { cls := .type "dict", dict := dd, data := .dict ks n, slots := sl }) (hu : A.units < cLine) : SeqAt.RcAt A s (.ref l) (.str b u) false := fun prog w E Q h =>
  rc_eq_decline_or (k := false) ⟨_, ho, rfl⟩ (typeIs_str s b u) (by decide) F.sub_str_dict F.slot_dict_eq F.slot_str_eq_refl
    (fun _ hq => call_meets F.slot_dict_eq ⟨_, ho, rfl⟩ F.entry_dict_eq (F.args_dict_eq_2 _ _) (dict_declines l (.type "dict") (.dict ks n) dd sl b u) ⟨ho, hq⟩)
    (fun _ hq => call_meets F.slot_str_eq_refl (typeIs_str s b u) F.entry_str_eq (F.args_str_eq_2 _ _) (str_declines b u l (.type "dict") ks n dd sl) ⟨ho, hq⟩)
    (fun _ hq => wpAny_of_eq (rfl : isSame (.ref l) (.str b u) = pure false) hq) (.inr hu) h
end
section
variable {X : Cx}
/-- x == t, t a text, x any data -/
def rEqW (K : PySem.W.Frag) : R2 := fun x y H Q => ∃ d z, y = .str z ∧ Dq K H x d ∧ Q (.bl (decide (x = V.str z))) H
theorem op_eqW (hu : X.A.units < cLine) : OpR X (compareOp .Eq) (rEqW X.K) := by
  intro pins s σ H x y v u Q I rx ry h
  obtain ⟨d, z, rfl, dx, q⟩ := h
  obtain ⟨t, rfl⟩ := (show ∃ t, u = Value.str z t from ry)
  have key : SeqAt.RcAt X.A s v (.str z t) (decide (x = V.str z)) := by
    cases dx with
    | non => obtain rfl : v = Value.none := rx; exact SeqAt.RcAt.none_str z t
    | bl b => obtain rfl : v = Value.bool b := rx; exact SeqAt.RcAt.bool_str b z t
    | int i => obtain ⟨t2, rfl⟩ := rx; exact SeqAt.RcAt.int_str i t2 z t
    | str y => 
      obtain ⟨t2, rfl⟩ := rx
      have e : (y == z) = decide (V.str y = V.str z) := by
        by_cases c : y = z
        · subst c; simp
        · have : ¬ (V.str y = V.str z) := fun w => c (by cases w; rfl)
          simp [c, this]
      exact e ▸ SeqAt.RcAt.str_str y t2 z t
    | @lst a xs ds hs ha =>
      obtain rfl : v = Value.ref a := rx
      obtain ⟨its, _, p, _⟩ := I.list hs
      exact SeqAt.RcAt.list_str z t p.isList hu
    | @tup a xs ds hs ha =>
      obtain rfl : v = Value.ref a := rx
      obtain ⟨its, _, p, _⟩ := I.tuple hs
      exact SeqAt.RcAt.tuple_str z t p hu
    | @dct a kvs D hs hk =>
      obtain rfl : v = Value.ref a := rx
      obtain ⟨_, ne, vs, kv, o, es, ep, ho, hx, hdat, _, hp, _⟩ := hs.ok I.hok
      obtain ⟨cls, dd, data, sl⟩ := o
      obtain rfl : cls = .type "dict" := hx.1
      obtain rfl : data = .dict es ep := hdat
      exact rc_dict_str z t ho hu
  exact key _ _ _ _ ⟨.bl _, H, I, rfl, q⟩
end
theorem dq_noInt {K : PySem.W.Frag} {H : Hp} {x : V} {d : PyData} (h : Dq K H x d) : (NoInt K H x ∧ ∀ i, d ≠ .int i) ∨ ∃ i : Int, x = .int i ∧ d = .int i := by
  have ty := dq_ty h
  cases h with
  | int i => exact .inr ⟨i, rfl, rfl⟩
  | bl b => exact .inl ⟨.bl b, fun i z => nomatch z⟩
  | non => exact .inl ⟨.ty ty (by dsimp only [tyN]; decide +kernel), fun i z => nomatch z⟩
  | str y => exact .inl ⟨.ty ty (by dsimp only [tyN]; decide +kernel), fun i z => nomatch z⟩
  | lst hs ha => exact .inl ⟨.ty ty (by dsimp only [tyN]; decide +kernel), fun i z => nomatch z⟩
  | tup hs ha => exact .inl ⟨.ty ty (by dsimp only [tyN]; decide +kernel), fun i z => nomatch z⟩
  | dct hs ha => exact .inl ⟨.ty ty (by dsimp only [tyN]; decide +kernel), fun i z => nomatch z⟩
theorem dq_isStr {K : PySem.W.Frag} {H : Hp} {x : V} {d : PyData} (h : Dq K H x d) (z : Str) : x = .str z ↔ d = .str z := by
  cases h <;> constructor <;> intro e <;> cases e <;> rfl
theorem dqAll_len {K : PySem.W.Frag} {H : Hp} : ∀ {xs : List V} {ds : List PyData}, DqAll K H xs ds → xs.length = ds.length
  | _, _, .nil => rfl
  | _, _, .cons _ r => by rw [List.length_cons, List.length_cons, dqAll_len r]
theorem dqAll_get {K : PySem.W.Frag} {H : Hp} : ∀ {xs : List V} {ds : List PyData} {i : Nat} {x : V}, DqAll K H xs ds → xs[i]? = some x → ∃ d, ds[i]? = some d ∧ Dq K H x d
  | _, _, 0, _, .cons h _, e => by cases e; exact ⟨_, rfl, h⟩
  | _, _, i + 1, _, .cons _ r, e => dqAll_get (i := i) r e
/-! ### events that can be done -/
def evD (t : Tri) : PyData := if t.1 = "get" then .tuple [.str "get", .int t.2.2, .int t.2.1] else .tuple [.str "free", .int t.2.1]
theorem evD_get (a z : Int) : evD (("get" : Str), a, z) = .tuple [.str "get", .int z, .int a] := if_pos rfl
theorem evD_free (a z : Int) : evD (("free" : Str), a, z) = .tuple [.str "free", .int a] := if_neg (show ¬ (("free" : Str) = "get") by decide +kernel)
/-- the data of an event that can be done with the blocks bs -/
def GoodD (s : Nat → Nat) (p : Nat) (W : Int) (M : Nat) (bs : List Bk) (d : PyData) : Prop :=
  (∃ j a, j ≤ p ∧ d = .tuple [.str "get", .int ((s j : Nat) : Int), .int a] ∧ HW.tt bs + ((s j : Nat) : Int) ≤ M ∧ Spt ((s j : Nat) : Int) bs W a) ∨ ∃ b ∈ bs, d = .tuple [.str "free", .int b.1]
structure RunD (s : Nat → Nat) (p : Nat) (W : Int) (M : Nat) (ds : List PyData) (bs : List Bk) (ss : List Tri) : Prop where
  hw : Hw s p W M ss.reverse bs
  ev : ds = ss.map evD
section
variable {s : Nat → Nat} {p M : Nat} {W : Int}
theorem run_nil : RunD s p W M [] [] [] := ⟨.nil, rfl⟩
theorem pw_uniq {bs : List Bk} {b c : Bk} (h : bs.Pairwise fun x y => x.1 ≠ y.1) (hb : b ∈ bs) (hc : c ∈ bs) (e : b.1 = c.1) : b = c := by
  induction bs with
  | nil => cases hb
  | cons a r ih =>
    obtain ⟨h1, h2⟩ := List.pairwise_cons.mp h
    rcases List.mem_cons.mp hb with z | z <;> rcases List.mem_cons.mp hc with y | y
    · rw [z, y]
    · rw [z] at e; exact absurd e (h1 c y)
    · rw [y] at e; exact absurd e.symm (h1 b z)
    · exact ih h2 z y
theorem hw_ev {rs : List Tri} {bs : List Bk} (c : CH s (p + 1)) (h : Hw s p W M rs bs) : ∀ {rs' : List Tri} {bs' : List Bk}, Hw s p W M rs' bs' → rs.map evD = rs'.map evD → rs = rs' ∧ bs = bs' := by
  induction h with
  | nil =>
    intro rs' bs' h' e
    cases h' with
    | nil => exact ⟨rfl, rfl⟩
    | get => cases e
    | free => cases e
  | @get rs bs cs x i h1 hi hM sp pm srt ih =>
    intro rs' bs' h' e
    cases h' with
    | nil => cases e
    | @get rs2 bs2 cs2 x2 i2 h2 hi2 hM2 sp2 pm2 srt2 =>
      rw [List.map_cons, List.map_cons, evD_get, evD_get] at e
      injection e with e1 e2
      injection e1 with e1
      injection e1 with _ e1
      injection e1 with e1 e3
      injection e3 with e3 _
      injection e1 with e1
      injection e3 with e3
      subst e3
      obtain ⟨q1, q2⟩ := ih h2 e2
      subst q1 q2
      rw [e1] at pm ⊢
      exact ⟨rfl, perm_lex (pm.trans pm2.symm) srt srt2⟩
    | @free rs2 bs2 b h2 hb =>
      rw [List.map_cons, List.map_cons, evD_get, evD_free] at e
      injection e with e1 e2
      injection e1 with e1
      injection e1 with _ e1
      injection e1 with _ e1
      cases e1
  | @free rs bs b h1 hb ih =>
    intro rs' bs' h' e
    cases h' with
    | nil => cases e
    | @get rs2 bs2 cs2 x2 i2 h2 hi2 hM2 sp2 pm2 srt2 =>
      rw [List.map_cons, List.map_cons, evD_get, evD_free] at e
      injection e with e1 e2
      injection e1 with e1
      injection e1 with _ e1
      injection e1 with _ e1
      cases e1
    | @free rs2 bs2 b2 h2 hb2 =>
      rw [List.map_cons, List.map_cons, evD_free, evD_free] at e
      injection e with e1 e2
      injection e1 with e1
      injection e1 with _ e1
      injection e1 with e1 _
      injection e1 with e1
      obtain ⟨q1, q2⟩ := ih h2 e2
      subst q1 q2
      have st := h1.st c
      have eb : b = b2 := by
        have := HW.St_nes st
        exact pw_uniq this hb hb2 e1
      subst eb
      exact ⟨rfl, rfl⟩
theorem RunD.uniq {ds : List PyData} {bs bs' : List Bk} {ss ss' : List Tri} (c : CH s (p + 1)) (r : RunD s p W M ds bs ss) (r' : RunD s p W M ds bs' ss') : bs = bs' ∧ ss = ss' := by
  have e : ss.reverse.map evD = ss'.reverse.map evD := by rw [List.map_reverse, List.map_reverse, ← r.ev, ← r'.ev]
  obtain ⟨h1, h2⟩ := hw_ev c r.hw r'.hw e
  exact ⟨h2, by have := congrArg List.reverse h1; rwa [List.reverse_reverse, List.reverse_reverse] at this⟩
/-- a run's last event could be done -/
theorem RunD.last {ds : List PyData} {d : PyData} {cs : List Bk} {ss' : List Tri} (r : RunD s p W M (ds ++ [d]) cs ss') : ∃ bs ss, RunD s p W M ds bs ss ∧ GoodD s p W M bs d := by
  obtain ⟨hw, ev⟩ := r
  generalize er : ss'.reverse = rs at hw
  obtain rfl : ss' = rs.reverse := by rw [← er, List.reverse_reverse]
  cases hw with
  | nil => simp at ev
  | @get rs bs cs x i h1 hi hM sp pm srt =>
    rw [List.reverse_cons, List.map_append] at ev
    obtain ⟨e1, e2⟩ := List.append_inj' ev rfl
    rw [List.map_cons, evD_get, List.map_nil] at e2
    injection e2 with e2
    exact ⟨bs, rs.reverse, ⟨by rw [List.reverse_reverse]; exact h1, e1⟩, .inl ⟨i, x, hi, e2, hM, sp⟩⟩
  | @free rs bs b h1 hb =>
    rw [List.reverse_cons, List.map_append] at ev
    obtain ⟨e1, e2⟩ := List.append_inj' ev rfl
    rw [List.map_cons, evD_free, List.map_nil] at e2
    injection e2 with e2
    exact ⟨bs, rs.reverse, ⟨by rw [List.reverse_reverse]; exact h1, e1⟩, .inr ⟨b, hb, e2⟩⟩
theorem RunD.pre {ds : List PyData} {bs : List Bk} {ss : List Tri} (r : RunD s p W M ds bs ss) (i : Nat) : ∃ cs, RunD s p W M (ds.take i) cs (ss.take i) := by
  by_cases h : i ≤ ss.length
  · obtain ⟨cs, h'⟩ := r.hw.pre (ss.length - i) i (by omega)
    exact ⟨cs, h', by rw [r.ev, List.map_take]⟩
  · exact ⟨bs, by rw [List.take_of_length_le (by omega)]; exact r.hw, by rw [r.ev, List.take_of_length_le (by rw [List.length_map]; omega), List.take_of_length_le (by omega)]⟩
/-- what becomes of a history -/
inductive Out
  | done (bs : List Bk) (ss : List Tri)
  | bad (i : Nat)
inductive OutD (s : Nat → Nat) (p : Nat) (W : Int) (M : Nat) : PyData → Out → Prop
  | notT {d : PyData} : (∀ ds, d ≠ .tuple ds) → OutD s p W M d (.bad 0)
  | done {ds : List PyData} {bs : List Bk} {ss : List Tri} : RunD s p W M ds bs ss → OutD s p W M (.tuple ds) (.done bs ss)
  | bad {ds : List PyData} {bs : List Bk} {ss : List Tri} {d : PyData} {i : Nat} : RunD s p W M (ds.take i) bs ss → ds[i]? = some d → ¬ GoodD s p W M bs d → OutD s p W M (.tuple ds) (.bad i)
theorem bad_not {ds : List PyData} {bs cs : List Bk} {ss ts : List Tri} {d : PyData} {i n : Nat} (c : CH s (p + 1)) (r : RunD s p W M (ds.take i) bs ss) (e : ds[i]? = some d) (g : ¬ GoodD s p W M bs d) (hn : i < n) (r' : RunD s p W M (ds.take n) cs ts) : False := by
  obtain ⟨cs1, r1⟩ := r'.pre (i + 1)
  rw [List.take_take, Nat.min_eq_left (by omega), List.take_add_one, e] at r1
  obtain ⟨bs2, ss2, r2, g2⟩ := RunD.last (d := d) r1
  obtain ⟨e1, _⟩ := r.uniq c r2
  rw [e1] at g
  exact g g2
theorem OutD.uniq {d : PyData} {o o' : Out} (c : CH s (p + 1)) (h : OutD s p W M d o) (h' : OutD s p W M d o') : o = o' := by
  cases h with
  | notT n =>
    cases h' with
    | notT => rfl
    | done => exact absurd rfl (n _)
    | bad => exact absurd rfl (n _)
  | @done ds bs ss r =>
    cases h' with
    | notT n => exact absurd rfl (n _)
    | done r' =>
      obtain ⟨e1, e2⟩ := r.uniq c r'
      rw [e1, e2]
    | @bad _ bs2 ss2 d2 i r2 e g =>
      exfalso
      have hi := (List.getElem?_eq_some_iff.mp e).1
      exact bad_not c r2 e g hi (n := ds.length) (by rw [List.take_length]; exact r)
  | @bad ds bs ss d1 i r e g =>
    cases h' with
    | notT n => exact absurd rfl (n _)
    | done r' =>
      exfalso
      have hi := (List.getElem?_eq_some_iff.mp e).1
      exact bad_not c r e g hi (n := ds.length) (by rw [List.take_length]; exact r')
    | @bad _ bs2 ss2 d2 i2 r2 e2 g2 =>
      rcases Nat.lt_trichotomy i i2 with z | z | z
      · exact (bad_not c r e g z r2).elim
      · rw [z]
      · exact (bad_not c r2 e2 g2 z r).elim
end
/-- the data of an item that has the form of an event -/
def formD : PyData → Bool
  | .tuple [.str w, _, _] => decide (w = "get")
  | .tuple [.str w, _] => decide (w = "free")
  | _ => false
theorem good_form {s : Nat → Nat} {p M : Nat} {W : Int} {bs : List Bk} {d : PyData} (g : GoodD s p W M bs d) : formD d = true := by
  rcases g with ⟨j, a, _, e, _⟩ | ⟨b, _, e⟩ <;> rw [e] <;> simp [formD]
end Ph
namespace Ph
open PySem PySem.Spec PyProof.Rows L2
theorem form_iff {d : PyData} (h : formD d = true) : (∃ d1 d2, d = .tuple [.str "get", d1, d2]) ∨ ∃ d1, d = .tuple [.str "free", d1] := by
  unfold formD at h
  split at h
  · exact .inl ⟨_, _, by rw [of_decide_eq_true h]⟩
  · exact .inr ⟨_, by rw [of_decide_eq_true h]⟩
  · cases h
end Ph
namespace Ph
open PySem PySem.Spec PyProof.Rows L2
section
variable {X : Cx}
/-- t == (), t any tuple -/
def rEqT0 (K : PySem.W.Frag) : R2 := fun x y H Q => ∃ (a b : Addr) (xs : List V), x = .ref a ∧ y = .ref b ∧ SqT K H a xs ∧ SqT K H b [] ∧ Q (.bl xs.isEmpty) H
theorem op_eqT0 (hu : X.A.units < cLine) : OpR X (compareOp .Eq) (rEqT0 X.K) := by
  intro pins s σ H x y v u Q I rx ry h
  obtain ⟨a, b, xs, rfl, rfl, ha, hb, q⟩ := h
  obtain rfl : v = Value.ref a := rx
  obtain rfl : u = Value.ref b := ry
  obtain ⟨its, rv, p, _⟩ := I.tuple ha
  obtain ⟨its2, rv2, p2, _⟩ := I.tuple hb
  obtain rfl : its2 = [] := by cases rv2; rfl
  have key := SeqAt.RcAt.tuples (A := X.A) (s := s) (e := fun _ => true) p p2 hu (fun j h1 h2 => absurd h2 (by simp))
  have e : ((List.range (min its.toArray.size ([] : List Value).toArray.size)).all (fun _ => true) && its.toArray.size == ([] : List Value).toArray.size) = xs.isEmpty := by
    cases rv with
    | nil => rfl
    | cons r t => simp
  rw [e] at key
  exact key _ _ _ _ ⟨.bl _, H, I, rfl, q⟩
end
end Ph
namespace Ph
open PySem PySem.Spec PyProof.Rows L2
/-- data without dicts, as HandS tells it -/
theorem Dq.dp {K : PySem.W.Frag} {H : Hp} {v : V} {d : PyData} (h : Dq K H v d) : d.canLay0 = true → Dp K H v d := by
  refine @Dq.rec K H (fun v d _ => d.canLay0 = true → Dp K H v d) (fun vs ds _ => PyData.canLayAll0 ds = true → DpAll K H vs ds) (fun kvs D _ => True) ?_ ?_ ?_ ?_ ?_ ?_ ?_ ?_ ?_ ?_ ?_ v d h
  · exact fun _ => .non
  · exact fun b _ => .bl b
  · exact fun i _ => .int i
  · exact fun x _ => .str x
  · intro a xs ds hs ha ih c
    rw [PyData.canLay0] at c
    exact .lst hs (ih c)
  · intro a xs ds hs ha ih c
    rw [PyData.canLay0] at c
    exact .tup hs (ih c)
  · intro a kvs ds hs ha ih c
    rw [PyData.canLay0] at c
    cases c
  · exact fun _ => .nil
  · intro v vs d ds h r i1 i2 c
    rw [PyData.canLayAll0, Bool.and_eq_true] at c
    exact .cons (i1 c.1) (i2 c.2)
  · trivial
  · intros
    trivial
theorem evD_lay (t : Tri) : (evD t).canLay0 = true := by
  have h1 : PyData.strOk "get" = true := by decide +kernel
  have h2 : PyData.strOk "free" = true := by decide +kernel
  unfold evD
  split <;> simp [PyData.canLay0, PyData.canLayAll0, h1, h2]
theorem evD_depth (t : Tri) : (evD t).depth = 1 := by
  unfold evD
  split <;> simp [PyData.depth, PyData.depthAll]
theorem evDs_lay : ∀ ss : List Tri, PyData.canLayAll0 (ss.map evD) = true
  | [] => by simp [PyData.canLayAll0]
  | z :: zs => by simp [PyData.canLayAll0, evD_lay z, evDs_lay zs]
theorem evDs_depth : ∀ ss : List Tri, PyData.depthAll (ss.map evD) ≤ 1
  | [] => by simp [PyData.depthAll]
  | z :: zs => by
    have h1 := evDs_depth zs
    have h2 := evD_depth z
    simp only [List.map_cons, PyData.depthAll, h2]
    omega
theorem evDs_tlay (ss : List Tri) : PyData.canLay0 (.tuple (ss.map evD)) = true := by
  simp only [PyData.canLay0]
  exact evDs_lay ss
theorem evDs_shaped (ss : List Tri) : SeqAt.shaped (.tuple (ss.map evD)) = true := by
  have h1 := evDs_depth ss
  have h2 : PyData.depth (.tuple (ss.map evD)) ≤ 64 := by simp only [PyData.depth]; omega
  show (PyData.canLay0 (.tuple (ss.map evD)) && decide (PyData.depth (.tuple (ss.map evD)) ≤ 64)) = true
  rw [evDs_tlay, decide_eq_true h2]
  rfl
theorem dq_evs {K : PySem.W.Frag} {H : Hp} : ∀ {xs : List V} {ss : List Tri}, EvL H xs ss → DqAll K H xs (ss.map evD)
  | _, _, .nil => .nil
  | _, _, .cons (b := t) ⟨T, e, h⟩ r => by
    rw [e]
    refine .cons ?_ (dq_evs r)
    unfold evV at h
    unfold evD
    split at h
    · rename_i c
      rw [if_pos c]
      exact .tup (.inl (.inl h)) (.cons (.str _) (.cons (.int _) (.cons (.int _) .nil)))
    · rename_i c
      rw [if_neg c]
      exact .tup (.inl (.inl h)) (.cons (.str _) (.cons (.int _) .nil))
theorem his_dq {K : PySem.W.Frag} {H : Hp} {u : Addr} {ss : List Tri} (h : HisAt H u ss) : Dq K H (.ref u) (.tuple (ss.map evD)) := by
  obtain ⟨ys, e, l⟩ := h
  exact .tup (.inl (.inl e)) (dq_evs l)
end Ph

set_option maxHeartbeats 2000000
/-! PhN: own errors whose context is known to be None (L2N), so that they may be caught and another raised from None. -/
namespace Ph
open PySem PySem.Spec PyProof.Rows L2
section
variable {X : Cx} {e : Expr} {es : List Expr} {ta : TA}
theorem pmk_oexN {CX : CXT} {x : Str} {C fI : Addr} {k : Nat} {fd : FuncData} {ps : List Str} {sp : Sp} {ds : List Value} {dvs : List V} {p pos : Pos} (T : OexC X.K C) (iC : PySem.W.findIn X.K (.ref C) "__init__" = some (some (.ref fI))) (tI : PySem.W.typeIn X.K (.ref fI) = some (.type "function"))
    (F1 : FnOk X.prog X.w X.K X.mg X.base CX k fI fd ps sp) (hr : Room (k + 1) X.A) (hb : Binds X.K fd ps ds) (hd : Vals dvs ds) (hx : Passes CX X (fun _ _ _ => False)) (hg : Gl X x) (hm : X.mg x = some (.ref C)) (ha : PA X (e :: es) ta)
    (hdb : (x == ("__debug__" : Str)) = false := by decide) (he : starEach (e :: es) X.env = (false, eval e X.env) :: starEach es X.env := by rfl) (hpl : (backTo pos (starEach es X.env)).any (·.1) = false := by rfl) :
    L2N.PMk X (.Call (.Name x p) (e :: es) [] pos) (tMkO C sp dvs ta) := by
  intro pins s σ H Q I h
  obtain ⟨nm, q, N, bs, bm, sn, sub, ab, col, dd, k0, k1, k2, k3, k5, hC, hbm⟩ := T.cls
  refine wpAny_Call_Name_kw (ld_glob I hg hm ?_ hdb)
  refine PySem.W.callWith_K (h₀ := X.base) I.ok.mod.kin T.kC (thn (ha.run pos pins s σ H _ I h) fun us s1 ⟨vs, H1, I1, r1, hz, q1⟩ => ⟨I1.kIn, ?_⟩) he hpl
  show wpAny _ _ (call (.ref C) us) _ _ _
  obtain ⟨hp, g, dr, tk, os⟩ := s1
  have hsz : hp.objs.size ≤ hp.objs.size + 1 := Nat.le_succ _
  have hn : H1 (hp.objs.size + 1) = none := I1.hok.fresh hsz
  have hq := q1 (hp.objs.size + 1) hn
  have kk : ∀ b o, hp.get? b = some o → ((hp.push (PySem.W.kdv_tup us)).push (PySem.HandSPX.excO C hp.objs.size)).get? b = some o := fun b o e => Heap.get?_push_of_some _ (Heap.get?_push_of_some _ e)
  have hget : ((hp.push (PySem.W.kdv_tup us)).push (PySem.HandSPX.excO C hp.objs.size)).get? (hp.objs.size + 1) = some (PySem.HandSPX.excO C hp.objs.size) := by heap_get
  have I2 : Inv X pins σ (upd H1 (hp.objs.size + 1) (exo (hp.objs.size + 1) C none)) ⟨(hp.push (PySem.W.kdv_tup us)).push (PySem.HandSPX.excO C hp.objs.size), g, dr, tk, os⟩ :=
    I1.laid (t' := tk) (a := hp.objs.size + 1) (o := exo (hp.objs.size + 1) C none) (h' := (hp.push (PySem.W.kdv_tup us)).push (PySem.HandSPX.excO C hp.objs.size)) kk hsz (exo_ok hget)
  have r2 : Vals (V.ref (hp.objs.size + 1) :: (vs ++ dvs)) (Value.ref (hp.objs.size + 1) :: (us ++ ds)) := .cons rfl (r1.append hd)
  have hl : (Value.ref (hp.objs.size + 1) :: us ++ ds).length = ps.length := by
    have e := r2.length
    rw [F1.len _ _ _ _ hq] at e
    exact e.symm
  have hus : us.length ≤ sizeLine := by
    rw [← Paired.length r1, sizeLine_eq]
    omega
  refine wpAny_call (PySem.HandSPX.call_own F.excBase_ValueError (fun Y => PySem.HandSPX.refsVE_contains Y bm hbm) (I1.kIn _ _ hC) (PySem.W.looks_findIn I1.kIn iC) (fun self => PySem.W.bind_fn I1.kIn self tI) hus
    (codeAny_mono (F1.run _ X.stack _ _ ⟨Value.ref (hp.objs.size + 1) :: us, []⟩ (Value.ref (hp.objs.size + 1) :: (us ++ ds)) _ _ (fun _ _ _ => False) (hr.make C us []) (I2.env0.make C us []) (hb _ (Value.ref (hp.objs.size + 1) :: us) I2.kIn hl) r2 hq) fun r s' hq' => ?_))
  cases r with
  | error er => exact hx pins σ _ _ er s' I2 hq'
  | ok fl =>
    cases fl with
    | ret u =>
      obtain ⟨v, H2, os2, bare2, un2, hok2, rv, ev, d, fs, ea, ed, hd1, q2⟩ := hq'
      subst ev
      obtain ⟨h2, g2, d2, t2, os'⟩ := s'
      obtain ⟨t0, G, J, kG, ge, hoe, na⟩ := mk_end0 (d2 := d2) (t2 := t2) I1 hsz kk un2 hok2 os2 bare2 ea ed hd1
      refine ⟨rv, ⟨hp.objs.size + 1, _, _, ⟨G, g2, d2, t2, os'⟩, _, .ref C, some d, rfl, J, kG, ge, hoe, ⟨rfl, rfl, fun vs hv => ?_⟩, rfl, rfl, na, rfl, bare2, raises_own T.exC T.tyC, q2⟩⟩
      cases hv
      rfl
    | next => exact False.elim hq'
    | brk => exact False.elim hq'
    | cont => exact False.elim hq'
end
section
variable {P : Program} {w : World} {K : PySem.W.Frag} {mg : Str → Option Value} {base : Heap}
/-- as Fun.okX -/
theorem okN {x qual : Str} {st : Stmt} {f : Addr} {fd : FuncData} {N ps : List Str} {k : Nat} {sp : Sp} (F : Fun K x qual st f fd) (S : FnScope N ps (defScope st)) (len : ∀ vs H Q E, sp vs H Q E → vs.length = ps.length)
    (hbody : ∀ (cdv : Value) (A : Around) (outer : List Env) (s : Shared) (H : Hp) (vs : List V) (Q : VK) (E : XK), Room k (A.deeper (envOfC qual (defScope st) s.heap.objs.size f cdv)) → sp vs H Q E →
      ∃ t, PSs (cxOf (L2N.CX P w) P w K mg base N qual (defScope st) f cdv A outer s H E) (defBody st) t ∧ t { nx := fun _ H' => Q .non H', rt := Q } (start N vs) H) : FnOk P w K mg base (L2N.CX P w) (k + 1) f fd ps sp := by
  obtain ⟨oc, od, kV, doc, pm, an, cdv, ct, osl, rfl, lk, hcd⟩ := F.ex
  exact fn_of lk hcd S len fun A outer s H vs Q E hr hsp => hbody cdv A outer s H vs Q E hr hsp
/-- a def called while an exception is handled -/
theorem okH {x qual : Str} {st : Stmt} {f : Addr} {fd : FuncData} {N ps : List Str} {k : Nat} {sp : Sp} (F : Fun K x qual st f fd) (S : FnScope N ps (defScope st)) (len : ∀ vs H Q E, sp vs H Q E → vs.length = ps.length)
    (hbody : ∀ (cdv : Value) (A : Around) (outer : List Env) (s : Shared) (H : Hp) (vs : List V) (Q : VK) (E : XK) (p : Addr × Obj), L2H.Hot1 A p → L2H.RoomH k (A.deeper (envOfC qual (defScope st) s.heap.objs.size f cdv)) → sp vs H Q E →
      ∃ t, PSs (L2H.cxH CX0 P w K mg base N qual (defScope st) f cdv A outer s H E p) (defBody st) t ∧ t { nx := fun _ H' => Q .non H', rt := Q } (start N vs) H) : L2H.FnH P w K mg base CX0 (k + 1) f fd ps sp := by
  obtain ⟨oc, od, kV, doc, pm, an, cdv, ct, osl, rfl, lk, hcd⟩ := F.ex
  exact L2H.fn_ofH lk hcd S len fun A outer s H vs Q E p hot hr hsp => hbody cdv A outer s H vs Q E p hot hr hsp
theorem fn_orN {CX : CXT} {k : Nat} {f : Addr} {fd : FuncData} {ps : List Str} {s1 s2 : Sp} (F1 : FnOk P w K mg base CX0 k f fd ps s1) (F2 : FnOk P w K mg base CX k f fd ps s2) :
    FnOk P w K mg base CX k f fd ps (fun vs H Q E => s1 vs H Q E ∨ s2 vs H Q E) :=
  ⟨fun vs H Q E h => h.elim (F1.len vs H Q E) (F2.len vs H Q E), fun A outer s H args us vs Q E hr e0 hb r h => h.elim (fun h => codeAny_mono (F1.run A outer s H args us vs Q E hr e0 hb r h) fun r s' out => match r, out with
    | .error _, out => (show False from out).elim
    | .ok (.ret _), out => out) (F2.run A outer s H args us vs Q E hr e0 hb r)⟩
theorem fn_orX' {CX : CXT} {k : Nat} {f : Addr} {fd : FuncData} {ps : List Str} {s1 s2 : Sp} (F1 : FnOk P w K mg base CX k f fd ps s1) (F2 : FnOk P w K mg base CX k f fd ps s2) :
    FnOk P w K mg base CX k f fd ps (fun vs H Q E => s1 vs H Q E ∨ s2 vs H Q E) :=
  ⟨fun vs H Q E h => h.elim (F1.len vs H Q E) (F2.len vs H Q E), fun A outer s H args us vs Q E hr e0 hb r h => h.elim (F1.run A outer s H args us vs Q E hr e0 hb r) (F2.run A outer s H args us vs Q E hr e0 hb r)⟩
end
end Ph

/-! PhIsq: for over a list or a tuple, whichever it is. -/
namespace Ph
open PySem PySem.Spec PyProof.Rows L2
section
variable {X : Cx} {tg : Expr}
def SqA (K : PySem.W.Frag) (H : Hp) (a : Addr) (xs : List V) : Prop := SqL K H a xs ∨ SqT K H a xs
def iSeq (K : PySem.W.Frag) (te : TE) : TI := fun σ H R => te σ H fun x H1 => ∃ a xs, x = .ref a ∧ SqA K H1 a xs ∧ ∀ J, Walk J xs.length (fun H => SqA K H1 a xs → (∀ ys, (SqL K H1 a ys → SqL K H a ys) ∧ (SqT K H1 a ys → SqT K H a ys))) (YAt xs) → R J H1
theorem pi_seq {l : Expr} {tl : TE} (hl : PE X l tl) : PI X tg l (iSeq X.K tl) := by
  refine ⟨fun pins s σ H R I h => ?_⟩
  refine thn (hl.run pins s σ H _ I h) fun v s1 ⟨x, H1, I1, r1, q1⟩ => ?_
  obtain ⟨a, xs, e, hq, q⟩ := q1
  subst e
  cases r1
  have fpo : ∀ b ∈ [s1.heap.objs.size], FpOk X pins H1 b := fun b hb => by
    have e : b = s1.heap.objs.size := by simpa using hb
    subst e
    exact I1.fpOk (Nat.le_refl _) (I1.hok.fresh (Nat.le_refl _))
  rcases id hq with hq1 | hq1
  · obtain ⟨its, rv, p, hz⟩ := I1.list hq1
    refine wpAny_pyIter_list p.isList ?_
    exact ⟨s1.heap.objs.size, [s1.heap.objs.size], _, _, H1, rfl, I1.kept (t' := s1.toks) fun b o e => Heap.get?_push_of_some _ e, turn_list a _, ⟨_, Heap.get?_push_size _ rfl, rfl, rfl⟩, fpo, q _ ((walk_list (K := X.K) (a := a) (xs := xs)).mono (fun H g => (g hq xs).1 hq1) fun _ _ _ _ _ _ y => y)⟩
  · obtain ⟨its, rv, p, hz⟩ := I1.tuple hq1
    refine wpAny_pyIter_tuple (show s1.heap.IsTuple a its.toArray from p) ?_
    exact ⟨s1.heap.objs.size, [s1.heap.objs.size], _, _, H1, rfl, I1.kept (t' := s1.toks) fun b o e => Heap.get?_push_of_some _ e, turn_tuple a _, ⟨_, Heap.get?_push_size _ rfl, rfl, rfl⟩, fpo, q _ ((walk_tup (K := X.K) (a := a) (xs := xs)).mono (fun H g => (g hq xs).2 hq1) fun _ _ _ _ _ _ y => y)⟩
end
end Ph

set_option maxHeartbeats 8000000
namespace Ph
open PySem PySem.Spec PyProof.Rows L2
def topS (i : Nat) : Stmt := PySem.Challenge.pw_pinnedheap_k46_exhaustions_of_any_value.main.body.getD i (.Pass ⟨0, 0, 0, 0⟩)
structure Fns (K : PySem.W.Frag) (mg : Str → Option Value) where
  N : Nm6 K mg
  CHeap : Addr
  clHeap : Cls K CHeap
  gcHeap : mg "Heap" = some (.ref CHeap)
  naHeap_chain : NoAttr K CHeap "chain"
  naHeap_pages : NoAttr K CHeap "pages"
  naHeap_limit : NoAttr K CHeap "limit"
  naHeap_rule : NoAttr K CHeap "rule"
  naHeap_blocks : NoAttr K CHeap "blocks"
  naHeap_steps : NoAttr K CHeap "steps"
  nve : mg "ValueError" = none
  CHeapError : Addr
  gcHeapError : mg "HeapError" = some (.ref CHeapError)
  CBadSize : Addr
  gcBadSize : mg "BadSize" = some (.ref CBadSize)
  COverLimit : Addr
  gcOverLimit : mg "OverLimit" = some (.ref COverLimit)
  CBadPlace : Addr
  gcBadPlace : mg "BadPlace" = some (.ref CBadPlace)
  CNoBlock : Addr
  gcNoBlock : mg "NoBlock" = some (.ref CNoBlock)
  CBadEvent : Addr
  gcBadEvent : mg "BadEvent" = some (.ref CBadEvent)
  oxBadSize : OexC K CBadSize
  ecBadSize : ExcC K CBadSize
  xfBadSize : XfC K CBadSize
  nfBadSize_size : PySem.W.findIn K (.ref CBadSize) "size" = some none
  isBadSize_HeapError : PySem.W.kitOne K (.ref CBadSize) (.ref CHeapError) = some true
  isBadSize_BadSize : PySem.W.kitOne K (.ref CBadSize) (.ref CBadSize) = some true
  isBadSize_OverLimit : PySem.W.kitOne K (.ref CBadSize) (.ref COverLimit) = some false
  isBadSize_BadPlace : PySem.W.kitOne K (.ref CBadSize) (.ref CBadPlace) = some false
  isBadSize_NoBlock : PySem.W.kitOne K (.ref CBadSize) (.ref CNoBlock) = some false
  isBadSize_BadEvent : PySem.W.kitOne K (.ref CBadSize) (.ref CBadEvent) = some false
  isBadSize_ValueError : PySem.W.kitOne K (.ref CBadSize) (.type "ValueError") = some true
  exBadSize : PySem.W.exmOne K (.ref CBadSize) (.ref CHeapError) = some true
  exBadSize_BadSize : PySem.W.exmOne K (.ref CBadSize) (.ref CBadSize) = some true
  oxOverLimit : OexC K COverLimit
  ecOverLimit : ExcC K COverLimit
  xfOverLimit : XfC K COverLimit
  nfOverLimit_size : PySem.W.findIn K (.ref COverLimit) "size" = some none
  isOverLimit_HeapError : PySem.W.kitOne K (.ref COverLimit) (.ref CHeapError) = some true
  isOverLimit_BadSize : PySem.W.kitOne K (.ref COverLimit) (.ref CBadSize) = some false
  isOverLimit_OverLimit : PySem.W.kitOne K (.ref COverLimit) (.ref COverLimit) = some true
  isOverLimit_BadPlace : PySem.W.kitOne K (.ref COverLimit) (.ref CBadPlace) = some false
  isOverLimit_NoBlock : PySem.W.kitOne K (.ref COverLimit) (.ref CNoBlock) = some false
  isOverLimit_BadEvent : PySem.W.kitOne K (.ref COverLimit) (.ref CBadEvent) = some false
  isOverLimit_ValueError : PySem.W.kitOne K (.ref COverLimit) (.type "ValueError") = some true
  exOverLimit : PySem.W.exmOne K (.ref COverLimit) (.ref CHeapError) = some true
  exOverLimit_OverLimit : PySem.W.exmOne K (.ref COverLimit) (.ref COverLimit) = some true
  oxBadPlace : OexC K CBadPlace
  ecBadPlace : ExcC K CBadPlace
  xfBadPlace : XfC K CBadPlace
  nfBadPlace_address : PySem.W.findIn K (.ref CBadPlace) "address" = some none
  isBadPlace_HeapError : PySem.W.kitOne K (.ref CBadPlace) (.ref CHeapError) = some true
  isBadPlace_BadSize : PySem.W.kitOne K (.ref CBadPlace) (.ref CBadSize) = some false
  isBadPlace_OverLimit : PySem.W.kitOne K (.ref CBadPlace) (.ref COverLimit) = some false
  isBadPlace_BadPlace : PySem.W.kitOne K (.ref CBadPlace) (.ref CBadPlace) = some true
  isBadPlace_NoBlock : PySem.W.kitOne K (.ref CBadPlace) (.ref CNoBlock) = some false
  isBadPlace_BadEvent : PySem.W.kitOne K (.ref CBadPlace) (.ref CBadEvent) = some false
  isBadPlace_ValueError : PySem.W.kitOne K (.ref CBadPlace) (.type "ValueError") = some true
  exBadPlace : PySem.W.exmOne K (.ref CBadPlace) (.ref CHeapError) = some true
  exBadPlace_BadPlace : PySem.W.exmOne K (.ref CBadPlace) (.ref CBadPlace) = some true
  oxNoBlock : OexC K CNoBlock
  ecNoBlock : ExcC K CNoBlock
  xfNoBlock : XfC K CNoBlock
  nfNoBlock_address : PySem.W.findIn K (.ref CNoBlock) "address" = some none
  isNoBlock_HeapError : PySem.W.kitOne K (.ref CNoBlock) (.ref CHeapError) = some true
  isNoBlock_BadSize : PySem.W.kitOne K (.ref CNoBlock) (.ref CBadSize) = some false
  isNoBlock_OverLimit : PySem.W.kitOne K (.ref CNoBlock) (.ref COverLimit) = some false
  isNoBlock_BadPlace : PySem.W.kitOne K (.ref CNoBlock) (.ref CBadPlace) = some false
  isNoBlock_NoBlock : PySem.W.kitOne K (.ref CNoBlock) (.ref CNoBlock) = some true
  isNoBlock_BadEvent : PySem.W.kitOne K (.ref CNoBlock) (.ref CBadEvent) = some false
  isNoBlock_ValueError : PySem.W.kitOne K (.ref CNoBlock) (.type "ValueError") = some true
  exNoBlock : PySem.W.exmOne K (.ref CNoBlock) (.ref CHeapError) = some true
  exNoBlock_NoBlock : PySem.W.exmOne K (.ref CNoBlock) (.ref CNoBlock) = some true
  oxBadEvent : OexC K CBadEvent
  ecBadEvent : ExcC K CBadEvent
  xfBadEvent : XfC K CBadEvent
  nfBadEvent_number : PySem.W.findIn K (.ref CBadEvent) "number" = some none
  isBadEvent_HeapError : PySem.W.kitOne K (.ref CBadEvent) (.ref CHeapError) = some true
  isBadEvent_BadSize : PySem.W.kitOne K (.ref CBadEvent) (.ref CBadSize) = some false
  isBadEvent_OverLimit : PySem.W.kitOne K (.ref CBadEvent) (.ref COverLimit) = some false
  isBadEvent_BadPlace : PySem.W.kitOne K (.ref CBadEvent) (.ref CBadPlace) = some false
  isBadEvent_NoBlock : PySem.W.kitOne K (.ref CBadEvent) (.ref CNoBlock) = some false
  isBadEvent_BadEvent : PySem.W.kitOne K (.ref CBadEvent) (.ref CBadEvent) = some true
  isBadEvent_ValueError : PySem.W.kitOne K (.ref CBadEvent) (.type "ValueError") = some true
  exBadEvent : PySem.W.exmOne K (.ref CBadEvent) (.ref CHeapError) = some true
  exBadEvent_BadEvent : PySem.W.exmOne K (.ref CBadEvent) (.ref CBadEvent) = some true
  k_MOST_SIZES : ∃ t : Tok, mg "MOST_SIZES" = some (.int 12 t)
  k_LARGEST_SIZE : ∃ t : Tok, mg "LARGEST_SIZE" = some (.int 1000000000 t)
  a_RULES : Addr
  k_RULES : mg "RULES" = some (.ref a_RULES)
  t_RULES : ∀ H : Hp, SqT K H a_RULES [V.str "lowest", V.str "highest", V.str "tight", V.str "loose"]
  fSi : Addr
  fdSi : FuncData
  FSi : Fun K "__init__" "BadSize.__init__" (inClass (topS 7) 0) fSi fdSi
  bSi : Binds K fdSi ["self", "size"] []
  iSi : PySem.W.findIn K (.ref CBadSize) "__init__" = some (some (.ref fSi))
  tSi : PySem.W.typeIn K (.ref fSi) = some (.type "function")
  fOi : Addr
  fdOi : FuncData
  FOi : Fun K "__init__" "OverLimit.__init__" (inClass (topS 10) 0) fOi fdOi
  bOi : Binds K fdOi ["self", "size"] []
  iOi : PySem.W.findIn K (.ref COverLimit) "__init__" = some (some (.ref fOi))
  tOi : PySem.W.typeIn K (.ref fOi) = some (.type "function")
  fBi : Addr
  fdBi : FuncData
  FBi : Fun K "__init__" "BadPlace.__init__" (inClass (topS 8) 0) fBi fdBi
  bBi : Binds K fdBi ["self", "address"] []
  iBi : PySem.W.findIn K (.ref CBadPlace) "__init__" = some (some (.ref fBi))
  tBi : PySem.W.typeIn K (.ref fBi) = some (.type "function")
  fBn : Addr
  fdBn : FuncData
  FBn : Fun K "__init__" "NoBlock.__init__" (inClass (topS 12) 0) fBn fdBn
  bBn : Binds K fdBn ["self", "address"] []
  iBn : PySem.W.findIn K (.ref CNoBlock) "__init__" = some (some (.ref fBn))
  tBn : PySem.W.typeIn K (.ref fBn) = some (.type "function")
  fBe : Addr
  fdBe : FuncData
  FBe : Fun K "__init__" "BadEvent.__init__" (inClass (topS 9) 0) fBe fdBe
  bBe : Binds K fdBe ["self", "number"] []
  iBe : PySem.W.findIn K (.ref CBadEvent) "__init__" = some (some (.ref fBe))
  tBe : PySem.W.typeIn K (.ref fBe) = some (.type "function")
  fI : Addr
  fdI : FuncData
  FI : Fun K "is_integer" "is_integer" (topS 14) fI fdI
  bI : Binds K fdI ["value"] []
  gI : mg "is_integer" = some (.ref fI)
  fDu : Addr
  fdDu : FuncData
  FDu : Fun K "divided_up" "divided_up" (topS 15) fDu fdDu
  bDu : Binds K fdDu ["number", "divisor"] []
  gDu : mg "divided_up" = some (.ref fDu)
  fCi : Addr
  fdCi : FuncData
  FCi : Fun K "is_chain" "is_chain" (topS 19) fCi fdCi
  bCi : Binds K fdCi ["value"] []
  gCi : mg "is_chain" = some (.ref fCi)
  fMf : Addr
  fdMf : FuncData
  FMf : Fun K "may_follow" "may_follow" (topS 20) fMf fdMf
  bMf : Binds K fdMf ["larger", "size"] []
  gMf : mg "may_follow" = some (.ref fMf)
  fZ : Addr
  fdZ : FuncData
  FZ : Fun K "is_size" "is_size" (topS 21) fZ fdZ
  bZ : Binds K fdZ ["chain", "value"] []
  gZ : mg "is_size" = some (.ref fZ)
  fC : Addr
  fdC : FuncData
  FC : Fun K "class_of" "class_of" (topS 22) fC fdC
  bC : Binds K fdC ["chain", "size"] []
  gC : mg "class_of" = some (.ref fC)
  fV : Addr
  fdV : FuncData
  FV : Fun K "live_words" "live_words" (topS 24) fV fdV
  bV : Binds K fdV ["state"] []
  gV : mg "live_words" = some (.ref fV)
  fPl : Addr
  fdPl : FuncData
  FPl : Fun K "places" "places" (topS 25) fPl fdPl
  bPl : Binds K fdPl ["chain", "pages", "state", "size"] []
  gPl : mg "places" = some (.ref fPl)
  fGp : Addr
  fdGp : FuncData
  FGp : Fun K "gaps" "gaps" (topS 26) fGp fdGp
  bGp : Binds K fdGp ["chain", "pages", "state", "size"] []
  gGp : mg "gaps" = some (.ref fGp)
  fIp : Addr
  fdIp : FuncData
  FIp : Fun K "is_place" "is_place" (topS 27) fIp fdIp
  bIp : Binds K fdIp ["chain", "pages", "state", "address", "size"] []
  gIp : mg "is_place" = some (.ref fIp)
  fMh : Addr
  fdMh : FuncData
  FMh : Fun K "may_hold" "may_hold" (topS 28) fMh fdMh
  bMh : Binds K fdMh ["state", "address", "size"] []
  gMh : mg "may_hold" = some (.ref fMh)
  fWb : Addr
  fdWb : FuncData
  FWb : Fun K "with_block" "with_block" (topS 29) fWb fdWb
  bWb : Binds K fdWb ["state", "address", "size"] []
  gWb : mg "with_block" = some (.ref fWb)
  fOb : Addr
  fdOb : FuncData
  FOb : Fun K "without_block" "without_block" (topS 30) fOb fdOb
  bOb : Binds K fdOb ["state", "address"] []
  gOb : mg "without_block" = some (.ref fOb)
  fHb : Addr
  fdHb : FuncData
  FHb : Fun K "has_block" "has_block" (topS 31) fHb fdHb
  bHb : Binds K fdHb ["state", "value"] []
  gHb : mg "has_block" = some (.ref fHb)
  fIr : Addr
  fdIr : FuncData
  FIr : Fun K "is_rule" "is_rule" (topS 34) fIr fdIr
  bIr : Binds K fdIr ["value"] []
  gIr : mg "is_rule" = some (.ref fIr)
  fHi : Addr
  fdHi : FuncData
  FHi : FunD K "__init__" "Heap.__init__" (defArgs (inClass (topS 40) 0)) (defBody (inClass (topS 40) 0)) (defScope (inClass (topS 40) 0)) [] [("rule", V.str "lowest")] fHi fdHi
  MHi : Mk K CHeap fHi
  bHi : ∃ ds, Vals [V.str "lowest"] ds ∧ Binds K fdHi ["self", "chain", "pages", "limit", "rule"] ds
  fPt : Addr
  fdPt : FuncData
  FPt : Fun K "put" "Heap.put" (inClass (topS 40) 2) fPt fdPt
  bPt : Binds K fdPt ["self", "address", "size"] []
  mPt : Meth K CHeap "put" fPt
  fHk : Addr
  fdHk : FuncData
  FHk : Fun K "check" "Heap.check" (inClass (topS 40) 3) fHk fdHk
  bHk : Binds K fdHk ["self", "size"] []
  mHk : Meth K CHeap "check" fHk
  fHe : Addr
  fdHe : FuncData
  FHe : Fun K "enter" "Heap.enter" (inClass (topS 40) 4) fHe fdHe
  bHe : Binds K fdHe ["self", "address", "size"] []
  mHe : Meth K CHeap "enter" fHe
  fHf : Addr
  fdHf : FuncData
  FHf : Fun K "free" "Heap.free" (inClass (topS 40) 5) fHf fdHf
  bHf : Binds K fdHf ["self", "address"] []
  mHf : Meth K CHeap "free" fHf
  fHs : Addr
  fdHs : FuncData
  FHs : Fun K "state" "Heap.state" (inClass (topS 40) 7) fHs fdHs
  bHs : Binds K fdHs ["self"] []
  mHs : Meth K CHeap "state" fHs
  fHl : Addr
  fdHl : FuncData
  FHl : Fun K "live" "Heap.live" (inClass (topS 40) 8) fHl fdHl
  bHl : Binds K fdHl ["self"] []
  mHl : Meth K CHeap "live" fHl
  fRy : Addr
  fdRy : FuncData
  FRy : Fun K "replay" "replay" (topS 42) fRy fdRy
  bRy : Binds K fdRy ["chain", "pages", "limit", "history"] []
  gRy : mg "replay" = some (.ref fRy)
  fFe : Addr
  fdFe : FuncData
  FFe : Fun K "has_form_of_event" "has_form_of_event" (topS 43) fFe fdFe
  bFe : Binds K fdFe ["value"] []
  gFe : mg "has_form_of_event" = some (.ref fFe)
  fRe : Addr
  fdRe : FuncData
  FRe : Fun K "repeat" "repeat" (topS 44) fRe fdRe
  bRe : Binds K fdRe ["heap", "event"] []
  gRe : mg "repeat" = some (.ref fRe)
  fSx : Addr
  fdSx : FuncData
  FSx : Fun K "shows_exhaustion" "shows_exhaustion" (topS 46) fSx fdSx
  bSx : Binds K fdSx ["chain", "limit", "pages", "value"] []
  gSx : mg "shows_exhaustion" = some (.ref fSx)
  fFg : Addr
  fdFg : FuncData
  FFg : Fun K "is_failed_get" "is_failed_get" (topS 47) fFg fdFg
  bFg : Binds K fdFg ["chain", "value"] []
  gFg : mg "is_failed_get" = some (.ref fFg)
  fDw : Addr
  fdDw : FuncData
  FDw : Fun K "_law_draws" "_law_draws" (topS 49) fDw fdDw
  bDw : Binds K fdDw ["_law_script", "_law_k"] []
  gDw : mg "_law_draws" = some (.ref fDw)
  fNx : Addr
  fdNx : FuncData
  FNx : Fun K "_law_next" "_law_next" (topS 50) fNx fdNx
  bNx : Binds K fdNx ["_law_draws_here", "_law_bound"] []
  gNx : mg "_law_next" = some (.ref fNx)
  fPk : Addr
  fdPk : FuncData
  FPk : Fun K "_law_pick" "_law_pick" (topS 51) fPk fdPk
  bPk : Binds K fdPk ["_law_draws_here", "_law_items"] []
  gPk : mg "_law_pick" = some (.ref fPk)
  fCc : Addr
  fdCc : FuncData
  FCc : Fun K "_law_chain" "_law_chain" (topS 52) fCc fdCc
  bCc : Binds K fdCc ["_law_draws_here", "_law_most", "_law_longest"] []
  gCc : mg "_law_chain" = some (.ref fCc)
  fTo : Addr
  fdTo : FuncData
  FTo : Fun K "_law_total" "_law_total" (topS 53) fTo fdTo
  bTo : Binds K fdTo ["_law_blocks"] []
  gTo : mg "_law_total" = some (.ref fTo)
  fMo : Addr
  fdMo : FuncData
  FMo : Fun K "_law_more" "_law_more" (topS 54) fMo fdMo
  bMo : Binds K fdMo ["_law_blocks", "_law_address", "_law_size"] []
  gMo : mg "_law_more" = some (.ref fMo)
  fLe : Addr
  fdLe : FuncData
  FLe : Fun K "_law_less" "_law_less" (topS 55) fLe fdLe
  bLe : Binds K fdLe ["_law_blocks", "_law_address"] []
  gLe : mg "_law_less" = some (.ref fLe)
  fFp : Addr
  fdFp : FuncData
  FFp : Fun K "_law_free_places" "_law_free_places" (topS 56) fFp fdFp
  bFp : Binds K fdFp ["_law_blocks", "_law_size", "_law_words"] []
  gFp : mg "_law_free_places" = some (.ref fFp)
  fIm : Addr
  fdIm : FuncData
  FIm : Fun K "_law_is_number" "_law_is_number" (topS 57) fIm fdIm
  bIm : Binds K fdIm ["_law_value", "_law_least"] []
  gIm : mg "_law_is_number" = some (.ref fIm)
  fCg : Addr
  fdCg : FuncData
  FCg : Fun K "_law_can_get" "_law_can_get" (topS 58) fCg fdCg
  bCg : Binds K fdCg ["_law_chain_here", "_law_limit", "_law_blocks", "_law_event"] []
  gCg : mg "_law_can_get" = some (.ref fCg)
  fAf : Addr
  fdAf : FuncData
  FAf : Fun K "_law_after" "_law_after" (topS 59) fAf fdAf
  bAf : Binds K fdAf ["_law_chain_here", "_law_limit", "_law_words", "_law_blocks", "_law_event"] []
  gAf : mg "_law_after" = some (.ref fAf)
  fDx : Addr
  fdDx : FuncData
  FDx : Fun K "_law_due" "_law_due" (topS 60) fDx fdDx
  bDx : Binds K fdDx ["_law_chain_here", "_law_limit", "_law_words", "_law_value"] []
  gDx : mg "_law_due" = some (.ref fDx)
  fEs : Addr
  fdEs : FuncData
  FEs : Fun K "_law_events" "_law_events" (topS 61) fEs fdEs
  bEs : Binds K fdEs ["_law_draws_here", "_law_chain_here", "_law_limit", "_law_words"] []
  gEs : mg "_law_events" = some (.ref fEs)
  fBt : Addr
  fdBt : FuncData
  FBt : Fun K "_law_bent" "_law_bent" (topS 62) fBt fdBt
  bBt : Binds K fdBt ["_law_draws_here", "_law_item", "_law_deep"] []
  gBt : mg "_law_bent" = some (.ref fBt)
  fRi : Addr
  fdRi : FuncData
  FRi : Fun K "_law_right" "_law_right" (topS 63) fRi fdRi
  bRi : Binds K fdRi ["_law_draws_here"] []
  gRi : mg "_law_right" = some (.ref fRi)
  fLaw : Addr
  fdLaw : FuncData
  FLaw : Fun K "law" "law" (topS 64) fLaw fdLaw
  bLaw : Binds K fdLaw ["_law_script"] []
  gLaw : mg "law" = some (.ref fLaw)
abbrev sSi : Stmt := (inClass (topS 7) 0)
abbrev scSiS : Stmt := sSi
abbrev scSiN : List Str := ["self", "size"]
theorem scSi : FnScope ["self", "size"] ["self", "size"] (defScope sSi) := ⟨rfl, rfl, rfl, by decide +kernel, rfl, by decide +kernel, by decide +kernel⟩
abbrev sOi : Stmt := (inClass (topS 10) 0)
abbrev scOiS : Stmt := sOi
abbrev scOiN : List Str := ["self", "size"]
theorem scOi : FnScope ["self", "size"] ["self", "size"] (defScope sOi) := ⟨rfl, rfl, rfl, by decide +kernel, rfl, by decide +kernel, by decide +kernel⟩
abbrev sBi : Stmt := (inClass (topS 8) 0)
abbrev scBiS : Stmt := sBi
abbrev scBiN : List Str := ["self", "address"]
theorem scBi : FnScope ["self", "address"] ["self", "address"] (defScope sBi) := ⟨rfl, rfl, rfl, by decide +kernel, rfl, by decide +kernel, by decide +kernel⟩
abbrev sBn : Stmt := (inClass (topS 12) 0)
abbrev scBnS : Stmt := sBn
abbrev scBnN : List Str := ["self", "address"]
theorem scBn : FnScope ["self", "address"] ["self", "address"] (defScope sBn) := ⟨rfl, rfl, rfl, by decide +kernel, rfl, by decide +kernel, by decide +kernel⟩
abbrev sBe : Stmt := (inClass (topS 9) 0)
abbrev scBeS : Stmt := sBe
abbrev scBeN : List Str := ["self", "number"]
theorem scBe : FnScope ["self", "number"] ["self", "number"] (defScope sBe) := ⟨rfl, rfl, rfl, by decide +kernel, rfl, by decide +kernel, by decide +kernel⟩
abbrev sI : Stmt := (topS 14)
abbrev scIS : Stmt := sI
abbrev scIN : List Str := ["value"]
theorem scI : FnScope ["value"] ["value"] (defScope sI) := ⟨rfl, rfl, rfl, by decide +kernel, rfl, by decide +kernel, by decide +kernel⟩
abbrev sDu : Stmt := (topS 15)
abbrev scDuS : Stmt := sDu
abbrev scDuN : List Str := ["number", "divisor"]
theorem scDu : FnScope ["number", "divisor"] ["number", "divisor"] (defScope sDu) := ⟨rfl, rfl, rfl, by decide +kernel, rfl, by decide +kernel, by decide +kernel⟩
abbrev sCi : Stmt := (topS 19)
abbrev scCiS : Stmt := sCi
abbrev scCiN : List Str := ["value", "size", "larger"]
theorem scCi : FnScope ["value", "size", "larger"] ["value"] (defScope sCi) := ⟨rfl, rfl, rfl, by decide +kernel, rfl, by decide +kernel, by decide +kernel⟩
abbrev sMf : Stmt := (topS 20)
abbrev scMfS : Stmt := sMf
abbrev scMfN : List Str := ["larger", "size"]
theorem scMf : FnScope ["larger", "size"] ["larger", "size"] (defScope sMf) := ⟨rfl, rfl, rfl, by decide +kernel, rfl, by decide +kernel, by decide +kernel⟩
abbrev sZ : Stmt := (topS 21)
abbrev scZS : Stmt := sZ
abbrev scZN : List Str := ["chain", "value"]
theorem scZ : FnScope ["chain", "value"] ["chain", "value"] (defScope sZ) := ⟨rfl, rfl, rfl, by decide +kernel, rfl, by decide +kernel, by decide +kernel⟩
abbrev sC : Stmt := (topS 22)
abbrev scCS : Stmt := sC
abbrev scCN : List Str := ["chain", "size"]
theorem scC : FnScope ["chain", "size"] ["chain", "size"] (defScope sC) := ⟨rfl, rfl, rfl, by decide +kernel, rfl, by decide +kernel, by decide +kernel⟩
abbrev sV : Stmt := (topS 24)
abbrev scVS : Stmt := sV
abbrev scVN : List Str := ["state", "address", "size"]
theorem scV : FnScope ["state", "address", "size"] ["state"] (defScope sV) := ⟨rfl, rfl, rfl, by decide +kernel, rfl, by decide +kernel, by decide +kernel⟩
abbrev sPl : Stmt := (topS 25)
abbrev scPlS : Stmt := sPl
abbrev scPlN : List Str := ["chain", "pages", "state", "size", "found", "first", "last"]
theorem scPl : FnScope ["chain", "pages", "state", "size", "found", "first", "last"] ["chain", "pages", "state", "size"] (defScope sPl) := ⟨rfl, rfl, rfl, by decide +kernel, rfl, by decide +kernel, by decide +kernel⟩
abbrev sGp : Stmt := (topS 26)
abbrev scGpS : Stmt := sGp
abbrev scGpN : List Str := ["chain", "pages", "state", "size", "found", "free_from", "address", "taken", "first", "last"]
theorem scGp : FnScope ["chain", "pages", "state", "size", "found", "free_from", "address", "taken", "first", "last"] ["chain", "pages", "state", "size"] (defScope sGp) := ⟨rfl, rfl, rfl, by decide +kernel, rfl, by decide +kernel, by decide +kernel⟩
abbrev sIp : Stmt := (topS 27)
abbrev scIpS : Stmt := sIp
abbrev scIpN : List Str := ["chain", "pages", "state", "address", "size"]
theorem scIp : FnScope ["chain", "pages", "state", "address", "size"] ["chain", "pages", "state", "address", "size"] (defScope sIp) := ⟨rfl, rfl, rfl, by decide +kernel, rfl, by decide +kernel, by decide +kernel⟩
abbrev sMh : Stmt := (topS 28)
abbrev scMhS : Stmt := sMh
abbrev scMhN : List Str := ["state", "address", "size", "start", "taken"]
theorem scMh : FnScope ["state", "address", "size", "start", "taken"] ["state", "address", "size"] (defScope sMh) := ⟨rfl, rfl, rfl, by decide +kernel, rfl, by decide +kernel, by decide +kernel⟩
abbrev sWb : Stmt := (topS 29)
abbrev scWbS : Stmt := sWb
abbrev scWbN : List Str := ["state", "address", "size"]
theorem scWb : FnScope ["state", "address", "size"] ["state", "address", "size"] (defScope sWb) := ⟨rfl, rfl, rfl, by decide +kernel, rfl, by decide +kernel, by decide +kernel⟩
abbrev sOb : Stmt := (topS 30)
abbrev scObS : Stmt := sOb
abbrev scObN : List Str := ["state", "address", "block"]
theorem scOb : FnScope ["state", "address", "block"] ["state", "address"] (defScope sOb) := ⟨rfl, rfl, rfl, by decide +kernel, rfl, by decide +kernel, by decide +kernel⟩
abbrev sHb : Stmt := (topS 31)
abbrev scHbS : Stmt := sHb
abbrev scHbN : List Str := ["state", "value", "address", "size"]
theorem scHb : FnScope ["state", "value", "address", "size"] ["state", "value"] (defScope sHb) := ⟨rfl, rfl, rfl, by decide +kernel, rfl, by decide +kernel, by decide +kernel⟩
abbrev sIr : Stmt := (topS 34)
abbrev scIrS : Stmt := sIr
abbrev scIrN : List Str := ["value"]
theorem scIr : FnScope ["value"] ["value"] (defScope sIr) := ⟨rfl, rfl, rfl, by decide +kernel, rfl, by decide +kernel, by decide +kernel⟩
abbrev sHi : Stmt := (inClass (topS 40) 0)
abbrev scHiS : Stmt := sHi
abbrev scHiN : List Str := ["self", "chain", "pages", "limit", "rule"]
theorem scHi : FnScope ["self", "chain", "pages", "limit", "rule"] ["self", "chain", "pages", "limit", "rule"] (defScope sHi) := ⟨rfl, rfl, rfl, by decide +kernel, rfl, by decide +kernel, by decide +kernel⟩
abbrev sPt : Stmt := (inClass (topS 40) 2)
abbrev scPtS : Stmt := sPt
abbrev scPtN : List Str := ["self", "address", "size"]
theorem scPt : FnScope ["self", "address", "size"] ["self", "address", "size"] (defScope sPt) := ⟨rfl, rfl, rfl, by decide +kernel, rfl, by decide +kernel, by decide +kernel⟩
abbrev sHk : Stmt := (inClass (topS 40) 3)
abbrev scHkS : Stmt := sHk
abbrev scHkN : List Str := ["self", "size"]
theorem scHk : FnScope ["self", "size"] ["self", "size"] (defScope sHk) := ⟨rfl, rfl, rfl, by decide +kernel, rfl, by decide +kernel, by decide +kernel⟩
abbrev sHe : Stmt := (inClass (topS 40) 4)
abbrev scHeS : Stmt := sHe
abbrev scHeN : List Str := ["self", "address", "size"]
theorem scHe : FnScope ["self", "address", "size"] ["self", "address", "size"] (defScope sHe) := ⟨rfl, rfl, rfl, by decide +kernel, rfl, by decide +kernel, by decide +kernel⟩
abbrev sHf : Stmt := (inClass (topS 40) 5)
abbrev scHfS : Stmt := sHf
abbrev scHfN : List Str := ["self", "address", "kept"]
theorem scHf : FnScope ["self", "address", "kept"] ["self", "address"] (defScope sHf) := ⟨rfl, rfl, rfl, by decide +kernel, rfl, by decide +kernel, by decide +kernel⟩
abbrev sHs : Stmt := (inClass (topS 40) 7)
abbrev scHsS : Stmt := sHs
abbrev scHsN : List Str := ["self"]
theorem scHs : FnScope ["self"] ["self"] (defScope sHs) := ⟨rfl, rfl, rfl, by decide +kernel, rfl, by decide +kernel, by decide +kernel⟩
abbrev sHl : Stmt := (inClass (topS 40) 8)
abbrev scHlS : Stmt := sHl
abbrev scHlN : List Str := ["self"]
theorem scHl : FnScope ["self"] ["self"] (defScope sHl) := ⟨rfl, rfl, rfl, by decide +kernel, rfl, by decide +kernel, by decide +kernel⟩
abbrev sRy : Stmt := (topS 42)
abbrev scRyS : Stmt := sRy
abbrev scRyN : List Str := ["chain", "pages", "limit", "history", "heap", "number", "item"]
theorem scRy : FnScope ["chain", "pages", "limit", "history", "heap", "number", "item"] ["chain", "pages", "limit", "history"] (defScope sRy) := ⟨rfl, rfl, rfl, by decide +kernel, rfl, by decide +kernel, by decide +kernel⟩
abbrev sFe : Stmt := (topS 43)
abbrev scFeS : Stmt := sFe
abbrev scFeN : List Str := ["value"]
theorem scFe : FnScope ["value"] ["value"] (defScope sFe) := ⟨rfl, rfl, rfl, by decide +kernel, rfl, by decide +kernel, by decide +kernel⟩
abbrev sRe : Stmt := (topS 44)
abbrev scReS : Stmt := sRe
abbrev scReN : List Str := ["heap", "event"]
theorem scRe : FnScope ["heap", "event"] ["heap", "event"] (defScope sRe) := ⟨rfl, rfl, rfl, by decide +kernel, rfl, by decide +kernel, by decide +kernel⟩
abbrev sSx : Stmt := (topS 46)
abbrev scSxS : Stmt := sSx
abbrev scSxN : List Str := ["chain", "limit", "pages", "value", "heap", "size"]
theorem scSx : FnScope ["chain", "limit", "pages", "value", "heap", "size"] ["chain", "limit", "pages", "value"] (defScope sSx) := ⟨rfl, rfl, rfl, by decide +kernel, rfl, by decide +kernel, by decide +kernel⟩
abbrev sFg : Stmt := (topS 47)
abbrev scFgS : Stmt := sFg
abbrev scFgN : List Str := ["chain", "value"]
theorem scFg : FnScope ["chain", "value"] ["chain", "value"] (defScope sFg) := ⟨rfl, rfl, rfl, by decide +kernel, rfl, by decide +kernel, by decide +kernel⟩
abbrev sDw : Stmt := (topS 49)
abbrev scDwS : Stmt := sDw
abbrev scDwN : List Str := ["_law_script", "_law_k", "_law_cell", "_law_digits", "_law_mixed_so"]
theorem scDw : FnScope ["_law_script", "_law_k", "_law_cell", "_law_digits", "_law_mixed_so"] ["_law_script", "_law_k"] (defScope sDw) := ⟨rfl, rfl, rfl, by decide +kernel, rfl, by decide +kernel, by decide +kernel⟩
abbrev sNx : Stmt := (topS 50)
abbrev scNxS : Stmt := sNx
abbrev scNxN : List Str := ["_law_draws_here", "_law_bound", "_law_digit", "_law_prime", "_law_mixed_so"]
theorem scNx : FnScope ["_law_draws_here", "_law_bound", "_law_digit", "_law_prime", "_law_mixed_so"] ["_law_draws_here", "_law_bound"] (defScope sNx) := ⟨rfl, rfl, rfl, by decide +kernel, rfl, by decide +kernel, by decide +kernel⟩
abbrev sPk : Stmt := (topS 51)
abbrev scPkS : Stmt := sPk
abbrev scPkN : List Str := ["_law_draws_here", "_law_items"]
theorem scPk : FnScope ["_law_draws_here", "_law_items"] ["_law_draws_here", "_law_items"] (defScope sPk) := ⟨rfl, rfl, rfl, by decide +kernel, rfl, by decide +kernel, by decide +kernel⟩
abbrev sCc : Stmt := (topS 52)
abbrev scCcS : Stmt := sCc
abbrev scCcN : List Str := ["_law_draws_here", "_law_most", "_law_longest", "_law_found", "_law_turn", "_law_ratio"]
theorem scCc : FnScope ["_law_draws_here", "_law_most", "_law_longest", "_law_found", "_law_turn", "_law_ratio"] ["_law_draws_here", "_law_most", "_law_longest"] (defScope sCc) := ⟨rfl, rfl, rfl, by decide +kernel, rfl, by decide +kernel, by decide +kernel⟩
abbrev sTo : Stmt := (topS 53)
abbrev scToS : Stmt := sTo
abbrev scToN : List Str := ["_law_blocks", "_law_address", "_law_size"]
theorem scTo : FnScope ["_law_blocks", "_law_address", "_law_size"] ["_law_blocks"] (defScope sTo) := ⟨rfl, rfl, rfl, by decide +kernel, rfl, by decide +kernel, by decide +kernel⟩
abbrev sMo : Stmt := (topS 54)
abbrev scMoS : Stmt := sMo
abbrev scMoN : List Str := ["_law_blocks", "_law_address", "_law_size"]
theorem scMo : FnScope ["_law_blocks", "_law_address", "_law_size"] ["_law_blocks", "_law_address", "_law_size"] (defScope sMo) := ⟨rfl, rfl, rfl, by decide +kernel, rfl, by decide +kernel, by decide +kernel⟩
abbrev sLe : Stmt := (topS 55)
abbrev scLeS : Stmt := sLe
abbrev scLeN : List Str := ["_law_blocks", "_law_address", "_law_block"]
theorem scLe : FnScope ["_law_blocks", "_law_address", "_law_block"] ["_law_blocks", "_law_address"] (defScope sLe) := ⟨rfl, rfl, rfl, by decide +kernel, rfl, by decide +kernel, by decide +kernel⟩
abbrev sFp : Stmt := (topS 56)
abbrev scFpS : Stmt := sFp
abbrev scFpN : List Str := ["_law_blocks", "_law_size", "_law_words", "_law_taken", "_law_found", "_law_start", "_law_length", "_law_address", "_law_word"]
theorem scFp : FnScope ["_law_blocks", "_law_size", "_law_words", "_law_taken", "_law_found", "_law_start", "_law_length", "_law_address", "_law_word"] ["_law_blocks", "_law_size", "_law_words"] (defScope sFp) := ⟨rfl, rfl, rfl, by decide +kernel, rfl, by decide +kernel, by decide +kernel⟩
abbrev sIm : Stmt := (topS 57)
abbrev scImS : Stmt := sIm
abbrev scImN : List Str := ["_law_value", "_law_least"]
theorem scIm : FnScope ["_law_value", "_law_least"] ["_law_value", "_law_least"] (defScope sIm) := ⟨rfl, rfl, rfl, by decide +kernel, rfl, by decide +kernel, by decide +kernel⟩
abbrev sCg : Stmt := (topS 58)
abbrev scCgS : Stmt := sCg
abbrev scCgN : List Str := ["_law_chain_here", "_law_limit", "_law_blocks", "_law_event"]
theorem scCg : FnScope ["_law_chain_here", "_law_limit", "_law_blocks", "_law_event"] ["_law_chain_here", "_law_limit", "_law_blocks", "_law_event"] (defScope sCg) := ⟨rfl, rfl, rfl, by decide +kernel, rfl, by decide +kernel, by decide +kernel⟩
abbrev sAf : Stmt := (topS 59)
abbrev scAfS : Stmt := sAf
abbrev scAfN : List Str := ["_law_chain_here", "_law_limit", "_law_words", "_law_blocks", "_law_event", "_law_address", "_law_size"]
theorem scAf : FnScope ["_law_chain_here", "_law_limit", "_law_words", "_law_blocks", "_law_event", "_law_address", "_law_size"] ["_law_chain_here", "_law_limit", "_law_words", "_law_blocks", "_law_event"] (defScope sAf) := ⟨rfl, rfl, rfl, by decide +kernel, rfl, by decide +kernel, by decide +kernel⟩
abbrev sDx : Stmt := (topS 60)
abbrev scDxS : Stmt := sDx
abbrev scDxN : List Str := ["_law_chain_here", "_law_limit", "_law_words", "_law_value", "_law_blocks", "_law_event"]
theorem scDx : FnScope ["_law_chain_here", "_law_limit", "_law_words", "_law_value", "_law_blocks", "_law_event"] ["_law_chain_here", "_law_limit", "_law_words", "_law_value"] (defScope sDx) := ⟨rfl, rfl, rfl, by decide +kernel, rfl, by decide +kernel, by decide +kernel⟩
abbrev sEs : Stmt := (topS 61)
abbrev scEsS : Stmt := sEs
abbrev scEsN : List Str := ["_law_draws_here", "_law_chain_here", "_law_limit", "_law_words", "_law_blocks", "_law_found", "_law_turn", "_law_size", "_law_address"]
theorem scEs : FnScope ["_law_draws_here", "_law_chain_here", "_law_limit", "_law_words", "_law_blocks", "_law_found", "_law_turn", "_law_size", "_law_address"] ["_law_draws_here", "_law_chain_here", "_law_limit", "_law_words"] (defScope sEs) := ⟨rfl, rfl, rfl, by decide +kernel, rfl, by decide +kernel, by decide +kernel⟩
abbrev sBt : Stmt := (topS 62)
abbrev scBtS : Stmt := sBt
abbrev scBtN : List Str := ["_law_draws_here", "_law_item", "_law_deep", "_law_odd", "_law_at"]
theorem scBt : FnScope ["_law_draws_here", "_law_item", "_law_deep", "_law_odd", "_law_at"] ["_law_draws_here", "_law_item", "_law_deep"] (defScope sBt) := ⟨rfl, rfl, rfl, by decide +kernel, rfl, by decide +kernel, by decide +kernel⟩
abbrev sRi : Stmt := (topS 63)
abbrev scRiS : Stmt := sRi
abbrev scRiN : List Str := ["_law_draws_here", "_law_chain_here", "_law_pages", "_law_words", "_law_limit", "_law_turn", "_law_events_here", "_law_some", "_law_long", "_law_value", "_law_noted", "_law_due_here", "_law_time"]
theorem scRi : FnScope ["_law_draws_here", "_law_chain_here", "_law_pages", "_law_words", "_law_limit", "_law_turn", "_law_events_here", "_law_some", "_law_long", "_law_value", "_law_noted", "_law_due_here", "_law_time"] ["_law_draws_here"] (defScope sRi) := ⟨rfl, rfl, rfl, by decide +kernel, rfl, by decide +kernel, by decide +kernel⟩
abbrev sLaw : Stmt := (topS 64)
abbrev scLawS : Stmt := sLaw
abbrev scLawN : List Str := ["_law_script", "_law_k"]
theorem scLaw : FnScope ["_law_script", "_law_k"] ["_law_script"] (defScope sLaw) := ⟨rfl, rfl, rfl, by decide +kernel, rfl, by decide +kernel, by decide +kernel⟩
end Ph

set_option maxHeartbeats 8000000
namespace Ph
open PySem PySem.Spec PyProof.Rows L2
/-! ### the program's bounds -/
theorem tl_atI {s : Nat → Nat} {m i : Nat} (h : i < m) : atI ((tl s m).map V.int) (i : Int) = some (.int (s i)) := atI_nat (tl_getV h)
theorem tl_atL {s : Nat → Nat} {m : Nat} : atI ((tl s (m + 1)).map V.int) (-1) = some (.int (s m)) := by
  rw [tl_succ, List.map_append]
  exact atI_last _ _
section
variable {P : Program} {w : World} {K : PySem.W.Frag} {mg : Str → Option Value} {base : Heap}
def spDu : Sp := fun vs H Q _ => ∃ n d : Int, vs = [.int n, .int d] ∧ 0 < d ∧ d < 1073741824 ∧ Q (.int (-(-n / d))) H
theorem ok_Du {k : Nat} (Z : Fns K mg) : FnOk P w K mg base CX0 (k + 1) Z.fDu Z.fdDu ["number", "divisor"] spDu := by
  refine Z.FDu.ok scDu (fun vs H Q E h => ?_) (fun cdv A outer s H vs Q E hr h => ?_)
  · obtain ⟨n, d, rfl, _⟩ := h
    rfl
  · obtain ⟨n, d, rfl, d0, d1, q⟩ := h
    refine ⟨_, (pss_one (ps_ret (pe_un un_neg (pe_op op_fdiv (pe_un un_neg (pv 0)) (pv 1))))), ?_⟩
    exact ⟨.int n, rfl, n, rfl, .int d, rfl, -n, d, rfl, rfl, ⟨d0, d1⟩, _, rfl, q⟩
theorem mx2 (i j : Nat) : (if (j : Int) > (i : Int) then (j : Int) else (i : Int)) = ((max i j : Nat) : Int) := by
  split <;> omega
theorem mx0 (M L : Nat) : (if (M : Int) - (L : Int) > 0 then (M : Int) - (L : Int) else 0) = ((M - L : Nat) : Int) := by
  split <;> omega
abbrev bb (s : Nat → Nat) (M : Nat) : Nat → Nat := bfn s (fun _ => 0) M
theorem rch_nil (s : Nat → Nat) (m : Nat) : ((tl s m).map fun l => rch l []) = tl (fun _ => 0) m := by
  unfold tl
  rw [List.map_map]
  rfl
def Szs (s : Nat → Nat) (m : Nat) : Prop := 1 ≤ m ∧ m ≤ 1000 ∧ ∀ j, j < m → 0 < s j ∧ s j < 1073741824
end
section
variable {P : Program} {w : World} {K : PySem.W.Frag} {mg : Str → Option Value} {base : Heap}
end
/-! ### the program: sizes, gaps, the lowest place, states with and without a block -/
theorem in_intsL (x : Int) : ∀ C : List Int, inV (.int x) (C.map V.int) = decide (x ∈ C)
  | [] => by simp [inV]
  | c :: r => by
    have ih := in_intsL x r
    unfold inV at *
    rw [List.map_cons, List.any_cons, ih]
    have e : eqV (.int c) (.int x) = decide (c = x) := rfl
    rw [e]
    by_cases h : c = x
    · subst h; simp
    · have h2 : ¬ x = c := fun z => h z.symm
      simp [h, h2]
theorem first_atL {x : Int} : ∀ {C : List Int}, x ∈ C → ∃ j : Nat, C[j]? = some x ∧ ∀ m, m < j → C[m]? ≠ some x
  | c :: r, h => by
    by_cases e : c = x
    · subst e
      exact ⟨0, rfl, fun m hm => absurd hm (by omega)⟩
    · rcases List.mem_cons.mp h with z | z
      · exact absurd z.symm e
      · obtain ⟨j, h1, h2⟩ := first_atL z
        refine ⟨j + 1, by simpa using h1, fun m hm => ?_⟩
        cases m with
        | zero => simp [e]
        | succ m => simpa using h2 m (by omega)
section
variable {P : Program} {w : World} {K : PySem.W.Frag} {mg : Str → Option Value} {base : Heap}
def spI : Sp := fun vs H Q _ => ∃ i : Int, vs = [.int i] ∧ Q (.bl true) H
theorem ok_I {k : Nat} (Z : Fns K mg) : FnOk P w K mg base CX0 (k + 1) Z.fI Z.fdI ["value"] spI := by
  refine Z.FI.ok scI (fun vs H Q E h => ?_) (fun cdv A outer s H vs Q E hr h => ?_)
  · obtain ⟨m, rfl, _⟩ := h
    rfl
  · obtain ⟨m, rfl, q⟩ := h
    refine ⟨_, (pss_one (ps_ret (pe_and (pe_callB call_isi (by rfl) Z.N.isinstance (by decide +kernel) (pa_cons (pv 0) (pa_cons (pe_bltn (v := .ty "int") (by rfl) Z.N.int (by decide +kernel) rfl) pa_nil))) (pe_one (pe_not (pe_callB call_isi (by rfl) Z.N.isinstance (by decide +kernel) (pa_cons (pv 0) (pa_cons (pe_bltn (v := .ty "bool") (by rfl) Z.N.bool (by decide +kernel) rfl) pa_nil)))))))), ?_⟩
    refine ⟨.int m, rfl, .int m, .ty "int", .type "int", .type "int", true, rfl, .ty _, .base (.int _), kit_ty (by decide +kernel), _, rfl, ite2 (fun _ => ?_) (fun c => absurd rfl c)⟩
    exact ⟨.int m, rfl, .int m, .ty "bool", .type "int", .type "bool", false, rfl, .ty _, .base (.int _), kit_ty (by decide +kernel), _, rfl, q⟩
def spZ (K : PySem.W.Frag) : Sp := fun vs H Q _ => ∃ (c : Addr) (C : List Int) (s : Int), vs = [.ref c, .int s] ∧ SqT K H c (C.map V.int) ∧ s ∈ C ∧ Q (.bl true) H
theorem ok_Z {k : Nat} (Z : Fns K mg) : FnOk P w K mg base CX0 (k + 1 + 1) Z.fZ Z.fdZ ["chain", "value"] (spZ K) := by
  have GI : FnOk P w K mg base CX0 (k + 1) Z.fI Z.fdI ["value"] spI := ok_I Z
  refine Z.FZ.ok scZ (fun vs H Q E h => ?_) (fun cdv A outer s H vs Q E hr h => ?_)
  · obtain ⟨c, C, s, rfl, _⟩ := h
    rfl
  · obtain ⟨c, C, z, rfl, hc, hs, q⟩ := h
    refine ⟨_, (pss_one (ps_ret (pe_and (pe_call GI (hr.mono (by omega)) (by rfl) Z.gI Z.FI.kp Z.bI .nil pass0 (pa_cons (pv 1) pa_nil)) (pe_one (pe_cmpR op_in_seq (pv 1) (pv 0) (by rfl)))))), ?_⟩
    refine ⟨.int z, rfl, z, rfl, _, rfl, ite2 (fun _ => ?_) (fun c => absurd rfl c)⟩
    refine ⟨.int z, rfl, .ref c, rfl, c, _, rfl, .inr hc, rfl, flat_ints C, ?_⟩
    have e : (if false = true then !inV (.int z) (C.map V.int) else inV (.int z) (C.map V.int)) = true := by
      rw [if_neg Bool.false_ne_true, in_intsL]
      exact decide_eq_true hs
    rw [e]
    exact q
def spC : Sp := fun vs H Q _ => ∃ (c : Addr) (C : List Int) (s : Int), vs = [.ref c, .int s] ∧ ChAt H c C ∧ s ∈ C ∧ ∀ v, Q v H
theorem ok_C {k : Nat} (Z : Fns K mg) : FnOk P w K mg base CX0 (k + 1 + 1 + 1) Z.fC Z.fdC ["chain", "size"] spC := by
  have GZ : FnOk P w K mg base CX0 (k + 1 + 1) Z.fZ Z.fdZ ["chain", "value"] (spZ K) := ok_Z Z
  refine Z.FC.ok scC (fun vs H Q E h => ?_) (fun cdv A outer s H vs Q E hr h => ?_)
  · obtain ⟨c, C, s, rfl, _⟩ := h
    rfl
  · obtain ⟨c, C, sz, rfl, hc, hs, q⟩ := h
    refine ⟨_, (pss_cons (ps_if (pt_not (pt_val (pe_call GZ (hr.mono (by omega)) (by rfl) Z.gZ Z.FZ.kp Z.bZ .nil pass0 (pa_cons (pv 0) (pa_cons (pv 1) pa_nil)))))
 (pss_one ps_never) pss_nil)
 (pss_one (ps_ret (pe_bmT PySem.F.slot_tuple_index PySem.F.type_tuple_index mt_tindexI (pv 0) (pa_cons (pv 1) pa_nil))))), ?_⟩
    refine ⟨.ref c, rfl, .int sz, rfl, c, C, sz, rfl, hc.sq, hs, _, rfl, ite2 (fun c => absurd c (by decide)) (fun _ => ?_)⟩
    obtain ⟨j, h1, h2⟩ := first_atL hs
    exact ⟨.ref c, rfl, ⟨c, C, rfl, hc⟩, .int sz, rfl, c, C, sz, j, rfl, rfl, hc.sq, h1, h2, q _⟩
def tot (bs : List Bk) : Int := (bs.map fun b => b.2).sum
def spV : Sp := fun vs H Q _ => ∃ (t : Addr) (bs : List Bk), vs = [.ref t] ∧ StAt H t bs ∧ bs.length ≤ 5000 ∧ ∀ H', Same H H' → Q (.int (tot bs)) H'
theorem ok_V {k : Nat} (Z : Fns K mg) : FnOk P w K mg base CX0 (k + 1) Z.fV Z.fdV ["state"] spV := by
  refine Z.FV.ok scV (fun vs H Q E h => ?_) (fun cdv A outer s H vs Q E hr h => ?_)
  · obtain ⟨t, bs, rfl, _⟩ := h
    rfl
  · obtain ⟨t, bs, rfl, ⟨xs, ht, bl⟩, hl, q⟩ := h
    refine ⟨_, (pss_one (ps_ret (pe_callB (cr_sum rfl) (by rfl) Z.N.sum (by decide +kernel) (pa_cons (pe_lc (own := [("address", 1), ("size", 2)]) (g := (gTup K 2 (gCons (gName 1) (gCons (gName 2) gNil)))) (tt := tYes) (by rfl) scV.nd (pi_tup (pv 0)) (blkOk_by (N := scVN) (sc := defScope scVS) (by decide +kernel)) (fun _ _ _ _ _ => (pg_tup (by rfl) (pgs_cons (pg_name (i := 1) scV.nd rfl (.inl rfl)) (pgs_cons (pg_name (i := 2) scV.nd rfl (.inl rfl)) pgs_nil)))) (fun _ _ _ _ _ => pts_nil) (fun _ _ _ _ _ => (pv 2))) pa_nil)))), ?_⟩
    refine ⟨.ref t, rfl, t, rfl, ⟨_, .inl (.inl ht)⟩, fun D nD => ?_⟩
    refine lc_tpF (K := K) (fun x => V.int (kH H x).2) (.inl (.inl ht)) nD (by rw [bl.len]; exact Nat.lt_of_le_of_lt hl (by decide)) (fun x hx H2 sm Y hY => ?_) (fun H2 sm hD => ?_)
    · obtain ⟨b, hb⟩ := bl.all x hx
      have e := hb.k
      obtain ⟨u, rfl, hu⟩ := hb
      rw [e] at hY
      exact ⟨u, _, rfl, .inl (.inl (sm _ _ hu)), rfl, _, _, rfl, _, _, rfl, rfl, rfl, .int b.2, rfl, hY _ (Same.refl _)⟩
    · refine ⟨D, bs.map fun (b : Bk) => b.2, rfl, .inl (.inl ?_), q _ sm⟩
      rw [hD, ← bl.map, List.map_map, List.map_map]
      rfl
def spWb : Sp := fun vs H Q _ => ∃ (t : Addr) (bs : List Bk) (a z : Int), vs = [.ref t, .int a, .int z] ∧ StAt H t bs ∧ bs.length ≤ 5000 ∧ ∀ H' u cs, Same H H' → StAt H' u cs → cs.Perm (bs ++ [(a, z)]) → (cs.Pairwise fun x y => SrtO.lexB y x = false) → Q (.ref u) H'
theorem ok_Wb {k : Nat} (Z : Fns K mg) : FnOk P w K mg base CX0 (k + 1) Z.fWb Z.fdWb ["state", "address", "size"] spWb := by
  refine Z.FWb.ok scWb (fun vs H Q E h => ?_) (fun cdv A outer s H vs Q E hr h => ?_)
  · obtain ⟨t, bs, a, z, rfl, _⟩ := h
    rfl
  · obtain ⟨t, bs, a, z, rfl, ⟨xs, ht, bl⟩, hl, q⟩ := h
    refine ⟨_, (pss_one (ps_ret (pe_callTy call_tuple_of (by rfl) Z.N.tuple (by decide +kernel) (pa_cons (pe_callB cr_sortedPO (by rfl) Z.N.sorted (by decide +kernel) (pa_cons (pe_lst (StX.pa_star (pv 0) (pa_cons (pe_tup (pa_cons (pv 1) (pa_cons (pv 2) pa_nil))) pa_nil))) pa_nil)) pa_nil)))), ?_⟩
    refine ⟨.ref t, rfl, t, xs, rfl, .inl (.inl (.inl ht)), .int a, rfl, .int z, rfl, (by show 2 ≤ sizeLine; decide), fun T nT => ?_⟩
    have sT := same_upd (o := .tup [.int a, .int z]) nT
    have hT : upd H T (.tup [.int a, .int z]) T = some (.tup [.int a, .int z]) := upd_same
    have bl1 := BL.kp bl fun v us e => sT _ _ e
    generalize upd H T (.tup [.int a, .int z]) = H1 at *
    refine ⟨?_, fun D nD => ?_⟩
    · simp [bl.len]
      exact Nat.le_trans (show bs.length + 1 ≤ 5001 by omega) (by decide)
    have sD := same_upd (o := .lst (xs ++ [V.ref T])) nD
    have hD : upd H1 D (.lst (xs ++ [V.ref T])) D = some (.lst (xs ++ [V.ref T])) := upd_same
    have bl2 : BL (upd H1 D (.lst (xs ++ [V.ref T]))) (xs ++ [V.ref T]) (bs ++ [(a, z)]) := BL.app (BL.kp bl1 fun v us e => sD _ _ e) (.cons ⟨T, rfl, sD _ _ hT⟩ .nil)
    generalize upd H1 D (.lst (xs ++ [V.ref T])) = H2 at *
    refine ⟨D, xs ++ [V.ref T], kH H2, rfl, .inl (.inl hD), fun x hx => ?_, fun zs p srt stb np => ?_⟩
    · obtain ⟨b, hb⟩ := bl2.all x hx
      rw [hb.k]
      exact hb
    · have pm : zs.Perm (xs ++ [V.ref T]) := stb.perm
      have ally : ∀ x ∈ zs, ∃ b, BkAt H2 x b := fun x hx => bl2.all x (pm.mem_iff.mp hx)
      have blz := BL.of ally
      have sp := same_upd (o := .lst zs) np
      refine ⟨p, zs, rfl, .inl ⟨.inl (.inl upd_same), fun u nu => ?_⟩⟩
      have su := same_upd (o := .tup zs) nu
      refine q _ u (zs.map (kH H2)) (sT.trans (sD.trans (sp.trans su))) ⟨zs, upd_same, BL.kp blz fun v us e => su _ _ (sp _ _ e)⟩ ?_ (List.pairwise_map.mpr srt)
      rw [← bl2.map]
      exact pm.map _
def spHb (K : PySem.W.Frag) : Sp := fun vs H Q _ => ∃ (t : Addr) (bs : List Bk) (a : Int), vs = [.ref t, .int a] ∧ StAt H t bs ∧ bs.length ≤ 5000 ∧ (∃ b ∈ bs, b.1 = a) ∧ ∀ H', Same H H' → Q (.bl true) H'
theorem ok_Hb {k : Nat} (Z : Fns K mg) : FnOk P w K mg base CX0 (k + 1 + 1) Z.fHb Z.fdHb ["state", "value"] (spHb K) := by
  have GI : FnOk P w K mg base CX0 (k + 1) Z.fI Z.fdI ["value"] spI := ok_I Z
  refine Z.FHb.ok scHb (fun vs H Q E h => ?_) (fun cdv A outer s H vs Q E hr h => ?_)
  · obtain ⟨t, bs, a, rfl, _⟩ := h
    rfl
  · obtain ⟨t, bs, a, rfl, ⟨xs, ht, bl⟩, hl, ⟨b, hb, eb⟩, q⟩ := h
    refine ⟨_, (pss_one (ps_ret (pe_and (pe_call GI (hr.mono (by omega)) (by rfl) Z.gI Z.FI.kp Z.bI .nil pass0 (pa_cons (pv 1) pa_nil)) (pe_one (pe_cmpR op_in_seq (pv 1) (pe_lc (own := [("address", 2), ("size", 3)]) (g := (gTup K 2 (gCons (gName 2) (gCons (gName 3) gNil)))) (tt := tYes) (by rfl) scHb.nd (pi_tup (pv 0)) (blkOk_by (N := scHbN) (sc := defScope scHbS) (by decide +kernel)) (fun _ _ _ _ _ => (pg_tup (by rfl) (pgs_cons (pg_name (i := 2) scHb.nd rfl (.inl rfl)) (pgs_cons (pg_name (i := 3) scHb.nd rfl (.inl rfl)) pgs_nil)))) (fun _ _ _ _ _ => pts_nil) (fun _ _ _ _ _ => (pv 2))) (by rfl)))))), ?_⟩
    refine ⟨.int a, rfl, a, rfl, _, rfl, ite2 (fun _ => ?_) (fun c => absurd rfl c)⟩
    refine ⟨.int a, rfl, .ref t, rfl, t, rfl, ⟨_, .inl (.inl ht)⟩, fun D nD => ?_⟩
    refine lc_tpF (K := K) (fun x => V.int (kH H x).1) (.inl (.inl ht)) nD (by rw [bl.len]; exact Nat.lt_of_le_of_lt hl (by decide)) (fun x hx H2 sm Y hY => ?_) (fun H2 sm hD => ?_)
    · obtain ⟨b, hb⟩ := bl.all x hx
      have e := hb.k
      obtain ⟨u, rfl, hu⟩ := hb
      rw [e] at hY
      exact ⟨u, _, rfl, .inl (.inl (sm _ _ hu)), rfl, _, _, rfl, _, _, rfl, rfl, rfl, .int b.1, rfl, hY _ (Same.refl _)⟩
    · have e1 : xs.map (fun x => V.int (kH H x).1) = (bs.map fun b => b.1).map V.int := by
        rw [← bl.map, List.map_map, List.map_map]
        rfl
      rw [e1] at hD
      refine ⟨D, _, rfl, .inl (.inl (.inl hD)), rfl, flat_ints _, ?_⟩
      have e : (if false = true then !inV (.int a) ((bs.map fun b => b.1).map V.int) else inV (.int a) ((bs.map fun b => b.1).map V.int)) = true := by
        rw [if_neg Bool.false_ne_true, in_intsL]
        exact decide_eq_true (List.mem_map.mpr ⟨b, hb, eb⟩)
      rw [e]
      exact q _ sm
def spOb (K : PySem.W.Frag) : Sp := fun vs H Q _ => ∃ (t : Addr) (bs : List Bk) (a : Int), vs = [.ref t, .int a] ∧ StAt H t bs ∧ bs.length ≤ 5000 ∧ (∃ b ∈ bs, b.1 = a) ∧ ∀ H' u, Same H H' → StAt H' u (bs.filter fun b => decide (b.1 ≠ a)) → Q (.ref u) H'
theorem ok_Ob {k : Nat} (Z : Fns K mg) : FnOk P w K mg base CX0 (k + 1 + 1 + 1) Z.fOb Z.fdOb ["state", "address"] (spOb K) := by
  have GHb : FnOk P w K mg base CX0 (k + 1 + 1) Z.fHb Z.fdHb ["state", "value"] (spHb K) := ok_Hb Z
  refine Z.FOb.ok scOb (fun vs H Q E h => ?_) (fun cdv A outer s H vs Q E hr h => ?_)
  · obtain ⟨t, bs, a, rfl, _⟩ := h
    rfl
  · obtain ⟨t, bs, a, rfl, st, hl, ex, q⟩ := h
    refine ⟨_, (pss_cons (ps_if (pt_not (pt_val (pe_call GHb (hr.mono (by omega)) (by rfl) Z.gHb Z.FHb.kp Z.bHb .nil pass0 (pa_cons (pv 0) (pa_cons (pv 1) pa_nil)))))
 (pss_one ps_never) pss_nil)
 (pss_one (ps_ret (pe_callTy call_tuple_of (by rfl) Z.N.tuple (by decide +kernel) (pa_cons (pe_lc (own := [("block", 2)]) (g := (gName 2)) (by rfl) scOb.nd (pi_tup (pv 0)) (blkOk_by (N := scObN) (sc := defScope scObS) (by decide +kernel)) (fun _ _ _ _ _ => (pg_name (i := 2) scOb.nd rfl (.inl rfl))) (fun _ _ _ _ _ => (pts_one (pt_cmpR op_ne (pe_ix (r := rIxT K) ix_tup (pv 2) pe_int (fun _ _ => rfl)) (pv 1) (nomark _)))) (fun _ _ _ _ _ => (pv 2))) pa_nil))))), ?_⟩
    refine ⟨.ref t, rfl, .int a, rfl, t, bs, a, rfl, st, hl, ex, fun H1 s1 => ⟨_, rfl, ite2 (fun c => absurd c (by decide)) (fun _ => ?_)⟩⟩
    obtain ⟨xs, ht, bl⟩ := st.same s1
    refine ⟨.ref t, rfl, t, rfl, ⟨_, .inl (.inl ht)⟩, fun D nD => ?_⟩
    refine lc_tupF (xs := xs) (fun x => if decide ((kH H1 x).1 ≠ a) = true then some x else none) (.inl (.inl ht)) nD (by rw [bl.len]; exact Nat.lt_of_le_of_lt hl (by decide)) (fun x hx H2 sm Y N hY hN => ?_) (fun H2 sm hD => ?_)
    · obtain ⟨b, hb⟩ := bl.all x hx
      have e := hb.k
      obtain ⟨u, rfl, hu⟩ := hb
      have hY' : ∀ y, (if decide (b.1 ≠ a) = true then some (V.ref u) else none) = some y → Y y H2 := fun y h => hY y (by show (if decide ((kH H1 (V.ref u)).1 ≠ a) = true then _ else _) = _; rw [e]; exact h)
      have hN' : (if decide (b.1 ≠ a) = true then some (V.ref u) else none) = none → N H2 := fun h => hN (by show (if decide ((kH H1 (V.ref u)).1 ≠ a) = true then _ else _) = _; rw [e]; exact h)
      refine ⟨rfl, .ref u, rfl, u, _, 0, _, rfl, rfl, .inl (.inl (sm _ _ hu)), atI_nat (j := 0) rfl, .int a, rfl, rfl, _, rfl, ite2 (fun c0 => ?_) (fun c0 => ?_)⟩
      · have c1 : b.1 ≠ a := fun z => by rw [z] at c0; simp at c0
        exact ⟨.ref u, rfl, hY' _ (if_pos (decide_eq_true c1))⟩
      · have c1 : ¬ b.1 ≠ a := fun z => c0 (by simp [z])
        exact hN' (if_neg (by simpa using c1))
    · have e1 : BL H2 (xs.filterMap fun x => if decide ((kH H1 x).1 ≠ a) = true then some x else none) (bs.filter fun b => decide (b.1 ≠ a)) := by
        have gen : ∀ {ys : List V} {cs : List Bk}, BL H1 ys cs → BL H2 (ys.filterMap fun x => if decide ((kH H1 x).1 ≠ a) = true then some x else none) (cs.filter fun b => decide (b.1 ≠ a)) := by
          intro ys cs h
          induction h with
          | nil => exact .nil
          | @cons x b ys cs hb r ih =>
            have e := BkAt.k hb
            by_cases c : decide (b.1 ≠ a) = true
            · rw [List.filter_cons_of_pos (p := fun b : Bk => decide (b.1 ≠ a)) c, List.filterMap_cons_some (b := x) (by show (if decide ((kH H1 x).1 ≠ a) = true then some x else none) = some x; rw [e]; exact if_pos c)]
              obtain ⟨t2, e1, e2⟩ := hb
              exact .cons ⟨t2, e1, sm _ _ e2⟩ ih
            · rw [List.filter_cons_of_neg (p := fun b : Bk => decide (b.1 ≠ a)) c, List.filterMap_cons_none (by show (if decide ((kH H1 x).1 ≠ a) = true then some x else none) = none; rw [e]; exact if_neg c)]
              exact ih
        exact gen bl
      refine ⟨D, _, rfl, .inl ⟨.inl (.inl hD), fun u nu => ?_⟩⟩
      have su := same_upd (o := .tup (xs.filterMap fun x => if decide ((kH H1 x).1 ≠ a) = true then some x else none)) nu
      exact q _ u (s1.trans (Same.trans sm su)) ⟨_, upd_same, BL.kp e1 fun v us e => su _ _ e⟩
end
end Ph

set_option maxHeartbeats 8000000
namespace Ph
open PySem PySem.Spec PyProof.Rows L2
section
variable {P : Program} {w : World} {K : PySem.W.Frag} {mg : Str → Option Value} {base : Heap}
theorem dig_mod (x y : Int) (hy : 0 < y) (hw : y.natAbs < 2 ^ 3000) : 0 ≤ x % y ∧ (x % y).natAbs < 2 ^ 3000 := by
  have h0 : 0 ≤ x % y := Int.emod_nonneg _ (by omega)
  exact ⟨h0, wide_le h0 (Int.le_of_lt (Int.emod_lt_of_pos _ hy)) hw⟩
theorem dig_mul {x : Int} (h : 0 ≤ x ∧ x.natAbs < 2 ^ 3000) (b : Bool) : CMulW x (if b = true then 1 else 0) :=
  wide_mul (b := 2) h.2 (by cases b <;> decide) (by decide) (by decide) (by decide)
theorem dig_ok {x : Int} (h : 0 ≤ x ∧ x.natAbs < 2 ^ 3000) (b : Bool) : 0 ≤ x * (if b = true then 1 else 0) ∧ (x * (if b = true then 1 else 0)).natAbs < 2 ^ 3000 := by
  cases b
  · rw [if_neg (by decide), Int.mul_zero]
    exact ⟨Int.le_refl _, Nat.pow_pos (by decide)⟩
  · rw [if_pos rfl, Int.mul_one]
    exact h
def spDw (K : PySem.W.Frag) : Sp := fun vs H Q _ => ∃ (a : Addr) (ns : List Int) (k : Nat), vs = [.ref a, .int k] ∧ SqL K H a (ns.map V.int) ∧ k ≤ 1000 ∧ ∀ H' p, Same H H' → H p = none → Dr 0 H' p → Q (.ref p) H'
theorem ok_Dw {k : Nat} (Z : Fns K mg) : FnOk P w K mg base CX0 (k + 1) Z.fDw Z.fdDw ["_law_script", "_law_k"] (spDw K) := by
  refine Z.FDw.ok scDw (fun vs H Q E h => ?_) (fun cdv A outer s H vs Q E hr h => ?_)
  · obtain ⟨a, ns, k, rfl, _⟩ := h
    rfl
  · obtain ⟨a, ns, n, rfl, hS, hn, q⟩ := h
    refine ⟨_, (pss_cons (ps_set (i := 2) scDw.nd rfl (.inl rfl) (pe_ifExp (pt_cmpR op_lt (pv 1) (pe_callB call_len_seq (by rfl) Z.N.len (by decide +kernel) (pa_cons (pv 0) pa_nil)) (nomark _)) (pe_ix ix_list (pv 0) (pv 1) (fun _ _ => rfl)) (pe_op op_add (pe_op op_mul pe_int (pv 1)) pe_int)))
 (pss_cons (ps_set (i := 3) scDw.nd rfl (.inl rfl) (pe_op op_mulW (pe_op op_mod (pe_callB call_abs (by rfl) Z.N.abs (by decide +kernel) (pa_cons (pv 2) pa_nil)) (pe_op op_powW (pe_op op_pow pe_int pe_int) pe_int)) (pe_callTy call_int1 (by rfl) Z.N.int (by decide +kernel) (pa_cons (pe_cmpR op_ge (pe_callB call_abs (by rfl) Z.N.abs (by decide +kernel) (pa_cons (pv 2) pa_nil)) (pe_op op_pow pe_int pe_int) (nomark _)) pa_nil))))
 (pss_cons (ps_set (i := 4) scDw.nd rfl (.inl rfl) (pe_op op_add (pe_op op_add (pe_op op_mul (pe_op op_mod (pv 2) pe_int) pe_int) (pe_op op_mul (pe_op op_mul pe_int (pv 1)) (pv 1))) pe_int))
 (pss_one (ps_ret (pe_lst (pa_cons (pv 3) (pa_cons (pe_op op_mod (pv 4) pe_int) (pa_cons pe_int pa_nil))))))))), ?_⟩
    have big : (0 : Int) < ((10 : Int) ^ (60 : Int).toNat) ^ (5 : Int).toNat ∧ (((10 : Int) ^ (60 : Int).toNat) ^ (5 : Int).toNat).natAbs < 2 ^ 3000 := by decide +kernel
    have pw : CPowW ((10 : Int) ^ (60 : Int).toNat) 5 := ⟨by decide, by decide +kernel⟩
    refine ⟨.int n, rfl, .ref a, rfl, a, _, rfl, .inl hS, _, _, rfl, rfl, _, rfl, ite2 (fun e => ?_) (fun e => ?_)⟩
    · have e1 : (n : Int) < ((ns.map V.int).length : Nat) := of_decide_eq_true e
      have e2 : n < ns.length := by
        rw [List.length_map] at e1
        omega
      refine ⟨.ref a, rfl, .int n, rfl, a, ns.map V.int, n, .int ns[n], rfl, rfl, hS, atI_nat (j := n) (by rw [List.getElem?_map, List.getElem?_eq_getElem e2]; rfl), ?_⟩
      refine ⟨.int _, rfl, _, rfl, _, _, rfl, rfl, ⟨by decide, by decide, by decide⟩, _, _, rfl, rfl, pw, _, _, rfl, rfl, big.1, .int _, rfl, _, rfl, _, _, rfl, rfl, ⟨by decide, by decide, by decide⟩, _, _, rfl, rfl, .inr ⟨_, rfl, _, _, rfl, rfl, dig_mul (dig_mod _ _ big.1 big.2) _, ?_⟩⟩
      refine ⟨.int _, rfl, _, _, rfl, rfl, (by decide : (0 : Int) < 2305843009213693951), _, _, rfl, rfl, .inr ⟨by decide, by decide⟩, .int n, rfl, _, _, rfl, rfl, .inl ⟨by decide, by decide⟩, .int n, rfl, _, _, rfl, rfl, .inr ⟨by omega, by omega⟩, _, _, rfl, rfl, _, _, rfl, rfl, ?_⟩
      refine ⟨_, rfl, _, rfl, _, _, rfl, rfl, (by decide : (0 : Int) < 2305843009213693921), (by show 3 ≤ sizeLine; decide), fun p np => ?_⟩
      exact q _ p (same_upd np) np ⟨_, _, _, upd_same, (dig_ok (dig_mod _ _ big.1 big.2) _).1, (dig_ok (dig_mod _ _ big.1 big.2) _).2, Int.emod_nonneg _ (by decide), Int.emod_lt_of_pos _ (by decide), by decide, by decide⟩
    · refine ⟨.int n, rfl, _, _, rfl, rfl, .inl ⟨by decide, by decide⟩, _, _, rfl, rfl, ?_⟩
      refine ⟨.int _, rfl, _, rfl, _, _, rfl, rfl, ⟨by decide, by decide, by decide⟩, _, _, rfl, rfl, pw, _, _, rfl, rfl, big.1, .int _, rfl, _, rfl, _, _, rfl, rfl, ⟨by decide, by decide, by decide⟩, _, _, rfl, rfl, .inr ⟨_, rfl, _, _, rfl, rfl, dig_mul (dig_mod _ _ big.1 big.2) _, ?_⟩⟩
      refine ⟨.int _, rfl, _, _, rfl, rfl, (by decide : (0 : Int) < 2305843009213693951), _, _, rfl, rfl, .inr ⟨by decide, by decide⟩, .int n, rfl, _, _, rfl, rfl, .inl ⟨by decide, by decide⟩, .int n, rfl, _, _, rfl, rfl, .inr ⟨by omega, by omega⟩, _, _, rfl, rfl, _, _, rfl, rfl, ?_⟩
      refine ⟨_, rfl, _, rfl, _, _, rfl, rfl, (by decide : (0 : Int) < 2305843009213693921), (by show 3 ≤ sizeLine; decide), fun p np => ?_⟩
      exact q _ p (same_upd np) np ⟨_, _, _, upd_same, (dig_ok (dig_mod _ _ big.1 big.2) _).1, (dig_ok (dig_mod _ _ big.1 big.2) _).2, Int.emod_nonneg _ (by decide), Int.emod_lt_of_pos _ (by decide), by decide, by decide⟩
def drCap : Nat := 10000000
def spNx : Sp := fun vs H Q _ => ∃ (p : Addr) (b : Int) (c : Nat), vs = [.ref p, .int b] ∧ Dr c H p ∧ c < drCap ∧ 0 < b ∧ b < 4611686018427387904 ∧ ∀ H' d, But p H H' → Dr (c + 1) H' p → 0 ≤ d → d < b → Q (.int d) H'
theorem ok_Nx {k : Nat} (Z : Fns K mg) : FnOk P w K mg base CX0 (k + 1) Z.fNx Z.fdNx ["_law_draws_here", "_law_bound"] spNx := by
  refine Z.FNx.ok scNx (fun vs H Q E h => ?_) (fun cdv A outer s H vs Q E hr h => ?_)
  · obtain ⟨p, n, c, rfl, _⟩ := h
    rfl
  · obtain ⟨p, n, c, rfl, ⟨g, r, m, hp, hv⟩, hc, hn0, hn1, q⟩ := h
    refine ⟨_, (pss_cons (ps_if (pt_cmpR op_gt (pe_ix ix_list (pv 0) pe_int (fun _ _ => rfl)) pe_int (nomark _))
 (pss_cons (ps_set (i := 2) scNx.nd rfl (.inl rfl) (pe_op op_mod (pe_ix ix_list (pv 0) pe_int (fun _ _ => rfl)) (pv 1)))
 (pss_cons (ps_asg (pe_op op_fdivW (pe_ix ix_list (pv 0) pe_int (fun _ _ => rfl)) (pv 1)) (pg_sub (pv 0) pe_int set_list))
 (pss_one (ps_ret (pv 2))))) pss_nil)
 (pss_cons (ps_asg (pe_op op_add (pe_ix ix_list (pv 0) pe_int (fun _ _ => rfl)) pe_int) (pg_sub (pv 0) pe_int set_list))
 (pss_cons (ps_set (i := 3) scNx.nd rfl (.inl rfl) (pe_ix ix_list (pe_lst (pa_cons pe_int (pa_cons pe_int (pa_cons pe_int (pa_cons pe_int (pa_cons pe_int (pa_cons pe_int (pa_cons pe_int pa_nil)))))))) (pe_op op_mod (pe_ix ix_list (pv 0) pe_int (fun _ _ => rfl)) pe_int) (fun _ _ => rfl)))
 (pss_cons (ps_set (i := 4) scNx.nd rfl (.inl rfl) (pe_op op_mod (pe_op op_pow (pe_op op_add (pe_op op_add (pe_ix ix_list (pv 0) pe_int (fun _ _ => rfl)) (pe_op op_mul (pe_op op_mul pe_int (pe_ix ix_list (pv 0) pe_int (fun _ _ => rfl))) (pe_ix ix_list (pv 0) pe_int (fun _ _ => rfl)))) pe_int) pe_int) (pv 3)))
 (pss_one (ps_ret (pe_op op_mod (pe_op op_fdiv (pe_op op_mod (pe_op op_mul (pv 4) (pe_op op_add (pe_op op_mod (pv 4) pe_int) (pe_op op_mul pe_int (pe_ix ix_list (pv 0) pe_int (fun _ _ => rfl))))) pe_int) pe_int) (pv 1)))))))), ?_⟩
    have hL : SqL K H p [.int g, .int r, .int m] := .inl (.inl hp)
    refine ⟨.ref p, rfl, p, _, 0, .int g, rfl, rfl, hL, atI_nat (j := 0) rfl, g, 0, rfl, rfl, _, rfl, ite2 (fun e => ?_) (fun e => ?_)⟩
    · refine ⟨.ref p, rfl, p, _, 0, .int g, rfl, rfl, hL, atI_nat (j := 0) rfl, .int n, rfl, g, n, rfl, rfl, hn0, ?_⟩
      refine ⟨.ref p, rfl, p, _, 0, .int g, rfl, rfl, hL, atI_nat (j := 0) rfl, .int n, rfl, g, n, rfl, rfl, wide_div (b := 62) hn0 ?_ (by decide) (by decide), .ref p, rfl, p, _, 0, 0, rfl, rfl, hp, rfl, _, rfl, ?_⟩
      · have : (2 : Nat) ^ 62 = 4611686018427387904 := by decide
        rw [this]
        omega
      · have d0 : 0 ≤ g / n := Int.ediv_nonneg hv.g0 (by omega)
        have d1 : g / n ≤ g := Int.ediv_le_self _ hv.g0
        have n1 := hv.n1
        refine q _ _ but_upd ⟨_, _, _, upd_same, d0, wide_le d0 d1 hv.g1, hv.r0, hv.r1, hv.n0, by omega⟩ (Int.emod_nonneg _ (by omega)) (Int.emod_lt_of_pos _ hn0)
    · have n0 := hv.n0
      have n1 := hv.n1
      have r0 := hv.r0
      have r1 := hv.r1
      have hcap : (c : Int) < 10000000 := by
        have : c < 10000000 := hc
        omega
      refine ⟨.ref p, rfl, p, _, 2, .int m, rfl, rfl, hL, atI_nat (j := 2) rfl, _, _, rfl, rfl, .ref p, rfl, p, _, 2, 2, rfl, rfl, hp, rfl, ?_⟩
      refine ⟨(by show 7 ≤ sizeLine; decide), fun l nl => ?_⟩
      have sl := same_upd (o := .lst [.int 2147483647, .int 2147483629, .int 2147483587, .int 2147483579, .int 2147483563, .int 2147483549, .int 2147483543]) nl
      have hp2 := sl _ _ (upd_same (H := H) (a := p) (o := .lst [.int g, .int r, .int (m + 1)]))
      have hb2 : But p H (upd (upd H p (.lst [.int g, .int r, .int (m + 1)])) l (.lst [.int 2147483647, .int 2147483629, .int 2147483587, .int 2147483579, .int 2147483563, .int 2147483549, .int 2147483543])) := But.trans but_upd (Same.but sl)
      have hl2 : upd (upd H p (.lst [.int g, .int r, .int (m + 1)])) l (.lst [.int 2147483647, .int 2147483629, .int 2147483587, .int 2147483579, .int 2147483563, .int 2147483549, .int 2147483543]) l = some (.lst [.int 2147483647, .int 2147483629, .int 2147483587, .int 2147483579, .int 2147483563, .int 2147483549, .int 2147483543]) := upd_same
      have hL2 : SqL K (upd (upd H p (.lst [.int g, .int r, .int (m + 1)])) l (.lst [.int 2147483647, .int 2147483629, .int 2147483587, .int 2147483579, .int 2147483563, .int 2147483549, .int 2147483543])) p [.int g, .int r, .int (m + 1)] := .inl (.inl hp2)
      obtain ⟨j, ej, j7⟩ : ∃ j : Nat, (m + 1) % 7 = j ∧ j < 7 := ⟨((m + 1) % 7).toNat, by omega, by omega⟩
      obtain ⟨pr, ep, p0, p1⟩ : ∃ pr : Int, ([V.int 2147483647, V.int 2147483629, V.int 2147483587, V.int 2147483579, V.int 2147483563, V.int 2147483549, V.int 2147483543] : List V)[j]? = some (.int pr) ∧ 1 < pr ∧ pr < 2147483648 := by
        match j, j7 with
        | 0, _ => exact ⟨_, rfl, by decide, by decide⟩
        | 1, _ => exact ⟨_, rfl, by decide, by decide⟩
        | 2, _ => exact ⟨_, rfl, by decide, by decide⟩
        | 3, _ => exact ⟨_, rfl, by decide, by decide⟩
        | 4, _ => exact ⟨_, rfl, by decide, by decide⟩
        | 5, _ => exact ⟨_, rfl, by decide, by decide⟩
        | 6, _ => exact ⟨_, rfl, by decide, by decide⟩
      have at2 : atI [V.int g, V.int r, V.int (m + 1)] 2 = some (.int (m + 1)) := atI_nat (j := 2) rfl
      have atp : atI [V.int 2147483647, V.int 2147483629, V.int 2147483587, V.int 2147483579, V.int 2147483563, V.int 2147483549, V.int 2147483543] ((m + 1) % 7) = some (.int pr) := by
        rw [ej]
        exact atI_nat ep
      refine ⟨.ref p, rfl, p, _, 2, .int (m + 1), rfl, rfl, hL2, at2, _, _, rfl, rfl, (by decide : (0 : Int) < 7), l, _, (m + 1) % 7, .int pr, rfl, rfl, .inl (.inl hl2), atp, ?_⟩
      have sq : 0 ≤ 65537 * (m + 1) * (m + 1) ∧ 65537 * (m + 1) * (m + 1) ≤ 6553700000000000000 := by
        have h1 : 65537 * (m + 1) ≤ 65537 * 10000000 := Int.mul_le_mul_of_nonneg_left (by omega) (by decide)
        have h2 : 65537 * (m + 1) * (m + 1) ≤ 65537 * 10000000 * 10000000 := Int.mul_le_mul h1 (by omega) (by omega) (by decide)
        exact ⟨Int.mul_nonneg (by omega) (by omega), h2⟩
      refine ⟨.ref p, rfl, p, _, 1, .int r, rfl, rfl, hL2, atI_nat (j := 1) rfl, .ref p, rfl, p, _, 2, .int (m + 1), rfl, rfl, hL2, at2, _, _, rfl, rfl, .inl ⟨by decide, by decide⟩, .ref p, rfl, p, _, 2, .int (m + 1), rfl, rfl, hL2, at2, _, _, rfl, rfl, .inr ⟨by omega, by omega⟩, _, _, rfl, rfl, _, _, rfl, rfl, _, _, rfl, rfl, ⟨by decide, by decide, ?_⟩, .int pr, rfl, _, _, rfl, rfl, (by omega : (0 : Int) < pr), ?_⟩
      · have : (2 : Nat) ^ 64 = 18446744073709551616 := by decide
        rw [this]
        omega
      generalize (r + 65537 * (m + 1) * (m + 1) + 29) ^ (3 : Int).toNat = y
      have m0 : 0 ≤ y % pr := Int.emod_nonneg _ (by omega)
      have m1 : y % pr < pr := Int.emod_lt_of_pos _ (by omega)
      refine ⟨.int (y % pr), rfl, .int (y % pr), rfl, _, _, rfl, rfl, (by decide : (0 : Int) < 10007), .ref p, rfl, p, _, 2, .int (m + 1), rfl, rfl, hL2, at2, _, _, rfl, rfl, .inl ⟨by decide, by decide⟩, _, _, rfl, rfl, _, _, rfl, rfl, .inl ⟨by omega, by omega⟩, _, _, rfl, rfl, (by decide : (0 : Int) < 2305843009213693907), _, _, rfl, rfl, ⟨by decide, by decide⟩, .int n, rfl, _, _, rfl, rfl, hn0, ?_⟩
      exact q _ _ hb2 ⟨g, r, m + 1, hp2, hv.g0, hv.g1, r0, r1, by omega, by omega⟩ (Int.emod_nonneg _ (by omega)) (Int.emod_lt_of_pos _ hn0)
def spPk (K : PySem.W.Frag) : Sp := fun vs H Q _ => ∃ (p l : Addr) (xs : List V) (c : Nat), vs = [.ref p, .ref l] ∧ Dr c H p ∧ c < drCap ∧ (SqL K H l xs ∨ SqT K H l xs) ∧ l ≠ p ∧ xs ≠ [] ∧ xs.length ≤ 1000 ∧ ∀ H' x, But p H H' → Dr (c + 1) H' p → x ∈ xs → Q x H'
theorem ok_Pk {k : Nat} (Z : Fns K mg) : FnOk P w K mg base CX0 (k + 1 + 1) Z.fPk Z.fdPk ["_law_draws_here", "_law_items"] (spPk K) := by
  have GNx : FnOk P w K mg base CX0 (k + 1) Z.fNx Z.fdNx ["_law_draws_here", "_law_bound"] spNx := ok_Nx Z
  refine Z.FPk.ok scPk (fun vs H Q E h => ?_) (fun cdv A outer s H vs Q E hr h => ?_)
  · obtain ⟨p, l, xs, c, rfl, _⟩ := h
    rfl
  · obtain ⟨p, l, xs, c, rfl, hp, hc, hl, hne, hx, hlen, q⟩ := h
    refine ⟨_, (pss_one (ps_ret (pe_ix ix_any (pv 1) (pe_call GNx (hr.mono (by omega)) (by rfl) Z.gNx Z.FNx.kp Z.bNx .nil pass0 (pa_cons (pv 0) (pa_cons (pe_callB call_len_seq (by rfl) Z.N.len (by decide +kernel) (pa_cons (pv 1) pa_nil)) pa_nil))) (fun _ _ => rfl)))), ?_⟩
    have hx0 : 0 < xs.length := List.length_pos_iff.mpr hx
    refine ⟨.ref l, rfl, .ref p, rfl, .ref l, rfl, l, xs, rfl, hl, p, _, c, rfl, hp, hc, ?_, ?_, fun H' d hb hp' d0 d1 => ?_⟩
    · omega
    · omega
    · obtain ⟨j, rfl⟩ : ∃ j : Nat, d = j := ⟨d.toNat, by omega⟩
      have hd : j < xs.length := by omega
      rcases hl with hl | hl
      · exact .inl ⟨l, xs, j, xs[j], rfl, rfl, hb.seq hne hl, atI_nat (List.getElem?_eq_getElem hd), q _ _ hb hp' (List.getElem_mem hd)⟩
      · exact .inr ⟨l, xs, j, xs[j], rfl, rfl, hb.tup hne hl, atI_nat (List.getElem?_eq_getElem hd), q _ _ hb hp' (List.getElem_mem hd)⟩
def spCc : Sp := fun vs H Q _ => ∃ (p : Addr) (m lg : Int) (c : Nat), vs = [.ref p, .int m, .int lg] ∧ Dr c H p ∧ c + 100 < drCap ∧ 1 ≤ m ∧ m ≤ 1000000000 ∧ 1 ≤ lg ∧ lg ≤ 20 ∧ ∀ H' t s n, But p H H' → Dr (c + 100) H' p → ChAt H' t (tl s (n + 1)) → Cn s n m.toNat → ((n + 1 : Nat) : Int) ≤ lg → Q (.ref t) H'
theorem ok_Cc {k : Nat} (Z : Fns K mg) : FnOk P w K mg base CX0 (k + 1 + 1 + 1) Z.fCc Z.fdCc ["_law_draws_here", "_law_most", "_law_longest"] spCc := by
  have GNx : FnOk P w K mg base CX0 (k + 1) Z.fNx Z.fdNx ["_law_draws_here", "_law_bound"] spNx := ok_Nx Z
  have GPk : FnOk P w K mg base CX0 (k + 1 + 1) Z.fPk Z.fdPk ["_law_draws_here", "_law_items"] (spPk K) := ok_Pk Z
  refine Z.FCc.ok scCc (fun vs H Q E h => ?_) (fun cdv A outer s H vs Q E hr h => ?_)
  · obtain ⟨p, m, lg, c, rfl, _⟩ := h
    rfl
  · obtain ⟨p, m, lg, c, rfl, hp, hc, hm1, hm2, hg1, hg2, q⟩ := h
    refine ⟨_, (pss_cons (ps_set (i := 3) scCc.nd rfl (.inl rfl) (pe_lst (pa_cons pe_int pa_nil)))
 (pss_cons (ps_for PassesOwn.never rfl (pi_range1 (by rfl) Z.N.range (pa_cons (pe_op op_sub (pv 2) pe_int) pa_nil)) (pg_name (i := 4) scCc.nd rfl (.inl rfl))
 (pss_cons (ps_set (i := 5) scCc.nd rfl (.inl rfl) (pe_call GPk (hr.mono (by omega)) (by rfl) Z.gPk Z.FPk.kp Z.bPk .nil pass0 (pa_cons (pv 0) (pa_cons (pe_lst (pa_cons pe_int (pa_cons pe_int (pa_cons pe_int (pa_cons pe_int (pa_cons pe_int (pa_cons pe_int (pa_cons (pe_op op_add pe_int (pe_call GNx (hr.mono (by omega)) (by rfl) Z.gNx Z.FNx.kp Z.bNx .nil pass0 (pa_cons (pv 0) (pa_cons pe_int pa_nil)))) pa_nil)))))))) pa_nil))))
 (pss_one (ps_if (PW.pt (pw_and (pt_cmpR op_gt (pv 5) pe_int (nomark _)) (pw_and1 (pt_cmpR op_le (pe_op op_mul (pe_ix ix_list (pv 3) (pe_un un_neg pe_int) (fun _ _ => rfl)) (pv 5)) (pv 1) (nomark _)))))
 (pss_one (ps_expr (pe_bm PySem.F.plainAttrs_list PySem.F.slot_list_append PySem.F.type_list_append mt_append (pv 3) (pa_cons (pe_op op_mul (pe_ix ix_list (pv 3) (pe_un un_neg pe_int) (fun _ _ => rfl)) (pv 5)) pa_nil)))) pss_nil))))
 (pss_one (ps_ret (pe_callTy call_tuple_frz (by rfl) Z.N.tuple (by decide +kernel) (pa_cons (pv 3) pa_nil)))))), ?_⟩
    refine ⟨by decide, fun o no => ?_⟩
    have npo : p ≠ o := hp.ne_none no
    have no2 : o ≠ p := npo.symm
    refine ⟨.int lg, rfl, _, _, rfl, rfl, _, rfl, by omega, by omega, ?_⟩
    refine for_range (lo := 0) (n := (lg - 1).toNat) (fun i σ H2 => ∃ y4 y5 ns x, σ = [some (.ref p), some (.int m), some (.int lg), some (.ref o), y4, y5] ∧ Dr (c + 2 * i) H2 p ∧ (∀ b x, b ≠ p → b ≠ o → H b = some x → H2 b = some x) ∧ H2 o = some (.lst (ns.map V.int)) ∧ Gnk m ns x ∧ ns.length ≤ i + 1)
      ⟨none, none, [1], 1, rfl, hp.same (same_upd no), fun b x n1 n2 h => by rw [upd_ne n2]; exact h, upd_same, .one, by simp⟩ ?_ ?_
    · rintro i σ H2 hi ⟨y4, y5, ns, x, rfl, hp2, hB, ho2, hk, hl⟩
      refine ⟨.ref p, rfl, .ref p, rfl, p, 6, _, rfl, hp2, by omega, by decide, by decide, fun H3 e hb3 hp3 e0 e1 => ?_⟩
      refine ⟨_, _, rfl, rfl, (by show 7 ≤ sizeLine; decide), fun l nl => ?_⟩
      have nlp : l ≠ p := (hp3.ne_none nl).symm
      have ho3 : H3 o = some (.lst (ns.map V.int)) := hb3 _ _ no2 ho2
      have nlo : o ≠ l := ne_of_none ho3 nl
      refine ⟨p, l, _, _, rfl, hp3.same (same_upd nl), by omega, .inl (.inl (.inl upd_same)), nlp, List.cons_ne_nil _ _, by simp, fun H4 v hb4 hp4 hv => ?_⟩
      have ho4 : H4 o = some (.lst (ns.map V.int)) := hb4 _ _ no2 (by rw [upd_ne nlo]; exact ho3)
      have hp4' : Dr (c + 2 * (i + 1)) H4 p := hp4.up (by omega)
      have hB4 : ∀ b x, b ≠ p → b ≠ o → H b = some x → H4 b = some x := fun b x n1 n2 h => by
        have h3 := hb3 _ _ n1 (hB b x n1 n2 h)
        exact hb4 _ _ n1 (by rw [upd_ne (ne_of_none h3 nl)]; exact h3)
      obtain ⟨r, rfl, hr2, hr6⟩ : ∃ r : Int, v = .int r ∧ 1 ≤ r ∧ r ≤ 1000 := by
        simp only [List.mem_cons, List.not_mem_nil, or_false] at hv
        rcases hv with h | h | h | h | h | h | h
        · exact ⟨1, h, by decide, by decide⟩
        · exact ⟨2, h, by decide, by decide⟩
        · exact ⟨2, h, by decide, by decide⟩
        · exact ⟨2, h, by decide, by decide⟩
        · exact ⟨3, h, by decide, by decide⟩
        · exact ⟨4, h, by decide, by decide⟩
        · exact ⟨2 + e, h, by omega, by omega⟩
      obtain ⟨ini, rfl⟩ := hk.last
      have hL4 : SqL K H4 o ((ini ++ [x]).map V.int) := .inl (.inl ho4)
      have gl : atI ((ini ++ [x]).map V.int) (-1) = some (.int x) := by
        rw [List.map_append]
        exact atI_last _ _
      have x1 := hk.pos
      have x2 := hk.le hm1
      refine ⟨.int r, rfl, _, _, rfl, rfl, _, rfl, ite2 (fun c0 => ?_) (fun c0 => ?_)⟩
      · have c2 : (1 : Int) < r := of_decide_eq_true c0
        refine ⟨.ref o, rfl, 1, rfl, o, _, -1, _, rfl, rfl, hL4, gl, .int r, rfl, x, r, rfl, rfl, .inl ⟨by omega, by omega⟩, .int m, rfl, _, _, rfl, rfl, _, rfl, ite2 (fun c => ?_) (fun c => ?_)⟩
        · have c1 : x * r ≤ m := of_decide_eq_true c
          refine ⟨.ref o, rfl, .inl ⟨rfl, _, hL4⟩, .ref o, rfl, 1, rfl, o, _, -1, _, rfl, rfl, hL4, gl, .int r, rfl, x, r, rfl, rfl, .inl ⟨by omega, by omega⟩, o, _, _, rfl, rfl, ho4, ?_, ?_⟩
          · rw [List.length_map]
            exact small1000 (by omega)
          · refine ⟨_, _, ini ++ [x] ++ [x * r], x * r, rfl, hp4'.keep npo, ?_, ?_, .step hk (by omega) hr6 c1, ?_⟩
            · intro b z n1 n2 h
              rw [upd_ne n2]
              exact hB4 b z n1 n2 h
            · rw [upd_same, List.map_append (l₂ := [x * r])]
              rfl
            · rw [List.length_append]
              simp
              simp at hl
              omega
        · exact ⟨_, _, _, x, rfl, hp4', hB4, ho4, hk, by omega⟩
      · exact ⟨_, _, _, x, rfl, hp4', hB4, ho4, hk, by omega⟩
    · rintro σ H2 ⟨y4, y5, ns, x, rfl, hp2, hB, ho2, hk, hl⟩
      refine ⟨.ref o, rfl, o, _, rfl, .inl (.inl ho2), fun t ob nt od => ?_⟩
      obtain ⟨s, n, rfl, _, cn⟩ := hk.cn hm1
      rw [tl_len] at hl
      refine q _ t s n (fun b z n1 h => ?_) ((hp2.up (by omega)).same (same_upd nt)) ⟨ob, od, upd_same⟩ cn (by omega)
      have h3 := hB b z n1 (ne_of_none h no) h
      rw [upd_ne (ne_of_none h3 nt)]
      exact h3
end
section
variable {P : Program} {w : World} {K : PySem.W.Frag} {mg : Str → Option Value} {base : Heap}
end
section
variable {P : Program} {w : World} {K : PySem.W.Frag} {mg : Str → Option Value} {base : Heap}
end
end Ph

set_option maxHeartbeats 8000000
namespace Ph
open PySem PySem.Spec PyProof.Rows L2
section
variable {P : Program} {w : World} {K : PySem.W.Frag} {mg : Str → Option Value} {base : Heap}
def spGp : Sp := fun vs H Q _ => ∃ (c t : Addr) (C : List Int) (L m s : Int) (bs : List Bk), vs = [.ref c, .int m, .ref t, .int s] ∧ ChAt H c (C ++ [L]) ∧ s ∈ C ++ [L] ∧ 0 < s ∧ s ≤ 2000 ∧ 0 ≤ L ∧ L ≤ 2000 ∧ 0 ≤ m ∧ m ≤ 2000 ∧ StAt H t bs ∧ St (C ++ [L]) (m * L) bs ∧ bs.length ≤ 5000 ∧
  ∀ H' D ys, Same H H' → H D = none → H' D = some (.lst ys) → BL H' ys (gpf s 0 (bs ++ [(m * L, 0)])) → Q (.ref D) H'
theorem ok_Gp {k : Nat} (Z : Fns K mg) : FnOk P w K mg base CX0 (k + 1 + 1 + 1 + 1) Z.fGp Z.fdGp ["chain", "pages", "state", "size"] spGp := by
  have GC : FnOk P w K mg base CX0 (k + 1 + 1 + 1) Z.fC Z.fdC ["chain", "size"] spC := ok_C Z
  have GDu : FnOk P w K mg base CX0 (k + 1) Z.fDu Z.fdDu ["number", "divisor"] spDu := ok_Du Z
  refine Z.FGp.ok scGp (fun vs H Q E h => ?_) (fun cdv A outer s H vs Q E hr h => ?_)
  · obtain ⟨c, t, C, L, m, s, bs, rfl, _⟩ := h
    rfl
  · obtain ⟨c, t, C, L, m, sz, bs, rfl, hc, hs, s0, s1, L0, L1, m0, m1, ⟨xs, ht, bl⟩, st, hl, q⟩ := h
    refine ⟨_, (pss_cons (ps_expr (pe_call GC (hr.mono (by omega)) (by rfl) Z.gC Z.FC.kp Z.bC .nil pass0 (pa_cons (pv 0) (pa_cons (pv 3) pa_nil))))
 (pss_cons (ps_set (i := 4) scGp.nd rfl (.inl rfl) (pe_lst pa_nil))
 (pss_cons (ps_set (i := 5) scGp.nd rfl (.inl rfl) pe_int)
 (pss_cons (ps_for PassesOwn.never rfl (pi_tup (pe_tup (StX.pa_star (pv 2) (pa_cons (pe_tup (pa_cons (pe_op op_mul (pv 1) (pe_ix ix_tup (pv 0) (pe_un un_neg pe_int) (fun _ _ => rfl))) (pa_cons pe_int pa_nil))) pa_nil)))) (pg_tup (by rfl) (pgs_cons (pg_name (i := 6) scGp.nd rfl (.inl rfl)) (pgs_cons (pg_name (i := 7) scGp.nd rfl (.inl rfl)) pgs_nil)))
 (pss_cons (ps_set (i := 8) scGp.nd rfl (.inl rfl) (pe_op op_mul (pe_call GDu (hr.mono (by omega)) (by rfl) Z.gDu Z.FDu.kp Z.bDu .nil pass0 (pa_cons (pv 5) (pa_cons (pv 3) pa_nil))) (pv 3)))
 (pss_cons (ps_set (i := 9) scGp.nd rfl (.inl rfl) (pe_op op_mul (pe_op op_fdiv (pe_op op_sub (pv 6) (pv 3)) (pv 3)) (pv 3)))
 (pss_cons (ps_if (pt_cmpR op_le (pv 8) (pv 9) (nomark _))
 (pss_one (ps_expr (pe_bm PySem.F.plainAttrs_list PySem.F.slot_list_append PySem.F.type_list_append mt_append (pv 4) (pa_cons (pe_tup (pa_cons (pv 8) (pa_cons (pv 9) pa_nil))) pa_nil)))) pss_nil)
 (pss_one (ps_set (i := 5) scGp.nd rfl (.inl rfl) (pe_op op_add (pv 6) (pv 7))))))))
 (pss_one (ps_ret (pv 4))))))), ?_⟩
    have mL0 : 0 ≤ m * L := Int.mul_nonneg m0 L0
    have mL1 : m * L ≤ 4000000 := Int.le_trans (Int.mul_le_mul m1 L1 L0 (by omega)) (by decide)
    have gl : atI ((C ++ [L]).map V.int) (-1) = some (.int L) := by
      rw [List.map_append]
      exact atI_last _ _
    refine ⟨.ref c, rfl, .int sz, rfl, c, C ++ [L], sz, rfl, hc, hs, fun _ => ?_⟩
    refine ⟨by decide, fun d nd => ?_⟩
    have sd := same_upd (o := .lst []) nd
    have hc1 := hc.keep sd
    refine ⟨.ref t, rfl, t, xs, rfl, .inl (.inl (.inl (sd _ _ ht))), .int m, rfl, .ref c, rfl, _, rfl, c, _, -1, _, rfl, rfl, hc1.sq, gl, m, L, rfl, rfl, .inl ⟨by omega, by omega⟩, ?_⟩
    refine ⟨(by show 2 ≤ sizeLine; decide), fun T nT => ?_⟩
    have sT := same_upd (o := .tup [.int (m * L), .int 0]) nT
    refine ⟨?_, fun T2 nT2 => ?_⟩
    · show (xs ++ [V.ref T]).length ≤ sizeLine
      rw [List.length_append, bl.len]
      exact Nat.le_trans (Nat.add_le_add_right hl 1) (by decide)
    have sT2 := same_upd (o := .tup (xs ++ [V.ref T])) nT2
    have hd2 := sT2 _ _ (sT _ _ (upd_same (H := H) (a := d) (o := .lst [])))
    have bl2 : BL (upd (upd (upd H d (.lst [])) T (.tup [.int (m * L), .int 0])) T2 (.tup (xs ++ [V.ref T]))) (xs ++ [V.ref T]) (bs ++ [(m * L, 0)]) := by
      refine Paired.snoc (bl.mono fun v zs e => sT2 _ _ (sT _ _ (sd _ _ e))) ⟨T, rfl, sT2 _ _ upd_same⟩
    obtain ⟨asc1, asc2⟩ := st.asc0 mL0
    have eC : ∀ i, ∀ b ∈ (bs ++ [(m * L, 0)]).take i, 0 ≤ b.1 ∧ 0 ≤ b.2 ∧ b.1 + b.2 ≤ m * L := fun i b hb => asc1 b (List.mem_of_mem_take hb)
    have eP : ∀ i, ((bs ++ [(m * L, 0)]).take i).Pairwise (fun b c : Bk => b.1 + b.2 ≤ c.1) := fun i => asc2.sublist (List.take_sublist ..)
    have s02 : Same H (upd (upd (upd H d (.lst [])) T (.tup [.int (m * L), .int 0])) T2 (.tup (xs ++ [V.ref T]))) := (sd.trans sT).trans sT2
    have hT2 : upd (upd (upd H d (.lst [])) T (.tup [.int (m * L), .int 0])) T2 (.tup (xs ++ [V.ref T])) T2 = some (.tup (xs ++ [V.ref T])) := upd_same
    generalize upd (upd (upd H d (.lst [])) T (.tup [.int (m * L), .int 0])) T2 (.tup (xs ++ [V.ref T])) = H0 at hd2 bl2 s02 hT2 ⊢
    refine ⟨T2, rfl, ⟨_, .inl (.inl hT2)⟩, ?_⟩
    generalize el : bs ++ [(m * L, 0)] = l at bl2 asc1 asc2 eC eP q
    have nT2d : T2 ≠ d := ne_of hT2 hd2 (by intro z; cases z)
    refine for_tup (K := K) (a := T2) (xs := xs ++ [V.ref T]) (fun i σ H2 => ∃ y6 y7 y8 y9 ys, σ = [some (.ref c), some (.int m), some (.ref t), some (.int sz), some (.ref d), some (.int (fin 0 (l.take i))), y6, y7, y8, y9] ∧ But d H0 H2 ∧ H2 d = some (.lst ys) ∧ BL H2 ys (gpf sz 0 (l.take i)))
      ⟨none, none, none, none, [], rfl, But.refl _ _, hd2, .nil⟩ (fun i σ H2 _ p => ?_) ?_ ?_
    · obtain ⟨_, _, _, _, _, _, bt, _⟩ := p
      exact .inl (.inl (bt _ _ nT2d hT2))
    · rintro i x σ H2 hx ⟨y6, y7, y8, y9, ys, rfl, bt, hd3, bl3⟩
      obtain ⟨b, hb, ⟨u, rfl, hu⟩⟩ := bl2.get hx
      have hu2 := bt _ _ (ne_of hu hd2 (by intro z; cases z)) hu
      have etk : l.take (i + 1) = l.take i ++ [b] := by rw [List.take_add_one, hb]; rfl
      obtain ⟨fb1, fb2⟩ := fin_bnd (l.take i) 0 (m * L) (eC i) mL0 (eP i)
      obtain ⟨b1, b2, b3⟩ := asc1 b (List.mem_of_getElem? hb)
      have u1 := upS_ge (x := fin 0 (l.take i)) s0
      have u2 := upS_lt (x := fin 0 (l.take i)) s0
      have d1 := Int.ediv_mul_le (b.1 - sz) (b := sz) (by omega)
      have d2 := Int.lt_ediv_add_one_mul_self (b.1 - sz) s0
      refine ⟨u, _, rfl, .inl (.inl hu2), rfl, _, _, rfl, _, _, rfl, rfl, ?_⟩
      refine ⟨.int (fin 0 (l.take i)), rfl, .int sz, rfl, _, sz, rfl, s0, by omega, .int sz, rfl, _, sz, rfl, rfl, .inr ⟨by omega, by omega⟩, ?_⟩
      refine ⟨.int b.1, rfl, .int sz, rfl, _, _, rfl, rfl, .int sz, rfl, _, _, rfl, rfl, ⟨s0, by omega⟩, .int sz, rfl, _, _, rfl, rfl, .inr ⟨by omega, by omega⟩, ?_⟩
      have lenb : ys.length < sizeLine := by
        have h1 := bl3.len
        have h2 := gpf_len sz (l.take i) 0
        have h3 : (l.take i).length ≤ l.length := by rw [List.length_take]; exact Nat.min_le_right _ _
        have h4 : l.length = bs.length + 1 := by rw [← el, List.length_append]; rfl
        exact Nat.lt_of_le_of_lt (show ys.length ≤ 5001 by omega) (by decide)
      refine ⟨.int (upS (fin 0 (l.take i)) sz), rfl, .int ((b.1 - sz) / sz * sz), rfl, _, _, rfl, rfl, _, rfl, ite2 (fun c0 => ?_) (fun c0 => ?_)⟩
      · have c1 : upS (fin 0 (l.take i)) sz ≤ (b.1 - sz) / sz * sz := of_decide_eq_true c0
        refine ⟨.ref d, rfl, .inl ⟨rfl, _, .inl (.inl hd3)⟩, .int _, rfl, .int _, rfl, (by show 2 ≤ sizeLine; decide), fun p np => ?_⟩
        have sp := same_upd (o := .tup [.int (upS (fin 0 (l.take i)) sz), .int ((b.1 - sz) / sz * sz)]) np
        have hd4 := sp _ _ hd3
        refine ⟨d, _, _, rfl, rfl, hd4, lenb, ?_⟩
        refine ⟨.int b.1, rfl, .int b.2, rfl, _, _, rfl, rfl, some (.int b.1), some (.int b.2), some (.int (upS (fin 0 (l.take i)) sz)), some (.int ((b.1 - sz) / sz * sz)), ys ++ [.ref p], ?_, fun v o nv hv => ?_, upd_same, ?_⟩
        · rw [etk, fin_snoc]
          rfl
        · rw [upd_ne nv]
          exact sp _ _ (bt _ _ nv hv)
        · rw [etk, gpf_snoc]
          have kp : ∀ v us, upd H2 p (.tup [.int (upS (fin 0 (l.take i)) sz), .int ((b.1 - sz) / sz * sz)]) v = some (.tup us) → upd (upd H2 p (.tup [.int (upS (fin 0 (l.take i)) sz), .int ((b.1 - sz) / sz * sz)])) d (.lst (ys ++ [.ref p])) v = some (.tup us) := fun v us e => by
            rw [upd_ne (ne_of e hd4 (by intro z; cases z))]
            exact e
          have e1 : gp1 sz (fin 0 (l.take i)) b = [(upS (fin 0 (l.take i)) sz, (b.1 - sz) / sz * sz)] := if_pos c1
          rw [e1]
          exact Paired.snoc (bl3.mono fun v us e => kp v us (sp _ _ e)) ⟨p, rfl, kp _ _ upd_same⟩
      · have c1 : ¬ upS (fin 0 (l.take i)) sz ≤ (b.1 - sz) / sz * sz := of_decide_eq_false (by simpa using c0)
        refine ⟨.int b.1, rfl, .int b.2, rfl, _, _, rfl, rfl, some (.int b.1), some (.int b.2), some (.int (upS (fin 0 (l.take i)) sz)), some (.int ((b.1 - sz) / sz * sz)), ys, ?_, bt, hd3, ?_⟩
        · rw [etk, fin_snoc]
          rfl
        · rw [etk, gpf_snoc]
          have e1 : gp1 sz (fin 0 (l.take i)) b = [] := if_neg c1
          rw [e1, List.append_nil]
          exact bl3
    · rintro σ H2 ⟨y6, y7, y8, y9, ys, rfl, bt, hd3, bl3⟩
      have e : l.take (xs ++ [V.ref T]).length = l := List.take_of_length_le (by rw [bl2.len]; exact Nat.le_refl _)
      rw [e] at bl3
      exact ⟨.ref d, rfl, q _ d ys (fun a o ha => bt _ _ (ne_of_none ha nd) (s02 _ _ ha)) nd hd3 bl3⟩
end
/-! ### words taken by page; the lowest places of the pages of a gap -/
def twf (L : Int) (bs : List Bk) (n : Int) : Int := ((bs.filter fun b => decide (b.1 / L = n)).map fun b => b.2).sum
theorem twf_snoc {L : Int} {bs : List Bk} {b : Bk} {n : Int} : twf L (bs ++ [b]) n = twf L bs n + (if b.1 / L = n then b.2 else 0) := by
  unfold twf
  rw [List.filter_append, List.map_append, List.sum_append]
  by_cases e : b.1 / L = n
  · rw [if_pos e, List.filter_cons_of_pos (by simp [e])]
    simp
  · rw [if_neg e, List.filter_cons_of_neg (by simp [e])]
    rfl
/-- a dict that tells of each page the words taken there -/
def Twd (kvs : List (Key × V)) (L : Int) (bs : List Bk) : Prop := ∀ n : Int, (valV kvs (Sum.inl n) = none ∧ twf L bs n = 0) ∨ valV kvs (Sum.inl n) = some (.int (twf L bs n))
theorem Twd.put {kvs : List (Key × V)} {L : Int} {bs : List Bk} {b : Bk} (h : Twd kvs L bs) : Twd (putK kvs (Sum.inl (b.1 / L)) (.int (twf L bs (b.1 / L) + b.2))) L (bs ++ [b]) := fun n => by
  rw [valV_put, twf_snoc]
  by_cases e : n = b.1 / L
  · subst e
    rw [if_pos rfl, if_pos rfl]
    exact .inr rfl
  · rw [if_neg (fun z => e (Sum.inl.inj z)), if_neg (fun z => e z.symm), Int.add_zero]
    exact h n
def lbf (a b L : Int) : List Int := a :: ([(a / L + 1) * L, b / L * L].filter fun s => decide (a < s) && decide (s ≤ b))
section
variable {P : Program} {w : World} {K : PySem.W.Frag} {mg : Str → Option Value} {base : Heap}
end

/-! ### the key within place_by_page: the taken words of an address's page -/
section
variable {P : Program} {w : World} {K : PySem.W.Frag} {mg : Str → Option Value} {base : Heap}
end

/-- the lowest places of the pages of all gaps -/
def cnd (L : Int) (gs : List Bk) : List Int := gs.flatMap fun g => lbf g.1 g.2 L
theorem lock_same {H H' : Hp} {d : Addr} {u : HO} {od : Obj} (e : H d = some u) (s : Same (upd H d (.frz od u)) H') : Same H (upd H' d u) := fun b o h => by
  by_cases z : b = d
  · subst z
    rw [upd_same, ← h, e]
  · rw [upd_ne z]
    exact s _ _ (by rw [upd_ne z]; exact h)
theorem lbf_len (a b L : Int) : (lbf a b L).length ≤ 3 := by
  unfold lbf
  rw [List.length_cons]
  have := List.length_filter_le (fun s => decide (a < s) && decide (s ≤ b)) [(a / L + 1) * L, b / L * L]
  have e : [(a / L + 1) * L, b / L * L].length = 2 := rfl
  omega
theorem cnd_len (L : Int) : ∀ gs : List Bk, (cnd L gs).length ≤ 3 * gs.length
  | [] => Nat.le_refl _
  | g :: r => by
    have ih := cnd_len L r
    have h := lbf_len g.1 g.2 L
    unfold cnd at *
    rw [List.flatMap_cons, List.length_append, List.length_cons]
    omega
theorem cnd_snoc (L : Int) (gs : List Bk) (g : Bk) : cnd L (gs ++ [g]) = cnd L gs ++ lbf g.1 g.2 L := by
  unfold cnd
  rw [List.flatMap_append, List.flatMap_cons, List.flatMap_nil, List.append_nil]
/-- the place that the rule asks for: the first best -/
def Cho (r : Str) (L : Int) (bs gs : List Bk) (a : Int) : Prop := ∃ i : Nat, (cnd L gs)[i]? = some a ∧ ∀ (j : Nat) (n : Int), (cnd L gs)[j]? = some n →
  if r = "tight" then twf L bs (n / L) ≤ twf L bs (a / L) ∧ (j < i → twf L bs (n / L) < twf L bs (a / L)) else twf L bs (n / L) ≥ twf L bs (a / L) ∧ (j < i → twf L bs (n / L) > twf L bs (a / L))
section
variable {P : Program} {w : World} {K : PySem.W.Frag} {mg : Str → Option Value} {base : Heap}
end

/-- what place answers: none, or by the rule -/
def Plc (r : Str) (L : Int) (bs gs : List Bk) (v : V) : Prop :=
  (gs = [] ∧ v = .non) ∨ ∃ (a : Int) (g : Bk) (rest : List Bk), gs = g :: rest ∧ v = .int a ∧ ((r = "lowest" ∧ a = g.1) ∨ (r = "highest" ∧ ∃ g' pre, gs = pre ++ [g'] ∧ a = g'.2) ∨ (r ≠ "lowest" ∧ r ≠ "highest" ∧ Cho r L bs gs a))
def IsRule (r : Str) : Prop := r = "lowest" ∨ r = "highest" ∨ r = "tight" ∨ r = "loose"
section
variable {P : Program} {w : World} {K : PySem.W.Frag} {mg : Str → Option Value} {base : Heap}
def spIr4 : Sp := fun vs H Q _ => ∃ r : Str, vs = [.str r] ∧ IsRule r ∧ Q (.bl true) H
theorem ok_Ir4 {k : Nat} (Z : Fns K mg) : FnOk P w K mg base CX0 (k + 1) Z.fIr Z.fdIr ["value"] spIr4 := by
  refine Z.FIr.ok scIr (fun vs H Q E h => ?_) (fun cdv A outer s H vs Q E hr h => ?_)
  · obtain ⟨r, rfl, _⟩ := h
    rfl
  · obtain ⟨r, rfl, hr4, q⟩ := h
    refine ⟨_, (pss_one (ps_ret (pe_cmpR op_in_seq (pv 0) (pe_glob (v := .ref Z.a_RULES) (by rfl) Z.k_RULES rfl) (by rfl)))), ?_⟩
    rcases hr4 with rfl | rfl | rfl | rfl
    · exact ⟨.str _, rfl, Z.a_RULES, _, rfl, .inr (Z.t_RULES _), rfl, by decide +kernel, q⟩
    · exact ⟨.str _, rfl, Z.a_RULES, _, rfl, .inr (Z.t_RULES _), rfl, by decide +kernel, q⟩
    · exact ⟨.str _, rfl, Z.a_RULES, _, rfl, .inr (Z.t_RULES _), rfl, by decide +kernel, q⟩
    · exact ⟨.str _, rfl, Z.a_RULES, _, rfl, .inr (Z.t_RULES _), rfl, by decide +kernel, q⟩
end

/-! ### the place chosen among the candidates is the first best of all places -/
section
variable {s L W : Int} {bs : List Bk}
theorem gpr_mem (hs : 0 < s) {g : Bk} {n : Int} : n ∈ gpr s g ↔ g.1 ≤ n ∧ n ≤ g.2 ∧ (n - g.1) % s = 0 := by
  unfold gpr
  rw [mem_rg3 hs]
  constructor <;> rintro ⟨h1, h2, h3⟩ <;> exact ⟨h1, by omega, h3⟩
theorem gap_in (hs : 0 < s) {g : Bk} (hg : g ∈ gpf s 0 (bs ++ [(W, 0)])) {n : Int} (hn : n ∈ gpr s g) : n ∈ plf s 0 (bs ++ [(W, 0)]) := by
  rw [plf_gpf hs]
  exact List.mem_flatMap.mpr ⟨g, hg, hn⟩
theorem page_free (hs : 0 < s) (L0 : 0 < L) (hL : L % s = 0) (h : ∀ b ∈ bs, 0 ≤ b.1 ∧ 1 ≤ b.2 ∧ b.1 + b.2 ≤ W) (asc : bs.Pairwise fun b c => b.1 + b.2 ≤ c.1) (W0 : 0 ≤ W) {g : Bk} (hg : g ∈ gpf s 0 (bs ++ [(W, 0)])) (g1 : g.1 % s = 0) {p : Int} (p1 : g.1 / L < p) (p2 : p < g.2 / L) : twf L bs p = 0 := by
  unfold twf
  have e : (bs.filter fun b => decide (b.1 / L = p)) = [] := by
    rw [List.filter_eq_nil_iff]
    intro b hb z
    have z := of_decide_eq_true z
    have b0 := h b hb
    have q1 := Int.ediv_mul_le b.1 (b := L) (by omega)
    have q2 := Int.lt_ediv_add_one_mul_self b.1 L0
    have q3 := Int.lt_ediv_add_one_mul_self g.1 L0
    have q4 := Int.ediv_mul_le g.2 (b := L) (by omega)
    have m1 : (g.1 / L + 1) * L ≤ p * L := Int.mul_le_mul_of_nonneg_right (by omega) (by omega)
    have m2 : (p + 1) * L ≤ g.2 / L * L := Int.mul_le_mul_of_nonneg_right (by omega) (by omega)
    rw [z] at q1 q2
    have r1 := Int.emod_nonneg b.1 (b := s) (by omega)
    have r2 := Int.emod_lt_of_pos b.1 hs
    have hx : (b.1 - b.1 % s) % s = 0 := Int.emod_eq_emod_iff_emod_sub_eq_zero.mp (Int.emod_emod_of_dvd b.1 (Int.dvd_refl s)).symm
    have dp : s ∣ p * L := Int.dvd_trans (Int.dvd_of_emod_eq_zero hL) (Int.dvd_mul_left ..)
    have lo : p * L ≤ b.1 - b.1 % s := by
      obtain ⟨k, hk⟩ := dp
      obtain ⟨j, hj⟩ := Int.dvd_of_emod_eq_zero hx
      rw [hk] at q1 ⊢
      rw [hj]
      refine Int.mul_le_mul_of_nonneg_left ?_ (by omega)
      have : s * k < s * (j + 1) := by rw [Int.mul_add, Int.mul_one]; omega
      have := Int.lt_of_mul_lt_mul_left this (by omega)
      omega
    have hm : b.1 - b.1 % s ∈ plf s 0 (bs ++ [(W, 0)]) := gap_in hs hg ((gpr_mem hs).mpr ⟨by omega, by omega, by
      exact Int.emod_eq_zero_of_dvd (Int.dvd_sub (Int.dvd_of_emod_eq_zero hx) (Int.dvd_of_emod_eq_zero g1))⟩)
    have := ((plf_mem hs bs 0 h asc W0 _).mp hm).2.2.2 b hb
    omega
  rw [e]
  rfl
theorem cnd_le (L0 : 0 < L) {g : Bk} {n : Int} (h : g.1 ≤ g.2) (hn : n ∈ lbf g.1 g.2 L) : g.1 ≤ n ∧ n ≤ g.2 := by
  unfold lbf at hn
  rcases List.mem_cons.mp hn with z | z
  · omega
  · have := (List.mem_filter.mp z).2
    rw [Bool.and_eq_true, decide_eq_true_eq, decide_eq_true_eq] at this
    omega
theorem cnd_in (hs : 0 < s) (L0 : 0 < L) (hL : L % s = 0) {g : Bk} {n : Int} (g1 : g.1 % s = 0) (h : g.1 ≤ g.2) (hn : n ∈ lbf g.1 g.2 L) : n ∈ gpr s g := by
  have b := cnd_le L0 h hn
  refine (gpr_mem hs).mpr ⟨b.1, b.2, ?_⟩
  unfold lbf at hn
  have dL := Int.dvd_of_emod_eq_zero hL
  rcases List.mem_cons.mp hn with z | z
  · rw [z, Int.sub_self]
    exact Int.zero_emod _
  · have z := (List.mem_filter.mp z).1
    simp only [List.mem_cons, List.not_mem_nil, or_false] at z
    rcases z with z | z
    · rw [z]
      exact Int.emod_eq_zero_of_dvd (Int.dvd_sub (Int.dvd_trans dL (Int.dvd_mul_left ..)) (Int.dvd_of_emod_eq_zero g1))
    · rw [z]
      exact Int.emod_eq_zero_of_dvd (Int.dvd_sub (Int.dvd_trans dL (Int.dvd_mul_left ..)) (Int.dvd_of_emod_eq_zero g1))
theorem cnd_rep (hs : 0 < s) (L0 : 0 < L) (hL : L % s = 0) (h : ∀ b ∈ bs, 0 ≤ b.1 ∧ 1 ≤ b.2 ∧ b.1 + b.2 ≤ W) (asc : bs.Pairwise fun b c => b.1 + b.2 ≤ c.1) (W0 : 0 ≤ W) {g : Bk} (hg : g ∈ gpf s 0 (bs ++ [(W, 0)])) (g1 : g.1 % s = 0) {n : Int} (hn : n ∈ gpr s g) : ∃ c ∈ lbf g.1 g.2 L, c ≤ n ∧ twf L bs (c / L) = twf L bs (n / L) := by
  obtain ⟨n1, n2, n3⟩ := (gpr_mem hs).mp hn
  have d1 : g.1 / L ≤ n / L := Int.ediv_le_ediv L0 n1
  have d2 : n / L ≤ g.2 / L := Int.ediv_le_ediv L0 n2
  have q3 := Int.lt_ediv_add_one_mul_self g.1 L0
  have q4 := Int.ediv_mul_le g.2 (b := L) (by omega)
  have q5 := Int.ediv_mul_le n (b := L) (by omega)
  have inl : ∀ c, (c = (g.1 / L + 1) * L ∨ c = g.2 / L * L) → g.1 < c → c ≤ g.2 → c ∈ lbf g.1 g.2 L := fun c e h1 h2 => by
    unfold lbf
    refine List.mem_cons_of_mem _ (List.mem_filter.mpr ⟨?_, ?_⟩)
    · simpa using e
    · rw [Bool.and_eq_true, decide_eq_true_eq, decide_eq_true_eq]
      exact ⟨h1, h2⟩
  by_cases e1 : n / L = g.1 / L
  · exact ⟨g.1, List.mem_cons_self .., n1, by rw [e1]⟩
  · by_cases e2 : n / L = g.2 / L
    · have m1 : (g.1 / L + 1) * L ≤ g.2 / L * L := Int.mul_le_mul_of_nonneg_right (by omega) (by omega)
      refine ⟨g.2 / L * L, inl _ (.inr rfl) (by omega) q4, by rw [← e2]; exact q5, ?_⟩
      rw [Int.mul_ediv_cancel _ (by omega), e2]
    · have m1 : (g.1 / L + 1) * L ≤ n / L * L := Int.mul_le_mul_of_nonneg_right (by omega) (by omega)
      refine ⟨(g.1 / L + 1) * L, inl _ (.inl rfl) (by omega) (by omega), by omega, ?_⟩
      rw [Int.mul_ediv_cancel _ (by omega), page_free hs L0 hL h asc W0 hg g1 (by omega) (by omega), page_free hs L0 hL h asc W0 hg g1 (by omega) (by omega)]
theorem lbf_asc (L0 : 0 < L) {a b : Int} : (lbf a b L).Pairwise (· ≤ ·) := by
  unfold lbf
  refine List.pairwise_cons.mpr ⟨fun x hx => ?_, ?_⟩
  · have := (List.mem_filter.mp hx).2
    rw [Bool.and_eq_true, decide_eq_true_eq, decide_eq_true_eq] at this
    omega
  · by_cases c : a < b / L * L
    · refine List.Pairwise.filter _ (List.pairwise_cons.mpr ⟨fun x hx => ?_, List.pairwise_singleton _ _⟩)
      rw [List.mem_singleton.mp hx]
      have : a / L < b / L := Int.ediv_lt_of_lt_mul L0 c
      exact Int.mul_le_mul_of_nonneg_right (by omega) (by omega)
    · rw [List.filter_cons, List.filter_cons_of_neg (a := b / L * L) (by simp; omega), List.filter_nil]
      split
      · exact List.pairwise_singleton _ _
      · exact List.Pairwise.nil
/-- the gaps lie one behind the other -/
theorem gps_asc (hs : 0 < s) (gs : List Bk) (gb : ∀ g ∈ gs, g.1 ≤ g.2 ∧ (g.2 - g.1) % s = 0) (p : (gs.flatMap (gpr s)).Pairwise (· < ·)) : gs.Pairwise fun g g' => g.2 < g'.1 := by
  induction gs with
  | nil => exact .nil
  | cons g r ih =>
    rw [List.flatMap_cons] at p
    obtain ⟨_, p2, p3⟩ := List.pairwise_append.mp p
    refine List.pairwise_cons.mpr ⟨fun g' hg' => ?_, ih (fun x hx => gb x (List.mem_cons_of_mem _ hx)) p2⟩
    have b1 := gb g (List.mem_cons_self ..)
    have b2 := gb g' (List.mem_cons_of_mem _ hg')
    exact p3 g.2 ((gpr_mem hs).mpr ⟨b1.1, Int.le_refl _, b1.2⟩) g'.1 (List.mem_flatMap.mpr ⟨g', hg', (gpr_mem hs).mpr ⟨Int.le_refl _, b2.1, by rw [Int.sub_self]; exact Int.zero_emod _⟩⟩)
theorem cnd_asc (L0 : 0 < L) : ∀ {gs : List Bk}, (∀ g ∈ gs, g.1 ≤ g.2) → gs.Pairwise (fun g g' => g.2 < g'.1) → (cnd L gs).Pairwise (· ≤ ·)
  | [], _, _ => List.Pairwise.nil
  | g :: r, b, p => by
    obtain ⟨p1, p2⟩ := List.pairwise_cons.mp p
    have ih := cnd_asc L0 (gs := r) (fun x hx => b x (List.mem_cons_of_mem _ hx)) p2
    unfold cnd at *
    rw [List.flatMap_cons]
    refine List.pairwise_append.mpr ⟨lbf_asc L0, ih, fun x hx y hy => ?_⟩
    obtain ⟨g', hg', hy⟩ := List.mem_flatMap.mp hy
    have h1 := cnd_le L0 (b g (List.mem_cons_self ..)) hx
    have h2 := cnd_le L0 (b g' (List.mem_cons_of_mem _ hg')) hy
    have := p1 g' hg'
    omega
theorem gpf_mod (s : Int) : ∀ (l : List Bk) (ff : Int), ∀ g ∈ gpf s ff l, g.1 % s = 0 ∧ g.2 % s = 0
  | [], _, g, hg => nomatch hg
  | b :: r, ff, g, hg => by
    have hg : g ∈ gp1 s ff b ++ gpf s (b.1 + b.2) r := hg
    rcases List.mem_append.mp hg with z | z
    · unfold gp1 at z
      split at z
      · rw [List.mem_singleton.mp z]
        exact ⟨Int.mul_emod_left _ _, Int.mul_emod_left _ _⟩
      · cases z
    · exact gpf_mod s r _ g z
/-- the rule's place is the first best of all places -/
theorem cho_best {r : Str} {a : Int} (hs : 0 < s) (L0 : 0 < L) (hL : L % s = 0) (h : ∀ b ∈ bs, 0 ≤ b.1 ∧ 1 ≤ b.2 ∧ b.1 + b.2 ≤ W) (asc : bs.Pairwise fun b c => b.1 + b.2 ≤ c.1) (W0 : 0 ≤ W) (ch : Cho r L bs (gpf s 0 (bs ++ [(W, 0)])) a) :
    a ∈ plf s 0 (bs ++ [(W, 0)]) ∧ ∀ n ∈ plf s 0 (bs ++ [(W, 0)]), if r = "tight" then twf L bs (n / L) ≤ twf L bs (a / L) ∧ (n < a → twf L bs (n / L) < twf L bs (a / L)) else twf L bs (n / L) ≥ twf L bs (a / L) ∧ (n < a → twf L bs (n / L) > twf L bs (a / L)) := by
  obtain ⟨i, hi, best⟩ := ch
  have pinc := plf_inc hs bs 0 h asc W0
  have hb0 : ∀ b ∈ bs ++ [(W, (0 : Int))], 0 ≤ b.1 ∧ 0 ≤ b.2 ∧ b.1 + b.2 ≤ W := fun b hb => by
    rcases List.mem_append.mp hb with z | z
    · have := h b z
      omega
    · rw [List.mem_singleton.mp z]
      exact ⟨W0, Int.le_refl _, by show W + 0 ≤ W; omega⟩
  have gb := gpf_bnd hs (bs ++ [(W, 0)]) 0 hb0 (Int.le_refl _)
  have gm := gpf_mod s (bs ++ [(W, 0)]) 0
  have gd : ∀ g ∈ gpf s 0 (bs ++ [(W, 0)]), g.1 ≤ g.2 ∧ (g.2 - g.1) % s = 0 := fun g hg => ⟨(gb g hg).2.1, Int.emod_eq_zero_of_dvd (Int.dvd_sub (Int.dvd_of_emod_eq_zero (gm g hg).2) (Int.dvd_of_emod_eq_zero (gm g hg).1))⟩
  have gasc := gps_asc hs _ gd (by rw [← plf_gpf hs]; exact pinc)
  have casc := cnd_asc L0 (fun g hg => (gd g hg).1) gasc
  have am : a ∈ cnd L (gpf s 0 (bs ++ [(W, 0)])) := List.mem_of_getElem? hi
  obtain ⟨g, hg, ha⟩ := List.mem_flatMap.mp am
  refine ⟨gap_in hs hg (cnd_in hs L0 hL (gm g hg).1 (gd g hg).1 ha), fun n hn => ?_⟩
  rw [plf_gpf hs] at hn
  obtain ⟨g', hg', hn⟩ := List.mem_flatMap.mp hn
  obtain ⟨c, hc, cn, ec⟩ := cnd_rep hs L0 hL h asc W0 hg' (gm g' hg').1 hn
  obtain ⟨j, hj⟩ := List.mem_iff_getElem?.mp (List.mem_flatMap.mpr ⟨g', hg', hc⟩ : c ∈ cnd L (gpf s 0 (bs ++ [(W, 0)])))
  have hj : (cnd L (gpf s 0 (bs ++ [(W, 0)])))[j]? = some c := hj
  have bj := best j c hj
  rw [ec] at bj
  have ji : n < a → j < i := fun na => Nat.lt_of_not_le fun ij => by
    obtain ⟨li, ei⟩ := List.getElem?_eq_some_iff.mp hi
    obtain ⟨lj, ej⟩ := List.getElem?_eq_some_iff.mp hj
    rcases Nat.eq_or_lt_of_le ij with z | z
    · rw [← z, hi] at hj
      have := Option.some.inj hj
      omega
    · have := List.pairwise_iff_getElem.mp casc i j li lj z
      rw [ei, ej] at this
      omega
  split
  · rename_i e
    rw [if_pos e] at bj
    exact ⟨bj.1, fun na => bj.2 (ji na)⟩
  · rename_i e
    rw [if_neg e] at bj
    exact ⟨bj.1, fun na => bj.2 (ji na)⟩
end

end Ph

set_option maxHeartbeats 8000000
namespace Ph
open PySem PySem.Spec PyProof.Rows L2
section
variable {P : Program} {w : World} {K : PySem.W.Frag} {mg : Str → Option Value} {base : Heap}
def spMf : Sp := fun vs H Q _ => ∃ a r : Nat, vs = [.int ((a * r : Nat) : Int), .int (a : Int)] ∧ 0 < a ∧ 2 ≤ r ∧ Q (.bl true) H
theorem ok_Mf {k : Nat} (Z : Fns K mg) : FnOk P w K mg base CX0 (k + 1) Z.fMf Z.fdMf ["larger", "size"] spMf := by
  refine Z.FMf.ok scMf (fun vs H Q E h => ?_) (fun cdv A outer s H vs Q E hr h => ?_)
  · obtain ⟨a, r, rfl, _⟩ := h
    rfl
  · obtain ⟨a, r, rfl, a0, r2, q⟩ := h
    refine ⟨_, (pss_one (ps_ret (pe_and (pe_chain op_lt op_lt pe_int (pv 1) (pv 0)) (pe_one (pe_cmpR op_eq (pe_op op_mod (pv 0) (pv 1)) pe_int (nomark _)))))), ?_⟩
    have lt : a < a * r := by
      have : a * 2 ≤ a * r := Nat.mul_le_mul_left a r2
      omega
    refine ⟨.int _, rfl, _, _, rfl, rfl, _, rfl, ite2 (fun _ => ?_) (fun c => absurd (decide_eq_true (show (0 : Int) < (a : Int) by omega)) c)⟩
    refine ⟨.int _, rfl, _, _, rfl, rfl, _, rfl, ite2 (fun _ => ?_) (fun c => absurd (decide_eq_true (show (a : Int) < ((a * r : Nat) : Int) by omega)) c)⟩
    refine ⟨.int _, rfl, .int _, rfl, _, _, rfl, rfl, (by omega : (0 : Int) < (a : Int)), rfl, ?_⟩
    have e : ((a * r : Nat) : Int) % (a : Int) = 0 := by
      rw [Int.natCast_mul]
      exact Int.mul_emod_right _ _
    show Q (.bl (decide (V.int (((a * r : Nat) : Int) % (a : Int)) = V.int 0))) H
    rw [e, decide_eq_true rfl]
    exact q
def spCi : Sp := fun vs H Q _ => ∃ (c : Addr) (s : Nat → Nat) (p m : Nat), vs = [.ref c] ∧ ChAt H c (tl s (p + 1)) ∧ Cn s p m ∧ m ≤ 1000000000 ∧ p + 1 ≤ 12 ∧ ∀ H', Same H H' → Q (.bl true) H'
theorem ok_Ci {k : Nat} (Z : Fns K mg) : FnOk P w K mg base CX0 (k + 1 + 1) Z.fCi Z.fdCi ["value"] spCi := by
  have GI : FnOk P w K mg base CX0 (k + 1) Z.fI Z.fdI ["value"] spI := ok_I Z
  have GMf : FnOk P w K mg base CX0 (k + 1) Z.fMf Z.fdMf ["larger", "size"] spMf := ok_Mf Z
  refine Z.FCi.ok scCi (fun vs H Q E h => ?_) (fun cdv A outer s H vs Q E hr h => ?_)
  · obtain ⟨c, s, p, m, rfl, _⟩ := h
    rfl
  · obtain ⟨c, sz, p, m, rfl, hc, cn, hm, hp, q⟩ := h
    refine ⟨_, (pss_cons (ps_if (PW.pt (pw_or (pt_not (pt_val (pe_callB call_isi (by rfl) Z.N.isinstance (by decide +kernel) (pa_cons (pv 0) (pa_cons (pe_bltn (v := .ty "tuple") (by rfl) Z.N.tuple (by decide +kernel) rfl) pa_nil))))) (pw_or1 (pt_not (pt_chain op_le op_le pe_int (pe_callB call_len_seq (by rfl) Z.N.len (by decide +kernel) (pa_cons (pv 0) pa_nil)) (pe_glob (v := .int 12) (by rfl) Z.k_MOST_SIZES.choose_spec ⟨_, rfl⟩))))))
 (pss_one (ps_ret pe_bl)) pss_nil)
 (pss_cons (ps_if (pt_not (pt_val (pe_callB (cr_all rfl) (by rfl) Z.N.all (by decide +kernel) (pa_cons (pe_lc (own := [("size", 1)]) (g := (gName 1)) (tt := tYes) (by rfl) scCi.nd (pi_tup (pv 0)) (blkOk_by (N := scCiN) (sc := defScope scCiS) (by decide +kernel)) (fun _ _ _ _ _ => (pg_name (i := 1) scCi.nd rfl (.inl rfl))) (fun _ _ _ _ _ => pts_nil) (fun _ _ _ _ _ => (pe_call GI (hr.mono (by omega)) (by rfl) Z.gI Z.FI.kp Z.bI .nil pass0 (pa_cons (pv 1) pa_nil)))) pa_nil))))
 (pss_one (ps_ret pe_bl)) pss_nil)
 (pss_cons (ps_if (PW.pt (pw_or (pt_cmpR op_ne (pe_ix ix_tup (pv 0) pe_int (fun _ _ => rfl)) pe_int (nomark _)) (pw_or1 (pt_cmpR op_gt (pe_ix ix_tup (pv 0) (pe_un un_neg pe_int) (fun _ _ => rfl)) (pe_glob (v := .int 1000000000) (by rfl) Z.k_LARGEST_SIZE.choose_spec ⟨_, rfl⟩) (nomark _)))))
 (pss_one (ps_ret pe_bl)) pss_nil)
 (pss_one (ps_ret (pe_callB (cr_all rfl) (by rfl) Z.N.all (by decide +kernel) (pa_cons (pe_lc (own := [("size", 1), ("larger", 2)]) (g := (gTup K 2 (gCons (gName 1) (gCons (gName 2) gNil)))) (tt := tYes) (by rfl) scCi.nd (pi_zipK (k1 := true) (k2 := true) (by rfl) Z.N.zip (pa_cons (pv 0) (pa_cons (pe_slice sl_tupK (pv 0) (po_some pe_int) po_none) pa_nil))) (blkOk_by (N := scCiN) (sc := defScope scCiS) (by decide +kernel)) (fun _ _ _ _ _ => (pg_tup (by rfl) (pgs_cons (pg_name (i := 1) scCi.nd rfl (.inl rfl)) (pgs_cons (pg_name (i := 2) scCi.nd rfl (.inl rfl)) pgs_nil)))) (fun _ _ _ _ _ => pts_nil) (fun _ _ _ _ _ => (pe_call GMf (hr.mono (by omega)) (by rfl) Z.gMf Z.FMf.kp Z.bMf .nil pass0 (pa_cons (pv 2) (pa_cons (pv 1) pa_nil))))) pa_nil))))))), ?_⟩
    obtain ⟨oc, od, ec⟩ := id hc
    refine ⟨.ref c, rfl, .ref c, .ty "tuple", .type "tuple", .type "tuple", true, rfl, .ty _, .fTuple ec, kit_ty (by decide +kernel), _, rfl, ite2 (fun c => absurd c (by decide)) (fun _ => ?_)⟩
    refine ⟨.ref c, rfl, c, _, rfl, .inr hc.sq, ?_⟩
    rw [List.length_map, tl_len]
    refine ⟨_, _, rfl, rfl, _, rfl, ite2 (fun _ => ?_) (fun c => absurd (decide_eq_true (show (1 : Int) ≤ ((p + 1 : Nat) : Int) by omega)) c)⟩
    refine ⟨_, _, rfl, rfl, _, rfl, ite2 (fun c => absurd c (by rw [decide_eq_true (show ((p + 1 : Nat) : Int) ≤ 12 by omega)]; decide)) (fun _ => ?_)⟩
    refine ⟨.ref c, rfl, c, rfl, ⟨_, hc.sq⟩, fun D nD => ?_⟩
    refine lc_R (walk_tup (K := K) (a := c) (xs := (tl sz (p + 1)).map V.int)) (fun _ _ _ _ y => YAt.same y) (fun _ _ y => y = .bl true) (fun _ _ _ _ _ h => h) nD (by rw [List.length_map, tl_len]; exact Nat.lt_of_le_of_lt hp (by decide)) (fun H2 s2 => s2.tup hc.sq) (fun j x H2 H3 hj s2 y Z hZ => ?_) (fun H2 zs s2 hD pr => ?_)
    · rw [List.length_map, tl_len] at hj
      obtain ⟨rfl, hx⟩ := y
      rw [tl_getV hj] at hx
      cases hx
      exact ⟨rfl, .int _, rfl, _, rfl, hZ _ _ (Same.refl _) rfl⟩
    have allT : ∀ n : Nat, ((List.range n).map fun _ => true).all id = true := fun n => by
      rw [List.all_map]
      exact List.all_eq_true.mpr fun _ _ => rfl
    rw [paired_eq pr, List.length_map, tl_len] at hD
    refine ⟨D, (List.range (p + 1)).map fun _ => true, rfl, by rw [List.map_map]; exact .inl (.inl hD), _, rfl, ite2 (fun c => absurd c (by rw [allT]; decide)) (fun _ => ?_)⟩
    have hc2 := hc.keep s2
    have top : sz p ≤ 1000000000 := Nat.le_trans cn.top hm
    refine ⟨.ref c, rfl, c, _, 0, _, rfl, rfl, hc2.sq, atI_nat (j := 0) (tl_getV (Nat.succ_pos p)), rfl, _, rfl, ite2 (fun c => absurd c (by rw [cn.ch.s0]; decide)) (fun _ => ?_)⟩
    refine ⟨.ref c, rfl, 1, rfl, c, _, -1, _, rfl, rfl, hc2.sq, tl_atL, _, _, rfl, rfl, _, rfl, ite2 (fun c => absurd (of_decide_eq_true c) (by omega)) (fun _ => ?_)⟩
    refine ⟨.ref c, rfl, .ref c, rfl, 1, rfl, c, _, rfl, hc2.sq, fun u H4 s4 hu => ?_⟩
    have cut : cutV ((tl sz (p + 1)).map V.int) (some 1) none = (tl (fun i => sz (i + 1)) p).map V.int := cut_oneL
    rw [cut] at hu
    refine ⟨c, u, _, _, rfl, (hc2.keep s4).sq, hu, fun D2 nD2 => ?_⟩
    refine lc_R (walk_zipK (k1 := true) (k2 := true) (K := K) (a := c) (b := u) (xs := (tl sz (p + 1)).map V.int) (ys := (tl (fun i => sz (i + 1)) p).map V.int) (n := p) (by rw [List.length_map, List.length_map, tl_len, tl_len]; omega)) (fun _ _ _ _ y => YPair.same y) (fun _ _ y => y = .bl true) (fun _ _ _ _ _ h => h) nD2 (Nat.lt_of_le_of_lt (show p ≤ 12 by omega) (by decide)) (fun H5 s5 => ⟨s5.tup (hc2.keep s4).sq, s5.tup hu⟩) (fun j x H5 H6 hj s5 y Z hZ => ?_) (fun H5 zs s5 hD2 pr2 => ?_)
    · obtain ⟨T, x1, x2, rfl, nT, rfl, e1, e2⟩ := y
      have e1' : ((tl sz (p + 1)).map V.int)[j]? = some x1 := e1
      rw [tl_getV (by omega)] at e1'
      have e2' : ((tl (fun i => sz (i + 1)) p).map V.int)[j]? = some x2 := e2
      rw [tl_getV hj] at e2'
      cases e1'
      cases e2'
      obtain ⟨r, r2, _, er⟩ := cn.two j hj
      refine ⟨T, _, rfl, .inl (.inl upd_same), rfl, _, _, rfl, _, _, rfl, rfl, rfl, .int _, rfl, .int _, rfl, sz j, r, by rw [er]; rfl, cn.ch.pos (by omega), r2, hZ _ _ (Same.refl _) rfl⟩
    · rw [paired_eq pr2] at hD2
      refine ⟨D2, (List.range p).map fun _ => true, rfl, by rw [List.map_map]; exact .inl (.inl hD2), ?_⟩
      rw [allT]
      exact q _ (s2.trans (s4.trans s5))
end
section
variable {P : Program} {w : World} {K : PySem.W.Frag} {mg : Str → Option Value} {base : Heap}
def spHk (C : Addr) : Sp := fun vs H Q _ => ∃ (h l c : Addr) (r : Str) (s : Nat → Nat) (p pg M : Nat) (bs : List Bk) (ss : List Tri) (z : Int), vs = [.ref h, .int z] ∧ HrS C H h l c r s p pg M bs ss ∧ z ∈ tl s (p + 1) ∧ tot bs + z ≤ M ∧ bs.length ≤ 5000 ∧ ∀ H', Same H H' → Q .non H'
theorem ok_Hk {k : Nat} (Z : Fns K mg) : FnOk P w K mg base CX0 (k + 1 + 1 + 1 + 1) Z.fHk Z.fdHk ["self", "size"] (spHk Z.CHeap) := by
  have GC : FnOk P w K mg base CX0 (k + 1 + 1 + 1) Z.fC Z.fdC ["chain", "size"] spC := ok_C Z
  have GV : FnOk P w K mg base CX0 (k + 1) Z.fV Z.fdV ["state"] spV := ok_V Z
  refine Z.FHk.ok scHk (fun vs H Q E h => ?_) (fun cdv A outer s H vs Q E hr h => ?_)
  · obtain ⟨h, l, c, r, s, p, pg, M, bs, ss, z, rfl, _⟩ := h
    rfl
  · obtain ⟨h, l, c, r, sz, p, pg, M, bs, ss, z, rfl, ⟨dx, t, xs, a⟩, hz, hM, hl, q⟩ := h
    refine ⟨_, (pss_cons (ps_expr (pe_call GC (hr.mono (by omega)) (by rfl) Z.gC Z.FC.kp Z.bC .nil pass0 (pa_cons (pe_fld (pv 0) rfl) (pa_cons (pv 1) pa_nil))))
 (pss_one (ps_if (pt_cmpR op_gt (pe_op op_add (pe_call GV (hr.mono (by omega)) (by rfl) Z.gV Z.FV.kp Z.bV .nil pass0 (pa_cons (pe_fld (pv 0) rfl) pa_nil)) (pv 1)) (pe_fld (pv 0) rfl) (nomark _))
 (pss_one ps_never) pss_nil))), ?_⟩
    refine ⟨.ref h, rfl, h, Z.CHeap, dx, _, _, rfl, a.ob, Z.clHeap, Z.naHeap_chain, hr_chain, .int z, rfl, c, _, z, rfl, a.ch, hz, fun _ => ?_⟩
    refine ⟨.ref h, rfl, h, Z.CHeap, dx, _, _, rfl, a.ob, Z.clHeap, Z.naHeap_blocks, hr_blocks, t, bs, rfl, a.st, hl, fun H1 s1 => ?_⟩
    refine ⟨.int z, rfl, _, _, rfl, rfl, .ref h, rfl, h, Z.CHeap, dx, _, _, rfl, s1 _ _ a.ob, Z.clHeap, Z.naHeap_limit, hr_limit, _, _, rfl, rfl, _, rfl, ite2 (fun c => absurd (of_decide_eq_true c) (by omega)) (fun _ => ?_)⟩
    exact q _ s1
def spHs (C : Addr) : Sp := fun vs H Q _ => ∃ (h l c : Addr) (r : Str) (s : Nat → Nat) (p pg M : Nat) (bs : List Bk) (ss : List Tri), vs = [.ref h] ∧ HrS C H h l c r s p pg M bs ss ∧ ∀ t, StAt H t bs → Q (.ref t) H
theorem ok_Hs {k : Nat} (Z : Fns K mg) : FnOk P w K mg base CX0 (k + 1) Z.fHs Z.fdHs ["self"] (spHs Z.CHeap) := by
  refine Z.FHs.ok scHs (fun vs H Q E h => ?_) (fun cdv A outer s H vs Q E hr h => ?_)
  · obtain ⟨h, l, c, r, s, p, pg, M, bs, ss, rfl, _⟩ := h
    rfl
  · obtain ⟨h, l, c, r, sz, p, pg, M, bs, ss, rfl, ⟨dx, t, xs, a⟩, q⟩ := h
    refine ⟨_, (pss_one (ps_ret (pe_fld (pv 0) rfl))), ?_⟩
    exact ⟨.ref h, rfl, h, Z.CHeap, dx, _, _, rfl, a.ob, Z.clHeap, Z.naHeap_blocks, hr_blocks, q _ a.st⟩
end
section
variable {P : Program} {w : World} {K : PySem.W.Frag} {mg : Str → Option Value} {base : Heap}
def spHi (C : Addr) : Sp := fun vs H Q _ => ∃ (h c dx : Addr) (r : Str) (s : Nat → Nat) (p m pg M : Nat), vs = [.ref h, .ref c, .int pg, .int M, .str r] ∧ IsRule r ∧ H h = some (.ins C dx []) ∧ ChAt H c (tl s (p + 1)) ∧ Cn s p m ∧ m ≤ 1000000000 ∧ p + 1 ≤ 12 ∧ ∀ H' l, Fr h l H H' → H l = none → HrS C H' h l c r s p pg M [] [] → Q .non H'
theorem ok_Hi {k : Nat} (Z : Fns K mg) : FnOk P w K mg base CX0 (k + 1 + 1 + 1) Z.fHi Z.fdHi ["self", "chain", "pages", "limit", "rule"] (spHi Z.CHeap) := by
  have GCi : FnOk P w K mg base CX0 (k + 1 + 1) Z.fCi Z.fdCi ["value"] spCi := ok_Ci Z
  have GI : FnOk P w K mg base CX0 (k + 1) Z.fI Z.fdI ["value"] spI := ok_I Z
  have GIr : FnOk P w K mg base CX0 (k + 1) Z.fIr Z.fdIr ["value"] spIr4 := ok_Ir4 Z
  refine Z.FHi.ok scHi (fun vs H Q E h => ?_) (fun cdv A outer s H vs Q E hr h => ?_)
  · obtain ⟨h, c, dx, r, s, p, m, pg, M, rfl, _⟩ := h
    rfl
  · obtain ⟨h, c, dx, r, sz, p, m, pg, M, rfl, hr4, hh, hc, cn, hm, hp, q⟩ := h
    refine ⟨_, (pss_cons (ps_if (pt_not (pt_val (pe_call GCi (hr.mono (by omega)) (by rfl) Z.gCi Z.FCi.kp Z.bCi .nil pass0 (pa_cons (pv 1) pa_nil))))
 (pss_one ps_never) pss_nil)
 (pss_cons (ps_if (PW.pt (pw_or (pt_not (pt_val (pe_call GI (hr.mono (by omega)) (by rfl) Z.gI Z.FI.kp Z.bI .nil pass0 (pa_cons (pv 2) pa_nil)))) (pw_or1 (pt_cmpR op_lt (pv 2) pe_int (nomark _)))))
 (pss_one ps_never) pss_nil)
 (pss_cons (ps_if (PW.pt (pw_or (pt_not (pt_val (pe_call GI (hr.mono (by omega)) (by rfl) Z.gI Z.FI.kp Z.bI .nil pass0 (pa_cons (pv 3) pa_nil)))) (pw_or1 (pt_cmpR op_lt (pv 3) pe_int (nomark _)))))
 (pss_one ps_never) pss_nil)
 (pss_cons (ps_if (pt_not (pt_val (pe_call GIr (hr.mono (by omega)) (by rfl) Z.gIr Z.FIr.kp Z.bIr .nil pass0 (pa_cons (pv 4) pa_nil))))
 (pss_one ps_never) pss_nil)
 (pss_cons (ps_fld (pv 0) (pv 1) rfl)
 (pss_cons (ps_fld (pv 0) (pv 2) rfl)
 (pss_cons (ps_fld (pv 0) (pv 3) rfl)
 (pss_cons (ps_fld (pv 0) (pv 4) rfl)
 (pss_cons (ps_fld (pv 0) (pe_tup pa_nil) rfl)
 (pss_one (ps_fld (pv 0) (pe_lst pa_nil) rfl))))))))))), ?_⟩
    refine ⟨.ref c, rfl, c, sz, p, m, rfl, hc, cn, hm, hp, fun H1 s1 => ⟨_, rfl, ite2 (fun c => absurd c (by decide)) (fun _ => ?_)⟩⟩
    refine ⟨.int _, rfl, _, rfl, _, rfl, ite2 (fun c => absurd c (by decide)) (fun _ => ?_)⟩
    refine ⟨.int _, rfl, _, _, rfl, rfl, _, rfl, ite2 (fun c => absurd (of_decide_eq_true c) (by omega)) (fun _ => ?_)⟩
    refine ⟨.int _, rfl, _, rfl, _, rfl, ite2 (fun c => absurd c (by decide)) (fun _ => ?_)⟩
    refine ⟨.int _, rfl, _, _, rfl, rfl, _, rfl, ite2 (fun c => absurd (of_decide_eq_true c) (by omega)) (fun _ => ?_)⟩
    refine ⟨.str r, rfl, r, rfl, hr4, _, rfl, ite2 (fun c => absurd c (by decide)) (fun _ => ?_)⟩
    have hh1 := s1 _ _ hh
    refine ⟨.ref c, rfl, .ref h, rfl, h, Z.CHeap, dx, [], rfl, hh1, Z.clHeap, Z.naHeap_chain, (by show 0 < 1000; decide), ?_⟩
    refine ⟨.int pg, rfl, .ref h, rfl, h, Z.CHeap, dx, _, rfl, upd_same, Z.clHeap, Z.naHeap_pages, (by show 1 < 1000; decide), ?_⟩
    refine ⟨.int M, rfl, .ref h, rfl, h, Z.CHeap, dx, _, rfl, upd_same, Z.clHeap, Z.naHeap_limit, (by show 2 < 1000; decide), ?_⟩
    refine ⟨.str r, rfl, .ref h, rfl, h, Z.CHeap, dx, _, rfl, upd_same, Z.clHeap, Z.naHeap_rule, (by show 3 < 1000; decide), ?_⟩
    have hh2 : upd (upd (upd (upd H1 h (HO.ins Z.CHeap dx (putF "chain" (V.ref c) []))) h (HO.ins Z.CHeap dx (putF "pages" (V.int ↑pg) (putF "chain" (V.ref c) [])))) h (HO.ins Z.CHeap dx (putF "limit" (V.int ↑M) (putF "pages" (V.int ↑pg) (putF "chain" (V.ref c) []))))) h (HO.ins Z.CHeap dx (putF "rule" (V.str r) (putF "limit" (V.int ↑M) (putF "pages" (V.int ↑pg) (putF "chain" (V.ref c) []))))) h = some (HO.ins Z.CHeap dx (putF "rule" (V.str r) (putF "limit" (V.int ↑M) (putF "pages" (V.int ↑pg) (putF "chain" (V.ref c) []))))) := upd_same
    have b12 : But h H1 (upd (upd (upd (upd H1 h (HO.ins Z.CHeap dx (putF "chain" (V.ref c) []))) h (HO.ins Z.CHeap dx (putF "pages" (V.int ↑pg) (putF "chain" (V.ref c) [])))) h (HO.ins Z.CHeap dx (putF "limit" (V.int ↑M) (putF "pages" (V.int ↑pg) (putF "chain" (V.ref c) []))))) h (HO.ins Z.CHeap dx (putF "rule" (V.str r) (putF "limit" (V.int ↑M) (putF "pages" (V.int ↑pg) (putF "chain" (V.ref c) [])))))) := but_upd.trans (but_upd.trans (but_upd.trans but_upd))
    generalize upd (upd (upd (upd H1 h (HO.ins Z.CHeap dx (putF "chain" (V.ref c) []))) h (HO.ins Z.CHeap dx (putF "pages" (V.int ↑pg) (putF "chain" (V.ref c) [])))) h (HO.ins Z.CHeap dx (putF "limit" (V.int ↑M) (putF "pages" (V.int ↑pg) (putF "chain" (V.ref c) []))))) h (HO.ins Z.CHeap dx (putF "rule" (V.str r) (putF "limit" (V.int ↑M) (putF "pages" (V.int ↑pg) (putF "chain" (V.ref c) []))))) = H2 at *
    refine ⟨(by show 0 ≤ sizeLine; decide), fun T nT => ?_⟩
    have nhT : h ≠ T := ne_of_none hh2 nT
    refine ⟨.ref h, rfl, h, Z.CHeap, dx, _, rfl, (by rw [upd_ne nhT]; exact hh2), Z.clHeap, Z.naHeap_blocks, (by show 4 < 1000; decide), ?_⟩
    refine ⟨(by show 0 ≤ sizeLine; decide), fun l nl => ?_⟩
    have nhl : h ≠ l := fun z => by
      rw [← z, upd_same] at nl
      cases nl
    have nTl : T ≠ l := fun z => by
      rw [← z, upd_ne nhT.symm, upd_same] at nl
      cases nl
    refine ⟨.ref h, rfl, h, Z.CHeap, dx, _, rfl, (by rw [upd_ne nhl]; exact upd_same), Z.clHeap, Z.naHeap_steps, (by show 5 < 1000; decide), ?_⟩
    have nl2 : H2 l = none := by
      rw [upd_ne nhl.symm, upd_ne nTl.symm] at nl
      exact nl
    have kp : ∀ b o, b ≠ h → b ≠ l → H1 b = some o → upd (upd (upd (upd H2 T (.tup [])) h (.ins Z.CHeap dx (putF "blocks" (V.ref T) (putF "rule" (V.str r) (putF "limit" (V.int ↑M) (putF "pages" (V.int ↑pg) (putF "chain" (V.ref c) []))))))) l (.lst [])) h (.ins Z.CHeap dx (putF "steps" (V.ref l) (putF "blocks" (V.ref T) (putF "rule" (V.str r) (putF "limit" (V.int ↑M) (putF "pages" (V.int ↑pg) (putF "chain" (V.ref c) []))))))) b = some o := fun b o n1 n2 e => by
      have e2 := b12 _ _ n1 e
      rw [upd_ne n1, upd_ne n2, upd_ne n1, upd_ne (ne_of_none e2 nT)]
      exact e2
    have nl0 : H l = none := by
      cases e : H l with
      | none => rfl
      | some o =>
        have := b12 _ _ nhl.symm (s1 _ _ e)
        rw [nl2] at this
        cases this
    refine q _ l (fun b o n1 n2 e => kp b o n1 n2 (s1 _ _ e)) nl0 ⟨dx, T, [], ?_, ?_, ⟨[], ?_, .nil⟩, ?_, .nil⟩
    · rw [upd_same]
      rfl
    · refine (hc.keep s1).frz fun o u e => kp _ _ (ne_of e hh1 (by intro z; cases z)) (fun z => ?_) e
      have e3 := b12 _ _ (ne_of e hh1 (by intro z; cases z)) e
      rw [z, nl2] at e3
      cases e3
    · rw [upd_ne nhT.symm, upd_ne nTl, upd_ne nhT.symm, upd_same]
    · rw [upd_ne nhl.symm, upd_same]
def spHe (C : Addr) : Sp := fun vs H Q _ => ∃ (h l c : Addr) (r : Str) (s : Nat → Nat) (p pg M : Nat) (bs : List Bk) (ss : List Tri) (x z : Int), vs = [.ref h, .int x, .int z] ∧ HrS C H h l c r s p pg M bs ss ∧ bs.length ≤ 5000 ∧ ss.length ≤ 1000000 ∧ ∀ H' cs, Fr h l H H' → HrS C H' h l c r s p pg M cs (ss ++ [(("get" : Str), x, z)]) → cs.Perm (bs ++ [(x, z)]) → (cs.Pairwise fun x y => SrtO.lexB y x = false) → Q .non H'
theorem ok_He {k : Nat} (Z : Fns K mg) : FnOk P w K mg base CX0 (k + 1 + 1) Z.fHe Z.fdHe ["self", "address", "size"] (spHe Z.CHeap) := by
  have GWb : FnOk P w K mg base CX0 (k + 1) Z.fWb Z.fdWb ["state", "address", "size"] spWb := ok_Wb Z
  refine Z.FHe.ok scHe (fun vs H Q E h => ?_) (fun cdv A outer s H vs Q E hr h => ?_)
  · obtain ⟨h, l, c, r, s, p, pg, M, bs, ss, x, z, rfl, _⟩ := h
    rfl
  · obtain ⟨h, l, c, r, sz, p, pg, M, bs, ss, x, z, rfl, ⟨dx, t, xs, a⟩, hl, hn, q⟩ := h
    refine ⟨_, (pss_cons (ps_fld (pv 0) (pe_call GWb (hr.mono (by omega)) (by rfl) Z.gWb Z.FWb.kp Z.bWb .nil pass0 (pa_cons (pe_fld (pv 0) rfl) (pa_cons (pv 1) (pa_cons (pv 2) pa_nil)))) rfl)
 (pss_one (ps_expr (pe_bm PySem.F.plainAttrs_list PySem.F.slot_list_append PySem.F.type_list_append mt_append (pe_fld (pv 0) rfl) (pa_cons (pe_tup (pa_cons pe_str (pa_cons (pv 1) (pa_cons (pv 2) pa_nil)))) pa_nil))))), ?_⟩
    refine ⟨.ref h, rfl, h, Z.CHeap, dx, _, _, rfl, a.ob, Z.clHeap, Z.naHeap_blocks, hr_blocks, .int x, rfl, .int z, rfl, t, bs, x, z, rfl, a.st, hl, fun H1 u cs s1 st1 pm srt => ?_⟩
    have ob1 := s1 _ _ a.ob
    have ls1 := s1 _ _ a.ls
    have nlh : l ≠ h := ne_of ls1 ob1 (by intro z; cases z)
    refine ⟨.ref h, rfl, h, Z.CHeap, dx, _, rfl, ob1, Z.clHeap, Z.naHeap_blocks, (by show 6 < 1000; decide), ?_⟩
    rw [hr_put]
    have hl2 : upd H1 h (.ins Z.CHeap dx (hfr r c pg M u l)) l = some (.lst xs) := by rw [upd_ne nlh]; exact ls1
    refine ⟨.ref h, rfl, h, Z.CHeap, dx, _, _, rfl, upd_same, Z.clHeap, Z.naHeap_steps, hr_steps, .inl ⟨rfl, _, .inl (.inl hl2)⟩, .int x, rfl, .int z, rfl, (by show 3 ≤ sizeLine; decide), fun T nT => ?_⟩
    have sT := same_upd (o := .tup [.str "get", .int x, .int z]) nT
    have hl3 := sT _ _ hl2
    refine ⟨l, _, _, rfl, rfl, hl3, Nat.lt_of_le_of_lt ((by rw [a.sl.len]; exact hn)) (by decide), ?_⟩
    have ob2 := sT _ _ (upd_same (H := H1) (a := h) (o := .ins Z.CHeap dx (hfr r c pg M u l)))
    have kp : ∀ b o, b ≠ h → b ≠ l → H1 b = some o → upd (upd (upd H1 h (.ins Z.CHeap dx (hfr r c pg M u l))) T (.tup [.str "get", .int x, .int z])) l (.lst (xs ++ [.ref T])) b = some o := fun b o n1 n2 e => by
      rw [upd_ne n2]
      exact sT _ _ (by rw [upd_ne n1]; exact e)
    refine q _ cs (fun b o n1 n2 e => kp b o n1 n2 (s1 _ _ e)) ⟨dx, u, xs ++ [.ref T], ⟨?_, ?_, ?_, upd_same, ?_⟩⟩ pm srt
    · rw [upd_ne nlh.symm]
      exact ob2
    · exact (a.ch.keep s1).frz fun o u e => kp _ _ (ne_of e ob1 (by intro z; cases z)) (ne_of e ls1 (by intro z; cases z)) e
    · exact st1.mono fun v us e => kp _ _ (ne_of e ob1 (by intro z; cases z)) (ne_of e ls1 (by intro z; cases z)) e
    · refine Paired.snoc (a.sl.kp fun v us e => kp _ _ (ne_of (s1 _ _ e) ob1 (by intro z; cases z)) (ne_of (s1 _ _ e) ls1 (by intro z; cases z)) (s1 _ _ e)) ⟨T, rfl, ?_⟩
      rw [upd_ne (ne_of_none hl2 nT).symm]
      exact upd_same
def spHf (C : Addr) : Sp := fun vs H Q _ => ∃ (h l c : Addr) (r : Str) (s : Nat → Nat) (p pg M : Nat) (bs : List Bk) (ss : List Tri) (x : Int), vs = [.ref h, .int x] ∧ HrS C H h l c r s p pg M bs ss ∧ bs.length ≤ 5000 ∧ ss.length ≤ 1000000 ∧ (∃ b ∈ bs, b.1 = x) ∧ ∀ H', Fr h l H H' → HrS C H' h l c r s p pg M (bs.filter fun b => decide (b.1 ≠ x)) (ss ++ [(("free" : Str), x, tot bs - tot (bs.filter fun b => decide (b.1 ≠ x)))]) → Q .non H'
theorem ok_Hf {k : Nat} (Z : Fns K mg) : FnOk P w K mg base CX0 (k + 1 + 1 + 1 + 1) Z.fHf Z.fdHf ["self", "address"] (spHf Z.CHeap) := by
  have GOb : FnOk P w K mg base CX0 (k + 1 + 1 + 1) Z.fOb Z.fdOb ["state", "address"] (spOb K) := ok_Ob Z
  have GV : FnOk P w K mg base CX0 (k + 1) Z.fV Z.fdV ["state"] spV := ok_V Z
  refine Z.FHf.ok scHf (fun vs H Q E h => ?_) (fun cdv A outer s H vs Q E hr h => ?_)
  · obtain ⟨h, l, c, r, s, p, pg, M, bs, ss, x, rfl, _⟩ := h
    rfl
  · obtain ⟨h, l, c, r, sz, p, pg, M, bs, ss, x, rfl, hp, hl, hn, ex, q⟩ := h
    refine ⟨_, (pss_cons (ps_set (i := 2) scHf.nd rfl (.inl rfl) (pe_call GOb (hr.mono (by omega)) (by rfl) Z.gOb Z.FOb.kp Z.bOb .nil pass0 (pa_cons (pe_fld (pv 0) rfl) (pa_cons (pv 1) pa_nil))))
 (pss_cons (ps_expr (pe_bm PySem.F.plainAttrs_list PySem.F.slot_list_append PySem.F.type_list_append mt_append (pe_fld (pv 0) rfl) (pa_cons (pe_tup (pa_cons pe_str (pa_cons (pv 1) (pa_cons (pe_op op_sub (pe_call GV (hr.mono (by omega)) (by rfl) Z.gV Z.FV.kp Z.bV .nil pass0 (pa_cons (pe_fld (pv 0) rfl) pa_nil)) (pe_call GV (hr.mono (by omega)) (by rfl) Z.gV Z.FV.kp Z.bV .nil pass0 (pa_cons (pv 2) pa_nil))) pa_nil)))) pa_nil)))
 (pss_one (ps_fld (pv 0) (pv 2) rfl)))), ?_⟩
    obtain ⟨dx, t, xs, a⟩ := id hp
    refine ⟨.ref h, rfl, h, Z.CHeap, dx, _, _, rfl, a.ob, Z.clHeap, Z.naHeap_blocks, hr_blocks, .int x, rfl, t, bs, x, rfl, a.st, hl, ex, fun H1 u s1 st1 => ?_⟩
    have ob1 := s1 _ _ a.ob
    have ls1 := s1 _ _ a.ls
    have nlh : l ≠ h := ne_of ls1 ob1 (by intro z; cases z)
    have fl : (bs.filter fun b => decide (b.1 ≠ x)).length ≤ 5000 := Nat.le_trans (List.length_filter_le _ _) hl
    refine ⟨.ref h, rfl, h, Z.CHeap, dx, _, _, rfl, ob1, Z.clHeap, Z.naHeap_steps, hr_steps, .inl ⟨rfl, _, .inl (.inl ls1)⟩, .int x, rfl, .ref h, rfl, h, Z.CHeap, dx, _, _, rfl, ob1, Z.clHeap, Z.naHeap_blocks, hr_blocks, t, bs, rfl, a.st.same s1, hl, fun H2 s2 => ?_⟩
    refine ⟨.ref u, rfl, u, _, rfl, st1.same s2, fl, fun H3 s3 => ⟨_, _, rfl, rfl, (by show 3 ≤ sizeLine; decide), fun T nT => ?_⟩⟩
    have s13 := s2.trans s3
    have sT := same_upd (o := .tup [.str "free", .int x, .int (tot bs - tot (bs.filter fun b => decide (b.1 ≠ x)))]) nT
    have s14 := s13.trans sT
    have hl4 := s14 _ _ ls1
    have ob4 := s14 _ _ ob1
    have st4 := st1.same s14
    have ch4 := (a.ch.keep s1).keep s14
    have hT4 : upd H3 T (.tup [.str "free", .int x, .int (tot bs - tot (bs.filter fun b => decide (b.1 ≠ x)))]) T = some (.tup [.str "free", .int x, .int (tot bs - tot (bs.filter fun b => decide (b.1 ≠ x)))]) := upd_same
    have stl4 := a.sl.kp fun v us e => s14 _ _ (s1 _ _ e)
    generalize upd H3 T (.tup [.str "free", .int x, .int (tot bs - tot (bs.filter fun b => decide (b.1 ≠ x)))]) = H4 at *
    refine ⟨l, _, _, rfl, rfl, hl4, Nat.lt_of_le_of_lt ((by rw [a.sl.len]; exact hn)) (by decide), ?_⟩
    refine ⟨.ref u, rfl, .ref h, rfl, h, Z.CHeap, dx, _, rfl, (by rw [upd_ne nlh.symm]; exact ob4), Z.clHeap, Z.naHeap_blocks, (by show 6 < 1000; decide), ?_⟩
    rw [hr_put]
    have kp : ∀ b o, b ≠ h → b ≠ l → H4 b = some o → upd (upd H4 l (.lst (xs ++ [.ref T]))) h (.ins Z.CHeap dx (hfr r c pg M u l)) b = some o := fun b o n1 n2 e => by
      rw [upd_ne n1, upd_ne n2]
      exact e
    refine q _ (fun b o n1 n2 e => kp b o n1 n2 (s14 _ _ (s1 _ _ e))) ⟨dx, u, xs ++ [.ref T], ⟨upd_same, ?_, ?_, ?_, ?_⟩⟩
    · exact ch4.frz fun o u e => kp _ _ (ne_of e ob4 (by intro z; cases z)) (ne_of e hl4 (by intro z; cases z)) e
    · exact st4.mono fun v us e => kp _ _ (ne_of e ob4 (by intro z; cases z)) (ne_of e hl4 (by intro z; cases z)) e
    · rw [upd_ne nlh, upd_same]
    · refine Paired.snoc (stl4.kp fun v us e => kp _ _ (ne_of e ob4 (by intro z; cases z)) (ne_of e hl4 (by intro z; cases z)) e) ⟨T, rfl, kp _ _ (ne_of hT4 ob4 (by intro z; cases z)) (ne_of hT4 hl4 (by intro z; cases z)) hT4⟩
end
/-- what changes at h, at l and in tables alone -/
def FrN (h l : Addr) (H H' : Hp) : Prop := ∀ b o, b ≠ h → b ≠ l → H b = some o → (∀ ps, o ≠ .tbl ps) → H' b = some o
section
variable {P : Program} {w : World} {K : PySem.W.Frag} {mg : Str → Option Value} {base : Heap}
end
section
variable {P : Program} {w : World} {K : PySem.W.Frag} {mg : Str → Option Value} {base : Heap}
end
end Ph

set_option maxHeartbeats 8000000
namespace Ph
open PySem PySem.Spec PyProof.Rows L2
section
variable {P : Program} {w : World} {K : PySem.W.Frag} {mg : Str → Option Value} {base : Heap}
def spMh : Sp := fun vs H Q _ => ∃ (t : Addr) (bs : List Bk) (x z : Int), vs = [.ref t, .int x, .int z] ∧ StAt H t bs ∧ bs.length ≤ 5000 ∧ 0 < z ∧ 0 ≤ x ∧ x % z = 0 ∧ (∀ b ∈ bs, b.1 + b.2 ≤ x ∨ x + z ≤ b.1) ∧ ∀ H', Same H H' → Q (.bl true) H'
theorem ok_Mh {k : Nat} (Z : Fns K mg) : FnOk P w K mg base CX0 (k + 1 + 1) Z.fMh Z.fdMh ["state", "address", "size"] spMh := by
  have GI : FnOk P w K mg base CX0 (k + 1) Z.fI Z.fdI ["value"] spI := ok_I Z
  refine Z.FMh.ok scMh (fun vs H Q E h => ?_) (fun cdv A outer s H vs Q E hr h => ?_)
  · obtain ⟨t, bs, x, z, rfl, _⟩ := h
    rfl
  · obtain ⟨t, bs, x, z, rfl, ⟨xs, ht, bl⟩, hl, z0, x0, xm, ap, q⟩ := h
    refine ⟨_, (pss_cons (ps_if (PW.pt (pw_or (pt_not (pt_val (pe_call GI (hr.mono (by omega)) (by rfl) Z.gI Z.FI.kp Z.bI .nil pass0 (pa_cons (pv 1) pa_nil)))) (pw_or (pt_cmpR op_lt (pv 1) pe_int (nomark _)) (pw_or1 (pt_cmpR op_ne (pe_op op_mod (pv 1) (pv 2)) pe_int (nomark _))))))
 (pss_one (ps_ret pe_bl)) pss_nil)
 (pss_one (ps_ret (pe_callB (cr_all rfl) (by rfl) Z.N.all (by decide +kernel) (pa_cons (pe_lc (own := [("start", 3), ("taken", 4)]) (g := (gTup K 2 (gCons (gName 3) (gCons (gName 4) gNil)))) (tt := tYes) (by rfl) scMh.nd (pi_tup (pv 0)) (blkOk_by (N := scMhN) (sc := defScope scMhS) (by decide +kernel)) (fun _ _ _ _ _ => (pg_tup (by rfl) (pgs_cons (pg_name (i := 3) scMh.nd rfl (.inl rfl)) (pgs_cons (pg_name (i := 4) scMh.nd rfl (.inl rfl)) pgs_nil)))) (fun _ _ _ _ _ => pts_nil) (fun _ _ _ _ _ => (pe_or (pe_cmpR op_le (pe_op op_add (pv 3) (pv 4)) (pv 1) (nomark _)) (pe_one (pe_cmpR op_le (pe_op op_add (pv 1) (pv 2)) (pv 3) (nomark _)))))) pa_nil))))), ?_⟩
    refine ⟨.int x, rfl, x, rfl, _, rfl, ite2 (fun c => absurd c (by decide)) (fun _ => ?_)⟩
    refine ⟨.int x, rfl, _, _, rfl, rfl, _, rfl, ite2 (fun c => absurd (of_decide_eq_true c) (by omega)) (fun _ => ?_)⟩
    refine ⟨.int x, rfl, .int z, rfl, _, _, rfl, rfl, z0, rfl, _, rfl, ite2 (fun c => absurd c (by simp [xm])) (fun _ => ?_)⟩
    refine ⟨.ref t, rfl, t, rfl, ⟨_, .inl (.inl ht)⟩, fun D nD => ?_⟩
    refine lc_R (walk_tup (K := K) (a := t) (xs := xs)) (fun _ _ _ _ y => YAt.same y) (fun _ _ y => y = .bl true) (fun _ _ _ _ _ h => h) nD (by rw [bl.len]; exact Nat.lt_of_le_of_lt hl (by decide)) (fun H4 s4 => .inl (.inl (s4 _ _ ht))) (fun j y H4 H5 hj s4 yy Z hZ => ?_) (fun H4 zs s4 hE pr => ?_)
    · obtain ⟨rfl, hx⟩ := yy
      obtain ⟨b, hb, u, rfl, hu⟩ := BL.get bl hx
      refine ⟨u, _, rfl, .inl (.inl (s4 _ _ hu)), rfl, _, _, rfl, _, _, rfl, rfl, rfl, ?_⟩
      have ab := ap b (List.mem_of_getElem? hb)
      refine ⟨.int b.1, rfl, .int b.2, rfl, _, _, rfl, rfl, .int x, rfl, _, _, rfl, rfl, _, rfl, ite2 (fun _ => hZ _ _ (Same.refl _) rfl) (fun c => ?_)⟩
      have c' : ¬ (b.1 + b.2 ≤ x) := fun h => c (decide_eq_true h)
      refine ⟨.int x, rfl, .int z, rfl, _, _, rfl, rfl, .int b.1, rfl, _, _, rfl, rfl, hZ _ _ (Same.refl _) ?_⟩
      dsimp only
      rw [decide_eq_true (by omega)]
    · rw [paired_eq pr] at hE
      have allT : ((List.range xs.length).map fun _ => true).all id = true := by
        rw [List.all_map]
        exact List.all_eq_true.mpr fun _ _ => rfl
      refine ⟨D, (List.range xs.length).map fun _ => true, rfl, by rw [List.map_map]; exact .inl (.inl hE), ?_⟩
      rw [allT]
      exact q _ s4
def spIp : Sp := fun vs H Q _ => ∃ (c t : Addr) (C : List Int) (L m : Int) (bs : List Bk) (x z : Int), vs = [.ref c, .int m, .ref t, .int x, .int z] ∧ ChAt H c (C ++ [L]) ∧ 0 ≤ m ∧ m ≤ 100000 ∧ StAt H t bs ∧ bs.length ≤ 5000 ∧ 0 < z ∧ 0 ≤ x ∧ x % z = 0 ∧ (∀ b ∈ bs, b.1 + b.2 ≤ x ∨ x + z ≤ b.1) ∧ x + z ≤ m * L ∧ ∀ H', Same H H' → Q (.bl true) H'
theorem ok_Ip {k : Nat} (Z : Fns K mg) : FnOk P w K mg base CX0 (k + 1 + 1 + 1) Z.fIp Z.fdIp ["chain", "pages", "state", "address", "size"] spIp := by
  have GMh : FnOk P w K mg base CX0 (k + 1 + 1) Z.fMh Z.fdMh ["state", "address", "size"] spMh := ok_Mh Z
  refine Z.FIp.ok scIp (fun vs H Q E h => ?_) (fun cdv A outer s H vs Q E hr h => ?_)
  · obtain ⟨c, t, C, L, m, bs, x, z, rfl, _⟩ := h
    rfl
  · obtain ⟨c, t, C, L, m, bs, x, z, rfl, hc, m0, m1, ht, hl, z0, x0, xm, ap, xW, q⟩ := h
    refine ⟨_, (pss_one (ps_ret (pe_and (pe_call GMh (hr.mono (by omega)) (by rfl) Z.gMh Z.FMh.kp Z.bMh .nil pass0 (pa_cons (pv 2) (pa_cons (pv 3) (pa_cons (pv 4) pa_nil)))) (pe_one (pe_cmpR op_le (pe_op op_add (pv 3) (pv 4)) (pe_op op_mul (pv 1) (pe_ix ix_tup (pv 0) (pe_un un_neg pe_int) (fun _ _ => rfl))) (nomark _)))))), ?_⟩
    have gl : atI ((C ++ [L]).map V.int) (-1) = some (.int L) := by
      rw [List.map_append]
      exact atI_last _ _
    refine ⟨.ref t, rfl, .int x, rfl, .int z, rfl, t, bs, x, z, rfl, ht, hl, z0, x0, xm, ap, fun H1 s1 => ⟨_, rfl, ite2 (fun _ => ?_) (fun c => absurd rfl c)⟩⟩
    refine ⟨.int x, rfl, .int z, rfl, _, _, rfl, rfl, .int m, rfl, .ref c, rfl, 1, rfl, c, _, -1, _, rfl, rfl, (hc.keep s1).sq, gl, m, L, rfl, rfl, .inl ⟨by omega, by omega⟩, _, _, rfl, rfl, ?_⟩
    dsimp only
    rw [decide_eq_true xW]
    exact q _ s1
def spPt (C : Addr) : Sp := fun vs H Q _ => ∃ (h l c : Addr) (r : Str) (s : Nat → Nat) (p pg M : Nat) (bs : List Bk) (ss : List Tri) (x z : Int), vs = [.ref h, .int x, .int z] ∧ HrS C H h l c r s p pg M bs ss ∧ z ∈ tl s (p + 1) ∧ tot bs + z ≤ M ∧ bs.length ≤ 5000 ∧ ss.length ≤ 1000000 ∧ 0 < z ∧ pg ≤ 2000 ∧ 0 ≤ x ∧ x % z = 0 ∧ (∀ b ∈ bs, b.1 + b.2 ≤ x ∨ x + z ≤ b.1) ∧ x + z ≤ (pg : Int) * ((s p : Nat) : Int) ∧
  ∀ H' cs, Fr h l H H' → HrS C H' h l c r s p pg M cs (ss ++ [(("get" : Str), x, z)]) → cs.Perm (bs ++ [(x, z)]) → (cs.Pairwise fun x y => SrtO.lexB y x = false) → Q .non H'
theorem ok_Pt {k : Nat} (Z : Fns K mg) : FnOk P w K mg base CX0 (k + 1 + 1 + 1 + 1 + 1) Z.fPt Z.fdPt ["self", "address", "size"] (spPt Z.CHeap) := by
  have GHk : FnOk P w K mg base CX0 (k + 1 + 1 + 1 + 1) Z.fHk Z.fdHk ["self", "size"] (spHk Z.CHeap) := ok_Hk Z
  have GHe : FnOk P w K mg base CX0 (k + 1 + 1) Z.fHe Z.fdHe ["self", "address", "size"] (spHe Z.CHeap) := ok_He Z
  have GIp : FnOk P w K mg base CX0 (k + 1 + 1 + 1) Z.fIp Z.fdIp ["chain", "pages", "state", "address", "size"] spIp := ok_Ip Z
  refine Z.FPt.ok scPt (fun vs H Q E h => ?_) (fun cdv A outer s H vs Q E hr h => ?_)
  · obtain ⟨h, l, c, r, s, p, pg, M, bs, ss, x, z, rfl, _⟩ := h
    rfl
  · obtain ⟨h, l, c, r, sz, p, pg, M, bs, ss, x, z, rfl, hp, hz, hM, hl, hn, z0, g1, x0, xm, ap, xW, q⟩ := h
    refine ⟨_, (pss_cons (ps_expr (pe_meth (pv 0) Z.clHeap Z.mHk GHk (hr.mono (by omega)) Z.bHk .nil pass0 (pa_cons (pv 2) pa_nil)))
 (pss_cons (ps_if (pt_not (pt_val (pe_call GIp (hr.mono (by omega)) (by rfl) Z.gIp Z.FIp.kp Z.bIp .nil pass0 (pa_cons (pe_fld (pv 0) rfl) (pa_cons (pe_fld (pv 0) rfl) (pa_cons (pe_fld (pv 0) rfl) (pa_cons (pv 1) (pa_cons (pv 2) pa_nil))))))))
 (pss_one ps_never) pss_nil)
 (pss_one (ps_expr (pe_meth (pv 0) Z.clHeap Z.mHe GHe (hr.mono (by omega)) Z.bHe .nil pass0 (pa_cons (pv 1) (pa_cons (pv 2) pa_nil))))))), ?_⟩
    obtain ⟨dx, t, xs, a⟩ := id hp
    refine ⟨.ref h, rfl, h, dx, _, rfl, a.ob, rfl, .int z, rfl, h, l, c, r, sz, p, pg, M, bs, ss, z, rfl, hp, hz, hM, hl, fun H1 s1 => ?_⟩
    have hp1 := hp.same s1
    have ob1 := s1 _ _ a.ob
    have et : tl sz (p + 1) = tl sz p ++ [((sz p : Nat) : Int)] := tl_succ _ _
    have ch1 := a.ch.keep s1
    rw [et] at ch1
    refine ⟨.ref h, rfl, h, Z.CHeap, dx, _, _, rfl, ob1, Z.clHeap, Z.naHeap_chain, hr_chain, .ref h, rfl, h, Z.CHeap, dx, _, _, rfl, ob1, Z.clHeap, Z.naHeap_pages, hr_pages, .ref h, rfl, h, Z.CHeap, dx, _, _, rfl, ob1, Z.clHeap, Z.naHeap_blocks, hr_blocks, .int x, rfl, .int z, rfl, c, t, tl sz p, ((sz p : Nat) : Int), pg, bs, x, z, rfl, ch1, by omega, by omega, a.st.same s1, hl, z0, x0, xm, ap, xW, fun H2 s2 => ⟨_, rfl, ite2 (fun c => absurd c (by decide)) (fun _ => ?_)⟩⟩
    refine ⟨.ref h, rfl, h, dx, _, rfl, s2 _ _ ob1, rfl, .int x, rfl, .int z, rfl, h, l, c, r, sz, p, pg, M, bs, ss, x, z, rfl, hp1.same s2, hl, hn, fun H3 cs fr hp3 pm srt => ?_⟩
    exact q _ cs ((s1.trans s2).fr.trans fr) hp3 pm srt
end

section
variable {P : Program} {w : World} {K : PySem.W.Frag} {mg : Str → Option Value} {base : Heap}
end
end Ph

set_option maxHeartbeats 8000000
namespace Ph
open PySem PySem.Spec PyProof.Rows L2
theorem valV_any2 (kvs : List (Key × V)) (i : Int) : hasI kvs i = (valV kvs (Sum.inl i)).isSome := rfl
theorem any_rng {kvs : List (Key × V)} {se : Int} {cn : Nat} : ((List.range cn).map fun (j : Nat) => hasI kvs (se + (j : Int))).any id = true ↔ ∃ w : Int, se ≤ w ∧ w < se + cn ∧ hasI kvs w = true := by
  rw [List.any_eq_true]
  constructor
  · rintro ⟨b, hb, hb2⟩
    obtain ⟨j, hj, e3⟩ := List.mem_map.mp hb
    have := List.mem_range.mp hj
    exact ⟨se + j, by omega, by omega, by rw [e3]; exact hb2⟩
  · rintro ⟨w, w1, w2, w3⟩
    refine ⟨true, List.mem_map.mpr ⟨(w - se).toNat, List.mem_range.mpr (by omega), ?_⟩, rfl⟩
    rw [show se + (((w - se).toNat : Nat) : Int) = w by omega]
    exact w3
/-- the words of some blocks, as the keys of a dict -/
def Wds (kvs : List (Key × V)) (bs : List Bk) : Prop := ∀ w : Int, hasI kvs w = true ↔ ∃ b ∈ bs, b.1 ≤ w ∧ w < b.1 + b.2
theorem wds_add {kvs : List (Key × V)} {bs : List Bk} {se : Int} {cn : Nat} (h : Wds kvs bs) : Wds (mergeK kvs (mergeK [] ((List.range cn).map fun (j : Nat) => ((Sum.inl (se + (j : Int)) : Key), V.bl true)))) (bs ++ [(se, (cn : Int))]) := fun w => by
  rw [hasI_merge, Bool.or_eq_true, h w, valV_any, ← hasI, hasI_merge, Bool.or_eq_true]
  constructor
  · rintro (⟨b, hb, h1⟩ | h1)
    · exact ⟨b, List.mem_append_left _ hb, h1⟩
    · refine ⟨(se, cn), List.mem_append_right _ (List.mem_singleton.mpr rfl), ?_⟩
      rcases h1 with h1 | h1
      · exact absurd h1 (by simp [hasI, valV])
      · obtain ⟨kv, hkv, e⟩ := List.any_eq_true.mp h1
        obtain ⟨j, hj, rfl⟩ := List.mem_map.mp hkv
        have e2 := of_decide_eq_true e
        have := List.mem_range.mp hj
        dsimp only at e2
        injection e2 with e2
        exact ⟨by dsimp only; omega, by dsimp only; omega⟩
  · rintro ⟨b, hb, h1, h2⟩
    rcases List.mem_append.mp hb with z | z
    · exact .inl ⟨b, z, h1, h2⟩
    · rw [List.mem_singleton.mp z] at h1 h2
      dsimp only at h1 h2
      refine .inr (.inr (List.any_eq_true.mpr ⟨(Sum.inl (se + (((w - se).toNat : Nat) : Int)), V.bl true), List.mem_map.mpr ⟨(w - se).toNat, List.mem_range.mpr (by omega), rfl⟩, decide_eq_true ?_⟩))
      dsimp only
      congr 1
      omega
theorem SqA.same {K : PySem.W.Frag} {H H' : Hp} {a : Addr} {xs : List V} (h : SqA K H a xs) (s : Same H H') : SqA K H' a xs := h.elim (fun z => .inl (s.seq z)) fun z => .inr (s.tup z)
theorem But.sqA {K : PySem.W.Frag} {H H' : Hp} {a d : Addr} {ys : List V} {kvs : List (Key × V)} (b : But d H H') (e : H d = some (.dK kvs)) : (SqL K H a ys → SqL K H' a ys) ∧ (SqT K H a ys → SqT K H' a ys) := by
  refine ⟨fun h => ?_, fun h => ?_⟩
  · rcases h with (z | ⟨o, z⟩) | z
    · exact .inl (.inl (b _ _ (ne_of z e (by intro y; cases y)) z))
    · exact .inl (.inr ⟨o, b _ _ (ne_of z e (by intro y; cases y)) z⟩)
    · exact .inr z
  · rcases h with (z | ⟨o, z⟩) | z
    · exact .inl (.inl (b _ _ (ne_of z e (by intro y; cases y)) z))
    · exact .inl (.inr ⟨o, b _ _ (ne_of z e (by intro y; cases y)) z⟩)
    · exact .inr z
section
variable {P : Program} {w : World} {K : PySem.W.Frag} {mg : Str → Option Value} {base : Heap}
/-- all that a place is, but for the smaller ones -/
structure Spot (z : Int) (bs : List Bk) (W x : Int) : Prop where
  mod : x % z = 0
  pos : 0 ≤ x
  fit : x + z ≤ W
  free : ∀ b ∈ bs, x + z ≤ b.1 ∨ b.1 + b.2 ≤ x
end
theorem tot_nonneg : ∀ {bs : List Bk}, (∀ b ∈ bs, 0 ≤ b.2) → 0 ≤ tot bs
  | [], _ => Int.le_refl _
  | b :: r, h => by
    have h1 := h b (List.mem_cons_self ..)
    have ih := tot_nonneg (bs := r) fun c hc => h c (List.mem_cons_of_mem _ hc)
    unfold tot at *
    rw [List.map_cons, List.sum_cons]
    omega
end Ph

set_option maxHeartbeats 8000000
namespace Ph
open PySem PySem.Spec PyProof.Rows L2
theorem op_neDK {X : Cx} {K : PySem.W.Frag} (e : X.K = K) (hu : X.A.units + 64 < cLine) : OpR X (compareOp .NotEq) (rNeD K) := by
  subst e
  exact op_neD hu
theorem seq_splitR {t u : TS} {D : Ends} {σ : L2.St} {H : Hp} (R : L2.St → Hp → Prop) (h1 : ∀ D' : Ends, D'.rt = D.rt → (∀ σ' H', R σ' H' → D'.nx σ' H') → t D' σ H) (h2 : ∀ σ' H', R σ' H' → u D σ' H') : tSeq t u D σ H := h1 _ rfl h2
theorem BL.all' {H : Hp} {xs : List V} {bs : List Bk} (h : BL H xs bs) {x : V} (hx : x ∈ xs) : ∃ b ∈ bs, BkAt H x b := by
  induction h with
  | nil => cases hx
  | cons r _ ih =>
    rcases List.mem_cons.mp hx with z | z
    · rw [z]; exact ⟨_, List.mem_cons_self .., r⟩
    · obtain ⟨b, hb, h2⟩ := ih z
      exact ⟨b, List.mem_cons_of_mem _ hb, h2⟩
theorem eqv_nilL (ns : List Int) : PyData.eqv (.list (ns.map PyData.int)) (.list []) = ns.isEmpty := by
  cases ns with
  | nil => simp [PyData.eqv, PyData.eqvAll]
  | cons n r => simp [PyData.eqv, PyData.eqvAll]
section
variable {P : Program} {w : World} {K : PySem.W.Frag} {mg : Str → Option Value} {base : Heap}
end
end Ph

set_option maxHeartbeats 8000000
namespace Ph
open PySem PySem.Spec PyProof.Rows L2
/-- a heap of any rule and its history -/
structure GX (C : Addr) (H : Hp) (h l c : Addr) (r : Str) (s : Nat → Nat) (p pg M : Nat) (bs : List Bk) (ss : List Tri) : Prop where
  hp : HrS C H h l c r s p pg M bs ss
  hw : Hw s p ((pg : Int) * ((s p : Nat) : Int)) M ss.reverse bs
theorem GX.ext {C : Addr} {H H' : Hp} {h l c : Addr} {r : Str} {s : Nat → Nat} {p pg M : Nat} {bs : List Bk} {ss : List Tri} (g : GX C H h l c r s p pg M bs ss) (x : LamX.ExtN H H') : GX C H' h l c r s p pg M bs ss := ⟨g.hp.ext x, g.hw⟩
theorem GX.same {C : Addr} {H H' : Hp} {h l c : Addr} {r : Str} {s : Nat → Nat} {p pg M : Nat} {bs : List Bk} {ss : List Tri} (g : GX C H h l c r s p pg M bs ss) (x : Same H H') : GX C H' h l c r s p pg M bs ss := ⟨g.hp.same x, g.hw⟩
theorem frN_of {h l : Addr} {H H' : Hp} (f : Fr h l H H') : FrN h l H H' := fun b o n1 n2 e _ => f b o n1 n2 e
theorem GX.bnds {C : Addr} {H : Hp} {h l c : Addr} {r : Str} {s : Nat → Nat} {p pg M : Nat} {bs : List Bk} {ss : List Tri} (g : GX C H h l c r s p pg M bs ss) (ch : CH s (p + 1)) : St (tl s (p + 1)) ((pg : Int) * ((s p : Nat) : Int)) bs ∧ bs.length ≤ M ∧ tot bs ≤ M := ⟨g.hw.st ch, g.hw.len ch, g.hw.tot ch⟩
theorem Spot.spt {z W x : Int} {bs : List Bk} (s : Spot z bs W x) : Spt z bs W x := ⟨s.mod, s.pos, s.fit, s.free⟩
theorem GX.put {C : Addr} {H H' : Hp} {h l c : Addr} {r : Str} {s : Nat → Nat} {p pg M : Nat} {bs cs : List Bk} {ss : List Tri} {j : Nat} {x : Int} (g : GX C H h l c r s p pg M bs ss) (hj : j ≤ p) (lim : tot bs + ((s j : Nat) : Int) ≤ M) (sp : Spt ((s j : Nat) : Int) bs ((pg : Int) * ((s p : Nat) : Int)) x) (hp : HrS C H' h l c r s p pg M cs (ss ++ [(("get" : Str), x, ((s j : Nat) : Int))])) (pm : cs.Perm (bs ++ [(x, ((s j : Nat) : Int))])) (srt : cs.Pairwise fun x y => SrtO.lexB y x = false) :
    GX C H' h l c r s p pg M cs (ss ++ [(("get" : Str), x, ((s j : Nat) : Int))]) := ⟨hp, by
  rw [List.reverse_append]
  exact .get g.hw hj lim sp pm srt⟩
theorem GX.free {C : Addr} {H H' : Hp} {h l c : Addr} {r : Str} {s : Nat → Nat} {p pg M : Nat} {bs : List Bk} {ss : List Tri} {e : Bk} (ch : CH s (p + 1)) (g : GX C H h l c r s p pg M bs ss) (he : e ∈ bs) (hp : HrS C H' h l c r s p pg M (bs.filter fun b => decide (b.1 ≠ e.1)) (ss ++ [(("free" : Str), e.1, tot bs - tot (bs.filter fun b => decide (b.1 ≠ e.1)))])) :
    GX C H' h l c r s p pg M (bs.filter fun b => decide (b.1 ≠ e.1)) (ss ++ [(("free" : Str), e.1, e.2)]) := by
  have e1 : tot bs - tot (bs.filter fun b => decide (b.1 ≠ e.1)) = e.2 := HW.tt_filt (g.hw.st ch) he
  rw [e1] at hp
  refine ⟨hp, ?_⟩
  rw [List.reverse_append]
  exact .free g.hw he
section
variable {P : Program} {w : World} {K : PySem.W.Frag} {mg : Str → Option Value} {base : Heap}
end
end Ph

set_option maxHeartbeats 8000000
namespace Ph
open PySem PySem.Spec PyProof.Rows L2
def ApB (x z : Int) (b : Bk) : Bool := decide (b.1 + b.2 ≤ x) || decide (x + z ≤ b.1)
theorem spot_iff {z W x : Int} {bs : List Bk} (x0 : 0 ≤ x) : ((decide (x % z = 0) && bs.all (ApB x z)) && decide (x + z ≤ W)) = true ↔ Spot z bs W x := by
  unfold ApB
  constructor
  · intro h
    simp only [Bool.and_eq_true, decide_eq_true_eq, List.all_eq_true, Bool.or_eq_true] at h
    obtain ⟨⟨h1, h2⟩, h3⟩ := h
    exact ⟨h1, x0, h3, fun b hb => (h2 b hb).symm⟩
  · intro h
    simp only [Bool.and_eq_true, decide_eq_true_eq, List.all_eq_true, Bool.or_eq_true]
    exact ⟨⟨h.mod, fun b hb => (h.free b hb).symm⟩, h.fit⟩

section
variable {P : Program} {w : World} {K : PySem.W.Frag} {mg : Str → Option Value} {base : Heap}
theorem ok_Si {k : Nat} (Z : Fns K mg) : FnOk P w K mg base CX0 (k + 1) Z.fSi Z.fdSi ["self", "size"] (spEi Z.CBadSize "size") := by
  refine Z.FSi.ok scSi (fun vs H Q E h => ?_) (fun cdv A outer s H vs Q E hr h => ?_)
  · obtain ⟨a, x, rfl, _⟩ := h
    rfl
  · obtain ⟨a, x, rfl, ha, q⟩ := h
    refine ⟨_, (pss_one (ps_ost (pv 0) (pv 1) rfl)), ?_⟩
    exact ⟨x, rfl, .ref a, rfl, a, Z.CBadSize, rfl, Z.oxBadSize, Z.nfBadSize_size, .inl ⟨ha, q⟩⟩
theorem ok_Oi {k : Nat} (Z : Fns K mg) : FnOk P w K mg base CX0 (k + 1) Z.fOi Z.fdOi ["self", "size"] (spEi Z.COverLimit "size") := by
  refine Z.FOi.ok scOi (fun vs H Q E h => ?_) (fun cdv A outer s H vs Q E hr h => ?_)
  · obtain ⟨a, x, rfl, _⟩ := h
    rfl
  · obtain ⟨a, x, rfl, ha, q⟩ := h
    refine ⟨_, (pss_one (ps_ost (pv 0) (pv 1) rfl)), ?_⟩
    exact ⟨x, rfl, .ref a, rfl, a, Z.COverLimit, rfl, Z.oxOverLimit, Z.nfOverLimit_size, .inl ⟨ha, q⟩⟩
theorem ok_Bi {k : Nat} (Z : Fns K mg) : FnOk P w K mg base CX0 (k + 1) Z.fBi Z.fdBi ["self", "address"] (spEi Z.CBadPlace "address") := by
  refine Z.FBi.ok scBi (fun vs H Q E h => ?_) (fun cdv A outer s H vs Q E hr h => ?_)
  · obtain ⟨a, x, rfl, _⟩ := h
    rfl
  · obtain ⟨a, x, rfl, ha, q⟩ := h
    refine ⟨_, (pss_one (ps_ost (pv 0) (pv 1) rfl)), ?_⟩
    exact ⟨x, rfl, .ref a, rfl, a, Z.CBadPlace, rfl, Z.oxBadPlace, Z.nfBadPlace_address, .inl ⟨ha, q⟩⟩
theorem ok_Bn {k : Nat} (Z : Fns K mg) : FnOk P w K mg base CX0 (k + 1) Z.fBn Z.fdBn ["self", "address"] (spEi Z.CNoBlock "address") := by
  refine Z.FBn.ok scBn (fun vs H Q E h => ?_) (fun cdv A outer s H vs Q E hr h => ?_)
  · obtain ⟨a, x, rfl, _⟩ := h
    rfl
  · obtain ⟨a, x, rfl, ha, q⟩ := h
    refine ⟨_, (pss_one (ps_ost (pv 0) (pv 1) rfl)), ?_⟩
    exact ⟨x, rfl, .ref a, rfl, a, Z.CNoBlock, rfl, Z.oxNoBlock, Z.nfNoBlock_address, .inl ⟨ha, q⟩⟩
theorem ok_I2 {k : Nat} (Z : Fns K mg) : FnOk P w K mg base CX0 (k + 1) Z.fI Z.fdI ["value"] (spI2 K) := by
  refine Z.FI.ok scI (fun vs H Q E h => ?_) (fun cdv A outer s H vs Q E hr h => ?_)
  · obtain ⟨x, rfl, _⟩ := h
    rfl
  · obtain ⟨x, rfl, h⟩ := h
    refine ⟨_, (pss_one (ps_ret (pe_and (pe_callB call_isi (by rfl) Z.N.isinstance (by decide +kernel) (pa_cons (pv 0) (pa_cons (pe_bltn (v := .ty "int") (by rfl) Z.N.int (by decide +kernel) rfl) pa_nil))) (pe_one (pe_not (pe_callB call_isi (by rfl) Z.N.isinstance (by decide +kernel) (pa_cons (pv 0) (pa_cons (pe_bltn (v := .ty "bool") (by rfl) Z.N.bool (by decide +kernel) rfl) pa_nil)))))))), ?_⟩
    rcases h with ⟨i, rfl, q⟩ | ⟨n, q⟩
    · refine ⟨.int i, rfl, .int i, .ty "int", .type "int", .type "int", true, rfl, .ty _, .base (.int _), kit_ty (by decide +kernel), _, rfl, ite2 (fun _ => ?_) (fun c => absurd rfl c)⟩
      exact ⟨.int i, rfl, .int i, .ty "bool", .type "int", .type "bool", false, rfl, .ty _, .base (.int _), kit_ty (by decide +kernel), _, rfl, q⟩
    cases n with
    | bl b =>
      refine ⟨.bl b, rfl, .bl b, .ty "int", .type "bool", .type "int", true, rfl, .ty _, .base (.bl _), kit_ty (by decide +kernel), _, rfl, ite2 (fun _ => ?_) (fun c => absurd rfl c)⟩
      exact ⟨.bl b, rfl, .bl b, .ty "bool", .type "bool", .type "bool", true, rfl, .ty _, .base (.bl _), kit_ty (by decide +kernel), _, rfl, q⟩
    | @ty _ t h n =>
      exact ⟨x, rfl, x, .ty "int", .type t, .type "int", false, rfl, .ty _, h, kit_ty n, _, rfl, ite2 (fun c => absurd c (by decide)) (fun _ => q)⟩
/-- a size of the chain, or not -/
def spZ2 (K : PySem.W.Frag) : Sp := fun vs H Q _ => ∃ (c : Addr) (C : List Int) (x : V), vs = [.ref c, x] ∧ SqT K H c (C.map V.int) ∧ ((∃ i : Int, x = .int i ∧ Q (.bl (decide (i ∈ C))) H) ∨ (NoInt K H x ∧ Q (.bl false) H))
theorem ok_Z2 {k : Nat} (Z : Fns K mg) : FnOk P w K mg base CX0 (k + 1 + 1) Z.fZ Z.fdZ ["chain", "value"] (spZ2 K) := by
  have GI : FnOk P w K mg base CX0 (k + 1) Z.fI Z.fdI ["value"] (spI2 K) := ok_I2 Z
  refine Z.FZ.ok scZ (fun vs H Q E h => ?_) (fun cdv A outer s H vs Q E hr h => ?_)
  · obtain ⟨c, C, x, rfl, _⟩ := h
    rfl
  · obtain ⟨c, C, x, rfl, hc, h⟩ := h
    refine ⟨_, (pss_one (ps_ret (pe_and (pe_call GI (hr.mono (by omega)) (by rfl) Z.gI Z.FI.kp Z.bI .nil pass0 (pa_cons (pv 1) pa_nil)) (pe_one (pe_cmpR op_in_seq (pv 1) (pv 0) (by rfl)))))), ?_⟩
    rcases h with ⟨z, rfl, q⟩ | ⟨n, q⟩
    · refine ⟨.int z, rfl, .int z, rfl, .inl ⟨z, rfl, _, rfl, ite2 (fun _ => ?_) (fun c => absurd rfl c)⟩⟩
      refine ⟨.int z, rfl, .ref c, rfl, c, _, rfl, .inr hc, rfl, flat_ints C, ?_⟩
      have e : (if false = true then !inV (.int z) (C.map V.int) else inV (.int z) (C.map V.int)) = decide (z ∈ C) := by
        rw [if_neg Bool.false_ne_true, in_intsL]
      rw [e]
      exact q
    · exact ⟨x, rfl, x, rfl, .inr ⟨n, _, rfl, ite2 (fun c => absurd c (by decide)) (fun _ => q)⟩⟩
/-- class_of: the class, or BadSize -/
def spCX (K : PySem.W.Frag) (CB : Addr) : Sp := fun vs H Q E => ∃ (c : Addr) (C : List Int) (x : V), vs = [.ref c, x] ∧ ChAt H c C ∧
  ((∃ (i : Int) (j : Nat), x = .int i ∧ C[j]? = some i ∧ (∀ m, m < j → C[m]? ≠ some i) ∧ Q (.int j) H) ∨ ((NoInt K H x ∨ ∃ i : Int, x = .int i ∧ i ∉ C) ∧ ErrX CB "size" x H E))
theorem okX_C {k : Nat} (Z : Fns K mg) : FnOk P w K mg base (L2.CX P w) (k + 1 + 1 + 1) Z.fC Z.fdC ["chain", "size"] (spCX K Z.CBadSize) := by
  have GZ : FnOk P w K mg base CX0 (k + 1 + 1) Z.fZ Z.fdZ ["chain", "value"] (spZ2 K) := ok_Z2 Z
  have GSi : FnOk P w K mg base CX0 (k + 1) Z.fSi Z.fdSi ["self", "size"] (spEi Z.CBadSize "size") := ok_Si Z
  refine Z.FC.okX scC (fun vs H Q E h => ?_) (fun cdv A outer s H vs Q E hr h => ?_)
  · obtain ⟨c, C, x, rfl, _⟩ := h
    rfl
  · obtain ⟨c, C, x, rfl, hc, h⟩ := h
    refine ⟨_, (pss_cons (ps_if (pt_not (pt_val (pe_call GZ (hr.mono (by omega)) (by rfl) Z.gZ Z.FZ.kp Z.bZ .nil pass0 (pa_cons (pv 0) (pa_cons (pv 1) pa_nil)))))
 (pss_one (ps_raise rfl (takes_of rfl rfl rfl rfl) (pmk_oex Z.oxBadSize Z.iSi Z.tSi GSi (hr.mono (by omega)) Z.bSi .nil pass0 (by rfl) Z.gcBadSize (pa_cons (pv 1) pa_nil)))) pss_nil)
 (pss_one (ps_ret (pe_bmT PySem.F.slot_tuple_index PySem.F.type_tuple_index mt_tindexI (pv 0) (pa_cons (pv 1) pa_nil))))), ?_⟩
    rcases h with ⟨i, j, rfl, h1, h2, q⟩ | ⟨n, q⟩
    · refine ⟨.ref c, rfl, .int i, rfl, c, C, .int i, rfl, hc.sq, .inl ⟨i, rfl, _, rfl, ite2 (fun c => absurd c ?_) (fun _ => ?_)⟩⟩
      · simp [List.mem_of_getElem? h1]
      · exact ⟨.ref c, rfl, ⟨c, C, rfl, hc⟩, .int i, rfl, c, C, i, j, rfl, rfl, hc.sq, h1, h2, q⟩
    · rcases n with n | ⟨i, rfl, ni⟩
      · refine ⟨.ref c, rfl, x, rfl, c, C, x, rfl, hc.sq, .inr ⟨n, _, rfl, ite2 (fun _ => ?_) (fun c => absurd rfl c)⟩⟩
        exact ⟨x, rfl, (by show 1 ≤ 1000; decide), fun a0 na => ei_out q a0 na⟩
      · refine ⟨.ref c, rfl, .int i, rfl, c, C, .int i, rfl, hc.sq, .inl ⟨i, rfl, _, rfl, ite2 (fun _ => ?_) (fun c => absurd (by simp [ni]) c)⟩⟩
        exact ⟨.int i, rfl, (by show 1 ≤ 1000; decide), fun a0 na => ei_out q a0 na⟩
def spHb2 (K : PySem.W.Frag) : Sp := fun vs H Q _ => ∃ (t : Addr) (bs : List Bk) (x : V), vs = [.ref t, x] ∧ StAt H t bs ∧ bs.length ≤ 5000 ∧ ((∃ a : Int, x = .int a ∧ (¬ ∃ b ∈ bs, b.1 = a) ∧ ∀ H', Same H H' → Q (.bl false) H') ∨ (NoInt K H x ∧ Q (.bl false) H))
theorem ok_Hb2 {k : Nat} (Z : Fns K mg) : FnOk P w K mg base CX0 (k + 1 + 1) Z.fHb Z.fdHb ["state", "value"] (spHb2 K) := by
  have GI : FnOk P w K mg base CX0 (k + 1) Z.fI Z.fdI ["value"] (spI2 K) := ok_I2 Z
  refine Z.FHb.ok scHb (fun vs H Q E h => ?_) (fun cdv A outer s H vs Q E hr h => ?_)
  · obtain ⟨t, bs, x, rfl, _⟩ := h
    rfl
  · obtain ⟨t, bs, x, rfl, ⟨xs, ht, bl⟩, hl, h⟩ := h
    refine ⟨_, (pss_one (ps_ret (pe_and (pe_call GI (hr.mono (by omega)) (by rfl) Z.gI Z.FI.kp Z.bI .nil pass0 (pa_cons (pv 1) pa_nil)) (pe_one (pe_cmpR op_in_seq (pv 1) (pe_lc (own := [("address", 2), ("size", 3)]) (g := (gTup K 2 (gCons (gName 2) (gCons (gName 3) gNil)))) (tt := tYes) (by rfl) scHb.nd (pi_tup (pv 0)) (blkOk_by (N := scHbN) (sc := defScope scHbS) (by decide +kernel)) (fun _ _ _ _ _ => (pg_tup (by rfl) (pgs_cons (pg_name (i := 2) scHb.nd rfl (.inl rfl)) (pgs_cons (pg_name (i := 3) scHb.nd rfl (.inl rfl)) pgs_nil)))) (fun _ _ _ _ _ => pts_nil) (fun _ _ _ _ _ => (pv 2))) (by rfl)))))), ?_⟩
    rcases h with ⟨a, rfl, nx, q⟩ | ⟨n, q⟩
    · refine ⟨.int a, rfl, .int a, rfl, .inl ⟨a, rfl, _, rfl, ite2 (fun _ => ?_) (fun c => absurd rfl c)⟩⟩
      refine ⟨.int a, rfl, .ref t, rfl, t, rfl, ⟨_, .inl (.inl ht)⟩, fun D nD => ?_⟩
      refine lc_tpF (K := K) (fun x => V.int (kH H x).1) (.inl (.inl ht)) nD (by rw [bl.len]; exact Nat.lt_of_le_of_lt hl (by decide)) (fun x hx H2 sm Y hY => ?_) (fun H2 sm hD => ?_)
      · obtain ⟨b, hb⟩ := bl.all x hx
        have e := hb.k
        obtain ⟨u, rfl, hu⟩ := hb
        rw [e] at hY
        exact ⟨u, _, rfl, .inl (.inl (sm _ _ hu)), rfl, _, _, rfl, _, _, rfl, rfl, rfl, .int b.1, rfl, hY _ (Same.refl _)⟩
      · have e1 : xs.map (fun x => V.int (kH H x).1) = (bs.map fun b => b.1).map V.int := by
          rw [← bl.map, List.map_map, List.map_map]
          rfl
        rw [e1] at hD
        refine ⟨D, _, rfl, .inl (.inl (.inl hD)), rfl, flat_ints _, ?_⟩
        have e : (if false = true then !inV (.int a) ((bs.map fun b => b.1).map V.int) else inV (.int a) ((bs.map fun b => b.1).map V.int)) = false := by
          rw [if_neg Bool.false_ne_true, in_intsL]
          exact decide_eq_false fun z => by
            obtain ⟨b, hb, eb⟩ := List.mem_map.mp z
            exact nx ⟨b, hb, eb⟩
        rw [e]
        exact q _ sm
    · exact ⟨x, rfl, x, rfl, .inr ⟨n, _, rfl, ite2 (fun c => absurd c (by decide)) (fun _ => q)⟩⟩
/-- no block at x -/
def BadB (K : PySem.W.Frag) (H : Hp) (bs : List Bk) (x : V) : Prop := NoInt K H x ∨ ∃ a : Int, x = .int a ∧ ¬ ∃ b ∈ bs, b.1 = a
def spObX (K : PySem.W.Frag) (CB : Addr) : Sp := fun vs H _ E => ∃ (t : Addr) (bs : List Bk) (x : V), vs = [.ref t, x] ∧ StAt H t bs ∧ bs.length ≤ 5000 ∧ BadB K H bs x ∧ ErrX CB "address" x H E
theorem okX_Ob {k : Nat} (Z : Fns K mg) : FnOk P w K mg base (L2.CX P w) (k + 1 + 1 + 1) Z.fOb Z.fdOb ["state", "address"] (spObX K Z.CNoBlock) := by
  have GHb : FnOk P w K mg base CX0 (k + 1 + 1) Z.fHb Z.fdHb ["state", "value"] (spHb2 K) := ok_Hb2 Z
  have GBn : FnOk P w K mg base CX0 (k + 1) Z.fBn Z.fdBn ["self", "address"] (spEi Z.CNoBlock "address") := ok_Bn Z
  refine Z.FOb.okX scOb (fun vs H Q E h => ?_) (fun cdv A outer s H vs Q E hr h => ?_)
  · obtain ⟨t, bs, x, rfl, _⟩ := h
    rfl
  · obtain ⟨t, bs, x, rfl, st, hl, bad, q⟩ := h
    refine ⟨_, (pss_cons (ps_if (pt_not (pt_val (pe_call GHb (hr.mono (by omega)) (by rfl) Z.gHb Z.FHb.kp Z.bHb .nil pass0 (pa_cons (pv 0) (pa_cons (pv 1) pa_nil)))))
 (pss_one (ps_raise rfl (takes_of rfl rfl rfl rfl) (pmk_oex Z.oxNoBlock Z.iBn Z.tBn GBn (hr.mono (by omega)) Z.bBn .nil pass0 (by rfl) Z.gcNoBlock (pa_cons (pv 1) pa_nil)))) pss_nil)
 (pss_one (ps_ret (pe_callTy call_tuple_of (by rfl) Z.N.tuple (by decide +kernel) (pa_cons (pe_lc (own := [("block", 2)]) (g := (gName 2)) (by rfl) scOb.nd (pi_tup (pv 0)) (blkOk_by (N := scObN) (sc := defScope scObS) (by decide +kernel)) (fun _ _ _ _ _ => (pg_name (i := 2) scOb.nd rfl (.inl rfl))) (fun _ _ _ _ _ => (pts_one (pt_cmpR op_ne (pe_ix (r := rIxT K) ix_tup (pv 2) pe_int (fun _ _ => rfl)) (pv 1) (nomark _)))) (fun _ _ _ _ _ => (pv 2))) pa_nil))))), ?_⟩
    have go : ∀ H', Same H H' → True := fun _ _ => trivial
    rcases bad with n | ⟨a, rfl, nx⟩
    · refine ⟨.ref t, rfl, x, rfl, t, bs, x, rfl, st, hl, .inr ⟨n, _, rfl, ite2 (fun _ => ?_) (fun c => absurd rfl c)⟩⟩
      exact ⟨x, rfl, (by show 1 ≤ 1000; decide), fun a0 na => ei_out q a0 na⟩
    · refine ⟨.ref t, rfl, .int a, rfl, t, bs, .int a, rfl, st, hl, .inl ⟨a, rfl, nx, fun H1 s1 => ⟨_, rfl, ite2 (fun _ => ?_) (fun c => absurd rfl c)⟩⟩⟩
      exact ⟨.int a, rfl, (by show 1 ≤ 1000; decide), fun a0 na => ei_out (q.from s1) a0 na⟩

/-- may_hold of any value -/
def MayA (bs : List Bk) (z : Int) (x : V) : Prop := ∃ a : Int, x = .int a ∧ 0 ≤ a ∧ (decide (a % z = 0) && bs.all (ApB a z)) = true
def spMh3 (K : PySem.W.Frag) : Sp := fun vs H Q _ => ∃ (t : Addr) (bs : List Bk) (x : V) (z : Int), vs = [.ref t, x, .int z] ∧ StAt H t bs ∧ bs.length ≤ 5000 ∧ 0 < z ∧ (NoInt K H x ∨ ∃ a : Int, x = .int a) ∧ ∀ H' b, Same H H' → (b = true ↔ MayA bs z x) → Q (.bl b) H'
theorem ok_Mh3 {k : Nat} (Z : Fns K mg) : FnOk P w K mg base CX0 (k + 1 + 1) Z.fMh Z.fdMh ["state", "address", "size"] (spMh3 K) := by
  have GI : FnOk P w K mg base CX0 (k + 1) Z.fI Z.fdI ["value"] (spI2 K) := ok_I2 Z
  refine Z.FMh.ok scMh (fun vs H Q E h => ?_) (fun cdv A outer s H vs Q E hr h => ?_)
  · obtain ⟨t, bs, x, z, rfl, _⟩ := h
    rfl
  · obtain ⟨t, bs, x, z, rfl, ⟨xs, ht, bl⟩, hl, z0, kind, q⟩ := h
    refine ⟨_, (pss_cons (ps_if (PW.pt (pw_or (pt_not (pt_val (pe_call GI (hr.mono (by omega)) (by rfl) Z.gI Z.FI.kp Z.bI .nil pass0 (pa_cons (pv 1) pa_nil)))) (pw_or (pt_cmpR op_lt (pv 1) pe_int (nomark _)) (pw_or1 (pt_cmpR op_ne (pe_op op_mod (pv 1) (pv 2)) pe_int (nomark _))))))
 (pss_one (ps_ret pe_bl)) pss_nil)
 (pss_one (ps_ret (pe_callB (cr_all rfl) (by rfl) Z.N.all (by decide +kernel) (pa_cons (pe_lc (own := [("start", 3), ("taken", 4)]) (g := (gTup K 2 (gCons (gName 3) (gCons (gName 4) gNil)))) (tt := tYes) (by rfl) scMh.nd (pi_tup (pv 0)) (blkOk_by (N := scMhN) (sc := defScope scMhS) (by decide +kernel)) (fun _ _ _ _ _ => (pg_tup (by rfl) (pgs_cons (pg_name (i := 3) scMh.nd rfl (.inl rfl)) (pgs_cons (pg_name (i := 4) scMh.nd rfl (.inl rfl)) pgs_nil)))) (fun _ _ _ _ _ => pts_nil) (fun _ _ _ _ _ => (pe_or (pe_cmpR op_le (pe_op op_add (pv 3) (pv 4)) (pv 1) (nomark _)) (pe_one (pe_cmpR op_le (pe_op op_add (pv 1) (pv 2)) (pv 3) (nomark _)))))) pa_nil))))), ?_⟩
    rcases kind with n | ⟨x, rfl⟩
    · refine ⟨x, rfl, x, rfl, .inr ⟨n, _, rfl, ite2 (fun _ => q _ _ (Same.refl _) ⟨(fun z => nomatch z), fun ⟨a, e, _⟩ => by rw [e] at n; exact absurd n NoInt.ne⟩) (fun c => absurd rfl c)⟩⟩
    refine ⟨.int x, rfl, .int x, rfl, .inl ⟨x, rfl, _, rfl, ite2 (fun c => absurd c (by decide)) (fun _ => ?_)⟩⟩
    refine ⟨.int x, rfl, _, _, rfl, rfl, _, rfl, ite2 (fun c => ?_) (fun c0 => ?_)⟩
    · have lt := of_decide_eq_true c
      exact q _ _ (Same.refl _) ⟨(fun z => nomatch z), fun ⟨a, e, a0, _⟩ => by cases e; omega⟩
    have x0 : 0 ≤ x := by
      have := of_decide_eq_false (by simpa using c0 : decide (x < 0) = false)
      omega
    refine ⟨.int x, rfl, .int z, rfl, _, _, rfl, rfl, z0, rfl, _, rfl, ite2 (fun c => ?_) (fun c => ?_)⟩
    · have ne : x % z ≠ 0 := by simpa using c
      exact q _ _ (Same.refl _) ⟨(fun z => nomatch z), fun ⟨a, e, a0, h⟩ => by
        cases e
        rw [decide_eq_false ne] at h
        cases h⟩
    have xm : x % z = 0 := by simpa using c
    refine ⟨.ref t, rfl, t, rfl, ⟨_, .inl (.inl ht)⟩, fun D nD => ?_⟩
    refine lc_tpF (K := K) (fun y => V.bl (ApB x z (kH H y))) (.inl (.inl ht)) nD (by rw [bl.len]; exact Nat.lt_of_le_of_lt hl (by decide)) (fun y hy H2 sm Y hY => ?_) (fun H2 sm hD => ?_)
    · obtain ⟨b, hb⟩ := bl.all y hy
      have e := hb.k
      obtain ⟨u, rfl, hu⟩ := hb
      rw [e] at hY
      refine ⟨u, _, rfl, .inl (.inl (sm _ _ hu)), rfl, _, _, rfl, _, _, rfl, rfl, rfl, ?_⟩
      refine ⟨.int b.1, rfl, .int b.2, rfl, _, _, rfl, rfl, .int x, rfl, _, _, rfl, rfl, _, rfl, ite2 (fun c => ?_) (fun c => ?_)⟩
      · have : ApB x z b = true := by unfold ApB; rw [show decide (b.1 + b.2 ≤ x) = true from c]; rfl
        rw [this] at hY
        exact hY _ (Same.refl _)
      · have c' : decide (b.1 + b.2 ≤ x) = false := by
          cases e : decide (b.1 + b.2 ≤ x) with
          | true => exact absurd e c
          | false => rfl
        have : ApB x z b = decide (x + z ≤ b.1) := by unfold ApB; rw [c']; rfl
        rw [this] at hY
        exact ⟨.int x, rfl, .int z, rfl, _, _, rfl, rfl, .int b.1, rfl, _, _, rfl, rfl, hY _ (Same.refl _)⟩
    · have e1 : xs.map (fun y => V.bl (ApB x z (kH H y))) = (bs.map (ApB x z)).map V.bl := by
        rw [← bl.map, List.map_map, List.map_map]
        rfl
      rw [e1] at hD
      refine ⟨D, bs.map (ApB x z), rfl, .inl (.inl hD), ?_⟩
      rw [List.all_map]
      refine q _ _ sm ⟨fun h => ⟨x, rfl, x0, by rw [decide_eq_true xm]; exact h⟩, fun ⟨a, e, a0, h⟩ => ?_⟩
      cases e
      rw [decide_eq_true xm] at h
      exact h
def SpotA (bs : List Bk) (z W : Int) (x : V) : Prop := ∃ a : Int, x = .int a ∧ Spot z bs W a
theorem spotA_iff {bs : List Bk} {z W : Int} {x : V} : SpotA bs z W x ↔ ∃ a : Int, x = .int a ∧ MayA bs z x ∧ a + z ≤ W := by
  constructor
  · rintro ⟨a, rfl, sp⟩
    have h := (spot_iff (z := z) (W := W) (bs := bs) sp.pos).mpr sp
    rw [Bool.and_eq_true, decide_eq_true_eq] at h
    exact ⟨a, rfl, ⟨a, rfl, sp.pos, h.1⟩, h.2⟩
  · rintro ⟨a, rfl, ⟨b, e, b0, h⟩, hW⟩
    cases e
    exact ⟨a, rfl, (spot_iff b0).mp (by rw [h, decide_eq_true hW]; rfl)⟩
def spIp3 (K : PySem.W.Frag) : Sp := fun vs H Q _ => ∃ (c t : Addr) (C : List Int) (L m : Int) (bs : List Bk) (x : V) (z : Int), vs = [.ref c, .int m, .ref t, x, .int z] ∧ ChAt H c (C ++ [L]) ∧ 0 ≤ m ∧ m ≤ 100000 ∧ StAt H t bs ∧ bs.length ≤ 5000 ∧ 0 < z ∧ (NoInt K H x ∨ ∃ a : Int, x = .int a) ∧ ∀ H' b, Same H H' → (b = true ↔ SpotA bs z (m * L) x) → Q (.bl b) H'
theorem ok_Ip3 {k : Nat} (Z : Fns K mg) : FnOk P w K mg base CX0 (k + 1 + 1 + 1) Z.fIp Z.fdIp ["chain", "pages", "state", "address", "size"] (spIp3 K) := by
  have GMh : FnOk P w K mg base CX0 (k + 1 + 1) Z.fMh Z.fdMh ["state", "address", "size"] (spMh3 K) := ok_Mh3 Z
  refine Z.FIp.ok scIp (fun vs H Q E h => ?_) (fun cdv A outer s H vs Q E hr h => ?_)
  · obtain ⟨c, t, C, L, m, bs, x, z, rfl, _⟩ := h
    rfl
  · obtain ⟨c, t, C, L, m, bs, x, z, rfl, hc, m0, m1, ht, hl, z0, kind, q⟩ := h
    refine ⟨_, (pss_one (ps_ret (pe_and (pe_call GMh (hr.mono (by omega)) (by rfl) Z.gMh Z.FMh.kp Z.bMh .nil pass0 (pa_cons (pv 2) (pa_cons (pv 3) (pa_cons (pv 4) pa_nil)))) (pe_one (pe_cmpR op_le (pe_op op_add (pv 3) (pv 4)) (pe_op op_mul (pv 1) (pe_ix ix_tup (pv 0) (pe_un un_neg pe_int) (fun _ _ => rfl))) (nomark _)))))), ?_⟩
    have gl : atI ((C ++ [L]).map V.int) (-1) = some (.int L) := by
      rw [List.map_append]
      exact atI_last _ _
    refine ⟨.ref t, rfl, x, rfl, .int z, rfl, t, bs, x, z, rfl, ht, hl, z0, kind, fun H1 b s1 hb => ?_⟩
    refine ⟨_, rfl, ite2 (fun c9 => ?_) (fun c9 => ?_)⟩
    · obtain ⟨a, rfl, a0, h⟩ := hb.mp c9
      refine ⟨.int a, rfl, .int z, rfl, _, _, rfl, rfl, .int m, rfl, .ref c, rfl, 1, rfl, c, _, -1, _, rfl, rfl, (hc.keep s1).sq, gl, m, L, rfl, rfl, .inl ⟨by omega, by omega⟩, _, _, rfl, rfl, ?_⟩
      refine q _ _ s1 ⟨fun hd => spotA_iff.mpr ⟨a, rfl, ⟨a, rfl, a0, h⟩, of_decide_eq_true hd⟩, fun sp => ?_⟩
      obtain ⟨a', e, _, hW⟩ := spotA_iff.mp sp
      cases e
      exact decide_eq_true hW
    · have cb : b = false := by cases b; rfl; exact absurd rfl c9
      subst cb
      refine q _ _ s1 ⟨(fun z => nomatch z), fun sp => ?_⟩
      obtain ⟨a', e, hm, _⟩ := spotA_iff.mp sp
      exact hb.mpr hm
theorem first_at {C : List Int} {z : Int} (h : z ∈ C) : ∃ j : Nat, C[j]? = some z ∧ ∀ m, m < j → C[m]? ≠ some z := by
  induction C with
  | nil => cases h
  | cons a r ih =>
    by_cases e : a = z
    · exact ⟨0, by rw [e]; rfl, fun m hm => absurd hm (Nat.not_lt_zero _)⟩
    · have hr : z ∈ r := (List.mem_cons.mp h).resolve_left fun q => e q.symm
      obtain ⟨j, h1, h2⟩ := ih hr
      refine ⟨j + 1, h1, fun m hm => ?_⟩
      cases m with
      | zero => exact fun q => e (Option.some.inj q)
      | succ m => exact h2 m (by omega)
/-- check: a size that is none, or over the limit -/
def BadK (K : PySem.W.Frag) (H : Hp) (C : List Int) (M : Nat) (bs : List Bk) (CS CO : Addr) (x : V) (E : XK) : Prop := (BadZ K H C x ∧ ErrX CS "size" x H E) ∨ ∃ z : Int, x = .int z ∧ z ∈ C ∧ (M : Int) < tot bs + z ∧ ErrX CO "size" x H E
def spHkX (K : PySem.W.Frag) (C CS CO : Addr) : Sp := fun vs H _ E => ∃ (h l c : Addr) (r : Str) (s : Nat → Nat) (p pg M : Nat) (bs : List Bk) (ss : List Tri) (x : V), vs = [.ref h, x] ∧ HrS C H h l c r s p pg M bs ss ∧ bs.length ≤ 5000 ∧ BadK K H (tl s (p + 1)) M bs CS CO x E
theorem okX_Hk {k : Nat} (Z : Fns K mg) : FnOk P w K mg base (L2.CX P w) (k + 1 + 1 + 1 + 1) Z.fHk Z.fdHk ["self", "size"] (spHkX K Z.CHeap Z.CBadSize Z.COverLimit) := by
  have XC : FnOk P w K mg base (L2.CX P w) (k + 1 + 1 + 1) Z.fC Z.fdC ["chain", "size"] (spCX K Z.CBadSize) := okX_C Z
  have GV : FnOk P w K mg base CX0 (k + 1) Z.fV Z.fdV ["state"] spV := ok_V Z
  have GOi : FnOk P w K mg base CX0 (k + 1) Z.fOi Z.fdOi ["self", "size"] (spEi Z.COverLimit "size") := ok_Oi Z
  refine Z.FHk.okX scHk (fun vs H Q E h => ?_) (fun cdv A outer s H vs Q E hr h => ?_)
  · obtain ⟨h, l, c, r, s, p, pg, M, bs, ss, x, rfl, _⟩ := h
    rfl
  · obtain ⟨h, l, c, r, sz, p, pg, M, bs, ss, x, rfl, ⟨dx, t, xs, a⟩, hl, bad⟩ := h
    refine ⟨_, (pss_cons (ps_expr (pe_call XC (hr.mono (by omega)) (by rfl) Z.gC Z.FC.kp Z.bC .nil (passes_call (takes_of rfl rfl rfl rfl) (fun _ _ _ _ h => h)) (pa_cons (pe_fld (pv 0) rfl) (pa_cons (pv 1) pa_nil))))
 (pss_one (ps_if (pt_cmpR op_gt (pe_op op_add (pe_call GV (hr.mono (by omega)) (by rfl) Z.gV Z.FV.kp Z.bV .nil pass0 (pa_cons (pe_fld (pv 0) rfl) pa_nil)) (pv 1)) (pe_fld (pv 0) rfl) (nomark _))
 (pss_one (ps_raise rfl (takes_of rfl rfl rfl rfl) (pmk_oex Z.oxOverLimit Z.iOi Z.tOi GOi (hr.mono (by omega)) Z.bOi .nil pass0 (by rfl) Z.gcOverLimit (pa_cons (pv 1) pa_nil)))) pss_nil))), ?_⟩
    refine ⟨.ref h, rfl, h, Z.CHeap, dx, _, _, rfl, a.ob, Z.clHeap, Z.naHeap_chain, hr_chain, x, rfl, c, _, x, rfl, a.ch, ?_⟩
    rcases bad with ⟨bz, q⟩ | ⟨z, rfl, hz, hM, q⟩
    · exact .inr ⟨bz, q⟩
    · obtain ⟨j, hj, mn⟩ := first_at hz
      refine .inl ⟨z, j, rfl, hj, mn, ?_⟩
      refine ⟨.ref h, rfl, h, Z.CHeap, dx, _, _, rfl, a.ob, Z.clHeap, Z.naHeap_blocks, hr_blocks, t, bs, rfl, a.st, hl, fun H1 s1 => ?_⟩
      refine ⟨.int z, rfl, _, _, rfl, rfl, .ref h, rfl, h, Z.CHeap, dx, _, _, rfl, s1 _ _ a.ob, Z.clHeap, Z.naHeap_limit, hr_limit, _, _, rfl, rfl, _, rfl, ite2 (fun _ => ?_) (fun c => absurd (decide_eq_true (show (M : Int) < tot bs + z from hM)) c)⟩
      exact ⟨.int z, rfl, (by show 1 ≤ 1000; decide), fun a0 na => ei_out (q.from s1) a0 na⟩
def spPtK (K : PySem.W.Frag) (C CS CO : Addr) : Sp := fun vs H _ E => ∃ (h l c : Addr) (r : Str) (s : Nat → Nat) (p pg M : Nat) (bs : List Bk) (ss : List Tri) (y x : V), vs = [.ref h, y, x] ∧ HrS C H h l c r s p pg M bs ss ∧ bs.length ≤ 5000 ∧ BadK K H (tl s (p + 1)) M bs CS CO x E
theorem okX_PtK {k : Nat} (Z : Fns K mg) : FnOk P w K mg base (L2.CX P w) (k + 1 + 1 + 1 + 1 + 1) Z.fPt Z.fdPt ["self", "address", "size"] (spPtK K Z.CHeap Z.CBadSize Z.COverLimit) := by
  have XHk : FnOk P w K mg base (L2.CX P w) (k + 1 + 1 + 1 + 1) Z.fHk Z.fdHk ["self", "size"] (spHkX K Z.CHeap Z.CBadSize Z.COverLimit) := okX_Hk Z
  refine Z.FPt.okX scPt (fun vs H Q E h => ?_) (fun cdv A outer s H vs Q E hr h => ?_)
  · obtain ⟨h, l, c, r, s, p, pg, M, bs, ss, y, x, rfl, _⟩ := h
    rfl
  · obtain ⟨h, l, c, r, sz, p, pg, M, bs, ss, y, x, rfl, hp, hl, bad⟩ := h
    refine ⟨_, (pss_cons (ps_expr (pe_meth (pv 0) Z.clHeap Z.mHk XHk (hr.mono (by omega)) Z.bHk .nil (passes_call (takes_of rfl rfl rfl rfl) (fun _ _ _ _ h => h)) (pa_cons (pv 2) pa_nil)))
 (pss_cons ps_never
 (pss_one ps_never))), ?_⟩
    obtain ⟨dx, t, xs, a⟩ := id hp
    exact ⟨.ref h, rfl, h, dx, _, rfl, a.ob, rfl, x, rfl, h, l, c, r, sz, p, pg, M, bs, ss, x, rfl, hp, hl, bad⟩
def spPtB (K : PySem.W.Frag) (C CB : Addr) : Sp := fun vs H _ E => ∃ (h l c : Addr) (r : Str) (s : Nat → Nat) (p pg M : Nat) (bs : List Bk) (ss : List Tri) (x : V) (z : Int), vs = [.ref h, x, .int z] ∧ HrS C H h l c r s p pg M bs ss ∧ z ∈ tl s (p + 1) ∧ tot bs + z ≤ M ∧ bs.length ≤ 5000 ∧ 0 < z ∧ pg ≤ 2000 ∧ (NoInt K H x ∨ ∃ a : Int, x = .int a) ∧ ¬ SpotA bs z ((pg : Int) * ((s p : Nat) : Int)) x ∧ ErrX CB "address" x H E
theorem okX_PtB {k : Nat} (Z : Fns K mg) : FnOk P w K mg base (L2.CX P w) (k + 1 + 1 + 1 + 1 + 1) Z.fPt Z.fdPt ["self", "address", "size"] (spPtB K Z.CHeap Z.CBadPlace) := by
  have GHk : FnOk P w K mg base CX0 (k + 1 + 1 + 1 + 1) Z.fHk Z.fdHk ["self", "size"] (spHk Z.CHeap) := ok_Hk Z
  have GIp : FnOk P w K mg base CX0 (k + 1 + 1 + 1) Z.fIp Z.fdIp ["chain", "pages", "state", "address", "size"] (spIp3 K) := ok_Ip3 Z
  have GHe : FnOk P w K mg base CX0 (k + 1 + 1) Z.fHe Z.fdHe ["self", "address", "size"] (spHe Z.CHeap) := ok_He Z
  have GBi : FnOk P w K mg base CX0 (k + 1) Z.fBi Z.fdBi ["self", "address"] (spEi Z.CBadPlace "address") := ok_Bi Z
  refine Z.FPt.okX scPt (fun vs H Q E h => ?_) (fun cdv A outer s H vs Q E hr h => ?_)
  · obtain ⟨h, l, c, r, s, p, pg, M, bs, ss, x, z, rfl, _⟩ := h
    rfl
  · obtain ⟨h, l, c, r, sz, p, pg, M, bs, ss, x, z, rfl, hp, hz, hM, hl, z0, g1, kind, no, q⟩ := h
    refine ⟨_, (pss_cons (ps_expr (pe_meth (pv 0) Z.clHeap Z.mHk GHk (hr.mono (by omega)) Z.bHk .nil pass0 (pa_cons (pv 2) pa_nil)))
 (pss_cons (ps_if (pt_not (pt_val (pe_call GIp (hr.mono (by omega)) (by rfl) Z.gIp Z.FIp.kp Z.bIp .nil pass0 (pa_cons (pe_fld (pv 0) rfl) (pa_cons (pe_fld (pv 0) rfl) (pa_cons (pe_fld (pv 0) rfl) (pa_cons (pv 1) (pa_cons (pv 2) pa_nil))))))))
 (pss_one (ps_raise rfl (takes_of rfl rfl rfl rfl) (pmk_oex Z.oxBadPlace Z.iBi Z.tBi GBi (hr.mono (by omega)) Z.bBi .nil pass0 (by rfl) Z.gcBadPlace (pa_cons (pv 1) pa_nil)))) pss_nil)
 (pss_one (ps_expr (pe_meth (pv 0) Z.clHeap Z.mHe GHe (hr.mono (by omega)) Z.bHe .nil pass0 (pa_cons (pv 1) (pa_cons (pv 2) pa_nil))))))), ?_⟩
    obtain ⟨dx, t, xs, a⟩ := id hp
    refine ⟨.ref h, rfl, h, dx, _, rfl, a.ob, rfl, .int z, rfl, h, l, c, r, sz, p, pg, M, bs, ss, z, rfl, hp, hz, hM, hl, fun H1 s1 => ?_⟩
    have hp1 := hp.same s1
    have ob1 := s1 _ _ a.ob
    have et : tl sz (p + 1) = tl sz p ++ [((sz p : Nat) : Int)] := tl_succ _ _
    have ch1 := a.ch.keep s1
    rw [et] at ch1
    refine ⟨.ref h, rfl, h, Z.CHeap, dx, _, _, rfl, ob1, Z.clHeap, Z.naHeap_chain, hr_chain, .ref h, rfl, h, Z.CHeap, dx, _, _, rfl, ob1, Z.clHeap, Z.naHeap_pages, hr_pages, .ref h, rfl, h, Z.CHeap, dx, _, _, rfl, ob1, Z.clHeap, Z.naHeap_blocks, hr_blocks, x, rfl, .int z, rfl, c, t, tl sz p, ((sz p : Nat) : Int), pg, bs, x, z, rfl, ch1, by omega, by omega, a.st.same s1, hl, z0, kind.imp_left fun n => n.same s1, fun H2 b s2 hb => ?_⟩
    have e : b = false := by
      cases b with
      | true => exact absurd (hb.mp rfl) no
      | false => rfl
    subst e
    refine ⟨_, rfl, ite2 (fun _ => ?_) (fun c => absurd rfl c)⟩
    exact ⟨x, rfl, (by show 1 ≤ 1000; decide), fun a0 na => ei_out (q.from (s1.trans s2)) a0 na⟩
def spHfX (K : PySem.W.Frag) (C CB : Addr) : Sp := fun vs H _ E => ∃ (h l c : Addr) (r : Str) (s : Nat → Nat) (p pg M : Nat) (bs : List Bk) (ss : List Tri) (x : V), vs = [.ref h, x] ∧ HrS C H h l c r s p pg M bs ss ∧ bs.length ≤ 5000 ∧ BadB K H bs x ∧ ErrX CB "address" x H E
theorem okX_Hf {k : Nat} (Z : Fns K mg) : FnOk P w K mg base (L2.CX P w) (k + 1 + 1 + 1 + 1) Z.fHf Z.fdHf ["self", "address"] (spHfX K Z.CHeap Z.CNoBlock) := by
  have XOb : FnOk P w K mg base (L2.CX P w) (k + 1 + 1 + 1) Z.fOb Z.fdOb ["state", "address"] (spObX K Z.CNoBlock) := okX_Ob Z
  refine Z.FHf.okX scHf (fun vs H Q E h => ?_) (fun cdv A outer s H vs Q E hr h => ?_)
  · obtain ⟨h, l, c, r, s, p, pg, M, bs, ss, x, rfl, _⟩ := h
    rfl
  · obtain ⟨h, l, c, r, sz, p, pg, M, bs, ss, x, rfl, ⟨dx, t, xs, a⟩, hl, bad, q⟩ := h
    refine ⟨_, (pss_cons (ps_set (i := 2) scHf.nd rfl (.inl rfl) (pe_call XOb (hr.mono (by omega)) (by rfl) Z.gOb Z.FOb.kp Z.bOb .nil (passes_call (takes_of rfl rfl rfl rfl) (fun _ _ _ _ h => h)) (pa_cons (pe_fld (pv 0) rfl) (pa_cons (pv 1) pa_nil))))
 (pss_cons ps_never
 (pss_one ps_never))), ?_⟩
    exact ⟨.ref h, rfl, h, Z.CHeap, dx, _, _, rfl, a.ob, Z.clHeap, Z.naHeap_blocks, hr_blocks, x, rfl, t, bs, x, rfl, a.st, hl, bad, q⟩
end
end Ph

set_option maxHeartbeats 8000000
namespace Ph
open PySem PySem.Spec PyProof.Rows L2
section
variable {P : Program} {w : World} {K : PySem.W.Frag} {mg : Str → Option Value} {base : Heap}
theorem okN_C {k : Nat} (Z : Fns K mg) : FnOk P w K mg base (L2N.CX P w) (k + 1 + 1 + 1) Z.fC Z.fdC ["chain", "size"] (spCX K Z.CBadSize) := by
  have GZ : FnOk P w K mg base CX0 (k + 1 + 1) Z.fZ Z.fdZ ["chain", "value"] (spZ2 K) := ok_Z2 Z
  have GSi : FnOk P w K mg base CX0 (k + 1) Z.fSi Z.fdSi ["self", "size"] (spEi Z.CBadSize "size") := ok_Si Z
  refine okN Z.FC scC (fun vs H Q E h => ?_) (fun cdv A outer s H vs Q E hr h => ?_)
  · obtain ⟨c, C, x, rfl, _⟩ := h
    rfl
  · obtain ⟨c, C, x, rfl, hc, h⟩ := h
    refine ⟨_, (pss_cons (ps_if (pt_not (pt_val (pe_call GZ (hr.mono (by omega)) (by rfl) Z.gZ Z.FZ.kp Z.bZ .nil pass0 (pa_cons (pv 0) (pa_cons (pv 1) pa_nil)))))
 (pss_one (L2N.ps_raise rfl (L2N.takes_of rfl rfl rfl rfl) (pmk_oexN Z.oxBadSize Z.iSi Z.tSi GSi (hr.mono (by omega)) Z.bSi .nil pass0 (by rfl) Z.gcBadSize (pa_cons (pv 1) pa_nil)))) pss_nil)
 (pss_one (ps_ret (pe_bmT PySem.F.slot_tuple_index PySem.F.type_tuple_index mt_tindexI (pv 0) (pa_cons (pv 1) pa_nil))))), ?_⟩
    rcases h with ⟨i, j, rfl, h1, h2, q⟩ | ⟨n, q⟩
    · refine ⟨.ref c, rfl, .int i, rfl, c, C, .int i, rfl, hc.sq, .inl ⟨i, rfl, _, rfl, ite2 (fun c => absurd c ?_) (fun _ => ?_)⟩⟩
      · simp [List.mem_of_getElem? h1]
      · exact ⟨.ref c, rfl, ⟨c, C, rfl, hc⟩, .int i, rfl, c, C, i, j, rfl, rfl, hc.sq, h1, h2, q⟩
    · rcases n with n | ⟨i, rfl, ni⟩
      · refine ⟨.ref c, rfl, x, rfl, c, C, x, rfl, hc.sq, .inr ⟨n, _, rfl, ite2 (fun _ => ?_) (fun c => absurd rfl c)⟩⟩
        exact ⟨x, rfl, (by show 1 ≤ 1000; decide), fun a0 na => ei_out q a0 na⟩
      · refine ⟨.ref c, rfl, .int i, rfl, c, C, .int i, rfl, hc.sq, .inl ⟨i, rfl, _, rfl, ite2 (fun _ => ?_) (fun c => absurd (by simp [ni]) c)⟩⟩
        exact ⟨.int i, rfl, (by show 1 ≤ 1000; decide), fun a0 na => ei_out q a0 na⟩
theorem okN_Ob {k : Nat} (Z : Fns K mg) : FnOk P w K mg base (L2N.CX P w) (k + 1 + 1 + 1) Z.fOb Z.fdOb ["state", "address"] (spObX K Z.CNoBlock) := by
  have GHb : FnOk P w K mg base CX0 (k + 1 + 1) Z.fHb Z.fdHb ["state", "value"] (spHb2 K) := ok_Hb2 Z
  have GBn : FnOk P w K mg base CX0 (k + 1) Z.fBn Z.fdBn ["self", "address"] (spEi Z.CNoBlock "address") := ok_Bn Z
  refine okN Z.FOb scOb (fun vs H Q E h => ?_) (fun cdv A outer s H vs Q E hr h => ?_)
  · obtain ⟨t, bs, x, rfl, _⟩ := h
    rfl
  · obtain ⟨t, bs, x, rfl, st, hl, bad, q⟩ := h
    refine ⟨_, (pss_cons (ps_if (pt_not (pt_val (pe_call GHb (hr.mono (by omega)) (by rfl) Z.gHb Z.FHb.kp Z.bHb .nil pass0 (pa_cons (pv 0) (pa_cons (pv 1) pa_nil)))))
 (pss_one (L2N.ps_raise rfl (L2N.takes_of rfl rfl rfl rfl) (pmk_oexN Z.oxNoBlock Z.iBn Z.tBn GBn (hr.mono (by omega)) Z.bBn .nil pass0 (by rfl) Z.gcNoBlock (pa_cons (pv 1) pa_nil)))) pss_nil)
 (pss_one (ps_ret (pe_callTy call_tuple_of (by rfl) Z.N.tuple (by decide +kernel) (pa_cons (pe_lc (own := [("block", 2)]) (g := (gName 2)) (by rfl) scOb.nd (pi_tup (pv 0)) (blkOk_by (N := scObN) (sc := defScope scObS) (by decide +kernel)) (fun _ _ _ _ _ => (pg_name (i := 2) scOb.nd rfl (.inl rfl))) (fun _ _ _ _ _ => (pts_one (pt_cmpR op_ne (pe_ix (r := rIxT K) ix_tup (pv 2) pe_int (fun _ _ => rfl)) (pv 1) (nomark _)))) (fun _ _ _ _ _ => (pv 2))) pa_nil))))), ?_⟩
    have go : ∀ H', Same H H' → True := fun _ _ => trivial
    rcases bad with n | ⟨a, rfl, nx⟩
    · refine ⟨.ref t, rfl, x, rfl, t, bs, x, rfl, st, hl, .inr ⟨n, _, rfl, ite2 (fun _ => ?_) (fun c => absurd rfl c)⟩⟩
      exact ⟨x, rfl, (by show 1 ≤ 1000; decide), fun a0 na => ei_out q a0 na⟩
    · refine ⟨.ref t, rfl, .int a, rfl, t, bs, .int a, rfl, st, hl, .inl ⟨a, rfl, nx, fun H1 s1 => ⟨_, rfl, ite2 (fun _ => ?_) (fun c => absurd rfl c)⟩⟩⟩
      exact ⟨.int a, rfl, (by show 1 ≤ 1000; decide), fun a0 na => ei_out (q.from s1) a0 na⟩

theorem okN_Hk {k : Nat} (Z : Fns K mg) : FnOk P w K mg base (L2N.CX P w) (k + 1 + 1 + 1 + 1) Z.fHk Z.fdHk ["self", "size"] (spHkX K Z.CHeap Z.CBadSize Z.COverLimit) := by
  have XC : FnOk P w K mg base (L2N.CX P w) (k + 1 + 1 + 1) Z.fC Z.fdC ["chain", "size"] (spCX K Z.CBadSize) := okN_C Z
  have GV : FnOk P w K mg base CX0 (k + 1) Z.fV Z.fdV ["state"] spV := ok_V Z
  have GOi : FnOk P w K mg base CX0 (k + 1) Z.fOi Z.fdOi ["self", "size"] (spEi Z.COverLimit "size") := ok_Oi Z
  refine okN Z.FHk scHk (fun vs H Q E h => ?_) (fun cdv A outer s H vs Q E hr h => ?_)
  · obtain ⟨h, l, c, r, s, p, pg, M, bs, ss, x, rfl, _⟩ := h
    rfl
  · obtain ⟨h, l, c, r, sz, p, pg, M, bs, ss, x, rfl, ⟨dx, t, xs, a⟩, hl, bad⟩ := h
    refine ⟨_, (pss_cons (ps_expr (pe_call XC (hr.mono (by omega)) (by rfl) Z.gC Z.FC.kp Z.bC .nil (L2N.passes_call (L2N.takes_of rfl rfl rfl rfl) (fun _ _ _ _ h => h)) (pa_cons (pe_fld (pv 0) rfl) (pa_cons (pv 1) pa_nil))))
 (pss_one (ps_if (pt_cmpR op_gt (pe_op op_add (pe_call GV (hr.mono (by omega)) (by rfl) Z.gV Z.FV.kp Z.bV .nil pass0 (pa_cons (pe_fld (pv 0) rfl) pa_nil)) (pv 1)) (pe_fld (pv 0) rfl) (nomark _))
 (pss_one (L2N.ps_raise rfl (L2N.takes_of rfl rfl rfl rfl) (pmk_oexN Z.oxOverLimit Z.iOi Z.tOi GOi (hr.mono (by omega)) Z.bOi .nil pass0 (by rfl) Z.gcOverLimit (pa_cons (pv 1) pa_nil)))) pss_nil))), ?_⟩
    refine ⟨.ref h, rfl, h, Z.CHeap, dx, _, _, rfl, a.ob, Z.clHeap, Z.naHeap_chain, hr_chain, x, rfl, c, _, x, rfl, a.ch, ?_⟩
    rcases bad with ⟨bz, q⟩ | ⟨z, rfl, hz, hM, q⟩
    · exact .inr ⟨bz, q⟩
    · obtain ⟨j, hj, mn⟩ := first_at hz
      refine .inl ⟨z, j, rfl, hj, mn, ?_⟩
      refine ⟨.ref h, rfl, h, Z.CHeap, dx, _, _, rfl, a.ob, Z.clHeap, Z.naHeap_blocks, hr_blocks, t, bs, rfl, a.st, hl, fun H1 s1 => ?_⟩
      refine ⟨.int z, rfl, _, _, rfl, rfl, .ref h, rfl, h, Z.CHeap, dx, _, _, rfl, s1 _ _ a.ob, Z.clHeap, Z.naHeap_limit, hr_limit, _, _, rfl, rfl, _, rfl, ite2 (fun _ => ?_) (fun c => absurd (decide_eq_true (show (M : Int) < tot bs + z from hM)) c)⟩
      exact ⟨.int z, rfl, (by show 1 ≤ 1000; decide), fun a0 na => ei_out (q.from s1) a0 na⟩
theorem okN_PtK {k : Nat} (Z : Fns K mg) : FnOk P w K mg base (L2N.CX P w) (k + 1 + 1 + 1 + 1 + 1) Z.fPt Z.fdPt ["self", "address", "size"] (spPtK K Z.CHeap Z.CBadSize Z.COverLimit) := by
  have XHk : FnOk P w K mg base (L2N.CX P w) (k + 1 + 1 + 1 + 1) Z.fHk Z.fdHk ["self", "size"] (spHkX K Z.CHeap Z.CBadSize Z.COverLimit) := okN_Hk Z
  refine okN Z.FPt scPt (fun vs H Q E h => ?_) (fun cdv A outer s H vs Q E hr h => ?_)
  · obtain ⟨h, l, c, r, s, p, pg, M, bs, ss, y, x, rfl, _⟩ := h
    rfl
  · obtain ⟨h, l, c, r, sz, p, pg, M, bs, ss, y, x, rfl, hp, hl, bad⟩ := h
    refine ⟨_, (pss_cons (ps_expr (pe_meth (pv 0) Z.clHeap Z.mHk XHk (hr.mono (by omega)) Z.bHk .nil (L2N.passes_call (L2N.takes_of rfl rfl rfl rfl) (fun _ _ _ _ h => h)) (pa_cons (pv 2) pa_nil)))
 (pss_cons ps_never
 (pss_one ps_never))), ?_⟩
    obtain ⟨dx, t, xs, a⟩ := id hp
    exact ⟨.ref h, rfl, h, dx, _, rfl, a.ob, rfl, x, rfl, h, l, c, r, sz, p, pg, M, bs, ss, x, rfl, hp, hl, bad⟩
theorem okN_PtB {k : Nat} (Z : Fns K mg) : FnOk P w K mg base (L2N.CX P w) (k + 1 + 1 + 1 + 1 + 1) Z.fPt Z.fdPt ["self", "address", "size"] (spPtB K Z.CHeap Z.CBadPlace) := by
  have GHk : FnOk P w K mg base CX0 (k + 1 + 1 + 1 + 1) Z.fHk Z.fdHk ["self", "size"] (spHk Z.CHeap) := ok_Hk Z
  have GIp : FnOk P w K mg base CX0 (k + 1 + 1 + 1) Z.fIp Z.fdIp ["chain", "pages", "state", "address", "size"] (spIp3 K) := ok_Ip3 Z
  have GHe : FnOk P w K mg base CX0 (k + 1 + 1) Z.fHe Z.fdHe ["self", "address", "size"] (spHe Z.CHeap) := ok_He Z
  have GBi : FnOk P w K mg base CX0 (k + 1) Z.fBi Z.fdBi ["self", "address"] (spEi Z.CBadPlace "address") := ok_Bi Z
  refine okN Z.FPt scPt (fun vs H Q E h => ?_) (fun cdv A outer s H vs Q E hr h => ?_)
  · obtain ⟨h, l, c, r, s, p, pg, M, bs, ss, x, z, rfl, _⟩ := h
    rfl
  · obtain ⟨h, l, c, r, sz, p, pg, M, bs, ss, x, z, rfl, hp, hz, hM, hl, z0, g1, kind, no, q⟩ := h
    refine ⟨_, (pss_cons (ps_expr (pe_meth (pv 0) Z.clHeap Z.mHk GHk (hr.mono (by omega)) Z.bHk .nil pass0 (pa_cons (pv 2) pa_nil)))
 (pss_cons (ps_if (pt_not (pt_val (pe_call GIp (hr.mono (by omega)) (by rfl) Z.gIp Z.FIp.kp Z.bIp .nil pass0 (pa_cons (pe_fld (pv 0) rfl) (pa_cons (pe_fld (pv 0) rfl) (pa_cons (pe_fld (pv 0) rfl) (pa_cons (pv 1) (pa_cons (pv 2) pa_nil))))))))
 (pss_one (L2N.ps_raise rfl (L2N.takes_of rfl rfl rfl rfl) (pmk_oexN Z.oxBadPlace Z.iBi Z.tBi GBi (hr.mono (by omega)) Z.bBi .nil pass0 (by rfl) Z.gcBadPlace (pa_cons (pv 1) pa_nil)))) pss_nil)
 (pss_one (ps_expr (pe_meth (pv 0) Z.clHeap Z.mHe GHe (hr.mono (by omega)) Z.bHe .nil pass0 (pa_cons (pv 1) (pa_cons (pv 2) pa_nil))))))), ?_⟩
    obtain ⟨dx, t, xs, a⟩ := id hp
    refine ⟨.ref h, rfl, h, dx, _, rfl, a.ob, rfl, .int z, rfl, h, l, c, r, sz, p, pg, M, bs, ss, z, rfl, hp, hz, hM, hl, fun H1 s1 => ?_⟩
    have hp1 := hp.same s1
    have ob1 := s1 _ _ a.ob
    have et : tl sz (p + 1) = tl sz p ++ [((sz p : Nat) : Int)] := tl_succ _ _
    have ch1 := a.ch.keep s1
    rw [et] at ch1
    refine ⟨.ref h, rfl, h, Z.CHeap, dx, _, _, rfl, ob1, Z.clHeap, Z.naHeap_chain, hr_chain, .ref h, rfl, h, Z.CHeap, dx, _, _, rfl, ob1, Z.clHeap, Z.naHeap_pages, hr_pages, .ref h, rfl, h, Z.CHeap, dx, _, _, rfl, ob1, Z.clHeap, Z.naHeap_blocks, hr_blocks, x, rfl, .int z, rfl, c, t, tl sz p, ((sz p : Nat) : Int), pg, bs, x, z, rfl, ch1, by omega, by omega, a.st.same s1, hl, z0, kind.imp_left fun n => n.same s1, fun H2 b s2 hb => ?_⟩
    have e : b = false := by
      cases b with
      | true => exact absurd (hb.mp rfl) no
      | false => rfl
    subst e
    refine ⟨_, rfl, ite2 (fun _ => ?_) (fun c => absurd rfl c)⟩
    exact ⟨x, rfl, (by show 1 ≤ 1000; decide), fun a0 na => ei_out (q.from (s1.trans s2)) a0 na⟩
theorem okN_Hf {k : Nat} (Z : Fns K mg) : FnOk P w K mg base (L2N.CX P w) (k + 1 + 1 + 1 + 1) Z.fHf Z.fdHf ["self", "address"] (spHfX K Z.CHeap Z.CNoBlock) := by
  have XOb : FnOk P w K mg base (L2N.CX P w) (k + 1 + 1 + 1) Z.fOb Z.fdOb ["state", "address"] (spObX K Z.CNoBlock) := okN_Ob Z
  refine okN Z.FHf scHf (fun vs H Q E h => ?_) (fun cdv A outer s H vs Q E hr h => ?_)
  · obtain ⟨h, l, c, r, s, p, pg, M, bs, ss, x, rfl, _⟩ := h
    rfl
  · obtain ⟨h, l, c, r, sz, p, pg, M, bs, ss, x, rfl, ⟨dx, t, xs, a⟩, hl, bad, q⟩ := h
    refine ⟨_, (pss_cons (ps_set (i := 2) scHf.nd rfl (.inl rfl) (pe_call XOb (hr.mono (by omega)) (by rfl) Z.gOb Z.FOb.kp Z.bOb .nil (L2N.passes_call (L2N.takes_of rfl rfl rfl rfl) (fun _ _ _ _ h => h)) (pa_cons (pe_fld (pv 0) rfl) (pa_cons (pv 1) pa_nil))))
 (pss_cons ps_never
 (pss_one ps_never))), ?_⟩
    exact ⟨.ref h, rfl, h, Z.CHeap, dx, _, _, rfl, a.ob, Z.clHeap, Z.naHeap_blocks, hr_blocks, x, rfl, t, bs, x, rfl, a.st, hl, bad, q⟩
end
end Ph

set_option maxHeartbeats 8000000
namespace Ph
open PySem PySem.Spec PyProof.Rows L2
theorem hu_0 {k : Nat} {A : Around} (h : Room k A) : A.units < cLine := by
  have := hu_of h
  omega
theorem form3 {K : PySem.W.Frag} {H : Hp} {x0 : V} {d0 d1 d2 : PyData} (h : Dq K H x0 d0) : formD (.tuple [d0, d1, d2]) = decide (x0 = V.str "get") := by
  cases h <;> simp [formD]
theorem form2 {K : PySem.W.Frag} {H : Hp} {x0 : V} {d0 d1 : PyData} (h : Dq K H x0 d0) : formD (.tuple [d0, d1]) = decide (x0 = V.str "free") := by
  cases h <;> simp [formD]
theorem form0 {ds : List PyData} (h3 : ds.length ≠ 3) (h2 : ds.length ≠ 2) : formD (.tuple ds) = false := by
  match ds, h3, h2 with
  | [], _, _ => rfl
  | [_], _, _ => simp [formD]
  | [_, _], _, h => exact absurd rfl h
  | [_, _, _], h, _ => exact absurd rfl h
  | _ :: _ :: _ :: _ :: _, _, _ => simp [formD]
section
variable {P : Program} {w : World} {K : PySem.W.Frag} {mg : Str → Option Value} {base : Heap}
def spFe (K : PySem.W.Frag) : Sp := fun vs H Q _ => ∃ x d, vs = [x] ∧ Dq K H x d ∧ Q (.bl (formD d)) H
theorem ok_Fe {k : Nat} (Z : Fns K mg) : FnOk P w K mg base CX0 (k + 1) Z.fFe Z.fdFe ["value"] (spFe K) := by
  refine Z.FFe.ok scFe (fun vs H Q E h => ?_) (fun cdv A outer s H vs Q E hr h => ?_)
  · obtain ⟨x, d, rfl, _⟩ := h
    rfl
  · obtain ⟨x, d, rfl, dx, q⟩ := h
    refine ⟨_, (pss_cons (ps_if (pt_not (pt_val (pe_callB call_isi (by rfl) Z.N.isinstance (by decide +kernel) (pa_cons (pv 0) (pa_cons (pe_bltn (v := .ty "tuple") (by rfl) Z.N.tuple (by decide +kernel) rfl) pa_nil)))))
 (pss_one (ps_ret pe_bl)) pss_nil)
 (pss_one (ps_ret (pe_or (pe_and (pe_cmpR op_eq (pe_callB call_len_seq (by rfl) Z.N.len (by decide +kernel) (pa_cons (pv 0) pa_nil)) pe_int (nomark _)) (pe_one (pe_cmpR (op_eqW (hu_0 hr)) (pe_ix ix_tup (pv 0) pe_int (fun _ _ => rfl)) pe_str (nomark _)))) (pe_one (pe_and (pe_cmpR op_eq (pe_callB call_len_seq (by rfl) Z.N.len (by decide +kernel) (pa_cons (pv 0) pa_nil)) pe_int (nomark _)) (pe_one (pe_cmpR (op_eqW (hu_0 hr)) (pe_ix ix_tup (pv 0) pe_int (fun _ _ => rfl)) pe_str (nomark _))))))))), ?_⟩
    refine ⟨x, rfl, x, .ty "tuple", .type (tyN d), .type "tuple", _, rfl, .ty _, dq_ty dx, kit_ty (dq_isTu dx), _, rfl, ite2 (fun c => ?_) (fun c => ?_)⟩
    · have e : formD d = false := by
        cases d <;> first | rfl | (simp [isTu] at c)
      rw [← e]
      exact q
    · cases dx with
      | @tup t xs ds hs ha =>
        have ln := dqAll_len ha
        refine ⟨.ref t, rfl, t, _, rfl, .inr hs, ?_⟩
        have lnI : ((xs.length : Nat) : Int) = ((ds.length : Nat) : Int) := by rw [ln]
        by_cases h3 : ds.length = 3
        · obtain ⟨d0, d1, d2, rfl⟩ : ∃ a b c, ds = [a, b, c] := by
            match ds, h3 with
            | [a, b, c], _ => exact ⟨a, b, c, rfl⟩
          cases ha with
          | cons a0 ha => cases ha with
            | cons a1 ha => cases ha with
              | cons a2 ha =>
                cases ha
                rw [form3 a0] at q
                refine ⟨rfl, _, rfl, ite2 (fun _ => ?_) (fun c => absurd (by simp) c)⟩
                refine ⟨.ref t, rfl, t, _, 0, _, rfl, rfl, hs, atI_nat (j := 0) rfl, d0, _, rfl, a0, _, rfl, ite2 (fun c => ?_) (fun c => ?_)⟩
                · rw [show decide (_ = V.str "get") = true from c] at q
                  exact q
                · refine ⟨.ref t, rfl, t, _, rfl, .inr hs, rfl, _, rfl, ite2 (fun c => absurd c (by simp)) (fun _ => ?_)⟩
                  rw [show decide (_ = V.str "get") = false from by simpa using c] at q
                  exact q
        by_cases h2 : ds.length = 2
        · obtain ⟨d0, d1, rfl⟩ : ∃ a b, ds = [a, b] := by
            match ds, h2 with
            | [a, b], _ => exact ⟨a, b, rfl⟩
          cases ha with
          | cons a0 ha => cases ha with
            | cons a1 ha =>
              cases ha
              rw [form2 a0] at q
              refine ⟨rfl, _, rfl, ite2 (fun c => absurd c (by simp)) (fun _ => ?_)⟩
              refine ⟨_, rfl, ite2 (fun c => absurd c (by simp)) (fun _ => ?_)⟩
              refine ⟨.ref t, rfl, t, _, rfl, .inr hs, rfl, _, rfl, ite2 (fun _ => ?_) (fun c => absurd (by simp) c)⟩
              exact ⟨.ref t, rfl, t, _, 0, _, rfl, rfl, hs, atI_nat (j := 0) rfl, d0, _, rfl, a0, q⟩
        · rw [form0 h3 h2] at q
          refine ⟨rfl, _, rfl, ite2 (fun c => absurd c (by simp; omega)) (fun _ => ?_)⟩
          refine ⟨_, rfl, ite2 (fun c => absurd c (by simp)) (fun _ => ?_)⟩
          refine ⟨.ref t, rfl, t, _, rfl, .inr hs, rfl, _, rfl, ite2 (fun c => absurd c (by simp; omega)) (fun _ => ?_)⟩
          exact q
      | _ => exact absurd rfl c
end
end Ph

set_option maxHeartbeats 8000000
namespace Ph
open PySem PySem.Spec PyProof.Rows L2
section
variable {P : Program} {w : World} {K : PySem.W.Frag} {mg : Str → Option Value} {base : Heap}
def spRe (K : PySem.W.Frag) (C : Addr) (L : List Addr) : Sp := fun vs H Q E => ∃ (h l c : Addr) (r : Str) (s : Nat → Nat) (p m pg M : Nat) (bs : List Bk) (ss : List Tri) (x : V) (d : PyData), vs = [.ref h, x] ∧ GX C H h l c r s p pg M bs ss ∧ Cn s p m ∧ m ≤ 100 ∧ pg ≤ 2000 ∧ M ≤ 5000 ∧ ss.length ≤ 100000 ∧ Dq K H x d ∧ formD d = true ∧
  (∀ H' cs st, GoodD s p ((pg : Int) * ((s p : Nat) : Int)) M bs d → Fr h l H H' → GX C H' h l c r s p pg M cs (ss ++ [st]) → evD st = d → Q .non H') ∧
  (¬ GoodD s p ((pg : Int) * ((s p : Nat) : Int)) M bs d → ∀ C' ∈ L, ∀ H' dd, Same H H' → E (.ref C') (some dd) H')
theorem okN_Re {k : Nat} (Z : Fns K mg) : FnOk P w K mg base (L2N.CX P w) (k + 1 + 1 + 1 + 1 + 1 + 1) Z.fRe Z.fdRe ["heap", "event"] (spRe K Z.CHeap [Z.CBadSize, Z.COverLimit, Z.CBadPlace, Z.CNoBlock]) := by
  have XHf : FnOk P w K mg base (L2N.CX P w) (k + 1 + 1 + 1 + 1) Z.fHf Z.fdHf ["self", "address"] (fun vs H Q E => spHf Z.CHeap vs H Q E ∨ spHfX K Z.CHeap Z.CNoBlock vs H Q E) := fn_orN (ok_Hf Z) (okN_Hf Z)
  have XPt : FnOk P w K mg base (L2N.CX P w) (k + 1 + 1 + 1 + 1 + 1) Z.fPt Z.fdPt ["self", "address", "size"] (fun vs H Q E => spPt Z.CHeap vs H Q E ∨ (spPtK K Z.CHeap Z.CBadSize Z.COverLimit vs H Q E ∨ spPtB K Z.CHeap Z.CBadPlace vs H Q E)) := fn_orN (ok_Pt Z) (fn_orX' (okN_PtK Z) (okN_PtB Z))
  refine okN Z.FRe scRe (fun vs H Q E h => ?_) (fun cdv A outer s H vs Q E hr h => ?_)
  · obtain ⟨h, l, c, r, s, p, m, pg, M, bs, ss, x, d, rfl, _⟩ := h
    rfl
  · obtain ⟨h, l, c, r, sz, p, m, pg, M, bs, ss, x, d, rfl, g, cn, m1, pg1, M1, sl, dx, form, fin, err⟩ := h
    refine ⟨_, (pss_one (ps_if (pt_cmpR (op_eqW (hu_0 hr)) (pe_ix ix_tup (pv 1) pe_int (fun _ _ => rfl)) pe_str (nomark _))
 (pss_one (ps_expr (pe_meth (pv 0) Z.clHeap Z.mPt XPt (hr.mono (by omega)) Z.bPt .nil (L2N.passes_call (L2N.takes_of rfl rfl rfl rfl) (fun _ _ _ _ h => h)) (pa_cons (pe_ix ix_tup (pv 1) pe_int (fun _ _ => rfl)) (pa_cons (pe_ix ix_tup (pv 1) pe_int (fun _ _ => rfl)) pa_nil))))) (pss_one (ps_expr (pe_meth (pv 0) Z.clHeap Z.mHf XHf (hr.mono (by omega)) Z.bHf .nil (L2N.passes_call (L2N.takes_of rfl rfl rfl rfl) (fun _ _ _ _ h => h)) (pa_cons (pe_ix ix_tup (pv 1) pe_int (fun _ _ => rfl)) pa_nil)))))), ?_⟩
    obtain ⟨dx0, t, xs, a⟩ := id g.hp
    obtain ⟨st, bl, tt⟩ := g.bnds cn.ch
    have top : ∀ j, j ≤ p → 0 < sz j ∧ sz j ≤ 100 := fun j hj => ⟨cn.ch.pos (by omega), Nat.le_trans (cn.ch.mono (i := j) (j := p) hj (by omega)) (Nat.le_trans cn.top m1)⟩
    have tp := top p (Nat.le_refl _)
    have zb : ∀ {z : Int}, z ∈ tl sz (p + 1) → ∃ j, j ≤ p ∧ ((sz j : Nat) : Int) = z ∧ 0 < z ∧ z ≤ 100 := fun hz => by
      obtain ⟨j, hj, e⟩ := tl_mem.mp hz
      have := top j (by omega)
      exact ⟨j, by omega, e.symm, by omega, by omega⟩
    have same : ∀ {f : Str} {C' : Addr} {u : V}, ¬ GoodD sz p ((pg : Int) * ((sz p : Nat) : Int)) M bs d → C' ∈ [Z.CBadSize, Z.COverLimit, Z.CBadPlace, Z.CNoBlock] → ErrX C' f u H E := fun n m H' d' s9 hd => err n _ m H' d' s9
    rcases form_iff form with ⟨d1, d2, rfl⟩ | ⟨d1, rfl⟩
    · cases dx with
      | tup hs ha => cases ha with
        | cons a0 ha => cases ha with
          | cons a1 ha => cases ha with
            | @cons y2 _ _ _ a2 ha =>
              cases ha
              rename_i T y0 y1
              obtain rfl := (dq_isStr a0 "get").mpr rfl
              refine ⟨.ref T, rfl, T, _, 0, _, rfl, rfl, hs, atI_nat (j := 0) rfl, _, _, rfl, a0, _, rfl, ite2 (fun _ => ?_) (fun c => absurd (by simp) c)⟩
              refine ⟨.ref h, rfl, h, dx0, _, rfl, a.ob, rfl, .ref T, rfl, T, _, 2, _, rfl, rfl, hs, atI_nat (j := 2) rfl, .ref T, rfl, T, _, 1, _, rfl, rfl, hs, atI_nat (j := 1) rfl, ?_⟩
              have ngS : (∀ j, j ≤ p → d1 ≠ .int ((sz j : Nat) : Int)) → ¬ GoodD sz p ((pg : Int) * ((sz p : Nat) : Int)) M bs (.tuple [.str "get", d1, d2]) := fun n g => by
                rcases g with ⟨j, a, hj, e, _⟩ | ⟨b, _, e⟩
                · injection e with e
                  injection e with _ e
                  injection e with e _
                  exact n j hj e
                · simp at e
              rcases dq_noInt a1 with ⟨n1, e1⟩ | ⟨z, rfl, rfl⟩
              · exact .inr (.inl ⟨h, l, c, r, sz, p, pg, M, bs, ss, y2, y1, rfl, g.hp, by omega, .inl ⟨.inl n1, same (ngS fun j _ => e1 _) (by simp)⟩⟩)
              by_cases hz : z ∈ tl sz (p + 1)
              · obtain ⟨j, hj, ez, z0, z1⟩ := zb hz
                subst ez
                by_cases lim : tot bs + ((sz j : Nat) : Int) ≤ M
                · by_cases sp : ∃ a : Int, d2 = .int a ∧ Spt ((sz j : Nat) : Int) bs ((pg : Int) * ((sz p : Nat) : Int)) a
                  · obtain ⟨ad, rfl, sp⟩ := sp
                    obtain rfl : y2 = .int ad := by cases a2; rfl
                    exact .inl ⟨h, l, c, r, sz, p, pg, M, bs, ss, ad, _, rfl, g.hp, hz, lim, by omega, by omega, z0, by omega, sp.pos, sp.mod, fun b hb => (sp.free b hb).symm, sp.fit, fun H' cs fr hp' pm srt => fin H' cs _ (.inl ⟨j, ad, hj, rfl, lim, sp⟩) fr (g.put hj lim sp hp' pm srt) (evD_get _ _)⟩
                  · have ng : ¬ GoodD sz p ((pg : Int) * ((sz p : Nat) : Int)) M bs (.tuple [.str "get", .int ((sz j : Nat) : Int), d2]) := fun g => by
                      rcases g with ⟨j2, a, hj2, e, _, s2⟩ | ⟨b, _, e⟩
                      · injection e with e
                        injection e with _ e
                        injection e with e e3
                        injection e with e
                        injection e3 with e3 _
                        rw [← e] at s2
                        exact sp ⟨a, e3, s2⟩
                      · simp at e
                    refine .inr (.inr ⟨h, l, c, r, sz, p, pg, M, bs, ss, y2, _, rfl, g.hp, hz, lim, by omega, z0, by omega, (dq_noInt a2).elim (fun q => .inl q.1) (fun ⟨i, e, _⟩ => .inr ⟨i, e⟩), fun ⟨ad, e, s3⟩ => ?_, same ng (by simp)⟩)
                    subst e
                    cases a2
                    exact sp ⟨_, rfl, s3.spt⟩
                · refine .inr (.inl ⟨h, l, c, r, sz, p, pg, M, bs, ss, y2, _, rfl, g.hp, by omega, .inr ⟨_, rfl, hz, by omega, same (fun g => ?_) (by simp)⟩⟩)
                  rcases g with ⟨j2, a, hj2, e, l2, _⟩ | ⟨b, _, e⟩
                  · injection e with e
                    injection e with _ e
                    injection e with e e3
                    injection e with e
                    rw [← e] at l2
                    exact lim l2
                  · simp at e
              · exact .inr (.inl ⟨h, l, c, r, sz, p, pg, M, bs, ss, y2, _, rfl, g.hp, by omega, .inl ⟨.inr ⟨z, rfl, hz⟩, same (ngS fun j hj e => hz (tl_mem.mpr ⟨j, by omega, by injection e⟩)) (by simp)⟩⟩)
    · cases dx with
      | tup hs ha => cases ha with
        | cons a0 ha => cases ha with
          | cons a1 ha =>
            cases ha
            rename_i T y0 y1
            obtain rfl := (dq_isStr a0 "free").mpr rfl
            refine ⟨.ref T, rfl, T, _, 0, _, rfl, rfl, hs, atI_nat (j := 0) rfl, _, _, rfl, a0, _, rfl, ite2 (fun c => absurd c (by decide +kernel)) (fun _ => ?_)⟩
            refine ⟨.ref h, rfl, h, dx0, _, rfl, a.ob, rfl, .ref T, rfl, T, _, 1, _, rfl, rfl, hs, atI_nat (j := 1) rfl, ?_⟩
            by_cases good : ∃ b ∈ bs, d1 = .int b.1
            · obtain ⟨b, hb, rfl⟩ := good
              obtain rfl : y1 = .int b.1 := by cases a1; rfl
              exact .inl ⟨h, l, c, r, sz, p, pg, M, bs, ss, b.1, rfl, g.hp, by omega, by omega, ⟨b, hb, rfl⟩, fun H' fr hp' => fin H' _ _ (.inr ⟨b, hb, rfl⟩) fr (g.free cn.ch hb hp') (evD_free _ _)⟩
            · refine .inr ⟨h, l, c, r, sz, p, pg, M, bs, ss, y1, rfl, g.hp, by omega, ?_, same (fun g => ?_) (by simp)⟩
              · rcases dq_noInt a1 with ⟨n1, _⟩ | ⟨i, rfl, rfl⟩
                · exact .inl n1
                · exact .inr ⟨i, rfl, fun ⟨b, hb, e⟩ => good ⟨b, hb, by rw [e]⟩⟩
              · rcases g with ⟨j2, a, hj2, e, _⟩ | ⟨b, hb, e⟩
                · simp at e
                · injection e with e
                  injection e with _ e
                  injection e with e _
                  exact good ⟨b, hb, e⟩
end
end Ph

set_option maxHeartbeats 8000000
namespace Ph
open PySem PySem.Spec PyProof.Rows L2
theorem made_same {H1 H2 : Hp} {h dx l C : Addr} (nh : H1 h = none) (ndx : H1 dx = none) (fr : Fr h l (upd (upd H1 dx (.own h)) h (.ins C dx [])) H2) (nl : upd (upd H1 dx (.own h)) h (.ins C dx []) l = none) : Same H1 H2 ∧ H1 l = none := by
  have s1 : Same H1 (upd (upd H1 dx (.own h)) h (.ins C dx [])) := fun b o e => by
    rw [upd_ne (ne_of_none e nh), upd_ne (ne_of_none e ndx)]
    exact e
  have nl0 : H1 l = none := none_of_same s1 nl
  exact ⟨fun b o e => fr _ _ (ne_of_none e nh) (ne_of_none e nl0) (s1 _ _ e), nl0⟩
theorem RunD.len {s : Nat → Nat} {p M : Nat} {W : Int} {ds : List PyData} {bs : List Bk} {ss : List Tri} (r : RunD s p W M ds bs ss) : ss.length = ds.length := by rw [r.ev, List.length_map]
section
variable {P : Program} {w : World} {K : PySem.W.Frag} {mg : Str → Option Value} {base : Heap}
theorem ok_Be {k : Nat} (Z : Fns K mg) : FnOk P w K mg base CX0 (k + 1) Z.fBe Z.fdBe ["self", "number"] (spEi Z.CBadEvent "number") := by
  refine Z.FBe.ok scBe (fun vs H Q E h => ?_) (fun cdv A outer s H vs Q E hr h => ?_)
  · obtain ⟨a, x, rfl, _⟩ := h
    rfl
  · obtain ⟨a, x, rfl, ha, q⟩ := h
    refine ⟨_, (pss_one (ps_ost (pv 0) (pv 1) rfl)), ?_⟩
    exact ⟨x, rfl, .ref a, rfl, a, Z.CBadEvent, rfl, Z.oxBadEvent, Z.nfBadEvent_number, .inl ⟨ha, q⟩⟩
theorem okH_Be {k : Nat} (Z : Fns K mg) : L2H.FnH P w K mg base CX0 (k + 1) Z.fBe Z.fdBe ["self", "number"] (spEi Z.CBadEvent "number") := by
  refine okH Z.FBe scBe (fun vs H Q E h => ?_) (fun cdv A outer s H vs Q E p hot hr h => ?_)
  · obtain ⟨a, x, rfl, _⟩ := h
    rfl
  · obtain ⟨a, x, rfl, ha, q⟩ := h
    refine ⟨_, (pss_one (ps_ost (pv 0) (pv 1) rfl)), ?_⟩
    exact ⟨x, rfl, .ref a, rfl, a, Z.CBadEvent, rfl, Z.oxBadEvent, Z.nfBadEvent_number, .inl ⟨ha, q⟩⟩
def spRy (K : PySem.W.Frag) (C CE : Addr) : Sp := fun vs H Q E => ∃ (c : Addr) (ev : V) (s : Nat → Nat) (p m pg M : Nat) (de : PyData), vs = [.ref c, .int pg, .int M, ev] ∧ ChAt H c (tl s (p + 1)) ∧ Cn s p m ∧ m ≤ 100 ∧ p + 1 ≤ 12 ∧ pg ≤ 2000 ∧ M ≤ 5000 ∧ Dq K H ev de ∧ (∀ ds, de = .tuple ds → ds.length ≤ 50000) ∧
  (∀ bs ss, OutD s p ((pg : Int) * ((s p : Nat) : Int)) M de (.done bs ss) → ∀ H' h l, Same H H' → H h = none → H l = none → GX C H' h l c "lowest" s p pg M bs ss → Q (.ref h) H') ∧
  (∀ i : Nat, OutD s p ((pg : Int) * ((s p : Nat) : Int)) M de (.bad i) → ErrX CE "number" (.int (i : Int)) H E)
theorem okX_Ry {k : Nat} (Z : Fns K mg) : FnOk P w K mg base (L2.CX P w) (k + 1 + 1 + 1 + 1 + 1 + 1 + 1) Z.fRy Z.fdRy ["chain", "pages", "limit", "history"] (spRy K Z.CHeap Z.CBadEvent) := by
  have GHi : FnOk P w K mg base CX0 (k + 1 + 1 + 1) Z.fHi Z.fdHi ["self", "chain", "pages", "limit", "rule"] (spHi Z.CHeap) := ok_Hi Z
  have GFe : FnOk P w K mg base CX0 (k + 1) Z.fFe Z.fdFe ["value"] (spFe K) := ok_Fe Z
  have GBe : FnOk P w K mg base CX0 (k + 1) Z.fBe Z.fdBe ["self", "number"] (spEi Z.CBadEvent "number") := ok_Be Z
  have HBe : L2H.FnH P w K mg base CX0 (k + 1) Z.fBe Z.fdBe ["self", "number"] (spEi Z.CBadEvent "number") := okH_Be Z
  have XRe : FnOk P w K mg base (L2N.CX P w) (k + 1 + 1 + 1 + 1 + 1 + 1) Z.fRe Z.fdRe ["heap", "event"] (spRe K Z.CHeap [Z.CBadSize, Z.COverLimit, Z.CBadPlace, Z.CNoBlock]) := okN_Re Z
  obtain ⟨dsHi, vHi, bHi⟩ := Z.bHi
  refine Z.FRy.okX scRy (fun vs H Q E h => ?_) (fun cdv A outer s H vs Q E hr h => ?_)
  · obtain ⟨c, ev, s, p, m, pg, M, de, rfl, _⟩ := h
    rfl
  · obtain ⟨c, ev, sz, p, m, pg, M, de, rfl, hc, cn, m1, p12, g1, M1, dq, dl, fin, err⟩ := h
    refine ⟨_, (pss_cons (ps_if (pt_not (pt_val (pe_callB call_isi (by rfl) Z.N.isinstance (by decide +kernel) (pa_cons (pv 3) (pa_cons (pe_bltn (v := .ty "tuple") (by rfl) Z.N.tuple (by decide +kernel) rfl) pa_nil)))))
 (pss_one (ps_raise rfl (takes_of rfl rfl rfl rfl) (pmk_oex Z.oxBadEvent Z.iBe Z.tBe GBe (hr.mono (by omega)) Z.bBe .nil pass0 (by rfl) Z.gcBadEvent (pa_cons pe_int pa_nil)))) pss_nil)
 (pss_cons (ps_set (i := 4) scRy.nd rfl (.inl rfl) (pe_make Z.MHi GHi (hr.mono (by omega)) (by rfl) Z.gcHeap bHi vHi pass0 (pa_cons (pv 0) (pa_cons (pv 1) (pa_cons (pv 2) pa_nil)))))
 (pss_cons (ps_for (passes_of rfl) rfl (pi_enumK (k := true) (by rfl) Z.N.enumerate (pa_cons (pv 3) pa_nil)) (pg_tup (by rfl) (pgs_cons (pg_name (i := 5) scRy.nd rfl (.inl rfl)) (pgs_cons (pg_name (i := 6) scRy.nd rfl (.inl rfl)) pgs_nil)))
 (pss_cons (ps_if (pt_not (pt_val (pe_call GFe (hr.mono (by omega)) (by rfl) Z.gFe Z.FFe.kp Z.bFe .nil pass0 (pa_cons (pv 6) pa_nil))))
 (pss_one (ps_raise rfl (takes_of rfl rfl rfl rfl) (pmk_oex Z.oxBadEvent Z.iBe Z.tBe GBe (hr.mono (by omega)) Z.bBe .nil pass0 (by rfl) Z.gcBadEvent (pa_cons (pv 5) pa_nil)))) pss_nil)
 (pss_one (L2H.ps_try_onlyX (c := .ref Z.CHeapError) (Wout := fun cls d _ H => E cls d H) rfl rfl ⟨by rfl, by decide, .inl Z.gcHeapError⟩ (L2H.passesAt_of rfl) (takes_of rfl rfl rfl rfl) (fun W pn xe tk tk2 _ => pss_one (ps_expr (pe_callS XRe (hr.mono (by omega)) (by rfl) Z.gRe Z.FRe.kp Z.bRe (fun σ => L2N.passAt tk σ) (pa_cons (pv 4) (pa_cons (pv 6) pa_nil))))) (fun a oe cls d pn hz hf tkS hot => pss_one (L2H.ps_raiseHN hot tkS (L2H.pmk5_oexH Z.oxBadEvent Z.iBe Z.tBe HBe (L2H.roomH_mark (hr.mono (by omega)) _) hot Z.bBe pass0 (by rfl) Z.gcBadEvent (pa_cons (pv 5) pa_nil))))))))
 (pss_one (ps_ret (pv 4)))))), ?_⟩
    have ch := cn.ch
    refine ⟨ev, rfl, ev, .ty "tuple", .type (tyN de), .type "tuple", _, rfl, .ty _, dq_ty dq, kit_ty (dq_isTu dq), _, rfl, ite2 (fun c0 => ?_) (fun c0 => ?_)⟩
    · have nt : ∀ ds, de ≠ .tuple ds := fun ds z => by
        rw [z] at c0
        simp [isTu] at c0
      exact ⟨(by show 1 ≤ 1000; decide), fun a0 na => ei_out (err 0 (.notT nt)) a0 na⟩
    cases dq with
    | @tup u ys ds hu ha =>
      have dl := dl ds rfl
      have yl := dqAll_len ha
      refine ⟨.ref c, rfl, .int pg, rfl, .int M, rfl, fun h dx nh ndx nex => ⟨h, c, dx, "lowest", sz, p, m, pg, M, rfl, .inl rfl, upd_same, hc.keep ?_, cn, by omega, p12, fun H2 l fr2 nl2 hp2 => ⟨rfl, ?_⟩⟩⟩
      · intro b o e
        rw [upd_ne (ne_of_none e nh), upd_ne (ne_of_none e ndx)]
        exact e
      obtain ⟨s2, nl⟩ := made_same nh ndx fr2 nl2
      refine ⟨.ref u, rfl, u, _, rfl, s2.tup hu, ?_⟩
      refine for_it (walk_enumK (k := true) (K := K) (a := u) (xs := ys)) (fun i σ H3 => ∃ y5 y6 bi si, σ = [some (.ref c), some (.int pg), some (.int M), some (.ref u), some (.ref h), y5, y6] ∧ Same H H3 ∧ GX Z.CHeap H3 h l c "lowest" sz p pg M bi si ∧ RunD sz p ((pg : Int) * ((sz p : Nat) : Int)) M (ds.take i) bi si)
        ⟨none, none, [], [], rfl, s2, ⟨hp2, .nil⟩, run_nil⟩ (fun i σ H3 _ p => ?_) ?_ ?_
      · obtain ⟨_, _, _, _, _, s3, _⟩ := p
        exact s3.tup hu
      · rintro i x σ H0 H3 hi ⟨y5, y6, bi, si, rfl, s3, g3, rn⟩ y
        obtain ⟨R, x1, x2, rfl, nR, rfl, e1, e2⟩ := y
        cases e1
        have e2' : ys[i]? = some x2 := e2
        obtain ⟨d2, ed2, dq2⟩ := dqAll_get ha e2'
        have sR := same_upd (o := .tup [.int (i : Nat), x2]) nR
        have hR : upd H0 R (.tup [.int (i : Nat), x2]) R = some (.tup [.int (i : Nat), x2]) := upd_same
        have s4 := s3.trans sR
        have g4 := g3.same sR
        generalize upd H0 R (.tup [.int (i : Nat), x2]) = H4 at *
        have il : i < ds.length := (List.getElem?_eq_some_iff.mp ed2).1
        have sil : si.length ≤ 50000 := by rw [rn.len, List.length_take]; omega
        have etk : ds.take (i + 1) = ds.take i ++ [d2] := by rw [List.take_add_one, ed2]; rfl
        have bad : ¬ GoodD sz p ((pg : Int) * ((sz p : Nat) : Int)) M bi d2 → ErrX Z.CBadEvent "number" (.int (i : Int)) H E := fun ng => err i (.bad rn ed2 ng)
        have dq4 := dq2.same s4
        refine ⟨R, _, rfl, .inl (.inl hR), rfl, _, _, rfl, _, _, rfl, rfl, ?_⟩
        refine ⟨x2, rfl, x2, d2, rfl, dq4, _, rfl, ite2 (fun c1 => ?_) (fun c1 => ?_)⟩
        · refine ⟨.int (i : Nat), rfl, (by show 1 ≤ 1000; decide), fun a0 na => ei_out ((bad fun g => ?_).from s4) a0 na⟩
          rw [good_form g] at c1
          cases c1
        · refine ⟨.ref h, rfl, x2, rfl, h, l, c, "lowest", sz, p, m, pg, M, bi, si, x2, d2, rfl, g4, cn, m1, g1, M1, by omega, dq4, by simpa using c1, fun H5 cs st good fr5 g5 est => ?_, fun ng C' hC H5 dd s5 => ?_⟩
          · refine ⟨_, _, cs, _, rfl, fun b o e => fr5 _ _ (ne_of_none e nh) (ne_of_none e nl) (s4 _ _ e), g5, ⟨g5.hw, ?_⟩⟩
            rw [etk, List.map_append, ← rn.ev, List.map_cons, est, List.map_nil]
          · have ex : PySem.W.exmOne K (.ref C') (.ref Z.CHeapError) = some true := by
              simp only [List.mem_cons, List.not_mem_nil, or_false] at hC
              rcases hC with rfl | rfl | rfl | rfl
              · exact Z.exBadSize
              · exact Z.exOverLimit
              · exact Z.exBadPlace
              · exact Z.exNoBlock
            exact ⟨true, ex, fun _ a na => ⟨.int (i : Nat), rfl, (by show 1 ≤ 1000; decide), fun a0 na => ei_out ((bad ng).from (s4.trans s5)) a0 na⟩, fun z => nomatch z⟩
      · rintro σ H3 ⟨y5, y6, bi, si, rfl, s3, g3, rn⟩
        rw [List.take_of_length_le (by omega)] at rn
        exact ⟨.ref h, rfl, fin bi si (.done rn) _ h l s3 nh nl g3⟩
    | _ => exact absurd rfl c0
end
end Ph

set_option maxHeartbeats 8000000
namespace Ph
open PySem PySem.Spec PyProof.Rows L2
section
variable {P : Program} {w : World} {K : PySem.W.Frag} {mg : Str → Option Value} {base : Heap}
def spFp : Sp := fun vs H Q _ => ∃ (t : Addr) (z W : Int) (bs : List Bk), vs = [.ref t, .int z, .int W] ∧ StAt H t bs ∧ 0 < z ∧ z ≤ 2000 ∧ 0 ≤ W ∧ W ≤ 4000 ∧ bs.length ≤ 2000 ∧ (∀ b ∈ bs, 0 ≤ b.1 ∧ b.1 ≤ 4000000 ∧ 1 ≤ b.2 ∧ b.2 ≤ 2000) ∧
  ∀ (H' : Hp) (D : Addr) (ns : List Int), Same H H' → H D = none → H' D = some (.lst (ns.map V.int)) → (∀ x ∈ ns, Spot z bs W x) → (∀ x, Spot z bs W x → x ∈ ns) → (ns.length : Int) ≤ W + 1 → Q (.ref D) H'
theorem ok_Fp {k : Nat} (Z : Fns K mg) : FnOk P w K mg base CX0 (k + 1) Z.fFp Z.fdFp ["_law_blocks", "_law_size", "_law_words"] spFp := by
  refine Z.FFp.ok scFp (fun vs H Q E h => ?_) (fun cdv A outer s H vs Q E hr h => ?_)
  · obtain ⟨t, z, W, bs, rfl, _⟩ := h
    rfl
  · obtain ⟨t, z, W, bs, rfl, ⟨xs, ht, bl⟩, z0, z1, W0, W1, hl, hb0, q⟩ := h
    refine ⟨_, (pss_cons (ps_asg (pe_tup (pa_cons pe_dnewK (pa_cons (pe_lst pa_nil) pa_nil))) (pg_tup (by rfl) (pgs_cons (pg_name (i := 3) scFp.nd rfl (.inr rfl)) (pgs_cons (pg_name (i := 4) scFp.nd rfl (.inl rfl)) pgs_nil))))
 (pss_cons (ps_for PassesOwn.never rfl (pi_tup (pv 0)) (pg_tup (by rfl) (pgs_cons (pg_name (i := 5) scFp.nd rfl (.inl rfl)) (pgs_cons (pg_name (i := 6) scFp.nd rfl (.inl rfl)) pgs_nil)))
 (pss_one (ps_expr (pe_bm PySem.F.plainAttrs_dict PySem.F.slot_dict_update PySem.F.type_dict_update mtd_update (pv 3) (pa_cons (pe_callTy (call_dictP rfl) (by rfl) Z.N.dict (by decide +kernel) (pa_cons (pe_lc (own := [("_law_word", 8)]) (g := (gName 8)) (tt := tYes) (by rfl) scFp.nd (pi_range2 (by rfl) Z.N.range (pa_cons (pv 5) (pa_cons (pe_op op_add (pv 5) (pv 6)) pa_nil))) (blkOk_by (N := scFpN) (sc := defScope scFpS) (by decide +kernel)) (fun _ _ _ _ _ => (pg_name (i := 8) scFp.nd rfl (.inl rfl))) (fun _ _ _ _ _ => pts_nil) (fun _ _ _ _ _ => (pe_tup (pa_cons (pv 8) (pa_cons pe_bl pa_nil))))) pa_nil)) pa_nil)))))
 (pss_cons (ps_for PassesOwn.never rfl (pi_range3 (by rfl) Z.N.range (pa_cons pe_int (pa_cons (pe_op op_add (pe_op op_sub (pv 2) (pv 1)) pe_int) (pa_cons (pv 1) pa_nil)))) (pg_name (i := 7) scFp.nd rfl (.inl rfl))
 (pss_one (ps_if (pt_not (pt_val (pe_callB (cr_any rfl) (by rfl) Z.N.any (by decide +kernel) (pa_cons (pe_lc (own := [("_law_word", 8)]) (g := (gName 8)) (tt := tYes) (by rfl) scFp.nd (pi_range2 (by rfl) Z.N.range (pa_cons (pv 7) (pa_cons (pe_op op_add (pv 7) (pv 1)) pa_nil))) (blkOk_by (N := scFpN) (sc := defScope scFpS) (by decide +kernel)) (fun _ _ _ _ _ => (pg_name (i := 8) scFp.nd rfl (.inl rfl))) (fun _ _ _ _ _ => pts_nil) (fun _ _ _ _ _ => (pe_cmp ((pc_din (hu_of hr)) (pv 8) (pv 3))))) pa_nil))))
 (pss_one (ps_expr (pe_bm PySem.F.plainAttrs_list PySem.F.slot_list_append PySem.F.type_list_append mt_append (pv 4) (pa_cons (pv 7) pa_nil)))) pss_nil)))
 (pss_one (ps_ret (pv 4)))))), ?_⟩
    refine fun d nd => ⟨(by show 0 ≤ sizeLine; decide), fun D nD => ⟨(by show 2 ≤ sizeLine; decide), fun T nT => ⟨T, _, rfl, .inl (.inl upd_same), rfl, _, _, rfl, _, _, rfl, rfl, ?_⟩⟩⟩
    have sd := same_upd (o := .dK []) nd
    have hd : upd H d (.dK []) d = some (.dK []) := upd_same
    have sD := same_upd (o := .lst []) nD
    have nDH : H D = none := none_of_same sd nD
    have hD : upd (upd H d (.dK [])) D (.lst []) D = some (.lst []) := upd_same
    have sT := same_upd (o := .tup [.ref d, .ref D]) nT
    have s02 : Same H (upd (upd (upd H d (.dK [])) D (.lst [])) T (.tup [.ref d, .ref D])) := sd.trans (sD.trans sT)
    have hd := sT _ _ (sD _ _ hd)
    have hD2 := sT _ _ hD
    generalize upd (upd (upd H d (.dK [])) D (.lst [])) T (.tup [.ref d, .ref D]) = H2 at *
    have ht2 := s02 _ _ ht
    have bl2 := BL.kp bl fun v us e => s02 _ _ e
    have nDd : D ≠ d := ne_of hD2 hd (by intro z; cases z)
    refine ⟨.ref t, rfl, t, rfl, ⟨_, .inl (.inl ht2)⟩, ?_⟩
    refine for_it (walk_tup (K := K) (a := t) (xs := xs)) (fun i σ H3 => ∃ y2 y3 y7 y4 kvs, σ = [some (.ref t), some (.int z), some (.int W), some (.ref d), some (.ref D), y2, y3, y7, y4] ∧ But d H2 H3 ∧ H3 d = some (.dK kvs) ∧ Wds kvs (bs.take i) ∧ kvs.length ≤ 2000 * i)
      ⟨none, none, none, none, [], rfl, But.refl _ _, hd, fun w => ?_, Nat.le_refl _⟩ (fun i σ H3 _ p => ?_) ?_ ?_
    · constructor
      · intro h
        exact absurd h (by simp [hasI, valV])
      · rintro ⟨b, hb, _⟩
        cases hb
    · obtain ⟨_, _, _, _, _, _, b3, _⟩ := p
      exact .inl (.inl (b3 _ _ (ne_of ht2 hd (by intro z; cases z)) ht2))
    · rintro i x1 σ H0 H3 hi ⟨y4, y5, y6, y7, kvs, rfl, b3, hd3, wd, lk⟩ ⟨rfl, hx⟩
      obtain ⟨b, hb, u, rfl, hu⟩ := BL.get bl2 hx
      have hu3 := b3 _ _ (ne_of hu hd (by intro z; cases z)) hu
      have etk : bs.take (i + 1) = bs.take i ++ [b] := by rw [List.take_add_one, hb]; rfl
      obtain ⟨b1, b2, b5, b6⟩ := hb0 b (List.mem_of_getElem? hb)
      have hil : i < 2000 := by rw [bl.len] at hi; omega
      obtain ⟨se, cl⟩ := b
      dsimp only at *
      obtain ⟨cn, rfl⟩ : ∃ cn : Nat, cl = cn := ⟨cl.toNat, by omega⟩
      have ecn : (se + (cn : Int) - se).toNat = cn := by omega
      refine ⟨u, _, rfl, .inl (.inl hu3), rfl, _, _, rfl, _, _, rfl, rfl, ?_⟩
      refine ⟨.ref d, rfl, .inr (.inr (.inl ⟨rfl, .inl ⟨_, hd3⟩⟩)), .int se, rfl, .int se, rfl, .int cn, rfl, _, _, rfl, rfl, se, se + cn, rfl, ⟨by omega, by omega, by omega, by omega⟩, fun D2 nD2 => ?_⟩
      rw [ecn]
      refine lc_range (lo := se) (n := cn) (fun i H8 => Same H3 H8 ∧ ∃ ps, H8 D2 = some (.lst (ps.map V.ref)) ∧ Paired (fun q kv => H8 q = some (.tup [kV kv.1, kv.2])) ps ((List.range i).map fun (j : Nat) => ((Sum.inl (se + (j : Int)) : Key), V.bl true)))
        ⟨same_upd nD2, [], upd_same, .nil⟩ (fun i H8 hi p8 => ?_) (fun H8 p8 => ?_)
      · obtain ⟨s8, ps, hD8, hpr⟩ := p8
        have lps : ps.length = i := by
          have := hpr.length
          simpa using this
        refine ⟨rfl, .int (se + i), rfl, (by show 2 ≤ sizeLine; decide), fun T nT => ⟨_, by rw [upd_ne (ne_of_none hD8 nT)]; exact hD8, ?_, fun b z hz => ?_, ps ++ [T], ?_, ?_⟩⟩
        · rw [List.length_map, lps]
          exact Nat.lt_of_lt_of_le (show i < 4000001 by omega) (by decide)
        · rw [upd_ne (ne_of_none hz nD2), upd_ne (ne_of_none (s8 _ _ hz) nT)]
          exact s8 _ _ hz
        · rw [upd_same]
          simp
        · rw [List.range_succ, List.map_append]
          refine Paired.snoc ?_ ?_
          · refine paired_imp (fun q kv hq => ?_) hpr
            rw [upd_ne (ne_of hq hD8 (by intro z; cases z)), upd_ne (ne_of_none hq nT)]
            exact hq
          · rw [upd_ne (ne_of_none hD8 nT).symm, upd_same]
            rfl
      · obtain ⟨s8, ps, hD8, hpr⟩ := p8
        refine ⟨D2, ps, _, rfl, .inl (.inl hD8), paired_imp (fun q kv hq => .inl (.inl hq)) hpr, fun q nq => ?_⟩
        have s9 := same_upd (o := .dK (mergeK [] ((List.range cn).map fun (j : Nat) => ((Sum.inl (se + (j : Int)) : Key), V.bl true)))) nq
        have hd9 := s9 _ _ (s8 _ _ hd3)
        have hml : (mergeK [] ((List.range cn).map fun (j : Nat) => ((Sum.inl (se + (j : Int)) : Key), V.bl true))).length ≤ cn := by
          refine Nat.le_trans (length_mergeK _ _) ?_
          simp
        refine ⟨d, q, kvs, _, rfl, rfl, ne_of_none (s8 _ _ hd3) nq, hd9, upd_same, ?_, ?_⟩
        · exact Nat.le_trans (show _ ≤ 4000001 by omega) (by decide)
        refine ⟨_, _, _, _, _, rfl, b3.trans ((Same.but (s8.trans s9)).trans but_upd), upd_same, ?_, ?_⟩
        · rw [etk]
          exact wds_add wd
        · have := length_mergeK (mergeK [] ((List.range cn).map fun (j : Nat) => ((Sum.inl (se + (j : Int)) : Key), V.bl true))) kvs
          omega
    · rintro σ H3 ⟨y2, y3, y7, y4, kvs, rfl, b3, hd3, wd, lk⟩
      have etk : bs.take xs.length = bs := List.take_of_length_le (by rw [bl.len]; exact Nat.le_refl _)
      rw [etk] at wd
      have hD3 := b3 _ _ nDd hD2
      refine ⟨.int W, rfl, .int z, rfl, _, _, rfl, rfl, _, _, rfl, rfl, .int z, rfl, 0, W - z + 1, z, rgN 0 (W - z + 1) z, rfl, RgC.up z0 (by omega) ⟨by decide, by decide⟩ ⟨by omega, by omega⟩, ?_⟩
      have rgl := rgN_le (i := 0) (j := W - z + 1) z0
      obtain ⟨zn, rfl⟩ : ∃ zn : Nat, z = zn := ⟨z.toNat, by omega⟩
      refine for_rangeC (lo := 0) (c := (zn : Int)) (n := rgN 0 (W - zn + 1) zn) (fun i σ H4 => ∃ y6 y7 ns, σ = [some (.ref t), some (.int (zn : Int)), some (.int W), some (.ref d), some (.ref D), y2, y3, y6, y7] ∧ But D H3 H4 ∧ H4 D = some (.lst (List.map V.int ns)) ∧ (∀ x ∈ ns, Spot (zn : Int) bs W x) ∧ ns.length ≤ i ∧ (∀ m : Nat, m < i → Spot (zn : Int) bs W ((0 : Int) + (m : Int) * (zn : Int)) → (0 : Int) + (m : Int) * (zn : Int) ∈ ns) ∧ ns.Pairwise (· < ·) ∧ (∀ x ∈ ns, x < (0 : Int) + (i : Int) * (zn : Int)))
        ⟨_, _, [], rfl, But.refl _ _, hD3, (fun x h => nomatch h), Nat.le_refl _, fun m hm => absurd hm (by omega), .nil, fun x h => nomatch h⟩ ?_ ?_
      · rintro i σ H4 hi ⟨y6, y7, ns, rfl, b4, hD4, ok, ln, all, inc, lt⟩
        have nxt : (0 : Int) + (i : Int) * (zn : Int) < (0 : Int) + ((i + 1 : Nat) : Int) * (zn : Int) := by
          have : ((i + 1 : Nat) : Int) * (zn : Int) = (i : Int) * (zn : Int) + zn := by rw [Int.natCast_add, Int.add_mul]; simp
          omega
        have hm : (0 : Int) + (i : Int) * (zn : Int) ∈ rg3 0 (zn : Int) (rgN 0 (W - zn + 1) zn) := List.mem_map.mpr ⟨i, List.mem_range.mpr hi, rfl⟩
        obtain ⟨m1, m2, m3⟩ := (mem_rg3 z0).mp hm
        rw [Int.sub_zero] at m3
        have allN : ∀ {l : List Int}, (∀ x ∈ ns, x ∈ l) → (Spot (zn : Int) bs W ((0 : Int) + (i : Int) * (zn : Int)) → (0 : Int) + (i : Int) * (zn : Int) ∈ l) → ∀ m : Nat, m < i + 1 → Spot (zn : Int) bs W ((0 : Int) + (m : Int) * (zn : Int)) → (0 : Int) + (m : Int) * (zn : Int) ∈ l := fun h1 h2 m hm2 sp => by
          rcases Nat.lt_or_ge m i with z | z
          · exact h1 _ (all m z sp)
          · obtain rfl : m = i := by omega
            exact h2 sp
        generalize (0 : Int) + ((i + 1 : Nat) : Int) * (zn : Int) = a' at *
        generalize (0 : Int) + (i : Int) * (zn : Int) = a at *
        have hd4 := b4 _ _ nDd.symm hd3
        have ecn : (a + (zn : Int) - a).toNat = zn := by omega
        refine ⟨.int a, rfl, .int a, rfl, .int zn, rfl, _, _, rfl, rfl, a, a + zn, rfl, ⟨by omega, by omega, by omega, by omega⟩, fun E2 nE => ?_⟩
        rw [ecn]
        refine lc_range (lo := a) (n := zn) (fun j H7 => Same H4 H7 ∧ H7 E2 = some (.lst (((List.range j).map fun (j : Nat) => hasI kvs (a + (j : Int))).map V.bl))) ⟨same_upd nE, upd_same⟩ (fun j H7 hj p7 => ?_) (fun H7 p7 => ?_)
        · obtain ⟨s7, hD7⟩ := p7
          refine ⟨rfl, .int (a + j), rfl, .ref d, rfl, d, _, rfl, DGet.k (k := Sum.inl (a + (j : Int))) (s7 _ _ hd4), _, hD7, ?_, fun b z hz => ?_, ?_⟩
          · rw [List.length_map, List.length_map, List.length_range]
            exact Nat.lt_of_lt_of_le (show j < 4000001 by omega) (by decide)
          · rw [upd_ne (ne_of_none hz nE)]
            exact s7 _ _ hz
          · rw [upd_same, List.range_succ]
            simp [hasI]
        · obtain ⟨s7, hE7⟩ := p7
          have hD7 := s7 _ _ hD4
          refine ⟨E2, _, rfl, .inl (.inl hE7), _, rfl, ite2 (fun c0 => ?_) (fun c0 => ?_)⟩
          · have nany : ¬ ((List.range zn).map fun (j : Nat) => hasI kvs (a + (j : Int))).any id = true := fun h => by rw [h] at c0; cases c0
            have spt : Spot (zn : Int) bs W a := ⟨m3, m1, by omega, fun b hb => by
              obtain ⟨b1, b2, b3, b5⟩ := hb0 b hb
              rcases Int.lt_or_le b.1 (a + zn) with h | h
              · rcases Int.lt_or_le a (b.1 + b.2) with h2 | h2
                · exfalso
                  apply nany
                  rcases Int.lt_or_le b.1 a with h3 | h3
                  · exact any_rng.mpr ⟨a, by omega, by omega, (wd a).mpr ⟨b, hb, by omega, by omega⟩⟩
                  · exact any_rng.mpr ⟨b.1, by omega, by omega, (wd b.1).mpr ⟨b, hb, by omega, by omega⟩⟩
                · exact .inr h2
              · exact .inl h⟩
            refine ⟨.ref D, rfl, .inl ⟨rfl, _, .inl (.inl hD7)⟩, .int a, rfl, D, _, _, rfl, rfl, hD7, ?_, _, _, ns ++ [a], rfl, b4.trans ((Same.but s7).trans but_upd), ?_, fun x hx => ?_, ?_, allN (fun x hx => List.mem_append_left _ hx) fun _ => List.mem_append_right _ (List.mem_singleton.mpr rfl), List.pairwise_append.mpr ⟨inc, List.pairwise_singleton _ _, fun x hx y hy => by rw [List.mem_singleton.mp hy]; exact lt x hx⟩, fun x hx => ?_⟩
            · rw [List.length_map]
              exact Nat.lt_of_lt_of_le (show ns.length < 4000001 by omega) (by decide)
            · rw [upd_same, List.map_append]
              rfl
            · rcases List.mem_append.mp hx with h | h
              · exact ok x h
              · rw [List.mem_singleton.mp h]; exact spt
            · rw [List.length_append]
              show ns.length + 1 ≤ i + 1
              omega
            · rcases List.mem_append.mp hx with h | h
              · exact Int.lt_trans (lt x h) nxt
              · rw [List.mem_singleton.mp h]; exact nxt
          · have anyY : ((List.range zn).map fun (j : Nat) => hasI kvs (a + (j : Int))).any id = true := by
              cases e : ((List.range zn).map fun (j : Nat) => hasI kvs (a + (j : Int))).any id with
              | true => rfl
              | false => rw [e] at c0; exact absurd rfl c0
            obtain ⟨w1, h1, h2, h3⟩ := any_rng.mp anyY
            obtain ⟨b, hb, h4, h5⟩ := (wd w1).mp h3
            exact ⟨_, _, ns, rfl, b4.trans (Same.but s7), hD7, ok, by omega, allN (fun x hx => hx) fun sp => (by have := sp.free b hb; omega), inc, fun x hx => Int.lt_trans (lt x hx) nxt⟩
      · rintro σ H4 ⟨y6, y7, ns, rfl, b4, hD4, ok, ln, all, inc, lt⟩
        have whole : ∀ x, Spot (zn : Int) bs W x → x ∈ ns := fun x sp => by
          have hm : x ∈ rg3 0 (zn : Int) (rgN 0 (W - zn + 1) zn) := (mem_rg3 z0).mpr ⟨sp.pos, by have := sp.fit; omega, by rw [Int.sub_zero]; exact sp.mod⟩
          obtain ⟨m, hm1, rfl⟩ := List.mem_map.mp hm
          exact all m (List.mem_range.mp hm1) sp
        exact ⟨.ref D, rfl, q _ D ns (fun b o e => b4 _ _ (ne_of_none e nDH) (b3 _ _ (ne_of_none e nd) (s02 _ _ e))) nDH hD4 ok whole (by omega)⟩
end
end Ph

set_option maxHeartbeats 8000000
namespace Ph
open PySem PySem.Spec PyProof.Rows L2
theorem bl_filt {H H2 : Hp} (pb : Bk → Bool) (sm : Same H H2) : ∀ {ys : List V} {cs : List Bk}, BL H ys cs → BL H2 (ys.filterMap fun x => if pb (kH H x) = true then some x else none) (cs.filter pb) := by
  intro ys cs h
  induction h with
  | nil => exact .nil
  | @cons x b ys cs hb r ih =>
    have e := BkAt.k hb
    by_cases c : pb b = true
    · rw [List.filter_cons_of_pos (p := pb) c, List.filterMap_cons_some (b := x) (by show (if pb (kH H x) = true then some x else none) = some x; rw [e]; exact if_pos c)]
      obtain ⟨t2, e1, e2⟩ := hb
      exact .cons ⟨t2, e1, sm _ _ e2⟩ ih
    · rw [List.filter_cons_of_neg (p := pb) c, List.filterMap_cons_none (by show (if pb (kH H x) = true then some x else none) = none; rw [e]; exact if_neg c)]
      exact ih
theorem cut_last (xs : List V) : cutV xs (some (-1)) none = xs.drop (xs.length - 1) := by
  unfold cutV HT.sIx
  cases xs with
  | nil => rfl
  | cons x r =>
    simp
    have e : (-1 + ((r.length : Int) + 1)).toNat = r.length := by omega
    rw [e]
    exact List.take_of_length_le (by rw [List.length_drop, List.length_cons]; omega)
section
variable {P : Program} {w : World} {K : PySem.W.Frag} {mg : Str → Option Value} {base : Heap}
def spTo : Sp := fun vs H Q _ => ∃ (t : Addr) (bs : List Bk), vs = [.ref t] ∧ StAt H t bs ∧ bs.length ≤ 5000 ∧ ∀ H', Same H H' → Q (.int (tot bs)) H'
theorem ok_To {k : Nat} (Z : Fns K mg) : FnOk P w K mg base CX0 (k + 1) Z.fTo Z.fdTo ["_law_blocks"] spTo := by
  refine Z.FTo.ok scTo (fun vs H Q E h => ?_) (fun cdv A outer s H vs Q E hr h => ?_)
  · obtain ⟨t, bs, rfl, _⟩ := h
    rfl
  · obtain ⟨t, bs, rfl, ⟨xs, ht, bl⟩, hl, q⟩ := h
    refine ⟨_, (pss_one (ps_ret (pe_callB (cr_sum rfl) (by rfl) Z.N.sum (by decide +kernel) (pa_cons (pe_lc (own := [("_law_address", 1), ("_law_size", 2)]) (g := (gTup K 2 (gCons (gName 1) (gCons (gName 2) gNil)))) (tt := tYes) (by rfl) scTo.nd (pi_tup (pv 0)) (blkOk_by (N := scToN) (sc := defScope scToS) (by decide +kernel)) (fun _ _ _ _ _ => (pg_tup (by rfl) (pgs_cons (pg_name (i := 1) scTo.nd rfl (.inl rfl)) (pgs_cons (pg_name (i := 2) scTo.nd rfl (.inl rfl)) pgs_nil)))) (fun _ _ _ _ _ => pts_nil) (fun _ _ _ _ _ => (pv 2))) pa_nil)))), ?_⟩
    refine ⟨.ref t, rfl, t, rfl, ⟨_, .inl (.inl ht)⟩, fun D nD => ?_⟩
    refine lc_tpF (K := K) (fun x => V.int (kH H x).2) (.inl (.inl ht)) nD (by rw [bl.len]; exact Nat.lt_of_le_of_lt hl (by decide)) (fun x hx H2 sm Y hY => ?_) (fun H2 sm hD => ?_)
    · obtain ⟨b, hb⟩ := bl.all x hx
      have e := hb.k
      obtain ⟨u, rfl, hu⟩ := hb
      rw [e] at hY
      exact ⟨u, _, rfl, .inl (.inl (sm _ _ hu)), rfl, _, _, rfl, _, _, rfl, rfl, rfl, .int b.2, rfl, hY _ (Same.refl _)⟩
    · refine ⟨D, bs.map fun (b : Bk) => b.2, rfl, .inl (.inl ?_), q _ sm⟩
      rw [hD, ← bl.map, List.map_map, List.map_map]
      rfl
end
section
variable {P : Program} {w : World} {K : PySem.W.Frag} {mg : Str → Option Value} {base : Heap}
def spMo : Sp := fun vs H Q _ => ∃ (t : Addr) (a s : Int) (bs : List Bk), vs = [.ref t, .int a, .int s] ∧ StAt H t bs ∧ bs.length ≤ 5000 ∧ ∀ H' u cs, Same H H' → StAt H' u cs → cs.Perm (bs ++ [(a, s)]) → (cs.Pairwise fun x y => SrtO.lexB y x = false) → Q (.ref u) H'
theorem ok_Mo {k : Nat} (Z : Fns K mg) : FnOk P w K mg base CX0 (k + 1) Z.fMo Z.fdMo ["_law_blocks", "_law_address", "_law_size"] spMo := by
  refine Z.FMo.ok scMo (fun vs H Q E h => ?_) (fun cdv A outer s H vs Q E hr h => ?_)
  · obtain ⟨t, a, s, bs, rfl, _⟩ := h
    rfl
  · obtain ⟨t, a, sz, bs, rfl, ⟨xs, ht, bl⟩, hl, q⟩ := h
    refine ⟨_, (pss_one (ps_ret (pe_callTy call_tuple_of (by rfl) Z.N.tuple (by decide +kernel) (pa_cons (pe_callB cr_sortedPT (by rfl) Z.N.sorted (by decide +kernel) (pa_cons (pe_op op_catK (pv 0) (pe_tup (pa_cons (pe_tup (pa_cons (pv 1) (pa_cons (pv 2) pa_nil))) pa_nil))) pa_nil)) pa_nil)))), ?_⟩
    refine ⟨.ref t, rfl, .int a, rfl, .int sz, rfl, (by show 2 ≤ sizeLine; decide), fun T nT => ?_⟩
    have sT := same_upd (o := .tup [.int a, .int sz]) nT
    refine ⟨(by show 1 ≤ sizeLine; decide), fun T2 nT2 => ?_⟩
    have sT2 := same_upd (o := .tup [.ref T]) nT2
    have hT : upd (upd H T (.tup [.int a, .int sz])) T2 (.tup [.ref T]) T = some (.tup [.int a, .int sz]) := sT2 _ _ upd_same
    refine ⟨t, T2, _, _, rfl, rfl, .inl (.inl (sT2 _ _ (sT _ _ ht))), .inl (.inl upd_same), ?_, fun q1 H2 s2 hq1 => ?_⟩
    · rw [bl.len]
      exact Nat.le_trans (show bs.length + 1 ≤ 5001 by omega) (by decide)
    have sm : Same H H2 := (sT.trans sT2).trans s2
    have bl2 : BL H2 (xs ++ [V.ref T]) (bs ++ [(a, sz)]) := Paired.snoc (bl.mono fun v zs e => sm _ _ e) ⟨T, rfl, s2 _ _ hT⟩
    refine ⟨q1, _, kH H2, rfl, hq1, fun x hx => ?_, fun ys p srt stb np => ?_⟩
    · obtain ⟨b, hb⟩ := bl2.all x hx
      have e := hb.k
      obtain ⟨u, rfl, hu⟩ := hb
      exact ⟨u, rfl, by rw [e]; exact hu⟩
    have sp := same_upd (o := .lst ys) np
    refine ⟨p, _, rfl, .inl ⟨.inl (.inl upd_same), fun u nu => ?_⟩⟩
    have su := same_upd (o := .tup ys) nu
    have ally : ∀ x ∈ ys, ∃ b, BkAt H2 x b := fun x hx => bl2.all x (stb.perm.mem_iff.mp hx)
    refine q _ u (ys.map (kH H2)) ((sm.trans sp).trans su) ⟨ys, upd_same, (BL.of ally).mono fun v zs e => su _ _ (sp _ _ e)⟩ ?_ ?_
    · rw [← bl2.map]
      exact stb.perm.map _
    · exact List.pairwise_map.mpr srt
def spLe : Sp := fun vs H Q _ => ∃ (t : Addr) (bs : List Bk) (a : Int), vs = [.ref t, .int a] ∧ StAt H t bs ∧ bs.length ≤ 5000 ∧ ∀ H' u, Same H H' → StAt H' u (bs.filter fun b => decide (b.1 ≠ a)) → Q (.ref u) H'
theorem ok_Le {k : Nat} (Z : Fns K mg) : FnOk P w K mg base CX0 (k + 1) Z.fLe Z.fdLe ["_law_blocks", "_law_address"] spLe := by
  refine Z.FLe.ok scLe (fun vs H Q E h => ?_) (fun cdv A outer s H vs Q E hr h => ?_)
  · obtain ⟨t, bs, a, rfl, _⟩ := h
    rfl
  · obtain ⟨t, bs, a, rfl, ⟨xs, ht, bl⟩, hl, q⟩ := h
    refine ⟨_, (pss_one (ps_ret (pe_callTy call_tuple_of (by rfl) Z.N.tuple (by decide +kernel) (pa_cons (pe_lc (own := [("_law_block", 2)]) (g := (gName 2)) (by rfl) scLe.nd (pi_tup (pv 0)) (blkOk_by (N := scLeN) (sc := defScope scLeS) (by decide +kernel)) (fun _ _ _ _ _ => (pg_name (i := 2) scLe.nd rfl (.inl rfl))) (fun _ _ _ _ _ => (pts_one (pt_cmpR op_ne (pe_ix (r := rIxT K) ix_tup (pv 2) pe_int (fun _ _ => rfl)) (pv 1) (nomark _)))) (fun _ _ _ _ _ => (pv 2))) pa_nil)))), ?_⟩
    refine ⟨.ref t, rfl, t, rfl, ⟨_, .inl (.inl ht)⟩, fun D nD => ?_⟩
    refine lc_tupF (xs := xs) (fun x => if decide ((kH H x).1 ≠ a) = true then some x else none) (.inl (.inl ht)) nD (by rw [bl.len]; exact Nat.lt_of_le_of_lt hl (by decide)) (fun x hx H2 sm Y N hY hN => ?_) (fun H2 sm hD => ?_)
    · obtain ⟨b, hb⟩ := bl.all x hx
      have e := hb.k
      obtain ⟨u, rfl, hu⟩ := hb
      have hY' : ∀ y, (if decide (b.1 ≠ a) = true then some (V.ref u) else none) = some y → Y y H2 := fun y h => hY y (by show (if decide ((kH H (V.ref u)).1 ≠ a) = true then _ else _) = _; rw [e]; exact h)
      have hN' : (if decide (b.1 ≠ a) = true then some (V.ref u) else none) = none → N H2 := fun h => hN (by show (if decide ((kH H (V.ref u)).1 ≠ a) = true then _ else _) = _; rw [e]; exact h)
      refine ⟨rfl, .ref u, rfl, u, _, 0, _, rfl, rfl, .inl (.inl (sm _ _ hu)), atI_nat (j := 0) rfl, .int a, rfl, rfl, _, rfl, ite2 (fun c0 => ?_) (fun c0 => ?_)⟩
      · have c1 : b.1 ≠ a := fun z => by rw [z] at c0; simp at c0
        exact ⟨.ref u, rfl, hY' _ (if_pos (decide_eq_true c1))⟩
      · have c1 : ¬ b.1 ≠ a := fun z => c0 (by simp [z])
        exact hN' (if_neg (by simpa using c1))
    · refine ⟨D, _, rfl, .inl ⟨.inl (.inl hD), fun u nu => ?_⟩⟩
      have su := same_upd (o := .tup (xs.filterMap fun x => if decide ((kH H x).1 ≠ a) = true then some x else none)) nu
      exact q _ u (Same.trans sm su) ⟨_, upd_same, BL.kp (bl_filt (fun b => decide (b.1 ≠ a)) sm bl) fun v us e => su _ _ e⟩
end
section
variable {P : Program} {w : World} {K : PySem.W.Frag} {mg : Str → Option Value} {base : Heap}
end
end Ph

set_option maxHeartbeats 8000000
namespace Ph
open PySem PySem.Spec PyProof.Rows L2
section
variable {P : Program} {w : World} {K : PySem.W.Frag} {mg : Str → Option Value} {base : Heap}
def spHl (C : Addr) : Sp := fun vs H Q _ => ∃ (h l c : Addr) (r : Str) (s : Nat → Nat) (p pg M : Nat) (bs : List Bk) (ss : List Tri), vs = [.ref h] ∧ HrS C H h l c r s p pg M bs ss ∧ bs.length ≤ 5000 ∧ ∀ H', Same H H' → Q (.int (tot bs)) H'
theorem ok_Hl {k : Nat} (Z : Fns K mg) : FnOk P w K mg base CX0 (k + 1 + 1) Z.fHl Z.fdHl ["self"] (spHl Z.CHeap) := by
  have GV : FnOk P w K mg base CX0 (k + 1) Z.fV Z.fdV ["state"] spV := ok_V Z
  refine Z.FHl.ok scHl (fun vs H Q E h => ?_) (fun cdv A outer s H vs Q E hr h => ?_)
  · obtain ⟨h, l, c, r, s, p, pg, M, bs, ss, rfl, _⟩ := h
    rfl
  · obtain ⟨h, l, c, r, sz, p, pg, M, bs, ss, rfl, ⟨dx, t, xs, a⟩, hl, q⟩ := h
    refine ⟨_, (pss_one (ps_ret (pe_call GV (hr.mono (by omega)) (by rfl) Z.gV Z.FV.kp Z.bV .nil pass0 (pa_cons (pe_fld (pv 0) rfl) pa_nil)))), ?_⟩
    exact ⟨.ref h, rfl, h, Z.CHeap, dx, _, _, rfl, a.ob, Z.clHeap, Z.naHeap_blocks, hr_blocks, t, bs, rfl, a.st, hl, q⟩
def spPl : Sp := fun vs H Q _ => ∃ (c t : Addr) (C : List Int) (L m s : Int) (bs : List Bk), vs = [.ref c, .int m, .ref t, .int s] ∧ ChAt H c (C ++ [L]) ∧ s ∈ C ++ [L] ∧ 0 < s ∧ s ≤ 2000 ∧ 0 ≤ L ∧ L ≤ 2000 ∧ 0 ≤ m ∧ m ≤ 2000 ∧ StAt H t bs ∧ St (C ++ [L]) (m * L) bs ∧ bs.length ≤ 5000 ∧
  ∀ H' u, Same H H' → H' u = some (.tup ((plf s 0 (bs ++ [(m * L, 0)])).map V.int)) → Q (.ref u) H'
theorem ok_Pl {k : Nat} (Z : Fns K mg) : FnOk P w K mg base CX0 (k + 1 + 1 + 1 + 1 + 1) Z.fPl Z.fdPl ["chain", "pages", "state", "size"] spPl := by
  have GGp : FnOk P w K mg base CX0 (k + 1 + 1 + 1 + 1) Z.fGp Z.fdGp ["chain", "pages", "state", "size"] spGp := ok_Gp Z
  refine Z.FPl.ok scPl (fun vs H Q E h => ?_) (fun cdv A outer s H vs Q E hr h => ?_)
  · obtain ⟨c, t, C, L, m, s, bs, rfl, _⟩ := h
    rfl
  · obtain ⟨c, t, C, L, m, sz, bs, rfl, hc, hs, s0, s1, L0, L1, m0, m1, hst, st, hl, q⟩ := h
    refine ⟨_, (pss_cons (ps_set (i := 4) scPl.nd rfl (.inl rfl) (pe_lst pa_nil))
 (pss_cons (ps_for PassesOwn.never rfl (pi_list (pe_call GGp (hr.mono (by omega)) (by rfl) Z.gGp Z.FGp.kp Z.bGp .nil pass0 (pa_cons (pv 0) (pa_cons (pv 1) (pa_cons (pv 2) (pa_cons (pv 3) pa_nil)))))) (pg_tup (by rfl) (pgs_cons (pg_name (i := 5) scPl.nd rfl (.inl rfl)) (pgs_cons (pg_name (i := 6) scPl.nd rfl (.inl rfl)) pgs_nil)))
 (pss_one (ps_expr (pe_bm PySem.F.plainAttrs_list PySem.F.slot_list_extend PySem.F.type_list_extend mt_extend (pv 4) (pa_cons (pe_listRg3 rfl (by rfl) Z.N.list (by rfl) Z.N.range (pa_cons (pv 5) (pa_cons (pe_op op_add (pv 6) pe_int) (pa_cons (pv 3) pa_nil)))) pa_nil)))))
 (pss_one (ps_ret (pe_callTy call_tuple_of (by rfl) Z.N.tuple (by decide +kernel) (pa_cons (pv 4) pa_nil)))))), ?_⟩
    have mL0 : 0 ≤ m * L := Int.mul_nonneg m0 L0
    have mL1 : m * L ≤ 4000000 := Int.le_trans (Int.mul_le_mul m1 L1 L0 (by omega)) (by decide)
    obtain ⟨asc1, asc2⟩ := st.asc0 mL0
    refine ⟨by decide, fun d nd => ?_⟩
    have sd := same_upd (o := .lst []) nd
    have hd0 : upd H d (.lst []) d = some (.lst []) := upd_same
    refine ⟨.ref c, rfl, .int m, rfl, .ref t, rfl, .int sz, rfl, c, t, C, L, m, sz, bs, rfl, hc.keep sd, hs, s0, s1, L0, L1, m0, m1, hst.same sd, st, hl, fun H1 D ys s1' nD hD bl => ?_⟩
    have gb := gpf_bnd s0 (bs ++ [(m * L, 0)]) 0 asc1 (Int.le_refl _)
    have pln := plf_len s0 (bs ++ [(m * L, 0)]) 0 (m * L) asc1 asc2 mL0
    rw [plf_gpf s0] at pln q
    generalize gpf sz 0 (bs ++ [(m * L, 0)]) = gs at *
    have hd1 := s1' _ _ hd0
    have nDd : D ≠ d := (ne_of_none hd0 nD).symm
    refine ⟨D, rfl, ⟨_, .inl (.inl hD)⟩, ?_⟩
    refine for_list (K := K) (a := D) (xs := ys) (fun i σ H2 => ∃ y5 y6, σ = [some (.ref c), some (.int m), some (.ref t), some (.int sz), some (.ref d), y5, y6] ∧ But d H1 H2 ∧ H2 d = some (.lst (((gs.take i).flatMap (gpr sz)).map V.int)))
      ⟨none, none, rfl, But.refl _ _, hd1⟩ (fun i σ H2 _ p => ?_) ?_ ?_
    · obtain ⟨_, _, _, bt, _⟩ := p
      exact .inl (.inl (bt _ _ nDd hD))
    · rintro i x σ H2 hx ⟨y5, y6, rfl, bt, hd3⟩
      obtain ⟨b, hb, ⟨u, rfl, hu⟩⟩ := bl.get hx
      have hu2 := bt _ _ (ne_of hu hd1 (by intro z; cases z)) hu
      obtain ⟨g1, g2, g3⟩ := gb b (List.mem_of_getElem? hb)
      have etk : gs.take (i + 1) = gs.take i ++ [b] := by rw [List.take_add_one, hb]; rfl
      have ln : ((gs.take (i + 1)).flatMap (gpr sz)).length ≤ (m * L - 0).toNat := by
        refine Nat.le_trans ?_ pln
        conv => rhs; rw [← List.take_append_drop (i + 1) gs]
        rw [List.flatMap_append, List.length_append]
        omega
      rw [etk, List.flatMap_append, List.length_append, List.flatMap_cons, List.flatMap_nil, List.append_nil] at ln
      have ln2 : (gpr sz b).length = rgN b.1 (b.2 + 1) sz := rg3_len _ _ _
      refine ⟨u, _, rfl, .inl (.inl hu2), rfl, _, _, rfl, _, _, rfl, rfl, ?_⟩
      refine ⟨.ref d, rfl, .inl ⟨rfl, _, .inl (.inl hd3)⟩, .int b.1, rfl, .int b.2, rfl, _, _, rfl, rfl, .int sz, rfl, _, _, sz, _, rfl, RgC.up (i := b.1) (j := b.2 + 1) s0 (by omega) ⟨by omega, by omega⟩ ⟨by omega, by omega⟩, Nat.le_trans (show _ ≤ 4000000 by omega) (by decide), fun p np => ?_⟩
      have sp := same_upd (o := .lst ((rg3 b.1 sz (rgN b.1 (b.2 + 1) sz)).map V.int)) np
      refine ⟨d, p, _, _, rfl, rfl, sp _ _ hd3, upd_same, ?_, ?_⟩
      · rw [List.length_map, List.length_map, rg3_len]
        exact Nat.le_trans (show _ ≤ 4000000 by omega) (by decide)
      refine ⟨_, _, rfl, fun v o nv hv => ?_, ?_⟩
      · rw [upd_ne nv]
        exact sp _ _ (bt _ _ nv hv)
      · rw [upd_same, etk, List.flatMap_append, List.map_append, List.flatMap_cons, List.flatMap_nil, List.append_nil]
        rfl
    · rintro σ H2 ⟨y5, y6, rfl, bt, hd3⟩
      have e : gs.take ys.length = gs := List.take_of_length_le (by rw [bl.len]; exact Nat.le_refl _)
      rw [e] at hd3
      refine ⟨.ref d, rfl, d, _, rfl, .inl ⟨.inl (.inl hd3), fun v nv => q _ v (fun a o ha => ?_) upd_same⟩⟩
      exact same_upd nv _ _ (bt _ _ (ne_of_none ha nd) (s1' _ _ (sd _ _ ha)))
end
end Ph

set_option maxHeartbeats 8000000
namespace Ph
open PySem PySem.Spec PyProof.Rows L2
section
variable {X : Cx}
/-! ### t[lo:hi] of any tuple -/
def rSlQ (K : PySem.W.Frag) : V → Option Int → Option Int → Hp → VK → Prop := fun x lo hi H Q => ∃ a xs, x = .ref a ∧ SqT K H a xs ∧ ∀ p H', Same H H' → SqT K H' p (cutV xs lo hi) → Q (.ref p) H'
theorem sl_tupQ : SlR X (rSlQ X.K) := by
  intro pins s σ H x v vl vu lo hi sl Q I rx hs pl pu h
  obtain ⟨a, xs, rfl, hx, q⟩ := h
  exact sl_tupA pins s σ H _ v vl vu lo hi sl Q I rx hs pl pu ⟨a, xs, rfl, hx, fun hw => q a H (Same.refl H) (by rw [cut_whole hw]; exact hx), fun _ p np => q p _ (same_upd np) (.inl (.inl upd_same))⟩
end
theorem sl_tupQK {X : Cx} {K : PySem.W.Frag} (e : X.K = K) : SlR X (rSlQ K) := e ▸ sl_tupQ
theorem cut_init (xs : List V) (v : V) : cutV (xs ++ [v]) none (some (-1)) = xs := by
  have e : HT.sIx (xs ++ [v]).length (xs ++ [v]).length (some (-1)) = xs.length := by
    unfold HT.sIx
    simp
    try omega
  unfold cutV
  rw [e, HT.sIx_none, Nat.sub_zero, List.drop_zero, List.take_left]
theorem dqAll_snoc {K : PySem.W.Frag} {H : Hp} : ∀ {xs : List V} {ds : List PyData}, DqAll K H xs ds → xs ≠ [] → ∃ ys v es d, xs = ys ++ [v] ∧ ds = es ++ [d] ∧ DqAll K H ys es ∧ Dq K H v d
  | _, _, .nil, n => absurd rfl n
  | _, _, @DqAll.cons _ _ x xs d ds h r, _ => by
    by_cases z : xs = []
    · subst z
      cases r
      exact ⟨[], x, [], d, rfl, rfl, .nil, h⟩
    · obtain ⟨ys, v, es, e, h1, h2, h3, h4⟩ := dqAll_snoc r z
      exact ⟨x :: ys, v, d :: es, e, by rw [h1]; rfl, by rw [h2]; rfl, .cons h h3, h4⟩
/-- the data of a get of a size that found no place -/
def FgD (s : Nat → Nat) (p : Nat) (d : PyData) : Prop := ∃ i, i ≤ p ∧ d = .tuple [.str "get", .int ((s i : Nat) : Int), .none]
/-- the data of events whose last one is a get that must fail -/
def ShowD (s : Nat → Nat) (p : Nat) (W : Int) (M : Nat) (de : PyData) : Prop := ∃ ds i bs ss, de = .tuple (ds ++ [.tuple [.str "get", .int ((s i : Nat) : Int), .none]]) ∧ i ≤ p ∧ RunD s p W M ds bs ss ∧ tot bs + ((s i : Nat) : Int) ≤ M ∧ ∀ x, ¬ Spt ((s i : Nat) : Int) bs W x
theorem dq_non {K : PySem.W.Frag} {H : Hp} {x : V} {d : PyData} (h : Dq K H x d) : x = .non ↔ d = .none := by
  cases h <;> constructor <;> intro e <;> cases e <;> rfl
section
variable {P : Program} {w : World} {K : PySem.W.Frag} {mg : Str → Option Value} {base : Heap}
def spFg (K : PySem.W.Frag) : Sp := fun vs H Q _ => ∃ (c : Addr) (x : V) (d : PyData) (s : Nat → Nat) (p : Nat), vs = [.ref c, x] ∧ ChAt H c (tl s (p + 1)) ∧ Dq K H x d ∧ ∀ b, (b = true ↔ FgD s p d) → Q (.bl b) H
theorem ok_Fg {k : Nat} (Z : Fns K mg) : FnOk P w K mg base CX0 (k + 1 + 1 + 1) Z.fFg Z.fdFg ["chain", "value"] (spFg K) := by
  have GZ : FnOk P w K mg base CX0 (k + 1 + 1) Z.fZ Z.fdZ ["chain", "value"] (spZ2 K) := ok_Z2 Z
  refine Z.FFg.ok scFg (fun vs H Q E h => ?_) (fun cdv A outer s H vs Q E hr h => ?_)
  · obtain ⟨c, x, d, s, p, rfl, _⟩ := h
    rfl
  · obtain ⟨c, x, d, sz, p, rfl, hc, dx, q⟩ := h
    refine ⟨_, (pss_cons (ps_if (PW.pt (pw_or (pt_not (pt_val (pe_callB call_isi (by rfl) Z.N.isinstance (by decide +kernel) (pa_cons (pv 1) (pa_cons (pe_bltn (v := .ty "tuple") (by rfl) Z.N.tuple (by decide +kernel) rfl) pa_nil))))) (pw_or1 (pt_cmpR op_ne (pe_callB call_len_seq (by rfl) Z.N.len (by decide +kernel) (pa_cons (pv 1) pa_nil)) pe_int (nomark _)))))
 (pss_one (ps_ret pe_bl)) pss_nil)
 (pss_one (ps_ret (pe_and (pe_cmpR (op_eqW (hu_0 hr)) (pe_ix ix_tup (pv 1) pe_int (fun _ _ => rfl)) pe_str (nomark _)) (pe_and (pe_call GZ (hr.mono (by omega)) (by rfl) Z.gZ Z.FZ.kp Z.bZ .nil pass0 (pa_cons (pv 0) (pa_cons (pe_ix ix_tup (pv 1) pe_int (fun _ _ => rfl)) pa_nil))) (pe_one (pe_cmpR op_isN (pe_ix ix_tup (pv 1) pe_int (fun _ _ => rfl)) pe_non (nomark _)))))))), ?_⟩
    have no : ¬ FgD sz p d → Q (.bl false) H := fun n => q false ⟨fun z => (Bool.false_ne_true z).elim, fun g => absurd g n⟩
    refine ⟨x, rfl, x, .ty "tuple", .type (tyN d), .type "tuple", _, rfl, .ty _, dq_ty dx, kit_ty (dq_isTu dx), _, rfl, ite2 (fun c0 => ?_) (fun c0 => ?_)⟩
    · refine no fun ⟨i, _, e⟩ => ?_
      rw [e] at c0
      simp [isTu] at c0
    cases dx with
    | @tup t ys ds hs ha =>
      have ln := dqAll_len ha
      refine ⟨.ref t, rfl, t, _, rfl, .inr hs, rfl, _, rfl, ite2 (fun c4 => ?_) (fun c4 => ?_)⟩
      · refine no fun ⟨i, _, e⟩ => ?_
        injection e with e
        rw [e] at ln
        simp at c4 ln
        omega
      have l3 : ds.length = 3 := by
        simp at c4
        omega
      obtain ⟨d0, d1, d2, rfl⟩ : ∃ a b c, ds = [a, b, c] := by
        match ds, l3 with
        | [a, b, c], _ => exact ⟨a, b, c, rfl⟩
      cases ha with
      | @cons y0 _ _ _ a0 ha => cases ha with
        | @cons y1 _ _ _ a1 ha => cases ha with
          | @cons y2 _ _ _ a2 ha =>
            cases ha
            refine ⟨.ref t, rfl, t, _, 0, _, rfl, rfl, hs, atI_nat (j := 0) rfl, _, _, rfl, a0, _, rfl, ite2 (fun c1 => ?_) (fun c1 => ?_)⟩
            · have e0 : y0 = .str "get" := of_decide_eq_true c1
              have g0 := (dq_isStr a0 "get").mp e0
              subst g0
              refine ⟨.ref c, rfl, .ref t, rfl, t, _, 1, _, rfl, rfl, hs, atI_nat (j := 1) rfl, c, tl sz (p + 1), y1, rfl, hc.sq, ?_⟩
              rcases dq_noInt a1 with ⟨n1, e1⟩ | ⟨i, rfl, rfl⟩
              · refine .inr ⟨n1, _, rfl, ite2 (fun z => nomatch z) (fun _ => no fun ⟨i, _, e⟩ => ?_)⟩
                injection e with e
                injection e with _ e
                injection e with e _
                exact e1 _ e
              · refine .inl ⟨i, rfl, _, rfl, ite2 (fun c2 => ?_) (fun c2 => no fun ⟨j, hj, e⟩ => ?_)⟩
                · have hi := of_decide_eq_true c2
                  refine ⟨.ref t, rfl, t, _, 2, _, rfl, rfl, hs, atI_nat (j := 2) rfl, rfl, q _ ?_⟩
                  rw [decide_eq_true_iff, dq_non a2]
                  constructor
                  · intro e2
                    obtain ⟨j, hj, ej⟩ := tl_mem.mp hi
                    exact ⟨j, by omega, by rw [e2, ej]⟩
                  · rintro ⟨j, hj, e⟩
                    injection e with e
                    injection e with _ e
                    injection e with _ e
                    injection e with e _
                · injection e with e
                  injection e with _ e
                  injection e with e _
                  injection e with e
                  exact absurd (show i ∈ tl sz (p + 1) from tl_mem.mpr ⟨j, by omega, e⟩) (by simpa using c2)
            · refine no fun ⟨i, _, e⟩ => ?_
              injection e with e
              injection e with e _
              rw [(dq_isStr a0 "get").mpr e] at c1
              exact absurd c1 (by decide +kernel)
    | _ => exact absurd rfl c0
theorem showD_snoc {s : Nat → Nat} {p M : Nat} {W : Int} {es : List PyData} {d : PyData} : ShowD s p W M (.tuple (es ++ [d])) ↔ ∃ i bs ss, d = .tuple [.str "get", .int ((s i : Nat) : Int), .none] ∧ i ≤ p ∧ RunD s p W M es bs ss ∧ tot bs + ((s i : Nat) : Int) ≤ M ∧ ∀ x, ¬ Spt ((s i : Nat) : Int) bs W x := by
  constructor
  · rintro ⟨ds, i, bs, ss, e, hi, r, l, n⟩
    injection e with e
    obtain ⟨e1, e2⟩ := List.append_inj' e rfl
    injection e2 with e2 _
    exact ⟨i, bs, ss, e2, hi, by rw [e1]; exact r, l, n⟩
  · rintro ⟨i, bs, ss, e, hi, r, l, n⟩
    exact ⟨es, i, bs, ss, by rw [e], hi, r, l, n⟩
theorem fgD_uniq {s : Nat → Nat} {p : Nat} (c : CH s (p + 1)) {i j : Nat} (h : (PyData.tuple [.str "get", .int ((s i : Nat) : Int), .none]) = .tuple [.str "get", .int ((s j : Nat) : Int), .none]) : s i = s j := by
  injection h with h
  injection h with _ h
  injection h with h _
  injection h with h
  exact Int.ofNat.inj h
theorem dqAll_same {K : PySem.W.Frag} {H H' : Hp} (s : Same H H') : ∀ {xs : List V} {ds : List PyData}, DqAll K H xs ds → DqAll K H' xs ds
  | _, _, .nil => .nil
  | _, _, .cons h r => .cons (h.same s) (dqAll_same s r)
def spSx (K : PySem.W.Frag) : Sp := fun vs H Q _ => ∃ (c : Addr) (ev : V) (s : Nat → Nat) (p m pg M : Nat) (de : PyData), vs = [.ref c, .int M, .int pg, ev] ∧ ChAt H c (tl s (p + 1)) ∧ Cn s p m ∧ m ≤ 100 ∧ p + 1 ≤ 12 ∧ pg ≤ 2000 ∧ M ≤ 5000 ∧ Dq K H ev de ∧ (∀ ds, de = .tuple ds → ds.length ≤ 50000) ∧
  ∀ H' b, Same H H' → (b = true ↔ ShowD s p ((pg : Int) * ((s p : Nat) : Int)) M de) → Q (.bl b) H'
theorem ok_Sx {k : Nat} (Z : Fns K mg) : FnOk P w K mg base CX0 (k + 1 + 1 + 1 + 1 + 1 + 1 + 1 + 1) Z.fSx Z.fdSx ["chain", "limit", "pages", "value"] (spSx K) := by
  have GFg : FnOk P w K mg base CX0 (k + 1 + 1 + 1) Z.fFg Z.fdFg ["chain", "value"] (spFg K) := ok_Fg Z
  have XRy : FnOk P w K mg base (L2.CX P w) (k + 1 + 1 + 1 + 1 + 1 + 1 + 1) Z.fRy Z.fdRy ["chain", "pages", "limit", "history"] (spRy K Z.CHeap Z.CBadEvent) := okX_Ry Z
  have GHl : FnOk P w K mg base CX0 (k + 1 + 1) Z.fHl Z.fdHl ["self"] (spHl Z.CHeap) := ok_Hl Z
  have GHs : FnOk P w K mg base CX0 (k + 1) Z.fHs Z.fdHs ["self"] (spHs Z.CHeap) := ok_Hs Z
  have GPl : FnOk P w K mg base CX0 (k + 1 + 1 + 1 + 1 + 1) Z.fPl Z.fdPl ["chain", "pages", "state", "size"] spPl := ok_Pl Z
  refine Z.FSx.ok scSx (fun vs H Q E h => ?_) (fun cdv A outer s H vs Q E hr h => ?_)
  · obtain ⟨c, ev, s, p, m, pg, M, de, rfl, _⟩ := h
    rfl
  · obtain ⟨c, ev, sz, p, m, pg, M, de, rfl, hc, cn, m1, p12, pg1, M1, dq, dl, q⟩ := h
    refine ⟨_, (pss_cons (ps_if (PW.pt (pw_or (pt_not (pt_val (pe_callB call_isi (by rfl) Z.N.isinstance (by decide +kernel) (pa_cons (pv 3) (pa_cons (pe_bltn (v := .ty "tuple") (by rfl) Z.N.tuple (by decide +kernel) rfl) pa_nil))))) (pw_or (pt_not (pt_truth (pv 3) (fun _ => rfl))) (pw_or1 (pt_not (pt_val (pe_call GFg (hr.mono (by omega)) (by rfl) Z.gFg Z.FFg.kp Z.bFg .nil pass0 (pa_cons (pv 0) (pa_cons (pe_ix ix_tup (pv 3) (pe_un un_neg pe_int) (fun _ _ => rfl)) pa_nil)))))))))
 (pss_one (ps_ret pe_bl)) pss_nil)
 (pss_cons (ps_try_only (c := .ref Z.CBadEvent) (Wout := fun _ _ _ _ => False) rfl rfl ⟨by rfl, by decide, .inl Z.gcBadEvent⟩ takesNo (fun W pn xe tk _ => pss_one (ps_set (i := 4) scSx.nd rfl (.inl rfl) (pe_callS XRy (hr.mono (by omega)) (by rfl) Z.gRy Z.FRy.kp Z.bRy (fun σ => passAt tk σ) (pa_cons (pv 0) (pa_cons (pv 2) (pa_cons (pv 1) (pa_cons (pe_slice (sl_tupQK (K := K) rfl) (pv 3) po_none (po_some (pe_un un_neg pe_int))) pa_nil))))))) (fun a oe cls d pn hz hf => pss_one (ps_ret pe_bl)))
 (pss_cons (ps_set (i := 5) scSx.nd rfl (.inl rfl) (pe_ix ix_tup (pe_ix ix_tup (pv 3) (pe_un un_neg pe_int) (fun _ _ => rfl)) pe_int (fun _ _ => rfl)))
 (pss_one (ps_ret (pe_and (pe_cmpR op_le (pe_op op_add (pe_meth0 (pv 4) Z.clHeap Z.mHl GHl (hr.mono (by omega)) Z.bHl .nil pass0) (pv 5)) (pv 1) (nomark _)) (pe_one (pe_notT (pe_call GPl (hr.mono (by omega)) (by rfl) Z.gPl Z.FPl.kp Z.bPl .nil pass0 (pa_cons (pv 0) (pa_cons (pv 2) (pa_cons (pe_meth0 (pv 4) Z.clHeap Z.mHs GHs (hr.mono (by omega)) Z.bHs .nil pass0) (pa_cons (pv 5) pa_nil))))))))))))), ?_⟩
    have ch := cn.ch
    have szp : ∀ j, j ≤ p → 0 < sz j ∧ sz j ≤ 100 := fun j hj => ⟨cn.ch.pos (by omega), Nat.le_trans (Nat.le_trans (cn.ch.mono (i := j) (j := p) hj (by omega)) cn.top) m1⟩
    have no : ∀ {H'}, Same H H' → ¬ ShowD sz p ((pg : Int) * ((sz p : Nat) : Int)) M de → Q (.bl false) H' := fun s n => q _ false s ⟨fun z => (Bool.false_ne_true z).elim, fun g => absurd g n⟩
    refine ⟨ev, rfl, ev, .ty "tuple", .type (tyN de), .type "tuple", _, rfl, .ty _, dq_ty dq, kit_ty (dq_isTu dq), _, rfl, ite2 (fun c0 => ?_) (fun c0 => ?_)⟩
    · refine no (.refl _) fun ⟨ds, i, bs, ss, e, _⟩ => ?_
      rw [e] at c0
      simp [isTu] at c0
    cases dq with
    | @tup u ys ds hu ha =>
      by_cases z : ys = []
      · subst z
        cases ha
        refine ⟨.ref u, rfl, false, .inr (.inl ⟨_, hu, rfl⟩), ite2 (fun _ => no (.refl _) ?_) (fun c => absurd rfl c)⟩
        rintro ⟨ds, i, bs, ss, e, _⟩
        injection e with e
        cases ds <;> cases e
      obtain ⟨zs, v, es, d, rfl, rfl, ha2, dv⟩ := dqAll_snoc ha z
      refine ⟨.ref u, rfl, true, .inr (.inl ⟨_, hu, by cases zs <;> rfl⟩), ite2 (fun c => absurd c (by decide)) (fun _ => ?_)⟩
      refine ⟨.ref c, rfl, .ref u, rfl, 1, rfl, u, _, -1, v, rfl, rfl, hu, atI_last _ _, c, v, d, sz, p, rfl, hc, dv, fun b hb => ⟨_, rfl, ite2 (fun c1 => ?_) (fun c1 => ?_)⟩⟩
      · refine no (.refl _) fun sd => ?_
        obtain ⟨i, bs, ss, e, hi, _⟩ := showD_snoc.mp sd
        rw [hb.mpr ⟨i, hi, e⟩] at c1
        cases c1
      obtain ⟨i, hi, ed⟩ := hb.mp (by simpa using c1)
      subst ed
      have zi := szp i hi
      have zp := szp p (Nat.le_refl _)
      have el := dl _ rfl
      rw [List.length_append] at el
      refine ⟨.ref c, rfl, .int pg, rfl, .int M, rfl, .ref u, rfl, 1, rfl, -1, rfl, u, _, rfl, hu, fun u2 H1 s1 hu2 => ?_⟩
      rw [cut_init] at hu2
      refine ⟨c, .ref u2, sz, p, m, pg, M, .tuple es, rfl, hc.keep s1, cn, m1, p12, pg1, M1, .tup hu2 (dqAll_same s1 ha2), fun ds e => ?_, fun bs ss od H2 h l s2 nh nl g => ?_, fun n od H2 d2 s2 hd => ?_⟩
      · injection e with e
        rw [← e]
        omega
      · have s02 := s1.trans s2
        have hu4 := sqT_same s02 hu
        have dv2 := dv.same s02
        have r : RunD sz p ((pg : Int) * ((sz p : Nat) : Int)) M es bs ss := by cases od with | done r => exact r
        have hst := r.hw.st ch
        have len : bs.length ≤ M := r.hw.len ch
        cases dv2 with
        | @tup tv vs _ htv hz => cases hz with
          | cons a0 hz => cases hz with
            | cons a1 hz =>
              cases a1
              refine ⟨.ref u, rfl, 1, rfl, u, _, -1, .ref tv, rfl, rfl, hu4, atI_last _ _, tv, _, 1, _, rfl, rfl, htv, atI_nat (j := 1) rfl, ?_⟩
              obtain ⟨dx, t, xs, a⟩ := id g.hp
              refine ⟨.ref h, rfl, h, dx, _, rfl, a.ob, rfl, h, l, c, "lowest", sz, p, pg, M, bs, ss, rfl, g.hp, by omega, fun H3 s3 => ⟨.int _, rfl, _, _, rfl, rfl, .int M, rfl, _, _, rfl, rfl, _, rfl, ite2 (fun c2 => ?_) (fun c2 => ?_)⟩⟩
              · have lim : tot bs + ((sz i : Nat) : Int) ≤ M := of_decide_eq_true c2
                have g3 := g.same s3
                obtain ⟨dx3, t3, xs3, a3⟩ := id g3.hp
                have eC := tl_succ sz p
                refine ⟨.ref c, rfl, .int pg, rfl, .ref h, rfl, h, dx3, _, rfl, a3.ob, rfl, h, l, c, "lowest", sz, p, pg, M, bs, ss, rfl, g3.hp, fun t4 ht4 => ?_⟩
                refine ⟨.int _, rfl, c, t4, tl sz p, ((sz p : Nat) : Int), (pg : Int), ((sz i : Nat) : Int), bs, rfl, by rw [← eC]; exact (hc.keep s02).keep s3, by rw [← eC]; exact tl_mem.mpr ⟨i, by omega, rfl⟩, by omega, by omega, by omega, by omega, by omega, by omega, ht4, by rw [← eC]; exact hst, by omega, fun H4 w s4 hw => ?_⟩
                refine ⟨_, .inr (.inl ⟨_, .inl (.inl hw), rfl⟩), ?_⟩
                refine q _ _ (s02.trans (s3.trans s4)) ?_
                have pm : ∀ x, x ∈ plf ((sz i : Nat) : Int) 0 (bs ++ [((pg : Int) * ((sz p : Nat) : Int), 0)]) ↔ Spt ((sz i : Nat) : Int) bs ((pg : Int) * ((sz p : Nat) : Int)) x := fun x => by
                  rw [plf_mem (by omega) bs 0 hst.bnd hst.asc (Int.mul_nonneg (by omega) (by omega)) x]
                  exact ⟨fun ⟨a, b, c, d⟩ => ⟨a, b, c, d⟩, fun z => ⟨z.mod, z.pos, z.fit, z.free⟩⟩
                rw [showD_snoc]
                constructor
                · intro e
                  refine ⟨i, bs, ss, rfl, hi, r, lim, fun x hx => ?_⟩
                  have hm := (pm x).mpr hx
                  cases e2 : plf ((sz i : Nat) : Int) 0 (bs ++ [((pg : Int) * ((sz p : Nat) : Int), 0)]) with
                  | nil => rw [e2] at hm; cases hm
                  | cons y r2 => rw [e2] at e; simp at e
                · rintro ⟨i2, bs2, ss2, e, hi2, r2, l2, n2⟩
                  have es2 := fgD_uniq ch e
                  have eo := OutD.uniq ch (.done r2) (.done r)
                  injection eo with eb _
                  subst eb
                  rw [← es2] at n2
                  cases e2 : plf ((sz i : Nat) : Int) 0 (bs2 ++ [((pg : Int) * ((sz p : Nat) : Int), 0)]) with
                  | nil => rfl
                  | cons y r2 => exact absurd ((pm y).mp (by rw [e2]; exact List.mem_cons_self ..)) (n2 y)
              · refine no (s02.trans s3) fun sd => ?_
                obtain ⟨i2, bs2, ss2, e, hi2, r2, l2, n2⟩ := showD_snoc.mp sd
                have es2 := fgD_uniq ch e
                have eo := OutD.uniq ch (.done r2) (.done r)
                injection eo with eb _
                subst eb
                rw [← es2] at l2
                exact c2 (decide_eq_true l2)
      · refine ⟨true, Z.exBadEvent_BadEvent, fun _ a na => ?_, fun z => nomatch z⟩
        refine no (s1.trans s2) fun sd => ?_
        obtain ⟨i2, bs2, ss2, e, hi2, r2, l2, n2⟩ := showD_snoc.mp sd
        cases OutD.uniq ch (.done r2) od
    | _ => exact absurd rfl c0
end
end Ph

set_option maxHeartbeats 8000000
namespace Ph
open PySem PySem.Spec PyProof.Rows L2
theorem if_split {c : TT} {t u : TS} {D : Ends} {σ : L2.St} {H : Hp} (R : Bool → Hp → Prop) (hc : ∀ Q : Bool → Hp → Prop, (∀ b H', R b H' → Q b H') → c σ H Q) (hY : ∀ H', R true H' → t D σ H') (hN : ∀ H', R false H' → u D σ H') : tIfS c t u D σ H := hc _ fun b H' r => by
  cases b with
  | true => exact hY H' r
  | false => exact hN H' r
/-- the data of a get, its address aside, that the limit allows -/
def CanD (s : Nat → Nat) (p M : Nat) (bs : List Bk) (d : PyData) : Prop := ∃ j d2, j ≤ p ∧ d = .tuple [.str "get", .int ((s j : Nat) : Int), d2] ∧ tot bs + ((s j : Nat) : Int) ≤ M
section
variable {P : Program} {w : World} {K : PySem.W.Frag} {mg : Str → Option Value} {base : Heap}
def spIm (K : PySem.W.Frag) : Sp := fun vs H Q _ => ∃ (x : V) (l : Int), vs = [x, .int l] ∧ ((NoInt K H x ∧ Q (.bl false) H) ∨ ∃ i : Int, x = .int i ∧ Q (.bl (decide (i ≥ l))) H)
theorem ok_Im {k : Nat} (Z : Fns K mg) : FnOk P w K mg base CX0 (k + 1) Z.fIm Z.fdIm ["_law_value", "_law_least"] (spIm K) := by
  refine Z.FIm.ok scIm (fun vs H Q E h => ?_) (fun cdv A outer s H vs Q E hr h => ?_)
  · obtain ⟨x, l, rfl, _⟩ := h
    rfl
  · obtain ⟨x, l, rfl, h⟩ := h
    refine ⟨_, (pss_one (ps_ret (pe_and (pe_callB call_isi (by rfl) Z.N.isinstance (by decide +kernel) (pa_cons (pv 0) (pa_cons (pe_bltn (v := .ty "int") (by rfl) Z.N.int (by decide +kernel) rfl) pa_nil))) (pe_and (pe_not (pe_callB call_isi (by rfl) Z.N.isinstance (by decide +kernel) (pa_cons (pv 0) (pa_cons (pe_bltn (v := .ty "bool") (by rfl) Z.N.bool (by decide +kernel) rfl) pa_nil)))) (pe_one (pe_cmpR op_ge (pv 0) (pv 1) (nomark _))))))), ?_⟩
    rcases h with ⟨n, q⟩ | ⟨i, rfl, q⟩
    · cases n with
      | bl b =>
        refine ⟨.bl b, rfl, .bl b, .ty "int", .type "bool", .type "int", true, rfl, .ty _, .base (.bl _), kit_ty (by decide +kernel), _, rfl, ite2 (fun _ => ?_) (fun c => absurd rfl c)⟩
        refine ⟨.bl b, rfl, .bl b, .ty "bool", .type "bool", .type "bool", true, rfl, .ty _, .base (.bl _), kit_ty (by decide +kernel), _, rfl, _, rfl, ite2 (fun c => absurd c (by decide)) (fun _ => q)⟩
      | @ty _ t h n =>
        exact ⟨x, rfl, x, .ty "int", .type t, .type "int", false, rfl, .ty _, h, kit_ty n, _, rfl, ite2 (fun c => absurd c (by decide)) (fun _ => q)⟩
    · refine ⟨.int i, rfl, .int i, .ty "int", .type "int", .type "int", true, rfl, .ty _, .base (.int _), kit_ty (by decide +kernel), _, rfl, ite2 (fun _ => ?_) (fun c => absurd rfl c)⟩
      refine ⟨.int i, rfl, .int i, .ty "bool", .type "int", .type "bool", false, rfl, .ty _, .base (.int _), kit_ty (by decide +kernel), _, rfl, _, rfl, ite2 (fun _ => ?_) (fun c => absurd rfl c)⟩
      exact ⟨.int i, rfl, .int l, rfl, _, _, rfl, rfl, q⟩
def spCg (K : PySem.W.Frag) : Sp := fun vs H Q _ => ∃ (c t : Addr) (s : Nat → Nat) (p m M : Nat) (bs : List Bk) (x : V) (d : PyData), vs = [.ref c, .int M, .ref t, x] ∧ ChAt H c (tl s (p + 1)) ∧ Cn s p m ∧ m ≤ 100 ∧ StAt H t bs ∧ bs.length ≤ 1000 ∧ Dq K H x d ∧ ∀ H' b, Same H H' → (b = true ↔ CanD s p M bs d) → Q (.bl b) H'
theorem ok_Cg {k : Nat} (Z : Fns K mg) : FnOk P w K mg base CX0 (k + 1 + 1) Z.fCg Z.fdCg ["_law_chain_here", "_law_limit", "_law_blocks", "_law_event"] (spCg K) := by
  have GIm : FnOk P w K mg base CX0 (k + 1) Z.fIm Z.fdIm ["_law_value", "_law_least"] (spIm K) := ok_Im Z
  have GTo : FnOk P w K mg base CX0 (k + 1) Z.fTo Z.fdTo ["_law_blocks"] spTo := ok_To Z
  refine Z.FCg.ok scCg (fun vs H Q E h => ?_) (fun cdv A outer s H vs Q E hr h => ?_)
  · obtain ⟨c, t, s, p, m, M, bs, x, d, rfl, _⟩ := h
    rfl
  · obtain ⟨c, t, sz, p, m, M, bs, x, d, rfl, hc, cn, m1, hst, bln, dx, q⟩ := h
    refine ⟨_, (pss_cons (ps_if (PW.pt (pw_or (pt_not (pt_val (pe_callB call_isi (by rfl) Z.N.isinstance (by decide +kernel) (pa_cons (pv 3) (pa_cons (pe_bltn (v := .ty "tuple") (by rfl) Z.N.tuple (by decide +kernel) rfl) pa_nil))))) (pw_or (pt_cmpR op_ne (pe_callB call_len_seq (by rfl) Z.N.len (by decide +kernel) (pa_cons (pv 3) pa_nil)) pe_int (nomark _)) (pw_or (pt_not (pt_val (pe_callB call_isi (by rfl) Z.N.isinstance (by decide +kernel) (pa_cons (pe_ix ix_tup (pv 3) pe_int (fun _ _ => rfl)) (pa_cons (pe_bltn (v := .ty "str") (by rfl) Z.N.str (by decide +kernel) rfl) pa_nil))))) (pw_or1 (pt_cmpR op_ne (pe_ix ix_tup (pv 3) pe_int (fun _ _ => rfl)) pe_str (nomark _)))))))
 (pss_one (ps_ret pe_bl)) pss_nil)
 (pss_one (ps_ret (pe_and (pe_call GIm (hr.mono (by omega)) (by rfl) Z.gIm Z.FIm.kp Z.bIm .nil pass0 (pa_cons (pe_ix ix_tup (pv 3) pe_int (fun _ _ => rfl)) (pa_cons pe_int pa_nil))) (pe_and (pe_cmpR op_in_seq (pe_ix ix_tup (pv 3) pe_int (fun _ _ => rfl)) (pv 0) (by rfl)) (pe_one (pe_cmpR op_le (pe_op op_add (pe_call GTo (hr.mono (by omega)) (by rfl) Z.gTo Z.FTo.kp Z.bTo .nil pass0 (pa_cons (pv 2) pa_nil)) (pe_ix ix_tup (pv 3) pe_int (fun _ _ => rfl))) (pv 1) (nomark _)))))))), ?_⟩
    have no : ¬ CanD sz p M bs d → Q (.bl false) H := fun n => q _ false (.refl _) ⟨fun z => (Bool.false_ne_true z).elim, fun g => absurd g n⟩
    refine ⟨x, rfl, x, .ty "tuple", .type (tyN d), .type "tuple", _, rfl, .ty _, dq_ty dx, kit_ty (dq_isTu dx), _, rfl, ite2 (fun c0 => ?_) (fun c0 => ?_)⟩
    · refine no fun ⟨i, d2, _, e, _⟩ => ?_
      rw [e] at c0
      simp [isTu] at c0
    cases dx with
    | @tup u ys ds hs ha =>
      have ln := dqAll_len ha
      refine ⟨.ref u, rfl, u, _, rfl, .inr hs, rfl, _, rfl, ite2 (fun c4 => ?_) (fun c4 => ?_)⟩
      · refine no fun ⟨i, d2, _, e, _⟩ => ?_
        injection e with e
        rw [e] at ln
        simp at c4 ln
        omega
      have l3 : ds.length = 3 := by
        simp at c4
        omega
      obtain ⟨d0, d1, d2, rfl⟩ : ∃ a b c, ds = [a, b, c] := by
        match ds, l3 with
        | [a, b, c], _ => exact ⟨a, b, c, rfl⟩
      cases ha with
      | @cons y0 _ _ _ a0 ha => cases ha with
        | @cons y1 _ _ _ a1 ha => cases ha with
          | @cons y2 _ _ _ a2 ha =>
            cases ha
            refine ⟨.ref u, rfl, u, _, 0, _, rfl, rfl, hs, atI_nat (j := 0) rfl, y0, .ty "str", .type (tyN d0), .type "str", _, rfl, .ty _, dq_ty a0, kit_ty (dq_str a0), _, rfl, ite2 (fun c2 => ?_) (fun c2 => ?_)⟩
            · refine no fun ⟨i, e2, _, e, _⟩ => ?_
              injection e with e
              injection e with e _
              rw [(dq_isStr a0 "get").mpr e] at c2
              simp [isSt] at c2
            obtain ⟨w, rfl, rfl⟩ : ∃ w, y0 = .str w ∧ d0 = .str w := by
              cases a0 <;> first | exact absurd rfl c2 | exact ⟨_, rfl, rfl⟩
            refine ⟨.ref u, rfl, u, _, 0, _, rfl, rfl, hs, atI_nat (j := 0) rfl, rfl, _, rfl, ite2 (fun c3 => ?_) (fun c3 => ?_)⟩
            · refine no fun ⟨i, e2, _, e, _⟩ => ?_
              injection e with e
              injection e with e _
              injection e with e
              rw [e] at c3
              exact absurd c3 (by decide +kernel)
            obtain rfl : w = "get" := by simpa using c3
            refine ⟨.ref u, rfl, u, _, 1, _, rfl, rfl, hs, atI_nat (j := 1) rfl, y1, 1, rfl, ?_⟩
            rcases dq_noInt a1 with ⟨n1, e1⟩ | ⟨i, rfl, rfl⟩
            · refine .inl ⟨n1, _, rfl, ite2 (fun z => nomatch z) (fun _ => no fun ⟨i, e2, _, e, _⟩ => ?_)⟩
              injection e with e
              injection e with _ e
              injection e with e _
              exact e1 _ e
            · refine .inr ⟨i, rfl, _, rfl, ite2 (fun c5 => ?_) (fun c5 => no fun ⟨j, e2, hj, e, _⟩ => ?_)⟩
              · refine ⟨.ref u, rfl, u, _, 1, _, rfl, rfl, hs, atI_nat (j := 1) rfl, .ref c, rfl, c, _, rfl, .inr hc.sq, rfl, flat_ints _, ?_⟩
                rw [if_neg Bool.false_ne_true, in_intsL]
                refine ⟨_, rfl, ite2 (fun c6 => ?_) (fun c6 => no fun ⟨j, e2, hj, e, _⟩ => ?_)⟩
                · have hz := of_decide_eq_true c6
                  obtain ⟨j, hj, ej⟩ := tl_mem.mp hz
                  refine ⟨.ref t, rfl, t, bs, rfl, hst, by omega, fun H1 s1 => ⟨.ref u, rfl, u, _, 1, _, rfl, rfl, sqT_same s1 hs, atI_nat (j := 1) rfl, _, _, rfl, rfl, .int M, rfl, _, _, rfl, rfl, ?_⟩⟩
                  refine q _ _ s1 ?_
                  rw [decide_eq_true_iff]
                  constructor
                  · intro l
                    exact ⟨j, d2, by omega, by rw [ej], by rw [← ej]; exact l⟩
                  · rintro ⟨j2, e2, hj2, e, l⟩
                    injection e with e
                    injection e with _ e
                    injection e with e _
                    injection e with e
                    rw [e]
                    exact l
                · injection e with e
                  injection e with _ e
                  injection e with e _
                  injection e with e
                  exact absurd (show i ∈ tl sz (p + 1) from tl_mem.mpr ⟨j, by omega, e⟩) (by simpa using c6)
              · injection e with e
                injection e with _ e
                injection e with e _
                injection e with e
                have := cn.ch.pos (i := j) (by omega)
                exact c5 (decide_eq_true (by omega))
    | _ => exact absurd rfl c0
end
end Ph

set_option maxHeartbeats 8000000
namespace Ph
open PySem PySem.Spec PyProof.Rows L2
section
variable {P : Program} {w : World} {K : PySem.W.Frag} {mg : Str → Option Value} {base : Heap}
def spAf (K : PySem.W.Frag) : Sp := fun vs H Q _ => ∃ (c t : Addr) (s : Nat → Nat) (p m M : Nat) (W : Int) (bs : List Bk) (x : V) (d : PyData), vs = [.ref c, .int M, .int W, .ref t, x] ∧ ChAt H c (tl s (p + 1)) ∧ Cn s p m ∧ m ≤ 100 ∧ 0 ≤ W ∧ W ≤ 4000 ∧ StAt H t bs ∧ bs.length ≤ 1000 ∧ St (tl s (p + 1)) W bs ∧ Dq K H x d ∧
  (∀ H', Same H H' → ¬ GoodD s p W M bs d → Q .non H') ∧ ∀ H' u cs st, Same H H' → StAt H' u cs → evD st = d → GoodD s p W M bs d → (∀ rs, Hw s p W M rs bs → Hw s p W M (st :: rs) cs) → Q (.ref u) H'
theorem ok_Af {k : Nat} (Z : Fns K mg) : FnOk P w K mg base CX0 (k + 1 + 1 + 1) Z.fAf Z.fdAf ["_law_chain_here", "_law_limit", "_law_words", "_law_blocks", "_law_event"] (spAf K) := by
  have GIm : FnOk P w K mg base CX0 (k + 1) Z.fIm Z.fdIm ["_law_value", "_law_least"] (spIm K) := ok_Im Z
  have GCg : FnOk P w K mg base CX0 (k + 1 + 1) Z.fCg Z.fdCg ["_law_chain_here", "_law_limit", "_law_blocks", "_law_event"] (spCg K) := ok_Cg Z
  have GFp : FnOk P w K mg base CX0 (k + 1) Z.fFp Z.fdFp ["_law_blocks", "_law_size", "_law_words"] spFp := ok_Fp Z
  have GMo : FnOk P w K mg base CX0 (k + 1) Z.fMo Z.fdMo ["_law_blocks", "_law_address", "_law_size"] spMo := ok_Mo Z
  have GLe : FnOk P w K mg base CX0 (k + 1) Z.fLe Z.fdLe ["_law_blocks", "_law_address"] spLe := ok_Le Z
  refine Z.FAf.ok scAf (fun vs H Q E h => ?_) (fun cdv A outer s H vs Q E hr h => ?_)
  · obtain ⟨c, t, s, p, m, M, W, bs, x, d, rfl, _⟩ := h
    rfl
  · obtain ⟨c, t, sz, p, m, M, W, bs, x, d, rfl, hc, cn, m1, W0, W1, hst, bln, st, dx, qN, qY⟩ := h
    refine ⟨_, (pss_cons (ps_if (pt_val (pe_call GCg (hr.mono (by omega)) (by rfl) Z.gCg Z.FCg.kp Z.bCg .nil pass0 (pa_cons (pv 0) (pa_cons (pv 1) (pa_cons (pv 3) (pa_cons (pv 4) pa_nil))))))
 (pss_cons (ps_if (PW.pt (pw_or (pt_not (pt_val (pe_call GIm (hr.mono (by omega)) (by rfl) Z.gIm Z.FIm.kp Z.bIm .nil pass0 (pa_cons (pe_ix ix_tup (pv 4) pe_int (fun _ _ => rfl)) (pa_cons pe_int pa_nil))))) (pw_or1 (pt_cmpR op_notIn_seq (pe_ix ix_tup (pv 4) pe_int (fun _ _ => rfl)) (pe_call GFp (hr.mono (by omega)) (by rfl) Z.gFp Z.FFp.kp Z.bFp .nil pass0 (pa_cons (pv 3) (pa_cons (pe_ix ix_tup (pv 4) pe_int (fun _ _ => rfl)) (pa_cons (pv 2) pa_nil)))) (by rfl)))))
 (pss_one (ps_ret pe_non)) pss_nil)
 (pss_one (ps_ret (pe_call GMo (hr.mono (by omega)) (by rfl) Z.gMo Z.FMo.kp Z.bMo .nil pass0 (pa_cons (pv 3) (pa_cons (pe_ix ix_tup (pv 4) pe_int (fun _ _ => rfl)) (pa_cons (pe_ix ix_tup (pv 4) pe_int (fun _ _ => rfl)) pa_nil))))))) pss_nil)
 (pss_cons (ps_if (PW.pt (pw_or (pt_not (pt_val (pe_callB call_isi (by rfl) Z.N.isinstance (by decide +kernel) (pa_cons (pv 4) (pa_cons (pe_bltn (v := .ty "tuple") (by rfl) Z.N.tuple (by decide +kernel) rfl) pa_nil))))) (pw_or (pt_cmpR op_ne (pe_callB call_len_seq (by rfl) Z.N.len (by decide +kernel) (pa_cons (pv 4) pa_nil)) pe_int (nomark _)) (pw_or (pt_not (pt_val (pe_callB call_isi (by rfl) Z.N.isinstance (by decide +kernel) (pa_cons (pe_ix ix_tup (pv 4) pe_int (fun _ _ => rfl)) (pa_cons (pe_bltn (v := .ty "str") (by rfl) Z.N.str (by decide +kernel) rfl) pa_nil))))) (pw_or1 (pt_cmpR op_ne (pe_ix ix_tup (pv 4) pe_int (fun _ _ => rfl)) pe_str (nomark _)))))))
 (pss_one (ps_ret pe_non)) pss_nil)
 (pss_cons (ps_if (PW.pt (pw_or (pt_not (pt_val (pe_call GIm (hr.mono (by omega)) (by rfl) Z.gIm Z.FIm.kp Z.bIm .nil pass0 (pa_cons (pe_ix ix_tup (pv 4) pe_int (fun _ _ => rfl)) (pa_cons pe_int pa_nil))))) (pw_or1 (pt_cmpR op_notIn_seq (pe_ix ix_tup (pv 4) pe_int (fun _ _ => rfl)) (pe_lc (own := [("_law_address", 5), ("_law_size", 6)]) (g := (gTup K 2 (gCons (gName 5) (gCons (gName 6) gNil)))) (tt := tYes) (by rfl) scAf.nd (pi_tup (pv 3)) (blkOk_by (N := scAfN) (sc := defScope scAfS) (by decide +kernel)) (fun _ _ _ _ _ => (pg_tup (by rfl) (pgs_cons (pg_name (i := 5) scAf.nd rfl (.inl rfl)) (pgs_cons (pg_name (i := 6) scAf.nd rfl (.inl rfl)) pgs_nil)))) (fun _ _ _ _ _ => pts_nil) (fun _ _ _ _ _ => (pv 5))) (by rfl)))))
 (pss_one (ps_ret pe_non)) pss_nil)
 (pss_one (ps_ret (pe_call GLe (hr.mono (by omega)) (by rfl) Z.gLe Z.FLe.kp Z.bLe .nil pass0 (pa_cons (pv 3) (pa_cons (pe_ix ix_tup (pv 4) pe_int (fun _ _ => rfl)) pa_nil)))))))), ?_⟩
    have top : ∀ j, j ≤ p → 0 < sz j ∧ sz j ≤ 100 := fun j hj => ⟨cn.ch.pos (by omega), Nat.le_trans (cn.ch.mono (i := j) (j := p) hj (by omega)) (Nat.le_trans cn.top m1)⟩
    have hbk : ∀ b ∈ bs, 0 ≤ b.1 ∧ b.1 ≤ 4000000 ∧ 1 ≤ b.2 ∧ b.2 ≤ 2000 := fun b hb => by
      obtain ⟨h0, h1, h2, _, h3⟩ := st.ok b hb
      obtain ⟨j, hj, e⟩ := tl_mem.mp h0
      have := top j (by omega)
      omega
    refine ⟨.ref c, rfl, .int M, rfl, .ref t, rfl, x, rfl, c, t, sz, p, m, M, bs, x, d, rfl, hc, cn, m1, hst, bln, dx, fun H1 b s1 hb => ⟨_, rfl, ite2 (fun c1 => ?_) (fun c1 => ?_)⟩⟩
    · -- a get
      obtain ⟨j, d2, hj, ed, lim⟩ := hb.mp c1
      have tj := top j hj
      have dx1 := dx.same s1
      subst ed
      cases dx1 with
      | @tup u ys _ hs ha => cases ha with
        | @cons y0 _ _ _ a0 ha => cases ha with
          | @cons y1 _ _ _ a1 ha => cases ha with
            | @cons y2 _ _ _ a2 ha =>
              cases ha
              cases a1
              refine if_split (fun b H' => Same H1 H' ∧ ((b = true ∧ ¬ GoodD sz p W M bs (.tuple [.str "get", .int ((sz j : Nat) : Int), d2])) ∨ (b = false ∧ ∃ a : Int, y2 = .int a ∧ d2 = .int a ∧ Spot ((sz j : Nat) : Int) bs W a))) (fun Q' hQ' => ?_) (fun H2 pc => ?_) (fun H2 pc => ?_)
              · refine ⟨.ref u, rfl, u, _, 2, _, rfl, rfl, hs, atI_nat (j := 2) rfl, y2, 0, rfl, ?_⟩
                have bad : (∀ a, d2 = .int a → ¬ Spot ((sz j : Nat) : Int) bs W a) → ¬ GoodD sz p W M bs (.tuple [.str "get", .int ((sz j : Nat) : Int), d2]) := fun n g => by
                  rcases g with ⟨i, a, _, e, _, sp⟩ | ⟨b, _, e⟩
                  · injection e with e
                    injection e with _ e
                    injection e with e1 e
                    injection e with e _
                    injection e1 with e1
                    rw [← e1] at sp
                    exact n a e ⟨sp.mod, sp.pos, sp.fit, sp.free⟩
                  · injection e with e
                    injection e with _ e
                    injection e with _ e
                    cases e
                rcases dq_noInt a2 with ⟨n2, e2⟩ | ⟨a, rfl, rfl⟩
                · exact .inl ⟨n2, _, rfl, ite2 (fun _ => hQ' _ _ ⟨.refl _, .inl ⟨rfl, bad fun a e => absurd e (e2 a)⟩⟩) (fun c => absurd rfl c)⟩
                · refine .inr ⟨a, rfl, _, rfl, ite2 (fun c2 => hQ' _ _ ⟨.refl _, .inl ⟨rfl, bad fun a' e sp => ?_⟩⟩) (fun c2 => ?_)⟩
                  · injection e with e
                    have := sp.pos
                    rw [← e] at this
                    have h2 : ¬ a ≥ 0 := by simpa using c2
                    omega
                  · refine ⟨.ref u, rfl, u, _, 2, _, rfl, rfl, hs, atI_nat (j := 2) rfl, .ref t, rfl, .ref u, rfl, u, _, 1, _, rfl, rfl, hs, atI_nat (j := 1) rfl, .int W, rfl, t, _, W, bs, rfl, hst.same s1, by omega, by omega, W0, W1, by omega, hbk, fun H2 D ns s2 nD hD spt whole nsl => ?_⟩
                    refine ⟨D, _, rfl, .inl (.inl (.inl hD)), rfl, flat_ints _, ?_⟩
                    rw [if_pos rfl, in_intsL]
                    refine ⟨_, rfl, hQ' _ _ ⟨s2, ?_⟩⟩
                    by_cases hm : a ∈ ns
                    · exact .inr ⟨by simp [hm], a, rfl, rfl, spt a hm⟩
                    · exact .inl ⟨by simp [hm], bad fun a' e sp => by
                        injection e with e
                        rw [← e] at sp
                        exact hm (whole a sp)⟩
              · obtain ⟨s2, ⟨_, ng⟩ | ⟨z, _⟩⟩ := pc
                · exact qN _ (s1.trans s2) ng
                · cases z
              · obtain ⟨s2, ⟨z, _⟩ | ⟨_, a, rfl, rfl, sp⟩⟩ := pc
                · cases z
                have hs2 := sqT_same s2 hs
                refine ⟨.ref t, rfl, .ref u, rfl, u, _, 2, _, rfl, rfl, hs2, atI_nat (j := 2) rfl, .ref u, rfl, u, _, 1, _, rfl, rfl, hs2, atI_nat (j := 1) rfl, t, a, _, bs, rfl, (hst.same s1).same s2, by omega, fun H3 v cs s3 hv pm srt => ?_⟩
                exact qY _ v cs (("get" : Str), a, ((sz j : Nat) : Int)) (s1.trans (s2.trans s3)) hv (evD_get _ _) (.inl ⟨j, a, hj, rfl, lim, ⟨sp.mod, sp.pos, sp.fit, sp.free⟩⟩) (fun rs hw => .get hw hj lim ⟨sp.mod, sp.pos, sp.fit, sp.free⟩ pm srt)
    · -- no get
      have nc : ¬ CanD sz p M bs d := fun g => c1 (hb.mpr g)
      have gF : GoodD sz p W M bs d → ∃ b ∈ bs, d = .tuple [.str "free", .int b.1] := fun g => by
        rcases g with ⟨j, a, hj, e, l, _⟩ | h
        · exact absurd ⟨j, _, hj, e, l⟩ nc
        · exact h
      have dx1 := dx.same s1
      refine (show ∀ {D : Ends} {σ : L2.St} {H : Hp}, D.nx σ H → tNext D σ H from fun h => h) ?_
      dsimp only
      refine if_split (fun b H' => Same H1 H' ∧ ((b = true ∧ ¬ GoodD sz p W M bs d) ∨ (b = false ∧ ∃ u y1 d1, x = .ref u ∧ SqT K H1 u [.str "free", y1] ∧ Dq K H1 y1 d1 ∧ d = .tuple [.str "free", d1]))) (fun Q' hQ' => ?_) (fun H2 pc => ?_) (fun H2 pc => ?_)
      · have no : ¬ GoodD sz p W M bs d → Q' true H1 := fun n => hQ' _ _ ⟨.refl _, .inl ⟨rfl, n⟩⟩
        refine ⟨x, rfl, x, .ty "tuple", .type (tyN d), .type "tuple", _, rfl, .ty _, dq_ty dx1, kit_ty (dq_isTu dx1), _, rfl, ite2 (fun c0 => ?_) (fun c0 => ?_)⟩
        · refine no fun g => ?_
          obtain ⟨b, _, e⟩ := gF g
          rw [e] at c0
          simp [isTu] at c0
        cases dx1 with
        | @tup u ys ds hs ha =>
          have ln := dqAll_len ha
          refine ⟨.ref u, rfl, u, _, rfl, .inr hs, rfl, _, rfl, ite2 (fun c4 => ?_) (fun c4 => ?_)⟩
          · refine no fun g => ?_
            obtain ⟨b, _, e⟩ := gF g
            injection e with e
            rw [e] at ln
            simp at c4 ln
            omega
          have l2 : ds.length = 2 := by
            simp at c4
            omega
          obtain ⟨d0, d1, rfl⟩ : ∃ a b, ds = [a, b] := by
            match ds, l2 with
            | [a, b], _ => exact ⟨a, b, rfl⟩
          cases ha with
          | @cons y0 _ _ _ a0 ha => cases ha with
            | @cons y1 _ _ _ a1 ha =>
              cases ha
              refine ⟨.ref u, rfl, u, _, 0, _, rfl, rfl, hs, atI_nat (j := 0) rfl, y0, .ty "str", .type (tyN d0), .type "str", _, rfl, .ty _, dq_ty a0, kit_ty (dq_str a0), _, rfl, ite2 (fun c2 => ?_) (fun c2 => ?_)⟩
              · refine no fun g => ?_
                obtain ⟨b, _, e⟩ := gF g
                injection e with e
                injection e with e _
                rw [(dq_isStr a0 "free").mpr e] at c2
                simp [isSt] at c2
              obtain ⟨w, rfl, rfl⟩ : ∃ w, y0 = .str w ∧ d0 = .str w := by
                cases a0 <;> first | exact absurd rfl c2 | exact ⟨_, rfl, rfl⟩
              refine ⟨.ref u, rfl, u, _, 0, _, rfl, rfl, hs, atI_nat (j := 0) rfl, rfl, _, rfl, ?_⟩
              by_cases wf : w = "free"
              · subst wf
                exact hQ' _ _ ⟨.refl _, .inr ⟨by decide +kernel, u, y1, d1, rfl, hs, a1, rfl⟩⟩
              · refine hQ' _ _ ⟨.refl _, .inl ⟨by simpa using wf, fun g => ?_⟩⟩
                obtain ⟨b, _, e⟩ := gF g
                injection e with e
                injection e with e _
                injection e with e
                exact wf e
        | _ => exact absurd rfl c0
      · obtain ⟨s2, ⟨_, ng⟩ | ⟨z, _⟩⟩ := pc
        · exact qN _ (s1.trans s2) ng
        · cases z
      · obtain ⟨s2, ⟨z, _⟩ | ⟨_, u, y1, d1, rfl, hs, a1, rfl⟩⟩ := pc
        · cases z
        have s12 := s1.trans s2
        have hs2 := sqT_same s2 hs
        have a12 := a1.same s2
        have hst2 := hst.same s12
        refine (show ∀ {D : Ends} {σ : L2.St} {H : Hp}, D.nx σ H → tNext D σ H from fun h => h) ?_
        dsimp only
        refine if_split (fun b H' => Same H2 H' ∧ ((b = true ∧ ¬ GoodD sz p W M bs (.tuple [.str "free", d1])) ∨ (b = false ∧ ∃ b0 ∈ bs, y1 = .int b0.1 ∧ d1 = .int b0.1))) (fun Q' hQ' => ?_) (fun H3 pc => ?_) (fun H3 pc => ?_)
        · have bad : (∀ b ∈ bs, d1 ≠ .int b.1) → ¬ GoodD sz p W M bs (.tuple [.str "free", d1]) := fun n g => by
            obtain ⟨b, hb, e⟩ := gF g
            injection e with e
            injection e with _ e
            injection e with e _
            exact n b hb e
          refine ⟨.ref u, rfl, u, _, 1, _, rfl, rfl, hs2, atI_nat (j := 1) rfl, y1, 0, rfl, ?_⟩
          rcases dq_noInt a12 with ⟨n1, e1⟩ | ⟨i, rfl, rfl⟩
          · exact .inl ⟨n1, _, rfl, ite2 (fun _ => hQ' _ _ ⟨.refl _, .inl ⟨rfl, bad fun b hb e => e1 _ e⟩⟩) (fun c => absurd rfl c)⟩
          · refine .inr ⟨i, rfl, _, rfl, ite2 (fun c2 => hQ' _ _ ⟨.refl _, .inl ⟨rfl, bad fun b hb e => ?_⟩⟩) (fun c2 => ?_)⟩
            · injection e with e
              have h1 := hbk b hb
              have h2 : ¬ i ≥ 0 := by simpa using c2
              omega
            · obtain ⟨xs, ht, bl⟩ := id hst2
              refine ⟨.ref u, rfl, u, _, 1, _, rfl, rfl, hs2, atI_nat (j := 1) rfl, .ref t, rfl, t, rfl, ⟨_, .inl (.inl ht)⟩, fun D nD => ?_⟩
              refine lc_tpF (K := K) (fun x => V.int (kH H2 x).1) (.inl (.inl ht)) nD (by rw [bl.len]; exact Nat.lt_of_le_of_lt bln (by decide)) (fun y hy H4 sm Y hY => ?_) (fun H4 sm hD => ?_)
              · obtain ⟨b, hb⟩ := bl.all y hy
                have e := hb.k
                obtain ⟨v, rfl, hv⟩ := hb
                rw [e] at hY
                exact ⟨v, _, rfl, .inl (.inl (sm _ _ hv)), rfl, _, _, rfl, _, _, rfl, rfl, rfl, .int b.1, rfl, hY _ (Same.refl _)⟩
              · have e1 : xs.map (fun x => V.int (kH H2 x).1) = (bs.map fun b => b.1).map V.int := by
                  rw [← bl.map, List.map_map, List.map_map]
                  rfl
                rw [e1] at hD
                refine ⟨D, _, rfl, .inl (.inl (.inl hD)), rfl, flat_ints _, ?_⟩
                rw [if_pos rfl, in_intsL]
                refine ⟨_, rfl, hQ' _ _ ⟨sm, ?_⟩⟩
                by_cases hm : i ∈ bs.map fun b => b.1
                · obtain ⟨b, hb, e⟩ := List.mem_map.mp hm
                  exact .inr ⟨by simp only [hm, decide_true, Bool.not_true], b, hb, by rw [e], by rw [e]⟩
                · exact .inl ⟨by simp only [hm, decide_false, Bool.not_false], bad fun b hb e => by
                    injection e with e
                    exact hm (List.mem_map.mpr ⟨b, hb, e.symm⟩)⟩
        · obtain ⟨s3, ⟨_, ng⟩ | ⟨z, _⟩⟩ := pc
          · exact qN _ (s12.trans s3) ng
          · cases z
        · obtain ⟨s3, ⟨z, _⟩ | ⟨_, b0, hb0, rfl, rfl⟩⟩ := pc
          · cases z
          have hs3 := sqT_same s3 hs2
          refine ⟨.ref t, rfl, .ref u, rfl, u, _, 1, _, rfl, rfl, hs3, atI_nat (j := 1) rfl, t, bs, b0.1, rfl, hst2.same s3, by omega, fun H4 v s4 hv => ?_⟩
          exact qY _ v _ (("free" : Str), b0.1, b0.2) (s12.trans (s3.trans s4)) hv (evD_free _ _) (.inr ⟨b0, hb0, rfl⟩) (fun rs hw => .free hw hb0)
end
end Ph

set_option maxHeartbeats 8000000
namespace Ph
open PySem PySem.Spec PyProof.Rows L2
section
variable {P : Program} {w : World} {K : PySem.W.Frag} {mg : Str → Option Value} {base : Heap}
def spDx (K : PySem.W.Frag) : Sp := fun vs H Q _ => ∃ (c : Addr) (ev : V) (s : Nat → Nat) (p m M : Nat) (W : Int) (de : PyData), vs = [.ref c, .int M, .int W, ev] ∧ ChAt H c (tl s (p + 1)) ∧ Cn s p m ∧ m ≤ 100 ∧ 0 ≤ W ∧ W ≤ 4000 ∧ M ≤ 1000 ∧ Dq K H ev de ∧ ∀ H' b, Same H H' → (b = true ↔ ShowD s p W M de) → Q (.bl b) H'
theorem ok_Dx {k : Nat} (Z : Fns K mg) : FnOk P w K mg base CX0 (k + 1 + 1 + 1 + 1) Z.fDx Z.fdDx ["_law_chain_here", "_law_limit", "_law_words", "_law_value"] (spDx K) := by
  have GCg : FnOk P w K mg base CX0 (k + 1 + 1) Z.fCg Z.fdCg ["_law_chain_here", "_law_limit", "_law_blocks", "_law_event"] (spCg K) := ok_Cg Z
  have GAf : FnOk P w K mg base CX0 (k + 1 + 1 + 1) Z.fAf Z.fdAf ["_law_chain_here", "_law_limit", "_law_words", "_law_blocks", "_law_event"] (spAf K) := ok_Af Z
  have GFp : FnOk P w K mg base CX0 (k + 1) Z.fFp Z.fdFp ["_law_blocks", "_law_size", "_law_words"] spFp := ok_Fp Z
  refine Z.FDx.ok scDx (fun vs H Q E h => ?_) (fun cdv A outer s H vs Q E hr h => ?_)
  · obtain ⟨c, ev, s, p, m, M, W, de, rfl, _⟩ := h
    rfl
  · obtain ⟨c, ev, sz, p, m, M, W, de, rfl, hc, cn, m1, W0, W1, M1, dq, q⟩ := h
    have hu64 := u64_of hr
    refine ⟨_, (pss_cons (ps_if (PW.pt (pw_or (pt_not (pt_val (pe_callB call_isi (by rfl) Z.N.isinstance (by decide +kernel) (pa_cons (pv 3) (pa_cons (pe_bltn (v := .ty "tuple") (by rfl) Z.N.tuple (by decide +kernel) rfl) pa_nil))))) (pw_or1 (pt_cmpR (op_eqT0 (hu_0 hr)) (pv 3) (pe_tup pa_nil) (nomark _)))))
 (pss_one (ps_ret pe_bl)) pss_nil)
 (pss_cons (ps_set (i := 4) scDx.nd rfl (.inl rfl) (pe_tup pa_nil))
 (pss_cons (ps_for PassesOwn.never rfl (pi_tup (pe_slice sl_tupQ (pv 3) po_none (po_some (pe_un un_neg pe_int)))) (pg_name (i := 5) scDx.nd rfl (.inl rfl))
 (pss_cons (ps_set (i := 4) scDx.nd rfl (.inl rfl) (pe_call GAf (hr.mono (by omega)) (by rfl) Z.gAf Z.FAf.kp Z.bAf .nil pass0 (pa_cons (pv 0) (pa_cons (pv 1) (pa_cons (pv 2) (pa_cons (pv 4) (pa_cons (pv 5) pa_nil)))))))
 (pss_one (ps_if (pt_cmpR op_isN (pv 4) pe_non (nomark _))
 (pss_one (ps_ret pe_bl)) pss_nil))))
 (pss_cons (ps_if (PW.pt (pw_or (pt_not (pt_val (pe_call GCg (hr.mono (by omega)) (by rfl) Z.gCg Z.FCg.kp Z.bCg .nil pass0 (pa_cons (pv 0) (pa_cons (pv 1) (pa_cons (pv 4) (pa_cons (pe_ix ix_tup (pv 3) (pe_un un_neg pe_int) (fun _ _ => rfl)) pa_nil))))))) (pw_or1 (pt_cmpR op_notN (pe_ix ix_tup (pe_ix ix_tup (pv 3) (pe_un un_neg pe_int) (fun _ _ => rfl)) pe_int (fun _ _ => rfl)) pe_non (nomark _)))))
 (pss_one (ps_ret pe_bl)) pss_nil)
 (pss_one (ps_ret (pe_cmpR (op_eqD hu64) (pe_call GFp (hr.mono (by omega)) (by rfl) Z.gFp Z.FFp.kp Z.bFp .nil pass0 (pa_cons (pv 4) (pa_cons (pe_ix ix_tup (pe_ix ix_tup (pv 3) (pe_un un_neg pe_int) (fun _ _ => rfl)) pe_int (fun _ _ => rfl)) (pa_cons (pv 2) pa_nil)))) (pe_lst pa_nil) (nomark _)))))))), ?_⟩
    have ch := cn.ch
    have top : ∀ j, j ≤ p → 0 < sz j ∧ sz j ≤ 100 := fun j hj => ⟨cn.ch.pos (by omega), Nat.le_trans (cn.ch.mono (i := j) (j := p) hj (by omega)) (Nat.le_trans cn.top m1)⟩
    have no : ∀ {H'}, Same H H' → ¬ ShowD sz p W M de → Q (.bl false) H' := fun s n => q _ false s ⟨fun z => (Bool.false_ne_true z).elim, fun g => absurd g n⟩
    refine ⟨ev, rfl, ev, .ty "tuple", .type (tyN de), .type "tuple", _, rfl, .ty _, dq_ty dq, kit_ty (dq_isTu dq), _, rfl, ite2 (fun c0 => ?_) (fun c0 => ?_)⟩
    · refine no (.refl _) fun ⟨ds, i, bs, ss, e, _⟩ => ?_
      rw [e] at c0
      simp [isTu] at c0
    cases dq with
    | @tup u ys ds hu ha =>
      refine ⟨.ref u, rfl, Nat.zero_le _, fun T nT => ⟨u, T, ys, rfl, rfl, (same_upd nT).tup hu, .inl (.inl upd_same), ?_⟩⟩
      have sT := same_upd (o := .tup []) nT
      generalize upd H T (.tup []) = H1 at *
      have hu1 := sT.tup hu
      refine ⟨_, rfl, ite2 (fun c1 => ?_) (fun c1 => ?_)⟩
      · refine no sT ?_
        rintro ⟨es, i, bs, ss, e, _⟩
        injection e with e
        cases ha with
        | nil => cases es <;> cases e
        | cons _ _ => cases c1
      have z : ys ≠ [] := fun z => by
        rw [z] at c1
        exact c1 rfl
      obtain ⟨zs, v, es, d, rfl, rfl, ha2, dv⟩ := dqAll_snoc ha z
      refine ⟨(by show 0 ≤ sizeLine; decide), fun t0 nt0 => ?_⟩
      have st0 := same_upd (o := .tup []) nt0
      have ht0 : StAt (upd H1 t0 (.tup [])) t0 [] := ⟨[], upd_same, .nil⟩
      have s2 := sT.trans st0
      generalize upd H1 t0 (.tup []) = H2 at *
      refine ⟨.ref u, rfl, 1, rfl, -1, rfl, u, _, rfl, sqT_same st0 hu1, fun u2 H3 s3 hu2 => ?_⟩
      rw [cut_init] at hu2
      refine ⟨u2, rfl, ⟨_, hu2⟩, ?_⟩
      have s03 := s2.trans s3
      have ha3 := dqAll_same s03 ha2
      have zl := dqAll_len ha2
      refine for_it (walk_tup (K := K) (a := u2) (xs := zs)) (fun i σ H' => ∃ y5 t bs ss, σ = [some (.ref c), some (.int M), some (.int W), some (.ref u), some (.ref t), y5] ∧ Same H3 H' ∧ StAt H' t bs ∧ RunD sz p W M (es.take i) bs ss)
        ⟨none, t0, [], [], rfl, .refl _, ht0.same s3, run_nil⟩ (fun i σ H' _ p => ?_) ?_ ?_
      · obtain ⟨_, _, _, _, _, s4, _⟩ := p
        exact sqT_same s4 hu2
      · rintro i x σ H0 H4 hi ⟨y5, t, bs, ss, rfl, s4, hst, rn⟩ ⟨rfl, hx⟩
        obtain ⟨d2, ed2, dq2⟩ := dqAll_get ha3 hx
        have etk : es.take (i + 1) = es.take i ++ [d2] := by rw [List.take_add_one, ed2]; rfl
        have bln := rn.hw.len ch
        refine ⟨.ref c, rfl, .int M, rfl, .int W, rfl, .ref t, rfl, x, rfl, c, t, sz, p, m, M, W, bs, x, d2, rfl, (hc.keep s03).keep s4, cn, m1, W0, W1, hst, by omega, rn.hw.st ch, dq2.same s4, fun H5 s5 ng => ?_, fun H5 v2 cs stp s5 hv2 ee _ step => ?_⟩
        · refine ⟨.non, rfl, rfl, _, rfl, ite2 (fun _ => ?_) (fun c => absurd (by simp) c)⟩
          refine no (s03.trans (s4.trans s5)) fun sd => ?_
          obtain ⟨i2, bs2, ss2, e, hi2, r2, _⟩ := showD_snoc.mp sd
          cases OutD.uniq ch (.done r2) (.bad rn ed2 ng)
        · refine ⟨.ref v2, rfl, rfl, _, rfl, ite2 (fun c => absurd c (by simp)) (fun _ => ?_)⟩
          refine ⟨_, v2, cs, ss ++ [stp], rfl, s4.trans s5, hv2, ⟨?_, ?_⟩⟩
          · rw [List.reverse_append]
            exact step _ rn.hw
          · rw [etk, List.map_append, ← rn.ev, List.map_cons, ee, List.map_nil]
      · rintro σ H4 ⟨y5, t, bs, ss, rfl, s4, hst, rn⟩
        rw [List.take_of_length_le (by omega)] at rn
        have s04 := s03.trans s4
        have hu4 := sqT_same s04 hu
        have bln := rn.hw.len ch
        have hst0 := rn.hw.st ch
        have dv4 := dv.same s04
        have same : ∀ {bs2 ss2}, RunD sz p W M es bs2 ss2 → bs2 = bs := fun r2 => by
          have eo := OutD.uniq ch (.done r2) (.done rn)
          injection eo
        refine ⟨.ref c, rfl, .int M, rfl, .ref t, rfl, .ref u, rfl, 1, rfl, u, _, -1, v, rfl, rfl, hu4, atI_last _ _, c, t, sz, p, m, M, bs, v, d, rfl, hc.keep s04, cn, m1, hst, by omega, dv4, fun H5 b s5 hb => ⟨_, rfl, ite2 (fun c1 => ?_) (fun c1 => ?_)⟩⟩
        · refine no (s04.trans s5) fun sd => ?_
          obtain ⟨i2, bs2, ss2, e, hi2, r2, l2, _⟩ := showD_snoc.mp sd
          have := same r2
          subst this
          rw [hb.mpr ⟨i2, _, hi2, e, l2⟩] at c1
          cases c1
        obtain ⟨j, d2, hj, ed, lim⟩ := hb.mp (by simpa using c1)
        have tj := top j hj
        subst ed
        have s05 := s04.trans s5
        have hu5 := sqT_same s05 hu
        have dv5 := dv.same s05
        cases dv5 with
        | @tup tv vs _ htv hz => cases hz with
          | cons a0 hz => cases hz with
            | cons a1 hz => cases hz with
              | @cons y2 _ _ _ a2 hz =>
                cases hz
                cases a1
                refine ⟨.ref u, rfl, 1, rfl, u, _, -1, .ref tv, rfl, rfl, hu5, atI_last _ _, tv, _, 2, _, rfl, rfl, htv, atI_nat (j := 2) rfl, rfl, _, rfl, ite2 (fun c2 => ?_) (fun c2 => ?_)⟩
                · refine no s05 fun sd => ?_
                  obtain ⟨i2, bs2, ss2, e, hi2, r2, l2, _⟩ := showD_snoc.mp sd
                  injection e with e
                  injection e with _ e
                  injection e with _ e
                  injection e with e _
                  rw [(dq_non a2).mpr e] at c2
                  exact absurd c2 (by simp)
                have y2n : y2 = .non := by simpa using c2
                have e2 := (dq_non a2).mp y2n
                subst e2
                have hbk : ∀ b ∈ bs, 0 ≤ b.1 ∧ b.1 ≤ 4000000 ∧ 1 ≤ b.2 ∧ b.2 ≤ 2000 := fun b hb => by
                  obtain ⟨h0, h1, h2, _, h3⟩ := hst0.ok b hb
                  obtain ⟨j2, hj2, e⟩ := tl_mem.mp h0
                  have := top j2 (by omega)
                  omega
                refine ⟨.ref t, rfl, .ref u, rfl, 1, rfl, u, _, -1, .ref tv, rfl, rfl, hu5, atI_last _ _, tv, _, 1, _, rfl, rfl, htv, atI_nat (j := 1) rfl, .int W, rfl, t, _, W, bs, rfl, hst.same s5, by omega, by omega, W0, W1, by omega, hbk, fun H6 D ns s6 nD hD spt whole nsl => ?_⟩
                refine ⟨(by show 0 ≤ sizeLine; decide), fun D2 nD2 => ?_⟩
                have sD2 := same_upd (o := .lst []) nD2
                refine ⟨.list (ns.map PyData.int), .list [], .lst (.inl (.inl (sD2 _ _ hD))) (dpI _), .lst (.inl (.inl upd_same)) .nil, il_shaped _, il_shaped [], q _ _ (s05.trans (s6.trans sD2)) ?_⟩
                rw [eqv_nilL, showD_snoc]
                constructor
                · intro e
                  refine ⟨j, bs, ss, rfl, hj, rn, lim, fun x hx => ?_⟩
                  have hm := whole x ⟨hx.mod, hx.pos, hx.fit, hx.free⟩
                  rw [List.isEmpty_iff.mp e] at hm
                  cases hm
                · rintro ⟨i2, bs2, ss2, e, hi2, r2, l2, n2⟩
                  have := same r2
                  subst this
                  rw [← fgD_uniq ch e] at n2
                  cases ns with
                  | nil => rfl
                  | cons y r => exact absurd ((spt y (List.mem_cons_self ..)).spt) (n2 y)
    | _ => exact absurd rfl c0
end
end Ph

set_option maxHeartbeats 8000000
namespace Ph
open PySem PySem.Spec PyProof.Rows L2
/-! ### events with something else at some place -/
def ll : Nat → Nat
  | 0 => 0
  | 1 => 3
  | _ => 15
def wI : Nat → Nat
  | 0 => 200
  | 1 => 603
  | _ => 9060
def wB : Nat → Nat
  | 0 => 2000
  | 1 => 4000
  | _ => 23000
/-- nested tuples: m deep, numbers and words within -/
def Itm : Nat → Hp → V → Prop
  | 0, _, x => (∃ i : Int, x = .int i ∧ i.natAbs ≤ 4000) ∨ x = .non ∨ x = .str "get" ∨ x = .str "free"
  | m + 1, H, x => ∃ t xs, x = .ref t ∧ H t = some (.tup xs) ∧ xs.length ≤ ll (m + 1) ∧ ∀ y ∈ xs, Itm m H y
theorem Itm.but {q : Addr} {H H' : Hp} {c : Nat} (hq : Dr c H q) (b : But q H H') : ∀ {m : Nat} {x : V}, Itm m H x → Itm m H' x
  | 0, _, h => h
  | m + 1, _, ⟨t, xs, e, ht, l, h⟩ => ⟨t, xs, e, b _ _ (hq.netup ht) ht, l, fun y hy => Itm.but hq b (h y hy)⟩
theorem Itm.same {H H' : Hp} (b : Same H H') : ∀ {m : Nat} {x : V}, Itm m H x → Itm m H' x
  | 0, _, h => h
  | m + 1, _, ⟨t, xs, e, ht, l, h⟩ => ⟨t, xs, e, b _ _ ht, l, fun y hy => Itm.same b (h y hy)⟩
theorem shd_words : Shd (.str "get") 0 120 ∧ Shd (.str "free") 0 120 := ⟨⟨by decide +kernel, by decide +kernel, by decide +kernel, by decide +kernel, by decide +kernel⟩, ⟨by decide +kernel, by decide +kernel, by decide +kernel, by decide +kernel, by decide +kernel⟩⟩
theorem Itm.any0 {K : PySem.W.Frag} {q : Addr} {H : Hp} {x : V} (h : Itm 0 H x) : AnyE K q H 0 200 x := by
  rcases h with ⟨i, rfl, hi⟩ | rfl | rfl | rfl
  · exact (AnyE.intB (Nat.lt_of_le_of_lt hi (by decide))).up (Nat.le_refl _) (by decide)
  · exact AnyE.non.up (Nat.le_refl _) (by decide)
  · exact (AnyE.str shd_words.1).up (Nat.le_refl _) (by decide)
  · exact (AnyE.str shd_words.2).up (Nat.le_refl _) (by decide)
theorem Itm.any {K : PySem.W.Frag} {q : Addr} {H : Hp} {c : Nat} (hq : Dr c H q) : ∀ {m : Nat} {x : V}, m ≤ 2 → Itm m H x → AnyE K q H m (wI m) x
  | 0, _, _, h => h.any0
  | 1, _, _, ⟨t, xs, e, ht, l, h⟩ => by
    rw [e]
    refine (AnyE.tup ht (hq.netup ht) fun y hy => (h y hy).any0).up (Nat.le_refl _) ?_
    have : xs.length ≤ 3 := l
    show (200 + 1) * xs.length ≤ 603
    omega
  | 2, _, _, ⟨t, xs, e, ht, l, h⟩ => by
    rw [e]
    refine (AnyE.tup ht (hq.netup ht) fun y hy => Itm.any (m := 1) hq (by decide) (h y hy)).up (Nat.le_refl _) ?_
    have : xs.length ≤ 15 := l
    show (603 + 1) * xs.length ≤ 9060
    omega
  | m + 3, _, hm, _ => absurd hm (by omega)
theorem AnyE.notTup {K : PySem.W.Frag} {H : Hp} {x : V} (h : Itm 0 H x) : ∃ d, Dq K H x d ∧ isTu d = false := by
  rcases h with ⟨i, rfl, hi⟩ | rfl | rfl | rfl
  · exact ⟨_, .int i, rfl⟩
  · exact ⟨_, .non, rfl⟩
  · exact ⟨_, .str _, rfl⟩
  · exact ⟨_, .str _, rfl⟩
section
variable {P : Program} {w : World} {K : PySem.W.Frag} {mg : Str → Option Value} {base : Heap}
def spBt (K : PySem.W.Frag) (m : Nat) : Sp := fun vs H Q _ => ∃ (q : Addr) (x : V) (dp : Int) (c : Nat), vs = [.ref q, x, .int dp] ∧ Dr c H q ∧ c + 100 + 10 * m < drCap ∧ 0 ≤ dp ∧ dp ≤ 100 ∧ Itm m H x ∧ ∀ H' c' y, But q H H' → Dr c' H' q → c' ≤ c + 3 * (m + 1) → AnyE K q H' (m + 2) (wB m) y → Q y H'
theorem ok_BtS {k m : Nat} {S : Sp} (Z : Fns K mg) (m2 : m ≤ 2) (GBt : FnOk P w K mg base CX0 (k + 1 + 1 + 1) Z.fBt Z.fdBt ["_law_draws_here", "_law_item", "_law_deep"] S) (hS : ∀ m', m = m' + 1 → S = spBt K m') : FnOk P w K mg base CX0 (k + 1 + 1 + 1 + 1) Z.fBt Z.fdBt ["_law_draws_here", "_law_item", "_law_deep"] (spBt K m) := by
  have GNx : FnOk P w K mg base CX0 (k + 1) Z.fNx Z.fdNx ["_law_draws_here", "_law_bound"] spNx := ok_Nx Z
  have GPk : FnOk P w K mg base CX0 (k + 1 + 1) Z.fPk Z.fdPk ["_law_draws_here", "_law_items"] (spPk K) := ok_Pk Z
  refine Z.FBt.ok scBt (fun vs H Q E h => ?_) (fun cdv A outer s H vs Q E hr h => ?_)
  · obtain ⟨q, x, dp, c, rfl, _⟩ := h
    rfl
  · obtain ⟨q, x, dp, c, rfl, hq, cc, dp0, dp1, it, fin⟩ := h
    refine ⟨_, (pss_cons (ps_set (i := 3) scBt.nd rfl (.inl rfl) (pe_lst (pa_cons pe_non (pa_cons pe_bl (pa_cons pe_bl (pa_cons pe_int (pa_cons pe_int (pa_cons pe_int (pa_cons pe_int (pa_cons (pe_un un_neg pe_int) (pa_cons pe_str (pa_cons pe_str (pa_cons pe_str (pa_cons (pe_tup pa_nil) (pa_cons (pe_lst pa_nil) (pa_cons pe_dnewK (pa_cons (pe_tup (pa_cons pe_int pa_nil)) (pa_cons (pe_op op_pow pe_int pe_int) pa_nil))))))))))))))))))
 (pss_cons (ps_if (PW.pt (pw_or (pt_not (pt_val (pe_callB call_isi (by rfl) Z.N.isinstance (by decide +kernel) (pa_cons (pv 1) (pa_cons (pe_bltn (v := .ty "tuple") (by rfl) Z.N.tuple (by decide +kernel) rfl) pa_nil))))) (pw_or (pt_cmpR (op_eqT0 (hu_0 hr)) (pv 1) (pe_tup pa_nil) (nomark _)) (pw_or (pt_cmpR op_eq (pv 2) pe_int (nomark _)) (pw_or1 (pt_cmpR op_eq (pe_call GNx (hr.mono (by omega)) (by rfl) Z.gNx Z.FNx.kp Z.bNx .nil pass0 (pa_cons (pv 0) (pa_cons pe_int pa_nil))) pe_int (nomark _)))))))
 (pss_cons (ps_if (pt_val (pe_callB call_isi (by rfl) Z.N.isinstance (by decide +kernel) (pa_cons (pv 1) (pa_cons (pe_bltn (v := .ty "tuple") (by rfl) Z.N.tuple (by decide +kernel) rfl) pa_nil))))
 (pss_one (ps_set (i := 3) scBt.nd rfl (.inl rfl) (pe_op op_cat (pv 3) (pe_op op_rep (pe_lst (pa_cons (pe_slice sl_tupS (pv 1) (po_some pe_int) po_none) (pa_cons (pe_slice sl_tupS (pv 1) po_none (po_some (pe_un un_neg pe_int))) (pa_cons (pe_op op_catS (pv 1) (pe_slice sl_tupS (pv 1) po_none (po_some pe_int))) (pa_cons (pe_revT (pv 1)) (pa_cons (pe_callTy call_list_of (by rfl) Z.N.list (by decide +kernel) (pa_cons (pv 1) pa_nil)) (pa_cons (pe_tup (pa_cons (pv 1) pa_nil)) pa_nil))))))) pe_int)))) pss_nil)
 (pss_one (ps_ret (pe_call GPk (hr.mono (by omega)) (by rfl) Z.gPk Z.FPk.kp Z.bPk .nil pass0 (pa_cons (pv 0) (pa_cons (pv 3) pa_nil)))))) pss_nil)
 (pss_cons (ps_set (i := 4) scBt.nd rfl (.inl rfl) (pe_call GNx (hr.mono (by omega)) (by rfl) Z.gNx Z.FNx.kp Z.bNx .nil pass0 (pa_cons (pv 0) (pa_cons (pe_callB call_len_seq (by rfl) Z.N.len (by decide +kernel) (pa_cons (pv 1) pa_nil)) pa_nil))))
 (pss_one (ps_ret (pe_op op_catS (pe_op op_catS (pe_slice sl_tupS (pv 1) po_none (po_some (pv 4))) (pe_tup (pa_cons (pe_call GBt (hr.mono (by omega)) (by rfl) Z.gBt Z.FBt.kp Z.bBt .nil pass0 (pa_cons (pv 0) (pa_cons (pe_ix ix_tup (pv 1) (pv 4) (fun _ _ => rfl)) (pa_cons (pe_op op_sub (pv 2) pe_int) pa_nil)))) pa_nil))) (pe_slice sl_tupS (pv 1) (po_some (pe_op op_add (pv 4) pe_int)) po_none))))))), ?_⟩
    refine ⟨1, rfl, Nat.zero_le _, fun t1 n1 => ⟨Nat.zero_le _, fun l1 m1 => ?_⟩⟩
    refine fun d1 k1 => ?_
    refine ⟨(by show 1 ≤ sizeLine; decide), fun t2 n2 => ⟨_, _, rfl, rfl, ⟨by decide, by decide, by decide⟩, (by show 16 ≤ sizeLine; decide), fun L nL => ?_⟩⟩
    have u1 := same_upd (o := .tup []) n1
    have e1 : upd H t1 (.tup []) t1 = some (.tup []) := upd_same
    generalize upd H t1 (.tup []) = H1 at *
    have u2 := same_upd (o := .lst []) m1
    have e2 : upd H1 l1 (.lst []) l1 = some (.lst []) := upd_same
    generalize upd H1 l1 (.lst []) = H2 at *
    have u3 := same_upd (o := .dK []) k1
    have e3 : upd H2 d1 (.dK []) d1 = some (.dK []) := upd_same
    generalize upd H2 d1 (.dK []) = H3 at *
    have u4 := same_upd (o := .tup [.int 0]) n2
    have e4 : upd H3 t2 (.tup [.int 0]) t2 = some (.tup [.int 0]) := upd_same
    generalize upd H3 t2 (.tup [.int 0]) = H5 at *
    have s2 := u1.trans u2
    have s3 := s2.trans u3
    have s5 := s3.trans u4
    have c3 := u4
    have c2 := u3.trans c3
    have c1 := u2.trans c2
    have nq : ∀ {G : Hp} {a : Addr}, Same H G → G a = none → a ∉ [q] := fun {G a} s n z => (hq.same s).ne_none n (List.mem_singleton.mp z).symm
    have sd : ∀ {d : PyData}, d.showable = true ∧ d.depth ≤ 2 ∧ d.leavesShort 40 = true ∧ d.weight ≤ 2000 ∧ cpD d = true → Shd d 2 2000 := fun h => ⟨h.1, h.2.1, h.2.2.1, h.2.2.2.1, h.2.2.2.2⟩
    have nt : ∀ {b : Addr} {xs : List V}, H5 b = some (.tup xs) → ntb H5 b = some (.tup xs) := fun e => ntb_at e fun _ z => nomatch z
    have nl : ∀ {b : Addr} {xs : List V}, H5 b = some (.lst xs) → ntb H5 b = some (.lst xs) := fun e => ntb_at e fun _ z => nomatch z
    have nd : ∀ {b : Addr} {xs : List (Key × V)}, H5 b = some (.dK xs) → ntb H5 b = some (.dK xs) := fun e => ntb_at e fun _ z => nomatch z
    have o1 := OdV.tup (K := K) (S := [q]) (n := 0) (nt (c1 _ _ e1)) (nq (Same.refl _) n1) .nil (sd (by decide +kernel))
    have o2 := OdV.lst (K := K) (S := [q]) (n := 0) (nl (c2 _ _ e2)) (nq u1 m1) .nil (sd (by decide +kernel))
    have o3 := OdV.dct (K := K) (S := [q]) (n := 0) (nd (c3 _ _ e3)) (nq s2 k1) .nil (sd (by decide +kernel))
    have o4 := OdV.tup (K := K) (S := [q]) (n := 0) (nt e4) (nq s3 n2) (.cons (.int 0) .nil) (sd (by decide +kernel))
    have ol : OdL K [q] (ntb H5) [V.non, .bl true, .bl false, .int 0, .int 1, .int 2, .int 4, .int (-1), .str "", .str "get", .str "free", .ref t1, .ref l1, .ref d1, .ref t2, .int (10 ^ (30 : Int).toNat)] :=
      .cons .non (.cons (.bl _) (.cons (.bl _) (.cons (.int (by decide)) (.cons (.int (by decide)) (.cons (.int (by decide)) (.cons (.int (by decide)) (.cons (.int (by decide)) (.cons (.str _ (sd (by decide +kernel))) (.cons (.str _ (sd (by decide +kernel))) (.cons (.str _ (sd (by decide +kernel))) (.cons o1 (.cons o2 (.cons o3 (.cons o4 (.cons (.intB (by decide)) .nil)))))))))))))))
    have sL := same_upd (o := .lst [V.non, .bl true, .bl false, .int 0, .int 1, .int 2, .int 4, .int (-1), .str "", .str "get", .str "free", .ref t1, .ref l1, .ref d1, .ref t2, .int (10 ^ (30 : Int).toNat)]) nL
    have ol6 := fun x hx => (ol x hx).elim fun d o => (⟨d, o.same (ntb_same sL)⟩ : ∃ d, OdV K [q] (ntb _) 0 x d)
    have s6 := s5.trans sL
    have hL : upd H5 L (.lst [V.non, .bl true, .bl false, .int 0, .int 1, .int 2, .int 4, .int (-1), .str "", .str "get", .str "free", .ref t1, .ref l1, .ref d1, .ref t2, .int (10 ^ (30 : Int).toNat)]) L = some (.lst [V.non, .bl true, .bl false, .int 0, .int 1, .int 2, .int 4, .int (-1), .str "", .str "get", .str "free", .ref t1, .ref l1, .ref d1, .ref t2, .int (10 ^ (30 : Int).toNat)]) := upd_same
    generalize upd H5 L (.lst [V.non, .bl true, .bl false, .int 0, .int 1, .int 2, .int 4, .int (-1), .str "", .str "get", .str "free", .ref t1, .ref l1, .ref d1, .ref t2, .int (10 ^ (30 : Int).toNat)]) = H6 at *
    have blen : [V.non, .bl true, .bl false, .int 0, .int 1, .int 2, .int 4, .int (-1), .str "", .str "get", .str "free", .ref t1, .ref l1, .ref d1, .ref t2, .int (10 ^ (30 : Int).toNat)].length = 16 := rfl
    generalize [V.non, .bl true, .bl false, .int 0, .int 1, .int 2, .int 4, .int (-1), .str "", .str "get", .str "free", .ref t1, .ref l1, .ref d1, .ref t2, .int (10 ^ (30 : Int).toNat)] = bas at *
    dsimp only [gName]
    have Lq : L ≠ q := fun z => nq s5 nL (by rw [z]; exact List.mem_singleton.mpr rfl)
    have hq6 := hq.same s6
    have it6 := it.same s6
    have bne : bas ≠ [] := fun z => by rw [z] at blen; cases blen
    have small : ∀ y ∈ bas, ∀ {H' : Hp}, But q H6 H' → AnyE K q H' (m + 2) (wB m) y := fun y hy H' b => by
      obtain ⟨d, o⟩ := ol6 y hy
      refine ((AnyE.ofT o).but b).up (by omega) ?_
      match m, m2 with
      | 0, _ => exact Nat.le_refl _
      | 1, _ => decide
      | 2, _ => decide
    -- a leaf
    have leaf : ∀ {Q'' : VK} {H' : Hp} {c' : Nat} {M : Addr} {zs : List V}, But q H6 H' → Dr c' H' q → c' ≤ c + 1 → H' M = some (.lst zs) → M ≠ q → zs ≠ [] → zs.length ≤ 100 → (∀ y ∈ zs, AnyE K q H' (m + 2) (wB m) y) → (∀ y H'', Q y H'' → Q'' y H'') → spPk K [.ref q, .ref M] H' Q'' E0 := fun {Q'' H' c' M zs} b hq' hc' hM Mq zn zl hz hQ =>
      ⟨q, M, zs, c', rfl, hq', by omega, .inl (.inl (.inl hM)), Mq, zn, by omega, fun H'' x b'' hq'' hx => hQ _ _ (fin _ (c' + 1) x ((Same.but s6).trans (b.trans b'')) hq'' (by omega) ((hz x hx).but b''))⟩
    cases m with
    | zero =>
      obtain ⟨d, dq, nt0⟩ := AnyE.notTup (K := K) it6
      refine ⟨x, rfl, x, .ty "tuple", .type (tyN d), .type "tuple", _, rfl, .ty _, dq_ty dq, kit_ty (dq_isTu dq), _, rfl, ite2 (fun _ => ?_) (fun c => absurd (by rw [nt0]; rfl) c)⟩
      refine ⟨x, rfl, x, .ty "tuple", .type (tyN d), .type "tuple", _, rfl, .ty _, dq_ty dq, kit_ty (dq_isTu dq), _, rfl, ite2 (fun c => ?_) (fun _ => ?_)⟩
      · rw [nt0] at c
        cases c
      · exact ⟨.ref q, rfl, .ref L, rfl, leaf (But.refl _ _) hq6 (by omega) hL Lq bne (by omega) (fun y hy => small y hy (But.refl _ _)) (fun y H'' h => h)⟩
    | succ n =>
      obtain ⟨t, xs, rfl, ht, xl, hx⟩ := it6
      have eS : S = spBt K n := hS n rfl
      subst eS
      have n1' : n ≤ 1 := by omega
      have tq := hq6.netup ht
      have wb : (wI n + 1) * (2 * ll (n + 1)) + 1 ≤ wB (n + 1) ∧ (wI n + 1) * ll (n + 1) ≤ wI (n + 1) ∧ wI (n + 1) + 1 ≤ wB (n + 1) ∧ (wI n + 1) * ll (n + 1) + (wB n + 1) + (wI n + 1) * ll (n + 1) ≤ wB (n + 1) ∧ ll (n + 1) ≤ 15 ∧ n ≤ 1 := by
        match n, n1' with
        | 0, _ => decide
        | 1, _ => decide
      obtain ⟨wb1, wb2, wb3, wb4, ll15, _⟩ := wb
      have bnd : ∀ {l : Nat}, l ≤ 2 * ll (n + 1) → (wI n + 1) * l ≤ wB (n + 1) := fun h => Nat.le_trans (Nat.mul_le_mul_left _ h) (by omega)
      have hxE : ∀ {H' : Hp}, But q H6 H' → ∀ {c' : Nat}, Dr c' H' q → ∀ y ∈ xs, AnyE K q H' n (wI n) y := fun b c' hq' y hy => Itm.any hq' (by omega) (Itm.but hq6 b (hx y hy))
      refine if_split (fun b H' => ∃ c', But q H6 H' ∧ Dr c' H' q ∧ c' ≤ c + 1 ∧ (b = false → xs ≠ [] ∧ dp ≠ 0)) (fun Q' hQ' => ?_) (fun H7 pc => ?_) (fun H7 pc => ?_)
      · refine ⟨.ref t, rfl, .ref t, .ty "tuple", .type "tuple", .type "tuple", true, rfl, .ty _, .base (.tup ht), kit_ty (by decide +kernel), _, rfl, ite2 (fun c => absurd c (by decide)) (fun _ => ?_)⟩
        refine ⟨.ref t, rfl, Nat.zero_le _, fun T nT => ⟨t, T, xs, rfl, rfl, .inl (.inl ((same_upd nT) _ _ ht)), .inl (.inl upd_same), ?_⟩⟩
        have sT := same_upd (o := .tup []) nT
        have hqT := hq6.same sT
        generalize upd H6 T (.tup []) = H7 at *
        refine ⟨_, rfl, ite2 (fun c1 => hQ' _ _ ⟨c, Same.but sT, hqT, by omega, fun z => nomatch z⟩) (fun c1 => ?_)⟩
        refine ⟨.int dp, rfl, rfl, _, rfl, ite2 (fun c2 => hQ' _ _ ⟨c, Same.but sT, hqT, by omega, fun z => nomatch z⟩) (fun c2 => ?_)⟩
        refine ⟨.ref q, rfl, q, 6, c, rfl, hqT, by omega, by decide, by decide, fun H8 d b8 hq8 d0 d1 => ⟨rfl, _, rfl, hQ' _ _ ⟨c + 1, (Same.but sT).trans b8, hq8, Nat.le_refl _, fun _ => ⟨fun z => ?_, fun z => ?_⟩⟩⟩⟩
        · rw [z] at c1
          exact c1 rfl
        · rw [z] at c2
          exact c2 (by simp)
      · obtain ⟨c', b7, hq7, cle, _⟩ := pc
        have ht7 := b7 _ _ tq ht
        have hL7 := b7 _ _ Lq hL
        refine seq_splitR (fun σ' H' => ∃ M zs, σ' = [some (.ref q), some (.ref t), some (.int dp), some (.ref M), none] ∧ Same H7 H' ∧ H' M = some (.lst zs) ∧ M ≠ q ∧ zs ≠ [] ∧ zs.length ≤ 100 ∧ ∀ y ∈ zs, AnyE K q H' (n + 1 + 2) (wB (n + 1)) y) (fun D' rt0 hD' => ?_) ?_
        · refine ⟨.ref t, rfl, .ref t, .ty "tuple", .type "tuple", .type "tuple", true, rfl, .ty _, .base (.tup ht7), kit_ty (by decide +kernel), _, rfl, ite2 (fun _ => ?_) (fun c => absurd rfl c)⟩
          refine ⟨.ref L, rfl, .ref t, rfl, 1, rfl, t, xs, rfl, ht7, fun a1 H8 v1 f1 => ?_⟩
          have ht8 := v1 _ _ ht7
          refine ⟨.ref t, rfl, 1, rfl, _, rfl, t, xs, rfl, ht8, fun a2 H9 v2 f2 => ?_⟩
          have ht9 := v2 _ _ ht8
          refine ⟨.ref t, rfl, .ref t, rfl, 1, rfl, t, xs, rfl, ht9, fun p3 H10 v3 f3 => ?_⟩
          have ht10 := v3 _ _ ht9
          refine ⟨t, p3, xs, _, rfl, rfl, ht10, f3, ?_, fun a3 H11 v4 f4 => ?_⟩
          · have := cut_le (xs := xs) (lo := none) (hi := some 1)
            omega
          have ht11 := v4 _ _ ht10
          refine ⟨.ref t, rfl, t, xs, rfl, .inl (.inl ht11), fun a4 w4 => ?_⟩
          have v5 := same_upd (o := .tup xs.reverse) w4
          have f5 : upd H11 a4 (.tup xs.reverse) a4 = some (.tup xs.reverse) := upd_same
          generalize upd H11 a4 (.tup xs.reverse) = H12 at *
          have ht12 := v5 _ _ ht11
          refine ⟨.ref t, rfl, t, xs, rfl, .inr (.inl (.inl ht12)), fun a5 w5 => ?_⟩
          have v6 := same_upd (o := .lst xs) w5
          have f6 : upd H12 a5 (.lst xs) a5 = some (.lst xs) := upd_same
          generalize upd H12 a5 (.lst xs) = H13 at *
          have ht13 := v6 _ _ ht12
          refine ⟨.ref t, rfl, (by show 1 ≤ sizeLine; decide), fun a6 w6 => ?_⟩
          have v7 := same_upd (o := .tup [.ref t]) w6
          have f7 : upd H13 a6 (.tup [.ref t]) a6 = some (.tup [.ref t]) := upd_same
          generalize upd H13 a6 (.tup [.ref t]) = H14 at *
          refine ⟨(by show 6 ≤ sizeLine; decide), fun M nM => ?_⟩
          have v9 := same_upd (o := .lst [V.ref a1, .ref a2, .ref a3, .ref a4, .ref a5, .ref a6]) nM
          have f9 : upd H14 M (.lst [V.ref a1, .ref a2, .ref a3, .ref a4, .ref a5, .ref a6]) M = some (.lst [V.ref a1, .ref a2, .ref a3, .ref a4, .ref a5, .ref a6]) := upd_same
          generalize upd H14 M (.lst [V.ref a1, .ref a2, .ref a3, .ref a4, .ref a5, .ref a6]) = H15 at *
          refine ⟨M, 2, _, rfl, rfl, f9, by decide, by decide, (by show 6 * 2 ≤ sizeLine; decide), fun M2 nM2 => ?_⟩
          have v10 := same_upd (o := .lst (List.replicate (2 : Int).toNat [V.ref a1, .ref a2, .ref a3, .ref a4, .ref a5, .ref a6]).flatten) nM2
          have fl : (List.replicate (2 : Int).toNat [V.ref a1, .ref a2, .ref a3, .ref a4, .ref a5, .ref a6]).flatten.length = 12 := rfl
          have mem : ∀ y ∈ (List.replicate (2 : Int).toNat [V.ref a1, .ref a2, .ref a3, .ref a4, .ref a5, .ref a6]).flatten, y ∈ [V.ref a1, .ref a2, .ref a3, .ref a4, .ref a5, .ref a6] := fun y hy => by
            obtain ⟨l, hl, hyl⟩ := List.mem_flatten.mp hy
            rw [List.eq_of_mem_replicate hl] at hyl
            exact hyl
          have f10 : upd H15 M2 (.lst (List.replicate (2 : Int).toNat [V.ref a1, .ref a2, .ref a3, .ref a4, .ref a5, .ref a6]).flatten) M2 = some (.lst (List.replicate (2 : Int).toNat [V.ref a1, .ref a2, .ref a3, .ref a4, .ref a5, .ref a6]).flatten) := upd_same
          generalize (List.replicate (2 : Int).toNat [V.ref a1, .ref a2, .ref a3, .ref a4, .ref a5, .ref a6]).flatten = zs at *
          generalize upd H15 M2 (.lst zs) = H16 at *
          have k7 := v9.trans v10
          have k6 := v7.trans k7
          have k5 := v6.trans k6
          have k4 := v5.trans k5
          have k3 := v4.trans k4
          have k2 := v3.trans k3
          have k1 := v2.trans k2
          have k0 := v1.trans k1
          refine ⟨L, M2, _, _, rfl, rfl, k0 _ _ hL7, f10, by rw [blen, fl]; decide, fun N nN => ?_⟩
          have v11 := same_upd (o := .lst (bas ++ zs)) nN
          have k11 := k0.trans v11
          have hq17 := hq7.same k11
          have NeT : ∀ {t : Addr} {us : List V}, upd H16 N (.lst (bas ++ zs)) t = some (.tup us) → t ≠ q := fun e => hq17.netup e
          have hx17 : ∀ y ∈ xs, AnyE K q (upd H16 N (.lst (bas ++ zs))) n (wI n) y := hxE (b7.trans (Same.but k11)) hq17
          have g1 := (k1.trans v11) _ _ f1
          have g2 := (k2.trans v11) _ _ f2
          have g3 := (k4.trans v11) _ _ f4
          have g4 := (k5.trans v11) _ _ f5
          have g5 := (k6.trans v11) _ _ f6
          have g6 := (k7.trans v11) _ _ f7
          have gt := k11 _ _ ht7
          have a5q : a5 ≠ q := ((hq7.same (v1.trans (v2.trans (v3.trans (v4.trans v5))))).ne_none w5).symm
          have c1 := cut_le (xs := xs) (lo := none) (hi := some 1)
          refine hD' _ _ ⟨N, bas ++ zs, rfl, k11, upd_same, (fun z => (hq7.same k0).ne_none nN z.symm), (fun z => by rw [List.append_eq_nil_iff] at z; rw [z.1] at blen; cases blen), by rw [List.length_append, blen, fl]; decide, fun y hy => ?_⟩
          rcases List.mem_append.mp hy with z | z
          · exact small y z (b7.trans (Same.but k11))
          · have z := mem y z
            simp only [List.mem_cons, List.not_mem_nil, or_false] at z
            rcases z with rfl | rfl | rfl | rfl | rfl | rfl
            · exact (AnyE.tup g1 (NeT g1) fun y hy => hx17 y (cut_sub hy)).up (by omega) (bnd (by have := cut_le (xs := xs) (lo := some 1) (hi := none); omega))
            · exact (AnyE.tup g2 (NeT g2) fun y hy => hx17 y (cut_sub hy)).up (by omega) (bnd (Nat.le_trans cut_le (by omega)))
            · exact (AnyE.tup g3 (NeT g3) fun y hy => hx17 y ((List.mem_append.mp hy).elim id cut_sub)).up (by omega) (bnd (by rw [List.length_append]; omega))
            · exact (AnyE.tup g4 (NeT g4) fun y hy => hx17 y (List.mem_reverse.mp hy)).up (by omega) (bnd (by rw [List.length_reverse]; omega))
            · exact (AnyE.lst g5 a5q hx17).up (by omega) (bnd (by omega))
            · have aU : AnyE K q _ (n + 1) (wI (n + 1)) (.ref t) := (AnyE.tup gt (NeT gt) hx17).up (Nat.le_refl _) (Nat.le_trans (Nat.mul_le_mul_left _ xl) wb2)
              refine (AnyE.tup g6 (NeT g6) fun y hy => ?_).up (n := n + 1 + 1) (k := (wI (n + 1) + 1) * 1) (by omega) (by omega)
              rw [List.mem_singleton.mp hy]
              exact aU
        · rintro σ H8 ⟨M, zs, rfl, s8, hM, Mq, zn, zl, hz⟩
          exact ⟨.ref q, rfl, .ref M, rfl, leaf (b7.trans (Same.but s8)) (hq7.same s8) cle hM Mq zn zl hz (fun y H'' h => h)⟩
      · obtain ⟨c', b7, hq7, cle, why⟩ := pc
        obtain ⟨xn, dn⟩ := why rfl
        have ht7 := b7 _ _ tq ht
        have x0 : 0 < xs.length := List.length_pos_iff.mpr xn
        refine (show ∀ {D : Ends} {σ : L2.St} {H : Hp}, D.nx σ H → tNext D σ H from fun h => h) ?_
        dsimp only
        refine ⟨.ref q, rfl, .ref t, rfl, t, xs, rfl, .inr (.inl (.inl ht7)), q, _, c', rfl, hq7, by omega, by omega, by omega, fun H8 d b8 hq8 d0 d1 => ?_⟩
        dsimp only [gName]
        have b78 := b7.trans b8
        have ht8 := b78 _ _ tq ht
        obtain ⟨at_, rfl, atl⟩ : ∃ a : Nat, d = (a : Int) ∧ a < xs.length := ⟨d.toNat, by omega, by omega⟩
        obtain ⟨y0, hy0⟩ : ∃ y, xs[at_]? = some y := ⟨_, List.getElem?_eq_getElem atl⟩
        refine ⟨.ref t, rfl, .int at_, rfl, _, rfl, t, xs, rfl, ht8, fun p1 H9 v1 f1 => ?_⟩
        have ht9 := v1 _ _ ht8
        have b9 := b78.trans (Same.but v1)
        have hq9 := hq8.same v1
        refine ⟨.ref q, rfl, .ref t, rfl, .int at_, rfl, t, xs, at_, y0, rfl, rfl, .inl (.inl ht9), atI_nat hy0, .int dp, rfl, _, _, rfl, rfl, q, y0, dp - 1, c' + 1, rfl, hq9, by omega, by omega, by omega, Itm.but hq6 b9 (hx y0 (List.mem_of_getElem? hy0)), fun H10 c2 y2 b10 hq10 cle2 any2 => ?_⟩
        have b0 := b9.trans b10
        have p1q : p1 ≠ q := hq9.netup f1
        refine ⟨(by show 1 ≤ sizeLine; decide), fun T nT => ?_⟩
        have vT := same_upd (o := .tup [y2]) nT
        have fT : upd H10 T (.tup [y2]) T = some (.tup [y2]) := upd_same
        generalize upd H10 T (.tup [y2]) = H11 at *
        refine ⟨p1, T, _, _, rfl, rfl, vT _ _ (b10 _ _ p1q f1), fT, Nat.le_trans (Nat.add_le_add cut_le (Nat.le_refl 1)) (by omega), fun p3 H12 v3 f3 => ?_⟩
        have v13 := vT.trans v3
        have ht12 := (b0.trans (Same.but v13)) _ _ tq ht
        refine ⟨.ref t, rfl, .int at_, rfl, _, _, rfl, rfl, _, rfl, t, xs, rfl, ht12, fun p4 H13 v4 f4 => ?_⟩
        refine ⟨p3, p4, _, _, rfl, rfl, v4 _ _ f3, f4, by rw [List.length_append]; exact Nat.le_trans (Nat.add_le_add (Nat.add_le_add cut_le (Nat.le_refl 1)) cut_le) (by omega), fun p5 H14 v5 f5 => ?_⟩
        have v14 := v13.trans (v4.trans v5)
        have hq14 := hq10.same v14
        have bz := b0.trans (Same.but v14)
        refine fin H14 c2 _ ((Same.but s6).trans bz) hq14 (by omega) ?_
        have cutE : ∀ {lo hi : Option Int}, AllE K q H14 (n + 2) ((wI n + 1) * ll (n + 1)) (cutV xs lo hi) := (AllE.cut (hxE bz hq14) xl).up (by omega) (Nat.le_refl _)
        exact (((cutE.app (AllE.one ((any2.same v14).up (by omega) (Nat.le_refl _)))).app cutE).up (Nat.le_refl _) wb4).tup f5 (hq14.netup f5)
theorem ok_Bt0 {k : Nat} (Z : Fns K mg) : FnOk P w K mg base CX0 (k + 1 + 1 + 1 + 1) Z.fBt Z.fdBt ["_law_draws_here", "_law_item", "_law_deep"] (spBt K 0) :=
  ok_BtS (S := fun _ _ _ _ => False) Z (by decide) ⟨fun _ _ _ _ h => h.elim, fun _ _ _ _ _ _ _ _ _ _ _ _ _ h => h.elim⟩ (fun _ h => nomatch h)
theorem ok_Bt1 {k : Nat} (Z : Fns K mg) : FnOk P w K mg base CX0 (k + 1 + 1 + 1 + 1 + 1) Z.fBt Z.fdBt ["_law_draws_here", "_law_item", "_law_deep"] (spBt K 1) := ok_BtS Z (by decide) (ok_Bt0 Z) (fun m' h => by cases h; rfl)
theorem ok_Bt2 {k : Nat} (Z : Fns K mg) : FnOk P w K mg base CX0 (k + 1 + 1 + 1 + 1 + 1 + 1) Z.fBt Z.fdBt ["_law_draws_here", "_law_item", "_law_deep"] (spBt K 2) := ok_BtS Z (by decide) (ok_Bt1 Z) (fun m' h => by cases h; rfl)
end
end Ph

/-! PhRvL: a[::-1] of a list: a new list. -/
namespace Ph
open PySem PySem.Spec PyProof.Rows L2 PySem.Calls HT
section
variable {X : Cx}
def tRevL (K : PySem.W.Frag) (te : TE) : TE := fun σ H Q => te σ H fun x H1 => ∃ a xs, x = .ref a ∧ SqL K H1 a xs ∧ ∀ p, H1 p = none → Q (.ref p) (upd H1 p (.lst xs.reverse))
theorem pe_revL {e : Expr} {te : TE} {k : Nat} {p1 p2 p3 pos : Pos} (he : PE X e te) : PE X (.Subscript e (.Slice none none (some (.UnaryOp .USub (.Constant (.int 1) k p1) p2)) p3) pos) (tRevL X.K te) := by
  refine ⟨fun pins s σ H Q I h => ?_⟩
  refine Subscript_ (thn (he.run pins s σ H _ I h) fun v s1 ⟨x, H1, I1, r1, q1⟩ => ?_)
  obtain ⟨a, xs, ex, hx, q⟩ := q1
  subst ex
  cases r1
  have hst : PO X (some (.UnaryOp .USub (.Constant (.int 1) k p1) p2)) (tPart (tUn (rU fun i => .int (-i)) (tC (.int 1)))) := po_some (pe_un un_neg pe_int)
  refine wpAny_Slice (thn (po_none.run pins s1 σ H1 (fun o H2 => o = none ∧ H2 = H1) I1 ⟨rfl, rfl⟩) fun vl s2 ⟨l, H2, I2, pl, el, e2⟩ => ?_)
  subst el e2
  refine thn (po_none.run pins s2 σ H2 (fun o H3 => o = none ∧ H3 = H2) I2 ⟨rfl, rfl⟩) fun vu s3 ⟨u, H3, I3, pu, eu, e3⟩ => ?_
  subst eu e3
  refine thn (hst.run pins s3 σ H3 (fun o H4 => o = some (-1) ∧ H4 = H3) I3 ⟨1, rfl, -1, rfl, rfl, rfl⟩) fun vs s4 ⟨o, H4, I4, ps, eo, e4⟩ => ?_
  subst eo e4
  cases pl
  cases pu
  have I5 : Inv X pins σ H4 { s4 with heap := s4.heap.push { cls := .type "slice", data := .fields #[.none, .none, vs] } } := I4.kept (t' := s4.toks) fun b ob q => Heap.get?_push_of_some _ q
  obtain ⟨its, r, ht, hz⟩ := I5.list hx
  have hlen := r.length
  show wpAny (model X.prog X.w) X.A (subscriptTail e (.Slice none none (some (.UnaryOp .USub (.Constant (.int 1) k p1) p2)) p3) (.ref a) (.ref s4.heap.objs.size)) (EP X pins σ Q) X.xe { s4 with heap := s4.heap.push { cls := .type "slice", data := .fields #[.none, .none, vs] } }
  refine tail_any (ops := [.ref a, .ref s4.heap.objs.size]) ht.isList.typeIs (slot_list_getitem.lookup) ?_ (by with_unfolding_all rfl)
  refine wpAny_getItem_list_slice ht.isList (Heap.IsSliceOf.new _ .none .none vs) .none .none ps (by decide) ?_ (by rw [List.size_toArray] <;> omega)
  rw [PySem.W.krv_pick]
  refine ⟨.ref _, _, I5.laid (t' := s4.toks) (o := .lst xs.reverse) (fun b ob q => Heap.get?_push_of_some _ q) (Nat.le_refl _) ?_, rfl, q _ (I5.hok.fresh (Nat.le_refl _))⟩
  exact ⟨by rw [List.length_reverse]; exact hz, _, 0, r.reverse, Heap.get?_push_size _ rfl⟩
end
end Ph

set_option maxHeartbeats 8000000
namespace Ph
open PySem PySem.Spec PyProof.Rows L2
/-! ### tuples that are plain or frozen: cut and joined -/
def TqF (H : Hp) (a : Addr) (xs : List V) : Prop := H a = some (.tup xs) ∨ ∃ o, H a = some (.frz o (.tup xs))
theorem TqF.sq {K : PySem.W.Frag} {H : Hp} {a : Addr} {xs : List V} (h : TqF H a xs) : SqT K H a xs := .inl h
theorem TqF.same {H H' : Hp} {a : Addr} {xs : List V} (h : TqF H a xs) (s : Same H H') : TqF H' a xs := h.imp (s _ _) fun ⟨o, e⟩ => ⟨o, s _ _ e⟩
theorem TqF.ne {H : Hp} {a q : Addr} {xs : List V} {c : Nat} (h : TqF H a xs) (hq : Dr c H q) : a ≠ q := h.elim (fun e => hq.netup e) fun ⟨_, e⟩ => hq.nefrz e
theorem ChAt.tq {H : Hp} {c : Addr} {C : List Int} (h : ChAt H c C) : TqF H c (C.map V.int) := let ⟨o, _, e⟩ := h; .inr ⟨o, e⟩
section
variable {X : Cx}
def rSlF : V → Option Int → Option Int → Hp → VK → Prop := fun x lo hi H Q => ∃ a xs, x = .ref a ∧ TqF H a xs ∧ ∀ p H', Same H H' → TqF H' p (cutV xs lo hi) → Q (.ref p) H'
theorem sl_tupF : SlR X rSlF := by
  intro pins s σ H x v vl vu lo hi sl Q I rx hs pl pu h
  obtain ⟨a, xs, rfl, hx, q⟩ := h
  exact sl_tupA pins s σ H _ v vl vu lo hi sl Q I rx hs pl pu ⟨a, xs, rfl, hx.sq, fun hw => q a H (Same.refl H) (by rw [cut_whole hw]; exact hx), fun _ p np => q p _ (same_upd np) (.inl upd_same)⟩
def rCatG : R2 := fun x y H Q => ∃ a b xs ys, x = .ref a ∧ y = .ref b ∧ TqF H a xs ∧ TqF H b ys ∧ xs.length + ys.length ≤ 1000 ∧ ∀ p H', Same H H' → TqF H' p (xs ++ ys) → Q (.ref p) H'
theorem op_catG : OpR X (binaryOp .Add) rCatG := by
  intro pins s σ H x y v u Q I rx ry h
  obtain ⟨a, b, xs, ys, rfl, rfl, ha, hb, hz, q⟩ := h
  refine op_catA pins s σ H _ _ v u Q I rx ry ⟨a, b, xs, ys, rfl, rfl, ha.sq, hb.sq, Nat.le_of_lt (small1000 hz), fun e => q b H (Same.refl H) (by rw [e]; exact hb), fun _ e => q a H (Same.refl H) (by rw [e, List.append_nil]; exact ha), fun _ _ p np => q p _ (same_upd np) (.inl upd_same)⟩
end
theorem cut2_ne {xs : List V} (h : xs ≠ []) : cutV xs none (some 2) ≠ [] := by
  cases xs with
  | nil => exact absurd rfl h
  | cons x r =>
    unfold cutV
    rw [HT.sIx_none, Nat.sub_zero, List.drop_zero]
    have e : ∃ n, HT.sIx (x :: r).length (x :: r).length (some 2) = n + 1 := by
      unfold HT.sIx
      simp only [List.length_cons]
      refine ⟨_, (Nat.succ_pred_eq_of_pos ?_).symm⟩
      split <;> omega
    obtain ⟨n, e⟩ := e
    rw [e, List.take_succ_cons]
    exact List.cons_ne_nil _ _
theorem cutm2_ne {xs : List V} (h : xs ≠ []) : cutV xs (some (-2)) none ≠ [] := by
  have l0 : 0 < xs.length := List.length_pos_iff.mpr h
  intro z
  have := congrArg List.length z
  unfold cutV at this
  rw [HT.sIx_none, List.length_take, List.length_drop] at this
  have e : HT.sIx xs.length 0 (some (-2)) < xs.length := by
    unfold HT.sIx
    dsimp only
    split <;> omega
  simp only [List.length_nil] at this
  omega
section
variable {P : Program} {w : World} {K : PySem.W.Frag} {mg : Str → Option Value} {base : Heap}
def spEs (K : PySem.W.Frag) : Sp := fun vs H Q _ => ∃ (q c : Addr) (s : Nat → Nat) (p cc M : Nat) (W : Int), vs = [.ref q, .ref c, .int M, .int W] ∧ Dr cc H q ∧ cc + 1000 < drCap ∧ ChAt H c (tl s (p + 1)) ∧ Cn s p 8 ∧ p ≤ 4 ∧ 0 ≤ W ∧ W ≤ 100 ∧ M ≤ 1000 ∧ ∀ H' c' u, But q H H' → Dr c' H' q → c' ≤ cc + 100 → Itm 2 H' (.ref u) → Q (.ref u) H'
theorem ok_Es {k : Nat} (Z : Fns K mg) : FnOk P w K mg base CX0 (k + 1 + 1 + 1) Z.fEs Z.fdEs ["_law_draws_here", "_law_chain_here", "_law_limit", "_law_words"] (spEs K) := by
  have GNx : FnOk P w K mg base CX0 (k + 1) Z.fNx Z.fdNx ["_law_draws_here", "_law_bound"] spNx := ok_Nx Z
  have GPk : FnOk P w K mg base CX0 (k + 1 + 1) Z.fPk Z.fdPk ["_law_draws_here", "_law_items"] (spPk K) := ok_Pk Z
  have GTo : FnOk P w K mg base CX0 (k + 1) Z.fTo Z.fdTo ["_law_blocks"] spTo := ok_To Z
  have GFp : FnOk P w K mg base CX0 (k + 1) Z.fFp Z.fdFp ["_law_blocks", "_law_size", "_law_words"] spFp := ok_Fp Z
  have GMo : FnOk P w K mg base CX0 (k + 1) Z.fMo Z.fdMo ["_law_blocks", "_law_address", "_law_size"] spMo := ok_Mo Z
  have GLe : FnOk P w K mg base CX0 (k + 1) Z.fLe Z.fdLe ["_law_blocks", "_law_address"] spLe := ok_Le Z
  refine Z.FEs.ok scEs (fun vs H Q E h => ?_) (fun cdv A outer s H vs Q E hr h => ?_)
  · obtain ⟨q, c, s, p, cc, M, W, rfl, _⟩ := h
    rfl
  · obtain ⟨q, c, sz, p, cc, M, W, rfl, hq, cc1, hc, cn, p4, W0, W1, M1, fin⟩ := h
    have hu64 := u64_of hr
    refine ⟨_, (pss_cons (ps_par (i := 4) (j := 5) (by rfl) scEs.nd rfl rfl (by decide) rfl rfl (pa_cons (pe_tup pa_nil) (pa_cons (pe_lst pa_nil) pa_nil)) (by rfl))
 (pss_cons (ps_for PassesOwn.never rfl (pi_range1 (by rfl) Z.N.range (pa_cons (pe_call GNx (hr.mono (by omega)) (by rfl) Z.gNx Z.FNx.kp Z.bNx .nil pass0 (pa_cons (pv 0) (pa_cons pe_int pa_nil))) pa_nil)) (pg_name (i := 6) scEs.nd rfl (.inl rfl))
 (pss_cons (ps_set (i := 7) scEs.nd rfl (.inl rfl) (pe_call GPk (hr.mono (by omega)) (by rfl) Z.gPk Z.FPk.kp Z.bPk .nil pass0 (pa_cons (pv 0) (pa_cons (pe_op op_catG (pe_slice sl_tupF (pv 1) po_none (po_some pe_int)) (pe_slice sl_tupF (pv 1) po_none (po_some pe_int))) pa_nil))))
 (pss_one (ps_if (PW.pt (pw_and (pt_cmpR op_eq (pe_call GNx (hr.mono (by omega)) (by rfl) Z.gNx Z.FNx.kp Z.bNx .nil pass0 (pa_cons (pv 0) (pa_cons pe_int pa_nil))) pe_int (nomark _)) (pw_and1 (pt_cmpR (op_neD hu64) (pv 4) (pe_tup pa_nil) (nomark _)))))
 (pss_cons (ps_set (i := 8) scEs.nd rfl (.inl rfl) (pe_ix ix_tup (pe_call GPk (hr.mono (by omega)) (by rfl) Z.gPk Z.FPk.kp Z.bPk .nil pass0 (pa_cons (pv 0) (pa_cons (pv 4) pa_nil))) pe_int (fun _ _ => rfl)))
 (pss_cons (ps_expr (pe_bm PySem.F.plainAttrs_list PySem.F.slot_list_append PySem.F.type_list_append mt_append (pv 5) (pa_cons (pe_tup (pa_cons pe_str (pa_cons (pv 8) pa_nil))) pa_nil)))
 (pss_one (ps_set (i := 4) scEs.nd rfl (.inl rfl) (pe_call GLe (hr.mono (by omega)) (by rfl) Z.gLe Z.FLe.kp Z.bLe .nil pass0 (pa_cons (pv 4) (pa_cons (pv 8) pa_nil))))))) (pss_one (ps_if (PW.pt (pw_and (pt_cmpR op_le (pe_op op_add (pe_call GTo (hr.mono (by omega)) (by rfl) Z.gTo Z.FTo.kp Z.bTo .nil pass0 (pa_cons (pv 4) pa_nil)) (pv 7)) (pv 2) (nomark _)) (pw_and1 (pt_cmpR (op_neD hu64) (pe_call GFp (hr.mono (by omega)) (by rfl) Z.gFp Z.FFp.kp Z.bFp .nil pass0 (pa_cons (pv 4) (pa_cons (pv 7) (pa_cons (pv 3) pa_nil)))) (pe_lst pa_nil) (nomark _)))))
 (pss_cons (ps_set (i := 8) scEs.nd rfl (.inl rfl) (pe_call GPk (hr.mono (by omega)) (by rfl) Z.gPk Z.FPk.kp Z.bPk .nil pass0 (pa_cons (pv 0) (pa_cons (pe_revL (pe_call GFp (hr.mono (by omega)) (by rfl) Z.gFp Z.FFp.kp Z.bFp .nil pass0 (pa_cons (pv 4) (pa_cons (pv 7) (pa_cons (pv 3) pa_nil))))) pa_nil))))
 (pss_cons (ps_expr (pe_bm PySem.F.plainAttrs_list PySem.F.slot_list_append PySem.F.type_list_append mt_append (pv 5) (pa_cons (pe_tup (pa_cons pe_str (pa_cons (pv 7) (pa_cons (pv 8) pa_nil)))) pa_nil)))
 (pss_one (ps_set (i := 4) scEs.nd rfl (.inl rfl) (pe_call GMo (hr.mono (by omega)) (by rfl) Z.gMo Z.FMo.kp Z.bMo .nil pass0 (pa_cons (pv 4) (pa_cons (pv 8) (pa_cons (pv 7) pa_nil)))))))) pss_nil))))))
 (pss_one (ps_ret (pe_op op_catS (pe_callTy call_tuple_of (by rfl) Z.N.tuple (by decide +kernel) (pa_cons (pv 5) pa_nil)) (pe_tup (pa_cons (pe_tup (pa_cons pe_str (pa_cons (pe_call GPk (hr.mono (by omega)) (by rfl) Z.gPk Z.FPk.kp Z.bPk .nil pass0 (pa_cons (pv 0) (pa_cons (pe_slice sl_tupF (pv 1) (po_some (pe_un un_neg pe_int)) po_none) pa_nil))) (pa_cons pe_non pa_nil)))) pa_nil))))))), ?_⟩
    have top : ∀ j, j ≤ p → 0 < sz j ∧ sz j ≤ 8 := fun j hj => ⟨cn.ch.pos (by omega), Nat.le_trans (cn.ch.mono (i := j) (j := p) hj (by omega)) cn.top⟩
    have C0 : (tl sz (p + 1)).map V.int ≠ [] := fun z => by
      have := congrArg List.length z
      rw [List.length_map, tl_len] at this
      cases this
    have inC : ∀ {v : V}, v ∈ (tl sz (p + 1)).map V.int → ∃ z : Int, v = .int z ∧ 0 < z ∧ z ≤ 8 := fun hv => by
      obtain ⟨z, hz, rfl⟩ := List.mem_map.mp hv
      obtain ⟨j, hj, rfl⟩ := tl_mem.mp hz
      have := top j (by omega)
      exact ⟨_, rfl, by omega, by omega⟩
    have Cl : ((tl sz (p + 1)).map V.int).length ≤ 5 := by rw [List.length_map, tl_len]; omega
    refine ⟨(by show 0 ≤ sizeLine; decide), fun t0 nt0 => ⟨(by show 0 ≤ sizeLine; decide), fun B nB => ⟨_, _, rfl, ?_⟩⟩⟩
    have st0 := same_upd (o := .tup []) nt0
    have sB := same_upd (o := .lst []) nB
    have ht0 : StAt (upd (upd H t0 (.tup [])) B (.lst [])) t0 [] := ⟨[], sB _ _ upd_same, .nil⟩
    have hB0 : upd (upd H t0 (.tup [])) B (.lst []) B = some (.lst []) := upd_same
    have s1 := st0.trans sB
    have nBH : H B = none := none_of_same st0 nB
    have Bq : B ≠ q := (hq.ne_none nBH).symm
    have hq1 := hq.same s1
    generalize upd (upd H t0 (.tup [])) B (.lst []) = H1 at *
    dsimp only [gName]
    refine ⟨.ref q, rfl, q, 14, cc, rfl, hq1, by omega, by decide, by decide, fun H2 d2 b2 hq2 d20 d21 => ⟨d2, rfl, by omega, by omega, ?_⟩⟩
    refine for_range (lo := 0) (n := d2.toNat) (fun i σ H' => ∃ y6 y7 y8 t bs xs c', σ = [some (.ref q), some (.ref c), some (.int M), some (.int W), some (.ref t), some (.ref B), y6, y7, y8] ∧ But q H H' ∧ Dr c' H' q ∧ c' ≤ cc + 1 + 4 * i ∧ StAt H' t bs ∧ bs.length ≤ i ∧ (∀ b ∈ bs, 0 ≤ b.1 ∧ b.1 ≤ 4000 ∧ 1 ≤ b.2 ∧ b.2 ≤ 8) ∧ H' B = some (.lst xs) ∧ xs.length ≤ i ∧ ∀ x ∈ xs, Itm 1 H' x)
      ⟨none, none, none, t0, [], [], cc + 1, rfl, (Same.but s1).trans b2, hq2, by omega, ht0.mono fun v us e => b2 _ _ (hq1.netup e) e, Nat.le_refl _, (fun b h => nomatch h), b2 _ _ Bq hB0, Nat.le_refl _, fun x h => nomatch h⟩ ?_ ?_
    · rintro i σ H3 hi ⟨y6, y7, y8, t, bs, xs, c', rfl, b3, hq3, cle, hst, bln, hb0, hB3, xln, hx⟩
      have i14 : i < 14 := by omega
      have hbk : ∀ b ∈ bs, 0 ≤ b.1 ∧ b.1 ≤ 4000000 ∧ 1 ≤ b.2 ∧ b.2 ≤ 2000 := fun b hb => by
        have := hb0 b hb
        omega
      have tc3 : TqF H3 c _ := (hc.frz fun o u e => b3 _ _ (hq.nefrz e) e).tq
      refine ⟨.ref q, rfl, .ref c, rfl, _, rfl, c, _, rfl, tc3, fun p1 H4 s4 t1 => ?_⟩
      refine ⟨.ref c, rfl, _, rfl, c, _, rfl, tc3.same s4, fun p2 H5 s5 t2 => ?_⟩
      refine ⟨p1, p2, _, _, rfl, rfl, t1.same s5, t2, Nat.le_trans (Nat.add_le_add cut_le cut_le) (by omega), fun p3 H6 s6 t3 => ?_⟩
      have s36 := s4.trans (s5.trans s6)
      have hq6 := hq3.same s36
      refine ⟨q, p3, _, c', rfl, hq6, by omega, .inr t3.sq, t3.ne hq6, (fun z => by rw [List.append_eq_nil_iff] at z; exact cut2_ne C0 z.1), ?_, fun H7 v b7 hq7 hv => ?_⟩
      · rw [List.length_append]
        exact Nat.le_trans (Nat.add_le_add cut_le cut_le) (by omega)
      obtain ⟨z, rfl, z0, z8⟩ := inC ((List.mem_append.mp hv).elim cut_sub cut_sub)
      have b37 : But q H3 H7 := (Same.but s36).trans b7
      have hst7 := hst.mono fun v us e => b37 _ _ (hq3.netup e) e
      have hB7 := b37 _ _ Bq hB3
      have hx7 : ∀ x ∈ xs, Itm 1 H7 x := fun x h => Itm.but hq3 b37 (hx x h)
      have b07 := b3.trans b37
      dsimp only [gName]
      refine if_split (fun b H' => But q H7 H' ∧ Dr (c' + 2) H' q ∧ (b = true → bs ≠ [])) (fun Q' hQ' => ?_) (fun H8 pc => ?_) (fun H8 pc => ?_)
      · refine ⟨.ref q, rfl, q, 4, c' + 1, rfl, hq7, by omega, by decide, by decide, fun H8 d8 b8 hq8 _ _ => ⟨rfl, _, rfl, ite2 (fun c0 => ?_) (fun c0 => hQ' _ _ ⟨b8, hq8, fun z => nomatch z⟩)⟩⟩
        refine ⟨.ref t, rfl, (by show 0 ≤ sizeLine; decide), fun T nT => ?_⟩
        have sT := same_upd (o := .tup []) nT
        have hst8 := (hst7.mono fun v us e => b8 _ _ (hq7.netup e) e).same sT
        refine ⟨.tuple (bs.map bD), .tuple [], hst8.dp, .tup (.inl (.inl upd_same)) .nil, sD_shaped bs, sD_shaped [], _, rfl, hQ' _ _ ⟨b8.trans (Same.but sT), hq8.same sT, fun e z => ?_⟩⟩
        rw [z] at e
        exact absurd e (by decide)
      · obtain ⟨b8, hq8, ne⟩ := pc
        have bne := ne rfl
        obtain ⟨ts, hts, bts⟩ := hst7.mono fun v us e => b8 _ _ (hq7.netup e) e
        have tsl := bts.len
        refine ⟨.ref q, rfl, .ref t, rfl, q, t, ts, c' + 2, rfl, hq8, by omega, .inr (.inl (.inl hts)), hq8.netup hts, (fun z => bne (by rw [z] at bts; cases bts; rfl)), by omega, fun H9 v b9 hq9 hv => ?_⟩
        obtain ⟨b, hbm⟩ := bts.all' hv
        obtain ⟨hb1, u, rfl, hu⟩ := hbm
        have hu9 := b9 _ _ (hq8.netup hu) hu
        have b79 := b8.trans b9
        have hB9 := b79 _ _ Bq hB7
        have ok := hb0 b hb1
        refine ⟨u, _, 0, _, rfl, rfl, .inl (.inl hu9), atI_nat (j := 0) rfl, ?_⟩
        dsimp only [gName]
        refine ⟨.ref B, rfl, .inl ⟨rfl, _, .inl (.inl hB9)⟩, .int b.1, rfl, (by show 2 ≤ sizeLine; decide), fun T nT => ?_⟩
        have sT := same_upd (o := .tup [.str "free", .int b.1]) nT
        have fT : upd H9 T (.tup [.str "free", .int b.1]) T = some (.tup [.str "free", .int b.1]) := upd_same
        have hB10 := sT _ _ hB9
        have hq10 := hq9.same sT
        have b710 := b79.trans (Same.but sT)
        generalize upd H9 T (.tup [.str "free", .int b.1]) = H10 at *
        refine ⟨B, _, _, rfl, rfl, hB10, Nat.lt_of_le_of_lt (show xs.length ≤ 20 by omega) (by decide), ?_⟩
        have bu : But B H10 (upd H10 B (.lst (xs ++ [V.ref T]))) := but_upd
        have kq : ∀ b o, b ≠ B → H10 b = some o → upd H10 B (.lst (xs ++ [V.ref T])) b = some o := fun b o n e => by rw [upd_ne n]; exact e
        have hB11 : upd H10 B (.lst (xs ++ [V.ref T])) B = some (.lst (xs ++ [V.ref T])) := upd_same
        have hq11 : Dr (c' + 3) (upd H10 B (.lst (xs ++ [V.ref T]))) q := hq10.keep Bq.symm
        have neB : ∀ {a : Addr} {us : List V}, H10 a = some (.tup us) → a ≠ B := fun e => ne_of e hB10 (by intro z; cases z)
        have hst10 := hst7.mono fun v us e => b710 _ _ (hq7.netup e) e
        have hst11 : StAt (upd H10 B (.lst (xs ++ [V.ref T]))) t bs := hst10.mono fun v us e => kq _ _ (neB e) e
        have hx11 : ∀ x ∈ xs ++ [V.ref T], Itm 1 (upd H10 B (.lst (xs ++ [V.ref T]))) x := fun x h => by
          rcases List.mem_append.mp h with h | h
          · obtain ⟨t2, zs, e1, e2, e3, e4⟩ := Itm.but hq7 b710 (hx7 x h)
            exact ⟨t2, zs, e1, kq _ _ (neB e2) e2, e3, e4⟩
          · rw [List.mem_singleton.mp h]
            refine ⟨T, _, rfl, kq _ _ (neB fT) fT, (by show 2 ≤ 3; decide), fun y hy => ?_⟩
            simp only [List.mem_cons, List.not_mem_nil, or_false] at hy
            rcases hy with rfl | rfl
            · exact .inr (.inr (.inr rfl))
            · exact .inl ⟨_, rfl, by omega⟩
        have b011 : But q H (upd H10 B (.lst (xs ++ [V.ref T]))) := fun a o n e => kq _ _ (ne_of_none e nBH) ((b07.trans b710) _ _ n e)
        generalize upd H10 B (.lst (xs ++ [V.ref T])) = H11 at *
        refine ⟨.ref t, rfl, .int b.1, rfl, t, bs, b.1, rfl, hst11, by omega, fun H12 v s12 hv => ?_⟩
        exact ⟨_, _, _, v, _, _, _, rfl, b011.trans (Same.but s12), hq11.same s12, by omega, hv, Nat.le_trans (List.length_filter_le _ _) (by omega), fun b hb => hb0 b ((List.mem_filter.mp hb).1), s12 _ _ hB11, by rw [List.length_append]; show xs.length + 1 ≤ i + 1; omega, fun x h => Itm.same s12 (hx11 x h)⟩
      · obtain ⟨b8, hq8, _⟩ := pc
        have hst8 := hst7.mono fun v us e => b8 _ _ (hq7.netup e) e
        have b08 := b07.trans b8
        have hB8 := b8 _ _ Bq hB7
        have hx8 : ∀ x ∈ xs, Itm 1 H8 x := fun x h => Itm.but hq7 b8 (hx7 x h)
        refine if_split (fun b H' => Same H8 H' ∧ (b = true → ∃ x, Spot z bs W x)) (fun Q' hQ' => ?_) (fun H9 pc => ?_) (fun H9 pc => ?_)
        · refine ⟨.ref t, rfl, t, bs, rfl, hst8, by omega, fun H9 s9 => ⟨.int z, rfl, _, _, rfl, rfl, .int M, rfl, _, _, rfl, rfl, _, rfl, ite2 (fun c1 => ?_) (fun c1 => hQ' _ _ ⟨s9, fun z => nomatch z⟩)⟩⟩
          refine ⟨.ref t, rfl, .int z, rfl, .int W, rfl, t, z, W, bs, rfl, hst8.same s9, z0, by omega, W0, by omega, by omega, hbk, fun H10 D ns s10 nD hD spt whole nsl => ?_⟩
          refine ⟨(by show 0 ≤ sizeLine; decide), fun L nL => ?_⟩
          have sL := same_upd (o := .lst []) nL
          refine ⟨.list (ns.map PyData.int), .list [], .lst (.inl (.inl (sL _ _ hD))) (dpI _), .lst (.inl (.inl upd_same)) .nil, il_shaped _, il_shaped [], _, rfl, hQ' _ _ ⟨s9.trans (s10.trans sL), fun e => ?_⟩⟩
          rw [eqv_nilL] at e
          cases ns with
          | nil => cases e
          | cons x r => exact ⟨x, spt x (List.mem_cons_self ..)⟩
        · obtain ⟨s9, ex⟩ := pc
          obtain ⟨x0, sp0⟩ := ex rfl
          have hq9 := hq8.same s9
          refine ⟨.ref q, rfl, .ref t, rfl, .int z, rfl, .int W, rfl, t, z, W, bs, rfl, hst8.same s9, z0, by omega, W0, by omega, by omega, hbk, fun H10 D ns s10 nD hD spt whole nsl => ?_⟩
          refine ⟨D, _, rfl, .inl (.inl hD), fun R nR => ?_⟩
          have sR := same_upd (o := .lst (ns.map V.int).reverse) nR
          have hR : upd H10 R (.lst (ns.map V.int).reverse) R = some (.lst (ns.map V.int).reverse) := upd_same
          have s810 := s9.trans (s10.trans sR)
          have hq10 := hq8.same s810
          have Rq : R ≠ q := ((hq9.same s10).ne_none nR).symm
          have hm0 := whole x0 sp0
          refine ⟨q, R, _, c' + 2, rfl, hq10, by omega, .inl (.inl (.inl hR)), Rq, (fun e => ?_), ?_, fun H11 v b11 hq11 hv => ?_⟩
          · rw [List.reverse_eq_nil_iff] at e
            cases ns with
            | nil => cases hm0
            | cons x r => cases e
          · rw [List.length_reverse, List.length_map]
            omega
          obtain ⟨x, hxn, rfl⟩ := List.mem_map.mp (List.mem_reverse.mp hv)
          have sp := spt x hxn
          have sp1 := sp.pos
          have sp2 := sp.fit
          have b811 := (Same.but s810).trans b11
          have hB11 := b811 _ _ Bq hB8
          dsimp only [gName]
          refine ⟨.ref B, rfl, .inl ⟨rfl, _, .inl (.inl hB11)⟩, .int z, rfl, .int x, rfl, (by show 3 ≤ sizeLine; decide), fun T nT => ?_⟩
          have sT := same_upd (o := .tup [.str "get", .int z, .int x]) nT
          have fT : upd H11 T (.tup [.str "get", .int z, .int x]) T = some (.tup [.str "get", .int z, .int x]) := upd_same
          have hB12 := sT _ _ hB11
          have hq12 := hq11.same sT
          have b812 := b811.trans (Same.but sT)
          generalize upd H11 T (.tup [.str "get", .int z, .int x]) = H12 at *
          refine ⟨B, _, _, rfl, rfl, hB12, Nat.lt_of_le_of_lt (show xs.length ≤ 20 by omega) (by decide), ?_⟩
          have kq : ∀ b o, b ≠ B → H12 b = some o → upd H12 B (.lst (xs ++ [V.ref T])) b = some o := fun b o n e => by rw [upd_ne n]; exact e
          have hB13 : upd H12 B (.lst (xs ++ [V.ref T])) B = some (.lst (xs ++ [V.ref T])) := upd_same
          have hq13 : Dr (c' + 3) (upd H12 B (.lst (xs ++ [V.ref T]))) q := hq12.keep Bq.symm
          have neB : ∀ {a : Addr} {us : List V}, H12 a = some (.tup us) → a ≠ B := fun e => ne_of e hB12 (by intro z; cases z)
          have hst12 := hst8.mono fun v us e => b812 _ _ (hq8.netup e) e
          have hst13 : StAt (upd H12 B (.lst (xs ++ [V.ref T]))) t bs := hst12.mono fun v us e => kq _ _ (neB e) e
          have hx13 : ∀ y ∈ xs ++ [V.ref T], Itm 1 (upd H12 B (.lst (xs ++ [V.ref T]))) y := fun y h => by
            rcases List.mem_append.mp h with h | h
            · obtain ⟨t2, zs, e1, e2, e3, e4⟩ := Itm.but hq8 b812 (hx8 y h)
              exact ⟨t2, zs, e1, kq _ _ (neB e2) e2, e3, e4⟩
            · rw [List.mem_singleton.mp h]
              refine ⟨T, _, rfl, kq _ _ (neB fT) fT, (by show 3 ≤ 3; decide), fun y hy => ?_⟩
              simp only [List.mem_cons, List.not_mem_nil, or_false] at hy
              rcases hy with rfl | rfl | rfl
              · exact .inr (.inr (.inl rfl))
              · exact .inl ⟨_, rfl, by omega⟩
              · exact .inl ⟨_, rfl, by omega⟩
          have b013 : But q H (upd H12 B (.lst (xs ++ [V.ref T]))) := fun a o n e => kq _ _ (ne_of_none e nBH) ((b08.trans b812) _ _ n e)
          generalize upd H12 B (.lst (xs ++ [V.ref T])) = H13 at *
          refine ⟨.ref t, rfl, .int x, rfl, .int z, rfl, t, x, z, bs, rfl, hst13, by omega, fun H14 v cs s14 hv pm _ => ?_⟩
          exact ⟨_, _, _, v, _, _, _, rfl, b013.trans (Same.but s14), hq13.same s14, by omega, hv, by rw [pm.length_eq, List.length_append]; show bs.length + 1 ≤ i + 1; omega, fun b hb => by
            rcases List.mem_append.mp (pm.mem_iff.mp hb) with h | h
            · exact hb0 b h
            · rw [List.mem_singleton.mp h]
              dsimp only
              omega, s14 _ _ hB13, by rw [List.length_append]; show xs.length + 1 ≤ i + 1; omega, fun x h => Itm.same s14 (hx13 x h)⟩
        · obtain ⟨s9, _⟩ := pc
          exact ⟨_, _, _, t, bs, xs, _, rfl, b08.trans (Same.but s9), hq8.same s9, by omega, hst8.same s9, by omega, hb0, s9 _ _ hB8, by omega, fun x h => Itm.same s9 (hx8 x h)⟩
    · rintro σ H3 ⟨y6, y7, y8, t, bs, xs, c', rfl, b3, hq3, cle, hst, bln, hb0, hB3, xln, hx⟩
      refine ⟨.ref B, rfl, B, xs, rfl, .inl ⟨.inl (.inl hB3), fun u nu => ?_⟩⟩
      have su := same_upd (o := .tup xs) nu
      have hu : upd H3 u (.tup xs) u = some (.tup xs) := upd_same
      have hq4 := hq3.same su
      have b4 := b3.trans (Same.but su)
      have hx4 : ∀ x ∈ xs, Itm 1 (upd H3 u (.tup xs)) x := fun x h => Itm.same su (hx x h)
      generalize upd H3 u (.tup xs) = H4 at *
      have tc4 : TqF H4 c _ := (hc.frz fun o u e => b4 _ _ (hq.nefrz e) e).tq
      refine ⟨.ref q, rfl, .ref c, rfl, 2, rfl, _, rfl, c, _, rfl, tc4, fun p1 H5 s5 t1 => ?_⟩
      have hq5 := hq4.same s5
      refine ⟨q, p1, _, c', rfl, hq5, by omega, .inr t1.sq, t1.ne hq5, cutm2_ne C0, Nat.le_trans cut_le (by omega), fun H6 v b6 hq6 hv => ?_⟩
      obtain ⟨z, rfl, z0, z8⟩ := inC (cut_sub hv)
      refine ⟨(by show 3 ≤ sizeLine; decide), fun E nE => ?_⟩
      have sE := same_upd (o := .tup [.str "get", .int z, .non]) nE
      have fE : upd H6 E (.tup [.str "get", .int z, .non]) E = some (.tup [.str "get", .int z, .non]) := upd_same
      generalize upd H6 E (.tup [.str "get", .int z, .non]) = H7 at *
      refine ⟨(by show 1 ≤ sizeLine; decide), fun G nG => ?_⟩
      have sG := same_upd (o := .tup [.ref E]) nG
      have b47 : But q H4 _ := (Same.but s5).trans (b6.trans (Same.but (sE.trans sG)))
      refine ⟨u, G, xs, _, rfl, rfl, b47 _ _ (hq4.netup hu) hu, upd_same, by show xs.length + 1 ≤ 1000; omega, fun U H8 s8 hU => ?_⟩
      have b48 := b47.trans (Same.but s8)
      refine fin H8 _ U (b4.trans b48) (hq6.same (sE.trans (sG.trans s8))) (by omega) ⟨U, _, rfl, hU, by rw [List.length_append]; show xs.length + 1 ≤ 15; omega, fun y hy => ?_⟩
      rcases List.mem_append.mp hy with h | h
      · exact Itm.but hq4 b48 (hx4 y h)
      · rw [List.mem_singleton.mp h]
        refine ⟨E, _, rfl, (sG.trans s8) _ _ fE, (by show 3 ≤ 3; decide), fun y hy => ?_⟩
        simp only [List.mem_cons, List.not_mem_nil, or_false] at hy
        rcases hy with rfl | rfl | rfl
        · exact .inr (.inr (.inl rfl))
        · exact .inl ⟨_, rfl, by omega⟩
        · exact .inr (.inl rfl)
end
end Ph

/-! PhFr: an expression read in the heap without a list (the draws): whatever it makes stands apart from it. -/
namespace Ph
open PySem PySem.Spec PyProof.Rows L2
section
variable {X : Cx} {pins : List (Addr × Obj)} {σ : L2.St} {H : Hp} {s : Shared} {q : Addr} {xs : List V}
/-- the list's object, and that the entry of the def leaves it free to be tracked -/
structure LstO (X : Cx) (q : Addr) (xs : List V) (o : Obj) : Prop where
  len : xs.length ≤ sizeLine
  obj : ∃ (its : List Value) (n : Nat), Vals xs its ∧ o = { cls := .type "list", data := .seq its.toArray n }
  old : ∀ u, X.s_0.heap.get? q = some u → X.H_0 q = none → q ∈ X.ex
theorem inv_less (I : Inv X pins σ H s) (e : H q = some (.lst xs)) : ∃ o, LstO X q xs o ∧ (∀ p ∈ X.pn ++ pins, p.1 ≠ q) ∧ Inv X ((q, o) :: pins) σ (del H q) s := by
  obtain ⟨ln, its, n, rv, get⟩ : ObjOk X.prog X.w H s.heap q (.lst xs) := I.hok q _ e
  have apart : ∀ {b}, H b = none → b ≠ q := fun n z => by
    rw [z, e] at n
    cases n
  have gone : ∀ {b}, H b = none → del H q b = none := fun {b} n => (del_ne (apart n)).trans n
  have kept : ∀ {b u}, H b = some u → (∀ ys, u ≠ .lst ys) → del H q b = some u := fun {b u} g n => by
    refine (del_ne fun z => ?_).trans g
    rw [z, e] at g
    cases g
    exact n xs rfl
  refine ⟨_, ⟨ln, ⟨its, n, rv, rfl⟩, fun u g z => ?_⟩, fun p hp => apart (I.pin p hp).2.1, {
    ok := I.ok
    os := I.os
    bare := I.bare
    base := {
      keep := I.base.keep
      slot := I.base.slot
      free := fun b o g n x => gone (I.base.free b o g n x)
      there := I.base.there
      tups := fun b ys g => kept (I.base.tups b ys g) (fun _ z => nomatch z)
      frzs := fun b o u g => kept (I.base.frzs b o u g) (fun _ z => nomatch z)
      tbls := fun b ps g => (I.base.tbls b ps g).elim fun m z => ⟨m, kept z (fun _ z => nomatch z)⟩ }
    loc := I.loc
    cell := I.cell
    free := gone I.free
    freeC := fun y c g => gone (I.freeC y c g)
    pin := fun p hp => by
      rcases List.mem_append.mp hp with h | h
      · obtain ⟨q1, q2, q3⟩ := I.pin p (List.mem_append_left _ h)
        exact ⟨q1, gone q2, q3⟩
      · rcases List.mem_cons.mp h with rfl | h
        · refine ⟨get, del_same, fun z => ?_, fun z => ?_, fun v z => nomatch z⟩
          · have f := I.free
            rw [← z, e] at f
            cases f
          · obtain ⟨_, o, g, nf⟩ := I.funs.mem z
            rw [get] at g
            cases g
            have w := I.ok.frf _ z
            obtain ⟨_, o2, g2, _⟩ := I.ok.funs.mem z
            by_cases hx : q ∈ X.ex
            · exact absurd z (I.ok.exfs q hx)
            · have := I.base.free q o2 g2 w hx
              rw [e] at this
              cases this
        · obtain ⟨q1, q2, q3⟩ := I.pin p (List.mem_append_right _ h)
          exact ⟨q1, gone q2, q3⟩
    hok := fun b u g => ?_
    len := I.len }⟩
  · by_cases hx : q ∈ X.ex
    · exact hx
    · have := I.base.free q u g z hx
      rw [e] at this
      cases this
  · have nb : b ≠ q := fun z => by
      rw [z, del_same] at g
      cases g
    rw [del_ne nb] at g
    exact (I.hok b u g).stay (fun _ _ _ z => z) (fun c z => kept z (fun _ z => nomatch z)) fun c ys z => kept z (fun _ z => nomatch z)
theorem inv_more {o : Obj} (I : Inv X ((q, o) :: pins) σ H s) (L : LstO X q xs o) (apart : ∀ p ∈ X.pn ++ pins, p.1 ≠ q) : Inv X pins σ (upd H q (.lst xs)) s := by
  obtain ⟨get, none_, notL, _, _⟩ := I.pin (q, o) (List.mem_append_right _ List.mem_cons_self)
  obtain ⟨its, n, rv, eo⟩ := L.obj
  have keepH : ∀ {b u}, H b = some u → upd H q (.lst xs) b = some u := fun {b u} e => (upd_ne (ne_of_none e none_)).trans e
  have notC : ∀ y c, X.env.cells.lookup y = some c → c ≠ q := fun y c e z => by
    obtain ⟨v, o2, g2, d2⟩ := I.cell y c e
    rw [z, get, eo] at g2
    cases g2
    cases d2
  exact {
    ok := I.ok
    os := I.os
    bare := I.bare
    base := {
      keep := I.base.keep
      slot := I.base.slot
      free := fun b u g z x => (upd_ne fun w => by rw [w] at g z x; exact x (L.old u g z)).trans (I.base.free b u g z x)
      there := I.base.there
      tups := fun b ys e => keepH (I.base.tups b ys e)
      frzs := fun b u v e => keepH (I.base.frzs b u v e)
      tbls := fun b ps e => (I.base.tbls b ps e).elim fun m z => ⟨m, keepH z⟩ }
    loc := I.loc
    cell := I.cell
    free := (upd_ne notL.symm).trans I.free
    freeC := fun y c e => (upd_ne (notC y c e)).trans (I.freeC y c e)
    pin := fun p hp => by
      obtain ⟨q1, q2, q3⟩ := I.pin p ((List.mem_append.mp hp).elim (fun y => List.mem_append_left _ y) fun y => List.mem_append_right _ (List.mem_cons_of_mem _ y))
      exact ⟨q1, (upd_ne (apart p hp)).trans q2, q3⟩
    hok := fun b u e => by
      by_cases h : b = q
      · subst h
        rw [upd_same] at e
        cases e
        exact ⟨L.len, its, n, rv, by rw [get, eo]⟩
      · rw [upd_ne h] at e
        exact (I.hok b u e).stay (fun _ _ _ y => y) (fun _ y => keepH y) fun _ _ y => keepH y
    len := I.len }
/-- e, read without the list at q -/
def tFrm (te : TE) : TE := fun σ H Q => ∃ (q : Addr) (xs : List V), H q = some (.lst xs) ∧ te σ (del H q) fun v H' => H' q = none → Q v (upd H' q (.lst xs))
theorem pe_frm {e : Expr} {te : TE} (he : PE X e te) : PE X e (tFrm te) := by
  constructor
  intro pins s σ H Q I h
  obtain ⟨q, xs, e, h⟩ := h
  obtain ⟨o, L, apart, J⟩ := inv_less I e
  refine thn (he.run _ s σ _ _ J h) fun u s1 ⟨v, H1, I1, rv, z⟩ => ?_
  exact ⟨v, _, inv_more I1 L apart, rv, z (I1.pin (q, o) (List.mem_append_right _ List.mem_cons_self)).2.1⟩
end
theorem del_hid {H : Hp} {q : Addr} : del H q = hid [q] H := by
  funext b
  by_cases h : b = q
  · rw [h, del_same]
    exact (if_pos (List.mem_singleton.mpr rfl)).symm
  · rw [del_ne h]
    exact (hid_at fun z => h (List.mem_singleton.mp z)).symm
theorem hid_upd {H : Hp} {q : Addr} {o : HO} (n : H q = none) : hid [q] (upd H q o) = H := by
  funext b
  by_cases h : b = q
  · rw [h, n]
    exact if_pos (List.mem_singleton.mpr rfl)
  · rw [hid_at fun z => h (List.mem_singleton.mp z), upd_ne h]
/-- what became of the heap without q is what became of the rest -/
theorem but_upd_del {H H' : Hp} {q : Addr} {o : HO} (n : H' q = none) (b : ∀ c u, del H q c = some u → H' c = some u) : But q H (upd H' q o) := fun c u nc e => by
  rw [upd_ne nc]
  exact b c u ((del_ne nc).trans e)
section
variable {P : Program} {w : World} {K : PySem.W.Frag} {mg : Str → Option Value} {base : Heap}
/-- a promise read in the heap without the list at q: it is there again behind the call -/
def spFrm (sp : Sp) : Sp := fun vs H Q _ => ∃ (q : Addr) (xs : List V), H q = some (.lst xs) ∧ sp vs (del H q) (fun v H' => H' q = none → Q v (upd H' q (.lst xs))) (fun _ _ _ => False)
theorem frame_ok {k : Nat} {f : Addr} {fd : FuncData} {ps : List Str} {sp : Sp} (F : FnOk P w K mg base CX0 k f fd ps sp) : FnOk P w K mg base CX0 k f fd ps (spFrm sp) := by
  refine ⟨fun vs H Q E ⟨q, xs, _, h⟩ => F.len _ _ _ _ h, fun A outer s H args us vs Q E hr e0 hb r ⟨q, xs, e, h⟩ => ?_⟩
  have apart : ∀ {b}, H b = none → b ≠ q := fun n z => by
    rw [z, e] at n
    cases n
  have gone : ∀ {b}, H b = none → del H q b = none := fun {b} n => (del_ne (apart n)).trans n
  have kept : ∀ {b u}, H b = some u → (∀ ys, u ≠ .lst ys) → del H q b = some u := fun {b u} g n => by
    refine (del_ne fun z => ?_).trans g
    rw [z, e] at g
    cases g
    exact n xs rfl
  have here : ObjOk P w H s.heap q (.lst xs) := e0.hok q _ e
  obtain ⟨ln, its, n, rv, get⟩ := here
  have E1 : Env0 P w K mg base A outer s (del H q) := ⟨e0.frames, e0.mod, fun b o g => ⟨(e0.bs b o g).1, gone (e0.bs b o g).2⟩, e0.bsz, e0.funs, fun b hb => gone (e0.frf b hb), fun b u g => by
    have nb : b ≠ q := fun z => by
      rw [z, del_same] at g
      cases g
    rw [del_ne nb] at g
    exact (e0.hok b u g).stay (fun _ _ _ z => z) (fun c z => kept z (fun _ z => nomatch z)) fun c ys z => kept z (fun _ z => nomatch z), e0.bare⟩
  have nfr : q ∉ frs outer := fun z => by
    have := e0.frf q z
    rw [e] at this
    cases this
  refine codeAny_mono (F.run A outer s (del H q) args us vs _ _ hr E1 hb r h) fun r s' out => ?_
  match r, out with
  | .error _, out => exact out.elim
  | .ok (.ret u), ⟨v, H', os, bare, un, hok, rel, z⟩ =>
    have get' := un.keep q _ get del_same nfr (by simp)
    have n' : H' q = none := un.free q _ get del_same (by simp)
    have up : ∀ {b u}, H' b = some u → upd H' q (.lst xs) b = some u := fun {b u} g => (upd_ne (ne_of_none g n')).trans g
    refine ⟨v, upd H' q (.lst xs), os, bare, {
      keep := fun b o g nb hb hx => un.keep b o g (gone nb) hb hx
      slot := fun b o g nb hb hx => un.slot b o g (gone nb) hb hx
      free := fun b o g nb hx => (upd_ne (apart nb)).trans (un.free b o g (gone nb) hx)
      there := un.there
      tups := fun b ys g => up (un.tups b ys (kept g fun _ z => nomatch z))
      frzs := fun b o u g => up (un.frzs b o u (kept g fun _ z => nomatch z))
      tbls := fun b ps g => (un.tbls b ps (kept g fun _ z => nomatch z)).elim fun m y => ⟨m, up y⟩ }, fun b u g => ?_, rel, z n'⟩
    by_cases hb : b = q
    · subst hb
      rw [upd_same] at g
      cases g
      exact ⟨ln, its, n, rv, get'⟩
    · rw [upd_ne hb] at g
      exact (hok b u g).stay (fun _ _ _ y => y) (fun _ y => up y) fun _ _ y => up y
end
end Ph

set_option maxHeartbeats 8000000
namespace Ph
open PySem PySem.Spec PyProof.Rows L2
@[irreducible] def stx (d : PyData) : Str := d.shown
theorem stx_eq (d : PyData) : d.shown = stx d := by unfold stx; rfl
theorem or_split {c1 c2 : TT} {σ : L2.St} {H : Hp} {Q : Bool → Hp → Prop} (R : Hp → Prop) (h1 : ∀ Q' : Bool → Hp → Prop, (∀ H', R H' → Q' false H') → c1 σ H Q') (h2 : ∀ H', R H' → c2 σ H' Q) : tOr c1 c2 σ H Q := h1 _ fun H' r => iteF (h2 H' r)
theorem len_weight : ∀ (ds : List PyData), ds.length ≤ PyData.weightAll ds
  | [] => Nat.zero_le _
  | d :: r => by
    have := len_weight r
    simp only [PyData.weightAll, List.length_cons]
    omega
/-- a value that is asked: its text, and how long it is as a tuple -/
def Vl (K : PySem.W.Frag) (q : Addr) (H : Hp) (x : V) : Prop := ∃ d, Dq K (hid [q] H) x d ∧ Shd d 6 300000 ∧ ∀ ds, d = .tuple ds → ds.length ≤ 50000
section
variable {K : PySem.W.Frag} {q : Addr} {H H' : Hp} {x : V}
theorem Vl.but (v : Vl K q H x) (b : But q H H') : Vl K q H' x := let ⟨d, h, s⟩ := v; ⟨d, h.same (hid_but (ButS.but b)), s⟩
theorem Vl.same (v : Vl K q H x) (s : Same H H') : Vl K q H' x := v.but (Same.but s)
theorem AnyE.vl {n k : Nat} (v : AnyE K q H n k x) (hn : n ≤ 6) (hk : k ≤ 50000) : Vl K q H x := by
  obtain ⟨d, h, s⟩ := v
  refine ⟨d, h, s.up hn (by omega), fun ds e => ?_⟩
  have h1 := len_weight ds
  have h2 := s.wt
  rw [e] at h2
  simp only [PyData.weight] at h2
  omega
theorem AllE.vlT {n k : Nat} {xs : List V} {t : Addr} (a : AllE K q H n k xs) (e : H t = some (.tup xs)) (nt : t ≠ q) (hn : n + 1 ≤ 6) (hk : k ≤ 300000) (hl : xs.length ≤ 50000) : Vl K q H (.ref t) := by
  obtain ⟨ds, a1, a2⟩ := a
  refine ⟨.tuple ds, .tup (.inl (.inl ((hid_at (fun z => nt (List.mem_singleton.mp z))).trans e))) a1, (a2.tuple).up hn hk, fun es he => ?_⟩
  injection he with he
  rw [← he, ← dqAll_len a1]
  exact hl
end
theorem Itm.any1 {K : PySem.W.Frag} {q : Addr} {H : Hp} {x : V} {c : Nat} (hq : Dr c H q) (h : Itm 1 H x) : AnyE K q H 1 363 x := by
  obtain ⟨t, xs, rfl, ht, l, h⟩ := h
  refine (AnyE.tup (k := 120) ht (hq.netup ht) fun y hy => ?_).up (Nat.le_refl _) ?_
  · rcases h y hy with ⟨i, rfl, hi⟩ | rfl | rfl | rfl
    · exact AnyE.intB (Nat.lt_of_le_of_lt hi (by decide))
    · exact AnyE.non
    · exact AnyE.str shd_words.1
    · exact AnyE.str shd_words.2
  · have : xs.length ≤ 3 := l
    show (120 + 1) * xs.length ≤ 363
    omega
theorem del_updN {G : Hp} {D : Addr} {o : HO} (n : G D = none) : del (upd G D o) D = G := funext fun b => by
  by_cases h : b = D
  · rw [h, del_same, n]
  · rw [del_ne h, upd_ne h]
theorem flat_len (xs : List V) (n : Nat) : (List.replicate n xs).flatten.length = n * xs.length := by
  induction n with
  | zero => simp
  | succ n ih =>
    rw [List.replicate_succ, List.flatten_cons, List.length_append, ih, Nat.succ_mul]
    omega
section
variable {P : Program} {w : World} {K : PySem.W.Frag} {mg : Str → Option Value} {base : Heap}
def spRi : Sp := fun vs H Q _ => ∃ (q : Addr), vs = [.ref q] ∧ Dr 0 H q ∧ ∀ H', But q H H' → Q (.bl true) H'
theorem ok_Ri {k : Nat} (Z : Fns K mg) : FnG P w K mg base CX0 (k + 1 + 1 + 1 + 1 + 1 + 1 + 1 + 1 + 1) Z.fRi Z.fdRi ["_law_draws_here"] spRi := by
  have GNx : FnOk P w K mg base CX0 (k + 1) Z.fNx Z.fdNx ["_law_draws_here", "_law_bound"] spNx := ok_Nx Z
  have GCc : FnOk P w K mg base CX0 (k + 1 + 1 + 1) Z.fCc Z.fdCc ["_law_draws_here", "_law_most", "_law_longest"] spCc := ok_Cc Z
  have GEs : FnOk P w K mg base CX0 (k + 1 + 1 + 1) Z.fEs Z.fdEs ["_law_draws_here", "_law_chain_here", "_law_limit", "_law_words"] (spEs K) := ok_Es Z
  have GBt : FnOk P w K mg base CX0 (k + 1 + 1 + 1 + 1 + 1 + 1) Z.fBt Z.fdBt ["_law_draws_here", "_law_item", "_law_deep"] (spFrm (spBt K 2)) := frame_ok (ok_Bt2 Z)
  have GDx : FnOk P w K mg base CX0 (k + 1 + 1 + 1 + 1) Z.fDx Z.fdDx ["_law_chain_here", "_law_limit", "_law_words", "_law_value"] (spDx K) := ok_Dx Z
  have GSx : FnOk P w K mg base CX0 (k + 1 + 1 + 1 + 1 + 1 + 1 + 1 + 1) Z.fSx Z.fdSx ["chain", "limit", "pages", "value"] (spSx K) := ok_Sx Z
  refine okG Z.FRi scRi (fun vs H Q E h => ?_) (fun cdv A outer s H vs Q E hgu hr h => ?_)
  · obtain ⟨q, rfl, _⟩ := h
    rfl
  · obtain ⟨q, rfl, hq, fin⟩ := h
    have hu64 := u64_of hr
    refine ⟨_, (pss_cons (ps_set (i := 1) scRi.nd rfl (.inl rfl) (pe_call GCc (hr.mono (by omega)) (by rfl) Z.gCc Z.FCc.kp Z.bCc .nil pass0 (pa_cons (pv 0) (pa_cons pe_int (pa_cons pe_int pa_nil)))))
 (pss_cons (ps_set (i := 2) scRi.nd rfl (.inl rfl) (pe_call GNx (hr.mono (by omega)) (by rfl) Z.gNx Z.FNx.kp Z.bNx .nil pass0 (pa_cons (pv 0) (pa_cons pe_int pa_nil))))
 (pss_cons (ps_par (i := 3) (j := 4) (by rfl) scRi.nd rfl rfl (by decide) rfl rfl (pa_cons (pe_op op_mul (pv 2) (pe_ix ix_tup (pv 1) (pe_un un_neg pe_int) (fun _ _ => rfl))) (pa_cons (pe_call GNx (hr.mono (by omega)) (by rfl) Z.gNx Z.FNx.kp Z.bNx .nil pass0 (pa_cons (pv 0) (pa_cons pe_int pa_nil))) pa_nil)) (by rfl))
 (pss_cons (ps_for PassesOwn.never rfl (pi_range1 (by rfl) Z.N.range (pa_cons pe_int pa_nil)) (pg_name (i := 5) scRi.nd rfl (.inl rfl))
 (pss_cons (ps_set (i := 6) scRi.nd rfl (.inr rfl) (pe_call GEs (hr.mono (by omega)) (by rfl) Z.gEs Z.FEs.kp Z.bEs .nil pass0 (pa_cons (pv 0) (pa_cons (pv 1) (pa_cons (pv 4) (pa_cons (pv 3) pa_nil))))))
 (pss_cons (ps_set (i := 7) scRi.nd rfl (.inl rfl) (pe_op op_cat (pe_lst (pa_cons (pv 6) pa_nil)) (pe_lc (own := [("_law_time", 12)]) (g := (gName 12)) (tt := tYes) (by rfl) scRi.nd (pi_range1 (by rfl) Z.N.range (pa_cons pe_int pa_nil)) (blkOk_by (N := scRiN) (sc := defScope scRiS) (by decide +kernel)) (fun _ _ _ _ _ => (pg_name (i := 12) scRi.nd rfl (.inl rfl))) (fun _ _ _ _ _ => pts_nil) (fun _ _ _ _ _ => (pe_call GBt (hr.mono (by omega)) (by rfl) Z.gBt Z.FBt.kp Z.bBt .nil pass0 (pa_cons (pv 0) (pa_cons (pv 6) (pa_cons pe_int pa_nil))))))))
 (pss_cons (ps_if (PW.pt (pw_and (pt_cmpR op_eq (pv 5) pe_int (nomark _)) (pw_and (pt_cmpR op_gt (pv 3) pe_int (nomark _)) (pw_and1 (pt_cmpR op_gt (pv 4) pe_int (nomark _))))))
 (pss_cons (ps_set (i := 8) scRi.nd rfl (.inl rfl) (pe_op op_catS (pe_op op_repT (pe_tup (pa_cons (pe_tup (pa_cons pe_str (pa_cons pe_int (pa_cons pe_int pa_nil)))) (pa_cons (pe_tup (pa_cons pe_str (pa_cons pe_int pa_nil))) pa_nil))) (pe_op op_add pe_int (pe_call GNx (hr.mono (by omega)) (by rfl) Z.gNx Z.FNx.kp Z.bNx .nil pass0 (pa_cons (pv 0) (pa_cons pe_int pa_nil))))) (pv 6)))
 (pss_one (ps_set (i := 7) scRi.nd rfl (.inl rfl) (pe_op op_cat (pv 7) (pe_lst (pa_cons (pv 8) (pa_cons (pe_slice sl_tupS (pv 8) po_none (po_some (pe_un un_neg pe_int))) (pa_cons (pe_op op_catS (pe_slice sl_tupS (pv 8) po_none (po_some (pe_un un_neg pe_int))) (pe_slice sl_tupS (pv 8) (po_some (pe_un un_neg pe_int)) po_none)) pa_nil)))))))) pss_nil)
 (pss_cons (ps_set (i := 7) scRi.nd rfl (.inl rfl) (pe_op op_cat (pv 7) (pe_lst (pa_cons pe_non (pa_cons pe_bl (pa_cons pe_int (pa_cons pe_str (pa_cons (pe_tup pa_nil) (pa_cons (pe_lst pa_nil) (pa_cons pe_dnewK (pa_cons (pe_lst (pa_cons (pv 6) pa_nil)) (pa_cons (pe_callTy call_list_of (by rfl) Z.N.list (by decide +kernel) (pa_cons (pv 6) pa_nil)) (pa_cons (pe_tup (pa_cons (pe_tup (pa_cons pe_str (pa_cons pe_int (pa_cons pe_non pa_nil)))) pa_nil)) (pa_cons (pe_tup (pa_cons pe_str (pa_cons pe_int (pa_cons pe_non pa_nil)))) pa_nil))))))))))))))
 (pss_one (ps_for PassesOwn.never rfl (pi_list (pv 7)) (pg_name (i := 9) scRi.nd rfl (.inl rfl))
 (pss_cons (ps_par (i := 10) (j := 11) (by rfl) scRi.nd rfl rfl (by decide) rfl rfl (pa_cons (pe_callB (call_rqA hgu hu64) (by rfl) Z.N.repr (by decide +kernel) (pa_cons (pv 9) pa_nil)) (pa_cons (pe_call GDx (hr.mono (by omega)) (by rfl) Z.gDx Z.FDx.kp Z.bDx .nil pass0 (pa_cons (pv 1) (pa_cons (pv 4) (pa_cons (pv 3) (pa_cons (pv 9) pa_nil))))) pa_nil)) (by rfl))
 (pss_one (ps_if (PW.pt (pw_or (pt_cmpR op_ne (pe_callB (call_rqA hgu hu64) (by rfl) Z.N.repr (by decide +kernel) (pa_cons (pe_call GSx (hr.mono (by omega)) (by rfl) Z.gSx Z.FSx.kp Z.bSx .nil pass0 (pa_cons (pv 1) (pa_cons (pv 4) (pa_cons (pv 2) (pa_cons (pv 9) pa_nil))))) pa_nil)) (pe_callB (call_rqA hgu hu64) (by rfl) Z.N.repr (by decide +kernel) (pa_cons (pv 11) pa_nil)) (nomark _)) (pw_or1 (pt_cmpR op_ne (pe_callB (call_rqA hgu hu64) (by rfl) Z.N.repr (by decide +kernel) (pa_cons (pv 9) pa_nil)) (pv 10) (nomark _)))))
 (pss_one (ps_ret pe_bl)) pss_nil))))))))))
 (pss_one (ps_ret pe_bl)))))), ?_⟩
    refine ⟨.ref q, rfl, q, 8, 4, 0, rfl, hq, by decide, by decide, by decide, by decide, by decide, fun H1 c sz p b1 hq1 hc1 cn p4 => ?_⟩
    dsimp only [gName]
    refine ⟨.ref q, rfl, q, 4, _, rfl, hq1, by decide, by decide, by decide, fun H2 d2 b2 hq2 d20 d21 => ?_⟩
    obtain ⟨pg, rfl, pg3⟩ : ∃ pg : Nat, d2 = (pg : Int) ∧ pg ≤ 3 := ⟨d2.toNat, by omega, by omega⟩
    dsimp only [gName]
    have cn : Cn sz p 8 := cn
    have p3 : p ≤ 3 := by omega
    have hc2 : ChAt H2 c (tl sz (p + 1)) := hc1.frz fun o u e => b2 _ _ (hq1.nefrz e) e
    have szp : ∀ j, j ≤ p → 0 < sz j ∧ sz j ≤ 8 := fun j hj => ⟨cn.ch.pos (by omega), Nat.le_trans (cn.ch.mono (i := j) (j := p) hj (by omega)) cn.top⟩
    have ch := cn.ch
    have zp := szp p (Nat.le_refl _)
    have W0 : 0 ≤ (pg : Int) * ((sz p : Nat) : Int) := Int.mul_nonneg (by omega) (by omega)
    have W1 : (pg : Int) * ((sz p : Nat) : Int) ≤ 24 := Int.le_trans (Int.mul_le_mul (show (pg : Int) ≤ 3 by omega) (show ((sz p : Nat) : Int) ≤ 8 by omega) (by omega) (by decide)) (by decide)
    refine ⟨.int pg, rfl, .ref c, rfl, 1, rfl, c, _, -1, _, rfl, rfl, hc2.sq, tl_atL, _, _, rfl, rfl, .inl ⟨by omega, by omega⟩, .ref q, rfl, q, 10, _, rfl, hq2, by decide, by decide, by decide, fun H3 d3 b3 hq3 d30 d31 => ⟨_, _, rfl, ?_⟩⟩
    obtain ⟨M, rfl, M9⟩ : ∃ M : Nat, d3 = (M : Int) ∧ M ≤ 9 := ⟨d3.toNat, by omega, by omega⟩
    dsimp only [gName]
    have hc3 : ChAt H3 c (tl sz (p + 1)) := hc2.frz fun o u e => b3 _ _ (hq2.nefrz e) e
    have bq3 := b1.trans (b2.trans b3)
    obtain ⟨W, eW⟩ : ∃ W : Int, (pg : Int) * ((sz p : Nat) : Int) = W := ⟨_, rfl⟩
    rw [eW] at W0 W1 ⊢
    have hcap : drCap = 10000000 := rfl
    have ani : ∀ {H' : Hp} {a : Int}, a.natAbs < 10 ^ 35 → AnyE K q H' 0 120 (.int a) := fun h => .intB h
    refine ⟨3, rfl, by decide, by decide, ?_⟩
    refine for_range (lo := 0) (n := (3 : Int).toNat) (fun i σ H' => ∃ y5 y6 y7 y8 y9 y10 y11, σ = [some (.ref q), some (.ref c), some (.int pg), some (.int W), some (.int M), y5, y6, y7, y8, y9, y10, y11, none] ∧ But q H3 H' ∧ ∃ c', Dr c' H' q ∧ c' ≤ 200 + 1000 * i) ⟨_, _, _, _, _, _, _, rfl, But.refl _ _, _, hq3, by omega⟩ ?_ ?_
    · rintro i σ H4 hi ⟨y5, y6, y7, y8, y9, y10, y11, rfl, b4, c', hq4, cle⟩
      have i3 : i < 3 := hi
      have hc4 : ChAt H4 c (tl sz (p + 1)) := hc3.frz fun o u e => b4 _ _ (hq3.nefrz e) e
      refine ⟨.ref q, rfl, .ref c, rfl, .int M, rfl, .int W, rfl, q, c, sz, p, c', M, W, rfl, hq4, by omega, hc4, cn, by omega, W0, by omega, by omega, fun H5 c5 U b5 hq5 cle5 itU => ?_⟩
      dsimp only [gName]
      have b05 := b4.trans b5
      refine ⟨.ref U, rfl, (by show 1 ≤ sizeLine; decide), fun L1 nL1 => ?_⟩
      have sL1 := same_upd (o := .lst [.ref U]) nL1
      have hL1 : upd H5 L1 (.lst [.ref U]) L1 = some (.lst [.ref U]) := upd_same
      have hq6 := hq5.same sL1
      have itU6 := itU.same sL1
      have b06 := b05.trans (Same.but sL1)
      have L1q : L1 ≠ q := (hq5.ne_none nL1).symm
      generalize upd H5 L1 (.lst [.ref U]) = H6 at *
      refine ⟨12, rfl, by decide, by decide, fun D nD => ?_⟩
      have sD := same_upd (o := .lst []) nD
      have nDq : D ≠ q := (hq6.ne_none nD).symm
      refine lc_it (walk_range (lo := 0) (n := (12 : Int).toNat)) (fun j H8 => ∃ G xs c8, H8 = upd G D (.lst xs) ∧ But q H6 G ∧ G D = none ∧ xs.length = j ∧ (∀ x ∈ xs, Vl K q G x) ∧ Dr c8 G q ∧ c8 ≤ c5 + 9 * j)
        ⟨H6, [], c5, rfl, But.refl _ _, nD, rfl, (fun x h => nomatch h), hq6, Nat.le_refl _⟩ (fun _ _ _ _ => trivial) (fun j x H8 H9 hj p8 y => ?_) (fun H8 p8 => ?_)
      · obtain ⟨rfl, rfl⟩ := y
        obtain ⟨G, xs, c8, rfl, b8, nG, xl, hv, hq8, cle8⟩ := p8
        have j12 : j < 12 := hj
        refine ⟨rfl, .ref q, rfl, .ref U, rfl, D, xs, upd_same, ?_⟩
        rw [del_updN nG]
        refine ⟨q, .ref U, 3, c8, rfl, hq8, by omega, by decide, by decide, Itm.but hq6 b8 itU6, fun H10 c10 y b10 hq10 cle10 any n10 => ?_⟩
        refine ⟨_, upd_same, Nat.lt_of_le_of_lt (show xs.length ≤ 12 by omega) (by decide), H10, xs ++ [y], c10, upd_upd, b8.trans b10, n10, by rw [List.length_append]; show xs.length + 1 = j + 1; omega, fun z hz => ?_, hq10, by omega⟩
        rcases List.mem_append.mp hz with h | h
        · exact (hv z h).but b10
        · rw [List.mem_singleton.mp h]
          exact any.vl (by decide) (by decide)
      · obtain ⟨G, xs, c8, rfl, b8, nG, xl, hv, hq8, cle8⟩ := p8
        have xl12 : xs.length = 12 := xl
        have sG := same_upd (o := .lst xs) nG
        have hD8 : upd G D (.lst xs) D = some (.lst xs) := upd_same
        have b68 := b8.trans (Same.but sG)
        have hv8 : ∀ x ∈ xs, Vl K q (upd G D (.lst xs)) x := fun x h => (hv x h).same sG
        have hq8 := hq8.same sG
        clear hv
        generalize upd G D (.lst xs) = H8 at *
        refine ⟨L1, D, _, _, rfl, rfl, b68 _ _ L1q hL1, hD8, by show 1 + xs.length ≤ _; rw [xl12]; decide, fun L2 nL2 => ?_⟩
        dsimp only [gName]
        have sL2 := same_upd (o := .lst ([V.ref U] ++ xs)) nL2
        have hL2 : upd H8 L2 (.lst ([V.ref U] ++ xs)) L2 = some (.lst ([V.ref U] ++ xs)) := upd_same
        have hq9 := hq8.same sL2
        have b69 := b68.trans (Same.but sL2)
        have itU9 := Itm.but hq6 b69 itU6
        have anU : AnyE K q _ 2 9060 (.ref U) := Itm.any hq9 (by decide) itU9
        have hv9 : ∀ x ∈ [V.ref U] ++ xs, Vl K q (upd H8 L2 (.lst ([V.ref U] ++ xs))) x := fun x h => by
          rcases List.mem_append.mp h with h | h
          · rw [List.mem_singleton.mp h]
            exact anU.vl (by decide) (by decide)
          · exact (hv8 x h).same sL2
        have L2q : L2 ≠ q := (hq8.ne_none nL2).symm
        have zl : ([V.ref U] ++ xs).length = 13 := by rw [List.length_append, xl12]; rfl
        generalize [V.ref U] ++ xs = zs at *
        generalize upd H8 L2 (.lst zs) = H9 at *
        have b09 := b06.trans b69
        refine seq_splitR (fun σ' H' => ∃ y8 L vs c9, σ' = [some (.ref q), some (.ref c), some (.int pg), some (.int W), some (.int M), some (.int (0 + (i : Int))), some (.ref U), some (.ref L), y8, y9, y10, y11, none] ∧ But q H9 H' ∧ Dr c9 H' q ∧ c9 ≤ c8 + 10 ∧ H' L = some (.lst vs) ∧ vs.length ≤ 16 ∧ L ≠ q ∧ ∀ x ∈ vs, Vl K q H' x) (fun D' rt0 hD' => ?_) ?_
        · refine ⟨.int (0 + (i : Int)), rfl, rfl, _, rfl, ite2 (fun _ => ?_) (fun _ => hD' _ _ ⟨_, L2, zs, c8, rfl, But.refl _ _, hq9, by omega, hL2, by omega, L2q, hv9⟩)⟩
          refine ⟨.int W, rfl, _, _, rfl, rfl, _, rfl, ite2 (fun _ => ?_) (fun _ => hD' _ _ ⟨_, L2, zs, c8, rfl, But.refl _ _, hq9, by omega, hL2, by omega, L2q, hv9⟩)⟩
          refine ⟨.int M, rfl, _, _, rfl, rfl, _, rfl, ite2 (fun _ => ?_) (fun _ => hD' _ _ ⟨_, L2, zs, c8, rfl, But.refl _ _, hq9, by omega, hL2, by omega, L2q, hv9⟩)⟩
          refine ⟨(by show 3 ≤ sizeLine; decide), fun A nA => ?_⟩
          have sA := same_upd (o := .tup [.str "get", .int 1, .int 0]) nA
          have fA : upd H9 A (.tup [.str "get", .int 1, .int 0]) A = some (.tup [.str "get", .int 1, .int 0]) := upd_same
          generalize upd H9 A (.tup [.str "get", .int 1, .int 0]) = HA at *
          refine ⟨(by show 2 ≤ sizeLine; decide), fun B nB => ?_⟩
          have sB := same_upd (o := .tup [.str "free", .int 0]) nB
          have fB : upd HA B (.tup [.str "free", .int 0]) B = some (.tup [.str "free", .int 0]) := upd_same
          generalize upd HA B (.tup [.str "free", .int 0]) = HB at *
          refine ⟨(by show 2 ≤ sizeLine; decide), fun Pp nPp => ?_⟩
          have sPp := same_upd (o := .tup [.ref A, .ref B]) nPp
          have fPp : upd HB Pp (.tup [.ref A, .ref B]) Pp = some (.tup [.ref A, .ref B]) := upd_same
          generalize upd HB Pp (.tup [.ref A, .ref B]) = HP at *
          have hqP := hq9.same (sA.trans (sB.trans sPp))
          refine ⟨.ref q, rfl, q, 9, c8, rfl, hqP, by omega, by decide, by decide, fun HN d bN hqN d0 d1 => ?_⟩
          have k9N : But q H9 HN := (Same.but (sA.trans (sB.trans sPp))).trans bN
          have gA := bN _ _ (hqP.netup ((sB.trans sPp) _ _ fA)) ((sB.trans sPp) _ _ fA)
          have gB := bN _ _ (hqP.netup (sPp _ _ fB)) (sPp _ _ fB)
          have gP := bN _ _ (hqP.netup fPp) fPp
          refine ⟨_, _, rfl, rfl, Pp, _, _, rfl, rfl, .inl (.inl gP), List.cons_ne_nil _ _, by omega, by omega, by show 2 ≤ 1000; decide, fun R nR => ?_⟩
          have zsl : (List.replicate (150 + d).toNat [V.ref A, V.ref B]).flatten.length ≤ 316 := by
            rw [flat_len]
            show (150 + d).toNat * 2 ≤ 316
            omega
          have zsm : ∀ y ∈ (List.replicate (150 + d).toNat [V.ref A, V.ref B]).flatten, y = V.ref A ∨ y = V.ref B := fun y hy => by
            obtain ⟨l, hl, hyl⟩ := List.mem_flatten.mp hy
            rw [List.eq_of_mem_replicate hl] at hyl
            simpa using hyl
          generalize (List.replicate (150 + d).toNat [V.ref A, V.ref B]).flatten = rs at *
          have sR := same_upd (o := .tup rs) nR
          have fR : upd HN R (.tup rs) R = some (.tup rs) := upd_same
          generalize upd HN R (.tup rs) = HR at *
          obtain ⟨U', ys, eU, hU9, yl, hy9⟩ := itU9
          cases eU
          have yl15 : ys.length ≤ 15 := yl
          have hUR := sR _ _ (k9N _ _ (hq9.netup hU9) hU9)
          refine ⟨.ref U, rfl, R, U, rs, ys, rfl, rfl, fR, hUR, by omega, fun Lg HL sLg fLg => ?_⟩
          dsimp only [gName]
          refine ⟨.ref L2, rfl, .ref Lg, rfl, .ref Lg, rfl, 1, rfl, _, rfl, Lg, _, rfl, fLg, fun a1 G1 v1 f1 => ?_⟩
          refine ⟨.ref Lg, rfl, 2, rfl, _, rfl, Lg, _, rfl, v1 _ _ fLg, fun a2 G2 v2 f2 => ?_⟩
          refine ⟨.ref Lg, rfl, 1, rfl, _, rfl, Lg, _, rfl, v2 _ _ (v1 _ _ fLg), fun a3 G3 v3 f3 => ?_⟩
          have lgl : (rs ++ ys).length ≤ 331 := by rw [List.length_append]; omega
          have cl : ∀ {lo hi : Option Int}, (cutV (rs ++ ys) lo hi).length ≤ 331 := Nat.le_trans cut_le lgl
          refine ⟨a2, a3, _, _, rfl, rfl, v3 _ _ f2, f3, Nat.le_trans (Nat.add_le_add cl cl) (by decide), fun a4 G4 v4 f4 => ?_⟩
          refine ⟨(by show 3 ≤ sizeLine; decide), fun M1 nM1 => ?_⟩
          have v5 := same_upd (o := .lst [V.ref Lg, .ref a1, .ref a4]) nM1
          have fM1 : upd G4 M1 (.lst [V.ref Lg, .ref a1, .ref a4]) M1 = some (.lst [V.ref Lg, .ref a1, .ref a4]) := upd_same
          have vL := v1.trans (v2.trans (v3.trans (v4.trans v5)))
          generalize upd G4 M1 (.lst [V.ref Lg, .ref a1, .ref a4]) = G5 at *
          have k9 : But q H9 G5 := k9N.trans (Same.but (sR.trans (sLg.trans vL)))
          refine ⟨L2, M1, _, _, rfl, rfl, k9 _ _ L2q hL2, fM1, by rw [zl]; show 13 + 3 ≤ sizeLine; decide, fun L3 nL3 => ?_⟩
          have v6 := same_upd (o := .lst (zs ++ [V.ref Lg, .ref a1, .ref a4])) nL3
          have k96 := k9.trans (Same.but v6)
          have hq5 := hqN.same (sR.trans (sLg.trans vL))
          have hq6' := hq5.same v6
          have hAf := (sR.trans (sLg.trans (vL.trans v6))) _ _ gA
          have hBf := (sR.trans (sLg.trans (vL.trans v6))) _ _ gB
          have mem : ∀ y ∈ rs ++ ys, AnyE K q (upd G5 L3 (.lst (zs ++ [V.ref Lg, .ref a1, .ref a4]))) 1 363 y := fun y hy => by
            rcases List.mem_append.mp hy with h | h
            · rcases zsm y h with rfl | rfl
              · exact (AnyE.tup (n := 0) (k := 120) hAf (hq6'.netup hAf) fun y hy => by
                  simp only [List.mem_cons, List.not_mem_nil, or_false] at hy
                  rcases hy with rfl | rfl | rfl
                  · exact AnyE.str shd_words.1
                  · exact ani (by decide)
                  · exact ani (by decide)).up (by decide) (by decide)
              · exact (AnyE.tup (n := 0) (k := 120) hBf (hq6'.netup hBf) fun y hy => by
                  simp only [List.mem_cons, List.not_mem_nil, or_false] at hy
                  rcases hy with rfl | rfl
                  · exact AnyE.str shd_words.2
                  · exact ani (by decide)).up (by decide) (by decide)
            · exact Itm.any1 hq6' (Itm.but hq9 k96 (hy9 y h))
          have big : ∀ {t : Addr} {us : List V}, upd G5 L3 (.lst (zs ++ [V.ref Lg, .ref a1, .ref a4])) t = some (.tup us) → us.length ≤ 662 → (∀ y ∈ us, y ∈ rs ++ ys) → Vl K q (upd G5 L3 (.lst (zs ++ [V.ref Lg, .ref a1, .ref a4]))) (.ref t) := fun e l h =>
            AllE.vlT (AllE.of fun y hy => mem y (h y hy)) e (hq6'.netup e) (by decide) (Nat.le_trans (Nat.mul_le_mul_left _ l) (by decide)) (by omega)
          have L3q : L3 ≠ q := (hq5.ne_none nL3).symm
          refine hD' _ _ ⟨_, L3, _, c8 + 1, rfl, k96, hq6', by omega, upd_same, by rw [List.length_append, zl]; show 13 + 3 ≤ 16; decide, L3q, fun x hx => ?_⟩
          rcases List.mem_append.mp hx with h | h
          · exact (hv9 x h).but k96
          · simp only [List.mem_cons, List.not_mem_nil, or_false] at h
            rcases h with rfl | rfl | rfl
            · exact big (v6 _ _ (vL _ _ fLg)) (by omega) (fun y h => h)
            · exact big (v6 _ _ ((v2.trans (v3.trans (v4.trans v5))) _ _ f1)) (Nat.le_trans cl (by decide)) (fun y h => cut_sub h)
            · exact big (v6 _ _ (v5 _ _ f4)) (by rw [List.length_append]; exact Nat.le_trans (Nat.add_le_add cl cl) (by decide)) (fun y h => (List.mem_append.mp h).elim cut_sub cut_sub)
        · rintro σ H10 ⟨y8', L, vs, c9, rfl, b10, hq10, cle9, hL, vl, Lq, hv⟩
          have itU10 := Itm.but hq9 b10 itU9
          obtain ⟨U', ys, eU, hU10, yl, hy10⟩ := itU10
          cases eU
          have yl15 : ys.length ≤ 15 := yl
          refine ⟨.ref L, rfl, Nat.zero_le _, fun t1 n1 => ⟨Nat.zero_le _, fun l1 m1 => ?_⟩⟩
          refine fun d1 k1 => ?_
          have u1 := same_upd (o := .tup []) n1
          have e1 : upd H10 t1 (.tup []) t1 = some (.tup []) := upd_same
          generalize upd H10 t1 (.tup []) = G1 at *
          have u2 := same_upd (o := .lst []) m1
          have e2 : upd G1 l1 (.lst []) l1 = some (.lst []) := upd_same
          generalize upd G1 l1 (.lst []) = G2 at *
          have u3 := same_upd (o := .dK []) k1
          have e3 : upd G2 d1 (.dK []) d1 = some (.dK []) := upd_same
          generalize upd G2 d1 (.dK []) = G3 at *
          refine ⟨.ref U, rfl, (by show 1 ≤ sizeLine; decide), fun l2 m2 => ?_⟩
          have u4 := same_upd (o := .lst [.ref U]) m2
          have e4 : upd G3 l2 (.lst [.ref U]) l2 = some (.lst [.ref U]) := upd_same
          generalize upd G3 l2 (.lst [.ref U]) = G4 at *
          have w4 := u1.trans (u2.trans (u3.trans u4))
          refine ⟨.ref U, rfl, U, ys, rfl, .inr (.inl (.inl (w4 _ _ hU10))), fun l3 m3 => ?_⟩
          have u5 := same_upd (o := .lst ys) m3
          have e5 : upd G4 l3 (.lst ys) l3 = some (.lst ys) := upd_same
          generalize upd G4 l3 (.lst ys) = G5 at *
          refine ⟨(by show 3 ≤ sizeLine; decide), fun t2 n2 => ?_⟩
          have u6 := same_upd (o := .tup [.str "get", .int 1, .non]) n2
          have e6 : upd G5 t2 (.tup [.str "get", .int 1, .non]) t2 = some (.tup [.str "get", .int 1, .non]) := upd_same
          generalize upd G5 t2 (.tup [.str "get", .int 1, .non]) = G6 at *
          refine ⟨(by show 1 ≤ sizeLine; decide), fun t3 n3 => ?_⟩
          have u7 := same_upd (o := .tup [.ref t2]) n3
          have e7 : upd G6 t3 (.tup [.ref t2]) t3 = some (.tup [.ref t2]) := upd_same
          generalize upd G6 t3 (.tup [.ref t2]) = G7 at *
          refine ⟨(by show 3 ≤ sizeLine; decide), fun t4 n4 => ?_⟩
          have u8 := same_upd (o := .tup [.str "get", .int 1, .non]) n4
          have e8 : upd G7 t4 (.tup [.str "get", .int 1, .non]) t4 = some (.tup [.str "get", .int 1, .non]) := upd_same
          generalize upd G7 t4 (.tup [.str "get", .int 1, .non]) = G8 at *
          refine ⟨(by show 11 ≤ sizeLine; decide), fun M1 nM1 => ?_⟩
          have u9 := same_upd (o := .lst [V.non, .bl true, .int 0, .str "", .ref t1, .ref l1, .ref d1, .ref l2, .ref l3, .ref t3, .ref t4]) nM1
          have e9 : upd G8 M1 (.lst [V.non, .bl true, .int 0, .str "", .ref t1, .ref l1, .ref d1, .ref l2, .ref l3, .ref t3, .ref t4]) M1 = some (.lst [V.non, .bl true, .int 0, .str "", .ref t1, .ref l1, .ref d1, .ref l2, .ref l3, .ref t3, .ref t4]) := upd_same
          generalize upd G8 M1 (.lst [V.non, .bl true, .int 0, .str "", .ref t1, .ref l1, .ref d1, .ref l2, .ref l3, .ref t3, .ref t4]) = G9 at *
          have x8 := u8.trans u9
          have x7 := u7.trans x8
          have x6 := u6.trans x7
          have x5 := u5.trans x6
          have x4 := u4.trans x5
          have x3 := u3.trans x4
          have x2 := u2.trans x3
          have x1 := u1.trans x2
          refine ⟨L, M1, _, _, rfl, rfl, x1 _ _ hL, e9, Nat.le_trans (Nat.add_le_add vl (Nat.le_refl 11)) (by decide), fun L4 nL4 => ?_⟩
          have u10 := same_upd (o := .lst (vs ++ [V.non, .bl true, .int 0, .str "", .ref t1, .ref l1, .ref d1, .ref l2, .ref l3, .ref t3, .ref t4])) nL4
          have z1 := x1.trans u10
          have hL4 : upd G9 L4 (.lst (vs ++ [V.non, .bl true, .int 0, .str "", .ref t1, .ref l1, .ref d1, .ref l2, .ref l3, .ref t3, .ref t4])) L4 = some (.lst (vs ++ [V.non, .bl true, .int 0, .str "", .ref t1, .ref l1, .ref d1, .ref l2, .ref l3, .ref t3, .ref t4])) := upd_same
          have hqF := hq10.same z1
          have vAll : ∀ x ∈ vs ++ [V.non, .bl true, .int 0, .str "", .ref t1, .ref l1, .ref d1, .ref l2, .ref l3, .ref t3, .ref t4], Vl K q (upd G9 L4 (.lst (vs ++ [V.non, .bl true, .int 0, .str "", .ref t1, .ref l1, .ref d1, .ref l2, .ref l3, .ref t3, .ref t4]))) x := fun x hx => by
            have nqL : ∀ {G : Hp} {a : Addr}, Same H10 G → G a = none → a ≠ q := fun s n => ((hq10.same s).ne_none n).symm
            have anU : AnyE K q (upd G9 L4 (.lst (vs ++ [V.non, .bl true, .int 0, .str "", .ref t1, .ref l1, .ref d1, .ref l2, .ref l3, .ref t3, .ref t4]))) 2 9060 (.ref U) := Itm.any hqF (by decide) (Itm.same z1 ⟨U, ys, rfl, hU10, yl, hy10⟩)
            rcases List.mem_append.mp hx with h | h
            · exact (hv x h).same z1
            · simp only [List.mem_cons, List.not_mem_nil, or_false] at h
              rcases h with rfl | rfl | rfl | rfl | rfl | rfl | rfl | rfl | rfl | rfl | rfl
              · exact AnyE.non.vl (by decide) (by decide)
              · exact ⟨_, .bl true, ⟨by decide +kernel, by decide +kernel, by decide +kernel, by decide +kernel, by decide +kernel⟩, fun ds e => nomatch e⟩
              · exact (ani (a := 0) (by decide)).vl (by decide) (by decide)
              · exact (AnyE.str (n := 0) (k := 120) ⟨by decide +kernel, by decide +kernel, by decide +kernel, by decide +kernel, by decide +kernel⟩).vl (by decide) (by decide)
              · have e := (x2.trans u10) _ _ e1
                exact (AnyE.tup (n := 0) (k := 0) e (hqF.netup e) (fun y h => nomatch h)).vl (by decide) (by decide)
              · have e := (x3.trans u10) _ _ e2
                exact (AnyE.lst (n := 0) (k := 0) e (nqL u1 m1) (fun y h => nomatch h)).vl (by decide) (by decide)
              · have e := (x4.trans u10) _ _ e3
                exact ⟨.dict [], .dct (.inl ((hid_at (fun z => nqL (u1.trans u2) k1 (List.mem_singleton.mp z))).trans e)) .nil, ⟨by decide +kernel, by decide +kernel, by decide +kernel, by decide +kernel, by decide +kernel⟩, fun ds e => nomatch e⟩
              · have e := (x5.trans u10) _ _ e4
                refine (AnyE.lst (n := 2) (k := 9060) e (nqL (u1.trans (u2.trans u3)) m2) (fun y h => ?_)).vl (by decide) (by show (9060 + 1) * 1 ≤ 50000; decide)
                rw [List.mem_singleton.mp h]
                exact anU
              · have e := (x6.trans u10) _ _ e5
                refine (AnyE.lst (n := 1) (k := 363) e (nqL w4 m3) (fun y h => Itm.any1 hqF (Itm.same z1 (hy10 y h)))).vl (by decide) (Nat.le_trans (Nat.mul_le_mul_left _ yl15) (by decide))
              · have e := (x8.trans u10) _ _ e7
                have ee := (x7.trans u10) _ _ e6
                refine (AnyE.tup (n := 1) (k := 363) e (hqF.netup e) (fun y h => ?_)).vl (by decide) (by show (363 + 1) * 1 ≤ 50000; decide)
                rw [List.mem_singleton.mp h]
                exact Itm.any1 hqF ⟨t2, _, rfl, ee, by decide, fun y hy => by
                  simp only [List.mem_cons, List.not_mem_nil, or_false] at hy
                  rcases hy with rfl | rfl | rfl
                  · exact .inr (.inr (.inl rfl))
                  · exact .inl ⟨1, rfl, by decide⟩
                  · exact .inr (.inl rfl)⟩
              · have e := (u9.trans u10) _ _ e8
                exact (Itm.any1 hqF ⟨t4, _, rfl, e, by decide, fun y hy => by
                  simp only [List.mem_cons, List.not_mem_nil, or_false] at hy
                  rcases hy with rfl | rfl | rfl
                  · exact .inr (.inr (.inl rfl))
                  · exact .inl ⟨1, rfl, by decide⟩
                  · exact .inr (.inl rfl)⟩).vl (by decide) (by decide)
          have wl : (vs ++ [V.non, .bl true, .int 0, .str "", .ref t1, .ref l1, .ref d1, .ref l2, .ref l3, .ref t3, .ref t4]).length ≤ 27 := by rw [List.length_append]; exact Nat.add_le_add vl (Nat.le_refl 11)
          generalize vs ++ [V.non, .bl true, .int 0, .str "", .ref t1, .ref l1, .ref d1, .ref l2, .ref l3, .ref t3, .ref t4] = ws at *
          have bF : But q H3 (upd G9 L4 (.lst ws)) := (b09.trans b10).trans (Same.but z1)
          generalize upd G9 L4 (.lst ws) = H11 at *
          have hc11 : ChAt H11 c (tl sz (p + 1)) := hc3.frz fun o u e => bF _ _ (hq3.nefrz e) e
          dsimp only [gName]
          refine ⟨.ref L4, rfl, L4, rfl, ⟨_, .inl (.inl hL4)⟩, ?_⟩
          refine for_list (K := K) (a := L4) (xs := ws) (fun j σ H' => ∃ y9 y10 y11, σ = [some (.ref q), some (.ref c), some (.int pg), some (.int W), some (.int M), some (.int (0 + (i : Int))), some (.ref U), some (.ref L4), y8', y9, y10, y11, none] ∧ Same H11 H')
            ⟨_, _, _, rfl, .refl _⟩ (fun j σ H' _ p => ?_) ?_ ?_
          · obtain ⟨_, _, _, _, s⟩ := p
            exact .inl (.inl (s _ _ hL4))
          · rintro j x σ H12 hx ⟨y9, y10, y11, rfl, s12⟩
            obtain ⟨d, dq0, sd, dl⟩ := (vAll x (List.mem_of_getElem? hx)).same s12
            have dq := Dq.same hid_sub dq0
            refine ⟨x, rfl, x, d, rfl, dq, sd.sh, Nat.le_trans sd.dp (by decide), sd.ln (by decide), ?_⟩
            rw [stx_eq]
            have hc12 := hc11.keep s12
            refine ⟨.ref c, rfl, .int M, rfl, .int W, rfl, x, rfl, c, x, sz, p, 8, M, W, d, rfl, hc12, cn, by decide, W0, by omega, by omega, dq, fun H13 b s13 hb => ⟨_, _, rfl, ?_⟩⟩
            dsimp only [gName]
            have s1113 := s12.trans s13
            refine if_split (fun b H' => b = false ∧ Same H11 H') (fun Q' hQ' => ?_) (fun H' pc => by cases pc.1) (fun H' pc => ⟨_, _, _, rfl, pc.2⟩)
            refine or_split (fun H' => Same H13 H') (fun Q'' hQ'' => ?_) (fun H14 s14 => ?_)
            · refine ⟨.ref c, rfl, .int M, rfl, .int pg, rfl, x, rfl, c, x, sz, p, 8, pg, M, d, rfl, hc12.keep s13, cn, by decide, by omega, by omega, by omega, dq.same s13, dl, fun H14 b2 s14 hb2 => ?_⟩
              rw [eW] at hb2
              have eb : b2 = b := Bool.eq_iff_iff.mpr (hb2.trans hb.symm)
              subst eb
              have bsh : ∀ b : Bool, (PyData.bool b).showable = true ∧ (PyData.bool b).depth ≤ 60 ∧ (PyData.bool b).shown.length ≤ sizeLine := fun b => by cases b <;> exact ⟨by decide +kernel, by decide +kernel, by decide +kernel⟩
              obtain ⟨h1, h2, h3⟩ := bsh b2
              refine ⟨.bl b2, .bool b2, rfl, .bl b2, h1, h2, h3, .bl b2, rfl, .bl b2, .bool b2, rfl, .bl b2, h1, h2, h3, ?_⟩
              rw [stx_eq]
              generalize stx (PyData.bool b2) = tx
              exact ⟨rfl, _, rfl, by simpa using hQ'' _ s14⟩
            · refine ⟨x, rfl, x, d, rfl, (dq.same s13).same s14, sd.sh, Nat.le_trans sd.dp (by decide), sd.ln (by decide), .str (stx d), rfl, ?_⟩
              rw [stx_eq]
              generalize stx d = tx
              exact ⟨rfl, _, rfl, hQ' _ _ ⟨by simp, s1113.trans s14⟩⟩
          · rintro σ H12 ⟨y9, y10, y11, rfl, s12⟩
            exact ⟨_, _, _, _, _, _, _, rfl, bF.trans (Same.but s12), c9, hqF.same s12, by omega⟩
    · rintro σ H4 ⟨y5, y6, y7, y8, y9, y10, y11, rfl, b4, _⟩
      exact fin _ (bq3.trans b4)
end
end Ph

set_option maxHeartbeats 8000000
namespace Ph
open PySem PySem.Spec PyProof.Rows L2
section
variable {P : Program} {w : World} {K : PySem.W.Frag} {mg : Str → Option Value} {base : Heap}
def spLaw (K : PySem.W.Frag) : Sp := fun vs H Q _ => ∃ (a : Addr) (ns : List Int), vs = [.ref a] ∧ SqL K H a (ns.map V.int) ∧ ns.length ≤ 63 ∧ ∀ H', Q (.bl true) H'
theorem ok_Law {k : Nat} (Z : Fns K mg) : FnG P w K mg base CX0 (k + 1 + 1 + 1 + 1 + 1 + 1 + 1 + 1 + 1 + 1) Z.fLaw Z.fdLaw ["_law_script"] (spLaw K) := by
  have GDw : FnOk P w K mg base CX0 (k + 1) Z.fDw Z.fdDw ["_law_script", "_law_k"] (spDw K) := ok_Dw Z
  have GRi : FnG P w K mg base CX0 (k + 1 + 1 + 1 + 1 + 1 + 1 + 1 + 1 + 1) Z.fRi Z.fdRi ["_law_draws_here"] spRi := ok_Ri Z
  refine okG Z.FLaw scLaw (fun vs H Q E h => ?_) (fun cdv A outer s H vs Q E hgu hr h => ?_)
  · obtain ⟨a, ns, rfl, _⟩ := h
    rfl
  · obtain ⟨a, ns, rfl, hS, hl, q⟩ := h
    refine ⟨_, (pss_cons (ps_for PassesOwn.never rfl (pi_range1 (by rfl) Z.N.range (pa_cons (pe_callB (call_max2 rfl) (by rfl) Z.N.max (by decide +kernel) (pa_cons pe_int (pa_cons (pe_callB (call_min2 rfl) (by rfl) Z.N.min (by decide +kernel) (pa_cons pe_int (pa_cons (pe_callB call_len_seq (by rfl) Z.N.len (by decide +kernel) (pa_cons (pv 0) pa_nil)) pa_nil))) pa_nil))) pa_nil)) (pg_name (i := 1) scLaw.nd rfl (.inl rfl))
 (pss_one (ps_if (pt_not (pt_val (pe_callG GRi hgu (hr.mono (by omega)) (by rfl) Z.gRi Z.FRi.kp Z.bRi (pa_cons (pe_call GDw (hr.mono (by omega)) (by rfl) Z.gDw Z.FDw.kp Z.bDw .nil pass0 (pa_cons (pv 0) (pa_cons (pv 1) pa_nil))) pa_nil))))
 (pss_one (ps_ret pe_bl)) pss_nil)))
 (pss_one (ps_ret pe_bl))), ?_⟩
    refine ⟨.ref a, rfl, a, _, rfl, .inl hS, _, _, rfl, _, _, rfl, ?_⟩
    rw [List.length_map]
    generalize hz : (if (if (ns.length : Int) < 2 then (ns.length : Int) else 2) > 1 then (if (ns.length : Int) < 2 then (ns.length : Int) else 2) else (1 : Int)) = z
    have z3 : 0 ≤ z ∧ z ≤ 2 := by
      rw [← hz]
      split <;> split <;> omega
    refine ⟨z, rfl, by omega, by omega, ?_⟩
    refine for_range (lo := 0) (n := z.toNat) (fun i σ H2 => ∃ y1, σ = [some (.ref a), y1] ∧ Same H H2) ⟨none, rfl, Same.refl _⟩ ?_ ?_
    · rintro i σ H2 hi ⟨y1, rfl, s2⟩
      have e : (0 : Int) + (i : Int) = ((i : Nat) : Int) := by omega
      rw [e]
      refine ⟨.ref a, rfl, .int i, rfl, a, ns, i, rfl, s2.seq hS, by omega, fun H3 p s3 np hp => ?_⟩
      refine ⟨p, rfl, hp, fun H4 b4 => ⟨_, rfl, ite2 (fun c => absurd c (by decide)) (fun _ => ?_)⟩⟩
      exact ⟨_, rfl, fun b o hb => b4 _ _ (ne_of_none (s2 _ _ hb) np) (s3 _ _ (s2 _ _ hb))⟩
    · rintro σ H2 ⟨y1, rfl, s2⟩
      exact q _
end
end Ph

set_option maxHeartbeats 8000000
namespace Ph
open PySem PySem.Spec PyProof.Rows L2
theorem all_mk {l : PySem.W.OpenLaw} {w : World} {K : PySem.W.Frag} {h : Heap} {mg : Str → Option Value} {fa : Addr} (X : K.In h) (G : h.Ns mainGlobals mg) (hfa : mg "law" = some (.ref fa))
    {CHeap : Addr} (aCHeap : PySem.W.nsIn K mainGlobals "Heap" = some (some (.ref CHeap))) (pgHeap : PySem.W.plainGet K CHeap Str.empty = true) (hdHeap : PySem.W.hasDictIn K CHeap = true) (poHeap : PySem.W.plainOver K CHeap = true) (saHeap : PySem.W.findIn K (.ref CHeap) "__setattr__" = some (some (.builtin "object.__setattr__"))) (mkHeap : PySem.W.makesIn K CHeap = true) (kcHeap : PySem.W.keepIn K (.ref CHeap) = true)
    (naHeap_chain : PySem.W.findIn K (.ref CHeap) "chain" = some none)
    (naHeap_pages : PySem.W.findIn K (.ref CHeap) "pages" = some none)
    (naHeap_limit : PySem.W.findIn K (.ref CHeap) "limit" = some none)
    (naHeap_rule : PySem.W.findIn K (.ref CHeap) "rule" = some none)
    (naHeap_blocks : PySem.W.findIn K (.ref CHeap) "blocks" = some none)
    (naHeap_steps : PySem.W.findIn K (.ref CHeap) "steps" = some none)
    {CHeapError : Addr} (aCHeapError : PySem.W.nsIn K mainGlobals "HeapError" = some (some (.ref CHeapError)))
    {CBadSize : Addr} (aCBadSize : PySem.W.nsIn K mainGlobals "BadSize" = some (some (.ref CBadSize)))
    {COverLimit : Addr} (aCOverLimit : PySem.W.nsIn K mainGlobals "OverLimit" = some (some (.ref COverLimit)))
    {CBadPlace : Addr} (aCBadPlace : PySem.W.nsIn K mainGlobals "BadPlace" = some (some (.ref CBadPlace)))
    {CNoBlock : Addr} (aCNoBlock : PySem.W.nsIn K mainGlobals "NoBlock" = some (some (.ref CNoBlock)))
    {CBadEvent : Addr} (aCBadEvent : PySem.W.nsIn K mainGlobals "BadEvent" = some (some (.ref CBadEvent)))
    (bxH : PySem.W.subIn K (.ref CHeapError) (.type "BaseException") = some true) (hdH : PySem.W.hasDictIn K CHeapError = true) (tyH : PySem.W.typeIn K (.ref CHeapError) = some (.type "type"))
    (zve : PySem.W.nsIn K mainGlobals "ValueError" = some none)
    (cgX : PySem.W.specialIn K (.builtin "object.__class__") "__get__" = some (some (.builtin "getset_descriptor.__get__"))) (ctX : PySem.W.takesIn K (.builtin "object.__class__") = some true)
    {nmBadSize qBadSize : Str} {NBadSize : Addr} {bsBadSize : List Value} {snBadSize : List Str} {subBadSize : List Value} {abBadSize : Bool} {colBadSize : Option Bool} {ddBadSize : Option Addr} {m0BadSize m1BadSize m2BadSize m3BadSize m5BadSize : Option Value}
    (xLBadSize : K.lookup CBadSize = some (excClassObj nmBadSize qBadSize CBadSize NBadSize bsBadSize [.ref CHeapError, .type "ValueError", .type "Exception", .type "BaseException", .type "object"] true snBadSize subBadSize abBadSize colBadSize ddBadSize m0BadSize m1BadSize m2BadSize m3BadSize m5BadSize "ValueError.__new__"))
    (saBadSize : PySem.W.findIn K (.ref CBadSize) "__setattr__" = some (some (.builtin "object.__setattr__"))) (bxBadSize : PySem.W.subIn K (.ref CBadSize) (.type "BaseException") = some true) (tyBadSize : PySem.W.typeIn K (.ref CBadSize) = some (.type "type")) (kpBadSize : PySem.W.keepIn K (.ref CBadSize) = true)
    (gaBadSize : PySem.W.findIn K (.ref CBadSize) "__getattribute__" = some (some (.builtin "BaseException.__getattribute__"))) (ggBadSize : PySem.W.findIn K (.ref CBadSize) "__getattr__" = some none) (hdBadSize : PySem.W.hasDictIn K CBadSize = true) (caBadSize : PySem.W.findIn K (.ref CBadSize) "__class__" = some (some (.builtin "object.__class__"))) (moBadSize : PySem.W.mroIn K CBadSize (.type "object") = some true)
    (sHBadSize : PySem.W.subIn K (.ref CBadSize) (.ref CHeapError) = some true) (isBadSize_ValueError : PySem.W.kitOne K (.ref CBadSize) (.type "ValueError") = some true)
    (nfBadSize_size : PySem.W.findIn K (.ref CBadSize) "size" = some none)
    (isBadSize_HeapError : PySem.W.kitOne K (.ref CBadSize) (.ref CHeapError) = some true)
    (isBadSize_BadSize : PySem.W.kitOne K (.ref CBadSize) (.ref CBadSize) = some true)
    (isBadSize_OverLimit : PySem.W.kitOne K (.ref CBadSize) (.ref COverLimit) = some false)
    (isBadSize_BadPlace : PySem.W.kitOne K (.ref CBadSize) (.ref CBadPlace) = some false)
    (isBadSize_NoBlock : PySem.W.kitOne K (.ref CBadSize) (.ref CNoBlock) = some false)
    (isBadSize_BadEvent : PySem.W.kitOne K (.ref CBadSize) (.ref CBadEvent) = some false)
    (ssBadSize_BadSize : PySem.W.subIn K (.ref CBadSize) (.ref CBadSize) = some true)
    {nmOverLimit qOverLimit : Str} {NOverLimit : Addr} {bsOverLimit : List Value} {snOverLimit : List Str} {subOverLimit : List Value} {abOverLimit : Bool} {colOverLimit : Option Bool} {ddOverLimit : Option Addr} {m0OverLimit m1OverLimit m2OverLimit m3OverLimit m5OverLimit : Option Value}
    (xLOverLimit : K.lookup COverLimit = some (excClassObj nmOverLimit qOverLimit COverLimit NOverLimit bsOverLimit [.ref CHeapError, .type "ValueError", .type "Exception", .type "BaseException", .type "object"] true snOverLimit subOverLimit abOverLimit colOverLimit ddOverLimit m0OverLimit m1OverLimit m2OverLimit m3OverLimit m5OverLimit "ValueError.__new__"))
    (saOverLimit : PySem.W.findIn K (.ref COverLimit) "__setattr__" = some (some (.builtin "object.__setattr__"))) (bxOverLimit : PySem.W.subIn K (.ref COverLimit) (.type "BaseException") = some true) (tyOverLimit : PySem.W.typeIn K (.ref COverLimit) = some (.type "type")) (kpOverLimit : PySem.W.keepIn K (.ref COverLimit) = true)
    (gaOverLimit : PySem.W.findIn K (.ref COverLimit) "__getattribute__" = some (some (.builtin "BaseException.__getattribute__"))) (ggOverLimit : PySem.W.findIn K (.ref COverLimit) "__getattr__" = some none) (hdOverLimit : PySem.W.hasDictIn K COverLimit = true) (caOverLimit : PySem.W.findIn K (.ref COverLimit) "__class__" = some (some (.builtin "object.__class__"))) (moOverLimit : PySem.W.mroIn K COverLimit (.type "object") = some true)
    (sHOverLimit : PySem.W.subIn K (.ref COverLimit) (.ref CHeapError) = some true) (isOverLimit_ValueError : PySem.W.kitOne K (.ref COverLimit) (.type "ValueError") = some true)
    (nfOverLimit_size : PySem.W.findIn K (.ref COverLimit) "size" = some none)
    (isOverLimit_HeapError : PySem.W.kitOne K (.ref COverLimit) (.ref CHeapError) = some true)
    (isOverLimit_BadSize : PySem.W.kitOne K (.ref COverLimit) (.ref CBadSize) = some false)
    (isOverLimit_OverLimit : PySem.W.kitOne K (.ref COverLimit) (.ref COverLimit) = some true)
    (isOverLimit_BadPlace : PySem.W.kitOne K (.ref COverLimit) (.ref CBadPlace) = some false)
    (isOverLimit_NoBlock : PySem.W.kitOne K (.ref COverLimit) (.ref CNoBlock) = some false)
    (isOverLimit_BadEvent : PySem.W.kitOne K (.ref COverLimit) (.ref CBadEvent) = some false)
    (ssOverLimit_OverLimit : PySem.W.subIn K (.ref COverLimit) (.ref COverLimit) = some true)
    {nmBadPlace qBadPlace : Str} {NBadPlace : Addr} {bsBadPlace : List Value} {snBadPlace : List Str} {subBadPlace : List Value} {abBadPlace : Bool} {colBadPlace : Option Bool} {ddBadPlace : Option Addr} {m0BadPlace m1BadPlace m2BadPlace m3BadPlace m5BadPlace : Option Value}
    (xLBadPlace : K.lookup CBadPlace = some (excClassObj nmBadPlace qBadPlace CBadPlace NBadPlace bsBadPlace [.ref CHeapError, .type "ValueError", .type "Exception", .type "BaseException", .type "object"] true snBadPlace subBadPlace abBadPlace colBadPlace ddBadPlace m0BadPlace m1BadPlace m2BadPlace m3BadPlace m5BadPlace "ValueError.__new__"))
    (saBadPlace : PySem.W.findIn K (.ref CBadPlace) "__setattr__" = some (some (.builtin "object.__setattr__"))) (bxBadPlace : PySem.W.subIn K (.ref CBadPlace) (.type "BaseException") = some true) (tyBadPlace : PySem.W.typeIn K (.ref CBadPlace) = some (.type "type")) (kpBadPlace : PySem.W.keepIn K (.ref CBadPlace) = true)
    (gaBadPlace : PySem.W.findIn K (.ref CBadPlace) "__getattribute__" = some (some (.builtin "BaseException.__getattribute__"))) (ggBadPlace : PySem.W.findIn K (.ref CBadPlace) "__getattr__" = some none) (hdBadPlace : PySem.W.hasDictIn K CBadPlace = true) (caBadPlace : PySem.W.findIn K (.ref CBadPlace) "__class__" = some (some (.builtin "object.__class__"))) (moBadPlace : PySem.W.mroIn K CBadPlace (.type "object") = some true)
    (sHBadPlace : PySem.W.subIn K (.ref CBadPlace) (.ref CHeapError) = some true) (isBadPlace_ValueError : PySem.W.kitOne K (.ref CBadPlace) (.type "ValueError") = some true)
    (nfBadPlace_address : PySem.W.findIn K (.ref CBadPlace) "address" = some none)
    (isBadPlace_HeapError : PySem.W.kitOne K (.ref CBadPlace) (.ref CHeapError) = some true)
    (isBadPlace_BadSize : PySem.W.kitOne K (.ref CBadPlace) (.ref CBadSize) = some false)
    (isBadPlace_OverLimit : PySem.W.kitOne K (.ref CBadPlace) (.ref COverLimit) = some false)
    (isBadPlace_BadPlace : PySem.W.kitOne K (.ref CBadPlace) (.ref CBadPlace) = some true)
    (isBadPlace_NoBlock : PySem.W.kitOne K (.ref CBadPlace) (.ref CNoBlock) = some false)
    (isBadPlace_BadEvent : PySem.W.kitOne K (.ref CBadPlace) (.ref CBadEvent) = some false)
    (ssBadPlace_BadPlace : PySem.W.subIn K (.ref CBadPlace) (.ref CBadPlace) = some true)
    {nmNoBlock qNoBlock : Str} {NNoBlock : Addr} {bsNoBlock : List Value} {snNoBlock : List Str} {subNoBlock : List Value} {abNoBlock : Bool} {colNoBlock : Option Bool} {ddNoBlock : Option Addr} {m0NoBlock m1NoBlock m2NoBlock m3NoBlock m5NoBlock : Option Value}
    (xLNoBlock : K.lookup CNoBlock = some (excClassObj nmNoBlock qNoBlock CNoBlock NNoBlock bsNoBlock [.ref CHeapError, .type "ValueError", .type "Exception", .type "BaseException", .type "object"] true snNoBlock subNoBlock abNoBlock colNoBlock ddNoBlock m0NoBlock m1NoBlock m2NoBlock m3NoBlock m5NoBlock "ValueError.__new__"))
    (saNoBlock : PySem.W.findIn K (.ref CNoBlock) "__setattr__" = some (some (.builtin "object.__setattr__"))) (bxNoBlock : PySem.W.subIn K (.ref CNoBlock) (.type "BaseException") = some true) (tyNoBlock : PySem.W.typeIn K (.ref CNoBlock) = some (.type "type")) (kpNoBlock : PySem.W.keepIn K (.ref CNoBlock) = true)
    (gaNoBlock : PySem.W.findIn K (.ref CNoBlock) "__getattribute__" = some (some (.builtin "BaseException.__getattribute__"))) (ggNoBlock : PySem.W.findIn K (.ref CNoBlock) "__getattr__" = some none) (hdNoBlock : PySem.W.hasDictIn K CNoBlock = true) (caNoBlock : PySem.W.findIn K (.ref CNoBlock) "__class__" = some (some (.builtin "object.__class__"))) (moNoBlock : PySem.W.mroIn K CNoBlock (.type "object") = some true)
    (sHNoBlock : PySem.W.subIn K (.ref CNoBlock) (.ref CHeapError) = some true) (isNoBlock_ValueError : PySem.W.kitOne K (.ref CNoBlock) (.type "ValueError") = some true)
    (nfNoBlock_address : PySem.W.findIn K (.ref CNoBlock) "address" = some none)
    (isNoBlock_HeapError : PySem.W.kitOne K (.ref CNoBlock) (.ref CHeapError) = some true)
    (isNoBlock_BadSize : PySem.W.kitOne K (.ref CNoBlock) (.ref CBadSize) = some false)
    (isNoBlock_OverLimit : PySem.W.kitOne K (.ref CNoBlock) (.ref COverLimit) = some false)
    (isNoBlock_BadPlace : PySem.W.kitOne K (.ref CNoBlock) (.ref CBadPlace) = some false)
    (isNoBlock_NoBlock : PySem.W.kitOne K (.ref CNoBlock) (.ref CNoBlock) = some true)
    (isNoBlock_BadEvent : PySem.W.kitOne K (.ref CNoBlock) (.ref CBadEvent) = some false)
    (ssNoBlock_NoBlock : PySem.W.subIn K (.ref CNoBlock) (.ref CNoBlock) = some true)
    {nmBadEvent qBadEvent : Str} {NBadEvent : Addr} {bsBadEvent : List Value} {snBadEvent : List Str} {subBadEvent : List Value} {abBadEvent : Bool} {colBadEvent : Option Bool} {ddBadEvent : Option Addr} {m0BadEvent m1BadEvent m2BadEvent m3BadEvent m5BadEvent : Option Value}
    (xLBadEvent : K.lookup CBadEvent = some (excClassObj nmBadEvent qBadEvent CBadEvent NBadEvent bsBadEvent [.ref CHeapError, .type "ValueError", .type "Exception", .type "BaseException", .type "object"] true snBadEvent subBadEvent abBadEvent colBadEvent ddBadEvent m0BadEvent m1BadEvent m2BadEvent m3BadEvent m5BadEvent "ValueError.__new__"))
    (saBadEvent : PySem.W.findIn K (.ref CBadEvent) "__setattr__" = some (some (.builtin "object.__setattr__"))) (bxBadEvent : PySem.W.subIn K (.ref CBadEvent) (.type "BaseException") = some true) (tyBadEvent : PySem.W.typeIn K (.ref CBadEvent) = some (.type "type")) (kpBadEvent : PySem.W.keepIn K (.ref CBadEvent) = true)
    (gaBadEvent : PySem.W.findIn K (.ref CBadEvent) "__getattribute__" = some (some (.builtin "BaseException.__getattribute__"))) (ggBadEvent : PySem.W.findIn K (.ref CBadEvent) "__getattr__" = some none) (hdBadEvent : PySem.W.hasDictIn K CBadEvent = true) (caBadEvent : PySem.W.findIn K (.ref CBadEvent) "__class__" = some (some (.builtin "object.__class__"))) (moBadEvent : PySem.W.mroIn K CBadEvent (.type "object") = some true)
    (sHBadEvent : PySem.W.subIn K (.ref CBadEvent) (.ref CHeapError) = some true) (isBadEvent_ValueError : PySem.W.kitOne K (.ref CBadEvent) (.type "ValueError") = some true)
    (nfBadEvent_number : PySem.W.findIn K (.ref CBadEvent) "number" = some none)
    (isBadEvent_HeapError : PySem.W.kitOne K (.ref CBadEvent) (.ref CHeapError) = some true)
    (isBadEvent_BadSize : PySem.W.kitOne K (.ref CBadEvent) (.ref CBadSize) = some false)
    (isBadEvent_OverLimit : PySem.W.kitOne K (.ref CBadEvent) (.ref COverLimit) = some false)
    (isBadEvent_BadPlace : PySem.W.kitOne K (.ref CBadEvent) (.ref CBadPlace) = some false)
    (isBadEvent_NoBlock : PySem.W.kitOne K (.ref CBadEvent) (.ref CNoBlock) = some false)
    (isBadEvent_BadEvent : PySem.W.kitOne K (.ref CBadEvent) (.ref CBadEvent) = some true)
    (ssBadEvent_BadEvent : PySem.W.subIn K (.ref CBadEvent) (.ref CBadEvent) = some true)
    {t_MOST_SIZES : Tok} (v_MOST_SIZES : PySem.W.nsIn K mainGlobals "MOST_SIZES" = some (some (.int 12 t_MOST_SIZES)))
    {t_LARGEST_SIZE : Tok} (v_LARGEST_SIZE : PySem.W.nsIn K mainGlobals "LARGEST_SIZE" = some (some (.int 1000000000 t_LARGEST_SIZE)))
    {a_RULES : Addr} {t_RULES0 t_RULES1 t_RULES2 t_RULES3 : Tok} {od_RULES : Option Addr} {nn_RULES : Nat} {sl_RULES : Array (Option Value)} (v_RULES : PySem.W.nsIn K mainGlobals "RULES" = some (some (.ref a_RULES))) (l_RULES : K.lookup a_RULES = some ⟨.type "tuple", od_RULES, .seq #[.str "lowest" t_RULES0, .str "highest" t_RULES1, .str "tight" t_RULES2, .str "loose" t_RULES3] nn_RULES, sl_RULES⟩)
    {f1 : Addr} {od1 an1 : Option Addr} {sl1 : Array (Option Value)} {oc1 kV1 dc1 pm1 cd1 ct1 : Value} (a1 : PySem.W.findIn K (.ref CBadSize) "__init__" = some (some (.ref f1))) (i1 : PySem.W.typeIn K (.ref f1) = some (.type "function")) (l1 : K.lookup f1 = some ⟨oc1, od1, .func (PySem.W.fnOf "__init__" "BadSize.__init__" (defArgs (inClass (topS 7) 0)) (defBody (inClass (topS 7) 0)) (defScope (inClass (topS 7) 0)) .none kV1 dc1 pm1 an1 cd1 ct1), sl1⟩) (c1 : PySem.W.codeIn K cd1 "BadSize.__init__" = true) (k1 : PySem.W.keepIn K (.ref f1) = true)
    {f2 : Addr} {od2 an2 : Option Addr} {sl2 : Array (Option Value)} {oc2 kV2 dc2 pm2 cd2 ct2 : Value} (a2 : PySem.W.findIn K (.ref COverLimit) "__init__" = some (some (.ref f2))) (i2 : PySem.W.typeIn K (.ref f2) = some (.type "function")) (l2 : K.lookup f2 = some ⟨oc2, od2, .func (PySem.W.fnOf "__init__" "OverLimit.__init__" (defArgs (inClass (topS 10) 0)) (defBody (inClass (topS 10) 0)) (defScope (inClass (topS 10) 0)) .none kV2 dc2 pm2 an2 cd2 ct2), sl2⟩) (c2 : PySem.W.codeIn K cd2 "OverLimit.__init__" = true) (k2 : PySem.W.keepIn K (.ref f2) = true)
    {f3 : Addr} {od3 an3 : Option Addr} {sl3 : Array (Option Value)} {oc3 kV3 dc3 pm3 cd3 ct3 : Value} (a3 : PySem.W.findIn K (.ref CBadPlace) "__init__" = some (some (.ref f3))) (i3 : PySem.W.typeIn K (.ref f3) = some (.type "function")) (l3 : K.lookup f3 = some ⟨oc3, od3, .func (PySem.W.fnOf "__init__" "BadPlace.__init__" (defArgs (inClass (topS 8) 0)) (defBody (inClass (topS 8) 0)) (defScope (inClass (topS 8) 0)) .none kV3 dc3 pm3 an3 cd3 ct3), sl3⟩) (c3 : PySem.W.codeIn K cd3 "BadPlace.__init__" = true) (k3 : PySem.W.keepIn K (.ref f3) = true)
    {f4 : Addr} {od4 an4 : Option Addr} {sl4 : Array (Option Value)} {oc4 kV4 dc4 pm4 cd4 ct4 : Value} (a4 : PySem.W.findIn K (.ref CNoBlock) "__init__" = some (some (.ref f4))) (i4 : PySem.W.typeIn K (.ref f4) = some (.type "function")) (l4 : K.lookup f4 = some ⟨oc4, od4, .func (PySem.W.fnOf "__init__" "NoBlock.__init__" (defArgs (inClass (topS 12) 0)) (defBody (inClass (topS 12) 0)) (defScope (inClass (topS 12) 0)) .none kV4 dc4 pm4 an4 cd4 ct4), sl4⟩) (c4 : PySem.W.codeIn K cd4 "NoBlock.__init__" = true) (k4 : PySem.W.keepIn K (.ref f4) = true)
    {f5 : Addr} {od5 an5 : Option Addr} {sl5 : Array (Option Value)} {oc5 kV5 dc5 pm5 cd5 ct5 : Value} (a5 : PySem.W.findIn K (.ref CBadEvent) "__init__" = some (some (.ref f5))) (i5 : PySem.W.typeIn K (.ref f5) = some (.type "function")) (l5 : K.lookup f5 = some ⟨oc5, od5, .func (PySem.W.fnOf "__init__" "BadEvent.__init__" (defArgs (inClass (topS 9) 0)) (defBody (inClass (topS 9) 0)) (defScope (inClass (topS 9) 0)) .none kV5 dc5 pm5 an5 cd5 ct5), sl5⟩) (c5 : PySem.W.codeIn K cd5 "BadEvent.__init__" = true) (k5 : PySem.W.keepIn K (.ref f5) = true)
    {f6 : Addr} {od6 an6 : Option Addr} {sl6 : Array (Option Value)} {oc6 kV6 dc6 pm6 cd6 ct6 : Value} (a6 : PySem.W.nsIn K mainGlobals "is_integer" = some (some (.ref f6))) (l6 : K.lookup f6 = some ⟨oc6, od6, .func (PySem.W.fnOf "is_integer" "is_integer" (defArgs (topS 14)) (defBody (topS 14)) (defScope (topS 14)) .none kV6 dc6 pm6 an6 cd6 ct6), sl6⟩) (c6 : PySem.W.codeIn K cd6 "is_integer" = true) (k6 : PySem.W.keepIn K (.ref f6) = true)
    {f7 : Addr} {od7 an7 : Option Addr} {sl7 : Array (Option Value)} {oc7 kV7 dc7 pm7 cd7 ct7 : Value} (a7 : PySem.W.nsIn K mainGlobals "divided_up" = some (some (.ref f7))) (l7 : K.lookup f7 = some ⟨oc7, od7, .func (PySem.W.fnOf "divided_up" "divided_up" (defArgs (topS 15)) (defBody (topS 15)) (defScope (topS 15)) .none kV7 dc7 pm7 an7 cd7 ct7), sl7⟩) (c7 : PySem.W.codeIn K cd7 "divided_up" = true) (k7 : PySem.W.keepIn K (.ref f7) = true)
    {f8 : Addr} {od8 an8 : Option Addr} {sl8 : Array (Option Value)} {oc8 kV8 dc8 pm8 cd8 ct8 : Value} (a8 : PySem.W.nsIn K mainGlobals "is_chain" = some (some (.ref f8))) (l8 : K.lookup f8 = some ⟨oc8, od8, .func (PySem.W.fnOf "is_chain" "is_chain" (defArgs (topS 19)) (defBody (topS 19)) (defScope (topS 19)) .none kV8 dc8 pm8 an8 cd8 ct8), sl8⟩) (c8 : PySem.W.codeIn K cd8 "is_chain" = true) (k8 : PySem.W.keepIn K (.ref f8) = true)
    {f9 : Addr} {od9 an9 : Option Addr} {sl9 : Array (Option Value)} {oc9 kV9 dc9 pm9 cd9 ct9 : Value} (a9 : PySem.W.nsIn K mainGlobals "may_follow" = some (some (.ref f9))) (l9 : K.lookup f9 = some ⟨oc9, od9, .func (PySem.W.fnOf "may_follow" "may_follow" (defArgs (topS 20)) (defBody (topS 20)) (defScope (topS 20)) .none kV9 dc9 pm9 an9 cd9 ct9), sl9⟩) (c9 : PySem.W.codeIn K cd9 "may_follow" = true) (k9 : PySem.W.keepIn K (.ref f9) = true)
    {f10 : Addr} {od10 an10 : Option Addr} {sl10 : Array (Option Value)} {oc10 kV10 dc10 pm10 cd10 ct10 : Value} (a10 : PySem.W.nsIn K mainGlobals "is_size" = some (some (.ref f10))) (l10 : K.lookup f10 = some ⟨oc10, od10, .func (PySem.W.fnOf "is_size" "is_size" (defArgs (topS 21)) (defBody (topS 21)) (defScope (topS 21)) .none kV10 dc10 pm10 an10 cd10 ct10), sl10⟩) (c10 : PySem.W.codeIn K cd10 "is_size" = true) (k10 : PySem.W.keepIn K (.ref f10) = true)
    {f11 : Addr} {od11 an11 : Option Addr} {sl11 : Array (Option Value)} {oc11 kV11 dc11 pm11 cd11 ct11 : Value} (a11 : PySem.W.nsIn K mainGlobals "class_of" = some (some (.ref f11))) (l11 : K.lookup f11 = some ⟨oc11, od11, .func (PySem.W.fnOf "class_of" "class_of" (defArgs (topS 22)) (defBody (topS 22)) (defScope (topS 22)) .none kV11 dc11 pm11 an11 cd11 ct11), sl11⟩) (c11 : PySem.W.codeIn K cd11 "class_of" = true) (k11 : PySem.W.keepIn K (.ref f11) = true)
    {f12 : Addr} {od12 an12 : Option Addr} {sl12 : Array (Option Value)} {oc12 kV12 dc12 pm12 cd12 ct12 : Value} (a12 : PySem.W.nsIn K mainGlobals "live_words" = some (some (.ref f12))) (l12 : K.lookup f12 = some ⟨oc12, od12, .func (PySem.W.fnOf "live_words" "live_words" (defArgs (topS 24)) (defBody (topS 24)) (defScope (topS 24)) .none kV12 dc12 pm12 an12 cd12 ct12), sl12⟩) (c12 : PySem.W.codeIn K cd12 "live_words" = true) (k12 : PySem.W.keepIn K (.ref f12) = true)
    {f13 : Addr} {od13 an13 : Option Addr} {sl13 : Array (Option Value)} {oc13 kV13 dc13 pm13 cd13 ct13 : Value} (a13 : PySem.W.nsIn K mainGlobals "places" = some (some (.ref f13))) (l13 : K.lookup f13 = some ⟨oc13, od13, .func (PySem.W.fnOf "places" "places" (defArgs (topS 25)) (defBody (topS 25)) (defScope (topS 25)) .none kV13 dc13 pm13 an13 cd13 ct13), sl13⟩) (c13 : PySem.W.codeIn K cd13 "places" = true) (k13 : PySem.W.keepIn K (.ref f13) = true)
    {f14 : Addr} {od14 an14 : Option Addr} {sl14 : Array (Option Value)} {oc14 kV14 dc14 pm14 cd14 ct14 : Value} (a14 : PySem.W.nsIn K mainGlobals "gaps" = some (some (.ref f14))) (l14 : K.lookup f14 = some ⟨oc14, od14, .func (PySem.W.fnOf "gaps" "gaps" (defArgs (topS 26)) (defBody (topS 26)) (defScope (topS 26)) .none kV14 dc14 pm14 an14 cd14 ct14), sl14⟩) (c14 : PySem.W.codeIn K cd14 "gaps" = true) (k14 : PySem.W.keepIn K (.ref f14) = true)
    {f15 : Addr} {od15 an15 : Option Addr} {sl15 : Array (Option Value)} {oc15 kV15 dc15 pm15 cd15 ct15 : Value} (a15 : PySem.W.nsIn K mainGlobals "is_place" = some (some (.ref f15))) (l15 : K.lookup f15 = some ⟨oc15, od15, .func (PySem.W.fnOf "is_place" "is_place" (defArgs (topS 27)) (defBody (topS 27)) (defScope (topS 27)) .none kV15 dc15 pm15 an15 cd15 ct15), sl15⟩) (c15 : PySem.W.codeIn K cd15 "is_place" = true) (k15 : PySem.W.keepIn K (.ref f15) = true)
    {f16 : Addr} {od16 an16 : Option Addr} {sl16 : Array (Option Value)} {oc16 kV16 dc16 pm16 cd16 ct16 : Value} (a16 : PySem.W.nsIn K mainGlobals "may_hold" = some (some (.ref f16))) (l16 : K.lookup f16 = some ⟨oc16, od16, .func (PySem.W.fnOf "may_hold" "may_hold" (defArgs (topS 28)) (defBody (topS 28)) (defScope (topS 28)) .none kV16 dc16 pm16 an16 cd16 ct16), sl16⟩) (c16 : PySem.W.codeIn K cd16 "may_hold" = true) (k16 : PySem.W.keepIn K (.ref f16) = true)
    {f17 : Addr} {od17 an17 : Option Addr} {sl17 : Array (Option Value)} {oc17 kV17 dc17 pm17 cd17 ct17 : Value} (a17 : PySem.W.nsIn K mainGlobals "with_block" = some (some (.ref f17))) (l17 : K.lookup f17 = some ⟨oc17, od17, .func (PySem.W.fnOf "with_block" "with_block" (defArgs (topS 29)) (defBody (topS 29)) (defScope (topS 29)) .none kV17 dc17 pm17 an17 cd17 ct17), sl17⟩) (c17 : PySem.W.codeIn K cd17 "with_block" = true) (k17 : PySem.W.keepIn K (.ref f17) = true)
    {f18 : Addr} {od18 an18 : Option Addr} {sl18 : Array (Option Value)} {oc18 kV18 dc18 pm18 cd18 ct18 : Value} (a18 : PySem.W.nsIn K mainGlobals "without_block" = some (some (.ref f18))) (l18 : K.lookup f18 = some ⟨oc18, od18, .func (PySem.W.fnOf "without_block" "without_block" (defArgs (topS 30)) (defBody (topS 30)) (defScope (topS 30)) .none kV18 dc18 pm18 an18 cd18 ct18), sl18⟩) (c18 : PySem.W.codeIn K cd18 "without_block" = true) (k18 : PySem.W.keepIn K (.ref f18) = true)
    {f19 : Addr} {od19 an19 : Option Addr} {sl19 : Array (Option Value)} {oc19 kV19 dc19 pm19 cd19 ct19 : Value} (a19 : PySem.W.nsIn K mainGlobals "has_block" = some (some (.ref f19))) (l19 : K.lookup f19 = some ⟨oc19, od19, .func (PySem.W.fnOf "has_block" "has_block" (defArgs (topS 31)) (defBody (topS 31)) (defScope (topS 31)) .none kV19 dc19 pm19 an19 cd19 ct19), sl19⟩) (c19 : PySem.W.codeIn K cd19 "has_block" = true) (k19 : PySem.W.keepIn K (.ref f19) = true)
    {f20 : Addr} {od20 an20 : Option Addr} {sl20 : Array (Option Value)} {oc20 kV20 dc20 pm20 cd20 ct20 : Value} (a20 : PySem.W.nsIn K mainGlobals "is_rule" = some (some (.ref f20))) (l20 : K.lookup f20 = some ⟨oc20, od20, .func (PySem.W.fnOf "is_rule" "is_rule" (defArgs (topS 34)) (defBody (topS 34)) (defScope (topS 34)) .none kV20 dc20 pm20 an20 cd20 ct20), sl20⟩) (c20 : PySem.W.codeIn K cd20 "is_rule" = true) (k20 : PySem.W.keepIn K (.ref f20) = true)
    {f21 : Addr} {od21 an21 : Option Addr} {sl21 : Array (Option Value)} {oc21 dc21 pm21 cd21 ct21 : Value} {dd21 : Addr} {td21_rule : Tok} (a21 : PySem.W.findIn K (.ref CHeap) "__init__" = some (some (.ref f21))) (i21 : PySem.W.isFn K (.ref f21) = true) (l21 : K.lookup f21 = some ⟨oc21, od21, .func (PySem.W.fnOf "__init__" "Heap.__init__" (defArgs (inClass (topS 40) 0)) (defBody (inClass (topS 40) 0)) (defScope (inClass (topS 40) 0)) .none (.ref dd21) dc21 pm21 an21 cd21 ct21), sl21⟩) (c21 : PySem.W.codeIn K cd21 "Heap.__init__" = true) (k21 : PySem.W.keepIn K (.ref f21) = true)
    (d21_rule : PySem.W.nsIn K dd21 "rule" = some (some (.str "lowest" td21_rule)))
    {f22 : Addr} {od22 an22 : Option Addr} {sl22 : Array (Option Value)} {oc22 kV22 dc22 pm22 cd22 ct22 : Value} (a22 : PySem.W.findIn K (.ref CHeap) "put" = some (some (.ref f22))) (i22 : PySem.W.isFn K (.ref f22) = true) (l22 : K.lookup f22 = some ⟨oc22, od22, .func (PySem.W.fnOf "put" "Heap.put" (defArgs (inClass (topS 40) 2)) (defBody (inClass (topS 40) 2)) (defScope (inClass (topS 40) 2)) .none kV22 dc22 pm22 an22 cd22 ct22), sl22⟩) (c22 : PySem.W.codeIn K cd22 "Heap.put" = true) (k22 : PySem.W.keepIn K (.ref f22) = true)
    {f23 : Addr} {od23 an23 : Option Addr} {sl23 : Array (Option Value)} {oc23 kV23 dc23 pm23 cd23 ct23 : Value} (a23 : PySem.W.findIn K (.ref CHeap) "check" = some (some (.ref f23))) (i23 : PySem.W.isFn K (.ref f23) = true) (l23 : K.lookup f23 = some ⟨oc23, od23, .func (PySem.W.fnOf "check" "Heap.check" (defArgs (inClass (topS 40) 3)) (defBody (inClass (topS 40) 3)) (defScope (inClass (topS 40) 3)) .none kV23 dc23 pm23 an23 cd23 ct23), sl23⟩) (c23 : PySem.W.codeIn K cd23 "Heap.check" = true) (k23 : PySem.W.keepIn K (.ref f23) = true)
    {f24 : Addr} {od24 an24 : Option Addr} {sl24 : Array (Option Value)} {oc24 kV24 dc24 pm24 cd24 ct24 : Value} (a24 : PySem.W.findIn K (.ref CHeap) "enter" = some (some (.ref f24))) (i24 : PySem.W.isFn K (.ref f24) = true) (l24 : K.lookup f24 = some ⟨oc24, od24, .func (PySem.W.fnOf "enter" "Heap.enter" (defArgs (inClass (topS 40) 4)) (defBody (inClass (topS 40) 4)) (defScope (inClass (topS 40) 4)) .none kV24 dc24 pm24 an24 cd24 ct24), sl24⟩) (c24 : PySem.W.codeIn K cd24 "Heap.enter" = true) (k24 : PySem.W.keepIn K (.ref f24) = true)
    {f25 : Addr} {od25 an25 : Option Addr} {sl25 : Array (Option Value)} {oc25 kV25 dc25 pm25 cd25 ct25 : Value} (a25 : PySem.W.findIn K (.ref CHeap) "free" = some (some (.ref f25))) (i25 : PySem.W.isFn K (.ref f25) = true) (l25 : K.lookup f25 = some ⟨oc25, od25, .func (PySem.W.fnOf "free" "Heap.free" (defArgs (inClass (topS 40) 5)) (defBody (inClass (topS 40) 5)) (defScope (inClass (topS 40) 5)) .none kV25 dc25 pm25 an25 cd25 ct25), sl25⟩) (c25 : PySem.W.codeIn K cd25 "Heap.free" = true) (k25 : PySem.W.keepIn K (.ref f25) = true)
    {f26 : Addr} {od26 an26 : Option Addr} {sl26 : Array (Option Value)} {oc26 kV26 dc26 pm26 cd26 ct26 : Value} (a26 : PySem.W.findIn K (.ref CHeap) "state" = some (some (.ref f26))) (i26 : PySem.W.isFn K (.ref f26) = true) (l26 : K.lookup f26 = some ⟨oc26, od26, .func (PySem.W.fnOf "state" "Heap.state" (defArgs (inClass (topS 40) 7)) (defBody (inClass (topS 40) 7)) (defScope (inClass (topS 40) 7)) .none kV26 dc26 pm26 an26 cd26 ct26), sl26⟩) (c26 : PySem.W.codeIn K cd26 "Heap.state" = true) (k26 : PySem.W.keepIn K (.ref f26) = true)
    {f27 : Addr} {od27 an27 : Option Addr} {sl27 : Array (Option Value)} {oc27 kV27 dc27 pm27 cd27 ct27 : Value} (a27 : PySem.W.findIn K (.ref CHeap) "live" = some (some (.ref f27))) (i27 : PySem.W.isFn K (.ref f27) = true) (l27 : K.lookup f27 = some ⟨oc27, od27, .func (PySem.W.fnOf "live" "Heap.live" (defArgs (inClass (topS 40) 8)) (defBody (inClass (topS 40) 8)) (defScope (inClass (topS 40) 8)) .none kV27 dc27 pm27 an27 cd27 ct27), sl27⟩) (c27 : PySem.W.codeIn K cd27 "Heap.live" = true) (k27 : PySem.W.keepIn K (.ref f27) = true)
    {f28 : Addr} {od28 an28 : Option Addr} {sl28 : Array (Option Value)} {oc28 kV28 dc28 pm28 cd28 ct28 : Value} (a28 : PySem.W.nsIn K mainGlobals "replay" = some (some (.ref f28))) (l28 : K.lookup f28 = some ⟨oc28, od28, .func (PySem.W.fnOf "replay" "replay" (defArgs (topS 42)) (defBody (topS 42)) (defScope (topS 42)) .none kV28 dc28 pm28 an28 cd28 ct28), sl28⟩) (c28 : PySem.W.codeIn K cd28 "replay" = true) (k28 : PySem.W.keepIn K (.ref f28) = true)
    {f29 : Addr} {od29 an29 : Option Addr} {sl29 : Array (Option Value)} {oc29 kV29 dc29 pm29 cd29 ct29 : Value} (a29 : PySem.W.nsIn K mainGlobals "has_form_of_event" = some (some (.ref f29))) (l29 : K.lookup f29 = some ⟨oc29, od29, .func (PySem.W.fnOf "has_form_of_event" "has_form_of_event" (defArgs (topS 43)) (defBody (topS 43)) (defScope (topS 43)) .none kV29 dc29 pm29 an29 cd29 ct29), sl29⟩) (c29 : PySem.W.codeIn K cd29 "has_form_of_event" = true) (k29 : PySem.W.keepIn K (.ref f29) = true)
    {f30 : Addr} {od30 an30 : Option Addr} {sl30 : Array (Option Value)} {oc30 kV30 dc30 pm30 cd30 ct30 : Value} (a30 : PySem.W.nsIn K mainGlobals "repeat" = some (some (.ref f30))) (l30 : K.lookup f30 = some ⟨oc30, od30, .func (PySem.W.fnOf "repeat" "repeat" (defArgs (topS 44)) (defBody (topS 44)) (defScope (topS 44)) .none kV30 dc30 pm30 an30 cd30 ct30), sl30⟩) (c30 : PySem.W.codeIn K cd30 "repeat" = true) (k30 : PySem.W.keepIn K (.ref f30) = true)
    {f31 : Addr} {od31 an31 : Option Addr} {sl31 : Array (Option Value)} {oc31 kV31 dc31 pm31 cd31 ct31 : Value} (a31 : PySem.W.nsIn K mainGlobals "shows_exhaustion" = some (some (.ref f31))) (l31 : K.lookup f31 = some ⟨oc31, od31, .func (PySem.W.fnOf "shows_exhaustion" "shows_exhaustion" (defArgs (topS 46)) (defBody (topS 46)) (defScope (topS 46)) .none kV31 dc31 pm31 an31 cd31 ct31), sl31⟩) (c31 : PySem.W.codeIn K cd31 "shows_exhaustion" = true) (k31 : PySem.W.keepIn K (.ref f31) = true)
    {f32 : Addr} {od32 an32 : Option Addr} {sl32 : Array (Option Value)} {oc32 kV32 dc32 pm32 cd32 ct32 : Value} (a32 : PySem.W.nsIn K mainGlobals "is_failed_get" = some (some (.ref f32))) (l32 : K.lookup f32 = some ⟨oc32, od32, .func (PySem.W.fnOf "is_failed_get" "is_failed_get" (defArgs (topS 47)) (defBody (topS 47)) (defScope (topS 47)) .none kV32 dc32 pm32 an32 cd32 ct32), sl32⟩) (c32 : PySem.W.codeIn K cd32 "is_failed_get" = true) (k32 : PySem.W.keepIn K (.ref f32) = true)
    {f33 : Addr} {od33 an33 : Option Addr} {sl33 : Array (Option Value)} {oc33 kV33 dc33 pm33 cd33 ct33 : Value} (a33 : PySem.W.nsIn K mainGlobals "_law_draws" = some (some (.ref f33))) (l33 : K.lookup f33 = some ⟨oc33, od33, .func (PySem.W.fnOf "_law_draws" "_law_draws" (defArgs (topS 49)) (defBody (topS 49)) (defScope (topS 49)) .none kV33 dc33 pm33 an33 cd33 ct33), sl33⟩) (c33 : PySem.W.codeIn K cd33 "_law_draws" = true) (k33 : PySem.W.keepIn K (.ref f33) = true)
    {f34 : Addr} {od34 an34 : Option Addr} {sl34 : Array (Option Value)} {oc34 kV34 dc34 pm34 cd34 ct34 : Value} (a34 : PySem.W.nsIn K mainGlobals "_law_next" = some (some (.ref f34))) (l34 : K.lookup f34 = some ⟨oc34, od34, .func (PySem.W.fnOf "_law_next" "_law_next" (defArgs (topS 50)) (defBody (topS 50)) (defScope (topS 50)) .none kV34 dc34 pm34 an34 cd34 ct34), sl34⟩) (c34 : PySem.W.codeIn K cd34 "_law_next" = true) (k34 : PySem.W.keepIn K (.ref f34) = true)
    {f35 : Addr} {od35 an35 : Option Addr} {sl35 : Array (Option Value)} {oc35 kV35 dc35 pm35 cd35 ct35 : Value} (a35 : PySem.W.nsIn K mainGlobals "_law_pick" = some (some (.ref f35))) (l35 : K.lookup f35 = some ⟨oc35, od35, .func (PySem.W.fnOf "_law_pick" "_law_pick" (defArgs (topS 51)) (defBody (topS 51)) (defScope (topS 51)) .none kV35 dc35 pm35 an35 cd35 ct35), sl35⟩) (c35 : PySem.W.codeIn K cd35 "_law_pick" = true) (k35 : PySem.W.keepIn K (.ref f35) = true)
    {f36 : Addr} {od36 an36 : Option Addr} {sl36 : Array (Option Value)} {oc36 kV36 dc36 pm36 cd36 ct36 : Value} (a36 : PySem.W.nsIn K mainGlobals "_law_chain" = some (some (.ref f36))) (l36 : K.lookup f36 = some ⟨oc36, od36, .func (PySem.W.fnOf "_law_chain" "_law_chain" (defArgs (topS 52)) (defBody (topS 52)) (defScope (topS 52)) .none kV36 dc36 pm36 an36 cd36 ct36), sl36⟩) (c36 : PySem.W.codeIn K cd36 "_law_chain" = true) (k36 : PySem.W.keepIn K (.ref f36) = true)
    {f37 : Addr} {od37 an37 : Option Addr} {sl37 : Array (Option Value)} {oc37 kV37 dc37 pm37 cd37 ct37 : Value} (a37 : PySem.W.nsIn K mainGlobals "_law_total" = some (some (.ref f37))) (l37 : K.lookup f37 = some ⟨oc37, od37, .func (PySem.W.fnOf "_law_total" "_law_total" (defArgs (topS 53)) (defBody (topS 53)) (defScope (topS 53)) .none kV37 dc37 pm37 an37 cd37 ct37), sl37⟩) (c37 : PySem.W.codeIn K cd37 "_law_total" = true) (k37 : PySem.W.keepIn K (.ref f37) = true)
    {f38 : Addr} {od38 an38 : Option Addr} {sl38 : Array (Option Value)} {oc38 kV38 dc38 pm38 cd38 ct38 : Value} (a38 : PySem.W.nsIn K mainGlobals "_law_more" = some (some (.ref f38))) (l38 : K.lookup f38 = some ⟨oc38, od38, .func (PySem.W.fnOf "_law_more" "_law_more" (defArgs (topS 54)) (defBody (topS 54)) (defScope (topS 54)) .none kV38 dc38 pm38 an38 cd38 ct38), sl38⟩) (c38 : PySem.W.codeIn K cd38 "_law_more" = true) (k38 : PySem.W.keepIn K (.ref f38) = true)
    {f39 : Addr} {od39 an39 : Option Addr} {sl39 : Array (Option Value)} {oc39 kV39 dc39 pm39 cd39 ct39 : Value} (a39 : PySem.W.nsIn K mainGlobals "_law_less" = some (some (.ref f39))) (l39 : K.lookup f39 = some ⟨oc39, od39, .func (PySem.W.fnOf "_law_less" "_law_less" (defArgs (topS 55)) (defBody (topS 55)) (defScope (topS 55)) .none kV39 dc39 pm39 an39 cd39 ct39), sl39⟩) (c39 : PySem.W.codeIn K cd39 "_law_less" = true) (k39 : PySem.W.keepIn K (.ref f39) = true)
    {f40 : Addr} {od40 an40 : Option Addr} {sl40 : Array (Option Value)} {oc40 kV40 dc40 pm40 cd40 ct40 : Value} (a40 : PySem.W.nsIn K mainGlobals "_law_free_places" = some (some (.ref f40))) (l40 : K.lookup f40 = some ⟨oc40, od40, .func (PySem.W.fnOf "_law_free_places" "_law_free_places" (defArgs (topS 56)) (defBody (topS 56)) (defScope (topS 56)) .none kV40 dc40 pm40 an40 cd40 ct40), sl40⟩) (c40 : PySem.W.codeIn K cd40 "_law_free_places" = true) (k40 : PySem.W.keepIn K (.ref f40) = true)
    {f41 : Addr} {od41 an41 : Option Addr} {sl41 : Array (Option Value)} {oc41 kV41 dc41 pm41 cd41 ct41 : Value} (a41 : PySem.W.nsIn K mainGlobals "_law_is_number" = some (some (.ref f41))) (l41 : K.lookup f41 = some ⟨oc41, od41, .func (PySem.W.fnOf "_law_is_number" "_law_is_number" (defArgs (topS 57)) (defBody (topS 57)) (defScope (topS 57)) .none kV41 dc41 pm41 an41 cd41 ct41), sl41⟩) (c41 : PySem.W.codeIn K cd41 "_law_is_number" = true) (k41 : PySem.W.keepIn K (.ref f41) = true)
    {f42 : Addr} {od42 an42 : Option Addr} {sl42 : Array (Option Value)} {oc42 kV42 dc42 pm42 cd42 ct42 : Value} (a42 : PySem.W.nsIn K mainGlobals "_law_can_get" = some (some (.ref f42))) (l42 : K.lookup f42 = some ⟨oc42, od42, .func (PySem.W.fnOf "_law_can_get" "_law_can_get" (defArgs (topS 58)) (defBody (topS 58)) (defScope (topS 58)) .none kV42 dc42 pm42 an42 cd42 ct42), sl42⟩) (c42 : PySem.W.codeIn K cd42 "_law_can_get" = true) (k42 : PySem.W.keepIn K (.ref f42) = true)
    {f43 : Addr} {od43 an43 : Option Addr} {sl43 : Array (Option Value)} {oc43 kV43 dc43 pm43 cd43 ct43 : Value} (a43 : PySem.W.nsIn K mainGlobals "_law_after" = some (some (.ref f43))) (l43 : K.lookup f43 = some ⟨oc43, od43, .func (PySem.W.fnOf "_law_after" "_law_after" (defArgs (topS 59)) (defBody (topS 59)) (defScope (topS 59)) .none kV43 dc43 pm43 an43 cd43 ct43), sl43⟩) (c43 : PySem.W.codeIn K cd43 "_law_after" = true) (k43 : PySem.W.keepIn K (.ref f43) = true)
    {f44 : Addr} {od44 an44 : Option Addr} {sl44 : Array (Option Value)} {oc44 kV44 dc44 pm44 cd44 ct44 : Value} (a44 : PySem.W.nsIn K mainGlobals "_law_due" = some (some (.ref f44))) (l44 : K.lookup f44 = some ⟨oc44, od44, .func (PySem.W.fnOf "_law_due" "_law_due" (defArgs (topS 60)) (defBody (topS 60)) (defScope (topS 60)) .none kV44 dc44 pm44 an44 cd44 ct44), sl44⟩) (c44 : PySem.W.codeIn K cd44 "_law_due" = true) (k44 : PySem.W.keepIn K (.ref f44) = true)
    {f45 : Addr} {od45 an45 : Option Addr} {sl45 : Array (Option Value)} {oc45 kV45 dc45 pm45 cd45 ct45 : Value} (a45 : PySem.W.nsIn K mainGlobals "_law_events" = some (some (.ref f45))) (l45 : K.lookup f45 = some ⟨oc45, od45, .func (PySem.W.fnOf "_law_events" "_law_events" (defArgs (topS 61)) (defBody (topS 61)) (defScope (topS 61)) .none kV45 dc45 pm45 an45 cd45 ct45), sl45⟩) (c45 : PySem.W.codeIn K cd45 "_law_events" = true) (k45 : PySem.W.keepIn K (.ref f45) = true)
    {f46 : Addr} {od46 an46 : Option Addr} {sl46 : Array (Option Value)} {oc46 kV46 dc46 pm46 cd46 ct46 : Value} (a46 : PySem.W.nsIn K mainGlobals "_law_bent" = some (some (.ref f46))) (l46 : K.lookup f46 = some ⟨oc46, od46, .func (PySem.W.fnOf "_law_bent" "_law_bent" (defArgs (topS 62)) (defBody (topS 62)) (defScope (topS 62)) .none kV46 dc46 pm46 an46 cd46 ct46), sl46⟩) (c46 : PySem.W.codeIn K cd46 "_law_bent" = true) (k46 : PySem.W.keepIn K (.ref f46) = true)
    {f47 : Addr} {od47 an47 : Option Addr} {sl47 : Array (Option Value)} {oc47 kV47 dc47 pm47 cd47 ct47 : Value} (a47 : PySem.W.nsIn K mainGlobals "_law_right" = some (some (.ref f47))) (l47 : K.lookup f47 = some ⟨oc47, od47, .func (PySem.W.fnOf "_law_right" "_law_right" (defArgs (topS 63)) (defBody (topS 63)) (defScope (topS 63)) .none kV47 dc47 pm47 an47 cd47 ct47), sl47⟩) (c47 : PySem.W.codeIn K cd47 "_law_right" = true) (k47 : PySem.W.keepIn K (.ref f47) = true)
    {f48 : Addr} {od48 an48 : Option Addr} {sl48 : Array (Option Value)} {oc48 kV48 dc48 pm48 cd48 ct48 : Value} (a48 : PySem.W.nsIn K mainGlobals "law" = some (some (.ref f48))) (l48 : K.lookup f48 = some ⟨oc48, od48, .func (PySem.W.fnOf "law" "law" (defArgs (topS 64)) (defBody (topS 64)) (defScope (topS 64)) .none kV48 dc48 pm48 an48 cd48 ct48), sl48⟩) (c48 : PySem.W.codeIn K cd48 "law" = true) (k48 : PySem.W.keepIn K (.ref f48) = true)
    (z1 : PySem.W.nsIn K mainGlobals "len" = some none)
    (z2 : PySem.W.nsIn K mainGlobals "abs" = some none)
    (z3 : PySem.W.nsIn K mainGlobals "int" = some none)
    (z4 : PySem.W.nsIn K mainGlobals "range" = some none)
    (z5 : PySem.W.nsIn K mainGlobals "tuple" = some none)
    (z6 : PySem.W.nsIn K mainGlobals "max" = some none)
    (z7 : PySem.W.nsIn K mainGlobals "min" = some none)
    (z8 : PySem.W.nsIn K mainGlobals "repr" = some none)
    (z9 : PySem.W.nsIn K mainGlobals "isinstance" = some none)
    (z10 : PySem.W.nsIn K mainGlobals "bool" = some none)
    (z11 : PySem.W.nsIn K mainGlobals "all" = some none)
    (z12 : PySem.W.nsIn K mainGlobals "any" = some none)
    (z13 : PySem.W.nsIn K mainGlobals "list" = some none)
    (z14 : PySem.W.nsIn K mainGlobals "dict" = some none)
    (z15 : PySem.W.nsIn K mainGlobals "sorted" = some none)
    (z16 : PySem.W.nsIn K mainGlobals "set" = some none)
    (z17 : PySem.W.nsIn K mainGlobals "sum" = some none)
    (z18 : PySem.W.nsIn K mainGlobals "zip" = some none)
    (z19 : PySem.W.nsIn K mainGlobals "enumerate" = some none)
    (z20 : PySem.W.nsIn K mainGlobals "reversed" = some none)
    (z21 : PySem.W.nsIn K mainGlobals "str" = some none)
    (zd : PySem.W.nsIn K cStatics "sys.int_max_str_digits" = some none) :
    ∃ fd : FuncData, (∀ (s : Shared) (v : Value), BindsTo s fd ⟨[v], []⟩ [("_law_script", v)]) ∧ ∀ base : Heap, K.In base → base.Ns mainGlobals mg → FnG l.prog w K mg base CX0 (0 + 1 + 1 + 1 + 1 + 1 + 1 + 1 + 1 + 1 + 1) fa fd ["_law_script"] (spLaw K) := by
  have e := hfa.symm.trans (PySem.W.mg_of X G a48)
  cases e
  have F1 := fun_mk (x := "__init__") (qual := "BadSize.__init__") (st := (inClass (topS 7) 0)) l1 c1 k1
  have F2 := fun_mk (x := "__init__") (qual := "OverLimit.__init__") (st := (inClass (topS 10) 0)) l2 c2 k2
  have F3 := fun_mk (x := "__init__") (qual := "BadPlace.__init__") (st := (inClass (topS 8) 0)) l3 c3 k3
  have F4 := fun_mk (x := "__init__") (qual := "NoBlock.__init__") (st := (inClass (topS 12) 0)) l4 c4 k4
  have F5 := fun_mk (x := "__init__") (qual := "BadEvent.__init__") (st := (inClass (topS 9) 0)) l5 c5 k5
  have F6 := fun_mk (x := "is_integer") (qual := "is_integer") (st := (topS 14)) l6 c6 k6
  have F7 := fun_mk (x := "divided_up") (qual := "divided_up") (st := (topS 15)) l7 c7 k7
  have F8 := fun_mk (x := "is_chain") (qual := "is_chain") (st := (topS 19)) l8 c8 k8
  have F9 := fun_mk (x := "may_follow") (qual := "may_follow") (st := (topS 20)) l9 c9 k9
  have F10 := fun_mk (x := "is_size") (qual := "is_size") (st := (topS 21)) l10 c10 k10
  have F11 := fun_mk (x := "class_of") (qual := "class_of") (st := (topS 22)) l11 c11 k11
  have F12 := fun_mk (x := "live_words") (qual := "live_words") (st := (topS 24)) l12 c12 k12
  have F13 := fun_mk (x := "places") (qual := "places") (st := (topS 25)) l13 c13 k13
  have F14 := fun_mk (x := "gaps") (qual := "gaps") (st := (topS 26)) l14 c14 k14
  have F15 := fun_mk (x := "is_place") (qual := "is_place") (st := (topS 27)) l15 c15 k15
  have F16 := fun_mk (x := "may_hold") (qual := "may_hold") (st := (topS 28)) l16 c16 k16
  have F17 := fun_mk (x := "with_block") (qual := "with_block") (st := (topS 29)) l17 c17 k17
  have F18 := fun_mk (x := "without_block") (qual := "without_block") (st := (topS 30)) l18 c18 k18
  have F19 := fun_mk (x := "has_block") (qual := "has_block") (st := (topS 31)) l19 c19 k19
  have F20 := fun_mk (x := "is_rule") (qual := "is_rule") (st := (topS 34)) l20 c20 k20
  have F21 : FunD K "__init__" "Heap.__init__" (defArgs (inClass (topS 40) 0)) (defBody (inClass (topS 40) 0)) (defScope (inClass (topS 40) 0)) [] [("rule", V.str "lowest")] f21 (PySem.W.fnOf "__init__" "Heap.__init__" (defArgs (inClass (topS 40) 0)) (defBody (inClass (topS 40) 0)) (defScope (inClass (topS 40) 0)) .none (.ref dd21) dc21 pm21 an21 cd21 ct21) := ⟨⟨_, _, _, _, _, _, _, _, _, _, rfl, l21, c21, .inl ⟨rfl, rfl⟩, .inr ⟨dd21, rfl, fun q hq => by
    rw [List.mem_singleton.mp hq]
    exact ⟨_, d21_rule, ⟨_, rfl⟩⟩⟩⟩, k21⟩
  have B21 := F21.binds0 (ps := ["self", "chain", "pages", "limit", "rule"]) 4 (by intro z; cases z) rfl (fun _ _ _ _ _ _ us ks h1 h2 => match us, ks, h1, h2 with | [_, _, _, _], [_], _, _ => ⟨_, _, _, _, _, _, rfl, rfl, rfl⟩)
  have F22 := fun_mk (x := "put") (qual := "Heap.put") (st := (inClass (topS 40) 2)) l22 c22 k22
  have F23 := fun_mk (x := "check") (qual := "Heap.check") (st := (inClass (topS 40) 3)) l23 c23 k23
  have F24 := fun_mk (x := "enter") (qual := "Heap.enter") (st := (inClass (topS 40) 4)) l24 c24 k24
  have F25 := fun_mk (x := "free") (qual := "Heap.free") (st := (inClass (topS 40) 5)) l25 c25 k25
  have F26 := fun_mk (x := "state") (qual := "Heap.state") (st := (inClass (topS 40) 7)) l26 c26 k26
  have F27 := fun_mk (x := "live") (qual := "Heap.live") (st := (inClass (topS 40) 8)) l27 c27 k27
  have F28 := fun_mk (x := "replay") (qual := "replay") (st := (topS 42)) l28 c28 k28
  have F29 := fun_mk (x := "has_form_of_event") (qual := "has_form_of_event") (st := (topS 43)) l29 c29 k29
  have F30 := fun_mk (x := "repeat") (qual := "repeat") (st := (topS 44)) l30 c30 k30
  have F31 := fun_mk (x := "shows_exhaustion") (qual := "shows_exhaustion") (st := (topS 46)) l31 c31 k31
  have F32 := fun_mk (x := "is_failed_get") (qual := "is_failed_get") (st := (topS 47)) l32 c32 k32
  have F33 := fun_mk (x := "_law_draws") (qual := "_law_draws") (st := (topS 49)) l33 c33 k33
  have F34 := fun_mk (x := "_law_next") (qual := "_law_next") (st := (topS 50)) l34 c34 k34
  have F35 := fun_mk (x := "_law_pick") (qual := "_law_pick") (st := (topS 51)) l35 c35 k35
  have F36 := fun_mk (x := "_law_chain") (qual := "_law_chain") (st := (topS 52)) l36 c36 k36
  have F37 := fun_mk (x := "_law_total") (qual := "_law_total") (st := (topS 53)) l37 c37 k37
  have F38 := fun_mk (x := "_law_more") (qual := "_law_more") (st := (topS 54)) l38 c38 k38
  have F39 := fun_mk (x := "_law_less") (qual := "_law_less") (st := (topS 55)) l39 c39 k39
  have F40 := fun_mk (x := "_law_free_places") (qual := "_law_free_places") (st := (topS 56)) l40 c40 k40
  have F41 := fun_mk (x := "_law_is_number") (qual := "_law_is_number") (st := (topS 57)) l41 c41 k41
  have F42 := fun_mk (x := "_law_can_get") (qual := "_law_can_get") (st := (topS 58)) l42 c42 k42
  have F43 := fun_mk (x := "_law_after") (qual := "_law_after") (st := (topS 59)) l43 c43 k43
  have F44 := fun_mk (x := "_law_due") (qual := "_law_due") (st := (topS 60)) l44 c44 k44
  have F45 := fun_mk (x := "_law_events") (qual := "_law_events") (st := (topS 61)) l45 c45 k45
  have F46 := fun_mk (x := "_law_bent") (qual := "_law_bent") (st := (topS 62)) l46 c46 k46
  have F47 := fun_mk (x := "_law_right") (qual := "_law_right") (st := (topS 63)) l47 c47 k47
  have F48 := fun_mk (x := "law") (qual := "law") (st := (topS 64)) l48 c48 k48
  let Z : Fns K mg := {
    N := ⟨PySem.W.mg_none_of X G z1, PySem.W.mg_none_of X G z2, PySem.W.mg_none_of X G z3, PySem.W.mg_none_of X G z4, PySem.W.mg_none_of X G z5, PySem.W.mg_none_of X G z6, PySem.W.mg_none_of X G z7, PySem.W.mg_none_of X G z8, PySem.W.mg_none_of X G z9, PySem.W.mg_none_of X G z10, PySem.W.mg_none_of X G z11, PySem.W.mg_none_of X G z12, PySem.W.mg_none_of X G z13, PySem.W.mg_none_of X G z14, PySem.W.mg_none_of X G z15, PySem.W.mg_none_of X G z16, PySem.W.mg_none_of X G z17, PySem.W.mg_none_of X G z18, PySem.W.mg_none_of X G z19, PySem.W.mg_none_of X G z20, PySem.W.mg_none_of X G z21, zd⟩,
    CHeap := CHeap,
    clHeap := ⟨pgHeap, hdHeap, poHeap, saHeap⟩,
    gcHeap := PySem.W.mg_of X G aCHeap,
    naHeap_chain := naHeap_chain,
    naHeap_pages := naHeap_pages,
    naHeap_limit := naHeap_limit,
    naHeap_rule := naHeap_rule,
    naHeap_blocks := naHeap_blocks,
    naHeap_steps := naHeap_steps,
    CHeapError := CHeapError,
    gcHeapError := PySem.W.mg_of X G aCHeapError,
    CBadSize := CBadSize,
    gcBadSize := PySem.W.mg_of X G aCBadSize,
    COverLimit := COverLimit,
    gcOverLimit := PySem.W.mg_of X G aCOverLimit,
    CBadPlace := CBadPlace,
    gcBadPlace := PySem.W.mg_of X G aCBadPlace,
    CNoBlock := CNoBlock,
    gcNoBlock := PySem.W.mg_of X G aCNoBlock,
    CBadEvent := CBadEvent,
    gcBadEvent := PySem.W.mg_of X G aCBadEvent,
    nve := PySem.W.mg_none_of X G zve,
    exBadSize_BadSize := PySem.W.exm_ref bxBadSize hdBadSize tyBadSize ssBadSize_BadSize,
    oxBadSize := ⟨⟨nmBadSize, qBadSize, NBadSize, bsBadSize, _, snBadSize, subBadSize, abBadSize, colBadSize, ddBadSize, m0BadSize, m1BadSize, m2BadSize, m3BadSize, m5BadSize, xLBadSize, rfl⟩, saBadSize, bxBadSize, tyBadSize, kpBadSize⟩,
    ecBadSize := ⟨gaBadSize, ggBadSize, bxBadSize, hdBadSize, caBadSize, cgX, ctX, moBadSize⟩,
    xfBadSize := ⟨gaBadSize, ggBadSize, bxBadSize, hdBadSize⟩,
    exBadSize := PySem.W.exm_ref bxH hdH tyH sHBadSize,
    isBadSize_ValueError := isBadSize_ValueError,
    nfBadSize_size := nfBadSize_size,
    isBadSize_HeapError := isBadSize_HeapError,
    isBadSize_BadSize := isBadSize_BadSize,
    isBadSize_OverLimit := isBadSize_OverLimit,
    isBadSize_BadPlace := isBadSize_BadPlace,
    isBadSize_NoBlock := isBadSize_NoBlock,
    isBadSize_BadEvent := isBadSize_BadEvent,
    exOverLimit_OverLimit := PySem.W.exm_ref bxOverLimit hdOverLimit tyOverLimit ssOverLimit_OverLimit,
    oxOverLimit := ⟨⟨nmOverLimit, qOverLimit, NOverLimit, bsOverLimit, _, snOverLimit, subOverLimit, abOverLimit, colOverLimit, ddOverLimit, m0OverLimit, m1OverLimit, m2OverLimit, m3OverLimit, m5OverLimit, xLOverLimit, rfl⟩, saOverLimit, bxOverLimit, tyOverLimit, kpOverLimit⟩,
    ecOverLimit := ⟨gaOverLimit, ggOverLimit, bxOverLimit, hdOverLimit, caOverLimit, cgX, ctX, moOverLimit⟩,
    xfOverLimit := ⟨gaOverLimit, ggOverLimit, bxOverLimit, hdOverLimit⟩,
    exOverLimit := PySem.W.exm_ref bxH hdH tyH sHOverLimit,
    isOverLimit_ValueError := isOverLimit_ValueError,
    nfOverLimit_size := nfOverLimit_size,
    isOverLimit_HeapError := isOverLimit_HeapError,
    isOverLimit_BadSize := isOverLimit_BadSize,
    isOverLimit_OverLimit := isOverLimit_OverLimit,
    isOverLimit_BadPlace := isOverLimit_BadPlace,
    isOverLimit_NoBlock := isOverLimit_NoBlock,
    isOverLimit_BadEvent := isOverLimit_BadEvent,
    exBadPlace_BadPlace := PySem.W.exm_ref bxBadPlace hdBadPlace tyBadPlace ssBadPlace_BadPlace,
    oxBadPlace := ⟨⟨nmBadPlace, qBadPlace, NBadPlace, bsBadPlace, _, snBadPlace, subBadPlace, abBadPlace, colBadPlace, ddBadPlace, m0BadPlace, m1BadPlace, m2BadPlace, m3BadPlace, m5BadPlace, xLBadPlace, rfl⟩, saBadPlace, bxBadPlace, tyBadPlace, kpBadPlace⟩,
    ecBadPlace := ⟨gaBadPlace, ggBadPlace, bxBadPlace, hdBadPlace, caBadPlace, cgX, ctX, moBadPlace⟩,
    xfBadPlace := ⟨gaBadPlace, ggBadPlace, bxBadPlace, hdBadPlace⟩,
    exBadPlace := PySem.W.exm_ref bxH hdH tyH sHBadPlace,
    isBadPlace_ValueError := isBadPlace_ValueError,
    nfBadPlace_address := nfBadPlace_address,
    isBadPlace_HeapError := isBadPlace_HeapError,
    isBadPlace_BadSize := isBadPlace_BadSize,
    isBadPlace_OverLimit := isBadPlace_OverLimit,
    isBadPlace_BadPlace := isBadPlace_BadPlace,
    isBadPlace_NoBlock := isBadPlace_NoBlock,
    isBadPlace_BadEvent := isBadPlace_BadEvent,
    exNoBlock_NoBlock := PySem.W.exm_ref bxNoBlock hdNoBlock tyNoBlock ssNoBlock_NoBlock,
    oxNoBlock := ⟨⟨nmNoBlock, qNoBlock, NNoBlock, bsNoBlock, _, snNoBlock, subNoBlock, abNoBlock, colNoBlock, ddNoBlock, m0NoBlock, m1NoBlock, m2NoBlock, m3NoBlock, m5NoBlock, xLNoBlock, rfl⟩, saNoBlock, bxNoBlock, tyNoBlock, kpNoBlock⟩,
    ecNoBlock := ⟨gaNoBlock, ggNoBlock, bxNoBlock, hdNoBlock, caNoBlock, cgX, ctX, moNoBlock⟩,
    xfNoBlock := ⟨gaNoBlock, ggNoBlock, bxNoBlock, hdNoBlock⟩,
    exNoBlock := PySem.W.exm_ref bxH hdH tyH sHNoBlock,
    isNoBlock_ValueError := isNoBlock_ValueError,
    nfNoBlock_address := nfNoBlock_address,
    isNoBlock_HeapError := isNoBlock_HeapError,
    isNoBlock_BadSize := isNoBlock_BadSize,
    isNoBlock_OverLimit := isNoBlock_OverLimit,
    isNoBlock_BadPlace := isNoBlock_BadPlace,
    isNoBlock_NoBlock := isNoBlock_NoBlock,
    isNoBlock_BadEvent := isNoBlock_BadEvent,
    exBadEvent_BadEvent := PySem.W.exm_ref bxBadEvent hdBadEvent tyBadEvent ssBadEvent_BadEvent,
    oxBadEvent := ⟨⟨nmBadEvent, qBadEvent, NBadEvent, bsBadEvent, _, snBadEvent, subBadEvent, abBadEvent, colBadEvent, ddBadEvent, m0BadEvent, m1BadEvent, m2BadEvent, m3BadEvent, m5BadEvent, xLBadEvent, rfl⟩, saBadEvent, bxBadEvent, tyBadEvent, kpBadEvent⟩,
    ecBadEvent := ⟨gaBadEvent, ggBadEvent, bxBadEvent, hdBadEvent, caBadEvent, cgX, ctX, moBadEvent⟩,
    xfBadEvent := ⟨gaBadEvent, ggBadEvent, bxBadEvent, hdBadEvent⟩,
    exBadEvent := PySem.W.exm_ref bxH hdH tyH sHBadEvent,
    isBadEvent_ValueError := isBadEvent_ValueError,
    nfBadEvent_number := nfBadEvent_number,
    isBadEvent_HeapError := isBadEvent_HeapError,
    isBadEvent_BadSize := isBadEvent_BadSize,
    isBadEvent_OverLimit := isBadEvent_OverLimit,
    isBadEvent_BadPlace := isBadEvent_BadPlace,
    isBadEvent_NoBlock := isBadEvent_NoBlock,
    isBadEvent_BadEvent := isBadEvent_BadEvent,
    k_MOST_SIZES := ⟨t_MOST_SIZES, PySem.W.mg_of X G v_MOST_SIZES⟩,
    k_LARGEST_SIZE := ⟨t_LARGEST_SIZE, PySem.W.mg_of X G v_LARGEST_SIZE⟩,
    a_RULES := a_RULES,
    k_RULES := PySem.W.mg_of X G v_RULES,
    t_RULES := fun _ => .inr ⟨_, _, _, l_RULES, rfl, rfl, (by show 4 ≤ sizeLine; decide), (.cons ⟨_, rfl⟩ (.cons ⟨_, rfl⟩ (.cons ⟨_, rfl⟩ (.cons ⟨_, rfl⟩ .nil))))⟩,
    fSi := f1, fdSi := _, FSi := F1, bSi := (F1.binds (ps := ["self", "size"]) fun _ _ _ _ _ _ us hl => match us, hl with | [_, _], _ => rfl), iSi := a1, tSi := i1,
    fOi := f2, fdOi := _, FOi := F2, bOi := (F2.binds (ps := ["self", "size"]) fun _ _ _ _ _ _ us hl => match us, hl with | [_, _], _ => rfl), iOi := a2, tOi := i2,
    fBi := f3, fdBi := _, FBi := F3, bBi := (F3.binds (ps := ["self", "address"]) fun _ _ _ _ _ _ us hl => match us, hl with | [_, _], _ => rfl), iBi := a3, tBi := i3,
    fBn := f4, fdBn := _, FBn := F4, bBn := (F4.binds (ps := ["self", "address"]) fun _ _ _ _ _ _ us hl => match us, hl with | [_, _], _ => rfl), iBn := a4, tBn := i4,
    fBe := f5, fdBe := _, FBe := F5, bBe := (F5.binds (ps := ["self", "number"]) fun _ _ _ _ _ _ us hl => match us, hl with | [_, _], _ => rfl), iBe := a5, tBe := i5,
    fI := f6, fdI := _, FI := F6, bI := (F6.binds (ps := ["value"]) fun _ _ _ _ _ _ us hl => match us, hl with | [_], _ => rfl), gI := PySem.W.mg_of X G a6,
    fDu := f7, fdDu := _, FDu := F7, bDu := (F7.binds (ps := ["number", "divisor"]) fun _ _ _ _ _ _ us hl => match us, hl with | [_, _], _ => rfl), gDu := PySem.W.mg_of X G a7,
    fCi := f8, fdCi := _, FCi := F8, bCi := (F8.binds (ps := ["value"]) fun _ _ _ _ _ _ us hl => match us, hl with | [_], _ => rfl), gCi := PySem.W.mg_of X G a8,
    fMf := f9, fdMf := _, FMf := F9, bMf := (F9.binds (ps := ["larger", "size"]) fun _ _ _ _ _ _ us hl => match us, hl with | [_, _], _ => rfl), gMf := PySem.W.mg_of X G a9,
    fZ := f10, fdZ := _, FZ := F10, bZ := (F10.binds (ps := ["chain", "value"]) fun _ _ _ _ _ _ us hl => match us, hl with | [_, _], _ => rfl), gZ := PySem.W.mg_of X G a10,
    fC := f11, fdC := _, FC := F11, bC := (F11.binds (ps := ["chain", "size"]) fun _ _ _ _ _ _ us hl => match us, hl with | [_, _], _ => rfl), gC := PySem.W.mg_of X G a11,
    fV := f12, fdV := _, FV := F12, bV := (F12.binds (ps := ["state"]) fun _ _ _ _ _ _ us hl => match us, hl with | [_], _ => rfl), gV := PySem.W.mg_of X G a12,
    fPl := f13, fdPl := _, FPl := F13, bPl := (F13.binds (ps := ["chain", "pages", "state", "size"]) fun _ _ _ _ _ _ us hl => match us, hl with | [_, _, _, _], _ => rfl), gPl := PySem.W.mg_of X G a13,
    fGp := f14, fdGp := _, FGp := F14, bGp := (F14.binds (ps := ["chain", "pages", "state", "size"]) fun _ _ _ _ _ _ us hl => match us, hl with | [_, _, _, _], _ => rfl), gGp := PySem.W.mg_of X G a14,
    fIp := f15, fdIp := _, FIp := F15, bIp := (F15.binds (ps := ["chain", "pages", "state", "address", "size"]) fun _ _ _ _ _ _ us hl => match us, hl with | [_, _, _, _, _], _ => rfl), gIp := PySem.W.mg_of X G a15,
    fMh := f16, fdMh := _, FMh := F16, bMh := (F16.binds (ps := ["state", "address", "size"]) fun _ _ _ _ _ _ us hl => match us, hl with | [_, _, _], _ => rfl), gMh := PySem.W.mg_of X G a16,
    fWb := f17, fdWb := _, FWb := F17, bWb := (F17.binds (ps := ["state", "address", "size"]) fun _ _ _ _ _ _ us hl => match us, hl with | [_, _, _], _ => rfl), gWb := PySem.W.mg_of X G a17,
    fOb := f18, fdOb := _, FOb := F18, bOb := (F18.binds (ps := ["state", "address"]) fun _ _ _ _ _ _ us hl => match us, hl with | [_, _], _ => rfl), gOb := PySem.W.mg_of X G a18,
    fHb := f19, fdHb := _, FHb := F19, bHb := (F19.binds (ps := ["state", "value"]) fun _ _ _ _ _ _ us hl => match us, hl with | [_, _], _ => rfl), gHb := PySem.W.mg_of X G a19,
    fIr := f20, fdIr := _, FIr := F20, bIr := (F20.binds (ps := ["value"]) fun _ _ _ _ _ _ us hl => match us, hl with | [_], _ => rfl), gIr := PySem.W.mg_of X G a20,
    fHi := f21, fdHi := _, FHi := F21, MHi := ⟨mkHeap, a21, i21, kcHeap⟩, bHi := B21,
    fPt := f22, fdPt := _, FPt := F22, bPt := (F22.binds (ps := ["self", "address", "size"]) fun _ _ _ _ _ _ us hl => match us, hl with | [_, _, _], _ => rfl), mPt := ⟨a22, i22, k22⟩,
    fHk := f23, fdHk := _, FHk := F23, bHk := (F23.binds (ps := ["self", "size"]) fun _ _ _ _ _ _ us hl => match us, hl with | [_, _], _ => rfl), mHk := ⟨a23, i23, k23⟩,
    fHe := f24, fdHe := _, FHe := F24, bHe := (F24.binds (ps := ["self", "address", "size"]) fun _ _ _ _ _ _ us hl => match us, hl with | [_, _, _], _ => rfl), mHe := ⟨a24, i24, k24⟩,
    fHf := f25, fdHf := _, FHf := F25, bHf := (F25.binds (ps := ["self", "address"]) fun _ _ _ _ _ _ us hl => match us, hl with | [_, _], _ => rfl), mHf := ⟨a25, i25, k25⟩,
    fHs := f26, fdHs := _, FHs := F26, bHs := (F26.binds (ps := ["self"]) fun _ _ _ _ _ _ us hl => match us, hl with | [_], _ => rfl), mHs := ⟨a26, i26, k26⟩,
    fHl := f27, fdHl := _, FHl := F27, bHl := (F27.binds (ps := ["self"]) fun _ _ _ _ _ _ us hl => match us, hl with | [_], _ => rfl), mHl := ⟨a27, i27, k27⟩,
    fRy := f28, fdRy := _, FRy := F28, bRy := (F28.binds (ps := ["chain", "pages", "limit", "history"]) fun _ _ _ _ _ _ us hl => match us, hl with | [_, _, _, _], _ => rfl), gRy := PySem.W.mg_of X G a28,
    fFe := f29, fdFe := _, FFe := F29, bFe := (F29.binds (ps := ["value"]) fun _ _ _ _ _ _ us hl => match us, hl with | [_], _ => rfl), gFe := PySem.W.mg_of X G a29,
    fRe := f30, fdRe := _, FRe := F30, bRe := (F30.binds (ps := ["heap", "event"]) fun _ _ _ _ _ _ us hl => match us, hl with | [_, _], _ => rfl), gRe := PySem.W.mg_of X G a30,
    fSx := f31, fdSx := _, FSx := F31, bSx := (F31.binds (ps := ["chain", "limit", "pages", "value"]) fun _ _ _ _ _ _ us hl => match us, hl with | [_, _, _, _], _ => rfl), gSx := PySem.W.mg_of X G a31,
    fFg := f32, fdFg := _, FFg := F32, bFg := (F32.binds (ps := ["chain", "value"]) fun _ _ _ _ _ _ us hl => match us, hl with | [_, _], _ => rfl), gFg := PySem.W.mg_of X G a32,
    fDw := f33, fdDw := _, FDw := F33, bDw := (F33.binds (ps := ["_law_script", "_law_k"]) fun _ _ _ _ _ _ us hl => match us, hl with | [_, _], _ => rfl), gDw := PySem.W.mg_of X G a33,
    fNx := f34, fdNx := _, FNx := F34, bNx := (F34.binds (ps := ["_law_draws_here", "_law_bound"]) fun _ _ _ _ _ _ us hl => match us, hl with | [_, _], _ => rfl), gNx := PySem.W.mg_of X G a34,
    fPk := f35, fdPk := _, FPk := F35, bPk := (F35.binds (ps := ["_law_draws_here", "_law_items"]) fun _ _ _ _ _ _ us hl => match us, hl with | [_, _], _ => rfl), gPk := PySem.W.mg_of X G a35,
    fCc := f36, fdCc := _, FCc := F36, bCc := (F36.binds (ps := ["_law_draws_here", "_law_most", "_law_longest"]) fun _ _ _ _ _ _ us hl => match us, hl with | [_, _, _], _ => rfl), gCc := PySem.W.mg_of X G a36,
    fTo := f37, fdTo := _, FTo := F37, bTo := (F37.binds (ps := ["_law_blocks"]) fun _ _ _ _ _ _ us hl => match us, hl with | [_], _ => rfl), gTo := PySem.W.mg_of X G a37,
    fMo := f38, fdMo := _, FMo := F38, bMo := (F38.binds (ps := ["_law_blocks", "_law_address", "_law_size"]) fun _ _ _ _ _ _ us hl => match us, hl with | [_, _, _], _ => rfl), gMo := PySem.W.mg_of X G a38,
    fLe := f39, fdLe := _, FLe := F39, bLe := (F39.binds (ps := ["_law_blocks", "_law_address"]) fun _ _ _ _ _ _ us hl => match us, hl with | [_, _], _ => rfl), gLe := PySem.W.mg_of X G a39,
    fFp := f40, fdFp := _, FFp := F40, bFp := (F40.binds (ps := ["_law_blocks", "_law_size", "_law_words"]) fun _ _ _ _ _ _ us hl => match us, hl with | [_, _, _], _ => rfl), gFp := PySem.W.mg_of X G a40,
    fIm := f41, fdIm := _, FIm := F41, bIm := (F41.binds (ps := ["_law_value", "_law_least"]) fun _ _ _ _ _ _ us hl => match us, hl with | [_, _], _ => rfl), gIm := PySem.W.mg_of X G a41,
    fCg := f42, fdCg := _, FCg := F42, bCg := (F42.binds (ps := ["_law_chain_here", "_law_limit", "_law_blocks", "_law_event"]) fun _ _ _ _ _ _ us hl => match us, hl with | [_, _, _, _], _ => rfl), gCg := PySem.W.mg_of X G a42,
    fAf := f43, fdAf := _, FAf := F43, bAf := (F43.binds (ps := ["_law_chain_here", "_law_limit", "_law_words", "_law_blocks", "_law_event"]) fun _ _ _ _ _ _ us hl => match us, hl with | [_, _, _, _, _], _ => rfl), gAf := PySem.W.mg_of X G a43,
    fDx := f44, fdDx := _, FDx := F44, bDx := (F44.binds (ps := ["_law_chain_here", "_law_limit", "_law_words", "_law_value"]) fun _ _ _ _ _ _ us hl => match us, hl with | [_, _, _, _], _ => rfl), gDx := PySem.W.mg_of X G a44,
    fEs := f45, fdEs := _, FEs := F45, bEs := (F45.binds (ps := ["_law_draws_here", "_law_chain_here", "_law_limit", "_law_words"]) fun _ _ _ _ _ _ us hl => match us, hl with | [_, _, _, _], _ => rfl), gEs := PySem.W.mg_of X G a45,
    fBt := f46, fdBt := _, FBt := F46, bBt := (F46.binds (ps := ["_law_draws_here", "_law_item", "_law_deep"]) fun _ _ _ _ _ _ us hl => match us, hl with | [_, _, _], _ => rfl), gBt := PySem.W.mg_of X G a46,
    fRi := f47, fdRi := _, FRi := F47, bRi := (F47.binds (ps := ["_law_draws_here"]) fun _ _ _ _ _ _ us hl => match us, hl with | [_], _ => rfl), gRi := PySem.W.mg_of X G a47,
    fLaw := fa, fdLaw := _, FLaw := F48, bLaw := (F48.binds (ps := ["_law_script"]) fun _ _ _ _ _ _ us hl => match us, hl with | [_], _ => rfl), gLaw := PySem.W.mg_of X G a48 }
  exact ⟨PySem.W.fnOf "law" "law" (defArgs (topS 64)) (defBody (topS 64)) (defScope (topS 64)) .none kV48 dc48 pm48 an48 cd48 ct48, fun s v => .of_eq rfl, fun base _ _ => ok_Law (k := 0) Z⟩
end Ph
open PySem PySem.W PyProof.Rows
set_option maxHeartbeats 0 in
theorem PySem.Challenge.cw_pinnedheap_k46_exhaustions_of_any_value_holds : PySem.Challenge.rw_pinnedheap_k46_exhaustions_of_any_value.Holds := by
  w_on; o_law; k_head; (case hw => w_witness2)
  k_fill
  refine Ph.walkG (l := PySem.Challenge.rw_pinnedheap_k46_exhaustions_of_any_value) (n := 63) (k := (0 + 1 + 1 + 1 + 1 + 1 + 1 + 1 + 1 + 1 + 1)) (x := "_law_script") (sp := fun w => Ph.spLaw _) rfl (by decide) rfl ⟨rfl, by decide, by decide⟩ (fun w h Y => by first | exact PySem.W.kIn_of Y | exact PySem.W.km_in_of Y) ?F (fun _ _ a ns hl hS => ⟨a, ns, rfl, hS, hl, fun _ => rfl⟩)
  case F =>
    intro w mg fa h KX G hmg
    refine' Ph.all_mk KX G hmg ?aCHeap ?pgHeap ?hdHeap ?poHeap ?saHeap ?mkHeap ?kcHeap ?naHeap_chain ?naHeap_pages ?naHeap_limit ?naHeap_rule ?naHeap_blocks ?naHeap_steps ?aCHeapError ?aCBadSize ?aCOverLimit ?aCBadPlace ?aCNoBlock ?aCBadEvent ?bxH ?hdH ?tyH ?zve ?cgX ?ctX ?xLBadSize ?saBadSize ?bxBadSize ?tyBadSize ?kpBadSize ?gaBadSize ?ggBadSize ?hdBadSize ?caBadSize ?moBadSize ?sHBadSize ?isBadSize_ValueError ?nfBadSize_size ?isBadSize_HeapError ?isBadSize_BadSize ?isBadSize_OverLimit ?isBadSize_BadPlace ?isBadSize_NoBlock ?isBadSize_BadEvent ?ssBadSize_BadSize ?xLOverLimit ?saOverLimit ?bxOverLimit ?tyOverLimit ?kpOverLimit ?gaOverLimit ?ggOverLimit ?hdOverLimit ?caOverLimit ?moOverLimit ?sHOverLimit ?isOverLimit_ValueError ?nfOverLimit_size ?isOverLimit_HeapError ?isOverLimit_BadSize ?isOverLimit_OverLimit ?isOverLimit_BadPlace ?isOverLimit_NoBlock ?isOverLimit_BadEvent ?ssOverLimit_OverLimit ?xLBadPlace ?saBadPlace ?bxBadPlace ?tyBadPlace ?kpBadPlace ?gaBadPlace ?ggBadPlace ?hdBadPlace ?caBadPlace ?moBadPlace ?sHBadPlace ?isBadPlace_ValueError ?nfBadPlace_address ?isBadPlace_HeapError ?isBadPlace_BadSize ?isBadPlace_OverLimit ?isBadPlace_BadPlace ?isBadPlace_NoBlock ?isBadPlace_BadEvent ?ssBadPlace_BadPlace ?xLNoBlock ?saNoBlock ?bxNoBlock ?tyNoBlock ?kpNoBlock ?gaNoBlock ?ggNoBlock ?hdNoBlock ?caNoBlock ?moNoBlock ?sHNoBlock ?isNoBlock_ValueError ?nfNoBlock_address ?isNoBlock_HeapError ?isNoBlock_BadSize ?isNoBlock_OverLimit ?isNoBlock_BadPlace ?isNoBlock_NoBlock ?isNoBlock_BadEvent ?ssNoBlock_NoBlock ?xLBadEvent ?saBadEvent ?bxBadEvent ?tyBadEvent ?kpBadEvent ?gaBadEvent ?ggBadEvent ?hdBadEvent ?caBadEvent ?moBadEvent ?sHBadEvent ?isBadEvent_ValueError ?nfBadEvent_number ?isBadEvent_HeapError ?isBadEvent_BadSize ?isBadEvent_OverLimit ?isBadEvent_BadPlace ?isBadEvent_NoBlock ?isBadEvent_BadEvent ?ssBadEvent_BadEvent ?v_MOST_SIZES ?v_LARGEST_SIZE ?v_RULES ?l_RULES ?a1 ?i1 ?l1 ?c1 ?k1 ?a2 ?i2 ?l2 ?c2 ?k2 ?a3 ?i3 ?l3 ?c3 ?k3 ?a4 ?i4 ?l4 ?c4 ?k4 ?a5 ?i5 ?l5 ?c5 ?k5 ?a6 ?l6 ?c6 ?k6 ?a7 ?l7 ?c7 ?k7 ?a8 ?l8 ?c8 ?k8 ?a9 ?l9 ?c9 ?k9 ?a10 ?l10 ?c10 ?k10 ?a11 ?l11 ?c11 ?k11 ?a12 ?l12 ?c12 ?k12 ?a13 ?l13 ?c13 ?k13 ?a14 ?l14 ?c14 ?k14 ?a15 ?l15 ?c15 ?k15 ?a16 ?l16 ?c16 ?k16 ?a17 ?l17 ?c17 ?k17 ?a18 ?l18 ?c18 ?k18 ?a19 ?l19 ?c19 ?k19 ?a20 ?l20 ?c20 ?k20 ?a21 ?i21 ?l21 ?c21 ?k21 ?d21_rule ?a22 ?i22 ?l22 ?c22 ?k22 ?a23 ?i23 ?l23 ?c23 ?k23 ?a24 ?i24 ?l24 ?c24 ?k24 ?a25 ?i25 ?l25 ?c25 ?k25 ?a26 ?i26 ?l26 ?c26 ?k26 ?a27 ?i27 ?l27 ?c27 ?k27 ?a28 ?l28 ?c28 ?k28 ?a29 ?l29 ?c29 ?k29 ?a30 ?l30 ?c30 ?k30 ?a31 ?l31 ?c31 ?k31 ?a32 ?l32 ?c32 ?k32 ?a33 ?l33 ?c33 ?k33 ?a34 ?l34 ?c34 ?k34 ?a35 ?l35 ?c35 ?k35 ?a36 ?l36 ?c36 ?k36 ?a37 ?l37 ?c37 ?k37 ?a38 ?l38 ?c38 ?k38 ?a39 ?l39 ?c39 ?k39 ?a40 ?l40 ?c40 ?k40 ?a41 ?l41 ?c41 ?k41 ?a42 ?l42 ?c42 ?k42 ?a43 ?l43 ?c43 ?k43 ?a44 ?l44 ?c44 ?k44 ?a45 ?l45 ?c45 ?k45 ?a46 ?l46 ?c46 ?k46 ?a47 ?l47 ?c47 ?k47 ?a48 ?l48 ?c48 ?k48 ?z1 ?z2 ?z3 ?z4 ?z5 ?z6 ?z7 ?z8 ?z9 ?z10 ?z11 ?z12 ?z13 ?z14 ?z15 ?z16 ?z17 ?z18 ?z19 ?z20 ?z21 ?zd
    (case aCHeap => first | k_is | kit_is | rfl | decide +kernel); (case pgHeap => first | k_is | kit_is | rfl | decide +kernel); (case hdHeap => first | k_is | kit_is | rfl | decide +kernel); (case poHeap => first | k_is | kit_is | rfl | decide +kernel); (case saHeap => first | k_is | kit_is | rfl | decide +kernel); (case mkHeap => first | k_is | kit_is | rfl | decide +kernel); (case kcHeap => first | k_is | kit_is | rfl | decide +kernel); (case naHeap_chain => first | k_is | kit_is | rfl | decide +kernel); (case naHeap_pages => first | k_is | kit_is | rfl | decide +kernel); (case naHeap_limit => first | k_is | kit_is | rfl | decide +kernel); (case naHeap_rule => first | k_is | kit_is | rfl | decide +kernel); (case naHeap_blocks => first | k_is | kit_is | rfl | decide +kernel); (case naHeap_steps => first | k_is | kit_is | rfl | decide +kernel); (case aCHeapError => first | k_is | kit_is | rfl | decide +kernel); (case aCBadSize => first | k_is | kit_is | rfl | decide +kernel); (case aCOverLimit => first | k_is | kit_is | rfl | decide +kernel); (case aCBadPlace => first | k_is | kit_is | rfl | decide +kernel); (case aCNoBlock => first | k_is | kit_is | rfl | decide +kernel); (case aCBadEvent => first | k_is | kit_is | rfl | decide +kernel); (case bxH => first | k_is | kit_is | rfl | decide +kernel); (case hdH => first | k_is | kit_is | rfl | decide +kernel); (case tyH => first | k_is | kit_is | rfl | decide +kernel); (case zve => first | k_is | kit_is | rfl | decide +kernel); (case cgX => first | k_is | kit_is | rfl | decide +kernel); (case ctX => first | k_is | kit_is | rfl | decide +kernel); (case xLBadSize => first | k_is | kit_is | rfl | decide +kernel); (case saBadSize => first | k_is | kit_is | rfl | decide +kernel); (case bxBadSize => first | k_is | kit_is | rfl | decide +kernel); (case tyBadSize => first | k_is | kit_is | rfl | decide +kernel); (case kpBadSize => first | k_is | kit_is | rfl | decide +kernel); (case gaBadSize => first | k_is | kit_is | rfl | decide +kernel); (case ggBadSize => first | k_is | kit_is | rfl | decide +kernel); (case hdBadSize => first | k_is | kit_is | rfl | decide +kernel); (case caBadSize => first | k_is | kit_is | rfl | decide +kernel); (case moBadSize => first | k_is | kit_is | rfl | decide +kernel); (case sHBadSize => first | k_is | kit_is | rfl | decide +kernel); (case isBadSize_ValueError => first | k_is | kit_is | rfl | decide +kernel); (case nfBadSize_size => first | k_is | kit_is | rfl | decide +kernel); (case isBadSize_HeapError => first | k_is | kit_is | rfl | decide +kernel); (case isBadSize_BadSize => first | k_is | kit_is | rfl | decide +kernel); (case isBadSize_OverLimit => first | k_is | kit_is | rfl | decide +kernel); (case isBadSize_BadPlace => first | k_is | kit_is | rfl | decide +kernel); (case isBadSize_NoBlock => first | k_is | kit_is | rfl | decide +kernel); (case isBadSize_BadEvent => first | k_is | kit_is | rfl | decide +kernel); (case ssBadSize_BadSize => first | k_is | kit_is | rfl | decide +kernel); (case xLOverLimit => first | k_is | kit_is | rfl | decide +kernel); (case saOverLimit => first | k_is | kit_is | rfl | decide +kernel); (case bxOverLimit => first | k_is | kit_is | rfl | decide +kernel); (case tyOverLimit => first | k_is | kit_is | rfl | decide +kernel); (case kpOverLimit => first | k_is | kit_is | rfl | decide +kernel); (case gaOverLimit => first | k_is | kit_is | rfl | decide +kernel); (case ggOverLimit => first | k_is | kit_is | rfl | decide +kernel); (case hdOverLimit => first | k_is | kit_is | rfl | decide +kernel); (case caOverLimit => first | k_is | kit_is | rfl | decide +kernel); (case moOverLimit => first | k_is | kit_is | rfl | decide +kernel); (case sHOverLimit => first | k_is | kit_is | rfl | decide +kernel); (case isOverLimit_ValueError => first | k_is | kit_is | rfl | decide +kernel); (case nfOverLimit_size => first | k_is | kit_is | rfl | decide +kernel); (case isOverLimit_HeapError => first | k_is | kit_is | rfl | decide +kernel); (case isOverLimit_BadSize => first | k_is | kit_is | rfl | decide +kernel); (case isOverLimit_OverLimit => first | k_is | kit_is | rfl | decide +kernel); (case isOverLimit_BadPlace => first | k_is | kit_is | rfl | decide +kernel); (case isOverLimit_NoBlock => first | k_is | kit_is | rfl | decide +kernel); (case isOverLimit_BadEvent => first | k_is | kit_is | rfl | decide +kernel); (case ssOverLimit_OverLimit => first | k_is | kit_is | rfl | decide +kernel); (case xLBadPlace => first | k_is | kit_is | rfl | decide +kernel); (case saBadPlace => first | k_is | kit_is | rfl | decide +kernel); (case bxBadPlace => first | k_is | kit_is | rfl | decide +kernel); (case tyBadPlace => first | k_is | kit_is | rfl | decide +kernel); (case kpBadPlace => first | k_is | kit_is | rfl | decide +kernel); (case gaBadPlace => first | k_is | kit_is | rfl | decide +kernel); (case ggBadPlace => first | k_is | kit_is | rfl | decide +kernel); (case hdBadPlace => first | k_is | kit_is | rfl | decide +kernel); (case caBadPlace => first | k_is | kit_is | rfl | decide +kernel); (case moBadPlace => first | k_is | kit_is | rfl | decide +kernel); (case sHBadPlace => first | k_is | kit_is | rfl | decide +kernel); (case isBadPlace_ValueError => first | k_is | kit_is | rfl | decide +kernel); (case nfBadPlace_address => first | k_is | kit_is | rfl | decide +kernel); (case isBadPlace_HeapError => first | k_is | kit_is | rfl | decide +kernel); (case isBadPlace_BadSize => first | k_is | kit_is | rfl | decide +kernel); (case isBadPlace_OverLimit => first | k_is | kit_is | rfl | decide +kernel); (case isBadPlace_BadPlace => first | k_is | kit_is | rfl | decide +kernel); (case isBadPlace_NoBlock => first | k_is | kit_is | rfl | decide +kernel); (case isBadPlace_BadEvent => first | k_is | kit_is | rfl | decide +kernel); (case ssBadPlace_BadPlace => first | k_is | kit_is | rfl | decide +kernel); (case xLNoBlock => first | k_is | kit_is | rfl | decide +kernel); (case saNoBlock => first | k_is | kit_is | rfl | decide +kernel); (case bxNoBlock => first | k_is | kit_is | rfl | decide +kernel); (case tyNoBlock => first | k_is | kit_is | rfl | decide +kernel); (case kpNoBlock => first | k_is | kit_is | rfl | decide +kernel); (case gaNoBlock => first | k_is | kit_is | rfl | decide +kernel); (case ggNoBlock => first | k_is | kit_is | rfl | decide +kernel); (case hdNoBlock => first | k_is | kit_is | rfl | decide +kernel); (case caNoBlock => first | k_is | kit_is | rfl | decide +kernel); (case moNoBlock => first | k_is | kit_is | rfl | decide +kernel); (case sHNoBlock => first | k_is | kit_is | rfl | decide +kernel); (case isNoBlock_ValueError => first | k_is | kit_is | rfl | decide +kernel); (case nfNoBlock_address => first | k_is | kit_is | rfl | decide +kernel); (case isNoBlock_HeapError => first | k_is | kit_is | rfl | decide +kernel); (case isNoBlock_BadSize => first | k_is | kit_is | rfl | decide +kernel); (case isNoBlock_OverLimit => first | k_is | kit_is | rfl | decide +kernel); (case isNoBlock_BadPlace => first | k_is | kit_is | rfl | decide +kernel); (case isNoBlock_NoBlock => first | k_is | kit_is | rfl | decide +kernel); (case isNoBlock_BadEvent => first | k_is | kit_is | rfl | decide +kernel); (case ssNoBlock_NoBlock => first | k_is | kit_is | rfl | decide +kernel); (case xLBadEvent => first | k_is | kit_is | rfl | decide +kernel); (case saBadEvent => first | k_is | kit_is | rfl | decide +kernel); (case bxBadEvent => first | k_is | kit_is | rfl | decide +kernel); (case tyBadEvent => first | k_is | kit_is | rfl | decide +kernel); (case kpBadEvent => first | k_is | kit_is | rfl | decide +kernel); (case gaBadEvent => first | k_is | kit_is | rfl | decide +kernel); (case ggBadEvent => first | k_is | kit_is | rfl | decide +kernel); (case hdBadEvent => first | k_is | kit_is | rfl | decide +kernel); (case caBadEvent => first | k_is | kit_is | rfl | decide +kernel); (case moBadEvent => first | k_is | kit_is | rfl | decide +kernel); (case sHBadEvent => first | k_is | kit_is | rfl | decide +kernel); (case isBadEvent_ValueError => first | k_is | kit_is | rfl | decide +kernel); (case nfBadEvent_number => first | k_is | kit_is | rfl | decide +kernel); (case isBadEvent_HeapError => first | k_is | kit_is | rfl | decide +kernel); (case isBadEvent_BadSize => first | k_is | kit_is | rfl | decide +kernel); (case isBadEvent_OverLimit => first | k_is | kit_is | rfl | decide +kernel); (case isBadEvent_BadPlace => first | k_is | kit_is | rfl | decide +kernel); (case isBadEvent_NoBlock => first | k_is | kit_is | rfl | decide +kernel); (case isBadEvent_BadEvent => first | k_is | kit_is | rfl | decide +kernel); (case ssBadEvent_BadEvent => first | k_is | kit_is | rfl | decide +kernel); (case v_MOST_SIZES => first | k_is | kit_is | rfl | decide +kernel); (case v_LARGEST_SIZE => first | k_is | kit_is | rfl | decide +kernel); (case v_RULES => first | k_is | kit_is | rfl | decide +kernel); (case l_RULES => first | k_is | kit_is | rfl | decide +kernel); (case a1 => first | k_is | kit_is | rfl | decide +kernel); (case i1 => first | k_is | kit_is | rfl | decide +kernel); (case l1 => first | k_is | kit_is | rfl | decide +kernel); (case c1 => first | k_is | kit_is | rfl | decide +kernel); (case k1 => first | k_is | kit_is | rfl | decide +kernel); (case a2 => first | k_is | kit_is | rfl | decide +kernel); (case i2 => first | k_is | kit_is | rfl | decide +kernel); (case l2 => first | k_is | kit_is | rfl | decide +kernel); (case c2 => first | k_is | kit_is | rfl | decide +kernel); (case k2 => first | k_is | kit_is | rfl | decide +kernel); (case a3 => first | k_is | kit_is | rfl | decide +kernel); (case i3 => first | k_is | kit_is | rfl | decide +kernel); (case l3 => first | k_is | kit_is | rfl | decide +kernel); (case c3 => first | k_is | kit_is | rfl | decide +kernel); (case k3 => first | k_is | kit_is | rfl | decide +kernel); (case a4 => first | k_is | kit_is | rfl | decide +kernel); (case i4 => first | k_is | kit_is | rfl | decide +kernel); (case l4 => first | k_is | kit_is | rfl | decide +kernel); (case c4 => first | k_is | kit_is | rfl | decide +kernel); (case k4 => first | k_is | kit_is | rfl | decide +kernel); (case a5 => first | k_is | kit_is | rfl | decide +kernel); (case i5 => first | k_is | kit_is | rfl | decide +kernel); (case l5 => first | k_is | kit_is | rfl | decide +kernel); (case c5 => first | k_is | kit_is | rfl | decide +kernel); (case k5 => first | k_is | kit_is | rfl | decide +kernel); (case a6 => first | k_is | kit_is | rfl | decide +kernel); (case l6 => first | k_is | kit_is | rfl | decide +kernel); (case c6 => first | k_is | kit_is | rfl | decide +kernel); (case k6 => first | k_is | kit_is | rfl | decide +kernel); (case a7 => first | k_is | kit_is | rfl | decide +kernel); (case l7 => first | k_is | kit_is | rfl | decide +kernel); (case c7 => first | k_is | kit_is | rfl | decide +kernel); (case k7 => first | k_is | kit_is | rfl | decide +kernel); (case a8 => first | k_is | kit_is | rfl | decide +kernel); (case l8 => first | k_is | kit_is | rfl | decide +kernel); (case c8 => first | k_is | kit_is | rfl | decide +kernel); (case k8 => first | k_is | kit_is | rfl | decide +kernel); (case a9 => first | k_is | kit_is | rfl | decide +kernel); (case l9 => first | k_is | kit_is | rfl | decide +kernel); (case c9 => first | k_is | kit_is | rfl | decide +kernel); (case k9 => first | k_is | kit_is | rfl | decide +kernel); (case a10 => first | k_is | kit_is | rfl | decide +kernel); (case l10 => first | k_is | kit_is | rfl | decide +kernel); (case c10 => first | k_is | kit_is | rfl | decide +kernel); (case k10 => first | k_is | kit_is | rfl | decide +kernel); (case a11 => first | k_is | kit_is | rfl | decide +kernel); (case l11 => first | k_is | kit_is | rfl | decide +kernel); (case c11 => first | k_is | kit_is | rfl | decide +kernel); (case k11 => first | k_is | kit_is | rfl | decide +kernel); (case a12 => first | k_is | kit_is | rfl | decide +kernel); (case l12 => first | k_is | kit_is | rfl | decide +kernel); (case c12 => first | k_is | kit_is | rfl | decide +kernel); (case k12 => first | k_is | kit_is | rfl | decide +kernel); (case a13 => first | k_is | kit_is | rfl | decide +kernel); (case l13 => first | k_is | kit_is | rfl | decide +kernel); (case c13 => first | k_is | kit_is | rfl | decide +kernel); (case k13 => first | k_is | kit_is | rfl | decide +kernel); (case a14 => first | k_is | kit_is | rfl | decide +kernel); (case l14 => first | k_is | kit_is | rfl | decide +kernel); (case c14 => first | k_is | kit_is | rfl | decide +kernel); (case k14 => first | k_is | kit_is | rfl | decide +kernel); (case a15 => first | k_is | kit_is | rfl | decide +kernel); (case l15 => first | k_is | kit_is | rfl | decide +kernel); (case c15 => first | k_is | kit_is | rfl | decide +kernel); (case k15 => first | k_is | kit_is | rfl | decide +kernel); (case a16 => first | k_is | kit_is | rfl | decide +kernel); (case l16 => first | k_is | kit_is | rfl | decide +kernel); (case c16 => first | k_is | kit_is | rfl | decide +kernel); (case k16 => first | k_is | kit_is | rfl | decide +kernel); (case a17 => first | k_is | kit_is | rfl | decide +kernel); (case l17 => first | k_is | kit_is | rfl | decide +kernel); (case c17 => first | k_is | kit_is | rfl | decide +kernel); (case k17 => first | k_is | kit_is | rfl | decide +kernel); (case a18 => first | k_is | kit_is | rfl | decide +kernel); (case l18 => first | k_is | kit_is | rfl | decide +kernel); (case c18 => first | k_is | kit_is | rfl | decide +kernel); (case k18 => first | k_is | kit_is | rfl | decide +kernel); (case a19 => first | k_is | kit_is | rfl | decide +kernel); (case l19 => first | k_is | kit_is | rfl | decide +kernel); (case c19 => first | k_is | kit_is | rfl | decide +kernel); (case k19 => first | k_is | kit_is | rfl | decide +kernel); (case a20 => first | k_is | kit_is | rfl | decide +kernel); (case l20 => first | k_is | kit_is | rfl | decide +kernel); (case c20 => first | k_is | kit_is | rfl | decide +kernel); (case k20 => first | k_is | kit_is | rfl | decide +kernel); (case a21 => first | k_is | kit_is | rfl | decide +kernel); (case i21 => first | k_is | kit_is | rfl | decide +kernel); (case l21 => first | k_is | kit_is | rfl | decide +kernel); (case c21 => first | k_is | kit_is | rfl | decide +kernel); (case k21 => first | k_is | kit_is | rfl | decide +kernel); (case d21_rule => first | k_is | kit_is | rfl | decide +kernel); (case a22 => first | k_is | kit_is | rfl | decide +kernel); (case i22 => first | k_is | kit_is | rfl | decide +kernel); (case l22 => first | k_is | kit_is | rfl | decide +kernel); (case c22 => first | k_is | kit_is | rfl | decide +kernel); (case k22 => first | k_is | kit_is | rfl | decide +kernel); (case a23 => first | k_is | kit_is | rfl | decide +kernel); (case i23 => first | k_is | kit_is | rfl | decide +kernel); (case l23 => first | k_is | kit_is | rfl | decide +kernel); (case c23 => first | k_is | kit_is | rfl | decide +kernel); (case k23 => first | k_is | kit_is | rfl | decide +kernel); (case a24 => first | k_is | kit_is | rfl | decide +kernel); (case i24 => first | k_is | kit_is | rfl | decide +kernel); (case l24 => first | k_is | kit_is | rfl | decide +kernel); (case c24 => first | k_is | kit_is | rfl | decide +kernel); (case k24 => first | k_is | kit_is | rfl | decide +kernel); (case a25 => first | k_is | kit_is | rfl | decide +kernel); (case i25 => first | k_is | kit_is | rfl | decide +kernel); (case l25 => first | k_is | kit_is | rfl | decide +kernel); (case c25 => first | k_is | kit_is | rfl | decide +kernel); (case k25 => first | k_is | kit_is | rfl | decide +kernel); (case a26 => first | k_is | kit_is | rfl | decide +kernel); (case i26 => first | k_is | kit_is | rfl | decide +kernel); (case l26 => first | k_is | kit_is | rfl | decide +kernel); (case c26 => first | k_is | kit_is | rfl | decide +kernel); (case k26 => first | k_is | kit_is | rfl | decide +kernel); (case a27 => first | k_is | kit_is | rfl | decide +kernel); (case i27 => first | k_is | kit_is | rfl | decide +kernel); (case l27 => first | k_is | kit_is | rfl | decide +kernel); (case c27 => first | k_is | kit_is | rfl | decide +kernel); (case k27 => first | k_is | kit_is | rfl | decide +kernel); (case a28 => first | k_is | kit_is | rfl | decide +kernel); (case l28 => first | k_is | kit_is | rfl | decide +kernel); (case c28 => first | k_is | kit_is | rfl | decide +kernel); (case k28 => first | k_is | kit_is | rfl | decide +kernel); (case a29 => first | k_is | kit_is | rfl | decide +kernel); (case l29 => first | k_is | kit_is | rfl | decide +kernel); (case c29 => first | k_is | kit_is | rfl | decide +kernel); (case k29 => first | k_is | kit_is | rfl | decide +kernel); (case a30 => first | k_is | kit_is | rfl | decide +kernel); (case l30 => first | k_is | kit_is | rfl | decide +kernel); (case c30 => first | k_is | kit_is | rfl | decide +kernel); (case k30 => first | k_is | kit_is | rfl | decide +kernel); (case a31 => first | k_is | kit_is | rfl | decide +kernel); (case l31 => first | k_is | kit_is | rfl | decide +kernel); (case c31 => first | k_is | kit_is | rfl | decide +kernel); (case k31 => first | k_is | kit_is | rfl | decide +kernel); (case a32 => first | k_is | kit_is | rfl | decide +kernel); (case l32 => first | k_is | kit_is | rfl | decide +kernel); (case c32 => first | k_is | kit_is | rfl | decide +kernel); (case k32 => first | k_is | kit_is | rfl | decide +kernel); (case a33 => first | k_is | kit_is | rfl | decide +kernel); (case l33 => first | k_is | kit_is | rfl | decide +kernel); (case c33 => first | k_is | kit_is | rfl | decide +kernel); (case k33 => first | k_is | kit_is | rfl | decide +kernel); (case a34 => first | k_is | kit_is | rfl | decide +kernel); (case l34 => first | k_is | kit_is | rfl | decide +kernel); (case c34 => first | k_is | kit_is | rfl | decide +kernel); (case k34 => first | k_is | kit_is | rfl | decide +kernel); (case a35 => first | k_is | kit_is | rfl | decide +kernel); (case l35 => first | k_is | kit_is | rfl | decide +kernel); (case c35 => first | k_is | kit_is | rfl | decide +kernel); (case k35 => first | k_is | kit_is | rfl | decide +kernel); (case a36 => first | k_is | kit_is | rfl | decide +kernel); (case l36 => first | k_is | kit_is | rfl | decide +kernel); (case c36 => first | k_is | kit_is | rfl | decide +kernel); (case k36 => first | k_is | kit_is | rfl | decide +kernel); (case a37 => first | k_is | kit_is | rfl | decide +kernel); (case l37 => first | k_is | kit_is | rfl | decide +kernel); (case c37 => first | k_is | kit_is | rfl | decide +kernel); (case k37 => first | k_is | kit_is | rfl | decide +kernel); (case a38 => first | k_is | kit_is | rfl | decide +kernel); (case l38 => first | k_is | kit_is | rfl | decide +kernel); (case c38 => first | k_is | kit_is | rfl | decide +kernel); (case k38 => first | k_is | kit_is | rfl | decide +kernel); (case a39 => first | k_is | kit_is | rfl | decide +kernel); (case l39 => first | k_is | kit_is | rfl | decide +kernel); (case c39 => first | k_is | kit_is | rfl | decide +kernel); (case k39 => first | k_is | kit_is | rfl | decide +kernel); (case a40 => first | k_is | kit_is | rfl | decide +kernel); (case l40 => first | k_is | kit_is | rfl | decide +kernel); (case c40 => first | k_is | kit_is | rfl | decide +kernel); (case k40 => first | k_is | kit_is | rfl | decide +kernel); (case a41 => first | k_is | kit_is | rfl | decide +kernel); (case l41 => first | k_is | kit_is | rfl | decide +kernel); (case c41 => first | k_is | kit_is | rfl | decide +kernel); (case k41 => first | k_is | kit_is | rfl | decide +kernel); (case a42 => first | k_is | kit_is | rfl | decide +kernel); (case l42 => first | k_is | kit_is | rfl | decide +kernel); (case c42 => first | k_is | kit_is | rfl | decide +kernel); (case k42 => first | k_is | kit_is | rfl | decide +kernel); (case a43 => first | k_is | kit_is | rfl | decide +kernel); (case l43 => first | k_is | kit_is | rfl | decide +kernel); (case c43 => first | k_is | kit_is | rfl | decide +kernel); (case k43 => first | k_is | kit_is | rfl | decide +kernel); (case a44 => first | k_is | kit_is | rfl | decide +kernel); (case l44 => first | k_is | kit_is | rfl | decide +kernel); (case c44 => first | k_is | kit_is | rfl | decide +kernel); (case k44 => first | k_is | kit_is | rfl | decide +kernel); (case a45 => first | k_is | kit_is | rfl | decide +kernel); (case l45 => first | k_is | kit_is | rfl | decide +kernel); (case c45 => first | k_is | kit_is | rfl | decide +kernel); (case k45 => first | k_is | kit_is | rfl | decide +kernel); (case a46 => first | k_is | kit_is | rfl | decide +kernel); (case l46 => first | k_is | kit_is | rfl | decide +kernel); (case c46 => first | k_is | kit_is | rfl | decide +kernel); (case k46 => first | k_is | kit_is | rfl | decide +kernel); (case a47 => first | k_is | kit_is | rfl | decide +kernel); (case l47 => first | k_is | kit_is | rfl | decide +kernel); (case c47 => first | k_is | kit_is | rfl | decide +kernel); (case k47 => first | k_is | kit_is | rfl | decide +kernel); (case a48 => first | k_is | kit_is | rfl | decide +kernel); (case l48 => first | k_is | kit_is | rfl | decide +kernel); (case c48 => first | k_is | kit_is | rfl | decide +kernel); (case k48 => first | k_is | kit_is | rfl | decide +kernel); (case z1 => first | k_is | kit_is | rfl | decide +kernel); (case z2 => first | k_is | kit_is | rfl | decide +kernel); (case z3 => first | k_is | kit_is | rfl | decide +kernel); (case z4 => first | k_is | kit_is | rfl | decide +kernel); (case z5 => first | k_is | kit_is | rfl | decide +kernel); (case z6 => first | k_is | kit_is | rfl | decide +kernel); (case z7 => first | k_is | kit_is | rfl | decide +kernel); (case z8 => first | k_is | kit_is | rfl | decide +kernel); (case z9 => first | k_is | kit_is | rfl | decide +kernel); (case z10 => first | k_is | kit_is | rfl | decide +kernel); (case z11 => first | k_is | kit_is | rfl | decide +kernel); (case z12 => first | k_is | kit_is | rfl | decide +kernel); (case z13 => first | k_is | kit_is | rfl | decide +kernel); (case z14 => first | k_is | kit_is | rfl | decide +kernel); (case z15 => first | k_is | kit_is | rfl | decide +kernel); (case z16 => first | k_is | kit_is | rfl | decide +kernel); (case z17 => first | k_is | kit_is | rfl | decide +kernel); (case z18 => first | k_is | kit_is | rfl | decide +kernel); (case z19 => first | k_is | kit_is | rfl | decide +kernel); (case z20 => first | k_is | kit_is | rfl | decide +kernel); (case z21 => first | k_is | kit_is | rfl | decide +kernel); (case zd => first | k_is | kit_is | rfl | decide +kernel)
