import PyProof.Rows.All
import Wide.All
import OpenK.AllK
import Wide.FinOn
import HandS.ForMost
import HandS.SetFor
import HandS.Strs
import HandS.SortInts
import HandS.Conv
import KE.KDictSum
import HandS.ForExc
import HandS.Wide
import HandS.Zip
import HandS.TupAny
import HandS.RaiseMore
import HandS.IsInst
import KE.KIntText
import HandS.SortRule
import HandS.SortKw
import HandS.Star
import KE.DataMinMax
import HandS.SetBool
import HandS.Walk
import KE.GoesEnum
import HandS.TupLe
import HandS.Deep
import PyProof.P3In
import PyProof.ReprRoads
import PyProof.ReprLen
import KE.DatumOrd
import KE.KTupSum
import HandS.Sort
import KE.KDictList
import HandS.Small
import PySem.Challenge.RW_pinnedheap_k26_whole_bounds_are_reached
set_option Elab.async false
set_option linter.all false
set_option maxRecDepth 100000
namespace Ph
open PySem PySem.Spec PyProof.Rows L2
/-! ### set(list of ints): the members, any number of them below the line -/
abbrev sob (w : World) : Obj := { cls := .type "set", dict := none, data := .set #[] 0 (.fresh 0 0 (!w.params.followText "set-order")) }
section
variable {P : Program} {w : World} {A : Around} {E : Value → Shared → Prop} {s : Shared}
set_option maxHeartbeats 4000000 in
theorem set_of_list {l : Addr} {its : Array Value} (ns : List Int) {Q : Value → Shared → Prop} (calm : A.handled = none) (isl : s.heap.IsList l its) (ints0 : IntsAre its.toList ns) (few : ns.length + 1 < scanBound)
    (q : ∀ (g : Heap) (tk c : Nat), SetR w g s.heap.objs.size (fun j => decide (j ∈ ns)) c → c ≤ ns.length → (∀ b u, s.heap.get? b = some u → g.get? b = some u) → Q (.ref s.heap.objs.size) { s with heap := g, toks := tk }) :
    wpAny (model P w) A (call (.type "set") [.ref l]) Q E s := by
  have size : its.size = ns.length := by rw [← Array.length_toList]; exact IntsAre.length ints0
  have y1 := F.called_set.made
  have y2 := F.called_set.sub
  have y3 := F.called_set.notType
  have y4 := F.called_set.canCreate
  have y5 := F.typeCall_set_1 (.ref l)
  obtain ⟨c0, tl, y6⟩ := F.called_set.mro
  refine wpAny_call (codeAny_of_tree ?_)
  show wpAny (model P w) _ (callAny (.type "set") ⟨[.ref l], []⟩) _ _ s
  refine wpAny_pure ⟨Code.quiet_builtin _ (by decide +kernel), codeAny_builtin F.entry_type_call ?_⟩; rw [Around.under_plain (weight_type_call_type "set" [.ref l] []) rfl]
  repeat (any_goals (first | assumption | wp_step))
  refine codeAny_mono (code_set_led1 (.ref l) (E := E) (Q₁ := fun z t => z = .ref s.heap.objs.size ∧ t = { s with heap := s.heap.push (sob w) }) ⟨rfl, rfl⟩) fun r s₁ hr => ?_
  match r, hr with
  | .error e, hr => exact hr
  | .ok (.ret z), hr =>
    obtain ⟨rfl, rfl⟩ := hr
    have at0 : (s.heap.push (sob w)).get? s.heap.objs.size = some (sob w) := Heap.get?_push_size _ rfl
    have ty0 : Shared.TypeIs { s with heap := s.heap.push (sob w) } (.ref s.heap.objs.size) "set" := ⟨_, at0, rfl⟩
    have y7 := F.called_set.init.lookup
    have y8 := F.called_set.init.bind (.ref s.heap.objs.size)
    repeat (any_goals (first | assumption | wp_step))
    refine codeAny_mono (codeAny_call_builtin (R := wants (fun r t => r = .none ∧ ∃ g tk c, t = { s with heap := g, toks := tk } ∧ SetR w g s.heap.objs.size (fun j => decide (j ∈ ns)) c ∧ c ≤ ns.length ∧ (∀ b u, s.heap.get? b = some u → g.get? b = some u)) E)
      F.called_set.init.plain F.entry_set_init (check_set_init_1 ty0 ?_)) fun r₂ s₂ hr₂ => ?_
    · obtain ⟨⟨oc, od, dt, os⟩, hol, ec, nl, ed⟩ := isl
      cases ec; cases ed
      have hol1 : (s.heap.push (sob w)).get? l = some { cls := .type "list", dict := od, data := .seq its nl, slots := os } := Heap.get?_push_of_some _ hol
      have y9 := F.sub_list_set
      have y10 := F.sub_list_frozenset
      have y11 : (Value.type "list" == Value.type "dict") = false := by decide
      have isl1 : (s.heap.push (sob w)).IsList l its := ⟨_, hol1, rfl, nl, rfl⟩
      unfold Builtin.«set.__init__» noKeywords Builtin.Frozenset.updateFrom
      generalize hPI : pyIter = PI; wp_walk; subst hPI
      refine wpAny_pyIter_list isl1 (wpAny_bind (wpAny_runValue ?_))
      have lS : l < s.heap.objs.size := Heap.lt_size hol
      have sz1 : (s.heap.push (sob w)).objs.size = s.heap.objs.size + 1 := Heap.size_push ..
      have calm3 : A.in1.in1.in1.handled = none := by simp [calm]
      refine set_update_ints ((Walks.list calm3 (s.heap.push (sob w)).objs.size l (by rw [sz1]; exact Nat.ne_of_lt (Nat.lt_succ_of_lt lS)) its).toS) s.heap.objs.size ?_ ns size few ?_ (its.size - 0) 0 _ (by omega) (Nat.zero_le _) ⟨⟨_, Heap.get?_push_size _ rfl, rfl, rfl⟩, isl1.push _⟩ ?_ ?_
      · rw [sz1]
        intro z
        rcases List.mem_cons.mp z with e | e
        · exact Nat.ne_of_lt (Nat.lt_succ_self _) e
        · exact Nat.ne_of_gt lS (List.mem_singleton.mp e)
      · intro i v hv
        have hi : i < ns.length := by rw [← size]; exact (Array.getElem?_eq_some_iff.mp hv).1
        obtain ⟨t, e⟩ := PyProof.Rows.IntsAre.int_at ints0 i v (by rw [Array.getElem?_toList]; exact hv)
        exact ⟨ns[i], t, List.getElem?_eq_getElem hi, by rw [e, List.getD_eq_getElem?_getD, List.getElem?_eq_getElem hi]; rfl⟩
      · exact ⟨0, Nat.le_refl 0, setR_new_at (Heap.get?_push_of_some _ at0)⟩
      · rintro ⟨g, g2, d', tk', os'⟩ c hm hc hS
        cases (show g2 = s.gens from hm.gens)
        cases (show d' = s.drawn from hm.drawn)
        cases (show os' = s.os from hm.os)
        rw [size] at hc
        show wpAny _ _ _ _ _ _
        refine wpAny_pure ?_
        show wpAny _ _ (ret Value.none) _ _ _
        refine wpAny_pure ⟨rfl, g, tk', c, rfl, hS, hc, fun b u e => hm.heap b u (fun z => ?_) (Heap.get?_push_of_some _ (Heap.get?_push_of_some _ e))⟩
        have hb := Heap.lt_size e
        rw [sz1] at z
        rcases List.mem_cons.mp z with e | e
        · exact Nat.ne_of_lt hb e
        · exact Nat.ne_of_lt (Nat.lt_succ_of_lt hb) (List.mem_singleton.mp e)
    · match r₂, hr₂ with
      | .error e, h => exact h
      | .ok (.ret r), h =>
        obtain ⟨rfl, g, tk, c, rfl, h1, h2, h3⟩ := h
        repeat (any_goals (first | assumption | wp_step))
        exact q _ _ _ h1 h2 h3
      | .ok .next, h => exact h.elim
end
section
variable {X : Cx}
/-- set(xs), xs a list of ints -/
def rSetI (K : PySem.W.Frag) (w : World) : List V → Hp → VK → Prop := fun vs H Q => ∃ (l : Addr) (ns : List Int), vs = [V.ref l] ∧ SqL K H l (ns.map V.int) ∧ ns.length + 1 < scanBound ∧
  ∀ a c, H a = none → (ns.Nodup → c = ns.length) → Q (.ref a) (upd H a (SetO w a (fun j => decide (j ∈ ns)) c))
theorem cr_setI (hc : X.calm = true) : CallR X (.type "set") (rSetI X.K X.w) := by
  intro pins s σ H vs us Q I r h
  obtain ⟨l, ns, rfl, hl, few, q⟩ := h
  obtain ⟨its, rv, pl, hz⟩ := I.list hl
  rw [Vals.ref1 r]
  refine set_of_list ns (I.ok.hd hc) pl.isList (by simpa using rv.ints) few fun g tk c R _ k => ?_
  refine ⟨.ref _, upd H s.heap.objs.size (SetO X.w s.heap.objs.size (fun j => decide (j ∈ ns)) c), I.laid (t' := tk) k (Nat.le_refl _) (setO_new R), rfl, q _ _ (I.hok.fresh (Nat.le_refl _)) fun nd => ?_⟩
  obtain ⟨o, es, ep, t, ho, hex, hd, good, nd2, mem, _, _, hn, _⟩ := R
  have pm : (es.toList.map keyOf).Perm ns := (List.perm_ext_iff_of_nodup nd2 nd).mpr fun k => by rw [← mem k]; exact decide_eq_true_iff
  rw [← hn, ← pm.length_eq, List.length_map, Array.length_toList]
end
end Ph

namespace Ph
open PySem PySem.Spec PyProof.Rows L2
section
variable {P : Program} {w : World} {A : Around} {E : Value → Shared → Prop} {s : Shared}
/-- sorted(set of ints), any number of members -/
theorem sorted_of_set {a : Addr} {S : Int → Bool} {n : Nat} {Q : Value → Shared → Prop} (R : SetR w s.heap a S n) (calm : A.handled = none)
    (q : ∀ t p (out : Array Value) (c : Nat) (ns : List Int), (∀ b u, s.heap.get? b = some u → t.heap.get? b = some u) → t.gens = s.gens → t.os = s.os → s.heap.objs.size ≤ p → t.heap.get? p = some (seqObj "list" out c) → IntsAre out.toList ns → ns.Pairwise (· < ·) → (∀ k, k ∈ ns ↔ S k = true) → ns.length = n → Q (.ref p) t) :
    wpAny (model P w) A (call (.builtin "sorted") [.ref a]) Q E s := by
  obtain ⟨o, es, ep, t, ho, hex, hd, good, nd, mem, few, fits, hn, ris, led⟩ := R
  refine Calls.call_function_entry kind_sorted plain_sorted entry_sorted (args_sorted1 _) ?_; unfold Builtin.«sorted»
  refine wpAny_bind (m := checkCount "sorted" 1 1 _) (wpAny_pure (wpAny_bind (collect_set (A := A.in1) calm ⟨o, ho, hex.1, hd⟩ fits few ris led fun s1 vs k1 hz g1 o1 pm => ?_)))
  have lenv : vs.length = n := by rw [pm.length_eq, List.length_map, Array.length_toList]; exact hn
  have bound : vs.length ≤ sizeLine := by rw [lenv, ← hn]; exact Nat.le_trans (Nat.le_of_lt few) (by decide +kernel)
  have isI : ∀ v ∈ vs, ∃ k tk, v = Value.int k tk := fun v hv => by
    obtain ⟨e, he, q1⟩ := List.mem_map.mp (pm.mem_iff.mp hv)
    obtain ⟨k, tk, h1, _⟩ := good e he
    exact ⟨k, tk, q1 ▸ h1⟩
  have hI := SrtO.ints_iv isI
  have keys : (vs.map SrtO.iv).Perm (es.toList.map keyOf) := by
    have z := pm.map SrtO.iv
    rw [List.map_map] at z
    refine z.trans (List.Perm.of_eq (List.map_congr_left fun e he => ?_))
    obtain ⟨k, tk, h1, h2⟩ := good e he
    show SrtO.iv e.2 = keyOf e
    rw [key_vInt, h1]
    rfl
  refine wpAny_bind (wpAny_newList ?_ bound)
  have at1 : (s1.heap.push (seqObj "list" vs.toArray 0)).get? s1.heap.objs.size = some (seqObj "list" vs.toArray 0) := Heap.get?_push_size _ rfl
  refine wpAny_bind (wpAny_holding (wpAny_call_entry slot_list_sort ⟨_, at1, rfl⟩ entry_list_sort (SrtO.list_sort_ord SrtO.swo_int at1 bound (fun h2 => SrtO.ints_sortable hI h2) fun out b1 b2 => ⟨_, rfl, ?_⟩) (args_list_sort _)))
  obtain ⟨k2, k3, k4⟩ := SrtO.ints_out hI b1 b2
  obtain ⟨c, hc⟩ := sortedHeap_at (vs := vs) (out := out.toArray) at1
  have pn := k3.trans keys
  refine wpAny_pure ⟨_, rfl, q _ s1.heap.objs.size out.toArray c (out.map SrtO.iv) (fun b u e => ?_) g1 o1 hz hc (by simpa using k2) (lt_of_le_nodup _ k4 (pn.nodup_iff.mpr nd)) (fun k => by rw [pn.mem_iff, ← mem k]) ?_⟩
  · have z := k1 b u e
    have lt := Heap.lt_size z
    show (sortedHeap (s1.heap.push (seqObj "list" vs.toArray 0)) s1.heap.objs.size vs out.toArray).get? b = some u
    rw [sortedHeap_old (Nat.ne_of_lt lt) (by rw [size_push']; exact Nat.lt_succ_of_lt lt)]
    exact Heap.get?_push_of_some _ z
  · rw [pn.length_eq, List.length_map, Array.length_toList]; exact hn
end
section
variable {X : Cx}
def rSortedS2 (w : World) : List V → Hp → VK → Prop := fun vs H Q => ∃ (a : Addr) (S : Int → Bool) (n : Nat), vs = [V.ref a] ∧ H a = some (SetO w a S n) ∧
  ∀ (ns : List Int) (p : Addr), ns.Pairwise (· < ·) → (∀ k : Int, k ∈ ns ↔ S k = true) → H p = none → Q (.ref p) (upd H p (.lst (ns.map V.int)))
theorem cr_sortedS2 (hc : X.calm = true) : CallR X (.builtin "sorted") (rSortedS2 X.w) := by
  intro pins s σ H vs us Q I r h
  obtain ⟨a, S, n, rfl, ha, q⟩ := h
  have R := setO_get I ha
  have few : n < scanBound := by
    obtain ⟨_, es, _, _, _, _, _, _, _, _, few, _, hn, _⟩ := R
    rw [← hn]; exact few
  rw [Vals.ref1 r]
  refine sorted_of_set R (I.ok.hd hc) fun t p out c ns k g o hp hg hi hs hm hl => ?_
  have len : (ns.map V.int).length ≤ sizeLine := by rw [List.length_map, hl]; exact Nat.le_trans (Nat.le_of_lt few) (by decide +kernel)
  have J : Inv X pins σ (upd H p (.lst (ns.map V.int))) { s with heap := t.heap, gens := t.gens, drawn := t.drawn, toks := t.toks } :=
    I.call (ch := []) (Un.laid k hp (I.hok.fresh hp)) (I.hok.laid k hp ⟨len, out.toList, c, vals_of_ints hi, hg⟩) (g ▸ I.bare) (fun _ z => nomatch z)
  have e : t = { s with heap := t.heap, gens := t.gens, drawn := t.drawn, toks := t.toks } := by
    obtain ⟨h1, h2, h3, h4, h5⟩ := t
    cases o
    rfl
  rw [e]
  exact ⟨.ref p, _, J, rfl, q ns p hs hm (I.hok.fresh hp)⟩
/-- len(set of ints) -/
def rLenSet (w : World) : List V → Hp → VK → Prop := fun vs H Q => ∃ (a : Addr) (S : Int → Bool) (n : Nat), vs = [V.ref a] ∧ H a = some (SetO w a S n) ∧ Q (.int n) H
theorem cr_lenSet : CallR X (.builtin "len") (rLenSet X.w) := by
  intro pins s σ H vs us Q I r h
  obtain ⟨a, S, n, rfl, ha, q⟩ := h
  obtain ⟨o, es, ep, t, ho, hex, hd, _, _, _, few, fits, hn, _⟩ := setO_get I ha
  rw [Vals.ref1 r]
  refine call_len_set ho hex hd fits ?_ ⟨.int n, H, I.tok _, ⟨_, by rw [← hn]⟩, q⟩
  have h1 : (es.size : Int) < scanBound := Int.ofNat_lt.mpr few
  exact Int.lt_of_lt_of_le h1 (by decide +kernel)
/-- t.index(k), a tuple of ints: the first place -/
theorem flat_ints (ys : List Int) : (ys.map V.int).all flatV = true := by
  rw [List.all_map]
  exact List.all_eq_true.mpr fun _ _ => rfl
theorem mt_tindexI : MtR X "tuple.index" (fun x xs H Q => ∃ p, ∃ ys : List Int, ∃ z j, x = .ref p ∧ xs = [.int z] ∧ SqT X.K H p (ys.map V.int) ∧ ys[j]? = some z ∧ (∀ m, m < j → ys[m]? ≠ some z) ∧ Q (.int (j : Nat)) H) := by
  intro pins s σ H x xs v us Q I rx rs h
  obtain ⟨p, ys, z, j, rfl, rfl, hq, hy, hno, q⟩ := h
  cases rx
  obtain ⟨u, rfl, t, rfl⟩ := vals1 rs
  obtain ⟨its, r, ⟨⟨cls, dd, dt, sl⟩, ho, hc, n, hd⟩, hz⟩ := I.tuple hq
  cases hc
  cases hd
  have len : its.toArray.size = ys.length := by rw [List.size_toArray, ← r.length, List.length_map]
  have at' : ∀ (m : Nat) (hm : m < its.toArray.size), ∃ y t', ys[m]? = some y ∧ its.toArray[m] = Value.int y t' := fun m hm => by
    have hm' : m < ys.length := len ▸ hm
    obtain ⟨w, hw, t', hw'⟩ := r.get (i := m) (x := .int ys[m]) (by simp [hm'])
    refine ⟨ys[m], t', List.getElem?_eq_getElem hm', ?_⟩
    rw [← hw', ← (List.getElem?_eq_some_iff.mp hw).2]
    simp
  have hj : j < its.toArray.size := by rw [len]; exact (List.getElem?_eq_some_iff.mp hy).1
  refine call_meets PySem.F.slot_tuple_index ⟨_, ho, rfl⟩ PySem.F.entry_tuple_index (PySem.F.args_tuple_index_2 _ _) (TI.tuple_indexAt p its.toArray n dd sl (.int z t) (eqU (.int z)) j hj ?_ ?_)
    ⟨ho, fun w hw => mem_eqAt (x := .int z) ⟨t, rfl⟩ rfl r (flat_ints ys) w (by simpa using hw), ⟨.int (j : Nat), H, I.tok _, ⟨_, rfl⟩, q⟩⟩
  · obtain ⟨y, t', h1, h2⟩ := at' j hj
    rw [hy] at h1
    cases h1
    rw [h2]
    show decide (z = z) = true
    exact decide_eq_true rfl
  · intro m hm hmj
    obtain ⟨y, t', h1, h2⟩ := at' m hm
    rw [h2]
    show decide (y = z) = false
    exact decide_eq_false fun e => hno m hmj (e ▸ h1)
end
end Ph

namespace Ph
open PySem PySem.Spec PyProof.Rows L2
/-! ### a tuple whose object is known: it has no dict of its own, so its methods can be called -/
def ChAt (H : Hp) (c : Addr) (C : List Int) : Prop := ∃ o : Obj, o.dict = none ∧ H c = some (.frz o (.tup (C.map V.int)))
theorem ChAt.sq {K : PySem.W.Frag} {H : Hp} {c : Addr} {C : List Int} (h : ChAt H c C) : SqT K H c (C.map V.int) := let ⟨o, _, e⟩ := h; .inl (.inr ⟨o, e⟩)
theorem ChAt.keep {H H' : Hp} {c : Addr} {C : List Int} (h : ChAt H c C) (s : ∀ b o, H b = some o → H' b = some o) : ChAt H' c C := let ⟨o, d, e⟩ := h; ⟨o, d, s _ _ e⟩
section
variable {X : Cx}
/-- tuple(list): a new one -/
theorem call_tuple_frz : CallR X (.type "tuple") (fun xs H Q => ∃ p ys, xs = [.ref p] ∧ SqL X.K H p ys ∧ ∀ l (o : Obj), H l = none → o.dict = none → Q (.ref l) (upd H l (.frz o (.tup ys)))) := by
  intro pins s σ H xs us Q I r h
  obtain ⟨p, ys, rfl, hq, q⟩ := h
  obtain ⟨u, rfl, rx⟩ := vals1 r
  cases rx
  obtain ⟨its, r', pl, hz⟩ := I.list hq
  have len := r'.length
  refine call_tuple_list pl.isList (fun g k => ?_) (by rw [List.size_toArray]; omega)
  have J := I.kept (t' := s.toks) k
  refine ⟨.ref g.objs.size, _, J.laid (t' := s.toks) (o := .frz { cls := .type "tuple", data := .seq its.toArray } (.tup ys)) (fun b u e => Heap.get?_push_of_some _ e) (Nat.le_refl _) ⟨Heap.get?_push_size _ rfl, hz, its, r', IsTup.new _ _⟩, rfl, q _ _ (J.hok.fresh (Nat.le_refl _)) rfl⟩
variable {o e : Expr} {es : List Expr} {to : TE} {t : TA} {apos cpos : Pos} {name : Str} {id : String} {r : V → List V → Hp → VK → Prop}
/-- c.m(..), c such a tuple -/
def tBT (r : V → List V → Hp → VK → Prop) (to : TE) (t : TA) : TE := fun σ H Q => to σ H fun x H1 => (∃ c C, x = .ref c ∧ ChAt H1 c C) ∧ t σ H1 fun xs H2 => r x xs H2 Q
theorem pe_bmT (slot : Slot "tuple" name id) (hty : typeOf (.builtin id) = pure (.type "method_descriptor")) (hm : MtR X id r) (ho : PE X o to) (ha : PA X (e :: es) t)
    (hbase : attributeBase o name X.env (eval o X.env) = eval o X.env := by rfl)
    (hfew : ((backTo cpos (starEach (e :: es) X.env)).all (fun x => !x.1) && (backToKw cpos (keywordEach [] X.env)).all (fun x => x.1.isSome) && decide ((e :: es).length + ([] : List Keyword).length + (if ([] : List Keyword).isEmpty then 0 else 1) < 30)) = true := by rfl)
    (hline : (apos.endLine == cpos.line) = true := by rfl) (hse : starEach (e :: es) X.env = (false, eval e X.env) :: starEach es X.env := by rfl) (hpl : (backTo cpos (starEach es X.env)).any (·.1) = false := by rfl) :
    PE X (.Call (.Attribute o name apos) (e :: es) [] cpos) (tBT r to t) := ⟨fun pins s σ H Q I h => by
  refine wpAny_Call_method_late hbase hfew hline rfl (thn (ho.run pins s σ H _ I h) fun v s1 ⟨x, H1, I1, r1, ⟨c, C, ex, oc, od, hc⟩, q1⟩ => ?_)
  subst ex
  cases r1
  obtain ⟨g, _, its, _, ⟨u, hu, hcl, _⟩⟩ := I1.hok c _ hc
  rw [g] at hu
  cases hu
  have hA := ha.run cpos pins s1 σ H1 _ I1 q1
  refine ⟨"tuple", id, PySem.F.plainAttrs_tuple, slot, hty, ⟨oc, g, hcl⟩, fun a z => by cases z; exact ⟨oc, g, od⟩, ?_⟩
  rw [hse] at hA ⊢
  refine Calls.callWith_builtin (by show (false || (backTo cpos (starEach es X.env)).any (·.1)) = false; rw [hpl]; rfl) (Calls.evalArgs_plain (thn hA fun us s2 ⟨vs, H2, I2, r2, q2⟩ => hm pins s2 σ H2 (.ref c) vs (.ref c) us Q I2 rfl r2 q2))⟩
end
end Ph

namespace Ph
open PySem PySem.Spec PyProof.Rows L2 PySem.NumText PySem.Calls
/-! ### the limit on digits stands as it was at the beginning -/
theorem noDigits_of {K : PySem.W.Frag} {h : Heap} (X : K.In h) (L : h.NoLimit) (e : PySem.W.nsIn K cStatics "sys.int_max_str_digits" = some none) : h.NoDigits := by
  obtain ⟨mc, G, _⟩ := L
  refine ⟨mc, G, ?_⟩
  obtain ⟨o, es, ep, ho, hd, _, hf⟩ := G
  unfold PySem.W.nsIn at e
  split at e
  · rename_i c d es' n' sl q
    have := X _ _ q
    rw [ho] at this
    cases this
    cases hd
    split at e
    · cases e
    · rename_i he
      rw [← hf]
      unfold nsFind findBy
      rw [← Array.find?_toList, he]
      rfl
  · cases e
theorem wp_digits {M : Model} {A : Around} {E : Value → Shared → Prop} {s : Shared} {Q : Nat → Shared → Prop} (hn : s.heap.NoDigits) (h : Q 4300 s) : wpAny M A Builtin.intMaxStrDigits Q E s := by
  obtain ⟨mc, hns, hnone⟩ := hn
  unfold Builtin.intMaxStrDigits
  refine wpAny_bind (wpAny_nsGet hns ?_)
  rw [hnone]
  exact wpAny_pure h
/-! ### int(text) of more than 640 digits -/
theorem wp_textW {M : Model} {A : Around} {E : Value → Shared → Prop} {s : Shared} {Q : Value → Shared → Prop} {v : Value} {text : List Nat} {n : Int} (hn : s.heap.NoDigits)
    (hs : ¬ (text.takeWhile (· != 0)).length ≤ 640) (hr : (int_private% "readNumeral") 4300 10 (text.takeWhile (· != 0)) = (int_private% "Numeral.value") n)
    (ha : ((text.takeWhile (· != 0)).length == text.length) = true) (h : Q (.int n s.toks) { s with toks := s.toks + 1 }) :
    wpAny M A ((int_private% "intFromText") v text 10) Q E s := by
  show wpAny M A (if (text.takeWhile (· != 0)).length ≤ 640 then _ else (Builtin.intMaxStrDigits >>= _)) Q E s
  rw [if_neg hs]
  refine wpAny_bind (wp_digits hn ?_)
  dsimp only
  rw [hr]
  dsimp only
  rw [if_pos ha]
  exact wpAny_mkInt h
set_option maxHeartbeats 4000000 in
theorem meets_textW {x : PySem.Str} {u : Tok} {n : Int} (hs : ¬ (numSeenOf x).length ≤ 640) (hr : (int_private% "readNumeral") 4300 10 (numSeenOf x) = (int_private% "Numeral.value") n) (ha : ((numSeenOf x).length == (numTextOf x).length) = true) :
    Meets (Builtin.«int.__new__» ⟨[.type "int", .str x u], []⟩) (fun _ R s => s.heap.NoDigits ∧ R (.ok (.ret (.int n s.toks))) { s with toks := s.toks + 1 }) :=
  .of_wp fun prog w A R s h => by
    obtain ⟨hn, h⟩ := h
    obtain ⟨hp, g, d, tk, os⟩ := s
    have f1 := F.conv_sub_int
    have f2 := F.madeHere_int
    have f3 := PySem.W.KIN.str_int
    have f4 := PySem.W.KIN.str_idx
    have f5 := PySem.W.KIN.str_trunc
    have f6 : typeOf (.str x u) = pure (.type "str") := rfl
    have hk := PySem.W.KIN.Hid.mk (And.intro hs (And.intro hr ha))
    have hk2 := PySem.W.KIN.Hid.mk hn
    clear hs hr ha hn
    repeat (any_goals (first
      | assumption
      | ((with_reducible show wpAny _ _ ((int_private% "intFromText") _ _ _) _ _ _); refine wp_textW hk2.out hk.out.1 hk.out.2.1 hk.out.2.2 ?_)
      | wp_step))
    all_goals first | exact ⟨_, rfl, h⟩ | skip
def big9 : PySem.Str := (Str.ofString "1") ++ Txt.mul (Str.ofString "0") 900
theorem reps_list (c : Nat) : ∀ (k : Nat) (acc : Array Nat), ((List.replicate k (#[c] : Array Nat)).foldl (· ++ ·) acc).toList = acc.toList ++ List.replicate k c
  | 0, acc => by simp
  | k + 1, acc => by
    rw [List.replicate_succ, List.foldl_cons, reps_list c k, List.replicate_succ]
    simp
theorem zeros_list : (Txt.mul (Str.ofString "0") 900).cps.toList = List.replicate 900 48 := by
  have e : Txt.mul (Str.ofString "0") 900 = ⟨(List.replicate 900 (#[48] : Array Nat)).foldl (· ++ ·) #[]⟩ := by
    unfold Txt.mul
    rw [if_neg (by decide), if_neg (by decide +kernel)]
    rfl
  rw [e]
  exact reps_list 48 900 #[]
theorem big9_list : big9.cps.toList = 49 :: List.replicate 900 48 := by
  have e : big9.cps.toList = (Str.ofString "1").cps.toList ++ (Txt.mul (Str.ofString "0") 900).cps.toList := Array.toList_append
  rw [e, zeros_list]
  rfl
theorem big9_digits : AllDigits big9.cps.toList := by
  rw [big9_list]
  intro d hd
  rcases List.mem_cons.mp hd with e | e
  · subst e; decide
  · rw [(List.mem_replicate.mp e).2]; decide
theorem digits_zeros : ∀ (k a : Nat), (List.replicate k 48).foldl (fun acc c => acc * 10 + (c - 48)) a = a * 10 ^ k
  | 0, a => by simp
  | k + 1, a => by
    rw [List.replicate_succ, List.foldl_cons, digits_zeros k, Nat.pow_succ]
    show (a * 10 + 0) * 10 ^ k = a * (10 ^ k * 10)
    rw [Nat.add_zero, Nat.mul_assoc, Nat.mul_comm 10 (10 ^ k)]
theorem big9_val : digitsVal big9.cps.toList = 10 ^ 900 := by
  rw [big9_list]
  unfold digitsVal
  rw [List.foldl_cons, digits_zeros]
  show (0 * 10 + 1) * 10 ^ 900 = 10 ^ 900
  rw [Nat.zero_mul, Nat.zero_add, Nat.one_mul]
theorem big9_length : big9.length = 901 := by
  have e : big9.cps.toList.length = big9.length := Array.length_toList
  rw [← e, big9_list, List.length_cons, List.length_replicate]
theorem ten_ex : ∃ t : Int, intText? big9 = some t ∧ 0 < t ∧ t.natAbs < 2 ^ 3000 := by
  refine ⟨_, intText_digits big9_digits (by rw [big9_list]; exact List.cons_ne_nil _ _) (by rw [big9_length]; decide), ?_, ?_⟩
  · rw [big9_val]
    exact Int.natCast_pos.mpr (Nat.pow_pos (by decide))
  · rw [big9_val, Int.natAbs_natCast]
    decide +kernel
noncomputable def ten9 : Int := Classical.choose ten_ex
theorem big9_int : intText? big9 = some ten9 := (Classical.choose_spec ten_ex).1
theorem ten9_pos : 0 < ten9 := (Classical.choose_spec ten_ex).2.1
theorem ten9_lt : ten9.natAbs < 2 ^ 3000 := (Classical.choose_spec ten_ex).2.2
theorem big9_text : numTextOf big9 = big9.cps.toList ∧ numSeenOf big9 = big9.cps.toList := numText_signs fun c hc => Or.inr (big9_digits c hc)
theorem big9_seen : ¬ (numSeenOf big9).length ≤ 640 := by
  rw [big9_text.2, big9_list, List.length_cons, List.length_replicate]
  decide
theorem big9_all : ((numSeenOf big9).length == (numTextOf big9).length) = true := by
  rw [big9_text.1, big9_text.2]
  exact beq_self_eq_true _
theorem big9_read : (int_private% "readNumeral") 4300 10 (numSeenOf big9) = (int_private% "Numeral.value") ten9 := by
  rcases read4300 big9 (by rw [big9_length]; decide) with ⟨n, h1, h2, h3⟩ | ⟨h1, _⟩
  · rw [Option.some.inj (big9_int.symm.trans h1)]
    exact h3
  · rw [big9_int] at h1
    cases h1
theorem zeros_length : (Txt.mul (Str.ofString "0") 900).length = 900 := by
  have e : (Txt.mul (Str.ofString "0") 900).cps.toList.length = (Txt.mul (Str.ofString "0") 900).length := Array.length_toList
  rw [← e, zeros_list, List.length_replicate]
theorem big9_len : (Str.ofString "1").length + (Txt.mul (Str.ofString "0") 900).length ≤ sizeLine := by
  rw [zeros_length]
  decide +kernel
theorem zeros_ok : MulOk (Str.ofString "0") 900 := ⟨by decide, fun _ _ => by decide +kernel, fun _ _ => by decide +kernel⟩
section
variable {X : Cx}
theorem Inv.noDigits {pins : List (Addr × Obj)} {σ : List (Option V)} {H : Hp} {s : Shared} (I : Inv X pins σ H s) (e : PySem.W.nsIn X.K cStatics "sys.int_max_str_digits" = some none) : s.heap.NoDigits :=
  (noDigits_of I.ok.mod.kin I.ok.mod.nolimit e).keeps I.bk
theorem call_big9 (e : PySem.W.nsIn X.K cStatics "sys.int_max_str_digits" = some none) : CallR X (.type "int") (fun xs H Q => xs = [.str big9] ∧ Q (.int ten9) H) := by
  intro pins s σ H xs us Q I r h
  obtain ⟨rfl, q⟩ := h
  obtain ⟨u, rfl, t, rfl⟩ := vals1 r
  exact call_int_1 (meets_textW big9_seen big9_read big9_all) ⟨Inv.noDigits I e, ⟨typeIs_int _ _ _, ⟨.int ten9, H, I.tok _, ⟨_, rfl⟩, q⟩⟩⟩
/-- text * number -/
theorem op_repS : OpR X (binaryOp .Mult) (fun x y H Q => ∃ z k, x = .str z ∧ y = .int k ∧ MulOk z k ∧ Q (.str (Txt.mul z k)) H) := by
  intro pins s σ H x y v u Q I rx ry h
  obtain ⟨i, j, rfl, rfl, hz, q⟩ := h
  obtain ⟨t, rfl⟩ := rx
  obtain ⟨t', rfl⟩ := ry
  exact SB.mul hz (fun t' k => ⟨.str _, H, I.tok _, ⟨_, rfl⟩, q⟩)
theorem iop_mulW : OpR X (inplaceOp .Mult) (rI CMulW fun i j => .int (i * j)) := opI fun _ _ _ _ _ _ _ hc q => imul_int q hc.ok
theorem ip_mulW : PIp X .Mult (fun x y H Q => ∃ i j, x = .int i ∧ y = .int j ∧ CMulW i j ∧ Q (.int (i * j)) H) := by
  intro pins s σ H x y v u Q I r1 r2 h
  obtain ⟨i, j, e1, e2, hc, q⟩ := h
  subst e1; subst e2
  obtain ⟨t, rfl⟩ := r1
  obtain ⟨t', rfl⟩ := r2
  exact imul_int ⟨.int _, H, I.tok _, ⟨_, rfl⟩, q⟩ hc.ok
theorem repr_wide {prog : Program} {w : World} {A : Around} {E : Value → Shared → Prop} {s : Shared} {a : Int} {t : Tok} {Q : Value → Shared → Prop} (hn : s.heap.NoDigits) (hlt : a.natAbs < 10 ^ 4300) (h : Q (.str (toString a) s.toks) { s with toks := s.toks + 1 }) :
    wpAny (model prog w) A (call (.builtin "repr") [.int a t]) Q E s := by
  refine Calls.call_function_entry F.kind_repr F.plain_repr F.entry_repr (F.args_repr1 _) ?_
  unfold Builtin.«repr»
  refine wpAny_bind (m := oneArg "repr" _) (wpAny_pure ?_)
  have hv : [Value.int a t].any Value.onHeap = false := rfl
  simp only [cRoomFor, hv, Bool.false_eq_true, if_false, pure_bind]
  refine wpAny_bind (wpAny_specialOf (name := Str.ofString "__repr__") (typeIs_int s a t) F.slot_int_repr.lookup ?_)
  refine wpAny_bind (m := callSpecialIfBound? (.int a t) (Str.ofString "__repr__")) (wpAny_callSpecialIfBound?_slot (name := Str.ofString "__repr__") (typeIs_int s a t) F.slot_int_repr ?_)
  refine wpAny_call_entry F.slot_int_repr (typeIs_int s a t) F.entry_int_repr ?_ (F.args_int_repr_1 _)
  unfold Builtin.«int.__repr__»
  show wpAny _ _ (do let r ← Builtin.overDigitLimit? a; _) _ _ s
  refine wpAny_bind (overDigitLimit_any hn (fun hlt => ?_) (fun hge => absurd hlt (Nat.not_lt.mpr hge)))
  refine wpAny_bind (wpAny_mkStr (wpAny_pure ⟨_, rfl, ?_⟩) (int_text_fits10 hlt))
  refine wpAny_bind (wpAny_isInstance (T := "str") (b := true) rfl isSubtype_str_str ?_)
  exact wpAny_pure ⟨_, rfl, h⟩
theorem call_reprW (e : PySem.W.nsIn X.K cStatics "sys.int_max_str_digits" = some none) : CallR X (.builtin "repr") (fun xs H Q => ∃ i, xs = [.int i] ∧ i.natAbs < 10 ^ 4300 ∧ Q (.str (toString i)) H) := by
  intro pins s σ H xs us Q I r h
  obtain ⟨i, rfl, hz, q⟩ := h
  obtain ⟨u, rfl, t, rfl⟩ := vals1 r
  exact repr_wide (Inv.noDigits I e) hz ⟨.str _, H, I.tok _, ⟨_, rfl⟩, q⟩
end
end Ph

namespace Ph
open PySem PySem.Spec PyProof.Rows L2 PySem.Calls
section
variable {X : Cx}
/-- d.update(e), both tracked dicts -/
def rDUp : V → List V → Hp → VK → Prop := fun x vs H Q => ∃ (a b : Addr) (ks ls : List (Key × V)), x = .ref a ∧ vs = [.ref b] ∧ a ≠ b ∧ H a = some (.dK ks) ∧ H b = some (.dK ls) ∧ ks.length + ls.length ≤ sizeLine ∧ Q .non (upd H a (.dK (mergeK ks ls)))
theorem mtd_update : MtR X "dict.update" rDUp := by
  intro pins s σ H x vs v us Q I rx rv h
  obtain ⟨a, b, ks, ls, rfl, rfl, nab, ea, eb, hz, q⟩ := h
  cases rx
  obtain ⟨u, rfl, ru⟩ := rv.one
  cases ru
  obtain ⟨za, hda, va, ra, da⟩ := dk_of I.hok ea
  obtain ⟨zb, hdb, vb, rb, db⟩ := dk_of I.hok eb
  refine call_meetsIn PySem.F.slot_dict_update da.typeIs PySem.F.entry_dict_update (PySem.F.args_dict_update_2 _ _) (meets_dict_update (mixKind X.prog X.w) a b nab hdb) ⟨va, vb, da, db, by rw [← ra.length, ← rb.length]; exact hz, fun h' d1 d2 sb => ?_⟩
  have he : ∃ o, h'.get? a = some o := let ⟨o, _, _, ho, _⟩ := d1; ⟨o, ho⟩
  exact ⟨.non, _, d_write (t' := s.toks) I (by rw [ea]; exact True.intro) sb he (dk_new (Nat.le_trans (length_mergeK ls ks) hz) hda (rb.merge ra) d1), rfl, q⟩
end
/-- which ints are keys -/
def hasI (kvs : List (Key × V)) (i : Int) : Bool := (valV kvs (Sum.inl i)).isSome
theorem hasI_merge : ∀ (more kvs : List (Key × V)) (i : Int), hasI (mergeK kvs more) i = (hasI kvs i || more.any fun kv => decide (kv.1 = Sum.inl i))
  | [], kvs, i => by
    show hasI kvs i = (hasI kvs i || false)
    rw [Bool.or_false]
  | kv :: r, kvs, i => by
    have e : mergeK kvs (kv :: r) = mergeK (putK kvs kv.1 kv.2) r := rfl
    rw [e, hasI_merge r, List.any_cons]
    unfold hasI
    rw [valV_put]
    by_cases h : (Sum.inl i : Key) = kv.1
    · rw [if_pos h, h]
      simp
    · rw [if_neg h, decide_eq_false (fun z => h z.symm), Bool.false_or]
end Ph

namespace Ph
open PySem PySem.Spec PyProof.Rows L2
/-! ### max(ints, default=d) -/
def mxd (d : Int) : List Int → Int
  | [] => d
  | n :: r => r.foldl max n
theorem alike_ints (ns : List Int) : PySem.W.AlikeAll (ns.map PyData.int) := by
  refine ⟨fun x hx y hy => ?_, fun x hx => ?_⟩
  · obtain ⟨a, _, rfl⟩ := List.mem_map.mp hx
    obtain ⟨b, _, rfl⟩ := List.mem_map.mp hy
    rfl
  · obtain ⟨a, _, rfl⟩ := List.mem_map.mp hx
    exact fun z => nomatch z
theorem dpI {K : PySem.W.Frag} {H : Hp} : ∀ ns : List Int, DpAll K H (ns.map V.int) (ns.map PyData.int)
  | [] => .nil
  | n :: r => .cons (.int n) (dpI r)
theorem depthI : ∀ ns : List Int, PyData.depthAll (ns.map PyData.int) ≤ 1
  | [] => by simp [PyData.depthAll]
  | n :: r => by
    have h := depthI r
    simp only [List.map_cons, PyData.depthAll, PyData.depth]
    omega
section
variable {X : Cx}
def rMaxDf (K : PySem.W.Frag) : List V → List V → Hp → VK → Prop := fun xs zs H Q => ∃ (l : Addr) (ns : List Int) (d : Int), xs = [.ref l] ∧ zs = [.int d] ∧ SqL K H l (ns.map V.int) ∧ Q (.int (mxd d ns)) H
theorem cr_maxDf (hc : X.calm = true) (hu : X.A.units + 2 < cLine) : CallRK X (.builtin "max") ["default"] (rMaxDf X.K) := by
  intro pins s σ H xs zs us ws Q I r rz h
  obtain ⟨l, ns, d, rfl, rfl, hl, q⟩ := h
  obtain ⟨its, rv, pl, hz⟩ := I.list hl
  rw [Vals.ref1 r]
  obtain ⟨w, rfl, t, rfl⟩ := vals1 rz
  obtain ⟨as, rd⟩ := Dp.readsAll I _ _ its (dpI ns) rv
  have hd := depthI ns
  refine PySem.W.max_list_default (d := .int d t) (I.ok.hd hc) pl.isList (by simpa using rd) (alike_ints ns) (by omega) (fun e g tk k => ?_) (fun y ys i v g tk bs e hv rv k => ?_)
  · have e2 : ns = [] := List.map_eq_nil_iff.mp e
    rw [e2] at q
    exact ⟨.int d, H, I.kept k, ⟨t, rfl⟩, q⟩
  · cases ns with
    | nil => cases e
    | cons n r =>
      injection e with e1 e2
      subst e1
      subst e2
      rw [PySem.W.maxD_ints] at rv
      cases rv with
      | int _ t' => exact ⟨.int (r.foldl max n), H, I.kept k, ⟨t', rfl⟩, q⟩
/-! ### list(range(a, b, c)) -/
def rg3 (i c : Int) (n : Nat) : List Int := (List.range n).map fun (t : Nat) => i + (t : Int) * c
def tLst3 (ta : TA) : TE := fun σ H Q => ta σ H fun vs H1 => ∃ (i j c : Int) (n : Nat), vs = [.int i, .int j, .int c] ∧ RgC i j c n ∧ n ≤ 2 ^ 24 ∧ ∀ q, H1 q = none → Q (.ref q) (upd H1 q (.lst ((rg3 i c n).map V.int)))
theorem vals_rg3 {i c : Int} {n : Nat} {acc : Array Value} (h : ItemsOf (fun j v => ∃ t, v = .int (i + j * c) t) acc n) : Vals ((rg3 i c n).map V.int) acc.toList := by
  have e : acc.toList.length = n := by rw [Array.length_toList]; exact h.1
  unfold rg3
  rw [List.map_map, ← e]
  refine vals_of_get acc.toList _ fun j u hj => ?_
  obtain ⟨t, rfl⟩ := h.2 j u (by rw [← hj, Array.getElem?_toList])
  exact ⟨t, rfl⟩
theorem pe_listRg3 {a b c : Expr} {ta : TA} {p p2 pos pos2 : Pos} (hc : X.calm = true) (hg : Gl X "list") (hm : X.mg "list" = none) (hg2 : Gl X "range") (hm2 : X.mg "range" = none) (ha : PA X [a, b, c] ta)
    (na : starEach [Expr.Call (.Name "range" p2) [a, b, c] [] pos2] X.env = (false, eval (Expr.Call (.Name "range" p2) [a, b, c] [] pos2) X.env) :: starEach [] X.env := by rfl)
    (hs : starEach [a, b, c] X.env = (false, eval a X.env) :: starEach [b, c] X.env := by rfl) (hpl : (backTo pos2 (starEach [b, c] X.env)).any (·.1) = false := by rfl) :
    PE X (.Call (.Name "list" p) [.Call (.Name "range" p2) [a, b, c] [] pos2] [] pos) (tLst3 ta) := by
  refine ⟨fun pins s σ H Q I h => ?_⟩
  refine Call_ (ld_blt I hg hm boot_list (PyProof.Rows.callWith_type1 (args_cons ?_ na) na))
  refine Call_ (ld_blt I hg2 hm2 boot_range (PyProof.Rows.callWith_type1 (thn (ha.run pos2 pins s σ H _ I h) fun us s1 ⟨vs, H1, I1, r1, i, j, k, n, e, ⟨c0, c1, c2, c3⟩, hn, q⟩ => ?_) hs hpl))
  subst e
  obtain ⟨t1, t2, t3, rfl⟩ : ∃ t1 t2 t3, us = [Value.int i t1, .int j t2, .int k t3] := by
    cases r1 with
    | cons ra rr =>
      cases rr with
      | cons rb rr =>
        cases rr with
        | cons rd rr =>
          cases rr
          obtain ⟨t1, rfl⟩ := ra
          obtain ⟨t2, rfl⟩ := rb
          obtain ⟨t3, rfl⟩ := rd
          exact ⟨t1, t2, t3, rfl⟩
  · skip
    refine call_range_3 c0 (args_nil ?_) (.inl (PyProof.noPylong_small c1))
    have I2 : Inv X pins σ H1 { s1 with heap := s1.heap.push { cls := .type "range", data := .fields #[.int i t1, .int j t2, .int k t3] } } := I1.kept (t' := s1.toks) fun b o e => Heap.get?_push_of_some _ e
    refine call_list_range (n := n) (I2.ok.hd hc) (IsRange.new ..) c2 c3 hn fun g tk acc cc keep at' it => ?_
    refine ⟨.ref _, upd H1 _ (.lst ((rg3 i k n).map V.int)), I2.laid (t' := tk) keep (Nat.le_refl _) ⟨?_, acc.toList, cc, vals_rg3 it, ?_⟩, rfl, q _ (I2.hok.fresh (Nat.le_refl _))⟩
    · unfold rg3
      rw [List.length_map, List.length_map, List.length_range, sizeLine_eq]
      omega
    · rw [Array.toArray_toList]; exact at'
end
end Ph

set_option maxHeartbeats 2000000
namespace Ph
open PySem PySem.Spec PyProof.Rows L2
/-! ### {e for x in xs}, e an int -/
abbrev TurnI (w : World) (D : Addr) (te : TE) (σ2 : L2.St) (H3 : Hp) (Nx : Hp → Prop) : Prop :=
  te σ2 H3 fun y H4 => ∃ (c : Int) (S : Int → Bool) (n : Nat), y = .int c ∧ H4 D = some (SetO w D S n) ∧ n + 1 < scanBound ∧ Nx (upd H4 D (SetO w D (fun j => S j || decide (j = c)) (if S c = true then n else n + 1)))
def tScI (w : World) (wi : TI) (g : TG) (tt : TT) (te : TE) (vs : List Nat) : TE := fun σ H Q => wi σ H fun J H1 => ∀ D, H1 D = none → ∃ W : Nat → Nat → Hp → Prop, (∃ m, W 0 m (upd H1 D (SetO w D (fun _ => false) 0))) ∧ ∀ i m H, W i m H →
  (J.stop i H ∧ Q (.ref D) H) ∨ (J.go i H ∧ ∃ Nx : Hp → Prop, (∀ H', Nx H' → ∃ m', m' < m ∧ W (i + 1) m' H') ∧ ∀ x H', J.yld i H x H' → g x (wipe σ vs) H' fun σ2 H2 => wipe σ2 vs = wipe σ vs ∧ tt σ2 H2 fun b H3 => if b = true then TurnI w D te σ2 H3 Nx else Nx H3)
section
variable {X : Cx}
abbrev BlkG (X : Cx) (scope : Scope) (F : Cx → Prop) : Prop := ∀ (s : Shared) (H : Hp) (C : Addr) (cl : List (PySem.Str × Addr)) (fp : List Addr), F (X.blk s H scope (compEnvC scope cl C X.env) fp)
theorem pe_scI {elt tg iter : Expr} {ifs : List Expr} {scope : Scope} {own : List (PySem.Str × Nat)} {pos : Pos} {wi : TI} {g : TG} {tt : TT} {te : TE} (calm : X.calm = true) (nod : X.N.Nodup) (walk : PI X tg iter wi) (blk : BlkOk X.N X.env.scope scope own)
    (gs : BlkG X scope fun Y => PG Y tg g) (ts : BlkG X scope fun Y => PTs Y ifs tt) (es : BlkG X scope fun Y => PE Y elt te) (fold : ∀ x, foldedSetIterable iter X.env x = pure x := by intro _; rfl) :
    PE X (.SetComp elt [⟨tg, iter, ifs, 0⟩] scope pos) (tScI X.w wi g tt te (own.map (·.2))) := by
  refine ⟨fun pins s σ H Q I want => ?_⟩
  rw [PpSet.eval_SetComp]
  have captured : ∀ y ∈ scope.names, y.2 = .free → ∃ c, X.env.cells.lookup y.1 = some c := fun y hy e => (blk.free y hy e).elim (fun k => I.ok.has _ (.inl k)) fun k => I.ok.has _ (.inr k)
  refine wpAny_comprehension_free rfl fold (closure_ok captured) blk.kind (fun y hy e => by rw [blk.uniq y hy, e]) (thn (walk.run pins s σ H _ I want) fun xv s1 hx => thn hx fun itv s2 h2 => ?_)
  obtain ⟨it, fp, tn, J, H2, rfl, I2, T, tn2, fp2, q⟩ := h2
  refine PpSet.newSet_ok (newEnv_comp ?_)
  have freshD : H2 s2.heap.objs.size = none := I2.hok.fresh (Nat.le_refl _)
  obtain ⟨W, ⟨m0, start⟩, step⟩ := q _ freshD
  have low : ∀ b ∈ fp, b < s2.heap.objs.size := fun b hb => let ⟨o, e, _⟩ := T.obj _ _ tn2 b hb; Heap.lt_size e
  have I3 : Inv X pins σ (upd H2 s2.heap.objs.size (SetO X.w s2.heap.objs.size (fun _ => false) 0)) { s2 with heap := s2.heap.push (sob X.w) } := I2.laid (t' := s2.toks) (fun b o e => Heap.get?_push_of_some _ e) (Nat.le_refl _) (setO_new (setR_fresh X.w))
  have fp3 : ∀ b ∈ fp, FpOk X pins (upd H2 s2.heap.objs.size (SetO X.w s2.heap.objs.size (fun _ => false) 0)) b ∧ b < (s2.heap.push (sob X.w)).objs.size := fun b hb => by
    refine ⟨⟨?_, (fp2 b hb).2⟩, by rw [Heap.size_push]; exact Nat.lt_succ_of_lt (low b hb)⟩
    rw [upd_ne (Nat.ne_of_lt (low b hb))]
    exact (fp2 b hb).1
  have tn3 : tn 0 (s2.heap.push (sob X.w)) := T.keep _ _ _ tn2 fun b _ o e => Heap.get?_push_of_some _ e
  have I4 := block_start I3 blk nod fp3
  generalize eD : s2.heap.objs.size = D at start step I3 fp3 I4 ⊢
  generalize eS : ({ s2 with heap := s2.heap.push (sob X.w) } : Shared) = s3 at I3 fp3 tn3 I4 ⊢
  generalize eH : upd H2 D (SetO X.w D (fun _ => false) 0) = H3 at start I3 fp3 I4
  have tn3' : tn 0 s3.heap := by rw [← eS]; exact tn3
  have fp3' : ∀ b ∈ fp, FpOk X pins H3 b ∧ b < s3.heap.objs.size := fun b hb => by
    have := fp3 b hb
    rw [← eS]
    exact this
  have G := gs s3 H3 s3.heap.objs.size (cellsFrom (s3.heap.objs.size + 1) scope.names (cloFrom X.env.cells scope.names [])) fp
  have Te := ts s3 H3 s3.heap.objs.size (cellsFrom (s3.heap.objs.size + 1) scope.names (cloFrom X.env.cells scope.names [])) fp
  have El := es s3 H3 s3.heap.objs.size (cellsFrom (s3.heap.objs.size + 1) scope.names (cloFrom X.env.cells scope.names [])) fp
  have shape : codeAny (model X.prog X.w) X.A (.compStart (.SetComp elt [⟨tg, iter, ifs, 0⟩] scope pos) 0 (.ref it) (.ref D) (compEnvC scope (cellsFrom (s3.heap.objs.size + 1) scope.names (cloFrom X.env.cells scope.names [])) s3.heap.objs.size X.env))
      (compPost (model X.prog X.w) X.A X.xe none (EP X pins σ Q) (.ref D) s3.heap.objs.size) { s3 with heap := pushCells (s3.heap.push { cls := .type "dict", data := .dict #[] }) scope.names } := by
    generalize eE : compEnvC scope (cellsFrom (s3.heap.objs.size + 1) scope.names (cloFrom X.env.cells scope.names [])) s3.heap.objs.size X.env = ce at I4 G Te El ⊢
    have locs : ce.locals = s3.heap.objs.size := by subst eE; rfl
    generalize e4 : ({ s3 with heap := pushCells (s3.heap.push { cls := .type "dict", data := .dict #[] }) scope.names } : Shared) = s4 at I4 ⊢
    have tn4 : tn 0 s4.heap := T.keep _ _ _ tn3' fun b _ o e => by rw [← e4]; exact pushCells_keeps _ _ _ _ (Heap.get?_push_of_some _ e)
    have off : ∀ {σ' : L2.St} {H' : Hp} {s' : Shared}, Inv (X.blk s3 H3 scope ce fp) [] σ' H' s' → (∀ b ∈ fp, H' b = none) → ∀ b ∈ fp, FpOk (X.blk s3 H3 scope ce fp) [] H' b := fun J hn b hb =>
      ⟨hn b hb, (J.ok.exf b hb).1, J.ok.exfs b hb, .inl hb, fun x c e => (J.ok.exf b hb).2 x c e, fun p hp => nomatch (show p ∈ ([] : List (Addr × Obj)) from by simpa using hp)⟩
    have loop : codeAny (model X.prog X.w) X.A (.compLoop (.SetComp elt [⟨tg, iter, ifs, 0⟩] scope pos) 0 (.ref it) (.ref D) ce) (compPost (model X.prog X.w) X.A X.xe none (EP X pins σ Q) (.ref D) s3.heap.objs.size) s4 := by
      refine PpSet.compLoopS_any (fun n s' => ∃ i H', Inv (X.blk s3 H3 scope ce fp) [] (wipe σ (own.map (·.2))) H' s' ∧ tn i s'.heap ∧ (∀ b ∈ fp, H' b = none) ∧ W i n H') ?_ m0 ⟨0, H3, I4, tn4, fun b hb => (fp3' b hb).1.1, start⟩
      rintro n s5 ⟨i, H5, I5, tn5, free5, w5⟩
      rcases step i n H5 w5 with ⟨stop, done⟩ | ⟨go, Nx, lower, turn⟩
      · refine thnF (T.done (X.blk s3 H3 scope ce fp) rfl rfl rfl calm i [] s5 _ H5 (fun _ _ => False) I5 (off I5 free5) tn5 stop) fun r s6 ⟨hr, I6⟩ => ?_
        subst hr
        have I7 : Inv X pins σ H5 s6 := I3.call' (ch := fp) I6.os I6.base I6.hok I6.bare fun b hb => let z := (fp3' b hb).1.2; ⟨z.2.2.1, z.1, z.2.2.2.1, z.2.2.2.2⟩
        obtain ⟨m, names, _⟩ := I6.loc
        have names' : s6.heap.Ns s3.heap.objs.size m := locs ▸ (show s6.heap.Ns ce.locals m from names)
        have none5 : H5 s3.heap.objs.size = none := locs ▸ (show H5 ce.locals = none from I6.free)
        obtain ⟨f0, f1, f2, f3, f4, f5⟩ := I3.fpOk (Nat.le_refl s3.heap.objs.size) none5
        exact ⟨m, names', fun g sb => ⟨.ref D, H5, I7.turned (t' := s6.toks) (fun b o hb e => (sb.2 b hb).trans e) f0 f1 f3 f4 f5, rfl, done⟩⟩
      · refine thnF (T.item (X.blk s3 H3 scope ce fp) rfl rfl rfl calm i [] s5 _ H5 (fun _ _ => False) I5 (off I5 free5) tn5 go) fun r s6 ⟨u, hr, h6⟩ => ?_
        subst hr
        refine thnF h6 fun _ s7 ⟨x, H7, I7, r7, y7, tn7, free7⟩ => ?_
        refine thnF (G.run _ s7 _ H7 x u _ (I7.pinned (off I7 free7) (T.obj _ _ tn7)) r7 (turn x H7 y7)) fun _ s8 ⟨σ8, H8, I8, wiped, q8⟩ => ?_
        refine thnF (Te.run _ s8 σ8 H8 _ I8 q8) fun b s9 ⟨H9, I9, q9⟩ => ?_
        have back : ∀ {s' : Shared} {H' : Hp}, Inv (X.blk s3 H3 scope ce fp) ([] ++ pinsAt fp s7.heap) σ8 H' s' → Nx H' → ∃ m, m < n ∧ ∃ i H', Inv (X.blk s3 H3 scope ce fp) [] (wipe σ (own.map (·.2))) H' s' ∧ tn i s'.heap ∧ (∀ b ∈ fp, H' b = none) ∧ W i m H' := fun {s' H'} J nx => by
          obtain ⟨m', less, w'⟩ := lower H' nx
          have held : ∀ b ∈ fp, ∀ o, s7.heap.get? b = some o → s'.heap.get? b = some o ∧ H' b = none := fun b hb o e => let z := J.pin (b, o) (List.mem_append_right _ (List.mem_append_right _ (mem_pinsAt hb e))); ⟨z.1, z.2.1⟩
          refine ⟨m', less, i + 1, H', (J.unpinned (pins := [])).weak (by rw [← wiped, wipe_length]) (fun j v e => (wipe_some (wiped ▸ e)).1), T.keep _ _ _ tn7 fun b hb o e => (held b hb o e).1, fun b hb => ?_, w'⟩
          obtain ⟨o, e, _⟩ := T.obj _ _ tn7 b hb
          exact (held b hb o e).2
        cases b with
        | false => exact back I9 (by simpa using q9)
        | true =>
          have q9' : TurnI X.w D te σ8 H9 Nx := by simpa using q9
          refine thnF (El.run _ s9 σ8 H9 _ I9 q9') fun z s10 ⟨yv, H10, I10, r10, c, S0, n0, ey, at10, room, nx⟩ => ?_
          subst ey
          obtain ⟨tk, rfl⟩ := r10
          refine setR_add (setO_get (X := X.blk s3 H3 scope ce fp) I10 at10) room fun g sb new => ?_
          have there : ∃ u, g.get? D = some u := let ⟨o, _, _, _, ho, _⟩ := new; ⟨o, ho⟩
          exact back (I10.write (e := D) (t' := s10.toks + 1) (by rw [at10]; trivial) (.inl rfl) (fun b u hb hu => (sb.2 b hb).trans hu) there (setO_new new)) nx
    exact PpSet.codeAny_compStart_set loop (T.self X.A 0 _ _ _ tn4 loop)
  exact shape
/-- over a tuple, the steps leave the heap as it is -/
theorem sc_tupF {w : World} {K : PySem.W.Frag} {a : Addr} {xs : List V} {g : TG} {tt : TT} {te : TE} {vs : List Nat} {σ : L2.St} {H1 : Hp} {D : Addr} {Qd : Hp → Prop} (f : V → Int) (ht : SqT K H1 a xs) (nD : H1 D = none) (few : xs.length + 1 < scanBound)
    (hs : ∀ x ∈ xs, ∀ H, (∀ b o, H1 b = some o → H b = some o) → ∀ (Y : V → Hp → Prop) (N : Hp → Prop), Y (.int (f x)) H → g x (wipe σ vs) H fun σ2 H2 => wipe σ2 vs = wipe σ vs ∧ tt σ2 H2 fun b H3 => if b = true then te σ2 H3 Y else N H3)
    (hd : ∀ H n, (∀ b o, H1 b = some o → H b = some o) → H D = some (SetO w D (fun j => decide (j ∈ xs.map f)) n) → Qd H) :
    ∃ W : Nat → Nat → Hp → Prop, (∃ m, W 0 m (upd H1 D (SetO w D (fun _ => false) 0))) ∧ ∀ i m H, W i m H →
      ((Itt K a).stop i H ∧ Qd H) ∨ ((Itt K a).go i H ∧ ∃ Nx : Hp → Prop, (∀ H', Nx H' → ∃ m', m' < m ∧ W (i + 1) m' H') ∧ ∀ x H', (Itt K a).yld i H x H' → g x (wipe σ vs) H' fun σ2 H2 => wipe σ2 vs = wipe σ vs ∧ tt σ2 H2 fun b H3 => if b = true then TurnI w D te σ2 H3 Nx else Nx H3) := by
  have tupStays : ∀ H, (∀ b o, H1 b = some o → H b = some o) → SqT K H a xs := fun H k => by
    rcases ht with (h | ⟨o, h⟩) | h
    · exact .inl (.inl (k _ _ h))
    · exact .inl (.inr ⟨o, k _ _ h⟩)
    · exact .inr h
  refine ⟨fun i m H => m = xs.length - i ∧ i ≤ xs.length ∧ (∀ b o, H1 b = some o → H b = some o) ∧ ∃ n, n ≤ i ∧ H D = some (SetO w D (fun j => decide (j ∈ (xs.take i).map f)) n), ⟨xs.length, by simp, Nat.zero_le _, fun b o e => ?_, 0, Nat.le_refl _, ?_⟩, ?_⟩
  · rw [upd_ne (ne_of_none e nD)]; exact e
  · rw [upd_same]
    congr
  rintro i m H ⟨rfl, hi, k, n, hn, hD⟩
  have hq := tupStays H k
  by_cases hlt : i < xs.length
  · refine .inr ⟨⟨xs, xs[i], hq, by simp [hlt]⟩, fun H' => (∀ b o, H1 b = some o → H' b = some o) ∧ ∃ n, n ≤ i + 1 ∧ H' D = some (SetO w D (fun j => decide (j ∈ (xs.take (i + 1)).map f)) n), fun H' p => ⟨xs.length - (i + 1), by omega, rfl, hlt, p.1, p.2⟩, fun x H' y => ?_⟩
    obtain ⟨rfl, y⟩ := y
    have hx := y xs hq
    refine hs x (List.mem_of_getElem? hx) _ k _ _ ⟨f x, _, n, rfl, hD, by omega, fun b o e => ?_, (if decide (f x ∈ (xs.take i).map f) = true then n else n + 1), ?_, ?_⟩
    · rw [upd_ne (ne_of_none e nD)]; exact k _ _ e
    · split <;> omega
    · rw [upd_same]
      congr
      funext j
      rw [List.take_add_one, hx, Bool.eq_iff_iff]
      simp
  · have e : i = xs.length := by omega
    subst e
    rw [List.take_of_length_le (Nat.le_refl _)] at hD
    exact .inl ⟨⟨xs, hq, Nat.le_refl _⟩, hd H n k hD⟩
end
end Ph

namespace Ph
open PySem PySem.Spec PyProof.Rows L2
/-! ### comprehensions whose steps leave the heap as it is -/
section
variable {K : PySem.W.Frag} {a : Addr} {xs : List V} {g : TG} {tt : TT} {te : TE} {vs : List Nat} {σ : L2.St} {H1 : Hp} {D : Addr} {Qd : Hp → Prop}
abbrev Stp (g : TG) (tt : TT) (te : TE) (vs : List Nat) (σ : L2.St) (H1 : Hp) (f : V → Option V) (x : V) : Prop :=
  ∀ H, (∀ b o, H1 b = some o → H b = some o) → ∀ (Y : V → Hp → Prop) (N : Hp → Prop), (∀ y, f x = some y → Y y H) → (f x = none → N H) →
    g x (wipe σ vs) H fun σ2 H2 => wipe σ2 vs = wipe σ vs ∧ tt σ2 H2 fun b H3 => if b = true then te σ2 H3 Y else N H3
theorem take_filterMap {α β : Type} (f : α → Option β) {l : List α} {i : Nat} {x : α} (h : l[i]? = some x) : (l.take (i + 1)).filterMap f = (l.take i).filterMap f ++ (f x).toList := by
  rw [List.take_add_one, h, List.filterMap_append]
  congr 1
theorem fm_len {α β : Type} (f : α → Option β) (l : List α) (i : Nat) : ((l.take i).filterMap f).length ≤ l.length := by
  refine Nat.le_trans (List.length_filterMap_le _ _) ?_
  rw [List.length_take]
  omega
theorem lc_tupF (f : V → Option V) (ht : SqT K H1 a xs) (nD : H1 D = none) (hlen : xs.length < sizeLine) (hs : ∀ x ∈ xs, Stp g tt te vs σ H1 f x) (hd : ∀ H, (∀ b o, H1 b = some o → H b = some o) → H D = some (.lst (xs.filterMap f)) → Qd H) :
    ∃ W : Nat → Nat → Hp → Prop, (∃ m, W 0 m (upd H1 D (.lst []))) ∧ ∀ i m H, W i m H →
      ((Itt K a).stop i H ∧ Qd H) ∨ ((Itt K a).go i H ∧ ∃ Nx : Hp → Prop, (∀ H', Nx H' → ∃ m', m' < m ∧ W (i + 1) m' H') ∧ ∀ x H', (Itt K a).yld i H x H' → g x (wipe σ vs) H' fun σ2 H2 => wipe σ2 vs = wipe σ vs ∧ tt σ2 H2 fun b H3 =>
        if b = true then te σ2 H3 fun y H4 => ∃ acc, H4 D = some (.lst acc) ∧ acc.length < sizeLine ∧ Nx (upd H4 D (.lst (acc ++ [y]))) else Nx H3) := by
  refine lc_tup (K := K) (a := a) (xs := xs) (fun i H => (∀ b o, H1 b = some o → H b = some o) ∧ H D = some (.lst ((xs.take i).filterMap f))) ⟨fun b o e => ?_, ?_⟩ (fun i H _ p => ?_) (fun i x H hx p => ?_) (fun H p => ?_)
  · rw [upd_ne (ne_of_none e nD)]; exact e
  · rw [upd_same]; rfl
  · rcases ht with (h | ⟨o, h⟩) | h
    · exact .inl (.inl (p.1 _ _ h))
    · exact .inl (.inr ⟨o, p.1 _ _ h⟩)
    · exact .inr h
  · refine hs x (List.mem_of_getElem? hx) H p.1 _ _ (fun y ey => ⟨_, p.2, Nat.lt_of_le_of_lt (fm_len f xs i) hlen, fun b o e => ?_, ?_⟩) fun en => ⟨p.1, ?_⟩
    · rw [upd_ne (ne_of_none e nD)]; exact p.1 _ _ e
    · rw [upd_same, take_filterMap f hx, ey]; rfl
    · rw [take_filterMap f hx, en]; simpa using p.2
  · refine hd H p.1 ?_
    have := p.2
    rwa [List.take_of_length_le (Nat.le_refl _)] at this
theorem lc_listF (f : V → Option V) (ht : SqL K H1 a xs) (nD : H1 D = none) (hlen : xs.length < sizeLine) (hs : ∀ x ∈ xs, Stp g tt te vs σ H1 f x) (hd : ∀ H, (∀ b o, H1 b = some o → H b = some o) → H D = some (.lst (xs.filterMap f)) → Qd H) :
    ∃ W : Nat → Nat → Hp → Prop, (∃ m, W 0 m (upd H1 D (.lst []))) ∧ ∀ i m H, W i m H →
      ((Itl K a).stop i H ∧ Qd H) ∨ ((Itl K a).go i H ∧ ∃ Nx : Hp → Prop, (∀ H', Nx H' → ∃ m', m' < m ∧ W (i + 1) m' H') ∧ ∀ x H', (Itl K a).yld i H x H' → g x (wipe σ vs) H' fun σ2 H2 => wipe σ2 vs = wipe σ vs ∧ tt σ2 H2 fun b H3 =>
        if b = true then te σ2 H3 fun y H4 => ∃ acc, H4 D = some (.lst acc) ∧ acc.length < sizeLine ∧ Nx (upd H4 D (.lst (acc ++ [y]))) else Nx H3) := by
  refine lc_list (K := K) (a := a) (xs := xs) (fun i H => (∀ b o, H1 b = some o → H b = some o) ∧ H D = some (.lst ((xs.take i).filterMap f))) ⟨fun b o e => ?_, ?_⟩ (fun i H _ p => ?_) (fun i x H hx p => ?_) (fun H p => ?_)
  · rw [upd_ne (ne_of_none e nD)]; exact e
  · rw [upd_same]; rfl
  · rcases ht with (h | ⟨o, h⟩) | h
    · exact .inl (.inl (p.1 _ _ h))
    · exact .inl (.inr ⟨o, p.1 _ _ h⟩)
    · exact .inr h
  · refine hs x (List.mem_of_getElem? hx) H p.1 _ _ (fun y ey => ⟨_, p.2, Nat.lt_of_le_of_lt (fm_len f xs i) hlen, fun b o e => ?_, ?_⟩) fun en => ⟨p.1, ?_⟩
    · rw [upd_ne (ne_of_none e nD)]; exact p.1 _ _ e
    · rw [upd_same, take_filterMap f hx, ey]; rfl
    · rw [take_filterMap f hx, en]; simpa using p.2
  · refine hd H p.1 ?_
    have := p.2
    rwa [List.take_of_length_le (Nat.le_refl _)] at this
/-- over the keys of a dict that stands still -/
theorem lc_keysF {d : Addr} {od : Obj} {kvs : List (Key × V)} (f : V → Option V) (ht : H1 d = some (.frz od (.dK kvs))) (nD : H1 D = none) (hlen : kvs.length < sizeLine) (hs : ∀ x ∈ kvs.map (fun kv => kV kv.1), Stp g tt te vs σ H1 f x) (hd : ∀ H, (∀ b o, H1 b = some o → H b = some o) → H D = some (.lst ((kvs.map fun kv => kV kv.1).filterMap f)) → Qd H) :
    ∃ W : Nat → Nat → Hp → Prop, (∃ m, W 0 m (upd H1 D (.lst []))) ∧ ∀ i m H, W i m H →
      ((Itk d od kvs).stop i H ∧ Qd H) ∨ ((Itk d od kvs).go i H ∧ ∃ Nx : Hp → Prop, (∀ H', Nx H' → ∃ m', m' < m ∧ W (i + 1) m' H') ∧ ∀ x H', (Itk d od kvs).yld i H x H' → g x (wipe σ vs) H' fun σ2 H2 => wipe σ2 vs = wipe σ vs ∧ tt σ2 H2 fun b H3 =>
        if b = true then te σ2 H3 fun y H4 => ∃ acc, H4 D = some (.lst acc) ∧ acc.length < sizeLine ∧ Nx (upd H4 D (.lst (acc ++ [y]))) else Nx H3) := by
  refine lc_it walk_keys (fun i H => (∀ b o, H1 b = some o → H b = some o) ∧ H D = some (.lst (((kvs.map fun kv => kV kv.1).take i).filterMap f))) ⟨fun b o e => ?_, ?_⟩ (fun i H _ p => p.1 _ _ ht) (fun i x H H' hi p y => ?_) (fun H p => ?_)
  · rw [upd_ne (ne_of_none e nD)]; exact e
  · rw [upd_same]; rfl
  · obtain ⟨rfl, k, v, hk, rfl⟩ := y
    have hx : (kvs.map fun kv => kV kv.1)[i]? = some (kV k) := by rw [List.getElem?_map, hk]; rfl
    refine hs _ (List.mem_of_getElem? hx) _ p.1 _ _ (fun y ey => ⟨_, p.2, Nat.lt_of_le_of_lt (fm_len f _ i) (by rw [List.length_map]; exact hlen), fun b o e => ?_, ?_⟩) fun en => ⟨p.1, ?_⟩
    · rw [upd_ne (ne_of_none e nD)]; exact p.1 _ _ e
    · rw [upd_same, take_filterMap f hx, ey]; rfl
    · rw [take_filterMap f hx, en]; simpa using p.2
  · refine hd H p.1 ?_
    have := p.2
    rwa [List.take_of_length_le (by rw [List.length_map]; exact Nat.le_refl _)] at this
end
end Ph

namespace Ph
open PySem PySem.Spec PyProof.Rows L2
/-! ### zip of a tuple and a list, in any mix (true: a tuple) -/
def SqK (k : Bool) (K : PySem.W.Frag) (H : Hp) (a : Addr) (xs : List V) : Prop := if k = true then SqT K H a xs else SqL K H a xs
def ItrK (k : Bool) (g : Heap) (j l : Addr) (n : Nat) : Prop := if k = true then g.IsTupleIter j l n else g.IsListIter j l n
def SeqK (k : Bool) (g : Heap) (l : Addr) (vs : Array Value) : Prop := if k = true then g.IsTuple l vs else g.IsList l vs
def itoK (k : Bool) (l : Addr) : Obj := if k = true then { cls := .type "tuple_iterator", data := .fields #[.ref l, .int 0 0] } else { cls := .type "list_iterator", data := .fields #[.ref l, .int 0 0] }
theorem ItrK.obj {k : Bool} {g : Heap} {j l : Addr} {n : Nat} (h : ItrK k g j l n) : ∃ o, g.get? j = some o ∧ ∀ v, o.data ≠ .cell v := by
  cases k <;> (obtain ⟨o, e, _, d⟩ := h; exact ⟨o, e, fun v q => by rw [d] at q; cases q⟩)
theorem ItrK.on {k : Bool} {g g' : Heap} {j l : Addr} {n : Nat} (h : ItrK k g j l n) (e : ∀ o, g.get? j = some o → g'.get? j = some o) : ItrK k g' j l n := by
  cases k
  · exact Heap.IsListIter.at h e
  · exact Heap.IsTupleIter.at h e
theorem drawK {P : Program} {w : World} {A : Around} (k : Bool) (hh : A.handled = none) (j l : Addr) (ne : l ≠ j) (vs : Array Value) :
    Draws P w A j [j, l] vs.size (fun i v => vs[i]? = some v) (fun i g => ItrK k g j l i ∧ SeqK k g l vs) := by
  cases k
  · exact Draws.list hh j l ne vs
  · exact Draws.tuple hh j l ne vs
theorem beginK (k : Bool) (l : Addr) (vs : Array Value) : Begins (.ref l) (itoK k l) fun g => SeqK k g l vs := by
  cases k
  · exact begins_list l vs
  · exact begins_tuple l vs
theorem itoK_it {k : Bool} {g : Heap} {j l : Addr} (h : g.get? j = some (itoK k l)) : ItrK k g j l 0 := by
  cases k <;> exact ⟨_, h, rfl, rfl⟩
theorem Inv.seqK {X : Cx} {pins : List (Addr × Obj)} {σ : L2.St} {H : Hp} {s : Shared} {k : Bool} {a : Addr} {xs : List V} (I : Inv X pins σ H s) (h : SqK k X.K H a xs) : ∃ vs : List Value, Vals xs vs ∧ SeqK k s.heap a vs.toArray ∧ a < s.heap.objs.size := by
  cases k
  · obtain ⟨vs, r, p, _⟩ := I.list h
    exact ⟨vs, r, p.isList, p.lt⟩
  · obtain ⟨vs, r, p, _⟩ := I.tuple h
    obtain ⟨o, e, _⟩ := id p
    exact ⟨vs, r, p, Heap.lt_size e⟩
theorem Inv.seqK_inj {X : Cx} {pins : List (Addr × Obj)} {σ : L2.St} {H : Hp} {s : Shared} {k : Bool} {a : Addr} {xs ys : List V} (I : Inv X pins σ H s) (h : SqK k X.K H a xs) (h2 : SqK k X.K H a ys) : xs = ys := by
  cases k
  · exact I.list_inj h h2
  · exact I.tuple_inj h h2
def ItzK (k1 k2 : Bool) (K : PySem.W.Frag) (a b : Addr) : It :=
  ⟨fun i H => ∃ (xs ys : List V) (x y : V), SqK k1 K H a xs ∧ SqK k2 K H b ys ∧ xs[i]? = some x ∧ ys[i]? = some y,
    fun i H v H2 => ∃ T x y, v = .ref T ∧ H T = none ∧ H2 = upd H T (.tup [x, y]) ∧ (∀ xs, SqK k1 K H a xs → xs[i]? = some x) ∧ ∀ ys, SqK k2 K H b ys → ys[i]? = some y,
    fun i H => ∃ xs ys : List V, SqK k1 K H a xs ∧ SqK k2 K H b ys ∧ i ≤ xs.length ∧ i ≤ ys.length ∧ (i = xs.length ∨ i = ys.length)⟩
theorem mem5 {c z t u j1 j2 : Addr} (h : c ∈ [z, t, u, j1, j2]) : c = z ∨ c = t ∨ c = u ∨ c = j1 ∨ c = j2 := by simpa using h
theorem turn_zipK {P : Program} {w : World} {K : PySem.W.Frag} {es : List Expr} {kk : Nat} {tp : Pos} {k1 k2 : Bool} {a b z t u j1 j2 : Addr} (D : ZipSep2 z t u j1 j2 [j1, a] [j2, b]) (n1 : a ≠ j1) (n2 : b ≠ j2) :
    Turn P w K (.Tuple es kk tp) (ItzK k1 k2 K a b) [z, t, u, j1, j2] z (fun i g => IsZip g z t u .none ∧ IsTupOf2 g t (.ref j1) (.ref j2) ∧ (∃ x y, IsTupOf2 g u x y) ∧ ItrK k1 g j1 a i ∧ ItrK k2 g j2 b i) where
  mem := List.mem_cons_self ..
  obj := fun i g st c hc => by
    obtain ⟨hz, ht, ⟨x, y, hu⟩, h1, h2⟩ := st
    rcases mem5 hc with rfl | rfl | rfl | rfl | rfl
    · exact ⟨_, hz, fun v q => nomatch q⟩
    · exact ⟨_, ht, fun v q => nomatch q⟩
    · exact ⟨_, hu, fun v q => nomatch q⟩
    · exact h1.obj
    · exact h2.obj
  keep := fun i g g2 st kp => by
    obtain ⟨hz, ht, ⟨x, y, hu⟩, h1, h2⟩ := st
    exact ⟨kp z (by simp) _ hz, kp t (by simp) _ ht, ⟨x, y, kp u (by simp) _ hu⟩, h1.on fun o => kp j1 (by simp) o, h2.on fun o => kp j2 (by simp) o⟩
  item := by
    intro X eP ew eK hc i pins s σ H E I hf st hg
    subst eP ew eK
    obtain ⟨hz, ht, ⟨x0, y0, hu⟩, h1, h2⟩ := st
    obtain ⟨xs, ys, x, y, qx, qy, gx, gy⟩ := hg
    obtain ⟨vs, r1, p1, _⟩ := Inv.seqK I qx
    obtain ⟨vt, r2, p2, _⟩ := Inv.seqK I qy
    obtain ⟨v1, gv1, rv1⟩ := r1.get gx
    obtain ⟨v2, gv2, rv2⟩ := r2.get gy
    have zl : z < s.heap.objs.size := Heap.lt_size hz
    have l1 : i < vs.toArray.size := by
      have := (List.getElem?_eq_some_iff.mp gv1).1
      simpa using this
    have l2 : i < vt.toArray.size := by
      have := (List.getElem?_eq_some_iff.mp gv2).1
      simpa using this
    have hh : X.A.in1.handled = none := I.ok.hd hc
    refine wpAny_pyNext_zipD2_item D (drawK k1 hh j1 a n1 vs.toArray) (drawK k2 hh j2 b n2 vt.toArray) hz ht hu ⟨h1, p1⟩ ⟨h2, p2⟩ l1 l2 fun y1 y2 g tk e1 e2 hz1 hu1 st1 st2 hT hsz hk => ?_
    have f1 : y1 = v1 := by
      have q : vs.toArray[i]? = some v1 := by simpa using gv1
      rw [q] at e1
      exact (Option.some.inj e1).symm
    have f2 : y2 = v2 := by
      have q : vt.toArray[i]? = some v2 := by simpa using gv2
      rw [q] at e2
      exact (Option.some.inj e2).symm
    subst f1 f2
    refine ⟨_, rfl, wpAny_letOwnedTupleGo_zip (s := { s with heap := g, toks := tk }) hz1 fun g2 hz2 sb => ?_⟩
    have hT2 : g2.get? s.heap.objs.size = some { cls := .type "tuple", data := .seq #[y1, y2] } := (sb.2 _ (Nat.ne_of_gt zl)).trans hT
    have new : ObjOk X.prog X.w (upd H s.heap.objs.size (.tup [x, y])) g2 s.heap.objs.size (.tup [x, y]) :=
      ⟨(by show 2 ≤ sizeLine; decide), [y1, y2], .cons rv1 (.cons rv2 .nil), ⟨_, hT2, rfl, _, rfl⟩⟩
    have I1 : Inv X pins σ (upd H s.heap.objs.size (.tup [x, y])) { s with heap := g2, toks := tk } :=
      I.turnedNew (t' := tk) (ch := [z, t, u, j1, j2]) (fun c o nb q => (sb.2 c (fun e => nb (by simp [e]))).trans (hk c o (fun e => nb (by simp [e])) (fun e => nb (by simp [e])) (fun e => nb (by simp [e])) (fun e => nb (by simp [e])) q)) hf (Nat.le_refl _) new
    refine ⟨.ref s.heap.objs.size, _, I1, rfl, ⟨_, x, y, rfl, I.hok.fresh (Nat.le_refl _), rfl, fun l hl => by rw [Inv.seqK_inj I hl qx]; exact gx, fun l hl => by rw [Inv.seqK_inj I hl qy]; exact gy⟩, ⟨hz2, ?_, ⟨y1, y2, ?_⟩, ?_, ?_⟩, fun c hm => ?_⟩
    · exact (sb.2 _ D.TIz).trans (hk _ _ D.TIz D.TITO D.TIi1 D.TIi2 ht)
    · exact (sb.2 _ D.TOz).trans hu1
    · exact st1.1.on fun o q => (sb.2 _ D.zi1.symm).trans q
    · exact st2.1.on fun o q => (sb.2 _ D.zi2.symm).trans q
    · have lt : c < s.heap.objs.size := by
        rcases mem5 hm with rfl | rfl | rfl | rfl | rfl
        · exact zl
        · exact Heap.lt_size ht
        · exact Heap.lt_size hu
        · obtain ⟨_, e, _⟩ := h1.obj
          exact Heap.lt_size e
        · obtain ⟨_, e, _⟩ := h2.obj
          exact Heap.lt_size e
      rw [upd_ne (Nat.ne_of_lt lt)]
      exact (hf c hm).1
  done := by
    intro X eP ew eK hc i pins s σ H E I hf st hg
    subst eP ew eK
    obtain ⟨hz, ht, ⟨x0, y0, hu⟩, h1, h2⟩ := st
    obtain ⟨xs, ys, qx, qy, le1, le2, hend⟩ := hg
    obtain ⟨vs, r1, p1, _⟩ := Inv.seqK I qx
    obtain ⟨vt, r2, p2, _⟩ := Inv.seqK I qy
    have m1 := r1.length
    have m2 := r2.length
    have hh : X.A.in1.handled = none := I.ok.hd hc
    have s1 : vs.toArray.size = xs.length := by simp [m1]
    have s2 : vt.toArray.size = ys.length := by simp [m2]
    exact wpAny_pyNext_zipD2_end D (drawK k1 hh j1 a n1 vs.toArray) (drawK k2 hh j2 b n2 vt.toArray) hz ht hu ⟨h1, p1⟩ ⟨h2, p2⟩ (by rw [s1]; exact le1) (by rw [s2]; exact le2) (by rw [s1, s2]; exact hend) fun g tk hk =>
      ⟨rfl, I.turnedL (t' := tk) (ch := [z, t, u, j1, j2]) (fun c o nb q => hk c o (fun e => nb (by simp [e])) (fun e => nb (by simp [e])) (fun e => nb (by simp [e])) (fun e => nb (by simp [e])) q) hf⟩
  self := fun A i s Q E st h => wpAny_pyIter_zip st.1 h
def iZipK (k1 k2 : Bool) (K : PySem.W.Frag) (ta : TA) : TI := fun σ H R => ta σ H fun us H1 => ∃ a b xs ys, us = [.ref a, .ref b] ∧ SqK k1 K H1 a xs ∧ SqK k2 K H1 b ys ∧ R (ItzK k1 k2 K a b) H1
theorem pi_zipK {k1 k2 : Bool} {X : Cx} {e e2 : Expr} {ta : TA} {p pos tp : Pos} {es : List Expr} {kk : Nat} (hg : Gl X "zip") (hm : X.mg "zip" = none) (ha : PA X [e, e2] ta)
    (hs : starEach [e, e2] X.env = (false, eval e X.env) :: starEach [e2] X.env := by rfl) (hp : (backTo pos (starEach [e2] X.env)).any (·.1) = false := by rfl) :
    PI X (.Tuple es kk tp) (.Call (.Name "zip" p) [e, e2] [] pos) (iZipK k1 k2 X.K ta) := by
  refine ⟨fun pins s σ H R I h => ?_⟩
  refine Call_ (ld_blt I hg hm PyProof.Rows.boot_zip (PyProof.Rows.callWith_type1 (thn (ha.run pos pins s σ H _ I h) fun us s1 ⟨vs, H1, I1, rs, q1⟩ => ?_) hs hp))
  obtain ⟨a, b, xs, ys, rfl, qx, qy, q⟩ := q1
  cases rs with
  | cons r rr =>
    cases rr with
    | cons r2 rr =>
      cases rr
      cases r
      cases r2
      obtain ⟨va, _, p1, la⟩ := Inv.seqK I1 qx
      obtain ⟨vb, _, p2, lb⟩ := Inv.seqK I1 qy
      refine zip_begins2 (beginK k1 a va.toArray) (beginK k2 b vb.toArray) p1 p2 fun g hz ht hu g1 g2 hsz hk => wpAny_pyIter_zip hz ?_
      have I2 : Inv X pins σ H1 { s1 with heap := g } := I1.kept (t' := s1.toks) hk
      refine ⟨s1.heap.objs.size + 4, [s1.heap.objs.size + 4, s1.heap.objs.size + 2, s1.heap.objs.size + 3, s1.heap.objs.size, s1.heap.objs.size + 1], _, _, H1, rfl, I2, turn_zipK (k1 := k1) (k2 := k2) (zip_sep2 (fp1 := [a]) (fp2 := [b]) ?_ ?_) ?_ ?_, ⟨hz, ht, ⟨_, _, hu⟩, itoK_it g1, itoK_it g2⟩, fun c hm => ?_, q⟩
      · intro c hcm
        rw [List.mem_singleton.mp hcm]
        exact la
      · intro c hcm
        rw [List.mem_singleton.mp hcm]
        exact lb
      · exact Nat.ne_of_lt la
      · exact Nat.ne_of_lt (Nat.lt_succ_of_lt lb)
      · have le : s1.heap.objs.size ≤ c := by
          rcases mem5 hm with rfl | rfl | rfl | rfl | rfl <;> first | exact Nat.le_add_right _ _ | exact Nat.le_refl _
        exact I1.fpOk le (I1.hok.fresh le)
/-- a loop over such a zip -/
theorem for_zipK {k1 k2 : Bool} {K : PySem.W.Frag} {a b : Addr} {xs ys : List V} {g : TG} {tb : TS} {D : Ends} {σ : L2.St} {H : Hp} (n : Nat) (hn : n = min xs.length ys.length) (Pv : Nat → L2.St → Hp → Prop) (h0 : Pv 0 σ H) (hq : ∀ i σ H, Pv i σ H → SqK k1 K H a xs ∧ SqK k2 K H b ys)
    (hs : ∀ (i : Nat) (x y : V) (T : Addr) (σ : L2.St) (H : Hp), i < n → xs[i]? = some x → ys[i]? = some y → Pv i σ H → H T = none → g (.ref T) σ (upd H T (.tup [x, y])) fun σ2 H2 => tb { D with nx := Pv (i + 1), ct := Pv (i + 1), bk := D.nx } σ2 H2) (hd : ∀ σ H, Pv n σ H → D.nx σ H) :
    ∃ W : Nat → Nat → L2.St → Hp → Prop, (∃ m, W 0 m σ H) ∧ ∀ i m σ H, W i m σ H →
      ((ItzK k1 k2 K a b).stop i H ∧ D.nx σ H) ∨ ((ItzK k1 k2 K a b).go i H ∧ ∃ N : L2.St → Hp → Prop, (∀ σ' H', N σ' H' → ∃ m', m' < m ∧ W (i + 1) m' σ' H') ∧ ∀ v H', (ItzK k1 k2 K a b).yld i H v H' → g v σ H' fun σ2 H2 => tb { D with nx := N, ct := N, bk := D.nx } σ2 H2) := by
  refine ⟨fun i m σ H => m = n - i ∧ i ≤ n ∧ Pv i σ H, ⟨n, rfl, Nat.zero_le _, h0⟩, ?_⟩
  rintro i m σ H ⟨rfl, hi, p⟩
  obtain ⟨qx, qy⟩ := hq i σ H p
  rcases Nat.lt_or_ge i n with lt | ge
  · have l1 : i < xs.length := by omega
    have l2 : i < ys.length := by omega
    refine .inr ⟨⟨xs, ys, _, _, qx, qy, List.getElem?_eq_getElem l1, List.getElem?_eq_getElem l2⟩, Pv (i + 1), fun σ' H' p' => ⟨n - (i + 1), by omega, rfl, lt, p'⟩, fun v H' yl => ?_⟩
    obtain ⟨T, x, y, rfl, nT, rfl, f1, f2⟩ := yl
    exact hs i x y T σ H lt (f1 xs qx) (f2 ys qy) p nT
  · have e : i = n := Nat.le_antisymm hi ge
    subst e
    exact .inl ⟨⟨xs, ys, qx, qy, by omega, by omega, by omega⟩, hd σ H p⟩
end Ph

namespace Ph
/-! ### the bounds, as sums over chunks -/
def cdw (x s : Nat) : Nat := (x + s - 1) / s
theorem lt_cdw {x s k : Nat} (h : 0 < s) : k < cdw x s ↔ k * s < x := by
  unfold cdw
  show k + 1 ≤ _ ↔ _
  rw [Nat.le_div_iff_mul_le h, Nat.add_mul, Nat.one_mul]
  omega
theorem cdw_mono {x y s : Nat} (h : x ≤ y) : cdw x s ≤ cdw y s := Nat.div_le_div_right (by omega)
theorem cdw_mul {n s : Nat} (h : 0 < s) : cdw (n * s) s = n := by
  unfold cdw
  rw [Nat.div_eq_iff (by omega)]
  have : n * s + s = (n + 1) * s := by rw [Nat.add_mul, Nat.one_mul]
  omega
theorem le_cdw {x s : Nat} (h : 0 < s) : x ≤ cdw x s * s := by
  by_cases c : x ≤ cdw x s * s
  · exact c
  · have := (lt_cdw (x := x) (k := cdw x s) h).mpr (by omega)
    omega
theorem cdw_lt {x s : Nat} (h : 0 < s) : cdw x s * s < x + s := by
  cases e : cdw x s with
  | zero => omega
  | succ k =>
    have := (lt_cdw (x := x) (k := k) h).mp (by omega)
    rw [Nat.add_mul, Nat.one_mul]
    omega
def sm (f : Nat → Nat) : Nat → Nat
  | 0 => 0
  | n + 1 => sm f n + f n
theorem sm_mono {f : Nat → Nat} {a : Nat} : ∀ {c : Nat}, a ≤ c → sm f a ≤ sm f c
  | 0, h => by rw [Nat.le_zero.mp h]; exact Nat.le_refl _
  | c + 1, h => by
    rcases Nat.lt_or_ge a (c + 1) with z | z
    · exact Nat.le_trans (sm_mono (Nat.le_of_lt_succ z)) (Nat.le_add_right _ _)
    · rw [Nat.le_antisymm h z]; exact Nat.le_refl _
theorem sm_le {f g : Nat → Nat} : ∀ {n : Nat}, (∀ k, k < n → f k ≤ g k) → sm f n ≤ sm g n
  | 0, _ => Nat.le_refl _
  | n + 1, h => Nat.add_le_add (sm_le fun k hk => h k (Nat.lt_succ_of_lt hk)) (h n (Nat.lt_succ_self n))
theorem sm_congr {f g : Nat → Nat} : ∀ {n : Nat}, (∀ k, k < n → f k = g k) → sm f n = sm g n
  | 0, _ => rfl
  | n + 1, h => by
    show sm f n + f n = sm g n + g n
    rw [sm_congr fun k hk => h k (Nat.lt_succ_of_lt hk), h n (Nat.lt_succ_self n)]
theorem sm_const {f : Nat → Nat} {a v : Nat} : ∀ {c : Nat}, a ≤ c → (∀ k, a ≤ k → k < c → f k = v) → sm f c = sm f a + v * (c - a)
  | 0, h, _ => by rw [Nat.le_zero.mp h]; rfl
  | c + 1, h, hf => by
    rcases Nat.lt_or_ge a (c + 1) with z | z
    · show sm f c + f c = _
      rw [sm_const (Nat.le_of_lt_succ z) fun k h1 h2 => hf k h1 (Nat.lt_succ_of_lt h2), hf c (Nat.le_of_lt_succ z) (Nat.lt_succ_self c), Nat.succ_sub (Nat.le_of_lt_succ z), Nat.mul_succ]
      omega
    · rw [Nat.le_antisymm h z]
      simp
theorem sm_ge {f : Nat → Nat} {v : Nat} : ∀ {n : Nat}, (∀ k, k < n → v ≤ f k) → n * v ≤ sm f n
  | 0, _ => by omega
  | n + 1, h => by
    have := sm_ge (n := n) fun k hk => h k (Nat.lt_succ_of_lt hk)
    have := h n (Nat.lt_succ_self n)
    show (n + 1) * v ≤ sm f n + f n
    rw [Nat.add_mul, Nat.one_mul]
    omega
/-- every r-th number alone -/
theorem sm_step {f : Nat → Nat} {r : Nat} (hr : 1 ≤ r) : ∀ {a n : Nat}, (a = 0 ∨ (a - 1) * r < n) → sm (fun k => f (k * r)) a ≤ sm f n
  | 0, _, _ => Nat.zero_le _
  | a + 1, n, h => by
    have h1 : a * r < n := by rcases h with z | z; · omega
                              · exact z
    have ih : sm (fun k => f (k * r)) a ≤ sm f (a * r) := by
      refine sm_step hr ?_
      cases a with
      | zero => exact .inl rfl
      | succ a => 
        right
        show a * r < (a + 1) * r
        rw [Nat.add_mul, Nat.one_mul]
        omega
    show sm _ a + f (a * r) ≤ _
    exact Nat.le_trans (Nat.add_le_add_right ih _) (sm_mono (f := f) (a := a * r + 1) h1)
/-- the class of the blocks that reach x: the first below i whose number is greater -/
def cls (b : Nat → Nat) : Nat → Nat → Nat
  | 0, _ => 0
  | i + 1, x => if cls b i x < i then cls b i x else if x < b i then i else i + 1
theorem cls_le (b : Nat → Nat) : ∀ (i x : Nat), cls b i x ≤ i
  | 0, _ => Nat.le_refl _
  | i + 1, x => by
    have := cls_le b i x
    unfold cls
    split
    · omega
    · split <;> omega
theorem cls_hi {b : Nat → Nat} : ∀ {i x : Nat}, cls b i x < i → x < b (cls b i x)
  | 0, _, h => absurd h (by omega)
  | i + 1, x, h => by
    unfold cls at h ⊢
    split
    · rename_i c
      exact cls_hi c
    · rename_i c
      rw [if_neg c] at h
      split
      · rename_i c2
        exact c2
      · rename_i c2
        rw [if_neg c2] at h
        omega
theorem cls_lo {b : Nat → Nat} : ∀ {i x j : Nat}, j < cls b i x → b j ≤ x
  | 0, _, _, h => absurd h (by unfold cls; omega)
  | i + 1, x, j, h => by
    have l := cls_le b i x
    unfold cls at h
    by_cases c : cls b i x < i
    · rw [if_pos c] at h
      exact cls_lo h
    · rw [if_neg c] at h
      by_cases c2 : x < b i
      · rw [if_pos c2] at h
        exact cls_lo (i := i) (by omega)
      · rw [if_neg c2] at h
        by_cases e : j = i
        · rw [e]; omega
        · exact cls_lo (i := i) (by omega)
theorem cls_eq {b : Nat → Nat} {i x j : Nat} (hj : j ≤ i) (lo : ∀ j', j' < j → b j' ≤ x) (hi : j < i → x < b j) : cls b i x = j := by
  have l := cls_le b i x
  rcases Nat.lt_trichotomy (cls b i x) j with z | z | z
  · have h1 := cls_hi (b := b) (i := i) (x := x) (by omega)
    have h2 := lo _ z
    omega
  · exact z
  · have h1 := cls_lo z
    have h2 := hi (by omega)
    omega
theorem cls_anti {b b' : Nat → Nat} {i x : Nat} (h : ∀ j, j < i → b j ≤ b' j) : cls b' i x ≤ cls b i x := by
  rcases Nat.lt_or_ge (cls b i x) (cls b' i x) with z | z
  · have l := cls_le b' i x
    have h1 := cls_hi (b := b) (i := i) (x := x) (by omega)
    have h2 := cls_lo z
    have h3 := h (cls b i x) (by omega)
    omega
  · exact z
def pvn (b : Nat → Nat) (t : Nat) : Nat → Nat
  | 0 => 0
  | j + 1 => cdw (b j) t
/-- the words that keep busy all chunks of t words before the numbers of the first i classes -/
def Lw (s b : Nat → Nat) (t i : Nat) : Nat := sm (fun j => s j * (pvn b t (j + 1) - pvn b t j)) i
theorem lw_sum {s b : Nat → Nat} {t i : Nat} (ht : 0 < t) (hm : ∀ j, j + 1 < i → b j ≤ b (j + 1)) : ∀ j, j ≤ i → Lw s b t j = sm (fun k => s (cls b i (k * t))) (pvn b t j)
  | 0, _ => rfl
  | j + 1, hj => by
    have mm : ∀ d j', j' + d + 1 = j → b j' ≤ b (j - 1) := by
      intro d
      induction d with
      | zero => intro j' e; have : j - 1 = j' := by omega
                rw [this]; exact Nat.le_refl _
      | succ d ih => intro j' e; exact Nat.le_trans (hm j' (by omega)) (ih (j' + 1) (by omega))
    have le : pvn b t j ≤ pvn b t (j + 1) := by
      cases j with
      | zero => exact Nat.zero_le _
      | succ j => exact cdw_mono (hm j (by omega))
    show Lw s b t j + s j * _ = _
    rw [lw_sum ht hm j (by omega), sm_const le (v := s j) fun k h1 h2 => ?_]
    have e : cls b i (k * t) = j := by
      refine cls_eq (by omega) (fun j' hj' => ?_) (fun _ => (lt_cdw ht).mp h2)
      cases j with
      | zero => omega
      | succ j0 =>
        have h3 : ¬ k * t < b j0 := fun h => by
          have := (lt_cdw ht).mpr h
          have h1' : cdw (b j0) t ≤ k := h1
          omega
        have h4 := mm (j0 - j') j' (by omega)
        show b j' ≤ k * t
        have : j0 + 1 - 1 = j0 := rfl
        rw [this] at h4
        omega
    rw [e]
structure CH (s : Nat → Nat) (m : Nat) : Prop where
  s0 : s 0 = 1
  dv : ∀ i, i + 1 < m → ∃ r, 1 ≤ r ∧ s (i + 1) = s i * r
theorem CH.pos {s : Nat → Nat} {m : Nat} (c : CH s m) : ∀ {i}, i < m → 1 ≤ s i
  | 0, _ => by rw [c.s0]; exact Nat.le_refl _
  | i + 1, h => by
    obtain ⟨r, hr, e⟩ := c.dv i h
    rw [e]
    exact Nat.le_trans (Nat.le_refl 1) (Nat.mul_le_mul (c.pos (by omega)) hr)
theorem CH.mono1 {s : Nat → Nat} {m i : Nat} (c : CH s m) (h : i + 1 < m) : s i ≤ s (i + 1) := by
  obtain ⟨r, hr, e⟩ := c.dv i h
  rw [e]
  exact Nat.le_mul_of_pos_right _ hr
theorem CH.mono {s : Nat → Nat} {m i : Nat} (c : CH s m) : ∀ {j}, i ≤ j → j < m → s i ≤ s j
  | 0, h, _ => by rw [Nat.le_zero.mp h]; exact Nat.le_refl _
  | j + 1, h, hj => by
    rcases Nat.lt_or_ge i (j + 1) with z | z
    · exact Nat.le_trans (c.mono (Nat.le_of_lt_succ z) (by omega)) (c.mono1 hj)
    · rw [Nat.le_antisymm h z]; exact Nat.le_refl _
theorem CH.dvd {s : Nat → Nat} {m i : Nat} (c : CH s m) : ∀ {j}, i ≤ j → j < m → ∃ r, 1 ≤ r ∧ s j = s i * r
  | 0, h, _ => by rw [Nat.le_zero.mp h]; exact ⟨1, Nat.le_refl _, by rw [Nat.mul_one]⟩
  | j + 1, h, hj => by
    rcases Nat.lt_or_ge i (j + 1) with z | z
    · obtain ⟨r, hr, e⟩ := c.dvd (Nat.le_of_lt_succ z) (by omega)
      obtain ⟨r2, hr2, e2⟩ := c.dv j hj
      exact ⟨r * r2, Nat.le_trans (Nat.le_refl 1) (Nat.mul_le_mul hr hr2), by rw [e2, e, Nat.mul_assoc]⟩
    · rw [Nat.le_antisymm h z]; exact ⟨1, Nat.le_refl _, by rw [Nat.mul_one]⟩
structure BD (s b : Nat → Nat) (m M : Nat) : Prop where
  b0 : b 0 = M
  bs : ∀ i, i + 1 < m → b (i + 1) = s (i + 1) * (cdw (b i) (s (i + 1)) + (M - Lw s b (s (i + 1)) (i + 1)) / s (i + 1))
def SS (s b : Nat → Nat) (i n : Nat) : Nat := sm (fun k => s (cls b i (k * s i))) n
section
variable {s b : Nat → Nat} {m M : Nat} (c : CH s m) (B : BD s b m M)
include c B
theorem BD.up {i : Nat} (h : i + 1 < m) : b i ≤ b (i + 1) := by
  have p := c.pos h
  rw [B.bs i h]
  have := le_cdw (x := b i) p
  rw [Nat.mul_comm] at this
  exact Nat.le_trans this (Nat.mul_le_mul_left _ (Nat.le_add_right _ _))
theorem BD.mono {i : Nat} : ∀ {j}, i ≤ j → j < m → b i ≤ b j
  | 0, h, _ => by rw [Nat.le_zero.mp h]; exact Nat.le_refl _
  | j + 1, h, hj => by
    rcases Nat.lt_or_ge i (j + 1) with z | z
    · exact Nat.le_trans (BD.mono (Nat.le_of_lt_succ z) (by omega)) (B.up c hj)
    · rw [Nat.le_antisymm h z]; exact Nat.le_refl _
theorem BD.num {i : Nat} (h : i < m) : b i / s i * s i = b i := by
  have p := c.pos h
  cases i with
  | zero => rw [c.s0]; omega
  | succ i => rw [B.bs i h, Nat.mul_div_cancel_left _ p, Nat.mul_comm]
theorem BD.ss_lw {i : Nat} (h : i < m) : Lw s b (s i) i = SS s b i (pvn b (s i) i) := lw_sum (s := s) (b := b) (c.pos h) (fun j hj => B.up c (by omega)) i (Nat.le_refl _)
theorem BD.key : ∀ {i : Nat}, i < m → SS s b i (b i / s i) ≤ M ∧ M < SS s b i (b i / s i) + s i ∧ Lw s b (s i) i ≤ M
  | 0, h => by
    have e : ∀ n, SS s b 0 n = n := fun n => by
      unfold SS
      rw [sm_const (f := fun k => s (cls b 0 (k * s 0))) (a := 0) (v := 1) (Nat.zero_le n) fun k _ _ => c.s0]
      show 0 + _ = _
      omega
    rw [e, c.s0, B.b0]
    refine ⟨by omega, by omega, Nat.zero_le _⟩
  | i + 1, h => by
    have p := c.pos h
    obtain ⟨k1, k2, k3⟩ := BD.key (i := i) (by omega)
    have hL : Lw s b (s (i + 1)) (i + 1) ≤ M := by
      rw [B.ss_lw c h]
      show SS s b (i + 1) (cdw (b i) (s (i + 1))) ≤ M
      obtain ⟨r, hr, er⟩ := c.dv i h
      refine Nat.le_trans (Nat.le_trans (m := sm (fun k => (fun q => s (cls b i (q * s i))) (k * r)) (cdw (b i) (s (i + 1)))) (sm_le fun k hk => ?_) (sm_step (f := fun q => s (cls b i (q * s i))) hr (n := b i / s i) ?_)) k1
      · have hk2 := (lt_cdw p).mp hk
        have e : k * s (i + 1) = k * r * s i := by rw [er, Nat.mul_assoc, Nat.mul_comm (s i) r]
        dsimp only
        rw [e] at hk2 ⊢
        have : cls b (i + 1) (k * r * s i) = cls b i (k * r * s i) := by
          have l := cls_le b i (k * r * s i)
          show (if cls b i (k * r * s i) < i then cls b i (k * r * s i) else if k * r * s i < b i then i else i + 1) = _
          split
          · rfl
          · omega
        rw [this]
        exact Nat.le_refl _
      · cases e : cdw (b i) (s (i + 1)) with
        | zero => exact .inl rfl
        | succ a =>
          right
          have h1 := (lt_cdw (x := b i) (k := a) p).mp (by omega)
          rw [er, Nat.mul_comm (s i) r, ← Nat.mul_assoc, ← B.num c (i := i) (by omega)] at h1
          exact Nat.lt_of_mul_lt_mul_right h1
    have hS : SS s b (i + 1) (b (i + 1) / s (i + 1)) = Lw s b (s (i + 1)) (i + 1) + s (i + 1) * ((M - Lw s b (s (i + 1)) (i + 1)) / s (i + 1)) := by
      rw [B.bs i h, Nat.mul_div_cancel_left _ p]
      generalize (M - Lw s b (s (i + 1)) (i + 1)) / s (i + 1) = d
      rw [B.ss_lw c h]
      show SS s b (i + 1) (cdw (b i) (s (i + 1)) + d) = SS s b (i + 1) (cdw (b i) (s (i + 1))) + _
      unfold SS
      rw [sm_const (a := cdw (b i) (s (i + 1))) (v := s (i + 1)) (Nat.le_add_right _ _) fun k h1 _ => ?_, Nat.add_sub_cancel_left]
      have e : cls b (i + 1) (k * s (i + 1)) = i + 1 := by
        refine cls_eq (Nat.le_refl _) (fun j hj => ?_) (fun z => absurd z (by omega))
        have h3 : ¬ k * s (i + 1) < b i := fun z => by
          have := (lt_cdw p).mpr z
          omega
        have := B.mono c (i := j) (j := i) (by omega) (by omega)
        omega
      rw [e]
    rw [hS]
    have d1 := Nat.div_mul_le_self (M - Lw s b (s (i + 1)) (i + 1)) (s (i + 1))
    have d2 := Nat.lt_div_mul_add (a := M - Lw s b (s (i + 1)) (i + 1)) p
    rw [Nat.mul_comm] at d1 d2
    exact ⟨by omega, by omega, hL⟩
theorem BD.iff {i n : Nat} (h : i < m) : n ≤ b i / s i ↔ SS s b i n ≤ M := by
  obtain ⟨k1, k2, k3⟩ := B.key c h
  constructor
  · intro z
    exact Nat.le_trans (sm_mono z) k1
  · intro z
    rcases Nat.lt_or_ge (b i / s i) n with y | y
    · have h1 : SS s b i (b i / s i + 1) ≤ SS s b i n := sm_mono y
      have h2 : SS s b i (b i / s i + 1) = SS s b i (b i / s i) + s i := by
        show _ + s (cls b i (b i / s i * s i)) = _
        rw [B.num c h, cls_eq (Nat.le_refl i) (fun j hj => B.mono c (by omega) h) (fun z => absurd z (by omega))]
        rfl
      omega
    · exact y
theorem BD.ge {i : Nat} (h : i < m) : M ≤ b i := by
  have := B.mono c (i := 0) (Nat.zero_le i) h
  rw [B.b0] at this
  exact this
omit B in
theorem SS_anti {t b' : Nat → Nat} {i i' n : Nat} (hs : s i = t i') (h : ∀ k, t (cls b' i' (k * s i)) ≤ s (cls b i (k * s i))) : SS t b' i' n ≤ SS s b i n := by
  unfold SS
  rw [← hs]
  exact sm_le fun k _ => h k
omit B in
/-- fewer live words never reach further -/
theorem BD.le {b' : Nat → Nat} {M' : Nat} (B : BD s b m M) (B' : BD s b' m M') (h : M ≤ M') : ∀ i, i < m → b i ≤ b' i := by
  intro i
  induction i using Nat.strongRecOn with
  | ind i ih =>
    intro hi
    have h1 : b i / s i ≤ b' i / s i := by
      rw [B'.iff c hi]
      refine Nat.le_trans (SS_anti c rfl fun k => ?_) (Nat.le_trans ((B.key c hi).1) h)
      refine c.mono (cls_anti fun j hj => ih j hj (by omega)) ?_
      have := cls_le b i (k * s i)
      omega
    rw [← B.num c hi, ← B'.num c hi]
    exact Nat.mul_le_mul_right _ h1
omit B in
/-- a page more of words needs a page more -/
theorem BD.more {b' : Nat → Nat} {i : Nat} (B : BD s b m M) (hi : i < m) (B' : BD s b' m (M + s i)) : b i / s i + 1 ≤ b' i / s i := by
  rw [B'.iff c hi]
  show SS s b' i (b i / s i) + s (cls b' i (b i / s i * s i)) ≤ _
  have h1 : SS s b' i (b i / s i) ≤ M := by
    refine Nat.le_trans (SS_anti c rfl fun k => ?_) ((B.key c hi).1)
    refine c.mono (cls_anti fun j hj => BD.le c B B' (Nat.le_add_right _ _) j (by omega)) ?_
    have := cls_le b i (k * s i)
    omega
  have h2 : s (cls b' i (b i / s i * s i)) ≤ s i := c.mono (cls_le _ _ _) hi
  omega
/-- with sizes left out no class reaches further -/
theorem BD.fewer {t b' σ : Nat → Nat} {p : Nat} (ct : CH t p) (B' : BD t b' p M) (e : ∀ a, a < p → t a = s (σ a)) (lt : ∀ a, a < p → σ a < m) (up : ∀ a a', a < a' → a' < p → σ a < σ a') : ∀ a, a < p → b' a ≤ b (σ a) := by
  intro a
  induction a using Nat.strongRecOn with
  | ind a ih =>
    intro ha
    have h1 : b' a / t a ≤ b (σ a) / s (σ a) := by
      rw [B.iff c (lt a ha)]
      refine Nat.le_trans (SS_anti ct (s := t) (t := s) (b := b') (b' := b) (i := a) (i' := σ a) (e a ha) fun k => ?_) ((B'.key ct ha).1)
      have l := cls_le b' a (k * t a)
      have l2 := cls_le b (σ a) (k * t a)
      rw [e _ (Nat.lt_of_le_of_lt l ha)]
      refine c.mono ?_ (lt _ (Nat.lt_of_le_of_lt l ha))
      rcases Nat.lt_or_ge (cls b' a (k * t a)) a with z | z
      · rcases Nat.lt_or_ge (σ (cls b' a (k * t a))) (cls b (σ a) (k * t a)) with y | y
        · have h2 := cls_hi z
          have h3 := ih _ z (by omega)
          have h4 := cls_lo y
          omega
        · exact y
      · rw [Nat.le_antisymm l z]
        exact l2
    rw [← B'.num ct ha, ← B.num c (lt a ha), e a ha]
    rw [e a ha] at h1
    exact Nat.mul_le_mul_right _ h1
/-- careless rules open at least as many pages -/
theorem BD.careless {i : Nat} (hi : i < m) (h0 : 0 < b i) : ∃ j, j ≤ i ∧ s j ≤ M ∧ (b i / s i - 1) * (s i / s j) + s j ≤ M := by
  have p := c.pos hi
  have hn := B.num c hi
  have n0 : 0 < b i / s i := by
    rcases Nat.eq_zero_or_pos (b i / s i) with z | z
    · rw [z] at hn; omega
    · exact z
  generalize hx : (b i / s i - 1) * s i = x
  have l := cls_le b i x
  have hj : cls b i x < m := by omega
  have pj := c.pos hj
  obtain ⟨r, hr, er⟩ := c.dvd l hi
  have hq : s i / s (cls b i x) = r := by rw [er]; exact Nat.mul_div_cancel_left _ pj
  rw [← hx] at hq er pj hj l
  rw [← hx] at *
  generalize hc : cls b i ((b i / s i - 1) * s i) = j at *
  have ex : (b i / s i - 1) * s i = (b i / s i - 1) * r * s j := by rw [er, Nat.mul_assoc, Nat.mul_comm (s j) r]
  have lo : ∀ j', j' < j → b j' ≤ (b i / s i - 1) * r * s j := fun j' hj' => by
    rw [← ex]
    exact cls_lo (by rw [hc]; exact hj')
  have h1 : (b i / s i - 1) * r + 1 ≤ b j / s j := by
    have h2 : (b i / s i - 1) * r * s j < b j := by
      rcases Nat.lt_or_ge j i with z | z
      · rw [← ex]
        have := cls_hi (b := b) (i := i) (x := (b i / s i - 1) * s i) (by omega)
        rw [hc] at this
        exact this
      · have : j = i := by omega
        rw [← ex, this, ← hn]
        have h3 : b i / s i * s i / s i = b i / s i := Nat.mul_div_cancel _ p
        rw [h3]
        exact Nat.mul_lt_mul_of_pos_right (by omega) p
    rw [← B.num c hj] at h2
    exact Nat.lt_of_mul_lt_mul_right h2
  rw [B.iff c hj] at h1
  have h3 : SS s b j ((b i / s i - 1) * r + 1) = SS s b j ((b i / s i - 1) * r) + s j := by
    show _ + s (cls b j ((b i / s i - 1) * r * s j)) = _
    rw [cls_eq (Nat.le_refl j) lo (fun z => absurd z (by omega))]
    rfl
  have h4 : (b i / s i - 1) * r * 1 ≤ SS s b j ((b i / s i - 1) * r) := sm_ge fun k _ => c.pos (Nat.lt_of_le_of_lt (cls_le _ _ _) hj)
  refine ⟨j, l, by omega, ?_⟩
  rw [hq]
  omega

theorem pvn_dv {t t' r : Nat} (ht : 0 < t) (hr : 1 ≤ r) (e : t' = t * r) {j : Nat} (hd : ∀ j', j' < j → ∃ q, b j' = t' * q) : pvn b t j = r * pvn b t' j := by
  cases j with
  | zero => rfl
  | succ j =>
    obtain ⟨q, hq⟩ := hd j (Nat.lt_succ_self j)
    show cdw (b j) t = r * cdw (b j) t'
    have p : 0 < t' := by rw [e]; exact Nat.mul_pos ht hr
    have e1 : b j = q * t' := by rw [hq, Nat.mul_comm]
    have e2 : b j = (r * q) * t := by rw [hq, e, Nat.mul_comm r q, Nat.mul_assoc, Nat.mul_comm q, Nat.mul_assoc, Nat.mul_comm t, Nat.mul_comm r q]; simp [Nat.mul_assoc, Nat.mul_comm, Nat.mul_left_comm]
    rw [e2, cdw_mul ht, ← e2, e1, cdw_mul p]
omit c B in
theorem sm_mulL {f g : Nat → Nat} {r : Nat} : ∀ {n : Nat}, (∀ k, k < n → f k = r * g k) → sm f n = r * sm g n
  | 0, _ => rfl
  | n + 1, h => by
    show sm f n + f n = r * (sm g n + g n)
    rw [sm_mulL fun k hk => h k (Nat.lt_succ_of_lt hk), h n (Nat.lt_succ_self n), Nat.mul_add]
/-- limits that are multiples of the page times each ratio -/
theorem BD.exact {p : Nat} (hp : p + 1 = m) (hM : ∀ i, i + 1 < m → ∃ r u, 1 ≤ r ∧ s (i + 1) = s i * r ∧ M = s p * r * u) (h0 : ∃ u, M = s p * u) :
    ∀ i, i < m → (∀ j, j ≤ i → ∃ q, b j = s p * q) ∧ Lw s b (s i) (i + 1) = M ∧ ∀ j, j + 1 ≤ i → b (j + 1) + M / (s (j + 1) / s j) = b j + M := by
  intro i
  induction i with
  | zero =>
    intro h
    refine ⟨fun j hj => ?_, ?_, fun j hj => absurd hj (by omega)⟩
    · rw [Nat.le_zero.mp hj, B.b0]
      exact h0
    · show 0 + s 0 * (cdw (b 0) (s 0) - 0) = M
      rw [c.s0, B.b0]
      have := cdw_mul (n := M) (s := 1) (by omega)
      rw [Nat.mul_one] at this
      rw [this]
      omega
  | succ i ih =>
    intro h
    obtain ⟨i1, i2, i3⟩ := ih (by omega)
    obtain ⟨r, u, hr, er, eM⟩ := hM i h
    have pi := c.pos (i := i) (by omega)
    have pt := c.pos h
    obtain ⟨v, hv, ev⟩ := c.dvd (i := i + 1) (j := p) (by omega) (by omega)
    have hd : ∀ j', j' < i + 1 → ∃ q, b j' = s (i + 1) * q := fun j' hj => by
      obtain ⟨q, hq⟩ := i1 j' (by omega)
      exact ⟨v * q, by rw [hq, ev, Nat.mul_assoc]⟩
    have eL : Lw s b (s i) (i + 1) = r * Lw s b (s (i + 1)) (i + 1) := by
      unfold Lw
      refine sm_mulL fun j hj => ?_
      rw [pvn_dv c B pi hr er (j := j + 1) fun j' hj' => hd j' (by omega), pvn_dv c B pi hr er (j := j) fun j' hj' => hd j' (by omega), ← Nat.mul_sub, Nat.mul_left_comm]
    have eq : Lw s b (s (i + 1)) (i + 1) = s p * u := by
      rw [i2, eM] at eL
      have : r * (s p * u) = r * Lw s b (s (i + 1)) (i + 1) := by rw [← eL, Nat.mul_left_comm, Nat.mul_assoc]
      exact (Nat.eq_of_mul_eq_mul_left (by omega) this).symm
    have eMr : M = r * (s p * u) := by rw [eM, Nat.mul_comm (s p) r, Nat.mul_assoc]
    have hle : s p * u ≤ M := by rw [eMr]; exact Nat.le_mul_of_pos_left _ (by omega)
    have eMs : M - s p * u = s (i + 1) * (v * ((r - 1) * u)) := by
      have : M = s p * u + (r - 1) * (s p * u) := by
        rw [eMr]
        conv => lhs; rw [show r = 1 + (r - 1) by omega, Nat.add_mul, Nat.one_mul]
      rw [this, Nat.add_sub_cancel_left, ev]
      simp [Nat.mul_assoc, Nat.mul_comm, Nat.mul_left_comm]
    obtain ⟨q, hq⟩ := hd i (by omega)
    have eb : b (i + 1) = b i + (M - s p * u) := by
      rw [B.bs i h, eq, eMs, Nat.mul_div_cancel_left _ pt, hq, Nat.mul_comm (s (i + 1)) q, cdw_mul pt, Nat.mul_add, Nat.mul_comm q]
    have er2 : s (i + 1) / s i = r := by rw [er]; exact Nat.mul_div_cancel_left _ pi
    have eMd : M / r = s p * u := by rw [eMr]; exact Nat.mul_div_cancel_left _ (by omega)
    refine ⟨fun j hj => ?_, ?_, fun j hj => ?_⟩
    · rcases Nat.lt_or_ge j (i + 1) with z | z
      · exact i1 j (by omega)
      · rw [Nat.le_antisymm hj z, eb]
        obtain ⟨q2, hq2⟩ := i1 i (Nat.le_refl _)
        obtain ⟨u2, hu2⟩ := h0
        refine ⟨q2 + (u2 - u), ?_⟩
        rw [Nat.mul_add, ← hq2, Nat.mul_sub, ← hu2]
    · show Lw s b (s (i + 1)) (i + 1) + s (i + 1) * (cdw (b (i + 1)) (s (i + 1)) - cdw (b i) (s (i + 1))) = M
      have e1 : b i = q * s (i + 1) := by rw [hq, Nat.mul_comm]
      have e2 : b (i + 1) = (q + v * ((r - 1) * u)) * s (i + 1) := by rw [eb, eMs, e1, Nat.add_mul, Nat.mul_comm (s (i + 1))]
      rw [e2, e1, cdw_mul pt, cdw_mul pt, Nat.add_sub_cancel_left, ← eMs, eq]
      omega
    · rcases Nat.lt_or_ge j i with z | z
      · exact i3 j (by omega)
      · have : j = i := by omega
        rw [this, er2, eMd, eb]
        omega
omit c B in
theorem cls_up {i x y : Nat} (h : x ≤ y) : cls b i x ≤ cls b i y := by
  rcases Nat.lt_or_ge (cls b i y) (cls b i x) with z | z
  · have l := cls_le b i x
    have h1 := cls_hi (b := b) (i := i) (x := y) (by omega)
    have h2 := cls_lo z
    omega
  · exact z
omit c B in
theorem sm_group {f : Nat → Nat} {r : Nat} (hr : 1 ≤ r) (hf : ∀ x y, x ≤ y → f x ≤ f y) : ∀ K, sm f (K * r + 1) ≤ r * sm (fun k => f (k * r)) (K + 1)
  | 0 => by
    show sm f (0 * r + 1) ≤ r * (0 + f (0 * r))
    rw [Nat.zero_mul, Nat.zero_add, Nat.zero_add]
    show 0 + f 0 ≤ r * f 0
    have := Nat.mul_le_mul_right (f 0) hr
    omega
  | K + 1 => by
    have ih := sm_group hr hf K
    have h2 : ∀ n, n ≤ r → sm f (K * r + 1 + n) ≤ sm f (K * r + 1) + n * f ((K + 1) * r) := by
      intro n
      induction n with
      | zero => intro _; show sm f (K * r + 1) ≤ _; omega
      | succ n ih =>
        intro hn
        have h1 := ih (by omega)
        have h3 : f (K * r + 1 + n) ≤ f ((K + 1) * r) := hf _ _ (by rw [Nat.add_mul, Nat.one_mul]; omega)
        show sm f (K * r + 1 + n) + f (K * r + 1 + n) ≤ _
        rw [Nat.add_mul, Nat.one_mul]
        omega
    have h3 := h2 r (Nat.le_refl _)
    have e : (K + 1) * r + 1 = K * r + 1 + r := by rw [Nat.add_mul, Nat.one_mul]; omega
    rw [e]
    show _ ≤ r * (sm _ (K + 1) + f ((K + 1) * r))
    rw [Nat.mul_add]
    omega
/-- the bounds without rounding, and two sizes more -/
theorem BD.smooth {i r : Nat} (h : i + 1 < m) (hr : 1 ≤ r) (er : s (i + 1) = s i * r) : r * b (i + 1) + M ≤ r * b i + r * M + 2 * (r * s (i + 1)) := by
  have p := c.pos h
  have pi := c.pos (i := i) (by omega)
  obtain ⟨k1, k2, k3⟩ := B.key c (i := i) (by omega)
  obtain ⟨j1, j2, j3⟩ := B.key c h
  have hb : b (i + 1) + Lw s b (s (i + 1)) (i + 1) ≤ b i + s (i + 1) + M := by
    rw [B.bs i h, Nat.mul_add]
    have h1 := cdw_lt (x := b i) p
    have h2 := Nat.div_mul_le_self (M - Lw s b (s (i + 1)) (i + 1)) (s (i + 1))
    rw [Nat.mul_comm] at h1 h2
    omega
  have hf : ∀ x y, x ≤ y → s (cls b i (x * s i)) ≤ s (cls b i (y * s i)) := fun x y hxy => c.mono (cls_up (Nat.mul_le_mul_right _ hxy)) (Nat.lt_of_le_of_lt (cls_le _ _ _) (by omega))
  have hl : M ≤ r * Lw s b (s (i + 1)) (i + 1) + s (i + 1) := by
    rw [B.ss_lw c h]
    show M ≤ r * SS s b (i + 1) (cdw (b i) (s (i + 1))) + _
    have hn := B.num c (i := i) (by omega)
    cases e : cdw (b i) (s (i + 1)) with
    | zero =>
      have h1 : b i = 0 := by
        have := le_cdw (x := b i) p
        rw [e] at this
        omega
      have := B.ge c (i := i) (by omega)
      omega
    | succ K =>
      have g := sm_group hr hf K
      have e1 : SS s b (i + 1) (K + 1) = sm (fun k => s (cls b i (k * r * s i))) (K + 1) := by
        unfold SS
        refine sm_congr fun k hk => ?_
        have hk2 := (lt_cdw (x := b i) (k := k) p).mp (by omega)
        have e2 : k * s (i + 1) = k * r * s i := by rw [er, Nat.mul_assoc, Nat.mul_comm (s i) r]
        rw [e2] at hk2 ⊢
        have : cls b (i + 1) (k * r * s i) = cls b i (k * r * s i) := by
          have l := cls_le b i (k * r * s i)
          show (if cls b i (k * r * s i) < i then cls b i (k * r * s i) else if k * r * s i < b i then i else i + 1) = _
          split
          · rfl
          · omega
        rw [this]
      rw [e1]
      have hN : b i / s i ≤ (K * r + 1) + (r - 1) := by
        have h1 : b i ≤ (K + 1) * s (i + 1) := by
          have := le_cdw (x := b i) p
          rw [e] at this
          exact this
        have h2 : b i / s i * s i ≤ (K + 1) * r * s i := by
          rw [hn, Nat.mul_assoc, Nat.mul_comm r, ← er]
          exact h1
        have h3 := Nat.le_of_mul_le_mul_right h2 pi
        rw [Nat.add_mul, Nat.one_mul] at h3
        omega
      have hv : ∀ n, SS s b i ((K * r + 1) + n) ≤ SS s b i (K * r + 1) + n * s i := by
        intro n
        induction n with
        | zero => show SS s b i (K * r + 1) ≤ _; omega
        | succ n ih =>
          show SS s b i (K * r + 1 + n) + s (cls b i ((K * r + 1 + n) * s i)) ≤ _
          have := c.mono (cls_le b i ((K * r + 1 + n) * s i)) (by omega)
          have e3 : (n + 1) * s i = n * s i + s i := by rw [Nat.add_mul, Nat.one_mul]
          rw [e3]
          omega
      have h4 := hv (r - 1)
      have h5 : SS s b i (b i / s i) ≤ SS s b i ((K * r + 1) + (r - 1)) := sm_mono hN
      have h6 : (r - 1) * s i + s i = s (i + 1) := by
        rw [er, Nat.mul_comm (s i) r]
        conv => rhs; rw [show r = (r - 1) + 1 by omega, Nat.add_mul, Nat.one_mul]
      have h7 : SS s b i (K * r + 1) ≤ r * sm (fun k => s (cls b i (k * r * s i))) (K + 1) := g
      omega
  have h8 := Nat.mul_le_mul_left r hb
  rw [Nat.mul_add, Nat.mul_add, Nat.mul_add] at h8
  have h9 : s (i + 1) ≤ r * s (i + 1) := Nat.le_mul_of_pos_left _ hr
  omega
end
end Ph

namespace Ph
open PySem PySem.Spec PyProof.Rows L2
/-- the first m numbers of a row of numbers -/
def tl (s : Nat → Nat) (m : Nat) : List Int := (List.range m).map fun i => ((s i : Nat) : Int)
theorem tl_len (s : Nat → Nat) (m : Nat) : (tl s m).length = m := by unfold tl; simp
theorem tl_get {s : Nat → Nat} {m i : Nat} (h : i < m) : (tl s m)[i]? = some ((s i : Nat) : Int) := by
  unfold tl
  rw [List.getElem?_map, List.getElem?_range h]
  rfl
theorem tl_getV {s : Nat → Nat} {m i : Nat} (h : i < m) : ((tl s m).map V.int)[i]? = some (V.int ((s i : Nat) : Int)) := by
  rw [List.getElem?_map, tl_get h]
  rfl
theorem tl_succ (s : Nat → Nat) (m : Nat) : tl s (m + 1) = tl s m ++ [((s m : Nat) : Int)] := by
  unfold tl
  rw [List.range_succ, List.map_append]
  rfl
theorem tl_congr {s t : Nat → Nat} {m : Nat} (h : ∀ i, i < m → s i = t i) : tl s m = tl t m := by
  unfold tl
  refine List.map_congr_left fun i hi => ?_
  rw [h i (List.mem_range.mp hi)]
theorem tl_last {s : Nat → Nat} {m : Nat} : tl s (m + 1) = tl s m ++ [((s m : Nat) : Int)] := tl_succ s m
theorem tl_mem {s : Nat → Nat} {m : Nat} {x : Int} : x ∈ tl s m ↔ ∃ i, i < m ∧ x = ((s i : Nat) : Int) := by
  unfold tl
  rw [List.mem_map]
  constructor
  · rintro ⟨i, hi, e⟩
    exact ⟨i, List.mem_range.mp hi, e.symm⟩
  · rintro ⟨i, hi, e⟩
    exact ⟨i, List.mem_range.mpr hi, e.symm⟩
/-- every row of whole numbers from 0 is such a row -/
theorem tl_of {C : List Int} (h : ∀ x ∈ C, 0 ≤ x) : C = tl (fun i => (C.getD i 0).toNat) C.length := by
  apply List.ext_getElem?
  intro i
  rcases Nat.lt_or_ge i C.length with z | z
  · rw [tl_get z, List.getElem?_eq_getElem z]
    have h1 := h _ (List.getElem_mem z)
    have h2 : C.getD i 0 = C[i] := by simp [List.getD_eq_getElem?_getD, List.getElem?_eq_getElem z]
    rw [h2]
    congr 1
    omega
  · rw [List.getElem?_eq_none z, List.getElem?_eq_none (by rw [tl_len]; exact z)]
theorem up_cdw {n s : Nat} (hs : 0 < s) : -(-(n : Int) / (s : Int)) = ((cdw n s : Nat) : Int) := by
  have h1 := le_cdw (x := n) hs
  have h2 := cdw_lt (x := n) hs
  have e : -(n : Int) / (s : Int) = -((cdw n s : Nat) : Int) := by
    have hs' : (0 : Int) < s := by omega
    have h1' : (n : Int) ≤ (cdw n s : Nat) * (s : Int) := by exact_mod_cast h1
    have h2' : (cdw n s : Nat) * (s : Int) < (n : Int) + s := by exact_mod_cast h2
    apply Int.le_antisymm
    · have : -(n : Int) / (s : Int) < -((cdw n s : Nat) : Int) + 1 := by
        rw [Int.ediv_lt_iff_lt_mul hs', Int.add_mul, Int.neg_mul, Int.one_mul]
        omega
      omega
    · rw [Int.le_ediv_iff_mul_le hs', Int.neg_mul]
      omega
  rw [e]
  omega
theorem up2_cdw {n s : Nat} (hs : 0 < s) : ((n : Int) + (s : Int) - 1) / (s : Int) = ((cdw n s : Nat) : Int) := by
  unfold cdw
  have : (n : Int) + (s : Int) - 1 = ((n + s - 1 : Nat) : Int) := by omega
  rw [this]
  exact (Int.natCast_ediv _ _).symm
/-- the numbers, begun with reaches -/
def bls (s ρ : Nat → Nat) (M : Nat) : Nat → Nat → Nat
  | 0, _ => max M (ρ 0)
  | i + 1, j => if j = i + 1 then max (ρ (i + 1)) (s (i + 1) * (cdw (bls s ρ M i i) (s (i + 1)) + (M - Lw s (bls s ρ M i) (s (i + 1)) (i + 1)) / s (i + 1))) else bls s ρ M i j
def bfn (s ρ : Nat → Nat) (M j : Nat) : Nat := bls s ρ M j j
theorem bls_eq (s ρ : Nat → Nat) (M : Nat) : ∀ {i j : Nat}, j ≤ i → bls s ρ M i j = bfn s ρ M j
  | 0, j, h => by rw [Nat.le_zero.mp h]; rfl
  | i + 1, j, h => by
    rcases Nat.lt_or_ge j (i + 1) with z | z
    · rw [← bls_eq s ρ M (i := i) (j := j) (by omega)]
      show (if j = i + 1 then _ else _) = _
      rw [if_neg (by omega)]
    · rw [Nat.le_antisymm h z]; rfl
theorem pvn_congr {b b' : Nat → Nat} {t j : Nat} (h : ∀ i, i < j → b i = b' i) : pvn b t j = pvn b' t j := by
  cases j with
  | zero => rfl
  | succ j => show cdw _ _ = cdw _ _; rw [h j (Nat.lt_succ_self j)]
theorem lw_congr {s b b' : Nat → Nat} {t i : Nat} (h : ∀ j, j < i → b j = b' j) : Lw s b t i = Lw s b' t i := by
  unfold Lw
  refine sm_congr fun j hj => ?_
  rw [pvn_congr (j := j + 1) fun k hk => h k (by omega), pvn_congr (j := j) fun k hk => h k (by omega)]
theorem bfn_zero (s ρ : Nat → Nat) (M : Nat) : bfn s ρ M 0 = max M (ρ 0) := rfl
theorem bfn_succ (s ρ : Nat → Nat) (M i : Nat) : bfn s ρ M (i + 1) = max (ρ (i + 1)) (s (i + 1) * (cdw (bfn s ρ M i) (s (i + 1)) + (M - Lw s (bfn s ρ M) (s (i + 1)) (i + 1)) / s (i + 1))) := by
  show (if i + 1 = i + 1 then _ else _) = _
  rw [if_pos rfl, lw_congr fun j hj => bls_eq s ρ M (i := i) (j := j) (by omega)]
  rfl
theorem bd_bfn (s : Nat → Nat) (m M : Nat) : BD s (bfn s (fun _ => 0) M) m M := by
  refine ⟨?_, fun i hi => ?_⟩
  · rw [bfn_zero]; exact Nat.max_eq_left (Nat.zero_le _)
  · rw [bfn_succ]; exact Nat.max_eq_right (Nat.zero_le _)
theorem bfn_up {s ρ : Nat → Nat} {M i : Nat} (h : 0 < s (i + 1)) : bfn s ρ M i ≤ bfn s ρ M (i + 1) := by
  rw [bfn_succ]
  have := le_cdw (x := bfn s ρ M i) h
  rw [Nat.mul_comm] at this
  exact Nat.le_trans (Nat.le_trans this (Nat.mul_le_mul_left _ (Nat.le_add_right _ _))) (Nat.le_max_right _ _)
theorem BD.uniq {s b b' : Nat → Nat} {m M : Nat} (c : CH s m) (B : BD s b m M) (B' : BD s b' m M) {i : Nat} (h : i < m) : b i = b' i :=
  Nat.le_antisymm (BD.le c B B' (Nat.le_refl _) i h) (BD.le c B' B (Nat.le_refl _) i h)
end Ph

namespace Ph
open PySem PySem.Spec PyProof.Rows L2
/-! ### the pot -/
def But (p : Addr) (H H' : Hp) : Prop := ∀ b o, b ≠ p → H b = some o → H' b = some o
theorem But.refl (p : Addr) (H : Hp) : But p H H := fun _ _ _ h => h
theorem But.trans {p : Addr} {H H1 H2 : Hp} (a : But p H H1) (b : But p H1 H2) : But p H H2 := fun c o n h => b c o n (a c o n h)
theorem Same.but {p : Addr} {H H' : Hp} (a : Same H H') : But p H H' := fun b o _ h => a b o h
theorem same_upd {H : Hp} {p : Addr} {o : HO} (h : H p = none) : Same H (upd H p o) := fun b x e => by
  rw [upd_ne (ne_of_none e h)]
  exact e
theorem but_upd {H : Hp} {p : Addr} {o : HO} : But p H (upd H p o) := fun b x n e => by
  rw [upd_ne n]
  exact e
def mM : Int := 2305843009213693951
structure PotV (g r : Int) : Prop where
  g0 : 0 ≤ g
  g1 : g.natAbs < 2 ^ 3000
  r0 : 0 ≤ r
  r1 : r < 2305843009213693951
def Pot (H : Hp) (p : Addr) : Prop := ∃ g r : Int, H p = some (.lst [.int g, .int r]) ∧ PotV g r
theorem great_mod (x : Int) : 0 ≤ x % ten9 ∧ (x % ten9).natAbs < 2 ^ 3000 := by
  have p := ten9_pos
  have h0 : 0 ≤ x % ten9 := Int.emod_nonneg _ (by omega)
  exact ⟨h0, wide_le h0 (Int.le_of_lt (Int.emod_lt_of_pos _ p)) ten9_lt⟩
theorem great_mul (x : Int) (b : Bool) : CMulW (x % ten9) (if b = true then 1 else 0) :=
  wide_mul (b := 2) (great_mod x).2 (by cases b <;> decide) (by decide) (by decide) (by decide)
theorem great_pot (x : Int) (b : Bool) : 0 ≤ x % ten9 * (if b = true then 1 else 0) ∧ (x % ten9 * (if b = true then 1 else 0)).natAbs < 2 ^ 3000 := by
  cases b
  · rw [if_neg (by decide), Int.mul_zero]
    exact ⟨Int.le_refl _, Nat.pow_pos (by decide)⟩
  · rw [if_pos rfl, Int.mul_one]
    exact great_mod x
theorem But.seq {K : PySem.W.Frag} {p a : Addr} {H H' : Hp} {xs : List V} (b : But p H H') (n : a ≠ p) (h : SqL K H a xs) : SqL K H' a xs := by
  rcases h with (h | ⟨o, h⟩) | h
  · exact .inl (.inl (b _ _ n h))
  · exact .inl (.inr ⟨o, b _ _ n h⟩)
  · exact .inr h
theorem But.none {p a : Addr} {H H' : Hp} (b : But p H H') (n : a ≠ p) (h : H' a = none) : H a = none := by
  cases q : H a with
  | none => rfl
  | some o => rw [b a o n q] at h; cases h
theorem Pot.same {H H' : Hp} {p : Addr} (P : Pot H p) (s : Same H H') : Pot H' p := by
  obtain ⟨g, r, h, v⟩ := P
  exact ⟨g, r, s _ _ h, v⟩
theorem Pot.ne_none {H : Hp} {p q : Addr} (P : Pot H p) (h : H q = none) : p ≠ q := by
  obtain ⟨g, r, e, v⟩ := P
  exact ne_of_none e h
inductive Lnk (m : Int) : List Int → Int → Prop
  | one : Lnk m [1] 1
  | step {ns : List Int} {x r : Int} : Lnk m ns x → 2 ≤ r → r ≤ 6 → x * r ≤ m → ns.length < 12 → Lnk m (ns ++ [x * r]) (x * r)
theorem Lnk.pos {m x : Int} {ns : List Int} (h : Lnk m ns x) : 1 ≤ x := by
  induction h with
  | one => decide
  | step h h1 h2 h3 h4 ih =>
    have := Int.mul_le_mul ih h1 (by decide) (by omega)
    omega
theorem Lnk.last {m x : Int} {ns : List Int} (h : Lnk m ns x) : ∃ r, ns = r ++ [x] := by
  cases h with
  | one => exact ⟨[], rfl⟩
  | step h h1 h2 h3 h4 => exact ⟨_, rfl⟩
theorem Lnk.le {m x : Int} {ns : List Int} (h : Lnk m ns x) (hm : 1 ≤ m) : x ≤ m := by
  cases h with
  | one => exact hm
  | step h h1 h2 h3 h4 => exact h3
theorem Lnk.len {m x : Int} {ns : List Int} (h : Lnk m ns x) : 1 ≤ ns.length ∧ ns.length ≤ 12 := by
  cases h with
  | one => decide
  | step h h1 h2 h3 h4 => rw [List.length_append]; exact ⟨by simp, by simp; omega⟩
structure Nm5 (K : PySem.W.Frag) (mg : Str → Option Value) : Prop where
  len : mg "len" = none
  abs : mg "abs" = none
  int : mg "int" = none
  range : mg "range" = none
  tuple : mg "tuple" = none
  max : mg "max" = none
  min : mg "min" = none
  repr : mg "repr" = none
  isinstance : mg "isinstance" = none
  bool : mg "bool" = none
  all : mg "all" = none
  any : mg "any" = none
  list : mg "list" = none
  dict : mg "dict" = none
  sorted : mg "sorted" = none
  set : mg "set" = none
  sum : mg "sum" = none
  zip : mg "zip" = none
  dig : PySem.W.nsIn K cStatics "sys.int_max_str_digits" = some none
theorem _root_.L2.Same.tup {K : PySem.W.Frag} {H H' : Hp} {a : Addr} {xs : List V} (e : Same H H') (h : SqT K H a xs) : SqT K H' a xs := by
  rcases h with (h | ⟨o, h⟩) | h
  · exact .inl (.inl (e _ _ h))
  · exact .inl (.inr ⟨o, e _ _ h⟩)
  · exact .inr h
theorem But.tup {K : PySem.W.Frag} {p a : Addr} {H H' : Hp} {xs : List V} (b : But p H H') (n : a ≠ p) (h : SqT K H a xs) : SqT K H' a xs := by
  rcases h with (h | ⟨o, h⟩) | h
  · exact .inl (.inl (b _ _ n h))
  · exact .inl (.inr ⟨o, b _ _ n h⟩)
  · exact .inr h
theorem paired_imp {α β : Type} {F G : α → β → Prop} (h : ∀ a b, F a b → G a b) : ∀ {l : List α} {m : List β}, Paired F l m → Paired G l m
  | _, _, .nil => .nil
  | _, _, .cons x r => .cons (h _ _ x) (paired_imp h r)
/-! ### blocks in the heap -/
def BkAt (H : Hp) (x : V) (b : Int × Int) : Prop := ∃ t, x = .ref t ∧ H t = some (.tup [.int b.1, .int b.2])
def BL (H : Hp) (xs : List V) (bs : List (Int × Int)) : Prop := Paired (BkAt H) xs bs
theorem BL.mono {H H' : Hp} (h : ∀ t ys, H t = some (.tup ys) → H' t = some (.tup ys)) : ∀ {xs : List V} {bs : List (Int × Int)}, BL H xs bs → BL H' xs bs
  | _, _, .nil => .nil
  | _, _, .cons ⟨t, e1, e2⟩ r => .cons ⟨t, e1, h _ _ e2⟩ (BL.mono h r)
theorem BL.len {H : Hp} : ∀ {xs : List V} {bs : List (Int × Int)}, BL H xs bs → xs.length = bs.length
  | _, _, .nil => rfl
  | _, _, .cons _ r => by rw [List.length_cons, List.length_cons, BL.len r]
def kH (H : Hp) : V → Int × Int
  | .ref t => match H t with
    | some (.tup [.int a, .int s]) => (a, s)
    | _ => (0, 0)
  | _ => (0, 0)
theorem BkAt.k {H : Hp} {x : V} {b : Int × Int} (h : BkAt H x b) : kH H x = b := by
  obtain ⟨t, rfl, e⟩ := h
  show (match H t with
    | some (.tup [.int a, .int s]) => (a, s)
    | _ => (0, 0)) = b
  rw [e]
theorem BL.map {H : Hp} : ∀ {xs : List V} {bs : List (Int × Int)}, BL H xs bs → xs.map (kH H) = bs
  | _, _, .nil => rfl
  | _, _, .cons h r => by rw [List.map_cons, h.k, BL.map r]
theorem BL.all {H : Hp} : ∀ {xs : List V} {bs : List (Int × Int)}, BL H xs bs → ∀ x ∈ xs, ∃ b, BkAt H x b
  | _, _, .nil => fun x hx => by cases hx
  | _, _, .cons h r => fun x hx => by
    rcases List.mem_cons.mp hx with e | e
    · rw [e]; exact ⟨_, h⟩
    · exact BL.all r x e
theorem BL.of {H : Hp} : ∀ {xs : List V}, (∀ x ∈ xs, ∃ b, BkAt H x b) → BL H xs (xs.map (kH H))
  | [], _ => .nil
  | x :: r, h => by
    obtain ⟨b, hb⟩ := h x (List.mem_cons_self ..)
    rw [List.map_cons, hb.k]
    exact .cons hb (BL.of fun y hy => h y (List.mem_cons_of_mem _ hy))
def StAt (H : Hp) (t : Addr) (bs : List (Int × Int)) : Prop := ∃ xs, H t = some (.tup xs) ∧ BL H xs bs
theorem StAt.same {H H' : Hp} {t : Addr} {bs : List (Int × Int)} (h : StAt H t bs) (s : Same H H') : StAt H' t bs := by
  obtain ⟨xs, e, b⟩ := h
  exact ⟨xs, s _ _ e, b.mono fun t ys e => s _ _ e⟩
theorem Pot.netup {H : Hp} {p t : Addr} {xs : List V} (P : Pot H p) (e : H t = some (.tup xs)) : t ≠ p := fun z => by
  obtain ⟨g, r, e0, _⟩ := P
  rw [z, e0] at e
  cases e
theorem Pot.nefrz {H : Hp} {p t : Addr} {ob : Obj} {u : HO} (P : Pot H p) (e : H t = some (.frz ob u)) : t ≠ p := fun z => by
  obtain ⟨g, r, e0, _⟩ := P
  rw [z, e0] at e
  cases e
theorem ChAt.but {p : Addr} {H H' : Hp} {c : Addr} {C : List Int} (h : ChAt H c C) (b : But p H H') (P : Pot H p) : ChAt H' c C := let ⟨o, d, e⟩ := h; ⟨o, d, b _ _ (P.nefrz e) e⟩
theorem StAt.but {p : Addr} {H H' : Hp} {t : Addr} {bs : List (Int × Int)} (h : StAt H t bs) (b : But p H H') (P : Pot H p) : StAt H' t bs := by
  obtain ⟨xs, e, bl⟩ := h
  exact ⟨xs, b _ _ (P.netup e) e, bl.mono fun t ys e => b _ _ (P.netup e) e⟩
/-! ### states -/
def okB (C : List Int) (W : Int) (b : Int × Int) : Prop := b.2 ∈ C ∧ 1 ≤ b.2 ∧ 0 ≤ b.1 ∧ b.1 % b.2 = 0 ∧ b.1 + b.2 ≤ W
def apart (b c : Int × Int) : Prop := b.1 + b.2 ≤ c.1 ∨ c.1 + c.2 ≤ b.1
structure St (C : List Int) (W : Int) (bs : List (Int × Int)) : Prop where
  ok : ∀ b ∈ bs, okB C W b
  asc : bs.Pairwise fun b c => b.1 + b.2 ≤ c.1
theorem sorted_st {C : List Int} {W : Int} {bs cs : List (Int × Int)} (h1 : ∀ b ∈ bs, okB C W b) (h2 : bs.Pairwise apart) (hp : cs.Perm bs) (hs : cs.Pairwise fun x y => SrtO.lexB y x = false) : St C W cs := by
  have ok : ∀ b ∈ cs, okB C W b := fun b hb => h1 b (hp.mem_iff.mp hb)
  refine ⟨ok, ?_⟩
  have ap : cs.Pairwise apart := (hp.pairwise_iff (R := apart) (fun {x y} h => h.symm)).mpr h2
  refine (List.pairwise_and_iff.mpr ⟨ap, hs⟩).imp_of_mem fun {b c} hb hc h => ?_
  obtain ⟨h3, h4⟩ := h
  rcases h3 with h5 | h5
  · exact h5
  · exfalso
    obtain ⟨_, k1, _⟩ := ok c hc
    have : SrtO.lexB c b = true := by
      unfold SrtO.lexB
      simp
      rw [if_neg (by omega)]
      omega
    rw [this] at h4
    cases h4
abbrev Bk := Int × Int
def rch (l : Int) (bs : List Bk) : Int := mxd 0 ((bs.filter fun b => decide (b.2 ≤ l)).map fun b => b.1 + b.2)
theorem foldl_max : ∀ (l : List Int) (n : Int), (∀ x ∈ l, x ≤ l.foldl max n) ∧ n ≤ l.foldl max n ∧ (l.foldl max n = n ∨ l.foldl max n ∈ l)
  | [], n => ⟨(fun x hx => nomatch hx), Int.le_refl _, .inl rfl⟩
  | a :: r, n => by
    obtain ⟨h1, h2, h3⟩ := foldl_max r (max n a)
    rw [List.foldl_cons]
    refine ⟨fun x hx => ?_, by omega, ?_⟩
    · rcases List.mem_cons.mp hx with e | e
      · rw [e]; omega
      · exact h1 x e
    · rcases h3 with e | e
      · rcases (by omega : max n a = n ∨ max n a = a) with z | z
        · left; omega
        · right; rw [e, z]; exact List.mem_cons_self ..
      · right; exact List.mem_cons_of_mem _ e
theorem mxd_spec {l : List Int} (h : ∀ x ∈ l, 0 < x) : (l = [] ∧ mxd 0 l = 0) ∨ (mxd 0 l ∈ l ∧ ∀ x ∈ l, x ≤ mxd 0 l) := by
  cases l with
  | nil => exact .inl ⟨rfl, rfl⟩
  | cons n r =>
    right
    obtain ⟨h1, h2, h3⟩ := foldl_max r n
    show r.foldl max n ∈ n :: r ∧ ∀ x ∈ n :: r, x ≤ r.foldl max n
    refine ⟨?_, fun x hx => ?_⟩
    · rcases h3 with e | e
      · rw [e]; exact List.mem_cons_self ..
      · exact List.mem_cons_of_mem _ e
    · rcases List.mem_cons.mp hx with e | e
      · rw [e]; exact h2
      · exact h1 x e
/-! ### comprehensions whose steps lay new things -/
theorem lc_tupR {K : PySem.W.Frag} {a : Addr} {xs : List V} {g : TG} {te : TE} {vs : List Nat} {σ : L2.St} {H1 : Hp} {D : Addr} {Qd : Hp → Prop} (R : Hp → V → V → Prop) (mono : ∀ H H' x y, (∀ v zs, H v = some (.tup zs) → H' v = some (.tup zs)) → R H x y → R H' x y)
    (ht : SqT K H1 a xs) (nD : H1 D = none) (hlen : xs.length < sizeLine)
    (hs : ∀ x ∈ xs, ∀ H, Same H1 H → ∀ Y : V → Hp → Prop, (∀ y H', Same H H' → R H' x y → Y y H') → g x (wipe σ vs) H fun σ2 H2 => wipe σ2 vs = wipe σ vs ∧ te σ2 H2 Y)
    (hd : ∀ H ys, Same H1 H → H D = some (.lst ys) → Paired (R H) xs ys → Qd H) :
    ∃ W : Nat → Nat → Hp → Prop, (∃ m, W 0 m (upd H1 D (.lst []))) ∧ ∀ i m H, W i m H →
      ((Itt K a).stop i H ∧ Qd H) ∨ ((Itt K a).go i H ∧ ∃ Nx : Hp → Prop, (∀ H', Nx H' → ∃ m', m' < m ∧ W (i + 1) m' H') ∧ ∀ x H', (Itt K a).yld i H x H' → g x (wipe σ vs) H' fun σ2 H2 => wipe σ2 vs = wipe σ vs ∧ tYes σ2 H2 fun b H3 =>
        if b = true then te σ2 H3 fun y H4 => ∃ acc, H4 D = some (.lst acc) ∧ acc.length < sizeLine ∧ Nx (upd H4 D (.lst (acc ++ [y]))) else Nx H3) := by
  refine lc_tup (fun i H => Same H1 H ∧ ∃ ys, H D = some (.lst ys) ∧ Paired (R H) (xs.take i) ys) ⟨same_upd nD, [], upd_same, .nil⟩ (fun i H _ p => p.1.tup ht) (fun i x H hx p => ?_) (fun H p => ?_)
  · obtain ⟨sm, ys, hD, pr⟩ := p
    have hlen2 : ys.length < sizeLine := by
      have h1 := pr.length
      rw [List.length_take] at h1
      omega
    have := hs x (List.mem_of_getElem? hx) H sm (fun y H4 => ∃ acc, H4 D = some (.lst acc) ∧ acc.length < sizeLine ∧ (Same H1 (upd H4 D (.lst (acc ++ [y]))) ∧ ∃ ys, upd H4 D (.lst (acc ++ [y])) D = some (.lst ys) ∧ Paired (R (upd H4 D (.lst (acc ++ [y])))) (xs.take (i + 1)) ys)) (fun y H4 s4 r4 => ?_)
    · exact this
    · have hD4 := s4 _ _ hD
      have tk : ∀ v zs, H4 v = some (.tup zs) → upd H4 D (.lst (ys ++ [y])) v = some (.tup zs) := fun v zs e => by
        rw [upd_ne (ne_of e hD4 (by intro z; cases z))]
        exact e
      refine ⟨ys, hD4, hlen2, fun b o e => ?_, ys ++ [y], upd_same, ?_⟩
      · rw [upd_ne (ne_of_none e nD)]
        exact s4 _ _ (sm _ _ e)
      · rw [List.take_add_one, hx]
        exact Paired.snoc (paired_imp (fun a b h => mono _ _ _ _ (fun v zs e => tk v zs (s4 _ _ e)) h) pr) (mono _ _ _ _ tk r4)
  · obtain ⟨sm, ys, hD, pr⟩ := p
    rw [List.take_of_length_le (Nat.le_refl _)] at pr
    exact hd H ys sm hD pr
theorem paired_fun {α β : Type} {f : α → β} {F : α → β → Prop} (h : ∀ a b, F a b → b = f a) : ∀ {l : List α} {m : List β}, Paired F l m → m = l.map f
  | _, _, .nil => rfl
  | _, _, .cons x r => by rw [List.map_cons, h _ _ x, paired_fun h r]
theorem fm_if (p : Bk → Bool) (f : Bk → Int) (k : V → Bk) : ∀ xs : List V, xs.filterMap (fun x => if p (k x) = true then some (V.int (f (k x))) else none) = (((xs.map k).filter p).map f).map V.int
  | [] => rfl
  | x :: r => by
    have ih := fm_if p f k r
    by_cases c : p (k x) = true
    · rw [List.map_cons, List.filter_cons_of_pos c, List.map_cons, List.map_cons, ← ih, List.filterMap_cons_some (b := V.int (f (k x))) (by rw [if_pos c])]
    · rw [List.map_cons, List.filter_cons_of_neg c, ← ih, List.filterMap_cons_none (by rw [if_neg c])]
theorem u2_of {A : Around} {k : Nat} (hr : Room k A) : A.units + 2 < cLine := by have := hr.un; omega
def iV : V → Int
  | .int i => i
  | _ => 0
end Ph

namespace Ph
open PySem PySem.Spec PyProof.Rows L2
/-- a comprehension over zip of two tuples, the second one not longer -/
theorem lc_zipS {K : PySem.W.Frag} {a b : Addr} {xs ys : List V} {g : TG} {tt : TT} {te : TE} {vs : List Nat} {σ : L2.St} {H1 : Hp} {D : Addr} {Qd : Hp → Prop} (hl : ys.length ≤ xs.length) (Pv : Nat → Hp → Prop) (h0 : Pv 0 (upd H1 D (.lst []))) (hq : ∀ i H, Pv i H → SqT K H a xs ∧ SqT K H b ys)
    (hs : ∀ (i : Nat) (x y : V) (T : Addr) (H : Hp), xs[i]? = some x → ys[i]? = some y → Pv i H → H T = none → g (.ref T) (wipe σ vs) (upd H T (.tup [x, y])) fun σ2 H2 => wipe σ2 vs = wipe σ vs ∧ tt σ2 H2 fun b H3 =>
      if b = true then te σ2 H3 fun y H4 => ∃ acc, H4 D = some (.lst acc) ∧ acc.length < sizeLine ∧ Pv (i + 1) (upd H4 D (.lst (acc ++ [y]))) else Pv (i + 1) H3) (hd : ∀ H, Pv ys.length H → Qd H) :
    ∃ W : Nat → Nat → Hp → Prop, (∃ m, W 0 m (upd H1 D (.lst []))) ∧ ∀ i m H, W i m H →
      ((RZ.ItzT K a b).stop i H ∧ Qd H) ∨ ((RZ.ItzT K a b).go i H ∧ ∃ Nx : Hp → Prop, (∀ H', Nx H' → ∃ m', m' < m ∧ W (i + 1) m' H') ∧ ∀ x H', (RZ.ItzT K a b).yld i H x H' → g x (wipe σ vs) H' fun σ2 H2 => wipe σ2 vs = wipe σ vs ∧ tt σ2 H2 fun b H3 =>
        if b = true then te σ2 H3 fun y H4 => ∃ acc, H4 D = some (.lst acc) ∧ acc.length < sizeLine ∧ Nx (upd H4 D (.lst (acc ++ [y]))) else Nx H3) := by
  refine ⟨fun i m H => m = ys.length - i ∧ i ≤ ys.length ∧ Pv i H, ⟨ys.length, rfl, Nat.zero_le _, h0⟩, ?_⟩
  rintro i m H ⟨rfl, hi, p⟩
  obtain ⟨qx, qy⟩ := hq i H p
  by_cases hlt : i < ys.length
  · have hlt2 : i < xs.length := by omega
    refine .inr ⟨⟨xs, ys, _, _, qx, qy, List.getElem?_eq_getElem hlt2, List.getElem?_eq_getElem hlt⟩, Pv (i + 1), fun H' p' => ⟨ys.length - (i + 1), by omega, rfl, hlt, p'⟩, fun v H' y => ?_⟩
    obtain ⟨T, x', y', rfl, hT, rfl, f1, f2⟩ := y
    exact hs i x' y' T H (f1 xs qx) (f2 ys qy) p hT
  · have e : i = ys.length := by omega
    subst e
    exact .inl ⟨⟨xs, ys, qx, qy, Or.inr (Nat.le_refl _)⟩, hd H p⟩
end Ph

namespace Ph
open PySem PySem.Spec PyProof.Rows L2
/-! ### comprehensions whose items are known, whose steps may lay new things -/
theorem keepD {H1 H4 : Hp} {D : Addr} {o : HO} (nD : H1 D = none) (s : Same H1 H4) : Same H1 (upd H4 D o) := fun b u e => by
  rw [upd_ne (ne_of_none e nD)]
  exact s _ _ e
theorem lc_rgF {lo : Int} {n : Nat} {g : TG} {te : TE} {vs : List Nat} {σ : L2.St} {H1 : Hp} {D : Addr} {Qd : Hp → Prop} (f : Nat → V) (nD : H1 D = none) (hlen : n < sizeLine)
    (hs : ∀ i, i < n → ∀ H, Same H1 H → ∀ Y : V → Hp → Prop, (∀ H', Same H H' → Y (f i) H') → g (.int (lo + (i : Int))) (wipe σ vs) H fun σ2 H2 => wipe σ2 vs = wipe σ vs ∧ te σ2 H2 Y)
    (hd : ∀ H, Same H1 H → H D = some (.lst ((List.range n).map f)) → Qd H) :
    ∃ W : Nat → Nat → Hp → Prop, (∃ m, W 0 m (upd H1 D (.lst []))) ∧ ∀ i m H, W i m H →
      ((Itr lo n).stop i H ∧ Qd H) ∨ ((Itr lo n).go i H ∧ ∃ Nx : Hp → Prop, (∀ H', Nx H' → ∃ m', m' < m ∧ W (i + 1) m' H') ∧ ∀ x H', (Itr lo n).yld i H x H' → g x (wipe σ vs) H' fun σ2 H2 => wipe σ2 vs = wipe σ vs ∧ tYes σ2 H2 fun b H3 =>
        if b = true then te σ2 H3 fun y H4 => ∃ acc, H4 D = some (.lst acc) ∧ acc.length < sizeLine ∧ Nx (upd H4 D (.lst (acc ++ [y]))) else Nx H3) := by
  refine lc_range (fun i H => Same H1 H ∧ H D = some (.lst ((List.range i).map f))) ⟨same_upd nD, upd_same⟩ (fun i H hi p => ?_) (fun H p => hd H p.1 p.2)
  obtain ⟨sm, hD⟩ := p
  refine hs i hi H sm _ fun H4 s4 => ?_
  refine ⟨_, s4 _ _ hD, by rw [List.length_map, List.length_range]; omega, keepD nD (sm.trans s4), ?_⟩
  rw [upd_same, List.range_succ, List.map_append]
  rfl
theorem lc_lsF {K : PySem.W.Frag} {a : Addr} {xs : List V} {g : TG} {te : TE} {vs : List Nat} {σ : L2.St} {H1 : Hp} {D : Addr} {Qd : Hp → Prop} (f : V → V) (ha : SqL K H1 a xs) (nD : H1 D = none) (hlen : xs.length < sizeLine)
    (hs : ∀ x ∈ xs, ∀ H, Same H1 H → ∀ Y : V → Hp → Prop, (∀ H', Same H H' → Y (f x) H') → g x (wipe σ vs) H fun σ2 H2 => wipe σ2 vs = wipe σ vs ∧ te σ2 H2 Y)
    (hd : ∀ H, Same H1 H → H D = some (.lst (xs.map f)) → Qd H) :
    ∃ W : Nat → Nat → Hp → Prop, (∃ m, W 0 m (upd H1 D (.lst []))) ∧ ∀ i m H, W i m H →
      ((Itl K a).stop i H ∧ Qd H) ∨ ((Itl K a).go i H ∧ ∃ Nx : Hp → Prop, (∀ H', Nx H' → ∃ m', m' < m ∧ W (i + 1) m' H') ∧ ∀ x H', (Itl K a).yld i H x H' → g x (wipe σ vs) H' fun σ2 H2 => wipe σ2 vs = wipe σ vs ∧ tYes σ2 H2 fun b H3 =>
        if b = true then te σ2 H3 fun y H4 => ∃ acc, H4 D = some (.lst acc) ∧ acc.length < sizeLine ∧ Nx (upd H4 D (.lst (acc ++ [y]))) else Nx H3) := by
  refine lc_list (fun i H => Same H1 H ∧ H D = some (.lst ((xs.take i).map f))) ⟨same_upd nD, upd_same⟩ (fun i H _ p => p.1.seq ha) (fun i x H hx p => ?_) (fun H p => hd H p.1 (by rw [p.2, List.take_of_length_le (Nat.le_refl _)]))
  obtain ⟨sm, hD⟩ := p
  refine hs x (List.mem_of_getElem? hx) H sm _ fun H4 s4 => ?_
  refine ⟨_, s4 _ _ hD, by rw [List.length_map, List.length_take]; omega, keepD nD (sm.trans s4), ?_⟩
  rw [upd_same, List.take_add_one, hx, List.map_append]
  rfl
theorem lc_tpF {K : PySem.W.Frag} {a : Addr} {xs : List V} {g : TG} {te : TE} {vs : List Nat} {σ : L2.St} {H1 : Hp} {D : Addr} {Qd : Hp → Prop} (f : V → V) (ha : SqT K H1 a xs) (nD : H1 D = none) (hlen : xs.length < sizeLine)
    (hs : ∀ x ∈ xs, ∀ H, Same H1 H → ∀ Y : V → Hp → Prop, (∀ H', Same H H' → Y (f x) H') → g x (wipe σ vs) H fun σ2 H2 => wipe σ2 vs = wipe σ vs ∧ te σ2 H2 Y)
    (hd : ∀ H, Same H1 H → H D = some (.lst (xs.map f)) → Qd H) :
    ∃ W : Nat → Nat → Hp → Prop, (∃ m, W 0 m (upd H1 D (.lst []))) ∧ ∀ i m H, W i m H →
      ((Itt K a).stop i H ∧ Qd H) ∨ ((Itt K a).go i H ∧ ∃ Nx : Hp → Prop, (∀ H', Nx H' → ∃ m', m' < m ∧ W (i + 1) m' H') ∧ ∀ x H', (Itt K a).yld i H x H' → g x (wipe σ vs) H' fun σ2 H2 => wipe σ2 vs = wipe σ vs ∧ tYes σ2 H2 fun b H3 =>
        if b = true then te σ2 H3 fun y H4 => ∃ acc, H4 D = some (.lst acc) ∧ acc.length < sizeLine ∧ Nx (upd H4 D (.lst (acc ++ [y]))) else Nx H3) := by
  refine lc_tup (fun i H => Same H1 H ∧ H D = some (.lst ((xs.take i).map f))) ⟨same_upd nD, upd_same⟩ (fun i H _ p => p.1.tup ha) (fun i x H hx p => ?_) (fun H p => hd H p.1 (by rw [p.2, List.take_of_length_le (Nat.le_refl _)]))
  obtain ⟨sm, hD⟩ := p
  refine hs x (List.mem_of_getElem? hx) H sm _ fun H4 s4 => ?_
  refine ⟨_, s4 _ _ hD, by rw [List.length_map, List.length_take]; omega, keepD nD (sm.trans s4), ?_⟩
  rw [upd_same, List.take_add_one, hx, List.map_append]
  rfl
theorem lc_zpF {K : PySem.W.Frag} {a b : Addr} {xs ys : List V} {g : TG} {te : TE} {vs : List Nat} {σ : L2.St} {H1 : Hp} {D : Addr} {Qd : Hp → Prop} (n : Nat) (hn : ys.length = n) (hl : n ≤ xs.length) (f : Nat → V) (ha : SqT K H1 a xs) (hb : SqT K H1 b ys) (nD : H1 D = none) (hlen : n < sizeLine)
    (hs : ∀ i x y T, i < n → xs[i]? = some x → ys[i]? = some y → ∀ H, Same H1 H → H T = none → ∀ Y : V → Hp → Prop, (∀ H', Same H H' → Y (f i) H') → g (.ref T) (wipe σ vs) (upd H T (.tup [x, y])) fun σ2 H2 => wipe σ2 vs = wipe σ vs ∧ te σ2 H2 Y)
    (hd : ∀ H, Same H1 H → H D = some (.lst ((List.range n).map f)) → Qd H) :
    ∃ W : Nat → Nat → Hp → Prop, (∃ m, W 0 m (upd H1 D (.lst []))) ∧ ∀ i m H, W i m H →
      ((RZ.ItzT K a b).stop i H ∧ Qd H) ∨ ((RZ.ItzT K a b).go i H ∧ ∃ Nx : Hp → Prop, (∀ H', Nx H' → ∃ m', m' < m ∧ W (i + 1) m' H') ∧ ∀ x H', (RZ.ItzT K a b).yld i H x H' → g x (wipe σ vs) H' fun σ2 H2 => wipe σ2 vs = wipe σ vs ∧ tYes σ2 H2 fun b H3 =>
        if b = true then te σ2 H3 fun y H4 => ∃ acc, H4 D = some (.lst acc) ∧ acc.length < sizeLine ∧ Nx (upd H4 D (.lst (acc ++ [y]))) else Nx H3) := by
  subst hn
  refine lc_zipS hl (fun i H => Same H1 H ∧ H D = some (.lst ((List.range i).map f))) ⟨same_upd nD, upd_same⟩ (fun i H p => ⟨p.1.tup ha, p.1.tup hb⟩) (fun i x y T H hx hy p nT => ?_) (fun H p => hd H p.1 p.2)
  obtain ⟨sm, hD⟩ := p
  have hi : i < ys.length := (List.getElem?_eq_some_iff.mp hy).1
  refine hs i x y T hi hx hy H sm nT _ fun H4 s4 => ?_
  refine ⟨_, s4 _ _ hD, by rw [List.length_map, List.length_range]; omega, keepD nD (sm.trans s4), ?_⟩
  rw [upd_same, List.range_succ, List.map_append]
  rfl
/-- sums of rows of numbers -/
theorem sum_tl (f : Nat → Nat) : ∀ n, ((List.range n).map fun i => ((f i : Nat) : Int)).sum = ((sm f n : Nat) : Int)
  | 0 => rfl
  | n + 1 => by
    rw [List.range_succ, List.map_append, List.sum_append, sum_tl f n]
    show _ + (((f n : Nat) : Int) + 0) = ((sm f n + f n : Nat) : Int)
    omega
end Ph

namespace Ph
open PySem PySem.Spec PyProof.Rows L2
section
variable {X : Cx}
def rSlK (K : PySem.W.Frag) : V → Option Int → Option Int → Hp → VK → Prop := fun x lo hi H Q => ∃ a xs, x = .ref a ∧ SqT K H a xs ∧ ∀ q H', Same H H' → SqT K H' q (cutV xs lo hi) → Q (.ref q) H'
theorem cutv_whole {xs : List V} {lo hi : Option Int} (hw : HT.sIx xs.length 0 lo = 0 ∧ HT.sIx xs.length xs.length hi = xs.length) : cutV xs lo hi = xs := by
  unfold cutV
  rw [hw.1, hw.2]
  simp
theorem cutv_le {xs : List V} {lo hi : Option Int} : (cutV xs lo hi).length ≤ xs.length := by
  unfold cutV
  simp only [List.length_take, List.length_drop]
  omega
theorem sl_tupK : SlR X (rSlK X.K) := by
  intro pins s σ H x v vl vu lo hi sl Q I rx hs pl pu h
  obtain ⟨a, xs, rfl, hx, q⟩ := h
  exact sl_tupA pins s σ H _ v vl vu lo hi sl Q I rx hs pl pu ⟨a, xs, rfl, hx, fun hw => q a H (Same.refl H) (by rw [cutv_whole hw]; exact hx), fun _ p np => q p _ (same_upd np) (.inl (.inl upd_same))⟩
def rCatK (K : PySem.W.Frag) : V → V → Hp → VK → Prop := fun x y H Q => ∃ a b xs ys, x = .ref a ∧ y = .ref b ∧ SqT K H a xs ∧ SqT K H b ys ∧ xs.length + ys.length ≤ sizeLine ∧ ∀ q H', Same H H' → SqT K H' q (xs ++ ys) → Q (.ref q) H'
theorem op_catK : OpR X (binaryOp .Add) (rCatK X.K) := by
  intro pins s σ H x y v u Q I rx ry h
  obtain ⟨a, b, xs, ys, rfl, rfl, ha, hb, hz, q⟩ := h
  refine op_catA pins s σ H _ _ v u Q I rx ry ⟨a, b, xs, ys, rfl, rfl, ha, hb, hz, fun e => q b H (Same.refl H) (by rw [e]; exact hb), fun _ e => q a H (Same.refl H) (by rw [e, List.append_nil]; exact ha), fun _ _ p np => q p _ (same_upd np) (.inl (.inl upd_same))⟩
end
end Ph

namespace Ph
open PySem PySem.Spec PyProof.Rows L2
section
variable {X : Cx}
/-- x in t, t a tuple of data -/
def rInT (K : PySem.W.Frag) : R2 := fun x y H Q => ∃ d ds, Dp K H x d ∧ Dp K H y (.tuple ds) ∧ SeqAt.shaped d = true ∧ SeqAt.shaped (.tuple ds) = true ∧ Q (.bl (ds.any fun z => PyData.eqv z d)) H
theorem op_inT (hu : X.A.units + 65 < cLine) : OpR X (compareOp .In) (rInT X.K) := by
  intro pins s σ H x y v u Q I rx ry h
  obtain ⟨d, ds, dx, dy, sx, sy, q⟩ := h
  obtain ⟨_, r1⟩ := Dp.reads I d x v dx rx
  obtain ⟨_, r2⟩ := Dp.reads I (.tuple ds) y u dy ry
  exact SeqAt.in_tuple_reads r2 r1 (SeqAt.canLay_of_shaped sy) (SeqAt.canLay_of_shaped sx) (room_in_shaped sx hu) ⟨.bl _, H, I, rfl, q⟩
/-- a thing that is only read from now on -/
def tFrz (t : TE) : TE := fun σ H Q => t σ H fun v H1 => ∃ d u, v = .ref d ∧ H1 d = some u ∧ Mut (some u) ∧ ∀ od, Q v (upd H1 d (.frz od u))
theorem pe_frz {e : Expr} {t : TE} (h : PE X e t) : PE X e (tFrz t) := by
  refine ⟨fun pins s σ H Q I hw => ?_⟩
  refine thn (h.run pins s σ _ _ I hw) fun v s1 ⟨x, H1, I1, r, d, u, ex, hd, mu, q⟩ => ?_
  obtain ⟨od, I2⟩ := I1.lock hd mu
  exact ⟨x, _, I2, r, q od⟩
end
/-! ### blocks and states as data -/
def bD (b : Int × Int) : PyData := .tuple [.int b.1, .int b.2]
theorem bD_lay (b : Int × Int) : (bD b).canLay0 = true := by simp [bD, PyData.canLay0, PyData.canLayAll0]
theorem bD_depth (b : Int × Int) : (bD b).depth = 1 := by simp [bD, PyData.depth, PyData.depthAll]
theorem bDs_lay : ∀ zs : List (Int × Int), PyData.canLayAll0 (zs.map bD) = true
  | [] => by simp [PyData.canLayAll0]
  | z :: zs => by simp [PyData.canLayAll0, bD_lay z, bDs_lay zs]
theorem bDs_depth : ∀ zs : List (Int × Int), PyData.depthAll (zs.map bD) ≤ 1
  | [] => by simp [PyData.depthAll]
  | z :: zs => by
    have h1 := bDs_depth zs
    have h2 := bD_depth z
    simp only [List.map_cons, PyData.depthAll, h2]
    omega
theorem bD_shaped (b : Int × Int) : SeqAt.shaped (bD b) = true := by
  show ((bD b).canLay0 && decide ((bD b).depth ≤ 64)) = true
  rw [bD_lay, bD_depth]
  rfl
theorem sD_shaped (zs : List (Int × Int)) : SeqAt.shaped (.tuple (zs.map bD)) = true := by
  have h1 := bDs_depth zs
  have h2 : PyData.depth (.tuple (zs.map bD)) ≤ 64 := by simp only [PyData.depth]; omega
  have h3 : PyData.canLay0 (.tuple (zs.map bD)) = true := by simp only [PyData.canLay0]; exact bDs_lay zs
  show (PyData.canLay0 (.tuple (zs.map bD)) && decide (PyData.depth (.tuple (zs.map bD)) ≤ 64)) = true
  rw [h3, decide_eq_true h2]
  rfl
theorem bD_eqv (b c : Int × Int) : PyData.eqv (bD b) (bD c) = decide (b = c) := by
  obtain ⟨b1, b2⟩ := b
  obtain ⟨c1, c2⟩ := c
  have e : PyData.eqv (bD (b1, b2)) (bD (c1, c2)) = ((b1 == c1) && ((b2 == c2) && true)) := by simp only [bD, PyData.eqv, PyData.eqvAll]
  rw [e, Bool.and_true, Bool.eq_iff_iff, Bool.and_eq_true, beq_iff_eq, beq_iff_eq, decide_eq_true_iff, Prod.mk.injEq]
theorem bDs_any (b : Int × Int) : ∀ zs : List (Int × Int), ((zs.map bD).any fun z => PyData.eqv z (bD b)) = decide (b ∈ zs)
  | [] => by simp
  | z :: zs => by
    rw [List.map_cons, List.any_cons, bDs_any b zs, bD_eqv, Bool.eq_iff_iff, Bool.or_eq_true, decide_eq_true_iff, decide_eq_true_iff, decide_eq_true_iff, List.mem_cons]
    exact ⟨fun h => h.imp Eq.symm id, fun h => h.imp Eq.symm id⟩
theorem sD_eqv_refl (zs : List (Int × Int)) : PyData.eqv (.tuple (zs.map bD)) (.tuple (zs.map bD)) = true := by
  simp only [PyData.eqv]
  induction zs with
  | nil => simp [PyData.eqvAll]
  | cons z zs ih => simp [PyData.eqvAll, ih, bD_eqv]
end Ph

namespace Ph
open PySem PySem.Spec PyProof.Rows L2
/-! ### a def's promise where no repr is under way (the guards are known to be empty) -/
structure FnG (P : Program) (w : World) (K : PySem.W.Frag) (mg : Str → Option Value) (base : Heap) (CX : CXT) (k : Nat) (f : Addr) (fd : FuncData) (ps : List Str) (sp : Sp) : Prop where
  cnt : ∀ vs H Q E, sp vs H Q E → vs.length = ps.length
  go : ∀ (A : Around) (outer : List Env) (s : Shared) (H : Hp) (args : Args) (us : List Value) (vs : List V) (Q : VK) (E : XK), A.guards = some [] → Room k A →
    Env0 P w K mg base A outer s H → BindsTo s fd args (ps.zip us) → Vals vs us → sp vs H Q E → codeAny (model P w) A (.call (.ref f) args) (CR CX outer P w H s Q E) s
theorem guards_deeper (A : Around) (env : Env) : (A.deeper env).guards = A.guards := by
  first
    | rfl
    | (cases A; rfl)
section
variable {P : Program} {w : World} {K : PySem.W.Frag} {mg : Str → Option Value} {base : Heap}
theorem FnG.of {CX : CXT} {k : Nat} {f : Addr} {fd : FuncData} {ps : List Str} {sp : Sp} (F : FnOk P w K mg base CX k f fd ps sp) : FnG P w K mg base CX k f fd ps sp :=
  ⟨F.len, fun A outer s H args us vs Q E _ => F.run A outer s H args us vs Q E⟩
theorem okG {x qual : Str} {st : Stmt} {f : Addr} {fd : FuncData} {N ps : List Str} {k : Nat} {sp : Sp} (F : Fun K x qual st f fd) (S : FnScope N ps (defScope st)) (cnt : ∀ vs H Q E, sp vs H Q E → vs.length = ps.length)
    (body : ∀ (cdv : Value) (A : Around) (outer : List Env) (s : Shared) (H : Hp) (vs : List V) (Q : VK) (E : XK), (A.deeper (envOfC qual (defScope st) s.heap.objs.size f cdv)).guards = some [] → Room k (A.deeper (envOfC qual (defScope st) s.heap.objs.size f cdv)) → sp vs H Q E →
      ∃ t, PSs (cxOf CX0 P w K mg base N qual (defScope st) f cdv A outer s H E).nox (defBody st) t ∧ t { nx := fun _ H' => Q .non H', rt := Q } (start N vs) H) : FnG P w K mg base CX0 (k + 1) f fd ps sp := by
  obtain ⟨oc, od, kV, doc, pm, an, cdv, ct, osl, rfl, lk, hcd⟩ := F.ex
  refine ⟨cnt, fun A outer s H args us vs Q E hgu room env bnd vals want => ?_⟩
  have old : ∀ b o, base.get? b = some o → s.heap.get? b = some o := fun b o z => (env.bs b o z).1
  refine Att.call_fn (env.mod.kin.keeps old) (env.mod.nolimit.keeps old) lk hcd room.depth bnd ?_ (fun s1 inside => ?_) S.co S.gen S.kind
  · rw [List.all_eq_true]
    rintro ⟨n, v⟩ hy
    rcases S.par n (List.of_mem_zip hy).1 with z | z <;> simp [z]
  · obtain ⟨t, ht, hq⟩ := body cdv A outer s H vs Q E ((guards_deeper A _).trans hgu) (room.deeper _) want
    have I0 : Inv (cxOf CX0 P w K mg base N qual (defScope st) f cdv A outer s H E) [] (start N vs) H s1 := inv_start S room.hd env (cnt _ _ _ _ want) vals inside
    refine wpAny_mono (ht.nox.run [] s1 (start N vs) H _ I0 hq) (fun flow s2 done => ?_) fun e s2 bad => bad
    have fin : ∀ {σ' : L2.St} {H' : Hp} {v : V} {u : Value}, Inv (cxOf CX0 P w K mg base N qual (defScope st) f cdv A outer s H E) [] σ' H' s2 → RelV v u → Q v H' → CE outer P w H s Q u s2 :=
      fun J rel good => ⟨_, _, J.os, J.bare, J.base, J.hok, rel, good⟩
    match flow, done with
    | .ret u, ⟨v, σ', H', J, rel, good⟩ => exact fin J rel good
    | .next, ⟨σ', H', J, good⟩ => exact fin (v := V.non) (u := Value.none) J rfl good
    | .brk, ⟨_, _, _, z⟩ => exact z.elim
    | .cont, ⟨_, _, _, z⟩ => exact z.elim
end
section
variable {X : Cx} {k : Nat} {f : Addr} {fd : FuncData} {ps : List Str} {sp : Sp} {x : Str} {p pos : Pos} {e : Expr} {es : List Expr} {t : TA}
/-- f(e, ..) of such a def, no exception leaves it -/
theorem pe_callG (F : FnG X.prog X.w X.K X.mg X.base CX0 k f fd ps sp) (hgu : X.A.guards = some []) (room : Room k X.A) (hg : Gl X x) (hm : X.mg x = some (.ref f)) (hk : PySem.W.keepIn X.K (.ref f) = true) (hb : Binds X.K fd ps [])
    (ha : PA X (e :: es) t) (hdb : (x == ("__debug__" : Str)) = false := by decide) (he : starEach (e :: es) X.env = (false, eval e X.env) :: starEach es X.env := by rfl) (hpl : (backTo pos (starEach es X.env)).any (·.1) = false := by rfl) :
    PE X (.Call (.Name x p) (e :: es) [] pos) (tCall sp [] E0 t) := ⟨fun pins s σ H Q I want => by
  refine wpAny_Call_Name_kw (ld_glob I hg hm ?_ hdb)
  refine PySem.W.callWith_K (h₀ := X.base) I.ok.mod.kin hk (thn (ha.run pos pins s σ H _ I want) fun us s1 ⟨vs, H1, I1, vals, good⟩ => ⟨I1.kIn, ?_⟩) he hpl
  have n1 : (us ++ []).length = ps.length := by
    rw [← (vals.append (Paired.nil : Vals [] [])).length]
    exact F.cnt _ _ _ _ good
  refine wpAny_call (codeAny_mono (F.go X.A X.stack s1 H1 ⟨us, []⟩ (us ++ []) (vs ++ []) Q E0 hgu room I1.env0 (hb s1 us I1.kIn n1) (vals.append .nil) good) fun r s2 out => ?_)
  match r, out with
  | .ok (.ret u), out => exact I1.after out
  | .error _, out => exact out.elim⟩
/-- repr of lists and tuples of data -/
theorem call_reprD (hgu : X.A.guards = some []) (hu : X.A.units + 64 < cLine) : CallR X (.builtin "repr") (fun xs H Q => ∃ (a : Addr) (d : PyData), xs = [.ref a] ∧ Dp X.K H (.ref a) d ∧ d.showable = true ∧ d.hasDict = false ∧ d.depth ≤ 60 ∧ d.shown.length ≤ sizeLine ∧ Q (.str d.shown) H) := by
  intro pins s σ H xs us Q I r h
  obtain ⟨a, d, rfl, dp, sh, nd, dep, len, q⟩ := h
  obtain ⟨u, rfl, ru⟩ := vals1 r
  obtain ⟨as, rd⟩ := Dp.reads I d _ _ dp ru
  cases ru
  exact repr_of_reads' rd sh (PyData.noDict_hsm nd) hgu (by omega) (fun _ _ z => z) (fun h' v tk keep => ⟨.str _, H, I.kept keep, ⟨_, rfl⟩, q⟩) len
end
/-- tuples of ints as data -/
theorem dp_ints {K : PySem.W.Frag} {H : Hp} : ∀ ns : List Int, DpAll K H (ns.map V.int) (ns.map PyData.int)
  | [] => .nil
  | n :: r => .cons (.int n) (dp_ints r)
theorem showable_ints : ∀ ns : List Int, (∀ n ∈ ns, n.natAbs.log2 < 1920) → PyData.showableAll (ns.map PyData.int) = true
  | [], _ => by simp [PyData.showableAll]
  | n :: r, h => by
    have h1 := h n (List.mem_cons_self ..)
    have h2 := showable_ints r fun m hm => h m (List.mem_cons_of_mem _ hm)
    simp only [List.map_cons, PyData.showableAll, PyData.showable, h2, Bool.and_true, decide_eq_true h1]
theorem noDict_ints : ∀ ns : List Int, PyData.hasDictAll (ns.map PyData.int) = false
  | [] => by simp [PyData.hasDictAll]
  | n :: r => by
    have h2 := noDict_ints r
    simp only [List.map_cons, PyData.hasDictAll, PyData.hasDict, h2, Bool.or_self]
theorem depth_ints : ∀ ns : List Int, PyData.depthAll (ns.map PyData.int) ≤ 2
  | [] => by simp [PyData.depthAll]
  | n :: r => by
    have h2 := depth_ints r
    simp only [List.map_cons, PyData.depthAll, PyData.depth]
    omega
theorem shown_ints : ∀ ns : List Int, PyData.shownAll (ns.map PyData.int) = ns.map fun n => (toString n : Str)
  | [] => by simp [PyData.shownAll]
  | n :: r => by
    simp only [List.map_cons, PyData.shownAll, PyData.shown, shown_ints r]
end Ph

namespace Ph
open PySem PySem.Spec PyProof.Rows L2
/-! ### data that repr can show -/
structure Rp (d : PyData) : Prop where
  sh : d.showable = true
  nd : d.hasDict = false
  dp : d.depth ≤ 60
  ln : d.shown.length ≤ sizeLine
/-- short leaves, no dict -/
structure Sho (d : PyData) (n k : Nat) : Prop where
  sh : d.showable = true
  nd : d.hasDict = false
  dp : d.depth ≤ n
  lv : d.leavesShort 24 = true
  wt : d.weight ≤ k
structure ShoAll (ds : List PyData) (n k : Nat) : Prop where
  sh : PyData.showableAll ds = true
  nd : PyData.hasDictAll ds = false
  dp : PyData.depthAll ds ≤ n
  lv : PyData.leavesShortAll 24 ds = true
  wt : PyData.weightAll ds ≤ k
theorem Sho.rp {d : PyData} {n k : Nat} (s : Sho d n k) (hn : n ≤ 60) (hk : k ≤ 600000) : Rp d := by
  refine ⟨s.sh, s.nd, Nat.le_trans s.dp hn, ?_⟩
  have h := PyData.shown_le 24 (by decide) d s.lv
  have h2 := s.wt
  have h3 : sizeLine = 16777216 := by decide
  omega
theorem sho_int {i : Int} (h : i.natAbs < 10 ^ 20) : Sho (.int i) 0 67 := by
  have hl : i.natAbs.log2 < 67 := by
    by_cases z : i.natAbs = 0
    · rw [z]; decide
    · exact (Nat.log2_lt z).mpr (Nat.lt_of_lt_of_le h (by decide))
  refine ⟨?_, by simp only [PyData.hasDict], by simp only [PyData.depth]; omega, ?_, ?_⟩
  · simp only [PyData.showable, decide_eq_true_eq]
    omega
  · have e := int_text_length_le10 (a := i) (k := 20) (by decide) h
    have e2 : (PyData.shown (.int i)).length ≤ 24 := by
      show (Str.ofString (toString i)).length ≤ 24
      rw [PySem.ofString_length]
      omega
    simp only [PyData.leavesShort]
    exact decide_eq_true e2
  · simp only [PyData.weight]
    split <;> omega
theorem ShoAll.nil (n k : Nat) : ShoAll [] n k := ⟨by simp only [PyData.showableAll], by simp only [PyData.hasDictAll], by simp only [PyData.depthAll]; omega, by simp only [PyData.leavesShortAll], by simp only [PyData.weightAll]; omega⟩
theorem ShoAll.cons {d : PyData} {ds : List PyData} {n k m : Nat} (s : Sho d n k) (r : ShoAll ds n m) : ShoAll (d :: ds) n (k + 1 + m) := by
  refine ⟨by simp only [PyData.showableAll, s.sh, r.sh, Bool.and_self], by simp only [PyData.hasDictAll, s.nd, r.nd, Bool.or_self], ?_, by simp only [PyData.leavesShortAll, s.lv, r.lv, Bool.and_self], ?_⟩
  · have h1 := s.dp
    have h2 := r.dp
    simp only [PyData.depthAll]
    omega
  · have h1 := s.wt
    have h2 := r.wt
    simp only [PyData.weightAll]
    omega
theorem ShoAll.of {ds : List PyData} {n k : Nat} (h : ∀ d ∈ ds, Sho d n k) : ShoAll ds n ((k + 1) * ds.length) := by
  induction ds with
  | nil => exact .nil _ _
  | cons d r ih =>
    have s := ShoAll.cons (h d (List.mem_cons_self ..)) (ih fun x hx => h x (List.mem_cons_of_mem _ hx))
    rw [List.length_cons, Nat.mul_add, Nat.mul_one, Nat.add_comm]
    exact s
theorem ShoAll.tuple {ds : List PyData} {n k : Nat} (s : ShoAll ds n k) : Sho (.tuple ds) (n + 1) k :=
  ⟨by simp only [PyData.showable]; exact s.sh, by simp only [PyData.hasDict]; exact s.nd, by have := s.dp; simp only [PyData.depth]; omega, by simp only [PyData.leavesShort]; exact s.lv, by simp only [PyData.weight]; exact s.wt⟩
theorem ShoAll.list {ds : List PyData} {n k : Nat} (s : ShoAll ds n k) : Sho (.list ds) (n + 1) k :=
  ⟨by simp only [PyData.showable]; exact s.sh, by simp only [PyData.hasDict]; exact s.nd, by have := s.dp; simp only [PyData.depth]; omega, by simp only [PyData.leavesShort]; exact s.lv, by simp only [PyData.weight]; exact s.wt⟩
theorem sho_ints {ns : List Int} (h : ∀ n ∈ ns, n.natAbs < 10 ^ 20) : ShoAll (ns.map PyData.int) 0 (68 * ns.length) := by
  have := ShoAll.of (ds := ns.map PyData.int) (n := 0) (k := 67) fun d hd => by
    obtain ⟨i, hi, rfl⟩ := List.mem_map.mp hd
    exact sho_int (h i hi)
  rwa [List.length_map] at this
theorem rp_tupI {ns : List Int} (h : ∀ n ∈ ns, n.natAbs < 10 ^ 20) (hl : ns.length ≤ 8000) : Rp (.tuple (ns.map PyData.int)) := (sho_ints h).tuple.rp (by omega) (by omega)
theorem rp_lstI {ns : List Int} (h : ∀ n ∈ ns, n.natAbs < 10 ^ 20) (hl : ns.length ≤ 8000) : Rp (.list (ns.map PyData.int)) := (sho_ints h).list.rp (by omega) (by omega)
theorem sho_bk {b : Int × Int} (h1 : b.1.natAbs < 10 ^ 20) (h2 : b.2.natAbs < 10 ^ 20) : Sho (bD b) 1 136 := (sho_ints (ns := [b.1, b.2]) (fun n hn => by
  rcases List.mem_cons.mp hn with e | e
  · rw [e]; exact h1
  · rw [List.mem_singleton.mp e]; exact h2)).tuple
theorem rp_st {bs : List (Int × Int)} (h : ∀ b ∈ bs, b.1.natAbs < 10 ^ 20 ∧ b.2.natAbs < 10 ^ 20) (hl : bs.length ≤ 4000) : Rp (.tuple (bs.map bD)) := by
  have := ShoAll.of (ds := bs.map bD) (n := 1) (k := 136) fun d hd => by
    obtain ⟨b, hb, rfl⟩ := List.mem_map.mp hd
    exact sho_bk (h b hb).1 (h b hb).2
  rw [List.length_map] at this
  exact this.tuple.rp (by omega) (by omega)
section
variable {X : Cx}
/-- repr(e) of such data -/
def rRp (K : PySem.W.Frag) : List V → Hp → VK → Prop := fun xs H Q => ∃ (a : Addr) (d : PyData), xs = [.ref a] ∧ Dp K H (.ref a) d ∧ Rp d ∧ Q (.str d.shown) H
theorem call_rp (hgu : X.A.guards = some []) (hu : X.A.units + 64 < cLine) : CallR X (.builtin "repr") (rRp X.K) := by
  intro pins s σ H xs us Q I r h
  obtain ⟨a, d, e, dp, rp, q⟩ := h
  exact call_reprD hgu hu pins s σ H xs us Q I r ⟨a, d, e, dp, rp.sh, rp.nd, rp.dp, rp.ln, q⟩
end
end Ph

namespace Ph
open PySem PySem.Spec PyProof.Rows L2
/-! ### tuples of ints and states as data -/
theorem il_lay : ∀ ns : List Int, PyData.canLayAll0 (ns.map PyData.int) = true
  | [] => by simp [PyData.canLayAll0]
  | z :: zs => by simp [PyData.canLayAll0, PyData.canLay0, il_lay zs]
theorem il_depth : ∀ zs : List Int, PyData.depthAll (zs.map PyData.int) ≤ 1
  | [] => by simp [PyData.depthAll]
  | z :: zs => by
    have h1 := il_depth zs
    simp only [List.map_cons, PyData.depthAll, PyData.depth]
    omega
theorem tl_shaped (zs : List Int) : SeqAt.shaped (.tuple (zs.map PyData.int)) = true := by
  have h1 := il_depth zs
  have h2 : PyData.depth (.tuple (zs.map PyData.int)) ≤ 64 := by simp only [PyData.depth]; omega
  have h3 : PyData.canLay0 (.tuple (zs.map PyData.int)) = true := by simp only [PyData.canLay0]; exact il_lay zs
  show (PyData.canLay0 (.tuple (zs.map PyData.int)) && decide (PyData.depth (.tuple (zs.map PyData.int)) ≤ 64)) = true
  rw [h3, decide_eq_true h2]
  rfl
theorem il_shaped (zs : List Int) : SeqAt.shaped (.list (zs.map PyData.int)) = true := by
  have h1 := il_depth zs
  have h2 : PyData.depth (.list (zs.map PyData.int)) ≤ 64 := by simp only [PyData.depth]; omega
  have h3 : PyData.canLay0 (.list (zs.map PyData.int)) = true := by simp only [PyData.canLay0]; exact il_lay zs
  show (PyData.canLay0 (.list (zs.map PyData.int)) && decide (PyData.depth (.list (zs.map PyData.int)) ≤ 64)) = true
  rw [h3, decide_eq_true h2]
  rfl
theorem il_all (zs : List Int) : PyData.eqvAll (zs.map PyData.int) (zs.map PyData.int) = true := by
  induction zs with
  | nil => simp [PyData.eqvAll]
  | cons z zs ih => simp [PyData.eqvAll, ih, PyData.eqv]
theorem tl_eqv (zs : List Int) : PyData.eqv (.tuple (zs.map PyData.int)) (.tuple (zs.map PyData.int)) = true := by
  simp only [PyData.eqv]
  exact il_all zs
theorem il_eqv (zs : List Int) : PyData.eqv (.list (zs.map PyData.int)) (.list (zs.map PyData.int)) = true := by
  simp only [PyData.eqv]
  exact il_all zs
theorem BL.dp {K : PySem.W.Frag} {H : Hp} : ∀ {xs : List V} {bs : List Bk}, BL H xs bs → DpAll K H xs (bs.map bD)
  | _, _, .nil => .nil
  | _, _, .cons ⟨t, e1, e2⟩ r => by
    rw [List.map_cons]
    refine .cons ?_ (BL.dp r)
    rw [e1]
    exact .tup (.inl (.inl e2)) (.cons (.int _) (.cons (.int _) .nil))
theorem StAt.dp {K : PySem.W.Frag} {H : Hp} {t : Addr} {bs : List Bk} (h : StAt H t bs) : Dp K H (.ref t) (.tuple (bs.map bD)) := by
  obtain ⟨xs, e, bl⟩ := h
  exact .tup (.inl (.inl e)) bl.dp
theorem SqT.dp {K : PySem.W.Frag} {H : Hp} {t : Addr} {ns : List Int} (h : SqT K H t (ns.map V.int)) : Dp K H (.ref t) (.tuple (ns.map PyData.int)) := .tup h (dpI ns)
theorem BL.app {H : Hp} : ∀ {xs ys : List V} {bs cs : List Bk}, BL H xs bs → BL H ys cs → BL H (xs ++ ys) (bs ++ cs)
  | _, _, _, _, .nil, h => h
  | _, _, _, _, .cons h r, k => .cons h (BL.app r k)
theorem u64_of {A : Around} {k : Nat} (hr : Room k A) : A.units + 64 < cLine := by have := hr.un; omega
theorem perm_sorted : ∀ {l m : List Int}, m.Perm l → l.Pairwise (· ≤ ·) → m.Pairwise (· ≤ ·) → m = l := fun {l m} p h1 h2 => p.eq_of_pairwise (fun a b _ _ x y => Int.le_antisymm x y) h2 h1
theorem tl_pair {s : Nat → Nat} {m : Nat} (h : ∀ i, i + 1 < m → s i ≤ s (i + 1)) : (tl s m).Pairwise (· ≤ ·) := by
  induction m with
  | zero => exact List.Pairwise.nil
  | succ m ih =>
    rw [tl_succ, List.pairwise_append]
    refine ⟨ih fun i hi => h i (by omega), List.pairwise_singleton _ _, fun a ha b hb => ?_⟩
    obtain ⟨i, hi, rfl⟩ := tl_mem.mp ha
    rw [List.mem_singleton.mp hb]
    have : ∀ d i, i + d = m → s i ≤ s m := by
      intro d
      induction d with
      | zero => intro i e; rw [← e]; exact Nat.le_refl _
      | succ d ihd => intro i e; exact Nat.le_trans (h i (by omega)) (ihd (i + 1) (by omega))
    have := this (m - i) i (by omega)
    omega
/-- how far the bounds reach at the most -/
theorem BD.ub {s b : Nat → Nat} {m M : Nat} (c : CH s m) (B : BD s b m M) {S : Nat} (hS : ∀ j, j < m → s j ≤ S) : ∀ i, i < m → b i ≤ (i + 1) * M + i * S
  | 0, h => by rw [B.b0]; omega
  | i + 1, h => by
    have ih := BD.ub c B hS i (by omega)
    have p := c.pos h
    have h1 := cdw_lt (x := b i) p
    have h2 := Nat.div_mul_le_self (M - Lw s b (s (i + 1)) (i + 1)) (s (i + 1))
    have h3 := hS _ h
    rw [B.bs i h, Nat.mul_add]
    rw [Nat.mul_comm] at h1 h2
    have e1 : (i + 1 + 1) * M = (i + 1) * M + M := by rw [Nat.add_mul, Nat.one_mul]
    have e2 : (i + 1) * S = i * S + S := by rw [Nat.add_mul, Nat.one_mul]
    rw [e1, e2]
    omega
end Ph

namespace Ph
open PySem PySem.Spec PyProof.Rows L2
section
variable {P : Program} {w : World} {A : Around} {E : Value → Shared → Prop} {s : Shared}
/-- the items of a tuple, laid into a list first -/
theorem collect_tup {a : Addr} {us : List Value} {Q : List Value → Shared → Prop} (ht : s.heap.IsTuple a us.toArray) (few : us.length ≤ sizeLine)
    (q : ∀ g, (∀ b o, s.heap.get? b = some o → g.get? b = some o) → s.heap.objs.size ≤ g.objs.size → Q us { s with heap := g }) :
    wpAny (model P w) A (collect (.ref a)) Q E s := by
  obtain ⟨o, ho, hc, n, hd⟩ := id ht
  have at0 : (s.heap.push (seqObj "list" #[] 0)).get? s.heap.objs.size = some (seqObj "list" #[] 0) := Heap.get?_push_size _ rfl
  have at1 : (s.heap.push (seqObj "list" #[] 0)).get? a = some o := Heap.get?_push_of_some _ ho
  unfold collect
  refine wpAny_bind (wpAny_runValue (codeAny_builtin entry_proto_collect' ?_))
  show wpAny _ _ (do again (.builtin "list.__iadd__" ⟨[← newList [], .ref a], []⟩)) _ _ s
  refine wpAny_bind (wpAny_newList (wpAny_pure ⟨Code.quiet_builtin _ (by decide +kernel), codeAny_builtin entry_list_iadd' ?_⟩))
  show wpAny _ _ (Builtin.List.listExtendWith (.ref s.heap.objs.size) (.ref a) (.ref s.heap.objs.size)) _ _ { s with heap := s.heap.push (seqObj "list" #[] 0) }
  unfold Builtin.List.listExtendWith
  refine wpAny_bind (wpAny_typeOf (T := "tuple") ⟨o, at1, hc⟩ ?_)
  have same : (Value.type "tuple" == Value.type "tuple") = true := by rfl
  rw [if_pos (by rw [same]; simp)]
  refine wpAny_bind (listItems_at at1 hd ?_)
  refine wpAny_bind (listItems_at (xs := #[]) (n := 0) at0 rfl ?_)
  rw [if_neg (by simp)]
  refine wpAny_bind (listUpdate_at (xs := #[]) (n := 0) at0 rfl ?_ (Nat.zero_le _) (by show (#[] ++ us.toArray).size ≤ sizeLine + 1; simp only [Array.size_append, List.size_toArray, List.length_nil]; omega))
  refine wpAny_pure ?_
  refine wpAny_bind (m := load s.heap.objs.size) (wpAny_load (get?_update_seq at0 _) ?_)
  have e : ((#[] : Array Value) ++ us.toArray).toList = us := by simp
  show wpAny _ _ (pure ((#[] : Array Value) ++ us.toArray).toList) Q E _
  rw [e]
  refine wpAny_pure (q _ (fun b u hb => ?_) ?_)
  · have lt := Heap.lt_size hb
    rw [Heap.get?_update_ne _ _ _ _ (Nat.ne_of_lt lt)]
    exact Heap.get?_push_of_some _ hb
  · rw [Heap.size_update, size_push']
    exact Nat.le_succ _
theorem sorted_of_tup {a : Addr} {us : List Value} {is : List Int} {Q : Value → Shared → Prop} (ht : s.heap.IsTuple a us.toArray) (few : us.length ≤ sizeLine) (hI : IntsAre us is)
    (q : ∀ g p (out : Array Value) (c : Nat) (ns : List Int), (∀ b u, s.heap.get? b = some u → g.get? b = some u) → s.heap.objs.size ≤ p → g.get? p = some (seqObj "list" out c) → IntsAre out.toList ns → ns.Perm is → ns.Pairwise (· ≤ ·) → Q (.ref p) { s with heap := g }) :
    wpAny (model P w) A (call (.builtin "sorted") [.ref a]) Q E s := by
  refine Calls.call_function_entry kind_sorted plain_sorted entry_sorted (args_sorted1 _) ?_; unfold Builtin.«sorted»
  refine wpAny_bind (m := checkCount "sorted" 1 1 _) (wpAny_pure (wpAny_bind (collect_tup ht few fun g keep hz => ?_)))
  refine wpAny_bind (wpAny_newList ?_ few)
  have at1 : (g.push (seqObj "list" us.toArray 0)).get? g.objs.size = some (seqObj "list" us.toArray 0) := Heap.get?_push_size _ rfl
  refine wpAny_bind (wpAny_holding (wpAny_call_entry slot_list_sort ⟨_, at1, rfl⟩ entry_list_sort (SrtO.list_sort_ord SrtO.swo_int at1 few (fun h2 => SrtO.ints_sortable hI h2) fun out b1 b2 => ⟨_, rfl, ?_⟩) (args_list_sort _)))
  obtain ⟨k2, k3, k4⟩ := SrtO.ints_out hI b1 b2
  obtain ⟨c, hc⟩ := sortedHeap_at (vs := us) (out := out.toArray) at1
  refine wpAny_pure ⟨_, rfl, q _ g.objs.size out.toArray c (out.map SrtO.iv) (fun b u e => ?_) hz hc (by simpa using k2) k3 k4⟩
  have z := keep b u e
  have lt := Heap.lt_size z
  show (sortedHeap (g.push (seqObj "list" us.toArray 0)) g.objs.size us out.toArray).get? b = some u
  rw [sortedHeap_old (Nat.ne_of_lt lt) (by rw [size_push']; exact Nat.lt_succ_of_lt lt)]
  exact Heap.get?_push_of_some _ z
end
section
variable {X : Cx}
def rSortedTI (K : PySem.W.Frag) : List V → Hp → VK → Prop := fun vs H Q => ∃ (a : Addr) (ns : List Int), vs = [V.ref a] ∧ SqT K H a (ns.map V.int) ∧ ∀ (ms : List Int) (p : Addr), ms.Perm ns → ms.Pairwise (· ≤ ·) → H p = none → Q (.ref p) (upd H p (.lst (ms.map V.int)))
theorem cr_sortedTI : CallR X (.builtin "sorted") (rSortedTI X.K) := by
  intro pins s σ H vs us Q I r h
  obtain ⟨a, ns, rfl, hs, q⟩ := h
  obtain ⟨its, rv, hl, hz⟩ := I.tuple hs
  rw [Vals.ref1 r]
  have hi := rv.ints
  have few : its.length ≤ sizeLine := by rw [← rv.length]; exact hz
  refine sorted_of_tup hl few hi fun g p out c ms keep hp hg hm pm2 srt => ?_
  have len : (ms.map V.int).length ≤ sizeLine := by rw [List.length_map, pm2.length_eq, ← List.length_map (f := V.int)]; exact hz
  exact ⟨.ref p, upd H p (.lst (ms.map V.int)), I.laid (t' := s.toks) keep hp ⟨len, out.toList, c, vals_of_ints hm, hg⟩, rfl, q ms p pm2 srt (I.hok.fresh hp)⟩
end
end Ph

namespace Ph
open PySem PySem.Spec PyProof.Rows L2
/-! ### the end of a law whose promise asks for empty guards -/
section
variable {P : Program} {w : World} {K : PySem.W.Frag} {mg mb : Str → Option Value} {k : Nat} {fa a : Addr} {fd : FuncData} {x : Str} {sp : Sp} {s₁ : Shared} {vs : List Value} {ns : List Int}
abbrev LawEnd (s₁ : Shared) : Result → Shared → Prop := fun r s' => r = .ok (.ret (.bool true)) ∧ OldK s₁.heap s'.heap ∧ s'.os = s₁.os ∧ AllBare s'.gens
theorem end_core (KX : K.In s₁.heap) (hns : s₁.heap.Ns mainGlobals mg) (hb : s₁.heap.Ns builtinsNs mb) (hbb : ∀ z : Str, z ≠ "__name__" → mb z = bootBuiltins z) (lim : s₁.heap.NoLimit) (gens : s₁.gens = #[])
    (isList : ∃ o, s₁.heap.get? a = some o ∧ ∀ es ep, o.data ≠ .dict es ep) (room : Room k callerA) (F : ∀ base : Heap, K.In base → base.Ns mainGlobals mg → FnG P w K mg base CX0 k fa fd [x] sp) (bnd : ∀ (s : Shared) (u : Value), BindsTo s fd ⟨[u], []⟩ [(x, u)])
    (H : Hp) (alone : ∀ b o, H b = some o → b = a ∧ ∃ ob zs, o = .frz ob (.lst zs)) (ok : HOk P w H s₁.heap) (free : H a ≠ none → K.lookup a = none) (want : sp [.ref a] H (fun v _ => v = .bl true) fun _ _ _ => False) :
    codeAny (model P w) callerA (.call (.ref fa) ⟨[.ref a], []⟩) (LawEnd s₁) s₁ := by
  obtain ⟨oa, ha, noD⟩ := isList
  have none_of : ∀ {b : Addr}, b ≠ a → H b = none := fun {b} nb => by
    cases z : H b with
    | none => rfl
    | some o => exact absurd (alone b o z).1 nb
  have dictFree : ∀ {b : Addr} {o : Obj} {es : Array DictEntry} {ep : Nat}, s₁.heap.get? b = some o → o.data = .dict es ep → H b = none := fun {b o es ep} g d => none_of fun z => by
    subst z
    rw [ha] at g
    cases g
    exact noD es ep d
  have ns2 : ∀ {b : Addr} {m : Str → Option Value}, s₁.heap.Ns b m → (hidT s₁.heap H).Ns b m := fun ⟨o, es, ep, g, d, rest⟩ => ⟨o, es, ep, hidT_get g (dictFree g d), d, rest⟩
  have kin : K.In (hidT s₁.heap H) := fun b o g => hidT_get (KX b o g) (by
    cases z : H b with
    | none => rfl
    | some u =>
      have e1 := (alone b u z).1
      subst e1
      rw [free (by rw [z]; exact fun q => nomatch q)] at g
      cases g)
  have modu : Mod K mg (hidT s₁.heap H) := ⟨kin, ns2 hns, ⟨mb, ns2 hb, hbb⟩, let ⟨mc, z1, z2⟩ := lim; ⟨mc, ns2 z1, z2⟩⟩
  have env : Env0 P w K mg (hidT s₁.heap H) callerA [] s₁ H := ⟨rfl, modu, fun b o g => of_hidT g, Nat.le_of_eq (hidT_size _ _), trivial, fun b hb => (List.not_mem_nil hb).elim, ok, .of_eq gens⟩
  refine codeAny_mono ((F _ kin (ns2 hns)).go callerA [] s₁ H ⟨[.ref a], []⟩ [.ref a] [.ref a] _ _ rfl room env (bnd s₁ (.ref a)) (.cons rfl .nil) want) fun r s2 out => ?_
  match r, out with
  | .error _, out => exact out.elim
  | .ok (.ret u), ⟨v, H', os, bare, un, ok2, rel, good⟩ =>
    have good' : v = .bl true := good
    subst good'
    obtain rfl : u = Value.bool true := rel
    refine ⟨rfl, OldK.of_keep fun b o g => ?_, os, bare⟩
    cases z : H b with
    | none => exact un.keep b o g z (fun q => (List.not_mem_nil q).elim) (by simp)
    | some u =>
      obtain ⟨_, ob, zs, rfl⟩ := alone b u z
      obtain ⟨e1, _⟩ := ok b _ z
      obtain ⟨e2, _⟩ := ok2 b _ (un.frzs b ob _ z)
      rw [g] at e1
      cases e1
      exact e2
theorem end_call (KX : K.In s₁.heap) (hns : s₁.heap.Ns mainGlobals mg) (hb : s₁.heap.Ns builtinsNs mb) (hbb : ∀ z : Str, z ≠ "__name__" → mb z = bootBuiltins z) (lim : s₁.heap.NoLimit) (gens : s₁.gens = #[])
    (ha : s₁.heap.get? a = some { cls := .type "list", data := .seq vs.toArray }) (hi : IntsAre vs ns) (hl : ns.length ≤ sizeLine) (room : Room k callerA) (F : ∀ base : Heap, K.In base → base.Ns mainGlobals mg → FnG P w K mg base CX0 k fa fd [x] sp) (bnd : ∀ (s : Shared) (u : Value), BindsTo s fd ⟨[u], []⟩ [(x, u)])
    (want : ∀ H : Hp, SqL K H a (ns.map V.int) → sp [.ref a] H (fun v _ => v = .bl true) fun _ _ _ => False) :
    codeAny (model P w) callerA (.call (.ref fa) ⟨[.ref a], []⟩) (LawEnd s₁) s₁ := by
  have isL : ∃ o, s₁.heap.get? a = some o ∧ ∀ es ep, o.data ≠ .dict es ep := ⟨_, ha, fun _ _ z => nomatch z⟩
  cases lk : K.lookup a with
  | some o =>
    have g := KX a o lk
    rw [ha] at g
    cases g
    refine end_core KX hns hb hbb lim gens isL room F bnd (fun _ => none) (fun b o z => nomatch z) (fun b u z => nomatch z) (fun z => (z rfl).elim) (want _ (.inr ⟨_, vs.toArray, _, lk, rfl, rfl, rfl, by rw [List.size_toArray, hi.length]; exact hl, by simpa using vals_ints hi⟩))
  | none =>
    refine end_core KX hns hb hbb lim gens isL room F bnd (fun b => if b = a then some (.frz { cls := .type "list", data := .seq vs.toArray } (.lst (ns.map V.int))) else none) (fun b o z => ?_) (fun b u z => ?_) (fun _ => lk) (want _ (.inl (.inr ⟨_, if_pos rfl⟩)))
    · by_cases e : b = a
      · have z' := (if_pos e).symm.trans z
        cases z'
        exact ⟨e, _, _, rfl⟩
      · exact nomatch (if_neg e).symm.trans z
    · by_cases e : b = a
      · have z' := (if_pos e).symm.trans z
        cases z'
        subst e
        exact ⟨ha, by rw [List.length_map]; exact hl, vs, _, vals_ints hi, ha⟩
      · exact nomatch (if_neg e).symm.trans z
end
theorem walkG {l : PySem.W.OpenLaw} {n k : Nat} {q : Program} {loose : List Str} {XP : (Str → Option Value) → Heap → Prop} {YP : World → Heap → Prop} {d : DefRec} {K : Params → PySem.W.Frag} {sp : World → Sp} {x : Str}
    (hn : l.most = some n) (hn2 : n ≤ sizeLine) (hdf : d.params.defaults = []) (room : Room k callerA) (hY : ∀ (w : World) (h : Heap), YP w h → (K w.params).In h)
    (F : ∀ (w : World) (mg : Str → Option Value) (fa : Addr) (h : Heap), (K w.params).In h → h.Ns mainGlobals mg → mg d.name = some (.ref fa) →
      ∃ fd : FuncData, (∀ (s : Shared) (u : Value), BindsTo s fd ⟨[u], []⟩ [(x, u)]) ∧ ∀ base : Heap, (K w.params).In base → base.Ns mainGlobals mg → FnG l.prog w (K w.params) mg base CX0 k fa fd [x] (sp w))
    (want : ∀ (w : World) (H : Hp) (a : Addr) (ns : List Int), ns.length ≤ n → SqL (K w.params) H a (ns.map V.int) → sp w [.ref a] H (fun v _ => v = .bl true) fun _ _ _ => False) :
    PySem.W.WalkO q loose XP YP l.row.toRowW d [] (fun f vs => PySem.call f vs) := by
  refine Att.attach_call hn hdf fun w s₀ s₁ mg mb fa o pm cd doc a vs ns G Y ho hd hcd hmg hobj hints hlen hg => ?_
  obtain ⟨fd, bnd, hF⟩ := F w mg fa _ (hY w _ Y) G.T.g hmg
  exact end_call (hY w _ Y) G.T.g G.T.b G.T.builtins G.T.nolimit hg hobj hints (Nat.le_trans hlen hn2) room hF bnd fun H hS => want w H a ns hlen hS
end Ph

namespace Ph
open PySem PySem.Spec PyProof.Rows L2
section
variable {X : Cx}
/-! ### powers of wide numbers; an item of a list or a tuple -/
def CPowW (i j : Int) : Prop := 0 ≤ j ∧ (Builtin.Int.intBits i : Int) * j ≤ 2 ^ 27
theorem op_powW : OpR X (binaryOp .Pow) (rI CPowW fun i j => .int (i ^ j.toNat)) := opI fun _ _ _ _ _ _ _ hc q => pow_int hc.1 hc.2 q
def rIxA (K : PySem.W.Frag) : V → V → Hp → VK → Prop := fun x y H Q => rIxL K x y H Q ∨ rIxT K x y H Q
theorem ix_any : IxR X (rIxA X.K) := by
  intro ea eb pins s σ H x y v u Q I rx ry h hs
  rcases h with h | h
  · exact ix_list ea eb pins s σ H x y v u Q I rx ry h hs
  · exact ix_tup ea eb pins s σ H x y v u Q I rx ry h hs
end
theorem join {R G : Hp → Prop} {C : Prop} (m : (∀ Hx, R Hx → G Hx) → C) (k : ∀ Hx, R Hx → G Hx) : C := m k
/-! ### draws: digits, a mixed number, a count -/
structure DrV (c : Nat) (g r n : Int) : Prop where
  g0 : 0 ≤ g
  g1 : g.natAbs < 2 ^ 3000
  r0 : 0 ≤ r
  r1 : r < 2305843009213693921
  n0 : 0 ≤ n
  n1 : n ≤ c
def Dr (c : Nat) (H : Hp) (p : Addr) : Prop := ∃ g r n : Int, H p = some (.lst [.int g, .int r, .int n]) ∧ DrV c g r n
theorem Dr.up {c d : Nat} {H : Hp} {p : Addr} (h : Dr c H p) (le : c ≤ d) : Dr d H p := by
  obtain ⟨g, r, n, e, v⟩ := h
  exact ⟨g, r, n, e, v.g0, v.g1, v.r0, v.r1, v.n0, by have := v.n1; omega⟩
theorem Dr.same {c : Nat} {H H' : Hp} {p : Addr} (P : Dr c H p) (s : Same H H') : Dr c H' p := by
  obtain ⟨g, r, n, h, v⟩ := P
  exact ⟨g, r, n, s _ _ h, v⟩
theorem Dr.ne_none {c : Nat} {H : Hp} {p q : Addr} (P : Dr c H p) (h : H q = none) : p ≠ q := by
  obtain ⟨g, r, n, e, v⟩ := P
  exact ne_of_none e h
theorem Dr.netup {c : Nat} {H : Hp} {p t : Addr} {xs : List V} (P : Dr c H p) (e : H t = some (.tup xs)) : t ≠ p := fun z => by
  obtain ⟨g, r, n, e0, _⟩ := P
  rw [z, e0] at e
  cases e
theorem Dr.nefrz {c : Nat} {H : Hp} {p t : Addr} {ob : Obj} {u : HO} (P : Dr c H p) (e : H t = some (.frz ob u)) : t ≠ p := fun z => by
  obtain ⟨g, r, n, e0, _⟩ := P
  rw [z, e0] at e
  cases e
theorem Dr.keep {c : Nat} {H : Hp} {p o : Addr} {u : HO} (P : Dr c H p) (n : p ≠ o) : Dr c (upd H o u) p := by
  obtain ⟨g, r, k, e0, v⟩ := P
  exact ⟨g, r, k, by rw [upd_ne n]; exact e0, v⟩
def TAt (H : Hp) (c : Addr) (C : List Int) : Prop := H c = some (.tup (C.map V.int)) ∨ ChAt H c C
theorem TAt.sq {K : PySem.W.Frag} {H : Hp} {c : Addr} {C : List Int} (h : TAt H c C) : SqT K H c (C.map V.int) := by
  rcases h with h | h
  · exact .inl (.inl h)
  · exact h.sq
theorem TAt.same {H H' : Hp} {c : Addr} {C : List Int} (h : TAt H c C) (s : Same H H') : TAt H' c C := by
  rcases h with h | h
  · exact .inl (s _ _ h)
  · exact .inr (h.keep s)
theorem TAt.butD {k : Nat} {p : Addr} {H H' : Hp} {c : Addr} {C : List Int} (h : TAt H c C) (b : But p H H') (P : Dr k H p) : TAt H' c C := by
  rcases h with h | ⟨o, d, e⟩
  · exact .inl (b _ _ (P.netup h) h)
  · exact .inr ⟨o, d, b _ _ (P.nefrz e) e⟩
/-- a chain of p + 1 sizes, each one at least twice the one before, none above m -/
structure Cn (s : Nat → Nat) (p m : Nat) : Prop where
  ch : CH s (p + 1)
  two : ∀ i, i < p → ∃ r, 2 ≤ r ∧ r ≤ 1000 ∧ s (i + 1) = s i * r
  top : s p ≤ m
inductive Gnk (m : Int) : List Int → Int → Prop
  | one : Gnk m [1] 1
  | step {ns : List Int} {x r : Int} : Gnk m ns x → 2 ≤ r → r ≤ 1000 → x * r ≤ m → Gnk m (ns ++ [x * r]) (x * r)
theorem Gnk.pos {m x : Int} {ns : List Int} (h : Gnk m ns x) : 1 ≤ x := by
  induction h with
  | one => decide
  | step h h1 h2 h3 ih =>
    have := Int.mul_le_mul ih h1 (by decide) (by omega)
    omega
theorem Gnk.last {m x : Int} {ns : List Int} (h : Gnk m ns x) : ∃ r, ns = r ++ [x] := by
  cases h with
  | one => exact ⟨[], rfl⟩
  | step h h1 h2 h3 => exact ⟨_, rfl⟩
theorem Gnk.le {m x : Int} {ns : List Int} (h : Gnk m ns x) (hm : 1 ≤ m) : x ≤ m := by
  cases h with
  | one => exact hm
  | step h h1 h2 h3 => exact h3
theorem Gnk.cn {m x : Int} {ns : List Int} (h : Gnk m ns x) (hm : 1 ≤ m) : ∃ s p, ns = tl s (p + 1) ∧ x = ((s p : Nat) : Int) ∧ Cn s p m.toNat := by
  induction h with
  | one => exact ⟨fun _ => 1, 0, rfl, rfl, ⟨rfl, fun i hi => absurd hi (by omega)⟩, fun i hi => absurd hi (by omega), by show 1 ≤ _; omega⟩
  | step h h1 h2 h3 ih =>
    rename_i ns x r
    obtain ⟨s, p, e1, e2, c⟩ := ih
    obtain ⟨q, rfl⟩ : ∃ q : Nat, r = q := ⟨r.toNat, by omega⟩
    have lo : ∀ i, i ≤ p → (if i ≤ p then s i else s p * q) = s i := fun i hi => if_pos hi
    have top : (if p + 1 ≤ p then s (p + 1) else s p * q) = s p * q := if_neg (by omega)
    have st : ∀ i, i < p + 1 → ∃ r, 2 ≤ r ∧ r ≤ 1000 ∧ (fun i => if i ≤ p then s i else s p * q) (i + 1) = (fun i => if i ≤ p then s i else s p * q) i * r := fun i hi => by
      rcases Nat.lt_or_ge i p with z | z
      · obtain ⟨r, a1, a2, a3⟩ := c.two i z
        refine ⟨r, a1, a2, ?_⟩
        dsimp only
        rw [lo i (by omega), lo (i + 1) (by omega)]
        exact a3
      · have : i = p := by omega
        subst this
        refine ⟨q, by omega, by omega, ?_⟩
        dsimp only
        rw [lo i (Nat.le_refl _), top]
    refine ⟨fun i => if i ≤ p then s i else s p * q, p + 1, ?_, ?_, ⟨?_, fun i hi => ?_⟩, st, ?_⟩
    · rw [tl_succ, top, e1, e2]
      congr 1
      exact tl_congr fun i hi => (lo i (by omega)).symm
    · show _ = ((if p + 1 ≤ p then s (p + 1) else s p * q : Nat) : Int)
      rw [top, e2]
      push_cast
      rfl
    · show (if 0 ≤ p then s 0 else _) = 1
      rw [if_pos (Nat.zero_le _)]
      exact c.ch.s0
    · obtain ⟨r, a1, _, a3⟩ := st i (by omega)
      exact ⟨r, by omega, a3⟩
    · show (if p + 1 ≤ p then s (p + 1) else s p * q) ≤ _
      rw [top]
      rw [e2] at h3
      have : ((s p * q : Nat) : Int) ≤ m := by push_cast; exact h3
      omega
section
variable {X : Cx}
theorem cutv_map {C : List Int} {lo hi : Option Int} : ∃ D : List Int, D.map V.int = cutV (C.map V.int) lo hi ∧ D.length ≤ C.length := by
  unfold cutV
  refine ⟨_, by rw [← List.map_drop, ← List.map_take], ?_⟩
  rw [List.length_take, List.length_drop]
  omega
theorem map_int_inj {C D : List Int} (h : C.map V.int = D.map V.int) : C = D := by
  have := congrArg (List.map iV) h
  rw [List.map_map, List.map_map] at this
  have e : iV ∘ V.int = id := by funext x; rfl
  rw [e, List.map_id, List.map_id] at this
  exact this
def rSlJ : V → Option Int → Option Int → Hp → VK → Prop := fun x lo hi H Q => ∃ a C, x = .ref a ∧ TAt H a C ∧ ∀ q H' D, Same H H' → D.map V.int = cutV (C.map V.int) lo hi → TAt H' q D → Q (.ref q) H'
theorem sl_tupJ : SlR X rSlJ := by
  intro pins s σ H x v vl vu lo hi sl Q I rx hs pl pu h
  obtain ⟨a, C, rfl, hx, q⟩ := h
  obtain ⟨D, eD, _⟩ := cutv_map (C := C) (lo := lo) (hi := hi)
  exact sl_tupA pins s σ H _ v vl vu lo hi sl Q I rx hs pl pu ⟨a, _, rfl, hx.sq, fun hw => q a H C (Same.refl H) (cutv_whole hw).symm hx, fun _ p np => q p _ D (same_upd np) eD (.inl (by rw [upd_same, eD]))⟩
def rCatJ : V → V → Hp → VK → Prop := fun x y H Q => ∃ a b C D, x = .ref a ∧ y = .ref b ∧ TAt H a C ∧ TAt H b D ∧ C.length + D.length ≤ sizeLine ∧ ∀ q H', Same H H' → TAt H' q (C ++ D) → Q (.ref q) H'
theorem op_catJ : OpR X (binaryOp .Add) rCatJ := by
  intro pins s σ H x y v u Q I rx ry h
  obtain ⟨a, b, C, D, rfl, rfl, ha, hb, hz, q⟩ := h
  refine op_catA pins s σ H _ _ v u Q I rx ry ⟨a, b, _, _, rfl, rfl, ha.sq, hb.sq, by rw [List.length_map, List.length_map]; exact hz, fun e => ?_, fun _ e => ?_, fun _ _ p np => q p _ (same_upd np) (.inl (by rw [upd_same, List.map_append]))⟩
  · rw [List.map_eq_nil_iff.mp e] at q
    exact q b H (Same.refl H) hb
  · rw [List.map_eq_nil_iff.mp e, List.append_nil] at q
    exact q a H (Same.refl H) ha
end
theorem cut_first {s : Nat → Nat} {n : Nat} : cutV ((tl s (n + 1)).map V.int) none (some 1) = [V.int ((s 0 : Nat) : Int)] := by
  have e : (tl s (n + 1)).map V.int = V.int ((s 0 : Nat) : Int) :: (tl (fun i => s (i + 1)) n).map V.int := by
    unfold tl
    rw [List.range_succ_eq_map]
    simp [Function.comp_def]
  rw [e]
  unfold cutV HT.sIx
  simp [tl_len]
theorem cut_lastp {s : Nat → Nat} {n : Nat} : cutV ((tl s (n + 1)).map V.int) (some (-1)) none = [V.int ((s n : Nat) : Int)] := by
  have l : ((tl s (n + 1)).map V.int).length = n + 1 := by rw [List.length_map, tl_len]
  have i1 : HT.sIx ((tl s (n + 1)).map V.int).length 0 (some (-1)) = n := by
    rw [l]
    unfold HT.sIx
    simp
    try omega
  have i2 : HT.sIx ((tl s (n + 1)).map V.int).length ((tl s (n + 1)).map V.int).length none = n + 1 := by rw [l]; rfl
  unfold cutV
  rw [i1, i2, tl_succ, List.map_append, List.drop_left' (by rw [List.length_map, tl_len])]
  simp
theorem cut_mid {s : Nat → Nat} {n : Nat} : cutV ((tl s (n + 1 + 1)).map V.int) (some 1) (some (-1)) = (tl (fun i => s (i + 1)) n).map V.int := by
  have l : ((tl s (n + 1 + 1)).map V.int).length = n + 1 + 1 := by rw [List.length_map, tl_len]
  have i1 : HT.sIx ((tl s (n + 1 + 1)).map V.int).length 0 (some 1) = 1 := by
    rw [l]
    unfold HT.sIx
    simp
  have i2 : HT.sIx ((tl s (n + 1 + 1)).map V.int).length ((tl s (n + 1 + 1)).map V.int).length (some (-1)) = n + 1 := by
    rw [l]
    unfold HT.sIx
    simp
    try omega
  unfold cutV
  rw [i1, i2, tl_succ]
  have e : (tl s (n + 1)).map V.int = V.int ((s 0 : Nat) : Int) :: (tl (fun i => s (i + 1)) n).map V.int := by
    unfold tl
    rw [List.range_succ_eq_map]
    simp [Function.comp_def]
  rw [List.map_append, e]
  simp
  rw [List.take_left' (by rw [List.length_map, tl_len])]
end Ph

namespace Ph
open PySem PySem.Spec PyProof.Rows L2
/-! ### the third pot: digits, a mixed number, a count -/
structure PoV (g r n : Int) : Prop where
  g0 : 0 ≤ g
  g1 : g.natAbs < 2 ^ 3000
  r0 : 0 ≤ r
  r1 : r < 2305843009213693951
  n0 : 0 ≤ n
def Po (H : Hp) (p : Addr) : Prop := ∃ g r n : Int, H p = some (.lst [.int g, .int r, .int n]) ∧ PoV g r n
theorem Po.same {H H' : Hp} {p : Addr} (P : Po H p) (s : Same H H') : Po H' p := by
  obtain ⟨g, r, n, h, v⟩ := P
  exact ⟨g, r, n, s _ _ h, v⟩
theorem Po.ne_none {H : Hp} {p q : Addr} (P : Po H p) (h : H q = none) : p ≠ q := by
  obtain ⟨g, r, n, e, v⟩ := P
  exact ne_of_none e h
theorem Po.netup {H : Hp} {p t : Addr} {xs : List V} (P : Po H p) (e : H t = some (.tup xs)) : t ≠ p := fun z => by
  obtain ⟨g, r, n, e0, _⟩ := P
  rw [z, e0] at e
  cases e
theorem Po.nefrz {H : Hp} {p t : Addr} {ob : Obj} {u : HO} (P : Po H p) (e : H t = some (.frz ob u)) : t ≠ p := fun z => by
  obtain ⟨g, r, n, e0, _⟩ := P
  rw [z, e0] at e
  cases e
theorem Po.keep {H : Hp} {p o : Addr} {u : HO} (P : Po H p) (n : p ≠ o) : Po (upd H o u) p := by
  obtain ⟨g, r, k, e0, v⟩ := P
  exact ⟨g, r, k, by rw [upd_ne n]; exact e0, v⟩
theorem TAt.butP {p : Addr} {H H' : Hp} {c : Addr} {C : List Int} (h : TAt H c C) (b : But p H H') (P : Po H p) : TAt H' c C := by
  rcases h with h | ⟨o, d, e⟩
  · exact .inl (b _ _ (P.netup h) h)
  · exact .inr ⟨o, d, b _ _ (P.nefrz e) e⟩
/-! ### max of a list of pairs of ints -/
section
variable {X : Cx}
def rMaxP (K : PySem.W.Frag) : List V → Hp → VK → Prop := fun vs H Q => ∃ (a : Addr) (xs : List V) (k : V → Int × Int), vs = [V.ref a] ∧ SqL K H a xs ∧ (∀ x ∈ xs, ∃ t, x = V.ref t ∧ H t = some (.tup [.int (k x).1, .int (k x).2])) ∧ 0 < xs.length ∧
  ∀ x ∈ xs, (∀ y ∈ xs, SrtO.lexB (k x) (k y) = false) → Q x H
theorem maxOf_spec : ∀ (x : Int × Int) (xs : List (Int × Int)), PySem.W.maxOf x xs ∈ x :: xs ∧ ∀ y ∈ x :: xs, SrtO.lexB (PySem.W.maxOf x xs) y = false
  | x, [] => ⟨List.mem_singleton.mpr rfl, fun y hy => by
      rw [List.mem_singleton.mp hy]
      exact SrtO.lexB_no.mpr (by show ¬ (x.1 < x.1 ∨ (x.1 = x.1 ∧ x.2 < x.2)); omega)⟩
  | x, z :: zs => by
    have e : PySem.W.maxOf x (z :: zs) = PySem.W.maxOf (if PySem.W.DatumOrd.lt x z = true then z else x) zs := rfl
    rw [e]
    have l : PySem.W.DatumOrd.lt x z = SrtO.lexB x z := rfl
    rw [l]
    by_cases c : SrtO.lexB x z = true
    · rw [if_pos c]
      obtain ⟨h1, h2⟩ := maxOf_spec z zs
      refine ⟨List.mem_cons_of_mem _ h1, fun y hy => ?_⟩
      rcases List.mem_cons.mp hy with r | r
      · rw [r]
        have a := SrtO.lexB_iff.mp c
        have b := SrtO.lexB_no.mp (h2 z (List.mem_cons_self ..))
        exact SrtO.lexB_no.mpr (by omega)
      · exact h2 y r
    · rw [if_neg c]
      obtain ⟨h1, h2⟩ := maxOf_spec x zs
      refine ⟨?_, fun y hy => ?_⟩
      · rcases List.mem_cons.mp h1 with r | r
        · rw [r]; exact List.mem_cons_self ..
        · exact List.mem_cons_of_mem _ (List.mem_cons_of_mem _ r)
      · rcases List.mem_cons.mp hy with r | r
        · rw [r]; exact h2 x (List.mem_cons_self ..)
        · rcases List.mem_cons.mp r with r | r
          · rw [r]
            have a := SrtO.lexB_no.mp (by simpa using c : SrtO.lexB x z = false)
            have b := SrtO.lexB_no.mp (h2 x (List.mem_cons_self ..))
            exact SrtO.lexB_no.mpr (by omega)
          · exact h2 y (List.mem_cons_of_mem _ r)
theorem dp_prs {K : PySem.W.Frag} {H : Hp} {k : V → Int × Int} : ∀ xs : List V, (∀ x ∈ xs, ∃ t, x = V.ref t ∧ H t = some (.tup [.int (k x).1, .int (k x).2])) → DpAll K H xs (xs.map fun x => bD (k x))
  | [], _ => .nil
  | x :: r, h => by
    obtain ⟨t, e, ht⟩ := h x (List.mem_cons_self ..)
    refine .cons ?_ (dp_prs r fun y hy => h y (List.mem_cons_of_mem _ hy))
    subst e
    exact .tup (.inl (.inl ht)) (.cons (.int _) (.cons (.int _) .nil))
theorem cr_maxP (hc : X.calm = true) (hu : X.A.units + 3 < cLine) : CallR X (.builtin "max") (rMaxP X.K) := by
  intro pins s σ H vs us Q I r h
  obtain ⟨a, xs, k, rfl, hs, hx, h0, q⟩ := h
  obtain ⟨its, rv, pl, hz⟩ := I.list hs
  rw [Vals.ref1 r]
  cases xs with
  | nil => exact absurd h0 (by decide)
  | cons x0 xr =>
    obtain ⟨as, rd⟩ := Dp.readsAll I _ _ its (dp_prs _ hx) rv
    have hd : PyData.depthAll ((x0 :: xr).map fun x => bD (k x)) ≤ 1 := by
      have := bDs_depth ((x0 :: xr).map k)
      rw [List.map_map] at this
      exact this
    have ha : PySem.W.AlikeAll ((x0 :: xr).map fun x => bD (k x)) := by
      have := PySem.W.alikeAll_datum ((x0 :: xr).map k)
      rw [List.map_map] at this
      exact this
    refine PySem.W.max_list_data (x := bD (k x0)) (xs := xr.map fun x => bD (k x)) (I.ok.hd hc) pl.isList (by simpa using rd) ha (by
      have e : PyData.depthAll (bD (k x0) :: xr.map fun x => bD (k x)) ≤ 1 := hd
      omega) (fun i v g tk bs hv rr kp => ?_)
    have em : PySem.W.maxD (bD (k x0)) (xr.map fun x => bD (k x)) = bD (PySem.W.maxOf (k x0) (xr.map k)) := by
      have := PySem.W.maxD_map (k x0) (xr.map k)
      rw [List.map_map] at this
      exact this
    rw [em] at rr
    obtain ⟨hm, hb⟩ := maxOf_spec (k x0) (xr.map k)
    have hv : its[i]? = some v := by simpa using hv
    obtain ⟨x, hxi, rx⟩ : ∃ x, (x0 :: xr)[i]? = some x ∧ RelV x v := by
      have hil : i < its.length := (List.getElem?_eq_some_iff.mp hv).1
      have hxl : i < (x0 :: xr).length := by rw [rv.length]; exact hil
      obtain ⟨u, e1, e2⟩ := rv.get (List.getElem?_eq_getElem hxl)
      rw [hv] at e1
      cases e1
      exact ⟨_, List.getElem?_eq_getElem hxl, e2⟩
    have mx := List.mem_of_getElem? hxi
    obtain ⟨t, et, ht⟩ := hx x mx
    have dx : Dp X.K H x (bD (k x)) := by
      subst et
      exact .tup (.inl (.inl ht)) (.cons (.int _) (.cons (.int _) .nil))
    obtain ⟨as2, r2⟩ := Dp.reads I _ _ _ dx rx
    have e := (Reads.unique (Reads.keeps kp r2) _ _ rr).1
    have e3 : k x = PySem.W.maxOf (k x0) (xr.map k) := by
      unfold bD at e
      injection e with e
      injection e with e1 e
      injection e with e2 e
      injection e1 with e1
      injection e2 with e2
      exact Prod.ext e1 e2
    refine ⟨x, H, I.kept kp, rx, q x mx fun y hy => ?_⟩
    rw [e3]
    refine hb (k y) ?_
    rcases List.mem_cons.mp hy with z | z
    · rw [z]; exact List.mem_cons_self ..
    · exact List.mem_cons_of_mem _ (List.mem_map.mpr ⟨y, z, rfl⟩)
end
end Ph

namespace Ph
open PySem PySem.Spec PyProof.Rows L2
theorem SqK.same {k : Bool} {K : PySem.W.Frag} {H H' : Hp} {a : Addr} {xs : List V} (h : SqK k K H a xs) (s : Same H H') : SqK k K H' a xs := by
  cases k
  · exact s.seq h
  · exact s.tup h
/-- a comprehension over zip of tuples and lists, in any mix -/
theorem lc_zkF {k1 k2 : Bool} {K : PySem.W.Frag} {a b : Addr} {xs ys : List V} {g : TG} {te : TE} {vs : List Nat} {σ : L2.St} {H1 : Hp} {D : Addr} {Qd : Hp → Prop} (n : Nat) (hn : n = min xs.length ys.length) (f : Nat → V) (ha : SqK k1 K H1 a xs) (hb : SqK k2 K H1 b ys) (nD : H1 D = none) (hlen : n < sizeLine)
    (hs : ∀ i x y T, i < n → xs[i]? = some x → ys[i]? = some y → ∀ H, Same H1 H → H T = none → ∀ Y : V → Hp → Prop, (∀ H', Same H H' → Y (f i) H') → g (.ref T) (wipe σ vs) (upd H T (.tup [x, y])) fun σ2 H2 => wipe σ2 vs = wipe σ vs ∧ te σ2 H2 Y)
    (hd : ∀ H, Same H1 H → H D = some (.lst ((List.range n).map f)) → Qd H) :
    ∃ W : Nat → Nat → Hp → Prop, (∃ m, W 0 m (upd H1 D (.lst []))) ∧ ∀ i m H, W i m H →
      ((ItzK k1 k2 K a b).stop i H ∧ Qd H) ∨ ((ItzK k1 k2 K a b).go i H ∧ ∃ Nx : Hp → Prop, (∀ H', Nx H' → ∃ m', m' < m ∧ W (i + 1) m' H') ∧ ∀ x H', (ItzK k1 k2 K a b).yld i H x H' → g x (wipe σ vs) H' fun σ2 H2 => wipe σ2 vs = wipe σ vs ∧ tYes σ2 H2 fun b H3 =>
        if b = true then te σ2 H3 fun y H4 => ∃ acc, H4 D = some (.lst acc) ∧ acc.length < sizeLine ∧ Nx (upd H4 D (.lst (acc ++ [y]))) else Nx H3) := by
  refine ⟨fun i m H => m = n - i ∧ i ≤ n ∧ Same H1 H ∧ H D = some (.lst ((List.range i).map f)), ⟨n, rfl, Nat.zero_le _, same_upd nD, upd_same⟩, ?_⟩
  rintro i m H ⟨rfl, hi, sm, hD⟩
  have qx := ha.same sm
  have qy := hb.same sm
  rcases Nat.lt_or_ge i n with lt | ge
  · have l1 : i < xs.length := by omega
    have l2 : i < ys.length := by omega
    refine .inr ⟨⟨xs, ys, _, _, qx, qy, List.getElem?_eq_getElem l1, List.getElem?_eq_getElem l2⟩, fun H' => Same H1 H' ∧ H' D = some (.lst ((List.range (i + 1)).map f)), fun H' p => ⟨n - (i + 1), by omega, rfl, lt, p⟩, fun v H' yl => ?_⟩
    obtain ⟨T, x, y, rfl, nT, rfl, f1, f2⟩ := yl
    refine hs i x y T lt (f1 xs qx) (f2 ys qy) H sm nT _ fun H4 s4 => ?_
    refine ⟨_, s4 _ _ hD, by rw [List.length_map, List.length_range]; omega, keepD nD (sm.trans s4), ?_⟩
    rw [upd_same, List.range_succ, List.map_append]
    rfl
  · have e : i = n := Nat.le_antisymm hi ge
    subst e
    exact .inl ⟨⟨xs, ys, qx, qy, by omega, by omega, by omega⟩, hd H sm hD⟩
end Ph

namespace Ph
open PySem PySem.Spec PyProof.Rows L2
/-! ### walks: zip of tuples and lists; comprehensions whose items are laid anew -/
theorem walk_zipK {k1 k2 : Bool} {K : PySem.W.Frag} {a b : Addr} {xs ys : List V} {n : Nat} (hn : n = min xs.length ys.length) : Walk (ItzK k1 k2 K a b) n (fun H => SqK k1 K H a xs ∧ SqK k2 K H b ys) (YPair (fun i => xs[i]?) (fun i => ys[i]?)) := by
  subst hn
  refine ⟨fun i _ hi q => ?_, fun _ q => ⟨xs, ys, q.1, q.2, by omega, by omega, by omega⟩, fun i H v H' _ q y => ?_⟩
  · have h1 : i < xs.length := by omega
    have h2 : i < ys.length := by omega
    exact ⟨xs, ys, xs[i], ys[i], q.1, q.2, by simp [h1], by simp [h2]⟩
  · obtain ⟨T, x, z, h1, h2, h3, h4, h5⟩ := y
    exact ⟨T, x, z, h1, h2, h3, h4 xs q.1, h5 ys q.2⟩
theorem walk_enumT {K : PySem.W.Frag} {a : Addr} {xs : List V} : Walk (Itt K a) xs.length (fun H => SqT K H a xs) (YAt xs) := walk_tup
theorem YPair.same {xs ys : Nat → Option V} {i : Nat} {H H' : Hp} {v : V} (h : YPair xs ys i H v H') : Same H H' := by
  obtain ⟨T, x, y, _, nT, e, _⟩ := h
  rw [e]
  exact same_upd nT
theorem YAt.same {xs : List V} {i : Nat} {H H' : Hp} {v : V} (h : YAt xs i H v H') : Same H H' := by
  rw [h.1]; exact Same.refl _
theorem YFn.same {f : Nat → V} {i : Nat} {H H' : Hp} {v : V} (h : YFn f i H v H') : Same H H' := by
  rw [h.1]; exact Same.refl _
theorem none_of_same {H H' : Hp} {D : Addr} (s : Same H H') (n : H' D = none) : H D = none := by
  cases e : H D with
  | none => rfl
  | some o => rw [s _ _ e] at n; cases n
theorem joinS {R G : L2.St → Hp → Prop} {C : Prop} (m : (∀ σ H, R σ H → G σ H) → C) (k : ∀ σ H, R σ H → G σ H) : C := m k
abbrev KpT (H H' : Hp) : Prop := ∀ v zs, H v = some (.tup zs) → H' v = some (.tup zs)
/-- a comprehension with a test; R tells of each item that stays, by its turn -/
theorem lc_RF {J : It} {n : Nat} {G : Hp → Prop} {Y : Nat → Hp → V → Hp → Prop} (w : Walk J n G Y) (hY : ∀ i H x H', Y i H x H' → Same H H') {g : TG} {tt : TT} {te : TE} {vs : List Nat} {σ : L2.St} {H1 : Hp} {D : Addr} {Qd : Hp → Prop}
    (p : Nat → Bool) (R : Hp → Nat → V → Prop) (mono : ∀ H H' i y, KpT H H' → R H i y → R H' i y) (nD : H1 D = none) (hlen : n < sizeLine) (hG : ∀ H, Same H1 H → G H)
    (hs : ∀ i x H H', i < n → Same H1 H → Y i H x H' → ∀ (Z : V → Hp → Prop) (N : Hp → Prop), (∀ y H4, Same H' H4 → p i = true → R H4 i y → Z y H4) → (∀ H4, Same H' H4 → p i = false → N H4) →
      g x (wipe σ vs) H' fun σ2 H2 => wipe σ2 vs = wipe σ vs ∧ tt σ2 H2 fun b H3 => if b = true then te σ2 H3 Z else N H3)
    (hd : ∀ H ys, Same H1 H → H D = some (.lst ys) → Paired (R H) ((List.range n).filter p) ys → Qd H) :
    ∃ W : Nat → Nat → Hp → Prop, (∃ m, W 0 m (upd H1 D (.lst []))) ∧ ∀ i m H, W i m H →
      (J.stop i H ∧ Qd H) ∨ (J.go i H ∧ ∃ Nx : Hp → Prop, (∀ H', Nx H' → ∃ m', m' < m ∧ W (i + 1) m' H') ∧ ∀ x H', J.yld i H x H' → g x (wipe σ vs) H' fun σ2 H2 => wipe σ2 vs = wipe σ vs ∧ tt σ2 H2 fun b H3 =>
        if b = true then te σ2 H3 fun y H4 => ∃ acc, H4 D = some (.lst acc) ∧ acc.length < sizeLine ∧ Nx (upd H4 D (.lst (acc ++ [y]))) else Nx H3) := by
  refine lc_it w (fun i H => Same H1 H ∧ ∃ ys, H D = some (.lst ys) ∧ Paired (R H) ((List.range i).filter p) ys) ⟨same_upd nD, [], upd_same, .nil⟩ (fun i H _ q => hG H q.1) (fun i x H H' hi q y => ?_) (fun H q => ?_)
  · obtain ⟨sm, ys, hD, pr⟩ := q
    have s' := hY _ _ _ _ y
    have hlen2 : ys.length < sizeLine := by
      have h1 := pr.length
      have h2 := List.length_filter_le p (List.range i)
      rw [List.length_range] at h2
      omega
    refine hs i x H H' hi sm y _ _ (fun y H4 s4 pi r4 => ?_) (fun H4 s4 pi => ?_)
    · have hD4 := s4 _ _ (s' _ _ hD)
      have tk : KpT H4 (upd H4 D (.lst (ys ++ [y]))) := fun v zs e => by
        rw [upd_ne (ne_of e hD4 (by intro z; cases z))]
        exact e
      refine ⟨ys, hD4, hlen2, fun b o e => ?_, ys ++ [y], upd_same, ?_⟩
      · rw [upd_ne (ne_of_none e nD)]
        exact s4 _ _ (s' _ _ (sm _ _ e))
      · rw [List.range_succ, List.filter_append, List.filter_cons_of_pos (by simpa using pi)]
        exact Paired.snoc (paired_imp (fun a b h => mono _ _ _ _ (fun v zs e => tk v zs (s4 _ _ (s' _ _ e))) h) pr) (mono _ _ _ _ tk r4)
    · refine ⟨(sm.trans s').trans s4, ys, s4 _ _ (s' _ _ hD), ?_⟩
      rw [List.range_succ, List.filter_append, List.filter_cons_of_neg (by simp [pi]), List.filter_nil, List.append_nil]
      exact paired_imp (fun a b h => mono _ _ _ _ (fun v zs e => s4 _ _ (s' _ _ e)) h) pr
  · obtain ⟨sm, ys, hD, pr⟩ := q
    exact hd H ys sm hD pr
theorem lc_R {J : It} {n : Nat} {G : Hp → Prop} {Y : Nat → Hp → V → Hp → Prop} (w : Walk J n G Y) (hY : ∀ i H x H', Y i H x H' → Same H H') {g : TG} {te : TE} {vs : List Nat} {σ : L2.St} {H1 : Hp} {D : Addr} {Qd : Hp → Prop}
    (R : Hp → Nat → V → Prop) (mono : ∀ H H' i y, KpT H H' → R H i y → R H' i y) (nD : H1 D = none) (hlen : n < sizeLine) (hG : ∀ H, Same H1 H → G H)
    (hs : ∀ i x H H', i < n → Same H1 H → Y i H x H' → ∀ (Z : V → Hp → Prop), (∀ y H4, Same H' H4 → R H4 i y → Z y H4) →
      g x (wipe σ vs) H' fun σ2 H2 => wipe σ2 vs = wipe σ vs ∧ te σ2 H2 Z)
    (hd : ∀ H ys, Same H1 H → H D = some (.lst ys) → Paired (R H) (List.range n) ys → Qd H) :
    ∃ W : Nat → Nat → Hp → Prop, (∃ m, W 0 m (upd H1 D (.lst []))) ∧ ∀ i m H, W i m H →
      (J.stop i H ∧ Qd H) ∨ (J.go i H ∧ ∃ Nx : Hp → Prop, (∀ H', Nx H' → ∃ m', m' < m ∧ W (i + 1) m' H') ∧ ∀ x H', J.yld i H x H' → g x (wipe σ vs) H' fun σ2 H2 => wipe σ2 vs = wipe σ vs ∧ tYes σ2 H2 fun b H3 =>
        if b = true then te σ2 H3 fun y H4 => ∃ acc, H4 D = some (.lst acc) ∧ acc.length < sizeLine ∧ Nx (upd H4 D (.lst (acc ++ [y]))) else Nx H3) :=
  lc_RF w hY (fun _ => true) R mono nD hlen hG (fun i x H H' hi sm y Z N hZ hN => hs i x H H' hi sm y Z fun y H4 s4 r => hZ y H4 s4 rfl r)
    (fun H ys sm hD pr => hd H ys sm hD (by
      have e : (List.range n).filter (fun _ => true) = List.range n := List.filter_eq_self.mpr fun _ _ => rfl
      rw [e] at pr
      exact pr))
theorem Paired.get {α β : Type} {F : α → β → Prop} : ∀ {l : List α} {m : List β} {i : Nat} {a : α}, Paired F l m → l[i]? = some a → ∃ b, m[i]? = some b ∧ F a b
  | _, _, _, _, .nil, h => by simp at h
  | _, _, 0, _, .cons x _, h => by simp at h; subst h; exact ⟨_, rfl, x⟩
  | _, _, i + 1, _, .cons _ r, h => by
    obtain ⟨b, e, f⟩ := Paired.get (i := i) r (by simpa using h)
    exact ⟨b, by simpa using e, f⟩
theorem Paired.get2 {α β : Type} {F : α → β → Prop} : ∀ {l : List α} {m : List β} {i : Nat} {b : β}, Paired F l m → m[i]? = some b → ∃ a, l[i]? = some a ∧ F a b
  | _, _, _, _, .nil, h => by simp at h
  | _, _, 0, _, .cons x _, h => by simp at h; subst h; exact ⟨_, rfl, x⟩
  | _, _, i + 1, _, .cons _ r, h => by
    obtain ⟨b, e, f⟩ := Paired.get2 (i := i) r (by simpa using h)
    exact ⟨b, by simpa using e, f⟩
/-- the items are a function of the turn -/
theorem paired_eq {α β : Type} {f : α → β} : ∀ {l : List α} {m : List β}, Paired (fun a b => b = f a) l m → m = l.map f
  | _, _, .nil => rfl
  | _, _, .cons h r => by rw [h, paired_eq r]; rfl
theorem SqT.butL {K : PySem.W.Frag} {H H' : Hp} {u D : Addr} {xs l : List V} (h : SqT K H u xs) (b : But D H H') (hD : H D = some (.lst l)) : SqT K H' u xs := by
  rcases h with (h | ⟨o, h⟩) | h
  · exact .inl (.inl (b _ _ (ne_of h hD (by intro z; cases z)) h))
  · exact .inl (.inr ⟨o, b _ _ (ne_of h hD (by intro z; cases z)) h⟩)
  · exact .inr h
/-- names of built-ins -/
structure Nm6 (K : PySem.W.Frag) (mg : Str → Option Value) : Prop where
  len : mg "len" = none
  abs : mg "abs" = none
  int : mg "int" = none
  range : mg "range" = none
  tuple : mg "tuple" = none
  max : mg "max" = none
  min : mg "min" = none
  repr : mg "repr" = none
  isinstance : mg "isinstance" = none
  bool : mg "bool" = none
  all : mg "all" = none
  any : mg "any" = none
  list : mg "list" = none
  dict : mg "dict" = none
  sorted : mg "sorted" = none
  set : mg "set" = none
  sum : mg "sum" = none
  zip : mg "zip" = none
  enumerate : mg "enumerate" = none
  reversed : mg "reversed" = none
  str : mg "str" = none
  dig : PySem.W.nsIn K cStatics "sys.int_max_str_digits" = some none
end Ph

namespace Ph
open PySem PySem.Spec PyProof.Rows L2
/-! ### loops that count up; any(ints) -/
theorem while_n {c : TT} {tb : TS} {D : Ends} {σ : L2.St} {H : Hp} (n : Nat) (Pv : Nat → L2.St → Hp → Prop) (h0 : Pv 0 σ H)
    (hs : ∀ i σ H, i ≤ n → Pv i σ H → c σ H fun b H1 => if b = true then ∃ N : L2.St → Hp → Prop, (∀ σ' H', N σ' H' → ∃ m', m' < n - i ∧ ∃ i', i' ≤ n ∧ m' = n - i' ∧ Pv i' σ' H') ∧ tb { D with nx := N, ct := N, bk := D.nx } σ H1 else D.nx σ H1) : tWhile c tb D σ H :=
  ⟨fun m σ H => ∃ i, i ≤ n ∧ m = n - i ∧ Pv i σ H, ⟨n - 0, 0, Nat.zero_le _, rfl, h0⟩, fun m σ H ⟨i, hi, e, p⟩ => e ▸ hs i σ H hi p⟩
theorem wn_next {n i : Nat} {Pv : Nat → L2.St → Hp → Prop} (h : i < n) : ∀ σ' H', Pv (i + 1) σ' H' → ∃ m', m' < n - i ∧ ∃ i', i' ≤ n ∧ m' = n - i' ∧ Pv i' σ' H' := fun σ' H' p => ⟨n - (i + 1), by omega, i + 1, by omega, rfl, p⟩
theorem ints_at {vs : List Value} {ns : List Int} (h : IntsAre vs ns) : ∀ {i : Nat} {v : Value}, vs[i]? = some v → ∃ t, v = .int (ns.getD i 0) t := by
  induction h with
  | nil => intro i v e; simp at e
  | cons n t h ih =>
    intro i v e
    cases i with
    | zero =>
      simp at e
      exact ⟨t, e.symm⟩
    | succ i =>
      simp at e
      obtain ⟨t', e'⟩ := ih e
      exact ⟨t', by rw [e']; simp⟩
theorem truth_ints {P : Program} {w : World} {A : Around} {ns : List Int} {vs : List Value} (h : IntsAre vs ns) :
    TruthOf P w A (fun i v => vs.toArray[i]? = some v) (fun i => (ns.getD i 0 != 0)) := fun i v s Q E hv hq => by
  have hv2 : vs[i]? = some v := by simpa using hv
  obtain ⟨t, rfl⟩ := ints_at h hv2
  exact PyProof.Rows.truthy_int hq
section
variable {X : Cx}
def rAnyI (K : PySem.W.Frag) : List V → Hp → VK → Prop := fun vs H Q => ∃ (a : Addr) (ns : List Int), vs = [V.ref a] ∧ SqL K H a (ns.map V.int) ∧ Q (.bl ((List.range ns.length).any fun i => (ns.getD i 0 != 0))) H
theorem cr_anyI (hc : X.calm = true) : CallR X (.builtin "any") (rAnyI X.K) := by
  intro pins s σ H vs us Q I r h
  obtain ⟨a, ns, rfl, hs, q⟩ := h
  obtain ⟨its, rv, hl, _⟩ := I.list hs
  rw [Vals.ref1 r]
  have hb := rv.ints
  have len : its.length = ns.length := by rw [← rv.length, List.length_map]
  refine call_any_walk (iter_any hl.isList fun s2 e2 st hne => ?_)
  subst e2
  refine ⟨_, _, _, _, _, _, _, rfl, Walks.list (A := X.A.in1) (I.ok.hd hc) _ a hne its.toArray, st, truth_ints hb, fun g tk hk => ?_⟩
  refine ⟨.bl _, H, I.kept fun b o eo => hk b o (fun hm => ?_) (Heap.get?_push_of_some _ eo), ?_, q⟩
  · rcases List.mem_cons.mp hm with e1 | hm
    · exact absurd (e1 ▸ Heap.lt_size eo) (Nat.lt_irrefl _)
    · cases hm
  · show Value.bool _ = Value.bool _
    rw [List.size_toArray, len]
end
end Ph

namespace Ph
open PySem PySem.Spec PyProof.Rows L2
section
variable {X : Cx}
/-! ### sum of a tuple of ints -/
def rSumT (K : PySem.W.Frag) : List V → Hp → VK → Prop := fun vs H Q => ∃ (a : Addr) (ns : List Int), vs = [V.ref a] ∧ SqT K H a (ns.map V.int) ∧ Q (.int ns.sum) H
theorem cr_sumT (hc : X.calm = true) : CallR X (.builtin "sum") (rSumT X.K) := by
  intro pins s σ H vs us Q I r h
  obtain ⟨a, ns, rfl, hs, q⟩ := h
  obtain ⟨its, rv, hl, _⟩ := I.tuple hs
  rw [Vals.ref1 r]
  have hi := rv.ints
  obtain ⟨xs, e⟩ := hi.allInts.items
  have hn : numsOf (intItems xs).toList = ns := by rw [← e]; exact hi.numsOf
  rw [nums_intItems] at hn
  rw [e] at hl
  refine PySem.W.ktm_sumG (I.ok.hd hc) hl fun h' tk t' hk => ?_
  refine ⟨.int _, H, I.kept hk, ⟨_, rfl⟩, ?_⟩
  have e2 : preSum (numAt xs) xs.size = ns.sum := by rw [preSum_eq, List.take_of_length_le (by simp), hn]
  rw [e2]
  exact q
theorem u3_of {A : Around} {k : Nat} (hr : Room k A) : A.units + 3 < cLine := by
  have := u64_of hr
  omega
end
end Ph

namespace Ph
open PySem PySem.Spec PyProof.Rows L2
/-! ### numbers begun with reaches: more reach, more words, never less -/
theorem ov_iff {s b : Nat → Nat} {i n M : Nat} (ht : 0 < s (i + 1)) (hm : ∀ j, j + 1 < i + 1 → b j ≤ b (j + 1)) :
    n ≤ cdw (b i) (s (i + 1)) + (M - Lw s b (s (i + 1)) (i + 1)) / s (i + 1) ↔ n ≤ cdw (b i) (s (i + 1)) ∨ sm (fun k => s (cls b (i + 1) (k * s (i + 1)))) n ≤ M := by
  have lw : Lw s b (s (i + 1)) (i + 1) = sm (fun k => s (cls b (i + 1) (k * s (i + 1)))) (cdw (b i) (s (i + 1))) := lw_sum (s := s) (b := b) ht hm (i + 1) (Nat.le_refl _)
  have mono : ∀ d j, j + d = i → b j ≤ b i := by
    intro d
    induction d with
    | zero => intro j e; have : j = i := by omega
              rw [this]; exact Nat.le_refl _
    | succ d ih => intro j e; exact Nat.le_trans (hm j (by omega)) (ih (j + 1) (by omega))
  have tail : ∀ n, cdw (b i) (s (i + 1)) ≤ n → sm (fun k => s (cls b (i + 1) (k * s (i + 1)))) n = Lw s b (s (i + 1)) (i + 1) + s (i + 1) * (n - cdw (b i) (s (i + 1))) := fun n hn => by
    rw [lw]
    refine sm_const hn fun k h1 _ => ?_
    have e : cls b (i + 1) (k * s (i + 1)) = i + 1 := by
      refine cls_eq (Nat.le_refl _) (fun j hj => ?_) (fun z => absurd z (by omega))
      have h3 : ¬ k * s (i + 1) < b i := fun z => by
        have := (lt_cdw ht).mpr z
        omega
      have := mono (i - j) j (by omega)
      omega
    rw [e]
  generalize cdw (b i) (s (i + 1)) = C at lw tail ⊢
  generalize Lw s b (s (i + 1)) (i + 1) = L at lw tail ⊢
  constructor
  · intro h
    rcases Nat.lt_or_ge C n with z | z
    · right
      rw [tail n (by omega)]
      have h1 : n - C ≤ (M - L) / s (i + 1) := by omega
      rw [Nat.le_div_iff_mul_le ht, Nat.mul_comm] at h1
      have h2 : s (i + 1) * 1 ≤ s (i + 1) * (n - C) := Nat.mul_le_mul_left _ (by omega)
      omega
    · exact .inl z
  · intro h
    rcases Nat.lt_or_ge C n with z | z
    · rcases h with h | h
      · omega
      · rw [tail n (by omega)] at h
        have h1 : n - C ≤ (M - L) / s (i + 1) := by
          rw [Nat.le_div_iff_mul_le ht, Nat.mul_comm]
          omega
        omega
    · exact Nat.le_trans z (Nat.le_add_right _ _)
theorem bfn_mono {s ρ ρ' : Nat → Nat} {m M M' : Nat} (c : CH s m) (hρ : ∀ i, i < m → ρ' i ≤ ρ i) (hM : M' ≤ M) : ∀ i, i < m → bfn s ρ' M' i ≤ bfn s ρ M i := by
  intro i
  induction i using Nat.strongRecOn with
  | ind i ih =>
    intro hi
    cases i with
    | zero =>
      rw [bfn_zero, bfn_zero]
      have := hρ 0 hi
      omega
    | succ i =>
      have ht := c.pos hi
      have up : ∀ (ρ : Nat → Nat) (M : Nat) j, j + 1 < i + 1 → bfn s ρ M j ≤ bfn s ρ M (j + 1) := fun ρ M j hj => bfn_up (c.pos (by omega))
      rw [bfn_succ, bfn_succ]
      have h1 : cdw (bfn s ρ' M' i) (s (i + 1)) + (M' - Lw s (bfn s ρ' M') (s (i + 1)) (i + 1)) / s (i + 1) ≤ cdw (bfn s ρ M i) (s (i + 1)) + (M - Lw s (bfn s ρ M) (s (i + 1)) (i + 1)) / s (i + 1) := by
        rw [ov_iff ht (up ρ M)]
        rcases (ov_iff (n := cdw (bfn s ρ' M' i) (s (i + 1)) + (M' - Lw s (bfn s ρ' M') (s (i + 1)) (i + 1)) / s (i + 1)) ht (up ρ' M')).mp (Nat.le_refl _) with z | z
        · exact .inl (Nat.le_trans z (cdw_mono (ih i (by omega) (by omega))))
        · refine .inr (Nat.le_trans (sm_le fun k _ => ?_) (Nat.le_trans z hM))
          refine c.mono (cls_anti fun j hj => ih j (by omega) (by omega)) ?_
          have := cls_le (bfn s ρ' M') (i + 1) (k * s (i + 1))
          omega
      have h2 := Nat.mul_le_mul_left (s (i + 1)) h1
      have h3 := hρ (i + 1) hi
      omega
theorem bfn_ge {s ρ : Nat → Nat} {M i : Nat} : ρ i ≤ bfn s ρ M i := by
  cases i with
  | zero => rw [bfn_zero]; exact Nat.le_max_right _ _
  | succ i => rw [bfn_succ]; exact Nat.le_max_left _ _
/-- how far the numbers can lie out -/
theorem bfn_ub {s ρ : Nat → Nat} {m M S R : Nat} (c : CH s m) (hS : ∀ j, j < m → s j ≤ S) (hR : ∀ j, j < m → ρ j ≤ R) : ∀ i, i < m → bfn s ρ M i ≤ (i + 1) * M + i * S + R
  | 0, h => by
    rw [bfn_zero]
    have := hR 0 h
    omega
  | i + 1, h => by
    have ih := bfn_ub (M := M) c hS hR i (by omega)
    have p := c.pos h
    have h1 := cdw_lt (x := bfn s ρ M i) p
    have h2 := Nat.div_mul_le_self (M - Lw s (bfn s ρ M) (s (i + 1)) (i + 1)) (s (i + 1))
    have h3 := hS _ h
    have h4 := hR _ h
    rw [bfn_succ, Nat.mul_add]
    rw [Nat.mul_comm] at h1 h2
    have e1 : (i + 1 + 1) * M = (i + 1) * M + M := by rw [Nat.add_mul, Nat.one_mul]
    have e2 : (i + 1) * S = i * S + S := by rw [Nat.add_mul, Nat.one_mul]
    rw [e1, e2]
    omega
end Ph

namespace Ph
open PySem PySem.Spec PyProof.Rows L2
section
variable {P : Program} {w : World} {A : Around} {E : Value → Shared → Prop} {s : Shared}
/-- sorted(tuple of pairs of ints) -/
theorem sorted_of_tupP {a : Addr} {us : List Value} {k : Value → Int × Int} {Q : Value → Shared → Prop} (ht : s.heap.IsTuple a us.toArray) (few : us.length ≤ sizeLine) (hp : ∀ v, v ∈ us → Srt.IsPair s.heap v (k v).1 (k v).2)
    (q : ∀ g p (out : List Value) (c : Nat), (∀ b u, s.heap.get? b = some u → g.get? b = some u) → s.heap.objs.size ≤ p → g.get? p = some (seqObj "list" out.toArray c) → SrtO.Srtd (fun v u => SrtO.lexB (k v) (k u)) out → SrtO.Stb (fun v u => SrtO.lexB (k v) (k u)) out us → Q (.ref p) { s with heap := g }) :
    wpAny (model P w) A (call (.builtin "sorted") [.ref a]) Q E s := by
  refine Calls.call_function_entry kind_sorted plain_sorted entry_sorted (args_sorted1 _) ?_; unfold Builtin.«sorted»
  refine wpAny_bind (m := checkCount "sorted" 1 1 _) (wpAny_pure (wpAny_bind (collect_tup ht few fun g keep hz => ?_)))
  refine wpAny_bind (wpAny_newList ?_ few)
  have at1 : (g.push (seqObj "list" us.toArray 0)).get? g.objs.size = some (seqObj "list" us.toArray 0) := Heap.get?_push_size _ rfl
  refine wpAny_bind (wpAny_holding (wpAny_call_entry slot_list_sort ⟨_, at1, rfl⟩ entry_list_sort (SrtO.list_sort_ord (SrtO.swo_lex k) at1 few (fun h2 => ?_) fun out b1 b2 => ⟨_, rfl, ?_⟩) (args_list_sort _)))
  · refine SrtO.pairs_sortableO (by omega) (fun v hv => (hp v hv).keeps fun b o e _ => Heap.get?_push_of_some _ (keep b o e)) fun o e => ?_
    have e2 : some o = some (seqObj "list" us.toArray 0) := e.symm.trans at1
    cases e2
    intro z
    exact absurd (Value.type.inj z) (by decide)
  · obtain ⟨c, hc⟩ := sortedHeap_at (vs := us) (out := out.toArray) at1
    refine wpAny_pure ⟨_, rfl, q _ g.objs.size out c (fun b u e => ?_) hz hc b1 b2⟩
    have z := keep b u e
    have lt := Heap.lt_size z
    show (sortedHeap (g.push (seqObj "list" us.toArray 0)) g.objs.size us out.toArray).get? b = some u
    rw [sortedHeap_old (Nat.ne_of_lt lt) (by rw [size_push']; exact Nat.lt_succ_of_lt lt)]
    exact Heap.get?_push_of_some _ z
end
section
variable {X : Cx}
def rSortedPT (K : PySem.W.Frag) : List V → Hp → VK → Prop := fun vs H Q => ∃ (a : Addr) (xs : List V) (k : V → Int × Int), vs = [V.ref a] ∧ SqT K H a xs ∧ (∀ x ∈ xs, ∃ t, x = V.ref t ∧ H t = some (.tup [.int (k x).1, .int (k x).2])) ∧
  ∀ ys p, SrtO.Srtd (ltP k) ys → SrtO.Stb (ltP k) ys xs → H p = none → Q (.ref p) (upd H p (.lst ys))
theorem cr_sortedPT : CallR X (.builtin "sorted") (rSortedPT X.K) := by
  intro pins s σ H vs us Q I r h
  obtain ⟨a, xs, k, rfl, hs, hx, q⟩ := h
  obtain ⟨its, rv, hl, hz⟩ := I.tuple hs
  rw [Vals.ref1 r]
  obtain ⟨e1, e2⟩ := refs_back rv fun x m => by
    obtain ⟨t, e, _⟩ := hx x m
    exact ⟨t, e⟩
  refine sorted_of_tupP (k := fun u => k (backV u)) hl (by rw [← rv.length]; exact hz) (fun v hv => ?_) fun g p out c keep hp hg h1 h2 => ?_
  · obtain ⟨t, rfl⟩ := e2 v hv
    have hm : V.ref t ∈ xs := by rw [e1]; exact List.mem_map.mpr ⟨_, hv, rfl⟩
    obtain ⟨t2, e, ht⟩ := hx _ hm
    cases e
    obtain ⟨_, its2, r2, o, ho, hc, n, hd⟩ := I.hok _ _ ht
    obtain ⟨u1, u2, rfl, ri, rj⟩ := vals2 r2
    obtain ⟨t1, rfl⟩ := ri
    obtain ⟨t3, rfl⟩ := rj
    exact ⟨t, o, t1, t3, n, rfl, ho, hc, hd⟩
  · have h3 : ∀ u ∈ out, ∃ a, u = Value.ref a := fun u hu => e2 u (h2.perm.mem_iff.mp hu)
    have hb : SrtO.Stb (ltP k) (out.map backV) xs := by
      rw [e1]
      exact SrtO.Stb.map (ltP_swo k) backV h2
    refine ⟨.ref p, upd H p (.lst (out.map backV)), I.laid (t' := s.toks) keep hp ⟨?_, out, c, vals_back h3, hg⟩, rfl, q _ p (SrtO.srtd_map h1) hb (I.hok.fresh hp)⟩
    rw [hb.len]
    exact hz
end
end Ph

namespace Ph
open PySem PySem.Spec PyProof.Rows L2
section
variable {P : Program} {w : World} {A : Around} {E : Value → Shared → Prop} {s : Shared} {T : String} {r d : Addr} {n : Nat} {Pv : Nat → Value → Prop} {OK : Heap → Prop}
/-- tuple(x), x walked as the library's source of a list -/
theorem code_tuple_src {Q₁ : Value → Shared → Prop} (S : PySem.W.KdlSrc P w T r d n Pv OK) (calm : A.handled = none) (ok : OK s.heap) (hn : n ≤ sizeLine) (nT : (Value.type T == Value.type "tuple") = false) (nL : (Value.type T == Value.type "list") = false)
    (q : ∀ (g : Heap) (tk : Nat) (acc : Array Value), (∀ b u, s.heap.get? b = some u → g.get? b = some u) → ItemsOf Pv acc n → Q₁ (.ref g.objs.size) { s with heap := g.push { cls := .type "tuple", data := .seq acc }, toks := tk }) :
    codeAny (model P w) A (.call (.builtin "tuple.__new__") ⟨[.type "tuple", .ref r], []⟩) (wants Q₁ E) s := by
  refine codeAny_of_tree ?_
  show wpAny (model P w) A.in1 (do checkBuiltinCall "tuple.__new__" ⟨[.type "tuple", .ref r], []⟩; again (.builtin "tuple.__new__" ⟨[.type "tuple", .ref r], []⟩)) _ _ s
  refine wpAny_bind (wpAny_of_eq (F.newCall_tuple_1 _) (wpAny_pure ⟨plainId_quiet F.plain_tuple_new _, codeAny_builtin F.entry_tuple_new ?_⟩)); rw [Around.under_plainId F.plain_tuple_new _]
  have y1 := sub_tuple_self
  have y2 := init_tuple_lookup
  have y3 := madeHere_tuple
  have ty := S.type _ ok
  have calm1 : A.in1.handled = none := calm
  wp_walk using wpAny_typeOf ty, PySem.W.kdu_collect (A := A.in1) S calm1 ok hn
  intro g tk acc k it
  show wpAny (model P w) _ (Builtin.Tuple.tupleExact acc.toList.toArray >>= fun v => ret v) _ _ _
  unfold Builtin.Tuple.tupleExact
  refine wpAny_bind (wpAny_newObj_type ?_ (by show acc.toList.toArray.size ≤ sizeLine; rw [Array.toArray_toList, it.1]; exact hn))
  rw [Array.toArray_toList]
  exact wpAny_pure (q g tk acc k it)
theorem call_tuple_src {Q : Value → Shared → Prop} (S : PySem.W.KdlSrc P w T r d n Pv OK) (calm : A.handled = none) (ok : OK s.heap) (hn : n ≤ sizeLine) (nT : (Value.type T == Value.type "tuple") = false) (nL : (Value.type T == Value.type "list") = false)
    (q : ∀ (g : Heap) (tk : Nat) (acc : Array Value), (∀ b u, s.heap.get? b = some u → g.get? b = some u) → ItemsOf Pv acc n → Q (.ref g.objs.size) { s with heap := g.push { cls := .type "tuple", data := .seq acc }, toks := tk }) :
    wpAny (model P w) A (call (.type "tuple") [.ref r]) Q E s := by
  refine callType_codes (Q₁ := fun z t => t.TypeIs z "tuple" ∧ Q z t) F.called_tuple (F.typeCall_tuple_1 _) F.entry_object_init (code_tuple_src (A := A.in1) S calm ok hn nT nL fun g tk acc k it => ⟨⟨_, Heap.get?_push_size _ rfl, rfl⟩, q g tk acc k it⟩) fun z t h => ?_
  exact ⟨h.1, F.args_object_init_2 z _, object_init_meets F.called_tuple.init.lookup F.called_tuple.made (by decide) P w A.in1 _ t ⟨h.1, rfl, h.2⟩⟩
end
section
variable {X : Cx} {o : Expr} {p pos apos mpos : Pos} {td : TE}
/-- tuple(d.values()) -/
def tTupVals (td : TE) : TE := fun σ H Q => td σ H fun x H1 => ∃ a kvs, x = V.ref a ∧ H1 a = some (.dK kvs) ∧ ∀ q, H1 q = none → Q (.ref q) (upd H1 q (.tup (kvs.map (·.2))))
theorem pe_tupVals (hc : X.calm = true) (hg : Gl X "tuple") (hm : X.mg "tuple" = none) (hd : PE X o td) (hbase : attributeBase o "values" X.env (eval o X.env) = eval o X.env := by rfl) (hline : (apos.endLine == mpos.line) = true := by rfl)
    (hse : starEach [Expr.Call (.Attribute o "values" apos) [] [] mpos] X.env = [(false, eval (Expr.Call (.Attribute o "values" apos) [] [] mpos) X.env)] := by rfl) :
    PE X (.Call (.Name "tuple" p) [.Call (.Attribute o "values" apos) [] [] mpos] [] pos) (tTupVals td) := by
  refine ⟨fun pins s σ H Q I h => ?_⟩
  refine Call_ (ld_blt I hg hm boot_tuple ?_)
  refine PyProof.Rows.callWith_type1 (PyProof.Rows.args_cons (wpAny_Call_method0_late hbase hline (thn (hd.run pins s σ H _ I h) fun v s1 ⟨x, H1, I1, r1, a, kvs, ex, ha, q⟩ => ?_)) hse) hse rfl
  subst ex
  obtain rfl : v = Value.ref a := r1
  obtain ⟨z, hsys, vs, rel, dof⟩ := dk_of I1.hok ha
  obtain ⟨ep, dat⟩ := dof.dictAt
  obtain ⟨ob, es, ho, ex, _⟩ := id dat
  refine ⟨"dict", "dict.values", F.plainAttrs_dict, F.slot_dict_values, F.type_dict_values, ⟨ob, ho, ex.1⟩, fun b e => by cases e; exact ⟨ob, ho, ex.2.1⟩, Calls.callWith_builtin rfl (PySem.evalArgs_none ?_)⟩
  refine call_meetsIn F.slot_dict_values ⟨ob, ho, ex.1⟩ F.entry_dict_values (F.args_dict_values_1 _) (meets_dict_values (mixKind X.prog X.w) a hsys) ⟨⟨vs, dof⟩, ?_⟩
  refine PyProof.Rows.args_nil ?_
  have lv : kvs.length = vs.length := KV.length rel
  refine call_tuple_src (PySem.W.kdl_values (knd := mixKind X.prog X.w) (kvs := vs) (ep := ep) (r := s1.heap.objs.size) (d := a)) (I.ok.hd hc) ⟨⟨_, Heap.get?_push_size _ rfl, rfl, rfl⟩, dat.keep fun b u e => Heap.get?_push_of_some _ e⟩ (by rw [← lv]; exact z) (by decide) (by decide) fun g tk acc k it => ?_
  have keep : ∀ b u, s1.heap.get? b = some u → (g.push { cls := .type "tuple", data := .seq acc }).get? b = some u := fun b u e => Heap.get?_push_of_some _ (k b u (Heap.get?_push_of_some _ e))
  have low : s1.heap.objs.size ≤ g.objs.size := by
    have := k s1.heap.objs.size _ (Heap.get?_push_size _ rfl)
    exact Nat.le_of_lt (Heap.lt_size this)
  have rv : Vals (kvs.map (·.2)) acc.toList := vals_of_at ((List.length_map _).trans (lv.trans (it.1.symm.trans Array.length_toList.symm))) fun j x u h1 h2 => by
    obtain ⟨kk, hk⟩ := it.2 j u (by rw [← Array.getElem?_toList]; exact h2)
    obtain ⟨x', h3, h4⟩ := KV.at' rel hk
    rw [List.getElem?_map, h3] at h1
    cases h1
    exact h4
  refine ⟨.ref _, upd H1 g.objs.size (.tup (kvs.map (·.2))), I1.laid (t' := tk) keep low ?_, rfl, q _ (I1.hok.fresh low)⟩
  exact ⟨by rw [List.length_map]; exact z, acc.toList, rv, ⟨_, Heap.get?_push_size _ rfl, rfl, 0, by rw [Array.toArray_toList]⟩⟩
end
end Ph

namespace Ph
open PySem PySem.Spec PyProof.Rows L2
theorem BL.get {H : Hp} : ∀ {xs : List V} {bs : List (Int × Int)} {i : Nat} {x : V}, BL H xs bs → xs[i]? = some x → ∃ b, bs[i]? = some b ∧ BkAt H x b
  | _, _, _, _, .nil, h => by simp at h
  | _, _, 0, _, .cons hb r, h => by
    have e := Option.some.inj h
    rw [← e]
    exact ⟨_, rfl, hb⟩
  | _ :: l1, _ :: l2, i + 1, x, .cons hb r, h => by
    have h' : l1[i]? = some x := h
    obtain ⟨b, e1, e2⟩ := BL.get (H := H) (xs := l1) (bs := l2) r h'
    exact ⟨b, e1, e2⟩
def ent (s : Int) (E : List Bk) (ys : List V) : List (Key × V) := List.zipWith (fun b y => (Sum.inl (b.1 / s), y)) E ys
theorem ent_snoc (s : Int) (E : List Bk) (ys : List V) (b : Bk) (y : V) (h : E.length = ys.length) : ent s (E ++ [b]) (ys ++ [y]) = ent s E ys ++ [(Sum.inl (b.1 / s), y)] := by
  unfold ent
  rw [List.zipWith_append h]
  rfl
theorem ent_snd (s : Int) : ∀ (E : List Bk) (ys : List V), E.length = ys.length → (ent s E ys).map (·.2) = ys
  | [], [], _ => rfl
  | _ :: E, y :: ys, h => by
    show y :: (ent s E ys).map (·.2) = y :: ys
    rw [ent_snd s E ys (by simpa using h)]
  | [], _ :: _, h => by simp at h
  | _ :: _, [], h => by simp at h
theorem ent_none (s q : Int) : ∀ (E : List Bk) (ys : List V), (∀ b ∈ E, b.1 / s ≠ q) → valV (ent s E ys) (Sum.inl q) = none
  | [], ys, _ => by cases ys <;> rfl
  | _ :: _, [], _ => rfl
  | b :: E, y :: ys, h => by
    have e : ent s (b :: E) (y :: ys) = (Sum.inl (b.1 / s), y) :: ent s E ys := rfl
    rw [e, valV_neg (fun z => h b (List.mem_cons_self ..) (Sum.inl.inj z))]
    exact ent_none s q E ys fun c hc => h c (List.mem_cons_of_mem _ hc)
theorem ent_len (s : Int) (E : List Bk) (ys : List V) : (ent s E ys).length ≤ E.length := by
  unfold ent
  rw [List.length_zipWith]
  omega
theorem put_snoc {kvs : List (Key × V)} {k : Key} {y v : V} (h : valV kvs k = none) : putK (kvs ++ [(k, y)]) k v = kvs ++ [(k, v)] := by
  have h1 : (kvs.any fun kv => decide (kv.1 = k)) = false := by
    rw [valV_any, h]
    rfl
  unfold putK
  rw [if_pos (by rw [List.any_append, h1]; simp), List.map_append]
  congr 1
  · have h2 := List.any_eq_false.mp h1
    conv => rhs; rw [← List.map_id kvs]
    refine List.map_congr_left fun kv hkv => ?_
    have h3 := h2 kv hkv
    rw [if_neg (by simpa using h3)]
    rfl
  · simp
theorem BL.snoc_inv {H : Hp} : ∀ {E0 : List Bk} {m : Bk} {ys : List V}, BL H ys (E0 ++ [m]) → ∃ ys0 y, ys = ys0 ++ [y] ∧ BL H ys0 E0 ∧ BkAt H y m
  | [], _, _, .cons h .nil => ⟨[], _, rfl, .nil, h⟩
  | _ :: _, _, _, .cons h r => by
    obtain ⟨ys0, y, e, b, k⟩ := BL.snoc_inv r
    exact ⟨_ :: ys0, y, by rw [e]; rfl, .cons h b, k⟩
section
variable {X : Cx} {o : Expr} {p pos apos mpos : Pos} {td : TE}
/-- list(d.values()) -/
def tLstVals (td : TE) : TE := fun σ H Q => td σ H fun x H1 => ∃ a kvs, x = V.ref a ∧ H1 a = some (.dK kvs) ∧ ∀ q, H1 q = none → Q (.ref q) (upd H1 q (.lst (kvs.map (·.2))))
theorem pe_lstVals (hc : X.calm = true) (hg : Gl X "list") (hm : X.mg "list" = none) (hd : PE X o td) (hbase : attributeBase o "values" X.env (eval o X.env) = eval o X.env := by rfl) (hline : (apos.endLine == mpos.line) = true := by rfl)
    (hse : starEach [Expr.Call (.Attribute o "values" apos) [] [] mpos] X.env = [(false, eval (Expr.Call (.Attribute o "values" apos) [] [] mpos) X.env)] := by rfl) :
    PE X (.Call (.Name "list" p) [.Call (.Attribute o "values" apos) [] [] mpos] [] pos) (tLstVals td) := by
  refine ⟨fun pins s σ H Q I h => ?_⟩
  refine Call_ (ld_blt I hg hm boot_list ?_)
  refine PyProof.Rows.callWith_type1 (PyProof.Rows.args_cons (wpAny_Call_method0_late hbase hline (thn (hd.run pins s σ H _ I h) fun v s1 ⟨x, H1, I1, r1, a, kvs, ex, ha, q⟩ => ?_)) hse) hse rfl
  subst ex
  obtain rfl : v = Value.ref a := r1
  obtain ⟨z, hsys, vs, rel, dof⟩ := dk_of I1.hok ha
  obtain ⟨ep, dat⟩ := dof.dictAt
  obtain ⟨ob, es, ho, ex, _⟩ := id dat
  refine ⟨"dict", "dict.values", F.plainAttrs_dict, F.slot_dict_values, F.type_dict_values, ⟨ob, ho, ex.1⟩, fun b e => by cases e; exact ⟨ob, ho, ex.2.1⟩, Calls.callWith_builtin rfl (PySem.evalArgs_none ?_)⟩
  refine call_meetsIn F.slot_dict_values ⟨ob, ho, ex.1⟩ F.entry_dict_values (F.args_dict_values_1 _) (meets_dict_values (mixKind X.prog X.w) a hsys) ⟨⟨vs, dof⟩, ?_⟩
  refine PyProof.Rows.args_nil ?_
  have lv : kvs.length = vs.length := KV.length rel
  refine PySem.W.kdl_call (PySem.W.kdl_values (knd := mixKind X.prog X.w) (kvs := vs) (ep := ep) (r := s1.heap.objs.size) (d := a)) (I.ok.hd hc) ⟨⟨_, Heap.get?_push_size _ rfl, rfl, rfl⟩, dat.keep fun b u e => Heap.get?_push_of_some _ e⟩ (by rw [← lv]; exact z) fun g tk acc cc k hob it => ?_
  have keep : ∀ b u, s1.heap.get? b = some u → g.get? b = some u := fun b u e => k b u (Heap.get?_push_of_some _ e)
  have rv : Vals (kvs.map (·.2)) acc.toList := vals_of_at ((List.length_map _).trans (lv.trans (it.1.symm.trans Array.length_toList.symm))) fun j x u h1 h2 => by
    obtain ⟨kk, hk⟩ := it.2 j u (by rw [← Array.getElem?_toList]; exact h2)
    obtain ⟨x', h3, h4⟩ := KV.at' rel hk
    rw [List.getElem?_map, h3] at h1
    cases h1
    exact h4
  have low : s1.heap.objs.size ≤ (s1.heap.push { cls := .type "dict_values", data := .fields #[.ref a] }).objs.size := by rw [size_push']; exact Nat.le_succ _
  refine ⟨.ref _, upd H1 _ (.lst (kvs.map (·.2))), I1.laid (t' := tk) keep low ⟨by rw [List.length_map]; exact z, acc.toList, cc, rv, ?_⟩, rfl, q _ (I1.hok.fresh low)⟩
  rw [Array.toArray_toList]
  exact hob

end
end Ph

namespace Ph
open PySem PySem.Spec PyProof.Rows L2
theorem BL.kp {H H' : Hp} {xs : List V} {bs : List Bk} (h : BL H xs bs) (kp : KpT H H') : BL H' xs bs := BL.mono kp h
theorem catSt {K : PySem.W.Frag} {H : Hp} {a b : Addr} {bs cs : List Bk} {Q : VK} (h1 : StAt H a bs) (h2 : StAt H b cs) (hl : bs.length + cs.length ≤ 10000) (q : ∀ H' p, Same H H' → StAt H' p (bs ++ cs) → Q (.ref p) H') : rCatA K (.ref a) (.ref b) H Q := by
  obtain ⟨xs, e1, b1⟩ := id h1
  obtain ⟨ys, e2, b2⟩ := id h2
  have l1 := b1.len
  have l2 := b2.len
  refine ⟨a, b, xs, ys, rfl, rfl, .inl (.inl e1), .inl (.inl e2), Nat.le_trans (show _ ≤ 10000 by omega) (by decide), fun z => ?_, fun _ z => ?_, fun _ _ p np => ?_⟩
  · have : bs = [] := by
      rw [z] at l1
      exact List.length_eq_zero_iff.mp l1.symm
    rw [this] at q
    exact q _ _ (Same.refl _) h2
  · have : cs = [] := by
      rw [z] at l2
      exact List.length_eq_zero_iff.mp l2.symm
    rw [this, List.append_nil] at q
    exact q _ _ (Same.refl _) h1
  · have s := same_upd (o := .tup (xs ++ ys)) np
    exact q _ _ s ⟨_, upd_same, (b1.app b2).mono fun t zs e => s _ _ e⟩
theorem perm_lex {l m : List Bk} (p : l.Perm m) (h1 : l.Pairwise fun x y => SrtO.lexB y x = false) (h2 : m.Pairwise fun x y => SrtO.lexB y x = false) : l = m :=
  p.eq_of_pairwise (fun a b _ _ x y => by
    have h3 := SrtO.lexB_no.mp x
    have h4 := SrtO.lexB_no.mp y
    exact Prod.ext (by omega) (by omega)) h1 h2
/-- blocks at 0, t, 2 t ..; the k-th has f k words -/
def bkl (t : Nat) (f : Nat → Nat) (n : Nat) : List Bk := (List.range n).map fun k => (((k * t : Nat) : Int), ((f k : Nat) : Int))
theorem bkl_succ (t : Nat) (f : Nat → Nat) (n : Nat) : bkl t f (n + 1) = bkl t f n ++ [(((n * t : Nat) : Int), ((f n : Nat) : Int))] := by
  unfold bkl
  rw [List.range_succ, List.map_append]
  rfl
theorem bkl_len (t : Nat) (f : Nat → Nat) (n : Nat) : (bkl t f n).length = n := by
  unfold bkl
  rw [List.length_map, List.length_range]
theorem bkl_get {t : Nat} {f : Nat → Nat} {n k : Nat} (h : k < n) : (bkl t f n)[k]? = some (((k * t : Nat) : Int), ((f k : Nat) : Int)) := by
  unfold bkl
  rw [List.getElem?_map, List.getElem?_range h]
  rfl
theorem bkl_mem {t : Nat} {f : Nat → Nat} {n : Nat} {b : Bk} : b ∈ bkl t f n ↔ ∃ k, k < n ∧ b = (((k * t : Nat) : Int), ((f k : Nat) : Int)) := by
  unfold bkl
  rw [List.mem_map]
  constructor
  · rintro ⟨k, hk, rfl⟩
    exact ⟨k, List.mem_range.mp hk, rfl⟩
  · rintro ⟨k, hk, rfl⟩
    exact ⟨k, List.mem_range.mpr hk, rfl⟩
theorem bkl_congr {t : Nat} {f g : Nat → Nat} {n : Nat} (h : ∀ k, k < n → f k = g k) : bkl t f n = bkl t g n := by
  unfold bkl
  refine List.map_congr_left fun k hk => ?_
  rw [h k (List.mem_range.mp hk)]
theorem bkl_sorted {t : Nat} (ht : 0 < t) (f : Nat → Nat) : ∀ n, (bkl t f n).Pairwise fun x y => SrtO.lexB y x = false
  | 0 => List.Pairwise.nil
  | n + 1 => by
    rw [bkl_succ, List.pairwise_append]
    refine ⟨bkl_sorted ht f n, List.pairwise_singleton _ _, fun a ha b hb => ?_⟩
    obtain ⟨k, hk, rfl⟩ := bkl_mem.mp ha
    rw [List.mem_singleton.mp hb]
    have : k * t < n * t := Nat.mul_lt_mul_of_pos_right hk ht
    exact SrtO.lexB_no.mpr (by dsimp only; omega)
theorem cdw_step {j r : Nat} (hr : 0 < r) : (j % r = 0 ∧ cdw j r = j / r ∧ cdw (j + 1) r = j / r + 1) ∨ (j % r ≠ 0 ∧ cdw j r = j / r + 1 ∧ cdw (j + 1) r = j / r + 1) := by
  have e : j = r * (j / r) + j % r := (Nat.div_add_mod j r).symm
  have m := Nat.mod_lt j hr
  generalize j / r = q at *
  generalize j % r = c at *
  subst e
  have h1 : ∀ x, x < r → cdw (r * q + 1 + x) r = q + 1 := fun x hx => by
    unfold cdw
    have : r * q + 1 + x + r - 1 = x + r * (q + 1) := by rw [Nat.mul_add, Nat.mul_one]; omega
    rw [this, Nat.add_mul_div_left _ _ hr, Nat.div_eq_of_lt hx]
    omega
  rcases Nat.eq_zero_or_pos c with z | z
  · subst z
    refine .inl ⟨rfl, ?_, ?_⟩
    · unfold cdw
      have : r * q + 0 + r - 1 = (r - 1) + r * q := by omega
      rw [this, Nat.add_mul_div_left _ _ hr, Nat.div_eq_of_lt (by omega)]
      omega
    · exact h1 0 hr
  · refine .inr ⟨by omega, ?_, ?_⟩
    · have := h1 (c - 1) (by omega)
      have e : r * q + 1 + (c - 1) = r * q + c := by omega
      rw [e] at this
      exact this
    · have := h1 c m
      have e : r * q + 1 + c = r * q + c + 1 := by omega
      rw [e] at this
      exact this
section
variable {X : Cx}
def rSetJ (K : PySem.W.Frag) (w : World) : List V → Hp → VK → Prop := fun vs H Q => ∃ (l : Addr) (ns : List Int), vs = [V.ref l] ∧ SqL K H l (ns.map V.int) ∧ ns.length + 1 < scanBound ∧ ∀ H' a c, Same H H' → H' a = some (SetO w a (fun j => decide (j ∈ ns)) c) → (ns.Nodup → c = ns.length) → Q (.ref a) H'
theorem cr_setJ (hc : X.calm = true) : CallR X (.type "set") (rSetJ X.K X.w) := fun pins s σ H vs us Q I r h => cr_setI hc pins s σ H vs us Q I r (by
  obtain ⟨l, ns, e, h1, h2, q⟩ := h
  exact ⟨l, ns, e, h1, h2, fun a c na hc => q _ a c (same_upd na) upd_same hc⟩)
end
theorem paired_mapL {α β γ : Type} {F : γ → β → Prop} {f : α → β} : ∀ {l : List α} {m : List γ}, Paired (fun a c => F c (f a)) l m → Paired F m (l.map f)
  | _, _, .nil => .nil
  | _, _, .cons h r => .cons h (paired_mapL r)
theorem inc_ext : ∀ {l m : List Int}, l.Pairwise (· < ·) → m.Pairwise (· < ·) → (∀ k, k ∈ l ↔ k ∈ m) → l = m
  | [], [], _, _, _ => rfl
  | [], y :: m, _, _, h => by have := (h y).mpr (List.mem_cons_self ..); cases this
  | x :: l, [], _, _, h => by have := (h x).mp (List.mem_cons_self ..); cases this
  | x :: l, y :: m, hl, hm, h => by
    obtain ⟨l1, l2⟩ := List.pairwise_cons.mp hl
    obtain ⟨m1, m2⟩ := List.pairwise_cons.mp hm
    have e : x = y := by
      have a := List.mem_cons.mp ((h x).mp (List.mem_cons_self ..))
      have b := List.mem_cons.mp ((h y).mpr (List.mem_cons_self ..))
      rcases a with a | a
      · exact a
      · rcases b with b | b
        · exact b.symm
        · have := m1 x a
          have := l1 y b
          omega
    subst e
    rw [inc_ext l2 m2 fun k => ?_]
    constructor
    · intro hk
      have := l1 k hk
      rcases List.mem_cons.mp ((h k).mp (List.mem_cons_of_mem _ hk)) with z | z
      · omega
      · exact z
    · intro hk
      have := m1 k hk
      rcases List.mem_cons.mp ((h k).mpr (List.mem_cons_of_mem _ hk)) with z | z
      · omega
      · exact z
end Ph

set_option maxHeartbeats 8000000
namespace Ph
open PySem PySem.Spec PyProof.Rows L2
def topS (i : Nat) : Stmt := PySem.Challenge.pw_pinnedheap_k26_whole_bounds_are_reached.main.body.getD i (.Pass ⟨0, 0, 0, 0⟩)
structure Fns (K : PySem.W.Frag) (mg : Str → Option Value) where
  N : Nm6 K mg
  fDu : Addr
  fdDu : FuncData
  FDu : Fun K "divided_up" "divided_up" (topS 1) fDu fdDu
  bDu : Binds K fdDu ["number", "divisor"] []
  gDu : mg "divided_up" = some (.ref fDu)
  fRs : Addr
  fdRs : FuncData
  FRs : Fun K "reaches" "reaches" (topS 3) fRs fdRs
  bRs : Binds K fdRs ["chain", "state"] []
  gRs : mg "reaches" = some (.ref fRs)
  fR : Addr
  fdR : FuncData
  FR : Fun K "reach" "reach" (topS 4) fR fdR
  bR : Binds K fdR ["state", "largest"] []
  gR : mg "reach" = some (.ref fR)
  fBo : Addr
  fdBo : FuncData
  FBo : Fun K "bounds" "bounds" (topS 6) fBo fdBo
  bBo : Binds K fdBo ["chain", "limit"] []
  gBo : mg "bounds" = some (.ref fBo)
  fNf : Addr
  fdNf : FuncData
  FNf : Fun K "numbers_from" "numbers_from" (topS 7) fNf fdNf
  bNf : Binds K fdNf ["chain", "limit", "reached"] []
  gNf : mg "numbers_from" = some (.ref fNf)
  fLw : Addr
  fdLw : FuncData
  FLw : Fun K "least_words" "least_words" (topS 8) fLw fdLw
  bLw : Binds K fdLw ["chain", "numbers", "size"] []
  gLw : mg "least_words" = some (.ref fLw)
  fPn : Addr
  fdPn : FuncData
  FPn : Fun K "pages_needed" "pages_needed" (topS 9) fPn fdPn
  bPn : Binds K fdPn ["chain", "limit"] []
  gPn : mg "pages_needed" = some (.ref fPn)
  fDw : Addr
  fdDw : FuncData
  FDw : Fun K "_law_draws" "_law_draws" (topS 11) fDw fdDw
  bDw : Binds K fdDw ["_law_script", "_law_k"] []
  gDw : mg "_law_draws" = some (.ref fDw)
  fNx : Addr
  fdNx : FuncData
  FNx : Fun K "_law_next" "_law_next" (topS 12) fNx fdNx
  bNx : Binds K fdNx ["_law_draws_here", "_law_bound"] []
  gNx : mg "_law_next" = some (.ref fNx)
  fPk : Addr
  fdPk : FuncData
  FPk : Fun K "_law_pick" "_law_pick" (topS 13) fPk fdPk
  bPk : Binds K fdPk ["_law_draws_here", "_law_items"] []
  gPk : mg "_law_pick" = some (.ref fPk)
  fCc : Addr
  fdCc : FuncData
  FCc : Fun K "_law_chain" "_law_chain" (topS 14) fCc fdCc
  bCc : Binds K fdCc ["_law_draws_here", "_law_most", "_law_longest"] []
  gCc : mg "_law_chain" = some (.ref fCc)
  fTo : Addr
  fdTo : FuncData
  FTo : Fun K "_law_total" "_law_total" (topS 15) fTo fdTo
  bTo : Binds K fdTo ["_law_blocks"] []
  gTo : mg "_law_total" = some (.ref fTo)
  fTh : Addr
  fdTh : FuncData
  FTh : Fun K "_law_thinned" "_law_thinned" (topS 16) fTh fdTh
  bTh : Binds K fdTh ["_law_blocks", "_law_size"] []
  gTh : mg "_law_thinned" = some (.ref fTh)
  fFa : Addr
  fdFa : FuncData
  FFa : Fun K "_law_phase" "_law_phase" (topS 17) fFa fdFa
  bFa : Binds K fdFa ["_law_chain_here", "_law_limit", "_law_index", "_law_blocks"] []
  gFa : mg "_law_phase" = some (.ref fFa)
  fRi : Addr
  fdRi : FuncData
  FRi : Fun K "_law_right" "_law_right" (topS 18) fRi fdRi
  bRi : Binds K fdRi ["_law_draws_here"] []
  gRi : mg "_law_right" = some (.ref fRi)
  fLaw : Addr
  fdLaw : FuncData
  FLaw : Fun K "law" "law" (topS 19) fLaw fdLaw
  bLaw : Binds K fdLaw ["_law_script"] []
  gLaw : mg "law" = some (.ref fLaw)
abbrev sDu : Stmt := topS 1
abbrev scDuS : Stmt := sDu
abbrev scDuN : List Str := ["number", "divisor"]
theorem scDu : FnScope ["number", "divisor"] ["number", "divisor"] (defScope sDu) := ⟨rfl, rfl, rfl, by decide +kernel, rfl, by decide +kernel, by decide +kernel⟩
abbrev sRs : Stmt := topS 3
abbrev scRsS : Stmt := sRs
abbrev scRsN : List Str := ["chain", "state", "largest"]
theorem scRs : FnScope ["chain", "state", "largest"] ["chain", "state"] (defScope sRs) := ⟨rfl, rfl, rfl, by decide +kernel, rfl, by decide +kernel, by decide +kernel⟩
abbrev sR : Stmt := topS 4
abbrev scRS : Stmt := sR
abbrev scRN : List Str := ["state", "largest", "address", "size"]
theorem scR : FnScope ["state", "largest", "address", "size"] ["state", "largest"] (defScope sR) := ⟨rfl, rfl, rfl, by decide +kernel, rfl, by decide +kernel, by decide +kernel⟩
abbrev sBo : Stmt := topS 6
abbrev scBoS : Stmt := sBo
abbrev scBoN : List Str := ["chain", "limit"]
theorem scBo : FnScope ["chain", "limit"] ["chain", "limit"] (defScope sBo) := ⟨rfl, rfl, rfl, by decide +kernel, rfl, by decide +kernel, by decide +kernel⟩
abbrev sNf : Stmt := topS 7
abbrev scNfS : Stmt := sNf
abbrev scNfN : List Str := ["chain", "limit", "reached", "numbers", "index", "size", "left", "chunks"]
theorem scNf : FnScope ["chain", "limit", "reached", "numbers", "index", "size", "left", "chunks"] ["chain", "limit", "reached"] (defScope sNf) := ⟨rfl, rfl, rfl, by decide +kernel, rfl, by decide +kernel, by decide +kernel⟩
abbrev sLw : Stmt := topS 8
abbrev scLwS : Stmt := sLw
abbrev scLwN : List Str := ["chain", "numbers", "size", "words", "before", "smaller", "number", "chunks"]
theorem scLw : FnScope ["chain", "numbers", "size", "words", "before", "smaller", "number", "chunks"] ["chain", "numbers", "size"] (defScope sLw) := ⟨rfl, rfl, rfl, by decide +kernel, rfl, by decide +kernel, by decide +kernel⟩
abbrev sPn : Stmt := topS 9
abbrev scPnS : Stmt := sPn
abbrev scPnN : List Str := ["chain", "limit"]
theorem scPn : FnScope ["chain", "limit"] ["chain", "limit"] (defScope sPn) := ⟨rfl, rfl, rfl, by decide +kernel, rfl, by decide +kernel, by decide +kernel⟩
abbrev sDw : Stmt := topS 11
abbrev scDwS : Stmt := sDw
abbrev scDwN : List Str := ["_law_script", "_law_k", "_law_cell", "_law_digits", "_law_mixed_so"]
theorem scDw : FnScope ["_law_script", "_law_k", "_law_cell", "_law_digits", "_law_mixed_so"] ["_law_script", "_law_k"] (defScope sDw) := ⟨rfl, rfl, rfl, by decide +kernel, rfl, by decide +kernel, by decide +kernel⟩
abbrev sNx : Stmt := topS 12
abbrev scNxS : Stmt := sNx
abbrev scNxN : List Str := ["_law_draws_here", "_law_bound", "_law_digit", "_law_prime", "_law_mixed_so"]
theorem scNx : FnScope ["_law_draws_here", "_law_bound", "_law_digit", "_law_prime", "_law_mixed_so"] ["_law_draws_here", "_law_bound"] (defScope sNx) := ⟨rfl, rfl, rfl, by decide +kernel, rfl, by decide +kernel, by decide +kernel⟩
abbrev sPk : Stmt := topS 13
abbrev scPkS : Stmt := sPk
abbrev scPkN : List Str := ["_law_draws_here", "_law_items"]
theorem scPk : FnScope ["_law_draws_here", "_law_items"] ["_law_draws_here", "_law_items"] (defScope sPk) := ⟨rfl, rfl, rfl, by decide +kernel, rfl, by decide +kernel, by decide +kernel⟩
abbrev sCc : Stmt := topS 14
abbrev scCcS : Stmt := sCc
abbrev scCcN : List Str := ["_law_draws_here", "_law_most", "_law_longest", "_law_found", "_law_turn", "_law_ratio"]
theorem scCc : FnScope ["_law_draws_here", "_law_most", "_law_longest", "_law_found", "_law_turn", "_law_ratio"] ["_law_draws_here", "_law_most", "_law_longest"] (defScope sCc) := ⟨rfl, rfl, rfl, by decide +kernel, rfl, by decide +kernel, by decide +kernel⟩
abbrev sTo : Stmt := topS 15
abbrev scToS : Stmt := sTo
abbrev scToN : List Str := ["_law_blocks", "_law_address", "_law_size"]
theorem scTo : FnScope ["_law_blocks", "_law_address", "_law_size"] ["_law_blocks"] (defScope sTo) := ⟨rfl, rfl, rfl, by decide +kernel, rfl, by decide +kernel, by decide +kernel⟩
abbrev sTh : Stmt := topS 16
abbrev scThS : Stmt := sTh
abbrev scThN : List Str := ["_law_blocks", "_law_size", "_law_kept", "_law_address", "_law_length", "_law_start"]
theorem scTh : FnScope ["_law_blocks", "_law_size", "_law_kept", "_law_address", "_law_length", "_law_start"] ["_law_blocks", "_law_size"] (defScope sTh) := ⟨rfl, rfl, rfl, by decide +kernel, rfl, by decide +kernel, by decide +kernel⟩
abbrev sFa : Stmt := topS 17
abbrev scFaS : Stmt := sFa
abbrev scFaN : List Str := ["_law_chain_here", "_law_limit", "_law_index", "_law_blocks", "_law_size", "_law_first", "_law_turn", "_law_address", "_law_length"]
theorem scFa : FnScope ["_law_chain_here", "_law_limit", "_law_index", "_law_blocks", "_law_size", "_law_first", "_law_turn", "_law_address", "_law_length"] ["_law_chain_here", "_law_limit", "_law_index", "_law_blocks"] (defScope sFa) := ⟨rfl, rfl, rfl, by decide +kernel, rfl, by decide +kernel, by decide +kernel⟩
abbrev sRi : Stmt := topS 18
abbrev scRiS : Stmt := sRi
abbrev scRiN : List Str := ["_law_draws_here", "_law_chain_here", "_law_limit", "_law_due", "_law_blocks", "_law_index", "_law_starts", "_law_address", "_law_length"]
theorem scRi : FnScope ["_law_draws_here", "_law_chain_here", "_law_limit", "_law_due", "_law_blocks", "_law_index", "_law_starts", "_law_address", "_law_length"] ["_law_draws_here"] (defScope sRi) := ⟨rfl, rfl, rfl, by decide +kernel, rfl, by decide +kernel, by decide +kernel⟩
abbrev sLaw : Stmt := topS 19
abbrev scLawS : Stmt := sLaw
abbrev scLawN : List Str := ["_law_script", "_law_k"]
theorem scLaw : FnScope ["_law_script", "_law_k"] ["_law_script"] (defScope sLaw) := ⟨rfl, rfl, rfl, by decide +kernel, rfl, by decide +kernel, by decide +kernel⟩
/-! ### the draws -/
section
variable {P : Program} {w : World} {K : PySem.W.Frag} {mg : Str → Option Value} {base : Heap}
theorem dig_mod (x y : Int) (hy : 0 < y) (hw : y.natAbs < 2 ^ 3000) : 0 ≤ x % y ∧ (x % y).natAbs < 2 ^ 3000 := by
  have h0 : 0 ≤ x % y := Int.emod_nonneg _ (by omega)
  exact ⟨h0, wide_le h0 (Int.le_of_lt (Int.emod_lt_of_pos _ hy)) hw⟩
theorem dig_mul {x : Int} (h : 0 ≤ x ∧ x.natAbs < 2 ^ 3000) (b : Bool) : CMulW x (if b = true then 1 else 0) :=
  wide_mul (b := 2) h.2 (by cases b <;> decide) (by decide) (by decide) (by decide)
theorem dig_ok {x : Int} (h : 0 ≤ x ∧ x.natAbs < 2 ^ 3000) (b : Bool) : 0 ≤ x * (if b = true then 1 else 0) ∧ (x * (if b = true then 1 else 0)).natAbs < 2 ^ 3000 := by
  cases b
  · rw [if_neg (by decide), Int.mul_zero]
    exact ⟨Int.le_refl _, Nat.pow_pos (by decide)⟩
  · rw [if_pos rfl, Int.mul_one]
    exact h
def spDw (K : PySem.W.Frag) : Sp := fun vs H Q _ => ∃ (a : Addr) (ns : List Int) (k : Nat), vs = [.ref a, .int k] ∧ SqL K H a (ns.map V.int) ∧ k ≤ 1000 ∧ ∀ H' p, Same H H' → H p = none → Dr 0 H' p → Q (.ref p) H'
theorem ok_Dw {k : Nat} (Z : Fns K mg) : FnOk P w K mg base CX0 (k + 1) Z.fDw Z.fdDw ["_law_script", "_law_k"] (spDw K) := by
  refine Z.FDw.ok scDw (fun vs H Q E h => ?_) (fun cdv A outer s H vs Q E hr h => ?_)
  · obtain ⟨a, ns, k, rfl, _⟩ := h
    rfl
  · obtain ⟨a, ns, n, rfl, hS, hn, q⟩ := h
    refine ⟨_, (pss_cons (ps_set (i := 2) scDw.nd rfl (.inl rfl) (pe_ifExp (pt_cmpR op_lt (pv 1) (pe_callB call_len_seq (by rfl) Z.N.len (by decide +kernel) (pa_cons (pv 0) pa_nil)) (nomark _)) (pe_ix ix_list (pv 0) (pv 1) (fun _ _ => rfl)) (pe_op op_add (pe_op op_mul pe_int (pv 1)) pe_int)))
 (pss_cons (ps_set (i := 3) scDw.nd rfl (.inl rfl) (pe_op op_mulW (pe_op op_mod (pe_callB call_abs (by rfl) Z.N.abs (by decide +kernel) (pa_cons (pv 2) pa_nil)) (pe_op op_powW (pe_op op_pow pe_int pe_int) pe_int)) (pe_callTy call_int1 (by rfl) Z.N.int (by decide +kernel) (pa_cons (pe_cmpR op_ge (pe_callB call_abs (by rfl) Z.N.abs (by decide +kernel) (pa_cons (pv 2) pa_nil)) (pe_op op_pow pe_int pe_int) (nomark _)) pa_nil))))
 (pss_cons (ps_set (i := 4) scDw.nd rfl (.inl rfl) (pe_op op_add (pe_op op_add (pe_op op_mul (pe_op op_mod (pv 2) pe_int) pe_int) (pe_op op_mul (pe_op op_mul pe_int (pv 1)) (pv 1))) pe_int))
 (pss_one (ps_ret (pe_lst (pa_cons (pv 3) (pa_cons (pe_op op_mod (pv 4) pe_int) (pa_cons pe_int pa_nil))))))))), ?_⟩
    have big : (0 : Int) < ((10 : Int) ^ (60 : Int).toNat) ^ (5 : Int).toNat ∧ (((10 : Int) ^ (60 : Int).toNat) ^ (5 : Int).toNat).natAbs < 2 ^ 3000 := by decide +kernel
    have pw : CPowW ((10 : Int) ^ (60 : Int).toNat) 5 := ⟨by decide, by decide +kernel⟩
    refine ⟨.int n, rfl, .ref a, rfl, a, _, rfl, .inl hS, _, _, rfl, rfl, _, rfl, ite2 (fun e => ?_) (fun e => ?_)⟩
    · have e1 : (n : Int) < ((ns.map V.int).length : Nat) := of_decide_eq_true e
      have e2 : n < ns.length := by
        rw [List.length_map] at e1
        omega
      refine ⟨.ref a, rfl, .int n, rfl, a, ns.map V.int, n, .int ns[n], rfl, rfl, hS, atI_nat (j := n) (by rw [List.getElem?_map, List.getElem?_eq_getElem e2]; rfl), ?_⟩
      refine ⟨.int _, rfl, _, rfl, _, _, rfl, rfl, ⟨by decide, by decide, by decide⟩, _, _, rfl, rfl, pw, _, _, rfl, rfl, big.1, .int _, rfl, _, rfl, _, _, rfl, rfl, ⟨by decide, by decide, by decide⟩, _, _, rfl, rfl, .inr ⟨_, rfl, _, _, rfl, rfl, dig_mul (dig_mod _ _ big.1 big.2) _, ?_⟩⟩
      refine ⟨.int _, rfl, _, _, rfl, rfl, (by decide : (0 : Int) < 2305843009213693951), _, _, rfl, rfl, .inr ⟨by decide, by decide⟩, .int n, rfl, _, _, rfl, rfl, .inl ⟨by decide, by decide⟩, .int n, rfl, _, _, rfl, rfl, .inr ⟨by omega, by omega⟩, _, _, rfl, rfl, _, _, rfl, rfl, ?_⟩
      refine ⟨_, rfl, _, rfl, _, _, rfl, rfl, (by decide : (0 : Int) < 2305843009213693921), (by show 3 ≤ sizeLine; decide), fun p np => ?_⟩
      exact q _ p (same_upd np) np ⟨_, _, _, upd_same, (dig_ok (dig_mod _ _ big.1 big.2) _).1, (dig_ok (dig_mod _ _ big.1 big.2) _).2, Int.emod_nonneg _ (by decide), Int.emod_lt_of_pos _ (by decide), by decide, by decide⟩
    · refine ⟨.int n, rfl, _, _, rfl, rfl, .inl ⟨by decide, by decide⟩, _, _, rfl, rfl, ?_⟩
      refine ⟨.int _, rfl, _, rfl, _, _, rfl, rfl, ⟨by decide, by decide, by decide⟩, _, _, rfl, rfl, pw, _, _, rfl, rfl, big.1, .int _, rfl, _, rfl, _, _, rfl, rfl, ⟨by decide, by decide, by decide⟩, _, _, rfl, rfl, .inr ⟨_, rfl, _, _, rfl, rfl, dig_mul (dig_mod _ _ big.1 big.2) _, ?_⟩⟩
      refine ⟨.int _, rfl, _, _, rfl, rfl, (by decide : (0 : Int) < 2305843009213693951), _, _, rfl, rfl, .inr ⟨by decide, by decide⟩, .int n, rfl, _, _, rfl, rfl, .inl ⟨by decide, by decide⟩, .int n, rfl, _, _, rfl, rfl, .inr ⟨by omega, by omega⟩, _, _, rfl, rfl, _, _, rfl, rfl, ?_⟩
      refine ⟨_, rfl, _, rfl, _, _, rfl, rfl, (by decide : (0 : Int) < 2305843009213693921), (by show 3 ≤ sizeLine; decide), fun p np => ?_⟩
      exact q _ p (same_upd np) np ⟨_, _, _, upd_same, (dig_ok (dig_mod _ _ big.1 big.2) _).1, (dig_ok (dig_mod _ _ big.1 big.2) _).2, Int.emod_nonneg _ (by decide), Int.emod_lt_of_pos _ (by decide), by decide, by decide⟩
def drCap : Nat := 10000000
def spNx : Sp := fun vs H Q _ => ∃ (p : Addr) (b : Int) (c : Nat), vs = [.ref p, .int b] ∧ Dr c H p ∧ c < drCap ∧ 0 < b ∧ b < 4611686018427387904 ∧ ∀ H' d, But p H H' → Dr (c + 1) H' p → 0 ≤ d → d < b → Q (.int d) H'
theorem ok_Nx {k : Nat} (Z : Fns K mg) : FnOk P w K mg base CX0 (k + 1) Z.fNx Z.fdNx ["_law_draws_here", "_law_bound"] spNx := by
  refine Z.FNx.ok scNx (fun vs H Q E h => ?_) (fun cdv A outer s H vs Q E hr h => ?_)
  · obtain ⟨p, n, c, rfl, _⟩ := h
    rfl
  · obtain ⟨p, n, c, rfl, ⟨g, r, m, hp, hv⟩, hc, hn0, hn1, q⟩ := h
    refine ⟨_, (pss_cons (ps_if (pt_cmpR op_gt (pe_ix ix_list (pv 0) pe_int (fun _ _ => rfl)) pe_int (nomark _))
 (pss_cons (ps_set (i := 2) scNx.nd rfl (.inl rfl) (pe_op op_mod (pe_ix ix_list (pv 0) pe_int (fun _ _ => rfl)) (pv 1)))
 (pss_cons (ps_asg (pe_op op_fdivW (pe_ix ix_list (pv 0) pe_int (fun _ _ => rfl)) (pv 1)) (pg_sub (pv 0) pe_int set_list))
 (pss_one (ps_ret (pv 2))))) pss_nil)
 (pss_cons (ps_asg (pe_op op_add (pe_ix ix_list (pv 0) pe_int (fun _ _ => rfl)) pe_int) (pg_sub (pv 0) pe_int set_list))
 (pss_cons (ps_set (i := 3) scNx.nd rfl (.inl rfl) (pe_ix ix_list (pe_lst (pa_cons pe_int (pa_cons pe_int (pa_cons pe_int (pa_cons pe_int (pa_cons pe_int (pa_cons pe_int (pa_cons pe_int pa_nil)))))))) (pe_op op_mod (pe_ix ix_list (pv 0) pe_int (fun _ _ => rfl)) pe_int) (fun _ _ => rfl)))
 (pss_cons (ps_set (i := 4) scNx.nd rfl (.inl rfl) (pe_op op_mod (pe_op op_pow (pe_op op_add (pe_op op_add (pe_ix ix_list (pv 0) pe_int (fun _ _ => rfl)) (pe_op op_mul (pe_op op_mul pe_int (pe_ix ix_list (pv 0) pe_int (fun _ _ => rfl))) (pe_ix ix_list (pv 0) pe_int (fun _ _ => rfl)))) pe_int) pe_int) (pv 3)))
 (pss_one (ps_ret (pe_op op_mod (pe_op op_fdiv (pe_op op_mod (pe_op op_mul (pv 4) (pe_op op_add (pe_op op_mod (pv 4) pe_int) (pe_op op_mul pe_int (pe_ix ix_list (pv 0) pe_int (fun _ _ => rfl))))) pe_int) pe_int) (pv 1)))))))), ?_⟩
    have hL : SqL K H p [.int g, .int r, .int m] := .inl (.inl hp)
    refine ⟨.ref p, rfl, p, _, 0, .int g, rfl, rfl, hL, atI_nat (j := 0) rfl, g, 0, rfl, rfl, _, rfl, ite2 (fun e => ?_) (fun e => ?_)⟩
    · refine ⟨.ref p, rfl, p, _, 0, .int g, rfl, rfl, hL, atI_nat (j := 0) rfl, .int n, rfl, g, n, rfl, rfl, hn0, ?_⟩
      refine ⟨.ref p, rfl, p, _, 0, .int g, rfl, rfl, hL, atI_nat (j := 0) rfl, .int n, rfl, g, n, rfl, rfl, wide_div (b := 62) hn0 ?_ (by decide) (by decide), .ref p, rfl, p, _, 0, 0, rfl, rfl, hp, rfl, _, rfl, ?_⟩
      · have : (2 : Nat) ^ 62 = 4611686018427387904 := by decide
        rw [this]
        omega
      · have d0 : 0 ≤ g / n := Int.ediv_nonneg hv.g0 (by omega)
        have d1 : g / n ≤ g := Int.ediv_le_self _ hv.g0
        have n1 := hv.n1
        refine q _ _ but_upd ⟨_, _, _, upd_same, d0, wide_le d0 d1 hv.g1, hv.r0, hv.r1, hv.n0, by omega⟩ (Int.emod_nonneg _ (by omega)) (Int.emod_lt_of_pos _ hn0)
    · have n0 := hv.n0
      have n1 := hv.n1
      have r0 := hv.r0
      have r1 := hv.r1
      have hcap : (c : Int) < 10000000 := by
        have : c < 10000000 := hc
        omega
      refine ⟨.ref p, rfl, p, _, 2, .int m, rfl, rfl, hL, atI_nat (j := 2) rfl, _, _, rfl, rfl, .ref p, rfl, p, _, 2, 2, rfl, rfl, hp, rfl, ?_⟩
      refine ⟨(by show 7 ≤ sizeLine; decide), fun l nl => ?_⟩
      have sl := same_upd (o := .lst [.int 2147483647, .int 2147483629, .int 2147483587, .int 2147483579, .int 2147483563, .int 2147483549, .int 2147483543]) nl
      have hp2 := sl _ _ (upd_same (H := H) (a := p) (o := .lst [.int g, .int r, .int (m + 1)]))
      have hb2 : But p H (upd (upd H p (.lst [.int g, .int r, .int (m + 1)])) l (.lst [.int 2147483647, .int 2147483629, .int 2147483587, .int 2147483579, .int 2147483563, .int 2147483549, .int 2147483543])) := But.trans but_upd (Same.but sl)
      have hl2 : upd (upd H p (.lst [.int g, .int r, .int (m + 1)])) l (.lst [.int 2147483647, .int 2147483629, .int 2147483587, .int 2147483579, .int 2147483563, .int 2147483549, .int 2147483543]) l = some (.lst [.int 2147483647, .int 2147483629, .int 2147483587, .int 2147483579, .int 2147483563, .int 2147483549, .int 2147483543]) := upd_same
      have hL2 : SqL K (upd (upd H p (.lst [.int g, .int r, .int (m + 1)])) l (.lst [.int 2147483647, .int 2147483629, .int 2147483587, .int 2147483579, .int 2147483563, .int 2147483549, .int 2147483543])) p [.int g, .int r, .int (m + 1)] := .inl (.inl hp2)
      obtain ⟨j, ej, j7⟩ : ∃ j : Nat, (m + 1) % 7 = j ∧ j < 7 := ⟨((m + 1) % 7).toNat, by omega, by omega⟩
      obtain ⟨pr, ep, p0, p1⟩ : ∃ pr : Int, ([V.int 2147483647, V.int 2147483629, V.int 2147483587, V.int 2147483579, V.int 2147483563, V.int 2147483549, V.int 2147483543] : List V)[j]? = some (.int pr) ∧ 1 < pr ∧ pr < 2147483648 := by
        match j, j7 with
        | 0, _ => exact ⟨_, rfl, by decide, by decide⟩
        | 1, _ => exact ⟨_, rfl, by decide, by decide⟩
        | 2, _ => exact ⟨_, rfl, by decide, by decide⟩
        | 3, _ => exact ⟨_, rfl, by decide, by decide⟩
        | 4, _ => exact ⟨_, rfl, by decide, by decide⟩
        | 5, _ => exact ⟨_, rfl, by decide, by decide⟩
        | 6, _ => exact ⟨_, rfl, by decide, by decide⟩
      have at2 : atI [V.int g, V.int r, V.int (m + 1)] 2 = some (.int (m + 1)) := atI_nat (j := 2) rfl
      have atp : atI [V.int 2147483647, V.int 2147483629, V.int 2147483587, V.int 2147483579, V.int 2147483563, V.int 2147483549, V.int 2147483543] ((m + 1) % 7) = some (.int pr) := by
        rw [ej]
        exact atI_nat ep
      refine ⟨.ref p, rfl, p, _, 2, .int (m + 1), rfl, rfl, hL2, at2, _, _, rfl, rfl, (by decide : (0 : Int) < 7), l, _, (m + 1) % 7, .int pr, rfl, rfl, .inl (.inl hl2), atp, ?_⟩
      have sq : 0 ≤ 65537 * (m + 1) * (m + 1) ∧ 65537 * (m + 1) * (m + 1) ≤ 6553700000000000000 := by
        have h1 : 65537 * (m + 1) ≤ 65537 * 10000000 := Int.mul_le_mul_of_nonneg_left (by omega) (by decide)
        have h2 : 65537 * (m + 1) * (m + 1) ≤ 65537 * 10000000 * 10000000 := Int.mul_le_mul h1 (by omega) (by omega) (by decide)
        exact ⟨Int.mul_nonneg (by omega) (by omega), h2⟩
      refine ⟨.ref p, rfl, p, _, 1, .int r, rfl, rfl, hL2, atI_nat (j := 1) rfl, .ref p, rfl, p, _, 2, .int (m + 1), rfl, rfl, hL2, at2, _, _, rfl, rfl, .inl ⟨by decide, by decide⟩, .ref p, rfl, p, _, 2, .int (m + 1), rfl, rfl, hL2, at2, _, _, rfl, rfl, .inr ⟨by omega, by omega⟩, _, _, rfl, rfl, _, _, rfl, rfl, _, _, rfl, rfl, ⟨by decide, by decide, ?_⟩, .int pr, rfl, _, _, rfl, rfl, (by omega : (0 : Int) < pr), ?_⟩
      · have : (2 : Nat) ^ 64 = 18446744073709551616 := by decide
        rw [this]
        omega
      generalize (r + 65537 * (m + 1) * (m + 1) + 29) ^ (3 : Int).toNat = y
      have m0 : 0 ≤ y % pr := Int.emod_nonneg _ (by omega)
      have m1 : y % pr < pr := Int.emod_lt_of_pos _ (by omega)
      refine ⟨.int (y % pr), rfl, .int (y % pr), rfl, _, _, rfl, rfl, (by decide : (0 : Int) < 10007), .ref p, rfl, p, _, 2, .int (m + 1), rfl, rfl, hL2, at2, _, _, rfl, rfl, .inl ⟨by decide, by decide⟩, _, _, rfl, rfl, _, _, rfl, rfl, .inl ⟨by omega, by omega⟩, _, _, rfl, rfl, (by decide : (0 : Int) < 2305843009213693907), _, _, rfl, rfl, ⟨by decide, by decide⟩, .int n, rfl, _, _, rfl, rfl, hn0, ?_⟩
      exact q _ _ hb2 ⟨g, r, m + 1, hp2, hv.g0, hv.g1, r0, r1, by omega, by omega⟩ (Int.emod_nonneg _ (by omega)) (Int.emod_lt_of_pos _ hn0)
def spPk (K : PySem.W.Frag) : Sp := fun vs H Q _ => ∃ (p l : Addr) (xs : List V) (c : Nat), vs = [.ref p, .ref l] ∧ Dr c H p ∧ c < drCap ∧ (SqL K H l xs ∨ SqT K H l xs) ∧ l ≠ p ∧ xs ≠ [] ∧ xs.length ≤ 1000 ∧ ∀ H' x, But p H H' → Dr (c + 1) H' p → x ∈ xs → Q x H'
theorem ok_Pk {k : Nat} (Z : Fns K mg) : FnOk P w K mg base CX0 (k + 1 + 1) Z.fPk Z.fdPk ["_law_draws_here", "_law_items"] (spPk K) := by
  have GNx : FnOk P w K mg base CX0 (k + 1) Z.fNx Z.fdNx ["_law_draws_here", "_law_bound"] spNx := ok_Nx Z
  refine Z.FPk.ok scPk (fun vs H Q E h => ?_) (fun cdv A outer s H vs Q E hr h => ?_)
  · obtain ⟨p, l, xs, c, rfl, _⟩ := h
    rfl
  · obtain ⟨p, l, xs, c, rfl, hp, hc, hl, hne, hx, hlen, q⟩ := h
    refine ⟨_, (pss_one (ps_ret (pe_ix ix_any (pv 1) (pe_call GNx (hr.mono (by omega)) (by rfl) Z.gNx Z.FNx.kp Z.bNx .nil pass0 (pa_cons (pv 0) (pa_cons (pe_callB call_len_seq (by rfl) Z.N.len (by decide +kernel) (pa_cons (pv 1) pa_nil)) pa_nil))) (fun _ _ => rfl)))), ?_⟩
    have hx0 : 0 < xs.length := List.length_pos_iff.mpr hx
    refine ⟨.ref l, rfl, .ref p, rfl, .ref l, rfl, l, xs, rfl, hl, p, _, c, rfl, hp, hc, ?_, ?_, fun H' d hb hp' d0 d1 => ?_⟩
    · omega
    · omega
    · obtain ⟨j, rfl⟩ : ∃ j : Nat, d = j := ⟨d.toNat, by omega⟩
      have hd : j < xs.length := by omega
      rcases hl with hl | hl
      · exact .inl ⟨l, xs, j, xs[j], rfl, rfl, hb.seq hne hl, atI_nat (List.getElem?_eq_getElem hd), q _ _ hb hp' (List.getElem_mem hd)⟩
      · exact .inr ⟨l, xs, j, xs[j], rfl, rfl, hb.tup hne hl, atI_nat (List.getElem?_eq_getElem hd), q _ _ hb hp' (List.getElem_mem hd)⟩
def spCc : Sp := fun vs H Q _ => ∃ (p : Addr) (m lg : Int) (c : Nat), vs = [.ref p, .int m, .int lg] ∧ Dr c H p ∧ c + 100 < drCap ∧ 1 ≤ m ∧ m ≤ 1000000000 ∧ 1 ≤ lg ∧ lg ≤ 20 ∧ ∀ H' t s n, But p H H' → Dr (c + 100) H' p → TAt H' t (tl s (n + 1)) → Cn s n m.toNat → ((n + 1 : Nat) : Int) ≤ lg → Q (.ref t) H'
theorem ok_Cc {k : Nat} (Z : Fns K mg) : FnOk P w K mg base CX0 (k + 1 + 1 + 1) Z.fCc Z.fdCc ["_law_draws_here", "_law_most", "_law_longest"] spCc := by
  have GNx : FnOk P w K mg base CX0 (k + 1) Z.fNx Z.fdNx ["_law_draws_here", "_law_bound"] spNx := ok_Nx Z
  have GPk : FnOk P w K mg base CX0 (k + 1 + 1) Z.fPk Z.fdPk ["_law_draws_here", "_law_items"] (spPk K) := ok_Pk Z
  refine Z.FCc.ok scCc (fun vs H Q E h => ?_) (fun cdv A outer s H vs Q E hr h => ?_)
  · obtain ⟨p, m, lg, c, rfl, _⟩ := h
    rfl
  · obtain ⟨p, m, lg, c, rfl, hp, hc, hm1, hm2, hg1, hg2, q⟩ := h
    refine ⟨_, (pss_cons (ps_set (i := 3) scCc.nd rfl (.inl rfl) (pe_lst (pa_cons pe_int pa_nil)))
 (pss_cons (ps_for PassesOwn.never rfl (pi_range1 (by rfl) Z.N.range (pa_cons (pe_op op_sub (pv 2) pe_int) pa_nil)) (pg_name (i := 4) scCc.nd rfl (.inl rfl))
 (pss_cons (ps_set (i := 5) scCc.nd rfl (.inl rfl) (pe_call GPk (hr.mono (by omega)) (by rfl) Z.gPk Z.FPk.kp Z.bPk .nil pass0 (pa_cons (pv 0) (pa_cons (pe_lst (pa_cons pe_int (pa_cons pe_int (pa_cons pe_int (pa_cons pe_int (pa_cons pe_int (pa_cons pe_int (pa_cons (pe_op op_add pe_int (pe_call GNx (hr.mono (by omega)) (by rfl) Z.gNx Z.FNx.kp Z.bNx .nil pass0 (pa_cons (pv 0) (pa_cons pe_int pa_nil)))) pa_nil)))))))) pa_nil))))
 (pss_one (ps_if (PW.pt (pw_and (pt_cmpR op_gt (pv 5) pe_int (nomark _)) (pw_and1 (pt_cmpR op_le (pe_op op_mul (pe_ix ix_list (pv 3) (pe_un un_neg pe_int) (fun _ _ => rfl)) (pv 5)) (pv 1) (nomark _)))))
 (pss_one (ps_expr (pe_bm PySem.F.plainAttrs_list PySem.F.slot_list_append PySem.F.type_list_append mt_append (pv 3) (pa_cons (pe_op op_mul (pe_ix ix_list (pv 3) (pe_un un_neg pe_int) (fun _ _ => rfl)) (pv 5)) pa_nil)))) pss_nil))))
 (pss_one (ps_ret (pe_callTy call_tuple_of (by rfl) Z.N.tuple (by decide +kernel) (pa_cons (pv 3) pa_nil)))))), ?_⟩
    refine ⟨by decide, fun o no => ?_⟩
    have npo : p ≠ o := hp.ne_none no
    have no2 : o ≠ p := npo.symm
    refine ⟨.int lg, rfl, _, _, rfl, rfl, _, rfl, by omega, by omega, ?_⟩
    refine for_range (lo := 0) (n := (lg - 1).toNat) (fun i σ H2 => ∃ y4 y5 ns x, σ = [some (.ref p), some (.int m), some (.int lg), some (.ref o), y4, y5] ∧ Dr (c + 2 * i) H2 p ∧ (∀ b x, b ≠ p → b ≠ o → H b = some x → H2 b = some x) ∧ H2 o = some (.lst (ns.map V.int)) ∧ Gnk m ns x ∧ ns.length ≤ i + 1)
      ⟨none, none, [1], 1, rfl, hp.same (same_upd no), fun b x n1 n2 h => by rw [upd_ne n2]; exact h, upd_same, .one, by simp⟩ ?_ ?_
    · rintro i σ H2 hi ⟨y4, y5, ns, x, rfl, hp2, hB, ho2, hk, hl⟩
      refine ⟨.ref p, rfl, .ref p, rfl, p, 6, _, rfl, hp2, by omega, by decide, by decide, fun H3 e hb3 hp3 e0 e1 => ?_⟩
      refine ⟨_, _, rfl, rfl, (by show 7 ≤ sizeLine; decide), fun l nl => ?_⟩
      have nlp : l ≠ p := (hp3.ne_none nl).symm
      have ho3 : H3 o = some (.lst (ns.map V.int)) := hb3 _ _ no2 ho2
      have nlo : o ≠ l := ne_of_none ho3 nl
      refine ⟨p, l, _, _, rfl, hp3.same (same_upd nl), by omega, .inl (.inl (.inl upd_same)), nlp, List.cons_ne_nil _ _, by simp, fun H4 v hb4 hp4 hv => ?_⟩
      have ho4 : H4 o = some (.lst (ns.map V.int)) := hb4 _ _ no2 (by rw [upd_ne nlo]; exact ho3)
      have hp4' : Dr (c + 2 * (i + 1)) H4 p := hp4.up (by omega)
      have hB4 : ∀ b x, b ≠ p → b ≠ o → H b = some x → H4 b = some x := fun b x n1 n2 h => by
        have h3 := hb3 _ _ n1 (hB b x n1 n2 h)
        exact hb4 _ _ n1 (by rw [upd_ne (ne_of_none h3 nl)]; exact h3)
      obtain ⟨r, rfl, hr2, hr6⟩ : ∃ r : Int, v = .int r ∧ 1 ≤ r ∧ r ≤ 1000 := by
        simp only [List.mem_cons, List.not_mem_nil, or_false] at hv
        rcases hv with h | h | h | h | h | h | h
        · exact ⟨1, h, by decide, by decide⟩
        · exact ⟨2, h, by decide, by decide⟩
        · exact ⟨2, h, by decide, by decide⟩
        · exact ⟨2, h, by decide, by decide⟩
        · exact ⟨3, h, by decide, by decide⟩
        · exact ⟨4, h, by decide, by decide⟩
        · exact ⟨2 + e, h, by omega, by omega⟩
      obtain ⟨ini, rfl⟩ := hk.last
      have hL4 : SqL K H4 o ((ini ++ [x]).map V.int) := .inl (.inl ho4)
      have gl : atI ((ini ++ [x]).map V.int) (-1) = some (.int x) := by
        rw [List.map_append]
        exact atI_last _ _
      have x1 := hk.pos
      have x2 := hk.le hm1
      refine ⟨.int r, rfl, _, _, rfl, rfl, _, rfl, ite2 (fun c0 => ?_) (fun c0 => ?_)⟩
      · have c2 : (1 : Int) < r := of_decide_eq_true c0
        refine ⟨.ref o, rfl, 1, rfl, o, _, -1, _, rfl, rfl, hL4, gl, .int r, rfl, x, r, rfl, rfl, .inl ⟨by omega, by omega⟩, .int m, rfl, _, _, rfl, rfl, _, rfl, ite2 (fun c => ?_) (fun c => ?_)⟩
        · have c1 : x * r ≤ m := of_decide_eq_true c
          refine ⟨.ref o, rfl, .inl ⟨rfl, _, hL4⟩, .ref o, rfl, 1, rfl, o, _, -1, _, rfl, rfl, hL4, gl, .int r, rfl, x, r, rfl, rfl, .inl ⟨by omega, by omega⟩, o, _, _, rfl, rfl, ho4, ?_, ?_⟩
          · rw [List.length_map]
            exact small1000 (by omega)
          · refine ⟨_, _, ini ++ [x] ++ [x * r], x * r, rfl, hp4'.keep npo, ?_, ?_, .step hk (by omega) hr6 c1, ?_⟩
            · intro b z n1 n2 h
              rw [upd_ne n2]
              exact hB4 b z n1 n2 h
            · rw [upd_same, List.map_append (l₂ := [x * r])]
              rfl
            · rw [List.length_append]
              simp
              simp at hl
              omega
        · exact ⟨_, _, _, x, rfl, hp4', hB4, ho4, hk, by omega⟩
      · exact ⟨_, _, _, x, rfl, hp4', hB4, ho4, hk, by omega⟩
    · rintro σ H2 ⟨y4, y5, ns, x, rfl, hp2, hB, ho2, hk, hl⟩
      refine ⟨.ref o, rfl, o, _, rfl, .inl ⟨.inl (.inl ho2), fun t nt => ?_⟩⟩
      obtain ⟨s, n, rfl, _, cn⟩ := hk.cn hm1
      rw [tl_len] at hl
      refine q _ t s n (fun b z n1 h => ?_) ((hp2.up (by omega)).same (same_upd nt)) (.inl upd_same) cn (by omega)
      have h3 := hB b z n1 (ne_of_none h no) h
      rw [upd_ne (ne_of_none h3 nt)]
      exact h3
end
/-! ### the program's bounds -/
theorem tl_atI {s : Nat → Nat} {m i : Nat} (h : i < m) : atI ((tl s m).map V.int) (i : Int) = some (.int (s i)) := atI_nat (tl_getV h)
theorem tl_atL {s : Nat → Nat} {m : Nat} : atI ((tl s (m + 1)).map V.int) (-1) = some (.int (s m)) := by
  rw [tl_succ, List.map_append]
  exact atI_last _ _
section
variable {P : Program} {w : World} {K : PySem.W.Frag} {mg : Str → Option Value} {base : Heap}
def spDu : Sp := fun vs H Q _ => ∃ n d : Int, vs = [.int n, .int d] ∧ 0 < d ∧ d < 1073741824 ∧ Q (.int (-(-n / d))) H
theorem ok_Du {k : Nat} (Z : Fns K mg) : FnOk P w K mg base CX0 (k + 1) Z.fDu Z.fdDu ["number", "divisor"] spDu := by
  refine Z.FDu.ok scDu (fun vs H Q E h => ?_) (fun cdv A outer s H vs Q E hr h => ?_)
  · obtain ⟨n, d, rfl, _⟩ := h
    rfl
  · obtain ⟨n, d, rfl, d0, d1, q⟩ := h
    refine ⟨_, (pss_one (ps_ret (pe_un un_neg (pe_op op_fdiv (pe_un un_neg (pv 0)) (pv 1))))), ?_⟩
    exact ⟨.int n, rfl, n, rfl, .int d, rfl, -n, d, rfl, rfl, ⟨d0, d1⟩, _, rfl, q⟩
def spLw (K : PySem.W.Frag) : Sp := fun vs H Q _ => ∃ (c l : Addr) (s b : Nat → Nat) (m i t : Nat), vs = [.ref c, .ref l, .int t] ∧ SqT K H c ((tl s m).map V.int) ∧ SqL K H l ((tl b i).map V.int) ∧ i ≤ m ∧ 0 < t ∧ t < 1073741824 ∧ (∀ j, j < m → s j < 1073741824) ∧ (∀ j, j + 1 < i → b j ≤ b (j + 1)) ∧
  ∀ H', Same H H' → Q (.int (Lw s b t i)) H'
theorem ok_Lw {k : Nat} (Z : Fns K mg) : FnOk P w K mg base CX0 (k + 1 + 1) Z.fLw Z.fdLw ["chain", "numbers", "size"] (spLw K) := by
  have GDu : FnOk P w K mg base CX0 (k + 1) Z.fDu Z.fdDu ["number", "divisor"] spDu := ok_Du Z
  refine Z.FLw.ok scLw (fun vs H Q E h => ?_) (fun cdv A outer s H vs Q E hr h => ?_)
  · obtain ⟨c, l, s, b, m, i, t, rfl, _⟩ := h
    rfl
  · obtain ⟨c, l, sz, b, m, n, t, rfl, hc, hl, hnm, t0, t1, hs, hb, q⟩ := h
    refine ⟨_, (pss_cons (ps_set (i := 3) scLw.nd rfl (.inl rfl) pe_int)
 (pss_cons (ps_set (i := 4) scLw.nd rfl (.inl rfl) pe_int)
 (pss_cons (ps_for PassesOwn.never rfl (pi_zipK (k1 := true) (k2 := false) (by rfl) Z.N.zip (pa_cons (pv 0) (pa_cons (pv 1) pa_nil))) (pg_tup (by rfl) (pgs_cons (pg_name (i := 5) scLw.nd rfl (.inl rfl)) (pgs_cons (pg_name (i := 6) scLw.nd rfl (.inl rfl)) pgs_nil)))
 (pss_cons (ps_set (i := 7) scLw.nd rfl (.inl rfl) (pe_call GDu (hr.mono (by omega)) (by rfl) Z.gDu Z.FDu.kp Z.bDu .nil pass0 (pa_cons (pv 6) (pa_cons (pv 2) pa_nil))))
 (pss_cons (ps_aug (i := 3) scLw.nd rfl (.inl rfl) (pe_op op_mul (pv 5) (pe_op op_sub (pv 7) (pv 4))) ip_add)
 (pss_one (ps_set (i := 4) scLw.nd rfl (.inl rfl) (pv 7))))))
 (pss_one (ps_ret (pv 3)))))), ?_⟩
    refine ⟨.ref c, rfl, .ref l, rfl, c, l, _, _, rfl, hc, hl, ?_⟩
    refine for_zipK (k1 := true) (k2 := false) (K := K) (a := c) (b := l) (xs := (tl sz m).map V.int) (ys := (tl b n).map V.int) n (by rw [List.length_map, List.length_map, tl_len, tl_len]; omega)
      (fun i σ H2 => ∃ y5 y6 y7, σ = [some (.ref c), some (.ref l), some (.int t), some (.int ((Lw sz b t i : Nat) : Int)), some (.int ((pvn b t i : Nat) : Int)), y5, y6, y7] ∧ Same H H2) ⟨none, none, none, rfl, Same.refl _⟩ ?_ ?_ ?_
    · rintro i σ H2 ⟨_, _, _, _, sm⟩
      exact ⟨sm.tup hc, sm.seq hl⟩
    · rintro i x y T σ H2 hi hx hy ⟨y5, y6, y7, rfl, sm⟩ nT
      rw [tl_getV (by omega)] at hx
      rw [tl_getV hi] at hy
      cases hx
      cases hy
      have h1 := hs i (by omega)
      refine ⟨T, _, rfl, .inl (.inl upd_same), rfl, _, _, rfl, _, _, rfl, rfl, ?_⟩
      refine ⟨.int (b i), rfl, .int t, rfl, b i, t, rfl, by omega, by omega, ?_⟩
      rw [up_cdw t0]
      refine ⟨_, rfl, .int (sz i), rfl, .int (cdw (b i) t : Nat), rfl, .int (pvn b t i : Nat), rfl, _, _, rfl, rfl, _, _, rfl, rfl, .inl ⟨by omega, by omega⟩, _, _, rfl, rfl, .int (cdw (b i) t : Nat), rfl, some (.int (sz i)), some (.int (b i)), some (.int (cdw (b i) t : Nat)), ?_, Same.trans sm (same_upd nT)⟩
      have le : pvn b t i ≤ cdw (b i) t := by
        cases i with
        | zero => exact Nat.zero_le _
        | succ j => exact cdw_mono (hb j (by omega))
      have e : ((Lw sz b t i : Nat) : Int) + (sz i : Int) * (((cdw (b i) t : Nat) : Int) - ((pvn b t i : Nat) : Int)) = ((Lw sz b t (i + 1) : Nat) : Int) := by
        show _ = ((Lw sz b t i + sz i * (cdw (b i) t - pvn b t i) : Nat) : Int)
        rw [Int.natCast_add, Int.natCast_mul, Int.natCast_sub le]
      dsimp only
      rw [e]
      rfl
    · rintro σ H2 ⟨y5, y6, y7, rfl, sm⟩
      exact ⟨_, rfl, q _ sm⟩
def spR : Sp := fun vs H Q _ => ∃ (t : Addr) (l : Int) (bs : List Bk), vs = [.ref t, .int l] ∧ StAt H t bs ∧ bs.length ≤ 5000 ∧ ∀ H', Same H H' → Q (.int (rch l bs)) H'
theorem ok_R {k : Nat} (Z : Fns K mg) : FnOk P w K mg base CX0 (k + 1) Z.fR Z.fdR ["state", "largest"] spR := by
  refine Z.FR.ok scR (fun vs H Q E h => ?_) (fun cdv A outer s H vs Q E hr h => ?_)
  · obtain ⟨t, l, bs, rfl, _⟩ := h
    rfl
  · obtain ⟨t, l, bs, rfl, ⟨xs, ht, bl⟩, hl, q⟩ := h
    have hu2 := u2_of hr
    refine ⟨_, (pss_one (ps_ret (pe_callBK (cr_maxDf rfl hu2) (by rfl) Z.N.max (by decide +kernel) (pa_cons (pe_lc (own := [("address", 2), ("size", 3)]) (g := (gTup K 2 (gCons (gName 2) (gCons (gName 3) gNil)))) (by rfl) scR.nd (pi_tup (pv 0)) (blkOk_by (N := scRN) (sc := defScope scRS) (by decide +kernel)) (fun _ _ _ _ _ => (pg_tup (by rfl) (pgs_cons (pg_name (i := 2) scR.nd rfl (.inl rfl)) (pgs_cons (pg_name (i := 3) scR.nd rfl (.inl rfl)) pgs_nil)))) (fun _ _ _ _ _ => (pts_one (pt_cmpR op_le (pv 3) (pv 1) (nomark _)))) (fun _ _ _ _ _ => (pe_op op_add (pv 2) (pv 3)))) pa_nil) (pk_cons pe_int pk_nil)))), ?_⟩
    refine ⟨.ref t, rfl, t, rfl, ⟨_, .inl (.inl ht)⟩, fun D nD => ?_⟩
    refine lc_tupF (xs := xs) (fun x => if decide ((kH H x).2 ≤ l) = true then some (.int ((kH H x).1 + (kH H x).2)) else none) (.inl (.inl ht)) nD (by rw [bl.len]; exact Nat.lt_of_le_of_lt hl (by decide)) (fun x hx H2 sm Y N hY hN => ?_) (fun H2 sm hD => ?_)
    · obtain ⟨b, hb⟩ := bl.all x hx
      have e := hb.k
      obtain ⟨u, rfl, hu⟩ := hb
      refine ⟨u, _, rfl, .inl (.inl (sm _ _ hu)), rfl, _, _, rfl, _, _, rfl, rfl, rfl, .int b.2, rfl, .int l, rfl, b.2, l, rfl, rfl, _, rfl, ite2 (fun cc => ⟨.int b.1, rfl, .int b.2, rfl, b.1, b.2, rfl, rfl, ?_⟩) (fun cc => ?_)⟩
      · exact hY _ (by dsimp only; rw [e]; exact if_pos cc)
      · exact hN (by dsimp only; rw [e]; exact if_neg cc)
    · have e : xs.filterMap (fun x => if decide ((kH H x).2 ≤ l) = true then some (V.int ((kH H x).1 + (kH H x).2)) else none) = ((bs.filter fun b => decide (b.2 ≤ l)).map fun b => b.1 + b.2).map V.int := by
        rw [← bl.map]
        exact fm_if (fun b => decide (b.2 ≤ l)) (fun b => b.1 + b.2) (kH H) xs
      rw [e] at hD
      exact ⟨D, _, 0, rfl, rfl, .inl (.inl hD), q _ sm⟩
def spRs (K : PySem.W.Frag) : Sp := fun vs H Q _ => ∃ (c t : Addr) (C : List Int) (bs : List Bk), vs = [.ref c, .ref t] ∧ SqT K H c (C.map V.int) ∧ C.length ≤ 1000 ∧ StAt H t bs ∧ bs.length ≤ 5000 ∧ ∀ H' u, Same H H' → H' u = some (.tup ((C.map fun l => rch l bs).map V.int)) → Q (.ref u) H'
theorem ok_Rs {k : Nat} (Z : Fns K mg) : FnOk P w K mg base CX0 (k + 1 + 1) Z.fRs Z.fdRs ["chain", "state"] (spRs K) := by
  have GR : FnOk P w K mg base CX0 (k + 1) Z.fR Z.fdR ["state", "largest"] spR := ok_R Z
  refine Z.FRs.ok scRs (fun vs H Q E h => ?_) (fun cdv A outer s H vs Q E hr h => ?_)
  · obtain ⟨c, t, C, bs, rfl, _⟩ := h
    rfl
  · obtain ⟨c, t, C, bs, rfl, hc, hC, ht, hl, q⟩ := h
    refine ⟨_, (pss_one (ps_ret (pe_callTy call_tuple_of (by rfl) Z.N.tuple (by decide +kernel) (pa_cons (pe_lc (own := [("largest", 2)]) (g := (gName 2)) (tt := tYes) (by rfl) scRs.nd (pi_tup (pv 0)) (blkOk_by (N := scRsN) (sc := defScope scRsS) (by decide +kernel)) (fun _ _ _ _ _ => (pg_name (i := 2) scRs.nd rfl (.inl rfl))) (fun _ _ _ _ _ => pts_nil) (fun _ _ _ _ _ => (pe_call GR (hr.mono (by omega)) (by rfl) Z.gR Z.FR.kp Z.bR .nil pass0 (pa_cons (pv 1) (pa_cons (pv 2) pa_nil))))) pa_nil)))), ?_⟩
    refine ⟨.ref c, rfl, c, rfl, ⟨_, hc⟩, fun D nD => ?_⟩
    refine lc_tupR (xs := C.map V.int) (fun _ x y => y = .int (rch (iV x) bs)) (fun _ _ _ _ _ h => h) hc nD (by rw [List.length_map]; exact Nat.lt_of_le_of_lt hC (by decide)) (fun x hx H2 sm Y hY => ?_) (fun H2 ys sm hD pr => ?_)
    · obtain ⟨z, hz, rfl⟩ := List.mem_map.mp hx
      exact ⟨rfl, .ref t, rfl, .int z, rfl, t, z, bs, rfl, ht.same sm, hl, fun H3 s3 => hY _ _ s3 rfl⟩
    · have e : ys = (C.map fun l => rch l bs).map V.int := by
        rw [paired_fun (f := fun x => V.int (rch (iV x) bs)) (fun a b h => h) pr, List.map_map, List.map_map]
        rfl
      rw [e] at hD
      exact ⟨D, _, rfl, .inl ⟨.inl (.inl hD), fun v nv => q _ v (Same.trans sm (same_upd nv)) upd_same⟩⟩
theorem mx2 (i j : Nat) : (if (j : Int) > (i : Int) then (j : Int) else (i : Int)) = ((max i j : Nat) : Int) := by
  split <;> omega
theorem mx0 (M L : Nat) : (if (M : Int) - (L : Int) > 0 then (M : Int) - (L : Int) else 0) = ((M - L : Nat) : Int) := by
  split <;> omega
def spNf (K : PySem.W.Frag) : Sp := fun vs H Q _ => ∃ (c r : Addr) (s ρ : Nat → Nat) (m M : Nat), vs = [.ref c, .int M, .ref r] ∧ SqT K H c ((tl s m).map V.int) ∧ SqT K H r ((tl ρ m).map V.int) ∧ 1 ≤ m ∧ m ≤ 1000 ∧ (∀ j, j < m → 0 < s j ∧ s j < 1073741824) ∧
  ∀ H' u, Same H H' → H' u = some (.tup ((tl (bfn s ρ M) m).map V.int)) → Q (.ref u) H'
theorem ok_Nf {k : Nat} (Z : Fns K mg) : FnOk P w K mg base CX0 (k + 1 + 1 + 1) Z.fNf Z.fdNf ["chain", "limit", "reached"] (spNf K) := by
  have GDu : FnOk P w K mg base CX0 (k + 1) Z.fDu Z.fdDu ["number", "divisor"] spDu := ok_Du Z
  have GLw : FnOk P w K mg base CX0 (k + 1 + 1) Z.fLw Z.fdLw ["chain", "numbers", "size"] (spLw K) := ok_Lw Z
  refine Z.FNf.ok scNf (fun vs H Q E h => ?_) (fun cdv A outer s H vs Q E hr h => ?_)
  · obtain ⟨c, r, s, ρ, m, M, rfl, _⟩ := h
    rfl
  · obtain ⟨c, r, sz, ρ, m, M, rfl, hc, hrr, m1, m2, hs, q⟩ := h
    refine ⟨_, (pss_cons (ps_set (i := 3) scNf.nd rfl (.inl rfl) (pe_lst (pa_cons (pe_callB (call_max2 rfl) (by rfl) Z.N.max (by decide +kernel) (pa_cons (pv 1) (pa_cons (pe_ix ix_tup (pv 2) pe_int (fun _ _ => rfl)) pa_nil))) pa_nil)))
 (pss_cons (ps_for PassesOwn.never rfl (pi_range2 (by rfl) Z.N.range (pa_cons pe_int (pa_cons (pe_callB call_len_seq (by rfl) Z.N.len (by decide +kernel) (pa_cons (pv 0) pa_nil)) pa_nil))) (pg_name (i := 4) scNf.nd rfl (.inl rfl))
 (pss_cons (ps_set (i := 5) scNf.nd rfl (.inl rfl) (pe_ix ix_tup (pv 0) (pv 4) (fun _ _ => rfl)))
 (pss_cons (ps_set (i := 6) scNf.nd rfl (.inl rfl) (pe_callB (call_max2 rfl) (by rfl) Z.N.max (by decide +kernel) (pa_cons pe_int (pa_cons (pe_op op_sub (pv 1) (pe_call GLw (hr.mono (by omega)) (by rfl) Z.gLw Z.FLw.kp Z.bLw .nil pass0 (pa_cons (pv 0) (pa_cons (pv 3) (pa_cons (pv 5) pa_nil))))) pa_nil))))
 (pss_cons (ps_set (i := 7) scNf.nd rfl (.inl rfl) (pe_op op_add (pe_call GDu (hr.mono (by omega)) (by rfl) Z.gDu Z.FDu.kp Z.bDu .nil pass0 (pa_cons (pe_ix ix_list (pv 3) (pe_un un_neg pe_int) (fun _ _ => rfl)) (pa_cons (pv 5) pa_nil))) (pe_op op_fdiv (pv 6) (pv 5))))
 (pss_one (ps_expr (pe_bm PySem.F.plainAttrs_list PySem.F.slot_list_append PySem.F.type_list_append mt_append (pv 3) (pa_cons (pe_callB (call_max2 rfl) (by rfl) Z.N.max (by decide +kernel) (pa_cons (pe_ix ix_tup (pv 2) (pv 4) (fun _ _ => rfl)) (pa_cons (pe_op op_mul (pv 5) (pv 7)) pa_nil))) pa_nil))))))))
 (pss_one (ps_ret (pe_callTy call_tuple_of (by rfl) Z.N.tuple (by decide +kernel) (pa_cons (pv 3) pa_nil)))))), ?_⟩
    refine ⟨.int M, rfl, .ref r, rfl, r, _, 0, _, rfl, rfl, hrr, tl_atI (i := 0) m1, _, _, rfl, ?_⟩
    rw [mx2]
    refine ⟨(by show 1 ≤ sizeLine; decide), fun D nD => ?_⟩
    have sD := same_upd (o := .lst [.int ((max M (ρ 0) : Nat) : Int)]) nD
    have hcD := sD.tup hc
    refine ⟨.ref c, rfl, c, _, rfl, .inr hcD, ?_⟩
    rw [List.length_map, tl_len]
    refine ⟨1, m, rfl, ⟨by omega, by omega, by omega, by omega⟩, ?_⟩
    rw [show ((m : Int) - 1).toNat = m - 1 by omega]
    refine for_range (lo := 1) (n := m - 1) (fun i σ H2 => ∃ y4 y5 y6 y7, σ = [some (.ref c), some (.int M), some (.ref r), some (.ref D), y4, y5, y6, y7] ∧ (∀ b o, b ≠ D → H b = some o → H2 b = some o) ∧ H2 D = some (.lst ((tl (bfn sz ρ M) (i + 1)).map V.int)))
      ⟨none, none, none, none, rfl, fun b o nb e => sD _ _ e, upd_same⟩ ?_ ?_
    · rintro i σ H2 hi ⟨y4, y5, y6, y7, rfl, kp, hD⟩
      have im : i + 1 < m := by omega
      obtain ⟨s0, s1⟩ := hs (i + 1) im
      have sm0 : Same H H2 := fun b o e => kp b o (ne_of_none e nD) e
      have e1 : (1 : Int) + (i : Int) = ((i + 1 : Nat) : Int) := by omega
      rw [e1]
      refine ⟨.ref c, rfl, .int _, rfl, c, _, _, _, rfl, rfl, sm0.tup hc, tl_atI im, ?_⟩
      refine ⟨.int M, rfl, .ref c, rfl, .ref D, rfl, .int _, rfl, c, D, sz, bfn sz ρ M, m, i + 1, sz (i + 1), rfl, sm0.tup hc, .inl (.inl hD), by omega, s0, s1, fun j hj => (hs j hj).2, fun j hj => bfn_up (hs (j + 1) (by omega)).1, fun H3 s3 => ?_⟩
      have hD3 := s3 _ _ hD
      have sm3 : Same H H3 := sm0.trans s3
      refine ⟨_, _, rfl, rfl, _, _, rfl, ?_⟩
      rw [mx0]
      refine ⟨.ref D, rfl, 1, rfl, D, _, -1, _, rfl, rfl, .inl (.inl hD3), tl_atL, .int _, rfl, _, _, rfl, by omega, by omega, ?_⟩
      rw [up_cdw s0]
      refine ⟨.int _, rfl, .int _, rfl, _, _, rfl, rfl, ⟨by omega, by omega⟩, _, _, rfl, rfl, ?_⟩
      refine ⟨.ref D, rfl, .inl ⟨rfl, _, .inl (.inl hD3)⟩, .ref r, rfl, .int _, rfl, r, _, _, _, rfl, rfl, sm3.tup hrr, tl_atI im, .int _, rfl, .int _, rfl, _, _, rfl, rfl, .inl ⟨by omega, by omega⟩, _, _, rfl, ?_⟩
      have e2 : (sz (i + 1) : Int) * (((cdw (bfn sz ρ M i) (sz (i + 1)) : Nat) : Int) + ((M - Lw sz (bfn sz ρ M) (sz (i + 1)) (i + 1) : Nat) : Int) / (sz (i + 1) : Int)) = ((sz (i + 1) * (cdw (bfn sz ρ M i) (sz (i + 1)) + (M - Lw sz (bfn sz ρ M) (sz (i + 1)) (i + 1)) / sz (i + 1)) : Nat) : Int) := by
        rw [Int.natCast_mul, Int.natCast_add, Int.natCast_ediv]
      rw [e2, mx2, ← bfn_succ]
      refine ⟨D, _, _, rfl, rfl, hD3, ?_, some (.int ((i + 1 : Nat) : Int)), some (.int (sz (i + 1))), some (.int ((M - Lw sz (bfn sz ρ M) (sz (i + 1)) (i + 1) : Nat) : Int)), _, rfl, fun b o nb e => ?_, ?_⟩
      · rw [List.length_map, tl_len]
        exact Nat.lt_of_le_of_lt (show i + 1 ≤ 1000 by omega) (by decide)
      · rw [upd_ne nb]
        exact sm3 _ _ e
      · rw [upd_same, tl_succ _ (i + 1), List.map_append]
        rfl
    · rintro σ H2 ⟨y4, y5, y6, y7, rfl, kp, hD⟩
      have e1 : m - 1 + 1 = m := by omega
      rw [e1] at hD
      refine ⟨.ref D, rfl, D, _, rfl, .inl ⟨.inl (.inl hD), fun v nv => q _ v (fun a o ha => ?_) upd_same⟩⟩
      exact same_upd nv _ _ (kp _ _ (ne_of_none ha nD) ha)
abbrev bb (s : Nat → Nat) (M : Nat) : Nat → Nat := bfn s (fun _ => 0) M
theorem rch_nil (s : Nat → Nat) (m : Nat) : ((tl s m).map fun l => rch l []) = tl (fun _ => 0) m := by
  unfold tl
  rw [List.map_map]
  rfl
def Szs (s : Nat → Nat) (m : Nat) : Prop := 1 ≤ m ∧ m ≤ 1000 ∧ ∀ j, j < m → 0 < s j ∧ s j < 1073741824
def spBo (K : PySem.W.Frag) : Sp := fun vs H Q _ => ∃ (c : Addr) (s : Nat → Nat) (m M : Nat), vs = [.ref c, .int M] ∧ SqT K H c ((tl s m).map V.int) ∧ Szs s m ∧ ∀ H' u, Same H H' → H' u = some (.tup ((tl (bb s M) m).map V.int)) → Q (.ref u) H'
theorem ok_Bo {k : Nat} (Z : Fns K mg) : FnOk P w K mg base CX0 (k + 1 + 1 + 1 + 1) Z.fBo Z.fdBo ["chain", "limit"] (spBo K) := by
  have GRs : FnOk P w K mg base CX0 (k + 1 + 1) Z.fRs Z.fdRs ["chain", "state"] (spRs K) := ok_Rs Z
  have GNf : FnOk P w K mg base CX0 (k + 1 + 1 + 1) Z.fNf Z.fdNf ["chain", "limit", "reached"] (spNf K) := ok_Nf Z
  refine Z.FBo.ok scBo (fun vs H Q E h => ?_) (fun cdv A outer s H vs Q E hr h => ?_)
  · obtain ⟨c, s, m, M, rfl, _⟩ := h
    rfl
  · obtain ⟨c, sz, m, M, rfl, hc, ⟨m1, m2, hs⟩, q⟩ := h
    refine ⟨_, (pss_one (ps_ret (pe_call GNf (hr.mono (by omega)) (by rfl) Z.gNf Z.FNf.kp Z.bNf .nil pass0 (pa_cons (pv 0) (pa_cons (pv 1) (pa_cons (pe_call GRs (hr.mono (by omega)) (by rfl) Z.gRs Z.FRs.kp Z.bRs .nil pass0 (pa_cons (pv 0) (pa_cons (pe_tup pa_nil) pa_nil))) pa_nil)))))), ?_⟩
    refine ⟨.ref c, rfl, .int M, rfl, .ref c, rfl, (by show 0 ≤ sizeLine; decide), fun T nT => ?_⟩
    have sT := same_upd (o := .tup []) nT
    refine ⟨c, T, tl sz m, [], rfl, sT.tup hc, by rw [tl_len]; exact m2, ⟨[], upd_same, .nil⟩, by decide, fun H2 u s2 hu => ?_⟩
    rw [rch_nil] at hu
    have sm : Same H H2 := sT.trans s2
    exact ⟨c, u, sz, fun _ => 0, m, M, rfl, sm.tup hc, .inl (.inl hu), m1, m2, hs, fun H3 v s3 hv => q _ v (sm.trans s3) hv⟩
def spPn (K : PySem.W.Frag) : Sp := fun vs H Q _ => ∃ (c : Addr) (s : Nat → Nat) (p M : Nat), vs = [.ref c, .int M] ∧ SqT K H c ((tl s (p + 1)).map V.int) ∧ Szs s (p + 1) ∧ ∀ H', Same H H' → Q (.int ((bb s M p / s p : Nat) : Int)) H'
theorem ok_Pn {k : Nat} (Z : Fns K mg) : FnOk P w K mg base CX0 (k + 1 + 1 + 1 + 1 + 1) Z.fPn Z.fdPn ["chain", "limit"] (spPn K) := by
  have GBo : FnOk P w K mg base CX0 (k + 1 + 1 + 1 + 1) Z.fBo Z.fdBo ["chain", "limit"] (spBo K) := ok_Bo Z
  refine Z.FPn.ok scPn (fun vs H Q E h => ?_) (fun cdv A outer s H vs Q E hr h => ?_)
  · obtain ⟨c, s, m, M, rfl, _⟩ := h
    rfl
  · obtain ⟨c, sz, p, M, rfl, hc, hs, q⟩ := h
    refine ⟨_, (pss_one (ps_ret (pe_op op_fdiv (pe_ix ix_tup (pe_call GBo (hr.mono (by omega)) (by rfl) Z.gBo Z.FBo.kp Z.bBo .nil pass0 (pa_cons (pv 0) (pa_cons (pv 1) pa_nil))) (pe_un un_neg pe_int) (fun _ _ => rfl)) (pe_ix ix_tup (pv 0) (pe_un un_neg pe_int) (fun _ _ => rfl))))), ?_⟩
    obtain ⟨s0, s1⟩ := hs.2.2 p (by omega)
    refine ⟨.ref c, rfl, .int M, rfl, c, sz, p + 1, M, rfl, hc, hs, fun H2 u s2 hu => ?_⟩
    refine ⟨1, rfl, u, _, -1, _, rfl, rfl, .inl (.inl hu), tl_atL, .ref c, rfl, 1, rfl, c, _, -1, _, rfl, rfl, s2.tup hc, tl_atL, _, _, rfl, rfl, ⟨by omega, by omega⟩, ?_⟩
    have e : ((bb sz M p / sz p : Nat) : Int) = (bb sz M p : Int) / (sz p : Int) := Int.natCast_ediv _ _
    have := q _ s2
    rw [e] at this
    exact this
def cpl (s : Nat → Nat) (p M : Nat) : List Int := ((tl s (p + 1)).filter fun x => decide (x ≤ (M : Int))).map fun x => 1 + ((M : Int) - x) / ((s p : Int) / x)
end
end Ph

set_option maxHeartbeats 8000000
namespace Ph
open PySem PySem.Spec PyProof.Rows L2
section
variable {P : Program} {w : World} {K : PySem.W.Frag} {mg : Str → Option Value} {base : Heap}
def tot (bs : List Bk) : Int := (bs.map fun b => b.2).sum
def spTo : Sp := fun vs H Q _ => ∃ (t : Addr) (bs : List Bk), vs = [.ref t] ∧ StAt H t bs ∧ bs.length ≤ 5000 ∧ ∀ H', Same H H' → Q (.int (tot bs)) H'
theorem ok_To {k : Nat} (Z : Fns K mg) : FnOk P w K mg base CX0 (k + 1) Z.fTo Z.fdTo ["_law_blocks"] spTo := by
  refine Z.FTo.ok scTo (fun vs H Q E h => ?_) (fun cdv A outer s H vs Q E hr h => ?_)
  · obtain ⟨t, bs, rfl, _⟩ := h
    rfl
  · obtain ⟨t, bs, rfl, ⟨xs, ht, bl⟩, hl, q⟩ := h
    refine ⟨_, (pss_one (ps_ret (pe_callB (cr_sum rfl) (by rfl) Z.N.sum (by decide +kernel) (pa_cons (pe_lc (own := [("_law_address", 1), ("_law_size", 2)]) (g := (gTup K 2 (gCons (gName 1) (gCons (gName 2) gNil)))) (tt := tYes) (by rfl) scTo.nd (pi_tup (pv 0)) (blkOk_by (N := scToN) (sc := defScope scToS) (by decide +kernel)) (fun _ _ _ _ _ => (pg_tup (by rfl) (pgs_cons (pg_name (i := 1) scTo.nd rfl (.inl rfl)) (pgs_cons (pg_name (i := 2) scTo.nd rfl (.inl rfl)) pgs_nil)))) (fun _ _ _ _ _ => pts_nil) (fun _ _ _ _ _ => (pv 2))) pa_nil)))), ?_⟩
    refine ⟨.ref t, rfl, t, rfl, ⟨_, .inl (.inl ht)⟩, fun D nD => ?_⟩
    refine lc_tpF (K := K) (fun x => V.int (kH H x).2) (.inl (.inl ht)) nD (by rw [bl.len]; exact Nat.lt_of_le_of_lt hl (by decide)) (fun x hx H2 sm Y hY => ?_) (fun H2 sm hD => ?_)
    · obtain ⟨b, hb⟩ := bl.all x hx
      have e := hb.k
      obtain ⟨u, rfl, hu⟩ := hb
      rw [e] at hY
      exact ⟨u, _, rfl, .inl (.inl (sm _ _ hu)), rfl, _, _, rfl, _, _, rfl, rfl, rfl, .int b.2, rfl, hY _ (Same.refl _)⟩
    · refine ⟨D, bs.map fun (b : Bk) => b.2, rfl, .inl (.inl ?_), q _ sm⟩
      rw [hD, ← bl.map, List.map_map, List.map_map]
      rfl
end
section
variable {P : Program} {w : World} {K : PySem.W.Frag} {mg : Str → Option Value} {base : Heap}
def spTh : Sp := fun vs H Q _ => ∃ (t : Addr) (z r n : Nat) (f : Nat → Nat), vs = [.ref t, .int ((z * r : Nat) : Int)] ∧ StAt H t (bkl z f n) ∧ 0 < z ∧ 0 < r ∧ z * r < 1073741824 ∧ n ≤ 5000 ∧ (∀ a b, a ≤ b → f a ≤ f b) ∧ ∀ H' u, Same H H' → StAt H' u (bkl (z * r) (fun k => f (k * r)) (cdw n r)) → Q (.ref u) H'
theorem ok_Th {k : Nat} (Z : Fns K mg) : FnOk P w K mg base CX0 (k + 1) Z.fTh Z.fdTh ["_law_blocks", "_law_size"] spTh := by
  refine Z.FTh.ok scTh (fun vs H Q E h => ?_) (fun cdv A outer s H vs Q E hr h => ?_)
  · obtain ⟨t, z, r, n, f, rfl, _⟩ := h
    rfl
  · obtain ⟨t, z, r, n, f, rfl, ⟨xs, ht, bl⟩, z0, r0, zr, hn, mono, q⟩ := h
    refine ⟨_, (pss_cons (ps_set (i := 2) scTh.nd rfl (.inl rfl) pe_dnewK)
 (pss_cons (ps_for PassesOwn.never rfl (pi_tup (pv 0)) (pg_tup (by rfl) (pgs_cons (pg_name (i := 3) scTh.nd rfl (.inl rfl)) (pgs_cons (pg_name (i := 4) scTh.nd rfl (.inl rfl)) pgs_nil)))
 (pss_cons (ps_set (i := 5) scTh.nd rfl (.inl rfl) (pe_op op_mul (pe_op op_fdiv (pv 3) (pv 1)) (pv 1)))
 (pss_one (ps_if (PW.pt (pw_or (pt_cmp ((pc_dnotin (hu_of hr)) (pv 5) (pv 2))) (pw_or1 (pt_cmpR op_lt (pv 4) (pe_ix ix_tup (pe_dget (hu_of hr) (pv 2) (pv 5) (fun _ _ => rfl)) pe_int (fun _ _ => rfl)) (nomark _)))))
 (pss_one (ps_asg (pe_tup (pa_cons (pv 3) (pa_cons (pv 4) pa_nil))) (pg_sub (pv 2) (pv 5) (set_dict (hu_of hr))))) pss_nil))))
 (pss_one (ps_ret (pe_callTy call_tuple_of (by rfl) Z.N.tuple (by decide +kernel) (pa_cons (pe_callB cr_sortedPO (by rfl) Z.N.sorted (by decide +kernel) (pa_cons (pe_lstVals rfl (by rfl) Z.N.list (pv 2)) pa_nil)) pa_nil)))))), ?_⟩
    have zr0 : 0 < z * r := Nat.mul_pos z0 r0
    have xl : xs.length = n := by rw [bl.len, bkl_len]
    refine fun d nd => ?_
    have sd := same_upd (o := .dK []) nd
    refine ⟨.ref t, rfl, t, rfl, ⟨_, .inl (.inl (sd _ _ ht))⟩, ?_⟩
    refine for_it (walk_tup (K := K) (a := t) (xs := xs)) (fun j σ H2 => ∃ y3 y4 y5 ys, σ = [some (.ref t), some (.int ((z * r : Nat) : Int)), some (.ref d), y3, y4, y5] ∧ Same H H2 ∧ H2 d = some (.dK (ent 1 (bkl (z * r) (fun k => f (k * r)) (cdw j r)) ys)) ∧ BL H2 ys (bkl (z * r) (fun k => f (k * r)) (cdw j r)))
      ⟨none, none, none, [], rfl, sd, ?_, ?_⟩ (fun j σ H2 _ p => ?_) ?_ ?_
    · have : cdw 0 r = 0 := by unfold cdw; exact Nat.div_eq_of_lt (by omega)
      rw [this]
      exact upd_same
    · have : cdw 0 r = 0 := by unfold cdw; exact Nat.div_eq_of_lt (by omega)
      rw [this]
      exact .nil
    · obtain ⟨_, _, _, _, _, sm, _⟩ := p
      exact .inl (.inl (sm _ _ ht))
    · rintro j x σ H0 H2 hj ⟨y3, y4, y5, ys, rfl, sm, hd, blE⟩ ⟨rfl, hx⟩
      rw [xl] at hj
      obtain ⟨b, hb, u, rfl, hu⟩ := BL.get (BL.kp bl fun v zs e => sm _ _ e) hx
      rw [bkl_get hj] at hb
      cases hb
      have hlE := blE.len
      have key : ((j * z : Nat) : Int) / ((z * r : Nat) : Int) * ((z * r : Nat) : Int) = (((j / r) * (z * r) : Nat) : Int) := by
        rw [← Int.natCast_ediv, ← Int.natCast_mul]
        congr 2
        rw [Nat.mul_comm j z, Nat.mul_div_mul_left _ _ z0]
      have fits : (ent 1 (bkl (z * r) (fun k => f (k * r)) (cdw j r)) ys).length < sizeLine := by
        have h1 := ent_len 1 (bkl (z * r) (fun k => f (k * r)) (cdw j r)) ys
        rw [bkl_len] at h1
        have h2 : cdw j r ≤ j := by
          unfold cdw
          exact Nat.le_trans (Nat.div_le_div_right (show j + r - 1 ≤ j * r + r - 1 by have : j ≤ j * r := Nat.le_mul_of_pos_right j r0; omega)) (by
            have : j * r + r - 1 = (r - 1) + r * j := by rw [Nat.mul_comm]; omega
            rw [this, Nat.add_mul_div_left _ _ r0, Nat.div_eq_of_lt (by omega)]
            omega)
        exact Nat.lt_of_le_of_lt (show _ ≤ 5000 by omega) (by decide)
      refine ⟨u, _, rfl, .inl (.inl hu), rfl, _, _, rfl, _, _, rfl, rfl, ?_⟩
      refine ⟨.int _, rfl, .int _, rfl, _, _, rfl, rfl, ⟨by omega, by omega⟩, .int _, rfl, _, _, rfl, rfl, .inr ⟨by omega, by omega⟩, ?_⟩
      dsimp only
      rw [key]
      refine ⟨.int _, rfl, .ref d, rfl, d, _, rfl, DGet.k (k := Sum.inl (((j / r) * (z * r) : Nat) : Int)) hd, ?_⟩
      rcases cdw_step (j := j) r0 with ⟨c0, c1, c2⟩ | ⟨c0, c1, c2⟩
      · have hn : valV (ent 1 (bkl (z * r) (fun k => f (k * r)) (cdw j r)) ys) (Sum.inl (((j / r) * (z * r) : Nat) : Int)) = none := by
          refine ent_none _ _ _ _ fun b hb => ?_
          obtain ⟨k, hk, rfl⟩ := bkl_mem.mp hb
          rw [Int.ediv_one]
          have : k * (z * r) < j / r * (z * r) := Nat.mul_lt_mul_of_pos_right (by omega) zr0
          dsimp only
          omega
        rw [hn]
        refine ⟨_, rfl, iteT ?_⟩
        refine ⟨.int _, rfl, .int _, rfl, (by show 2 ≤ sizeLine; decide), fun p np => ?_⟩
        have sp := same_upd (o := .tup [.int ((j * z : Nat) : Int), .int ((f j : Nat) : Int)]) np
        have hd3 := sp _ _ hd
        refine ⟨.ref d, rfl, .int _, rfl, d, _, rfl, DPut.k (k := Sum.inl (((j / r) * (z * r) : Nat) : Int)) hd3 fits, ?_⟩
        have ej : j = j / r * r := by
          have := Nat.div_add_mod j r
          rw [c0, Nat.mul_comm] at this
          omega
        have e1 : bkl (z * r) (fun k => f (k * r)) (cdw (j + 1) r) = bkl (z * r) (fun k => f (k * r)) (cdw j r) ++ [(((j * z : Nat) : Int), ((f j : Nat) : Int))] := by
          rw [c2, c1, bkl_succ]
          congr 2
          rw [← ej]
          have : j / r * (z * r) = j * z := by
            rw [Nat.mul_comm z r, ← Nat.mul_assoc, ← ej]
          rw [this]
        refine ⟨_, _, _, ys ++ [.ref p], rfl, fun b o e => ?_, ?_, ?_⟩
        · rw [upd_ne (ne_of_none e nd)]
          exact sp _ _ (sm _ _ e)
        · rw [upd_same, putK_new _ hn, e1, ent_snoc _ _ _ _ _ hlE.symm, Int.ediv_one]
          congr 4
          have : j / r * (z * r) = j * z := by
            rw [Nat.mul_comm z r, ← Nat.mul_assoc, ← ej]
          rw [this]
        · rw [e1]
          have kp : ∀ o, KpT (upd H2 p (.tup [.int ((j * z : Nat) : Int), .int ((f j : Nat) : Int)])) (upd (upd H2 p (.tup [.int ((j * z : Nat) : Int), .int ((f j : Nat) : Int)])) d (.dK o)) := fun o v us e => by
            rw [upd_ne (ne_of e hd3 (by intro z; cases z))]
            exact e
          exact BL.app (BL.kp blE fun v us e => kp _ v us (sp _ _ e)) (.cons ⟨p, rfl, kp _ _ _ upd_same⟩ .nil)
      · rw [c1, bkl_succ] at hd blE
        obtain ⟨ys0, y, rfl, bl0, v, rfl, hv⟩ := BL.snoc_inv blE
        have hn : valV (ent 1 (bkl (z * r) (fun k => f (k * r)) (j / r)) ys0) (Sum.inl (((j / r) * (z * r) : Nat) : Int)) = none := by
          refine ent_none _ _ _ _ fun b hb => ?_
          obtain ⟨k, hk, rfl⟩ := bkl_mem.mp hb
          rw [Int.ediv_one]
          have : k * (z * r) < j / r * (z * r) := Nat.mul_lt_mul_of_pos_right hk zr0
          dsimp only
          omega
        have hs : valV (ent 1 (bkl (z * r) (fun k => f (k * r)) (cdw j r)) (ys0 ++ [.ref v])) (Sum.inl (((j / r) * (z * r) : Nat) : Int)) = some (.ref v) := by
          rw [c1, bkl_succ, ent_snoc _ _ _ _ _ bl0.len.symm, Int.ediv_one, valV_snoc _ _ _ _ hn, if_pos rfl]
        rw [hs]
        refine ⟨_, rfl, iteF ?_⟩
        have le : f (j / r * r) ≤ f j := mono _ _ (Nat.div_mul_le_self _ _)
        refine ⟨.int _, rfl, .ref d, rfl, .int _, rfl, d, .ref v, rfl, ?_, v, _, 1, _, rfl, rfl, .inl (.inl hv), atI_nat (j := 1) rfl, _, _, rfl, rfl, _, rfl, ite2 (fun c => absurd (of_decide_eq_true c) (by omega)) (fun _ => ?_)⟩
        · have hd' : H2 d = some (.dK (ent 1 (bkl (z * r) (fun k => f (k * r)) (cdw j r)) (ys0 ++ [.ref v]))) := by rw [c1, bkl_succ]; exact hd
          have := DGet.k (k := Sum.inl (((j / r) * (z * r) : Nat) : Int)) hd'
          rw [hs] at this
          exact this
        · refine ⟨_, _, _, ys0 ++ [.ref v], rfl, sm, ?_, ?_⟩
          · rw [c2, bkl_succ]
            exact hd
          · rw [c2, bkl_succ]
            exact blE
    · rintro σ H2 ⟨y3, y4, y5, ys, rfl, sm, hd, blE⟩
      rw [xl] at hd blE
      refine ⟨.ref d, rfl, d, _, rfl, hd, fun l nl => ?_⟩
      rw [ent_snd _ _ _ blE.len.symm]
      have sl := same_upd (o := .lst ys) nl
      have hl1 : upd H2 l (.lst ys) l = some (.lst ys) := upd_same
      have bl3 := BL.kp blE fun v us e => sl _ _ e
      generalize upd H2 l (.lst ys) = H3 at *
      refine ⟨l, ys, kH H3, rfl, .inl (.inl hl1), fun x hx => ?_, fun zs p srt stb np => ?_⟩
      · obtain ⟨b, hb⟩ := bl3.all x hx
        rw [hb.k]
        exact hb
      · have pm : zs.Perm ys := stb.perm
        have ally : ∀ x ∈ zs, ∃ b, BkAt H3 x b := fun x hx => bl3.all x (pm.mem_iff.mp hx)
        have e : zs.map (kH H3) = bkl (z * r) (fun k => f (k * r)) (cdw n r) := by
          refine perm_lex ?_ ?_ (bkl_sorted zr0 _ _)
          · rw [← bl3.map]
            exact pm.map _
          · exact List.pairwise_map.mpr srt
        have blz := BL.of ally
        rw [e] at blz
        have sp := same_upd (o := .lst zs) np
        refine ⟨p, zs, rfl, .inl ⟨.inl (.inl upd_same), fun u nu => ?_⟩⟩
        have su := same_upd (o := .tup zs) nu
        exact q _ u (sm.trans (sl.trans (sp.trans su))) ⟨zs, upd_same, BL.kp blz fun v us e => su _ _ (sp _ _ e)⟩
end
end Ph

set_option maxHeartbeats 8000000
namespace Ph
open PySem PySem.Spec PyProof.Rows L2
theorem cdw_scale {n r t : Nat} (ht : 0 < t) (hr : 0 < r) : cdw n r = cdw (n * t) (t * r) := by
  have key : ∀ k, k < cdw n r ↔ k < cdw (n * t) (t * r) := fun k => by
    rw [lt_cdw hr, lt_cdw (Nat.mul_pos ht hr)]
    have e : k * (t * r) = k * r * t := by rw [Nat.mul_comm t r, Nat.mul_assoc]
    rw [e]
    exact ⟨fun h => Nat.mul_lt_mul_of_pos_right h ht, fun h => Nat.lt_of_mul_lt_mul_right h⟩
  rcases Nat.lt_trichotomy (cdw n r) (cdw (n * t) (t * r)) with h | h | h
  · exact absurd ((key _).mpr h) (Nat.lt_irrefl _)
  · exact h
  · exact absurd ((key _).mp h) (Nat.lt_irrefl _)
theorem tot_bkl (t : Nat) (f : Nat → Nat) (n : Nat) : tot (bkl t f n) = ((sm f n : Nat) : Int) := by
  unfold tot bkl
  rw [List.map_map]
  exact sum_tl f n
section
variable {s b : Nat → Nat} {m M : Nat}
theorem cls_same {i x : Nat} (h : x < b i) : cls b (i + 1) x = cls b i x := by
  show (if cls b i x < i then cls b i x else if x < b i then i else i + 1) = cls b i x
  by_cases h1 : cls b i x < i
  · rw [if_pos h1]
  · rw [if_neg h1, if_pos h]
    have := cls_le b i x
    omega
theorem cls_new {i x : Nat} (up : ∀ j, j ≤ i → b j ≤ b i) (h : b i ≤ x) : cls b (i + 1) x = i + 1 :=
  cls_eq (Nat.le_refl _) (fun j hj => Nat.le_trans (up j (by omega)) h) (fun h => absurd h (by omega))
/-- the blocks behind phase i -/
abbrev blks (s b : Nat → Nat) (i : Nat) : List Bk := bkl (s i) (fun k => s (cls b i (k * s i))) (b i / s i)
theorem blks_mono (c : CH s m) {i : Nat} (hi : i < m) (t : Nat) : ∀ x y, x ≤ y → s (cls b i (x * t)) ≤ s (cls b i (y * t)) := fun x y h =>
  c.mono (cls_up (Nat.mul_le_mul_right t h)) (Nat.lt_of_le_of_lt (cls_le _ _ _) hi)
theorem thin_eq (c : CH s m) (B : BD s b m M) {i r : Nat} (hi : i + 1 < m) (hr : 1 ≤ r) (er : s (i + 1) = s i * r) :
    bkl (s i * r) (fun k => (fun k => s (cls b i (k * s i))) (k * r)) (cdw (b i / s i) r) = bkl (s (i + 1)) (fun k => s (cls b (i + 1) (k * s (i + 1)))) (cdw (b i) (s (i + 1))) := by
  have p := c.pos (i := i) (by omega)
  have p1 := c.pos (i := i + 1) hi
  have e1 : cdw (b i / s i) r = cdw (b i) (s (i + 1)) := by rw [cdw_scale p hr, B.num c (by omega), er]
  rw [e1, ← er]
  refine bkl_congr fun k hk => ?_
  have e2 : k * r * s i = k * s (i + 1) := by rw [er, Nat.mul_assoc, Nat.mul_comm r]
  show s (cls b i (k * r * s i)) = s (cls b (i + 1) (k * s (i + 1)))
  rw [e2, cls_same ((lt_cdw p1).mp hk)]
theorem thin_tot (c : CH s m) (B : BD s b m M) {i : Nat} (hi : i + 1 < m) : sm (fun k => s (cls b (i + 1) (k * s (i + 1)))) (cdw (b i) (s (i + 1))) = Lw s b (s (i + 1)) (i + 1) :=
  (B.ss_lw c hi).symm
theorem grow_eq (c : CH s m) (B : BD s b m M) {i : Nat} (hi : i + 1 < m) : b (i + 1) / s (i + 1) = cdw (b i) (s (i + 1)) + (M - Lw s b (s (i + 1)) (i + 1)) / s (i + 1) := by
  have p1 := c.pos (i := i + 1) hi
  rw [B.bs i hi, Nat.mul_div_cancel_left _ p1]
theorem grow_cls (c : CH s m) (B : BD s b m M) {i k : Nat} (hi : i + 1 < m) (h : cdw (b i) (s (i + 1)) ≤ k) : cls b (i + 1) (k * s (i + 1)) = i + 1 := by
  have p1 := c.pos (i := i + 1) hi
  refine cls_new (fun j hj => B.mono c hj (by omega)) ?_
  have := le_cdw (x := b i) p1
  exact Nat.le_trans this (Nat.mul_le_mul_right _ h)
end
section
variable {P : Program} {w : World} {K : PySem.W.Frag} {mg : Str → Option Value} {base : Heap}
def spFa (K : PySem.W.Frag) : Sp := fun vs H Q _ => ∃ (c t : Addr) (s : Nat → Nat) (p M i : Nat), vs = [.ref c, .int M, .int ((i + 1 : Nat) : Int), .ref t] ∧ SqT K H c ((tl s (p + 1)).map V.int) ∧ Szs s (p + 1) ∧ CH s (p + 1) ∧ i + 1 ≤ p ∧ M ≤ 5000 ∧ bb s M (i + 1) ≤ 5000 ∧ StAt H t (blks s (bb s M) i) ∧ ∀ H' u, Same H H' → StAt H' u (blks s (bb s M) (i + 1)) → Q (.ref u) H'
theorem ok_Fa {k : Nat} (Z : Fns K mg) : FnOk P w K mg base CX0 (k + 1 + 1) Z.fFa Z.fdFa ["_law_chain_here", "_law_limit", "_law_index", "_law_blocks"] (spFa K) := by
  have GTh : FnOk P w K mg base CX0 (k + 1) Z.fTh Z.fdTh ["_law_blocks", "_law_size"] spTh := ok_Th Z
  have GTo : FnOk P w K mg base CX0 (k + 1) Z.fTo Z.fdTo ["_law_blocks"] spTo := ok_To Z
  refine Z.FFa.ok scFa (fun vs H Q E h => ?_) (fun cdv A outer s H vs Q E hr h => ?_)
  · obtain ⟨c, t, s, p, M, i, rfl, _⟩ := h
    rfl
  · obtain ⟨c, t, sz, p, M, i, rfl, hc, szs, ch, hi, hM, hb, st, q⟩ := h
    refine ⟨_, (pss_cons (ps_set (i := 4) scFa.nd rfl (.inr rfl) (pe_ix ix_tup (pv 0) (pv 2) (fun _ _ => rfl)))
 (pss_cons (ps_set (i := 3) scFa.nd rfl (.inl rfl) (pe_call GTh (hr.mono (by omega)) (by rfl) Z.gTh Z.FTh.kp Z.bTh .nil pass0 (pa_cons (pv 3) (pa_cons (pv 4) pa_nil))))
 (pss_cons (ps_set (i := 5) scFa.nd rfl (.inl rfl) (pe_callB (cr_max rfl) (by rfl) Z.N.max (by decide +kernel) (pa_cons (pe_op op_cat (pe_lst (pa_cons pe_int pa_nil)) (pe_lc (own := [("_law_address", 7), ("_law_length", 8)]) (g := (gTup K 2 (gCons (gName 7) (gCons (gName 8) gNil)))) (tt := tYes) (by rfl) scFa.nd (pi_tup (pv 3)) (blkOk_by (N := scFaN) (sc := defScope scFaS) (by decide +kernel)) (fun _ _ _ _ _ => (pg_tup (by rfl) (pgs_cons (pg_name (i := 7) scFa.nd rfl (.inl rfl)) (pgs_cons (pg_name (i := 8) scFa.nd rfl (.inl rfl)) pgs_nil)))) (fun _ _ _ _ _ => pts_nil) (fun _ _ _ _ _ => (pe_op op_add (pe_op op_mul (pe_op op_fdiv (pv 7) (pv 4)) (pv 4)) (pv 4))))) pa_nil)))
 (pss_cons (ps_for PassesOwn.never rfl (pi_range1 (by rfl) Z.N.range (pa_cons (pe_op op_fdiv (pe_op op_sub (pv 1) (pe_call GTo (hr.mono (by omega)) (by rfl) Z.gTo Z.FTo.kp Z.bTo .nil pass0 (pa_cons (pv 3) pa_nil))) (pv 4)) pa_nil)) (pg_name (i := 6) scFa.nd rfl (.inl rfl))
 (pss_one (ps_set (i := 3) scFa.nd rfl (.inl rfl) (pe_op op_catA (pv 3) (pe_tup (pa_cons (pe_tup (pa_cons (pe_op op_add (pv 5) (pe_op op_mul (pv 6) (pv 4))) (pa_cons (pv 4) pa_nil))) pa_nil))))))
 (pss_one (ps_ret (pv 3))))))), ?_⟩
    have B : BD sz (bb sz M) (p + 1) M := bd_bfn sz (p + 1) M
    obtain ⟨r, hr1, er⟩ := ch.dv i (by omega)
    obtain ⟨z0, z1⟩ := szs.2.2 i (by omega)
    obtain ⟨S0, S1⟩ := szs.2.2 (i + 1) (by omega)
    have bi : bb sz M i ≤ 5000 := Nat.le_trans (B.up ch (by omega)) hb
    have bi2 : bb sz M i / sz i ≤ 5000 := Nat.le_trans (Nat.div_le_self _ _) bi
    have bi3 : bb sz M (i + 1) / sz (i + 1) ≤ 5000 := Nat.le_trans (Nat.div_le_self _ _) hb
    refine ⟨.ref c, rfl, .int _, rfl, c, _, ((i + 1 : Nat) : Int), _, rfl, rfl, hc, tl_atI (by omega), ?_⟩
    refine ⟨.ref t, rfl, .int _, rfl, t, sz i, r, bb sz M i / sz i, fun k => sz (cls (bb sz M) i (k * sz i)), by rw [er]; rfl, st, z0, hr1, by rw [← er]; exact S1, bi2, blks_mono ch (by omega) _, fun H1 u s1 st1 => ?_⟩
    rw [thin_eq ch B (by omega) hr1 er] at st1
    obtain ⟨xs, hu, bl⟩ := id st1
    have kl := (B.key ch (i := i + 1) (by omega)).2.2
    have ge := grow_eq ch B (i := i) (by omega)
    have tt := thin_tot ch B (i := i) (by omega)
    have gc := fun {k : Nat} (h : cdw (bb sz M i) (sz (i + 1)) ≤ k) => grow_cls ch B (i := i) (k := k) (by omega) h
    generalize hN : cdw (bb sz M i) (sz (i + 1)) = N at *
    obtain ⟨R, hR0⟩ : ∃ R, (M - Lw sz (bb sz M) (sz (i + 1)) (i + 1)) / sz (i + 1) = R := ⟨_, rfl⟩
    rw [hR0] at ge
    have nr : N + R ≤ 5000 := by rw [← ge]; exact bi3
    have hN5 : N ≤ 5000 := Nat.le_trans (Nat.le_add_right _ _) nr
    have xl : xs.length = N := by rw [bl.len, bkl_len]
    refine ⟨(by show 1 ≤ sizeLine; decide), fun L1 nL1 => ?_⟩
    have sL1 := same_upd (o := .lst [.int 0]) nL1
    have hL1 : upd H1 L1 (.lst [.int 0]) L1 = some (.lst [.int 0]) := upd_same
    generalize upd H1 L1 (.lst [.int 0]) = H2 at *
    refine ⟨.ref u, rfl, u, rfl, ⟨_, .inl (.inl (sL1 _ _ hu))⟩, fun E2 nE => ?_⟩
    refine lc_R (walk_tup (K := K) (a := u) (xs := xs)) (fun _ _ _ _ y => YAt.same y) (fun _ k y => y = .int (((k + 1) * sz (i + 1) : Nat) : Int)) (fun _ _ _ _ _ h => h) nE (by rw [xl]; exact Nat.lt_of_le_of_lt hN5 (by decide)) (fun H4 s4 => .inl (.inl (s4 _ _ (sL1 _ _ hu)))) (fun k x H4 H5 hk s4 y Z hZ => ?_) (fun H4 zs s4 hE pr => ?_)
    · obtain ⟨rfl, hx⟩ := y
      obtain ⟨b, hb2, v, rfl, hv⟩ := BL.get (BL.kp bl fun v zs e => s4 _ _ (sL1 _ _ e)) hx
      rw [bkl_get (by omega)] at hb2
      cases hb2
      refine ⟨v, _, rfl, .inl (.inl hv), rfl, _, _, rfl, _, _, rfl, rfl, rfl, ?_⟩
      refine ⟨.int _, rfl, .int _, rfl, _, _, rfl, rfl, ⟨by omega, by omega⟩, .int _, rfl, _, _, rfl, rfl, .inr ⟨by omega, by omega⟩, .int _, rfl, _, _, rfl, rfl, hZ _ _ (Same.refl _) ?_⟩
      show V.int (((k * sz (i + 1) : Nat) : Int) / ((sz (i + 1) : Nat) : Int) * ((sz (i + 1) : Nat) : Int) + ((sz (i + 1) : Nat) : Int)) = _
      rw [← Int.natCast_ediv, Nat.mul_div_cancel _ S0, ← Int.natCast_mul, ← Int.natCast_add, Nat.add_mul, Nat.one_mul]
    · have ez := paired_eq pr
      rw [xl] at ez
      have zl : zs.length = N := by rw [ez, List.length_map, List.length_range]
      refine ⟨L1, E2, _, _, rfl, rfl, s4 _ _ hL1, hE, ?_, fun L3 nL3 => ?_⟩
      · show 1 + zs.length ≤ sizeLine
        exact Nat.le_trans (show 1 + zs.length ≤ 5001 by omega) (by decide)
      have sL3 := same_upd (o := .lst ([.int 0] ++ zs)) nL3
      have hL3 : upd H4 L3 (.lst ([.int 0] ++ zs)) L3 = some (.lst (((0 : Int) :: (List.range N).map fun k => (((k + 1) * sz (i + 1) : Nat) : Int)).map V.int)) := by
        rw [upd_same, ez, List.map_cons, List.map_map]
        rfl
      refine ⟨L3, _, rfl, .inl (.inl hL3), Nat.zero_lt_succ _, fun v hv mx => ?_⟩
      have ev : v = ((N * sz (i + 1) : Nat) : Int) := by
        have up : v ≤ ((N * sz (i + 1) : Nat) : Int) := by
          rcases List.mem_cons.mp hv with e | e
          · rw [e]; exact Int.natCast_nonneg _
          · obtain ⟨k, hk, rfl⟩ := List.mem_map.mp e
            have := List.mem_range.mp hk
            exact_mod_cast Nat.mul_le_mul_right (sz (i + 1)) (show k + 1 ≤ N by omega)
        rcases Nat.eq_zero_or_pos N with e | e
        · have := mx _ (List.mem_cons_self ..)
          rw [e, Nat.zero_mul] at up ⊢
          exact Int.le_antisymm up this
        · have := mx _ (List.mem_cons_of_mem _ (List.mem_map.mpr ⟨N - 1, List.mem_range.mpr (by omega), rfl⟩))
          have e2 : N - 1 + 1 = N := by omega
          rw [e2] at this
          exact Int.le_antisymm up this
      rw [ev]
      clear ev hv mx v
      have s14 := sL1.trans (s4.trans sL3)
      generalize upd H4 L3 (.lst ([.int 0] ++ zs)) = H5 at *
      refine ⟨.int M, rfl, .ref u, rfl, u, _, rfl, st1.same s14, by rw [bkl_len]; exact hN5, fun H6 s6 => ?_⟩
      rw [tot_bkl, tt]
      have eD : ((M : Int) - ((Lw sz (bb sz M) (sz (i + 1)) (i + 1) : Nat) : Int)) / ((sz (i + 1) : Nat) : Int) = (R : Int) := by
        rw [← hR0, Int.natCast_ediv, Int.natCast_sub kl]
      refine ⟨_, _, rfl, rfl, .int _, rfl, _, _, rfl, rfl, ⟨by omega, by omega⟩, (R : Int), ?_, by omega, by omega, ?_⟩
      · rw [← eD]
      have eT : ((R : Nat) : Int).toNat = R := Int.toNat_natCast _
      rw [eT]
      refine for_range (lo := 0) (n := R) (fun j σ H7 => ∃ v y6 y7 y8, σ = [some (.ref c), some (.int M), some (.int ((i + 1 : Nat) : Int)), some (.ref v), some (.int ((sz (i + 1) : Nat) : Int)), some (.int ((N * sz (i + 1) : Nat) : Int)), y6, y7, y8] ∧ Same H6 H7 ∧ StAt H7 v (bkl (sz (i + 1)) (fun k => sz (cls (bb sz M) (i + 1) (k * sz (i + 1)))) (N + j)))
        ⟨u, _, _, _, rfl, Same.refl _, (st1.same s14).same s6⟩ ?_ ?_
      · rintro j σ H7 hj ⟨v, y6, y7, y8, rfl, s7, st7⟩
        refine ⟨.ref v, rfl, .int _, rfl, .int _, rfl, .int _, rfl, _, _, rfl, rfl, .inr ⟨by omega, by omega⟩, _, _, rfl, rfl, .int _, rfl, (by show 2 ≤ sizeLine; decide), fun p1 np1 => ⟨(by show 1 ≤ sizeLine; decide), fun p2 np2 => ?_⟩⟩
        dsimp only
        have sp1 := same_upd (o := .tup [.int (((N * sz (i + 1) : Nat) : Int) + (0 + (j : Int)) * ((sz (i + 1) : Nat) : Int)), .int ((sz (i + 1) : Nat) : Int)]) np1
        have hp1 : upd H7 p1 (.tup [.int (((N * sz (i + 1) : Nat) : Int) + (0 + (j : Int)) * ((sz (i + 1) : Nat) : Int)), .int ((sz (i + 1) : Nat) : Int)]) p1 = some (.tup [.int ((((N + j) * sz (i + 1) : Nat) : Int)), .int ((sz (i + 1) : Nat) : Int)]) := by
          rw [upd_same, Int.zero_add, ← Int.natCast_mul, ← Int.natCast_add, ← Nat.add_mul]
        generalize upd H7 p1 (.tup [.int (((N * sz (i + 1) : Nat) : Int) + (0 + (j : Int)) * ((sz (i + 1) : Nat) : Int)), .int ((sz (i + 1) : Nat) : Int)]) = H8 at *
        have sp2 := same_upd (o := .tup [.ref p1]) np2
        refine catSt (K := K) ((st7.same sp1).same sp2) (cs := [((((N + j) * sz (i + 1) : Nat) : Int), ((sz (i + 1) : Nat) : Int))]) ⟨[.ref p1], upd_same, .cons ⟨p1, rfl, sp2 _ _ hp1⟩ .nil⟩ (by rw [bkl_len]; show N + j + 1 ≤ 10000; omega) fun H9 p3 s9 st9 => ?_
        refine ⟨p3, _, _, _, rfl, s7.trans (sp1.trans (sp2.trans s9)), ?_⟩
        rw [← Nat.add_assoc, bkl_succ, gc (k := N + j) (by omega)]
        exact st9
      · rintro σ H7 ⟨v, y6, y7, y8, rfl, s7, st7⟩
        refine ⟨.ref v, rfl, q _ v (s1.trans (s14.trans (s6.trans s7))) ?_⟩
        unfold blks
        rw [ge]
        exact st7
end
end Ph

set_option maxHeartbeats 8000000
namespace Ph
open PySem PySem.Spec PyProof.Rows L2
theorem Cn.szs {s : Nat → Nat} {p m : Nat} (c : Cn s p m) (hm : m < 1073741824) (hp : p < 1000) : Szs s (p + 1) :=
  ⟨by omega, by omega, fun j hj => ⟨c.ch.pos hj, Nat.lt_of_le_of_lt (Nat.le_trans (c.ch.mono (i := j) (j := p) (by omega) (by omega)) c.top) hm⟩⟩
theorem blks_zero {s b : Nat → Nat} {m M : Nat} (c : CH s m) (B : BD s b m M) : blks s b 0 = bkl 1 (fun _ => 1) M := by
  unfold blks
  rw [c.s0, B.b0, Nat.div_one]
  exact bkl_congr fun k _ => c.s0
theorem rng_inc : ∀ N : Nat, ((List.range N).map fun k => ((k : Nat) : Int)).Pairwise (· < ·)
  | 0 => List.Pairwise.nil
  | N + 1 => by
    rw [List.range_succ, List.map_append, List.pairwise_append]
    refine ⟨rng_inc N, List.pairwise_singleton _ _, fun a ha b hb => ?_⟩
    obtain ⟨k, hk, rfl⟩ := List.mem_map.mp ha
    have e : b = ((N : Nat) : Int) := List.mem_singleton.mp hb
    have := List.mem_range.mp hk
    rw [e]
    omega
section
variable {P : Program} {w : World} {K : PySem.W.Frag} {mg : Str → Option Value} {base : Heap}
def spRi : Sp := fun vs H Q _ => ∃ (p : Addr), vs = [.ref p] ∧ Dr 0 H p ∧ ∀ H', But p H H' → Q (.bl true) H'
theorem ok_Ri {k : Nat} (Z : Fns K mg) : FnOk P w K mg base CX0 (k + 1 + 1 + 1 + 1 + 1 + 1) Z.fRi Z.fdRi ["_law_draws_here"] spRi := by
  have GNx : FnOk P w K mg base CX0 (k + 1) Z.fNx Z.fdNx ["_law_draws_here", "_law_bound"] spNx := ok_Nx Z
  have GPk : FnOk P w K mg base CX0 (k + 1 + 1) Z.fPk Z.fdPk ["_law_draws_here", "_law_items"] (spPk K) := ok_Pk Z
  have GCc : FnOk P w K mg base CX0 (k + 1 + 1 + 1) Z.fCc Z.fdCc ["_law_draws_here", "_law_most", "_law_longest"] spCc := ok_Cc Z
  have GFa : FnOk P w K mg base CX0 (k + 1 + 1) Z.fFa Z.fdFa ["_law_chain_here", "_law_limit", "_law_index", "_law_blocks"] (spFa K) := ok_Fa Z
  have GBo : FnOk P w K mg base CX0 (k + 1 + 1 + 1 + 1) Z.fBo Z.fdBo ["chain", "limit"] (spBo K) := ok_Bo Z
  have GPn : FnOk P w K mg base CX0 (k + 1 + 1 + 1 + 1 + 1) Z.fPn Z.fdPn ["chain", "limit"] (spPn K) := ok_Pn Z
  refine Z.FRi.ok scRi (fun vs H Q E h => ?_) (fun cdv A outer s H vs Q E hr h => ?_)
  · obtain ⟨p, rfl, _⟩ := h
    rfl
  · obtain ⟨p, rfl, hp, q⟩ := h
    have hu64 := u64_of hr
    refine ⟨_, (pss_cons (ps_asg (pe_tup (pa_cons (pe_call GCc (hr.mono (by omega)) (by rfl) Z.gCc Z.FCc.kp Z.bCc .nil pass0 (pa_cons (pv 0) (pa_cons pe_int (pa_cons pe_int pa_nil)))) (pa_cons (pe_call GPk (hr.mono (by omega)) (by rfl) Z.gPk Z.FPk.kp Z.bPk .nil pass0 (pa_cons (pv 0) (pa_cons (pe_lst (pa_cons (pe_call GNx (hr.mono (by omega)) (by rfl) Z.gNx Z.FNx.kp Z.bNx .nil pass0 (pa_cons (pv 0) (pa_cons pe_int pa_nil))) (pa_cons pe_int (pa_cons pe_int (pa_cons pe_int pa_nil))))) pa_nil))) pa_nil))) (pg_tup (by rfl) (pgs_cons (pg_name (i := 1) scRi.nd rfl (.inr rfl)) (pgs_cons (pg_name (i := 2) scRi.nd rfl (.inl rfl)) pgs_nil))))
 (pss_cons (ps_par (i := 3) (j := 4) (by rfl) scRi.nd rfl rfl (by decide) rfl rfl (pa_cons (pe_call GBo (hr.mono (by omega)) (by rfl) Z.gBo Z.FBo.kp Z.bBo .nil pass0 (pa_cons (pv 1) (pa_cons (pv 2) pa_nil))) (pa_cons (pe_callTy call_tuple_of (by rfl) Z.N.tuple (by decide +kernel) (pa_cons (pe_lc (own := [("_law_address", 7)]) (g := (gName 7)) (tt := tYes) (by rfl) scRi.nd (pi_range1 (by rfl) Z.N.range (pa_cons (pv 2) pa_nil)) (blkOk_by (N := scRiN) (sc := defScope scRiS) (by decide +kernel)) (fun _ _ _ _ _ => (pg_name (i := 7) scRi.nd rfl (.inl rfl))) (fun _ _ _ _ _ => pts_nil) (fun _ _ _ _ _ => (pe_tup (pa_cons (pv 7) (pa_cons pe_int pa_nil))))) pa_nil)) pa_nil)) (by rfl))
 (pss_cons (ps_for PassesOwn.never rfl (pi_range1 (by rfl) Z.N.range (pa_cons (pe_callB call_len_seq (by rfl) Z.N.len (by decide +kernel) (pa_cons (pv 1) pa_nil)) pa_nil)) (pg_name (i := 5) scRi.nd rfl (.inr rfl))
 (pss_cons (ps_if (pt_cmpR op_gt (pv 5) pe_int (nomark _))
 (pss_one (ps_set (i := 4) scRi.nd rfl (.inl rfl) (pe_call GFa (hr.mono (by omega)) (by rfl) Z.gFa Z.FFa.kp Z.bFa .nil pass0 (pa_cons (pv 1) (pa_cons (pv 2) (pa_cons (pv 5) (pa_cons (pv 4) pa_nil))))))) pss_nil)
 (pss_cons (ps_set (i := 6) scRi.nd rfl (.inl rfl) (pe_callB (cr_sortedS2 rfl) (by rfl) Z.N.sorted (by decide +kernel) (pa_cons (pe_callTy (cr_setJ rfl) (by rfl) Z.N.set (by decide +kernel) (pa_cons (pe_lc (own := [("_law_address", 7), ("_law_length", 8)]) (g := (gTup K 2 (gCons (gName 7) (gCons (gName 8) gNil)))) (tt := tYes) (by rfl) scRi.nd (pi_tup (pv 4)) (blkOk_by (N := scRiN) (sc := defScope scRiS) (by decide +kernel)) (fun _ _ _ _ _ => (pg_tup (by rfl) (pgs_cons (pg_name (i := 7) scRi.nd rfl (.inl rfl)) (pgs_cons (pg_name (i := 8) scRi.nd rfl (.inl rfl)) pgs_nil)))) (fun _ _ _ _ _ => pts_nil) (fun _ _ _ _ _ => (pe_op op_fdiv (pv 7) (pe_ix (r := rIxT K) ix_tup (pv 1) (pv 5) (fun _ _ => rfl))))) pa_nil)) pa_nil)))
 (pss_one (ps_if (pt_cmpR (op_neD hu64) (pv 6) (pe_listRg rfl (by rfl) Z.N.list (prg_1 (by rfl) Z.N.range (pe_op op_fdiv (pe_ix ix_tup (pv 3) (pv 5) (fun _ _ => rfl)) (pe_ix ix_tup (pv 1) (pv 5) (fun _ _ => rfl))))) (nomark _))
 (pss_one (ps_ret pe_bl)) pss_nil)))))
 (pss_one (ps_ret (pe_cmpR op_eq (pe_call GPn (hr.mono (by omega)) (by rfl) Z.gPn Z.FPn.kp Z.bPn .nil pass0 (pa_cons (pv 1) (pa_cons (pv 2) pa_nil))) (pe_callB cr_lenSet (by rfl) Z.N.len (by decide +kernel) (pa_cons (pe_callTy (cr_setJ rfl) (by rfl) Z.N.set (by decide +kernel) (pa_cons (pe_lc (own := [("_law_address", 7), ("_law_length", 8)]) (g := (gTup K 2 (gCons (gName 7) (gCons (gName 8) gNil)))) (tt := tYes) (by rfl) scRi.nd (pi_tup (pv 4)) (blkOk_by (N := scRiN) (sc := defScope scRiS) (by decide +kernel)) (fun _ _ _ _ _ => (pg_tup (by rfl) (pgs_cons (pg_name (i := 7) scRi.nd rfl (.inl rfl)) (pgs_cons (pg_name (i := 8) scRi.nd rfl (.inl rfl)) pgs_nil)))) (fun _ _ _ _ _ => pts_nil) (fun _ _ _ _ _ => (pe_op op_fdiv (pv 7) (pe_ix (r := rIxT K) ix_tup (pv 1) (pe_un un_neg pe_int) (fun _ _ => rfl))))) pa_nil)) pa_nil)) (nomark _))))))), ?_⟩
    have cap : drCap = 10000000 := rfl
    refine ⟨.ref p, rfl, p, 48, 5, _, rfl, hp, by omega, by decide, by decide, by decide, by decide, fun H3 t sz n b3 d3 ta cn hn => ?_⟩
    have szs := cn.szs (by decide) (by omega)
    have ch := cn.ch
    have top : ∀ j, j < n + 1 → sz j ≤ 48 := fun j hj => Nat.le_trans (ch.mono (i := j) (j := n) (by omega) (by omega)) cn.top
    refine ⟨.ref p, rfl, .ref p, rfl, p, 131, _, rfl, d3, by omega, by decide, by decide, fun H4 x b4 d4 x0 x1 => ?_⟩
    refine ⟨(by show 4 ≤ sizeLine; decide), fun l nl => ?_⟩
    have sl := same_upd (o := .lst [.int x, .int 0, .int 96, .int 120]) nl
    refine ⟨p, l, _, _, rfl, d4.same sl, by omega, .inl (.inl (.inl upd_same)), (d4.ne_none nl).symm, List.cons_ne_nil _ _, by simp, fun H5 v b5 d5 hv => ?_⟩
    obtain ⟨M, rfl, hM⟩ : ∃ M : Nat, v = .int M ∧ M ≤ 130 := by
      simp only [List.mem_cons, List.not_mem_nil, or_false] at hv
      rcases hv with h | h | h | h
      · exact ⟨x.toNat, by rw [h]; congr 1; omega, by omega⟩
      · exact ⟨0, h, by decide⟩
      · exact ⟨96, h, by decide⟩
      · exact ⟨120, h, by decide⟩
    have ta5 : TAt H5 t (tl sz (n + 1)) := ((ta.butD b4 d3).same sl).butD b5 (d4.same sl)
    have b05 : But p H H5 := b3.trans (b4.trans ((Same.but sl).trans b5))
    have hc5 := ta5.sq (K := K)
    have B : BD sz (bb sz M) (n + 1) M := bd_bfn sz (n + 1) M
    have bu : ∀ j, j < n + 1 → bb sz M j ≤ 1000 := fun j hj => by
      have h1 := B.ub ch (S := 48) top j hj
      have h2 : (j + 1) * M ≤ 5 * 130 := Nat.mul_le_mul (by omega) hM
      omega
    refine ⟨(by show 2 ≤ sizeLine; decide), fun T nT => ⟨T, _, rfl, .inl (.inl upd_same), rfl, _, _, rfl, _, _, rfl, rfl, ?_⟩⟩
    have sT := same_upd (o := .tup [.ref t, .int M]) nT
    have hc6 := sT.tup hc5
    generalize upd H5 T (.tup [.ref t, .int M]) = H6 at *
    refine ⟨.ref t, rfl, .int M, rfl, t, sz, n + 1, M, rfl, hc6, szs, fun H7 u s7 hu => ?_⟩
    refine ⟨.int M, rfl, (M : Int), rfl, by omega, by omega, fun D nD => ?_⟩
    have eM : ((M : Nat) : Int).toNat = M := Int.toNat_natCast _
    rw [eM]
    refine lc_R (walk_range (lo := 0) (n := M)) (fun _ _ _ _ y => YFn.same y) (fun H8 k y => BkAt H8 y (((k * 1 : Nat) : Int), 1)) (fun H H' i y kp => fun ⟨t, e1, e2⟩ => ⟨t, e1, kp _ _ e2⟩) nD (Nat.lt_of_le_of_lt hM (by decide)) (fun _ _ => trivial) (fun k x H8 H9 hk s8 y Z hZ => ?_) (fun H8 zs s8 hD pr => ?_)
    · obtain ⟨rfl, rfl⟩ := y
      refine ⟨rfl, .int _, rfl, (by show 2 ≤ sizeLine; decide), fun v nv => hZ _ _ (same_upd nv) ⟨v, rfl, ?_⟩⟩
      rw [upd_same]
      show some (HO.tup [V.int (0 + (k : Int)), V.int 1]) = some (HO.tup [V.int ((k * 1 : Nat) : Int), V.int 1])
      rw [Int.zero_add, Nat.mul_one]
    refine ⟨D, _, rfl, .inl ⟨.inl (.inl hD), fun v0 nv0 => ?_⟩⟩
    have sv := same_upd (o := .tup zs) nv0
    have st0 : StAt (upd H8 v0 (.tup zs)) v0 (blks sz (bb sz M) 0) := by
      rw [blks_zero ch B]
      refine ⟨zs, upd_same, ?_⟩
      have bl : BL H8 zs (bkl 1 (fun _ => 1) M) := paired_mapL (F := BkAt H8) (f := fun k => (((k * 1 : Nat) : Int), (((fun _ => 1 : Nat → Nat) k : Nat) : Int))) (l := List.range M) pr
      exact BL.kp bl fun v us e => sv _ _ e
    have hu9 := sv _ _ (s8 _ _ hu)
    have hc9 := sv.tup (s8.tup (s7.tup hc6))
    have s69 : Same H6 _ := s7.trans (s8.trans sv)
    generalize upd H8 v0 (.tup zs) = H9 at *
    have d9 : Dr 204 H9 p := ((d5.same sT).same s69).up (by omega)
    have b09 : But p H H9 := b05.trans (Same.but (sT.trans s69))
    refine ⟨_, _, rfl, .ref t, rfl, t, _, rfl, .inr hc9, ?_⟩
    rw [List.length_map, tl_len]
    refine ⟨_, rfl, by omega, by omega, ?_⟩
    have en : (((n + 1 : Nat) : Int)).toNat = n + 1 := Int.toNat_natCast _
    rw [en]
    refine for_range (lo := 0) (n := n + 1) (fun i σ H10 => ∃ v y5 y6 y7 y8, σ = [some (.ref p), some (.ref t), some (.int M), some (.ref u), some (.ref v), y5, y6, y7, y8] ∧ Same H9 H10 ∧ StAt H10 v (blks sz (bb sz M) (i - 1)))
      ⟨v0, none, none, none, none, rfl, Same.refl _, st0⟩ ?_ ?_
    · rintro i σ H10 hi ⟨v, y5, y6, y7, y8, rfl, s10, st⟩
      rw [Int.zero_add]
      refine joinS (R := fun σ H11 => ∃ v, σ = [some (.ref p), some (.ref t), some (.int M), some (.ref u), some (.ref v), some (.int (i : Int)), y6, y7, y8] ∧ Same H9 H11 ∧ StAt H11 v (blks sz (bb sz M) i)) (G := ?G) (fun k => ?main) ?rest
      case main =>
        refine ⟨.int _, rfl, _, _, rfl, rfl, _, rfl, ite2 (fun c0 => ?_) (fun c0 => ?_)⟩
        · have c1 : (0 : Int) < (i : Int) := of_decide_eq_true c0
          have ei : i - 1 + 1 = i := by omega
          refine ⟨.ref t, rfl, .int M, rfl, .int _, rfl, .ref v, rfl, t, v, sz, n, M, i - 1, by rw [ei]; rfl, s10.tup hc9, szs, ch, by omega, by omega, Nat.le_trans (bu _ (by omega)) (by decide), st, fun H11 v2 s11 st2 => ?_⟩
          rw [ei] at st2
          exact k _ _ ⟨v2, rfl, s10.trans s11, st2⟩
        · have c1 : ¬ (0 : Int) < (i : Int) := of_decide_eq_false (by simpa using c0)
          have z : i - 1 = i := by omega
          rw [z] at st
          exact k _ _ ⟨v, rfl, s10, st⟩
      case rest =>
        clear s10 st
        rintro σ H11 ⟨v, rfl, s11, st⟩
        obtain ⟨xs, hv, bl⟩ := id st
        obtain ⟨S0, S1⟩ := szs.2.2 i hi
        have bi : bb sz M i / sz i ≤ 1000 := Nat.le_trans (Nat.div_le_self _ _) (bu i hi)
        have hc11 := s11.tup hc9
        unfold blks at bl
        obtain ⟨N, hN⟩ : ∃ N, bb sz M i / sz i = N := ⟨_, rfl⟩
        rw [hN] at bl bi
        have xl : xs.length = N := by rw [bl.len, bkl_len]
        refine ⟨.ref v, rfl, v, rfl, ⟨_, .inl (.inl hv)⟩, fun D2 nD2 => ?_⟩
        refine lc_R (walk_tup (K := K) (a := v) (xs := xs)) (fun _ _ _ _ y => YAt.same y) (fun _ k y => y = .int (k : Int)) (fun _ _ _ _ _ h => h) nD2 (by rw [xl]; exact Nat.lt_of_le_of_lt bi (by decide)) (fun H4 s4 => .inl (.inl (s4 _ _ hv))) (fun k x H12 H13 hk s12 y Z hZ => ?_) (fun H12 zs2 s12 hD2 pr2 => ?_)
        · obtain ⟨rfl, hx⟩ := y
          obtain ⟨b, hb2, v2, rfl, hv2⟩ := BL.get (BL.kp bl fun v zs e => s12 _ _ e) hx
          rw [bkl_get (by omega)] at hb2
          cases hb2
          refine ⟨v2, _, rfl, .inl (.inl hv2), rfl, _, _, rfl, _, _, rfl, rfl, rfl, ?_⟩
          refine ⟨.int _, rfl, .ref t, rfl, .int _, rfl, t, _, (i : Int), _, rfl, rfl, s12.tup hc11, tl_atI hi, _, _, rfl, rfl, ⟨by omega, by omega⟩, hZ _ _ (Same.refl _) ?_⟩
          show V.int (((k * sz i : Nat) : Int) / ((sz i : Nat) : Int)) = _
          rw [← Int.natCast_ediv, Nat.mul_div_cancel _ S0]
        · have ez := paired_eq pr2
          rw [xl] at ez
          have ez2 : zs2 = ((List.range N).map fun k => ((k : Nat) : Int)).map V.int := by rw [ez, List.map_map]; rfl
          rw [ez2] at hD2
          refine ⟨D2, _, rfl, .inl (.inl hD2), ?_, fun H13 a c sa ha hcc => ?_⟩
          · rw [List.length_map, List.length_range]
            exact Nat.lt_of_le_of_lt (show N + 1 ≤ 1001 by omega) (by decide)
          refine ⟨a, _, c, rfl, ha, fun ns' p2 srt mem np2 => ?_⟩
          have ens : ns' = (List.range N).map fun k => ((k : Nat) : Int) := inc_ext srt (rng_inc N) fun k => (mem k).trans (by simp)
          subst ens
          have sp2 := same_upd (o := .lst (((List.range N).map fun k => ((k : Nat) : Int)).map V.int)) np2
          have s1114 := s12.trans (sa.trans sp2)
          have hp2 : upd H13 p2 (.lst (((List.range N).map fun k => ((k : Nat) : Int)).map V.int)) p2 = some (.lst (((List.range N).map fun k => ((k : Nat) : Int)).map V.int)) := upd_same
          generalize upd H13 p2 (.lst (((List.range N).map fun k => ((k : Nat) : Int)).map V.int)) = H14 at *
          have eD : ((bb sz M i : Nat) : Int) / ((sz i : Nat) : Int) = (N : Int) := by rw [← Int.natCast_ediv, hN]
          refine ⟨.ref p2, rfl, .ref u, rfl, .int _, rfl, u, _, (i : Int), _, rfl, rfl, .inl (.inl (s1114 _ _ (s11 _ _ hu9))), tl_atI hi, .ref t, rfl, .int _, rfl, t, _, (i : Int), _, rfl, rfl, s1114.tup hc11, tl_atI hi, _, _, rfl, rfl, ⟨by omega, by omega⟩, (N : Int), ?_, RgOk.of_le (by decide) (by omega) (by decide) (by omega), fun p3 np3 => ?_⟩
          · rw [← eD]
          have sp3 := same_upd (o := .lst (rgV 0 (N : Int))) np3
          have hp3 : upd H14 p3 (.lst (rgV 0 (N : Int))) p3 = some (.lst (((List.range N).map fun k => ((k : Nat) : Int)).map V.int)) := by
            rw [upd_same]
            unfold rgV
            have : ((N : Int) - 0).toNat = N := by omega
            rw [this, List.map_map]
            congr 3
            funext k
            show V.int (0 + (k : Int)) = V.int (k : Int)
            rw [Int.zero_add]
          refine ⟨.list (((List.range N).map fun k => ((k : Nat) : Int)).map PyData.int), .list (((List.range N).map fun k => ((k : Nat) : Int)).map PyData.int), .lst (.inl (.inl (sp3 _ _ hp2))) (dpI _), .lst (.inl (.inl hp3)) (dpI _), il_shaped _, il_shaped _, _, rfl, ite2 (fun c => absurd c (by rw [il_eqv]; decide)) (fun _ => ?_)⟩
          exact ⟨v, _, _, _, _, rfl, s11.trans (s1114.trans sp3), st.same (s1114.trans sp3)⟩
    · rintro σ H10 ⟨v, y5, y6, y7, y8, rfl, s10, st⟩
      have hc10 := s10.tup hc9
      refine ⟨.ref t, rfl, .int M, rfl, t, sz, n, M, rfl, hc10, szs, fun H11 s11 => ?_⟩
      have e1 : n + 1 - 1 = n := by omega
      rw [e1] at st
      have st := st.same s11
      obtain ⟨xs, hv, bl⟩ := id st
      obtain ⟨S0, S1⟩ := szs.2.2 n (by omega)
      have bi : bb sz M n / sz n ≤ 1000 := Nat.le_trans (Nat.div_le_self _ _) (bu n (by omega))
      have hc11 := s11.tup hc10
      unfold blks at bl
      obtain ⟨N, hN⟩ : ∃ N, bb sz M n / sz n = N := ⟨_, rfl⟩
      rw [hN] at bl bi ⊢
      have xl : xs.length = N := by rw [bl.len, bkl_len]
      refine ⟨.ref v, rfl, v, rfl, ⟨_, .inl (.inl hv)⟩, fun D2 nD2 => ?_⟩
      refine lc_R (walk_tup (K := K) (a := v) (xs := xs)) (fun _ _ _ _ y => YAt.same y) (fun _ k y => y = .int (k : Int)) (fun _ _ _ _ _ h => h) nD2 (by rw [xl]; exact Nat.lt_of_le_of_lt bi (by decide)) (fun H4 s4 => .inl (.inl (s4 _ _ hv))) (fun k x H12 H13 hk s12 y Z hZ => ?_) (fun H12 zs2 s12 hD2 pr2 => ?_)
      · obtain ⟨rfl, hx⟩ := y
        obtain ⟨b, hb2, v2, rfl, hv2⟩ := BL.get (BL.kp bl fun v zs e => s12 _ _ e) hx
        rw [bkl_get (by omega)] at hb2
        cases hb2
        refine ⟨v2, _, rfl, .inl (.inl hv2), rfl, _, _, rfl, _, _, rfl, rfl, rfl, ?_⟩
        refine ⟨.int _, rfl, .ref t, rfl, 1, rfl, t, _, -1, _, rfl, rfl, s12.tup hc11, tl_atL, _, _, rfl, rfl, ⟨by omega, by omega⟩, hZ _ _ (Same.refl _) ?_⟩
        show V.int (((k * sz n : Nat) : Int) / ((sz n : Nat) : Int)) = _
        rw [← Int.natCast_ediv, Nat.mul_div_cancel _ S0]
      · have ez := paired_eq pr2
        rw [xl] at ez
        have ez2 : zs2 = ((List.range N).map fun k => ((k : Nat) : Int)).map V.int := by rw [ez, List.map_map]; rfl
        rw [ez2] at hD2
        refine ⟨D2, _, rfl, .inl (.inl hD2), ?_, fun H13 a c sa ha hcc => ?_⟩
        · rw [List.length_map, List.length_range]
          exact Nat.lt_of_le_of_lt (show N + 1 ≤ 1001 by omega) (by decide)
        have ec : c = N := by
          rw [hcc ((rng_inc N).imp fun h => Int.ne_of_lt h), List.length_map, List.length_range]
        subst ec
        refine ⟨a, _, c, rfl, ha, rfl, ?_⟩
        have fin := q _ (b09.trans (Same.but (s10.trans (s11.trans (s12.trans sa)))))
        rw [show decide (V.int ((c : Nat) : Int) = V.int ((c : Nat) : Int)) = true from decide_eq_true rfl]
        exact fin
def spLaw (K : PySem.W.Frag) : Sp := fun vs H Q _ => ∃ (a : Addr) (ns : List Int), vs = [.ref a] ∧ SqL K H a (ns.map V.int) ∧ ns.length ≤ 63 ∧ ∀ H', Q (.bl true) H'
theorem ok_Law {k : Nat} (Z : Fns K mg) : FnOk P w K mg base CX0 (k + 1 + 1 + 1 + 1 + 1 + 1 + 1) Z.fLaw Z.fdLaw ["_law_script"] (spLaw K) := by
  have GDw : FnOk P w K mg base CX0 (k + 1) Z.fDw Z.fdDw ["_law_script", "_law_k"] (spDw K) := ok_Dw Z
  have GRi : FnOk P w K mg base CX0 (k + 1 + 1 + 1 + 1 + 1 + 1) Z.fRi Z.fdRi ["_law_draws_here"] spRi := ok_Ri Z
  refine Z.FLaw.ok scLaw (fun vs H Q E h => ?_) (fun cdv A outer s H vs Q E hr h => ?_)
  · obtain ⟨a, ns, rfl, _⟩ := h
    rfl
  · obtain ⟨a, ns, rfl, hS, hl, q⟩ := h
    refine ⟨_, (pss_cons (ps_for PassesOwn.never rfl (pi_range1 (by rfl) Z.N.range (pa_cons (pe_callB (call_max2 rfl) (by rfl) Z.N.max (by decide +kernel) (pa_cons pe_int (pa_cons (pe_callB (call_min2 rfl) (by rfl) Z.N.min (by decide +kernel) (pa_cons pe_int (pa_cons (pe_callB call_len_seq (by rfl) Z.N.len (by decide +kernel) (pa_cons (pv 0) pa_nil)) pa_nil))) pa_nil))) pa_nil)) (pg_name (i := 1) scLaw.nd rfl (.inl rfl))
 (pss_one (ps_if (pt_not (pt_val (pe_call GRi (hr.mono (by omega)) (by rfl) Z.gRi Z.FRi.kp Z.bRi .nil pass0 (pa_cons (pe_call GDw (hr.mono (by omega)) (by rfl) Z.gDw Z.FDw.kp Z.bDw .nil pass0 (pa_cons (pv 0) (pa_cons (pv 1) pa_nil))) pa_nil))))
 (pss_one (ps_ret pe_bl)) pss_nil)))
 (pss_one (ps_ret pe_bl))), ?_⟩
    refine ⟨.ref a, rfl, a, _, rfl, .inl hS, _, _, rfl, _, _, rfl, ?_⟩
    rw [List.length_map]
    generalize hz : (if (if (ns.length : Int) < 3 then (ns.length : Int) else 3) > 1 then (if (ns.length : Int) < 3 then (ns.length : Int) else 3) else (1 : Int)) = z
    have z3 : 0 ≤ z ∧ z ≤ 3 := by
      rw [← hz]
      split <;> split <;> omega
    refine ⟨z, rfl, by omega, by omega, ?_⟩
    refine for_range (lo := 0) (n := z.toNat) (fun i σ H2 => ∃ y1, σ = [some (.ref a), y1] ∧ Same H H2) ⟨none, rfl, Same.refl _⟩ ?_ ?_
    · rintro i σ H2 hi ⟨y1, rfl, s2⟩
      have e : (0 : Int) + (i : Int) = ((i : Nat) : Int) := by omega
      rw [e]
      refine ⟨.ref a, rfl, .int i, rfl, a, ns, i, rfl, s2.seq hS, by omega, fun H3 p s3 np hp => ?_⟩
      refine ⟨p, rfl, hp, fun H4 b4 => ⟨_, rfl, ite2 (fun c => absurd c (by decide)) (fun _ => ?_)⟩⟩
      exact ⟨_, rfl, fun b o hb => b4 _ _ (ne_of_none (s2 _ _ hb) np) (s3 _ _ (s2 _ _ hb))⟩
    · rintro σ H2 ⟨y1, rfl, s2⟩
      exact q _
end
end Ph

namespace Ph
open PySem PySem.Spec PyProof.Rows L2
theorem all_mk {l : PySem.W.OpenLaw} {w : World} {K : PySem.W.Frag} {h : Heap} {mg : Str → Option Value} {fa : Addr} (X : K.In h) (G : h.Ns mainGlobals mg) (hfa : mg "law" = some (.ref fa))
    {f1 : Addr} {od1 an1 : Option Addr} {sl1 : Array (Option Value)} {oc1 kV1 dc1 pm1 cd1 ct1 : Value} (a1 : PySem.W.nsIn K mainGlobals "divided_up" = some (some (.ref f1))) (l1 : K.lookup f1 = some ⟨oc1, od1, .func (PySem.W.fnOf "divided_up" "divided_up" (defArgs (topS 1)) (defBody (topS 1)) (defScope (topS 1)) .none kV1 dc1 pm1 an1 cd1 ct1), sl1⟩) (c1 : PySem.W.codeIn K cd1 "divided_up" = true) (k1 : PySem.W.keepIn K (.ref f1) = true)
    {f2 : Addr} {od2 an2 : Option Addr} {sl2 : Array (Option Value)} {oc2 kV2 dc2 pm2 cd2 ct2 : Value} (a2 : PySem.W.nsIn K mainGlobals "reaches" = some (some (.ref f2))) (l2 : K.lookup f2 = some ⟨oc2, od2, .func (PySem.W.fnOf "reaches" "reaches" (defArgs (topS 3)) (defBody (topS 3)) (defScope (topS 3)) .none kV2 dc2 pm2 an2 cd2 ct2), sl2⟩) (c2 : PySem.W.codeIn K cd2 "reaches" = true) (k2 : PySem.W.keepIn K (.ref f2) = true)
    {f3 : Addr} {od3 an3 : Option Addr} {sl3 : Array (Option Value)} {oc3 kV3 dc3 pm3 cd3 ct3 : Value} (a3 : PySem.W.nsIn K mainGlobals "reach" = some (some (.ref f3))) (l3 : K.lookup f3 = some ⟨oc3, od3, .func (PySem.W.fnOf "reach" "reach" (defArgs (topS 4)) (defBody (topS 4)) (defScope (topS 4)) .none kV3 dc3 pm3 an3 cd3 ct3), sl3⟩) (c3 : PySem.W.codeIn K cd3 "reach" = true) (k3 : PySem.W.keepIn K (.ref f3) = true)
    {f4 : Addr} {od4 an4 : Option Addr} {sl4 : Array (Option Value)} {oc4 kV4 dc4 pm4 cd4 ct4 : Value} (a4 : PySem.W.nsIn K mainGlobals "bounds" = some (some (.ref f4))) (l4 : K.lookup f4 = some ⟨oc4, od4, .func (PySem.W.fnOf "bounds" "bounds" (defArgs (topS 6)) (defBody (topS 6)) (defScope (topS 6)) .none kV4 dc4 pm4 an4 cd4 ct4), sl4⟩) (c4 : PySem.W.codeIn K cd4 "bounds" = true) (k4 : PySem.W.keepIn K (.ref f4) = true)
    {f5 : Addr} {od5 an5 : Option Addr} {sl5 : Array (Option Value)} {oc5 kV5 dc5 pm5 cd5 ct5 : Value} (a5 : PySem.W.nsIn K mainGlobals "numbers_from" = some (some (.ref f5))) (l5 : K.lookup f5 = some ⟨oc5, od5, .func (PySem.W.fnOf "numbers_from" "numbers_from" (defArgs (topS 7)) (defBody (topS 7)) (defScope (topS 7)) .none kV5 dc5 pm5 an5 cd5 ct5), sl5⟩) (c5 : PySem.W.codeIn K cd5 "numbers_from" = true) (k5 : PySem.W.keepIn K (.ref f5) = true)
    {f6 : Addr} {od6 an6 : Option Addr} {sl6 : Array (Option Value)} {oc6 kV6 dc6 pm6 cd6 ct6 : Value} (a6 : PySem.W.nsIn K mainGlobals "least_words" = some (some (.ref f6))) (l6 : K.lookup f6 = some ⟨oc6, od6, .func (PySem.W.fnOf "least_words" "least_words" (defArgs (topS 8)) (defBody (topS 8)) (defScope (topS 8)) .none kV6 dc6 pm6 an6 cd6 ct6), sl6⟩) (c6 : PySem.W.codeIn K cd6 "least_words" = true) (k6 : PySem.W.keepIn K (.ref f6) = true)
    {f7 : Addr} {od7 an7 : Option Addr} {sl7 : Array (Option Value)} {oc7 kV7 dc7 pm7 cd7 ct7 : Value} (a7 : PySem.W.nsIn K mainGlobals "pages_needed" = some (some (.ref f7))) (l7 : K.lookup f7 = some ⟨oc7, od7, .func (PySem.W.fnOf "pages_needed" "pages_needed" (defArgs (topS 9)) (defBody (topS 9)) (defScope (topS 9)) .none kV7 dc7 pm7 an7 cd7 ct7), sl7⟩) (c7 : PySem.W.codeIn K cd7 "pages_needed" = true) (k7 : PySem.W.keepIn K (.ref f7) = true)
    {f8 : Addr} {od8 an8 : Option Addr} {sl8 : Array (Option Value)} {oc8 kV8 dc8 pm8 cd8 ct8 : Value} (a8 : PySem.W.nsIn K mainGlobals "_law_draws" = some (some (.ref f8))) (l8 : K.lookup f8 = some ⟨oc8, od8, .func (PySem.W.fnOf "_law_draws" "_law_draws" (defArgs (topS 11)) (defBody (topS 11)) (defScope (topS 11)) .none kV8 dc8 pm8 an8 cd8 ct8), sl8⟩) (c8 : PySem.W.codeIn K cd8 "_law_draws" = true) (k8 : PySem.W.keepIn K (.ref f8) = true)
    {f9 : Addr} {od9 an9 : Option Addr} {sl9 : Array (Option Value)} {oc9 kV9 dc9 pm9 cd9 ct9 : Value} (a9 : PySem.W.nsIn K mainGlobals "_law_next" = some (some (.ref f9))) (l9 : K.lookup f9 = some ⟨oc9, od9, .func (PySem.W.fnOf "_law_next" "_law_next" (defArgs (topS 12)) (defBody (topS 12)) (defScope (topS 12)) .none kV9 dc9 pm9 an9 cd9 ct9), sl9⟩) (c9 : PySem.W.codeIn K cd9 "_law_next" = true) (k9 : PySem.W.keepIn K (.ref f9) = true)
    {f10 : Addr} {od10 an10 : Option Addr} {sl10 : Array (Option Value)} {oc10 kV10 dc10 pm10 cd10 ct10 : Value} (a10 : PySem.W.nsIn K mainGlobals "_law_pick" = some (some (.ref f10))) (l10 : K.lookup f10 = some ⟨oc10, od10, .func (PySem.W.fnOf "_law_pick" "_law_pick" (defArgs (topS 13)) (defBody (topS 13)) (defScope (topS 13)) .none kV10 dc10 pm10 an10 cd10 ct10), sl10⟩) (c10 : PySem.W.codeIn K cd10 "_law_pick" = true) (k10 : PySem.W.keepIn K (.ref f10) = true)
    {f11 : Addr} {od11 an11 : Option Addr} {sl11 : Array (Option Value)} {oc11 kV11 dc11 pm11 cd11 ct11 : Value} (a11 : PySem.W.nsIn K mainGlobals "_law_chain" = some (some (.ref f11))) (l11 : K.lookup f11 = some ⟨oc11, od11, .func (PySem.W.fnOf "_law_chain" "_law_chain" (defArgs (topS 14)) (defBody (topS 14)) (defScope (topS 14)) .none kV11 dc11 pm11 an11 cd11 ct11), sl11⟩) (c11 : PySem.W.codeIn K cd11 "_law_chain" = true) (k11 : PySem.W.keepIn K (.ref f11) = true)
    {f12 : Addr} {od12 an12 : Option Addr} {sl12 : Array (Option Value)} {oc12 kV12 dc12 pm12 cd12 ct12 : Value} (a12 : PySem.W.nsIn K mainGlobals "_law_total" = some (some (.ref f12))) (l12 : K.lookup f12 = some ⟨oc12, od12, .func (PySem.W.fnOf "_law_total" "_law_total" (defArgs (topS 15)) (defBody (topS 15)) (defScope (topS 15)) .none kV12 dc12 pm12 an12 cd12 ct12), sl12⟩) (c12 : PySem.W.codeIn K cd12 "_law_total" = true) (k12 : PySem.W.keepIn K (.ref f12) = true)
    {f13 : Addr} {od13 an13 : Option Addr} {sl13 : Array (Option Value)} {oc13 kV13 dc13 pm13 cd13 ct13 : Value} (a13 : PySem.W.nsIn K mainGlobals "_law_thinned" = some (some (.ref f13))) (l13 : K.lookup f13 = some ⟨oc13, od13, .func (PySem.W.fnOf "_law_thinned" "_law_thinned" (defArgs (topS 16)) (defBody (topS 16)) (defScope (topS 16)) .none kV13 dc13 pm13 an13 cd13 ct13), sl13⟩) (c13 : PySem.W.codeIn K cd13 "_law_thinned" = true) (k13 : PySem.W.keepIn K (.ref f13) = true)
    {f14 : Addr} {od14 an14 : Option Addr} {sl14 : Array (Option Value)} {oc14 kV14 dc14 pm14 cd14 ct14 : Value} (a14 : PySem.W.nsIn K mainGlobals "_law_phase" = some (some (.ref f14))) (l14 : K.lookup f14 = some ⟨oc14, od14, .func (PySem.W.fnOf "_law_phase" "_law_phase" (defArgs (topS 17)) (defBody (topS 17)) (defScope (topS 17)) .none kV14 dc14 pm14 an14 cd14 ct14), sl14⟩) (c14 : PySem.W.codeIn K cd14 "_law_phase" = true) (k14 : PySem.W.keepIn K (.ref f14) = true)
    {f15 : Addr} {od15 an15 : Option Addr} {sl15 : Array (Option Value)} {oc15 kV15 dc15 pm15 cd15 ct15 : Value} (a15 : PySem.W.nsIn K mainGlobals "_law_right" = some (some (.ref f15))) (l15 : K.lookup f15 = some ⟨oc15, od15, .func (PySem.W.fnOf "_law_right" "_law_right" (defArgs (topS 18)) (defBody (topS 18)) (defScope (topS 18)) .none kV15 dc15 pm15 an15 cd15 ct15), sl15⟩) (c15 : PySem.W.codeIn K cd15 "_law_right" = true) (k15 : PySem.W.keepIn K (.ref f15) = true)
    {f16 : Addr} {od16 an16 : Option Addr} {sl16 : Array (Option Value)} {oc16 kV16 dc16 pm16 cd16 ct16 : Value} (a16 : PySem.W.nsIn K mainGlobals "law" = some (some (.ref f16))) (l16 : K.lookup f16 = some ⟨oc16, od16, .func (PySem.W.fnOf "law" "law" (defArgs (topS 19)) (defBody (topS 19)) (defScope (topS 19)) .none kV16 dc16 pm16 an16 cd16 ct16), sl16⟩) (c16 : PySem.W.codeIn K cd16 "law" = true) (k16 : PySem.W.keepIn K (.ref f16) = true)
    (z1 : PySem.W.nsIn K mainGlobals "len" = some none)
    (z2 : PySem.W.nsIn K mainGlobals "abs" = some none)
    (z3 : PySem.W.nsIn K mainGlobals "int" = some none)
    (z4 : PySem.W.nsIn K mainGlobals "range" = some none)
    (z5 : PySem.W.nsIn K mainGlobals "tuple" = some none)
    (z6 : PySem.W.nsIn K mainGlobals "max" = some none)
    (z7 : PySem.W.nsIn K mainGlobals "min" = some none)
    (z8 : PySem.W.nsIn K mainGlobals "repr" = some none)
    (z9 : PySem.W.nsIn K mainGlobals "isinstance" = some none)
    (z10 : PySem.W.nsIn K mainGlobals "bool" = some none)
    (z11 : PySem.W.nsIn K mainGlobals "all" = some none)
    (z12 : PySem.W.nsIn K mainGlobals "any" = some none)
    (z13 : PySem.W.nsIn K mainGlobals "list" = some none)
    (z14 : PySem.W.nsIn K mainGlobals "dict" = some none)
    (z15 : PySem.W.nsIn K mainGlobals "sorted" = some none)
    (z16 : PySem.W.nsIn K mainGlobals "set" = some none)
    (z17 : PySem.W.nsIn K mainGlobals "sum" = some none)
    (z18 : PySem.W.nsIn K mainGlobals "zip" = some none)
    (z19 : PySem.W.nsIn K mainGlobals "enumerate" = some none)
    (z20 : PySem.W.nsIn K mainGlobals "reversed" = some none)
    (z21 : PySem.W.nsIn K mainGlobals "str" = some none)
    (zd : PySem.W.nsIn K cStatics "sys.int_max_str_digits" = some none) :
    ∃ fd : FuncData, (∀ (s : Shared) (v : Value), BindsTo s fd ⟨[v], []⟩ [("_law_script", v)]) ∧ ∀ base : Heap, K.In base → base.Ns mainGlobals mg → FnOk l.prog w K mg base CX0 (0 + 1 + 1 + 1 + 1 + 1 + 1 + 1) fa fd ["_law_script"] (spLaw K) := by
  have e := hfa.symm.trans (PySem.W.mg_of X G a16)
  cases e
  have F1 := fun_mk (x := "divided_up") (qual := "divided_up") (st := topS 1) l1 c1 k1
  have F2 := fun_mk (x := "reaches") (qual := "reaches") (st := topS 3) l2 c2 k2
  have F3 := fun_mk (x := "reach") (qual := "reach") (st := topS 4) l3 c3 k3
  have F4 := fun_mk (x := "bounds") (qual := "bounds") (st := topS 6) l4 c4 k4
  have F5 := fun_mk (x := "numbers_from") (qual := "numbers_from") (st := topS 7) l5 c5 k5
  have F6 := fun_mk (x := "least_words") (qual := "least_words") (st := topS 8) l6 c6 k6
  have F7 := fun_mk (x := "pages_needed") (qual := "pages_needed") (st := topS 9) l7 c7 k7
  have F8 := fun_mk (x := "_law_draws") (qual := "_law_draws") (st := topS 11) l8 c8 k8
  have F9 := fun_mk (x := "_law_next") (qual := "_law_next") (st := topS 12) l9 c9 k9
  have F10 := fun_mk (x := "_law_pick") (qual := "_law_pick") (st := topS 13) l10 c10 k10
  have F11 := fun_mk (x := "_law_chain") (qual := "_law_chain") (st := topS 14) l11 c11 k11
  have F12 := fun_mk (x := "_law_total") (qual := "_law_total") (st := topS 15) l12 c12 k12
  have F13 := fun_mk (x := "_law_thinned") (qual := "_law_thinned") (st := topS 16) l13 c13 k13
  have F14 := fun_mk (x := "_law_phase") (qual := "_law_phase") (st := topS 17) l14 c14 k14
  have F15 := fun_mk (x := "_law_right") (qual := "_law_right") (st := topS 18) l15 c15 k15
  have F16 := fun_mk (x := "law") (qual := "law") (st := topS 19) l16 c16 k16
  let Z : Fns K mg := {
    N := ⟨PySem.W.mg_none_of X G z1, PySem.W.mg_none_of X G z2, PySem.W.mg_none_of X G z3, PySem.W.mg_none_of X G z4, PySem.W.mg_none_of X G z5, PySem.W.mg_none_of X G z6, PySem.W.mg_none_of X G z7, PySem.W.mg_none_of X G z8, PySem.W.mg_none_of X G z9, PySem.W.mg_none_of X G z10, PySem.W.mg_none_of X G z11, PySem.W.mg_none_of X G z12, PySem.W.mg_none_of X G z13, PySem.W.mg_none_of X G z14, PySem.W.mg_none_of X G z15, PySem.W.mg_none_of X G z16, PySem.W.mg_none_of X G z17, PySem.W.mg_none_of X G z18, PySem.W.mg_none_of X G z19, PySem.W.mg_none_of X G z20, PySem.W.mg_none_of X G z21, zd⟩,
    fDu := f1, fdDu := _, FDu := F1, bDu := (F1.binds (ps := ["number", "divisor"]) fun _ _ _ _ _ _ us hl => match us, hl with | [_, _], _ => rfl), gDu := PySem.W.mg_of X G a1,
    fRs := f2, fdRs := _, FRs := F2, bRs := (F2.binds (ps := ["chain", "state"]) fun _ _ _ _ _ _ us hl => match us, hl with | [_, _], _ => rfl), gRs := PySem.W.mg_of X G a2,
    fR := f3, fdR := _, FR := F3, bR := (F3.binds (ps := ["state", "largest"]) fun _ _ _ _ _ _ us hl => match us, hl with | [_, _], _ => rfl), gR := PySem.W.mg_of X G a3,
    fBo := f4, fdBo := _, FBo := F4, bBo := (F4.binds (ps := ["chain", "limit"]) fun _ _ _ _ _ _ us hl => match us, hl with | [_, _], _ => rfl), gBo := PySem.W.mg_of X G a4,
    fNf := f5, fdNf := _, FNf := F5, bNf := (F5.binds (ps := ["chain", "limit", "reached"]) fun _ _ _ _ _ _ us hl => match us, hl with | [_, _, _], _ => rfl), gNf := PySem.W.mg_of X G a5,
    fLw := f6, fdLw := _, FLw := F6, bLw := (F6.binds (ps := ["chain", "numbers", "size"]) fun _ _ _ _ _ _ us hl => match us, hl with | [_, _, _], _ => rfl), gLw := PySem.W.mg_of X G a6,
    fPn := f7, fdPn := _, FPn := F7, bPn := (F7.binds (ps := ["chain", "limit"]) fun _ _ _ _ _ _ us hl => match us, hl with | [_, _], _ => rfl), gPn := PySem.W.mg_of X G a7,
    fDw := f8, fdDw := _, FDw := F8, bDw := (F8.binds (ps := ["_law_script", "_law_k"]) fun _ _ _ _ _ _ us hl => match us, hl with | [_, _], _ => rfl), gDw := PySem.W.mg_of X G a8,
    fNx := f9, fdNx := _, FNx := F9, bNx := (F9.binds (ps := ["_law_draws_here", "_law_bound"]) fun _ _ _ _ _ _ us hl => match us, hl with | [_, _], _ => rfl), gNx := PySem.W.mg_of X G a9,
    fPk := f10, fdPk := _, FPk := F10, bPk := (F10.binds (ps := ["_law_draws_here", "_law_items"]) fun _ _ _ _ _ _ us hl => match us, hl with | [_, _], _ => rfl), gPk := PySem.W.mg_of X G a10,
    fCc := f11, fdCc := _, FCc := F11, bCc := (F11.binds (ps := ["_law_draws_here", "_law_most", "_law_longest"]) fun _ _ _ _ _ _ us hl => match us, hl with | [_, _, _], _ => rfl), gCc := PySem.W.mg_of X G a11,
    fTo := f12, fdTo := _, FTo := F12, bTo := (F12.binds (ps := ["_law_blocks"]) fun _ _ _ _ _ _ us hl => match us, hl with | [_], _ => rfl), gTo := PySem.W.mg_of X G a12,
    fTh := f13, fdTh := _, FTh := F13, bTh := (F13.binds (ps := ["_law_blocks", "_law_size"]) fun _ _ _ _ _ _ us hl => match us, hl with | [_, _], _ => rfl), gTh := PySem.W.mg_of X G a13,
    fFa := f14, fdFa := _, FFa := F14, bFa := (F14.binds (ps := ["_law_chain_here", "_law_limit", "_law_index", "_law_blocks"]) fun _ _ _ _ _ _ us hl => match us, hl with | [_, _, _, _], _ => rfl), gFa := PySem.W.mg_of X G a14,
    fRi := f15, fdRi := _, FRi := F15, bRi := (F15.binds (ps := ["_law_draws_here"]) fun _ _ _ _ _ _ us hl => match us, hl with | [_], _ => rfl), gRi := PySem.W.mg_of X G a15,
    fLaw := fa, fdLaw := _, FLaw := F16, bLaw := (F16.binds (ps := ["_law_script"]) fun _ _ _ _ _ _ us hl => match us, hl with | [_], _ => rfl), gLaw := PySem.W.mg_of X G a16 }
  exact ⟨PySem.W.fnOf "law" "law" (defArgs (topS 19)) (defBody (topS 19)) (defScope (topS 19)) .none kV16 dc16 pm16 an16 cd16 ct16, fun s v => .of_eq rfl, fun base _ _ => ok_Law (k := 0) Z⟩
end Ph
open PySem PySem.W PyProof.Rows
set_option maxHeartbeats 0 in
theorem PySem.Challenge.cw_pinnedheap_k26_whole_bounds_are_reached_holds : PySem.Challenge.rw_pinnedheap_k26_whole_bounds_are_reached.Holds := by
  w_on; o_law; k_head; (case hw => w_witness2)
  k_fill
  refine L2.walk_of (l := PySem.Challenge.rw_pinnedheap_k26_whole_bounds_are_reached) (n := 63) (k := (0 + 1 + 1 + 1 + 1 + 1 + 1 + 1)) (x := "_law_script") (CX := fun _ => L2.CX0) (sp := fun w => Ph.spLaw _) rfl (by decide) rfl ⟨rfl, by decide, by decide⟩ (fun w h Y => PySem.W.kIn_of Y) ?F (fun _ _ a ns hl _ hS => ⟨a, ns, rfl, hS, hl, fun _ => rfl⟩) (fun _ _ _ _ _ h => h)
  case F =>
    intro w mg fa h KX G hmg
    refine' Ph.all_mk KX G hmg ?a1 ?l1 ?c1 ?k1 ?a2 ?l2 ?c2 ?k2 ?a3 ?l3 ?c3 ?k3 ?a4 ?l4 ?c4 ?k4 ?a5 ?l5 ?c5 ?k5 ?a6 ?l6 ?c6 ?k6 ?a7 ?l7 ?c7 ?k7 ?a8 ?l8 ?c8 ?k8 ?a9 ?l9 ?c9 ?k9 ?a10 ?l10 ?c10 ?k10 ?a11 ?l11 ?c11 ?k11 ?a12 ?l12 ?c12 ?k12 ?a13 ?l13 ?c13 ?k13 ?a14 ?l14 ?c14 ?k14 ?a15 ?l15 ?c15 ?k15 ?a16 ?l16 ?c16 ?k16 ?z1 ?z2 ?z3 ?z4 ?z5 ?z6 ?z7 ?z8 ?z9 ?z10 ?z11 ?z12 ?z13 ?z14 ?z15 ?z16 ?z17 ?z18 ?z19 ?z20 ?z21 ?zd
    (case a1 => k_is); (case l1 => k_is); (case c1 => k_is); (case k1 => k_is); (case a2 => k_is); (case l2 => k_is); (case c2 => k_is); (case k2 => k_is); (case a3 => k_is); (case l3 => k_is); (case c3 => k_is); (case k3 => k_is); (case a4 => k_is); (case l4 => k_is); (case c4 => k_is); (case k4 => k_is); (case a5 => k_is); (case l5 => k_is); (case c5 => k_is); (case k5 => k_is); (case a6 => k_is); (case l6 => k_is); (case c6 => k_is); (case k6 => k_is); (case a7 => k_is); (case l7 => k_is); (case c7 => k_is); (case k7 => k_is); (case a8 => k_is); (case l8 => k_is); (case c8 => k_is); (case k8 => k_is); (case a9 => k_is); (case l9 => k_is); (case c9 => k_is); (case k9 => k_is); (case a10 => k_is); (case l10 => k_is); (case c10 => k_is); (case k10 => k_is); (case a11 => k_is); (case l11 => k_is); (case c11 => k_is); (case k11 => k_is); (case a12 => k_is); (case l12 => k_is); (case c12 => k_is); (case k12 => k_is); (case a13 => k_is); (case l13 => k_is); (case c13 => k_is); (case k13 => k_is); (case a14 => k_is); (case l14 => k_is); (case c14 => k_is); (case k14 => k_is); (case a15 => k_is); (case l15 => k_is); (case c15 => k_is); (case k15 => k_is); (case a16 => k_is); (case l16 => k_is); (case c16 => k_is); (case k16 => k_is); (case z1 => k_is); (case z2 => k_is); (case z3 => k_is); (case z4 => k_is); (case z5 => k_is); (case z6 => k_is); (case z7 => k_is); (case z8 => k_is); (case z9 => k_is); (case z10 => k_is); (case z11 => k_is); (case z12 => k_is); (case z13 => k_is); (case z14 => k_is); (case z15 => k_is); (case z16 => k_is); (case z17 => k_is); (case z18 => k_is); (case z19 => k_is); (case z20 => k_is); (case z21 => k_is); (case zd => k_is)
