import PyProof.Rows.All
import Wide.All
import OpenK.AllK
import Wide.FinOn
import HandS.ForMost
import HandS.SetFor
import HandS.Strs
import HandS.SortInts
import HandS.Conv
import KE.KDictSum
import HandS.ForExc
import HandS.Wide
import HandS.Zip
import HandS.TupAny
import HandS.RaiseMore
import HandS.IsInst
import KE.KIntText
import HandS.SortRule
import HandS.SortKw
import HandS.Star
import KE.DataMinMax
import HandS.SetBool
import HandS.Walk
import KE.GoesEnum
import HandS.TupLe
import HandS.Deep
import PyProof.P3In
import PyProof.ReprRoads
import PyProof.ReprLen
import KE.DatumOrd
import KE.SortData
import KE.LtData
import KE.KTupSum
import HandS.Sort
import KE.KDictList
import HandS.Small
import HandS.Defaults
import HandS.Style
import PyProof.RowDictHeap
import KE.KDictKeyed
import KE.KDictDisplayH
import KE.KDictLaw
import HandS.Dict
import HandS.Iter
import KE.SortCalls
import HandS.ExcValue
import HandS.DictTup
import KE.KDictPairs
import KE.KDictCopyH
import HandS.DictComp
import PyProof.EnumMake
import PyProof.Draws
import KE.KExcIs
import HandS.Exc
import HandS.ExcIs
import HandS.ExcField
import HandS.ExcInit
import HandS.ExcOwn
import HandS.WordsExc
import KE.KRevSl
import HandS.EndTab
import KE.KNest
import PyProof.Lay0
import PyProof.CallFns
import HandS.MakeKwOnly
import HandS.NestedK
import KE.DataMinKey
import KE.KMinKey
import HandS.SlotsOwn
import KE.DatumMoreOrd
import PySem.Challenge.RW_pinnedheap_k86_whole_strategies_against
set_option Elab.async false
set_option linter.all false
set_option maxRecDepth 100000
namespace Ph
open PySem PySem.Spec PyProof.Rows L2
/-! ### set(list of ints): the members, any number of them below the line -/
abbrev sob (w : World) : Obj := { cls := .type "set", dict := none, data := .set #[] 0 (.fresh 0 0 (!w.params.followText "set-order")) }
section
variable {P : Program} {w : World} {A : Around} {E : Value → Shared → Prop} {s : Shared}
end
section
variable {X : Cx}
/-- set(xs), xs a list of ints -/
def rSetI (K : PySem.W.Frag) (w : World) : List V → Hp → VK → Prop := fun vs H Q => ∃ (l : Addr) (ns : List Int), vs = [V.ref l] ∧ SqL K H l (ns.map V.int) ∧ ns.length + 1 < scanBound ∧
  ∀ a c, H a = none → (ns.Nodup → c = ns.length) → Q (.ref a) (upd H a (SetO w a (fun j => decide (j ∈ ns)) c))
end
end Ph

namespace Ph
open PySem PySem.Spec PyProof.Rows L2
section
variable {P : Program} {w : World} {A : Around} {E : Value → Shared → Prop} {s : Shared}
end
section
variable {X : Cx}
def rSortedS2 (w : World) : List V → Hp → VK → Prop := fun vs H Q => ∃ (a : Addr) (S : Int → Bool) (n : Nat), vs = [V.ref a] ∧ H a = some (SetO w a S n) ∧
  ∀ (ns : List Int) (p : Addr), ns.Pairwise (· < ·) → (∀ k : Int, k ∈ ns ↔ S k = true) → H p = none → Q (.ref p) (upd H p (.lst (ns.map V.int)))
/-- len(set of ints) -/
def rLenSet (w : World) : List V → Hp → VK → Prop := fun vs H Q => ∃ (a : Addr) (S : Int → Bool) (n : Nat), vs = [V.ref a] ∧ H a = some (SetO w a S n) ∧ Q (.int n) H
/-- t.index(k), a tuple of ints: the first place -/
theorem flat_ints (ys : List Int) : (ys.map V.int).all flatV = true := by
  rw [List.all_map]
  exact List.all_eq_true.mpr fun _ _ => rfl
theorem mt_tindexI : MtR X "tuple.index" (fun x xs H Q => ∃ p, ∃ ys : List Int, ∃ z j, x = .ref p ∧ xs = [.int z] ∧ SqT X.K H p (ys.map V.int) ∧ ys[j]? = some z ∧ (∀ m, m < j → ys[m]? ≠ some z) ∧ Q (.int (j : Nat)) H) := by
  intro pins s σ H x xs v us Q I rx rs h
  obtain ⟨p, ys, z, j, rfl, rfl, hq, hy, hno, q⟩ := h
  cases rx
  obtain ⟨u, rfl, t, rfl⟩ := vals1 rs
  obtain ⟨its, r, ⟨⟨cls, dd, dt, sl⟩, ho, hc, n, hd⟩, hz⟩ := I.tuple hq
  cases hc
  cases hd
  have len : its.toArray.size = ys.length := by rw [List.size_toArray, ← r.length, List.length_map]
  have at' : ∀ (m : Nat) (hm : m < its.toArray.size), ∃ y t', ys[m]? = some y ∧ its.toArray[m] = Value.int y t' := fun m hm => by
    have hm' : m < ys.length := len ▸ hm
    obtain ⟨w, hw, t', hw'⟩ := r.get (i := m) (x := .int ys[m]) (by simp [hm'])
    refine ⟨ys[m], t', List.getElem?_eq_getElem hm', ?_⟩
    rw [← hw', ← (List.getElem?_eq_some_iff.mp hw).2]
    simp
  have hj : j < its.toArray.size := by rw [len]; exact (List.getElem?_eq_some_iff.mp hy).1
  refine call_meets PySem.F.slot_tuple_index ⟨_, ho, rfl⟩ PySem.F.entry_tuple_index (PySem.F.args_tuple_index_2 _ _) (TI.tuple_indexAt p its.toArray n dd sl (.int z t) (eqU (.int z)) j hj ?_ ?_)
    ⟨ho, fun w hw => mem_eqAt (x := .int z) ⟨t, rfl⟩ rfl r (flat_ints ys) w (by simpa using hw), ⟨.int (j : Nat), H, I.tok _, ⟨_, rfl⟩, q⟩⟩
  · obtain ⟨y, t', h1, h2⟩ := at' j hj
    rw [hy] at h1
    cases h1
    rw [h2]
    show decide (z = z) = true
    exact decide_eq_true rfl
  · intro m hm hmj
    obtain ⟨y, t', h1, h2⟩ := at' m hm
    rw [h2]
    show decide (y = z) = false
    exact decide_eq_false fun e => hno m hmj (e ▸ h1)
end
end Ph

namespace Ph
open PySem PySem.Spec PyProof.Rows L2
/-! ### a tuple whose object is known: it has no dict of its own, so its methods can be called -/
def ChAt (H : Hp) (c : Addr) (C : List Int) : Prop := ∃ o : Obj, o.dict = none ∧ H c = some (.frz o (.tup (C.map V.int)))
theorem ChAt.sq {K : PySem.W.Frag} {H : Hp} {c : Addr} {C : List Int} (h : ChAt H c C) : SqT K H c (C.map V.int) := let ⟨o, _, e⟩ := h; .inl (.inr ⟨o, e⟩)
theorem ChAt.keep {H H' : Hp} {c : Addr} {C : List Int} (h : ChAt H c C) (s : ∀ b o, H b = some o → H' b = some o) : ChAt H' c C := let ⟨o, d, e⟩ := h; ⟨o, d, s _ _ e⟩
section
variable {X : Cx}
variable {o e : Expr} {es : List Expr} {to : TE} {t : TA} {apos cpos : Pos} {name : Str} {id : String} {r : V → List V → Hp → VK → Prop}
/-- c.m(..), c such a tuple -/
def tBT (r : V → List V → Hp → VK → Prop) (to : TE) (t : TA) : TE := fun σ H Q => to σ H fun x H1 => (∃ c C, x = .ref c ∧ ChAt H1 c C) ∧ t σ H1 fun xs H2 => r x xs H2 Q
theorem pe_bmT (slot : Slot "tuple" name id) (hty : typeOf (.builtin id) = pure (.type "method_descriptor")) (hm : MtR X id r) (ho : PE X o to) (ha : PA X (e :: es) t)
    (hbase : attributeBase o name X.env (eval o X.env) = eval o X.env := by rfl)
    (hfew : ((backTo cpos (starEach (e :: es) X.env)).all (fun x => !x.1) && (backToKw cpos (keywordEach [] X.env)).all (fun x => x.1.isSome) && decide ((e :: es).length + ([] : List Keyword).length + (if ([] : List Keyword).isEmpty then 0 else 1) < 30)) = true := by rfl)
    (hline : (apos.endLine == cpos.line) = true := by rfl) (hse : starEach (e :: es) X.env = (false, eval e X.env) :: starEach es X.env := by rfl) (hpl : (backTo cpos (starEach es X.env)).any (·.1) = false := by rfl) :
    PE X (.Call (.Attribute o name apos) (e :: es) [] cpos) (tBT r to t) := ⟨fun pins s σ H Q I h => by
  refine wpAny_Call_method_late hbase hfew hline rfl (thn (ho.run pins s σ H _ I h) fun v s1 ⟨x, H1, I1, r1, ⟨c, C, ex, oc, od, hc⟩, q1⟩ => ?_)
  subst ex
  cases r1
  obtain ⟨g, _, its, _, ⟨u, hu, hcl, _⟩⟩ := I1.hok c _ hc
  rw [g] at hu
  cases hu
  have hA := ha.run cpos pins s1 σ H1 _ I1 q1
  refine ⟨"tuple", id, PySem.F.plainAttrs_tuple, slot, hty, ⟨oc, g, hcl⟩, fun a z => by cases z; exact ⟨oc, g, od⟩, ?_⟩
  rw [hse] at hA ⊢
  refine Calls.callWith_builtin (by show (false || (backTo cpos (starEach es X.env)).any (·.1)) = false; rw [hpl]; rfl) (Calls.evalArgs_plain (thn hA fun us s2 ⟨vs, H2, I2, r2, q2⟩ => hm pins s2 σ H2 (.ref c) vs (.ref c) us Q I2 rfl r2 q2))⟩
end
end Ph

namespace Ph
open PySem PySem.Spec PyProof.Rows L2 PySem.NumText PySem.Calls
/-! ### the limit on digits stands as it was at the beginning -/
/-! ### int(text) of more than 640 digits -/
def big9 : PySem.Str := (Str.ofString "1") ++ Txt.mul (Str.ofString "0") 900
theorem reps_list (c : Nat) : ∀ (k : Nat) (acc : Array Nat), ((List.replicate k (#[c] : Array Nat)).foldl (· ++ ·) acc).toList = acc.toList ++ List.replicate k c
  | 0, acc => by simp
  | k + 1, acc => by
    rw [List.replicate_succ, List.foldl_cons, reps_list c k, List.replicate_succ]
    simp
theorem zeros_list : (Txt.mul (Str.ofString "0") 900).cps.toList = List.replicate 900 48 := by
  have e : Txt.mul (Str.ofString "0") 900 = ⟨(List.replicate 900 (#[48] : Array Nat)).foldl (· ++ ·) #[]⟩ := by
    unfold Txt.mul
    rw [if_neg (by decide), if_neg (by decide +kernel)]
    rfl
  rw [e]
  exact reps_list 48 900 #[]
theorem big9_list : big9.cps.toList = 49 :: List.replicate 900 48 := by
  have e : big9.cps.toList = (Str.ofString "1").cps.toList ++ (Txt.mul (Str.ofString "0") 900).cps.toList := Array.toList_append
  rw [e, zeros_list]
  rfl
theorem big9_digits : AllDigits big9.cps.toList := by
  rw [big9_list]
  intro d hd
  rcases List.mem_cons.mp hd with e | e
  · subst e; decide
  · rw [(List.mem_replicate.mp e).2]; decide
theorem digits_zeros : ∀ (k a : Nat), (List.replicate k 48).foldl (fun acc c => acc * 10 + (c - 48)) a = a * 10 ^ k
  | 0, a => by simp
  | k + 1, a => by
    rw [List.replicate_succ, List.foldl_cons, digits_zeros k, Nat.pow_succ]
    show (a * 10 + 0) * 10 ^ k = a * (10 ^ k * 10)
    rw [Nat.add_zero, Nat.mul_assoc, Nat.mul_comm 10 (10 ^ k)]
theorem big9_val : digitsVal big9.cps.toList = 10 ^ 900 := by
  rw [big9_list]
  unfold digitsVal
  rw [List.foldl_cons, digits_zeros]
  show (0 * 10 + 1) * 10 ^ 900 = 10 ^ 900
  rw [Nat.zero_mul, Nat.zero_add, Nat.one_mul]
theorem big9_length : big9.length = 901 := by
  have e : big9.cps.toList.length = big9.length := Array.length_toList
  rw [← e, big9_list, List.length_cons, List.length_replicate]
theorem ten_ex : ∃ t : Int, intText? big9 = some t ∧ 0 < t ∧ t.natAbs < 2 ^ 3000 := by
  refine ⟨_, intText_digits big9_digits (by rw [big9_list]; exact List.cons_ne_nil _ _) (by rw [big9_length]; decide), ?_, ?_⟩
  · rw [big9_val]
    exact Int.natCast_pos.mpr (Nat.pow_pos (by decide))
  · rw [big9_val, Int.natAbs_natCast]
    decide +kernel
noncomputable def ten9 : Int := Classical.choose ten_ex
section
variable {X : Cx}
theorem ip_mulW : PIp X .Mult (fun x y H Q => ∃ i j, x = .int i ∧ y = .int j ∧ CMulW i j ∧ Q (.int (i * j)) H) := by
  intro pins s σ H x y v u Q I r1 r2 h
  obtain ⟨i, j, e1, e2, hc, q⟩ := h
  subst e1; subst e2
  obtain ⟨t, rfl⟩ := r1
  obtain ⟨t', rfl⟩ := r2
  exact imul_int ⟨.int _, H, I.tok _, ⟨_, rfl⟩, q⟩ hc.ok
end
end Ph

namespace Ph
open PySem PySem.Spec PyProof.Rows L2 PySem.Calls
section
variable {X : Cx}
/-- d.update(e), both tracked dicts -/
def rDUp : V → List V → Hp → VK → Prop := fun x vs H Q => ∃ (a b : Addr) (ks ls : List (Key × V)), x = .ref a ∧ vs = [.ref b] ∧ a ≠ b ∧ H a = some (.dK ks) ∧ H b = some (.dK ls) ∧ ks.length + ls.length ≤ sizeLine ∧ Q .non (upd H a (.dK (mergeK ks ls)))
end
/-- which ints are keys -/
def hasI (kvs : List (Key × V)) (i : Int) : Bool := (valV kvs (Sum.inl i)).isSome
end Ph

namespace Ph
open PySem PySem.Spec PyProof.Rows L2
/-! ### max(ints, default=d) -/
def mxd (d : Int) : List Int → Int
  | [] => d
  | n :: r => r.foldl max n
section
variable {X : Cx}
def rMaxDf (K : PySem.W.Frag) : List V → List V → Hp → VK → Prop := fun xs zs H Q => ∃ (l : Addr) (ns : List Int) (d : Int), xs = [.ref l] ∧ zs = [.int d] ∧ SqL K H l (ns.map V.int) ∧ Q (.int (mxd d ns)) H
/-! ### list(range(a, b, c)) -/
def rg3 (i c : Int) (n : Nat) : List Int := (List.range n).map fun (t : Nat) => i + (t : Int) * c
def tLst3 (ta : TA) : TE := fun σ H Q => ta σ H fun vs H1 => ∃ (i j c : Int) (n : Nat), vs = [.int i, .int j, .int c] ∧ RgC i j c n ∧ n ≤ 2 ^ 24 ∧ ∀ q, H1 q = none → Q (.ref q) (upd H1 q (.lst ((rg3 i c n).map V.int)))
theorem vals_rg3 {i c : Int} {n : Nat} {acc : Array Value} (h : ItemsOf (fun j v => ∃ t, v = .int (i + j * c) t) acc n) : Vals ((rg3 i c n).map V.int) acc.toList := by
  have e : acc.toList.length = n := by rw [Array.length_toList]; exact h.1
  unfold rg3
  rw [List.map_map, ← e]
  refine vals_of_get acc.toList _ fun j u hj => ?_
  obtain ⟨t, rfl⟩ := h.2 j u (by rw [← hj, Array.getElem?_toList])
  exact ⟨t, rfl⟩
theorem pe_listRg3 {a b c : Expr} {ta : TA} {p p2 pos pos2 : Pos} (hc : X.calm = true) (hg : Gl X "list") (hm : X.mg "list" = none) (hg2 : Gl X "range") (hm2 : X.mg "range" = none) (ha : PA X [a, b, c] ta)
    (na : starEach [Expr.Call (.Name "range" p2) [a, b, c] [] pos2] X.env = (false, eval (Expr.Call (.Name "range" p2) [a, b, c] [] pos2) X.env) :: starEach [] X.env := by rfl)
    (hs : starEach [a, b, c] X.env = (false, eval a X.env) :: starEach [b, c] X.env := by rfl) (hpl : (backTo pos2 (starEach [b, c] X.env)).any (·.1) = false := by rfl) :
    PE X (.Call (.Name "list" p) [.Call (.Name "range" p2) [a, b, c] [] pos2] [] pos) (tLst3 ta) := by
  refine ⟨fun pins s σ H Q I h => ?_⟩
  refine Call_ (ld_blt I hg hm boot_list (PyProof.Rows.callWith_type1 (args_cons ?_ na) na))
  refine Call_ (ld_blt I hg2 hm2 boot_range (PyProof.Rows.callWith_type1 (thn (ha.run pos2 pins s σ H _ I h) fun us s1 ⟨vs, H1, I1, r1, i, j, k, n, e, ⟨c0, c1, c2, c3⟩, hn, q⟩ => ?_) hs hpl))
  subst e
  obtain ⟨t1, t2, t3, rfl⟩ : ∃ t1 t2 t3, us = [Value.int i t1, .int j t2, .int k t3] := by
    cases r1 with
    | cons ra rr =>
      cases rr with
      | cons rb rr =>
        cases rr with
        | cons rd rr =>
          cases rr
          obtain ⟨t1, rfl⟩ := ra
          obtain ⟨t2, rfl⟩ := rb
          obtain ⟨t3, rfl⟩ := rd
          exact ⟨t1, t2, t3, rfl⟩
  · skip
    refine call_range_3 c0 (args_nil ?_) (.inl (PyProof.noPylong_small c1))
    have I2 : Inv X pins σ H1 { s1 with heap := s1.heap.push { cls := .type "range", data := .fields #[.int i t1, .int j t2, .int k t3] } } := I1.kept (t' := s1.toks) fun b o e => Heap.get?_push_of_some _ e
    refine call_list_range (n := n) (I2.ok.hd hc) (IsRange.new ..) c2 c3 hn fun g tk acc cc keep at' it => ?_
    refine ⟨.ref _, upd H1 _ (.lst ((rg3 i k n).map V.int)), I2.laid (t' := tk) keep (Nat.le_refl _) ⟨?_, acc.toList, cc, vals_rg3 it, ?_⟩, rfl, q _ (I2.hok.fresh (Nat.le_refl _))⟩
    · unfold rg3
      rw [List.length_map, List.length_map, List.length_range, sizeLine_eq]
      omega
    · rw [Array.toArray_toList]; exact at'
end
end Ph

set_option maxHeartbeats 2000000
namespace Ph
open PySem PySem.Spec PyProof.Rows L2
/-! ### {e for x in xs}, e an int -/
abbrev TurnI (w : World) (D : Addr) (te : TE) (σ2 : L2.St) (H3 : Hp) (Nx : Hp → Prop) : Prop :=
  te σ2 H3 fun y H4 => ∃ (c : Int) (S : Int → Bool) (n : Nat), y = .int c ∧ H4 D = some (SetO w D S n) ∧ n + 1 < scanBound ∧ Nx (upd H4 D (SetO w D (fun j => S j || decide (j = c)) (if S c = true then n else n + 1)))
def tScI (w : World) (wi : TI) (g : TG) (tt : TT) (te : TE) (vs : List Nat) : TE := fun σ H Q => wi σ H fun J H1 => ∀ D, H1 D = none → ∃ W : Nat → Nat → Hp → Prop, (∃ m, W 0 m (upd H1 D (SetO w D (fun _ => false) 0))) ∧ ∀ i m H, W i m H →
  (J.stop i H ∧ Q (.ref D) H) ∨ (J.go i H ∧ ∃ Nx : Hp → Prop, (∀ H', Nx H' → ∃ m', m' < m ∧ W (i + 1) m' H') ∧ ∀ x H', J.yld i H x H' → g x (wipe σ vs) H' fun σ2 H2 => wipe σ2 vs = wipe σ vs ∧ tt σ2 H2 fun b H3 => if b = true then TurnI w D te σ2 H3 Nx else Nx H3)
section
variable {X : Cx}
abbrev BlkG (X : Cx) (scope : Scope) (F : Cx → Prop) : Prop := ∀ (s : Shared) (H : Hp) (C : Addr) (cl : List (PySem.Str × Addr)) (fp : List Addr), F (X.blk s H scope (compEnvC scope cl C X.env) fp)
end
end Ph

namespace Ph
open PySem PySem.Spec PyProof.Rows L2
/-! ### comprehensions whose steps leave the heap as it is -/
section
variable {K : PySem.W.Frag} {a : Addr} {xs : List V} {g : TG} {tt : TT} {te : TE} {vs : List Nat} {σ : L2.St} {H1 : Hp} {D : Addr} {Qd : Hp → Prop}
abbrev Stp (g : TG) (tt : TT) (te : TE) (vs : List Nat) (σ : L2.St) (H1 : Hp) (f : V → Option V) (x : V) : Prop :=
  ∀ H, (∀ b o, H1 b = some o → H b = some o) → ∀ (Y : V → Hp → Prop) (N : Hp → Prop), (∀ y, f x = some y → Y y H) → (f x = none → N H) →
    g x (wipe σ vs) H fun σ2 H2 => wipe σ2 vs = wipe σ vs ∧ tt σ2 H2 fun b H3 => if b = true then te σ2 H3 Y else N H3
theorem take_filterMap {α β : Type} (f : α → Option β) {l : List α} {i : Nat} {x : α} (h : l[i]? = some x) : (l.take (i + 1)).filterMap f = (l.take i).filterMap f ++ (f x).toList := by
  rw [List.take_add_one, h, List.filterMap_append]
  congr 1
theorem fm_len {α β : Type} (f : α → Option β) (l : List α) (i : Nat) : ((l.take i).filterMap f).length ≤ l.length := by
  refine Nat.le_trans (List.length_filterMap_le _ _) ?_
  rw [List.length_take]
  omega
theorem lc_tupF (f : V → Option V) (ht : SqT K H1 a xs) (nD : H1 D = none) (hlen : xs.length < sizeLine) (hs : ∀ x ∈ xs, Stp g tt te vs σ H1 f x) (hd : ∀ H, (∀ b o, H1 b = some o → H b = some o) → H D = some (.lst (xs.filterMap f)) → Qd H) :
    ∃ W : Nat → Nat → Hp → Prop, (∃ m, W 0 m (upd H1 D (.lst []))) ∧ ∀ i m H, W i m H →
      ((Itt K a).stop i H ∧ Qd H) ∨ ((Itt K a).go i H ∧ ∃ Nx : Hp → Prop, (∀ H', Nx H' → ∃ m', m' < m ∧ W (i + 1) m' H') ∧ ∀ x H', (Itt K a).yld i H x H' → g x (wipe σ vs) H' fun σ2 H2 => wipe σ2 vs = wipe σ vs ∧ tt σ2 H2 fun b H3 =>
        if b = true then te σ2 H3 fun y H4 => ∃ acc, H4 D = some (.lst acc) ∧ acc.length < sizeLine ∧ Nx (upd H4 D (.lst (acc ++ [y]))) else Nx H3) := by
  refine lc_tup (K := K) (a := a) (xs := xs) (fun i H => (∀ b o, H1 b = some o → H b = some o) ∧ H D = some (.lst ((xs.take i).filterMap f))) ⟨fun b o e => ?_, ?_⟩ (fun i H _ p => ?_) (fun i x H hx p => ?_) (fun H p => ?_)
  · rw [upd_ne (ne_of_none e nD)]; exact e
  · rw [upd_same]; rfl
  · rcases ht with (h | ⟨o, h⟩) | h
    · exact .inl (.inl (p.1 _ _ h))
    · exact .inl (.inr ⟨o, p.1 _ _ h⟩)
    · exact .inr h
  · refine hs x (List.mem_of_getElem? hx) H p.1 _ _ (fun y ey => ⟨_, p.2, Nat.lt_of_le_of_lt (fm_len f xs i) hlen, fun b o e => ?_, ?_⟩) fun en => ⟨p.1, ?_⟩
    · rw [upd_ne (ne_of_none e nD)]; exact p.1 _ _ e
    · rw [upd_same, take_filterMap f hx, ey]; rfl
    · rw [take_filterMap f hx, en]; simpa using p.2
  · refine hd H p.1 ?_
    have := p.2
    rwa [List.take_of_length_le (Nat.le_refl _)] at this
end
end Ph

namespace Ph
open PySem PySem.Spec PyProof.Rows L2
/-! ### zip of a tuple and a list, in any mix (true: a tuple) -/
def SqK (k : Bool) (K : PySem.W.Frag) (H : Hp) (a : Addr) (xs : List V) : Prop := if k = true then SqT K H a xs else SqL K H a xs
def ItrK (k : Bool) (g : Heap) (j l : Addr) (n : Nat) : Prop := if k = true then g.IsTupleIter j l n else g.IsListIter j l n
def SeqK (k : Bool) (g : Heap) (l : Addr) (vs : Array Value) : Prop := if k = true then g.IsTuple l vs else g.IsList l vs
def itoK (k : Bool) (l : Addr) : Obj := if k = true then { cls := .type "tuple_iterator", data := .fields #[.ref l, .int 0 0] } else { cls := .type "list_iterator", data := .fields #[.ref l, .int 0 0] }
theorem ItrK.obj {k : Bool} {g : Heap} {j l : Addr} {n : Nat} (h : ItrK k g j l n) : ∃ o, g.get? j = some o ∧ ∀ v, o.data ≠ .cell v := by
  cases k <;> (obtain ⟨o, e, _, d⟩ := h; exact ⟨o, e, fun v q => by rw [d] at q; cases q⟩)
theorem ItrK.on {k : Bool} {g g' : Heap} {j l : Addr} {n : Nat} (h : ItrK k g j l n) (e : ∀ o, g.get? j = some o → g'.get? j = some o) : ItrK k g' j l n := by
  cases k
  · exact Heap.IsListIter.at h e
  · exact Heap.IsTupleIter.at h e
theorem drawK {P : Program} {w : World} {A : Around} (k : Bool) (hh : A.handled = none) (j l : Addr) (ne : l ≠ j) (vs : Array Value) :
    Draws P w A j [j, l] vs.size (fun i v => vs[i]? = some v) (fun i g => ItrK k g j l i ∧ SeqK k g l vs) := by
  cases k
  · exact Draws.list hh j l ne vs
  · exact Draws.tuple hh j l ne vs
theorem beginK (k : Bool) (l : Addr) (vs : Array Value) : Begins (.ref l) (itoK k l) fun g => SeqK k g l vs := by
  cases k
  · exact begins_list l vs
  · exact begins_tuple l vs
theorem itoK_it {k : Bool} {g : Heap} {j l : Addr} (h : g.get? j = some (itoK k l)) : ItrK k g j l 0 := by
  cases k <;> exact ⟨_, h, rfl, rfl⟩
theorem Inv.seqK {X : Cx} {pins : List (Addr × Obj)} {σ : L2.St} {H : Hp} {s : Shared} {k : Bool} {a : Addr} {xs : List V} (I : Inv X pins σ H s) (h : SqK k X.K H a xs) : ∃ vs : List Value, Vals xs vs ∧ SeqK k s.heap a vs.toArray ∧ a < s.heap.objs.size := by
  cases k
  · obtain ⟨vs, r, p, _⟩ := I.list h
    exact ⟨vs, r, p.isList, p.lt⟩
  · obtain ⟨vs, r, p, _⟩ := I.tuple h
    obtain ⟨o, e, _⟩ := id p
    exact ⟨vs, r, p, Heap.lt_size e⟩
theorem Inv.seqK_inj {X : Cx} {pins : List (Addr × Obj)} {σ : L2.St} {H : Hp} {s : Shared} {k : Bool} {a : Addr} {xs ys : List V} (I : Inv X pins σ H s) (h : SqK k X.K H a xs) (h2 : SqK k X.K H a ys) : xs = ys := by
  cases k
  · exact I.list_inj h h2
  · exact I.tuple_inj h h2
def ItzK (k1 k2 : Bool) (K : PySem.W.Frag) (a b : Addr) : It :=
  ⟨fun i H => ∃ (xs ys : List V) (x y : V), SqK k1 K H a xs ∧ SqK k2 K H b ys ∧ xs[i]? = some x ∧ ys[i]? = some y,
    fun i H v H2 => ∃ T x y, v = .ref T ∧ H T = none ∧ H2 = upd H T (.tup [x, y]) ∧ (∀ xs, SqK k1 K H a xs → xs[i]? = some x) ∧ ∀ ys, SqK k2 K H b ys → ys[i]? = some y,
    fun i H => ∃ xs ys : List V, SqK k1 K H a xs ∧ SqK k2 K H b ys ∧ i ≤ xs.length ∧ i ≤ ys.length ∧ (i = xs.length ∨ i = ys.length)⟩
theorem mem5 {c z t u j1 j2 : Addr} (h : c ∈ [z, t, u, j1, j2]) : c = z ∨ c = t ∨ c = u ∨ c = j1 ∨ c = j2 := by simpa using h
theorem turn_zipK {P : Program} {w : World} {K : PySem.W.Frag} {es : List Expr} {kk : Nat} {tp : Pos} {k1 k2 : Bool} {a b z t u j1 j2 : Addr} (D : ZipSep2 z t u j1 j2 [j1, a] [j2, b]) (n1 : a ≠ j1) (n2 : b ≠ j2) :
    Turn P w K (.Tuple es kk tp) (ItzK k1 k2 K a b) [z, t, u, j1, j2] z (fun i g => IsZip g z t u .none ∧ IsTupOf2 g t (.ref j1) (.ref j2) ∧ (∃ x y, IsTupOf2 g u x y) ∧ ItrK k1 g j1 a i ∧ ItrK k2 g j2 b i) where
  mem := List.mem_cons_self ..
  obj := fun i g st c hc => by
    obtain ⟨hz, ht, ⟨x, y, hu⟩, h1, h2⟩ := st
    rcases mem5 hc with rfl | rfl | rfl | rfl | rfl
    · exact ⟨_, hz, fun v q => nomatch q⟩
    · exact ⟨_, ht, fun v q => nomatch q⟩
    · exact ⟨_, hu, fun v q => nomatch q⟩
    · exact h1.obj
    · exact h2.obj
  keep := fun i g g2 st kp => by
    obtain ⟨hz, ht, ⟨x, y, hu⟩, h1, h2⟩ := st
    exact ⟨kp z (by simp) _ hz, kp t (by simp) _ ht, ⟨x, y, kp u (by simp) _ hu⟩, h1.on fun o => kp j1 (by simp) o, h2.on fun o => kp j2 (by simp) o⟩
  item := by
    intro X eP ew eK hc i pins s σ H E I hf st hg
    subst eP ew eK
    obtain ⟨hz, ht, ⟨x0, y0, hu⟩, h1, h2⟩ := st
    obtain ⟨xs, ys, x, y, qx, qy, gx, gy⟩ := hg
    obtain ⟨vs, r1, p1, _⟩ := Inv.seqK I qx
    obtain ⟨vt, r2, p2, _⟩ := Inv.seqK I qy
    obtain ⟨v1, gv1, rv1⟩ := r1.get gx
    obtain ⟨v2, gv2, rv2⟩ := r2.get gy
    have zl : z < s.heap.objs.size := Heap.lt_size hz
    have l1 : i < vs.toArray.size := by
      have := (List.getElem?_eq_some_iff.mp gv1).1
      simpa using this
    have l2 : i < vt.toArray.size := by
      have := (List.getElem?_eq_some_iff.mp gv2).1
      simpa using this
    have hh : X.A.in1.handled = none := I.ok.hd hc
    refine wpAny_pyNext_zipD2_item D (drawK k1 hh j1 a n1 vs.toArray) (drawK k2 hh j2 b n2 vt.toArray) hz ht hu ⟨h1, p1⟩ ⟨h2, p2⟩ l1 l2 fun y1 y2 g tk e1 e2 hz1 hu1 st1 st2 hT hsz hk => ?_
    have f1 : y1 = v1 := by
      have q : vs.toArray[i]? = some v1 := by simpa using gv1
      rw [q] at e1
      exact (Option.some.inj e1).symm
    have f2 : y2 = v2 := by
      have q : vt.toArray[i]? = some v2 := by simpa using gv2
      rw [q] at e2
      exact (Option.some.inj e2).symm
    subst f1 f2
    refine ⟨_, rfl, wpAny_letOwnedTupleGo_zip (s := { s with heap := g, toks := tk }) hz1 fun g2 hz2 sb => ?_⟩
    have hT2 : g2.get? s.heap.objs.size = some { cls := .type "tuple", data := .seq #[y1, y2] } := (sb.2 _ (Nat.ne_of_gt zl)).trans hT
    have new : ObjOk X.prog X.w (upd H s.heap.objs.size (.tup [x, y])) g2 s.heap.objs.size (.tup [x, y]) :=
      ⟨(by show 2 ≤ sizeLine; decide), [y1, y2], .cons rv1 (.cons rv2 .nil), ⟨_, hT2, rfl, _, rfl⟩⟩
    have I1 : Inv X pins σ (upd H s.heap.objs.size (.tup [x, y])) { s with heap := g2, toks := tk } :=
      I.turnedNew (t' := tk) (ch := [z, t, u, j1, j2]) (fun c o nb q => (sb.2 c (fun e => nb (by simp [e]))).trans (hk c o (fun e => nb (by simp [e])) (fun e => nb (by simp [e])) (fun e => nb (by simp [e])) (fun e => nb (by simp [e])) q)) hf (Nat.le_refl _) new
    refine ⟨.ref s.heap.objs.size, _, I1, rfl, ⟨_, x, y, rfl, I.hok.fresh (Nat.le_refl _), rfl, fun l hl => by rw [Inv.seqK_inj I hl qx]; exact gx, fun l hl => by rw [Inv.seqK_inj I hl qy]; exact gy⟩, ⟨hz2, ?_, ⟨y1, y2, ?_⟩, ?_, ?_⟩, fun c hm => ?_⟩
    · exact (sb.2 _ D.TIz).trans (hk _ _ D.TIz D.TITO D.TIi1 D.TIi2 ht)
    · exact (sb.2 _ D.TOz).trans hu1
    · exact st1.1.on fun o q => (sb.2 _ D.zi1.symm).trans q
    · exact st2.1.on fun o q => (sb.2 _ D.zi2.symm).trans q
    · have lt : c < s.heap.objs.size := by
        rcases mem5 hm with rfl | rfl | rfl | rfl | rfl
        · exact zl
        · exact Heap.lt_size ht
        · exact Heap.lt_size hu
        · obtain ⟨_, e, _⟩ := h1.obj
          exact Heap.lt_size e
        · obtain ⟨_, e, _⟩ := h2.obj
          exact Heap.lt_size e
      rw [upd_ne (Nat.ne_of_lt lt)]
      exact (hf c hm).1
  done := by
    intro X eP ew eK hc i pins s σ H E I hf st hg
    subst eP ew eK
    obtain ⟨hz, ht, ⟨x0, y0, hu⟩, h1, h2⟩ := st
    obtain ⟨xs, ys, qx, qy, le1, le2, hend⟩ := hg
    obtain ⟨vs, r1, p1, _⟩ := Inv.seqK I qx
    obtain ⟨vt, r2, p2, _⟩ := Inv.seqK I qy
    have m1 := r1.length
    have m2 := r2.length
    have hh : X.A.in1.handled = none := I.ok.hd hc
    have s1 : vs.toArray.size = xs.length := by simp [m1]
    have s2 : vt.toArray.size = ys.length := by simp [m2]
    exact wpAny_pyNext_zipD2_end D (drawK k1 hh j1 a n1 vs.toArray) (drawK k2 hh j2 b n2 vt.toArray) hz ht hu ⟨h1, p1⟩ ⟨h2, p2⟩ (by rw [s1]; exact le1) (by rw [s2]; exact le2) (by rw [s1, s2]; exact hend) fun g tk hk =>
      ⟨rfl, I.turnedL (t' := tk) (ch := [z, t, u, j1, j2]) (fun c o nb q => hk c o (fun e => nb (by simp [e])) (fun e => nb (by simp [e])) (fun e => nb (by simp [e])) (fun e => nb (by simp [e])) q) hf⟩
  self := fun A i s Q E st h => wpAny_pyIter_zip st.1 h
def iZipK (k1 k2 : Bool) (K : PySem.W.Frag) (ta : TA) : TI := fun σ H R => ta σ H fun us H1 => ∃ a b xs ys, us = [.ref a, .ref b] ∧ SqK k1 K H1 a xs ∧ SqK k2 K H1 b ys ∧ R (ItzK k1 k2 K a b) H1
theorem pi_zipK {k1 k2 : Bool} {X : Cx} {e e2 : Expr} {ta : TA} {p pos tp : Pos} {es : List Expr} {kk : Nat} (hg : Gl X "zip") (hm : X.mg "zip" = none) (ha : PA X [e, e2] ta)
    (hs : starEach [e, e2] X.env = (false, eval e X.env) :: starEach [e2] X.env := by rfl) (hp : (backTo pos (starEach [e2] X.env)).any (·.1) = false := by rfl) :
    L2.PI X (.Tuple es kk tp) (.Call (.Name "zip" p) [e, e2] [] pos) (iZipK k1 k2 X.K ta) := by
  refine ⟨fun pins s σ H R I h => ?_⟩
  refine Call_ (ld_blt I hg hm PyProof.Rows.boot_zip (PyProof.Rows.callWith_type1 (thn (ha.run pos pins s σ H _ I h) fun us s1 ⟨vs, H1, I1, rs, q1⟩ => ?_) hs hp))
  obtain ⟨a, b, xs, ys, rfl, qx, qy, q⟩ := q1
  cases rs with
  | cons r rr =>
    cases rr with
    | cons r2 rr =>
      cases rr
      cases r
      cases r2
      obtain ⟨va, _, p1, la⟩ := Inv.seqK I1 qx
      obtain ⟨vb, _, p2, lb⟩ := Inv.seqK I1 qy
      refine zip_begins2 (beginK k1 a va.toArray) (beginK k2 b vb.toArray) p1 p2 fun g hz ht hu g1 g2 hsz hk => wpAny_pyIter_zip hz ?_
      have I2 : Inv X pins σ H1 { s1 with heap := g } := I1.kept (t' := s1.toks) hk
      refine ⟨s1.heap.objs.size + 4, [s1.heap.objs.size + 4, s1.heap.objs.size + 2, s1.heap.objs.size + 3, s1.heap.objs.size, s1.heap.objs.size + 1], _, _, H1, rfl, I2, turn_zipK (k1 := k1) (k2 := k2) (zip_sep2 (fp1 := [a]) (fp2 := [b]) ?_ ?_) ?_ ?_, ⟨hz, ht, ⟨_, _, hu⟩, itoK_it g1, itoK_it g2⟩, fun c hm => ?_, q⟩
      · intro c hcm
        rw [List.mem_singleton.mp hcm]
        exact la
      · intro c hcm
        rw [List.mem_singleton.mp hcm]
        exact lb
      · exact Nat.ne_of_lt la
      · exact Nat.ne_of_lt (Nat.lt_succ_of_lt lb)
      · have le : s1.heap.objs.size ≤ c := by
          rcases mem5 hm with rfl | rfl | rfl | rfl | rfl <;> first | exact Nat.le_add_right _ _ | exact Nat.le_refl _
        exact I1.fpOk le (I1.hok.fresh le)
end Ph

namespace Ph
/-! ### the bounds, as sums over chunks -/
def cdw (x s : Nat) : Nat := (x + s - 1) / s
def sm (f : Nat → Nat) : Nat → Nat
  | 0 => 0
  | n + 1 => sm f n + f n
/-- the class of the blocks that reach x: the first below i whose number is greater -/
def cls (b : Nat → Nat) : Nat → Nat → Nat
  | 0, _ => 0
  | i + 1, x => if cls b i x < i then cls b i x else if x < b i then i else i + 1
def pvn (b : Nat → Nat) (t : Nat) : Nat → Nat
  | 0 => 0
  | j + 1 => cdw (b j) t
/-- the words that keep busy all chunks of t words before the numbers of the first i classes -/
def Lw (s b : Nat → Nat) (t i : Nat) : Nat := sm (fun j => s j * (pvn b t (j + 1) - pvn b t j)) i
structure CH (s : Nat → Nat) (m : Nat) : Prop where
  s0 : s 0 = 1
  dv : ∀ i, i + 1 < m → ∃ r, 1 ≤ r ∧ s (i + 1) = s i * r
theorem CH.pos {s : Nat → Nat} {m : Nat} (c : CH s m) : ∀ {i}, i < m → 1 ≤ s i
  | 0, _ => by rw [c.s0]; exact Nat.le_refl _
  | i + 1, h => by
    obtain ⟨r, hr, e⟩ := c.dv i h
    rw [e]
    exact Nat.le_trans (Nat.le_refl 1) (Nat.mul_le_mul (c.pos (by omega)) hr)
theorem CH.mono1 {s : Nat → Nat} {m i : Nat} (c : CH s m) (h : i + 1 < m) : s i ≤ s (i + 1) := by
  obtain ⟨r, hr, e⟩ := c.dv i h
  rw [e]
  exact Nat.le_mul_of_pos_right _ hr
theorem CH.mono {s : Nat → Nat} {m i : Nat} (c : CH s m) : ∀ {j}, i ≤ j → j < m → s i ≤ s j
  | 0, h, _ => by rw [Nat.le_zero.mp h]; exact Nat.le_refl _
  | j + 1, h, hj => by
    rcases Nat.lt_or_ge i (j + 1) with z | z
    · exact Nat.le_trans (c.mono (Nat.le_of_lt_succ z) (by omega)) (c.mono1 hj)
    · rw [Nat.le_antisymm h z]; exact Nat.le_refl _
theorem CH.dvd {s : Nat → Nat} {m i : Nat} (c : CH s m) : ∀ {j}, i ≤ j → j < m → ∃ r, 1 ≤ r ∧ s j = s i * r
  | 0, h, _ => by rw [Nat.le_zero.mp h]; exact ⟨1, Nat.le_refl _, by rw [Nat.mul_one]⟩
  | j + 1, h, hj => by
    rcases Nat.lt_or_ge i (j + 1) with z | z
    · obtain ⟨r, hr, e⟩ := c.dvd (Nat.le_of_lt_succ z) (by omega)
      obtain ⟨r2, hr2, e2⟩ := c.dv j hj
      exact ⟨r * r2, Nat.le_trans (Nat.le_refl 1) (Nat.mul_le_mul hr hr2), by rw [e2, e, Nat.mul_assoc]⟩
    · rw [Nat.le_antisymm h z]; exact ⟨1, Nat.le_refl _, by rw [Nat.mul_one]⟩
structure BD (s b : Nat → Nat) (m M : Nat) : Prop where
  b0 : b 0 = M
  bs : ∀ i, i + 1 < m → b (i + 1) = s (i + 1) * (cdw (b i) (s (i + 1)) + (M - Lw s b (s (i + 1)) (i + 1)) / s (i + 1))
def SS (s b : Nat → Nat) (i n : Nat) : Nat := sm (fun k => s (cls b i (k * s i))) n
section
variable {s b : Nat → Nat} {m M : Nat} (c : CH s m) (B : BD s b m M)
include c B

end
end Ph

namespace Ph
open PySem PySem.Spec PyProof.Rows L2
/-- the first m numbers of a row of numbers -/
def tl (s : Nat → Nat) (m : Nat) : List Int := (List.range m).map fun i => ((s i : Nat) : Int)
theorem tl_len (s : Nat → Nat) (m : Nat) : (tl s m).length = m := by unfold tl; simp
theorem tl_get {s : Nat → Nat} {m i : Nat} (h : i < m) : (tl s m)[i]? = some ((s i : Nat) : Int) := by
  unfold tl
  rw [List.getElem?_map, List.getElem?_range h]
  rfl
theorem tl_getV {s : Nat → Nat} {m i : Nat} (h : i < m) : ((tl s m).map V.int)[i]? = some (V.int ((s i : Nat) : Int)) := by
  rw [List.getElem?_map, tl_get h]
  rfl
theorem tl_succ (s : Nat → Nat) (m : Nat) : tl s (m + 1) = tl s m ++ [((s m : Nat) : Int)] := by
  unfold tl
  rw [List.range_succ, List.map_append]
  rfl
theorem tl_mem {s : Nat → Nat} {m : Nat} {x : Int} : x ∈ tl s m ↔ ∃ i, i < m ∧ x = ((s i : Nat) : Int) := by
  unfold tl
  rw [List.mem_map]
  constructor
  · rintro ⟨i, hi, e⟩
    exact ⟨i, List.mem_range.mp hi, e.symm⟩
  · rintro ⟨i, hi, e⟩
    exact ⟨i, List.mem_range.mpr hi, e.symm⟩
/-- the numbers, begun with reaches -/
def bls (s ρ : Nat → Nat) (M : Nat) : Nat → Nat → Nat
  | 0, _ => max M (ρ 0)
  | i + 1, j => if j = i + 1 then max (ρ (i + 1)) (s (i + 1) * (cdw (bls s ρ M i i) (s (i + 1)) + (M - Lw s (bls s ρ M i) (s (i + 1)) (i + 1)) / s (i + 1))) else bls s ρ M i j
def bfn (s ρ : Nat → Nat) (M j : Nat) : Nat := bls s ρ M j j
end Ph

namespace Ph
open PySem PySem.Spec PyProof.Rows L2
/-! ### the pot -/
def But (p : Addr) (H H' : Hp) : Prop := ∀ b o, b ≠ p → H b = some o → H' b = some o
theorem But.refl (p : Addr) (H : Hp) : But p H H := fun _ _ _ h => h
theorem But.trans {p : Addr} {H H1 H2 : Hp} (a : But p H H1) (b : But p H1 H2) : But p H H2 := fun c o n h => b c o n (a c o n h)
theorem Same.but {p : Addr} {H H' : Hp} (a : Same H H') : But p H H' := fun b o _ h => a b o h
theorem same_upd {H : Hp} {p : Addr} {o : HO} (h : H p = none) : Same H (upd H p o) := fun b x e => by
  rw [upd_ne (ne_of_none e h)]
  exact e
theorem but_upd {H : Hp} {p : Addr} {o : HO} : But p H (upd H p o) := fun b x n e => by
  rw [upd_ne n]
  exact e
def mM : Int := 2305843009213693951
structure PotV (g r : Int) : Prop where
  g0 : 0 ≤ g
  g1 : g.natAbs < 2 ^ 3000
  r0 : 0 ≤ r
  r1 : r < 2305843009213693951
def Pot (H : Hp) (p : Addr) : Prop := ∃ g r : Int, H p = some (.lst [.int g, .int r]) ∧ PotV g r
theorem But.seq {K : PySem.W.Frag} {p a : Addr} {H H' : Hp} {xs : List V} (b : But p H H') (n : a ≠ p) (h : SqL K H a xs) : SqL K H' a xs := by
  rcases h with (h | ⟨o, h⟩) | h
  · exact .inl (.inl (b _ _ n h))
  · exact .inl (.inr ⟨o, b _ _ n h⟩)
  · exact .inr h
inductive Lnk (m : Int) : List Int → Int → Prop
  | one : Lnk m [1] 1
  | step {ns : List Int} {x r : Int} : Lnk m ns x → 2 ≤ r → r ≤ 6 → x * r ≤ m → ns.length < 12 → Lnk m (ns ++ [x * r]) (x * r)
structure Nm5 (K : PySem.W.Frag) (mg : Str → Option Value) : Prop where
  len : mg "len" = none
  abs : mg "abs" = none
  int : mg "int" = none
  range : mg "range" = none
  tuple : mg "tuple" = none
  max : mg "max" = none
  min : mg "min" = none
  repr : mg "repr" = none
  isinstance : mg "isinstance" = none
  bool : mg "bool" = none
  all : mg "all" = none
  any : mg "any" = none
  list : mg "list" = none
  dict : mg "dict" = none
  sorted : mg "sorted" = none
  set : mg "set" = none
  sum : mg "sum" = none
  zip : mg "zip" = none
  dig : PySem.W.nsIn K cStatics "sys.int_max_str_digits" = some none
theorem _root_.L2.Same.tup {K : PySem.W.Frag} {H H' : Hp} {a : Addr} {xs : List V} (e : Same H H') (h : SqT K H a xs) : SqT K H' a xs := by
  rcases h with (h | ⟨o, h⟩) | h
  · exact .inl (.inl (e _ _ h))
  · exact .inl (.inr ⟨o, e _ _ h⟩)
  · exact .inr h
theorem But.tup {K : PySem.W.Frag} {p a : Addr} {H H' : Hp} {xs : List V} (b : But p H H') (n : a ≠ p) (h : SqT K H a xs) : SqT K H' a xs := by
  rcases h with (h | ⟨o, h⟩) | h
  · exact .inl (.inl (b _ _ n h))
  · exact .inl (.inr ⟨o, b _ _ n h⟩)
  · exact .inr h
theorem paired_imp {α β : Type} {F G : α → β → Prop} (h : ∀ a b, F a b → G a b) : ∀ {l : List α} {m : List β}, Paired F l m → Paired G l m
  | _, _, .nil => .nil
  | _, _, .cons x r => .cons (h _ _ x) (paired_imp h r)
/-! ### blocks in the heap -/
def BkAt (H : Hp) (x : V) (b : Int × Int) : Prop := ∃ t, x = .ref t ∧ H t = some (.tup [.int b.1, .int b.2])
def BL (H : Hp) (xs : List V) (bs : List (Int × Int)) : Prop := Paired (BkAt H) xs bs
theorem BL.mono {H H' : Hp} (h : ∀ t ys, H t = some (.tup ys) → H' t = some (.tup ys)) : ∀ {xs : List V} {bs : List (Int × Int)}, BL H xs bs → BL H' xs bs
  | _, _, .nil => .nil
  | _, _, .cons ⟨t, e1, e2⟩ r => .cons ⟨t, e1, h _ _ e2⟩ (BL.mono h r)
theorem BL.len {H : Hp} : ∀ {xs : List V} {bs : List (Int × Int)}, BL H xs bs → xs.length = bs.length
  | _, _, .nil => rfl
  | _, _, .cons _ r => by rw [List.length_cons, List.length_cons, BL.len r]
def kH (H : Hp) : V → Int × Int
  | .ref t => match H t with
    | some (.tup [.int a, .int s]) => (a, s)
    | _ => (0, 0)
  | _ => (0, 0)
theorem BkAt.k {H : Hp} {x : V} {b : Int × Int} (h : BkAt H x b) : kH H x = b := by
  obtain ⟨t, rfl, e⟩ := h
  show (match H t with
    | some (.tup [.int a, .int s]) => (a, s)
    | _ => (0, 0)) = b
  rw [e]
theorem BL.map {H : Hp} : ∀ {xs : List V} {bs : List (Int × Int)}, BL H xs bs → xs.map (kH H) = bs
  | _, _, .nil => rfl
  | _, _, .cons h r => by rw [List.map_cons, h.k, BL.map r]
theorem BL.all {H : Hp} : ∀ {xs : List V} {bs : List (Int × Int)}, BL H xs bs → ∀ x ∈ xs, ∃ b, BkAt H x b
  | _, _, .nil => fun x hx => by cases hx
  | _, _, .cons h r => fun x hx => by
    rcases List.mem_cons.mp hx with e | e
    · rw [e]; exact ⟨_, h⟩
    · exact BL.all r x e
theorem BL.of {H : Hp} : ∀ {xs : List V}, (∀ x ∈ xs, ∃ b, BkAt H x b) → BL H xs (xs.map (kH H))
  | [], _ => .nil
  | x :: r, h => by
    obtain ⟨b, hb⟩ := h x (List.mem_cons_self ..)
    rw [List.map_cons, hb.k]
    exact .cons hb (BL.of fun y hy => h y (List.mem_cons_of_mem _ hy))
def StAt (H : Hp) (t : Addr) (bs : List (Int × Int)) : Prop := ∃ xs, H t = some (.tup xs) ∧ BL H xs bs
theorem StAt.same {H H' : Hp} {t : Addr} {bs : List (Int × Int)} (h : StAt H t bs) (s : Same H H') : StAt H' t bs := by
  obtain ⟨xs, e, b⟩ := h
  exact ⟨xs, s _ _ e, b.mono fun t ys e => s _ _ e⟩
/-! ### states -/
def okB (C : List Int) (W : Int) (b : Int × Int) : Prop := b.2 ∈ C ∧ 1 ≤ b.2 ∧ 0 ≤ b.1 ∧ b.1 % b.2 = 0 ∧ b.1 + b.2 ≤ W
def apart (b c : Int × Int) : Prop := b.1 + b.2 ≤ c.1 ∨ c.1 + c.2 ≤ b.1
structure St (C : List Int) (W : Int) (bs : List (Int × Int)) : Prop where
  ok : ∀ b ∈ bs, okB C W b
  asc : bs.Pairwise fun b c => b.1 + b.2 ≤ c.1
theorem sorted_st {C : List Int} {W : Int} {bs cs : List (Int × Int)} (h1 : ∀ b ∈ bs, okB C W b) (h2 : bs.Pairwise apart) (hp : cs.Perm bs) (hs : cs.Pairwise fun x y => SrtO.lexB y x = false) : St C W cs := by
  have ok : ∀ b ∈ cs, okB C W b := fun b hb => h1 b (hp.mem_iff.mp hb)
  refine ⟨ok, ?_⟩
  have ap : cs.Pairwise apart := (hp.pairwise_iff (R := apart) (fun {x y} h => h.symm)).mpr h2
  refine (List.pairwise_and_iff.mpr ⟨ap, hs⟩).imp_of_mem fun {b c} hb hc h => ?_
  obtain ⟨h3, h4⟩ := h
  rcases h3 with h5 | h5
  · exact h5
  · exfalso
    obtain ⟨_, k1, _⟩ := ok c hc
    have : SrtO.lexB c b = true := by
      unfold SrtO.lexB
      simp
      rw [if_neg (by omega)]
      omega
    rw [this] at h4
    cases h4
abbrev Bk := Int × Int
def rch (l : Int) (bs : List Bk) : Int := mxd 0 ((bs.filter fun b => decide (b.2 ≤ l)).map fun b => b.1 + b.2)
/-! ### comprehensions whose steps lay new things -/
def iV : V → Int
  | .int i => i
  | _ => 0
end Ph

namespace Ph
open PySem PySem.Spec PyProof.Rows L2
end Ph

namespace Ph
open PySem PySem.Spec PyProof.Rows L2
/-! ### comprehensions whose items are known, whose steps may lay new things -/
theorem keepD {H1 H4 : Hp} {D : Addr} {o : HO} (nD : H1 D = none) (s : Same H1 H4) : Same H1 (upd H4 D o) := fun b u e => by
  rw [upd_ne (ne_of_none e nD)]
  exact s _ _ e
theorem lc_tpF {K : PySem.W.Frag} {a : Addr} {xs : List V} {g : TG} {te : TE} {vs : List Nat} {σ : L2.St} {H1 : Hp} {D : Addr} {Qd : Hp → Prop} (f : V → V) (ha : SqT K H1 a xs) (nD : H1 D = none) (hlen : xs.length < sizeLine)
    (hs : ∀ x ∈ xs, ∀ H, Same H1 H → ∀ Y : V → Hp → Prop, (∀ H', Same H H' → Y (f x) H') → g x (wipe σ vs) H fun σ2 H2 => wipe σ2 vs = wipe σ vs ∧ te σ2 H2 Y)
    (hd : ∀ H, Same H1 H → H D = some (.lst (xs.map f)) → Qd H) :
    ∃ W : Nat → Nat → Hp → Prop, (∃ m, W 0 m (upd H1 D (.lst []))) ∧ ∀ i m H, W i m H →
      ((Itt K a).stop i H ∧ Qd H) ∨ ((Itt K a).go i H ∧ ∃ Nx : Hp → Prop, (∀ H', Nx H' → ∃ m', m' < m ∧ W (i + 1) m' H') ∧ ∀ x H', (Itt K a).yld i H x H' → g x (wipe σ vs) H' fun σ2 H2 => wipe σ2 vs = wipe σ vs ∧ tYes σ2 H2 fun b H3 =>
        if b = true then te σ2 H3 fun y H4 => ∃ acc, H4 D = some (.lst acc) ∧ acc.length < sizeLine ∧ Nx (upd H4 D (.lst (acc ++ [y]))) else Nx H3) := by
  refine lc_tup (fun i H => Same H1 H ∧ H D = some (.lst ((xs.take i).map f))) ⟨same_upd nD, upd_same⟩ (fun i H _ p => p.1.tup ha) (fun i x H hx p => ?_) (fun H p => hd H p.1 (by rw [p.2, List.take_of_length_le (Nat.le_refl _)]))
  obtain ⟨sm, hD⟩ := p
  refine hs x (List.mem_of_getElem? hx) H sm _ fun H4 s4 => ?_
  refine ⟨_, s4 _ _ hD, by rw [List.length_map, List.length_take]; omega, keepD nD (sm.trans s4), ?_⟩
  rw [upd_same, List.take_add_one, hx, List.map_append]
  rfl
end Ph

namespace Ph
open PySem PySem.Spec PyProof.Rows L2
section
variable {X : Cx}
def rSlK (K : PySem.W.Frag) : V → Option Int → Option Int → Hp → VK → Prop := fun x lo hi H Q => ∃ a xs, x = .ref a ∧ SqT K H a xs ∧ ∀ q H', Same H H' → SqT K H' q (cutV xs lo hi) → Q (.ref q) H'
theorem cutv_whole {xs : List V} {lo hi : Option Int} (hw : HT.sIx xs.length 0 lo = 0 ∧ HT.sIx xs.length xs.length hi = xs.length) : cutV xs lo hi = xs := by
  unfold cutV
  rw [hw.1, hw.2]
  simp
theorem cutv_le {xs : List V} {lo hi : Option Int} : (cutV xs lo hi).length ≤ xs.length := by
  unfold cutV
  simp only [List.length_take, List.length_drop]
  omega
theorem sl_tupK : SlR X (rSlK X.K) := by
  intro pins s σ H x v vl vu lo hi sl Q I rx hs pl pu h
  obtain ⟨a, xs, rfl, hx, q⟩ := h
  exact sl_tupA pins s σ H _ v vl vu lo hi sl Q I rx hs pl pu ⟨a, xs, rfl, hx, fun hw => q a H (Same.refl H) (by rw [cutv_whole hw]; exact hx), fun _ p np => q p _ (same_upd np) (.inl (.inl upd_same))⟩
def rCatK (K : PySem.W.Frag) : V → V → Hp → VK → Prop := fun x y H Q => ∃ a b xs ys, x = .ref a ∧ y = .ref b ∧ SqT K H a xs ∧ SqT K H b ys ∧ xs.length + ys.length ≤ sizeLine ∧ ∀ q H', Same H H' → SqT K H' q (xs ++ ys) → Q (.ref q) H'
end
end Ph

namespace Ph
open PySem PySem.Spec PyProof.Rows L2
section
variable {X : Cx}
/-- x in t, t a tuple of data -/
def rInT (K : PySem.W.Frag) : R2 := fun x y H Q => ∃ d ds, Dp K H x d ∧ Dp K H y (.tuple ds) ∧ SeqAt.shaped d = true ∧ SeqAt.shaped (.tuple ds) = true ∧ Q (.bl (ds.any fun z => PyData.eqv z d)) H
/-- a thing that is only read from now on -/
def tFrz (t : TE) : TE := fun σ H Q => t σ H fun v H1 => ∃ d u, v = .ref d ∧ H1 d = some u ∧ Mut (some u) ∧ ∀ od, Q v (upd H1 d (.frz od u))
theorem pe_frz {e : Expr} {t : TE} (h : PE X e t) : PE X e (tFrz t) := by
  refine ⟨fun pins s σ H Q I hw => ?_⟩
  refine thn (h.run pins s σ _ _ I hw) fun v s1 ⟨x, H1, I1, r, d, u, ex, hd, mu, q⟩ => ?_
  obtain ⟨od, I2⟩ := I1.lock hd mu
  exact ⟨x, _, I2, r, q od⟩
end
/-! ### blocks and states as data -/
def bD (b : Int × Int) : PyData := .tuple [.int b.1, .int b.2]
theorem bD_lay (b : Int × Int) : (bD b).canLay0 = true := by simp [bD, PyData.canLay0, PyData.canLayAll0]
theorem bD_depth (b : Int × Int) : (bD b).depth = 1 := by simp [bD, PyData.depth, PyData.depthAll]
theorem bDs_lay : ∀ zs : List (Int × Int), PyData.canLayAll0 (zs.map bD) = true
  | [] => by simp [PyData.canLayAll0]
  | z :: zs => by simp [PyData.canLayAll0, bD_lay z, bDs_lay zs]
theorem bDs_depth : ∀ zs : List (Int × Int), PyData.depthAll (zs.map bD) ≤ 1
  | [] => by simp [PyData.depthAll]
  | z :: zs => by
    have h1 := bDs_depth zs
    have h2 := bD_depth z
    simp only [List.map_cons, PyData.depthAll, h2]
    omega
theorem sD_shaped (zs : List (Int × Int)) : SeqAt.shaped (.tuple (zs.map bD)) = true := by
  have h1 := bDs_depth zs
  have h2 : PyData.depth (.tuple (zs.map bD)) ≤ 64 := by simp only [PyData.depth]; omega
  have h3 : PyData.canLay0 (.tuple (zs.map bD)) = true := by simp only [PyData.canLay0]; exact bDs_lay zs
  show (PyData.canLay0 (.tuple (zs.map bD)) && decide (PyData.depth (.tuple (zs.map bD)) ≤ 64)) = true
  rw [h3, decide_eq_true h2]
  rfl
end Ph

namespace Ph
open PySem PySem.Spec PyProof.Rows L2
/-! ### a def's promise where no repr is under way (the guards are known to be empty) -/
structure FnG (P : Program) (w : World) (K : PySem.W.Frag) (mg : Str → Option Value) (base : Heap) (CX : CXT) (k : Nat) (f : Addr) (fd : FuncData) (ps : List Str) (sp : Sp) : Prop where
  cnt : ∀ vs H Q E, sp vs H Q E → vs.length = ps.length
  go : ∀ (A : Around) (outer : List Env) (s : Shared) (H : Hp) (args : Args) (us : List Value) (vs : List V) (Q : VK) (E : XK), A.guards = some [] → Room k A →
    Env0 P w K mg base A outer s H → BindsTo s fd args (ps.zip us) → Vals vs us → sp vs H Q E → codeAny (model P w) A (.call (.ref f) args) (CR CX outer P w H s Q E) s
theorem guards_deeper (A : Around) (env : Env) : (A.deeper env).guards = A.guards := by
  first
    | rfl
    | (cases A; rfl)
section
variable {P : Program} {w : World} {K : PySem.W.Frag} {mg : Str → Option Value} {base : Heap}
theorem okG {x qual : Str} {st : Stmt} {f : Addr} {fd : FuncData} {N ps : List Str} {k : Nat} {sp : Sp} (F : Fun K x qual st f fd) (S : FnScope N ps (defScope st)) (cnt : ∀ vs H Q E, sp vs H Q E → vs.length = ps.length)
    (body : ∀ (cdv : Value) (A : Around) (outer : List Env) (s : Shared) (H : Hp) (vs : List V) (Q : VK) (E : XK), (A.deeper (envOfC qual (defScope st) s.heap.objs.size f cdv)).guards = some [] → Room k (A.deeper (envOfC qual (defScope st) s.heap.objs.size f cdv)) → sp vs H Q E →
      ∃ t, PSs (cxOf CX0 P w K mg base N qual (defScope st) f cdv A outer s H E).nox (defBody st) t ∧ t { nx := fun _ H' => Q .non H', rt := Q } (start N vs) H) : FnG P w K mg base CX0 (k + 1) f fd ps sp := by
  obtain ⟨oc, od, kV, doc, pm, an, cdv, ct, osl, rfl, lk, hcd⟩ := F.ex
  refine ⟨cnt, fun A outer s H args us vs Q E hgu room env bnd vals want => ?_⟩
  have old : ∀ b o, base.get? b = some o → s.heap.get? b = some o := fun b o z => (env.bs b o z).1
  refine Att.call_fn (env.mod.kin.keeps old) (env.mod.nolimit.keeps old) lk hcd room.depth bnd ?_ (fun s1 inside => ?_) S.co S.gen S.kind
  · rw [List.all_eq_true]
    rintro ⟨n, v⟩ hy
    rcases S.par n (List.of_mem_zip hy).1 with z | z <;> simp [z]
  · obtain ⟨t, ht, hq⟩ := body cdv A outer s H vs Q E ((guards_deeper A _).trans hgu) (room.deeper _) want
    have I0 : Inv (cxOf CX0 P w K mg base N qual (defScope st) f cdv A outer s H E) [] (start N vs) H s1 := inv_start S room.hd env (cnt _ _ _ _ want) vals inside
    refine wpAny_mono (ht.nox.run [] s1 (start N vs) H _ I0 hq) (fun flow s2 done => ?_) fun e s2 bad => bad
    have fin : ∀ {σ' : L2.St} {H' : Hp} {v : V} {u : Value}, Inv (cxOf CX0 P w K mg base N qual (defScope st) f cdv A outer s H E) [] σ' H' s2 → RelV v u → Q v H' → CE outer P w H s Q u s2 :=
      fun J rel good => ⟨_, _, J.os, J.bare, J.base, J.hok, rel, good⟩
    match flow, done with
    | .ret u, ⟨v, σ', H', J, rel, good⟩ => exact fin J rel good
    | .next, ⟨σ', H', J, good⟩ => exact fin (v := V.non) (u := Value.none) J rfl good
    | .brk, ⟨_, _, _, z⟩ => exact z.elim
    | .cont, ⟨_, _, _, z⟩ => exact z.elim
end
section
variable {X : Cx} {k : Nat} {f : Addr} {fd : FuncData} {ps : List Str} {sp : Sp} {x : Str} {p pos : Pos} {e : Expr} {es : List Expr} {t : TA}
end
end Ph

namespace Ph
open PySem PySem.Spec PyProof.Rows L2
/-! ### data that repr can show -/
structure Rp (d : PyData) : Prop where
  sh : d.showable = true
  nd : d.hasDict = false
  dp : d.depth ≤ 60
  ln : d.shown.length ≤ sizeLine
/-- short leaves, no dict -/
structure Sho (d : PyData) (n k : Nat) : Prop where
  sh : d.showable = true
  nd : d.hasDict = false
  dp : d.depth ≤ n
  lv : d.leavesShort 24 = true
  wt : d.weight ≤ k
structure ShoAll (ds : List PyData) (n k : Nat) : Prop where
  sh : PyData.showableAll ds = true
  nd : PyData.hasDictAll ds = false
  dp : PyData.depthAll ds ≤ n
  lv : PyData.leavesShortAll 24 ds = true
  wt : PyData.weightAll ds ≤ k
section
variable {X : Cx}
/-- repr(e) of such data -/
def rRp (K : PySem.W.Frag) : List V → Hp → VK → Prop := fun xs H Q => ∃ (a : Addr) (d : PyData), xs = [.ref a] ∧ Dp K H (.ref a) d ∧ Rp d ∧ Q (.str d.shown) H
end
end Ph

namespace Ph
open PySem PySem.Spec PyProof.Rows L2
/-! ### tuples of ints and states as data -/
theorem il_lay : ∀ ns : List Int, PyData.canLayAll0 (ns.map PyData.int) = true
  | [] => by simp [PyData.canLayAll0]
  | z :: zs => by simp [PyData.canLayAll0, PyData.canLay0, il_lay zs]
theorem il_depth : ∀ zs : List Int, PyData.depthAll (zs.map PyData.int) ≤ 1
  | [] => by simp [PyData.depthAll]
  | z :: zs => by
    have h1 := il_depth zs
    simp only [List.map_cons, PyData.depthAll, PyData.depth]
    omega
theorem il_shaped (zs : List Int) : SeqAt.shaped (.list (zs.map PyData.int)) = true := by
  have h1 := il_depth zs
  have h2 : PyData.depth (.list (zs.map PyData.int)) ≤ 64 := by simp only [PyData.depth]; omega
  have h3 : PyData.canLay0 (.list (zs.map PyData.int)) = true := by simp only [PyData.canLay0]; exact il_lay zs
  show (PyData.canLay0 (.list (zs.map PyData.int)) && decide (PyData.depth (.list (zs.map PyData.int)) ≤ 64)) = true
  rw [h3, decide_eq_true h2]
  rfl
theorem BL.dp {K : PySem.W.Frag} {H : Hp} : ∀ {xs : List V} {bs : List Bk}, BL H xs bs → DpAll K H xs (bs.map bD)
  | _, _, .nil => .nil
  | _, _, .cons ⟨t, e1, e2⟩ r => by
    rw [List.map_cons]
    refine .cons ?_ (BL.dp r)
    rw [e1]
    exact .tup (.inl (.inl e2)) (.cons (.int _) (.cons (.int _) .nil))
theorem StAt.dp {K : PySem.W.Frag} {H : Hp} {t : Addr} {bs : List Bk} (h : StAt H t bs) : Dp K H (.ref t) (.tuple (bs.map bD)) := by
  obtain ⟨xs, e, bl⟩ := h
  exact .tup (.inl (.inl e)) bl.dp
theorem BL.app {H : Hp} : ∀ {xs ys : List V} {bs cs : List Bk}, BL H xs bs → BL H ys cs → BL H (xs ++ ys) (bs ++ cs)
  | _, _, _, _, .nil, h => h
  | _, _, _, _, .cons h r, k => .cons h (BL.app r k)
theorem u64_of {A : Around} {k : Nat} (hr : Room k A) : A.units + 64 < cLine := by have := hr.un; omega
end Ph

namespace Ph
open PySem PySem.Spec PyProof.Rows L2
section
variable {P : Program} {w : World} {A : Around} {E : Value → Shared → Prop} {s : Shared}
/-- the items of a tuple, laid into a list first -/
theorem collect_tup {a : Addr} {us : List Value} {Q : List Value → Shared → Prop} (ht : s.heap.IsTuple a us.toArray) (few : us.length ≤ sizeLine)
    (q : ∀ g, (∀ b o, s.heap.get? b = some o → g.get? b = some o) → s.heap.objs.size ≤ g.objs.size → Q us { s with heap := g }) :
    wpAny (model P w) A (collect (.ref a)) Q E s := by
  obtain ⟨o, ho, hc, n, hd⟩ := id ht
  have at0 : (s.heap.push (seqObj "list" #[] 0)).get? s.heap.objs.size = some (seqObj "list" #[] 0) := Heap.get?_push_size _ rfl
  have at1 : (s.heap.push (seqObj "list" #[] 0)).get? a = some o := Heap.get?_push_of_some _ ho
  unfold collect
  refine wpAny_bind (wpAny_runValue (codeAny_builtin entry_proto_collect' ?_))
  show wpAny _ _ (do again (.builtin "list.__iadd__" ⟨[← newList [], .ref a], []⟩)) _ _ s
  refine wpAny_bind (wpAny_newList (wpAny_pure ⟨Code.quiet_builtin _ (by decide +kernel), codeAny_builtin entry_list_iadd' ?_⟩))
  show wpAny _ _ (Builtin.List.listExtendWith (.ref s.heap.objs.size) (.ref a) (.ref s.heap.objs.size)) _ _ { s with heap := s.heap.push (seqObj "list" #[] 0) }
  unfold Builtin.List.listExtendWith
  refine wpAny_bind (wpAny_typeOf (T := "tuple") ⟨o, at1, hc⟩ ?_)
  have same : (Value.type "tuple" == Value.type "tuple") = true := by rfl
  rw [if_pos (by rw [same]; simp)]
  refine wpAny_bind (listItems_at at1 hd ?_)
  refine wpAny_bind (listItems_at (xs := #[]) (n := 0) at0 rfl ?_)
  rw [if_neg (by simp)]
  refine wpAny_bind (listUpdate_at (xs := #[]) (n := 0) at0 rfl ?_ (Nat.zero_le _) (by show (#[] ++ us.toArray).size ≤ sizeLine + 1; simp only [Array.size_append, List.size_toArray, List.length_nil]; omega))
  refine wpAny_pure ?_
  refine wpAny_bind (m := load s.heap.objs.size) (wpAny_load (get?_update_seq at0 _) ?_)
  have e : ((#[] : Array Value) ++ us.toArray).toList = us := by simp
  show wpAny _ _ (pure ((#[] : Array Value) ++ us.toArray).toList) Q E _
  rw [e]
  refine wpAny_pure (q _ (fun b u hb => ?_) ?_)
  · have lt := Heap.lt_size hb
    rw [Heap.get?_update_ne _ _ _ _ (Nat.ne_of_lt lt)]
    exact Heap.get?_push_of_some _ hb
  · rw [Heap.size_update, size_push']
    exact Nat.le_succ _
end
section
variable {X : Cx}
def rSortedTI (K : PySem.W.Frag) : List V → Hp → VK → Prop := fun vs H Q => ∃ (a : Addr) (ns : List Int), vs = [V.ref a] ∧ SqT K H a (ns.map V.int) ∧ ∀ (ms : List Int) (p : Addr), ms.Perm ns → ms.Pairwise (· ≤ ·) → H p = none → Q (.ref p) (upd H p (.lst (ms.map V.int)))
end
end Ph

namespace Ph
open PySem PySem.Spec PyProof.Rows L2
/-! ### the end of a law whose promise asks for empty guards -/
section
variable {P : Program} {w : World} {K : PySem.W.Frag} {mg mb : Str → Option Value} {k : Nat} {fa a : Addr} {fd : FuncData} {x : Str} {sp : Sp} {s₁ : Shared} {vs : List Value} {ns : List Int}
abbrev LawEnd (s₁ : Shared) : Result → Shared → Prop := fun r s' => r = .ok (.ret (.bool true)) ∧ OldK s₁.heap s'.heap ∧ s'.os = s₁.os ∧ AllBare s'.gens
end
end Ph

namespace Ph
open PySem PySem.Spec PyProof.Rows L2
section
variable {X : Cx}
/-! ### powers of wide numbers; an item of a list or a tuple -/
def CPowW (i j : Int) : Prop := 0 ≤ j ∧ (Builtin.Int.intBits i : Int) * j ≤ 2 ^ 27
theorem op_powW : OpR X (binaryOp .Pow) (rI CPowW fun i j => .int (i ^ j.toNat)) := opI fun _ _ _ _ _ _ _ hc q => pow_int hc.1 hc.2 q
def rIxA (K : PySem.W.Frag) : V → V → Hp → VK → Prop := fun x y H Q => rIxL K x y H Q ∨ rIxT K x y H Q
theorem ix_any : IxR X (rIxA X.K) := by
  intro ea eb pins s σ H x y v u Q I rx ry h hs
  rcases h with h | h
  · exact ix_list ea eb pins s σ H x y v u Q I rx ry h hs
  · exact ix_tup ea eb pins s σ H x y v u Q I rx ry h hs
end
/-! ### draws: digits, a mixed number, a count -/
structure DrV (c : Nat) (g r n : Int) : Prop where
  g0 : 0 ≤ g
  g1 : g.natAbs < 2 ^ 3000
  r0 : 0 ≤ r
  r1 : r < 2305843009213693921
  n0 : 0 ≤ n
  n1 : n ≤ c
def Dr (c : Nat) (H : Hp) (p : Addr) : Prop := ∃ g r n : Int, H p = some (.lst [.int g, .int r, .int n]) ∧ DrV c g r n
def TAt (H : Hp) (c : Addr) (C : List Int) : Prop := H c = some (.tup (C.map V.int)) ∨ ChAt H c C
/-- a chain of p + 1 sizes, each one at least twice the one before, none above m -/
structure Cn (s : Nat → Nat) (p m : Nat) : Prop where
  ch : CH s (p + 1)
  two : ∀ i, i < p → ∃ r, 2 ≤ r ∧ r ≤ 1000 ∧ s (i + 1) = s i * r
  top : s p ≤ m
inductive Gnk (m : Int) : List Int → Int → Prop
  | one : Gnk m [1] 1
  | step {ns : List Int} {x r : Int} : Gnk m ns x → 2 ≤ r → r ≤ 1000 → x * r ≤ m → Gnk m (ns ++ [x * r]) (x * r)
section
variable {X : Cx}
def rSlJ : V → Option Int → Option Int → Hp → VK → Prop := fun x lo hi H Q => ∃ a C, x = .ref a ∧ TAt H a C ∧ ∀ q H' D, Same H H' → D.map V.int = cutV (C.map V.int) lo hi → TAt H' q D → Q (.ref q) H'
def rCatJ : V → V → Hp → VK → Prop := fun x y H Q => ∃ a b C D, x = .ref a ∧ y = .ref b ∧ TAt H a C ∧ TAt H b D ∧ C.length + D.length ≤ sizeLine ∧ ∀ q H', Same H H' → TAt H' q (C ++ D) → Q (.ref q) H'
end
end Ph

namespace Ph
open PySem PySem.Spec PyProof.Rows L2
/-! ### the third pot: digits, a mixed number, a count -/
structure PoV (g r n : Int) : Prop where
  g0 : 0 ≤ g
  g1 : g.natAbs < 2 ^ 3000
  r0 : 0 ≤ r
  r1 : r < 2305843009213693951
  n0 : 0 ≤ n
def Po (H : Hp) (p : Addr) : Prop := ∃ g r n : Int, H p = some (.lst [.int g, .int r, .int n]) ∧ PoV g r n
theorem Po.ne_none {H : Hp} {p q : Addr} (P : Po H p) (h : H q = none) : p ≠ q := by
  obtain ⟨g, r, n, e, v⟩ := P
  exact ne_of_none e h
/-! ### max of a list of pairs of ints -/
section
variable {X : Cx}
def rMaxP (K : PySem.W.Frag) : List V → Hp → VK → Prop := fun vs H Q => ∃ (a : Addr) (xs : List V) (k : V → Int × Int), vs = [V.ref a] ∧ SqL K H a xs ∧ (∀ x ∈ xs, ∃ t, x = V.ref t ∧ H t = some (.tup [.int (k x).1, .int (k x).2])) ∧ 0 < xs.length ∧
  ∀ x ∈ xs, (∀ y ∈ xs, SrtO.lexB (k x) (k y) = false) → Q x H
end
end Ph

namespace Ph
open PySem PySem.Spec PyProof.Rows L2
/-! ### min of a list of pairs of ints -/
section
variable {X : Cx}
def rMinP (K : PySem.W.Frag) : List V → Hp → VK → Prop := fun vs H Q => ∃ (a : Addr) (xs : List V) (k : V → Int × Int), vs = [V.ref a] ∧ SqL K H a xs ∧ (∀ x ∈ xs, ∃ t, x = V.ref t ∧ H t = some (.tup [.int (k x).1, .int (k x).2])) ∧ 0 < xs.length ∧
  ∀ x ∈ xs, (∀ y ∈ xs, SrtO.lexB (k y) (k x) = false) → Q x H
/-! ### sorted of data of any kind that compare: the same items -/
theorem each_of {α : Type} {R : Value → α → Prop} : ∀ {vs : List Value} {bs : List α}, Paired (fun b v => R v b) bs vs → PySem.W.EachIs R vs bs
  | _, _, .nil => .nil
  | _, _, .cons h t => .cons h (each_of t)
theorem of_each {α : Type} {R : Value → α → Prop} : ∀ {vs : List Value} {bs : List α}, PySem.W.EachIs R vs bs → Paired (fun b v => R v b) bs vs
  | _, _, .nil => .nil
  | _, _, .cons h t => .cons h (of_each t)
def rSortedD (K : PySem.W.Frag) : List V → Hp → VK → Prop := fun vs H Q => ∃ (a : Addr) (xs : List V) (D : V → PyData), vs = [V.ref a] ∧ SqL K H a xs ∧ (∀ x ∈ xs, Dp K H x (D x)) ∧ PySem.W.AllAlike (xs.map D) ∧ PySem.W.Sortable (xs.map D) ∧ (∀ x ∈ xs, (D x).depth ≤ 40) ∧
  ∀ (ys : List V) (p : Addr), ys.Perm xs → ys = xs.mergeSort (PySem.W.dataLe false D) → H p = none → Q (.ref p) (upd H p (.lst ys))
/-! ### min of data of any kind that compare: one of the items -/
def rMinW (K : PySem.W.Frag) : List V → Hp → VK → Prop := fun vs H Q => ∃ (a : Addr) (xs : List V) (D : V → PyData), vs = [V.ref a] ∧ SqL K H a xs ∧ (∀ x ∈ xs, Dp K H x (D x)) ∧ PySem.W.AlikeAll (xs.map D) ∧ PyData.depthAll (xs.map D) ≤ 40 ∧ 0 < xs.length ∧ ∀ x ∈ xs, Q x H
end
end Ph

namespace Ph
open PySem PySem.Spec PyProof.Rows L2
end Ph

namespace Ph
open PySem PySem.Spec PyProof.Rows L2
/-! ### walks: zip of tuples and lists; comprehensions whose items are laid anew -/
theorem walk_zipK {k1 k2 : Bool} {K : PySem.W.Frag} {a b : Addr} {xs ys : List V} {n : Nat} (hn : n = min xs.length ys.length) : Walk (ItzK k1 k2 K a b) n (fun H => SqK k1 K H a xs ∧ SqK k2 K H b ys) (YPair (fun i => xs[i]?) (fun i => ys[i]?)) := by
  subst hn
  refine ⟨fun i _ hi q => ?_, fun _ q => ⟨xs, ys, q.1, q.2, by omega, by omega, by omega⟩, fun i H v H' _ q y => ?_⟩
  · have h1 : i < xs.length := by omega
    have h2 : i < ys.length := by omega
    exact ⟨xs, ys, xs[i], ys[i], q.1, q.2, by simp [h1], by simp [h2]⟩
  · obtain ⟨T, x, z, h1, h2, h3, h4, h5⟩ := y
    exact ⟨T, x, z, h1, h2, h3, h4 xs q.1, h5 ys q.2⟩
theorem YPair.same {xs ys : Nat → Option V} {i : Nat} {H H' : Hp} {v : V} (h : YPair xs ys i H v H') : Same H H' := by
  obtain ⟨T, x, y, _, nT, e, _⟩ := h
  rw [e]
  exact same_upd nT
theorem YAt.same {xs : List V} {i : Nat} {H H' : Hp} {v : V} (h : YAt xs i H v H') : Same H H' := by
  rw [h.1]; exact Same.refl _
theorem none_of_same {H H' : Hp} {D : Addr} (s : Same H H') (n : H' D = none) : H D = none := by
  cases e : H D with
  | none => rfl
  | some o => rw [s _ _ e] at n; cases n
abbrev KpT (H H' : Hp) : Prop := ∀ v zs, H v = some (.tup zs) → H' v = some (.tup zs)
/-- a comprehension with a test; R tells of each item that stays, by its turn -/
theorem lc_RF {J : It} {n : Nat} {G : Hp → Prop} {Y : Nat → Hp → V → Hp → Prop} (w : Walk J n G Y) (hY : ∀ i H x H', Y i H x H' → Same H H') {g : TG} {tt : TT} {te : TE} {vs : List Nat} {σ : L2.St} {H1 : Hp} {D : Addr} {Qd : Hp → Prop}
    (p : Nat → Bool) (R : Hp → Nat → V → Prop) (mono : ∀ H H' i y, KpT H H' → R H i y → R H' i y) (nD : H1 D = none) (hlen : n < sizeLine) (hG : ∀ H, Same H1 H → G H)
    (hs : ∀ i x H H', i < n → Same H1 H → Y i H x H' → ∀ (Z : V → Hp → Prop) (N : Hp → Prop), (∀ y H4, Same H' H4 → p i = true → R H4 i y → Z y H4) → (∀ H4, Same H' H4 → p i = false → N H4) →
      g x (wipe σ vs) H' fun σ2 H2 => wipe σ2 vs = wipe σ vs ∧ tt σ2 H2 fun b H3 => if b = true then te σ2 H3 Z else N H3)
    (hd : ∀ H ys, Same H1 H → H D = some (.lst ys) → Paired (R H) ((List.range n).filter p) ys → Qd H) :
    ∃ W : Nat → Nat → Hp → Prop, (∃ m, W 0 m (upd H1 D (.lst []))) ∧ ∀ i m H, W i m H →
      (J.stop i H ∧ Qd H) ∨ (J.go i H ∧ ∃ Nx : Hp → Prop, (∀ H', Nx H' → ∃ m', m' < m ∧ W (i + 1) m' H') ∧ ∀ x H', J.yld i H x H' → g x (wipe σ vs) H' fun σ2 H2 => wipe σ2 vs = wipe σ vs ∧ tt σ2 H2 fun b H3 =>
        if b = true then te σ2 H3 fun y H4 => ∃ acc, H4 D = some (.lst acc) ∧ acc.length < sizeLine ∧ Nx (upd H4 D (.lst (acc ++ [y]))) else Nx H3) := by
  refine lc_it w (fun i H => Same H1 H ∧ ∃ ys, H D = some (.lst ys) ∧ Paired (R H) ((List.range i).filter p) ys) ⟨same_upd nD, [], upd_same, .nil⟩ (fun i H _ q => hG H q.1) (fun i x H H' hi q y => ?_) (fun H q => ?_)
  · obtain ⟨sm, ys, hD, pr⟩ := q
    have s' := hY _ _ _ _ y
    have hlen2 : ys.length < sizeLine := by
      have h1 := pr.length
      have h2 := List.length_filter_le p (List.range i)
      rw [List.length_range] at h2
      omega
    refine hs i x H H' hi sm y _ _ (fun y H4 s4 pi r4 => ?_) (fun H4 s4 pi => ?_)
    · have hD4 := s4 _ _ (s' _ _ hD)
      have tk : KpT H4 (upd H4 D (.lst (ys ++ [y]))) := fun v zs e => by
        rw [upd_ne (ne_of e hD4 (by intro z; cases z))]
        exact e
      refine ⟨ys, hD4, hlen2, fun b o e => ?_, ys ++ [y], upd_same, ?_⟩
      · rw [upd_ne (ne_of_none e nD)]
        exact s4 _ _ (s' _ _ (sm _ _ e))
      · rw [List.range_succ, List.filter_append, List.filter_cons_of_pos (by simpa using pi)]
        exact Paired.snoc (paired_imp (fun a b h => mono _ _ _ _ (fun v zs e => tk v zs (s4 _ _ (s' _ _ e))) h) pr) (mono _ _ _ _ tk r4)
    · refine ⟨(sm.trans s').trans s4, ys, s4 _ _ (s' _ _ hD), ?_⟩
      rw [List.range_succ, List.filter_append, List.filter_cons_of_neg (by simp [pi]), List.filter_nil, List.append_nil]
      exact paired_imp (fun a b h => mono _ _ _ _ (fun v zs e => s4 _ _ (s' _ _ e)) h) pr
  · obtain ⟨sm, ys, hD, pr⟩ := q
    exact hd H ys sm hD pr
theorem lc_R {J : It} {n : Nat} {G : Hp → Prop} {Y : Nat → Hp → V → Hp → Prop} (w : Walk J n G Y) (hY : ∀ i H x H', Y i H x H' → Same H H') {g : TG} {te : TE} {vs : List Nat} {σ : L2.St} {H1 : Hp} {D : Addr} {Qd : Hp → Prop}
    (R : Hp → Nat → V → Prop) (mono : ∀ H H' i y, KpT H H' → R H i y → R H' i y) (nD : H1 D = none) (hlen : n < sizeLine) (hG : ∀ H, Same H1 H → G H)
    (hs : ∀ i x H H', i < n → Same H1 H → Y i H x H' → ∀ (Z : V → Hp → Prop), (∀ y H4, Same H' H4 → R H4 i y → Z y H4) →
      g x (wipe σ vs) H' fun σ2 H2 => wipe σ2 vs = wipe σ vs ∧ te σ2 H2 Z)
    (hd : ∀ H ys, Same H1 H → H D = some (.lst ys) → Paired (R H) (List.range n) ys → Qd H) :
    ∃ W : Nat → Nat → Hp → Prop, (∃ m, W 0 m (upd H1 D (.lst []))) ∧ ∀ i m H, W i m H →
      (J.stop i H ∧ Qd H) ∨ (J.go i H ∧ ∃ Nx : Hp → Prop, (∀ H', Nx H' → ∃ m', m' < m ∧ W (i + 1) m' H') ∧ ∀ x H', J.yld i H x H' → g x (wipe σ vs) H' fun σ2 H2 => wipe σ2 vs = wipe σ vs ∧ tYes σ2 H2 fun b H3 =>
        if b = true then te σ2 H3 fun y H4 => ∃ acc, H4 D = some (.lst acc) ∧ acc.length < sizeLine ∧ Nx (upd H4 D (.lst (acc ++ [y]))) else Nx H3) :=
  lc_RF w hY (fun _ => true) R mono nD hlen hG (fun i x H H' hi sm y Z N hZ hN => hs i x H H' hi sm y Z fun y H4 s4 r => hZ y H4 s4 rfl r)
    (fun H ys sm hD pr => hd H ys sm hD (by
      have e : (List.range n).filter (fun _ => true) = List.range n := List.filter_eq_self.mpr fun _ _ => rfl
      rw [e] at pr
      exact pr))
theorem Paired.get {α β : Type} {F : α → β → Prop} : ∀ {l : List α} {m : List β} {i : Nat} {a : α}, Paired F l m → l[i]? = some a → ∃ b, m[i]? = some b ∧ F a b
  | _, _, _, _, .nil, h => by simp at h
  | _, _, 0, _, .cons x _, h => by simp at h; subst h; exact ⟨_, rfl, x⟩
  | _, _, i + 1, _, .cons _ r, h => by
    obtain ⟨b, e, f⟩ := Paired.get (i := i) r (by simpa using h)
    exact ⟨b, by simpa using e, f⟩
theorem Paired.get2 {α β : Type} {F : α → β → Prop} : ∀ {l : List α} {m : List β} {i : Nat} {b : β}, Paired F l m → m[i]? = some b → ∃ a, l[i]? = some a ∧ F a b
  | _, _, _, _, .nil, h => by simp at h
  | _, _, 0, _, .cons x _, h => by simp at h; subst h; exact ⟨_, rfl, x⟩
  | _, _, i + 1, _, .cons _ r, h => by
    obtain ⟨b, e, f⟩ := Paired.get2 (i := i) r (by simpa using h)
    exact ⟨b, by simpa using e, f⟩
/-- the items are a function of the turn -/
theorem paired_eq {α β : Type} {f : α → β} : ∀ {l : List α} {m : List β}, Paired (fun a b => b = f a) l m → m = l.map f
  | _, _, .nil => rfl
  | _, _, .cons h r => by rw [h, paired_eq r]; rfl
/-- names of built-ins -/
structure Nm6 (K : PySem.W.Frag) (mg : Str → Option Value) : Prop where
  len : mg "len" = none
  abs : mg "abs" = none
  int : mg "int" = none
  range : mg "range" = none
  tuple : mg "tuple" = none
  max : mg "max" = none
  min : mg "min" = none
  repr : mg "repr" = none
  isinstance : mg "isinstance" = none
  bool : mg "bool" = none
  all : mg "all" = none
  any : mg "any" = none
  list : mg "list" = none
  dict : mg "dict" = none
  sorted : mg "sorted" = none
  set : mg "set" = none
  sum : mg "sum" = none
  zip : mg "zip" = none
  enumerate : mg "enumerate" = none
  reversed : mg "reversed" = none
  str : mg "str" = none
  dig : PySem.W.nsIn K cStatics "sys.int_max_str_digits" = some none
end Ph

namespace Ph
open PySem PySem.Spec PyProof.Rows L2
/-! ### loops that count up; any(ints) -/
section
variable {X : Cx}
def rAnyI (K : PySem.W.Frag) : List V → Hp → VK → Prop := fun vs H Q => ∃ (a : Addr) (ns : List Int), vs = [V.ref a] ∧ SqL K H a (ns.map V.int) ∧ Q (.bl ((List.range ns.length).any fun i => (ns.getD i 0 != 0))) H
end
end Ph

namespace Ph
open PySem PySem.Spec PyProof.Rows L2
section
variable {X : Cx}
/-! ### sum of a tuple of ints -/
def rSumT (K : PySem.W.Frag) : List V → Hp → VK → Prop := fun vs H Q => ∃ (a : Addr) (ns : List Int), vs = [V.ref a] ∧ SqT K H a (ns.map V.int) ∧ Q (.int ns.sum) H
end
end Ph

namespace Ph
open PySem PySem.Spec PyProof.Rows L2
/-! ### numbers begun with reaches: more reach, more words, never less -/
end Ph

namespace Ph
open PySem PySem.Spec PyProof.Rows L2
section
variable {P : Program} {w : World} {A : Around} {E : Value → Shared → Prop} {s : Shared}
/-- sorted(tuple of pairs of ints) -/
theorem sorted_of_tupP {a : Addr} {us : List Value} {k : Value → Int × Int} {Q : Value → Shared → Prop} (ht : s.heap.IsTuple a us.toArray) (few : us.length ≤ sizeLine) (hp : ∀ v, v ∈ us → Srt.IsPair s.heap v (k v).1 (k v).2)
    (q : ∀ g p (out : List Value) (c : Nat), (∀ b u, s.heap.get? b = some u → g.get? b = some u) → s.heap.objs.size ≤ p → g.get? p = some (seqObj "list" out.toArray c) → SrtO.Srtd (fun v u => SrtO.lexB (k v) (k u)) out → SrtO.Stb (fun v u => SrtO.lexB (k v) (k u)) out us → Q (.ref p) { s with heap := g }) :
    wpAny (model P w) A (call (.builtin "sorted") [.ref a]) Q E s := by
  refine Calls.call_function_entry kind_sorted plain_sorted entry_sorted (args_sorted1 _) ?_; unfold Builtin.«sorted»
  refine wpAny_bind (m := checkCount "sorted" 1 1 _) (wpAny_pure (wpAny_bind (collect_tup ht few fun g keep hz => ?_)))
  refine wpAny_bind (wpAny_newList ?_ few)
  have at1 : (g.push (seqObj "list" us.toArray 0)).get? g.objs.size = some (seqObj "list" us.toArray 0) := Heap.get?_push_size _ rfl
  refine wpAny_bind (wpAny_holding (wpAny_call_entry slot_list_sort ⟨_, at1, rfl⟩ entry_list_sort (SrtO.list_sort_ord (SrtO.swo_lex k) at1 few (fun h2 => ?_) fun out b1 b2 => ⟨_, rfl, ?_⟩) (args_list_sort _)))
  · refine SrtO.pairs_sortableO (by omega) (fun v hv => (hp v hv).keeps fun b o e _ => Heap.get?_push_of_some _ (keep b o e)) fun o e => ?_
    have e2 : some o = some (seqObj "list" us.toArray 0) := e.symm.trans at1
    cases e2
    intro z
    exact absurd (Value.type.inj z) (by decide)
  · obtain ⟨c, hc⟩ := sortedHeap_at (vs := us) (out := out.toArray) at1
    refine wpAny_pure ⟨_, rfl, q _ g.objs.size out c (fun b u e => ?_) hz hc b1 b2⟩
    have z := keep b u e
    have lt := Heap.lt_size z
    show (sortedHeap (g.push (seqObj "list" us.toArray 0)) g.objs.size us out.toArray).get? b = some u
    rw [sortedHeap_old (Nat.ne_of_lt lt) (by rw [size_push']; exact Nat.lt_succ_of_lt lt)]
    exact Heap.get?_push_of_some _ z
end
section
variable {X : Cx}
def rSortedPT (K : PySem.W.Frag) : List V → Hp → VK → Prop := fun vs H Q => ∃ (a : Addr) (xs : List V) (k : V → Int × Int), vs = [V.ref a] ∧ SqT K H a xs ∧ (∀ x ∈ xs, ∃ t, x = V.ref t ∧ H t = some (.tup [.int (k x).1, .int (k x).2])) ∧
  ∀ ys p, SrtO.Srtd (ltP k) ys → SrtO.Stb (ltP k) ys xs → H p = none → Q (.ref p) (upd H p (.lst ys))
theorem cr_sortedPT : CallR X (.builtin "sorted") (rSortedPT X.K) := by
  intro pins s σ H vs us Q I r h
  obtain ⟨a, xs, k, rfl, hs, hx, q⟩ := h
  obtain ⟨its, rv, hl, hz⟩ := I.tuple hs
  rw [Vals.ref1 r]
  obtain ⟨e1, e2⟩ := refs_back rv fun x m => by
    obtain ⟨t, e, _⟩ := hx x m
    exact ⟨t, e⟩
  refine sorted_of_tupP (k := fun u => k (backV u)) hl (by rw [← rv.length]; exact hz) (fun v hv => ?_) fun g p out c keep hp hg h1 h2 => ?_
  · obtain ⟨t, rfl⟩ := e2 v hv
    have hm : V.ref t ∈ xs := by rw [e1]; exact List.mem_map.mpr ⟨_, hv, rfl⟩
    obtain ⟨t2, e, ht⟩ := hx _ hm
    cases e
    obtain ⟨_, its2, r2, o, ho, hc, n, hd⟩ := I.hok _ _ ht
    obtain ⟨u1, u2, rfl, ri, rj⟩ := vals2 r2
    obtain ⟨t1, rfl⟩ := ri
    obtain ⟨t3, rfl⟩ := rj
    exact ⟨t, o, t1, t3, n, rfl, ho, hc, hd⟩
  · have h3 : ∀ u ∈ out, ∃ a, u = Value.ref a := fun u hu => e2 u (h2.perm.mem_iff.mp hu)
    have hb : SrtO.Stb (ltP k) (out.map backV) xs := by
      rw [e1]
      exact SrtO.Stb.map (ltP_swo k) backV h2
    refine ⟨.ref p, upd H p (.lst (out.map backV)), I.laid (t' := s.toks) keep hp ⟨?_, out, c, vals_back h3, hg⟩, rfl, q _ p (SrtO.srtd_map h1) hb (I.hok.fresh hp)⟩
    rw [hb.len]
    exact hz
end
end Ph

namespace Ph
open PySem PySem.Spec PyProof.Rows L2
section
variable {P : Program} {w : World} {A : Around} {E : Value → Shared → Prop} {s : Shared} {T : String} {r d : Addr} {n : Nat} {Pv : Nat → Value → Prop} {OK : Heap → Prop}
end
section
variable {X : Cx} {o : Expr} {p pos apos mpos : Pos} {td : TE}
/-- tuple(d.values()) -/
def tTupVals (td : TE) : TE := fun σ H Q => td σ H fun x H1 => ∃ a kvs, x = V.ref a ∧ H1 a = some (.dK kvs) ∧ ∀ q, H1 q = none → Q (.ref q) (upd H1 q (.tup (kvs.map (·.2))))
end
end Ph

namespace Ph
open PySem PySem.Spec PyProof.Rows L2
theorem BL.get {H : Hp} : ∀ {xs : List V} {bs : List (Int × Int)} {i : Nat} {x : V}, BL H xs bs → xs[i]? = some x → ∃ b, bs[i]? = some b ∧ BkAt H x b
  | _, _, _, _, .nil, h => by simp at h
  | _, _, 0, _, .cons hb r, h => by
    have e := Option.some.inj h
    rw [← e]
    exact ⟨_, rfl, hb⟩
  | _ :: l1, _ :: l2, i + 1, x, .cons hb r, h => by
    have h' : l1[i]? = some x := h
    obtain ⟨b, e1, e2⟩ := BL.get (H := H) (xs := l1) (bs := l2) r h'
    exact ⟨b, e1, e2⟩
def ent (s : Int) (E : List Bk) (ys : List V) : List (Key × V) := List.zipWith (fun b y => (Sum.inl (b.1 / s), y)) E ys
section
variable {X : Cx} {o : Expr} {p pos apos mpos : Pos} {td : TE}
/-- list(d.values()) -/
def tLstVals (td : TE) : TE := fun σ H Q => td σ H fun x H1 => ∃ a kvs, x = V.ref a ∧ H1 a = some (.dK kvs) ∧ ∀ q, H1 q = none → Q (.ref q) (upd H1 q (.lst (kvs.map (·.2))))

end
end Ph

namespace Ph
open PySem PySem.Spec PyProof.Rows L2
theorem BL.kp {H H' : Hp} {xs : List V} {bs : List Bk} (h : BL H xs bs) (kp : KpT H H') : BL H' xs bs := BL.mono kp h
theorem perm_lex {l m : List Bk} (p : l.Perm m) (h1 : l.Pairwise fun x y => SrtO.lexB y x = false) (h2 : m.Pairwise fun x y => SrtO.lexB y x = false) : l = m :=
  p.eq_of_pairwise (fun a b _ _ x y => by
    have h3 := SrtO.lexB_no.mp x
    have h4 := SrtO.lexB_no.mp y
    exact Prod.ext (by omega) (by omega)) h1 h2
/-- blocks at 0, t, 2 t ..; the k-th has f k words -/
def bkl (t : Nat) (f : Nat → Nat) (n : Nat) : List Bk := (List.range n).map fun k => (((k * t : Nat) : Int), ((f k : Nat) : Int))
section
variable {X : Cx}
def rSetJ (K : PySem.W.Frag) (w : World) : List V → Hp → VK → Prop := fun vs H Q => ∃ (l : Addr) (ns : List Int), vs = [V.ref l] ∧ SqL K H l (ns.map V.int) ∧ ns.length + 1 < scanBound ∧ ∀ H' a c, Same H H' → H' a = some (SetO w a (fun j => decide (j ∈ ns)) c) → (ns.Nodup → c = ns.length) → Q (.ref a) H'
end
theorem paired_mapL {α β γ : Type} {F : γ → β → Prop} {f : α → β} : ∀ {l : List α} {m : List γ}, Paired (fun a c => F c (f a)) l m → Paired F m (l.map f)
  | _, _, .nil => .nil
  | _, _, .cons h r => .cons h (paired_mapL r)
theorem inc_ext : ∀ {l m : List Int}, l.Pairwise (· < ·) → m.Pairwise (· < ·) → (∀ k, k ∈ l ↔ k ∈ m) → l = m
  | [], [], _, _, _ => rfl
  | [], y :: m, _, _, h => by have := (h y).mpr (List.mem_cons_self ..); cases this
  | x :: l, [], _, _, h => by have := (h x).mp (List.mem_cons_self ..); cases this
  | x :: l, y :: m, hl, hm, h => by
    obtain ⟨l1, l2⟩ := List.pairwise_cons.mp hl
    obtain ⟨m1, m2⟩ := List.pairwise_cons.mp hm
    have e : x = y := by
      have a := List.mem_cons.mp ((h x).mp (List.mem_cons_self ..))
      have b := List.mem_cons.mp ((h y).mpr (List.mem_cons_self ..))
      rcases a with a | a
      · exact a
      · rcases b with b | b
        · exact b.symm
        · have := m1 x a
          have := l1 y b
          omega
    subst e
    rw [inc_ext l2 m2 fun k => ?_]
    constructor
    · intro hk
      have := l1 k hk
      rcases List.mem_cons.mp ((h k).mp (List.mem_cons_of_mem _ hk)) with z | z
      · omega
      · exact z
    · intro hk
      have := m1 k hk
      rcases List.mem_cons.mp ((h k).mpr (List.mem_cons_of_mem _ hk)) with z | z
      · omega
      · exact z
end Ph

namespace Ph
open PySem PySem.Spec PyProof.Rows L2
/-! ### ranges with a step -/
def upS (x s : Int) : Int := -(-x / s) * s
theorem upS_ge {x s : Int} (hs : 0 < s) : x ≤ upS x s := by
  unfold upS
  have := Int.ediv_mul_le (-x) (b := s) (by omega)
  rw [Int.neg_mul]
  omega
theorem upS_lt {x s : Int} (hs : 0 < s) : upS x s < x + s := by
  unfold upS
  have := Int.lt_ediv_add_one_mul_self (-x) hs
  rw [Int.add_mul, Int.one_mul] at this
  rw [Int.neg_mul]
  omega
theorem upS_mod {x s : Int} : upS x s % s = 0 := by
  unfold upS
  exact Int.mul_emod_left _ _
/-- how many numbers a range gives -/
def rgN (i j c : Int) : Nat := (Builtin.Range.rangeSize i j c).toNat
theorem rgN_nonneg {i j c : Int} (hc : 0 < c) : 0 ≤ Builtin.Range.rangeSize i j c := by
  unfold Builtin.Range.rangeSize
  rw [if_pos hc]
  split
  · have : 0 ≤ (j - i - 1) / c := Int.ediv_nonneg (by omega) (by omega)
    omega
  · exact Int.le_refl _
theorem rgN_le {i j c : Int} (hc : 0 < c) : rgN i j c ≤ (j - i).toNat := by
  unfold rgN Builtin.Range.rangeSize
  rw [if_pos hc]
  split
  · have : (j - i - 1) / c ≤ j - i - 1 := Int.ediv_le_self _ (by omega)
    omega
  · simp
theorem rg3_inc {i c : Int} (hc : 0 < c) (n : Nat) : (rg3 i c n).Pairwise (· < ·) := by
  unfold rg3
  rw [List.pairwise_map]
  refine List.pairwise_lt_range.imp fun {a b} h => ?_
  have : (a : Int) * c < b * c := Int.mul_lt_mul_of_pos_right (by omega) hc
  omega
theorem mem_rg3 {i j c k : Int} (hc : 0 < c) : k ∈ rg3 i c (rgN i j c) ↔ i ≤ k ∧ k < j ∧ (k - i) % c = 0 := by
  have hn := rgN_nonneg (i := i) (j := j) hc
  unfold rg3
  rw [List.mem_map]
  constructor
  · rintro ⟨t, ht, rfl⟩
    have ht := List.mem_range.mp ht
    have t0 : 0 ≤ (t : Int) * c := Int.mul_nonneg (by omega) (by omega)
    have hl : (t : Int) < Builtin.Range.rangeSize i j c := by unfold rgN at ht; omega
    unfold Builtin.Range.rangeSize at hl
    rw [if_pos hc] at hl
    refine ⟨by omega, ?_, ?_⟩
    · split at hl
      · have h1 : (t : Int) * c ≤ (j - i - 1) / c * c := Int.mul_le_mul_of_nonneg_right (by omega) (by omega)
        have h2 := Int.ediv_mul_le (j - i - 1) (b := c) (by omega)
        omega
      · omega
    · rw [show i + (t : Int) * c - i = t * c by omega]
      exact Int.mul_emod_left _ _
  · rintro ⟨h1, h2, h3⟩
    obtain ⟨t, ht⟩ := Int.dvd_of_emod_eq_zero h3
    have t0 : 0 ≤ t := by
      by_cases z : 0 ≤ t
      · exact z
      · have : c * t < 0 := Int.mul_neg_of_pos_of_neg hc (by omega)
        omega
    refine ⟨t.toNat, List.mem_range.mpr ?_, ?_⟩
    · have hl : t < Builtin.Range.rangeSize i j c := by
        unfold Builtin.Range.rangeSize
        rw [if_pos hc, if_pos (by omega)]
        have : t ≤ (j - i - 1) / c := by
          rw [Int.le_ediv_iff_mul_le hc]
          rw [Int.mul_comm]
          omega
        omega
      unfold rgN
      omega
    · rw [Int.toNat_of_nonneg t0, Int.mul_comm]
      omega
theorem inc_append {l m : List Int} (hl : l.Pairwise (· < ·)) (hm : m.Pairwise (· < ·)) (h : ∀ a ∈ l, ∀ b ∈ m, a < b) : (l ++ m).Pairwise (· < ·) := List.pairwise_append.mpr ⟨hl, hm, h⟩
/-! ### places -/
def plf (s : Int) : Int → List Bk → List Int
  | _, [] => []
  | ff, b :: r => rg3 (upS ff s) s (rgN (upS ff s) (b.1 - s + 1) s) ++ plf s (b.1 + b.2) r
def free (s : Int) (bs : List Bk) (W k : Int) : Prop := k % s = 0 ∧ 0 ≤ k ∧ k + s ≤ W ∧ ∀ b ∈ bs, k + s ≤ b.1 ∨ b.1 + b.2 ≤ k
theorem up_mod {s ff k : Int} (hs : 0 < s) : upS ff s ≤ k ∧ (k - upS ff s) % s = 0 ↔ ff ≤ k ∧ k % s = 0 := by
  have h1 := upS_ge (x := ff) hs
  have h2 := upS_lt (x := ff) hs
  have h3 := upS_mod (x := ff) (s := s)
  obtain ⟨q, hq⟩ := Int.dvd_of_emod_eq_zero h3
  constructor
  · rintro ⟨a, b⟩
    refine ⟨by omega, ?_⟩
    obtain ⟨r, hr⟩ := Int.dvd_of_emod_eq_zero b
    have : k = s * (q + r) := by rw [Int.mul_add]; omega
    rw [this]
    exact Int.mul_emod_right _ _
  · rintro ⟨a, b⟩
    obtain ⟨r, hr⟩ := Int.dvd_of_emod_eq_zero b
    have e : k - upS ff s = s * (r - q) := by rw [Int.mul_sub]; omega
    refine ⟨?_, by rw [e]; exact Int.mul_emod_right _ _⟩
    by_cases z : upS ff s ≤ k
    · exact z
    · exfalso
      have : r - q < 0 := by
        by_cases z2 : r - q < 0
        · exact z2
        · have : 0 ≤ s * (r - q) := Int.mul_nonneg (by omega) (by omega)
          omega
      have h5 : s * (r - q) ≤ s * (-1) := Int.mul_le_mul_of_nonneg_left (by omega) (by omega)
      omega
theorem plf_mem {s W : Int} (hs : 0 < s) : ∀ (bs : List Bk) (ff : Int), (∀ b ∈ bs, ff ≤ b.1 ∧ 1 ≤ b.2 ∧ b.1 + b.2 ≤ W) → bs.Pairwise (fun b c => b.1 + b.2 ≤ c.1) → ff ≤ W → ∀ k, k ∈ plf s ff (bs ++ [(W, 0)]) ↔ k % s = 0 ∧ ff ≤ k ∧ k + s ≤ W ∧ ∀ b ∈ bs, k + s ≤ b.1 ∨ b.1 + b.2 ≤ k
  | [], ff, _, _, _, k => by
    show k ∈ rg3 (upS ff s) s (rgN (upS ff s) (W - s + 1) s) ++ [] ↔ _
    rw [List.append_nil, mem_rg3 hs]
    have h := up_mod (ff := ff) (k := k) hs
    constructor
    · rintro ⟨a, b, c⟩
      obtain ⟨d, e⟩ := h.mp ⟨a, c⟩
      exact ⟨e, d, by omega, fun b hb => by cases hb⟩
    · rintro ⟨a, b, c, _⟩
      obtain ⟨d, e⟩ := h.mpr ⟨b, a⟩
      exact ⟨d, by omega, e⟩
  | b :: r, ff, hb, hp, hW, k => by
    obtain ⟨p1, p2⟩ := List.pairwise_cons.mp hp
    obtain ⟨b1, b2, b3⟩ := hb b (List.mem_cons_self ..)
    have ih := plf_mem hs r (b.1 + b.2) (fun c hc => ⟨p1 c hc, (hb c (List.mem_cons_of_mem _ hc)).2⟩) p2 b3 k
    show k ∈ rg3 (upS ff s) s (rgN (upS ff s) (b.1 - s + 1) s) ++ plf s (b.1 + b.2) (r ++ [(W, 0)]) ↔ _
    rw [List.mem_append, mem_rg3 hs, ih]
    have h := up_mod (ff := ff) (k := k) hs
    constructor
    · rintro (⟨a, c, d⟩ | ⟨a, c, d, e⟩)
      · obtain ⟨f, g⟩ := h.mp ⟨a, d⟩
        refine ⟨g, f, by omega, fun x hx => ?_⟩
        rcases List.mem_cons.mp hx with z | z
        · rw [z]; left; omega
        · have := p1 x z
          left; omega
      · refine ⟨a, by omega, d, fun x hx => ?_⟩
        rcases List.mem_cons.mp hx with z | z
        · rw [z]; right; exact c
        · exact e x z
    · rintro ⟨a, c, d, e⟩
      rcases e b (List.mem_cons_self ..) with z | z
      · obtain ⟨f, g⟩ := h.mpr ⟨c, a⟩
        exact .inl ⟨f, by omega, g⟩
      · exact .inr ⟨a, z, d, fun x hx => e x (List.mem_cons_of_mem _ hx)⟩
theorem plf_inc {s W : Int} (hs : 0 < s) : ∀ (bs : List Bk) (ff : Int), (∀ b ∈ bs, ff ≤ b.1 ∧ 1 ≤ b.2 ∧ b.1 + b.2 ≤ W) → bs.Pairwise (fun b c => b.1 + b.2 ≤ c.1) → ff ≤ W → (plf s ff (bs ++ [(W, 0)])).Pairwise (· < ·)
  | [], ff, _, _, _ => by
    show (rg3 (upS ff s) s (rgN (upS ff s) (W - s + 1) s) ++ []).Pairwise (· < ·)
    rw [List.append_nil]
    exact rg3_inc hs _
  | b :: r, ff, hb, hp, hW => by
    obtain ⟨p1, p2⟩ := List.pairwise_cons.mp hp
    obtain ⟨b1, b2, b3⟩ := hb b (List.mem_cons_self ..)
    have hb' : ∀ c ∈ r, b.1 + b.2 ≤ c.1 ∧ 1 ≤ c.2 ∧ c.1 + c.2 ≤ W := fun c hc => ⟨p1 c hc, (hb c (List.mem_cons_of_mem _ hc)).2⟩
    refine inc_append (rg3_inc hs _) (plf_inc hs r (b.1 + b.2) hb' p2 b3) fun x hx y hy => ?_
    have h1 := ((mem_rg3 hs).mp hx).2.1
    have h2 := ((plf_mem hs r (b.1 + b.2) hb' p2 b3 y).mp hy).2.1
    omega
theorem St.bnd {C : List Int} {W : Int} {bs : List Bk} (st : St C W bs) : ∀ b ∈ bs, 0 ≤ b.1 ∧ 1 ≤ b.2 ∧ b.1 + b.2 ≤ W := fun b hb => let ⟨_, h1, h2, _, h3⟩ := st.ok b hb; ⟨h2, h1, h3⟩
/-! ### a state behind another one -/
def fin : Int → List Bk → Int
  | ff, [] => ff
  | _, b :: r => fin (b.1 + b.2) r
theorem fin_snoc : ∀ (l : List Bk) (ff : Int) (b : Bk), fin ff (l ++ [b]) = b.1 + b.2
  | [], _, _ => rfl
  | _ :: r, _, b => fin_snoc r _ b
theorem rg3_len (i c : Int) (n : Nat) : (rg3 i c n).length = n := by unfold rg3; simp
theorem plf_len {s : Int} (hs : 0 < s) : ∀ (l : List Bk) (ff e : Int), (∀ b ∈ l, ff ≤ b.1 ∧ 0 ≤ b.2 ∧ b.1 + b.2 ≤ e) → l.Pairwise (fun b c => b.1 + b.2 ≤ c.1) → ff ≤ e → (plf s ff l).length ≤ (e - ff).toNat
  | [], ff, e, _, _, _ => by show 0 ≤ _; omega
  | b :: r, ff, e, hb, hp, he => by
    obtain ⟨p1, p2⟩ := List.pairwise_cons.mp hp
    obtain ⟨b1, b2, b3⟩ := hb b (List.mem_cons_self ..)
    have ih := plf_len hs r (b.1 + b.2) e (fun c hc => ⟨p1 c hc, (hb c (List.mem_cons_of_mem _ hc)).2⟩) p2 b3
    show (rg3 _ _ _ ++ plf s (b.1 + b.2) r).length ≤ _
    rw [List.length_append, rg3_len]
    have h1 := rgN_le (i := upS ff s) (j := b.1 - s + 1) hs
    have h2 := upS_ge (x := ff) hs
    omega
theorem fin_bnd : ∀ (l : List Bk) (ff e : Int), (∀ b ∈ l, ff ≤ b.1 ∧ 0 ≤ b.2 ∧ b.1 + b.2 ≤ e) → ff ≤ e → l.Pairwise (fun b c => b.1 + b.2 ≤ c.1) → ff ≤ fin ff l ∧ fin ff l ≤ e
  | [], ff, e, _, he, _ => ⟨Int.le_refl _, he⟩
  | b :: r, ff, e, hb, he, hp => by
    obtain ⟨p1, p2⟩ := List.pairwise_cons.mp hp
    obtain ⟨b1, b2, b3⟩ := hb b (List.mem_cons_self ..)
    have ih := fin_bnd r (b.1 + b.2) e (fun c hc => ⟨p1 c hc, (hb c (List.mem_cons_of_mem _ hc)).2⟩) b3 p2
    show ff ≤ fin (b.1 + b.2) r ∧ _
    exact ⟨by omega, ih.2⟩
theorem RgC.up {i j c : Int} (hc : 0 < c) (hc2 : c < 1073741824) (hi : -(2 ^ 61) ≤ i ∧ i < 2 ^ 61) (hj : -(2 ^ 61) ≤ j ∧ j < 2 ^ 61) : RgC i j c (rgN i j c) := by
  have h1 := rgN_le (i := i) (j := j) hc
  have h0 := rgN_nonneg (i := i) (j := j) hc
  have h2 : Builtin.Range.rangeSize i j c = ((rgN i j c : Nat) : Int) := by unfold rgN; omega
  refine ⟨by omega, by omega, ?_, h2⟩
  unfold Builtin.Range.small
  rw [h2]
  simp only [Builtin.Range.rangeFitsLong, Bool.and_eq_true, Bool.or_eq_true, decide_eq_true_eq, beq_iff_eq, if_pos hc]
  omega
theorem St.asc0 {C : List Int} {W : Int} {bs : List Bk} (st : St C W bs) (h0 : 0 ≤ W) : (∀ b ∈ bs ++ [(W, 0)], 0 ≤ b.1 ∧ 0 ≤ b.2 ∧ b.1 + b.2 ≤ W) ∧ (bs ++ [(W, 0)]).Pairwise (fun b c : Bk => b.1 + b.2 ≤ c.1) := by
  refine ⟨fun b hb => ?_, List.pairwise_append.mpr ⟨st.asc, by simp, fun b hb c hc => ?_⟩⟩
  · rcases List.mem_append.mp hb with z | z
    · have := st.bnd b z
      omega
    · rw [List.mem_singleton.mp z]
      dsimp only
      omega
  · rw [List.mem_singleton.mp hc]
    exact (st.bnd b hb).2.2
theorem plf_gap {s x : Int} (hs : 0 < s) (ff a : Int) : rg3 (upS ff s) s (rgN (upS ff s) (a - s + 1) s) = if upS ff s ≤ (a - s) / s * s then rg3 (upS ff s) s (rgN (upS ff s) ((a - s) / s * s + 1) s) else [] := by
  have key : ∀ k, k % s = 0 → (k ≤ a - s ↔ k ≤ (a - s) / s * s) := fun k hk => by
    have e : k = k / s * s := by
      have := Int.mul_ediv_add_emod k s
      rw [hk, Int.mul_comm] at this
      omega
    constructor
    · intro h
      have h1 : k / s ≤ (a - s) / s := Int.ediv_le_ediv hs h
      have := Int.mul_le_mul_of_nonneg_right h1 (Int.le_of_lt hs)
      omega
    · intro h
      have := Int.ediv_mul_le (a - s) (b := s) (by omega)
      omega
  have um : upS ff s % s = 0 := upS_mod
  have mm : ∀ k, (k - upS ff s) % s = 0 → k % s = 0 := fun k h => by
    have e : k = (k - upS ff s) + upS ff s := by omega
    rw [e, Int.add_emod, h, um]
    simp
  split
  · refine inc_ext (rg3_inc hs _) (rg3_inc hs _) fun k => ?_
    rw [mem_rg3 hs, mem_rg3 hs]
    constructor
    · rintro ⟨h1, h2, h3⟩
      have := (key k (mm k h3)).mp (by omega)
      exact ⟨h1, by omega, h3⟩
    · rintro ⟨h1, h2, h3⟩
      have := (key k (mm k h3)).mpr (by omega)
      exact ⟨h1, by omega, h3⟩
  · rename_i h
    cases e : rg3 (upS ff s) s (rgN (upS ff s) (a - s + 1) s) with
    | nil => rfl
    | cons k r =>
      have hk : k ∈ rg3 (upS ff s) s (rgN (upS ff s) (a - s + 1) s) := by rw [e]; exact List.mem_cons_self ..
      rw [mem_rg3 hs] at hk
      have := (key (upS ff s) um).mp (by omega)
      omega
def gp1 (s ff : Int) (b : Bk) : List Bk := if upS ff s ≤ (b.1 - s) / s * s then [(upS ff s, (b.1 - s) / s * s)] else []
def gpf (s : Int) : Int → List Bk → List Bk
  | _, [] => []
  | ff, b :: r => gp1 s ff b ++ gpf s (b.1 + b.2) r
theorem gpf_snoc (s : Int) : ∀ (l : List Bk) (ff : Int) (b : Bk), gpf s ff (l ++ [b]) = gpf s ff l ++ gp1 s (fin ff l) b
  | [], ff, b => by show gp1 s ff b ++ [] = [] ++ _; rw [List.append_nil]; rfl
  | c :: r, ff, b => by
    show gp1 s ff c ++ gpf s (c.1 + c.2) (r ++ [b]) = gp1 s ff c ++ gpf s (c.1 + c.2) r ++ _
    rw [gpf_snoc s r, List.append_assoc]
    rfl
def gpr (s : Int) (g : Bk) : List Int := rg3 g.1 s (rgN g.1 (g.2 + 1) s)
theorem plf_gpf {s : Int} (hs : 0 < s) : ∀ (l : List Bk) (ff : Int), plf s ff l = (gpf s ff l).flatMap (gpr s)
  | [], _ => rfl
  | b :: r, ff => by
    show rg3 (upS ff s) s (rgN (upS ff s) (b.1 - s + 1) s) ++ plf s (b.1 + b.2) r = (gp1 s ff b ++ gpf s (b.1 + b.2) r).flatMap (gpr s)
    rw [plf_gpf hs r, plf_gap (x := 0) hs, List.flatMap_append]
    congr 1
    unfold gp1
    split
    · rw [List.flatMap_cons, List.flatMap_nil, List.append_nil]
      rfl
    · rfl
theorem gpf_bnd {s W : Int} (hs : 0 < s) : ∀ (l : List Bk) (ff : Int), (∀ b ∈ l, 0 ≤ b.1 ∧ 0 ≤ b.2 ∧ b.1 + b.2 ≤ W) → 0 ≤ ff → ∀ g ∈ gpf s ff l, 0 ≤ g.1 ∧ g.1 ≤ g.2 ∧ g.2 ≤ W
  | [], _, _, _, g, hg => by cases hg
  | b :: r, ff, h, hf, g, hg => by
    obtain ⟨b1, b2, b3⟩ := h b (List.mem_cons_self ..)
    rcases List.mem_append.mp hg with z | z
    · unfold gp1 at z
      split at z
      · rename_i c
        rw [List.mem_singleton.mp z]
        have := upS_ge (x := ff) hs
        have := Int.ediv_mul_le (b.1 - s) (b := s) (by omega)
        exact ⟨by show 0 ≤ upS ff s; omega, c, by show (b.1 - s) / s * s ≤ W; omega⟩
      · cases z
    · exact gpf_bnd hs r (b.1 + b.2) (fun c hc => h c (List.mem_cons_of_mem _ hc)) (by omega) g z
theorem gpf_len (s : Int) : ∀ (l : List Bk) (ff : Int), (gpf s ff l).length ≤ l.length
  | [], _ => Nat.le_refl _
  | b :: r, ff => by
    show (gp1 s ff b ++ _).length ≤ _
    have h1 := gpf_len s r (b.1 + b.2)
    have h2 : (gp1 s ff b).length ≤ 1 := by unfold gp1; split <;> simp
    rw [List.length_append, List.length_cons]
    omega
end Ph

namespace Ph
open PySem PySem.Spec PyProof.Rows L2
/-! ### the lowest place: guarantees (a) and (c) -/
def ind (a l x : Nat) : Nat := if a ≤ x ∧ x < a + l then 1 else 0
def ocB (b : Bk) (x : Nat) : Nat := ind b.1.toNat b.2.toNat x
def occ (bs : List Bk) (x : Nat) : Nat := if bs.any (fun b => decide (ocB b x = 1)) = true then 1 else 0
def totN (bs : List Bk) : Nat := (bs.map fun b => b.2.toNat).sum
/-- blocks of a chain, at their multiples -/
def Bok (s : Nat → Nat) (p : Nat) (bs : List Bk) : Prop := ∀ b ∈ bs, ∃ (a j : Nat), j ≤ p ∧ b = (((a * s j : Nat) : Int), ((s j : Nat) : Int))
theorem cut_oneL {s : Nat → Nat} {p : Nat} : cutV ((tl s (p + 1)).map V.int) (some 1) none = (tl (fun i => s (i + 1)) p).map V.int := by
  have e : (tl s (p + 1)).map V.int = V.int ((s 0 : Nat) : Int) :: (tl (fun i => s (i + 1)) p).map V.int := by
    unfold tl
    rw [List.range_succ_eq_map, List.map_cons, List.map_cons, List.map_map, List.map_map, List.map_map]
    rfl
  rw [e]
  unfold cutV HT.sIx
  simp [tl_len]
  exact List.take_of_length_le (by rw [List.length_map, tl_len]; exact Nat.le_refl _)
theorem BL.at0 {H : Hp} {xs : List V} {b : Bk} {bs : List Bk} (h : BL H xs (b :: bs)) : ∃ x, xs[0]? = some x ∧ BkAt H x b := Paired.get2 h (i := 0) rfl
end Ph

namespace Ph
open PySem PySem.Spec PyProof.Rows L2
/-! ### heaps as objects -/
def hf (c : Addr) (pg M : Int) (t l : Addr) : List (Str × V) := [("chain", .ref c), ("pages", .int pg), ("limit", .int M), ("rule", .str "lowest"), ("blocks", .ref t), ("steps", .ref l)]
/-- what changes at h and at l alone -/
def Fr (h l : Addr) (H H' : Hp) : Prop := ∀ b o, b ≠ h → b ≠ l → H b = some o → H' b = some o
theorem Fr.trans {h l : Addr} {H H1 H2 : Hp} (a : Fr h l H H1) (b : Fr h l H1 H2) : Fr h l H H2 := fun c o n1 n2 e => b c o n1 n2 (a c o n1 n2 e)
theorem _root_.L2.Same.fr {h l : Addr} {H H' : Hp} (s : Same H H') : Fr h l H H' := fun _ _ _ _ e => s _ _ e
/-- a heap object at h, its steps at l -/
structure HpA (C : Addr) (H : Hp) (h l c : Addr) (s : Nat → Nat) (p pg M : Nat) (bs : List Bk) (n : Nat) (dx t : Addr) (xs : List V) : Prop where
  ob : H h = some (.ins C dx (hf c pg M t l))
  ch : ChAt H c (tl s (p + 1))
  st : StAt H t bs
  ls : H l = some (.lst xs)
  ln : xs.length ≤ n
def HpAt (C : Addr) (H : Hp) (h l c : Addr) (s : Nat → Nat) (p pg M : Nat) (bs : List Bk) (n : Nat) : Prop := ∃ dx t xs, HpA C H h l c s p pg M bs n dx t xs
theorem StAt.mono {H H' : Hp} {t : Addr} {bs : List Bk} (h : StAt H t bs) (kp : KpT H H') : StAt H' t bs := by
  obtain ⟨xs, e, b⟩ := h
  exact ⟨xs, kp _ _ e, BL.kp b kp⟩
theorem ChAt.frz {H H' : Hp} {c : Addr} {C : List Int} (h : ChAt H c C) (kp : ∀ o u, H c = some (.frz o u) → H' c = some (.frz o u)) : ChAt H' c C := let ⟨o, d, e⟩ := h; ⟨o, d, kp _ _ e⟩
end Ph

namespace Ph
open PySem PySem.Spec PyProof.Rows L2
/-! ### a get by the lowest place, a free: what becomes of the state and of the outlook -/
/-- the reaches, as numbers -/
def Rho (s : Nat → Nat) (p : Nat) (bs : List Bk) (ρ : Nat → Nat) : Prop := ((tl s (p + 1)).map fun l => rch l bs) = tl ρ (p + 1)
/-- where the lowest place lies, and why -/
structure LowP (z : Int) (bs : List Bk) (W x : Int) : Prop where
  mod : x % z = 0
  pos : 0 ≤ x
  fit : x + z ≤ W
  free : ∀ b ∈ bs, x + z ≤ b.1 ∨ b.1 + b.2 ≤ x
  full : ∀ k : Int, 0 ≤ k → k % z = 0 → k < x → ∃ b ∈ bs, b.1 < k + z ∧ k < b.1 + b.2
section
variable {s ρ : Nat → Nat} {p M : Nat} {W : Int} {bs : List Bk}
theorem St.filter {C : List Int} (q : Bk → Bool) (st : St C W bs) : St C W (bs.filter q) := ⟨fun b hb => st.ok b (List.mem_filter.mp hb).1, st.asc.sublist List.filter_sublist⟩
theorem sum_filter {C : List Int} (q : Bk → Bool) (st : St C W bs) : ((bs.filter q).map fun b => b.2).sum ≤ (bs.map fun b => b.2).sum := by
  have h : ∀ b ∈ bs, 0 ≤ b.2 := fun b hb => by have := (st.ok b hb).2.1; omega
  clear st
  induction bs with
  | nil => exact Int.le_refl _
  | cons b r ih =>
    have ih := ih fun c hc => h c (List.mem_cons_of_mem _ hc)
    have := h b (List.mem_cons_self ..)
    by_cases e : q b = true
    · rw [List.filter_cons_of_pos e, List.map_cons, List.map_cons, List.sum_cons, List.sum_cons]
      omega
    · rw [List.filter_cons_of_neg e, List.map_cons, List.sum_cons]
      omega
theorem sum_perm {l m : List Bk} (h : l.Perm m) : (l.map fun b => b.2).sum = (m.map fun b => b.2).sum := by
  have := h.map (fun b : Bk => b.2)
  generalize l.map (fun b : Bk => b.2) = a at this
  generalize m.map (fun b : Bk => b.2) = b at this
  induction this with
  | nil => rfl
  | cons x _ ih => rw [List.sum_cons, List.sum_cons, ih]
  | swap x y l => rw [List.sum_cons, List.sum_cons, List.sum_cons, List.sum_cons]; omega
  | trans _ _ a b => rw [a, b]
end
end Ph

namespace Ph
open PySem PySem.Spec PyProof.Rows L2
section
variable {X : Cx}
/-! ### block not in blocks -/
def rNotInL (K : PySem.W.Frag) : R2 := fun x y H Q => ∃ (b : Bk) (a : Addr) (ys : List V) (cs : List Bk), BkAt H x b ∧ y = .ref a ∧ SqL K H a ys ∧ BL H ys cs ∧ Q (.bl (!decide (b ∈ cs))) H
end
theorem putK_len {kvs : List (Key × V)} {k : Key} {v : V} : (putK kvs k v).length ≤ kvs.length + 1 := by
  unfold putK
  split
  · rw [List.length_map]; omega
  · rw [List.length_append]; exact Nat.le_refl _
end Ph

namespace Ph
open PySem PySem.Spec PyProof.Rows L2
/-! ### a written tuple, known to have no dict of its own -/
def tTupF (t : TA) : TE := fun σ H Q => t σ H fun xs H1 => xs.length ≤ sizeLine ∧ ∀ (p : Addr) (o : Obj), H1 p = none → o.dict = none → Q (.ref p) (upd H1 p (.frz o (.tup xs)))
theorem pe_tupF {X : Cx} {es : List Expr} {t : TA} {x1 : Nat} {pos : Pos} (h : PA X es t) : PE X (.Tuple es x1 pos) (tTupF t) := by
  refine ⟨fun pins s σ H Q I hq => ?_⟩
  refine wpAny_Tuple_spliced (thn (h.run pos pins s σ H _ I hq) fun us s1 ⟨xs, H1, I1, r, z, q⟩ => ⟨by rw [← r.length]; exact z, ?_⟩)
  have hf : H1 s1.heap.objs.size = none := I1.hok.fresh (Nat.le_refl _)
  refine ⟨.ref s1.heap.objs.size, _, I1.laid (t' := s1.toks) (o := .frz { cls := .type "tuple", data := .seq us.toArray } (.tup xs)) (fun b u e => Heap.get?_push_of_some _ e) (Nat.le_refl _) ⟨Heap.get?_push_size _ rfl, z, us, r, IsTup.new _ _⟩, rfl, q _ _ hf rfl⟩
end Ph

/-! PhDr2: repr of data with dicts; only the dicts themselves must not be sys.modules. -/
namespace Ph
open PySem PySem.Spec PyProof.Rows L2
section
variable (P : Program) (w : World) (h : Heap)
/-- u holds d, and shows it within other data -/
def Sh1 (u : Value) (d : PyData) : Prop := (∃ as, Reads h u d as) ∧ (d.showable = true → d.shown.length ≤ sizeLine → ∃ bs, ReadAtMost h d.depth bs ∧ ReprK P w bs h d.depth u d.shown)
def ShA (us : List Value) (ds : List PyData) : Prop := (∃ as, ReadsAll h us ds as) ∧
  (PyData.showableAll ds = true → (∀ t ∈ PyData.shownAll ds, t.length ≤ sizeLine) → ∃ bs, ReadAtMost h (PyData.depthAll ds) bs ∧ ReprAllK P w bs h (PyData.depthAll ds) us (PyData.shownAll ds))
/-- repr(u) -/
def Top (u : Value) (d : PyData) : Prop := ∀ (A : Around) (E : Value → Shared → Prop) (s : Shared) (Q : Value → Shared → Prop), A.guards = some [] → A.units + (d.depth + 1) < cLine → (∀ b o, h.get? b = some o → s.heap.get? b = some o) →
  (∀ h' t k, (∀ b o, s.heap.get? b = some o → h'.get? b = some o) → Q (.str d.shown t) { s with heap := h', toks := k }) → wpAny (model P w) A (call (.builtin "repr") [u]) Q E s
end
section
variable {P : Program} {w : World} {h : Heap}
end
end Ph

/-! PhDk: data with dicts (keys: ints and texts): read off the heap, and repr of it. -/
namespace Ph
open PySem PySem.Spec PyProof.Rows L2
def keyD : Key → PyData
  | .inl i => .int i
  | .inr x => .str x
mutual
inductive Dq (K : PySem.W.Frag) (H : Hp) : V → PyData → Prop
  | non : Dq K H .non .none
  | bl (b : Bool) : Dq K H (.bl b) (.bool b)
  | int (i : Int) : Dq K H (.int i) (.int i)
  | str (x : Str) : Dq K H (.str x) (.str x)
  | lst {a : Addr} {xs : List V} {ds : List PyData} (hs : SqL K H a xs) (ha : DqAll K H xs ds) : Dq K H (.ref a) (.list ds)
  | tup {a : Addr} {xs : List V} {ds : List PyData} (hs : SqT K H a xs) (ha : DqAll K H xs ds) : Dq K H (.ref a) (.tuple ds)
  | dct {a : Addr} {kvs : List (Key × V)} {ds : List (PyData × PyData)} (hs : Rd H a (.dK kvs)) (ha : DqKvs K H kvs ds) : Dq K H (.ref a) (.dict ds)
inductive DqAll (K : PySem.W.Frag) (H : Hp) : List V → List PyData → Prop
  | nil : DqAll K H [] []
  | cons {v : V} {vs : List V} {d : PyData} {ds : List PyData} (h : Dq K H v d) (r : DqAll K H vs ds) : DqAll K H (v :: vs) (d :: ds)
inductive DqKvs (K : PySem.W.Frag) (H : Hp) : List (Key × V) → List (PyData × PyData) → Prop
  | nil : DqKvs K H [] []
  | cons {k : Key} {v : V} {r : List (Key × V)} {d : PyData} {ds : List (PyData × PyData)} (h : Dq K H v d) (t : DqKvs K H r ds) : DqKvs K H ((k, v) :: r) ((keyD k, d) :: ds)
end
section
variable {X : Cx} {pins : List (Addr × Obj)} {σ : L2.St} {H : Hp} {s : Shared}
end
section
variable {X : Cx}
/-- repr(x), x any data -/
def rRqA (K : PySem.W.Frag) : List V → Hp → VK → Prop := fun xs H Q => ∃ (x : V) (d : PyData), xs = [x] ∧ Dq K H x d ∧ d.showable = true ∧ d.depth ≤ 60 ∧ d.shown.length ≤ sizeLine ∧ Q (.str d.shown) H
end
end Ph

set_option maxHeartbeats 4000000
/-! PhKd: dicts whose keys are tuples of tuples (KD): {}, {k: v}, k in d, k not in d, d[k], d[k] = v. -/
namespace Ph
open PySem PySem.Spec PyProof.Rows L2
/-- a tuple, plain or frozen -/
def TuH (H : Hp) (a : Addr) (xs : List V) : Prop := H a = some (.tup xs) ∨ ∃ o, H a = some (.frz o (.tup xs))
theorem TuH.same {H H' : Hp} {a : Addr} {xs : List V} (h : TuH H a xs) (s : Same H H') : TuH H' a xs := h.imp (s _ _) fun ⟨o, e⟩ => ⟨o, s _ _ e⟩
mutual
/-- a value as a key -/
inductive Nk (H : Hp) : V → NestedKey → Prop
  | non : Nk H .non .none
  | int (i : Int) : Nk H (.int i) (.num i)
  | str (x : Str) : Nk H (.str x) (.text x)
  | tup {a : Addr} {xs : List V} {ks : List NestedKey} : TuH H a xs → NkAll H xs ks → Nk H (.ref a) (.tup ks)
inductive NkAll (H : Hp) : List V → List NestedKey → Prop
  | nil : NkAll H [] []
  | cons {x : V} {xs : List V} {k : NestedKey} {ks : List NestedKey} : Nk H x k → NkAll H xs ks → NkAll H (x :: xs) (k :: ks)
end
theorem Nk.keeps {H H' : Hp} (s : ∀ a xs, TuH H a xs → TuH H' a xs) {v : V} {k : NestedKey} (h : Nk H v k) : Nk H' v k := by
  refine @Nk.rec H (fun v k _ => Nk H' v k) (fun vs ks _ => NkAll H' vs ks) ?_ ?_ ?_ ?_ ?_ ?_ v k h
  · exact .non
  · exact .int
  · exact .str
  · exact fun e _ ih => .tup (s _ _ e) ih
  · exact .nil
  · exact fun _ _ i1 i2 => .cons i1 i2
theorem tuH_is {P : Program} {w : World} {H : Hp} {h : Heap} (ok : HOk P w H h) {a : Addr} {xs : List V} (e : TuH H a xs) : ∃ o its n, h.get? a = some o ∧ o.cls = .type "tuple" ∧ o.data = .seq its n ∧ Vals xs its.toList := by
  have x : ObjOk P w H h a (.tup xs) := by
    rcases e with e | ⟨o, e⟩
    · exact ok a _ e
    · exact (show ObjOk P w H h a (.frz o (.tup xs)) from ok a _ e).2
  obtain ⟨_, its, rv, o, ho, hc, n, hdat⟩ := x
  exact ⟨o, its.toArray, n, ho, hc, hdat, by simpa using rv⟩
theorem Nk.is {P : Program} {w : World} {H : Hp} {h : Heap} (ok : HOk P w H h) {v : V} {k : NestedKey} (n : Nk H v k) : ∀ u, RelV v u → NestedIs h k u := by
  refine @Nk.rec H (fun v k _ => ∀ u, RelV v u → NestedIs h k u) (fun vs ks _ => ∀ us, Vals vs us → NestedAll h ks us) ?_ ?_ ?_ ?_ ?_ ?_ v k n
  · intro u r
    cases (show u = Value.none from r)
    exact .none
  · intro i u r
    obtain ⟨t, rfl⟩ := (show ∃ t, u = Value.int i t from r)
    exact .int i t
  · intro x u r
    obtain ⟨t, rfl⟩ := (show ∃ t, u = Value.str x t from r)
    exact .text x t
  · intro a xs ks e _ ih u r
    cases (show u = Value.ref a from r)
    obtain ⟨o, its, m, ho, hc, hd, rv⟩ := tuH_is ok e
    exact .tup ho hc hd (ih _ rv)
  · intro us r
    cases r
    exact .nil
  · intro x xs k ks _ _ i1 i2 us r
    cases r with
    | cons r1 r2 => exact .cons (i1 _ r1) (i2 _ r2)
/-! ### the dict as an object -/
abbrev KAV := NestedKey × Addr × V
abbrev NR : List KAV → List (NestedKey × Addr × Value) → Prop := Paired fun p q => p.1 = q.1 ∧ p.2.1 = q.2.1 ∧ RelV p.2.2 q.2.2
def kv2 (x : KAV) : NestedKey × V := (x.1, x.2.2)
def enK (w : World) (x : NestedKey × Addr × Value) : DictEntry := ⟨x.1.hash w, .ref x.2.1, x.2.2⟩
def dkO (w : World) (d : Addr) (xs : List KAV) : HO := .ext fun h => ∃ o es ep, h.get? d = some o ∧ o.ExactDict ∧ o.data = .dict es ep ∧ ∃ ys, es.toList = ys.map (enK w) ∧ NR xs ys
/-- a dict with the keys and values kvs, in this order -/
def KD (w : World) (H : Hp) (d : Addr) (kvs : List (NestedKey × V)) : Prop := ∃ xs, H d = some (dkO w d xs) ∧ (d == sysModules) = false ∧ xs.map kv2 = kvs ∧ (∀ x ∈ xs, Nk H (.ref x.2.1) x.1 ∧ x.1.depth ≤ 8) ∧ (xs.map (·.1)).Nodup ∧ xs.length ≤ sizeLine
/-- what keeps d and all tuples keeps the dict -/
theorem KD.keeps {w : World} {H H' : Hp} {d : Addr} {kvs : List (NestedKey × V)} (k : KD w H d kvs) (s : ∀ a xs, TuH H a xs → TuH H' a xs) (e : ∀ u, H d = some u → H' d = some u) : KD w H' d kvs := by
  obtain ⟨xs, hd, hs, he, hk, hn, hl⟩ := k
  exact ⟨xs, e _ hd, hs, he, fun x hx => ⟨(hk x hx).1.keeps s, (hk x hx).2⟩, hn, hl⟩
theorem KD.same {w : World} {H H' : Hp} {d : Addr} {kvs : List (NestedKey × V)} (k : KD w H d kvs) (s : Same H H') : KD w H' d kvs := k.keeps (fun _ _ e => e.same s) fun _ e => s _ _ e
theorem KD.ext {w : World} {H : Hp} {d : Addr} {kvs : List (NestedKey × V)} (k : KD w H d kvs) : ∃ φ, H d = some (.ext φ) := by
  obtain ⟨xs, hd, _⟩ := k
  exact ⟨_, hd⟩
theorem NR.keys {xs : List KAV} {ys : List (NestedKey × Addr × Value)} (r : NR xs ys) : xs.map (·.1) = ys.map (·.1) := by
  induction r with
  | nil => rfl
  | cons h _ ih => rw [List.map_cons, List.map_cons, ih, h.1]
theorem NR.mem {xs : List KAV} {ys : List (NestedKey × Addr × Value)} (r : NR xs ys) {y : NestedKey × Addr × Value} (hy : y ∈ ys) : ∃ x ∈ xs, x.1 = y.1 ∧ x.2.1 = y.2.1 ∧ RelV x.2.2 y.2.2 := by
  induction r with
  | nil => exact nomatch hy
  | cons q _ ih =>
    rcases List.mem_cons.mp hy with e | hy
    · rw [e]
      exact ⟨_, List.mem_cons_self, q⟩
    · obtain ⟨x, hx, z⟩ := ih hy
      exact ⟨x, List.mem_cons_of_mem _ hx, z⟩
theorem kd_of {P : Program} {w : World} {H : Hp} {h : Heap} {d : Addr} {xs : List KAV} (ok : HOk P w H h) (hd : H d = some (dkO w d xs)) (hk : ∀ x ∈ xs, Nk H (.ref x.2.1) x.1 ∧ x.1.depth ≤ 8) (hn : (xs.map (·.1)).Nodup) :
    ∃ ys, NR xs ys ∧ h.DictOfH (nestedKind P w) d ys := by
  obtain ⟨⟨o, es, ep, ho, hc, hdat, ys, he, r⟩, _⟩ := (show ObjOk P w H h d (dkO w d xs) from ok d _ hd)
  refine ⟨ys, r, o, es, ep, ho, hc, hdat, he, fun y hy => ?_, by rw [← r.keys]; exact hn⟩
  obtain ⟨x, hx, e1, e2, _⟩ := r.mem hy
  have := hk x hx
  rw [e1, e2] at this
  exact ⟨this.1.is ok _ rfl, this.2⟩
theorem NR.val {xs : List KAV} {ys : List (NestedKey × Addr × Value)} (r : NR xs ys) (k : NestedKey) : RelO (valV (xs.map kv2) k) ((atKey ys k).map (·.2)) := by
  induction r with
  | nil => exact True.intro
  | @cons p q ps qs z t ih =>
    obtain ⟨z1, _, z3⟩ := z
    rw [List.map_cons]
    by_cases e : p.1 = k
    · have e' : q.1 = k := z1.symm.trans e
      have b : atKey (q :: qs) k = some q.2 := by simp [atKey, List.find?_cons, e']
      rw [valV_pos (show (kv2 p).1 = k from e), b]
      exact z3
    · have e' : ¬ q.1 = k := fun y => e (z1.trans y)
      have b : atKey (q :: qs) k = atKey qs k := by simp [atKey, List.find?_cons, e']
      rw [valV_neg (show ¬ (kv2 p).1 = k from e), b]
      exact ih
/-- the table behind d[k] = v -/
def putX (xs : List KAV) (k : NestedKey) (b : Addr) (v : V) : List KAV := if (valV (xs.map kv2) k).isSome then xs.map (fun x => if x.1 = k then (x.1, x.2.1, v) else x) else xs ++ [(k, b, v)]
theorem NR.put {xs : List KAV} {ys : List (NestedKey × Addr × Value)} (r : NR xs ys) {k : NestedKey} {b : Addr} {v : V} {u : Value} (rv : RelV v u) : NR (putX xs k b v) (storedH ys k b u) := by
  have e : (valV (xs.map kv2) k).isSome = (atKey ys k).isSome := by rw [(r.val k).isSome_eq, Option.isSome_map]
  unfold putX storedH
  rw [e]
  by_cases c : (atKey ys k).isSome = true
  · rw [if_pos c, if_pos c]
    clear e c
    induction r with
    | nil => exact .nil
    | @cons p q ps qs z t ih =>
      rw [List.map_cons, List.map_cons]
      refine .cons ?_ ih
      obtain ⟨z1, z2, z3⟩ := z
      unfold putAt
      by_cases e : p.1 = k
      · rw [if_pos e, if_pos (z1.symm.trans e)]
        exact ⟨z1, z2, rv⟩
      · rw [if_neg e, if_neg (fun y => e (z1.trans y))]
        exact ⟨z1, z2, z3⟩
  · rw [if_neg c, if_neg c]
    exact Paired.snoc r ⟨rfl, rfl, rv⟩
theorem putX_map (xs : List KAV) (k : NestedKey) (b : Addr) (v : V) : (putX xs k b v).map kv2 = putK (xs.map kv2) k v := by
  unfold putX putK
  rw [valV_any]
  by_cases c : (valV (xs.map kv2) k).isSome = true
  · rw [if_pos c, if_pos c, List.map_map, List.map_map]
    refine List.map_congr_left fun x _ => ?_
    show kv2 (if x.1 = k then (x.1, x.2.1, v) else x) = if (kv2 x).1 = k then ((kv2 x).1, v) else kv2 x
    by_cases e : x.1 = k
    · rw [if_pos e, if_pos (show (kv2 x).1 = k from e)]
      rfl
    · rw [if_neg e, if_neg (show ¬ (kv2 x).1 = k from e)]
  · rw [if_neg c, if_neg c, List.map_append]
    rfl
theorem putX_mem {xs : List KAV} {k : NestedKey} {b : Addr} {v : V} {x : KAV} (h : x ∈ putX xs k b v) : (x.1 = k ∧ x.2.1 = b) ∨ ∃ y ∈ xs, x.1 = y.1 ∧ x.2.1 = y.2.1 := by
  unfold putX at h
  split at h
  · obtain ⟨y, hy, rfl⟩ := List.mem_map.mp h
    refine .inr ⟨y, hy, ?_⟩
    split <;> exact ⟨rfl, rfl⟩
  · rcases List.mem_append.mp h with h | h
    · exact .inr ⟨x, h, rfl, rfl⟩
    · rw [List.mem_singleton.mp h]
      exact .inl ⟨rfl, rfl⟩
theorem putX_len (xs : List KAV) (k : NestedKey) (b : Addr) (v : V) : (putX xs k b v).length ≤ xs.length + 1 := by
  unfold putX
  split
  · rw [List.length_map]
    omega
  · rw [List.length_append]
    exact Nat.le_refl _
theorem dkO_ok {P : Program} {w : World} {H : Hp} {h : Heap} {d : Addr} {xs : List KAV} {ys : List (NestedKey × Addr × Value)} (r : NR xs ys) (x : h.DictOfH (nestedKind P w) d ys) : ObjOk P w H h d (dkO w d xs) := by
  obtain ⟨o, es, ep, ho, hc, hdat, he, _, _⟩ := x
  refine ⟨⟨o, es, ep, ho, hc, hdat, ys, he, r⟩, ⟨o, ho⟩, fun h1 h2 z k => ?_⟩
  obtain ⟨o2, es2, ep2, ho2, z2⟩ := z
  exact ⟨o2, es2, ep2, k _ ho2, z2⟩
section
variable {X : Cx} {pins : List (Addr × Obj)} {σ : L2.St} {H : Hp} {s : Shared} {d b : Addr} {v : V} {kvs : List (NestedKey × V)} {k : NestedKey} {A : Around} {E : Value → Shared → Prop}
theorem nk_room {P : Program} {w : World} {A : Around} (hu : A.units + 64 < cLine) : (nestedKind P w).room A.in1 := by
  show A.units + 1 + 8 < cLine
  omega
theorem nk_roomD {P : Program} {w : World} {A : Around} (hu : A.units + 64 < cLine) : (nestedKind P w).room A := by
  show A.units + 8 < cLine
  omega
theorem nk_key (I : Inv X pins σ H s) (n : Nk H (.ref b) k) (dp : k.depth ≤ 8) : (nestedKind X.prog X.w).is s.heap k b := ⟨n.is I.hok _ rfl, dp⟩
theorem kd_get {Q : Value → Shared → Prop} (hu : A.units + 64 < cLine) (I : Inv X pins σ H s) (D : KD X.w H d kvs) (n : Nk H (.ref b) k) (dp : k.depth ≤ 8) (hv : valV kvs k = some v) (h : ∀ w' s', Inv X pins σ H s' → RelV v w' → Q w' s') :
    s.TypeIs (.ref d) "dict" ∧ wpAny (model X.prog X.w) A (getItem (.ref d) (.ref b)) Q E s := by
  obtain ⟨xs, hd, hs, rfl, hk, hn, hl⟩ := D
  obtain ⟨ys, r, dd⟩ := kd_of I.hok hd hk hn
  obtain ⟨w', hw, rw'⟩ := RelO.some_of (v := v) (o := (atKey ys k).map (·.2)) (by rw [← hv]; exact r.val k)
  obtain ⟨p, hp, hp2⟩ := Option.map_eq_some_iff.mp hw
  refine ⟨dd.typeIs, wpAny_getItem_heap (nk_room hu) (nk_key I n dp) dd hp ?_⟩
  rw [hp2]
  exact h w' _ (I.tok _) rw'
/-- the dict written: what the heap is then -/
theorem kd_new {w : World} {H : Hp} {xs : List KAV} {k : NestedKey} {b : Addr} {v : V} (hs : (d == sysModules) = false) (hk : ∀ x ∈ xs, Nk H (.ref x.2.1) x.1 ∧ x.1.depth ≤ 8) (n : Nk H (.ref b) k) (dp : k.depth ≤ 8) (hd : ∀ a zs, TuH H a zs → a ≠ d) (nd : ((putX xs k b v).map (·.1)).Nodup) (hl : xs.length < sizeLine) :
    KD w (upd H d (dkO w d (putX xs k b v))) d (putK (xs.map kv2) k v) := by
  have st : ∀ a zs, TuH H a zs → TuH (upd H d (dkO w d (putX xs k b v))) a zs := fun a zs e => by
    have ne := hd a zs e
    rcases e with e | ⟨o, e⟩
    · exact .inl ((upd_ne ne).trans e)
    · exact .inr ⟨o, (upd_ne ne).trans e⟩
  refine ⟨putX xs k b v, upd_same, hs, putX_map xs k b v, fun x hx => ?_, nd, Nat.le_trans (putX_len xs k b v) hl⟩
  rcases putX_mem hx with ⟨e1, e2⟩ | ⟨y, hy, e1, e2⟩
  · rw [e1, e2]
    exact ⟨n.keeps st, dp⟩
  · rw [e1, e2]
    exact ⟨(hk y hy).1.keeps st, (hk y hy).2⟩
theorem kd_set {Q : Unit → Shared → Prop} {r : Value} (hu : A.units + 64 < cLine) (I : Inv X pins σ H s) (D : KD X.w H d kvs) (n : Nk H (.ref b) k) (dp : k.depth ≤ 8) (hl : kvs.length < sizeLine) (rv : RelV v r)
    (h : ∀ H' s', But d H H' → KD X.w H' d (putK kvs k v) → Inv X pins σ H' s' → Q () s') : wpAny (model X.prog X.w) A (setItem (.ref d) (.ref b) r) Q E s := by
  obtain ⟨xs, hd, hs, rfl, hk, hn, hl0⟩ := D
  rw [List.length_map] at hl
  obtain ⟨ys, rr, dd⟩ := kd_of I.hok hd hk hn
  have yl : ys.length ≤ sizeLine := by rw [← Paired.length rr]; exact hl0
  refine wpAny_setItem_heap (hsz := yl) (nk_room hu) (nk_key I n dp) dd fun h' dd' hsb => ?_
  have r2 := rr.put (k := k) (b := b) rv
  have nd : ((putX xs k b v).map (·.1)).Nodup := by
    obtain ⟨_, _, _, _, _, _, _, _, q⟩ := id dd'
    rw [r2.keys]
    exact q
  have tn : ∀ a zs, TuH H a zs → a ≠ d := fun a zs e z => by
    rw [z] at e
    rcases e with e | ⟨o, e⟩ <;> rw [hd] at e <;> cases e
  refine h _ _ (fun c o nc e => (upd_ne nc).trans e) (kd_new hs hk n dp tn nd hl) (I.write (x := d) (e := d) (by rw [hd]; exact True.intro) (.inl rfl) (fun c q hc z => (hsb.2 c hc).trans z) ?_ (dkO_ok r2 dd'))
  obtain ⟨q, _, _, hq, _⟩ := dd'
  exact ⟨q, hq⟩
end
/-! ### rules -/
/-- d[k] -/
def rKGet (w : World) : R2 := fun x y H Q => ∃ d b kvs k v, x = .ref d ∧ y = .ref b ∧ KD w H d kvs ∧ Nk H (.ref b) k ∧ k.depth ≤ 8 ∧ valV kvs k = some v ∧ Q v H
def tKGet (w : World) (td ty : TE) : TE := fun σ H Q => td σ H fun x H1 => ty σ H1 fun y H2 => rKGet w x y H2 Q
def rKIn (w : World) : R2 := fun y x H Q => ∃ d b kvs k, x = .ref d ∧ y = .ref b ∧ KD w H d kvs ∧ Nk H (.ref b) k ∧ k.depth ≤ 8 ∧ Q (.bl (valV kvs k).isSome) H
def rKNotIn (w : World) : R2 := fun y x H Q => ∃ d b kvs k, x = .ref d ∧ y = .ref b ∧ KD w H d kvs ∧ Nk H (.ref b) k ∧ k.depth ≤ 8 ∧ Q (.bl (!(valV kvs k).isSome)) H
def sKPut (w : World) (td ty tv : TE) : TS := fun D σ H => tv σ H fun v H1 => td σ H1 fun x H2 => ty σ H2 fun y H3 => ∃ d b kvs k, x = .ref d ∧ y = .ref b ∧ KD w H3 d kvs ∧ Nk H3 (.ref b) k ∧ k.depth ≤ 8 ∧ kvs.length < sizeLine ∧
  ∀ H4, But d H3 H4 → KD w H4 d (putK kvs k v) → D.nx σ H4
section
variable {X : Cx} {o i value : Expr} {pos pos' : Pos} {td ty tv : TE}
theorem pe_kget (hu : X.A.units + 64 < cLine) (ho : PE X o td) (hi : PE X i ty) (hs : NoSl i) : PE X (.Subscript o i pos) (tKGet X.w td ty) := by
  refine ⟨fun pins s σ H Q I h => ?_⟩
  refine subD_of PySem.F.slot_dict_getitem.lookup hs (thn (ho.run pins s σ H _ I h) fun u s1 ⟨x, H1, I1, rx, q1⟩ => thn (hi.run pins s1 σ H1 _ I1 q1) fun iv s2 w2 => ?_)
  obtain ⟨y, H2, I2, ry, d, b, kvs, k, v, rfl, rfl, D, n, dp, hv, q⟩ := w2
  obtain rfl : u = Value.ref d := rx
  obtain rfl : iv = Value.ref b := ry
  exact kd_get hu I2 D n dp hv fun w' s3 I3 rw' => ⟨v, H2, I3, rw', q⟩
theorem ps_kput (hu : X.A.units + 64 < cLine) (ho : PE X o td) (hi : PE X i ty) (hv : PE X value tv) (hs : swapsWith value (some (.Subscript o i pos')) pos.line X.env = pure false) : PS X (.Assign [.Subscript o i pos'] value pos) (sKPut X.w td ty tv) := by
  refine ⟨fun pins s σ H D I h => ?_⟩
  refine wpAny_Assign_Subscript (thn (hv.run pins s σ H _ I h) fun r s1 ⟨v, H1, I1, rv, q1⟩ => thn (ho.run pins s1 σ H1 _ I1 q1) fun u s2 ⟨x, H2, I2, rx, q2⟩ => thn (hi.run pins s2 σ H2 _ I2 q2) fun iv s3 w3 => ?_) hs
  obtain ⟨y, H3, I3, ry, d, b, kvs, k, rfl, rfl, K, n, dp, hl, q⟩ := w3
  obtain rfl : u = Value.ref d := rx
  obtain rfl : iv = Value.ref b := ry
  exact kd_set hu I3 K n dp hl rv fun H4 s4 b4 k4 I4 => ⟨σ, H4, I4, q H4 b4 k4⟩
/-- {}, to be such a dict -/
def tKNew (w : World) : TE := fun _ H Q => ∀ d H', H d = none → Same H H' → KD w H' d [] → Q (.ref d) H'
theorem kd_laid {pins : List (Addr × Obj)} {σ : L2.St} {H : Hp} {s : Shared} (I : Inv X pins σ H s) : (s.heap.objs.size == sysModules) = false ∧ Inv X pins σ (upd H s.heap.objs.size (dkO X.w s.heap.objs.size [])) { s with heap := s.heap.push { cls := .type "dict", data := .dict #[] } } := by
  have hd : (s.heap.objs.size == sysModules) = false := beq_eq_false_iff_ne.mpr (Ne.symm (Nat.ne_of_lt I.big))
  exact ⟨hd, I.laid (t' := s.toks) (fun _ _ q => Heap.get?_push_of_some _ q) (Nat.le_refl _) (dkO_ok (P := X.prog) .nil (Heap.DictOfH.new (knd := nestedKind X.prog X.w) s.heap))⟩
/-- {k: v}; the new dict stands empty while the pair is made -/
def tKOne (w : World) (tk tv : TE) : TE := fun σ H Q => ∀ d H0, H d = none → Same H H0 → KD w H0 d [] → tk σ H0 fun y H1 => tv σ H1 fun v H2 => ∃ b k, y = .ref b ∧ KD w H2 d [] ∧ Nk H2 (.ref b) k ∧ k.depth ≤ 8 ∧ ∀ H3, But d H2 H3 → KD w H3 d [(k, v)] → Q (.ref d) H3
end
end Ph

namespace Ph
open PySem PySem.Spec PyProof.Rows L2 PySem.Calls
section
variable {X : Cx}
/-- d.pop(k), there -/
def rDPop : V → List V → Hp → VK → Prop := fun x vs H Q => ∃ (a : Addr) (kvs : List (Key × V)) (k : Key) (v : V), x = .ref a ∧ vs = [kV k] ∧ H a = some (.dK kvs) ∧ valV kvs k = some v ∧ Q v (upd H a (.dK (dropK kvs k)))
end
/-! ### keys without doubles, and how many there are -/
def KNd (kvs : List (Key × V)) : Prop := (kvs.map (·.1)).Nodup
end Ph

/-! PhSk: states as keys of dicts and as elements of lists -/
namespace Ph
open PySem PySem.Spec PyProof.Rows L2
/-! ### states as keys -/
def bkey (b : Bk) : NestedKey := .tup [.num b.1, .num b.2]
def skey (bs : List Bk) : NestedKey := .tup (bs.map bkey)
theorem bkey_inj {a b : Bk} (h : bkey a = bkey b) : a = b := by
  obtain ⟨a1, a2⟩ := a
  obtain ⟨b1, b2⟩ := b
  unfold bkey at h
  injection h with h
  injection h with h1 h
  injection h with h2 _
  injection h1 with h1
  injection h2 with h2
  dsimp only at h1 h2
  rw [h1, h2]
theorem skey_inj {a b : List Bk} (h : skey a = skey b) : a = b := by
  unfold skey at h
  injection h with h
  have : ∀ x y : List Bk, x.map bkey = y.map bkey → x = y := fun x => by
    induction x with
    | nil =>
      intro y e
      cases y with
      | nil => rfl
      | cons b r => cases e
    | cons a r ih =>
      intro y e
      cases y with
      | nil => cases e
      | cons b t =>
        rw [List.map_cons, List.map_cons] at e
        injection e with e1 e2
        rw [bkey_inj e1, ih t e2]
  exact this _ _ h
theorem bkeys_depth : ∀ bs : List Bk, NestedKey.depthAll (bs.map bkey) ≤ 1
  | [] => by simp [NestedKey.depthAll]
  | b :: r => by
    have h := bkeys_depth r
    have e : NestedKey.depth (bkey b) = 1 := by simp [bkey, NestedKey.depth, NestedKey.depthAll]
    rw [List.map_cons, NestedKey.depthAll, e]
    omega
theorem skey_depth (bs : List Bk) : (skey bs).depth ≤ 8 := by
  have h := bkeys_depth bs
  unfold skey
  rw [NestedKey.depth]
  omega
theorem bk_nk {H : Hp} {x : V} {b : Bk} (h : BkAt H x b) : Nk H x (bkey b) := by
  obtain ⟨t, rfl, e⟩ := h
  exact .tup (.inl e) (.cons (.int _) (.cons (.int _) .nil))
theorem bl_nk {H : Hp} : ∀ {xs : List V} {bs : List Bk}, BL H xs bs → NkAll H xs (bs.map bkey)
  | _, _, .nil => .nil
  | _, _, .cons h r => .cons (bk_nk h) (bl_nk r)
theorem StAt.nk {H : Hp} {t : Addr} {bs : List Bk} (h : StAt H t bs) : Nk H (.ref t) (skey bs) := by
  obtain ⟨xs, e, bl⟩ := h
  exact .tup (.inl e) (bl_nk bl)
/-! ### there are not many states -/
def allL (L : List Bk) : Nat → List (List Bk)
  | 0 => [[]]
  | n + 1 => [] :: L.flatMap fun x => (allL L n).map (x :: ·)
theorem nodup_le {α : Type} [DecidableEq α] : ∀ {l m : List α}, l.Nodup → (∀ x ∈ l, x ∈ m) → l.length ≤ m.length
  | [], _, _, _ => Nat.zero_le _
  | a :: r, m, h, s => by
    obtain ⟨h1, h2⟩ := List.nodup_cons.mp h
    have ha := s a List.mem_cons_self
    have := nodup_le (l := r) (m := m.erase a) h2 fun x hx => by
      have ne : x ≠ a := fun e => h1 (by rw [← e]; exact hx)
      exact (List.mem_erase_of_ne ne).mpr (s x (List.mem_cons_of_mem _ hx))
    rw [List.length_erase_of_mem ha] at this
    have := List.length_pos_of_mem ha
    rw [List.length_cons]
    omega
/-! ### what keeps everything but lists and tables -/
def Kt (H H' : Hp) : Prop := ∀ a o, H a = some o → (∀ φ, o ≠ .ext φ) → (∀ xs, o ≠ .lst xs) → H' a = some o
theorem Kt.refl (H : Hp) : Kt H H := fun _ _ e _ _ => e
theorem Kt.trans {H H1 H2 : Hp} (a : Kt H H1) (b : Kt H1 H2) : Kt H H2 := fun c o e n1 n2 => b c o (a c o e n1 n2) n1 n2
theorem Same.kt {H H' : Hp} (s : Same H H') : Kt H H' := fun a o e _ _ => s a o e
theorem But.ktD {H H' : Hp} {d : Addr} {w : World} {kvs : List (NestedKey × V)} (b : But d H H') (k : KD w H d kvs) : Kt H H' := fun a o e n1 _ => b a o (fun z => by
  obtain ⟨ψ, e2⟩ := k.ext
  rw [z, e2] at e
  exact n1 _ (Option.some.inj e).symm) e
theorem kt_upd {H : Hp} {l : Addr} {xs ys : List V} (e : H l = some (.lst xs)) : Kt H (upd H l (.lst ys)) := fun a o h _ n => by
  rw [upd_ne (fun z => by rw [z, e] at h; exact n _ (Option.some.inj h).symm)]
  exact h
theorem Kt.kpT {H H' : Hp} (k : Kt H H') : KpT H H' := fun a xs e => k a _ e (fun _ z => by cases z) (fun _ z => by cases z)
theorem Kt.tuH {H H' : Hp} (k : Kt H H') {a : Addr} {xs : List V} (e : TuH H a xs) : TuH H' a xs := by
  rcases e with e | ⟨o, e⟩
  · exact .inl (k a _ e (fun _ z => by cases z) (fun _ z => by cases z))
  · exact .inr ⟨o, k a _ e (fun _ z => by cases z) (fun _ z => by cases z)⟩
theorem Kt.st {H H' : Hp} (k : Kt H H') {t : Addr} {bs : List Bk} (h : StAt H t bs) : StAt H' t bs := by
  obtain ⟨xs, e, b⟩ := h
  exact ⟨xs, k.kpT _ _ e, BL.kp b k.kpT⟩
theorem pairedG {α β : Type} {F : α → β → Prop} : ∀ {l : List α} {m : List β}, l.length = m.length → (∀ (i : Nat) (a : α) (b : β), l[i]? = some a → m[i]? = some b → F a b) → Paired F l m
  | [], [], _, _ => .nil
  | [], _ :: _, e, _ => by cases e
  | _ :: _, [], e, _ => by cases e
  | a :: l, b :: m, e, h => .cons (h 0 a b rfl rfl) (pairedG (Nat.succ.inj e) fun i x y hx hy => h (i + 1) x y hx hy)
theorem pairedApp {α β : Type} {F : α → β → Prop} : ∀ {l l' : List α} {m m' : List β}, Paired F l m → Paired F l' m' → Paired F (l ++ l') (m ++ m')
  | _, _, _, _, .nil, h => h
  | _, _, _, _, .cons h r, k => .cons h (pairedApp r k)
/-! ### lists of states -/
/-- a value that is a state -/
def StV (H : Hp) (x : V) (bs : List Bk) : Prop := ∃ t, x = .ref t ∧ StAt H t bs
theorem StV.kt {H H' : Hp} {x : V} {bs : List Bk} (h : StV H x bs) (k : Kt H H') : StV H' x bs := by
  obtain ⟨t, rfl, h⟩ := h
  exact ⟨t, rfl, k.st h⟩
/-- the values that are these states, one by one -/
abbrev StVs (H : Hp) : List V → List (List Bk) → Prop := Paired (StV H)
theorem StVs.kt {H H' : Hp} {xs : List V} {bss : List (List Bk)} (h : StVs H xs bss) (k : Kt H H') : StVs H' xs bss := Paired.mono (fun _ _ z => z.kt k) h
theorem StVs.snoc {H : Hp} {xs : List V} {bss : List (List Bk)} {x : V} {bs : List Bk} (h : StVs H xs bss) (z : StV H x bs) : StVs H (xs ++ [x]) (bss ++ [bs]) := Paired.snoc h z
theorem StVs.unsnoc {H : Hp} : ∀ {l : List V} {m : List (List Bk)} {b : List Bk}, StVs H l (m ++ [b]) → ∃ l' a, l = l' ++ [a] ∧ StVs H l' m ∧ StV H a b
  | [], m, b, h => by cases m <;> cases h
  | [x], [], b, .cons h .nil => ⟨[], x, rfl, .nil, h⟩
  | x :: l, c :: m, b, .cons h r => by
    obtain ⟨l', a, rfl, r', h'⟩ := StVs.unsnoc (l := l) (m := m) r
    exact ⟨x :: l', a, rfl, .cons h r', h'⟩
def stD (bs : List Bk) : PyData := .tuple (bs.map bD)
theorem stD_lay (bs : List Bk) : (stD bs).canLay0 = true := by unfold stD; simp only [PyData.canLay0]; exact bDs_lay bs
theorem stD_depth (bs : List Bk) : (stD bs).depth ≤ 2 := by
  have h1 := bDs_depth bs
  unfold stD
  simp only [PyData.depth]
  omega
theorem stD_shaped (bs : List Bk) : SeqAt.shaped (stD bs) = true := sD_shaped bs
theorem stDs_lay : ∀ zs : List (List Bk), PyData.canLayAll0 (zs.map stD) = true
  | [] => by simp [PyData.canLayAll0]
  | z :: zs => by simp only [List.map_cons, PyData.canLayAll0, stD_lay, stDs_lay zs, Bool.and_self]
theorem stDs_depth : ∀ zs : List (List Bk), PyData.depthAll (zs.map stD) ≤ 2
  | [] => by simp [PyData.depthAll]
  | z :: zs => by
    have h1 := stDs_depth zs
    have h2 := stD_depth z
    simp only [List.map_cons, PyData.depthAll]
    omega
theorem stDs_shaped (zs : List (List Bk)) : SeqAt.shaped (.list (zs.map stD)) = true := by
  have h1 := stDs_depth zs
  have h2 : PyData.depth (.list (zs.map stD)) ≤ 64 := by simp only [PyData.depth]; omega
  have h3 : PyData.canLay0 (.list (zs.map stD)) = true := by simp only [PyData.canLay0]; exact stDs_lay zs
  show (PyData.canLay0 (.list (zs.map stD)) && decide (PyData.depth (.list (zs.map stD)) ≤ 64)) = true
  rw [h3, decide_eq_true h2]
  rfl
theorem StVs.dp {K : PySem.W.Frag} {H : Hp} : ∀ {xs : List V} {bss : List (List Bk)}, StVs H xs bss → DpAll K H xs (bss.map stD)
  | _, _, .nil => .nil
  | _, _, .cons ⟨t, e, h⟩ r => by
    rw [List.map_cons]
    refine .cons ?_ (StVs.dp r)
    rw [e]
    exact h.dp
theorem stDs_nil (zs : List (List Bk)) : PyData.eqv (.list (zs.map stD)) (.list []) = decide (zs = []) := by
  cases zs with
  | nil => simp [PyData.eqv, PyData.eqvAll]
  | cons z zs => simp [PyData.eqv, PyData.eqvAll]
/-! ### settings: pairs of a tuple of ints and an int, from a written list -/
def SetV (S : List (List Int × Int)) (H : Hp) (x : V) : Prop := ∃ T c L z, x = .ref T ∧ H T = some (.tup [.ref c, .int z]) ∧ H c = some (.tup (L.map V.int)) ∧ (L, z) ∈ S
/-- *xs in a comprehension -/
theorem pa_starK {X : Cx} {K : PySem.W.Frag} {e : Expr} {es : List Expr} {te : TE} {t : TA} {p : Pos} (ek : X.K = K) (he : PE X e te) (hr : PA X es t) (hs : starEach (.Starred e p :: es) X.env = (true, eval e X.env) :: starEach es X.env := by rfl) : PA X (.Starred e p :: es) (StX.tStar K te t) := by
  subst ek
  exact StX.pa_star he hr hs
theorem sqT_butO {K : PySem.W.Frag} {H H' : Hp} {a d : Addr} {xs : List V} {o : HO} (h : SqT K H a xs) (b : But d H H') (e : H d = some o) (n1 : ∀ ys, o ≠ .tup ys) (n2 : ∀ u ys, o ≠ .frz u (.tup ys)) : SqT K H' a xs := by
  rcases h with (h | ⟨u, h⟩) | h
  · exact .inl (.inl (b a _ (fun z => by rw [z, e] at h; exact n1 _ (Option.some.inj h)) h))
  · exact .inl (.inr ⟨u, b a _ (fun z => by rw [z, e] at h; exact n2 _ _ (Option.some.inj h)) h⟩)
  · exact .inr h
end Ph

set_option maxHeartbeats 4000000
/-! PhKx: dicts keyed by tuples of tuples, told with the keys' own tuples (KDx); read only, also when locked (KDr); walked. -/
namespace Ph
open PySem PySem.Spec PyProof.Rows L2
structure KDx (w : World) (H : Hp) (d : Addr) (xs : List KAV) : Prop where
  ob : H d = some (dkO w d xs)
  sm : (d == sysModules) = false
  ks : ∀ x ∈ xs, Nk H (.ref x.2.1) x.1 ∧ x.1.depth ≤ 8
  nd : (xs.map (·.1)).Nodup
  ln : xs.length ≤ sizeLine
structure KDr (w : World) (H : Hp) (d : Addr) (xs : List KAV) : Prop where
  ob : H d = some (dkO w d xs) ∨ ∃ o, H d = some (.frz o (dkO w d xs))
  sm : (d == sysModules) = false
  ks : ∀ x ∈ xs, Nk H (.ref x.2.1) x.1 ∧ x.1.depth ≤ 8
  nd : (xs.map (·.1)).Nodup
  ln : xs.length ≤ sizeLine
section
variable {w : World} {H H' : Hp} {d : Addr} {xs : List KAV}
theorem KDx.r (k : KDx w H d xs) : KDr w H d xs := ⟨.inl k.ob, k.sm, k.ks, k.nd, k.ln⟩
theorem KDx.keeps (k : KDx w H d xs) (s : ∀ a ys, TuH H a ys → TuH H' a ys) (e : ∀ u, H d = some u → H' d = some u) : KDx w H' d xs :=
  ⟨e _ k.ob, k.sm, fun x hx => ⟨(k.ks x hx).1.keeps s, (k.ks x hx).2⟩, k.nd, k.ln⟩
theorem KDr.keeps (k : KDr w H d xs) (s : ∀ a ys, TuH H a ys → TuH H' a ys) (e : ∀ u, H d = some u → H' d = some u) : KDr w H' d xs :=
  ⟨k.ob.imp (e _) fun ⟨o, h⟩ => ⟨o, e _ h⟩, k.sm, fun x hx => ⟨(k.ks x hx).1.keeps s, (k.ks x hx).2⟩, k.nd, k.ln⟩
theorem KDx.same (k : KDx w H d xs) (s : Same H H') : KDx w H' d xs := k.keeps (fun _ _ e => e.same s) fun _ e => s _ _ e
theorem KDr.same (k : KDr w H d xs) (s : Same H H') : KDr w H' d xs := k.keeps (fun _ _ e => e.same s) fun _ e => s _ _ e
theorem KDx.tu (k : KDx w H d xs) {a : Addr} {zs : List V} (e : TuH H a zs) : a ≠ d := fun z => by
  rw [z] at e
  rcases e with e | ⟨o, e⟩ <;> rw [k.ob] at e <;> cases e
/-- the dict is locked from now on -/
theorem KDx.frz (k : KDx w H d xs) (o : Obj) : KDr w (upd H d (.frz o (dkO w d xs))) d xs :=
  ⟨.inr ⟨o, upd_same⟩, k.sm, fun x hx => ⟨(k.ks x hx).1.keeps fun a zs e => by
    have ne := k.tu e
    rcases e with e | ⟨o, e⟩
    · exact .inl ((upd_ne ne).trans e)
    · exact .inr ⟨o, (upd_ne ne).trans e⟩, (k.ks x hx).2⟩, k.nd, k.ln⟩
theorem But.ktX (b : But d H H') (k : KDx w H d xs) : Kt H H' := fun a o e n1 _ => b a o (fun z => by
  rw [z, k.ob] at e
  exact n1 _ (Option.some.inj e).symm) e
theorem valV_kv2 {k : NestedKey} {x : KAV} (nd : (xs.map (·.1)).Nodup) (hx : x ∈ xs) (e : x.1 = k) : valV (xs.map kv2) k = some x.2.2 := by
  induction xs with
  | nil => cases hx
  | cons y r ih =>
    rw [List.map_cons] at nd
    obtain ⟨n1, n2⟩ := List.nodup_cons.mp nd
    rcases List.mem_cons.mp hx with z | z
    · rw [← z, List.map_cons]
      exact valV_pos (show (kv2 x).1 = k from e)
    · rw [List.map_cons, valV_neg (show ¬ (kv2 y).1 = k from fun q => n1 (by
        rw [show y.1 = k from q, ← e]
        exact List.mem_map.mpr ⟨x, z, rfl⟩))]
      exact ih n2 z
theorem valV_mem2 {k : NestedKey} {v : V} (h : valV (xs.map kv2) k = some v) : ∃ x ∈ xs, x.1 = k ∧ x.2.2 = v := by
  unfold valV at h
  obtain ⟨kv, h1, h2⟩ := Option.map_eq_some_iff.mp h
  have e := List.find?_some h1
  obtain ⟨x, hx, rfl⟩ := List.mem_map.mp (List.mem_of_find?_eq_some h1)
  exact ⟨x, hx, of_decide_eq_true e, h2⟩
theorem putX_new {k : NestedKey} {b : Addr} {v : V} (h : valV (xs.map kv2) k = none) : putX xs k b v = xs ++ [(k, b, v)] := by
  unfold putX
  rw [h]
  rfl
theorem valV_putX {k j : NestedKey} {b : Addr} {v : V} : valV ((putX xs k b v).map kv2) j = if j = k then some v else valV (xs.map kv2) j := by
  rw [putX_map, valV_put]
end
section
variable {X : Cx} {pins : List (Addr × Obj)} {σ : L2.St} {H : Hp} {s : Shared} {d b : Addr} {v : V} {xs : List KAV} {k : NestedKey} {A : Around} {E : Value → Shared → Prop}
theorem kdr_of {P : Program} {w : World} {H : Hp} {h : Heap} {d : Addr} {xs : List KAV} (ok : HOk P w H h) (D : KDr w H d xs) : ∃ ys, NR xs ys ∧ h.DictOfH (nestedKind P w) d ys := by
  have x : ObjOk P w H h d (dkO w d xs) := by
    rcases D.ob with e | ⟨o, e⟩
    · exact ok d _ e
    · exact (show ObjOk P w H h d (.frz o (dkO w d xs)) from ok d _ e).2
  obtain ⟨⟨o, es, ep, ho, hc, hdat, ys, he, r⟩, _⟩ := x
  refine ⟨ys, r, o, es, ep, ho, hc, hdat, he, fun y hy => ?_, by rw [← r.keys]; exact D.nd⟩
  obtain ⟨x, hx, e1, e2, _⟩ := r.mem hy
  have := D.ks x hx
  rw [e1, e2] at this
  exact ⟨this.1.is ok _ rfl, this.2⟩
theorem kdr_get {Q : Value → Shared → Prop} (hu : A.units + 64 < cLine) (I : Inv X pins σ H s) (D : KDr X.w H d xs) (n : Nk H (.ref b) k) (dp : k.depth ≤ 8) (hv : valV (xs.map kv2) k = some v) (h : ∀ w' s', Inv X pins σ H s' → RelV v w' → Q w' s') :
    s.TypeIs (.ref d) "dict" ∧ wpAny (model X.prog X.w) A (getItem (.ref d) (.ref b)) Q E s := by
  obtain ⟨ys, r, dd⟩ := kdr_of I.hok D
  obtain ⟨w', hw, rw'⟩ := RelO.some_of (v := v) (o := (atKey ys k).map (·.2)) (by rw [← hv]; exact r.val k)
  obtain ⟨p, hp, hp2⟩ := Option.map_eq_some_iff.mp hw
  refine ⟨dd.typeIs, wpAny_getItem_heap (nk_room hu) (nk_key I n dp) dd hp ?_⟩
  rw [hp2]
  exact h w' _ (I.tok _) rw'
theorem kdr_in {Q : Value → Shared → Prop} (hu : A.units + 64 < cLine) (I : Inv X pins σ H s) (D : KDr X.w H d xs) (n : Nk H (.ref b) k) (dp : k.depth ≤ 8) (h : ∀ s', Inv X pins σ H s' → Q (.bool (valV (xs.map kv2) k).isSome) s') :
    wpAny (model X.prog X.w) A (compareOp .In (.ref b) (.ref d)) Q E s := by
  obtain ⟨ys, r, dd⟩ := kdr_of I.hok D
  refine wpAny_in_heap (nk_room hu) (nk_key I n dp) D.sm dd ?_
  have e := (r.val k).isSome_eq
  rw [Option.isSome_map] at e
  rw [← e]
  exact h _ (I.tok _)
theorem kdr_notIn {Q : Value → Shared → Prop} (hu : A.units + 64 < cLine) (I : Inv X pins σ H s) (D : KDr X.w H d xs) (n : Nk H (.ref b) k) (dp : k.depth ≤ 8) (h : ∀ s', Inv X pins σ H s' → Q (.bool (!(valV (xs.map kv2) k).isSome)) s') :
    wpAny (model X.prog X.w) A (compareOp .NotIn (.ref b) (.ref d)) Q E s := by
  obtain ⟨ys, r, dd⟩ := kdr_of I.hok D
  refine wpAny_notIn_heap (nk_room hu) (nk_key I n dp) D.sm dd ?_
  have e := (r.val k).isSome_eq
  rw [Option.isSome_map] at e
  rw [← e]
  exact h _ (I.tok _)
theorem kdx_new {w : World} {H : Hp} {xs : List KAV} {k : NestedKey} {b : Addr} {v : V} (hs : (d == sysModules) = false) (hk : ∀ x ∈ xs, Nk H (.ref x.2.1) x.1 ∧ x.1.depth ≤ 8) (n : Nk H (.ref b) k) (dp : k.depth ≤ 8) (hd : ∀ a zs, TuH H a zs → a ≠ d) (nd : ((putX xs k b v).map (·.1)).Nodup) (hl : xs.length < sizeLine) :
    KDx w (upd H d (dkO w d (putX xs k b v))) d (putX xs k b v) := by
  have st : ∀ a zs, TuH H a zs → TuH (upd H d (dkO w d (putX xs k b v))) a zs := fun a zs e => by
    have ne := hd a zs e
    rcases e with e | ⟨o, e⟩
    · exact .inl ((upd_ne ne).trans e)
    · exact .inr ⟨o, (upd_ne ne).trans e⟩
  refine ⟨upd_same, hs, fun x hx => ?_, nd, Nat.le_trans (putX_len xs k b v) hl⟩
  rcases putX_mem hx with ⟨e1, e2⟩ | ⟨y, hy, e1, e2⟩
  · rw [e1, e2]
    exact ⟨n.keeps st, dp⟩
  · rw [e1, e2]
    exact ⟨(hk y hy).1.keeps st, (hk y hy).2⟩
theorem kdx_set {Q : Unit → Shared → Prop} {r : Value} (hu : A.units + 64 < cLine) (I : Inv X pins σ H s) (D : KDx X.w H d xs) (n : Nk H (.ref b) k) (dp : k.depth ≤ 8) (hl : xs.length < sizeLine) (rv : RelV v r)
    (h : ∀ H' s', But d H H' → KDx X.w H' d (putX xs k b v) → Inv X pins σ H' s' → Q () s') : wpAny (model X.prog X.w) A (setItem (.ref d) (.ref b) r) Q E s := by
  obtain ⟨ys, rr, dd⟩ := kdr_of I.hok D.r
  have yl : ys.length ≤ sizeLine := by rw [← Paired.length rr]; exact D.ln
  refine wpAny_setItem_heap (hsz := yl) (nk_room hu) (nk_key I n dp) dd fun h' dd' hsb => ?_
  have r2 := rr.put (k := k) (b := b) rv
  have nd : ((putX xs k b v).map (·.1)).Nodup := by
    obtain ⟨_, _, _, _, _, _, _, _, q⟩ := id dd'
    rw [r2.keys]
    exact q
  refine h _ _ (fun c o nc e => (upd_ne nc).trans e) (kdx_new D.sm D.ks n dp (fun a zs e => D.tu e) nd hl) (I.write (x := d) (e := d) (by rw [D.ob]; exact True.intro) (.inl rfl) (fun c q hc z => (hsb.2 c hc).trans z) ?_ (dkO_ok r2 dd'))
  obtain ⟨q, _, _, hq, _⟩ := dd'
  exact ⟨q, hq⟩
end
/-! ### rules -/
def rXGet (w : World) : R2 := fun x y H Q => ∃ d b xs k v, x = .ref d ∧ y = .ref b ∧ KDr w H d xs ∧ Nk H (.ref b) k ∧ k.depth ≤ 8 ∧ valV (xs.map kv2) k = some v ∧ Q v H
def tXGet (w : World) (td ty : TE) : TE := fun σ H Q => td σ H fun x H1 => ty σ H1 fun y H2 => rXGet w x y H2 Q
def rXIn (w : World) : R2 := fun y x H Q => ∃ d b xs k, x = .ref d ∧ y = .ref b ∧ KDr w H d xs ∧ Nk H (.ref b) k ∧ k.depth ≤ 8 ∧ Q (.bl (valV (xs.map kv2) k).isSome) H
def rXNotIn (w : World) : R2 := fun y x H Q => ∃ d b xs k, x = .ref d ∧ y = .ref b ∧ KDr w H d xs ∧ Nk H (.ref b) k ∧ k.depth ≤ 8 ∧ Q (.bl (!(valV (xs.map kv2) k).isSome)) H
def sXPut (w : World) (td ty tv : TE) : TS := fun D σ H => tv σ H fun v H1 => td σ H1 fun x H2 => ty σ H2 fun y H3 => ∃ d b xs k, x = .ref d ∧ y = .ref b ∧ KDx w H3 d xs ∧ Nk H3 (.ref b) k ∧ k.depth ≤ 8 ∧ xs.length < sizeLine ∧
  ∀ H4, But d H3 H4 → KDx w H4 d (putX xs k b v) → D.nx σ H4
section
variable {X : Cx} {o i value : Expr} {pos pos' : Pos} {td ty tv : TE}
theorem pe_xget (hu : X.A.units + 64 < cLine) (ho : PE X o td) (hi : PE X i ty) (hs : NoSl i) : PE X (.Subscript o i pos) (tXGet X.w td ty) := by
  refine ⟨fun pins s σ H Q I h => ?_⟩
  refine subD_of PySem.F.slot_dict_getitem.lookup hs (thn (ho.run pins s σ H _ I h) fun u s1 ⟨x, H1, I1, rx, q1⟩ => thn (hi.run pins s1 σ H1 _ I1 q1) fun iv s2 w2 => ?_)
  obtain ⟨y, H2, I2, ry, d, b, xs, k, v, rfl, rfl, D, n, dp, hv, q⟩ := w2
  obtain rfl : u = Value.ref d := rx
  obtain rfl : iv = Value.ref b := ry
  exact kdr_get hu I2 D n dp hv fun w' s3 I3 rw' => ⟨v, H2, I3, rw', q⟩
theorem op_xIn (hu : X.A.units + 64 < cLine) : OpR X (compareOp .In) (rXIn X.w) := by
  intro pins s σ H x y v u Q I rx ry h
  obtain ⟨d, b, xs, k, rfl, rfl, D, n, dp, q⟩ := h
  obtain rfl : v = Value.ref b := rx
  obtain rfl : u = Value.ref d := ry
  exact kdr_in hu I D n dp fun s3 I3 => ⟨.bl _, H, I3, rfl, q⟩
theorem op_xNotIn (hu : X.A.units + 64 < cLine) : OpR X (compareOp .NotIn) (rXNotIn X.w) := by
  intro pins s σ H x y v u Q I rx ry h
  obtain ⟨d, b, xs, k, rfl, rfl, D, n, dp, q⟩ := h
  obtain rfl : v = Value.ref b := rx
  obtain rfl : u = Value.ref d := ry
  exact kdr_notIn hu I D n dp fun s3 I3 => ⟨.bl _, H, I3, rfl, q⟩
theorem ps_xput (hu : X.A.units + 64 < cLine) (ho : PE X o td) (hi : PE X i ty) (hv : PE X value tv) (hs : swapsWith value (some (.Subscript o i pos')) pos.line X.env = pure false) : PS X (.Assign [.Subscript o i pos'] value pos) (sXPut X.w td ty tv) := by
  refine ⟨fun pins s σ H D I h => ?_⟩
  refine wpAny_Assign_Subscript (thn (hv.run pins s σ H _ I h) fun r s1 ⟨v, H1, I1, rv, q1⟩ => thn (ho.run pins s1 σ H1 _ I1 q1) fun u s2 ⟨x, H2, I2, rx, q2⟩ => thn (hi.run pins s2 σ H2 _ I2 q2) fun iv s3 w3 => ?_) hs
  obtain ⟨y, H3, I3, ry, d, b, xs, k, rfl, rfl, K, n, dp, hl, q⟩ := w3
  obtain rfl : u = Value.ref d := rx
  obtain rfl : iv = Value.ref b := ry
  exact kdx_set hu I3 K n dp hl rv fun H4 s4 b4 k4 I4 => ⟨σ, H4, I4, q H4 b4 k4⟩
def tXNew (w : World) : TE := fun _ H Q => ∀ d H', H d = none → Same H H' → KDx w H' d [] → Q (.ref d) H'
theorem kdx_nil {w : World} {H : Hp} {d : Addr} (hs : (d == sysModules) = false) : KDx w (upd H d (dkO w d [])) d [] := ⟨upd_same, hs, (fun _ z => nomatch z), List.nodup_nil, Nat.zero_le _⟩
theorem pe_xnew : PE X (.Dict [] [] pos) (tXNew X.w) := ⟨fun pins s σ H Q I h => by
  obtain ⟨hd, I1⟩ := kd_laid I
  exact wpAny_Dict_empty ⟨.ref s.heap.objs.size, _, I1, rfl, h _ _ (I.hok.fresh (Nat.le_refl _)) (same_upd (I.hok.fresh (Nat.le_refl _))) (kdx_nil hd)⟩⟩
/-- {k: v} -/
def tXOne (w : World) (tk tv : TE) : TE := fun σ H Q => ∀ d H0, H d = none → Same H H0 → KDx w H0 d [] → tk σ H0 fun y H1 => tv σ H1 fun v H2 => ∃ b k, y = .ref b ∧ KDx w H2 d [] ∧ Nk H2 (.ref b) k ∧ k.depth ≤ 8 ∧ ∀ H3, But d H2 H3 → KDx w H3 d [(k, b, v)] → Q (.ref d) H3
theorem pe_xone {ke ve : Expr} {tk tv : TE} (hu : X.A.units + 64 < cLine) (hk : PE X ke tk) (hv : PE X ve tv) : PE X (.Dict [some ke] [ve] pos) (tXOne X.w tk tv) := by
  refine ⟨fun pins s σ H Q I h => ?_⟩
  obtain ⟨hd, I1⟩ := kd_laid I
  have fresh := I.hok.fresh (Nat.le_refl s.heap.objs.size)
  have wish := h _ _ fresh (same_upd fresh) (kdx_nil hd)
  rw [arm_eval_Dict, zip_pairTrees [some ke] [ve] X.env pos rfl rfl, dictDisplay_pairs _ (by intro z; cases z) (by show 1 < _; decide)]
  refine wpAny_bind (wpAny_standAt (wpAny_bind (wpAny_subDictH (knd := nestedKind X.prog X.w) (nk_roomD hu) (by show 1 ≤ 15; decide) ?_)))
  refine pairTrees_cons_walk (thn (hk.run pins _ σ _ _ I1 wish) fun u s1 w1 => ?_)
  obtain ⟨y, H1, J1, ry, q1⟩ := w1
  refine thn (hv.run pins s1 σ H1 _ J1 q1) fun r s2 w2 => ?_
  obtain ⟨v, H2, J2, rv, b, k, rfl, D, n, dp, q⟩ := w2
  obtain rfl : u = Value.ref b := ry
  refine pairTrees_nil_walk ⟨[(k, b, r)], ⟨rfl, rfl, nk_key J2 n dp, trivial⟩, ?_⟩
  obtain ⟨ys, rr, dd⟩ := kdr_of J2.hok D.r
  cases rr
  refine ⟨dd, fun h' tk dd' hsb => wpAny_pure ?_⟩
  have r2 := NR.put (xs := []) (ys := []) .nil (k := k) (b := b) rv
  have nd : ((putX [] k b v).map (·.1)).Nodup := by
    show [k].Nodup
    exact List.nodup_cons.mpr ⟨(fun z => nomatch z), List.nodup_nil⟩
  obtain ⟨o, ho⟩ : ∃ o, h'.get? s.heap.objs.size = some o := by
    obtain ⟨o, _, _, ho, _⟩ := id dd'
    exact ⟨o, ho⟩
  have J3 := J2.write (t' := tk) (x := s.heap.objs.size) (e := s.heap.objs.size) (by rw [D.ob]; exact True.intro) (.inl rfl) (fun c o hc z => (hsb.2 c hc).trans z) ⟨o, ho⟩ (dkO_ok r2 dd')
  exact ⟨.ref s.heap.objs.size, _, J3, rfl, q _ (fun c o nc e => (upd_ne nc).trans e) (kdx_new D.sm D.ks n dp (fun a zs e => D.tu e) nd (by show 0 < sizeLine; decide))⟩
end
/-! ### for k in d -/
/-- the keys of the locked dict at d, in their order -/
def Itx (w : World) (d : Addr) (o : Obj) (xs : List KAV) : It :=
  ⟨fun i H => H d = some (.frz o (dkO w d xs)) ∧ i < xs.length, fun i H x H' => H' = H ∧ ∃ e, xs[i]? = some e ∧ x = .ref e.2.1, fun i H => H d = some (.frz o (dkO w d xs)) ∧ xs.length ≤ i⟩
theorem nr_get {xs : List KAV} {ys : List (NestedKey × Addr × Value)} {i : Nat} {e : KAV} (r : NR xs ys) (h : xs[i]? = some e) : ∃ y, ys[i]? = some y ∧ e.2.1 = y.2.1 := by
  obtain ⟨y, hy, z⟩ := Paired.get r h
  exact ⟨y, hy, z.2.1⟩
section
variable {P : Program} {w : World} {K : PySem.W.Frag} {tg : Expr} {d : Addr} {o : Obj} {es : Array DictEntry} {ep : Nat}
theorem inv_frzX {X : Cx} {pins : List (Addr × Obj)} {σ : L2.St} {H : Hp} {s : Shared} {xs : List KAV} (I : Inv X pins σ H s) (h : H d = some (.frz o (dkO w d xs))) :
    s.heap.get? d = some o ∧ o.ExactDict ∧ ∃ (es : Array DictEntry) (ep : Nat), o.data = .dict es ep ∧ es.size = xs.length ∧ ∀ (i : Nat) (e : KAV), xs[i]? = some e → ∃ en : DictEntry, es[i]? = some en ∧ en.key = .ref e.2.1 := by
  obtain ⟨hd, ⟨⟨o', es, ep, ho, hx, hdt, ys, he, r⟩, _⟩⟩ := (show ObjOk X.prog X.w H s.heap d (.frz o (dkO w d xs)) from I.hok d _ h)
  rw [hd] at ho
  cases ho
  have l1 : es.size = ys.length := by
    have := congrArg List.length he
    rw [List.length_map] at this
    simpa using this
  have l2 := Paired.length r
  refine ⟨hd, hx, es, ep, hdt, by omega, fun i e z => ?_⟩
  obtain ⟨y, hy, ey⟩ := nr_get r z
  have q : es.toList[i]? = some (enK w y) := by rw [he, List.getElem?_map, hy]; rfl
  rw [Array.getElem?_toList] at q
  exact ⟨_, q, by rw [ey]; rfl⟩
theorem turn_keysX {xs : List KAV} (it : Addr) (hod : o.data = .dict es ep) : Turn P w K tg (Itx w d o xs) [it] it (fun i h => h.IsKeyIter it d i xs.length ep) where
  mem := by simp
  obj := fun i h st b hb => by
    have e : b = it := by simpa using hb
    subst e
    obtain ⟨oi, e, c, dd⟩ := st
    exact ⟨oi, e, fun v z => by rw [dd] at z; cases z⟩
  keep := fun i h h' st k => st.at fun oi e => k it (by simp) oi e
  item := by
    intro X hP hw hK hc i pins s σ H E I hf st hg
    subst hP hw hK
    obtain ⟨hd, hi⟩ := hg
    obtain ⟨f0, f1, f2, f3, f4, f5⟩ := hf it (by simp)
    obtain ⟨hgd, hx, es', ep', hdt, hsz, ent⟩ := inv_frzX I hd
    obtain ⟨rfl, rfl⟩ := dict_ep hod hdt
    obtain ⟨e0, he0⟩ : ∃ p, xs[i]? = some p := ⟨xs[i], List.getElem?_eq_getElem hi⟩
    obtain ⟨en, hen, hkey⟩ := ent i e0 he0
    refine next_key_item st hgd hdt hsz hen fun h' st' sb => ?_
    have I1 : Inv X pins σ H { s with heap := h' } := I.turned (t' := s.toks) (fun b ob hb e => (sb.2 b hb).trans e) f0 f1 f3 f4 f5
    obtain ⟨oi, e, c, dd⟩ := id st'
    exact ⟨en.key, rfl, go_of (s := { s with heap := h' }) e c dd (by decide) ⟨.ref e0.2.1, H, I1, hkey, ⟨rfl, e0, he0, rfl⟩, st', fun b hb => (hf b hb).1⟩⟩
  done := by
    intro X hP hw hK hc i pins s σ H E I hf st hg
    subst hP hw hK
    obtain ⟨hd, hi⟩ := hg
    obtain ⟨f0, f1, f2, f3, f4, f5⟩ := hf it (by simp)
    obtain ⟨hgd, hx, es', ep', hdt, hsz, ent⟩ := inv_frzX I hd
    obtain ⟨rfl, rfl⟩ := dict_ep hod hdt
    exact next_key_end (I.ok.hd hc) st hgd hdt hsz hi fun h' eb => ⟨rfl, I.turned (t' := s.toks) (fun b ob hb e => eb b ob hb e) f0 f1 f3 f4 f5⟩
  self := fun A i s Q E st h => by
    refine wpAny_pyIter_slot st.typeIs F.slot_dict_keyiterator_iter (wpAny_call_entry F.slot_dict_keyiterator_iter st.typeIs F.entry_dict_keyiterator_iter ?_ (F.args_dict_keyiterator_iter_1 _))
    show wpAny _ _ (ret (.ref it)) _ _ s
    exact wpAny_pure ⟨_, rfl, "dict_keyiterator", _, st.typeIs, F.slot_dict_keyiterator_next.lookup, h⟩
end
def iXKeys (w : World) (td : TE) : TI := fun σ H R => td σ H fun x H1 => ∃ d o xs, x = .ref d ∧ (d == sysModules) = false ∧ H1 d = some (.frz o (dkO w d xs)) ∧ R (Itx w d o xs) H1
theorem pi_xkeys {X : Cx} {tg e : Expr} {td : TE} (he : PE X e td) : L2.PI X tg e (iXKeys X.w td) := by
  refine ⟨fun pins s σ H R I h => ?_⟩
  refine thn (he.run pins s σ H _ I h) fun u s1 ⟨x, H1, I1, rx, d, o, xs, ex, sm, hd, q⟩ => ?_
  subst ex
  obtain rfl : u = Value.ref d := rx
  obtain ⟨hgd, hx, es, ep, hdt, hsz, ent⟩ := inv_frzX I1 hd
  refine iter_keys sm hgd hx hdt (pi_one (tk := s1.toks) I1 _ (turn_keysX _ hdt) ⟨_, Heap.get?_push_size _ rfl, rfl, ?_⟩ q)
  rw [hsz] <;> rfl
theorem walk_xkeys {w : World} {d : Addr} {o : Obj} {xs : List KAV} : Walk (Itx w d o xs) xs.length (fun H => H d = some (.frz o (dkO w d xs))) (fun i H x H' => H' = H ∧ ∃ e, xs[i]? = some e ∧ x = .ref e.2.1) :=
  ⟨fun i _ hi q => ⟨q, hi⟩, fun _ q => ⟨q, Nat.le_refl _⟩, fun _ _ _ _ _ q y => y⟩
end Ph

set_option maxHeartbeats 4000000
/-! PhSt: sorted of tuples that compare, empty ones too. -/
namespace Ph
open PySem PySem.Spec PyProof.Rows L2 PySem.W SeqAt
section
variable {prog : Program} {w : World} {A : Around} {E : Value → Shared → Prop} {s : Shared}
/-- a tuple's own < -/
theorem call_tuple_ltT {Q : Value → Shared → Prop} {l b : Addr} {us vs : Array Value} {e r : Nat → Bool} (hl : s.heap.IsTuple l us) (hb : s.heap.IsTuple b vs)
    (he : ∀ j (j1 : j < us.size) (j2 : j < vs.size), EqAt A.in1 s us[j] vs[j] (e j)) (hr : ∀ j (j1 : j < us.size) (j2 : j < vs.size), e j = false → RcLt A.in1 s us[j] vs[j] (r j))
    (h : Q (.bool (firstLt e r (decide (us.size < vs.size)) (List.range (min us.size vs.size)))) s) : wpAny (model prog w) A (call (.builtin "tuple.__lt__") [.ref l, .ref b]) Q E s := by
  obtain ⟨⟨k1, d1, t1, s1⟩, o1, c1, n1, e1⟩ := id hl
  obtain ⟨⟨k2, d2, t2, s2⟩, o2, c2, n2, e2⟩ := id hb
  dsimp only at c1 e1 c2 e2
  subst c1 e1 c2 e2
  refine call_meets F.slot_tuple_lt ⟨_, o1, rfl⟩ F.entry_tuple_lt (F.args_tuple_lt_2 _ _) (tuple_ltAt l b us vs n1 n2 d1 d2 s1 s2 e r) ?_
  exact ⟨o1, o2, he, hr, h⟩
theorem oneLt_alikeT {f : Bool} {xs ys : List PyData} {a b : Value} {as bs : List Addr} {Q : Bool → Shared → Prop} (ra : Reads s.heap a (.tuple xs) as) (rb : Reads s.heap b (.tuple ys) bs) (h : alike (.tuple xs) (.tuple ys) = true)
    (hu : A.units + min (PyData.tuple xs).depth (PyData.tuple ys).depth < cLine) (hq : Q (dataLt (.tuple xs) (.tuple ys)) s) : wpAny (model prog w) A (oneLt' f a b) Q E s := by
  cases f with
  | false => exact oneLt_alike (fun z => by cases z) ra rb h (fun z => by cases z) hu hq
  | true =>
    have hal : alikeAll xs ys = true := by simpa [alike] using h
    cases ra with
    | @tuple l o vs n _ as₁ h1 h2 h3 h4 =>
      cases rb with
      | @tuple l' o' vs' n' _ bs₁ k1 k2 k3 k4 =>
        have n1 : vs.size = xs.length := by simpa using ReadsAll.length _ _ _ h4
        have n2 : vs'.size = ys.length := by simpa using ReadsAll.length _ _ _ k4
        rw [dataLt_tuple, ← firstLt_toks xs ys hal, ← n1, ← n2] at hq
        rw [oneLt'_eq]
        simp only [if_true]
        refine wpAny_bind (wpAny_cRoomFor (room_here hu) ?_)
        refine wpAny_bind (wpAny_callSpecialIfBound?_slot (T := "tuple") ⟨_, h1, h2⟩ F.slot_tuple_lt (call_tuple_ltT (e := pairEq xs ys) (r := fun j => dataLt (xs.getD j .none) (ys.getD j .none)) ⟨_, h1, h2, _, h3⟩ ⟨_, k1, k2, _, k3⟩ (fun j j1 j2 => ?_) (fun j j1 j2 hj => ?_) ?_))
        · have := eqAt_alikeAll xs ys A.in1 s vs.toList vs'.toList _ _ h4 k4 hal (room_in hu) j (by simpa using j1) (by simpa using j2)
          simpa using this
        · have := rcLt_alikeAll xs ys A.in1 s vs.toList vs'.toList _ _ h4 k4 hal (room_in hu) j (by simpa using j1) (by simpa using j2) hj
          simpa using this
        · exact wpAny_truthy_bool hq
def noItem : PyData → Bool
  | .tuple [] => true
  | _ => false
theorem firsts_any {M : Model} : ∀ (vs : List Value) (ds : List PyData) {Q : List (Option Value) → Shared → Prop}, EachIs (fun v d => ∃ as, Reads s.heap v d as) vs ds → (∀ d ∈ ds, ∃ xs, d = .tuple xs) →
    (∀ fs, Paired (fun f d => Option.isSome f = !noItem d) fs ds → Q fs s) → wpAny M A (vs.mapM firstOfTuple') Q E s
  | [], _, _, .nil, _, h => by rw [List.mapM_nil]; exact wpAny_pure (h _ .nil)
  | v :: vs, d :: ds, Q, .cons ⟨as, r⟩ t, ht, h => by
    obtain ⟨xs, rfl⟩ := ht d (List.mem_cons_self ..)
    cases r with
    | @tuple a o ys n _ _ ho hc hd hr =>
      rw [List.mapM_cons]
      refine wpAny_bind ?_
      rw [kas_first_eq]
      refine wpAny_bind (Looks.here (show Looks M s.heap (typeOf (.ref a)) o.cls from (Looks.ld ho).andThen .now) ?_)
      rw [hc, if_neg (by first | decide | simp)]
      refine wpAny_bind (listItems_at ho hd (wpAny_pure ?_))
      refine wpAny_bind (firsts_any vs ds (Q := fun bs s' => wpAny M A (pure (ys[0]? :: bs)) Q E s') t (fun d hd => ht d (List.mem_cons_of_mem _ hd)) fun fs hf => wpAny_pure (h _ (.cons ?_ hf)))
      have l := ReadsAll.length _ _ _ hr
      cases xs with
      | nil =>
        have : ys.size = 0 := by simpa using l
        rw [Array.getElem?_eq_none (by omega)]
        rfl
      | cons x r =>
        have : ys.size = r.length + 1 := by simpa using l
        rw [Array.getElem?_eq_getElem (by omega)]
        rfl
theorem SortsAt.dataT {vs : List Value} {ds : List PyData} (e : EachIs (fun v d => ∃ as, Reads s.heap v d as) vs ds) (hal : AllAlike ds) (ht : ∀ d ∈ ds, ∃ xs, d = .tuple xs) (hu : ∀ d, d ∈ ds → A.units + d.depth < cLine) : SortsAt prog w A s (dataKind s.heap ds) vs := by
  by_cases all : ∀ d ∈ ds, noItem d = false
  · refine SortsAt.data e hal (.inl fun d hd => ?_) hu
    obtain ⟨xs, rfl⟩ := ht d hd
    have := all _ hd
    cases xs with
    | nil => cases this
    | cons x r => exact ⟨x, r, rfl⟩
  · have room : ∀ {d d' : PyData}, d ∈ ds → A.units + min d.depth d'.depth < cLine := fun {d d'} hd => Nat.lt_of_le_of_lt (Nat.add_le_add_left (Nat.min_le_left _ _) _) (hu d hd)
    have lt : ∀ f, ∀ (E : Value → Shared → Prop) (x y : Value) (a b : List (Int ⊕ List Nat)) (Q : Bool → Shared → Prop), (dataKind s.heap ds).keyOf x = some a → (dataKind s.heap ds).keyOf y = some b → Q (PyProof.Rows.lexLt itemOrd a b) s → wpAny (model prog w) A (oneLt' f x y) Q E s := by
      intro f E x y a b Q ha hb hq
      obtain ⟨d, as, hd, ra, rfl⟩ := dataKind_inv ha
      obtain ⟨d', as', hd', rb, rfl⟩ := dataKind_inv hb
      obtain ⟨xs, rfl⟩ := ht d hd
      obtain ⟨ys, rfl⟩ := ht d' hd'
      exact oneLt_alikeT ra rb (hal _ hd _ hd') (room hd) hq
    have types : ∀ v ∈ vs, Looks (model prog w) s.heap (typeOf v) (Value.type "tuple") := fun v hv => by
      obtain ⟨d, hd, as, r⟩ := e.left v hv
      obtain ⟨xs, rfl⟩ := ht d hd
      exact looks_reads r
    have some_no : ∀ {fs : List (Option Value)}, Paired (fun f d => Option.isSome f = !noItem d) fs ds → ¬ (fs.toArray.all fun x => x.isSome) = true := fun {fs} hf z => all fun d hd => by
      obtain ⟨f, hfm, e2⟩ : ∃ f ∈ fs, Option.isSome f = !noItem d := by
        clear e hal ht hu all room lt types z
        induction hf with
        | nil => cases hd
        | @cons f' d' fs' ds' h t ih =>
          rcases List.mem_cons.mp hd with q | q
          · subst q; exact ⟨f', List.mem_cons_self .., h⟩
          · obtain ⟨f, h1, h2⟩ := ih q
            exact ⟨f, List.mem_cons_of_mem _ h1, h2⟩
      have z2 : ∀ x ∈ fs, x.isSome = true := by simpa using z
      rw [z2 f hfm] at e2
      simpa using e2.symm
    refine ⟨fun v hv => ?_, ?_⟩
    · obtain ⟨d, hd, as, r⟩ := e.left v hv
      exact ⟨_, dataKind_some hal hd r⟩
    · cases ds with
      | nil => exact absurd (fun d hd => nomatch hd) all
      | cons d₀ ds₀ =>
        by_cases f0 : noItem d₀ = true
        · refine ⟨oneType', fun E x y a b Q ha hb hq => ?_, fun h2 E Q hq => ?_⟩
          · rw [keyLt'_oneType]
            exact lt true E x y a b Q ha hb hq
          · rw [keyKind'_eq, List.mapM_toArray, map_eq_pure_bind]
            refine wpAny_bind (wpAny_bind (firsts_any vs _ e ht fun fs hf => wpAny_pure ?_))
            rw [if_neg (some_no hf)]
            cases hf with
            | @cons f' _ fs' _ h t =>
              rw [f0] at h
              have e0 : f' = none := by cases f' with | none => rfl | some x => cases h
              subst e0
              rw [if_neg (by simp)]
              rw [oneTypeOnly'_eq, List.mapM_toArray, map_eq_pure_bind]
              refine wpAny_bind (wpAny_bind (wpAny_bind (kas_mapM (r := Value.type "tuple") _ (fun v hv Q' hq => (types v hv).here hq) (wpAny_pure ?_))))
              obtain ⟨v₁, rest, rfl⟩ : ∃ v₁ rest, vs = v₁ :: rest := by
                cases vs with
                | nil => simp at h2
                | cons v r => exact ⟨v, r, rfl⟩
              have hall : ((List.map (fun _ => Value.type "tuple") (v₁ :: rest)).toArray.all fun x => x == Value.type "tuple") = true := by
                simp only [List.all_toArray, List.all_map, List.all_eq_true]
                intro _ _
                exact beq_self_eq_true _
              have h0 : (List.map (fun _ => Value.type "tuple") (v₁ :: rest)).toArray[0]? = some (Value.type "tuple") := by simp
              rw [h0]
              simp only [hall, if_true]
              exact wpAny_pure (wpAny_pure hq)
        · refine ⟨general', fun E x y a b Q ha hb hq => lt false E x y a b Q ha hb hq, fun h2 E Q hq => ?_⟩
          rw [keyKind'_eq, List.mapM_toArray, map_eq_pure_bind]
          refine wpAny_bind (wpAny_bind (firsts_any vs _ e ht fun fs hf => wpAny_pure ?_))
          rw [if_neg (some_no hf)]
          cases hf with
          | @cons f' _ fs' _ h t =>
            have f0 : noItem d₀ = false := by simpa using f0
            rw [f0] at h
            rw [if_pos (by simpa using h)]
            exact wpAny_pure hq
end
/-! ### sorted of tuples -/
def rSortedT (K : PySem.W.Frag) : List V → Hp → VK → Prop := fun vs H Q => ∃ (a : Addr) (xs : List V) (D : V → PyData), vs = [V.ref a] ∧ SqL K H a xs ∧ (∀ x ∈ xs, Dp K H x (D x)) ∧ AllAlike (xs.map D) ∧ (∀ x ∈ xs, ∃ ds, D x = .tuple ds) ∧ (∀ x ∈ xs, (D x).depth ≤ 40) ∧
  ∀ (ys : List V) (p : Addr), ys.Perm xs → ys = xs.mergeSort (dataLe false D) → H p = none → Q (.ref p) (upd H p (.lst ys))
theorem reads_each {X : Cx} {pins : List (Addr × Obj)} {σ : L2.St} {H : Hp} {s : Shared} (I : Inv X pins σ H s) {D : V → PyData} {xs : List V} {its : List Value} (rv : Vals xs its) (hd : ∀ x ∈ xs, Dp X.K H x (D x)) : EachIs (fun v x => ∃ as, Reads s.heap v (D x) as) its xs := by
  induction rv with
  | nil => exact .nil
  | cons r t ih => exact .cons (Dp.reads I _ _ _ (hd _ (List.mem_cons_self ..)) r) (ih fun x hx => hd x (List.mem_cons_of_mem _ hx))
theorem cr_sortedT' {X : Cx} (hu : X.A.units + 64 < cLine) : CallR X (.builtin "sorted") (rSortedT X.K) := by
  intro pins s σ H vs us Q I r h
  obtain ⟨a, xs, D, rfl, hs, hd, al, tp, dp, q⟩ := h
  obtain ⟨its, rv, pl, hz⟩ := I.list hs
  rw [Vals.ref1 r]
  have ln := rv.length
  have er := reads_each I rv hd
  have er2 : EachIs (fun v x => ∃ as, Reads (sortingHeap (copyHeap s.heap its) (s.heap.objs.size + 1) its) v (D x) as) its xs := er.mono fun _ _ ⟨as, z⟩ => ⟨as, PyProof.Rows.Reads.keeps (fun _ _ => sorting_copy_old) z⟩
  have tps : ∀ d ∈ xs.map D, ∃ ds, d = PyData.tuple ds := fun d hd => by
    obtain ⟨x, hx, rfl⟩ := List.mem_map.mp hd
    exact tp x hx
  have room : ∀ d, d ∈ xs.map D → X.A.in1.in1.units + d.depth < cLine := fun d hd => by
    obtain ⟨x, hx, rfl⟩ := List.mem_map.mp hd
    have := dp x hx
    show X.A.units + 1 + 1 + _ < cLine
    omega
  have rel : EachIs (fun v x => RelV x v) its xs := each_of rv
  refine sorted_vals (prog := X.prog) (w := X.w) (A := X.A) (κ := dataKind _ (xs.map D)) pl.isList (SortsAt.dataT (s := { s with heap := sortingHeap (copyHeap s.heap its) (s.heap.objs.size + 1) its }) (each_map (R := fun v d => ∃ as, Reads (sortingHeap (copyHeap s.heap its) (s.heap.objs.size + 1) its) v d as) D er2) al tps room) (by rw [← ln]; exact hz) ?_
  have rv2 : Vals (xs.mergeSort (dataLe false D)) (sortVals (dataKind (sortingHeap (copyHeap s.heap its) (s.heap.objs.size + 1) its) (xs.map D)) false its its) := of_each (sortVals_data false rel er2 al)
  generalize sortVals (dataKind (sortingHeap (copyHeap s.heap its) (s.heap.objs.size + 1) its) (xs.map D)) false its its = out at *
  obtain ⟨c, hc⟩ := PyProof.Rows.sortedAll_at s.heap its out.toArray
  have hz2 : s.heap.objs.size ≤ s.heap.objs.size + 1 := Nat.le_succ _
  have hl2 : (xs.mergeSort (dataLe false D)).length ≤ sizeLine := by rw [List.length_mergeSort, ln]; omega
  exact ⟨.ref (s.heap.objs.size + 1), _, I.laid (t' := s.toks) (o := .lst (xs.mergeSort (dataLe false D))) (fun _ _ => PyProof.Rows.sortedAll_old) hz2 ⟨hl2, out, c, rv2, hc⟩, rfl, q _ _ (List.mergeSort_perm ..) rfl (I.hok.fresh hz2)⟩
/-! ### states sorted -/
theorem bD_alike (a b : Int × Int) : alike (bD a) (bD b) = true := by simp [bD, alike, alikeAll]
theorem bDs_alike : ∀ (l m : List (Int × Int)), alikeAll (l.map bD) (m.map bD) = true
  | [], _ => by simp [alikeAll]
  | _ :: _, [] => by simp [alikeAll]
  | a :: l, b :: m => by
    rw [List.map_cons, List.map_cons]
    simp only [alikeAll, bD_alike, bDs_alike l m, Bool.and_self]
theorem paired_perm {α β : Type} {R : α → β → Prop} {xs ys : List α} (p : ys.Perm xs) : ∀ {bs : List β}, Paired R xs bs → ∃ cs, Paired R ys cs ∧ cs.Perm bs := by
  induction p with
  | nil => exact fun h => ⟨_, h, .refl _⟩
  | cons x _ ih =>
    intro bs h
    cases h with
    | cons h t =>
      obtain ⟨cs, h1, h2⟩ := ih t
      exact ⟨_, .cons h h1, h2.cons _⟩
  | swap x y l =>
    intro bs h
    cases h with
    | cons h t =>
      cases t with
      | cons h' t => exact ⟨_, .cons h' (.cons h t), .swap ..⟩
  | trans _ _ i1 i2 =>
    intro bs h
    obtain ⟨cs, h1, h2⟩ := i2 h
    obtain ⟨ds, h3, h4⟩ := i1 h1
    exact ⟨ds, h3, h4.trans h2⟩
end Ph

set_option maxHeartbeats 4000000
/-! PhKy: list(d) of such a dict; d[k] op= e. -/
namespace Ph
open PySem PySem.Spec PyProof.Rows L2
theorem kdr_raw {P : Program} {w : World} {H : Hp} {h : Heap} {d : Addr} {xs : List KAV} (ok : HOk P w H h) (D : KDr w H d xs) :
    ∃ (o : Obj) (es : Array DictEntry) (ep : Nat), h.get? d = some o ∧ o.ExactDict ∧ o.data = .dict es ep ∧ es.size = xs.length ∧ ∀ (i : Nat) (en : DictEntry), es[i]? = some en → ∃ e, xs[i]? = some e ∧ en.key = .ref e.2.1 ∧ RelV e.2.2 en.val := by
  have x : ObjOk P w H h d (dkO w d xs) := by
    rcases D.ob with e | ⟨o, e⟩
    · exact ok d _ e
    · exact (show ObjOk P w H h d (.frz o (dkO w d xs)) from ok d _ e).2
  obtain ⟨⟨o, es, ep, ho, hc, hdat, ys, he, r⟩, _⟩ := x
  have l1 : es.size = ys.length := by
    have := congrArg List.length he
    rw [List.length_map] at this
    simpa using this
  have l2 := Paired.length r
  refine ⟨o, es, ep, ho, hc, hdat, by omega, fun i en h => ?_⟩
  have q : es.toList[i]? = some en := by rw [Array.getElem?_toList]; exact h
  rw [he, List.getElem?_map] at q
  obtain ⟨y, hy, e2⟩ := Option.map_eq_some_iff.mp q
  obtain ⟨e, h1, _, h3, h4⟩ := Paired.get2 r hy
  exact ⟨e, h1, by rw [← e2, h3]; rfl, by rw [← e2]; exact h4⟩
section
variable {X : Cx}
theorem call_listX (hc : X.calm = true) : CallR X (.type "list") (fun vs H Q => ∃ d xs, vs = [V.ref d] ∧ KDr X.w H d xs ∧ ∀ p, H p = none → Q (.ref p) (upd H p (.lst (xs.map fun x => V.ref x.2.1)))) := by
  intro pins s σ H vs us Q I r h
  obtain ⟨d, xs, rfl, D, q⟩ := h
  obtain ⟨u, rfl, rx⟩ := r.one
  cases rx
  obtain ⟨o, es, ep, ho, hx, hdt, hsz, ent⟩ := kdr_raw I.hok D
  have ln := D.ln
  refine PySem.W.kdl_call (kdl_raw D.sm hx hdt) (I.ok.hd hc) ho (by omega) fun h' tk acc' c' kp e it => ?_
  have rv : Vals (xs.map fun x => V.ref x.2.1) acc'.toList := vals_of_at (by rw [List.length_map, Array.length_toList]; exact hsz.symm.trans it.1.symm) fun j x u h1 h2 => by
    obtain ⟨en, hen, hv⟩ := it.2 j u (by rw [← Array.getElem?_toList]; exact h2)
    obtain ⟨e0, h3, h4, _⟩ := ent j en hen
    rw [List.getElem?_map, h3] at h1
    cases h1
    rw [hv, h4]
    rfl
  have hz : (xs.map fun x => V.ref x.2.1).length ≤ sizeLine := by rw [List.length_map]; exact ln
  refine ⟨.ref s.heap.objs.size, _, I.laid (t' := tk) (o := .lst (xs.map fun x => V.ref x.2.1)) kp (Nat.le_refl _) ?_, rfl, q _ (I.hok.fresh (Nat.le_refl _))⟩
  exact ⟨hz, acc'.toList, c', rv, by rw [Array.toArray_toList]; exact e⟩
end
/-- d[k] op= e -/
def sKAug (w : World) (td ty tv : TE) (rd : V → V → Hp → VK → Prop) : TS := fun D σ H => td σ H fun x H1 => ty σ H1 fun y H2 => ∃ d b kvs k v, x = .ref d ∧ y = .ref b ∧ KD w H2 d kvs ∧ Nk H2 (.ref b) k ∧ k.depth ≤ 8 ∧ valV kvs k = some v ∧
  tv σ H2 fun y2 H3 => rd v y2 H3 fun z H4 => KD w H4 d kvs ∧ Nk H4 (.ref b) k ∧ kvs.length < sizeLine ∧ ∀ H5, But d H4 H5 → KD w H5 d (putK kvs k z) → D.nx σ H5
section
variable {X : Cx} {o i value : Expr} {pos tpos : Pos} {td ty tv : TE}
theorem ps_kaug {op : Operator} {rd : V → V → Hp → VK → Prop} (hu : X.A.units + 64 < cLine) (ho : PE X o td) (hi : PE X i ty) (hv : PE X value tv) (hop : InOp X op rd)
    (ha : ∀ ov iv new, augStore i ov iv new = (do holding [new, ov, iv] (setItem ov iv new); release [new, ov, iv] []; pure .next) := by intros; rfl) : PS X (.AugAssign (.Subscript o i tpos) op value pos) (sKAug X.w td ty tv rd) := by
  refine ⟨fun pins s σ H D I h => ?_⟩
  refine wpAny_AugAssign_SubscriptAny (thn (ho.run pins s σ H _ I h) fun u s1 ⟨x, H1, I1, rx, q1⟩ => thn (hi.run pins s1 σ H1 _ I1 q1) fun iv s2 ⟨y, H2, I2, ry, d, b, kvs, k, v, ex, ey, K, n, dp, hk, q2⟩ => ?_) ha
  subst ex ey
  obtain rfl : u = Value.ref d := rx
  obtain rfl : iv = Value.ref b := ry
  refine (kd_get hu I2 K n dp hk fun w' s3 I3 rw' => thn (hv.run pins s3 σ H2 _ I3 q2) fun w2 s4 ⟨y2, H3, I4, ry2, q3⟩ => thn (hop pins s4 σ H3 v y2 w' w2 _ I4 rw' ry2 q3) fun w3 s5 ⟨z, H4, I5, rz, K4, n4, hl, q4⟩ => ?_).2
  exact kd_set hu I5 K4 n4 dp hl rz fun H5 s6 b5 k5 I6 => ⟨σ, H5, I6, q4 H5 b5 k5⟩
end
/-! ### sorted of a list of states -/
open Classical in
noncomputable def stOf (H : Hp) (x : V) : List Bk := if h : ∃ bs, StV H x bs then h.choose else []
theorem stOf_eq {H : Hp} {x : V} {bs : List Bk} (h : StV H x bs) : stOf H x = bs := by
  have ex : ∃ bs, StV H x bs := ⟨bs, h⟩
  unfold stOf
  rw [dif_pos ex]
  obtain ⟨t, e1, st1⟩ := ex.choose_spec
  obtain ⟨u, e2, st2⟩ := h
  rw [e1] at e2
  cases e2
  obtain ⟨xs, h1, b1⟩ := st1
  obtain ⟨ys, h2, b2⟩ := st2
  rw [h1] at h2
  cases h2
  rw [← b1.map, ← b2.map]
def rSortedS (K : PySem.W.Frag) : List V → Hp → VK → Prop := fun vs H Q => ∃ (a : Addr) (xs : List V) (bss : List (List Bk)), vs = [V.ref a] ∧ SqL K H a xs ∧ StVs H xs bss ∧ ∀ ys css p, css.Perm bss → StVs H ys css → H p = none → Q (.ref p) (upd H p (.lst ys))
theorem cr_sortedS {X : Cx} (hu : X.A.units + 64 < cLine) : CallR X (.builtin "sorted") (rSortedS X.K) := by
  intro pins s σ H vs us Q I r h
  obtain ⟨a, xs, bss, rfl, hs, hb, q⟩ := h
  have key : ∀ x ∈ xs, ∃ bs, StV H x bs := fun x hx => by
    obtain ⟨i, hi, e⟩ := List.getElem_of_mem hx
    obtain ⟨b, _, st⟩ := Paired.get hb (i := i) (by rw [List.getElem?_eq_getElem hi, e])
    exact ⟨b, st⟩
  refine cr_sortedT' hu pins s σ H _ us Q I r ⟨a, xs, fun x => stD (stOf H x), rfl, hs, fun x hx => ?_, fun d hd d' hd' => ?_, fun x _ => ⟨_, rfl⟩, fun x _ => Nat.le_trans (stD_depth _) (by decide), fun ys p pm _ np => ?_⟩
  · obtain ⟨bs, t, rfl, st⟩ := key x hx
    show Dp X.K H (.ref t) (stD (stOf H (.ref t)))
    rw [stOf_eq ⟨t, rfl, st⟩]
    exact st.dp
  · obtain ⟨x, _, rfl⟩ := List.mem_map.mp hd
    obtain ⟨y, _, rfl⟩ := List.mem_map.mp hd'
    unfold stD
    simp only [PySem.W.alike]
    exact bDs_alike _ _
  · obtain ⟨css, h1, h2⟩ := paired_perm pm hb
    exact q ys css p h2 h1 np
/-! ### what keeps everything but a table and a list -/
structure KG (N L : Addr) (H H' : Hp) : Prop where
  kt : Kt H H'
  fr : ∀ a o, a ≠ N → a ≠ L → H a = some o → H' a = some o
section
variable {N L : Addr} {H H1 H2 : Hp}
theorem KG.refl (H : Hp) : KG N L H H := ⟨Kt.refl H, fun _ _ _ _ e => e⟩
theorem KG.trans (a : KG N L H H1) (b : KG N L H1 H2) : KG N L H H2 := ⟨a.kt.trans b.kt, fun c o n1 n2 e => b.fr c o n1 n2 (a.fr c o n1 n2 e)⟩
theorem KG.same (s : Same H H1) : KG N L H H1 := ⟨Same.kt s, fun c o _ _ e => s c o e⟩
theorem KG.putD {w : World} {kvs : List (NestedKey × V)} (b : But N H H1) (k : KD w H N kvs) : KG N L H H1 := ⟨b.ktD k, fun c o n _ e => b c o n e⟩
theorem KG.putX {w : World} {xs : List KAV} (b : But N H H1) (k : KDx w H N xs) : KG N L H H1 := ⟨b.ktX k, fun c o n _ e => b c o n e⟩
theorem KG.list {xs ys : List V} (e : H L = some (.lst xs)) : KG N L H (upd H L (.lst ys)) := ⟨kt_upd e, fun c o _ n h => by rw [upd_ne n]; exact h⟩
theorem KG.kpT (k : KG N L H H1) : KpT H H1 := k.kt.kpT
theorem KG.st (k : KG N L H H1) {t : Addr} {bs : List Bk} (h : StAt H t bs) : StAt H1 t bs := k.kt.st h
end
theorem KD.kt {w : World} {H H' : Hp} {d : Addr} {kvs : List (NestedKey × V)} (k : KD w H d kvs) (t : Kt H H') (e : ∀ u, H d = some u → H' d = some u) : KD w H' d kvs := k.keeps (fun _ _ h => t.tuH h) e
theorem KDx.kt {w : World} {H H' : Hp} {d : Addr} {xs : List KAV} (k : KDx w H d xs) (t : Kt H H') (e : ∀ u, H d = some u → H' d = some u) : KDx w H' d xs := k.keeps (fun _ _ h => t.tuH h) e
/-! ### a state with a size as a key -/
def ekey (bs : List Bk) (z : Int) : NestedKey := .tup [skey bs, .num z]
theorem ekey_inj {a b : List Bk} {x y : Int} (h : ekey a x = ekey b y) : a = b ∧ x = y := by
  unfold ekey at h
  injection h with h
  injection h with h1 h
  injection h with h2 _
  injection h2 with h2
  exact ⟨skey_inj h1, h2⟩
theorem ekey_depth (bs : List Bk) (z : Int) : (ekey bs z).depth ≤ 8 := by
  have h := bkeys_depth bs
  unfold ekey skey
  simp only [NestedKey.depth, NestedKey.depthAll]
  omega
theorem ekey_nk {H : Hp} {T u : Addr} {bs : List Bk} {z : Int} (hT : H T = some (.tup [.ref u, .int z])) (hu : StAt H u bs) : Nk H (.ref T) (ekey bs z) := .tup (.inl hT) (.cons hu.nk (.cons (.int z) .nil))
theorem Kt.ch {H H' : Hp} (k : Kt H H') {c : Addr} {C : List Int} (h : ChAt H c C) : ChAt H' c C := by
  obtain ⟨o, d, e⟩ := h
  exact ⟨o, d, k c _ e (fun _ z => by cases z) (fun _ z => by cases z)⟩
theorem but_ktE {H H' : Hp} {d : Addr} {φ : Heap → Prop} (b : But d H H') (e : H d = some (.ext φ)) : Kt H H' := fun a o h n1 _ => b a o (fun z => by
  rw [z, e] at h
  exact n1 _ (Option.some.inj h).symm) h
/-- the state stands in the table -/
def InK (xs : List KAV) (bs : List Bk) : Prop := (valV (xs.map kv2) (skey bs)).isSome = true
section
variable {xs : List KAV} {bs cs : List Bk} {k : NestedKey} {b : Addr} {v : V}
theorem InK.put (h : InK xs bs) : InK (putX xs k b v) bs := by
  unfold InK at h ⊢
  rw [valV_putX]
  split
  · rfl
  · exact h
theorem InK.new : InK (putX xs (skey bs) b v) bs := by
  unfold InK
  rw [valV_putX, if_pos rfl]
  rfl
theorem InK.inv (h : InK (putX xs (skey cs) b v) bs) : bs = cs ∨ InK xs bs := by
  unfold InK at h
  rw [valV_putX] at h
  split at h
  · rename_i e
    exact .inl (skey_inj e)
  · exact .inr h
theorem InK.mem (h : InK xs bs) : ∃ x ∈ xs, x.1 = skey bs := by
  obtain ⟨v, e⟩ := Option.isSome_iff_exists.mp h
  obtain ⟨x, hx, e1, _⟩ := valV_mem2 e
  exact ⟨x, hx, e1⟩
theorem InK.of {x : KAV} (nd : (xs.map (·.1)).Nodup) (hx : x ∈ xs) (e : x.1 = skey bs) : InK xs bs := by
  unfold InK
  rw [valV_kv2 nd hx e]
  rfl
theorem InK.not (h : (!(valV (xs.map kv2) (skey bs)).isSome) = true) : valV (xs.map kv2) (skey bs) = none ∧ ¬ InK xs bs := by
  unfold InK
  cases e : valV (xs.map kv2) (skey bs) with
  | none => exact ⟨rfl, fun z => by cases z⟩
  | some x => rw [e] at h; cases h
theorem InK.yes (h : ¬ (!(valV (xs.map kv2) (skey bs)).isSome) = true) : InK xs bs := by
  unfold InK
  cases e : valV (xs.map kv2) (skey bs) with
  | none => rw [e] at h; exact absurd rfl h
  | some x => rfl
end
/-- tables of states of a list are not longer than the list -/
theorem keys_few {xs : List KAV} {bss : List (List Bk)} (nd : (xs.map (·.1)).Nodup) (h : ∀ x ∈ xs, ∃ bs ∈ bss, x.1 = skey bs) : xs.length ≤ bss.length := by
  have := nodup_le (l := xs.map (·.1)) (m := bss.map skey) nd fun k hk => by
    obtain ⟨x, hx, rfl⟩ := List.mem_map.mp hk
    obtain ⟨bs, hb, e⟩ := h x hx
    rw [e]
    exact List.mem_map.mpr ⟨bs, hb, rfl⟩
  rw [List.length_map, List.length_map] at this
  exact this
end Ph

set_option maxHeartbeats 4000000
/-! PhKz: sorted(d) of a dict whose keys are states. -/
namespace Ph
open PySem PySem.Calls PyProof.V PySem.Spec PyProof.Rows L2 PySem.W SeqAt
theorem cr_sortedX {X : Cx} (hc : X.calm = true) (hu : X.A.units + 64 < cLine) : CallR X (.builtin "sorted") (fun vs H Q => ∃ d xs bss, vs = [V.ref d] ∧ KDr X.w H d xs ∧ StVs H (xs.map fun x => V.ref x.2.1) bss ∧
    ∀ ys css p, css.Perm bss → StVs H ys css → H p = none → Q (.ref p) (upd H p (.lst ys))) := by
  intro pins s σ H vs us Q I r h
  obtain ⟨d, kxs, bss, rfl, K, hb, q⟩ := h
  obtain rfl := Vals.ref1 r
  obtain ⟨o, es, ep, ho, hx, hdt, hsz, ent⟩ := kdr_raw I.hok K
  have ln := K.ln
  generalize hxs : (kxs.map fun x => V.ref x.2.1) = xs at *
  have xl : xs.length = kxs.length := by rw [← hxs, List.length_map]
  refine call_function_entry kind_sorted plain_sorted entry_sorted (args_sorted1 _) ?_
  unfold Builtin.«sorted»
  refine wpAny_bind (m := checkCount "sorted" 1 1 _) (wpAny_pure ?_)
  refine wpAny_bind (kdu_collect (A := X.A.in1) (kdl_raw K.sm hx hdt) (I.ok.hd hc) ho (by omega) fun h' tk acc hk it => ?_)
  have rv : Vals xs acc.toList := vals_of_at (by rw [xl, Array.length_toList]; exact hsz.symm.trans it.1.symm) fun j x u h1 h2 => by
    obtain ⟨en, hen, hv⟩ := it.2 j u (by rw [← Array.getElem?_toList]; exact h2)
    obtain ⟨e0, h3, h4, _⟩ := ent j en hen
    rw [← hxs, List.getElem?_map, h3] at h1
    cases h1
    rw [hv, h4]
    rfl
  generalize acc.toList = its at *
  have il : its.length = kxs.length := by rw [← rv.length, xl]
  have hL : its.length ≤ sizeLine := by omega
  refine wpAny_bind (wpAny_newList ?_ hL)
  have hob : (h'.push { cls := .type "list", data := .seq its.toArray }).get? h'.objs.size = some (seqObj "list" its.toArray 0) := Heap.get?_push_size _ rfl
  have kb : ∀ b o, s.heap.get? b = some o → (h'.push { cls := .type "list", data := .seq its.toArray }).get? b = some o := fun b o e => Heap.get?_push_of_some _ (hk b o e)
  have ne0 : ∀ b o, s.heap.get? b = some o → b ≠ h'.objs.size := fun b o e => Nat.ne_of_lt (Heap.lt_size (hk b o e))
  generalize (h'.push { cls := .type "list", data := .seq its.toArray }) = h2 at hob kb ⊢
  have key : ∀ x ∈ xs, ∃ bs, StV H x bs := fun x hx => by
    obtain ⟨i, hi, e⟩ := List.getElem_of_mem hx
    obtain ⟨b, _, st⟩ := Paired.get hb (i := i) (by rw [List.getElem?_eq_getElem hi, e])
    exact ⟨b, st⟩
  have hd : ∀ x ∈ xs, Dp X.K H x (stD (stOf H x)) := fun x hx => by
    obtain ⟨bs, t, rfl, st⟩ := key x hx
    rw [stOf_eq ⟨t, rfl, st⟩]
    exact st.dp
  have er := reads_each I rv hd
  have er2 : EachIs (fun v x => ∃ as, Reads (sortingHeap h2 h'.objs.size its) v (stD (stOf H x)) as) its xs := er.mono fun _ _ ⟨as, z⟩ => ⟨as, PyProof.Rows.Reads.keeps (fun b o e => sortingHeap_old (ne0 b o e) (kb b o e)) z⟩
  have al : AllAlike (xs.map fun x => stD (stOf H x)) := fun d hd d' hd' => by
    obtain ⟨x, _, rfl⟩ := List.mem_map.mp hd
    obtain ⟨y, _, rfl⟩ := List.mem_map.mp hd'
    unfold stD
    simp only [PySem.W.alike]
    exact bDs_alike _ _
  have tps : ∀ d ∈ xs.map (fun x => stD (stOf H x)), ∃ ds, d = PyData.tuple ds := fun d hd => by
    obtain ⟨x, hx, rfl⟩ := List.mem_map.mp hd
    exact ⟨_, rfl⟩
  have room : ∀ d, d ∈ xs.map (fun x => stD (stOf H x)) → X.A.in1.in1.units + d.depth < cLine := fun d hd => by
    obtain ⟨x, hx, rfl⟩ := List.mem_map.mp hd
    have : (stD (stOf H x)).depth ≤ 40 := Nat.le_trans (stD_depth _) (by decide)
    show X.A.units + 1 + 1 + _ < cLine
    omega
  have rel : EachIs (fun v x => RelV x v) its xs := each_of rv
  refine wpAny_bind (wpAny_holding (wpAny_call_entry PyProof.Rows.slot_list_sort ⟨_, hob, rfl⟩ PyProof.Rows.entry_list_sort ?body (PyProof.Rows.args_list_sort _)))
  case body =>
    refine list_sort_vals (s := { s with heap := h2, toks := tk }) (κ := dataKind _ (xs.map fun x => stD (stOf H x))) hob (SortsAt.dataT (s := { s with heap := sortingHeap h2 h'.objs.size its, toks := tk }) (each_map (R := fun v d => ∃ as, Reads (sortingHeap h2 h'.objs.size its) v d as) (fun x => stD (stOf H x)) er2) al tps room) hL ?_
    refine ⟨_, rfl, wpAny_pure ⟨_, rfl, ?_⟩⟩
    have rv2 : Vals (xs.mergeSort (dataLe false fun x => stD (stOf H x))) (sortVals (dataKind (sortingHeap h2 h'.objs.size its) (xs.map fun x => stD (stOf H x))) false its its) := of_each (sortVals_data false rel er2 al)
    generalize sortVals (dataKind (sortingHeap h2 h'.objs.size its) (xs.map fun x => stD (stOf H x))) false its its = out at *
    obtain ⟨c, hcF⟩ := PyProof.Rows.sortedHeap_at (vs := its) (out := out.toArray) hob
    have kS : ∀ b o, s.heap.get? b = some o → (sortedHeap h2 h'.objs.size its out.toArray).get? b = some o := fun b o e => (PyProof.Rows.sortedHeap_old (ne0 b o e) (Heap.lt_size (kb b o e))).trans (kb b o e)
    have hn0 : H h'.objs.size = none := (I.hok.kept hk).fresh (Nat.le_refl _)
    have hs0 : s.heap.get? h'.objs.size = none := by
      cases e : s.heap.get? h'.objs.size with
      | none => rfl
      | some o => exact absurd rfl (ne0 _ _ e)
    obtain ⟨css, h1, h2'⟩ := paired_perm (List.mergeSort_perm xs (dataLe false fun x => stD (stOf H x))) hb
    have hl2 : (xs.mergeSort (dataLe false fun x => stD (stOf H x))).length ≤ sizeLine := by rw [List.length_mergeSort]; omega
    exact ⟨.ref h'.objs.size, _, I.laidN (t' := tk) (o := .lst (xs.mergeSort (dataLe false fun x => stD (stOf H x)))) kS hs0 hn0 ⟨hl2, out, c, rv2, hcF⟩, rfl, q _ css _ h2' h1 hn0⟩
end Ph

set_option maxHeartbeats 4000000
/-! PhIx: d.items() and sorted(d.items()) of dicts keyed by states. -/
namespace Ph
open PySem PySem.Calls PyProof.V PySem.Spec PyProof.Rows L2 PySem.W SeqAt
def rItemsX (w : World) : V → List V → Hp → VK → Prop := fun x xs H Q => ∃ (a : Addr) (es : List KAV), x = .ref a ∧ xs = [] ∧ KDr w H a es ∧ ∀ p, H p = none → Q (.ref p) (upd H p (DX.itemsO p a))
def tXItems (w : World) (td : TE) : TE := fun σ H Q => td σ H fun x H1 => ∃ (a : Addr) (es : List KAV), x = .ref a ∧ KDr w H1 a es ∧ ∀ p, H1 p = none → Q (.ref p) (upd H1 p (DX.itemsO p a))
/-- the pairs of such a dict, sorted as data -/
def rSortIX (w : World) (K : PySem.W.Frag) : List V → Hp → VK → Prop := fun vs H Q => ∃ (p d : Addr) (xs : List KAV) (kd vd : KAV → PyData), vs = [.ref p] ∧ H p = some (DX.itemsO p d) ∧ KDr w H d xs ∧
  (∀ e ∈ xs, Dp K H (.ref e.2.1) (kd e) ∧ Dp K H e.2.2 (vd e)) ∧ AllAlike (xs.map fun e => PyData.tuple [kd e, vd e]) ∧ (∀ e ∈ xs, (PyData.tuple [kd e, vd e]).depth ≤ 40) ∧
  ∀ H' l (zs : List (Addr × KAV)), Same H H' → (zs.map (·.2)).Perm xs → H' l = some (.lst (zs.map fun z => V.ref z.1)) → (∀ z ∈ zs, H' z.1 = some (.tup [.ref z.2.2.1, z.2.2.2])) → Q (.ref l) H'
open Classical in
noncomputable def dOf (L : List (Addr × PyData)) (x : V) : PyData := match x with
  | .ref a => ((L.find? fun p => p.1 == a).map (·.2)).getD .none
  | _ => .none
end Ph

set_option maxHeartbeats 4000000
/-! PhKv: dict(list of pairs) whose keys are tuples of tuples. -/
namespace Ph
open PySem PySem.Calls PyProof.V PySem.Spec PyProof.Rows L2 PySem.W
def putAllX (xs es : List KAV) : List KAV := es.foldl (fun acc e => putX acc e.1 e.2.1 e.2.2) xs
theorem NR.putAll : ∀ {es : List KAV} {ps : List (NestedKey × Addr × Value)} {xs : List KAV} {ys : List (NestedKey × Addr × Value)}, NR es ps → NR xs ys → NR (putAllX xs es) (storedAllH ys ps)
  | _, _, _, _, .nil, r => r
  | _, _, xs, ys, .cons (a := e) (b := p) h t, r => by
    obtain ⟨h1, h2, h3⟩ := h
    have r2 := NR.put (k := e.1) (b := e.2.1) (v := e.2.2) (u := p.2.2) r h3
    show NR (putAllX (putX xs e.1 e.2.1 e.2.2) _) (storedAllH (storedH ys p.1 p.2.1 p.2.2) _)
    rw [← h1, ← h2]
    exact NR.putAll t r2
theorem putAllX_mem : ∀ {es xs : List KAV} {x : KAV}, x ∈ putAllX xs es → (∃ y ∈ xs, x.1 = y.1 ∧ x.2.1 = y.2.1) ∨ ∃ y ∈ es, x.1 = y.1 ∧ x.2.1 = y.2.1
  | [], _, x, h => .inl ⟨x, h, rfl, rfl⟩
  | e :: es, xs, x, h => by
    rcases putAllX_mem (es := es) (xs := putX xs e.1 e.2.1 e.2.2) h with ⟨y, hy, a, b⟩ | ⟨y, hy, a, b⟩
    · rcases putX_mem hy with ⟨e1, e2⟩ | ⟨z, hz, e1, e2⟩
      · exact .inr ⟨e, List.mem_cons_self, a.trans e1, b.trans e2⟩
      · exact .inl ⟨z, hz, a.trans e1, b.trans e2⟩
    · exact .inr ⟨y, List.mem_cons_of_mem _ hy, a, b⟩
theorem putAllX_len : ∀ (es xs : List KAV), (putAllX xs es).length ≤ xs.length + es.length
  | [], xs => Nat.le_refl _
  | e :: es, xs => by
    have h1 := putAllX_len es (putX xs e.1 e.2.1 e.2.2)
    have h2 := putX_len xs e.1 e.2.1 e.2.2
    show (putAllX (putX xs e.1 e.2.1 e.2.2) es).length ≤ xs.length + (es.length + 1)
    omega
section
variable {X : Cx}
theorem pairsX_of {pins : List (Addr × Obj)} {σ : L2.St} {H : Hp} {s : Shared} (I : Inv X pins σ H s) : ∀ {ps : List Addr} {es : List KAV}, Paired (fun p (e : KAV) => SqT X.K H p [.ref e.2.1, e.2.2]) ps es →
    ∃ qs : List (NestedKey × Addr × Value), NR es qs ∧ qs.length = ps.length ∧ ∀ (j : Nat) (q : NestedKey × Addr × Value), qs[j]? = some q → ∃ b : Addr, ps[j]? = some b ∧ IsTup s.heap b #[.ref q.2.1, q.2.2]
  | _, _, .nil => ⟨[], .nil, rfl, fun j q e => by simp at e⟩
  | _, _, .cons (a := p) (b := e) h t => by
    obtain ⟨qs, r, hl, hp⟩ := pairsX_of I t
    obtain ⟨its, rv, ht, _⟩ := I.tuple h
    obtain ⟨u, y, ei, ru, ry⟩ := vals2 rv
    obtain rfl : u = Value.ref e.2.1 := ru
    subst ei
    refine ⟨(e.1, e.2.1, y) :: qs, .cons ⟨rfl, rfl, ry⟩ r, by simp [hl], fun j q hq => ?_⟩
    cases j with
    | zero =>
      have := Option.some.inj hq
      subst this
      exact ⟨p, rfl, ht⟩
    | succ j =>
      obtain ⟨b, h1, h2⟩ := hp j q (by simpa using hq)
      exact ⟨b, by simpa using h1, h2⟩
theorem call_dictX (calm : X.calm = true) (hu : X.A.units + 64 < cLine) : CallR X (.type "dict") (fun xs H Q => ∃ (a : Addr) (ps : List Addr) (es : List KAV), xs = [.ref a] ∧ SqL X.K H a (ps.map V.ref) ∧ Paired (fun p (e : KAV) => SqT X.K H p [.ref e.2.1, e.2.2]) ps es ∧ (∀ e ∈ es, Nk H (.ref e.2.1) e.1 ∧ e.1.depth ≤ 8) ∧
    ∀ d H', H d = none → Same H H' → KDx X.w H' d (putAllX [] es) → Q (.ref d) H') := by
  intro pins s σ H xs us Q I r q
  obtain ⟨a, ps, es, rfl, hq, hp, hk, q⟩ := q
  rw [Vals.ref1 r]
  obtain ⟨its, rv, pl, hz⟩ := I.list hq
  have ei := refs_at rv
  subst ei
  rw [List.length_map] at hz
  obtain ⟨qs, rel, hl, hpr⟩ := pairsX_of I hp
  obtain ⟨o, n, ho, hc, hd, hdat⟩ := pl
  obtain ⟨hsm, _⟩ := kd_laid I
  have fresh := I.hok.fresh (Nat.le_refl s.heap.objs.size)
  have el : es.length = qs.length := Paired.length rel
  refine call_dict_pairsH (knd := nestedKind X.prog X.w) (ps := qs) (PairArg.list a ((ps.map Value.ref).toArray) (fun j => ps.getD j 0) (qs.map fun q => (Value.ref q.2.1, q.2.2))) (I.ok.hd calm) (by show X.A.units + 1 + 1 + 8 < cLine; omega) ⟨⟨o, n, ho, hc, hd, hdat⟩, by simp [hl], fun j k v e => ?_⟩ ⟨by rw [List.length_map], fun i k v e => ?_⟩ (fun h' keep x hx => ?_) (by rw [List.length_map, hl]; exact hz) fun h' tk dd keep => ?_
  · rw [List.getElem?_map] at e
    obtain ⟨z, hz2, ez⟩ := Option.map_eq_some_iff.mp e
    cases ez
    obtain ⟨b, h1, h2⟩ := hpr j z hz2
    have eb : ps.getD j 0 = b := by rw [List.getD_eq_getElem?_getD, h1]; rfl
    dsimp only
    rw [eb]
    refine ⟨by simp [h1], .inl ?_⟩
    obtain ⟨ot, h3, h4, n', h5⟩ := h2
    exact ⟨ot, h3, h4, n', h5⟩
  · have e : (qs.map fun q => (Value.ref q.2.1, q.2.2))[i]? = some (k, v) := e
    rw [List.getElem?_map] at e
    obtain ⟨z, hz2, ez⟩ := Option.map_eq_some_iff.mp e
    cases ez
    exact ⟨z.1, z.2.1, hz2, rfl⟩
  · have hok : HOk X.prog X.w H h' := I.hok.kept fun b u e => keep b u (Nat.ne_of_lt (Heap.lt_size e)) (fun z => nomatch z) e
    obtain ⟨e, he, e1, e2, _⟩ := NR.mem rel hx
    have := hk e he
    rw [e1, e2] at this
    exact ⟨this.1.is hok _ rfl, this.2⟩
  · have r2 := NR.putAll rel (.nil : NR [] [])
    have nd : ((putAllX [] es).map (·.1)).Nodup := by
      obtain ⟨_, _, _, _, _, _, _, _, z⟩ := id dd
      rw [NR.keys r2]
      exact z
    have sm := same_upd (o := dkO X.w s.heap.objs.size (putAllX [] es)) fresh
    refine ⟨.ref s.heap.objs.size, _, I.laid (t' := tk) (fun b u e => keep b u (fun z => nomatch z) e) (Nat.le_refl _) (dkO_ok r2 dd), rfl, q _ _ fresh sm ⟨upd_same, hsm, fun x hx => ?_, nd, ?_⟩⟩
    · rcases putAllX_mem hx with ⟨y, hy, _⟩ | ⟨y, hy, e1, e2⟩
      · cases hy
      · rw [e1, e2]
        exact ⟨(hk y hy).1.keeps fun c zs e => e.same sm, (hk y hy).2⟩
    · have := putAllX_len es []
      simp at this
      omega
end
end Ph

set_option maxHeartbeats 4000000
/-! PhKw2: d.get(k), d.update(e) of dicts keyed by tuples of tuples. -/
namespace Ph
open PySem PySem.Calls PyProof.V PySem.Spec PyProof.Rows L2 PySem.W
def tXGet1 (w : World) (td ty : TE) : TE := fun σ H Q => td σ H fun x H1 => ∃ d xs, x = .ref d ∧ KDr w H1 d xs ∧ ty σ H1 fun y H2 => ∃ b k, y = .ref b ∧ KDr w H2 d xs ∧ Nk H2 (.ref b) k ∧ k.depth ≤ 8 ∧ Q ((valV (xs.map kv2) k).getD .non) H2
def tXUpd (w : World) (td ty : TE) : TE := fun σ H Q => td σ H fun x H1 => ∃ d xs, x = .ref d ∧ KDr w H1 d xs ∧ ty σ H1 fun y H2 => ∃ b es, y = .ref b ∧ d ≠ b ∧ KDx w H2 d xs ∧ KDr w H2 b es ∧ (xs ≠ [] ∨ (es.map fun e => e.1.hash w).Nodup) ∧ xs.length + es.length ≤ sizeLine ∧
  ∀ H3, But d H2 H3 → KDx w H3 d (putAllX xs es) → Q .non H3
section
variable {X : Cx} {o e : Expr} {apos cpos : Pos} {td ty : TE}
theorem pe_xupd (hu : X.A.units + 64 < cLine) (ho : PE X o td) (he : PE X e ty) (m : M1 X o "update" apos e cpos) : PE X (.Call (.Attribute o "update" apos) [e] [] cpos) (tXUpd X.w td ty) := by
  refine ⟨fun pins s σ H Q I h => ?_⟩
  refine wpAny_Call_method m.base m.few m.line PySem.F.plainAttrs_dict PySem.F.slot_dict_update PySem.F.type_dict_update (thn (ho.run pins s σ H _ I h) fun u s1 ⟨x, H1, I1, rx, d, xs, ex, D, q1⟩ => ?_)
  subst ex
  obtain rfl : u = Value.ref d := rx
  obtain ⟨ob, _, _, hob, exd, _⟩ := kdr_raw I1.hok D
  refine ⟨⟨ob, hob, exd.1⟩, fun b e => by cases e; exact ⟨ob, hob, exd.2.1⟩, ?_⟩
  rw [m.trees]
  refine Calls.callWith_builtin rfl (Calls.evalArgs_plain (Calls.spliced_cons (thn (he.run pins s1 σ H1 _ I1 q1) fun iv s2 ⟨y, H2, I2, ry, b, es, ey, db, D2, E2, hap, hz, q2⟩ => Calls.spliced_nil ?_)))
  subst ey
  obtain rfl : iv = Value.ref b := ry
  obtain ⟨ys, r, dd⟩ := kdr_of I2.hok D2.r
  obtain ⟨zs, r', dd'⟩ := kdr_of I2.hok E2
  have l1 := Paired.length r
  have l2 := Paired.length r'
  refine call_update_dictH (knd := nestedKind X.prog X.w) (nk_room hu) db E2.sm dd dd' ?_ (by omega) fun h' d1 _ hsb => ?_
  · rcases hap with h | h
    · exact .inl fun z => h (by rw [z] at l1; exact List.length_eq_zero_iff.mp l1)
    · refine .inr ⟨fun x hx => ?_, ?_⟩
      · obtain ⟨e, he, _, e2, _⟩ := NR.mem r' hx
        have n := (E2.ks e he).1
        rw [e2] at n
        generalize e.1 = ke at n
        cases n with
        | tup h _ =>
          obtain ⟨_, _, ⟨ot, h1, h2, _⟩, _⟩ := I2.tuple (show SqT X.K H2 x.2.1 _ from .inl h)
          exact ⟨ot, h1, h2⟩
      · have : (zs.map fun x => NestedKey.hash X.w x.1) = es.map fun e => e.1.hash X.w := by
          have hk := NR.keys r'
          have := congrArg (List.map (NestedKey.hash X.w)) hk
          rw [List.map_map, List.map_map] at this
          exact this.symm
        show (zs.map fun x => NestedKey.hash X.w x.1).Nodup
        rw [this]
        exact h
  · have r2 := NR.putAll r' r
    have nd : ((putAllX xs es).map (·.1)).Nodup := by
      obtain ⟨_, _, _, _, _, _, _, _, z⟩ := id d1
      rw [NR.keys r2]
      exact z
    have I3 := I2.write (t' := s2.toks) (x := d) (e := d) (o := dkO X.w d (putAllX xs es)) (by rw [D2.ob]; exact True.intro) (.inl rfl) (fun c q hc z => (hsb.2 c hc).trans z) (by
      obtain ⟨q, _, _, hq, _⟩ := id d1
      exact ⟨q, hq⟩) (dkO_ok r2 d1)
    refine ⟨.non, _, I3, rfl, q2 _ (fun c o nc e => (upd_ne nc).trans e) ⟨upd_same, D2.sm, fun x hx => ?_, nd, Nat.le_trans (putAllX_len es xs) hz⟩⟩
    have st : ∀ a zs, TuH H2 a zs → TuH (upd H2 d (dkO X.w d (putAllX xs es))) a zs := fun a zs e => by
      have ne := D2.tu e
      rcases e with e | ⟨o, e⟩
      · exact .inl ((upd_ne ne).trans e)
      · exact .inr ⟨o, (upd_ne ne).trans e⟩
    rcases putAllX_mem hx with ⟨y, hy, e1, e2⟩ | ⟨y, hy, e1, e2⟩
    · rw [e1, e2]
      exact ⟨(D2.ks y hy).1.keeps st, (D2.ks y hy).2⟩
    · rw [e1, e2]
      exact ⟨(E2.ks y hy).1.keeps st, (E2.ks y hy).2⟩
end
/-! ### the same inside a comprehension (the program's world named from outside) -/
theorem pe_xgetV {X : Cx} {w : World} {o i : Expr} {pos : Pos} {td ty : TE} (e : X.w = w) (hu : X.A.units + 64 < cLine) (ho : PE X o td) (hi : PE X i ty) (hs : NoSl i) : PE X (.Subscript o i pos) (tXGet w td ty) := by
  subst e
  exact pe_xget hu ho hi hs
theorem op_xInV {X : Cx} {w : World} (e : X.w = w) (hu : X.A.units + 64 < cLine) : OpR X (compareOp .In) (rXIn w) := by
  subst e
  exact op_xIn hu
theorem op_xNotInV {X : Cx} {w : World} (e : X.w = w) (hu : X.A.units + 64 < cLine) : OpR X (compareOp .NotIn) (rXNotIn w) := by
  subst e
  exact op_xNotIn hu
end Ph

namespace Ph
open PySem PySem.Spec PyProof.Rows L2
/-! ### keepers: the smallest block of each chunk, then the lowest one -/
def btr (b c : Bk) : Prop := b.2 < c.2 ∨ (b.2 = c.2 ∧ b.1 ≤ c.1)
instance (b c : Bk) : Decidable (btr b c) := inferInstanceAs (Decidable (_ ∨ _))
def best (s : Int) (bs : List Bk) (b : Bk) : Prop := ∀ c ∈ bs, c.1 / s = b.1 / s → btr b c
instance (s : Int) (bs : List Bk) (b : Bk) : Decidable (best s bs b) := inferInstanceAs (Decidable (∀ c ∈ bs, _))
def kp (s : Int) (bs : List Bk) : List Bk := bs.filter fun b => decide (best s bs b)
abbrev Asc (bs : List Bk) : Prop := bs.Pairwise fun b c => b.1 < c.1
/-- one step of the program's dict -/
def stp (s : Int) (E : List Bk) (b : Bk) : List Bk := match E.getLast? with
  | none => [b]
  | some m => if m.1 / s = b.1 / s then (if b.2 < m.2 then E.dropLast ++ [b] else E) else E ++ [b]
structure Chn (C : List Int) : Prop where
  pos : ∀ c ∈ C, 1 ≤ c
  dvd : ∀ c ∈ C, ∀ d ∈ C, c ≤ d → d % c = 0
theorem St.ascL {C : List Int} {W : Int} {bs : List Bk} (h : St C W bs) : Asc bs := h.asc.imp_of_mem fun {b c} hb hc z => by
  obtain ⟨_, h1, _⟩ := h.ok b hb
  omega
theorem pair_or {α : Type} {R : α → α → Prop} : ∀ {l : List α}, l.Pairwise R → ∀ b ∈ l, ∀ c ∈ l, b = c ∨ R b c ∨ R c b
  | [], _, b, hb, _, _ => by cases hb
  | x :: r, h, b, hb, c, hc => by
    obtain ⟨h1, h2⟩ := List.pairwise_cons.mp h
    rcases List.mem_cons.mp hb with e | e <;> rcases List.mem_cons.mp hc with e2 | e2
    · exact .inl (e.trans e2.symm)
    · rw [e]; exact .inr (.inl (h1 c e2))
    · rw [e2]; exact .inr (.inr (h1 b e))
    · exact pair_or h2 b e c e2
/-- the starts of the chunks that are not empty -/
def chk0 (s : Int) (bs : List Bk) (k : Int) : Prop := ∃ b ∈ bs, ∃ w, b.1 ≤ w ∧ w < b.1 + b.2 ∧ k = w / s * s
end Ph

namespace Ph
open PySem PySem.Spec PyProof.Rows L2
/-! ### the request program: its phases in numbers -/
def totB (bs : List Bk) : Int := (bs.map fun b => b.2).sum
/-- the blocks that a phase frees -/
def nkB (z : Int) (bs : List Bk) : List Bk := bs.filter fun b => !decide (b ∈ kp z bs)
/-- n chunks of t words with a block of at most x words -/
def Wt (bs : List Bk) (x t : Int) (n : Nat) : Prop := ∃ L : List Int, L.Nodup ∧ n ≤ L.length ∧ ∀ q ∈ L, ∃ b ∈ bs, b.2 ≤ x ∧ b.1 / t = q
/-- the request program in phase i, its live blocks bs -/
structure PI (s : Nat → Nat) (p M : Nat) (W : Int) (B : Nat → Nat) (i : Nat) (bs : List Bk) : Prop where
  st : St (tl s (i + 1)) W bs
  le : totB bs ≤ M
  wt : ∀ j, j < i → ∀ k, i ≤ k → k ≤ p → Wt bs ((s j : Nat) : Int) ((s k : Nat) : Int) (cdw (B j) (s k))
def OneB (z : Int) (bs : List Bk) : Prop := ∀ b ∈ bs, ∀ c ∈ bs, b.1 / z = c.1 / z → b = c
theorem Asc.addr {bs : List Bk} (h : Asc bs) {b c : Bk} (hb : b ∈ bs) (hc : c ∈ bs) (e : b.1 = c.1) : b = c := by
  rcases pair_or h b hb c hc with z | z | z
  · exact z
  · exact absurd z (by have : b.1 < c.1 := z; omega)
  · exact absurd z (by have : c.1 < b.1 := z; omega)
theorem totB_cons (b : Bk) (bs : List Bk) : totB (b :: bs) = b.2 + totB bs := by
  unfold totB
  rw [List.map_cons, List.sum_cons]
theorem totB_perm {bs cs : List Bk} (h : bs.Perm cs) : totB bs = totB cs := by
  induction h with
  | nil => rfl
  | cons b _ ih => rw [totB_cons, totB_cons, ih]
  | swap a b l => rw [totB_cons, totB_cons, totB_cons, totB_cons]; omega
  | trans _ _ h1 h2 => exact h1.trans h2
theorem totB_snoc (bs : List Bk) (b : Bk) : totB (bs ++ [b]) = totB bs + b.2 := by
  unfold totB
  rw [List.map_append, List.sum_append]
  simp
theorem totB_out : ∀ {bs : List Bk} {b : Bk}, Asc bs → b ∈ bs → totB (bs.filter fun c => decide (c.1 ≠ b.1)) + b.2 = totB bs
  | [], _, _, h => by cases h
  | a :: l, b, asc, h => by
    obtain ⟨h1, h2⟩ := List.pairwise_cons.mp asc
    rcases List.mem_cons.mp h with z | z
    · subst z
      have e : (b :: l).filter (fun c => decide (c.1 ≠ b.1)) = l := by
        rw [List.filter_cons_of_neg (by simp)]
        exact List.filter_eq_self.mpr fun c hc => decide_eq_true (by have := h1 c hc; omega)
      rw [e, totB_cons]
      omega
    · have := h1 b z
      rw [List.filter_cons_of_pos (by simp; omega), totB_cons, totB_cons]
      have := totB_out h2 z
      omega
section
variable {s B : Nat → Nat} {p M i : Nat} {W : Int} {bs : List Bk} (c : CH s (p + 1)) (hi : i ≤ p)
include c hi
end
end Ph

/-! PhPg: the request program against any set of states that the requester cannot leave -/
namespace Ph
open PySem PySem.Spec PyProof.Rows L2
/-- every free stays within, and every get that the limit allows has an answer that stays within -/
structure Stays (s : Nat → Nat) (p M : Nat) (W : Int) (F : List Bk → Prop) : Prop where
  free : ∀ bs, F bs → ∀ b ∈ bs, F (bs.filter fun c => decide (c.1 ≠ b.1))
  get : ∀ bs, F bs → ∀ j, j ≤ p → totB bs + ((s j : Nat) : Int) ≤ M → ∃ a cs, 0 ≤ a ∧ a % ((s j : Nat) : Int) = 0 ∧ a + ((s j : Nat) : Int) ≤ W ∧ (∀ b ∈ bs, b.1 + b.2 ≤ a ∨ a + ((s j : Nat) : Int) ≤ b.1) ∧
    cs.Perm (bs ++ [(a, ((s j : Nat) : Int))]) ∧ (cs.Pairwise fun x y => SrtO.lexB y x = false) ∧ F cs
section
variable {s B : Nat → Nat} {p M : Nat} {W : Int} {F : List Bk → Prop}
end
end Ph

/-! PhGm: games: which states are lost, within how many moves; how many answers are left -/
namespace Ph
open PySem PySem.Spec PyProof.Rows L2
/-! ### a block put, a block taken away -/
def ins (b : Bk) : List Bk → List Bk
  | [] => [b]
  | c :: r => if SrtO.lexB c b then c :: ins b r else b :: c :: r
/-- the state with one more block -/
def wb (bs : List Bk) (a z : Int) : List Bk := ins (a, z) bs
/-- the state without the block at a -/
def ct (bs : List Bk) (a : Int) : List Bk := bs.filter fun c => decide (c.1 ≠ a)
theorem ins_perm (b : Bk) : ∀ l : List Bk, (ins b l).Perm (l ++ [b])
  | [] => .refl _
  | c :: r => by
    unfold ins
    split
    · exact (ins_perm b r).cons c
    · exact (List.perm_append_comm (l₁ := [b]) (l₂ := c :: r))
abbrev Srt (l : List Bk) : Prop := l.Pairwise fun x y => SrtO.lexB y x = false
theorem ins_srt {b : Bk} : ∀ {l : List Bk}, Srt l → Srt (ins b l)
  | [], _ => List.pairwise_singleton _ _
  | c :: r, h => by
    obtain ⟨h1, h2⟩ := List.pairwise_cons.mp h
    unfold ins
    split
    · rename_i lt
      refine List.pairwise_cons.mpr ⟨fun x hx => ?_, ins_srt h2⟩
      rcases List.mem_append.mp ((ins_perm b r).mem_iff.mp hx) with z | z
      · exact h1 x z
      · rw [List.mem_singleton.mp z]
        have := SrtO.lexB_iff.mp lt
        exact SrtO.lexB_no.mpr (by omega)
    · rename_i nl
      have nl : SrtO.lexB c b = false := by simpa using nl
      refine List.pairwise_cons.mpr ⟨fun x hx => ?_, h⟩
      rcases List.mem_cons.mp hx with z | z
      · rw [z]; exact nl
      · have e1 := SrtO.lexB_no.mp nl
        have e2 := SrtO.lexB_no.mp (h1 x z)
        exact SrtO.lexB_no.mpr (by omega)
theorem St.srt {C : List Int} {W : Int} {bs : List Bk} (st : St C W bs) : Srt bs := st.asc.imp_of_mem fun {b c} hb hc h => by
  have := (st.ok b hb).2.1
  exact SrtO.lexB_no.mpr (by omega)
theorem wb_of {C : List Int} {W : Int} {bs cs : List Bk} {a z : Int} (st : St C W bs) (pm : cs.Perm (bs ++ [(a, z)])) (so : Srt cs) : cs = wb bs a z :=
  perm_lex (pm.trans (ins_perm (a, z) bs).symm) so (ins_srt st.srt)
/-- a is a place for a size -/
def Plc (W : Int) (bs : List Bk) (z a : Int) : Prop := 0 ≤ a ∧ a % z = 0 ∧ a + z ≤ W ∧ ∀ b ∈ bs, b.1 + b.2 ≤ a ∨ a + z ≤ b.1
/-- all places for a size, ascending -/
def plcs (W : Int) (bs : List Bk) (z : Int) : List Int := plf z 0 (bs ++ [(W, 0)])
theorem mem_plcs {C : List Int} {W z a : Int} {bs : List Bk} (hz : 0 < z) (hW : 0 ≤ W) (st : St C W bs) : a ∈ plcs W bs z ↔ Plc W bs z a := by
  have := plf_mem (s := z) (W := W) hz bs 0 (fun b hb => st.bnd b hb) st.asc hW a
  unfold plcs Plc
  rw [this]
  constructor
  · rintro ⟨h1, h2, h3, h4⟩
    exact ⟨h2, h1, h3, fun b hb => (h4 b hb).symm⟩
  · rintro ⟨h1, h2, h3, h4⟩
    exact ⟨h2, h1, h3, fun b hb => (h4 b hb).symm⟩
theorem plcs_nodup {C : List Int} {W z : Int} {bs : List Bk} (hz : 0 < z) (hW : 0 ≤ W) (st : St C W bs) : (plcs W bs z).Nodup :=
  (plf_inc (s := z) (W := W) hz bs 0 (fun b hb => st.bnd b hb) st.asc hW).imp fun h => Int.ne_of_lt h
theorem plcs_len {C : List Int} {W z : Int} {bs : List Bk} (hz : 0 < z) (hW : 0 ≤ W) (st : St C W bs) : (plcs W bs z).length ≤ W.toNat := by
  have := plf_len hz (bs ++ [(W, 0)]) 0 W (fun b hb => by
    rcases List.mem_append.mp hb with h | h
    · obtain ⟨_, h2, h3, _, h5⟩ := st.ok b h
      omega
    · rw [List.mem_singleton.mp h]
      exact ⟨hW, Int.le_refl _, by show W + 0 ≤ W; omega⟩) (List.pairwise_append.mpr ⟨st.asc, List.pairwise_singleton _ _, fun b hb c hc => by
    rw [List.mem_singleton.mp hc]
    exact (st.ok b hb).2.2.2.2⟩) hW
  unfold plcs
  omega
/-- a state within the limit -/
structure Gst (s : Nat → Nat) (p M : Nat) (W : Int) (bs : List Bk) : Prop where
  st : St (tl s (p + 1)) W bs
  lim : totB bs ≤ M
section
variable {s : Nat → Nat} {p M : Nat} {W : Int} {bs cs : List Bk} {a z : Int} {j : Nat}
theorem totB_wb : totB (wb bs a z) = totB bs + z := by
  show totB (ins (a, z) bs) = _
  rw [totB_perm (ins_perm (a, z) bs), totB_snoc]
theorem mem_wb {b : Bk} : b ∈ wb bs a z ↔ b ∈ bs ∨ b = (a, z) := by
  unfold wb
  rw [(ins_perm (a, z) bs).mem_iff, List.mem_append, List.mem_singleton]
theorem Gst.put (c : CH s (p + 1)) (g : Gst s p M W bs) (hj : j ≤ p) (l : totB bs + ((s j : Nat) : Int) ≤ M) (h : Plc W bs ((s j : Nat) : Int) a) : Gst s p M W (wb bs a ((s j : Nat) : Int)) := by
  have zp := c.pos (i := j) (by omega)
  refine ⟨sorted_st (bs := bs ++ [(a, ((s j : Nat) : Int))]) (fun b hb => ?_) ?_ (ins_perm _ _) (ins_srt g.st.srt), by rw [totB_wb]; exact l⟩
  · rcases List.mem_append.mp hb with h' | h'
    · exact g.st.ok b h'
    · rw [List.mem_singleton.mp h']
      exact ⟨tl_mem.mpr ⟨j, by omega, rfl⟩, by dsimp only; omega, h.1, h.2.1, h.2.2.1⟩
  · refine List.pairwise_append.mpr ⟨g.st.asc.imp fun h => .inl h, List.pairwise_singleton _ _, fun b hb d hd => ?_⟩
    rw [List.mem_singleton.mp hd]
    exact h.2.2.2 b hb
theorem totB_filter {C : List Int} (q : Bk → Bool) (st : St C W bs) : totB (bs.filter q) ≤ totB bs := sum_filter q st
theorem Gst.cut (g : Gst s p M W bs) : Gst s p M W (ct bs a) := ⟨g.st.filter _, Int.le_trans (totB_filter _ g.st) g.lim⟩
theorem Gst.nil : Gst s p M W [] := ⟨⟨(fun _ h => nomatch h), .nil⟩, by show (0 : Int) ≤ M; omega⟩
/-- no block of the state begins at a place -/
theorem Plc.ne {C : List Int} (st : St C W bs) (hz : 0 < z) (h : Plc W bs z a) : ∀ b ∈ bs, b.1 ≠ a := fun b hb e => by
  have := h.2.2.2 b hb
  have := (st.ok b hb).2.1
  omega
theorem ct_wb {C : List Int} (st : St C W bs) (hz : 0 < z) (h : Plc W bs z a) : ct (wb bs a z) a = bs := by
  have ne := h.ne st hz
  refine perm_lex (l := ct (wb bs a z) a) ?_ ((ins_srt st.srt).sublist List.filter_sublist) st.srt
  unfold ct
  refine ((ins_perm (a, z) bs).filter _).trans ?_
  rw [List.filter_append, List.filter_eq_self.mpr fun b hb => decide_eq_true (ne b hb), List.filter_cons_of_neg (by simp), List.filter_nil, List.append_nil]
theorem wb_ct {C : List Int} {b : Bk} (st : St C W bs) (hb : b ∈ bs) : wb (ct bs b.1) b.1 b.2 = bs := by
  have asc := st.ascL
  refine (wb_of (bs := ct bs b.1) (st.filter _) ?_ st.srt).symm
  have key : ∀ l : List Bk, Asc l → b ∈ l → l.Perm (ct l b.1 ++ [b]) := fun l => by
    induction l with
    | nil => intro _ h; cases h
    | cons d r ih =>
      intro asc h
      obtain ⟨h1, h2⟩ := List.pairwise_cons.mp asc
      rcases List.mem_cons.mp h with e | e
      · subst e
        have : ct (b :: r) b.1 = r := by
          unfold ct
          rw [List.filter_cons_of_neg (by simp)]
          exact List.filter_eq_self.mpr fun c hc => decide_eq_true (by have := h1 c hc; omega)
        rw [this]
        exact List.perm_append_comm (l₁ := [b]) (l₂ := r)
      · have := h1 b e
        have e2 : ct (d :: r) b.1 = d :: ct r b.1 := by
          unfold ct
          rw [List.filter_cons_of_pos (by simp; omega)]
        rw [e2]
        exact (ih h2 e).cons d
  exact key bs asc hb
theorem ct_plc {C : List Int} {b : Bk} (st : St C W bs) (hb : b ∈ bs) : Plc W (ct bs b.1) b.2 b.1 := by
  obtain ⟨_, h2, h3, h4, h5⟩ := st.ok b hb
  refine ⟨h3, h4, h5, fun c hc => ?_⟩
  obtain ⟨hc, ne⟩ := List.mem_filter.mp hc
  have ne := of_decide_eq_true ne
  have : b = c ∨ b.1 + b.2 ≤ c.1 ∨ c.1 + c.2 ≤ b.1 := pair_or (R := fun b c => b.1 + b.2 ≤ c.1) st.asc b hb c hc
  rcases this with e | e | e
  · rw [e] at ne; exact absurd rfl ne
  · exact .inr e
  · exact .inl e
theorem totB_ct {C : List Int} {b : Bk} (st : St C W bs) (hb : b ∈ bs) : totB (ct bs b.1) + b.2 = totB bs := totB_out st.ascL hb
/-! ### lost states -/
/-- the requester makes every allocator fail within so many moves -/
def Lst (s : Nat → Nat) (p M : Nat) (W : Int) : Nat → List Bk → Prop
  | 0, _ => False
  | n + 1, bs => (∃ j, j ≤ p ∧ totB bs + ((s j : Nat) : Int) ≤ M ∧ ∀ a, Plc W bs ((s j : Nat) : Int) a → Lst s p M W n (wb bs a ((s j : Nat) : Int))) ∨ ∃ b ∈ bs, Lst s p M W n (ct bs b.1)
theorem Lst.up : ∀ {n : Nat} {bs : List Bk}, Lst s p M W n bs → Lst s p M W (n + 1) bs
  | 0, _, h => h.elim
  | n + 1, bs, h => by
    rcases h with ⟨j, hj, l, h⟩ | ⟨b, hb, h⟩
    · exact .inl ⟨j, hj, l, fun a ha => (h a ha).up⟩
    · exact .inr ⟨b, hb, h.up⟩
theorem Lst.mono {n m : Nat} (h : Lst s p M W n bs) (le : n ≤ m) : Lst s p M W m bs := by
  induction le with
  | refl => exact h
  | step _ ih => exact ih.up
/-- nothing new in one round, nothing new for ever -/
theorem Lst.stop (c : CH s (p + 1)) {m : Nat} (h : ∀ bs, Gst s p M W bs → Lst s p M W (m + 1) bs → Lst s p M W m bs) : ∀ {n : Nat} {bs : List Bk}, m ≤ n → Gst s p M W bs → Lst s p M W n bs → Lst s p M W m bs := by
  intro n
  induction n with
  | zero =>
    intro bs le _ l
    exact l.elim
  | succ n ih =>
    intro bs le g l
    rcases Nat.lt_or_ge n m with z | z
    · have : m = n + 1 := by omega
      rw [this]; exact l
    · refine h bs g ?_
      rcases l with ⟨j, hj, lim, l⟩ | ⟨b, hb, l⟩
      · exact .inl ⟨j, hj, lim, fun a ha => ih z (g.put c hj lim ha) (l a ha)⟩
      · exact .inr ⟨b, hb, ih z g.cut l⟩
/-- the states whose outlook ends within the heap -/
def Out (s : Nat → Nat) (p M : Nat) (W : Int) (bs : List Bk) : Prop := Gst s p M W bs ∧ ∀ ρ, Rho s p bs ρ → ((bfn s ρ M p : Nat) : Int) ≤ W
/-! ### how many answers are left -/
/-- how many answers to a get lead to none of the states ps -/
def cnt (W : Int) (ps : List (List Bk)) (bs : List Bk) (z : Int) : Nat := ((plcs W bs z).filter fun a => decide (wb bs a z ∉ ps)).length
theorem cnt_zero {C : List Int} {ps : List (List Bk)} (hz : 0 < z) (hW : 0 ≤ W) (st : St C W bs) : cnt W ps bs z = 0 ↔ ∀ a, Plc W bs z a → wb bs a z ∈ ps := by
  unfold cnt
  rw [List.length_eq_zero_iff, List.filter_eq_nil_iff]
  constructor
  · intro h a ha
    have := h a ((mem_plcs hz hW st).mpr ha)
    exact Classical.byContradiction fun n => this (decide_eq_true n)
  · intro h a ha
    simpa using h a ((mem_plcs hz hW st).mp ha)
theorem cnt_nil : cnt W [] bs z = (plcs W bs z).length := by
  unfold cnt
  rw [List.filter_eq_self.mpr fun a _ => by simp]
theorem filter_one {α : Type} [DecidableEq α] {x : α} {f g : α → Bool} : ∀ {l : List α}, l.Nodup → x ∈ l → f x = true → g x = false → (∀ y ∈ l, y ≠ x → f y = g y) → (l.filter g).length + 1 = (l.filter f).length
  | [], _, h, _, _, _ => by cases h
  | y :: r, nd, h, fx, gx, e => by
    obtain ⟨n1, n2⟩ := List.nodup_cons.mp nd
    rcases List.mem_cons.mp h with q | q
    · subst q
      have : r.filter f = r.filter g := List.filter_congr fun z hz => e z (List.mem_cons_of_mem _ hz) fun w => n1 (by rw [← w]; exact hz)
      rw [List.filter_cons_of_pos fx, List.filter_cons_of_neg (by rw [gx]; decide), this, List.length_cons]
    · have ne : y ≠ x := fun w => n1 (by rw [w]; exact q)
      have ih := filter_one n2 q fx gx fun z hz => e z (List.mem_cons_of_mem _ hz)
      have ey := e y List.mem_cons_self ne
      by_cases fy : f y = true
      · rw [List.filter_cons_of_pos fy, List.filter_cons_of_pos (by rw [← ey]; exact fy), List.length_cons, List.length_cons, ih]
      · rw [List.filter_cons_of_neg fy, List.filter_cons_of_neg (by rw [← ey]; exact fy)]
        exact ih
/-- one more state looked at: one answer less for the gets that lead to it -/
theorem cnt_hit {C : List Int} {ps : List (List Bk)} {b : Bk} (hW : 0 ≤ W) (st : St C W cs) (hb : b ∈ cs) (n : cs ∉ ps) : cnt W (ps ++ [cs]) (ct cs b.1) b.2 + 1 = cnt W ps (ct cs b.1) b.2 := by
  have stc : St C W (ct cs b.1) := st.filter _
  have b1 := (st.ok b hb).2.1
  have back := wb_ct st hb
  refine filter_one (x := b.1) (plcs_nodup (by omega) hW stc) ((mem_plcs (by omega) hW stc).mpr (ct_plc st hb)) (decide_eq_true (by rw [back]; exact n)) (decide_eq_false (by rw [back]; simp)) fun y hy ne => ?_
  have hy := (mem_plcs (by omega) hW stc).mp hy
  refine decide_eq_decide.mpr ?_
  rw [List.mem_append, List.mem_singleton]
  constructor
  · rintro h (q | q)
    · exact h q
    · have h1 : (y, b.2) ∈ cs := by rw [← q]; exact mem_wb.mpr (.inr rfl)
      have h2 := ct_wb stc (by omega) hy
      rw [q] at h2
      have h3 : b ∈ ct cs y := List.mem_filter.mpr ⟨hb, decide_eq_true (Ne.symm ne)⟩
      rw [h2] at h3
      exact absurd rfl (of_decide_eq_true (List.mem_filter.mp h3).2)
  · exact fun h q => h (.inl q)
/-- the others have as many as before -/
theorem cnt_miss {C : List Int} {ps : List (List Bk)} (hz : 0 < z) (hW : 0 ≤ W) (stb : St C W bs) (st : St C W cs) (n : ∀ b ∈ cs, (ct cs b.1, b.2) ≠ (bs, z)) : cnt W (ps ++ [cs]) bs z = cnt W ps bs z := by
  unfold cnt
  congr 1
  refine List.filter_congr fun a ha => decide_eq_decide.mpr ?_
  have ha := (mem_plcs hz hW stb).mp ha
  rw [List.mem_append, List.mem_singleton]
  constructor
  · exact fun h q => h (.inl q)
  · rintro h (q | q)
    · exact h q
    · refine n (a, z) (by rw [← q]; exact mem_wb.mpr (.inr rfl)) ?_
      rw [← q]
      show (ct (wb bs a z) a, z) = (bs, z)
      rw [ct_wb stb hz ha]
end
end Ph

/-! PhGn: how many states there are: the numbers that the program counts; the states from a word on -/
namespace Ph
open PySem PySem.Spec PyProof.Rows L2
/-- the states of one page -/
def cst (s : Nat → Nat) : Nat → Nat
  | 0 => 2
  | i + 1 => cst s i ^ (s (i + 1) / s i) + 1
/-- a small heap: so few states that the program goes through all of them -/
structure Sml (s : Nat → Nat) (p n : Nat) : Prop where
  w : n * s p ≤ 12
  k : ∀ i, i ≤ p → cst s i ≤ 20000
  c : cst s p ^ n ≤ 20000
  q : p ≤ 5
  z : s p ≤ 12
  n : n ≤ 12
theorem mulB_ok {b i n : Nat} (h : b ≤ 20000) (hi : i ≤ n) (hn : n ≤ 1000) : CMulW ((b ^ i : Nat) : Int) (b : Nat) := by
  have hb : b < 2 ^ 15 := Nat.lt_of_le_of_lt h (by decide)
  refine wide_mul (a := 15 * i + 1) (b := 15) ?_ ?_ (by omega) (by omega) (by omega)
  · rw [Int.natAbs_natCast]
    have h1 : b ^ i ≤ (2 ^ 15) ^ i := Nat.pow_le_pow_left (Nat.le_of_lt hb) i
    rw [← Nat.pow_mul] at h1
    exact Nat.lt_of_le_of_lt h1 (Nat.pow_lt_pow_right (by decide) (Nat.lt_succ_self _))
  · rw [Int.natAbs_natCast]
    exact hb
/-! ### the states whose blocks begin at a or later -/
def From (C : List Int) (W a : Int) (bs : List Bk) : Prop := St C W bs ∧ ∀ b ∈ bs, a ≤ b.1
theorem from_end {C : List Int} {W : Int} {bs : List Bk} : From C W W bs ↔ bs = [] := by
  constructor
  · rintro ⟨st, h⟩
    cases bs with
    | nil => rfl
    | cons b r =>
      have := h b List.mem_cons_self
      obtain ⟨_, h2, _, _, h5⟩ := st.ok b List.mem_cons_self
      omega
  · rintro rfl
    exact ⟨⟨(fun _ h => nomatch h), .nil⟩, fun _ h => nomatch h⟩
theorem from_step {C : List Int} {W a : Int} {bs : List Bk} (h0 : 0 ≤ a) : From C W a bs ↔ From C W (a + 1) bs ∨ ∃ z r, z ∈ C ∧ 1 ≤ z ∧ a % z = 0 ∧ a + z ≤ W ∧ From C W (a + z) r ∧ bs = (a, z) :: r := by
  constructor
  · rintro ⟨st, h⟩
    cases bs with
    | nil => exact .inl ⟨st, fun _ h => nomatch h⟩
    | cons b r =>
      have hb := h b List.mem_cons_self
      obtain ⟨h1, h2, h3, h4, h5⟩ := st.ok b List.mem_cons_self
      obtain ⟨p1, p2⟩ := List.pairwise_cons.mp st.asc
      rcases Int.lt_or_le a b.1 with lt | ge
      · refine .inl ⟨st, fun c hc => ?_⟩
        rcases List.mem_cons.mp hc with e | e
        · rw [e]; omega
        · have := p1 c e
          omega
      · have e : b.1 = a := by omega
        refine .inr ⟨b.2, r, h1, h2, by rw [← e]; exact h4, by omega, ⟨⟨fun c hc => st.ok c (List.mem_cons_of_mem _ hc), p2⟩, fun c hc => by have := p1 c hc; omega⟩, by rw [← e]⟩
  · rintro (⟨st, h⟩ | ⟨z, r, h1, h2, h3, h4, ⟨st, h⟩, rfl⟩)
    · exact ⟨st, fun b hb => by have := h b hb; omega⟩
    · refine ⟨⟨fun b hb => ?_, List.pairwise_cons.mpr ⟨fun c hc => by have := h c hc; exact this, st.asc⟩⟩, fun b hb => ?_⟩
      · rcases List.mem_cons.mp hb with e | e
        · rw [e]; exact ⟨h1, h2, h0, h3, h4⟩
        · exact st.ok b e
      · rcases List.mem_cons.mp hb with e | e
        · rw [e]; exact Int.le_refl _
        · have := h b e
          omega
/-- how long the list may get on the way -/
def bsm (n : Nat) : Nat → Nat
  | 0 => 3 ^ (n - 1)
  | i + 1 => bsm n i + (if i < n then 3 ^ (n - 1 - i) else 0)
theorem bsm_le {n : Nat} (hn : 1 ≤ n) : ∀ i, bsm n i ≤ 3 ^ n := by
  have key : ∀ i, i ≤ n → 2 * bsm n i + 3 ^ (n - i) ≤ 2 * 3 ^ (n - 1) + 3 ^ n := fun i => by
    induction i with
    | zero => intro _; show 2 * 3 ^ (n - 1) + 3 ^ (n - 0) ≤ _; rw [Nat.sub_zero]; exact Nat.le_refl _
    | succ i ih =>
      intro hi
      have h1 := ih (by omega)
      have e : bsm n (i + 1) = bsm n i + 3 ^ (n - 1 - i) := by show bsm n i + (if i < n then _ else 0) = _; rw [if_pos (by omega)]
      have e2 : 3 ^ (n - i) = 3 * 3 ^ (n - 1 - i) := by rw [show n - i = (n - 1 - i) + 1 by omega, Nat.pow_succ, Nat.mul_comm]
      rw [e, show n - (i + 1) = n - 1 - i by omega]
      omega
  have e3 : 3 ^ n = 3 * 3 ^ (n - 1) := by rw [show n = (n - 1) + 1 by omega, Nat.pow_succ, Nat.mul_comm]; simp
  have top : ∀ i, i ≤ n → bsm n i ≤ 3 ^ n := fun i hi => by
    have := key i hi
    rw [e3] at this ⊢
    generalize 3 ^ (n - i) = e at *
    generalize 3 ^ (n - 1) = d at *
    omega
  intro i
  rcases Nat.le_total i n with h | h
  · exact top i h
  · have : ∀ d, bsm n (n + d) = bsm n n := fun d => by
      induction d with
      | zero => rfl
      | succ d ih =>
        show bsm n (n + d) + (if n + d < n then _ else 0) = _
        rw [if_neg (by omega), ih]
        rfl
    rw [show i = n + (i - n) by omega, this]
    exact top n (Nat.le_refl _)
theorem bsm_up {n i : Nat} : bsm n i ≤ bsm n (i + 1) := Nat.le_add_right _ _
theorem CH.ge {s : Nat → Nat} {p m : Nat} (cn : Cn s p m) : ∀ {i}, i ≤ p → i + 1 ≤ s i
  | 0, _ => by rw [cn.ch.s0]; exact Nat.le_refl _
  | i + 1, h => by
    obtain ⟨r, r2, _, e⟩ := cn.two i (by omega)
    have ih := CH.ge cn (i := i) (by omega)
    rw [e]
    have := Nat.mul_le_mul ih r2
    omega
theorem st_lenA {C : List Int} {W : Int} : ∀ (bs : List Bk) (a : Int), St C W bs → (∀ b ∈ bs, a ≤ b.1) → a ≤ W → a + (bs.length : Int) ≤ W
  | [], a, _, _, h => by show a + ((0 : Nat) : Int) ≤ W; omega
  | b :: r, a, st, h, _ => by
    obtain ⟨p1, p2⟩ := List.pairwise_cons.mp st.asc
    obtain ⟨_, h2, _, _, h5⟩ := st.ok b List.mem_cons_self
    have hb := h b List.mem_cons_self
    have := st_lenA r (b.1 + b.2) ⟨fun c hc => st.ok c (List.mem_cons_of_mem _ hc), p2⟩ p1 h5
    rw [List.length_cons]
    omega
theorem st_len {C : List Int} {W : Int} {bs : List Bk} (st : St C W bs) (hW : 0 ≤ W) : (bs.length : Int) ≤ W := by
  have := st_lenA bs 0 st (fun b hb => (st.ok b hb).2.2.1) hW
  omega
end Ph

/-! PhGo: the rounds in which the lost states are found -/
namespace Ph
open PySem PySem.Spec PyProof.Rows L2
/-- a request: the block at an address is freed, a size is asked for -/
inductive Rqt where
  | fr (a : Int)
  | gt (z : Int)
section
variable (s : Nat → Nat) (p M : Nat) (W : Int)
/-- the fewest moves -/
def Rnk (r : Nat) (bs : List Bk) : Prop := Lst s p M W r bs ∧ ∀ k, k < r → ¬ Lst s p M W k bs
/-- the request can be made, and leads to states that are lost in fewer moves -/
def Goes (r : Nat) (bs : List Bk) : Rqt → Prop
  | .fr a => ∃ b ∈ bs, b.1 = a ∧ ∃ k, k + 1 = r ∧ Lst s p M W k (ct bs a)
  | .gt z => ∃ j, j ≤ p ∧ z = ((s j : Nat) : Int) ∧ totB bs + ((s j : Nat) : Int) ≤ M ∧ ∃ k, k + 1 = r ∧ ∀ a, Plc W bs z a → Lst s p M W k (wb bs a z)
/-- a request from bs that may lead to cs, all whose answers lead to states of ps -/
def Into (ps : List (List Bk)) (cs bs : List Bk) : Rqt → Prop
  | .fr a => ∃ b ∈ bs, b.1 = a ∧ ct bs a = cs
  | .gt z => ∃ j, j ≤ p ∧ z = ((s j : Nat) : Int) ∧ totB bs + ((s j : Nat) : Int) ≤ M ∧ (∀ a, Plc W bs z a → wb bs a z ∈ ps) ∧ ∃ a, Plc W bs z a ∧ wb bs a z = cs
end
section
variable {s : Nat → Nat} {p M : Nat} {W : Int}
theorem Rnk.uniq {r t : Nat} {bs : List Bk} (h : Rnk s p M W r bs) (k : Rnk s p M W t bs) : r = t := by
  rcases Nat.lt_trichotomy r t with z | z | z
  · exact absurd h.1 (k.2 r z)
  · exact z
  · exact absurd k.1 (h.2 t z)
theorem Rnk.le {r n : Nat} {bs : List Bk} (h : Rnk s p M W r bs) (k : Lst s p M W n bs) : r ≤ n := by
  rcases Nat.lt_or_ge n r with z | z
  · exact absurd k (h.2 n z)
  · exact z
/-- at the first round: just where some get that the limit allows has no place -/
theorem lst_one {bs : List Bk} : Lst s p M W 1 bs ↔ ∃ j, j ≤ p ∧ totB bs + ((s j : Nat) : Int) ≤ M ∧ ∀ a, ¬ Plc W bs ((s j : Nat) : Int) a := by
  constructor
  · rintro (⟨j, hj, l, h⟩ | ⟨b, _, h⟩)
    · exact ⟨j, hj, l, fun a ha => h a ha⟩
    · exact h.elim
  · rintro ⟨j, hj, l, h⟩
    exact .inl ⟨j, hj, l, fun a ha => (h a ha).elim⟩
theorem rnk_one {bs : List Bk} (h : Lst s p M W 1 bs) : Rnk s p M W 1 bs := ⟨h, fun k hk l => by
  obtain rfl : k = 0 := by omega
  exact l⟩
/-- what leads into states lost within m moves is lost within one more -/
theorem Into.lst {m : Nat} {ps : List (List Bk)} {cs bs : List Bk} {q : Rqt} (h : Into s p M W ps cs bs q) (hp : ∀ x ∈ ps, Lst s p M W m x) (hc : Lst s p M W m cs) : Lst s p M W (m + 1) bs ∧ Goes s p M W (m + 1) bs q := by
  cases q with
  | fr a =>
    obtain ⟨b, hb, rfl, e⟩ := h
    exact ⟨.inr ⟨b, hb, by rw [e]; exact hc⟩, b, hb, rfl, m, rfl, by rw [e]; exact hc⟩
  | gt z =>
    obtain ⟨j, hj, rfl, l, h1, _⟩ := h
    exact ⟨.inl ⟨j, hj, l, fun a ha => hp _ (h1 a ha)⟩, j, hj, rfl, l, m, rfl, fun a ha => hp _ (h1 a ha)⟩
/-- all states of the next round lead into the newest ones, one after another -/
theorem into_all {m : Nat} (c : CH s (p + 1)) (hW : 0 ≤ W) {ps ns : List (List Bk)} (hm : 1 ≤ m) (hp : ∀ x, x ∈ ps ↔ Gst s p M W x ∧ Lst s p M W (m - 1) x) (hn : ∀ x, x ∈ ns ↔ Gst s p M W x ∧ Rnk s p M W m x) {bs : List Bk} (g : Gst s p M W bs) (l : Lst s p M W (m + 1) bs) (nl : ¬ Lst s p M W m bs) :
    ∃ i cs q, ns[i]? = some cs ∧ Into s p M W (ps ++ ns.take (i + 1)) cs bs q := by
  obtain ⟨k, rfl⟩ : ∃ k, m = k + 1 := ⟨m - 1, by omega⟩
  rw [Nat.add_sub_cancel] at hp
  have new : ∀ x, Gst s p M W x → Lst s p M W (k + 1) x → x ∉ ps → x ∈ ns := fun x gx lx nx => (hn x).mpr ⟨gx, lx, fun t ht lt => nx ((hp x).mpr ⟨gx, lt.mono (by omega)⟩)⟩
  rcases l with ⟨j, hj, lim, h⟩ | ⟨b, hb, h⟩
  · have zp := c.pos (i := j) (by omega)
    -- an answer that is new
    have ex : ∃ a, Plc W bs ((s j : Nat) : Int) a ∧ wb bs a ((s j : Nat) : Int) ∉ ps := Classical.byContradiction fun no => nl (.inl ⟨j, hj, lim, fun a ha => ((hp _).mp (Classical.byContradiction fun q => no ⟨a, ha, q⟩)).2⟩)
    -- how many of the newest must be looked at for all answers
    have key : ∀ n, (∀ a, Plc W bs ((s j : Nat) : Int) a → wb bs a ((s j : Nat) : Int) ∈ ps ++ ns.take n) → ∃ i cs, ns[i]? = some cs ∧ (∀ a, Plc W bs ((s j : Nat) : Int) a → wb bs a ((s j : Nat) : Int) ∈ ps ++ ns.take (i + 1)) ∧ ∃ a, Plc W bs ((s j : Nat) : Int) a ∧ wb bs a ((s j : Nat) : Int) = cs := fun n => by
      induction n with
      | zero =>
        intro h
        obtain ⟨a, ha, na⟩ := ex
        have := h a ha
        rw [List.take_zero, List.append_nil] at this
        exact absurd this na
      | succ n ih =>
        intro h
        rcases Classical.em (∀ a, Plc W bs ((s j : Nat) : Int) a → wb bs a ((s j : Nat) : Int) ∈ ps ++ ns.take n) with z | z
        · exact ih z
        · have : ∃ a, Plc W bs ((s j : Nat) : Int) a ∧ wb bs a ((s j : Nat) : Int) ∉ ps ++ ns.take n := Classical.byContradiction fun no => z fun a ha => Classical.byContradiction fun q => no ⟨a, ha, q⟩
          obtain ⟨a, ha, na⟩ := this
          have ina := h a ha
          rw [List.take_add_one, ← List.append_assoc] at ina
          rcases List.mem_append.mp ina with q | q
          · exact absurd q na
          · cases e : ns[n]? with
            | none => rw [e] at q; cases q
            | some cs =>
              rw [e] at q
              exact ⟨n, cs, e, h, a, ha, List.mem_singleton.mp q⟩
    obtain ⟨i, cs, e, h1, h2⟩ := key ns.length fun a ha => by
      rw [List.take_length]
      rcases Classical.em (wb bs a ((s j : Nat) : Int) ∈ ps) with z | z
      · exact List.mem_append_left _ z
      · exact List.mem_append_right _ (new _ (g.put c hj lim ha) (h a ha) z)
    exact ⟨i, cs, .gt ((s j : Nat) : Int), e, j, hj, rfl, lim, h1, h2⟩
  · have hn2 : ct bs b.1 ∈ ns := new _ g.cut h fun q => nl (.inr ⟨b, hb, ((hp _).mp q).2⟩)
    obtain ⟨i, hi, e⟩ := List.getElem_of_mem hn2
    exact ⟨i, ct bs b.1, .fr b.1, by rw [List.getElem?_eq_getElem hi, e], b, hb, rfl, rfl⟩
end
/-! ### keys of states with a size -/
theorem putK_old_len {κ : Type} [DecidableEq κ] {kvs : List (κ × V)} {k : κ} {v : V} (h : (valV kvs k).isSome = true) : (putK kvs k v).length = kvs.length := by
  unfold putK
  rw [valV_any, if_pos h, List.length_map]
end Ph

set_option maxHeartbeats 4000000
/-! PhGs: the settings of the games' laws: written chains with numbers; what has to be checked of them. -/
namespace Ph
open PySem PySem.Spec PyProof.Rows L2
def sqL (L : List Nat) (i : Nat) : Nat := L.getD i 0
def okSet (L : List Nat) (n : Nat) : Bool :=
  decide (1 ≤ L.length) && decide (sqL L 0 = 1) && (List.range (L.length - 1)).all (fun i => decide (2 ≤ sqL L (i + 1) / sqL L i ∧ sqL L (i + 1) / sqL L i ≤ 1000 ∧ sqL L (i + 1) = sqL L i * (sqL L (i + 1) / sqL L i))) &&
  decide (sqL L (L.length - 1) ≤ 12 ∧ L.length ≤ 6 ∧ n * sqL L (L.length - 1) ≤ 12 ∧ n ≤ 12) && (List.range L.length).all (fun i => decide (cst (sqL L) i ≤ 20000)) && decide (cst (sqL L) (L.length - 1) ^ n ≤ 20000)
theorem sqL_tl (L : List Nat) : L.map (fun i : Nat => (i : Int)) = tl (sqL L) L.length := by
  unfold tl
  refine List.ext_getElem (by simp) fun i h1 h2 => ?_
  rw [List.length_map] at h1
  rw [List.getElem_map, List.getElem_map, List.getElem_range]
  unfold sqL
  rw [List.getD_eq_getElem?_getD, List.getElem?_eq_getElem h1]
  rfl
def SetF (S : List (List Nat × List Nat)) (H : Hp) (x : V) : Prop := ∃ T c L zs, x = .ref T ∧ H T = some (.tup (.ref c :: zs.map fun z : Nat => V.int (z : Int))) ∧ ChAt H c (L.map fun i : Nat => (i : Int)) ∧ (L, zs) ∈ S
theorem SetF.kt {S : List (List Nat × List Nat)} {H H' : Hp} {x : V} (h : SetF S H x) (k : Kt H H') : SetF S H' x := by
  obtain ⟨T, c, L, z, e, hT, hc, d⟩ := h
  exact ⟨T, c, L, z, e, k.kpT _ _ hT, k.ch hc, d⟩
theorem setF_new {H : Hp} {a b : Addr} {o : Obj} {xs ys : List V} (n : H a = none) (od : o.dict = none) (m : upd H a (.frz o (.tup xs)) b = none) (S : List (List Nat × List Nat)) (L zs : List Nat) (d : (L, zs) ∈ S) (ex : xs = (L.map fun i : Nat => (i : Int)).map V.int) (ey : ys = .ref a :: zs.map fun z : Nat => V.int (z : Int)) :
    Same H (upd (upd H a (.frz o (.tup xs))) b (.tup ys)) ∧ SetF S (upd (upd H a (.frz o (.tup xs))) b (.tup ys)) (.ref b) := by
  subst ex
  subst ey
  exact ⟨Same.trans (same_upd n) (same_upd m), b, a, L, zs, rfl, upd_same, ⟨o, od, same_upd m _ _ upd_same⟩, d⟩
end Ph

set_option maxHeartbeats 4000000
/-! PhSpt: places as the laws name them (Spot), the lowest place within the outlook (Out.low), frames of draws. -/
namespace Ph
open PySem PySem.Spec PyProof.Rows L2
structure Spot (z : Int) (bs : List Bk) (W x : Int) : Prop where
  mod : x % z = 0
  pos : 0 ≤ x
  fit : x + z ≤ W
  free : ∀ b ∈ bs, x + z ≤ b.1 ∨ b.1 + b.2 ≤ x
theorem Spot.plc {z W x : Int} {bs : List Bk} (h : Spot z bs W x) : Plc W bs z x := ⟨h.pos, h.mod, h.fit, fun b hb => (h.free b hb).symm⟩
theorem Spot.of {z W x : Int} {bs : List Bk} (h : Plc W bs z x) : Spot z bs W x := ⟨h.2.1, h.1, h.2.2.1, fun b hb => (h.2.2.2 b hb).symm⟩
def TqF (H : Hp) (a : Addr) (xs : List V) : Prop := H a = some (.tup xs) ∨ ∃ o, H a = some (.frz o (.tup xs))
theorem cutV_mem {xs : List V} {lo hi : Option Int} {x : V} (h : x ∈ cutV xs lo hi) : x ∈ xs := by
  unfold cutV at h
  exact List.mem_of_mem_drop (List.mem_of_mem_take h)
section
variable {X : Cx}
def rSlF : V → Option Int → Option Int → Hp → VK → Prop := fun x lo hi H Q => ∃ a xs, x = .ref a ∧ TqF H a xs ∧ ∀ p H', Same H H' → TqF H' p (cutV xs lo hi) → Q (.ref p) H'
def rCatG : R2 := fun x y H Q => ∃ a b xs ys, x = .ref a ∧ y = .ref b ∧ TqF H a xs ∧ TqF H b ys ∧ xs.length + ys.length ≤ 1000 ∧ ∀ p H', Same H H' → TqF H' p (xs ++ ys) → Q (.ref p) H'
end
theorem set_at {L : List Nat} {n : Nat} (h : okSet L n = true) : L.map (fun i : Nat => (i : Int)) = tl (sqL L) (L.length - 1 + 1) ∧ Cn (sqL L) (L.length - 1) 12 ∧ Sml (sqL L) (L.length - 1) n := by
  unfold okSet at h
  simp only [Bool.and_eq_true, List.all_eq_true, List.mem_range, decide_eq_true_eq] at h
  obtain ⟨⟨⟨⟨⟨h1, h2⟩, h3⟩, h4, h5, h6, h7⟩, h8⟩, h9⟩ := h
  have e : L.length - 1 + 1 = L.length := by omega
  refine ⟨by rw [e]; exact sqL_tl L, ⟨⟨h2, fun i hi => ?_⟩, fun i hi => ?_, h4⟩, ⟨h6, fun i hi => h8 i (by omega), h9, by omega, h4, h7⟩⟩
  · obtain ⟨a, b, c⟩ := h3 i (by omega)
    exact ⟨_, by omega, c⟩
  · obtain ⟨a, b, c⟩ := h3 i hi
    exact ⟨_, a, b, c⟩
/-! ### so few states -/
theorem flat3_len {α : Type} {f : Nat → List α} {g : Nat → α → α} : ∀ m, (∀ i, i < m → (f i).length ≤ 3 ^ i) → 2 * ((List.range m).flatMap fun i => (f i).map (g i)).length + 1 ≤ 3 ^ m
  | 0, _ => by simp
  | m + 1, h => by
    have ih := flat3_len (g := g) m fun i hi => h i (by omega)
    have hm := h m (by omega)
    rw [List.range_succ, List.flatMap_append, List.length_append, List.flatMap_cons, List.flatMap_nil, List.append_nil, List.length_map, Nat.pow_succ]
    omega
theorem from_list {C : List Int} {W : Int} (n : Nat) : ∃ bss : List (List Bk), (0 ≤ W - n → ∀ bs, From C W (W - n) bs → bs ∈ bss) ∧ bss.length ≤ 3 ^ n := by
  induction n using Nat.strongRecOn with
  | _ n ih =>
    cases n with
    | zero => exact ⟨[[]], fun _ bs h => by
        have h : From C W W bs := by have e : W - ((0 : Nat) : Int) = W := by omega
                                     rw [e] at h; exact h
        rw [from_end.mp h]; exact List.mem_singleton.mpr rfl, by simp⟩
    | succ n =>
      have ex : ∀ i : Nat, ∃ bss : List (List Bk), i < n + 1 → (0 ≤ W - i → ∀ bs, From C W (W - i) bs → bs ∈ bss) ∧ bss.length ≤ 3 ^ i := fun i => by
        rcases Nat.lt_or_ge i (n + 1) with h | h
        · obtain ⟨b, hb⟩ := ih i h
          exact ⟨b, fun _ => hb⟩
        · exact ⟨[], fun z => absurd z (by omega)⟩
      obtain ⟨f, hf⟩ := Classical.axiomOfChoice ex
      obtain ⟨g, hg⟩ : ∃ g : Nat → List Bk → List Bk, g = fun i r => (W - ((n + 1 : Nat) : Int), ((n + 1 - i : Nat) : Int)) :: r := ⟨_, rfl⟩
      have fl := flat3_len (f := f) (g := g) (n + 1) fun i hi => (hf i hi).2
      refine ⟨f n ++ (List.range (n + 1)).flatMap fun i => (f i).map (g i), fun hW bs h => ?_, ?_⟩
      · rw [List.mem_append]
        rcases (from_step hW).mp h with h | ⟨z, r, hz, z1, hm, hz2, hr, rfl⟩
        · refine .inl ((hf n (by omega)).1 (by omega) bs ?_)
          have e : W - ((n : Nat) : Int) = W - ((n + 1 : Nat) : Int) + 1 := by omega
          rw [e]
          exact h
        · refine .inr (List.mem_flatMap.mpr ⟨n + 1 - z.toNat, List.mem_range.mpr (by omega), List.mem_map.mpr ⟨r, (hf _ (by omega)).1 (by omega) r ?_, ?_⟩⟩)
          · have e : W - ((n + 1 - z.toNat : Nat) : Int) = W - ((n + 1 : Nat) : Int) + z := by omega
            rw [e]
            exact hr
          · have e : ((n + 1 - (n + 1 - z.toNat) : Nat) : Int) = z := by omega
            rw [hg]
            dsimp only
            rw [e]
      · rw [List.length_append]
        have := (hf n (by omega)).2
        rw [Nat.pow_succ] at fl ⊢
        omega
theorem gst_list {s : Nat → Nat} {p M W : Nat} (hW : W ≤ 12) : ∃ bss : List (List Bk), (∀ bs, Gst s p M (W : Int) bs → bs ∈ bss) ∧ bss.length ≤ 531441 ∧ bss.length ≤ 3 ^ W := by
  obtain ⟨bss, h1, h2⟩ := from_list (C := tl s (p + 1)) (W := (W : Int)) W
  refine ⟨bss, fun bs g => h1 (by omega) bs ⟨g.st, fun b hb => ?_⟩, Nat.le_trans h2 (Nat.le_trans (Nat.pow_le_pow_right (by decide) hW) (by decide)), h2⟩
  have := (g.st.ok b hb).2.2.1
  omega
end Ph

set_option maxHeartbeats 4000000
/-! PhHs: all states of a small heap as a list that can be computed; their hashes. -/
namespace Ph
open PySem PySem.Spec PyProof.Rows L2
/-- Python's hash of a state -/
def hashB (b : Bk) : Int := PySem.reduceHash (PySem.Builtin.Tuple.tupleHashOf [PySem.hashInt b.1, PySem.hashInt b.2])
def hashS (bs : List Bk) : Int := PySem.reduceHash (PySem.Builtin.Tuple.tupleHashOf (bs.map hashB))
theorem hash_skey (w : World) (bs : List Bk) : (skey bs).hash w = hashS bs := by
  have key : ∀ l : List Bk, NestedKey.hashes w (l.map bkey) = l.map hashB := fun l => by
    induction l with
    | nil => rfl
    | cons b r ih => rw [List.map_cons, List.map_cons, NestedKey.hashes, ih]; rfl
  unfold skey hashS
  rw [NestedKey.hash, key]
def nextL (C : List Int) (W : Int) (n : Nat) (t : List (List (List Bk))) : List (List Bk) :=
  t.headD [] ++ C.flatMap fun z => if 1 ≤ z ∧ z ≤ ((n + 1 : Nat) : Int) ∧ (W - ((n + 1 : Nat) : Int)) % z = 0 then (t.getD (z.toNat - 1) []).map fun r => (W - ((n + 1 : Nat) : Int), z) :: r else []
def tabL (C : List Int) (W : Int) : Nat → List (List (List Bk))
  | 0 => [[[]]]
  | n + 1 => nextL C W n (tabL C W n) :: tabL C W n
def stL (C : List Int) (W : Nat) : List (List Bk) := (tabL C W W).headD []
theorem tab_mem {C : List Int} {W : Int} : ∀ (n k : Nat), k ≤ n → 0 ≤ W - n → ∀ bs, From C W (W - k) bs → bs ∈ (tabL C W n).getD (n - k) []
  | 0, k, hk, hW, bs, h => by
    obtain rfl : k = 0 := by omega
    have e : W - ((0 : Nat) : Int) = W := by omega
    rw [e] at h
    rw [from_end.mp h]
    exact List.mem_singleton.mpr rfl
  | n + 1, k, hk, hW, bs, h => by
    rcases Nat.lt_or_ge k (n + 1) with w | w
    · have ih := tab_mem (C := C) (W := W) n k (by omega) (by omega) bs h
      have e : n + 1 - k = (n - k) + 1 := by omega
      rw [e]
      exact ih
    · obtain rfl : k = n + 1 := by omega
      rw [Nat.sub_self]
      show bs ∈ nextL C W n (tabL C W n)
      unfold nextL
      rw [List.mem_append]
      rcases (from_step hW).mp h with h | ⟨z, r, hz, z1, hm, hz2, hr, rfl⟩
      · left
        have ih := tab_mem (C := C) (W := W) n n (Nat.le_refl _) (by omega) bs (by
          have e : W - ((n : Nat) : Int) = W - ((n + 1 : Nat) : Int) + 1 := by omega
          rw [e]
          exact h)
        rw [Nat.sub_self] at ih
        cases ht : tabL C W n with
        | nil => rw [ht] at ih; cases ih
        | cons a t => rw [ht] at ih; exact ih
      · right
        refine List.mem_flatMap.mpr ⟨z, hz, ?_⟩
        rw [if_pos ⟨z1, by omega, hm⟩]
        refine List.mem_map.mpr ⟨r, ?_, rfl⟩
        have ih := tab_mem (C := C) (W := W) n (n + 1 - z.toNat) (by omega) (by omega) r (by
          have e : W - ((n + 1 - z.toNat : Nat) : Int) = W - ((n + 1 : Nat) : Int) + z := by omega
          rw [e]
          exact hr)
        have e : n - (n + 1 - z.toNat) = z.toNat - 1 := by omega
        rw [e] at ih
        exact ih
theorem st_all {C : List Int} {W : Nat} {bs : List Bk} (st : St C (W : Int) bs) : bs ∈ stL C W := by
  have := tab_mem W W (Nat.le_refl _) (by omega) bs ⟨st, fun b hb => by have := (st.ok b hb).2.2.1; omega⟩
  rw [Nat.sub_self] at this
  unfold stL
  cases ht : tabL C (W : Int) W with
  | nil => rw [ht] at this; cases this
  | cons a t => rw [ht] at this; exact this
/-- where the hashes of all states differ, those of some do -/
theorem hash_nodup {C : List Int} {W : Nat} (h : ((stL C W).map hashS).Nodup) {bss : List (List Bk)} (nd : bss.Nodup) (st : ∀ bs ∈ bss, St C (W : Int) bs) : (bss.map hashS).Nodup := by
  refine List.pairwise_map.mpr (nd.imp_of_mem fun {a b} ha hb ne e => ne ?_)
  have ma := st_all (st a ha)
  have mb := st_all (st b hb)
  obtain ⟨i, hi, ei⟩ := List.getElem_of_mem ma
  obtain ⟨j, hj, ej⟩ := List.getElem_of_mem mb
  have := (List.getElem_inj (i := i) (j := j) (h₀ := by rw [List.length_map]; exact hi) (h₁ := by rw [List.length_map]; exact hj) h).mp (by rw [List.getElem_map, List.getElem_map, ei, ej, e])
  subst this
  rw [← ei, ej]
/-- no two states of these settings have one hash -/
def okHash (L : List Nat) (n : Nat) : Bool := decide ((stL (L.map fun i : Nat => (i : Int)) (n * sqL L (L.length - 1))).map hashS).Nodup
end Ph

set_option maxHeartbeats 4000000
/-! PhRb: comprehensions whose items hold lists; tables of states put together without a key twice; lists of lists of states. -/
namespace Ph
open PySem PySem.Spec PyProof.Rows L2
theorem but_ktL {H H' : Hp} {G : Addr} {xs : List V} (hd : H G = some (.lst xs)) (b : But G H H') : Kt H H' := fun a o e _ n => b a o (fun z => by rw [z, hd] at e; exact n _ (Option.some.inj e).symm) e
/-- a comprehension with a test; R tells of each item that stays, by its turn; items may hold lists -/
theorem lc_RFB {J : It} {n : Nat} {G : Hp → Prop} {Y : Nat → Hp → V → Hp → Prop} (w : Walk J n G Y) (hY : ∀ i H x H', Y i H x H' → Same H H') {g : TG} {tt : TT} {te : TE} {vs : List Nat} {σ : L2.St} {H1 : Hp} {D : Addr} {Qd : Hp → Prop}
    (p : Nat → Bool) (R : Hp → Nat → V → Prop) (mono : ∀ H H' i y, Kt H H' → But D H H' → R H i y → R H' i y) (nD : H1 D = none) (hlen : n < sizeLine) (hG : ∀ H, Same H1 H → G H)
    (hs : ∀ i x H H', i < n → Same H1 H → (∃ l, H D = some (.lst l)) → Y i H x H' → ∀ (Z : V → Hp → Prop) (N : Hp → Prop), (∀ y H4, Same H' H4 → p i = true → R H4 i y → Z y H4) → (∀ H4, Same H' H4 → p i = false → N H4) →
      g x (wipe σ vs) H' fun σ2 H2 => wipe σ2 vs = wipe σ vs ∧ tt σ2 H2 fun b H3 => if b = true then te σ2 H3 Z else N H3)
    (hd : ∀ H ys, Same H1 H → H D = some (.lst ys) → Paired (R H) ((List.range n).filter p) ys → Qd H) :
    ∃ W : Nat → Nat → Hp → Prop, (∃ m, W 0 m (upd H1 D (.lst []))) ∧ ∀ i m H, W i m H →
      (J.stop i H ∧ Qd H) ∨ (J.go i H ∧ ∃ Nx : Hp → Prop, (∀ H', Nx H' → ∃ m', m' < m ∧ W (i + 1) m' H') ∧ ∀ x H', J.yld i H x H' → g x (wipe σ vs) H' fun σ2 H2 => wipe σ2 vs = wipe σ vs ∧ tt σ2 H2 fun b H3 =>
        if b = true then te σ2 H3 fun y H4 => ∃ acc, H4 D = some (.lst acc) ∧ acc.length < sizeLine ∧ Nx (upd H4 D (.lst (acc ++ [y]))) else Nx H3) := by
  refine lc_it w (fun i H => Same H1 H ∧ ∃ ys, H D = some (.lst ys) ∧ Paired (R H) ((List.range i).filter p) ys) ⟨same_upd nD, [], upd_same, .nil⟩ (fun i H _ q => hG H q.1) (fun i x H H' hi q y => ?_) (fun H q => ?_)
  · obtain ⟨sm, ys, hD, pr⟩ := q
    have s' := hY _ _ _ _ y
    have hlen2 : ys.length < sizeLine := by
      have h1 := pr.length
      have h2 := List.length_filter_le p (List.range i)
      rw [List.length_range] at h2
      omega
    refine hs i x H H' hi sm ⟨ys, hD⟩ y _ _ (fun y H4 s4 pi r4 => ?_) (fun H4 s4 pi => ?_)
    · have hD4 := s4 _ _ (s' _ _ hD)
      have kt := kt_upd (ys := ys ++ [y]) hD4
      have bt : But D H4 (upd H4 D (.lst (ys ++ [y]))) := fun a o ne e => by rw [upd_ne ne]; exact e
      have s14 := s'.trans s4
      refine ⟨ys, hD4, hlen2, fun b o e => bt b o (ne_of_none e nD) (s14 _ _ (sm _ _ e)), ys ++ [y], upd_same, ?_⟩
      rw [List.range_succ, List.filter_append, List.filter_cons_of_pos (by simpa using pi)]
      exact Paired.snoc (paired_imp (fun a b h => mono _ _ _ _ kt bt (mono _ _ _ _ (Same.kt s14) (Same.but s14) h)) pr) (mono _ _ _ _ kt bt r4)
    · have s14 := s'.trans s4
      refine ⟨sm.trans s14, ys, s14 _ _ hD, ?_⟩
      rw [List.range_succ, List.filter_append, List.filter_cons_of_neg (by simp [pi]), List.filter_nil, List.append_nil]
      exact paired_imp (fun a b h => mono _ _ _ _ (Same.kt s14) (Same.but s14) h) pr
  · obtain ⟨sm, ys, hD, pr⟩ := q
    exact hd H ys sm hD pr
theorem lc_RB {J : It} {n : Nat} {G : Hp → Prop} {Y : Nat → Hp → V → Hp → Prop} (w : Walk J n G Y) (hY : ∀ i H x H', Y i H x H' → Same H H') {g : TG} {te : TE} {vs : List Nat} {σ : L2.St} {H1 : Hp} {D : Addr} {Qd : Hp → Prop}
    (R : Hp → Nat → V → Prop) (mono : ∀ H H' i y, Kt H H' → But D H H' → R H i y → R H' i y) (nD : H1 D = none) (hlen : n < sizeLine) (hG : ∀ H, Same H1 H → G H)
    (hs : ∀ i x H H', i < n → Same H1 H → (∃ l, H D = some (.lst l)) → Y i H x H' → ∀ (Z : V → Hp → Prop), (∀ y H4, Same H' H4 → R H4 i y → Z y H4) →
      g x (wipe σ vs) H' fun σ2 H2 => wipe σ2 vs = wipe σ vs ∧ te σ2 H2 Z)
    (hd : ∀ H ys, Same H1 H → H D = some (.lst ys) → Paired (R H) (List.range n) ys → Qd H) :
    ∃ W : Nat → Nat → Hp → Prop, (∃ m, W 0 m (upd H1 D (.lst []))) ∧ ∀ i m H, W i m H →
      (J.stop i H ∧ Qd H) ∨ (J.go i H ∧ ∃ Nx : Hp → Prop, (∀ H', Nx H' → ∃ m', m' < m ∧ W (i + 1) m' H') ∧ ∀ x H', J.yld i H x H' → g x (wipe σ vs) H' fun σ2 H2 => wipe σ2 vs = wipe σ vs ∧ tYes σ2 H2 fun b H3 =>
        if b = true then te σ2 H3 fun y H4 => ∃ acc, H4 D = some (.lst acc) ∧ acc.length < sizeLine ∧ Nx (upd H4 D (.lst (acc ++ [y]))) else Nx H3) :=
  lc_RFB w hY (fun _ => true) R mono nD hlen hG (fun i x H H' hi sm hl y Z N hZ hN => hs i x H H' hi sm hl y Z fun y H4 s4 r => hZ y H4 s4 rfl r)
    (fun H ys sm hD pr => hd H ys sm hD (by
      have e : (List.range n).filter (fun _ => true) = List.range n := List.filter_eq_self.mpr fun _ _ => rfl
      rw [e] at pr
      exact pr))
/-! ### new keys alone -/
theorem valV_notin {xs : List KAV} {k : NestedKey} (h : k ∉ xs.map (·.1)) : valV (xs.map kv2) k = none := by
  cases e : valV (xs.map kv2) k with
  | none => rfl
  | some v =>
    obtain ⟨x, hx, ex, _⟩ := valV_mem2 e
    exact absurd (List.mem_map.mpr ⟨x, hx, ex⟩) h
theorem putAllX_nd : ∀ {es xs : List KAV}, ((xs ++ es).map (·.1)).Nodup → putAllX xs es = xs ++ es
  | [], xs, _ => by rw [List.append_nil]; rfl
  | e :: es, xs, nd => by
    have n1 : e.1 ∉ xs.map (·.1) := by
      rw [List.map_append, List.map_cons] at nd
      intro h
      exact (List.pairwise_append.mp nd).2.2 _ h _ List.mem_cons_self rfl
    have e1 := putX_new (b := e.2.1) (v := e.2.2) (valV_notin n1)
    show putAllX (putX xs e.1 e.2.1 e.2.2) es = _
    rw [e1, show (e.1, e.2.1, e.2.2) = e from rfl, putAllX_nd (by rw [List.append_assoc]; exact nd), List.append_assoc]
    rfl
theorem InK.iff {xs : List KAV} {bs : List Bk} (nd : (xs.map (·.1)).Nodup) : InK xs bs ↔ ∃ x ∈ xs, x.1 = skey bs := ⟨InK.mem, fun ⟨_, hx, e⟩ => InK.of nd hx e⟩
/-! ### data of lists of states -/
def lotD (l : List (List Bk)) : PyData := .list (l.map stD)
theorem lotDs_lay : ∀ zs : List (List (List Bk)), PyData.canLayAll0 (zs.map lotD) = true
  | [] => by simp [PyData.canLayAll0]
  | z :: zs => by
    have h : (lotD z).canLay0 = true := by unfold lotD; simp only [PyData.canLay0]; exact stDs_lay z
    simp only [List.map_cons, PyData.canLayAll0, h, lotDs_lay zs, Bool.and_self]
theorem lotDs_depth : ∀ zs : List (List (List Bk)), PyData.depthAll (zs.map lotD) ≤ 3
  | [] => by simp [PyData.depthAll]
  | z :: zs => by
    have h1 := lotDs_depth zs
    have h2 : (lotD z).depth ≤ 3 := by
      have := stDs_depth z
      unfold lotD
      simp only [PyData.depth]
      omega
    simp only [List.map_cons, PyData.depthAll]
    omega
theorem lotDs_shaped (zs : List (List (List Bk))) : SeqAt.shaped (.list (zs.map lotD)) = true := by
  have h1 := lotDs_depth zs
  have h2 : PyData.depth (.list (zs.map lotD)) ≤ 64 := by simp only [PyData.depth]; omega
  have h3 : PyData.canLay0 (.list (zs.map lotD)) = true := by simp only [PyData.canLay0]; exact lotDs_lay zs
  show (PyData.canLay0 (.list (zs.map lotD)) && decide (PyData.depth (.list (zs.map lotD)) ≤ 64)) = true
  rw [h3, decide_eq_true h2]
  rfl
theorem lotDs_nil (zs : List (List (List Bk))) : PyData.eqv (.list (zs.map lotD)) (.list []) = decide (zs = []) := by
  cases zs with
  | nil => simp [PyData.eqv, PyData.eqvAll]
  | cons z zs => simp [PyData.eqv, PyData.eqvAll]
end Ph

set_option maxHeartbeats 4000000
/-! PhLt: the order of states; sorted with its order; `<` of data. -/
namespace Ph
open PySem PySem.Calls PyProof.V PySem.Spec PyProof.Rows L2 PySem.W SeqAt
/-- the order of states -/
def stLt (a b : List Bk) : Bool := PySem.W.dataLt (stD a) (stD b)
theorem dLt_trans {x y z : PyData} (h1 : PySem.W.dataLt x y = true) (h2 : PySem.W.dataLt y z = true) : PySem.W.dataLt x z = true := PyProof.Rows.lex_trans _ _ _ h1 h2
theorem dLt_neg {x y z : PyData} (h : PySem.W.dataLt x z = true) : PySem.W.dataLt x y = true ∨ PySem.W.dataLt y z = true := PyProof.Rows.lex_negTrans _ _ _ h
theorem dLt_asym {x y : PyData} (h : PySem.W.dataLt x y = true) : PySem.W.dataLt y x = false := by
  cases e : PySem.W.dataLt y x with
  | false => rfl
  | true => have := dLt_trans h e; rw [PySem.W.dataLt_self] at this; cases this
theorem mergeS_pairwise {α : Type} (f : α → PyData) (xs : List α) : (xs.mergeSort (dataLe false f)).Pairwise fun x y => PySem.W.dataLt (f y) (f x) = false := by
  have e : dataLe false f = fun a b => !PySem.W.dataLt (f b) (f a) := PySem.W.dataLe_eq false f
  have := List.pairwise_mergeSort (le := dataLe false f) (fun a b c h1 h2 => by
    rw [e] at h1 h2 ⊢
    simp only [Bool.not_eq_true'] at h1 h2 ⊢
    cases q : PySem.W.dataLt (f c) (f a) with
    | false => rfl
    | true =>
      rcases dLt_neg (y := f b) q with h | h
      · rw [h] at h2; cases h2
      · rw [h] at h1; cases h1) (fun a b => by
    rw [e]
    simp only [Bool.or_eq_true, Bool.not_eq_true']
    cases q : PySem.W.dataLt (f b) (f a) with
    | false => exact .inl rfl
    | true => exact .inr (dLt_asym q)) xs
  refine this.imp fun {a b} h => ?_
  rw [e] at h
  simpa using h
theorem stD_alike (a b : List Bk) : PySem.W.alike (stD a) (stD b) = true := by
  unfold stD
  simp only [PySem.W.alike]
  exact bDs_alike _ _
theorem eqv_bDs : ∀ a b : List Bk, PyData.eqvAll (a.map bD) (b.map bD) = true → a = b
  | [], [], _ => rfl
  | [], _ :: _, h => by simp [PyData.eqvAll] at h
  | _ :: _, [], h => by simp [PyData.eqvAll] at h
  | (x1, x2) :: xs, (y1, y2) :: ys, h => by
    rw [List.map_cons, List.map_cons, PySem.W.eqv_all_cons, Bool.and_eq_true] at h
    have := eqv_bDs xs ys h.2
    have h1 := h.1
    unfold bD at h1
    simp [PyData.eqv, PyData.eqvAll] at h1
    rw [this, h1.1, h1.2]
theorem srt_states {H : Hp} {ys : List V} {css : List (List Bk)} (h : StVs H ys css) (p : ys.Pairwise fun x y => PySem.W.dataLt (stD (stOf H y)) (stD (stOf H x)) = false) : css.Pairwise fun a b => stLt b a = false := by
  induction h with
  | nil => exact .nil
  | cons hx r ih =>
    obtain ⟨p1, p2⟩ := List.pairwise_cons.mp p
    refine List.pairwise_cons.mpr ⟨fun b hb => ?_, ih p2⟩
    obtain ⟨i, hi, ei⟩ := List.getElem_of_mem hb
    obtain ⟨y, hy, st⟩ := Paired.get2 r (b := b) (i := i) (by rw [List.getElem?_eq_getElem hi, ei])
    have := p1 y (List.mem_of_getElem? hy)
    rw [stOf_eq hx, stOf_eq st] at this
    exact this
def rLtD (K : PySem.W.Frag) : R2 := fun x y H Q => ∃ d e, Dp K H x d ∧ Dp K H y e ∧ PySem.W.alike d e = true ∧ d ≠ .none ∧ d.depth ≤ 64 ∧ Q (.bl (PySem.W.dataLt d e)) H
theorem cr_sortedXo {X : Cx} (hc : X.calm = true) (hu : X.A.units + 64 < cLine) : CallR X (.builtin "sorted") (fun vs H Q => ∃ d xs bss, vs = [V.ref d] ∧ KDr X.w H d xs ∧ StVs H (xs.map fun x => V.ref x.2.1) bss ∧
    ∀ ys css p, css.Perm bss → (css.Pairwise fun a b => stLt b a = false) → StVs H ys css → H p = none → Q (.ref p) (upd H p (.lst ys))) := by
  intro pins s σ H vs us Q I r h
  obtain ⟨d, kxs, bss, rfl, K, hb, q⟩ := h
  obtain rfl := Vals.ref1 r
  obtain ⟨o, es, ep, ho, hx, hdt, hsz, ent⟩ := kdr_raw I.hok K
  have ln := K.ln
  generalize hxs : (kxs.map fun x => V.ref x.2.1) = xs at *
  have xl : xs.length = kxs.length := by rw [← hxs, List.length_map]
  refine call_function_entry kind_sorted plain_sorted entry_sorted (args_sorted1 _) ?_
  unfold Builtin.«sorted»
  refine wpAny_bind (m := checkCount "sorted" 1 1 _) (wpAny_pure ?_)
  refine wpAny_bind (kdu_collect (A := X.A.in1) (kdl_raw K.sm hx hdt) (I.ok.hd hc) ho (by omega) fun h' tk acc hk it => ?_)
  have rv : Vals xs acc.toList := vals_of_at (by rw [xl, Array.length_toList]; exact hsz.symm.trans it.1.symm) fun j x u h1 h2 => by
    obtain ⟨en, hen, hv⟩ := it.2 j u (by rw [← Array.getElem?_toList]; exact h2)
    obtain ⟨e0, h3, h4, _⟩ := ent j en hen
    rw [← hxs, List.getElem?_map, h3] at h1
    cases h1
    rw [hv, h4]
    rfl
  generalize acc.toList = its at *
  have il : its.length = kxs.length := by rw [← rv.length, xl]
  have hL : its.length ≤ sizeLine := by omega
  refine wpAny_bind (wpAny_newList ?_ hL)
  have hob : (h'.push { cls := .type "list", data := .seq its.toArray }).get? h'.objs.size = some (seqObj "list" its.toArray 0) := Heap.get?_push_size _ rfl
  have kb : ∀ b o, s.heap.get? b = some o → (h'.push { cls := .type "list", data := .seq its.toArray }).get? b = some o := fun b o e => Heap.get?_push_of_some _ (hk b o e)
  have ne0 : ∀ b o, s.heap.get? b = some o → b ≠ h'.objs.size := fun b o e => Nat.ne_of_lt (Heap.lt_size (hk b o e))
  generalize (h'.push { cls := .type "list", data := .seq its.toArray }) = h2 at hob kb ⊢
  have key : ∀ x ∈ xs, ∃ bs, StV H x bs := fun x hx => by
    obtain ⟨i, hi, e⟩ := List.getElem_of_mem hx
    obtain ⟨b, _, st⟩ := Paired.get hb (i := i) (by rw [List.getElem?_eq_getElem hi, e])
    exact ⟨b, st⟩
  have hd : ∀ x ∈ xs, Dp X.K H x (stD (stOf H x)) := fun x hx => by
    obtain ⟨bs, t, rfl, st⟩ := key x hx
    rw [stOf_eq ⟨t, rfl, st⟩]
    exact st.dp
  have er := reads_each I rv hd
  have er2 : EachIs (fun v x => ∃ as, Reads (sortingHeap h2 h'.objs.size its) v (stD (stOf H x)) as) its xs := er.mono fun _ _ ⟨as, z⟩ => ⟨as, PyProof.Rows.Reads.keeps (fun b o e => sortingHeap_old (ne0 b o e) (kb b o e)) z⟩
  have al : AllAlike (xs.map fun x => stD (stOf H x)) := fun d hd d' hd' => by
    obtain ⟨x, _, rfl⟩ := List.mem_map.mp hd
    obtain ⟨y, _, rfl⟩ := List.mem_map.mp hd'
    unfold stD
    simp only [PySem.W.alike]
    exact bDs_alike _ _
  have tps : ∀ d ∈ xs.map (fun x => stD (stOf H x)), ∃ ds, d = PyData.tuple ds := fun d hd => by
    obtain ⟨x, hx, rfl⟩ := List.mem_map.mp hd
    exact ⟨_, rfl⟩
  have room : ∀ d, d ∈ xs.map (fun x => stD (stOf H x)) → X.A.in1.in1.units + d.depth < cLine := fun d hd => by
    obtain ⟨x, hx, rfl⟩ := List.mem_map.mp hd
    have : (stD (stOf H x)).depth ≤ 40 := Nat.le_trans (stD_depth _) (by decide)
    show X.A.units + 1 + 1 + _ < cLine
    omega
  have rel : EachIs (fun v x => RelV x v) its xs := each_of rv
  refine wpAny_bind (wpAny_holding (wpAny_call_entry PyProof.Rows.slot_list_sort ⟨_, hob, rfl⟩ PyProof.Rows.entry_list_sort ?body (PyProof.Rows.args_list_sort _)))
  case body =>
    refine list_sort_vals (s := { s with heap := h2, toks := tk }) (κ := dataKind _ (xs.map fun x => stD (stOf H x))) hob (SortsAt.dataT (s := { s with heap := sortingHeap h2 h'.objs.size its, toks := tk }) (each_map (R := fun v d => ∃ as, Reads (sortingHeap h2 h'.objs.size its) v d as) (fun x => stD (stOf H x)) er2) al tps room) hL ?_
    refine ⟨_, rfl, wpAny_pure ⟨_, rfl, ?_⟩⟩
    have rv2 : Vals (xs.mergeSort (dataLe false fun x => stD (stOf H x))) (sortVals (dataKind (sortingHeap h2 h'.objs.size its) (xs.map fun x => stD (stOf H x))) false its its) := of_each (sortVals_data false rel er2 al)
    generalize sortVals (dataKind (sortingHeap h2 h'.objs.size its) (xs.map fun x => stD (stOf H x))) false its its = out at *
    obtain ⟨c, hcF⟩ := PyProof.Rows.sortedHeap_at (vs := its) (out := out.toArray) hob
    have kS : ∀ b o, s.heap.get? b = some o → (sortedHeap h2 h'.objs.size its out.toArray).get? b = some o := fun b o e => (PyProof.Rows.sortedHeap_old (ne0 b o e) (Heap.lt_size (kb b o e))).trans (kb b o e)
    have hn0 : H h'.objs.size = none := (I.hok.kept hk).fresh (Nat.le_refl _)
    have hs0 : s.heap.get? h'.objs.size = none := by
      cases e : s.heap.get? h'.objs.size with
      | none => rfl
      | some o => exact absurd rfl (ne0 _ _ e)
    obtain ⟨css, h1, h2'⟩ := paired_perm (List.mergeSort_perm xs (dataLe false fun x => stD (stOf H x))) hb
    have hl2 : (xs.mergeSort (dataLe false fun x => stD (stOf H x))).length ≤ sizeLine := by rw [List.length_mergeSort]; omega
    exact ⟨.ref h'.objs.size, _, I.laidN (t' := tk) (o := .lst (xs.mergeSort (dataLe false fun x => stD (stOf H x)))) kS hs0 hn0 ⟨hl2, out, c, rv2, hcF⟩, rfl, q _ css _ h2' (srt_states h1 (mergeS_pairwise (fun x => stD (stOf H x)) _)) h1 hn0⟩
def rSortIXo (w : World) (K : PySem.W.Frag) : List V → Hp → VK → Prop := fun vs H Q => ∃ (p d : Addr) (xs : List KAV) (kd vd : KAV → PyData), vs = [.ref p] ∧ H p = some (DX.itemsO p d) ∧ KDr w H d xs ∧
  (∀ e ∈ xs, Dp K H (.ref e.2.1) (kd e) ∧ Dp K H e.2.2 (vd e)) ∧ AllAlike (xs.map fun e => PyData.tuple [kd e, vd e]) ∧ (∀ e ∈ xs, (PyData.tuple [kd e, vd e]).depth ≤ 40) ∧
  ∀ H' l (zs : List (Addr × KAV)), Same H H' → (zs.map (·.2)).Perm xs → (zs.Pairwise fun z1 z2 => PySem.W.dataLt (.tuple [kd z2.2, vd z2.2]) (.tuple [kd z1.2, vd z1.2]) = false) → H' l = some (.lst (zs.map fun z => V.ref z.1)) → (∀ z ∈ zs, H' z.1 = some (.tup [.ref z.2.2.1, z.2.2.2])) → Q (.ref l) H'
end Ph

set_option maxHeartbeats 4000000
/-! PhDcX: {t: v for .. in ..}, keys tuples. -/
namespace Ph
open PySem PySem.Spec PyProof.Rows L2
section
variable {X : Cx}
/-- {k: v for target in iter if ..}, keys ints or texts: D the new dict -/
def tDcX (w : World) (wi : TI) (g : TG) (tt : TT) (tk tv : TE) (vs : List Nat) : TE := fun σ H Q => wi σ H fun J H1 => ∀ D, H1 D = none → (D == sysModules) = false → ∃ W : Nat → Nat → Hp → Prop, (∃ m, W 0 m (upd H1 D (dkO w D []))) ∧ ∀ i m H, W i m H →
  (J.stop i H ∧ Q (.ref D) H) ∨ (J.go i H ∧ ∃ Nx : Hp → Prop, (∀ H', Nx H' → ∃ m', m' < m ∧ W (i + 1) m' H') ∧ ∀ x H', J.yld i H x H' → g x (wipe σ vs) H' fun σ2 H2 => wipe σ2 vs = wipe σ vs ∧ tt σ2 H2 fun b H3 =>
    if b = true then tk σ2 H3 fun y H4 => tv σ2 H4 fun z H5 => ∃ b xs' k, y = .ref b ∧ KDx w H5 D xs' ∧ Nk H5 (.ref b) k ∧ k.depth ≤ 8 ∧ xs'.length < sizeLine ∧ ∀ H6, But D H5 H6 → KDx w H6 D (putX xs' k b z) → Nx H6 else Nx H3)
end
end Ph

namespace Ph
open PySem PySem.Spec PyProof.Rows L2
section
variable {X : Cx}
/-- a dict != {} -/
def rNeE : R2 := fun x y H Q => ∃ a b ks, x = .ref a ∧ y = .ref b ∧ H a = some (.dK ks) ∧ H b = some (.dK []) ∧ Q (.bl (decide (ks ≠ []))) H
end
/-! ### blocks held in a dict: start, size -/
def kvh (ls : List Bk) : List (Key × V) := ls.map fun e => (Sum.inl e.1, V.int e.2)
end Ph

namespace PySem
open Sem (wp)
set_option maxHeartbeats 1000000 in
theorem ph_enum1 {v : Value} {o : Obj} {H : Heap → Prop} (B : Begins v o H) :
    Meets (Builtin.«enumerate.__new__» ⟨[.type "enumerate", v], []⟩) (fun _ R s => H s.heap ∧
      R (.ok (.ret (.ref (s.heap.push o).objs.size))) { s with heap := (s.heap.push o).push { cls := .type "enumerate", data := .fields #[.none, .bool false, .ref s.heap.objs.size, rawInt 0, .none, .none] } }) :=
  .of_wp fun prog w A R s h => by
    obtain ⟨hp, g, d, tk, os⟩ := s; obtain ⟨h1, h⟩ := h
    have hsub := sub_enumerate
    have q1 : ∀ {A' : Around} {E : Value → Shared → Prop} {Q : Value → Shared → Prop}, Q (.ref hp.objs.size) ⟨hp.push o, g, d, tk, os⟩ → wpAny (model prog w) A' (pyIter v) Q E ⟨hp, g, d, tk, os⟩ :=
      fun q => B.iter prog w _ _ ⟨hp, g, d, tk, os⟩ _ h1 q
    wp_walk using q1
    refine wpAny_stack_any fun st => wpAny_pure ?_
    split
    · rename_i c _ _ _ _ _
      cases (c == Value.type "enumerate")
      · wp_walk using q1
        exact ⟨_, rfl, h⟩
      · wp_walk using q1
        exact ⟨_, rfl, h⟩
    · wp_walk using q1
      exact ⟨_, rfl, h⟩
theorem ph_enum {prog : Program} {w : World} {A : Around} {E : Value → Shared → Prop} {s : Shared} {v : Value} {o : Obj} {H : Heap → Prop} {Q : Value → Shared → Prop} (B : Begins v o H) (h1 : H s.heap)
    (h : ∀ h', IsEnum h' (s.heap.objs.size + 1) s.heap.objs.size 0 .none → h'.get? s.heap.objs.size = some o → h'.objs.size = s.heap.objs.size + 2 →
      (∀ b o, s.heap.get? b = some o → h'.get? b = some o) → Q (.ref (s.heap.objs.size + 1)) { s with heap := h' }) :
    wpAny (model prog w) A (call (.type "enumerate") [v]) Q E s := by
  refine callType_new F.called_enumerate (by decide) (F.typeCall_enumerate_1 _) (F.newCall_enumerate_1 _) (fun obj => F.args_object_init_2 obj _) F.entry_enumerate_new
    (ph_enum1 B) ⟨h1, ?_⟩
  have hz : (s.heap.push o).objs.size = s.heap.objs.size + 1 := Heap.size_push ..
  show _ ∧ _
  rw [hz]
  have he : IsEnum ((s.heap.push o).push { cls := .type "enumerate", data := .fields #[.none, .bool false, .ref s.heap.objs.size, rawInt 0, .none, .none] }) (s.heap.objs.size + 1) s.heap.objs.size 0 .none := by
    have := Heap.get?_push_size (s.heap.push o) (o := { cls := .type "enumerate", data := .fields #[.none, .bool false, .ref s.heap.objs.size, rawInt 0, .none, .none] }) rfl
    rw [hz] at this; exact this
  refine ⟨⟨_, he, rfl⟩, h _ he (Heap.get?_push_of_some _ (Heap.get?_push_size _ B.free)) (by rw [Heap.size_push, hz]) fun b o x => Heap.get?_push_of_some _ (Heap.get?_push_of_some _ x)⟩
end PySem
namespace Ph
open PySem PySem.Spec PyProof.Rows L2
/-! ### enumerate of a tuple or a list (true: a tuple) -/
def IteK (k : Bool) (K : PySem.W.Frag) (a : Addr) : It :=
  ⟨fun i H => ∃ (xs : List V) (x : V), SqK k K H a xs ∧ xs[i]? = some x, fun i H v H' => ∃ T x, v = .ref T ∧ H T = none ∧ H' = upd H T (.tup [.int (i : Nat), x]) ∧ ∀ xs, SqK k K H a xs → xs[i]? = some x, fun i H => ∃ xs : List V, SqK k K H a xs ∧ i = xs.length⟩
theorem turn_enumK {P : Program} {w : World} {K : PySem.W.Frag} {elts : List Expr} {kk : Nat} {tpos : Pos} {k : Bool} (a e it : Addr) (na : a ≠ it) (ne : e ≠ it) (nea : e ≠ a) :
    Turn P w K (.Tuple elts kk tpos) (IteK k K a) [e, it] e (fun i h => (∃ old, IsEnum h e it ((i : Nat) : Int) old) ∧ ItrK k h it a i) where
  mem := by simp
  obj := fun i h st b hb => by
    obtain ⟨⟨old, he⟩, h1⟩ := st
    have e' : b = e ∨ b = it := by simpa using hb
    rcases e' with z | z
    · rw [z]; exact ⟨_, he, fun v q => nomatch q⟩
    · rw [z]; exact h1.obj
  keep := fun i h h' st k => let ⟨⟨old, he⟩, hi⟩ := st; ⟨⟨old, k e (by simp) _ he⟩, hi.on fun o q => k it (by simp) o q⟩
  item := by
    intro X hP hw hK hc i pins s σ H E I hf st hg
    subst hP hw hK
    obtain ⟨⟨old, he⟩, hit⟩ := st
    obtain ⟨xs, x, hq, hx⟩ := hg
    obtain ⟨its, rv, p, _⟩ := Inv.seqK I hq
    obtain ⟨u, hu, ru⟩ := rv.get hx
    have hel : e < s.heap.objs.size := Heap.lt_size he
    have hil : it < s.heap.objs.size := by obtain ⟨_, q, _⟩ := hit.obj; exact Heap.lt_size q
    have l1 : i < its.toArray.size := by
      have := (List.getElem?_eq_some_iff.mp hu).1
      simpa using this
    have hh : X.A.in1.handled = none := I.ok.hd hc
    refine wpAny_pyNext_enum_itemD (drawK k hh it a na its.toArray) he ⟨hit, p⟩ l1 ne (by simp [ne, nea]) fun y h' tk hy ho hst hT hsz hk => ?_
    have ey : y = u := by
      have q : its.toArray[i]? = some u := by simpa using hu
      rw [hy] at q
      exact Option.some.inj q
    subst ey
    refine ⟨_, rfl, wpAny_letOwnedTupleGo_enum (s := { s with heap := h', toks := tk + 1 }) ho fun h'' he' sb => ?_⟩
    have hT2 : h''.get? s.heap.objs.size = some { cls := .type "tuple", data := .seq #[.int i tk, y] } := (sb.2 _ (Nat.ne_of_gt hel)).trans hT
    have new : ObjOk X.prog X.w (upd H s.heap.objs.size (.tup [.int (i : Nat), x])) h'' s.heap.objs.size (.tup [.int (i : Nat), x]) :=
      ⟨by show 2 ≤ sizeLine; decide, [.int i tk, y], .cons ⟨_, rfl⟩ (.cons ru .nil), ⟨_, hT2, rfl, _, rfl⟩⟩
    have I1 : Inv X pins σ (upd H s.heap.objs.size (.tup [.int (i : Nat), x])) { s with heap := h'', toks := tk + 1 } :=
      I.turnedNew (ch := [e, it]) (fun b ob hb q => (sb.2 b (fun z => hb (by simp [z]))).trans (hk b ob (fun z => hb (by simp [z])) (fun z => hb (by simp [z])) q)) hf (Nat.le_refl _) new
    refine ⟨.ref s.heap.objs.size, _, I1, rfl, ⟨_, x, rfl, I.hok.fresh (Nat.le_refl _), rfl, fun ys hy => by rw [Inv.seqK_inj I hy hq]; exact hx⟩, ⟨⟨y, ?_⟩, hst.1.on fun o q => (sb.2 it (Ne.symm ne)).trans q⟩, fun b hb => ?_⟩
    · have e1 : ((i + 1 : Nat) : Int) = (i : Int) + 1 := by omega
      rw [e1]; exact he'
    · have hb' : b < s.heap.objs.size := by
        have e' : b = e ∨ b = it := by simpa using hb
        rcases e' with z | z
        · rw [z]; exact hel
        · rw [z]; exact hil
      rw [upd_ne (Nat.ne_of_lt hb')]
      exact (hf b hb).1
  done := by
    intro X hP hw hK hc i pins s σ H E I hf st hg
    subst hP hw hK
    obtain ⟨⟨old, he⟩, hit⟩ := st
    obtain ⟨xs, hq, hx⟩ := hg
    obtain ⟨its, rv, p, _⟩ := Inv.seqK I hq
    obtain ⟨f0, f1, f2, f3, f4, f5⟩ := hf it (by simp)
    have hh : X.A.in1.handled = none := I.ok.hd hc
    have en : i = its.toArray.size := by rw [hx, rv.length]; simp
    exact wpAny_pyNext_enum_endD (drawK k hh it a na its.toArray) he (by rw [← en]; exact ⟨hit, p⟩) fun h' eb => ⟨rfl, I.turned (t' := s.toks) (fun b o hb q => eb b o hb q) f0 f1 f3 f4 f5⟩
  self := fun A i s Q E st h => let ⟨⟨_, he⟩, _⟩ := st; wpAny_pyIter_enum he h
def iEnumK (k : Bool) (K : PySem.W.Frag) (ta : TA) : TI := fun σ H R => ta σ H fun vs H1 => ∃ a xs, vs = [.ref a] ∧ SqK k K H1 a xs ∧ R (IteK k K a) H1
theorem pi_enumK {k : Bool} {X : Cx} {e : Expr} {ta : TA} {p pos tpos : Pos} {elts : List Expr} {kk : Nat} (hg : Gl X "enumerate") (hm : X.mg "enumerate" = none) (ha : PA X [e] ta) (hs : starEach [e] X.env = [(false, eval e X.env)] := by rfl) :
    L2.PI X (.Tuple elts kk tpos) (.Call (.Name "enumerate" p) [e] [] pos) (iEnumK k X.K ta) := by
  refine ⟨fun pins s σ H R I h => ?_⟩
  refine Call_ (ld_blt I hg hm boot_enumerate (PyProof.Rows.callWith_type1 (thn (ha.run pos pins s σ H _ I h) fun us s1 ⟨vs, H1, I1, r1, q1⟩ => ?_) hs rfl))
  obtain ⟨a, xs, ex, hq, q⟩ := q1
  subst ex
  cases r1 with
  | cons r rr =>
    cases rr
    cases r
    obtain ⟨its, rv, p', la⟩ := Inv.seqK I1 hq
    refine ph_enum (beginK k a its.toArray) p' fun h' he hit hsz hk => wpAny_pyIter_enum he ?_
    have I2 : Inv X pins σ H1 { s1 with heap := h' } := I1.kept (t' := s1.toks) hk
    refine ⟨s1.heap.objs.size + 1, [s1.heap.objs.size + 1, s1.heap.objs.size], _, _, H1, rfl, I2, turn_enumK a (s1.heap.objs.size + 1) s1.heap.objs.size (Nat.ne_of_lt la) (Nat.succ_ne_self _) (Nat.ne_of_gt (Nat.lt_succ_of_lt la)), ⟨⟨.none, he⟩, itoK_it hit⟩, fun b hb => ?_, q⟩
    have e' : b = s1.heap.objs.size + 1 ∨ b = s1.heap.objs.size := by simpa using hb
    have hle : s1.heap.objs.size ≤ b := by
      rcases e' with z | z
      · rw [z]; exact Nat.le_add_right _ _
      · rw [z]; exact Nat.le_refl _
    exact I1.fpOk hle (I1.hok.fresh hle)
theorem walk_enumK {k : Bool} {K : PySem.W.Frag} {a : Addr} {xs : List V} : Walk (IteK k K a) xs.length (fun H => SqK k K H a xs) (YPair (fun i => some (.int (i : Nat))) (fun i => xs[i]?)) := by
  refine ⟨fun i _ hi q => ⟨xs, xs[i], q, by simp [hi]⟩, fun _ q => ⟨xs, q, rfl⟩, fun i H v H' _ q y => ?_⟩
  obtain ⟨T, x, h1, h2, h3, h4⟩ := y
  exact ⟨T, _, x, h1, h2, h3, rfl, h4 xs q⟩
end Ph

set_option maxHeartbeats 4000000
/-! PhErr: own errors: isinstance of a caught error that may have a dict, by one class or a tuple of classes; a class called without arguments. -/
namespace Ph
open PySem PySem.Spec PyProof.Rows L2
/-- the dict of a caught error: none, or one that is told -/
def DictK (H : Hp) (d : Option Addr) : Prop := d = none ∨ ∃ dd fs, d = some dd ∧ H dd = some (.xd fs)
section
variable {X : Cx}
/-- isinstance(e, c): e at a, of the class cls, with the dict d -/
def rIsX (K : PySem.W.Frag) (a : Addr) (cls : Value) (d : Option Addr) : List V → Hp → VK → Prop := fun xs H Q => ∃ (D : Addr) (c : V) (cv : Value) (b : Bool), xs = [.ref a, c] ∧ cls = .ref D ∧ ExcC K D ∧ DictK H d ∧ (∀ u, RelV c u → u = cv) ∧ PySem.W.kitOne K (.ref D) cv = some b ∧ Q (.bl b) H
/-- isinstance(e, (c, ..)) -/
def rIsXt (K : PySem.W.Frag) (a : Addr) (cls : Value) (d : Option Addr) : List V → Hp → VK → Prop := fun xs H Q => ∃ (D t : Addr) (cs : List V) (cvs : List Value) (b : Bool), xs = [.ref a, .ref t] ∧ cls = .ref D ∧ ExcC K D ∧ DictK H d ∧ H t = some (.tup cs) ∧
  (∀ us, Vals cs us → us = cvs) ∧ PySem.W.kitAny K (.ref D) cvs = some b ∧ Q (.bl b) H
/-! ### C(), C's own __init__ doing nothing -/
def spIni0 : Sp := fun vs H Q _ => ∃ a : Addr, vs = [.ref a] ∧ Q .non H
/-- the way out: class C, no dict -/
def tMk0 (C : Addr) : L2.St → Hp → XK → Prop := fun _ H Q => Q (.ref C) none H
end
end Ph

/-! PhErm: a method called where its errors are caught: what leaves may speak of the slots. -/
namespace Ph
open PySem PySem.Spec PyProof.Rows L2
def tMethE (C : Addr) (m : Str) (sp : Sp) (E : L2.St → XK) (ta : TE) (t : TA) : TE := fun σ H Q => ta σ H fun x H1 => ∃ a dx fs, x = .ref a ∧ H1 a = some (.ins C dx fs) ∧ fs.lookup m = none ∧ t σ H1 fun vs H2 => sp (.ref a :: vs) H2 Q (E σ)
section
variable {X : Cx} {CX : CXT} {k : Nat} {f C : Addr} {fd : FuncData} {ps : List Str} {sp : Sp} {E : L2.St → XK} {m : Str} {pos apos : Pos} {e o : Expr} {es : List Expr} {ta : TE} {t : TA}
theorem pe_methE {pl : Sem Bool} (he : PE X o ta) (c : Cls X.K C) (hm : Meth X.K C m f) (F : FnOk X.prog X.w X.K X.mg X.base CX k f fd ps sp) (hr : Room k X.A) (hb : Binds X.K fd ps []) (hx : ∀ σ, PassesAt CX X σ (E σ)) (ha : PA X (e :: es) t)
    (hst : starEach (e :: es) X.env = (false, eval e X.env) :: starEach es X.env := by rfl) (hpl : (backTo pos (starEach es X.env)).any (·.1) = false := by rfl)
    (ht : eval (.Call (.Attribute o m apos) (e :: es) [] pos) X.env = (do
      let ov ← eval o X.env
      standAt apos.atName
      let (f, first) ← holding [ov] (getMethod ov m pl)
      callWith pos f first (backTo pos (starEach (e :: es) X.env)) (backToKw pos (keywordEach [] X.env))) := by rfl) :
    PE X (.Call (.Attribute o m apos) (e :: es) [] pos) (tMethE C m sp E ta t) := by
  constructor
  intro pins s σ H Q I h
  refine PySem.W.methodCall_KW (pl := pl) (thn (he.run pins s σ H _ I h) fun u s1 w => ?_) ht
  obtain ⟨x, H1, I1, rx, a, dx, fs, rfl, ea, l, q⟩ := w
  obtain rfl : u = Value.ref a := rx
  refine getmeth_ok I1 ea c hm l (PySem.W.callWith_K (first := [.ref a]) (h₀ := X.base) I.ok.mod.kin hm.kp (thn (ha.run pos pins s1 σ H1 _ I1 q) fun us s2 w2 => ?_) hst hpl)
  obtain ⟨vs, H2, I2, r, q2⟩ := w2
  exact ⟨I2.kIn, run_fnS (us := .ref a :: us) (vs := .ref a :: vs) F hr hb (hx σ) I2 (.cons rfl r) q2⟩
end
end Ph

namespace Ph
open PySem PySem.Spec PyProof.Rows L2 PySem.Calls HT
section
variable {prog : Program} {w : World} {A : Around} {E : Value → Shared → Prop} {s : Shared}
end
section
variable {X : Cx}
/-- t[::-1] of a tuple -/
def tRevT (K : PySem.W.Frag) (te : TE) : TE := fun σ H Q => te σ H fun x H1 => ∃ a xs, x = .ref a ∧ SqT K H1 a xs ∧ ∀ p, H1 p = none → Q (.ref p) (upd H1 p (.tup xs.reverse))
/-- repr(True), repr(False) -/
def tx (b : Bool) : Str := if b then "True" else "False"
end
end Ph

/-! PhEv2: t[::2] of a tuple: every second item. -/
namespace Ph
open PySem PySem.Spec PyProof.Rows L2 PySem.Calls HT
section
variable {prog : Program} {w : World} {A : Around} {E : Value → Shared → Prop} {s : Shared}
def half (n : Nat) : Nat := Builtin.Slice.slicePlaces 0 (n : Int) 2
def evens {α : Type} (xs : List α) : List α := (List.range (half xs.length)).filterMap fun (k : Nat) => xs[((0 : Int) + (k : Int) * 2).toNat]?
end
section
variable {X : Cx}
/-- t[::2] of a tuple -/
def tEvT (K : PySem.W.Frag) (te : TE) : TE := fun σ H Q => te σ H fun x H1 => ∃ a xs, x = .ref a ∧ SqT K H1 a xs ∧ ∀ p, H1 p = none → Q (.ref p) (upd H1 p (.tup (evens xs)))
end
end Ph

set_option maxHeartbeats 4000000
/-! PhTab: the end of a law whose defs make lambdas or defs (their code objects' tables are tracked), the guards known. -/
namespace Ph
open PySem PySem.Spec PyProof.Rows L2 LamX
/-- code objects and their tables: empty at the start, no part of the written part -/
structure TabsE (K : PySem.W.Frag) (h : Heap) (cs : List (Addr × Addr)) : Prop where
  em : ∀ p ∈ cs, h.get? p.2 = some { cls := .none, data := .fields #[] }
  out : ∀ p ∈ cs, K.lookup p.2 = none
  cd : ∀ p ∈ cs, PySem.W.CodeHd h p.1 p.2
theorem TabsE.at {K : PySem.W.Frag} {h : Heap} {cs : List (Addr × Addr)} (T : TabsE K h cs) {b : Addr} (hb : b ∈ cs.map (·.2)) : h.get? b = some { cls := .none, data := .fields #[] } ∧ K.lookup b = none ∧ ∃ c, PySem.W.CodeHd h c b := by
  obtain ⟨p, hp, rfl⟩ := List.mem_map.mp hb
  exact ⟨T.em p hp, T.out p hp, p.1, T.cd p hp⟩
section
variable {P : Program} {w : World} {K : PySem.W.Frag} {mg mb : Str → Option Value} {k : Nat} {fa a : Addr} {fd : FuncData} {x : Str} {sp : Sp} {s₁ : Shared} {vs : List Value} {ns : List Int} {cs : List (Addr × Addr)}
theorem end_coreT (T : TabsE K s₁.heap cs) (KX : K.In s₁.heap) (hns : s₁.heap.Ns mainGlobals mg) (hb : s₁.heap.Ns builtinsNs mb) (hbb : ∀ z : Str, z ≠ "__name__" → mb z = bootBuiltins z) (lim : s₁.heap.NoLimit) (gens : s₁.gens = #[])
    (hbm : ∃ (bm : Addr) (ob : Obj), mg "__builtins__" = some (.ref bm) ∧ bm ≠ builtinsNs ∧ s₁.heap.get? bm = some ob ∧ ob.cls = .type "module" ∧ ob.dict = some builtinsNs ∧ ob.data = .plain)
    (isList : ∃ (vz : Array Value) (nz : Nat), s₁.heap.get? a = some { cls := .type "list", data := .seq vz nz }) (room : Room k callerA) (F : ∀ base : Heap, K.In base → base.Ns mainGlobals mg → (∀ p ∈ cs, TabB base mg p.1 p.2) → FnG P w K mg base CX0 k fa fd [x] sp) (bnd : ∀ (s : Shared) (u : Value), BindsTo s fd ⟨[u], []⟩ [(x, u)])
    (H : Hp) (alone : ∀ b o, H b = some o → (b = a ∧ ∃ ob zs, o = .frz ob (.lst zs)) ∨ (b ∈ cs.map (·.2) ∧ o = .tbl #[])) (tabs : ∀ p ∈ cs, H p.2 = some (.tbl #[])) (ok : HOk P w H s₁.heap) (free : H a ≠ none → K.lookup a = none) (want : sp [.ref a] H (fun v _ => v = .bl true) fun _ _ _ => False) :
    codeAny (model P w) callerA (.call (.ref fa) ⟨[.ref a], []⟩) (LawEnd s₁) s₁ := by
  obtain ⟨vz, nz, ha⟩ := isList
  -- what is neither a list nor an empty table is not tracked
  have plain : ∀ {b : Addr} {o : Obj}, s₁.heap.get? b = some o → (∀ v m, o.data ≠ .seq v m) → o.data ≠ .fields #[] → H b = none := fun {b o} g n1 n2 => by
    cases z : H b with
    | none => rfl
    | some u =>
      rcases alone b u z with ⟨e, _⟩ | ⟨e, _⟩
      · rw [e, ha] at g
        cases g
        exact absurd rfl (n1 vz nz)
      · rw [(T.at e).1] at g
        cases g
        exact absurd rfl n2
  have dictFree : ∀ {b : Addr} {o : Obj} {es : Array DictEntry} {ep : Nat}, s₁.heap.get? b = some o → o.data = .dict es ep → H b = none := fun g d => plain g (fun v m z => by rw [d] at z; cases z) fun z => by rw [d] at z; cases z
  have ns2 : ∀ {b : Addr} {m : Str → Option Value}, s₁.heap.Ns b m → (hidT s₁.heap H).Ns b m := fun ⟨o, es, ep, g, d, rest⟩ => ⟨o, es, ep, hidT_get g (dictFree g d), d, rest⟩
  have kin : K.In (hidT s₁.heap H) := fun b o g => hidT_get (KX b o g) (by
    cases z : H b with
    | none => rfl
    | some u =>
      rcases alone b u z with ⟨e, _⟩ | ⟨e, _⟩
      · subst e
        rw [free (by rw [z]; exact fun q => nomatch q)] at g
        cases g
      · rw [(T.at e).2.1] at g
        cases g)
  have modu : L2.Mod K mg (hidT s₁.heap H) := ⟨kin, ns2 hns, ⟨mb, ns2 hb, hbb⟩, let ⟨mc, z1, z2⟩ := lim; ⟨mc, ns2 z1, z2⟩⟩
  have made : ∀ p ∈ cs, TabB (hidT s₁.heap H) mg p.1 p.2 := fun p hp => by
    constructor
    · obtain ⟨o, us, file, tf, flags, tg, inF, text, tt, e1, r1, r2, r3, rest⟩ := T.cd p hp
      refine ⟨o, us, file, tf, flags, tg, inF, text, tt, hidT_get e1 (plain e1 (fun v m z => by rw [r2] at z; cases z) fun z => ?_), r1, r2, r3, rest⟩
      rw [r2] at z
      cases z
      simp at r3
    · obtain ⟨bm, ob, b1, b2, b3, b4, b5, b6⟩ := hbm
      refine ⟨bm, ob, b1, b2, fun q => ?_, fun q => ?_, hidT_get b3 (plain b3 (fun v m z => by rw [b6] at z; cases z) fun z => by rw [b6] at z; cases z), b4, b5, b6⟩
      · obtain ⟨o, es, ep, e, hd, _⟩ := hns
        rw [q, e] at b3
        cases b3
        rw [hd] at b6
        cases b6
      · rw [q, T.em p hp] at b3
        cases b3
        cases b6
    · intro z
      obtain ⟨o, es, ep, e, hd, _⟩ := hns
      rw [z, T.em p hp] at e
      cases e
      cases hd
  have env : Env0 P w K mg (hidT s₁.heap H) callerA [] s₁ H := ⟨rfl, modu, fun b o g => of_hidT g, Nat.le_of_eq (hidT_size _ _), trivial, fun b hb => (List.not_mem_nil hb).elim, ok, .of_eq gens⟩
  refine codeAny_mono ((F _ kin (ns2 hns) made).go callerA [] s₁ H ⟨[.ref a], []⟩ [.ref a] [.ref a] _ _ rfl room env (bnd s₁ (.ref a)) (.cons rfl .nil) want) fun r s2 out => ?_
  match r, out with
  | .error _, out => exact out.elim
  | .ok (.ret u), ⟨v, H', os, bare, un, ok2, rel, good⟩ =>
    have good' : v = .bl true := good
    subst good'
    obtain rfl : u = Value.bool true := rel
    have fixed : ∀ {b : Addr} {o : Obj}, b ∉ cs.map (·.2) → s₁.heap.get? b = some o → s2.heap.get? b = some o := fun {b o} nb g => by
      cases z : H b with
      | none => exact un.keep b o g z (fun q => (List.not_mem_nil q).elim) (by simp)
      | some u =>
        rcases alone b u z with ⟨_, ob, zs, rfl⟩ | ⟨e, _⟩
        · obtain ⟨e1, _⟩ := ok b _ z
          obtain ⟨e2, _⟩ := ok2 b _ (un.frzs b ob _ z)
          rw [g] at e1
          cases e1
          exact e2
        · exact absurd e nb
    have more : ∀ {b : Addr}, b ∈ cs.map (·.2) → ∃ vs2 : Array Value, s2.heap.get? b = some { cls := .none, data := .fields vs2 } := fun {b} hb => by
      obtain ⟨p, hp, rfl⟩ := List.mem_map.mp hb
      obtain ⟨m2, z⟩ := un.tbls p.2 #[] (tabs p hp)
      exact ⟨_, ok2 p.2 _ z⟩
    refine ⟨rfl, ⟨fun b o g => ?_, fun b o g => ?_⟩, os, bare⟩
    · by_cases hb : b ∈ cs.map (·.2)
      · obtain ⟨em, _, c, cd⟩ := T.at hb
        obtain ⟨vs2, g2⟩ := more hb
        rw [em] at g
        cases g
        exact .inr (.inl ⟨(cd.tab em).isCodeTable, rfl, #[], vs2, rfl, by rw [Array.empty_append]; exact g2⟩)
      · exact .inl (fixed hb g)
    · by_cases hb : b ∈ cs.map (·.2)
      · exact (more hb).elim fun vs2 g2 => ⟨_, g2⟩
      · exact ⟨o, fixed hb g⟩
theorem end_callT (T : TabsE K s₁.heap cs) (KX : K.In s₁.heap) (hns : s₁.heap.Ns mainGlobals mg) (hb : s₁.heap.Ns builtinsNs mb) (hbb : ∀ z : Str, z ≠ "__name__" → mb z = bootBuiltins z) (lim : s₁.heap.NoLimit) (gens : s₁.gens = #[])
    (hbm : ∃ (bm : Addr) (ob : Obj), mg "__builtins__" = some (.ref bm) ∧ bm ≠ builtinsNs ∧ s₁.heap.get? bm = some ob ∧ ob.cls = .type "module" ∧ ob.dict = some builtinsNs ∧ ob.data = .plain)
    (ha : s₁.heap.get? a = some { cls := .type "list", data := .seq vs.toArray }) (hi : IntsAre vs ns) (hl : ns.length ≤ sizeLine) (room : Room k callerA) (F : ∀ base : Heap, K.In base → base.Ns mainGlobals mg → (∀ p ∈ cs, TabB base mg p.1 p.2) → FnG P w K mg base CX0 k fa fd [x] sp) (bnd : ∀ (s : Shared) (u : Value), BindsTo s fd ⟨[u], []⟩ [(x, u)])
    (want : ∀ H : Hp, (∀ p ∈ cs, H p.2 = some (.tbl #[])) → SqL K H a (ns.map V.int) → sp [.ref a] H (fun v _ => v = .bl true) fun _ _ _ => False) :
    codeAny (model P w) callerA (.call (.ref fa) ⟨[.ref a], []⟩) (LawEnd s₁) s₁ := by
  have notT : a ∉ cs.map (·.2) := fun z => by
    have g := (T.at z).1
    rw [ha] at g
    cases g
  have memT : ∀ p ∈ cs, p.2 ∈ cs.map (·.2) := fun p hp => List.mem_map_of_mem hp
  let HT : Hp := fun b => if b ∈ cs.map (·.2) then some (.tbl #[]) else none
  have HTy : ∀ {b}, b ∈ cs.map (·.2) → HT b = some (.tbl #[]) := fun h => if_pos h
  have HTn : ∀ {b}, b ∉ cs.map (·.2) → HT b = none := fun h => if_neg h
  cases lk : K.lookup a with
  | some o =>
    have g := KX a o lk
    rw [ha] at g
    cases g
    refine end_coreT T KX hns hb hbb lim gens hbm ⟨_, _, ha⟩ room F bnd HT (fun b o z => ?_) (fun p hp => HTy (memT p hp)) (fun b u z => ?_) (fun z => absurd (HTn notT) z) (want _ (fun p hp => HTy (memT p hp)) (.inr ⟨_, vs.toArray, _, lk, rfl, rfl, rfl, by rw [List.size_toArray, hi.length]; exact hl, by simpa using vals_ints hi⟩))
    · by_cases h : b ∈ cs.map (·.2)
      · exact .inr ⟨h, (Option.some.inj ((HTy h).symm.trans z)).symm⟩
      · rw [HTn h] at z
        cases z
    · by_cases h : b ∈ cs.map (·.2)
      · have e := Option.some.inj ((HTy h).symm.trans z)
        subst e
        exact (T.at h).1
      · rw [HTn h] at z
        cases z
  | none =>
    let HS : Hp := upd HT a (.frz { cls := .type "list", data := .seq vs.toArray } (.lst (ns.map V.int)))
    have onT : ∀ p ∈ cs, HS p.2 = some (.tbl #[]) := fun p hp => (upd_ne (fun z => notT (by rw [← z]; exact memT p hp))).trans (HTy (memT p hp))
    refine end_coreT T KX hns hb hbb lim gens hbm ⟨_, _, ha⟩ room F bnd HS (fun b o z => ?_) onT (fun b u z => ?_) (fun _ => lk) (want _ onT (.inl (.inr ⟨_, upd_same⟩)))
    · by_cases e : b = a
      · subst e
        have z' := Option.some.inj (upd_same.symm.trans z)
        exact .inl ⟨rfl, _, _, z'.symm⟩
      · have z1 : HT b = some o := (upd_ne e).symm.trans z
        by_cases h : b ∈ cs.map (·.2)
        · exact .inr ⟨h, (Option.some.inj ((HTy h).symm.trans z1)).symm⟩
        · rw [HTn h] at z1
          cases z1
    · by_cases e : b = a
      · subst e
        have z' := Option.some.inj (upd_same.symm.trans z)
        subst z'
        exact ⟨ha, by rw [List.length_map]; exact hl, vs, _, vals_ints hi, ha⟩
      · have z1 : HT b = some u := (upd_ne e).symm.trans z
        by_cases h : b ∈ cs.map (·.2)
        · have e2 := Option.some.inj ((HTy h).symm.trans z1)
          subst e2
          exact (T.at h).1
        · rw [HTn h] at z1
          cases z1
end
/-- what the head tells of the tables of the defs that are named -/
def TabsTold (q : Program) (K : PySem.W.Frag) (h : Heap) : Prop := ∀ (x : Str) (c P : Addr), ((recsOf q).find? fun e => e.name == x).isSome = true → PySem.W.tabIn K x = some (c, P) → PySem.W.CodeHd h c P ∧ h.get? P = some { cls := .none, data := .fields #[] }
theorem walkTG {l : PySem.W.OpenLaw} {n k : Nat} {q : Program} {loose : List Str} {XP : (Str → Option Value) → Heap → Prop} {YP : World → Heap → Prop} {d : DefRec} {K : Params → PySem.W.Frag} {sp : PySem.W.Frag → List (Addr × Addr) → Sp} {x : Str}
    (hn : l.most = some n) (hn2 : n ≤ sizeLine) (hdf : d.params.defaults = []) (room : Room k callerA) (hY : ∀ (w : World) (h : Heap), YP w h → (K w.params).In h)
    (F : ∀ (w : World) (mg : Str → Option Value) (fa : Addr) (h : Heap), (K w.params).In h → h.Ns mainGlobals mg → mg d.name = some (.ref fa) → TabsTold q (K w.params) h →
      ∃ (fd : FuncData) (cs : List (Addr × Addr)), TabsE (K w.params) h cs ∧ (∀ (s : Shared) (u : Value), BindsTo s fd ⟨[u], []⟩ [(x, u)]) ∧
        (∀ (H : Hp) (a : Addr) (ns : List Int), ns.length ≤ n → (∀ p ∈ cs, H p.2 = some (.tbl #[])) → SqL (K w.params) H a (ns.map V.int) → sp (K w.params) cs [.ref a] H (fun v _ => v = .bl true) fun _ _ _ => False) ∧
        ∀ base : Heap, (K w.params).In base → base.Ns mainGlobals mg → (∀ p ∈ cs, TabB base mg p.1 p.2) → FnG l.prog w (K w.params) mg base CX0 k fa fd [x] (sp (K w.params) cs)) :
    PySem.W.WalkO q loose XP YP l.row.toRowW d [] (fun f vs => PySem.call f vs) := by
  refine Att.attach_call hn hdf fun w s₀ s₁ mg mb fa o pm cd doc a vs ns G Y ho hd hcd hmg hobj hints hlen hg => ?_
  obtain ⟨fd, cs, T, bnd, want, hF⟩ := F w mg fa _ (hY w _ Y) G.T.g hmg fun y c P hr ht => by
    obtain ⟨d2, hd2⟩ := Option.isSome_iff_exists.mp hr
    exact PySem.W.tab_of G.T (hY w _ Y) hd2 ht
  exact end_callT T (hY w _ Y) G.T.g G.T.b G.T.builtins G.T.nolimit hg G.T.bmain hobj hints (Nat.le_trans hlen hn2) room hF bnd fun H hT hS => want H a ns hlen hT hS
end Ph

set_option maxHeartbeats 4000000
/-! PhTry: try .. except X as e: the error kept as a value behind the suite; isinstance and fields of it there. -/
namespace Ph
open PySem PySem.Spec PyProof.Rows L2
/-- a caught error that a name still holds: its class, its dict -/
def ExK (cls : Value) (d : Option Addr) (a : Addr) : HO := .ext fun g => ∃ (ob : Obj) (fs : Array Value), g.get? a = some ob ∧ Zc cls d ob ∧ ob.data = .fields fs
section
variable {X : Cx} {pins : List (Addr × Obj)} {σ : L2.St} {H : Hp} {s : Shared}
/-- an object that came up in this call is tracked from now on -/
theorem track_of {a : Addr} {ob : Obj} {fs : Array Value} {cls : Value} {d : Option Addr} (I : Inv X ((a, ob) :: pins) σ H s) (z : Zc cls d ob) (hf : ob.data = .fields fs) (fresh : X.s_0.heap.get? a = none) (apart : ∀ p ∈ X.pn ++ pins, p.1 ≠ a) :
    Inv X pins σ (upd H a (ExK cls d a)) s := by
  obtain ⟨get, none_, notL, _, _⟩ := I.pin (a, ob) (List.mem_append_right _ List.mem_cons_self)
  have keepH : ∀ {b u}, H b = some u → upd H a (ExK cls d a) b = some u := fun {b u} e => (upd_ne (ne_of_none e none_)).trans e
  have notC : ∀ y c, X.env.cells.lookup y = some c → c ≠ a := fun y c e q => by
    obtain ⟨v, o2, g2, d2⟩ := I.cell y c e
    rw [q, get] at g2
    cases g2
    rw [hf] at d2
    cases d2
  have old : ∀ {b o}, X.s_0.heap.get? b = some o → b ≠ a := fun {b o} e q => by
    rw [q, fresh] at e
    cases e
  exact {
    ok := I.ok
    os := I.os
    bare := I.bare
    base := {
      keep := I.base.keep
      slot := I.base.slot
      free := fun b o e n x => (upd_ne (old e)).trans (I.base.free b o e n x)
      there := I.base.there
      tups := fun b xs e => keepH (I.base.tups b xs e)
      frzs := fun b o u e => keepH (I.base.frzs b o u e)
      tbls := fun b ps e => (I.base.tbls b ps e).elim fun m q => ⟨m, keepH q⟩ }
    loc := I.loc
    cell := I.cell
    free := (upd_ne notL.symm).trans I.free
    freeC := fun y c e => (upd_ne (notC y c e)).trans (I.freeC y c e)
    pin := fun p hp => by
      obtain ⟨q1, q2, q3⟩ := I.pin p ((List.mem_append.mp hp).elim (fun y => List.mem_append_left _ y) fun y => List.mem_append_right _ (List.mem_cons_of_mem _ y))
      exact ⟨q1, (upd_ne (apart p hp)).trans q2, q3⟩
    hok := fun b u e => by
      by_cases h : b = a
      · subst h
        rw [upd_same] at e
        cases e
        exact ⟨⟨ob, fs, get, z, hf⟩, ⟨ob, get⟩, fun g1 g2 ⟨o2, f2, y1, y2⟩ y3 => ⟨o2, f2, y3 _ y1, y2⟩⟩
      · rw [upd_ne h] at e
        exact (I.hok b u e).stay (fun _ _ _ y => y) (fun _ y => keepH y) fun _ _ y => keepH y
    len := I.len }
end
/-- the wish of 'except X as n' (slot i), the error still known behind the suite -/
def wKept (K : PySem.W.Frag) (c : Value) (i : Nat) (ts : Addr → Value → Option Addr → TS) (D : Ends) : WX := fun cls d σ H =>
  PySem.W.exmOne K cls c = some true ∧ ∀ a, H a = none → ts a cls d ⟨fun σ' H' => H' a = none → D.nx (σ'.set i none) (upd H' a (ExK cls d a)), D.rt, fun σ' H' => D.bk (σ'.set i none) H', fun σ' H' => D.ct (σ'.set i none) H'⟩ (σ.set i (some (.ref a))) H
section
variable {X : Cx} {x n : Str} {c : Value} {i : Nat} {body suite : List Stmt} {st₀ : Stmt} {np pos pos' : Pos} {tb : WX → TS} {ts : Addr → Value → Option Addr → TS}
theorem ps_try_keep (stk : X.stack = X.env :: X.outer) (fr : X.env.frame = some X.env.locals) (hex : X.ex = []) (nd : X.N.Nodup) (slot : X.N[i]? = some n) (kd : X.env.kindOf n = some .local) (hc : Names X x c)
    (hbody : ∀ (W : WX) (pn : List (Addr × Obj)) (xe : Value → Shared → Prop), Takes (X.tr pn xe) W → PassesOwn (model X.prog X.w) X.A X.env xe → PSs (X.tr pn xe) body (tb W))
    (hsuite : ∀ (a : Addr) (oe : Obj) (cls : Value) (d : Option Addr) (pn : List (Addr × Obj)), Zc cls d oe → (∃ fs, oe.data = .fields fs) → PSs (X.suite a ((a, oe) :: pn)) (st₀ :: suite) (ts a cls d)) :
    PS X (.Try body [.ExceptHandler (some (.Name x np)) (some n) (st₀ :: suite) pos'] [] [] pos) (fun D σ H => tb (wKept X.K c i ts D) D σ H) := by
  constructor
  intro pins s σ H D I want
  have allFr : X.A.frames = some (X.env :: X.outer) := by rw [← stk]; exact I.ok.frames
  let Xt : Value → Shared → Prop := fun e t1 => wpAny (model X.prog X.w) X.A (noteFrame e X.env) (fun _ t2 => wpAny (model X.prog X.w) X.A (setFlight e none) (fun _ t3 =>
    wpAny (model X.prog X.w) X.A (handleBy e X.env [.ExceptHandler (some (.Name x np)) (some n) (st₀ :: suite) pos']) (SP X pins D) X.xe t3) X.xe t2) X.xe t1
  have catch_ : Takes (X.tr (X.pn ++ pins) Xt) (wKept X.K c i ts D) := by
    rintro u s' ⟨a, B, sI, pins', σ', H', cls, d, rfl, J', inB, up, sky, na, hos, bare, hexm, hyes⟩
    have J : Inv X pins σ' H' sI := J'.ofTry I.ok
    have sky2 : Sky B (X.env :: X.outer) a (Zc cls d) X.env.locals s'.heap := stk ▸ sky
    show wpAny (model X.prog X.w) X.A (noteFrame (.ref a) X.env) _ _ _
    refine Sky.land Zc.steady allFr fr sky2 fun g3 fly3 up3 => ?_
    have J3 : Inv X pins σ' H' { s' with heap := g3 } := J.landed inB fly3.1 (up.trans up3) hos bare
    obtain ⟨o3, f3, at3, z3, d3⟩ := fly3.there
    have offFr : ∀ {g : Heap} {o : Obj} {f : Array Value}, g.FunFrames B (X.env :: X.outer) → g.get? a = some o → o.data = .fields f → a ∉ frs (X.env :: X.outer) := fun ff e dd hm => by
      obtain ⟨_, o2, e2, no2⟩ := ff.mem hm
      rw [e] at e2
      cases e2
      exact no2 _ dd
    have off := offFr fly3.2.2.1 at3 d3
    have offL : a ≠ X.env.locals := fun z => off (List.mem_filterMap.mpr ⟨X.env, List.mem_cons_self, by rw [fr, z]⟩)
    have offO : a ∉ X.fs := fun hm => (List.mem_filterMap.mp hm).elim fun e q => off (List.mem_filterMap.mpr ⟨e, List.mem_cons_of_mem _ q.1, q.2⟩)
    have newI : sI.heap.get? a = none := by
      cases q : sI.heap.get? a with
      | none => rfl
      | some o =>
        have := inB a o q (by rw [stk]; exact off)
        rw [fly3.2.1] at this
        cases this
    have new0 : X.s_0.heap.get? a = none := by
      cases q : X.s_0.heap.get? a with
      | none => rfl
      | some o =>
        obtain ⟨o2, q2⟩ := J.base.there a o q (by rw [hex]; exact fun y => nomatch y)
        rw [newI] at q2
        cases q2
    have apart : ∀ p ∈ X.pn ++ pins, p.1 ≠ a := fun p hp q => by
      have := (J.pin p hp).1
      rw [q, newI] at this
      cases this
    have S3 := J3.suite at3 d3 na offL offO
    refine wpAny_handleBy_cons (codeAny_handlers_test ?_) (fun q => nomatch q)
    have typ : PySem.W.Looks (model X.prog X.w) g3 (typeOf (.ref a)) cls := fun A Q E s k q => wpAny_typeOf_ref (k _ _ at3) (z3.1.symm ▸ q)
    have asks := PySem.W.exm_one (M := model X.prog X.w) J3.kIn typ hexm
    have named : ∀ {Q E : Value → Shared → Prop}, Q c { s' with heap := g3 } → wpAny (model X.prog X.w) (X.A.mark (some (.ref a))) (eval (.Name x np) X.env) Q E { s' with heap := g3 } := fun {Q E} q => by
      rcases hc with ⟨gl, dbg, own | ⟨out, boot, nn⟩⟩
      · exact ld_glob (X := X.suite a ((a, o3) :: (X.pn ++ pins))) S3 gl own q dbg
      · exact ld_blt (X := X.suite a ((a, o3) :: (X.pn ++ pins))) S3 gl out boot q nn dbg
    refine named (asks.here ?_)
    refine codeAny_handlers_suite_as (HandSPX.lands_againZ fly3 fun g4 fly4 up4 => ?_)
    have J4 : Inv X pins σ' H' { s' with heap := g4 } := J.landed inB fly4.1 ((up.trans up3).trans up4) hos bare
    obtain ⟨o4, f4, at4, z4, d4⟩ := fly4.there
    have S4 := J4.suite at4 d4 na offL offO
    refine store_ok (X := X.suite a ((a, o4) :: (X.pn ++ pins))) (v := .ref a) S4 nd slot (.inl kd) rfl (fun s5 S5 => ?_) (.inr kd)
    refine wpAny_mono ((hsuite a o4 cls d (X.pn ++ pins) z4 ⟨_, d4⟩).run [] s5 _ H' _ S5 (hyes a na)) (fun flow s6 out => ?_) (fun _ _ y => y.elim)
    have plain : ∀ {σ6 : L2.St} {H6 : Hp} {Q : Shared → Prop}, Inv (X.suite a ((a, o4) :: (X.pn ++ pins))) [] σ6 H6 s6 → (∀ s7, Inv X pins (σ6.set i none) H6 s7 → Q s7) →
        wpAny (model X.prog X.w) X.A (do bindName X.env n .none; unbindBehindTheSuite X.env n pos') (fun _ s7 => Q s7) X.xe s6 := fun S6 hq => gone_ok (S6.unsuite I.ok) nd slot kd hq
    match flow, out with
    | .next, ⟨σ6, H6, S6, q6⟩ =>
      have P6 : Inv X ((a, o4) :: pins) σ6 H6 s6 := (S6.unsuite I.ok).pins_of fun p hp => S6.pin p (List.mem_append_left _ ((List.mem_cons.mp hp).elim (fun e => e ▸ List.mem_cons_self) fun e => List.mem_cons_of_mem _ (List.mem_append_right _ e)))
      exact gone_ok P6 nd slot kd fun s7 J7 => ⟨_, _, track_of J7 z4 d4 new0 apart, q6 (J7.pin (a, o4) (List.mem_append_right _ List.mem_cons_self)).2.1⟩
    | .brk, ⟨σ6, H6, S6, q6⟩ => exact plain S6 fun s7 J7 => ⟨_, _, J7, q6⟩
    | .cont, ⟨σ6, H6, S6, q6⟩ => exact plain S6 fun s7 J7 => ⟨_, _, J7, q6⟩
    | .ret u, ⟨v6, σ6, H6, S6, r6, q6⟩ => exact plain S6 fun s7 J7 => ⟨_, _, _, J7, r6, q6⟩
  refine wpAny_Try_except (wpAny_mono ((hbody _ _ _ catch_ PassesOwn.looking).run [] s σ H D (I.toTry _) want) (fun f s1 out => ?_) fun e s1 he => he)
  match f, out with
  | .next, ⟨σ', H', J, q⟩ => exact wpAny_execs_nil ⟨_, _, J.ofTry I.ok, q⟩
  | .brk, ⟨σ', H', J, q⟩ => exact ⟨_, _, J.ofTry I.ok, q⟩
  | .cont, ⟨σ', H', J, q⟩ => exact ⟨_, _, J.ofTry I.ok, q⟩
  | .ret u, ⟨v, σ', H', J, r, q⟩ => exact ⟨_, _, _, J.ofTry I.ok, r, q⟩
end
/-! ### isinstance and fields of a kept error -/
section
variable {X : Cx}
/-- isinstance(e, c), e a kept error -/
def rIsK (K : PySem.W.Frag) : List V → Hp → VK → Prop := fun xs H Q => ∃ (a D : Addr) (d : Option Addr) (c : V) (cv : Value) (b : Bool), xs = [.ref a, c] ∧ H a = some (ExK (.ref D) d a) ∧ ExcC K D ∧ DictK H d ∧ (∀ u, RelV c u → u = cv) ∧ PySem.W.kitOne K (.ref D) cv = some b ∧ Q (.bl b) H
/-- e.f, e a kept error of the class C -/
def tXk (C : Addr) (f : Str) (te : TE) : TE := fun σ H Q => te σ H fun x H1 => ∃ (a dd : Addr) (fs : List (Str × V)) (v : V), x = .ref a ∧ H1 a = some (ExK (.ref C) (some dd) a) ∧ H1 dd = some (.xd fs) ∧ fs.lookup f = some v ∧ Q v H1
end
end Ph

/-! PhCp: the text that repr gives holds code points only. -/
namespace Ph
open PySem PySem.Spec PyProof.Rows L2
/-- all signs are code points -/
def Cp (x : Str) : Prop := ∀ c ∈ x.cps.toList, c < 0x110000
mutual
/-- all texts within hold code points only -/
def cpD : PyData → Bool
  | .none | .bool _ | .int _ => true
  | .str x => PyData.strOk x
  | .list xs | .tuple xs => cpAll xs
  | .dict kvs => cpKv kvs
def cpAll : List PyData → Bool
  | [] => true
  | x :: xs => cpD x && cpAll xs
def cpKv : List (PyData × PyData) → Bool
  | [] => true
  | (k, v) :: r => cpD k && cpD v && cpKv r
end
end Ph

/-! PhOdd: data with dicts: kept where what it reaches is kept; bounds of its text. -/
namespace Ph
open PySem PySem.Spec PyProof.Rows L2
structure Shd (d : PyData) (n k : Nat) : Prop where
  sh : d.showable = true
  dp : d.depth ≤ n
  lv : d.leavesShort 40 = true
  wt : d.weight ≤ k
  cp : cpD d = true
end Ph

/-! PhOd: odd values: nested data, kept whatever becomes of the addresses S (draws, tables). -/
namespace Ph
open PySem PySem.Spec PyProof.Rows L2
/-- a value that is no integer -/
inductive NoInt (K : PySem.W.Frag) (H : Hp) : V → Prop
  | bl (b : Bool) : NoInt K H (.bl b)
  | ty {x : V} {t : String} (h : TyX K H x (.type t)) (n : kitB t "int" = some false) : NoInt K H x
/-- the heap without the addresses S -/
def hid (S : List Addr) (H : Hp) : Hp := fun b => if b ∈ S then none else H b
/-- all but S is kept -/
def ButS (S : List Addr) (H H' : Hp) : Prop := ∀ b o, b ∉ S → H b = some o → H' b = some o
structure OdV (K : PySem.W.Frag) (S : List Addr) (H : Hp) (n : Nat) (x : V) (d : PyData) : Prop where
  dq : Dq K (hid S H) x d
  sd : Shd d (n + 2) (2000 + 200 * n)
  ty : NoInt K (hid S H) x ∨ ∃ i : Int, x = .int i
section
variable {K : PySem.W.Frag} {S : List Addr} {H H' : Hp} {n : Nat} {x : V} {d : PyData}
end
/-- the list of what is drawn from -/
def OdL (K : PySem.W.Frag) (S : List Addr) (H : Hp) (xs : List V) : Prop := ∀ x ∈ xs, ∃ d, OdV K S H 0 x d
end Ph

/-! PhEi: own errors of one field: their __init__, raising them. -/
namespace Ph
open PySem PySem.Spec PyProof.Rows L2
/-- E(x): the field f is x -/
def spEi (C : Addr) (f : Str) : Sp := fun vs H Q _ => ∃ (a : Addr) (x : V), vs = [.ref a, x] ∧ H a = some (exo a C none) ∧ ∀ dx, H dx = none → dx ≠ a → Q .non (upd (upd H dx (exd dx [(f, x)])) a (exo a C (some dx)))
/-- what a raised error is to who catches it -/
def ErrX (C : Addr) (f : Str) (x : V) (H : Hp) (E : XK) : Prop := ∀ H' d, Same H H' → H' d = some (.xd [(f, x)]) → E (.ref C) (some d) H'
/-- is_integer of any value -/
def spI2 (K : PySem.W.Frag) : Sp := fun vs H Q _ => ∃ x : V, vs = [x] ∧ ((∃ i : Int, x = .int i ∧ Q (.bl true) H) ∨ (NoInt K H x ∧ Q (.bl false) H))
/-- an argument that is no size; one that is no address -/
def BadZ (K : PySem.W.Frag) (H : Hp) (C : List Int) (x : V) : Prop := NoInt K H x ∨ ∃ i : Int, x = .int i ∧ i ∉ C
def BadA (K : PySem.W.Frag) (H : Hp) (z : Int) (y : V) : Prop := NoInt K H y ∨ ∃ A : Int, y = .int A ∧ (A < 0 ∨ A % z ≠ 0)
/-- what check_address raises -/
def BadC (K : PySem.W.Frag) (CB CP : Addr) (H : Hp) (c : Addr) (x y : V) (E : XK) : Prop := ∃ C, ChAt H c C ∧ ((BadZ K H C x ∧ ErrX CB "size" x H E) ∨ ∃ z : Int, x = .int z ∧ z ∈ C ∧ 0 < z ∧ BadA K H z y ∧ ErrX CP "address" y H E)
end Ph

/-! PhLam: defs that make lambdas: the heap without the tables, the tables kept, the code object known. -/
namespace Ph
open PySem PySem.Spec PyProof.Rows L2 LamX
/-- the heap without the tables of code objects -/
def ntb (H : Hp) : Hp := fun b => match H b with
  | some (.tbl _) => none
  | x => x
section
variable {T : List (Addr × Str)} {H H' : Hp}
theorem tabs_same (t : Tabs T H) (s : Same H H') : Tabs T H' := t.ext s
theorem ext_tup {t : Addr} {xs : List V} (x : ExtN H H') (e : H t = some (.tup xs)) : H' t = some (.tup xs) := x _ _ e fun _ z => nomatch z
theorem ext_lst {t : Addr} {xs : List V} (x : ExtN H H') (e : H t = some (.lst xs)) : H' t = some (.lst xs) := x _ _ e fun _ z => nomatch z
theorem ext_frz {t : Addr} {o : Obj} {u : HO} (x : ExtN H H') (e : H t = some (.frz o u)) : H' t = some (.frz o u) := x _ _ e fun _ z => nomatch z
theorem ext_seq {K : PySem.W.Frag} {t : Addr} {xs : List V} (x : ExtN H H') (e : SqL K H t xs) : SqL K H' t xs := by
  rcases e with (e | ⟨o, e⟩) | e
  · exact .inl (.inl (ext_lst x e))
  · exact .inl (.inr ⟨o, ext_frz x e⟩)
  · exact .inr e
end
/-- tabIn's code object is the def's -/
theorem tab_code {K : PySem.W.Frag} {x : Str} {c P f : Addr} {oc : Value} {od : Option Addr} {fd : FuncData} {sl : Array (Option Value)} (t : PySem.W.tabIn K x = some (c, P)) (n : PySem.W.nsIn K mainGlobals x = some (some (.ref f))) (l : K.lookup f = some ⟨oc, od, .func fd, sl⟩) : fd.code = .ref c := by
  unfold PySem.W.tabIn at t
  rw [n] at t
  simp only [l] at t
  split at t
  · rename_i c' e
    split at t
    · split at t
      · cases t
        exact e
      · cases t
    · cases t
  · cases t
end Ph

/-! PhOkc: a def whose code object is known (it makes defs or lambdas), as FnOk: no guards asked. -/
namespace Ph
open PySem PySem.Spec PyProof.Rows L2
theorem okC {P : Program} {w : World} {K : PySem.W.Frag} {mg : Str → Option Value} {base : Heap} {x qual : Str} {st : Stmt} {f : Addr} {fd : FuncData} {N ps : List Str} {k : Nat} {sp : Sp} {c : Addr} (F : Fun K x qual st f fd) (hc : fd.code = .ref c) (S : FnScope N ps (defScope st)) (len : ∀ vs H Q E, sp vs H Q E → vs.length = ps.length)
    (hbody : ∀ (A : Around) (outer : List Env) (s : Shared) (H : Hp) (vs : List V) (Q : VK) (E : XK), Room k (A.deeper (envOfC qual (defScope st) s.heap.objs.size f (.ref c))) → sp vs H Q E →
      ∃ t, PSs (cxOf CX0 P w K mg base N qual (defScope st) f (.ref c) A outer s H E).nox (defBody st) t ∧ t { nx := fun _ H' => Q .non H', rt := Q } (start N vs) H) : FnOk P w K mg base CX0 (k + 1) f fd ps sp := by
  obtain ⟨oc, od, kV, doc, pm, an, cdv, ct, osl, rfl, lk, hcd⟩ := F.ex
  obtain rfl : cdv = Value.ref c := hc
  refine fn_of lk hcd S len fun A outer s H vs Q E hr hsp => ?_
  obtain ⟨t, h, q⟩ := hbody A outer s H vs Q E hr hsp
  exact ⟨t, h.nox, q⟩
/-- the heap may grow, tables aside: what an ExtN leaves -/
theorem ext_st {H H' : Hp} {t : Addr} {bs : List Bk} (x : LamX.ExtN H H') (h : StAt H t bs) : StAt H' t bs := by
  obtain ⟨xs, e, bl⟩ := h
  exact ⟨xs, ext_tup x e, BL.kp bl fun v us e => ext_tup x e⟩
theorem ext_ch {H H' : Hp} {c : Addr} {C : List Int} (x : LamX.ExtN H H') (h : ChAt H c C) : ChAt H' c C := h.frz fun o u e => ext_frz x e
theorem ext_ins {H H' : Hp} {h : Addr} {C dx : Addr} {fs : List (Str × V)} (x : LamX.ExtN H H') (e : H h = some (.ins C dx fs)) : H' h = some (.ins C dx fs) := x _ _ e fun _ z => nomatch z
end Ph

/-! PhHr: a heap of any rule, as an object, with its steps. -/
namespace Ph
open PySem PySem.Spec PyProof.Rows L2
def hfr (r : Str) (c : Addr) (pg M : Int) (t l : Addr) : List (Str × V) := [("chain", .ref c), ("pages", .int pg), ("limit", .int M), ("rule", .str r), ("blocks", .ref t), ("steps", .ref l)]
section
variable {r : Str} {c t l u : Addr} {pg M : Int}
theorem hr_chain : (hfr r c pg M t l).lookup ("chain" : Str) = some (.ref c) := rfl
theorem hr_pages : (hfr r c pg M t l).lookup ("pages" : Str) = some (.int pg) := rfl
theorem hr_limit : (hfr r c pg M t l).lookup ("limit" : Str) = some (.int M) := rfl
theorem hr_rule : (hfr r c pg M t l).lookup ("rule" : Str) = some (.str r) := rfl
theorem hr_blocks : (hfr r c pg M t l).lookup ("blocks" : Str) = some (.ref t) := rfl
theorem hr_steps : (hfr r c pg M t l).lookup ("steps" : Str) = some (.ref l) := rfl
theorem hr_put : putF "blocks" (.ref u) (hfr r c pg M t l) = hfr r c pg M u l := rfl
end
abbrev Tri := Str × Int × Int
def StL (H : Hp) (xs : List V) (ss : List Tri) : Prop := Paired (fun x (t : Tri) => ∃ T, x = V.ref T ∧ H T = some (.tup [.str t.1, .int t.2.1, .int t.2.2])) xs ss
theorem paired_impL {α β : Type} {R S : α → β → Prop} (h : ∀ a b, R a b → S a b) : ∀ {l : List α} {m : List β}, Paired R l m → Paired S l m
  | _, _, .nil => .nil
  | _, _, .cons x r => .cons (h _ _ x) (paired_impL h r)
theorem StL.kp {H H' : Hp} {xs : List V} {ss : List Tri} (h : StL H xs ss) (k : KpT H H') : StL H' xs ss := paired_impL (fun x t ⟨T, e1, e2⟩ => ⟨T, e1, k _ _ e2⟩) h
theorem StL.len {H : Hp} {xs : List V} {ss : List Tri} (h : StL H xs ss) : xs.length = ss.length := h.length
structure HrA (C : Addr) (H : Hp) (h l c : Addr) (r : Str) (s : Nat → Nat) (p pg M : Nat) (bs : List Bk) (ss : List Tri) (dx t : Addr) (xs : List V) : Prop where
  ob : H h = some (.ins C dx (hfr r c pg M t l))
  ch : ChAt H c (tl s (p + 1))
  st : StAt H t bs
  ls : H l = some (.lst xs)
  sl : StL H xs ss
def HrS (C : Addr) (H : Hp) (h l c : Addr) (r : Str) (s : Nat → Nat) (p pg M : Nat) (bs : List Bk) (ss : List Tri) : Prop := ∃ dx t xs, HrA C H h l c r s p pg M bs ss dx t xs
section
variable {C : Addr} {H H' : Hp} {h l c : Addr} {r : Str} {s : Nat → Nat} {p pg M : Nat} {bs : List Bk} {ss : List Tri}
theorem HrA.kp {dx t : Addr} {xs : List V} (a : HrA C H h l c r s p pg M bs ss dx t xs) (k1 : ∀ C' dx' fs, H h = some (.ins C' dx' fs) → H' h = some (.ins C' dx' fs)) (k2 : ∀ ys, H l = some (.lst ys) → H' l = some (.lst ys)) (k3 : KpT H H') (k4 : ∀ o u, H c = some (.frz o u) → H' c = some (.frz o u)) : HrA C H' h l c r s p pg M bs ss dx t xs :=
  ⟨k1 _ _ _ a.ob, a.ch.frz k4, a.st.mono k3, k2 _ a.ls, a.sl.kp k3⟩
theorem HrS.same (a : HrS C H h l c r s p pg M bs ss) (sm : Same H H') : HrS C H' h l c r s p pg M bs ss := by
  obtain ⟨dx, t, xs, a⟩ := a
  exact ⟨dx, t, xs, a.kp (fun _ _ _ e => sm _ _ e) (fun _ e => sm _ _ e) (fun _ _ e => sm _ _ e) fun _ _ e => sm _ _ e⟩
theorem HrS.ext (a : HrS C H h l c r s p pg M bs ss) (x : LamX.ExtN H H') : HrS C H' h l c r s p pg M bs ss := by
  obtain ⟨dx, t, xs, a⟩ := a
  exact ⟨dx, t, xs, a.kp (fun _ _ _ e => ext_ins x e) (fun _ e => ext_lst x e) (fun _ _ e => ext_tup x e) fun _ _ e => ext_frz x e⟩
end
theorem paired_snocR {α β : Type} {R : α → β → Prop} : ∀ {l : List α} {m : List β} {b : β}, Paired R l (m ++ [b]) → ∃ l' a, l = l' ++ [a] ∧ Paired R l' m ∧ R a b
  | _, [], b, h => by
    cases h with
    | cons x r =>
      cases r
      exact ⟨[], _, rfl, .nil, x⟩
  | _, c :: m, b, h => by
    cases h with
    | cons x r =>
      obtain ⟨l', a, e1, e2, e3⟩ := paired_snocR r
      exact ⟨_ :: l', a, by rw [e1]; rfl, .cons x e2, e3⟩
end Ph

/-! PhHw: histories of a heap, whatever places its blocks were put at; the newest step first. -/
namespace Ph
open PySem PySem.Spec PyProof.Rows L2
namespace HW
theorem perm_filt {e : Bk} : ∀ {cs : List Bk}, cs.Pairwise (fun x y => x.1 ≠ y.1) → e ∈ cs → cs.Perm (e :: cs.filter fun b => decide (b.1 ≠ e.1))
  | c :: r, pw, h => by
    obtain ⟨p1, p2⟩ := List.pairwise_cons.mp pw
    rcases List.mem_cons.mp h with z | z
    · subst z
      have : (r.filter fun b => decide (b.1 ≠ e.1)) = r := List.filter_eq_self.mpr fun b hb => decide_eq_true fun z => p1 b hb z.symm
      rw [List.filter_cons_of_neg (by simp), this]
    · have ne := p1 e z
      rw [List.filter_cons_of_pos (by simpa using ne)]
      exact ((perm_filt p2 z).cons c).trans (List.Perm.swap ..)
theorem st_app {C : List Int} {W : Int} {bs : List Bk} (st : St C W bs) : bs.Pairwise apart := st.asc.imp fun h => .inl h
theorem St_nes {C : List Int} {W : Int} {bs : List Bk} (st : St C W bs) : bs.Pairwise fun x y => x.1 ≠ y.1 :=  st.asc.imp_of_mem fun {b c} hb hc h z => by
  have := (st.ok b hb).2.1
  omega
theorem St_lex {C : List Int} {W : Int} {bs : List Bk} (st : St C W bs) : bs.Pairwise fun x y => SrtO.lexB y x = false :=  st.asc.imp_of_mem fun {b c} hb hc h => SrtO.lexB_no.mpr (by
  have := (st.ok b hb).2.1
  omega)
theorem add_st {C : List Int} {W a z : Int} {bs cs : List Bk} (st : St C W bs) (ok : okB C W (a, z)) (ap : ∀ b ∈ bs, a + z ≤ b.1 ∨ b.1 + b.2 ≤ a) (p : cs.Perm (bs ++ [(a, z)])) (srt : cs.Pairwise fun x y => SrtO.lexB y x = false) : St C W cs := by
  refine sorted_st (fun b hb => ?_) (List.pairwise_append.mpr ⟨st_app st, List.pairwise_singleton _ _, fun b hb c hc => ?_⟩) p srt
  · rcases List.mem_append.mp hb with h | h
    · exact st.ok b h
    · rw [List.mem_singleton.mp h]
      exact ok
  · rw [List.mem_singleton.mp hc]
    rcases ap b hb with h | h
    · exact .inr h
    · exact .inl h
theorem len_sum : ∀ {bs : List Bk}, (∀ b ∈ bs, 1 ≤ b.2) → (bs.length : Int) ≤ (bs.map fun b => b.2).sum
  | [], _ => Int.le_refl _
  | b :: r, h => by
    have h1 := h b (List.mem_cons_self ..)
    have ih := len_sum (bs := r) fun c hc => h c (List.mem_cons_of_mem _ hc)
    rw [List.length_cons, List.map_cons, List.sum_cons]
    omega
abbrev tt (bs : List Bk) : Int := (bs.map fun b => b.2).sum
theorem tt_perm {bs cs : List Bk} (pm : cs.Perm bs) : tt cs = tt bs := sum_perm pm
theorem tt_snoc (bs : List Bk) (b : Bk) : tt (bs ++ [b]) = tt bs + b.2 := by
  unfold tt
  rw [List.map_append, List.sum_append]
  simp
theorem tt_filt {C : List Int} {W : Int} {bs : List Bk} {e : Bk} (st : St C W bs) (he : e ∈ bs) : tt bs - tt (bs.filter fun b => decide (b.1 ≠ e.1)) = e.2 := by
  have h1 : tt bs = e.2 + tt (bs.filter fun b => decide (b.1 ≠ e.1)) := by
    rw [tt_perm (perm_filt (St_nes st) he)]
    rfl
  omega
end HW
/-- a place for a block: within the heap, beside its blocks -/
structure Spt (z : Int) (bs : List Bk) (W x : Int) : Prop where
  mod : x % z = 0
  pos : 0 ≤ x
  fit : x + z ≤ W
  free : ∀ b ∈ bs, x + z ≤ b.1 ∨ b.1 + b.2 ≤ x
inductive Hw (s : Nat → Nat) (p : Nat) (W : Int) (M : Nat) : List Tri → List Bk → Prop
  | nil : Hw s p W M [] []
  | get {rs : List Tri} {bs cs : List Bk} {x : Int} {i : Nat} : Hw s p W M rs bs → i ≤ p → (bs.map fun b => b.2).sum + ((s i : Nat) : Int) ≤ M → Spt ((s i : Nat) : Int) bs W x → cs.Perm (bs ++ [(x, ((s i : Nat) : Int))]) → (cs.Pairwise fun x y => SrtO.lexB y x = false) → Hw s p W M ((("get" : Str), x, ((s i : Nat) : Int)) :: rs) cs
  | free {rs : List Tri} {bs : List Bk} {e : Bk} : Hw s p W M rs bs → e ∈ bs → Hw s p W M ((("free" : Str), e.1, e.2) :: rs) (bs.filter fun b => decide (b.1 ≠ e.1))
section
variable {s : Nat → Nat} {p M : Nat} {W : Int}
theorem Hw.st {rs : List Tri} {bs : List Bk} (c : CH s (p + 1)) (h : Hw s p W M rs bs) : St (tl s (p + 1)) W bs := by
  induction h with
  | nil => exact ⟨(fun b hb => nomatch hb), List.Pairwise.nil⟩
  | @get rs bs cs x i _ hi _ sp pm srt ih =>
    have := c.pos (i := i) (by omega)
    exact HW.add_st ih ⟨tl_mem.mpr ⟨i, by omega, rfl⟩, by show 1 ≤ ((s i : Nat) : Int); omega, sp.pos, sp.mod, sp.fit⟩ sp.free pm srt
  | free _ _ ih => exact ih.filter _
theorem Hw.tot {rs : List Tri} {bs : List Bk} (c : CH s (p + 1)) (h : Hw s p W M rs bs) : HW.tt bs ≤ M := by
  induction h with
  | nil => exact Int.natCast_nonneg _
  | @get rs bs cs x i _ hi hM sp pm srt ih =>
    rw [HW.tt_perm pm, HW.tt_snoc]
    exact hM
  | @free _ bs e h he ih =>
    have h1 := HW.tt_filt (h.st c) he
    have h2 := ((h.st c).ok e he).2.1
    omega
theorem Hw.len {rs : List Tri} {bs : List Bk} (c : CH s (p + 1)) (h : Hw s p W M rs bs) : bs.length ≤ M := by
  have h1 := HW.len_sum (bs := bs) fun b hb => ((h.st c).ok b hb).2.1
  have h2 := h.tot c
  unfold HW.tt at h2
  omega
theorem Hw.uniq {rs : List Tri} {bs cs : List Bk} (c : CH s (p + 1)) (h : Hw s p W M rs bs) (h' : Hw s p W M rs cs) : bs = cs := by
  induction h generalizing cs with
  | nil => cases h'; rfl
  | @get rs bs1 cs1 x i h1 hi hM sp pm srt ih =>
    generalize ez : ((s i : Nat) : Int) = z at h'
    cases h' with
    | @get _ bs2 _ _ i2 h2 hi2 hM2 sp2 pm2 srt2 =>
      have e1 := ih h2
      subst e1
      rw [ez] at pm
      exact perm_lex (pm.trans pm2.symm) srt srt2
  | @free rs bs1 e h1 he ih =>
    obtain ⟨e1, e2⟩ := e
    dsimp only at h'
    cases h' with
    | @free _ bs2 e' h2 he' =>
      have f1 := ih h2
      subst f1
      rfl
theorem Hw.tail {t : Tri} {rs : List Tri} {cs : List Bk} (h : Hw s p W M (t :: rs) cs) : ∃ bs, Hw s p W M rs bs := by
  cases h with
  | get h1 => exact ⟨_, h1⟩
  | free h1 _ => exact ⟨_, h1⟩
theorem Hw.pre {ss : List Tri} {bs : List Bk} (h : Hw s p W M ss.reverse bs) : ∀ n i, i + n = ss.length → ∃ cs, Hw s p W M (ss.take i).reverse cs
  | 0, i, e => ⟨bs, by rw [List.take_of_length_le (by omega)]; exact h⟩
  | n + 1, i, e => by
    obtain ⟨cs, h'⟩ := Hw.pre h n (i + 1) (by omega)
    have hlt : i < ss.length := by omega
    rw [List.take_add_one, List.getElem?_eq_getElem hlt, List.reverse_append] at h'
    exact h'.tail
theorem Hw.undo {st : Tri} {rs : List Tri} {cs : List Bk} (c : CH s (p + 1)) (h : Hw s p W M (st :: rs) cs) : ∃ bs, Hw s p W M rs bs ∧
    ((st.1 = "get" ∧ (∃ b ∈ cs, b.1 = st.2.1) ∧ (cs.filter fun b => decide (b.1 ≠ st.2.1)) = bs) ∨ (st.1 = "free" ∧ ∀ ds : List Bk, ds.Perm (cs ++ [(st.2.1, st.2.2)]) → (ds.Pairwise fun x y => SrtO.lexB y x = false) → ds = bs)) := by
  have st0 := h.st c
  cases h with
  | @get _ bs _ x i h1 hi hM sp pm srt =>
    refine ⟨bs, h1, .inl ⟨rfl, ⟨(x, ((s i : Nat) : Int)), pm.mem_iff.mpr (List.mem_append_right _ (List.mem_singleton.mpr rfl)), rfl⟩, ?_⟩⟩
    have stb := h1.st c
    have hin : (x, ((s i : Nat) : Int)) ∈ cs := pm.mem_iff.mpr (List.mem_append_right _ (List.mem_singleton.mpr rfl))
    have pf := HW.perm_filt (HW.St_nes st0) hin
    have pm2 : (cs.filter fun b => decide (b.1 ≠ x)).Perm bs := (List.perm_cons (x, ((s i : Nat) : Int))).mp (pf.symm.trans (pm.trans List.perm_append_comm))
    exact perm_lex pm2 (HW.St_lex (st0.filter _)) (HW.St_lex stb)
  | @free _ bs e h1 he =>
    refine ⟨bs, h1, .inr ⟨rfl, fun ds pm srt => ?_⟩⟩
    have stb := h1.st c
    have pf := HW.perm_filt (HW.St_nes stb) he
    exact perm_lex (pm.trans (List.perm_append_comm.trans pf.symm)) srt (HW.St_lex stb)
theorem Hw.gf {rs : List Tri} {bs : List Bk} (h : Hw s p W M rs bs) : ∀ t ∈ rs, t.1 = "get" ∨ t.1 = "free" := by
  induction h with
  | nil => exact fun t h => nomatch h
  | get _ _ _ _ _ _ ih =>
    intro t ht
    rcases List.mem_cons.mp ht with z | z
    · rw [z]; exact .inl rfl
    · exact ih t z
  | free _ _ ih =>
    intro t ht
    rcases List.mem_cons.mp ht with z | z
    · rw [z]; exact .inr rfl
    · exact ih t z
/-- the next step of a history -/
theorem Hw.step {ss : List Tri} {bs bi : List Bk} {i : Nat} {t : Tri} (c : CH s (p + 1)) (h : Hw s p W M ss.reverse bs) (hi : ss[i]? = some t) (hm : Hw s p W M (ss.take i).reverse bi) :
    (∃ j x cs, j ≤ p ∧ t = (("get" : Str), x, ((s j : Nat) : Int)) ∧ HW.tt bi + ((s j : Nat) : Int) ≤ M ∧ Spt ((s j : Nat) : Int) bi W x ∧ cs.Perm (bi ++ [(x, ((s j : Nat) : Int))]) ∧ (cs.Pairwise fun x y => SrtO.lexB y x = false) ∧ Hw s p W M (ss.take (i + 1)).reverse cs) ∨
    ∃ e ∈ bi, t = (("free" : Str), e.1, e.2) ∧ Hw s p W M (ss.take (i + 1)).reverse (bi.filter fun b => decide (b.1 ≠ e.1)) := by
  have hlt := (List.getElem?_eq_some_iff.mp hi).1
  have etk : (ss.take (i + 1)).reverse = t :: (ss.take i).reverse := by
    rw [List.take_add_one, hi, List.reverse_append]
    rfl
  obtain ⟨cs, h'⟩ := h.pre (ss.length - (i + 1)) (i + 1) (by omega)
  rw [etk] at h' ⊢
  cases h' with
  | @get _ b2 _ x j h1 hj hM sp pm srt =>
    have e1 := hm.uniq c h1
    subst e1
    exact .inl ⟨j, x, cs, hj, rfl, hM, sp, pm, srt, .get h1 hj hM sp pm srt⟩
  | @free _ b2 e h1 he =>
    have e1 := hm.uniq c h1
    subst e1
    exact .inr ⟨e, he, rfl, .free h1 he⟩
end
/-! ### events and histories -/
def evV (t : Tri) : List V := if t.1 = "get" then [.str "get", .int t.2.2, .int t.2.1] else [.str "free", .int t.2.1]
theorem evV_get (x z : Int) : evV (("get" : Str), x, z) = [.str "get", .int z, .int x] := if_pos rfl
theorem evV_free (x z : Int) : evV (("free" : Str), x, z) = [.str "free", .int x] := if_neg (show ¬ (("free" : Str) = "get") by decide +kernel)
def GF (t : Tri) : Prop := t.1 = "get" ∨ t.1 = "free"
def EvL (H : Hp) (ys : List V) (ss : List Tri) : Prop := Paired (fun y (t : Tri) => ∃ T, y = V.ref T ∧ H T = some (.tup (evV t))) ys ss
def HisAt (H : Hp) (u : Addr) (ss : List Tri) : Prop := ∃ ys, H u = some (.tup ys) ∧ EvL H ys ss
theorem EvL.kp {H H' : Hp} {ys : List V} {ss : List Tri} (h : EvL H ys ss) (k : KpT H H') : EvL H' ys ss := paired_impL (fun x t ⟨T, e1, e2⟩ => ⟨T, e1, k _ _ e2⟩) h
theorem paired_get' {α β : Type} {F : α → β → Prop} : ∀ {l : List α} {m : List β}, l.length = m.length → (∀ (i : Nat) (a : α) (b : β), l[i]? = some a → m[i]? = some b → F a b) → Paired F l m
  | [], [], _, _ => .nil
  | [], _ :: _, e, _ => by cases e
  | _ :: _, [], e, _ => by cases e
  | a :: l, b :: m, e, h => .cons (h 0 a b rfl rfl) (paired_get' (by simpa using e) fun i a' b' h1 h2 => h (i + 1) a' b' h1 h2)
end Ph

namespace Ph
open PySem PySem.Spec PyProof.Rows L2
section
variable {X : Cx}
/-! ### repr of data or of None -/
def rRpN (K : PySem.W.Frag) : List V → Hp → VK → Prop := fun xs H Q => (xs = [.non] ∧ Q (.str "None") H) ∨ rRp K xs H Q
end
/-! ### lists of blocks, and lists of such -/
def lD (bs : List (Int × Int)) : PyData := .list (bs.map bD)
end Ph

namespace Ph
open PySem PySem.Spec PyProof.Rows L2
/-- all keywords written, no defaults wanted -/
theorem kbn_all {K : PySem.W.Frag} {x qual : Str} {params : Arguments} {body : List Stmt} {scope : Scope} {kws : List (Str × V)} {f : Addr} {fd : FuncData} {ps : List Str} (F : FunD K x qual params body scope [] kws f fd) (n : Nat) (ks : List Str)
    (h : ∀ (kV doc pm : Value) (an : Option Addr) (cdv ct : Value) (us ws : List Value), us.length = n → ws.length = ks.length → bindArgs (PySem.W.fnOf x qual params body scope .none kV doc pm an cdv ct) ⟨us, ks.zip ws⟩ = pure (ps.zip (us ++ ws))) :
    KBn K fd ps n ks (fun us ws => us ++ ws) (fun vs zs => vs ++ zs) := by
  obtain ⟨oc, od, dV, kV, doc, pm, an, cdv, ct, osl, rfl, lk, hcd, hD, hK⟩ := F.ex
  rcases hD with ⟨_, rfl⟩ | ⟨e, _⟩
  · exact ⟨fun s us ws X l1 l2 => .of_eq (h kV doc pm an cdv ct us ws l1 l2), fun r1 r2 => r1.append r2⟩
  · exact absurd rfl e
end Ph

set_option maxHeartbeats 2000000
namespace Ph
open PySem PySem.Spec PyProof.Rows L2 LamX NdefX
set_option autoImplicit false
/-! ### max(xs, key=f), f a def made within the def -/
section
variable {X : Cx} {pins : List (Addr × Obj)} {σ : L2.St} {H : Hp} {s : Shared} {F : NF} {f l : Addr} {ps fr : List Str} {js : List Nat} {k : Nat} {sp : List (Option V) → Sp}
/-- what stands beside the loop: the iterator, its scratch list -/
structure Bes (X : Cx) (pins : List (Addr × Obj)) (H : Hp) (I S : Addr) : Prop where
  i : FpOk X pins H I
  s : FpOk X pins H S
/-- calls of the function f in the heap H -/
def RunsF (X : Cx) (k : Nat) (H : Hp) (f : Addr) (F : NF) (fr : List Str) (sp : List (Option V) → Sp) : Prop := ∀ (A : Around) (outer : List Env) (s : Shared) (us : List Value) (vs : List V) (ws : List (Option V)) (Q : VK), Room k A → Env0 X.prog X.w X.K X.mg X.base A outer s H → CellsAt F.cl fr ws s.heap H → Vals vs us → sp ws vs H Q E0 → codeAny (model X.prog X.w) A (.call (.ref f) ⟨us, []⟩) (CR CX0 outer X.prog X.w H s Q E0) s
theorem runsN (hf : H f = some (FnO f F)) (hcd : H F.c = some (CodeO F.c F.qual)) (Fn : NOk X.prog X.w X.K X.mg X.base CX0 k f F ps fr sp) : RunsF X k H f F fr sp := fun A outer s us vs ws Q hr e0 C r q => Fn.run A outer s H us vs ws Q E0 hr e0 hf hcd C r q
theorem key_run {ns : List Int} {its : List Value} {kf : Int → Int} {I S : Addr} {op : CmpOp} {bt : Nat → Nat → Bool} (hr : Room (k + 1) X.A) (Fn : RunsF X k H f F fr sp) (cp : X.Ok → Caps X F.cl fr js) (B : Bes X pins H I S) (hf : H f = some (FnO f F)) (rv : Vals (ns.map V.int) its)
    (hls : ∀ s', Inv X pins σ H s' → s'.heap.IsList l its.toArray)
    (hk : ∀ n ∈ ns, ∀ Q : VK, Q (.int (kf n)) H → sp (js.map (slotAt σ)) [.int n] H Q E0)
    (hcmp : CmpOf X.prog X.w X.A.in1 op (fun i v => ∃ t, v = .int (kf (ns.getD i 0)) t) bt) :
    KeyRun X.prog X.w X.A.in1 (.ref f) op S [I] (fun a b => b = a) its.toArray.size (fun i v => its.toArray[i]? = some v) (fun i s' => s'.heap.IsListIter I l i ∧ s'.heap.IsList l its.toArray) (fun s' => Inv X pins σ H s') (fun i v _ => ∃ t, v = .int (kf (ns.getD i 0)) t) bt where
  keep := fun s1 s2 I1 m => by
    obtain ⟨h2, g2, d2, t2, o2⟩ := s2
    have e1 : g2 = s1.gens := m.gens
    have e2 : d2 = s1.drawn := m.drawn
    have e3 : o2 = s1.os := m.os
    subst e1 e2 e3
    exact I1.turnedL (ch := S :: [I]) (fun b o hb e => m.heap b o hb e) fun b hb => by
      rcases List.mem_cons.mp hb with z | z
      · rw [z]; exact B.s
      · rw [List.mem_singleton.mp z]; exact B.i
  keepV := fun _ _ _ _ h _ => h
  turn := fun i v s1 o Q E hi hP I1 hst hS hQ => by
    obtain ⟨⟨oI, hoI, hoc, hod⟩, hli⟩ := hst
    have hi' : i < its.length := by simpa using hi
    have hv : its[i]? = some v := by simpa using hP
    have ln := rv.length
    rw [List.length_map] at ln
    have hn : ns.getD i 0 ∈ ns := by
      rw [List.getD_eq_getElem?_getD, List.getElem?_eq_getElem (by omega)]
      exact List.getElem_mem _
    obtain ⟨t, rfl⟩ : ∃ t, v = .int (ns.getD i 0) t := by
      obtain ⟨u, hu, ru⟩ := Vals.get rv (i := i) (x := V.int (ns.getD i 0)) (by rw [List.getElem?_map, List.getD_eq_getElem?_getD, List.getElem?_eq_getElem (by omega)]; rfl)
      rw [hv] at hu
      cases hu
      exact ru
    refine wpAny_call (codeAny_mono (Fn X.A.in1 X.stack s1 [.int (ns.getD i 0) t] [.int (ns.getD i 0)] _ (fun x H' => x = .int (kf (ns.getD i 0)) ∧ H' = H) hr.in1 I1.env0.in1 (cells_of I1 (cp I1.ok)) (.cons ⟨t, rfl⟩ .nil) (hk _ hn _ ⟨rfl, rfl⟩)) fun r s2 out => ?_)
    match r, out with
    | .error _, out => exact False.elim out
    | .ok (.ret u), out =>
      obtain ⟨x, H', os, bare, un, hok, rx, ex, eH⟩ := id out
      subst ex eH
      obtain ⟨t2, rfl⟩ := rx
      have ns1 : ∀ b, FpOk X pins H' b → b ∉ frs X.stack := fun b fp z => (List.mem_cons.mp (I1.stkSub b z)).elim fp.2.1 fp.2.2.1
      have kS := un.keep S o hS B.s.1 (ns1 S B.s) (by simp)
      have kI := un.keep I oI hoI B.i.1 (ns1 I B.i) (by simp)
      obtain ⟨x, H2, I2, rx, ex, eH⟩ := I1.after out
      subst eH
      exact hQ _ s2 I2 ⟨⟨oI, kI, hoc, hod⟩, hls _ I2⟩ kS ⟨t2, rfl⟩ fun _ _ h => h
  cmp := fun i j ki kj s1 Q E _ hi hj q => hcmp i j ki kj s1 Q E hi hj q
theorem best_gt (num : Nat → Int) : ∀ k, argBest (fun i j => decide (num i > num j)) k ≤ k ∧ ∀ j, j ≤ k → num j ≤ num (argBest (fun i j => decide (num i > num j)) k) ∧ (j < argBest (fun i j => decide (num i > num j)) k → num j < num (argBest (fun i j => decide (num i > num j)) k))
  | 0 => ⟨Nat.le_refl _, fun j hj => by
      have : j = 0 := by omega
      subst this
      exact ⟨Int.le_refl _, fun h => absurd h (Nat.not_lt_zero _)⟩⟩
  | k + 1 => by
    obtain ⟨h1, h2⟩ := best_gt num k
    simp only [argBest]
    by_cases hc : num (k + 1) > num (argBest (fun i j => decide (num i > num j)) k)
    · rw [if_pos (by simpa using hc)]
      refine ⟨Nat.le_refl _, fun j hj => ?_⟩
      by_cases e : j = k + 1
      · subst e
        exact ⟨Int.le_refl _, fun h => absurd h (Nat.lt_irrefl _)⟩
      · have := (h2 j (by omega)).1
        exact ⟨by omega, fun _ => by omega⟩
    · rw [if_neg (by simpa using hc)]
      refine ⟨by omega, fun j hj => ?_⟩
      by_cases e : j = k + 1
      · subst e
        exact ⟨by omega, fun h => by omega⟩
      · exact h2 j (by omega)
theorem run_maxKey {ol : Obj} {ns : List Int} {kf : Int → Int} {Q : VK} (hc : X.calm = true) (hr : Room (k + 1) X.A) (Fn : RunsF X k H f F fr sp) (cp : X.Ok → Caps X F.cl fr js) (I : Inv X pins σ H s) (hf : H f = some (FnO f F)) (hl : H l = some (.frz ol (.lst (ns.map V.int)))) (hne : ns ≠ [])
    (hk : ∀ n ∈ ns, ∀ Q : VK, Q (.int (kf n)) H → sp (js.map (slotAt σ)) [.int n] H Q E0)
    (q : ∀ (i : Nat) (m : Int), ns[i]? = some m → (∀ (j : Nat) (n : Int), ns[j]? = some n → kf n ≤ kf m ∧ (j < i → kf n < kf m)) → Q (.int m) H) :
    wpAny (model X.prog X.w) X.A (call (.builtin "max") [.ref l] [(Str.ofString "key", .ref f)]) (EP X pins σ Q) X.xe s := by
  have hname : (toString "max" ++ toString ".loop" : String) = "max.loop" := by decide
  have hq : SqL X.K H l (ns.map V.int) := .inl (.inr ⟨ol, hl⟩)
  obtain ⟨its, rv, pl, hz⟩ := I.list hq
  have hls := pl.isList
  have hlsA : ∀ s', Inv X pins σ H s' → s'.heap.IsList l its.toArray := fun s' I' => by
    obtain ⟨o, ho, hrest⟩ := id hls
    have e1 := (I.hok l _ hl).1
    have e2 := (I'.hok l _ hl).1
    rw [ho] at e1
    cases e1
    exact ⟨_, e2, hrest⟩
  have ln := rv.length
  rw [List.length_map] at ln
  have hn0 : 0 < ns.length := List.length_pos_iff.mpr hne
  obtain ⟨ol, hol, _⟩ := id hls
  have hll : l < s.heap.objs.size := Heap.lt_size hol
  refine kmk_tree PySem.F.kind_max PySem.F.plain_max PySem.F.entry_max (kmk_max_key _ _) ?_
  show wpAny _ X.A.in1 (Builtin.Builtins.bindParams "max" ["key", "default"] 0 ⟨[], [(Str.ofString "key", .ref f)]⟩ >>= _) _ _ s
  refine wpAny_bind (wpAny_of_eq (show Builtin.Builtins.bindParams "max" ["key", "default"] 0 ⟨[], [(Str.ofString "key", .ref f)]⟩ = pure [some (.ref f), none] from rfl) ?_)
  refine wpAny_bind (wpAny_pure ?_)
  refine wpAny_bind (wpAny_pyIter_list hls ?_)
  refine wpAny_bind (wpAny_newList ?_ (Nat.zero_le _))
  rw [hname]
  have hS : (s.heap.push { cls := .type "list_iterator", data := .fields #[.ref l, .int 0 0] }).objs.size = s.heap.objs.size + 1 := size_push' ..
  have hlI : l ≠ s.heap.objs.size := Nat.ne_of_lt hll
  refine wpAny_pure ⟨plainId_quiet PySem.F.plain_max_loop _, ?_⟩
  have gI : ((s.heap.push { cls := .type "list_iterator", data := .fields #[.ref l, .int 0 0] }).push (seqObj "list" #[] 0)).get? s.heap.objs.size = some { cls := .type "list_iterator", data := .fields #[.ref l, .int 0 0] } :=
    Heap.get?_push_of_some _ (Heap.get?_push_size _ rfl)
  have gS : ((s.heap.push { cls := .type "list_iterator", data := .fields #[.ref l, .int 0 0] }).push (seqObj "list" #[] 0)).get? (s.heap.push { cls := .type "list_iterator", data := .fields #[.ref l, .int 0 0] }).objs.size = some (seqObj "list" #[] 0) := Heap.get?_push_size _ rfl
  have W := (Walks.list (prog := X.prog) (w := X.w) (A := X.A.in1) (I.ok.hd hc) s.heap.objs.size l hlI its.toArray).toS
  have fI : H s.heap.objs.size = none := I.hok.fresh (Nat.le_refl _)
  have fS : H (s.heap.push { cls := .type "list_iterator", data := .fields #[.ref l, .int 0 0] }).objs.size = none := I.hok.fresh (by rw [hS]; omega)
  have B : Bes X pins H s.heap.objs.size (s.heap.push { cls := .type "list_iterator", data := .fields #[.ref l, .int 0 0] }).objs.size := ⟨I.fpOk (Nat.le_refl _) fI, I.fpOk (by rw [hS]; omega) fS⟩
  have KR := key_run (op := .Gt) (l := l) hr Fn cp B hf rv hlsA hk (CmpOf.ints_gt (P := fun i v => ∃ t, v = .int (kf (ns.getD i 0)) t) (fun i => kf (ns.getD i 0)) fun i v h => h)
  have I1 : Inv X pins σ H { s with heap := (s.heap.push { cls := .type "list_iterator", data := .fields #[.ref l, .int 0 0] }).push (seqObj "list" #[] 0), toks := s.toks } := I.kept (t' := s.toks) fun b o e => Heap.get?_push_of_some _ (Heap.get?_push_of_some _ e)
  refine codeAny_max_loop_firstK W _ ?_ KR [] ?_ (I.kept (t' := s.toks) fun b o e => Heap.get?_push_of_some _ (Heap.get?_push_of_some _ e)) ?_ gS fun v s' hv I' => ?_
  · intro hm
    rcases List.mem_cons.mp hm with z | z
    · rw [hS] at z
      exact absurd z (Nat.ne_of_gt (Nat.lt_succ_self _))
    · have z := List.mem_singleton.mp z
      rw [hS] at z
      exact absurd z (Nat.ne_of_gt (Nat.lt_succ_of_lt hll))
  · rw [List.size_toArray]
    omega
  · exact ⟨⟨_, gI, rfl, rfl⟩, hlsA _ I1⟩
  · obtain ⟨b1, b2⟩ := best_gt (fun i => kf (ns.getD i 0)) (its.toArray.size - 1)
    rw [List.size_toArray] at b1 b2 hv
    generalize argBest (fun i j => decide (kf (ns.getD i 0) > kf (ns.getD j 0))) (its.length - 1) = bi at *
    have hbi : bi < ns.length := by omega
    have gt : ∀ (j : Nat) (n : Int), ns[j]? = some n → ns.getD j 0 = n := fun j n e => by rw [List.getD_eq_getElem?_getD, e]; rfl
    obtain ⟨u, hu, ru⟩ := Vals.get rv (i := bi) (x := V.int ns[bi]) (by rw [List.getElem?_map, List.getElem?_eq_getElem hbi]; rfl)
    have hv' : its[bi]? = some v := by simpa using hv
    rw [hv'] at hu
    cases hu
    refine ⟨.int ns[bi], H, I', ru, q bi _ (List.getElem?_eq_getElem hbi) fun j n e => ?_⟩
    have hj := (List.getElem?_eq_some_iff.mp e).1
    have := b2 j (by omega)
    rw [gt j n e, gt bi _ (List.getElem?_eq_getElem hbi)] at this
    exact this
theorem best_lt (num : Nat → Int) : ∀ k, argBest (fun i j => decide (num i < num j)) k ≤ k ∧ ∀ j, j ≤ k → num (argBest (fun i j => decide (num i < num j)) k) ≤ num j ∧ (j < argBest (fun i j => decide (num i < num j)) k → num (argBest (fun i j => decide (num i < num j)) k) < num j)
  | 0 => ⟨Nat.le_refl _, fun j hj => by
      have : j = 0 := by omega
      subst this
      exact ⟨Int.le_refl _, fun h => absurd h (Nat.not_lt_zero _)⟩⟩
  | k + 1 => by
    obtain ⟨h1, h2⟩ := best_lt num k
    simp only [argBest]
    by_cases hc : num (k + 1) < num (argBest (fun i j => decide (num i < num j)) k)
    · rw [if_pos (by simpa using hc)]
      refine ⟨Nat.le_refl _, fun j hj => ?_⟩
      by_cases e : j = k + 1
      · subst e
        exact ⟨Int.le_refl _, fun h => absurd h (Nat.lt_irrefl _)⟩
      · have := (h2 j (by omega)).1
        exact ⟨by omega, fun _ => by omega⟩
    · rw [if_neg (by simpa using hc)]
      refine ⟨by omega, fun j hj => ?_⟩
      by_cases e : j = k + 1
      · subst e
        exact ⟨by omega, fun h => by omega⟩
      · exact h2 j (by omega)
theorem run_minKey {ol : Obj} {ns : List Int} {kf : Int → Int} {Q : VK} (hc : X.calm = true) (hr : Room (k + 1) X.A) (Fn : RunsF X k H f F fr sp) (cp : X.Ok → Caps X F.cl fr js) (I : Inv X pins σ H s) (hf : H f = some (FnO f F)) (hl : H l = some (.frz ol (.lst (ns.map V.int)))) (hne : ns ≠ [])
    (hk : ∀ n ∈ ns, ∀ Q : VK, Q (.int (kf n)) H → sp (js.map (slotAt σ)) [.int n] H Q E0)
    (q : ∀ (i : Nat) (m : Int), ns[i]? = some m → (∀ (j : Nat) (n : Int), ns[j]? = some n → kf m ≤ kf n ∧ (j < i → kf m < kf n)) → Q (.int m) H) :
    wpAny (model X.prog X.w) X.A (call (.builtin "min") [.ref l] [(Str.ofString "key", .ref f)]) (EP X pins σ Q) X.xe s := by
  have hname : (toString "min" ++ toString ".loop" : String) = "min.loop" := by decide
  have hq : SqL X.K H l (ns.map V.int) := .inl (.inr ⟨ol, hl⟩)
  obtain ⟨its, rv, pl, hz⟩ := I.list hq
  have hls := pl.isList
  have hlsA : ∀ s', Inv X pins σ H s' → s'.heap.IsList l its.toArray := fun s' I' => by
    obtain ⟨o, ho, hrest⟩ := id hls
    have e1 := (I.hok l _ hl).1
    have e2 := (I'.hok l _ hl).1
    rw [ho] at e1
    cases e1
    exact ⟨_, e2, hrest⟩
  have ln := rv.length
  rw [List.length_map] at ln
  have hn0 : 0 < ns.length := List.length_pos_iff.mpr hne
  obtain ⟨ol, hol, _⟩ := id hls
  have hll : l < s.heap.objs.size := Heap.lt_size hol
  refine kmk_tree PySem.F.kind_min PySem.F.plain_min PySem.F.entry_min (kmk_min_key _ _) ?_
  show wpAny _ X.A.in1 (Builtin.Builtins.bindParams "min" ["key", "default"] 0 ⟨[], [(Str.ofString "key", .ref f)]⟩ >>= _) _ _ s
  refine wpAny_bind (wpAny_of_eq (show Builtin.Builtins.bindParams "min" ["key", "default"] 0 ⟨[], [(Str.ofString "key", .ref f)]⟩ = pure [some (.ref f), none] from rfl) ?_)
  refine wpAny_bind (wpAny_pure ?_)
  refine wpAny_bind (wpAny_pyIter_list hls ?_)
  refine wpAny_bind (wpAny_newList ?_ (Nat.zero_le _))
  rw [hname]
  have hS : (s.heap.push { cls := .type "list_iterator", data := .fields #[.ref l, .int 0 0] }).objs.size = s.heap.objs.size + 1 := size_push' ..
  have hlI : l ≠ s.heap.objs.size := Nat.ne_of_lt hll
  refine wpAny_pure ⟨plainId_quiet PySem.F.plain_min_loop _, ?_⟩
  have gI : ((s.heap.push { cls := .type "list_iterator", data := .fields #[.ref l, .int 0 0] }).push (seqObj "list" #[] 0)).get? s.heap.objs.size = some { cls := .type "list_iterator", data := .fields #[.ref l, .int 0 0] } :=
    Heap.get?_push_of_some _ (Heap.get?_push_size _ rfl)
  have gS : ((s.heap.push { cls := .type "list_iterator", data := .fields #[.ref l, .int 0 0] }).push (seqObj "list" #[] 0)).get? (s.heap.push { cls := .type "list_iterator", data := .fields #[.ref l, .int 0 0] }).objs.size = some (seqObj "list" #[] 0) := Heap.get?_push_size _ rfl
  have W := (Walks.list (prog := X.prog) (w := X.w) (A := X.A.in1) (I.ok.hd hc) s.heap.objs.size l hlI its.toArray).toS
  have fI : H s.heap.objs.size = none := I.hok.fresh (Nat.le_refl _)
  have fS : H (s.heap.push { cls := .type "list_iterator", data := .fields #[.ref l, .int 0 0] }).objs.size = none := I.hok.fresh (by rw [hS]; omega)
  have B : Bes X pins H s.heap.objs.size (s.heap.push { cls := .type "list_iterator", data := .fields #[.ref l, .int 0 0] }).objs.size := ⟨I.fpOk (Nat.le_refl _) fI, I.fpOk (by rw [hS]; omega) fS⟩
  have KR := key_run (op := .Lt) (l := l) hr Fn cp B hf rv hlsA hk (CmpOf.ints_lt (P := fun i v => ∃ t, v = .int (kf (ns.getD i 0)) t) (fun i => kf (ns.getD i 0)) fun i v h => h)
  have I1 : Inv X pins σ H { s with heap := (s.heap.push { cls := .type "list_iterator", data := .fields #[.ref l, .int 0 0] }).push (seqObj "list" #[] 0), toks := s.toks } := I.kept (t' := s.toks) fun b o e => Heap.get?_push_of_some _ (Heap.get?_push_of_some _ e)
  refine codeAny_min_loop_firstK W _ ?_ KR [] ?_ (I.kept (t' := s.toks) fun b o e => Heap.get?_push_of_some _ (Heap.get?_push_of_some _ e)) ?_ gS fun v s' hv I' => ?_
  · intro hm
    rcases List.mem_cons.mp hm with z | z
    · rw [hS] at z
      exact absurd z (Nat.ne_of_gt (Nat.lt_succ_self _))
    · have z := List.mem_singleton.mp z
      rw [hS] at z
      exact absurd z (Nat.ne_of_gt (Nat.lt_succ_of_lt hll))
  · rw [List.size_toArray]
    omega
  · exact ⟨⟨_, gI, rfl, rfl⟩, hlsA _ I1⟩
  · obtain ⟨b1, b2⟩ := best_lt (fun i => kf (ns.getD i 0)) (its.toArray.size - 1)
    rw [List.size_toArray] at b1 b2 hv
    generalize argBest (fun i j => decide (kf (ns.getD i 0) < kf (ns.getD j 0))) (its.length - 1) = bi at *
    have hbi : bi < ns.length := by omega
    have gt : ∀ (j : Nat) (n : Int), ns[j]? = some n → ns.getD j 0 = n := fun j n e => by rw [List.getD_eq_getElem?_getD, e]; rfl
    obtain ⟨u, hu, ru⟩ := Vals.get rv (i := bi) (x := V.int ns[bi]) (by rw [List.getElem?_map, List.getElem?_eq_getElem hbi]; rfl)
    have hv' : its[bi]? = some v := by simpa using hv
    rw [hv'] at hu
    cases hu
    refine ⟨.int ns[bi], H, I', ru, q bi _ (List.getElem?_eq_getElem hbi) fun j n e => ?_⟩
    have hj := (List.getElem?_eq_some_iff.mp e).1
    have := b2 j (by omega)
    rw [gt j n e, gt bi _ (List.getElem?_eq_getElem hbi)] at this
    exact this
/-- the expressions, the list locked -/
def rKeyM (F : NF) (js : List Nat) (sp : List (Option V) → Sp) (le : Int → Int → Prop) (lt : Int → Int → Prop) : L2.St → List V → List V → Hp → VK → Prop := fun σ vs zs H Q => ∃ (l f : Addr) (ol : Obj) (ns : List Int) (kf : Int → Int), vs = [.ref l] ∧ zs = [.ref f] ∧ H f = some (FnO f F) ∧ H l = some (.frz ol (.lst (ns.map V.int))) ∧ ns ≠ [] ∧
  (∀ n ∈ ns, ∀ Q : VK, Q (.int (kf n)) H → sp (js.map (slotAt σ)) [.int n] H Q E0) ∧ ∀ (i : Nat) (m : Int), ns[i]? = some m → (∀ (j : Nat) (n : Int), ns[j]? = some n → le (kf n) (kf m) ∧ (j < i → lt (kf n) (kf m))) → Q (.int m) H
def tKeyM (r : L2.St → List V → List V → Hp → VK → Prop) (t tk : TA) : TE := fun σ H Q => t σ H fun vs H1 => tk σ H1 fun zs H2 => r σ vs zs H2 Q
section
variable {x : Str} {p pos : Pos} {e : Expr} {es : List Expr} {kws : List Keyword} {t tk : TA}
def rKeyN (mk : Addr → NF) (js : List Nat) (sp : List (Option V) → Sp) (le : Int → Int → Prop) (lt : Int → Int → Prop) : L2.St → List V → List V → Hp → VK → Prop := fun σ vs zs H Q => ∃ (l f c' : Addr) (ol : Obj) (ns : List Int) (kf : Int → Int), vs = [.ref l] ∧ zs = [.ref f] ∧ H f = some (FnO f (mk c')) ∧ H c' = some (CodeO c' (mk c').qual) ∧ H l = some (.frz ol (.lst (ns.map V.int))) ∧ ns ≠ [] ∧
  (∀ n ∈ ns, ∀ Q : VK, Q (.int (kf n)) H → sp (js.map (slotAt σ)) [.int n] H Q E0) ∧ ∀ (i : Nat) (m : Int), ns[i]? = some m → (∀ (j : Nat) (n : Int), ns[j]? = some n → le (kf n) (kf m) ∧ (j < i → lt (kf n) (kf m))) → Q (.int m) H
variable {mk : Addr → NF}
theorem pe_maxKeyN (hc : X.calm = true) (hr : Room (k + 1) X.A) (Fn : ∀ f c', NOk X.prog X.w X.K X.mg X.base CX0 k f (mk c') ps fr sp) (cp : ∀ c', X.Ok → Caps X (mk c').cl fr js) (hmc : ∀ c', (mk c').c = c') (hg : Gl X x) (hm : X.mg x = none) (hv : bootBuiltins x = some (.builtin "max")) (ha : PA X (e :: es) t) (hk : PK X kws tk) (hn : x ≠ "__name__" := by decide) (hdb : (x == ("__debug__" : Str)) = false := by decide)
    (he : backTo pos (starEach (e :: es) X.env) = (false, eval e X.env) :: backTo pos (starEach es X.env) := by rfl) (hpl : (backTo pos (starEach (e :: es) X.env)).any (·.1) = false := by rfl)
    (hall : (backToKw pos (keywordEach kws X.env)).all (·.1.isSome) = true := by rfl) (hnone : (backToKw pos (keywordEach kws X.env)).any (·.1.isNone) = false := by rfl) (hks : (backToKw pos (keywordEach kws X.env)).filterMap (·.1) = [Str.ofString "key"] := by rfl) :
    PE X (.Call (.Name x p) (e :: es) kws pos) (tKeyM (rKeyN mk js sp (· ≤ ·) (· < ·)) t tk) := by
  refine ⟨fun pins s σ H Q I h => ?_⟩
  refine wpAny_Call_Name_kw (ld_blt I hg hm hv ?_ hn hdb)
  refine PyProof.Rows.callWith_kw (thn (ha.run pos pins s σ H _ I h) fun us s1 ⟨vs, H1, I1, r1, q1⟩ => thn (hk.run pos pins s1 σ H1 _ I1 q1) fun ws s2 ⟨zs, H2, I2, r2, q2⟩ => ?_) he hpl hall hnone
  rw [hks]
  obtain ⟨l, f, c', ol, ns, kf, rfl, rfl, hf, hcd, hl, hne, hh, q⟩ := q2
  rw [Vals.ref1 r1, Vals.ref1 r2]
  exact run_maxKey hc hr (runsN hf (by rw [hmc]; exact hcd) (Fn f c')) (cp c') I2 hf hl hne hh q
theorem pe_minKeyN (hc : X.calm = true) (hr : Room (k + 1) X.A) (Fn : ∀ f c', NOk X.prog X.w X.K X.mg X.base CX0 k f (mk c') ps fr sp) (cp : ∀ c', X.Ok → Caps X (mk c').cl fr js) (hmc : ∀ c', (mk c').c = c') (hg : Gl X x) (hm : X.mg x = none) (hv : bootBuiltins x = some (.builtin "min")) (ha : PA X (e :: es) t) (hk : PK X kws tk) (hn : x ≠ "__name__" := by decide) (hdb : (x == ("__debug__" : Str)) = false := by decide)
    (he : backTo pos (starEach (e :: es) X.env) = (false, eval e X.env) :: backTo pos (starEach es X.env) := by rfl) (hpl : (backTo pos (starEach (e :: es) X.env)).any (·.1) = false := by rfl)
    (hall : (backToKw pos (keywordEach kws X.env)).all (·.1.isSome) = true := by rfl) (hnone : (backToKw pos (keywordEach kws X.env)).any (·.1.isNone) = false := by rfl) (hks : (backToKw pos (keywordEach kws X.env)).filterMap (·.1) = [Str.ofString "key"] := by rfl) :
    PE X (.Call (.Name x p) (e :: es) kws pos) (tKeyM (rKeyN mk js sp (· ≥ ·) (· > ·)) t tk) := by
  refine ⟨fun pins s σ H Q I h => ?_⟩
  refine wpAny_Call_Name_kw (ld_blt I hg hm hv ?_ hn hdb)
  refine PyProof.Rows.callWith_kw (thn (ha.run pos pins s σ H _ I h) fun us s1 ⟨vs, H1, I1, r1, q1⟩ => thn (hk.run pos pins s1 σ H1 _ I1 q1) fun ws s2 ⟨zs, H2, I2, r2, q2⟩ => ?_) he hpl hall hnone
  rw [hks]
  obtain ⟨l, f, c', ol, ns, kf, rfl, rfl, hf, hcd, hl, hne, hh, q⟩ := q2
  rw [Vals.ref1 r1, Vals.ref1 r2]
  exact run_minKey hc hr (runsN hf (by rw [hmc]; exact hcd) (Fn f c')) (cp c') I2 hf hl hne hh q
end
end
end Ph

namespace Ph
open PySem PySem.Spec PyProof.Rows L2
section
variable {prog : Program} {w : World} {A : Around} {E : Value → Shared → Prop} {s : Shared} {K : PySem.W.Frag} {x C f : Addr} {ox : Obj} {odd : Option Obj}
/-- len(x), own __len__ -/
theorem len_own2 {Q : Value → Shared → Prop} (X : K.In s.heap) (I : PySem.W.InstAt s.heap x ox C odd) (hs : PySem.W.findIn K (.ref C) "__len__" = some (some (.ref f))) (hf : PySem.W.isFn K (.ref f) = true)
    (hcall : wpAny (model prog w) A.in1 (call (.ref f) [.ref x]) (fun r s' => ∃ n u, r = .int n u ∧ 0 ≤ n ∧ n < 2 ^ 63 ∧ Q (.int n s'.toks) { s' with toks := s'.toks + 1 }) E s) :
    wpAny (model prog w) A (call (.builtin "len") [.ref x]) Q E s := by
  refine Calls.call_function_entry kind_len plain_len entry_len (args_len1 _) ?_
  unfold Builtin.«len»
  refine wpAny_bind (m := oneArg "len" _) (wpAny_pure ?_)
  refine wpAny_bind (m := callSpecial? (.ref x) (Str.ofString "__len__")) (PySem.W.special_fn X I hs (beq_iff_eq.mp hf) (wpAny_mono hcall (fun r s' hr => ?_) fun _ _ y => y))
  obtain ⟨n, u, rfl, h0, h1, hq⟩ := hr
  refine wpAny_bind (wpAny_holding (wpAny_pure ?_))
  refine wpAny_bind (wpAny_letGo ?_)
  show wpAny _ _ (if n < 0 then _ else _) _ _ _
  rw [if_neg (by omega)]
  show wpAny _ _ (if n ≥ 2 ^ 63 then _ else _) _ _ _
  rw [if_neg (by omega)]
  exact wpAny_bind (wpAny_mkInt (wpAny_pure ⟨_, rfl, hq⟩))
end
section
variable {X : Cx} {C f : Addr} {fd : FuncData} {sp : Sp} {CX : List Env → Hp → Shared → XK → Value → Shared → Prop} {E : XK} {k : Nat} {ps : List Str}
def rLenOwn (C : Addr) (sp : Sp) (E : XK) : List V → Hp → VK → Prop := fun xs H Q => ∃ a dx fs, xs = [V.ref a] ∧ H a = some (.ins C dx fs) ∧ sp [.ref a] H (fun z H' => ∃ n : Nat, z = .int (n : Int) ∧ n ≤ 1000000000 ∧ Q (.int (n : Int)) H') E
theorem call_lenOwn (hm : Meth X.K C "__len__" f) (F : FnOk X.prog X.w X.K X.mg X.base CX k f fd ps sp) (hr : Room (k + 1) X.A) (hb : Binds X.K fd ps []) (hx : Passes CX X E) : CallR X (.builtin "len") (rLenOwn C sp E) := by
  intro pins s σ H xs us Q I r h
  obtain ⟨a, dx, fs, rfl, ea, q⟩ := h
  obtain ⟨u, rfl, ru⟩ := r.one
  cases (show u = Value.ref a from ru)
  obtain ⟨mA, O, _, _, _, _⟩ := ins_get I.hok ea
  obtain ⟨od, J, _⟩ := O.look
  have hl : ([Value.ref a] ++ ([] : List Value)).length = ps.length := by
    have := F.len _ _ _ _ q
    simpa using this
  have rv : Vals [V.ref a] ([Value.ref a] ++ ([] : List Value)) := .cons rfl .nil
  have run : wpAny (model X.prog X.w) X.A.in1 (call (.ref f) [.ref a]) (EP X pins σ fun z H' => ∃ n : Nat, z = .int (n : Int) ∧ n ≤ 1000000000 ∧ Q (.int (n : Int)) H') X.xe s := by
    refine wpAny_call (codeAny_mono (F.run X.A.in1 X.stack s H ⟨[.ref a], []⟩ ([Value.ref a] ++ []) [.ref a] _ E hr.in1 I.env0.in1 (hb s [.ref a] I.kIn hl) rv q) fun r s' hq => ?_)
    cases r with
    | error e => exact hx pins σ H s e s' I hq
    | ok fl =>
      cases fl with
      | ret u => exact I.after hq
      | next => exact False.elim hq
      | brk => exact False.elim hq
      | cont => exact False.elim hq
  refine len_own2 I.kIn J hm.at_ hm.fn (wpAny_mono run (fun w s' z => ?_) fun _ _ x => x)
  · obtain ⟨z', H', I', rz, n, en, hn, qz⟩ := z
    subst en
    obtain ⟨t, e⟩ := (show ∃ t, w = Value.int (n : Int) t from rz)
    cases e
    exact ⟨n, t, rfl, by omega, by omega, .int n, H', I'.tok _, ⟨_, rfl⟩, qz⟩
end
end Ph

set_option maxHeartbeats 4000000
/-! PhLot: what the laws' own searches of the games keep: requests with the states they lead to, tables of lost states. -/
namespace Ph
open PySem PySem.Spec PyProof.Rows L2
/-- a written list of states -/
def LotV (H : Hp) (y : V) (lot : List (List Bk)) : Prop := ∃ E xs, y = .ref E ∧ H E = some (.lst xs) ∧ StVs H xs lot
theorem LotV.same {H H' : Hp} {y : V} {lot : List (List Bk)} (h : LotV H y lot) (s : Same H H') : LotV H' y lot := by
  obtain ⟨E, xs, e, hE, hx⟩ := h
  exact ⟨E, xs, e, s _ _ hE, hx.kt (Same.kt s)⟩
def LotN (D : Addr) (H : Hp) (y : V) (lot : List (List Bk)) : Prop := ∃ E xs, y = .ref E ∧ E ≠ D ∧ H E = some (.lst xs) ∧ StVs H xs lot
theorem LotN.kt {D : Addr} {H H' : Hp} {y : V} {lot : List (List Bk)} (h : LotN D H y lot) (k : Kt H H') (b : But D H H') : LotN D H' y lot := by
  obtain ⟨E, xs, e, ne, hE, hx⟩ := h
  exact ⟨E, xs, e, ne, b _ _ ne hE, hx.kt k⟩
theorem LotN.lot {D : Addr} {H : Hp} {y : V} {lot : List (List Bk)} (h : LotN D H y lot) : LotV H y lot := by
  obtain ⟨E, xs, e, _, hE, hx⟩ := h
  exact ⟨E, xs, e, hE, hx⟩
/-- a list that was not there in the heap H0 -/
def LotO (H0 : Hp) (D : Addr) (H : Hp) (y : V) (lot : List (List Bk)) : Prop := ∃ E xs, y = .ref E ∧ (H0 E = none ∧ E ≠ D) ∧ H E = some (.lst xs) ∧ StVs H xs lot
theorem LotO.kt {H0 : Hp} {D : Addr} {H H' : Hp} {y : V} {lot : List (List Bk)} (h : LotO H0 D H y lot) (k : Kt H H') (b : But D H H') : LotO H0 D H' y lot := by
  obtain ⟨E, xs, e, ne, hE, hx⟩ := h
  exact ⟨E, xs, e, ne, b _ _ ne.2 hE, hx.kt k⟩
def LotH (H0 H : Hp) (y : V) (lot : List (List Bk)) : Prop := ∃ E xs, y = .ref E ∧ H0 E = none ∧ H E = some (.lst xs) ∧ StVs H xs lot
theorem LotO.lot {H0 : Hp} {D : Addr} {H : Hp} {y : V} {lot : List (List Bk)} (h : LotO H0 D H y lot) : LotH H0 H y lot := by
  obtain ⟨E, xs, e, n, hE, hx⟩ := h
  exact ⟨E, xs, e, n.1, hE, hx⟩
theorem LotH.same {H0 H H' : Hp} {y : V} {lot : List (List Bk)} (h : LotH H0 H y lot) (s : Same H H') : LotH H0 H' y lot := by
  obtain ⟨E, xs, e, n, hE, hx⟩ := h
  exact ⟨E, xs, e, n, s _ _ hE, hx.kt (Same.kt s)⟩
theorem LotH.n {H0 H : Hp} {F : Addr} {l : HO} {y : V} {lot : List (List Bk)} (h : LotH H0 H y lot) (e : H0 F = some l) : LotN F H y lot := by
  obtain ⟨E, xs, e1, n, hE, hx⟩ := h
  exact ⟨E, xs, e1, (fun z => by rw [z, e] at n; cases n), hE, hx⟩
/-- the requests of a state: each with the states to which its answers lead -/
def Lots (s : Nat → Nat) (p M : Nat) (W : Int) (bs : List Bk) (lots : List (List (List Bk))) : Prop := ∀ F : List Bk → Prop, (∃ lot ∈ lots, ∀ cs ∈ lot, F cs) ↔ ((∃ j, j ≤ p ∧ totB bs + ((s j : Nat) : Int) ≤ M ∧ ∀ a, Plc W bs ((s j : Nat) : Int) a → F (wb bs a ((s j : Nat) : Int))) ∨ ∃ b ∈ bs, F (ct bs b.1))
theorem Lots.lst {s : Nat → Nat} {p M k : Nat} {W : Int} {bs : List Bk} {lots : List (List (List Bk))} (h : Lots s p M W bs lots) : Lst s p M W (k + 1) bs ↔ ∃ lot ∈ lots, ∀ cs ∈ lot, Lst s p M W k cs := (h _).symm
theorem pi_listV {X : Cx} {K : PySem.W.Frag} {tg e : Expr} {te : TE} (ek : X.K = K) (he : PE X e te) : L2.PI X tg e (iList K te) := by
  subst ek
  exact pi_list he
/-- what the law's table tells of a state: its requests, with the states they lead to -/
def TabV (s : Nat → Nat) (p M : Nat) (W : Int) (H : Hp) (u : Addr) (v : V) (bs : List Bk) : Prop := StAt H u bs ∧ ∃ Q qs lots, v = .ref Q ∧ H Q = some (.lst qs) ∧ Paired (LotV H) qs lots ∧ Lots s p M W bs lots ∧ (∀ lot ∈ lots, lot.length ≤ 1000 ∧ ∀ cs ∈ lot, Gst s p M W cs) ∧ qs.length ≤ 30
def TabN (F : Addr) (s : Nat → Nat) (p M : Nat) (W : Int) (H : Hp) (u : Addr) (v : V) (bs : List Bk) : Prop := StAt H u bs ∧ ∃ Q qs lots, v = .ref Q ∧ Q ≠ F ∧ H Q = some (.lst qs) ∧ Paired (LotN F H) qs lots ∧ Lots s p M W bs lots ∧ (∀ lot ∈ lots, lot.length ≤ 1000 ∧ ∀ cs ∈ lot, Gst s p M W cs) ∧ qs.length ≤ 30
theorem TabV.same {s : Nat → Nat} {p M : Nat} {W : Int} {H H' : Hp} {u : Addr} {v : V} {bs : List Bk} (h : TabV s p M W H u v bs) (sm : Same H H') : TabV s p M W H' u v bs := by
  obtain ⟨h1, Q, qs, lots, e, h2, h3, h4, h5, h6⟩ := h
  exact ⟨h1.same sm, Q, qs, lots, e, sm _ _ h2, Paired.mono (fun _ _ z => z.same sm) h3, h4, h5, h6⟩
theorem TabN.kt {F : Addr} {s : Nat → Nat} {p M : Nat} {W : Int} {H H' : Hp} {u : Addr} {v : V} {bs : List Bk} (h : TabN F s p M W H u v bs) (k : Kt H H') (b : But F H H') : TabN F s p M W H' u v bs := by
  obtain ⟨h1, Q, qs, lots, e, ne, h2, h3, h4, h5, h6⟩ := h
  exact ⟨k.st h1, Q, qs, lots, e, ne, b _ _ ne h2, Paired.mono (fun _ _ z => z.kt k b) h3, h4, h5, h6⟩
theorem TabN.v {F : Addr} {s : Nat → Nat} {p M : Nat} {W : Int} {H : Hp} {u : Addr} {v : V} {bs : List Bk} (h : TabN F s p M W H u v bs) : TabV s p M W H u v bs := by
  obtain ⟨h1, Q, qs, lots, e, ne, h2, h3, h4, h5, h6⟩ := h
  exact ⟨h1, Q, qs, lots, e, h2, Paired.mono (fun _ _ z => z.lot) h3, h4, h5, h6⟩
/-- pairs of a state and something, as what dict is given -/
theorem tab_pairs {K : PySem.W.Frag} {H : Hp} {F : Addr → V → List Bk → Prop} : ∀ {zs : List V} {bss : List (List Bk)}, Paired (fun z bs => ∃ T u v, z = .ref T ∧ H T = some (.tup [.ref u, v]) ∧ F u v bs) zs bss →
    ∃ (ps : List Addr) (es : List KAV), zs = ps.map V.ref ∧ Paired (fun p (e : KAV) => SqT K H p [.ref e.2.1, e.2.2]) ps es ∧ Paired (fun (e : KAV) bs => e.1 = skey bs ∧ F e.2.1 e.2.2 bs) es bss
  | _, _, .nil => ⟨[], [], rfl, .nil, .nil⟩
  | _, _, .cons (b := bs) ⟨T, u, v, e, hT, tv⟩ r => by
    obtain ⟨ps, es, e2, h1, h2⟩ := tab_pairs (K := K) r
    exact ⟨T :: ps, (skey bs, u, v) :: es, by rw [e, e2]; rfl, .cons (.inl (.inl hT)) h1, .cons ⟨rfl, tv⟩ h2⟩
theorem tab_keys {F : KAV → List Bk → Prop} : ∀ {es : List KAV} {bss : List (List Bk)}, Paired (fun (e : KAV) bs => e.1 = skey bs ∧ F e bs) es bss → es.map (·.1) = bss.map skey
  | _, _, .nil => rfl
  | _, _, .cons ⟨e, _⟩ r => by rw [List.map_cons, List.map_cons, e, tab_keys r]
theorem lots_ex {H : Hp} {F : Addr} {lots : List (List (List Bk))} : ∀ {js : List Nat} {zs : List V}, Paired (fun j z => ∃ lot, lots[j]? = some lot ∧ LotN F H z lot) js zs → ∃ ls, Paired (LotV H) zs ls
  | _, _, .nil => ⟨[], .nil⟩
  | _, _, .cons ⟨lot, _, h⟩ r => by
    obtain ⟨ls, h2⟩ := lots_ex r
    exact ⟨lot :: ls, .cons h.lot h2⟩
theorem lots_dp {K : PySem.W.Frag} {H : Hp} : ∀ {xs : List V} {lots : List (List (List Bk))}, Paired (LotV H) xs lots → DpAll K H xs (lots.map lotD)
  | _, _, .nil => .nil
  | _, _, .cons ⟨E, ls, e, hE, hv⟩ r => by
    rw [List.map_cons, e]
    exact .cons (.lst (.inl (.inl hE)) hv.dp) (lots_dp r)
theorem skeys_nodup {bss : List (List Bk)} (nd : bss.Nodup) : (bss.map skey).Nodup := List.pairwise_map.mpr (nd.imp fun ne e => ne (skey_inj e))
/-- the law's table of the lost states, each with its rank -/
structure RkT (w : World) (s : Nat → Nat) (p M : Nat) (W : Int) (H : Hp) (N : Addr) (xs : List KAV) : Prop where
  kd : KDx w H N xs
  en : ∀ x ∈ xs, ∃ bs r, x.1 = skey bs ∧ x.2.2 = .int ((r : Nat) : Int) ∧ Gst s p M W bs ∧ Rnk s p M W r bs
  al : ∀ bs k, Gst s p M W bs → Lst s p M W k bs → InK xs bs
section
variable {w : World} {s : Nat → Nat} {p M : Nat} {W : Int} {H H' : Hp} {N : Addr} {xs : List KAV} {bs : List Bk}
end
end Ph

/-! PhMn3: min of a list of triples of ints. -/
namespace Ph
open PySem PySem.Spec PyProof.Rows L2
abbrev T3I := PySem.W.T3 Int Int Int
def l3 (p q : T3I) : Prop := p.a < q.a ∨ (p.a = q.a ∧ (p.b < q.b ∨ (p.b = q.b ∧ p.c < q.c)))
def tD (p : T3I) : PyData := .tuple [.int p.a, .int p.b, .int p.c]
section
variable {X : Cx}
def rMin3 (K : PySem.W.Frag) : List V → Hp → VK → Prop := fun vs H Q => ∃ (a : Addr) (xs : List V) (k : V → T3I), vs = [V.ref a] ∧ SqL K H a xs ∧ (∀ x ∈ xs, ∃ t, x = V.ref t ∧ H t = some (.tup [.int (k x).a, .int (k x).b, .int (k x).c])) ∧ 0 < xs.length ∧
  ∀ x ∈ xs, (∀ y ∈ xs, ¬ l3 (k y) (k x)) → Q x H
end
end Ph

namespace Ph
open PySem PySem.Spec PyProof.Rows L2
section
variable {X : Cx}
/-! ### block not in a tuple of blocks -/
def rNotInT (K : PySem.W.Frag) : R2 := fun x y H Q => ∃ (b : Bk) (a : Addr) (ys : List V) (cs : List Bk), BkAt H x b ∧ y = .ref a ∧ SqT K H a ys ∧ BL H ys cs ∧ Q (.bl (!decide (b ∈ cs))) H
end
end Ph

namespace Ph
open PySem PySem.Spec PyProof.Rows L2
section
variable {X : Cx} {o : Expr} {p pos apos mpos : Pos} {td : TE}
/-- tuple(d.values()), known to be a plain tuple -/
def tTupValsF (td : TE) : TE := fun σ H Q => td σ H fun x H1 => ∃ a kvs, x = V.ref a ∧ H1 a = some (.dK kvs) ∧ ∀ (q : Addr) (o : Obj), H1 q = none → o.dict = none → Q (.ref q) (upd H1 q (.frz o (.tup (kvs.map (·.2)))))
end
section
variable {X : Cx}
end
end Ph

/-! PhAnE: values of any kind (dicts too) with a bound on their text, kept whatever becomes of q; tuples of such, cut and joined. -/
namespace Ph
open PySem PySem.Spec PyProof.Rows L2
structure ShdAll (ds : List PyData) (n k : Nat) : Prop where
  sh : PyData.showableAll ds = true
  dp : PyData.depthAll ds ≤ n
  lv : PyData.leavesShortAll 40 ds = true
  wt : PyData.weightAll ds ≤ k
  cp : cpAll ds = true
def AnyE (K : PySem.W.Frag) (q : Addr) (H : Hp) (n k : Nat) (x : V) : Prop := ∃ d, Dq K (hid [q] H) x d ∧ Shd d n k
section
variable {K : PySem.W.Frag} {q : Addr} {H H' : Hp} {n k m l : Nat} {x : V}
end
section
variable {X : Cx}
def rSlS : V → Option Int → Option Int → Hp → VK → Prop := fun x lo hi H Q => ∃ a xs, x = .ref a ∧ H a = some (.tup xs) ∧ ∀ p H', Same H H' → H' p = some (.tup (cutV xs lo hi)) → Q (.ref p) H'
def rCatS : R2 := fun x y H Q => ∃ a b xs ys, x = .ref a ∧ y = .ref b ∧ H a = some (.tup xs) ∧ H b = some (.tup ys) ∧ xs.length + ys.length ≤ 1000 ∧ ∀ p H', Same H H' → H' p = some (.tup (xs ++ ys)) → Q (.ref p) H'
end
end Ph
namespace Ph
open PySem PySem.Spec PyProof.Rows L2
/-- the members of a tuple, told with their weight together -/
def AllE (K : PySem.W.Frag) (q : Addr) (H : Hp) (n k : Nat) (xs : List V) : Prop := ∃ ds, DqAll K (hid [q] H) xs ds ∧ ShdAll ds n k
section
variable {K : PySem.W.Frag} {q : Addr} {H H' : Hp} {n k m l : Nat} {xs ys : List V}
end
end Ph

set_option maxHeartbeats 4000000
/-! PhPut: tuple(sorted(blocks + ((start, size),))) as one rule, for variables; t[:i], t[i + 1:] of plain tuples. -/
namespace Ph
open PySem PySem.Spec PyProof.Rows L2
def rTupOf (K : PySem.W.Frag) : List V → Hp → VK → Prop := fun xs H Q => ∃ p ys, xs = [.ref p] ∧ ((SqL K H p ys ∧ ∀ l, H l = none → Q (.ref l) (upd H l (.tup ys))) ∨ (SqT K H p ys ∧ Q (.ref p) H))
def tPut (i j l : Nat) : TE := fun σ H Q => ∃ (t : Addr) (bs : List Bk) (a z : Int), σ[i]? = some (some (.ref t)) ∧ σ[j]? = some (some (.int a)) ∧ σ[l]? = some (some (.int z)) ∧ StAt H t bs ∧ bs.length ≤ 5000 ∧ ∀ H' u cs, Same H H' → StAt H' u cs → cs.Perm (bs ++ [(a, z)]) → (cs.Pairwise fun x y => SrtO.lexB y x = false) → Q (.ref u) H'
end Ph

namespace Ph
open PySem PySem.Spec PyProof.Rows L2
section
variable {X : Cx}
/-! ### t + u of two that are not empty: a new one whose object is known -/
def rCatF (K : PySem.W.Frag) : R2 := fun x y H Q => ∃ a b xs ys, x = .ref a ∧ y = .ref b ∧ SqT K H a xs ∧ SqT K H b ys ∧ xs ≠ [] ∧ ys ≠ [] ∧ xs.length + ys.length ≤ sizeLine ∧
  ∀ p (o : Obj), H p = none → o.dict = none → Q (.ref p) (upd H p (.frz o (.tup (xs ++ ys))))
end
/-! ### the fourth pot: digits, a seed, a count that is bounded -/
def So (N : Nat) (H : Hp) (p : Addr) : Prop := ∃ g r n : Int, H p = some (.lst [.int g, .int r, .int n]) ∧ PoV g r n ∧ n ≤ N
theorem So.po {N : Nat} {H : Hp} {p : Addr} (s : So N H p) : Po H p := let ⟨g, r, n, e, v, _⟩ := s; ⟨g, r, n, e, v⟩
theorem So.same {N : Nat} {H H' : Hp} {p : Addr} (P : So N H p) (s : Same H H') : So N H' p := by
  obtain ⟨g, r, n, h, v⟩ := P
  exact ⟨g, r, n, s _ _ h, v⟩
theorem So.keep {N : Nat} {H : Hp} {p o : Addr} {u : HO} (P : So N H p) (n : p ≠ o) : So N (upd H o u) p := by
  obtain ⟨g, r, k, e0, v⟩ := P
  exact ⟨g, r, k, by rw [upd_ne n]; exact e0, v⟩
theorem So.up {N M : Nat} {H : Hp} {p : Addr} (P : So N H p) (h : N ≤ M) : So M H p := by
  obtain ⟨g, r, k, e0, v, l⟩ := P
  exact ⟨g, r, k, e0, v, by omega⟩
theorem gm_mod {T x : Int} (h : 0 < T) (hT : T.natAbs < 2 ^ 3000) : 0 ≤ x % T ∧ (x % T).natAbs < 2 ^ 3000 := by
  have h0 : 0 ≤ x % T := Int.emod_nonneg _ (by omega)
  exact ⟨h0, wide_le h0 (Int.le_of_lt (Int.emod_lt_of_pos _ h)) hT⟩
theorem gm_mul {T x : Int} (h : 0 < T) (hT : T.natAbs < 2 ^ 3000) (b : Bool) : CMulW (x % T) (if b = true then 1 else 0) :=
  wide_mul (b := 2) (gm_mod h hT).2 (by cases b <;> decide) (by decide) (by decide) (by decide)
theorem gm_pot {T x : Int} (h : 0 < T) (hT : T.natAbs < 2 ^ 3000) (b : Bool) : 0 ≤ x % T * (if b = true then 1 else 0) ∧ (x % T * (if b = true then 1 else 0)).natAbs < 2 ^ 3000 := by
  cases b
  · rw [if_neg (by decide), Int.mul_zero]
    exact ⟨Int.le_refl _, Nat.pow_pos (by decide)⟩
  · rw [if_pos rfl, Int.mul_one]
    exact gm_mod h hT
def ten300 : Int := (10 ^ (60 : Int).toNat) ^ (5 : Int).toNat
theorem ten300_pos : 0 < ten300 := by unfold ten300; decide +kernel
theorem ten300_lt : ten300.natAbs < 2 ^ 3000 := by unfold ten300; decide +kernel
theorem pow_ok60 : CPowW (10 ^ (60 : Int).toNat) 5 := ⟨by decide, by decide +kernel⟩
end Ph

namespace Ph
open PySem PySem.Spec PyProof.Rows L2
/-! ### sum(d.values()) -/
section
variable {X : Cx} {o : Expr} {p pos apos mpos : Pos} {td : TE}
/-- sum(o.values()), a dict with int values -/
def tSumVals (td : TE) : TE := fun σ H Q => td σ H fun x H1 => ∃ (a : Addr) (kvs : List (Key × V)) (is : List Int), x = V.ref a ∧ H1 a = some (.dK kvs) ∧ kvs.map (·.2) = is.map V.int ∧ Q (.int is.sum) H1
end
end Ph

/-! PhTT: several tables of code objects side by side (lambdas, nested defs): Tabs T, each table with one name. -/
namespace Ph
open PySem PySem.Spec PyProof.Rows L2
def nT (T : List (Addr × Str)) : List NdefX.NTab := T.map fun p => (p.1, fun _ _ => p.2)
theorem nT_iff {T : List (Addr × Str)} {H : Hp} : NdefX.TabsN (nT T) H ↔ LamX.Tabs T H := by
  constructor
  · intro h p hp
    exact NdefX.TabN.to (h (p.1, fun _ _ => p.2) (List.mem_map.mpr ⟨p, hp, rfl⟩))
  · intro h q hq
    obtain ⟨p, hp, rfl⟩ := List.mem_map.mp hq
    exact NdefX.TabN.of (h p hp)
/-- the table at P is tracked, under this one name -/
def InT (T : List (Addr × Str)) (P : Addr) (q : Str) : Prop := (P, q) ∈ T ∧ ∀ p ∈ T, p.1 = P → p.2 = q
theorem InT.n {T : List (Addr × Str)} {P : Addr} {q : Str} (h : InT T P q) : (P, fun _ _ => q) ∈ nT T ∧ ∀ p ∈ nT T, p.1 = P → p.2 = fun _ _ => q := by
  refine ⟨List.mem_map.mpr ⟨(P, q), h.1, rfl⟩, fun p hp e => ?_⟩
  obtain ⟨r, hr, rfl⟩ := List.mem_map.mp hp
  have := h.2 r hr e
  funext _ _
  exact this
theorem InT.one (P : Addr) (q : Str) : InT [(P, q)] P q := ⟨.head _, fun p hp _ => by rw [List.mem_singleton.mp hp]⟩
section
variable {T : List (Addr × Str)} {H H' : Hp}
theorem tabsT_but {q : Addr} {xs : List V} (t : LamX.Tabs T H) (b : But q H H') (e : H q = some (.lst xs)) : LamX.Tabs T H' := fun p hp => by
  obtain ⟨ps, h1, h2, h3⟩ := t p hp
  refine ⟨ps, b _ _ (ne_of h1 e (by intro z; cases z)) h1, h2, fun pos cv hc => ?_⟩
  obtain ⟨c, e1, e2⟩ := h3 pos cv hc
  exact ⟨c, e1, b _ _ (ne_of e2 e (by intro z; unfold LamX.CodeO at z; cases z)) e2⟩
theorem tabsT_fr {h l C dx : Addr} {fs : List (Str × V)} {xs : List V} (t : LamX.Tabs T H) (f : Fr h l H H') (e1 : H h = some (.ins C dx fs)) (e2 : H l = some (.lst xs)) : LamX.Tabs T H' := fun p hp => by
  obtain ⟨ps, h1, h2, h3⟩ := t p hp
  refine ⟨ps, f _ _ (ne_of h1 e1 (by intro z; cases z)) (ne_of h1 e2 (by intro z; cases z)) h1, h2, fun pos cv hc => ?_⟩
  obtain ⟨c, e3, e4⟩ := h3 pos cv hc
  exact ⟨c, e3, f _ _ (ne_of e4 e1 (by intro z; unfold LamX.CodeO at z; cases z)) (ne_of e4 e2 (by intro z; unfold LamX.CodeO at z; cases z)) e4⟩
theorem tabsT_nil (h : ∀ p ∈ T, H p.1 = some (.tbl #[])) : LamX.Tabs T H := fun p hp => LamX.TabS.nil (h p hp)
end
end Ph

/-! PhUp: ascending chains of ints as lists; comprehensions that filter them. -/
namespace Ph
open PySem PySem.Spec PyProof.Rows L2
structure UpC (ns : List Int) (x : Int) : Prop where
  asc : ns.Pairwise (· < ·)
  pos : ∀ n ∈ ns, 1 ≤ n
  last : ∃ r, ns = r ++ [x]
end Ph

set_option maxHeartbeats 8000000
namespace Ph
open PySem PySem.Spec PyProof.Rows L2
def topS (i : Nat) : Stmt := PySem.Challenge.pw_pinnedheap_k86_whole_strategies_against.main.body.getD i (.Pass ⟨0, 0, 0, 0⟩)
structure Fns (K : PySem.W.Frag) (mg : Str → Option Value) where
  N : Nm6 K mg
  CHeap : Addr
  clHeap : Cls K CHeap
  gcHeap : mg "Heap" = some (.ref CHeap)
  naHeap_chain : NoAttr K CHeap "chain"
  naHeap_pages : NoAttr K CHeap "pages"
  naHeap_limit : NoAttr K CHeap "limit"
  naHeap_rule : NoAttr K CHeap "rule"
  naHeap_blocks : NoAttr K CHeap "blocks"
  naHeap_steps : NoAttr K CHeap "steps"
  nve : mg "ValueError" = none
  CHeapError : Addr
  gcHeapError : mg "HeapError" = some (.ref CHeapError)
  CNoRoom : Addr
  gcNoRoom : mg "NoRoom" = some (.ref CNoRoom)
  oxNoRoom : OexC K CNoRoom
  ecNoRoom : ExcC K CNoRoom
  xfNoRoom : XfC K CNoRoom
  nfNoRoom_size : PySem.W.findIn K (.ref CNoRoom) "size" = some none
  isNoRoom_HeapError : PySem.W.kitOne K (.ref CNoRoom) (.ref CHeapError) = some true
  isNoRoom_NoRoom : PySem.W.kitOne K (.ref CNoRoom) (.ref CNoRoom) = some true
  isNoRoom_ValueError : PySem.W.kitOne K (.ref CNoRoom) (.type "ValueError") = some true
  exNoRoom : PySem.W.exmOne K (.ref CNoRoom) (.ref CHeapError) = some true
  exNoRoom_NoRoom : PySem.W.exmOne K (.ref CNoRoom) (.ref CNoRoom) = some true
  k_MOST_SIZES : ∃ t : Tok, mg "MOST_SIZES" = some (.int 12 t)
  k_LARGEST_SIZE : ∃ t : Tok, mg "LARGEST_SIZE" = some (.int 1000000000 t)
  k_MOST_STATES : ∃ t : Tok, mg "MOST_STATES" = some (.int 20000 t)
  k_MOST_WORDS : ∃ t : Tok, mg "MOST_WORDS" = some (.int 14 t)
  a_RULES : Addr
  k_RULES : mg "RULES" = some (.ref a_RULES)
  t_RULES : ∀ H : Hp, SqT K H a_RULES [V.str "lowest", V.str "highest", V.str "tight", V.str "loose"]
  fNr : Addr
  fdNr : FuncData
  FNr : Fun K "__init__" "NoRoom.__init__" (inClass (topS 12) 0) fNr fdNr
  bNr : Binds K fdNr ["self", "size"] []
  iNr : PySem.W.findIn K (.ref CNoRoom) "__init__" = some (some (.ref fNr))
  tNr : PySem.W.typeIn K (.ref fNr) = some (.type "function")
  fI : Addr
  fdI : FuncData
  FI : Fun K "is_integer" "is_integer" (topS 18) fI fdI
  bI : Binds K fdI ["value"] []
  gI : mg "is_integer" = some (.ref fI)
  fDu : Addr
  fdDu : FuncData
  FDu : Fun K "divided_up" "divided_up" (topS 19) fDu fdDu
  bDu : Binds K fdDu ["number", "divisor"] []
  gDu : mg "divided_up" = some (.ref fDu)
  fCi : Addr
  fdCi : FuncData
  FCi : Fun K "is_chain" "is_chain" (topS 23) fCi fdCi
  bCi : Binds K fdCi ["value"] []
  gCi : mg "is_chain" = some (.ref fCi)
  fMf : Addr
  fdMf : FuncData
  FMf : Fun K "may_follow" "may_follow" (topS 24) fMf fdMf
  bMf : Binds K fdMf ["larger", "size"] []
  gMf : mg "may_follow" = some (.ref fMf)
  fZ : Addr
  fdZ : FuncData
  FZ : Fun K "is_size" "is_size" (topS 25) fZ fdZ
  bZ : Binds K fdZ ["chain", "value"] []
  gZ : mg "is_size" = some (.ref fZ)
  fC : Addr
  fdC : FuncData
  FC : Fun K "class_of" "class_of" (topS 26) fC fdC
  bC : Binds K fdC ["chain", "size"] []
  gC : mg "class_of" = some (.ref fC)
  fS : Addr
  fdS : FuncData
  FS : Fun K "is_state" "is_state" (topS 30) fS fdS
  bS : Binds K fdS ["chain", "pages", "value"] []
  gS : mg "is_state" = some (.ref fS)
  fBl : Addr
  fdBl : FuncData
  FBl : Fun K "is_block" "is_block" (topS 31) fBl fdBl
  bBl : Binds K fdBl ["chain", "value"] []
  gBl : mg "is_block" = some (.ref fBl)
  fV : Addr
  fdV : FuncData
  FV : Fun K "live_words" "live_words" (topS 32) fV fdV
  bV : Binds K fdV ["state"] []
  gV : mg "live_words" = some (.ref fV)
  fPl : Addr
  fdPl : FuncData
  FPl : Fun K "places" "places" (topS 33) fPl fdPl
  bPl : Binds K fdPl ["chain", "pages", "state", "size"] []
  gPl : mg "places" = some (.ref fPl)
  fGp : Addr
  fdGp : FuncData
  FGp : Fun K "gaps" "gaps" (topS 34) fGp fdGp
  bGp : Binds K fdGp ["chain", "pages", "state", "size"] []
  gGp : mg "gaps" = some (.ref fGp)
  fIp : Addr
  fdIp : FuncData
  FIp : Fun K "is_place" "is_place" (topS 35) fIp fdIp
  bIp : Binds K fdIp ["chain", "pages", "state", "address", "size"] []
  gIp : mg "is_place" = some (.ref fIp)
  fMh : Addr
  fdMh : FuncData
  FMh : Fun K "may_hold" "may_hold" (topS 36) fMh fdMh
  bMh : Binds K fdMh ["state", "address", "size"] []
  gMh : mg "may_hold" = some (.ref fMh)
  fWb : Addr
  fdWb : FuncData
  FWb : Fun K "with_block" "with_block" (topS 37) fWb fdWb
  bWb : Binds K fdWb ["state", "address", "size"] []
  gWb : mg "with_block" = some (.ref fWb)
  fOb : Addr
  fdOb : FuncData
  FOb : Fun K "without_block" "without_block" (topS 38) fOb fdOb
  bOb : Binds K fdOb ["state", "address"] []
  gOb : mg "without_block" = some (.ref fOb)
  fHb : Addr
  fdHb : FuncData
  FHb : Fun K "has_block" "has_block" (topS 39) fHb fdHb
  bHb : Binds K fdHb ["state", "value"] []
  gHb : mg "has_block" = some (.ref fHb)
  fCs : Addr
  fdCs : FuncData
  FCs : Fun K "count_states" "count_states" (topS 40) fCs fdCs
  bCs : Binds K fdCs ["chain", "pages"] []
  gCs : mg "count_states" = some (.ref fCs)
  fPw : Addr
  fdPw : FuncData
  FPw : Fun K "power" "power" (topS 41) fPw fdPw
  bPw : Binds K fdPw ["base", "times"] []
  gPw : mg "power" = some (.ref fPw)
  fCm : Addr
  fdCm : FuncData
  FCm : Fun K "check_many" "check_many" (topS 42) fCm fdCm
  bCm : Binds K fdCm ["many"] []
  gCm : mg "check_many" = some (.ref fCm)
  fCh : Addr
  fdCh : FuncData
  FCh : Fun K "check_heap" "check_heap" (topS 43) fCh fdCh
  bCh : Binds K fdCh ["chain", "pages"] []
  gCh : mg "check_heap" = some (.ref fCh)
  fAs : Addr
  fdAs : FuncData
  FAs : Fun K "all_states" "all_states" (topS 44) fAs fdAs
  bAs : Binds K fdAs ["chain", "pages", "limit"] []
  gAs : mg "all_states" = some (.ref fAs)
  fSw : Addr
  fdSw : FuncData
  FSw : Fun K "states_of_words" "states_of_words" (topS 45) fSw fdSw
  bSw : Binds K fdSw ["chain", "words"] []
  gSw : mg "states_of_words" = some (.ref fSw)
  fMv : Addr
  fdMv : FuncData
  FMv : Fun K "moves_to_fail" "moves_to_fail" (topS 47) fMv fdMv
  bMv : Binds K fdMv ["chain", "limit", "pages", "state"] []
  gMv : mg "moves_to_fail" = some (.ref fMv)
  fSt : Addr
  fdSt : FuncData
  FSt : Fun K "strategy" "strategy" (topS 48) fSt fdSt
  bSt : Binds K fdSt ["chain", "limit", "pages", "state"] []
  gSt : mg "strategy" = some (.ref fSt)
  fSx : Addr
  fdSx : FuncData
  FSx : Fun K "states_behind" "states_behind" (topS 49) fSx fdSx
  bSx : Binds K fdSx ["chain", "pages", "state", "request"] []
  gSx : mg "states_behind" = some (.ref fSx)
  fCk : Addr
  fdCk : FuncData
  FCk : Fun K "check_state" "check_state" (topS 50) fCk fdCk
  bCk : Binds K fdCk ["chain", "limit", "pages", "state"] []
  gCk : mg "check_state" = some (.ref fCk)
  fAl : Addr
  fdAl : FuncData
  FAl : Fun K "allowed_sizes" "allowed_sizes" (topS 51) fAl fdAl
  bAl : Binds K fdAl ["chain", "limit", "state"] []
  gAl : mg "allowed_sizes" = some (.ref fAl)
  fUs : Addr
  fdUs : FuncData
  FUs : Fun K "unsafe_states" "unsafe_states" (topS 52) fUs fdUs
  bUs : Binds K fdUs ["chain", "limit", "pages"] []
  gUs : mg "unsafe_states" = some (.ref fUs)
  fSb : Addr
  fdSb : FuncData
  FSb : Fun K "states_before" "states_before" (topS 53) fSb fdSb
  bSb : Binds K fdSb ["chain", "limit", "pages", "newest", "moves", "unsafe", "escapes"] []
  gSb : mg "states_before" = some (.ref fSb)
  fRq : Addr
  fdRq : FuncData
  FRq : Fun K "requests_into" "requests_into" (topS 54) fRq fdRq
  bRq : Binds K fdRq ["chain", "limit", "pages", "state", "escapes"] []
  gRq : mg "requests_into" = some (.ref fRq)
  fIr : Addr
  fdIr : FuncData
  FIr : Fun K "is_rule" "is_rule" (topS 57) fIr fdIr
  bIr : Binds K fdIr ["value"] []
  gIr : mg "is_rule" = some (.ref fIr)
  fPc : Addr
  fdPc : FuncData
  FPc : Fun K "place" "place" (topS 58) fPc fdPc
  bPc : Binds K fdPc ["rule", "chain", "pages", "state", "size"] []
  gPc : mg "place" = some (.ref fPc)
  fPp : Addr
  fdPp : FuncData
  FPp : Fun K "place_by_page" "place_by_page" (topS 59) fPp fdPp
  bPp : Binds K fdPp ["rule", "chain", "state", "found"] []
  gPp : mg "place_by_page" = some (.ref fPp)
  fLb : Addr
  fdLb : FuncData
  FLb : Fun K "lowest_by_page" "lowest_by_page" (topS 60) fLb fdLb
  bLb : Binds K fdLb ["first", "last", "page"] []
  gLb : mg "lowest_by_page" = some (.ref fLb)
  fTw : Addr
  fdTw : FuncData
  FTw : Fun K "taken_words" "taken_words" (topS 61) fTw fdTw
  bTw : Binds K fdTw ["chain", "state"] []
  gTw : mg "taken_words" = some (.ref fTw)
  fHi : Addr
  fdHi : FuncData
  FHi : FunD K "__init__" "Heap.__init__" (defArgs (inClass (topS 63) 0)) (defBody (inClass (topS 63) 0)) (defScope (inClass (topS 63) 0)) [] [("rule", V.str "lowest")] fHi fdHi
  MHi : Mk K CHeap fHi
  bHi : ∃ ds, Vals [V.str "lowest"] ds ∧ Binds K fdHi ["self", "chain", "pages", "limit", "rule"] ds
  fHg : Addr
  fdHg : FuncData
  FHg : Fun K "get" "Heap.get" (inClass (topS 63) 1) fHg fdHg
  bHg : Binds K fdHg ["self", "size"] []
  mHg : Meth K CHeap "get" fHg
  fPt : Addr
  fdPt : FuncData
  FPt : Fun K "put" "Heap.put" (inClass (topS 63) 2) fPt fdPt
  bPt : Binds K fdPt ["self", "address", "size"] []
  mPt : Meth K CHeap "put" fPt
  fHk : Addr
  fdHk : FuncData
  FHk : Fun K "check" "Heap.check" (inClass (topS 63) 3) fHk fdHk
  bHk : Binds K fdHk ["self", "size"] []
  mHk : Meth K CHeap "check" fHk
  fHe : Addr
  fdHe : FuncData
  FHe : Fun K "enter" "Heap.enter" (inClass (topS 63) 4) fHe fdHe
  bHe : Binds K fdHe ["self", "address", "size"] []
  mHe : Meth K CHeap "enter" fHe
  fHf : Addr
  fdHf : FuncData
  FHf : Fun K "free" "Heap.free" (inClass (topS 63) 5) fHf fdHf
  bHf : Binds K fdHf ["self", "address"] []
  mHf : Meth K CHeap "free" fHf
  fUn : Addr
  fdUn : FuncData
  FUn : Fun K "undo" "Heap.undo" (inClass (topS 63) 6) fUn fdUn
  bUn : Binds K fdUn ["self"] []
  mUn : Meth K CHeap "undo" fUn
  fHs : Addr
  fdHs : FuncData
  FHs : Fun K "state" "Heap.state" (inClass (topS 63) 7) fHs fdHs
  bHs : Binds K fdHs ["self"] []
  mHs : Meth K CHeap "state" fHs
  fHh : Addr
  fdHh : FuncData
  FHh : Fun K "history" "Heap.history" (inClass (topS 63) 10) fHh fdHh
  bHh : Binds K fdHh ["self"] []
  mHh : Meth K CHeap "history" fHh
  fLn : Addr
  fdLn : FuncData
  FLn : Fun K "__len__" "Heap.__len__" (inClass (topS 63) 12) fLn fdLn
  bLn : Binds K fdLn ["self"] []
  mLn : Meth K CHeap "__len__" fLn
  fEw : Addr
  fdEw : FuncData
  FEw : Fun K "event_of" "event_of" (topS 64) fEw fdEw
  bEw : Binds K fdEw ["word", "address", "size"] []
  gEw : mg "event_of" = some (.ref fEw)
  fRy : Addr
  fdRy : FuncData
  FRy : Fun K "replay" "replay" (topS 65) fRy fdRy
  bRy : Binds K fdRy ["chain", "pages", "limit", "history"] []
  gRy : mg "replay" = some (.ref fRy)
  fFe : Addr
  fdFe : FuncData
  FFe : Fun K "has_form_of_event" "has_form_of_event" (topS 66) fFe fdFe
  bFe : Binds K fdFe ["value"] []
  gFe : mg "has_form_of_event" = some (.ref fFe)
  fRe : Addr
  fdRe : FuncData
  FRe : Fun K "repeat" "repeat" (topS 67) fRe fdRe
  bRe : Binds K fdRe ["heap", "event"] []
  gRe : mg "repeat" = some (.ref fRe)
  fSc : Addr
  fdSc : FuncData
  FSc : Fun K "_law_source" "_law_source" (topS 69) fSc fdSc
  bSc : Binds K fdSc ["_law_script", "_law_k"] []
  gSc : mg "_law_source" = some (.ref fSc)
  fNu : Addr
  fdNu : FuncData
  FNu : Fun K "_law_number" "_law_number" (topS 70) fNu fdNu
  bNu : Binds K fdNu ["_law_source_here", "_law_below"] []
  gNu : mg "_law_number" = some (.ref fNu)
  fCo : Addr
  fdCo : FuncData
  FCo : Fun K "_law_choice" "_law_choice" (topS 71) fCo fdCo
  bCo : Binds K fdCo ["_law_source_here", "_law_some"] []
  gCo : mg "_law_choice" = some (.ref fCo)
  fWs : Addr
  fdWs : FuncData
  FWs : Fun K "_law_words" "_law_words" (topS 72) fWs fdWs
  bWs : Binds K fdWs ["_law_blocks"] []
  gWs : mg "_law_words" = some (.ref fWs)
  fLs : Addr
  fdLs : FuncData
  FLs : Fun K "_law_spots" "_law_spots" (topS 73) fLs fdLs
  bLs : Binds K fdLs ["_law_sizes", "_law_pages_here", "_law_blocks", "_law_many"] []
  gLs : mg "_law_spots" = some (.ref fLs)
  fLp : Addr
  fdLp : FuncData
  FLp : Fun K "_law_put" "_law_put" (topS 74) fLp fdLp
  bLp : Binds K fdLp ["_law_blocks", "_law_start", "_law_many"] []
  gLp : mg "_law_put" = some (.ref fLp)
  fLk : Addr
  fdLk : FuncData
  FLk : Fun K "_law_cut" "_law_cut" (topS 75) fLk fdLk
  bLk : Binds K fdLk ["_law_blocks", "_law_start"] []
  gLk : mg "_law_cut" = some (.ref fLk)
  fEv : Addr
  fdEv : FuncData
  FEv : Fun K "_law_every" "_law_every" (topS 76) fEv fdEv
  bEv : Binds K fdEv ["_law_sizes", "_law_most", "_law_pages_here"] []
  gEv : mg "_law_every" = some (.ref fEv)
  fMs : Addr
  fdMs : FuncData
  FMs : Fun K "_law_moves" "_law_moves" (topS 77) fMs fdMs
  bMs : Binds K fdMs ["_law_sizes", "_law_most", "_law_pages_here", "_law_blocks"] []
  gMs : mg "_law_moves" = some (.ref fMs)
  fRk : Addr
  fdRk : FuncData
  FRk : Fun K "_law_ranks" "_law_ranks" (topS 78) fRk fdRk
  bRk : Binds K fdRk ["_law_sizes", "_law_most", "_law_pages_here"] []
  gRk : mg "_law_ranks" = some (.ref fRk)
  fSg : Addr
  fdSg : FuncData
  FSg : Fun K "_law_small" "_law_small" (topS 79) fSg fdSg
  bSg : Binds K fdSg ["_law_source_here", "_law_largest"] []
  gSg : mg "_law_small" = some (.ref fSg)
  fAx : Addr
  fdAx : FuncData
  FAx : Fun K "_law_asked" "_law_asked" (topS 80) fAx fdAx
  bAx : Binds K fdAx ["_law_made", "_law_asked_here"] []
  gAx : mg "_law_asked" = some (.ref fAx)
  fLaw : Addr
  fdLaw : FuncData
  FLaw : Fun K "law" "law" (topS 81) fLaw fdLaw
  bLaw : Binds K fdLaw ["_law_script"] []
  gLaw : mg "law" = some (.ref fLaw)
  cPp : Addr
  pPp : Addr
  ePp : fdPp.code = .ref cPp
abbrev sNr : Stmt := (inClass (topS 12) 0)
abbrev scNrS : Stmt := sNr
abbrev scNrN : List Str := ["self", "size"]
theorem scNr : FnScope ["self", "size"] ["self", "size"] (defScope sNr) := ⟨rfl, rfl, rfl, by decide +kernel, rfl, by decide +kernel, by decide +kernel⟩
abbrev sI : Stmt := (topS 18)
abbrev scIS : Stmt := sI
abbrev scIN : List Str := ["value"]
theorem scI : FnScope ["value"] ["value"] (defScope sI) := ⟨rfl, rfl, rfl, by decide +kernel, rfl, by decide +kernel, by decide +kernel⟩
abbrev sDu : Stmt := (topS 19)
abbrev scDuS : Stmt := sDu
abbrev scDuN : List Str := ["number", "divisor"]
theorem scDu : FnScope ["number", "divisor"] ["number", "divisor"] (defScope sDu) := ⟨rfl, rfl, rfl, by decide +kernel, rfl, by decide +kernel, by decide +kernel⟩
abbrev sCi : Stmt := (topS 23)
abbrev scCiS : Stmt := sCi
abbrev scCiN : List Str := ["value", "size", "larger"]
theorem scCi : FnScope ["value", "size", "larger"] ["value"] (defScope sCi) := ⟨rfl, rfl, rfl, by decide +kernel, rfl, by decide +kernel, by decide +kernel⟩
abbrev sMf : Stmt := (topS 24)
abbrev scMfS : Stmt := sMf
abbrev scMfN : List Str := ["larger", "size"]
theorem scMf : FnScope ["larger", "size"] ["larger", "size"] (defScope sMf) := ⟨rfl, rfl, rfl, by decide +kernel, rfl, by decide +kernel, by decide +kernel⟩
abbrev sZ : Stmt := (topS 25)
abbrev scZS : Stmt := sZ
abbrev scZN : List Str := ["chain", "value"]
theorem scZ : FnScope ["chain", "value"] ["chain", "value"] (defScope sZ) := ⟨rfl, rfl, rfl, by decide +kernel, rfl, by decide +kernel, by decide +kernel⟩
abbrev sC : Stmt := (topS 26)
abbrev scCS : Stmt := sC
abbrev scCN : List Str := ["chain", "size"]
theorem scC : FnScope ["chain", "size"] ["chain", "size"] (defScope sC) := ⟨rfl, rfl, rfl, by decide +kernel, rfl, by decide +kernel, by decide +kernel⟩
abbrev sS : Stmt := (topS 30)
abbrev scSS : Stmt := sS
abbrev scSN : List Str := ["chain", "pages", "value", "end", "address", "size", "item"]
theorem scS : FnScope ["chain", "pages", "value", "end", "address", "size", "item"] ["chain", "pages", "value"] (defScope sS) := ⟨rfl, rfl, rfl, by decide +kernel, rfl, by decide +kernel, by decide +kernel⟩
abbrev sBl : Stmt := (topS 31)
abbrev scBlS : Stmt := sBl
abbrev scBlN : List Str := ["chain", "value", "address", "size"]
theorem scBl : FnScope ["chain", "value", "address", "size"] ["chain", "value"] (defScope sBl) := ⟨rfl, rfl, rfl, by decide +kernel, rfl, by decide +kernel, by decide +kernel⟩
abbrev sV : Stmt := (topS 32)
abbrev scVS : Stmt := sV
abbrev scVN : List Str := ["state", "address", "size"]
theorem scV : FnScope ["state", "address", "size"] ["state"] (defScope sV) := ⟨rfl, rfl, rfl, by decide +kernel, rfl, by decide +kernel, by decide +kernel⟩
abbrev sPl : Stmt := (topS 33)
abbrev scPlS : Stmt := sPl
abbrev scPlN : List Str := ["chain", "pages", "state", "size", "found", "first", "last"]
theorem scPl : FnScope ["chain", "pages", "state", "size", "found", "first", "last"] ["chain", "pages", "state", "size"] (defScope sPl) := ⟨rfl, rfl, rfl, by decide +kernel, rfl, by decide +kernel, by decide +kernel⟩
abbrev sGp : Stmt := (topS 34)
abbrev scGpS : Stmt := sGp
abbrev scGpN : List Str := ["chain", "pages", "state", "size", "found", "free_from", "address", "taken", "first", "last"]
theorem scGp : FnScope ["chain", "pages", "state", "size", "found", "free_from", "address", "taken", "first", "last"] ["chain", "pages", "state", "size"] (defScope sGp) := ⟨rfl, rfl, rfl, by decide +kernel, rfl, by decide +kernel, by decide +kernel⟩
abbrev sIp : Stmt := (topS 35)
abbrev scIpS : Stmt := sIp
abbrev scIpN : List Str := ["chain", "pages", "state", "address", "size"]
theorem scIp : FnScope ["chain", "pages", "state", "address", "size"] ["chain", "pages", "state", "address", "size"] (defScope sIp) := ⟨rfl, rfl, rfl, by decide +kernel, rfl, by decide +kernel, by decide +kernel⟩
abbrev sMh : Stmt := (topS 36)
abbrev scMhS : Stmt := sMh
abbrev scMhN : List Str := ["state", "address", "size", "start", "taken"]
theorem scMh : FnScope ["state", "address", "size", "start", "taken"] ["state", "address", "size"] (defScope sMh) := ⟨rfl, rfl, rfl, by decide +kernel, rfl, by decide +kernel, by decide +kernel⟩
abbrev sWb : Stmt := (topS 37)
abbrev scWbS : Stmt := sWb
abbrev scWbN : List Str := ["state", "address", "size"]
theorem scWb : FnScope ["state", "address", "size"] ["state", "address", "size"] (defScope sWb) := ⟨rfl, rfl, rfl, by decide +kernel, rfl, by decide +kernel, by decide +kernel⟩
abbrev sOb : Stmt := (topS 38)
abbrev scObS : Stmt := sOb
abbrev scObN : List Str := ["state", "address", "block"]
theorem scOb : FnScope ["state", "address", "block"] ["state", "address"] (defScope sOb) := ⟨rfl, rfl, rfl, by decide +kernel, rfl, by decide +kernel, by decide +kernel⟩
abbrev sHb : Stmt := (topS 39)
abbrev scHbS : Stmt := sHb
abbrev scHbN : List Str := ["state", "value", "address", "size"]
theorem scHb : FnScope ["state", "value", "address", "size"] ["state", "value"] (defScope sHb) := ⟨rfl, rfl, rfl, by decide +kernel, rfl, by decide +kernel, by decide +kernel⟩
abbrev sCs : Stmt := (topS 40)
abbrev scCsS : Stmt := sCs
abbrev scCsN : List Str := ["chain", "pages", "counted", "size", "larger"]
theorem scCs : FnScope ["chain", "pages", "counted", "size", "larger"] ["chain", "pages"] (defScope sCs) := ⟨rfl, rfl, rfl, by decide +kernel, rfl, by decide +kernel, by decide +kernel⟩
abbrev sPw : Stmt := (topS 41)
abbrev scPwS : Stmt := sPw
abbrev scPwN : List Str := ["base", "times", "product", "turn"]
theorem scPw : FnScope ["base", "times", "product", "turn"] ["base", "times"] (defScope sPw) := ⟨rfl, rfl, rfl, by decide +kernel, rfl, by decide +kernel, by decide +kernel⟩
abbrev sCm : Stmt := (topS 42)
abbrev scCmS : Stmt := sCm
abbrev scCmN : List Str := ["many"]
theorem scCm : FnScope ["many"] ["many"] (defScope sCm) := ⟨rfl, rfl, rfl, by decide +kernel, rfl, by decide +kernel, by decide +kernel⟩
abbrev sCh : Stmt := (topS 43)
abbrev scChS : Stmt := sCh
abbrev scChN : List Str := ["chain", "pages"]
theorem scCh : FnScope ["chain", "pages"] ["chain", "pages"] (defScope sCh) := ⟨rfl, rfl, rfl, by decide +kernel, rfl, by decide +kernel, by decide +kernel⟩
abbrev sAs : Stmt := (topS 44)
abbrev scAsS : Stmt := sAs
abbrev scAsN : List Str := ["chain", "pages", "limit", "found", "state"]
theorem scAs : FnScope ["chain", "pages", "limit", "found", "state"] ["chain", "pages", "limit"] (defScope sAs) := ⟨rfl, rfl, rfl, by decide +kernel, rfl, by decide +kernel, by decide +kernel⟩
abbrev sSw : Stmt := (topS 45)
abbrev scSwS : Stmt := sSw
abbrev scSwN : List Str := ["chain", "words", "behind", "start", "found", "size", "rest"]
theorem scSw : FnScope ["chain", "words", "behind", "start", "found", "size", "rest"] ["chain", "words"] (defScope sSw) := ⟨rfl, rfl, rfl, by decide +kernel, rfl, by decide +kernel, by decide +kernel⟩
abbrev sMv : Stmt := (topS 47)
abbrev scMvS : Stmt := sMv
abbrev scMvN : List Str := ["chain", "limit", "pages", "state", "unsafe"]
theorem scMv : FnScope ["chain", "limit", "pages", "state", "unsafe"] ["chain", "limit", "pages", "state"] (defScope sMv) := ⟨rfl, rfl, rfl, by decide +kernel, rfl, by decide +kernel, by decide +kernel⟩
abbrev sSt : Stmt := (topS 48)
abbrev scStS : Stmt := sSt
abbrev scStN : List Str := ["chain", "limit", "pages", "state", "unsafe", "listed", "waiting", "current", "moves", "request"]
theorem scSt : FnScope ["chain", "limit", "pages", "state", "unsafe", "listed", "waiting", "current", "moves", "request"] ["chain", "limit", "pages", "state"] (defScope sSt) := ⟨rfl, rfl, rfl, by decide +kernel, rfl, by decide +kernel, by decide +kernel⟩
abbrev sSx : Stmt := (topS 49)
abbrev scSxS : Stmt := sSx
abbrev scSxN : List Str := ["chain", "pages", "state", "request", "word", "number", "place"]
theorem scSx : FnScope ["chain", "pages", "state", "request", "word", "number", "place"] ["chain", "pages", "state", "request"] (defScope sSx) := ⟨rfl, rfl, rfl, by decide +kernel, rfl, by decide +kernel, by decide +kernel⟩
abbrev sCk : Stmt := (topS 50)
abbrev scCkS : Stmt := sCk
abbrev scCkN : List Str := ["chain", "limit", "pages", "state"]
theorem scCk : FnScope ["chain", "limit", "pages", "state"] ["chain", "limit", "pages", "state"] (defScope sCk) := ⟨rfl, rfl, rfl, by decide +kernel, rfl, by decide +kernel, by decide +kernel⟩
abbrev sAl : Stmt := (topS 51)
abbrev scAlS : Stmt := sAl
abbrev scAlN : List Str := ["chain", "limit", "state", "left", "size"]
theorem scAl : FnScope ["chain", "limit", "state", "left", "size"] ["chain", "limit", "state"] (defScope sAl) := ⟨rfl, rfl, rfl, by decide +kernel, rfl, by decide +kernel, by decide +kernel⟩
abbrev sUs : Stmt := (topS 52)
abbrev scUsS : Stmt := sUs
abbrev scUsN : List Str := ["chain", "limit", "pages", "unsafe", "escapes", "state", "size", "moves", "newest"]
theorem scUs : FnScope ["chain", "limit", "pages", "unsafe", "escapes", "state", "size", "moves", "newest"] ["chain", "limit", "pages"] (defScope sUs) := ⟨rfl, rfl, rfl, by decide +kernel, rfl, by decide +kernel, by decide +kernel⟩
abbrev sSb : Stmt := (topS 53)
abbrev scSbS : Stmt := sSb
abbrev scSbN : List Str := ["chain", "limit", "pages", "newest", "moves", "unsafe", "escapes", "found", "state", "before", "request"]
theorem scSb : FnScope ["chain", "limit", "pages", "newest", "moves", "unsafe", "escapes", "found", "state", "before", "request"] ["chain", "limit", "pages", "newest", "moves", "unsafe", "escapes"] (defScope sSb) := ⟨rfl, rfl, rfl, by decide +kernel, rfl, by decide +kernel, by decide +kernel⟩
abbrev sRq : Stmt := (topS 54)
abbrev scRqS : Stmt := sRq
abbrev scRqN : List Str := ["chain", "limit", "pages", "state", "escapes", "found", "size", "place", "address", "before"]
theorem scRq : FnScope ["chain", "limit", "pages", "state", "escapes", "found", "size", "place", "address", "before"] ["chain", "limit", "pages", "state", "escapes"] (defScope sRq) := ⟨rfl, rfl, rfl, by decide +kernel, rfl, by decide +kernel, by decide +kernel⟩
abbrev sIr : Stmt := (topS 57)
abbrev scIrS : Stmt := sIr
abbrev scIrN : List Str := ["value"]
theorem scIr : FnScope ["value"] ["value"] (defScope sIr) := ⟨rfl, rfl, rfl, by decide +kernel, rfl, by decide +kernel, by decide +kernel⟩
abbrev sPc : Stmt := (topS 58)
abbrev scPcS : Stmt := sPc
abbrev scPcN : List Str := ["rule", "chain", "pages", "state", "size", "found"]
theorem scPc : FnScope ["rule", "chain", "pages", "state", "size", "found"] ["rule", "chain", "pages", "state", "size"] (defScope sPc) := ⟨rfl, rfl, rfl, by decide +kernel, rfl, by decide +kernel, by decide +kernel⟩
abbrev sPp : Stmt := (topS 59)
abbrev scPpS : Stmt := sPp
abbrev scPpN : List Str := ["rule", "chain", "state", "found", "candidates", "first", "last", "taken_around", "page", "taken", "address"]
theorem scPp : FnScope ["rule", "chain", "state", "found", "candidates", "first", "last", "taken_around", "page", "taken", "address"] ["rule", "chain", "state", "found"] (defScope sPp) := ⟨rfl, rfl, rfl, by decide +kernel, rfl, by decide +kernel, by decide +kernel⟩
abbrev sLb : Stmt := (topS 60)
abbrev scLbS : Stmt := sLb
abbrev scLbN : List Str := ["first", "last", "page", "starts", "start"]
theorem scLb : FnScope ["first", "last", "page", "starts", "start"] ["first", "last", "page"] (defScope sLb) := ⟨rfl, rfl, rfl, by decide +kernel, rfl, by decide +kernel, by decide +kernel⟩
abbrev sTw : Stmt := (topS 61)
abbrev scTwS : Stmt := sTw
abbrev scTwN : List Str := ["chain", "state", "taken", "address", "size", "number"]
theorem scTw : FnScope ["chain", "state", "taken", "address", "size", "number"] ["chain", "state"] (defScope sTw) := ⟨rfl, rfl, rfl, by decide +kernel, rfl, by decide +kernel, by decide +kernel⟩
abbrev sHi : Stmt := (inClass (topS 63) 0)
abbrev scHiS : Stmt := sHi
abbrev scHiN : List Str := ["self", "chain", "pages", "limit", "rule"]
theorem scHi : FnScope ["self", "chain", "pages", "limit", "rule"] ["self", "chain", "pages", "limit", "rule"] (defScope sHi) := ⟨rfl, rfl, rfl, by decide +kernel, rfl, by decide +kernel, by decide +kernel⟩
abbrev sHg : Stmt := (inClass (topS 63) 1)
abbrev scHgS : Stmt := sHg
abbrev scHgN : List Str := ["self", "size", "address"]
theorem scHg : FnScope ["self", "size", "address"] ["self", "size"] (defScope sHg) := ⟨rfl, rfl, rfl, by decide +kernel, rfl, by decide +kernel, by decide +kernel⟩
abbrev sPt : Stmt := (inClass (topS 63) 2)
abbrev scPtS : Stmt := sPt
abbrev scPtN : List Str := ["self", "address", "size"]
theorem scPt : FnScope ["self", "address", "size"] ["self", "address", "size"] (defScope sPt) := ⟨rfl, rfl, rfl, by decide +kernel, rfl, by decide +kernel, by decide +kernel⟩
abbrev sHk : Stmt := (inClass (topS 63) 3)
abbrev scHkS : Stmt := sHk
abbrev scHkN : List Str := ["self", "size"]
theorem scHk : FnScope ["self", "size"] ["self", "size"] (defScope sHk) := ⟨rfl, rfl, rfl, by decide +kernel, rfl, by decide +kernel, by decide +kernel⟩
abbrev sHe : Stmt := (inClass (topS 63) 4)
abbrev scHeS : Stmt := sHe
abbrev scHeN : List Str := ["self", "address", "size"]
theorem scHe : FnScope ["self", "address", "size"] ["self", "address", "size"] (defScope sHe) := ⟨rfl, rfl, rfl, by decide +kernel, rfl, by decide +kernel, by decide +kernel⟩
abbrev sHf : Stmt := (inClass (topS 63) 5)
abbrev scHfS : Stmt := sHf
abbrev scHfN : List Str := ["self", "address", "kept"]
theorem scHf : FnScope ["self", "address", "kept"] ["self", "address"] (defScope sHf) := ⟨rfl, rfl, rfl, by decide +kernel, rfl, by decide +kernel, by decide +kernel⟩
abbrev sUn : Stmt := (inClass (topS 63) 6)
abbrev scUnS : Stmt := sUn
abbrev scUnN : List Str := ["self", "word", "address", "size"]
theorem scUn : FnScope ["self", "word", "address", "size"] ["self"] (defScope sUn) := ⟨rfl, rfl, rfl, by decide +kernel, rfl, by decide +kernel, by decide +kernel⟩
abbrev sHs : Stmt := (inClass (topS 63) 7)
abbrev scHsS : Stmt := sHs
abbrev scHsN : List Str := ["self"]
theorem scHs : FnScope ["self"] ["self"] (defScope sHs) := ⟨rfl, rfl, rfl, by decide +kernel, rfl, by decide +kernel, by decide +kernel⟩
abbrev sHh : Stmt := (inClass (topS 63) 10)
abbrev scHhS : Stmt := sHh
abbrev scHhN : List Str := ["self", "word", "address", "size"]
theorem scHh : FnScope ["self", "word", "address", "size"] ["self"] (defScope sHh) := ⟨rfl, rfl, rfl, by decide +kernel, rfl, by decide +kernel, by decide +kernel⟩
abbrev sLn : Stmt := (inClass (topS 63) 12)
abbrev scLnS : Stmt := sLn
abbrev scLnN : List Str := ["self"]
theorem scLn : FnScope ["self"] ["self"] (defScope sLn) := ⟨rfl, rfl, rfl, by decide +kernel, rfl, by decide +kernel, by decide +kernel⟩
abbrev sEw : Stmt := (topS 64)
abbrev scEwS : Stmt := sEw
abbrev scEwN : List Str := ["word", "address", "size"]
theorem scEw : FnScope ["word", "address", "size"] ["word", "address", "size"] (defScope sEw) := ⟨rfl, rfl, rfl, by decide +kernel, rfl, by decide +kernel, by decide +kernel⟩
abbrev sRy : Stmt := (topS 65)
abbrev scRyS : Stmt := sRy
abbrev scRyN : List Str := ["chain", "pages", "limit", "history", "heap", "number", "item"]
theorem scRy : FnScope ["chain", "pages", "limit", "history", "heap", "number", "item"] ["chain", "pages", "limit", "history"] (defScope sRy) := ⟨rfl, rfl, rfl, by decide +kernel, rfl, by decide +kernel, by decide +kernel⟩
abbrev sFe : Stmt := (topS 66)
abbrev scFeS : Stmt := sFe
abbrev scFeN : List Str := ["value"]
theorem scFe : FnScope ["value"] ["value"] (defScope sFe) := ⟨rfl, rfl, rfl, by decide +kernel, rfl, by decide +kernel, by decide +kernel⟩
abbrev sRe : Stmt := (topS 67)
abbrev scReS : Stmt := sRe
abbrev scReN : List Str := ["heap", "event"]
theorem scRe : FnScope ["heap", "event"] ["heap", "event"] (defScope sRe) := ⟨rfl, rfl, rfl, by decide +kernel, rfl, by decide +kernel, by decide +kernel⟩
abbrev sSc : Stmt := (topS 69)
abbrev scScS : Stmt := sSc
abbrev scScN : List Str := ["_law_script", "_law_k", "_law_cell", "_law_own"]
theorem scSc : FnScope ["_law_script", "_law_k", "_law_cell", "_law_own"] ["_law_script", "_law_k"] (defScope sSc) := ⟨rfl, rfl, rfl, by decide +kernel, rfl, by decide +kernel, by decide +kernel⟩
abbrev sNu : Stmt := (topS 70)
abbrev scNuS : Stmt := sNu
abbrev scNuN : List Str := ["_law_source_here", "_law_below", "_law_digit", "_law_turn", "_law_mixed"]
theorem scNu : FnScope ["_law_source_here", "_law_below", "_law_digit", "_law_turn", "_law_mixed"] ["_law_source_here", "_law_below"] (defScope sNu) := ⟨rfl, rfl, rfl, by decide +kernel, rfl, by decide +kernel, by decide +kernel⟩
abbrev sCo : Stmt := (topS 71)
abbrev scCoS : Stmt := sCo
abbrev scCoN : List Str := ["_law_source_here", "_law_some"]
theorem scCo : FnScope ["_law_source_here", "_law_some"] ["_law_source_here", "_law_some"] (defScope sCo) := ⟨rfl, rfl, rfl, by decide +kernel, rfl, by decide +kernel, by decide +kernel⟩
abbrev sWs : Stmt := (topS 72)
abbrev scWsS : Stmt := sWs
abbrev scWsN : List Str := ["_law_blocks", "_law_start", "_law_many"]
theorem scWs : FnScope ["_law_blocks", "_law_start", "_law_many"] ["_law_blocks"] (defScope sWs) := ⟨rfl, rfl, rfl, by decide +kernel, rfl, by decide +kernel, by decide +kernel⟩
abbrev sLs : Stmt := (topS 73)
abbrev scLsS : Stmt := sLs
abbrev scLsN : List Str := ["_law_sizes", "_law_pages_here", "_law_blocks", "_law_many", "_law_found", "_law_start", "_law_one", "_law_its"]
theorem scLs : FnScope ["_law_sizes", "_law_pages_here", "_law_blocks", "_law_many", "_law_found", "_law_start", "_law_one", "_law_its"] ["_law_sizes", "_law_pages_here", "_law_blocks", "_law_many"] (defScope sLs) := ⟨rfl, rfl, rfl, by decide +kernel, rfl, by decide +kernel, by decide +kernel⟩
abbrev sLp : Stmt := (topS 74)
abbrev scLpS : Stmt := sLp
abbrev scLpN : List Str := ["_law_blocks", "_law_start", "_law_many"]
theorem scLp : FnScope ["_law_blocks", "_law_start", "_law_many"] ["_law_blocks", "_law_start", "_law_many"] (defScope sLp) := ⟨rfl, rfl, rfl, by decide +kernel, rfl, by decide +kernel, by decide +kernel⟩
abbrev sLk : Stmt := (topS 75)
abbrev scLkS : Stmt := sLk
abbrev scLkN : List Str := ["_law_blocks", "_law_start", "_law_block"]
theorem scLk : FnScope ["_law_blocks", "_law_start", "_law_block"] ["_law_blocks", "_law_start"] (defScope sLk) := ⟨rfl, rfl, rfl, by decide +kernel, rfl, by decide +kernel, by decide +kernel⟩
abbrev sEv : Stmt := (topS 76)
abbrev scEvS : Stmt := sEv
abbrev scEvN : List Str := ["_law_sizes", "_law_most", "_law_pages_here", "_law_found", "_law_waiting", "_law_blocks", "_law_many", "_law_start", "_law_later"]
theorem scEv : FnScope ["_law_sizes", "_law_most", "_law_pages_here", "_law_found", "_law_waiting", "_law_blocks", "_law_many", "_law_start", "_law_later"] ["_law_sizes", "_law_most", "_law_pages_here"] (defScope sEv) := ⟨rfl, rfl, rfl, by decide +kernel, rfl, by decide +kernel, by decide +kernel⟩
abbrev sMs : Stmt := (topS 77)
abbrev scMsS : Stmt := sMs
abbrev scMsN : List Str := ["_law_sizes", "_law_most", "_law_pages_here", "_law_blocks", "_law_found", "_law_many", "_law_spots_here", "_law_start"]
theorem scMs : FnScope ["_law_sizes", "_law_most", "_law_pages_here", "_law_blocks", "_law_found", "_law_many", "_law_spots_here", "_law_start"] ["_law_sizes", "_law_most", "_law_pages_here", "_law_blocks"] (defScope sMs) := ⟨rfl, rfl, rfl, by decide +kernel, rfl, by decide +kernel, by decide +kernel⟩
abbrev sRk : Stmt := (topS 78)
abbrev scRkS : Stmt := sRk
abbrev scRkN : List Str := ["_law_sizes", "_law_most", "_law_pages_here", "_law_every_here", "_law_blocks", "_law_left", "_law_found", "_law_turn", "_law_fresh", "_law_lost", "_law_one", "_law_some"]
theorem scRk : FnScope ["_law_sizes", "_law_most", "_law_pages_here", "_law_every_here", "_law_blocks", "_law_left", "_law_found", "_law_turn", "_law_fresh", "_law_lost", "_law_one", "_law_some"] ["_law_sizes", "_law_most", "_law_pages_here"] (defScope sRk) := ⟨rfl, rfl, rfl, by decide +kernel, rfl, by decide +kernel, by decide +kernel⟩
abbrev sSg : Stmt := (topS 79)
abbrev scSgS : Stmt := sSg
abbrev scSgN : List Str := ["_law_source_here", "_law_largest", "_law_some", "_law_sizes", "_law_pages_here"]
theorem scSg : FnScope ["_law_source_here", "_law_largest", "_law_some", "_law_sizes", "_law_pages_here"] ["_law_source_here", "_law_largest"] (defScope sSg) := ⟨rfl, rfl, rfl, by decide +kernel, rfl, by decide +kernel, by decide +kernel⟩
abbrev sAx : Stmt := (topS 80)
abbrev scAxS : Stmt := sAx
abbrev scAxN : List Str := ["_law_made", "_law_asked_here", "error"]
theorem scAx : FnScope ["_law_made", "_law_asked_here", "error"] ["_law_made", "_law_asked_here"] (defScope sAx) := ⟨rfl, rfl, rfl, by decide +kernel, rfl, by decide +kernel, by decide +kernel⟩
abbrev sLaw : Stmt := (topS 81)
abbrev scLawS : Stmt := sLaw
abbrev scLawN : List Str := ["_law_script", "_law_k", "_law_source_here", "_law_sizes", "_law_most", "_law_pages_here", "_law_rule_here", "_law_bad", "_law_turn", "_law_blocks", "_law_made", "_law_start", "_law_many", "_law_told", "_law_left", "_law_failed", "_law_again", "_law_row"]
theorem scLaw : FnScope ["_law_script", "_law_k", "_law_source_here", "_law_sizes", "_law_most", "_law_pages_here", "_law_rule_here", "_law_bad", "_law_turn", "_law_blocks", "_law_made", "_law_start", "_law_many", "_law_told", "_law_left", "_law_failed", "_law_again", "_law_row"] ["_law_script"] (defScope sLaw) := ⟨rfl, rfl, rfl, by decide +kernel, rfl, by decide +kernel, by decide +kernel⟩
end Ph

set_option maxHeartbeats 8000000
namespace Ph
open PySem PySem.Spec PyProof.Rows L2
/-! ### the program's bounds -/
theorem tl_atL {s : Nat → Nat} {m : Nat} : atI ((tl s (m + 1)).map V.int) (-1) = some (.int (s m)) := by
  rw [tl_succ, List.map_append]
  exact atI_last _ _
section
variable {P : Program} {w : World} {K : PySem.W.Frag} {mg : Str → Option Value} {base : Heap}
def spDu : Sp := fun vs H Q _ => ∃ n d : Int, vs = [.int n, .int d] ∧ 0 < d ∧ d < 1073741824 ∧ Q (.int (-(-n / d))) H
theorem ok_Du {k : Nat} (Z : Fns K mg) : FnOk P w K mg base CX0 (k + 1) Z.fDu Z.fdDu ["number", "divisor"] spDu := by
  refine Z.FDu.ok scDu (fun vs H Q E h => ?_) (fun cdv A outer s H vs Q E hr h => ?_)
  · obtain ⟨n, d, rfl, _⟩ := h
    rfl
  · obtain ⟨n, d, rfl, d0, d1, q⟩ := h
    refine ⟨_, (pss_one (ps_ret (pe_un un_neg (pe_op op_fdiv (pe_un un_neg (pv 0)) (pv 1))))), ?_⟩
    exact ⟨.int n, rfl, n, rfl, .int d, rfl, -n, d, rfl, rfl, ⟨d0, d1⟩, _, rfl, q⟩
abbrev bb (s : Nat → Nat) (M : Nat) : Nat → Nat := bfn s (fun _ => 0) M
def Szs (s : Nat → Nat) (m : Nat) : Prop := 1 ≤ m ∧ m ≤ 1000 ∧ ∀ j, j < m → 0 < s j ∧ s j < 1073741824
def cpl (s : Nat → Nat) (p M : Nat) : List Int := ((tl s (p + 1)).filter fun x => decide (x ≤ (M : Int))).map fun x => 1 + ((M : Int) - x) / ((s p : Int) / x)
end
section
variable {P : Program} {w : World} {K : PySem.W.Frag} {mg : Str → Option Value} {base : Heap}
end
end Ph

set_option maxHeartbeats 8000000
namespace Ph
open PySem PySem.Spec PyProof.Rows L2
/-! ### the program: sizes, gaps, the lowest place, states with and without a block -/
theorem in_intsL (x : Int) : ∀ C : List Int, inV (.int x) (C.map V.int) = decide (x ∈ C)
  | [] => by simp [inV]
  | c :: r => by
    have ih := in_intsL x r
    unfold inV at *
    rw [List.map_cons, List.any_cons, ih]
    have e : eqV (.int c) (.int x) = decide (c = x) := rfl
    rw [e]
    by_cases h : c = x
    · subst h; simp
    · have h2 : ¬ x = c := fun z => h z.symm
      simp [h, h2]
theorem first_atL {x : Int} : ∀ {C : List Int}, x ∈ C → ∃ j : Nat, C[j]? = some x ∧ ∀ m, m < j → C[m]? ≠ some x
  | c :: r, h => by
    by_cases e : c = x
    · subst e
      exact ⟨0, rfl, fun m hm => absurd hm (by omega)⟩
    · rcases List.mem_cons.mp h with z | z
      · exact absurd z.symm e
      · obtain ⟨j, h1, h2⟩ := first_atL z
        refine ⟨j + 1, by simpa using h1, fun m hm => ?_⟩
        cases m with
        | zero => simp [e]
        | succ m => simpa using h2 m (by omega)
section
variable {P : Program} {w : World} {K : PySem.W.Frag} {mg : Str → Option Value} {base : Heap}
def spI : Sp := fun vs H Q _ => ∃ i : Int, vs = [.int i] ∧ Q (.bl true) H
theorem ok_I {k : Nat} (Z : Fns K mg) : FnOk P w K mg base CX0 (k + 1) Z.fI Z.fdI ["value"] spI := by
  refine Z.FI.ok scI (fun vs H Q E h => ?_) (fun cdv A outer s H vs Q E hr h => ?_)
  · obtain ⟨m, rfl, _⟩ := h
    rfl
  · obtain ⟨m, rfl, q⟩ := h
    refine ⟨_, (pss_one (ps_ret (pe_and (pe_callB call_isi (by rfl) Z.N.isinstance (by decide +kernel) (pa_cons (pv 0) (pa_cons (pe_bltn (v := .ty "int") (by rfl) Z.N.int (by decide +kernel) rfl) pa_nil))) (pe_one (pe_not (pe_callB call_isi (by rfl) Z.N.isinstance (by decide +kernel) (pa_cons (pv 0) (pa_cons (pe_bltn (v := .ty "bool") (by rfl) Z.N.bool (by decide +kernel) rfl) pa_nil)))))))), ?_⟩
    refine ⟨.int m, rfl, .int m, .ty "int", .type "int", .type "int", true, rfl, .ty _, .base (.int _), kit_ty (by decide +kernel), _, rfl, ite2 (fun _ => ?_) (fun c => absurd rfl c)⟩
    exact ⟨.int m, rfl, .int m, .ty "bool", .type "int", .type "bool", false, rfl, .ty _, .base (.int _), kit_ty (by decide +kernel), _, rfl, q⟩
def spZ (K : PySem.W.Frag) : Sp := fun vs H Q _ => ∃ (c : Addr) (C : List Int) (s : Int), vs = [.ref c, .int s] ∧ SqT K H c (C.map V.int) ∧ s ∈ C ∧ Q (.bl true) H
theorem ok_Z {k : Nat} (Z : Fns K mg) : FnOk P w K mg base CX0 (k + 1 + 1) Z.fZ Z.fdZ ["chain", "value"] (spZ K) := by
  have GI : FnOk P w K mg base CX0 (k + 1) Z.fI Z.fdI ["value"] spI := ok_I Z
  refine Z.FZ.ok scZ (fun vs H Q E h => ?_) (fun cdv A outer s H vs Q E hr h => ?_)
  · obtain ⟨c, C, s, rfl, _⟩ := h
    rfl
  · obtain ⟨c, C, z, rfl, hc, hs, q⟩ := h
    refine ⟨_, (pss_one (ps_ret (pe_and (pe_call GI (hr.mono (by omega)) (by rfl) Z.gI Z.FI.kp Z.bI .nil pass0 (pa_cons (pv 1) pa_nil)) (pe_one (pe_cmpR op_in_seq (pv 1) (pv 0) (by rfl)))))), ?_⟩
    refine ⟨.int z, rfl, z, rfl, _, rfl, ite2 (fun _ => ?_) (fun c => absurd rfl c)⟩
    refine ⟨.int z, rfl, .ref c, rfl, c, _, rfl, .inr hc, rfl, flat_ints C, ?_⟩
    have e : (if false = true then !inV (.int z) (C.map V.int) else inV (.int z) (C.map V.int)) = true := by
      rw [if_neg Bool.false_ne_true, in_intsL]
      exact decide_eq_true hs
    rw [e]
    exact q
def spC : Sp := fun vs H Q _ => ∃ (c : Addr) (C : List Int) (s : Int), vs = [.ref c, .int s] ∧ ChAt H c C ∧ s ∈ C ∧ ∀ v, Q v H
theorem ok_C {k : Nat} (Z : Fns K mg) : FnOk P w K mg base CX0 (k + 1 + 1 + 1) Z.fC Z.fdC ["chain", "size"] spC := by
  have GZ : FnOk P w K mg base CX0 (k + 1 + 1) Z.fZ Z.fdZ ["chain", "value"] (spZ K) := ok_Z Z
  refine Z.FC.ok scC (fun vs H Q E h => ?_) (fun cdv A outer s H vs Q E hr h => ?_)
  · obtain ⟨c, C, s, rfl, _⟩ := h
    rfl
  · obtain ⟨c, C, sz, rfl, hc, hs, q⟩ := h
    refine ⟨_, (pss_cons (ps_if (pt_not (pt_val (pe_call GZ (hr.mono (by omega)) (by rfl) Z.gZ Z.FZ.kp Z.bZ .nil pass0 (pa_cons (pv 0) (pa_cons (pv 1) pa_nil)))))
 (pss_one ps_never) pss_nil)
 (pss_one (ps_ret (pe_bmT PySem.F.slot_tuple_index PySem.F.type_tuple_index mt_tindexI (pv 0) (pa_cons (pv 1) pa_nil))))), ?_⟩
    refine ⟨.ref c, rfl, .int sz, rfl, c, C, sz, rfl, hc.sq, hs, _, rfl, ite2 (fun c => absurd c (by decide)) (fun _ => ?_)⟩
    obtain ⟨j, h1, h2⟩ := first_atL hs
    exact ⟨.ref c, rfl, ⟨c, C, rfl, hc⟩, .int sz, rfl, c, C, sz, j, rfl, rfl, hc.sq, h1, h2, q _⟩
def tot (bs : List Bk) : Int := (bs.map fun b => b.2).sum
def spV : Sp := fun vs H Q _ => ∃ (t : Addr) (bs : List Bk), vs = [.ref t] ∧ StAt H t bs ∧ bs.length ≤ 5000 ∧ ∀ H', Same H H' → Q (.int (tot bs)) H'
theorem ok_V {k : Nat} (Z : Fns K mg) : FnOk P w K mg base CX0 (k + 1) Z.fV Z.fdV ["state"] spV := by
  refine Z.FV.ok scV (fun vs H Q E h => ?_) (fun cdv A outer s H vs Q E hr h => ?_)
  · obtain ⟨t, bs, rfl, _⟩ := h
    rfl
  · obtain ⟨t, bs, rfl, ⟨xs, ht, bl⟩, hl, q⟩ := h
    refine ⟨_, (pss_one (ps_ret (pe_callB (cr_sum rfl) (by rfl) Z.N.sum (by decide +kernel) (pa_cons (pe_lc (own := [("address", 1), ("size", 2)]) (g := (gTup K 2 (gCons (gName 1) (gCons (gName 2) gNil)))) (tt := tYes) (by rfl) scV.nd (pi_tup (pv 0)) (blkOk_by (N := scVN) (sc := defScope scVS) (by decide +kernel)) (fun _ _ _ _ _ => (pg_tup (by rfl) (pgs_cons (pg_name (i := 1) scV.nd rfl (.inl rfl)) (pgs_cons (pg_name (i := 2) scV.nd rfl (.inl rfl)) pgs_nil)))) (fun _ _ _ _ _ => pts_nil) (fun _ _ _ _ _ => (pv 2))) pa_nil)))), ?_⟩
    refine ⟨.ref t, rfl, t, rfl, ⟨_, .inl (.inl ht)⟩, fun D nD => ?_⟩
    refine lc_tpF (K := K) (fun x => V.int (kH H x).2) (.inl (.inl ht)) nD (by rw [bl.len]; exact Nat.lt_of_le_of_lt hl (by decide)) (fun x hx H2 sm Y hY => ?_) (fun H2 sm hD => ?_)
    · obtain ⟨b, hb⟩ := bl.all x hx
      have e := hb.k
      obtain ⟨u, rfl, hu⟩ := hb
      rw [e] at hY
      exact ⟨u, _, rfl, .inl (.inl (sm _ _ hu)), rfl, _, _, rfl, _, _, rfl, rfl, rfl, .int b.2, rfl, hY _ (Same.refl _)⟩
    · refine ⟨D, bs.map fun (b : Bk) => b.2, rfl, .inl (.inl ?_), q _ sm⟩
      rw [hD, ← bl.map, List.map_map, List.map_map]
      rfl
def spGp : Sp := fun vs H Q _ => ∃ (c t : Addr) (C : List Int) (L m s : Int) (bs : List Bk), vs = [.ref c, .int m, .ref t, .int s] ∧ ChAt H c (C ++ [L]) ∧ s ∈ C ++ [L] ∧ 0 < s ∧ s ≤ 2000 ∧ 0 ≤ L ∧ L ≤ 2000 ∧ 0 ≤ m ∧ m ≤ 2000 ∧ StAt H t bs ∧ St (C ++ [L]) (m * L) bs ∧ bs.length ≤ 5000 ∧
  ∀ H' D ys, Same H H' → H D = none → H' D = some (.lst ys) → BL H' ys (gpf s 0 (bs ++ [(m * L, 0)])) → Q (.ref D) H'
theorem ok_Gp {k : Nat} (Z : Fns K mg) : FnOk P w K mg base CX0 (k + 1 + 1 + 1 + 1) Z.fGp Z.fdGp ["chain", "pages", "state", "size"] spGp := by
  have GC : FnOk P w K mg base CX0 (k + 1 + 1 + 1) Z.fC Z.fdC ["chain", "size"] spC := ok_C Z
  have GDu : FnOk P w K mg base CX0 (k + 1) Z.fDu Z.fdDu ["number", "divisor"] spDu := ok_Du Z
  refine Z.FGp.ok scGp (fun vs H Q E h => ?_) (fun cdv A outer s H vs Q E hr h => ?_)
  · obtain ⟨c, t, C, L, m, s, bs, rfl, _⟩ := h
    rfl
  · obtain ⟨c, t, C, L, m, sz, bs, rfl, hc, hs, s0, s1, L0, L1, m0, m1, ⟨xs, ht, bl⟩, st, hl, q⟩ := h
    refine ⟨_, (pss_cons (ps_expr (pe_call GC (hr.mono (by omega)) (by rfl) Z.gC Z.FC.kp Z.bC .nil pass0 (pa_cons (pv 0) (pa_cons (pv 3) pa_nil))))
 (pss_cons (ps_set (i := 4) scGp.nd rfl (.inl rfl) (pe_lst pa_nil))
 (pss_cons (ps_set (i := 5) scGp.nd rfl (.inl rfl) pe_int)
 (pss_cons (ps_for PassesOwn.never rfl (pi_tup (pe_tup (StX.pa_star (pv 2) (pa_cons (pe_tup (pa_cons (pe_op op_mul (pv 1) (pe_ix ix_tup (pv 0) (pe_un un_neg pe_int) (fun _ _ => rfl))) (pa_cons pe_int pa_nil))) pa_nil)))) (pg_tup (by rfl) (pgs_cons (pg_name (i := 6) scGp.nd rfl (.inl rfl)) (pgs_cons (pg_name (i := 7) scGp.nd rfl (.inl rfl)) pgs_nil)))
 (pss_cons (ps_set (i := 8) scGp.nd rfl (.inl rfl) (pe_op op_mul (pe_call GDu (hr.mono (by omega)) (by rfl) Z.gDu Z.FDu.kp Z.bDu .nil pass0 (pa_cons (pv 5) (pa_cons (pv 3) pa_nil))) (pv 3)))
 (pss_cons (ps_set (i := 9) scGp.nd rfl (.inl rfl) (pe_op op_mul (pe_op op_fdiv (pe_op op_sub (pv 6) (pv 3)) (pv 3)) (pv 3)))
 (pss_cons (ps_if (pt_cmpR op_le (pv 8) (pv 9) (nomark _))
 (pss_one (ps_expr (pe_bm PySem.F.plainAttrs_list PySem.F.slot_list_append PySem.F.type_list_append mt_append (pv 4) (pa_cons (pe_tup (pa_cons (pv 8) (pa_cons (pv 9) pa_nil))) pa_nil)))) pss_nil)
 (pss_one (ps_set (i := 5) scGp.nd rfl (.inl rfl) (pe_op op_add (pv 6) (pv 7))))))))
 (pss_one (ps_ret (pv 4))))))), ?_⟩
    have mL0 : 0 ≤ m * L := Int.mul_nonneg m0 L0
    have mL1 : m * L ≤ 4000000 := Int.le_trans (Int.mul_le_mul m1 L1 L0 (by omega)) (by decide)
    have gl : atI ((C ++ [L]).map V.int) (-1) = some (.int L) := by
      rw [List.map_append]
      exact atI_last _ _
    refine ⟨.ref c, rfl, .int sz, rfl, c, C ++ [L], sz, rfl, hc, hs, fun _ => ?_⟩
    refine ⟨by decide, fun d nd => ?_⟩
    have sd := same_upd (o := .lst []) nd
    have hc1 := hc.keep sd
    refine ⟨.ref t, rfl, t, xs, rfl, .inl (.inl (.inl (sd _ _ ht))), .int m, rfl, .ref c, rfl, _, rfl, c, _, -1, _, rfl, rfl, hc1.sq, gl, m, L, rfl, rfl, .inl ⟨by omega, by omega⟩, ?_⟩
    refine ⟨(by show 2 ≤ sizeLine; decide), fun T nT => ?_⟩
    have sT := same_upd (o := .tup [.int (m * L), .int 0]) nT
    refine ⟨?_, fun T2 nT2 => ?_⟩
    · show (xs ++ [V.ref T]).length ≤ sizeLine
      rw [List.length_append, bl.len]
      exact Nat.le_trans (Nat.add_le_add_right hl 1) (by decide)
    have sT2 := same_upd (o := .tup (xs ++ [V.ref T])) nT2
    have hd2 := sT2 _ _ (sT _ _ (upd_same (H := H) (a := d) (o := .lst [])))
    have bl2 : BL (upd (upd (upd H d (.lst [])) T (.tup [.int (m * L), .int 0])) T2 (.tup (xs ++ [V.ref T]))) (xs ++ [V.ref T]) (bs ++ [(m * L, 0)]) := by
      refine Paired.snoc (bl.mono fun v zs e => sT2 _ _ (sT _ _ (sd _ _ e))) ⟨T, rfl, sT2 _ _ upd_same⟩
    obtain ⟨asc1, asc2⟩ := st.asc0 mL0
    have eC : ∀ i, ∀ b ∈ (bs ++ [(m * L, 0)]).take i, 0 ≤ b.1 ∧ 0 ≤ b.2 ∧ b.1 + b.2 ≤ m * L := fun i b hb => asc1 b (List.mem_of_mem_take hb)
    have eP : ∀ i, ((bs ++ [(m * L, 0)]).take i).Pairwise (fun b c : Bk => b.1 + b.2 ≤ c.1) := fun i => asc2.sublist (List.take_sublist ..)
    have s02 : Same H (upd (upd (upd H d (.lst [])) T (.tup [.int (m * L), .int 0])) T2 (.tup (xs ++ [V.ref T]))) := (sd.trans sT).trans sT2
    have hT2 : upd (upd (upd H d (.lst [])) T (.tup [.int (m * L), .int 0])) T2 (.tup (xs ++ [V.ref T])) T2 = some (.tup (xs ++ [V.ref T])) := upd_same
    generalize upd (upd (upd H d (.lst [])) T (.tup [.int (m * L), .int 0])) T2 (.tup (xs ++ [V.ref T])) = H0 at hd2 bl2 s02 hT2 ⊢
    refine ⟨T2, rfl, ⟨_, .inl (.inl hT2)⟩, ?_⟩
    generalize el : bs ++ [(m * L, 0)] = l at bl2 asc1 asc2 eC eP q
    have nT2d : T2 ≠ d := ne_of hT2 hd2 (by intro z; cases z)
    refine for_tup (K := K) (a := T2) (xs := xs ++ [V.ref T]) (fun i σ H2 => ∃ y6 y7 y8 y9 ys, σ = [some (.ref c), some (.int m), some (.ref t), some (.int sz), some (.ref d), some (.int (fin 0 (l.take i))), y6, y7, y8, y9] ∧ But d H0 H2 ∧ H2 d = some (.lst ys) ∧ BL H2 ys (gpf sz 0 (l.take i)))
      ⟨none, none, none, none, [], rfl, But.refl _ _, hd2, .nil⟩ (fun i σ H2 _ p => ?_) ?_ ?_
    · obtain ⟨_, _, _, _, _, _, bt, _⟩ := p
      exact .inl (.inl (bt _ _ nT2d hT2))
    · rintro i x σ H2 hx ⟨y6, y7, y8, y9, ys, rfl, bt, hd3, bl3⟩
      obtain ⟨b, hb, ⟨u, rfl, hu⟩⟩ := bl2.get hx
      have hu2 := bt _ _ (ne_of hu hd2 (by intro z; cases z)) hu
      have etk : l.take (i + 1) = l.take i ++ [b] := by rw [List.take_add_one, hb]; rfl
      obtain ⟨fb1, fb2⟩ := fin_bnd (l.take i) 0 (m * L) (eC i) mL0 (eP i)
      obtain ⟨b1, b2, b3⟩ := asc1 b (List.mem_of_getElem? hb)
      have u1 := upS_ge (x := fin 0 (l.take i)) s0
      have u2 := upS_lt (x := fin 0 (l.take i)) s0
      have d1 := Int.ediv_mul_le (b.1 - sz) (b := sz) (by omega)
      have d2 := Int.lt_ediv_add_one_mul_self (b.1 - sz) s0
      refine ⟨u, _, rfl, .inl (.inl hu2), rfl, _, _, rfl, _, _, rfl, rfl, ?_⟩
      refine ⟨.int (fin 0 (l.take i)), rfl, .int sz, rfl, _, sz, rfl, s0, by omega, .int sz, rfl, _, sz, rfl, rfl, .inr ⟨by omega, by omega⟩, ?_⟩
      refine ⟨.int b.1, rfl, .int sz, rfl, _, _, rfl, rfl, .int sz, rfl, _, _, rfl, rfl, ⟨s0, by omega⟩, .int sz, rfl, _, _, rfl, rfl, .inr ⟨by omega, by omega⟩, ?_⟩
      have lenb : ys.length < sizeLine := by
        have h1 := bl3.len
        have h2 := gpf_len sz (l.take i) 0
        have h3 : (l.take i).length ≤ l.length := by rw [List.length_take]; exact Nat.min_le_right _ _
        have h4 : l.length = bs.length + 1 := by rw [← el, List.length_append]; rfl
        exact Nat.lt_of_le_of_lt (show ys.length ≤ 5001 by omega) (by decide)
      refine ⟨.int (upS (fin 0 (l.take i)) sz), rfl, .int ((b.1 - sz) / sz * sz), rfl, _, _, rfl, rfl, _, rfl, ite2 (fun c0 => ?_) (fun c0 => ?_)⟩
      · have c1 : upS (fin 0 (l.take i)) sz ≤ (b.1 - sz) / sz * sz := of_decide_eq_true c0
        refine ⟨.ref d, rfl, .inl ⟨rfl, _, .inl (.inl hd3)⟩, .int _, rfl, .int _, rfl, (by show 2 ≤ sizeLine; decide), fun p np => ?_⟩
        have sp := same_upd (o := .tup [.int (upS (fin 0 (l.take i)) sz), .int ((b.1 - sz) / sz * sz)]) np
        have hd4 := sp _ _ hd3
        refine ⟨d, _, _, rfl, rfl, hd4, lenb, ?_⟩
        refine ⟨.int b.1, rfl, .int b.2, rfl, _, _, rfl, rfl, some (.int b.1), some (.int b.2), some (.int (upS (fin 0 (l.take i)) sz)), some (.int ((b.1 - sz) / sz * sz)), ys ++ [.ref p], ?_, fun v o nv hv => ?_, upd_same, ?_⟩
        · rw [etk, fin_snoc]
          rfl
        · rw [upd_ne nv]
          exact sp _ _ (bt _ _ nv hv)
        · rw [etk, gpf_snoc]
          have kp : ∀ v us, upd H2 p (.tup [.int (upS (fin 0 (l.take i)) sz), .int ((b.1 - sz) / sz * sz)]) v = some (.tup us) → upd (upd H2 p (.tup [.int (upS (fin 0 (l.take i)) sz), .int ((b.1 - sz) / sz * sz)])) d (.lst (ys ++ [.ref p])) v = some (.tup us) := fun v us e => by
            rw [upd_ne (ne_of e hd4 (by intro z; cases z))]
            exact e
          have e1 : gp1 sz (fin 0 (l.take i)) b = [(upS (fin 0 (l.take i)) sz, (b.1 - sz) / sz * sz)] := if_pos c1
          rw [e1]
          exact Paired.snoc (bl3.mono fun v us e => kp v us (sp _ _ e)) ⟨p, rfl, kp _ _ upd_same⟩
      · have c1 : ¬ upS (fin 0 (l.take i)) sz ≤ (b.1 - sz) / sz * sz := of_decide_eq_false (by simpa using c0)
        refine ⟨.int b.1, rfl, .int b.2, rfl, _, _, rfl, rfl, some (.int b.1), some (.int b.2), some (.int (upS (fin 0 (l.take i)) sz)), some (.int ((b.1 - sz) / sz * sz)), ys, ?_, bt, hd3, ?_⟩
        · rw [etk, fin_snoc]
          rfl
        · rw [etk, gpf_snoc]
          have e1 : gp1 sz (fin 0 (l.take i)) b = [] := if_neg c1
          rw [e1, List.append_nil]
          exact bl3
    · rintro σ H2 ⟨y6, y7, y8, y9, ys, rfl, bt, hd3, bl3⟩
      have e : l.take (xs ++ [V.ref T]).length = l := List.take_of_length_le (by rw [bl2.len]; exact Nat.le_refl _)
      rw [e] at bl3
      exact ⟨.ref d, rfl, q _ d ys (fun a o ha => bt _ _ (ne_of_none ha nd) (s02 _ _ ha)) nd hd3 bl3⟩
def spWb : Sp := fun vs H Q _ => ∃ (t : Addr) (bs : List Bk) (a z : Int), vs = [.ref t, .int a, .int z] ∧ StAt H t bs ∧ bs.length ≤ 5000 ∧ ∀ H' u cs, Same H H' → StAt H' u cs → cs.Perm (bs ++ [(a, z)]) → (cs.Pairwise fun x y => SrtO.lexB y x = false) → Q (.ref u) H'
theorem ok_Wb {k : Nat} (Z : Fns K mg) : FnOk P w K mg base CX0 (k + 1) Z.fWb Z.fdWb ["state", "address", "size"] spWb := by
  refine Z.FWb.ok scWb (fun vs H Q E h => ?_) (fun cdv A outer s H vs Q E hr h => ?_)
  · obtain ⟨t, bs, a, z, rfl, _⟩ := h
    rfl
  · obtain ⟨t, bs, a, z, rfl, ⟨xs, ht, bl⟩, hl, q⟩ := h
    refine ⟨_, (pss_one (ps_ret (pe_callTy call_tuple_of (by rfl) Z.N.tuple (by decide +kernel) (pa_cons (pe_callB cr_sortedPO (by rfl) Z.N.sorted (by decide +kernel) (pa_cons (pe_lst (StX.pa_star (pv 0) (pa_cons (pe_tup (pa_cons (pv 1) (pa_cons (pv 2) pa_nil))) pa_nil))) pa_nil)) pa_nil)))), ?_⟩
    refine ⟨.ref t, rfl, t, xs, rfl, .inl (.inl (.inl ht)), .int a, rfl, .int z, rfl, (by show 2 ≤ sizeLine; decide), fun T nT => ?_⟩
    have sT := same_upd (o := .tup [.int a, .int z]) nT
    have hT : upd H T (.tup [.int a, .int z]) T = some (.tup [.int a, .int z]) := upd_same
    have bl1 := BL.kp bl fun v us e => sT _ _ e
    generalize upd H T (.tup [.int a, .int z]) = H1 at *
    refine ⟨?_, fun D nD => ?_⟩
    · simp [bl.len]
      exact Nat.le_trans (show bs.length + 1 ≤ 5001 by omega) (by decide)
    have sD := same_upd (o := .lst (xs ++ [V.ref T])) nD
    have hD : upd H1 D (.lst (xs ++ [V.ref T])) D = some (.lst (xs ++ [V.ref T])) := upd_same
    have bl2 : BL (upd H1 D (.lst (xs ++ [V.ref T]))) (xs ++ [V.ref T]) (bs ++ [(a, z)]) := BL.app (BL.kp bl1 fun v us e => sD _ _ e) (.cons ⟨T, rfl, sD _ _ hT⟩ .nil)
    generalize upd H1 D (.lst (xs ++ [V.ref T])) = H2 at *
    refine ⟨D, xs ++ [V.ref T], kH H2, rfl, .inl (.inl hD), fun x hx => ?_, fun zs p srt stb np => ?_⟩
    · obtain ⟨b, hb⟩ := bl2.all x hx
      rw [hb.k]
      exact hb
    · have pm : zs.Perm (xs ++ [V.ref T]) := stb.perm
      have ally : ∀ x ∈ zs, ∃ b, BkAt H2 x b := fun x hx => bl2.all x (pm.mem_iff.mp hx)
      have blz := BL.of ally
      have sp := same_upd (o := .lst zs) np
      refine ⟨p, zs, rfl, .inl ⟨.inl (.inl upd_same), fun u nu => ?_⟩⟩
      have su := same_upd (o := .tup zs) nu
      refine q _ u (zs.map (kH H2)) (sT.trans (sD.trans (sp.trans su))) ⟨zs, upd_same, BL.kp blz fun v us e => su _ _ (sp _ _ e)⟩ ?_ (List.pairwise_map.mpr srt)
      rw [← bl2.map]
      exact pm.map _
def spHb (K : PySem.W.Frag) : Sp := fun vs H Q _ => ∃ (t : Addr) (bs : List Bk) (a : Int), vs = [.ref t, .int a] ∧ StAt H t bs ∧ bs.length ≤ 5000 ∧ (∃ b ∈ bs, b.1 = a) ∧ ∀ H', Same H H' → Q (.bl true) H'
theorem ok_Hb {k : Nat} (Z : Fns K mg) : FnOk P w K mg base CX0 (k + 1 + 1) Z.fHb Z.fdHb ["state", "value"] (spHb K) := by
  have GI : FnOk P w K mg base CX0 (k + 1) Z.fI Z.fdI ["value"] spI := ok_I Z
  refine Z.FHb.ok scHb (fun vs H Q E h => ?_) (fun cdv A outer s H vs Q E hr h => ?_)
  · obtain ⟨t, bs, a, rfl, _⟩ := h
    rfl
  · obtain ⟨t, bs, a, rfl, ⟨xs, ht, bl⟩, hl, ⟨b, hb, eb⟩, q⟩ := h
    refine ⟨_, (pss_one (ps_ret (pe_and (pe_call GI (hr.mono (by omega)) (by rfl) Z.gI Z.FI.kp Z.bI .nil pass0 (pa_cons (pv 1) pa_nil)) (pe_one (pe_cmpR op_in_seq (pv 1) (pe_lc (own := [("address", 2), ("size", 3)]) (g := (gTup K 2 (gCons (gName 2) (gCons (gName 3) gNil)))) (tt := tYes) (by rfl) scHb.nd (pi_tup (pv 0)) (blkOk_by (N := scHbN) (sc := defScope scHbS) (by decide +kernel)) (fun _ _ _ _ _ => (pg_tup (by rfl) (pgs_cons (pg_name (i := 2) scHb.nd rfl (.inl rfl)) (pgs_cons (pg_name (i := 3) scHb.nd rfl (.inl rfl)) pgs_nil)))) (fun _ _ _ _ _ => pts_nil) (fun _ _ _ _ _ => (pv 2))) (by rfl)))))), ?_⟩
    refine ⟨.int a, rfl, a, rfl, _, rfl, ite2 (fun _ => ?_) (fun c => absurd rfl c)⟩
    refine ⟨.int a, rfl, .ref t, rfl, t, rfl, ⟨_, .inl (.inl ht)⟩, fun D nD => ?_⟩
    refine lc_tpF (K := K) (fun x => V.int (kH H x).1) (.inl (.inl ht)) nD (by rw [bl.len]; exact Nat.lt_of_le_of_lt hl (by decide)) (fun x hx H2 sm Y hY => ?_) (fun H2 sm hD => ?_)
    · obtain ⟨b, hb⟩ := bl.all x hx
      have e := hb.k
      obtain ⟨u, rfl, hu⟩ := hb
      rw [e] at hY
      exact ⟨u, _, rfl, .inl (.inl (sm _ _ hu)), rfl, _, _, rfl, _, _, rfl, rfl, rfl, .int b.1, rfl, hY _ (Same.refl _)⟩
    · have e1 : xs.map (fun x => V.int (kH H x).1) = (bs.map fun b => b.1).map V.int := by
        rw [← bl.map, List.map_map, List.map_map]
        rfl
      rw [e1] at hD
      refine ⟨D, _, rfl, .inl (.inl (.inl hD)), rfl, flat_ints _, ?_⟩
      have e : (if false = true then !inV (.int a) ((bs.map fun b => b.1).map V.int) else inV (.int a) ((bs.map fun b => b.1).map V.int)) = true := by
        rw [if_neg Bool.false_ne_true, in_intsL]
        exact decide_eq_true (List.mem_map.mpr ⟨b, hb, eb⟩)
      rw [e]
      exact q _ sm
def spOb (K : PySem.W.Frag) : Sp := fun vs H Q _ => ∃ (t : Addr) (bs : List Bk) (a : Int), vs = [.ref t, .int a] ∧ StAt H t bs ∧ bs.length ≤ 5000 ∧ (∃ b ∈ bs, b.1 = a) ∧ ∀ H' u, Same H H' → StAt H' u (bs.filter fun b => decide (b.1 ≠ a)) → Q (.ref u) H'
theorem ok_Ob {k : Nat} (Z : Fns K mg) : FnOk P w K mg base CX0 (k + 1 + 1 + 1) Z.fOb Z.fdOb ["state", "address"] (spOb K) := by
  have GHb : FnOk P w K mg base CX0 (k + 1 + 1) Z.fHb Z.fdHb ["state", "value"] (spHb K) := ok_Hb Z
  refine Z.FOb.ok scOb (fun vs H Q E h => ?_) (fun cdv A outer s H vs Q E hr h => ?_)
  · obtain ⟨t, bs, a, rfl, _⟩ := h
    rfl
  · obtain ⟨t, bs, a, rfl, st, hl, ex, q⟩ := h
    refine ⟨_, (pss_cons (ps_if (pt_not (pt_val (pe_call GHb (hr.mono (by omega)) (by rfl) Z.gHb Z.FHb.kp Z.bHb .nil pass0 (pa_cons (pv 0) (pa_cons (pv 1) pa_nil)))))
 (pss_one ps_never) pss_nil)
 (pss_one (ps_ret (pe_callTy call_tuple_of (by rfl) Z.N.tuple (by decide +kernel) (pa_cons (pe_lc (own := [("block", 2)]) (g := (gName 2)) (by rfl) scOb.nd (pi_tup (pv 0)) (blkOk_by (N := scObN) (sc := defScope scObS) (by decide +kernel)) (fun _ _ _ _ _ => (pg_name (i := 2) scOb.nd rfl (.inl rfl))) (fun _ _ _ _ _ => (pts_one (pt_cmpR op_ne (pe_ix (r := rIxT K) ix_tup (pv 2) pe_int (fun _ _ => rfl)) (pv 1) (nomark _)))) (fun _ _ _ _ _ => (pv 2))) pa_nil))))), ?_⟩
    refine ⟨.ref t, rfl, .int a, rfl, t, bs, a, rfl, st, hl, ex, fun H1 s1 => ⟨_, rfl, ite2 (fun c => absurd c (by decide)) (fun _ => ?_)⟩⟩
    obtain ⟨xs, ht, bl⟩ := st.same s1
    refine ⟨.ref t, rfl, t, rfl, ⟨_, .inl (.inl ht)⟩, fun D nD => ?_⟩
    refine lc_tupF (xs := xs) (fun x => if decide ((kH H1 x).1 ≠ a) = true then some x else none) (.inl (.inl ht)) nD (by rw [bl.len]; exact Nat.lt_of_le_of_lt hl (by decide)) (fun x hx H2 sm Y N hY hN => ?_) (fun H2 sm hD => ?_)
    · obtain ⟨b, hb⟩ := bl.all x hx
      have e := hb.k
      obtain ⟨u, rfl, hu⟩ := hb
      have hY' : ∀ y, (if decide (b.1 ≠ a) = true then some (V.ref u) else none) = some y → Y y H2 := fun y h => hY y (by show (if decide ((kH H1 (V.ref u)).1 ≠ a) = true then _ else _) = _; rw [e]; exact h)
      have hN' : (if decide (b.1 ≠ a) = true then some (V.ref u) else none) = none → N H2 := fun h => hN (by show (if decide ((kH H1 (V.ref u)).1 ≠ a) = true then _ else _) = _; rw [e]; exact h)
      refine ⟨rfl, .ref u, rfl, u, _, 0, _, rfl, rfl, .inl (.inl (sm _ _ hu)), atI_nat (j := 0) rfl, .int a, rfl, rfl, _, rfl, ite2 (fun c0 => ?_) (fun c0 => ?_)⟩
      · have c1 : b.1 ≠ a := fun z => by rw [z] at c0; simp at c0
        exact ⟨.ref u, rfl, hY' _ (if_pos (decide_eq_true c1))⟩
      · have c1 : ¬ b.1 ≠ a := fun z => c0 (by simp [z])
        exact hN' (if_neg (by simpa using c1))
    · have e1 : BL H2 (xs.filterMap fun x => if decide ((kH H1 x).1 ≠ a) = true then some x else none) (bs.filter fun b => decide (b.1 ≠ a)) := by
        have gen : ∀ {ys : List V} {cs : List Bk}, BL H1 ys cs → BL H2 (ys.filterMap fun x => if decide ((kH H1 x).1 ≠ a) = true then some x else none) (cs.filter fun b => decide (b.1 ≠ a)) := by
          intro ys cs h
          induction h with
          | nil => exact .nil
          | @cons x b ys cs hb r ih =>
            have e := BkAt.k hb
            by_cases c : decide (b.1 ≠ a) = true
            · rw [List.filter_cons_of_pos (p := fun b : Bk => decide (b.1 ≠ a)) c, List.filterMap_cons_some (b := x) (by show (if decide ((kH H1 x).1 ≠ a) = true then some x else none) = some x; rw [e]; exact if_pos c)]
              obtain ⟨t2, e1, e2⟩ := hb
              exact .cons ⟨t2, e1, sm _ _ e2⟩ ih
            · rw [List.filter_cons_of_neg (p := fun b : Bk => decide (b.1 ≠ a)) c, List.filterMap_cons_none (by show (if decide ((kH H1 x).1 ≠ a) = true then some x else none) = none; rw [e]; exact if_neg c)]
              exact ih
        exact gen bl
      refine ⟨D, _, rfl, .inl ⟨.inl (.inl hD), fun u nu => ?_⟩⟩
      have su := same_upd (o := .tup (xs.filterMap fun x => if decide ((kH H1 x).1 ≠ a) = true then some x else none)) nu
      exact q _ u (s1.trans (Same.trans sm su)) ⟨_, upd_same, BL.kp e1 fun v us e => su _ _ e⟩
end
theorem ascI : ∀ (bs : List Bk), bs.Pairwise (fun b c : Bk => b.1 + b.2 ≤ c.1) → ∀ i b, bs[i]? = some b → (∀ c ∈ bs, 0 ≤ c.1) → fin 0 (bs.take i) ≤ b.1 := by
  intro bs pw i b hb h0
  cases i with
  | zero => exact h0 b (List.mem_of_getElem? hb)
  | succ i =>
    obtain ⟨c, hc⟩ : ∃ c, bs[i]? = some c := by
      have : i + 1 < bs.length := (List.getElem?_eq_some_iff.mp hb).1
      exact ⟨bs[i]'(by omega), List.getElem?_eq_getElem _⟩
    have e : bs.take (i + 1) = bs.take i ++ [c] := by rw [List.take_add_one, hc]; rfl
    rw [e, fin_snoc]
    obtain ⟨h1, e1⟩ := List.getElem?_eq_some_iff.mp hb
    obtain ⟨h2, e2⟩ := List.getElem?_eq_some_iff.mp hc
    have := List.pairwise_iff_getElem.mp pw i (i + 1) h2 h1 (by omega)
    rw [e1, e2] at this
    exact this

section
variable {P : Program} {w : World} {K : PySem.W.Frag} {mg : Str → Option Value} {base : Heap}
def spBl : Sp := fun vs H Q _ => ∃ (c u : Addr) (C : List Int) (b : Bk), vs = [.ref c, .ref u] ∧ ChAt H c C ∧ BkAt H (.ref u) b ∧ b.2 ∈ C ∧ 0 < b.2 ∧ b.2 ≤ 2000 ∧ b.1 % b.2 = 0 ∧ Q (.bl true) H
theorem ok_Bl {k : Nat} (Z : Fns K mg) : FnOk P w K mg base CX0 (k + 1 + 1 + 1) Z.fBl Z.fdBl ["chain", "value"] spBl := by
  have GI : FnOk P w K mg base CX0 (k + 1) Z.fI Z.fdI ["value"] spI := ok_I Z
  have GZ : FnOk P w K mg base CX0 (k + 1 + 1) Z.fZ Z.fdZ ["chain", "value"] (spZ K) := ok_Z Z
  refine Z.FBl.ok scBl (fun vs H Q E h => ?_) (fun cdv A outer s H vs Q E hr h => ?_)
  · obtain ⟨c, u, C, b, rfl, _⟩ := h
    rfl
  · obtain ⟨c, u, C, b, rfl, hc, ⟨u', e, hu⟩, hz, z0, z1, hm, q⟩ := h
    cases e
    refine ⟨_, (pss_cons (ps_if (PW.pt (pw_or (pt_not (pt_val (pe_callB call_isi (by rfl) Z.N.isinstance (by decide +kernel) (pa_cons (pv 1) (pa_cons (pe_bltn (v := .ty "tuple") (by rfl) Z.N.tuple (by decide +kernel) rfl) pa_nil))))) (pw_or1 (pt_cmpR op_ne (pe_callB call_len_seq (by rfl) Z.N.len (by decide +kernel) (pa_cons (pv 1) pa_nil)) pe_int (nomark _)))))
 (pss_one (ps_ret pe_bl)) pss_nil)
 (pss_cons (ps_asg (pv 1) (pg_tup (by rfl) (pgs_cons (pg_name (i := 2) scBl.nd rfl (.inl rfl)) (pgs_cons (pg_name (i := 3) scBl.nd rfl (.inl rfl)) pgs_nil))))
 (pss_one (ps_ret (pe_and (pe_call GI (hr.mono (by omega)) (by rfl) Z.gI Z.FI.kp Z.bI .nil pass0 (pa_cons (pv 2) pa_nil)) (pe_and (pe_call GZ (hr.mono (by omega)) (by rfl) Z.gZ Z.FZ.kp Z.bZ .nil pass0 (pa_cons (pv 0) (pa_cons (pv 3) pa_nil))) (pe_one (pe_cmpR op_eq (pe_op op_mod (pv 2) (pv 3)) pe_int (nomark _))))))))), ?_⟩
    refine ⟨.ref u, rfl, .ref u, .ty "tuple", .type "tuple", .type "tuple", true, rfl, .ty _, .base (.tup hu), kit_ty (by decide +kernel), _, rfl, ite2 (fun c => absurd c (by decide)) (fun _ => ?_)⟩
    refine ⟨.ref u, rfl, u, _, rfl, .inr (.inl (.inl hu)), rfl, _, rfl, ite2 (fun c => absurd c (by simp)) (fun _ => ?_)⟩
    refine ⟨.ref u, rfl, u, _, rfl, .inl (.inl hu), rfl, _, _, rfl, _, _, rfl, rfl, ?_⟩
    refine ⟨.int b.1, rfl, b.1, rfl, _, rfl, ite2 (fun _ => ?_) (fun c => absurd rfl c)⟩
    refine ⟨.ref c, rfl, .int b.2, rfl, c, C, b.2, rfl, hc.sq, hz, _, rfl, ite2 (fun _ => ?_) (fun c => absurd rfl c)⟩
    refine ⟨.int b.1, rfl, .int b.2, rfl, _, _, rfl, rfl, z0, rfl, ?_⟩
    show Q (V.bl (decide (V.int (b.1 % b.2) = V.int 0))) H
    rw [hm]
    exact q
def spS : Sp := fun vs H Q _ => ∃ (c t : Addr) (C : List Int) (L m : Int) (bs : List Bk), vs = [.ref c, .int m, .ref t] ∧ ChAt H c (C ++ [L]) ∧ (∀ z ∈ C ++ [L], 1 ≤ z ∧ z ≤ 2000) ∧ 0 ≤ m ∧ m ≤ 2000 ∧ StAt H t bs ∧ St (C ++ [L]) (m * L) bs ∧ bs.length ≤ 5000 ∧ ∀ H', Same H H' → Q (.bl true) H'
theorem ok_S {k : Nat} (Z : Fns K mg) : FnOk P w K mg base CX0 (k + 1 + 1 + 1 + 1) Z.fS Z.fdS ["chain", "pages", "value"] spS := by
  have GBl : FnOk P w K mg base CX0 (k + 1 + 1 + 1) Z.fBl Z.fdBl ["chain", "value"] spBl := ok_Bl Z
  refine Z.FS.ok scS (fun vs H Q E h => ?_) (fun cdv A outer s H vs Q E hr h => ?_)
  · obtain ⟨c, t, C, L, m, bs, rfl, _⟩ := h
    rfl
  · obtain ⟨c, t, C, L, m, bs, rfl, hc, hz, m0, m1, ⟨xs, ht, bl⟩, st, hl, q⟩ := h
    refine ⟨_, (pss_cons (ps_if (PW.pt (pw_or (pt_not (pt_val (pe_callB call_isi (by rfl) Z.N.isinstance (by decide +kernel) (pa_cons (pv 2) (pa_cons (pe_bltn (v := .ty "tuple") (by rfl) Z.N.tuple (by decide +kernel) rfl) pa_nil))))) (pw_or1 (pt_not (pt_val (pe_callB (cr_all rfl) (by rfl) Z.N.all (by decide +kernel) (pa_cons (pe_lc (own := [("item", 6)]) (g := (gName 6)) (tt := tYes) (by rfl) scS.nd (pi_tup (pv 2)) (blkOk_by (N := scSN) (sc := defScope scSS) (by decide +kernel)) (fun _ _ _ _ _ => (pg_name (i := 6) scS.nd rfl (.inl rfl))) (fun _ _ _ _ _ => pts_nil) (fun _ _ _ _ _ => (pe_call GBl (hr.mono (by omega)) (by rfl) Z.gBl Z.FBl.kp Z.bBl .nil pass0 (pa_cons (pv 0) (pa_cons (pv 6) pa_nil))))) pa_nil)))))))
 (pss_one (ps_ret pe_bl)) pss_nil)
 (pss_cons (ps_set (i := 3) scS.nd rfl (.inl rfl) pe_int)
 (pss_cons (ps_for PassesOwn.never rfl (pi_tup (pv 2)) (pg_tup (by rfl) (pgs_cons (pg_name (i := 4) scS.nd rfl (.inl rfl)) (pgs_cons (pg_name (i := 5) scS.nd rfl (.inl rfl)) pgs_nil)))
 (pss_cons (ps_if (pt_cmpR op_lt (pv 4) (pv 3) (nomark _))
 (pss_one (ps_ret pe_bl)) pss_nil)
 (pss_one (ps_set (i := 3) scS.nd rfl (.inl rfl) (pe_op op_add (pv 4) (pv 5))))))
 (pss_one (ps_ret (pe_cmpR op_le (pv 3) (pe_op op_mul (pv 1) (pe_ix ix_tup (pv 0) (pe_un un_neg pe_int) (fun _ _ => rfl))) (nomark _))))))), ?_⟩
    have mL0 : 0 ≤ m * L := Int.mul_nonneg m0 (by have := (hz L (by simp)).1; omega)
    have mL1 : m * L ≤ 4000000 := Int.le_trans (Int.mul_le_mul m1 (hz L (by simp)).2 (by have := (hz L (by simp)).1; omega) (by omega)) (by decide)
    have gl : atI ((C ++ [L]).map V.int) (-1) = some (.int L) := by
      rw [List.map_append]
      exact atI_last _ _
    refine ⟨.ref t, rfl, .ref t, .ty "tuple", .type "tuple", .type "tuple", true, rfl, .ty _, .base (.tup ht), kit_ty (by decide +kernel), _, rfl, ite2 (fun c => absurd c (by decide)) (fun _ => ?_)⟩
    refine ⟨.ref t, rfl, t, rfl, ⟨_, .inl (.inl ht)⟩, fun D nD => ?_⟩
    refine lc_tpF (K := K) (fun _ => V.bl true) (.inl (.inl ht)) nD (by rw [bl.len]; exact Nat.lt_of_le_of_lt hl (by decide)) (fun x hx H2 sm Y hY => ?_) (fun H2 sm hD => ?_)
    · obtain ⟨b, hb⟩ := bl.all x hx
      have hb2 := hb.k ▸ hb
      have mem : b ∈ bs := by
        rw [← bl.map, ← hb.k]
        exact List.mem_map.mpr ⟨x, hx, rfl⟩
      obtain ⟨k1, k2, k3, k4, k5⟩ := st.ok b mem
      obtain ⟨u, rfl, hu⟩ := hb
      exact ⟨rfl, .ref c, rfl, .ref u, rfl, c, u, _, b, rfl, hc.keep sm, ⟨u, rfl, sm _ _ hu⟩, k1, by omega, (hz _ k1).2, k4, hY _ (Same.refl _)⟩
    · have e1 : xs.map (fun _ => V.bl true) = (xs.map fun _ => true).map V.bl := by
        rw [List.map_map]
        rfl
      rw [e1] at hD
      have allT : (xs.map fun _ => true).all id = true := by
        rw [List.all_map]
        exact List.all_eq_true.mpr fun _ _ => rfl
      refine ⟨D, xs.map fun _ => true, rfl, .inl (.inl hD), ?_⟩
      rw [allT]
      refine ⟨_, rfl, ite2 (fun c => absurd c (by decide)) (fun _ => ?_)⟩
      have ht2 := sm _ _ ht
      have bl2 := BL.kp bl fun v us e => sm _ _ e
      refine ⟨.ref t, rfl, t, rfl, ⟨_, .inl (.inl ht2)⟩, ?_⟩
      refine for_tup (K := K) (a := t) (xs := xs) (fun i σ H3 => ∃ y4 y5 y6, σ = [some (.ref c), some (.int m), some (.ref t), some (.int (fin 0 (bs.take i))), y4, y5, y6] ∧ Same H2 H3)
        ⟨_, _, _, rfl, .refl _⟩ (fun i σ H3 _ p => ?_) ?_ ?_
      · obtain ⟨_, _, _, _, s3⟩ := p
        exact .inl (.inl (s3 _ _ ht2))
      · rintro i x σ H3 hx ⟨y4, y5, y6, rfl, s3⟩
        obtain ⟨b, hb, ⟨u, rfl, hu⟩⟩ := (BL.kp bl2 fun v us e => s3 _ _ e).get hx
        have lo := ascI bs st.asc i b hb fun c hc => (st.ok c hc).2.2.1
        have etk : bs.take (i + 1) = bs.take i ++ [b] := by rw [List.take_add_one, hb]; rfl
        refine ⟨u, _, rfl, .inl (.inl hu), rfl, _, _, rfl, _, _, rfl, rfl, ?_⟩
        refine ⟨.int b.1, rfl, .int _, rfl, _, _, rfl, rfl, _, rfl, ite2 (fun c => absurd (of_decide_eq_true c) (by omega)) (fun _ => ?_)⟩
        refine ⟨.int b.1, rfl, .int b.2, rfl, _, _, rfl, rfl, some (.int b.1), some (.int b.2), y6, ?_, s3⟩
        rw [etk, fin_snoc]
        rfl
      · rintro σ H3 ⟨y4, y5, y6, rfl, s3⟩
        have e : bs.take xs.length = bs := List.take_of_length_le (by rw [bl.len]; exact Nat.le_refl _)
        obtain ⟨_, f2⟩ := fin_bnd bs 0 (m * L) (fun b hb => by obtain ⟨_, k2, k3, _, k5⟩ := st.ok b hb; exact ⟨k3, by omega, k5⟩) mL0 st.asc
        refine ⟨.int _, rfl, .int m, rfl, .ref c, rfl, _, rfl, c, _, -1, _, rfl, rfl, ((hc.keep sm).keep s3).sq, gl, m, L, rfl, rfl, .inl ⟨by omega, by omega⟩, _, _, rfl, rfl, ?_⟩
        rw [e]
        show Q (V.bl (decide (fin 0 bs ≤ m * L))) H3
        rw [decide_eq_true f2]
        exact q _ (Same.trans sm s3)

end
section
variable {P : Program} {w : World} {K : PySem.W.Frag} {mg : Str → Option Value} {base : Heap}
def spPl : Sp := fun vs H Q _ => ∃ (c t : Addr) (C : List Int) (L m s : Int) (bs : List Bk), vs = [.ref c, .int m, .ref t, .int s] ∧ ChAt H c (C ++ [L]) ∧ s ∈ C ++ [L] ∧ 0 < s ∧ s ≤ 2000 ∧ 0 ≤ L ∧ L ≤ 2000 ∧ 0 ≤ m ∧ m ≤ 2000 ∧ StAt H t bs ∧ St (C ++ [L]) (m * L) bs ∧ bs.length ≤ 5000 ∧
  ∀ H' u, Same H H' → H' u = some (.tup ((plf s 0 (bs ++ [(m * L, 0)])).map V.int)) → Q (.ref u) H'
theorem ok_Pl {k : Nat} (Z : Fns K mg) : FnOk P w K mg base CX0 (k + 1 + 1 + 1 + 1 + 1) Z.fPl Z.fdPl ["chain", "pages", "state", "size"] spPl := by
  have GGp : FnOk P w K mg base CX0 (k + 1 + 1 + 1 + 1) Z.fGp Z.fdGp ["chain", "pages", "state", "size"] spGp := ok_Gp Z
  refine Z.FPl.ok scPl (fun vs H Q E h => ?_) (fun cdv A outer s H vs Q E hr h => ?_)
  · obtain ⟨c, t, C, L, m, s, bs, rfl, _⟩ := h
    rfl
  · obtain ⟨c, t, C, L, m, sz, bs, rfl, hc, hs, s0, s1, L0, L1, m0, m1, hst, st, hl, q⟩ := h
    refine ⟨_, (pss_cons (ps_set (i := 4) scPl.nd rfl (.inl rfl) (pe_lst pa_nil))
 (pss_cons (ps_for PassesOwn.never rfl (pi_list (pe_call GGp (hr.mono (by omega)) (by rfl) Z.gGp Z.FGp.kp Z.bGp .nil pass0 (pa_cons (pv 0) (pa_cons (pv 1) (pa_cons (pv 2) (pa_cons (pv 3) pa_nil)))))) (pg_tup (by rfl) (pgs_cons (pg_name (i := 5) scPl.nd rfl (.inl rfl)) (pgs_cons (pg_name (i := 6) scPl.nd rfl (.inl rfl)) pgs_nil)))
 (pss_one (ps_expr (pe_bm PySem.F.plainAttrs_list PySem.F.slot_list_extend PySem.F.type_list_extend mt_extend (pv 4) (pa_cons (pe_listRg3 rfl (by rfl) Z.N.list (by rfl) Z.N.range (pa_cons (pv 5) (pa_cons (pe_op op_add (pv 6) pe_int) (pa_cons (pv 3) pa_nil)))) pa_nil)))))
 (pss_one (ps_ret (pe_callTy call_tuple_of (by rfl) Z.N.tuple (by decide +kernel) (pa_cons (pv 4) pa_nil)))))), ?_⟩
    have mL0 : 0 ≤ m * L := Int.mul_nonneg m0 L0
    have mL1 : m * L ≤ 4000000 := Int.le_trans (Int.mul_le_mul m1 L1 L0 (by omega)) (by decide)
    obtain ⟨asc1, asc2⟩ := st.asc0 mL0
    refine ⟨by decide, fun d nd => ?_⟩
    have sd := same_upd (o := .lst []) nd
    have hd0 : upd H d (.lst []) d = some (.lst []) := upd_same
    refine ⟨.ref c, rfl, .int m, rfl, .ref t, rfl, .int sz, rfl, c, t, C, L, m, sz, bs, rfl, hc.keep sd, hs, s0, s1, L0, L1, m0, m1, hst.same sd, st, hl, fun H1 D ys s1' nD hD bl => ?_⟩
    have gb := gpf_bnd s0 (bs ++ [(m * L, 0)]) 0 asc1 (Int.le_refl _)
    have pln := plf_len s0 (bs ++ [(m * L, 0)]) 0 (m * L) asc1 asc2 mL0
    rw [plf_gpf s0] at pln q
    generalize gpf sz 0 (bs ++ [(m * L, 0)]) = gs at *
    have hd1 := s1' _ _ hd0
    have nDd : D ≠ d := (ne_of_none hd0 nD).symm
    refine ⟨D, rfl, ⟨_, .inl (.inl hD)⟩, ?_⟩
    refine for_list (K := K) (a := D) (xs := ys) (fun i σ H2 => ∃ y5 y6, σ = [some (.ref c), some (.int m), some (.ref t), some (.int sz), some (.ref d), y5, y6] ∧ But d H1 H2 ∧ H2 d = some (.lst (((gs.take i).flatMap (gpr sz)).map V.int)))
      ⟨none, none, rfl, But.refl _ _, hd1⟩ (fun i σ H2 _ p => ?_) ?_ ?_
    · obtain ⟨_, _, _, bt, _⟩ := p
      exact .inl (.inl (bt _ _ nDd hD))
    · rintro i x σ H2 hx ⟨y5, y6, rfl, bt, hd3⟩
      obtain ⟨b, hb, ⟨u, rfl, hu⟩⟩ := bl.get hx
      have hu2 := bt _ _ (ne_of hu hd1 (by intro z; cases z)) hu
      obtain ⟨g1, g2, g3⟩ := gb b (List.mem_of_getElem? hb)
      have etk : gs.take (i + 1) = gs.take i ++ [b] := by rw [List.take_add_one, hb]; rfl
      have ln : ((gs.take (i + 1)).flatMap (gpr sz)).length ≤ (m * L - 0).toNat := by
        refine Nat.le_trans ?_ pln
        conv => rhs; rw [← List.take_append_drop (i + 1) gs]
        rw [List.flatMap_append, List.length_append]
        omega
      rw [etk, List.flatMap_append, List.length_append, List.flatMap_cons, List.flatMap_nil, List.append_nil] at ln
      have ln2 : (gpr sz b).length = rgN b.1 (b.2 + 1) sz := rg3_len _ _ _
      refine ⟨u, _, rfl, .inl (.inl hu2), rfl, _, _, rfl, _, _, rfl, rfl, ?_⟩
      refine ⟨.ref d, rfl, .inl ⟨rfl, _, .inl (.inl hd3)⟩, .int b.1, rfl, .int b.2, rfl, _, _, rfl, rfl, .int sz, rfl, _, _, sz, _, rfl, RgC.up (i := b.1) (j := b.2 + 1) s0 (by omega) ⟨by omega, by omega⟩ ⟨by omega, by omega⟩, Nat.le_trans (show _ ≤ 4000000 by omega) (by decide), fun p np => ?_⟩
      have sp := same_upd (o := .lst ((rg3 b.1 sz (rgN b.1 (b.2 + 1) sz)).map V.int)) np
      refine ⟨d, p, _, _, rfl, rfl, sp _ _ hd3, upd_same, ?_, ?_⟩
      · rw [List.length_map, List.length_map, rg3_len]
        exact Nat.le_trans (show _ ≤ 4000000 by omega) (by decide)
      refine ⟨_, _, rfl, fun v o nv hv => ?_, ?_⟩
      · rw [upd_ne nv]
        exact sp _ _ (bt _ _ nv hv)
      · rw [upd_same, etk, List.flatMap_append, List.map_append, List.flatMap_cons, List.flatMap_nil, List.append_nil]
        rfl
    · rintro σ H2 ⟨y5, y6, rfl, bt, hd3⟩
      have e : gs.take ys.length = gs := List.take_of_length_le (by rw [bl.len]; exact Nat.le_refl _)
      rw [e] at hd3
      refine ⟨.ref d, rfl, d, _, rfl, .inl ⟨.inl (.inl hd3), fun v nv => q _ v (fun a o ha => ?_) upd_same⟩⟩
      exact same_upd nv _ _ (bt _ _ (ne_of_none ha nd) (s1' _ _ (sd _ _ ha)))
end
end Ph

set_option maxHeartbeats 8000000
namespace Ph
open PySem PySem.Spec PyProof.Rows L2
theorem seq_splitR {t u : TS} {D : Ends} {σ : L2.St} {H : Hp} (R : L2.St → Hp → Prop) (h1 : ∀ D' : Ends, D'.rt = D.rt → (∀ σ' H', R σ' H' → D'.nx σ' H') → t D' σ H) (h2 : ∀ σ' H', R σ' H' → u D σ' H') : tSeq t u D σ H := h1 _ rfl h2
section
variable {P : Program} {w : World} {K : PySem.W.Frag} {mg : Str → Option Value} {base : Heap}
def spPw : Sp := fun vs H Q _ => ∃ b n : Nat, vs = [.int (b : Nat), .int (n : Nat)] ∧ b ≤ 20000 ∧ n ≤ 1000 ∧ Q (.int ((b ^ n : Nat) : Int)) H
theorem ok_Pw {k : Nat} (Z : Fns K mg) : FnOk P w K mg base CX0 (k + 1) Z.fPw Z.fdPw ["base", "times"] spPw := by
  refine Z.FPw.ok scPw (fun vs H Q E h => ?_) (fun cdv A outer s H vs Q E hr h => ?_)
  · obtain ⟨b, n, rfl, _⟩ := h
    rfl
  · obtain ⟨b, n, rfl, hb, hn, q⟩ := h
    refine ⟨_, (pss_cons (ps_set (i := 2) scPw.nd rfl (.inl rfl) pe_int)
 (pss_cons (ps_for PassesOwn.never rfl (pi_range1 (by rfl) Z.N.range (pa_cons (pv 1) pa_nil)) (pg_name (i := 3) scPw.nd rfl (.inl rfl))
 (pss_one (ps_aug (i := 2) scPw.nd rfl (.inl rfl) (pv 0) ip_mulW)))
 (pss_one (ps_ret (pv 2))))), ?_⟩
    refine ⟨.int n, rfl, n, rfl, by omega, by omega, ?_⟩
    refine for_range (lo := 0) (n := ((n : Nat) : Int).toNat) (fun i σ H2 => ∃ y3, σ = [some (.int b), some (.int n), some (.int ((b ^ i : Nat) : Int)), y3] ∧ H2 = H) ⟨none, rfl, rfl⟩ ?_ ?_
    · rintro i σ H2 hi ⟨y3, rfl, rfl⟩
      refine ⟨_, rfl, .int b, rfl, _, _, rfl, rfl, mulB_ok hb (show i ≤ n by omega) hn, some (.int (0 + i)), ?_, rfl⟩
      show [some (V.int b), some (V.int n), some (V.int (((b ^ i : Nat) : Int) * (b : Nat))), _] = _
      rw [← Int.natCast_mul, ← Nat.pow_succ]
    · rintro σ H2 ⟨y3, rfl, rfl⟩
      exact ⟨_, rfl, q⟩
def spCs (K : PySem.W.Frag) : Sp := fun vs H Q _ => ∃ (c : Addr) (s : Nat → Nat) (p n m : Nat), vs = [.ref c, .int n] ∧ SqT K H c ((tl s (p + 1)).map V.int) ∧ Cn s p m ∧ Sml s p n ∧ ∀ H', Same H H' → Q (.int ((cst s p ^ n : Nat) : Int)) H'
theorem ok_Cs {k : Nat} (Z : Fns K mg) : FnOk P w K mg base CX0 (k + 1 + 1) Z.fCs Z.fdCs ["chain", "pages"] (spCs K) := by
  have GPw : FnOk P w K mg base CX0 (k + 1) Z.fPw Z.fdPw ["base", "times"] spPw := ok_Pw Z
  refine Z.FCs.ok scCs (fun vs H Q E h => ?_) (fun cdv A outer s H vs Q E hr h => ?_)
  · obtain ⟨c, s, p, n, m, rfl, _⟩ := h
    rfl
  · obtain ⟨c, sz, p, n, m, rfl, hc, cn, sml, q⟩ := h
    have s1 := sml.z
    have p1 := sml.q
    have n1 := sml.n
    refine ⟨_, (pss_cons (ps_if (pt_cmpR op_eq (pv 1) pe_int (nomark _))
 (pss_one (ps_ret pe_int)) pss_nil)
 (pss_cons (ps_set (i := 2) scCs.nd rfl (.inl rfl) pe_int)
 (pss_cons (ps_for PassesOwn.never rfl (pi_zipK (k1 := true) (k2 := true) (by rfl) Z.N.zip (pa_cons (pv 0) (pa_cons (pe_slice sl_tupK (pv 0) (po_some pe_int) po_none) pa_nil))) (pg_tup (by rfl) (pgs_cons (pg_name (i := 3) scCs.nd rfl (.inl rfl)) (pgs_cons (pg_name (i := 4) scCs.nd rfl (.inl rfl)) pgs_nil)))
 (pss_one (ps_set (i := 2) scCs.nd rfl (.inl rfl) (pe_op op_add (pe_call GPw (hr.mono (by omega)) (by rfl) Z.gPw Z.FPw.kp Z.bPw .nil pass0 (pa_cons (pv 2) (pa_cons (pe_op op_fdiv (pv 4) (pv 3)) pa_nil))) pe_int))))
 (pss_one (ps_ret (pe_call GPw (hr.mono (by omega)) (by rfl) Z.gPw Z.FPw.kp Z.bPw .nil pass0 (pa_cons (pv 2) (pa_cons (pv 1) pa_nil)))))))), ?_⟩
    refine ⟨.int n, rfl, rfl, _, rfl, ite2 (fun e => ?_) (fun e => ?_)⟩
    · have e1 : n = 0 := by
        have := V.int.inj (of_decide_eq_true e)
        omega
      subst e1
      have := q H (Same.refl H)
      rw [Nat.pow_zero] at this
      exact this
    · refine ⟨.ref c, rfl, .ref c, rfl, 1, rfl, c, _, rfl, hc, fun d H1 sd hD => ?_⟩
      rw [cut_oneL] at hD
      refine ⟨c, d, _, _, rfl, sd.tup hc, hD, ?_⟩
      refine for_it (walk_zipK (k1 := true) (k2 := true) (K := K) (a := c) (b := d) (xs := (tl sz (p + 1)).map V.int) (ys := (tl (fun i => sz (i + 1)) p).map V.int) (n := p) (by rw [List.length_map, List.length_map, tl_len, tl_len]; omega))
        (fun i σ H2 => ∃ y3 y4, σ = [some (.ref c), some (.int n), some (.int ((cst sz i : Nat) : Int)), y3, y4] ∧ Same H1 H2) ⟨_, _, rfl, Same.refl _⟩ (fun i σ H2 _ q => ?_) ?_ ?_
      · obtain ⟨_, _, _, s2⟩ := q
        exact ⟨s2.tup (sd.tup hc), s2.tup hD⟩
      · rintro i v σ H2 H3 hi ⟨y3, y4, rfl, s2⟩ ⟨T, x1, x2, rfl, nT, rfl, g1, g2⟩
        have g1 : ((tl sz (p + 1)).map V.int)[i]? = some x1 := g1
        rw [tl_getV (by omega)] at g1
        have g2 : ((tl (fun i => sz (i + 1)) p).map V.int)[i]? = some x2 := g2
        rw [tl_getV hi] at g2
        cases g1
        cases g2
        have z0 := cn.ch.pos (i := i) (by omega)
        have z1 := cn.ch.mono (i := i + 1) (j := p) (by omega) (by omega)
        have z2 := cn.ch.mono (i := i) (j := p) (by omega) (by omega)
        have e1 : ((sz (i + 1) : Nat) : Int) / ((sz i : Nat) : Int) = ((sz (i + 1) / sz i : Nat) : Int) := (Int.natCast_ediv _ _).symm
        have e2 : sz (i + 1) / sz i ≤ 12 := Nat.le_trans (Nat.div_le_self _ _) (by omega)
        refine ⟨T, _, rfl, .inl (.inl upd_same), rfl, _, _, rfl, _, _, rfl, rfl, ?_⟩
        dsimp only [gName]
        refine ⟨.int _, rfl, .int _, rfl, .int _, rfl, _, _, rfl, rfl, ⟨by omega, by omega⟩, ?_⟩
        refine ⟨cst sz i, sz (i + 1) / sz i, ?_, sml.k i (by omega), by omega, _, _, rfl, rfl, _, _, rfl, s2.trans (same_upd nT)⟩
        show [V.int _, V.int (((sz (i + 1) : Nat) : Int) / ((sz i : Nat) : Int))] = _
        rw [e1]
      · rintro σ H2 ⟨y3, y4, rfl, s2⟩
        exact ⟨.int _, rfl, .int _, rfl, cst sz p, n, rfl, sml.k p (Nat.le_refl _), by omega, q _ (sd.trans s2)⟩
def spCm : Sp := fun vs H Q _ => ∃ n : Int, vs = [.int n] ∧ n ≤ 20000 ∧ ∀ v, Q v H
theorem ok_Cm {k : Nat} (Z : Fns K mg) : FnOk P w K mg base CX0 (k + 1) Z.fCm Z.fdCm ["many"] spCm := by
  refine Z.FCm.ok scCm (fun vs H Q E h => ?_) (fun cdv A outer s H vs Q E hr h => ?_)
  · obtain ⟨n, rfl, _⟩ := h
    rfl
  · obtain ⟨n, rfl, hn, q⟩ := h
    refine ⟨_, (pss_one (ps_if (pt_cmpR op_gt (pv 0) (pe_glob (v := .int 20000) (by rfl) Z.k_MOST_STATES.choose_spec ⟨_, rfl⟩) (nomark _))
 (pss_one ps_never) pss_nil)), ?_⟩
    refine ⟨.int n, rfl, _, _, rfl, rfl, _, rfl, ite2 (fun c => absurd c (by simp only [decide_eq_true_eq]; omega)) (fun _ => q _)⟩
def spCh (K : PySem.W.Frag) : Sp := fun vs H Q _ => ∃ (c : Addr) (s : Nat → Nat) (p n m : Nat), vs = [.ref c, .int n] ∧ SqT K H c ((tl s (p + 1)).map V.int) ∧ Cn s p m ∧ Sml s p n ∧ ∀ H' v, Same H H' → Q v H'
theorem ok_Ch {k : Nat} (Z : Fns K mg) : FnOk P w K mg base CX0 (k + 1 + 1 + 1) Z.fCh Z.fdCh ["chain", "pages"] (spCh K) := by
  have GCs : FnOk P w K mg base CX0 (k + 1 + 1) Z.fCs Z.fdCs ["chain", "pages"] (spCs K) := ok_Cs Z
  have GCm : FnOk P w K mg base CX0 (k + 1) Z.fCm Z.fdCm ["many"] spCm := ok_Cm Z
  refine Z.FCh.ok scCh (fun vs H Q E h => ?_) (fun cdv A outer s H vs Q E hr h => ?_)
  · obtain ⟨c, s, p, n, m, rfl, _⟩ := h
    rfl
  · obtain ⟨c, sz, p, n, m, rfl, hc, cn, sml, q⟩ := h
    have s1 := sml.z
    have p1 := sml.q
    have n1 := sml.n
    have w1 := sml.w
    refine ⟨_, (pss_cons (ps_if (pt_cmpR op_gt (pe_op op_mul (pv 1) (pe_ix ix_tup (pv 0) (pe_un un_neg pe_int) (fun _ _ => rfl))) (pe_glob (v := .int 14) (by rfl) Z.k_MOST_WORDS.choose_spec ⟨_, rfl⟩) (nomark _))
 (pss_one ps_never) pss_nil)
 (pss_one (ps_expr (pe_call GCm (hr.mono (by omega)) (by rfl) Z.gCm Z.FCm.kp Z.bCm .nil pass0 (pa_cons (pe_call GCs (hr.mono (by omega)) (by rfl) Z.gCs Z.FCs.kp Z.bCs .nil pass0 (pa_cons (pv 0) (pa_cons (pv 1) pa_nil))) pa_nil))))), ?_⟩
    have e : ((n : Nat) : Int) * ((sz p : Nat) : Int) = ((n * sz p : Nat) : Int) := (Int.natCast_mul _ _).symm
    refine ⟨.int n, rfl, .ref c, rfl, 1, rfl, c, _, -1, _, rfl, rfl, hc, tl_atL, _, _, rfl, rfl, .inl ⟨by omega, by omega⟩, ?_⟩
    refine ⟨_, _, rfl, rfl, _, rfl, ite2 (fun c => absurd c (by simp only [decide_eq_true_eq]; omega)) (fun _ => ?_)⟩
    refine ⟨.ref c, rfl, .int n, rfl, c, sz, p, n, m, rfl, hc, cn, sml, fun H1 s1 => ⟨_, rfl, by have := sml.c; omega, fun v => q _ _ s1⟩⟩
end
end Ph

set_option maxHeartbeats 8000000
namespace Ph
open PySem PySem.Spec PyProof.Rows L2
/-! ### the states from a word on, in the program's table -/
def TabS (H0 H : Hp) (kvs : List (Key × V)) (C : List Int) (W lo : Int) : Prop := ∀ a, lo ≤ a → a ≤ W → ∃ L xs bss, valV kvs (Sum.inl a) = some (.ref L) ∧ H0 L = none ∧ H L = some (.lst xs) ∧ StVs H xs bss ∧ (∀ bs, bs ∈ bss ↔ From C W a bs) ∧ bss.length ≤ 3 ^ (W - a).toNat
section
variable {P : Program} {w : World} {K : PySem.W.Frag} {mg : Str → Option Value} {base : Heap}
def spSw (K : PySem.W.Frag) : Sp := fun vs H Q _ => ∃ (c : Addr) (s : Nat → Nat) (p n m : Nat), vs = [.ref c, .int ((n * s p : Nat) : Int)] ∧ SqT K H c ((tl s (p + 1)).map V.int) ∧ Cn s p m ∧ Sml s p n ∧
  ∀ H' D xs bss, H D = none → Same H H' → H' D = some (.lst xs) → StVs H' xs bss → (∀ bs, bs ∈ bss ↔ St (tl s (p + 1)) ((n * s p : Nat) : Int) bs) → bss.length ≤ 531441 → Q (.ref D) H'
theorem ok_Sw {k : Nat} (Z : Fns K mg) : FnOk P w K mg base CX0 (k + 1) Z.fSw Z.fdSw ["chain", "words"] (spSw K) := by
  refine Z.FSw.ok scSw (fun vs H Q E h => ?_) (fun cdv A outer s H vs Q E hr h => ?_)
  · obtain ⟨c, s, p, n, m, rfl, _⟩ := h
    rfl
  · obtain ⟨c, sz, p, n, m, rfl, hc, cn, sml, q⟩ := h
    refine ⟨_, (pss_cons (ps_set (i := 2) scSw.nd rfl (.inl rfl) (pe_disp (pps_cons (pv 1) (pe_lst (pa_cons (pe_tup pa_nil) pa_nil)) pps_nil) (by rfl) (by rfl) (fun z => by cases z) (by decide)))
 (pss_cons (ps_for PassesOwn.never rfl (pi_range3 (by rfl) Z.N.range (pa_cons (pe_op op_sub (pv 1) pe_int) (pa_cons (pe_un un_neg pe_int) (pa_cons (pe_un un_neg pe_int) pa_nil)))) (pg_name (i := 3) scSw.nd rfl (.inr rfl))
 (pss_cons (ps_set (i := 4) scSw.nd rfl (.inl rfl) (pe_callTy call_list_of (by rfl) Z.N.list (by decide +kernel) (pa_cons (pe_dget (hu_of hr) (pv 2) (pe_op op_add (pv 3) pe_int) (fun _ _ => rfl)) pa_nil)))
 (pss_cons (ps_for PassesOwn.never rfl (pi_tup (pv 0)) (pg_name (i := 5) scSw.nd rfl (.inr rfl))
 (pss_one (ps_if (pt_cmpR op_eq (pe_op op_mod (pv 3) (pv 5)) pe_int (nomark _))
 (pss_one (ps_expr (pe_bm PySem.F.plainAttrs_list PySem.F.slot_list_extend PySem.F.type_list_extend mt_extend (pv 4) (pa_cons (pe_lc (own := [("rest", 6)]) (g := (gName 6)) (tt := tYes) (by rfl) scSw.nd (pi_list (pe_dget (hu_of hr) (pv 2) (pe_op op_add (pv 3) (pv 5)) (fun _ _ => rfl))) (blkOk_by (N := scSwN) (sc := defScope scSwS) (by decide +kernel)) (fun _ _ _ _ _ => (pg_name (i := 6) scSw.nd rfl (.inl rfl))) (fun _ _ _ _ _ => pts_nil) (fun _ _ _ _ _ => (pe_tup (pa_cons (pe_tup (pa_cons (pv 3) (pa_cons (pv 5) pa_nil))) (pa_starK (K := K) rfl (pv 6) pa_nil))))) pa_nil)))) pss_nil)))
 (pss_one (ps_asg (pv 4) (pg_sub (pv 2) (pv 3) (set_dict (hu_of hr))))))))
 (pss_one (ps_ret (pe_dget (hu_of hr) (pv 2) pe_int (fun _ _ => rfl)))))), ?_⟩
    obtain ⟨W, hW⟩ : ∃ W : Nat, n * sz p = W := ⟨_, rfl⟩
    have w12 : W ≤ 12 := by have := sml.w; omega
    rw [hW] at q ⊢
    have szp : ∀ j, j ≤ p → 0 < sz j ∧ sz j ≤ 12 := fun j hj => ⟨cn.ch.pos (by omega), Nat.le_trans (cn.ch.mono (i := j) (j := p) hj (by omega)) sml.z⟩
    have dvW : ∀ j, j ≤ p → ((W : Nat) : Int) % ((sz j : Nat) : Int) = 0 := fun j hj => by
      obtain ⟨r, _, e⟩ := cn.ch.dvd (i := j) (j := p) hj (by omega)
      rw [← hW, e, ← Int.natCast_emod, Nat.mul_comm n, Nat.mul_assoc, Nat.mul_mod_right]
      rfl
    have p5 := sml.q
    refine fun Bd nB => ⟨.int W, rfl, (by show 0 ≤ sizeLine; decide), fun t0 nt0 => ⟨(by show 1 ≤ sizeLine; decide), fun L0 nL0 => ?_⟩⟩
    have sB := same_upd (o := .dK []) nB
    have hB0 : upd H Bd (.dK []) Bd = some (.dK []) := upd_same
    have st0 := same_upd (o := .tup []) nt0
    have ht0 : upd (upd H Bd (.dK [])) t0 (.tup []) t0 = some (.tup []) := upd_same
    have hB1 := st0 _ _ hB0
    have sL0 := same_upd (o := .lst [.ref t0]) nL0
    have hL0 : upd (upd (upd H Bd (.dK [])) t0 (.tup [])) L0 (.lst [.ref t0]) L0 = some (.lst [.ref t0]) := upd_same
    have hB2 := sL0 _ _ hB1
    have ht2 := sL0 _ _ ht0
    have s2 := sB.trans (st0.trans sL0)
    generalize upd (upd (upd H Bd (.dK [])) t0 (.tup [])) L0 (.lst [.ref t0]) = H2 at *
    refine ⟨hB2, [(Sum.inl (W : Int), .ref L0)], rfl, (by show 1 ≤ 15; decide), ?_⟩
    have nLH : H L0 = none := none_of_same sB (none_of_same st0 nL0)
    have nBL : Bd ≠ L0 := fun z => by rw [z, hL0] at hB2; cases hB2
    have nBt : t0 ≠ Bd := fun z => by rw [z, hB2] at ht2; cases ht2
    have tab0 : TabS H (upd H2 Bd (.dK [(Sum.inl (W : Int), .ref L0)])) [(Sum.inl (W : Int), .ref L0)] (tl sz (p + 1)) W W := fun a h1 h2 => by
      obtain rfl : a = W := by omega
      refine ⟨L0, [.ref t0], [[]], valV_pos rfl, nLH, by rw [upd_ne nBL.symm]; exact hL0, .cons ⟨t0, rfl, [], by rw [upd_ne nBt]; exact ht2, .nil⟩ .nil, fun bs => ?_, ?_⟩
      · rw [from_end, List.mem_singleton]
      · rw [Int.sub_self]
        exact Nat.le_refl _
    have hB3 : upd H2 Bd (.dK (mergeK [] [(Sum.inl (W : Int), .ref L0)])) Bd = some (.dK [(Sum.inl (W : Int), .ref L0)]) := upd_same
    have f03 : ∀ a o, H a = some o → upd H2 Bd (.dK (mergeK [] [(Sum.inl (W : Int), .ref L0)])) a = some o := fun a o e => by
      rw [upd_ne (ne_of_none e nB)]
      exact s2 _ _ e
    have tab0 : TabS H (upd H2 Bd (.dK (mergeK [] [(Sum.inl (W : Int), .ref L0)]))) [(Sum.inl (W : Int), .ref L0)] (tl sz (p + 1)) W W := tab0
    generalize upd H2 Bd (.dK (mergeK [] [(Sum.inl (W : Int), .ref L0)])) = H3 at *
    dsimp only [gName]
    have nW : ((W : Nat) : Int) - 1 - -1 = W := by omega
    refine seq_splitR (fun σ' H' => ∃ y3 y4 y5 y6 kvs, σ' = [some (.ref c), some (.int W), some (.ref Bd), y3, y4, y5, y6] ∧ But Bd H3 H' ∧ H' Bd = some (.dK kvs) ∧ TabS H H' kvs (tl sz (p + 1)) W 0) (fun D' rt' hD' => ?_) ?_
    · refine ⟨.int W, rfl, _, _, rfl, rfl, 1, rfl, 1, rfl, _, _, -1, _, rfl, RgC.neg (by omega) (by omega) (by decide) (by decide), ?_⟩
      refine for_it walk_rangeC (fun i σ H' => ∃ y3 y4 y5 y6 kvs, σ = [some (.ref c), some (.int W), some (.ref Bd), y3, y4, y5, y6] ∧ But Bd H3 H' ∧ H' Bd = some (.dK kvs) ∧ kvs.length ≤ i + 1 ∧ TabS H H' kvs (tl sz (p + 1)) W (W - i))
        ⟨_, _, _, _, _, rfl, But.refl _ _, hB3, Nat.le_refl _, by rw [show ((W : Nat) : Int) - ((0 : Nat) : Int) = W by omega]; exact tab0⟩ (fun _ _ _ _ _ => trivial) ?_ ?_
      · rintro i x σ H4a H4 hi ⟨y3, y4, y5, y6, kvs, rfl, b4, hB4, kl4, tab4⟩ ⟨rfl, rfl⟩
        obtain ⟨a, ea, aW⟩ : ∃ a : Nat, ((W : Nat) : Int) - 1 + (i : Nat) * -1 = (a : Int) ∧ a + i + 1 = W := ⟨W - 1 - i, by omega, by omega⟩
        dsimp only [gName]
        rw [ea]
        have lo : ((W : Nat) : Int) - (i : Nat) = (a : Int) + 1 := by omega
        rw [lo] at tab4
        obtain ⟨L1, xs1, bss1, hv1, nL1, hL1, hx1, hm1, hl1⟩ := tab4 (a + 1) (Int.le_refl _) (by omega)
        have nB1 : L1 ≠ Bd := fun z => by rw [z, hB4] at hL1; cases hL1
        refine ⟨.ref Bd, rfl, .int a, rfl, _, _, rfl, rfl, Bd, .ref L1, rfl, .inl ⟨kvs, .inl _, .inl hB4, rfl, hv1.symm⟩, L1, xs1, rfl, .inl (.inl (.inl hL1)), fun D nD => ?_⟩
        have sD := same_upd (o := .lst xs1) nD
        have hD : upd H4 D (.lst xs1) D = some (.lst xs1) := upd_same
        have nDB : D ≠ Bd := (ne_of_none hB4 nD).symm
        have nDH : H D = none := by
          cases e : H D with
          | none => rfl
          | some o => rw [b4 _ _ nDB (f03 _ _ e)] at nD; cases nD
        dsimp only [gName]
        obtain ⟨n1, hn1⟩ : ∃ n1 : Nat, W - a = n1 ∧ 1 ≤ n1 := ⟨W - a, rfl, by omega⟩
        have e3 : (((W : Nat) : Int) - (((a : Nat) : Int) + 1)).toNat = n1 - 1 := by omega
        refine seq_splitR (fun σ' H' => ∃ y5 y6 xs bss, σ' = [some (.ref c), some (.int W), some (.ref Bd), some (.int a), some (.ref D), y5, y6] ∧ But D H4 H' ∧ H' D = some (.lst xs) ∧ StVs H' xs bss ∧ (∀ bs, bs ∈ bss ↔ From (tl sz (p + 1)) W a bs) ∧ bss.length ≤ 3 ^ n1) (fun D2 rt2 hD2 => ?_) ?_
        · have hc3 : SqT K H3 c ((tl sz (p + 1)).map V.int) := (show Same H H3 from f03).tup hc
          have hc4 := sqT_butO hc3 b4 hB3 (fun _ z => by cases z) (fun _ _ z => by cases z)
          have hB5 := sD _ _ hB4
          have s5 := sD
          generalize upd H4 D (.lst xs1) = H5 at *
          refine ⟨.ref c, rfl, c, rfl, ⟨_, sD.tup hc4⟩, ?_⟩
          refine for_tup (K := K) (a := c) (xs := (tl sz (p + 1)).map V.int) (fun i σ H' => ∃ y5 y6 xs bss, σ = [some (.ref c), some (.int W), some (.ref Bd), some (.int a), some (.ref D), y5, y6] ∧ But D H5 H' ∧ H' D = some (.lst xs) ∧ StVs H' xs bss ∧ (∀ bs, bs ∈ bss ↔ From (tl sz (p + 1)) W ((a : Int) + 1) bs ∨ ∃ j r, j < i ∧ (a : Int) % ((sz j : Nat) : Int) = 0 ∧ From (tl sz (p + 1)) W ((a : Int) + ((sz j : Nat) : Int)) r ∧ bs = ((a : Int), ((sz j : Nat) : Int)) :: r) ∧ bss.length ≤ bsm n1 i)
            ⟨_, _, xs1, bss1, rfl, But.refl _ _, hD, hx1.kt (Same.kt sD), fun bs => by
              rw [hm1]
              exact ⟨.inl, fun h => h.elim id fun ⟨_, _, h, _⟩ => absurd h (by omega)⟩, by rw [e3] at hl1; exact hl1⟩ (fun i σ H2 _ pv => ?_) ?_ ?_
          · obtain ⟨_, _, _, _, _, b, _⟩ := pv
            exact sqT_butO (sD.tup hc4) b hD (fun _ z => by cases z) (fun _ _ z => by cases z)
          · rintro i x σ H6 hx' ⟨y5, y6, xs, bss, rfl, b6, hD6, hx6, hm6, hl6⟩
            have hi : i < p + 1 := by
              have := (List.getElem?_eq_some_iff.mp hx').1
              rw [List.length_map, tl_len] at this
              exact this
            rw [tl_getV hi] at hx'
            cases hx'
            dsimp only [gName]
            obtain ⟨z0, z1⟩ := szp i (by omega)
            refine ⟨.int a, rfl, .int _, rfl, _, _, rfl, rfl, (by omega), rfl, _, rfl, ite2 (fun cc => ?_) (fun cc => ?_)⟩
            · have am : (a : Int) % ((sz i : Nat) : Int) = 0 := V.int.inj (of_decide_eq_true cc)
              have fit : a + sz i ≤ W := by
                have w0 := dvW i (by omega)
                obtain ⟨x, hx⟩ := Int.dvd_of_emod_eq_zero am
                obtain ⟨y, hy⟩ := Int.dvd_of_emod_eq_zero w0
                have lt : ((sz i : Nat) : Int) * x < ((sz i : Nat) : Int) * y := by rw [← hx, ← hy]; omega
                have lt2 : x + 1 ≤ y := Int.lt_of_mul_lt_mul_left lt (by omega)
                have := Int.mul_le_mul_of_nonneg_left lt2 (show (0 : Int) ≤ ((sz i : Nat) : Int) by omega)
                rw [Int.mul_add, Int.mul_one, ← hx, ← hy] at this
                omega
              have hB6 := b6 _ _ nDB.symm hB5
              obtain ⟨L2, xs2, bss2, hv2, nL2, hL2, hx2, hm2, hl2⟩ := tab4 ((a : Int) + ((sz i : Nat) : Int)) (by omega) (by omega)
              have nL2D : L2 ≠ D := ne_of_none hL2 nD
              have hL6 := b6 _ _ nL2D (sD _ _ hL2)
              have kt6 : Kt H4 H6 := (Same.kt sD).trans (fun a o e _ n => b6 _ _ (fun z => by rw [z, hD] at e; exact n _ (Option.some.inj e).symm) e)
              have hx26 := hx2.kt kt6
              refine ⟨.ref D, rfl, .inl ⟨rfl, _, .inl (.inl hD6)⟩, .ref Bd, rfl, .int a, rfl, .int _, rfl, _, _, rfl, rfl, Bd, .ref L2, rfl, .inl ⟨kvs, .inl _, .inl hB6, rfl, hv2.symm⟩, L2, rfl, ⟨_, .inl (.inl hL6)⟩, fun E nE => ?_⟩
              have bl2 : bss2.length ≤ 531441 := by
                refine Nat.le_trans hl2 (Nat.le_trans (Nat.pow_le_pow_right (by decide) (show _ ≤ 12 by omega)) (by decide))
              have x2l : xs2.length = bss2.length := Paired.length hx26
              refine lc_R (walk_list (K := K) (a := L2) (xs := xs2)) (fun _ _ _ _ y => YAt.same y) (fun H8 j y => ∃ r, bss2[j]? = some r ∧ StV H8 y (((a : Int), ((sz i : Nat) : Int)) :: r)) (fun H8 H9 _ y kp h => ?_) nE (by rw [x2l]; exact Nat.lt_of_le_of_lt bl2 (by decide)) (fun H4 s4 => .inl (.inl (s4 _ _ hL6))) (fun j y H8 H9 hj s8 yy Z hZ => ?_) (fun H8 ys s8 hE pr => ?_)
              · obtain ⟨r, e, u, rfl, hu⟩ := h
                exact ⟨r, e, u, rfl, hu.mono kp⟩
              · obtain ⟨rfl, hxj⟩ := yy
                obtain ⟨r, hr2, t, rfl, rs, ht, bl⟩ := Paired.get hx26 hxj
                have st := (hm2 r).mp (List.mem_of_getElem? hr2)
                have rl : r.length ≤ 12 := by have := st_len st.1 (by omega); omega
                have ht9 := s8 _ _ ht
                refine ⟨rfl, .int a, rfl, .int _, rfl, (by show 2 ≤ sizeLine; decide), fun U nU => ?_⟩
                have sU := same_upd (o := .tup [.int a, .int ((sz i : Nat) : Int)]) nU
                refine ⟨.ref t, rfl, t, rs, rfl, .inl (.inl (.inl (sU _ _ ht9))), ?_, fun T nT => ?_⟩
                · rw [List.length_cons, List.length_append, bl.len]
                  exact Nat.le_trans (show r.length + 0 + 1 ≤ 13 by omega) (by decide)
                · rw [List.append_nil]
                  have sT := same_upd (o := .tup (.ref U :: rs)) nT
                  refine hZ _ _ (Same.trans sU sT) ⟨r, hr2, T, rfl, .ref U :: rs, upd_same, ?_⟩
                  refine .cons ⟨U, rfl, sT _ _ upd_same⟩ (BL.mono (fun u us e => ?_) bl)
                  exact sT _ _ (sU _ _ (s8 _ _ e))
              · have hD8 := s8 _ _ hD6
                have ye : ys.length = bss2.length := by
                  have := pr.length
                  rw [List.length_range, x2l] at this
                  exact this.symm
                have hys : StVs H8 ys (bss2.map fun r => ((a : Int), ((sz i : Nat) : Int)) :: r) := pairedG (by rw [List.length_map, ye]) fun j y b hj hb => by
                  obtain ⟨j', hj', r, hr2, st⟩ := Paired.get2 pr hj
                  have lt : j < ys.length := (List.getElem?_eq_some_iff.mp hj).1
                  rw [List.getElem?_range (by omega)] at hj'
                  cases hj'
                  rw [List.getElem?_map, hr2] at hb
                  cases hb
                  exact st
                have xl : xs.length = bss.length := Paired.length hx6
                have bn := bsm_le hn1.2 i
                have bn2 := Nat.le_trans bn (Nat.pow_le_pow_right (by decide) (show n1 ≤ 12 by omega))
                have nED : E ≠ D := (ne_of_none hD6 nE).symm
                have b12 : (3 : Nat) ^ 12 = 531441 := by decide
                refine ⟨D, E, xs, ys, rfl, rfl, hD8, hE, Nat.le_trans (show _ ≤ 1100000 by omega) (by decide), ?_⟩
                have kt := kt_upd (ys := xs ++ ys) hD8
                refine ⟨_, _, xs ++ ys, bss ++ bss2.map fun r => ((a : Int), ((sz i : Nat) : Int)) :: r, rfl, fun b o nb e => by rw [upd_ne nb]; exact s8 _ _ (b6 _ _ nb e), upd_same, pairedApp ((hx6.kt (Same.kt s8)).kt kt) (hys.kt kt), fun bs => ?_, ?_⟩
                · rw [List.mem_append, hm6, List.mem_map]
                  constructor
                  · rintro ((h | ⟨j, r, h1, h2⟩) | ⟨r, h1, rfl⟩)
                    · exact .inl h
                    · exact .inr ⟨j, r, by omega, h2⟩
                    · exact .inr ⟨i, r, by omega, am, (hm2 r).mp h1, rfl⟩
                  · rintro (h | ⟨j, r, h1, h2, h3, h4⟩)
                    · exact .inl (.inl h)
                    · rcases Nat.lt_or_ge j i with z | z
                      · exact .inl (.inr ⟨j, r, z, h2, h3, h4⟩)
                      · obtain rfl : j = i := by omega
                        exact .inr ⟨r, (hm2 r).mpr h3, h4.symm⟩
                · rw [List.length_append, List.length_map]
                  have ge := CH.ge cn (i := i) (by omega)
                  have hin : i < n1 := by omega
                  have e1 : bsm n1 (i + 1) = bsm n1 i + 3 ^ (n1 - 1 - i) := by show bsm n1 i + (if i < n1 then _ else 0) = _; rw [if_pos hin]
                  rw [e1]
                  refine Nat.add_le_add hl6 (Nat.le_trans hl2 (Nat.pow_le_pow_right (by decide) ?_))
                  omega
            · refine ⟨_, _, xs, bss, rfl, b6, hD6, hx6, fun bs => ?_, Nat.le_trans hl6 bsm_up⟩
              rw [hm6]
              constructor
              · rintro (h | ⟨j, r, h1, h2⟩)
                · exact .inl h
                · exact .inr ⟨j, r, by omega, h2⟩
              · rintro (h | ⟨j, r, h1, h2, h3, h4⟩)
                · exact .inl h
                · rcases Nat.lt_or_ge j i with z | z
                  · exact .inr ⟨j, r, z, h2, h3, h4⟩
                  · obtain rfl : j = i := by omega
                    exact absurd (decide_eq_true (show V.int _ = V.int 0 by rw [h2])) cc
          · rintro σ H6 ⟨y5, y6, xs, bss, rfl, b6, hD6, hx6, hm6, hl6⟩
            rw [List.length_map, tl_len] at hm6 hl6
            refine hD2 _ _ ⟨_, _, xs, bss, rfl, fun b o nb e => b6 _ _ nb (sD _ _ e), hD6, hx6, fun bs => ?_, Nat.le_trans hl6 (bsm_le hn1.2 _)⟩
            rw [hm6, from_step (a := (a : Int)) (by omega)]
            refine or_congr Iff.rfl ⟨?_, ?_⟩
            · rintro ⟨j, r, h1, h2, h3, h4⟩
              obtain ⟨z0, z1⟩ := szp j (by omega)
              refine ⟨_, r, tl_mem.mpr ⟨j, h1, rfl⟩, by omega, h2, ?_, h3, h4⟩
              have w0 := dvW j (by omega)
              obtain ⟨x, hx⟩ := Int.dvd_of_emod_eq_zero h2
              obtain ⟨y, hy⟩ := Int.dvd_of_emod_eq_zero w0
              have lt : ((sz j : Nat) : Int) * x < ((sz j : Nat) : Int) * y := by rw [← hx, ← hy]; omega
              have lt2 : x + 1 ≤ y := Int.lt_of_mul_lt_mul_left lt (by omega)
              have := Int.mul_le_mul_of_nonneg_left lt2 (show (0 : Int) ≤ ((sz j : Nat) : Int) by omega)
              rw [Int.mul_add, Int.mul_one, ← hx, ← hy] at this
              omega
            · rintro ⟨z, r, h1, h2, h3, h4, h5, h6⟩
              obtain ⟨j, hj, rfl⟩ := tl_mem.mp h1
              exact ⟨j, r, hj, h3, h5, h6⟩
        · rintro σ' H6 ⟨y5, y6, xs, bss, rfl, b6, hD6, hx6, hm6, hl6⟩
          have hB6 : H6 Bd = some (.dK kvs) := b6 _ _ nDB.symm hB4
          refine ⟨.ref D, rfl, .ref Bd, rfl, .int a, rfl, Bd, _, rfl, DPut.k (k := Sum.inl (a : Int)) hB6 (Nat.lt_of_le_of_lt (show kvs.length ≤ 14 by omega) (by decide)), ?_⟩
          have nvD : ∀ L, L ≠ Bd → upd H6 Bd (.dK (putK kvs (Sum.inl (a : Int)) (.ref D))) L = H6 L := fun L h => upd_ne h
          have kp : KpT H6 (upd H6 Bd (.dK (putK kvs (Sum.inl (a : Int)) (.ref D)))) := fun t ys e => by
            rw [upd_ne (fun z => by rw [z, hB6] at e; cases e)]
            exact e
          refine ⟨_, _, _, _, _, rfl, fun b o nb e => ?_, upd_same, ?_, fun a' h1 h2 => ?_⟩
          · rw [upd_ne nb]
            have h4 := b4 _ _ nb e
            exact b6 _ _ (ne_of_none h4 nD) h4
          · exact Nat.le_trans (length_putK kvs _ _) (by omega)
          · by_cases ae : a' = (a : Int)
            · subst ae
              refine ⟨D, xs, bss, by rw [valV_put, if_pos rfl], nDH, by rw [nvD D nDB]; exact hD6, Paired.mono (fun x bs st => ?_) hx6, hm6, ?_⟩
              · obtain ⟨t, e, st⟩ := st
                exact ⟨t, e, st.mono kp⟩
              · rw [show (((W : Nat) : Int) - ((a : Nat) : Int)).toNat = n1 by omega]
                exact hl6
            · obtain ⟨L2, xs2, bss2, hv2, nL2, hL2, hx2, hm2, hl2⟩ := tab4 a' (by omega) h2
              have n2 : L2 ≠ Bd := fun z => by rw [z, hB4] at hL2; cases hL2
              have kt6 : Kt H4 H6 := fun c o e _ n => b6 _ _ (ne_of_none e nD) e
              refine ⟨L2, xs2, bss2, by rw [valV_put, if_neg (fun z => ae (Sum.inl.inj z))]; exact hv2, nL2, by rw [nvD L2 n2]; exact b6 _ _ (ne_of_none hL2 nD) hL2, Paired.mono (fun x bs st => ?_) (hx2.kt kt6), hm2, hl2⟩
              obtain ⟨t, e, st⟩ := st
              exact ⟨t, e, st.mono kp⟩
      · rintro σ H' ⟨y3, y4, y5, y6, kvs, rfl, b, hB, _, tab⟩
        refine hD' _ _ ⟨_, _, _, _, kvs, rfl, b, hB, ?_⟩
        rw [show ((W : Nat) : Int) - ((((W : Nat) : Int) - 1 - -1).toNat : Nat) = 0 by omega] at tab
        exact tab
    · rintro σ' H' ⟨y3, y4, y5, y6, kvs, rfl, b, hB, tab⟩
      obtain ⟨L, xs, bss, hv, nL, hL, hx, hm, hl⟩ := tab 0 (Int.le_refl _) (by omega)
      refine ⟨.ref Bd, rfl, Bd, .ref L, rfl, .inl ⟨kvs, .inl 0, .inl hB, rfl, hv.symm⟩, q H' L xs bss nL (fun a o e => b _ _ (ne_of_none e nB) (f03 _ _ e)) hL hx (fun bs => ?_) ?_⟩
      · rw [hm]
        exact ⟨fun h => h.1, fun h => ⟨h, fun b hb => (h.ok b hb).2.2.1⟩⟩
      · refine Nat.le_trans hl ?_
        rw [show (((W : Nat) : Int) - 0).toNat = W by omega]
        exact Nat.le_trans (Nat.pow_le_pow_right (by decide) w12) (by decide)
end
end Ph

set_option maxHeartbeats 8000000
namespace Ph
open PySem PySem.Spec PyProof.Rows L2
/-- the sizes that the limit allows -/
def alw (s : Nat → Nat) (p M : Nat) (bs : List Bk) : List Int := (tl s (p + 1)).filter fun z => decide (z ≤ (M : Int) - tot bs)
section
variable {P : Program} {w : World} {K : PySem.W.Frag} {mg : Str → Option Value} {base : Heap}
def spAl (K : PySem.W.Frag) : Sp := fun vs H Q _ => ∃ (c t : Addr) (s : Nat → Nat) (p M : Nat) (bs : List Bk), vs = [.ref c, .int M, .ref t] ∧ SqT K H c ((tl s (p + 1)).map V.int) ∧ p ≤ 100 ∧ StAt H t bs ∧ bs.length ≤ 5000 ∧ ∀ H' D, H D = none → Same H H' → H' D = some (.lst ((alw s p M bs).map V.int)) → Q (.ref D) H'
theorem ok_Al {k : Nat} (Z : Fns K mg) : FnOk P w K mg base CX0 (k + 1 + 1) Z.fAl Z.fdAl ["chain", "limit", "state"] (spAl K) := by
  have GV : FnOk P w K mg base CX0 (k + 1) Z.fV Z.fdV ["state"] spV := ok_V Z
  refine Z.FAl.ok scAl (fun vs H Q E h => ?_) (fun cdv A outer s H vs Q E hr h => ?_)
  · obtain ⟨c, t, s, p, M, bs, rfl, _⟩ := h
    rfl
  · obtain ⟨c, t, sz, p, M, bs, rfl, hc, p1, ht, bl, q⟩ := h
    refine ⟨_, (pss_cons (ps_set (i := 3) scAl.nd rfl (.inr rfl) (pe_op op_sub (pv 1) (pe_call GV (hr.mono (by omega)) (by rfl) Z.gV Z.FV.kp Z.bV .nil pass0 (pa_cons (pv 2) pa_nil))))
 (pss_one (ps_ret (pe_lc (own := [("size", 4)]) (g := (gName 4)) (by rfl) scAl.nd (pi_tup (pv 0)) (blkOk_by (N := scAlN) (sc := defScope scAlS) (by decide +kernel)) (fun _ _ _ _ _ => (pg_name (i := 4) scAl.nd rfl (.inl rfl))) (fun _ _ _ _ _ => (pts_one (pt_cmpR op_le (pv 4) (pv 3) (nomark _)))) (fun _ _ _ _ _ => (pv 4)))))), ?_⟩
    refine ⟨.int M, rfl, .ref t, rfl, t, bs, rfl, ht, bl, fun H1 s1 => ⟨_, _, rfl, rfl, ?_⟩⟩
    dsimp only [gName]
    have hc1 := s1.tup hc
    refine ⟨.ref c, rfl, c, rfl, ⟨_, hc1⟩, fun D nD => ?_⟩
    have nDH : H D = none := none_of_same s1 nD
    refine lc_tupF (xs := (tl sz (p + 1)).map V.int) (fun x => if decide (iV x ≤ (M : Int) - tot bs) = true then some x else none) hc1 nD (by rw [List.length_map, tl_len]; exact Nat.lt_of_le_of_lt (show p + 1 ≤ 101 by omega) (by decide)) (fun x hx H2 sm Y N hY hN => ?_) (fun H2 sm hD => ?_)
    · obtain ⟨z, hz, rfl⟩ := List.mem_map.mp hx
      refine ⟨rfl, .int z, rfl, .int _, rfl, _, _, rfl, rfl, _, rfl, ite2 (fun cc => ⟨.int z, rfl, ?_⟩) (fun cc => ?_)⟩
      · exact hY _ (if_pos cc)
      · exact hN (if_neg cc)
    · refine q H2 D nDH (s1.trans sm) ?_
      rw [hD]
      congr 2
      unfold alw
      generalize tl sz (p + 1) = l
      induction l with
      | nil => rfl
      | cons z r ih =>
        rw [List.map_cons, List.filterMap_cons, List.filter_cons]
        have ez : iV (V.int z) = z := rfl
        rw [ez]
        by_cases h : decide (z ≤ (M : Int) - tot bs) = true
        · rw [if_pos h, if_pos h, List.map_cons]
          exact congrArg _ ih
        · rw [if_neg h, if_neg h]
          exact ih
def spAs (K : PySem.W.Frag) : Sp := fun vs H Q _ => ∃ (c : Addr) (s : Nat → Nat) (p n M m : Nat), vs = [.ref c, .int n, .int M] ∧ SqT K H c ((tl s (p + 1)).map V.int) ∧ Cn s p m ∧ Sml s p n ∧
  ∀ H' T xs bss, H T = none → Same H H' → H' T = some (.tup xs) → StVs H' xs bss → (∀ bs, bs ∈ bss ↔ Gst s p M ((n * s p : Nat) : Int) bs) → bss.length ≤ 531441 → Q (.ref T) H'
theorem ok_As {k : Nat} (Z : Fns K mg) : FnOk P w K mg base CX0 (k + 1 + 1 + 1 + 1) Z.fAs Z.fdAs ["chain", "pages", "limit"] (spAs K) := by
  have GCh : FnOk P w K mg base CX0 (k + 1 + 1 + 1) Z.fCh Z.fdCh ["chain", "pages"] (spCh K) := ok_Ch Z
  have GSw : FnOk P w K mg base CX0 (k + 1) Z.fSw Z.fdSw ["chain", "words"] (spSw K) := ok_Sw Z
  have GV : FnOk P w K mg base CX0 (k + 1) Z.fV Z.fdV ["state"] spV := ok_V Z
  refine Z.FAs.ok scAs (fun vs H Q E h => ?_) (fun cdv A outer s H vs Q E hr h => ?_)
  · obtain ⟨c, s, p, n, M, m, rfl, _⟩ := h
    rfl
  · obtain ⟨c, sz, p, n, M, m, rfl, hc, cn, sml, q⟩ := h
    have hu64 := u64_of hr
    refine ⟨_, (pss_cons (ps_expr (pe_call GCh (hr.mono (by omega)) (by rfl) Z.gCh Z.FCh.kp Z.bCh .nil pass0 (pa_cons (pv 0) (pa_cons (pv 1) pa_nil))))
 (pss_cons (ps_set (i := 3) scAs.nd rfl (.inl rfl) (pe_call GSw (hr.mono (by omega)) (by rfl) Z.gSw Z.FSw.kp Z.bSw .nil pass0 (pa_cons (pv 0) (pa_cons (pe_op op_mul (pv 1) (pe_ix ix_tup (pv 0) (pe_un un_neg pe_int) (fun _ _ => rfl))) pa_nil))))
 (pss_one (ps_ret (pe_callTy call_tuple_of (by rfl) Z.N.tuple (by decide +kernel) (pa_cons (pe_callB (cr_sortedS hu64) (by rfl) Z.N.sorted (by decide +kernel) (pa_cons (pe_lc (own := [("state", 4)]) (g := (gName 4)) (by rfl) scAs.nd (pi_list (pv 3)) (blkOk_by (N := scAsN) (sc := defScope scAsS) (by decide +kernel)) (fun _ _ _ _ _ => (pg_name (i := 4) scAs.nd rfl (.inl rfl))) (fun _ _ _ _ _ => (pts_one (pt_cmpR op_le (pe_call GV (hr.mono (by omega)) (by rfl) Z.gV Z.FV.kp Z.bV .nil pass0 (pa_cons (pv 4) pa_nil)) (pv 2) (nomark _)))) (fun _ _ _ _ _ => (pv 4))) pa_nil)) pa_nil)))))), ?_⟩
    have s1 := sml.z
    have n1 := sml.n
    have w1 := sml.w
    have e : ((n : Nat) : Int) * ((sz p : Nat) : Int) = ((n * sz p : Nat) : Int) := (Int.natCast_mul _ _).symm
    refine ⟨.ref c, rfl, .int n, rfl, c, sz, p, n, m, rfl, hc, cn, sml, fun H1 v s1 => ?_⟩
    have hc1 := s1.tup hc
    refine ⟨.ref c, rfl, .int n, rfl, .ref c, rfl, 1, rfl, c, _, -1, _, rfl, rfl, hc1, tl_atL, _, _, rfl, rfl, .inl ⟨by omega, by omega⟩, c, sz, p, n, m, by rw [← e]; rfl, hc1, cn, sml, fun H2 D xs bss nD s2 hD hx hm hl => ?_⟩
    dsimp only [gName]
    refine ⟨.ref D, rfl, D, rfl, ⟨_, .inl (.inl hD)⟩, fun E nE => ?_⟩
    have xl : xs.length = bss.length := Paired.length hx
    have few : ∀ bs ∈ bss, bs.length ≤ 12 := fun bs h => by
      have := st_len ((hm bs).mp h) (by omega)
      omega
    refine lc_RF (walk_list (K := K) (a := D) (xs := xs)) (fun _ _ _ _ y => YAt.same y) (fun j => decide (tot (bss.getD j []) ≤ (M : Int))) (fun H8 j y => StV H8 y (bss.getD j [])) (fun H8 H9 _ y kp h => by obtain ⟨t, e, h⟩ := h; exact ⟨t, e, h.mono kp⟩) nE (by rw [xl]; exact Nat.lt_of_le_of_lt hl (by decide)) (fun H4 s4 => .inl (.inl (s4 _ _ hD))) (fun j y H8 H9 hj s8 yy Z N hZ hN => ?_) (fun H8 ys s8 hE pr => ?_)
    · obtain ⟨rfl, hxj⟩ := yy
      obtain ⟨bs, hbs, t, rfl, ht⟩ := Paired.get hx hxj
      have eg : bss.getD j [] = bs := by rw [List.getD_eq_getElem?_getD, hbs]; rfl
      have ht9 := ht.same s8
      have bl := few bs (List.mem_of_getElem? hbs)
      rw [eg] at hZ hN
      refine ⟨rfl, .ref t, rfl, t, bs, rfl, ht9, by omega, fun H10 s10 => ⟨.int M, rfl, _, _, rfl, rfl, _, rfl, ite2 (fun cc => ⟨.ref t, rfl, hZ _ _ s10 cc ⟨t, rfl, ht9.same s10⟩⟩) (fun cc => hN _ s10 (by simpa using cc))⟩⟩
    · have hys : StVs H8 ys ((((List.range xs.length).filter fun j => decide (tot (bss.getD j []) ≤ (M : Int)))).map fun j => bss.getD j []) := paired_mapL (F := fun y bs => StV H8 y bs) (f := fun j => bss.getD j []) (Paired.mono (fun _ _ h => h) pr)
      have mem : ∀ bs, bs ∈ (((List.range xs.length).filter fun j => decide (tot (bss.getD j []) ≤ (M : Int)))).map (fun j => bss.getD j []) ↔ bs ∈ bss ∧ tot bs ≤ M := fun bs => by
        rw [List.mem_map]
        constructor
        · rintro ⟨j, hj, rfl⟩
          obtain ⟨h1, h2⟩ := List.mem_filter.mp hj
          have lt := List.mem_range.mp h1
          rw [List.getD_eq_getElem?_getD, List.getElem?_eq_getElem (by omega)] at h2 ⊢
          exact ⟨List.getElem_mem _, of_decide_eq_true h2⟩
        · rintro ⟨h1, h2⟩
          obtain ⟨j, hj, e⟩ := List.getElem_of_mem h1
          have eg : bss.getD j [] = bs := by rw [List.getD_eq_getElem?_getD, List.getElem?_eq_getElem hj, e]; rfl
          exact ⟨j, List.mem_filter.mpr ⟨List.mem_range.mpr (by omega), by rw [eg]; exact decide_eq_true h2⟩, eg⟩
      have ylen : ys.length ≤ 531441 := by
        have h1 := Paired.length hys
        have h2 := List.length_filter_le (fun j => decide (tot (bss.getD j []) ≤ (M : Int))) (List.range xs.length)
        rw [List.length_map] at h1
        rw [List.length_range] at h2
        omega
      refine ⟨E, ys, _, rfl, .inl (.inl hE), hys, fun zs css p pm hz np => ⟨p, zs, rfl, .inl ⟨.inl (.inl upd_same), fun T nT => ?_⟩⟩⟩
      have sp := same_upd (o := .lst zs) np
      have sT := same_upd (o := .tup zs) nT
      have s2T := s2.trans (s8.trans (sp.trans sT))
      refine q _ T zs css (none_of_same s1 (none_of_same s2 (none_of_same s8 (none_of_same sp nT)))) (s1.trans s2T) upd_same ((hz.kt (Same.kt sp)).kt (Same.kt sT)) (fun bs => ?_) ?_
      · rw [pm.mem_iff, mem, hm]
        exact ⟨fun h => ⟨h.1, h.2⟩, fun h => ⟨h.1, h.2⟩⟩
      · have := pm.length_eq
        have := Paired.length hys
        omega
end
end Ph

set_option maxHeartbeats 8000000
namespace Ph
open PySem PySem.Spec PyProof.Rows L2
/-! ### the program's tables of a game -/
def reqV : Rqt → List V
  | .fr a => [.str "free", .int a]
  | .gt z => [.str "get", .int z]
def ReqAt (H : Hp) (v : V) (q : Rqt) : Prop := ∃ r, v = .ref r ∧ H r = some (.tup (reqV q))
theorem ReqAt.kt {H H' : Hp} {v : V} {q : Rqt} (h : ReqAt H v q) (k : Kt H H') : ReqAt H' v q := by
  obtain ⟨r, e, hr⟩ := h
  exact ⟨r, e, k.kpT _ _ hr⟩
/-- a state with a request, as a pair -/
def RqV (H : Hp) (y : V) (x : List Bk × Rqt) : Prop := ∃ T u v, y = .ref T ∧ H T = some (.tup [.ref u, v]) ∧ StAt H u x.1 ∧ ReqAt H v x.2
theorem RqV.kt {H H' : Hp} {y : V} {x : List Bk × Rqt} (h : RqV H y x) (k : Kt H H') : RqV H' y x := by
  obtain ⟨T, u, v, e, hT, hu, hv⟩ := h
  exact ⟨T, u, v, e, k.kpT _ _ hT, k.st hu, hv.kt k⟩
/-- how many answers are left, for each state and each size that the limit allows -/
def Esc (w : World) (H : Hp) (e : Addr) (s : Nat → Nat) (p M : Nat) (W : Int) (ps : List (List Bk)) : Prop :=
  ∃ kvs, KD w H e kvs ∧ kvs.length ≤ 8000000 ∧ ∀ bs j, Gst s p M W bs → j ≤ p → totB bs + ((s j : Nat) : Int) ≤ M → valV kvs (ekey bs ((s j : Nat) : Int)) = some (.int ((cnt W ps bs ((s j : Nat) : Int) : Nat) : Int))
theorem Esc.kt {w : World} {H H' : Hp} {e : Addr} {s : Nat → Nat} {p M : Nat} {W : Int} {ps : List (List Bk)} (h : Esc w H e s p M W ps) (k : Kt H H') (x : ∀ u, H e = some u → H' e = some u) : Esc w H' e s p M W ps := by
  obtain ⟨kvs, kd, l, v⟩ := h
  exact ⟨kvs, kd.kt k x, l, v⟩
theorem Esc.ext {w : World} {H : Hp} {e : Addr} {s : Nat → Nat} {p M : Nat} {W : Int} {ps : List (List Bk)} (h : Esc w H e s p M W ps) : ∃ φ, H e = some (.ext φ) := by
  obtain ⟨kvs, kd, _⟩ := h
  exact kd.ext
theorem alw_mem {s : Nat → Nat} {p M : Nat} {bs : List Bk} {z : Int} : z ∈ alw s p M bs ↔ ∃ j, j ≤ p ∧ z = ((s j : Nat) : Int) ∧ totB bs + ((s j : Nat) : Int) ≤ M := by
  unfold alw
  rw [List.mem_filter, tl_mem]
  constructor
  · rintro ⟨⟨j, hj, rfl⟩, h⟩
    have h := of_decide_eq_true h
    have e : tot bs = totB bs := rfl
    exact ⟨j, by omega, rfl, by omega⟩
  · rintro ⟨j, hj, rfl, h⟩
    have e : tot bs = totB bs := rfl
    exact ⟨⟨j, by omega, rfl⟩, decide_eq_true (by omega)⟩
section
variable {P : Program} {w : World} {K : PySem.W.Frag} {mg : Str → Option Value} {base : Heap}
def spRq (w : World) : Sp := fun vs H Q _ => ∃ (c t e : Addr) (s : Nat → Nat) (p n M m : Nat) (ps : List (List Bk)) (cs : List Bk), vs = [.ref c, .int M, .int n, .ref t, .ref e] ∧ ChAt H c (tl s (p + 1)) ∧ Cn s p m ∧ Sml s p n ∧ StAt H t cs ∧ Gst s p M ((n * s p : Nat) : Int) cs ∧ cs ∉ ps ∧ Esc w H e s p M ((n * s p : Nat) : Int) ps ∧
  ∀ H' D ys L, H D = none → But e H H' → Esc w H' e s p M ((n * s p : Nat) : Int) (ps ++ [cs]) → H' D = some (.lst ys) → Paired (RqV H') ys L → (∀ x ∈ L, Gst s p M ((n * s p : Nat) : Int) x.1 ∧ Into s p M ((n * s p : Nat) : Int) (ps ++ [cs]) cs x.1 x.2) →
    (∀ bs q, Gst s p M ((n * s p : Nat) : Int) bs → Into s p M ((n * s p : Nat) : Int) (ps ++ [cs]) cs bs q → ∃ q', (bs, q') ∈ L) → ys.length ≤ 300 → Q (.ref D) H'
theorem ok_Rq {k : Nat} (Z : Fns K mg) : FnOk P w K mg base CX0 (k + 1 + 1 + 1 + 1 + 1 + 1) Z.fRq Z.fdRq ["chain", "limit", "pages", "state", "escapes"] (spRq w) := by
  have GAl : FnOk P w K mg base CX0 (k + 1 + 1) Z.fAl Z.fdAl ["chain", "limit", "state"] (spAl K) := ok_Al Z
  have GPl : FnOk P w K mg base CX0 (k + 1 + 1 + 1 + 1 + 1) Z.fPl Z.fdPl ["chain", "pages", "state", "size"] spPl := ok_Pl Z
  have GWb : FnOk P w K mg base CX0 (k + 1) Z.fWb Z.fdWb ["state", "address", "size"] spWb := ok_Wb Z
  have GOb : FnOk P w K mg base CX0 (k + 1 + 1 + 1) Z.fOb Z.fdOb ["state", "address"] (spOb K) := ok_Ob Z
  refine Z.FRq.ok scRq (fun vs H Q E h => ?_) (fun cdv A outer s H vs Q E hr h => ?_)
  · obtain ⟨c, t, e, s, p, n, M, m, ps, cs, rfl, _⟩ := h
    rfl
  · obtain ⟨c, t, e, sz, p, n, M, m, ps, cs, rfl, hc, cn, sml, ht, g, nps, esc, fin⟩ := h
    have hu64 := u64_of hr
    refine ⟨_, (pss_cons (ps_set (i := 5) scRq.nd rfl (.inl rfl) (pe_lst pa_nil))
 (pss_cons (ps_for PassesOwn.never rfl (pi_list (pe_call GAl (hr.mono (by omega)) (by rfl) Z.gAl Z.FAl.kp Z.bAl .nil pass0 (pa_cons (pv 0) (pa_cons (pv 1) (pa_cons (pv 3) pa_nil))))) (pg_name (i := 6) scRq.nd rfl (.inl rfl))
 (pss_one (ps_for PassesOwn.never rfl (pi_tup (pe_call GPl (hr.mono (by omega)) (by rfl) Z.gPl Z.FPl.kp Z.bPl .nil pass0 (pa_cons (pv 0) (pa_cons (pv 2) (pa_cons (pv 3) (pa_cons (pv 6) pa_nil)))))) (pg_name (i := 7) scRq.nd rfl (.inl rfl))
 (pss_one (ps_expr (pe_bm PySem.F.plainAttrs_list PySem.F.slot_list_append PySem.F.type_list_append mt_append (pv 5) (pa_cons (pe_tup (pa_cons (pe_call GWb (hr.mono (by omega)) (by rfl) Z.gWb Z.FWb.kp Z.bWb .nil pass0 (pa_cons (pv 3) (pa_cons (pv 7) (pa_cons (pv 6) pa_nil)))) (pa_cons (pe_tup (pa_cons pe_str (pa_cons (pv 7) pa_nil))) pa_nil))) pa_nil)))))))
 (pss_cons (ps_for PassesOwn.never rfl (pi_tup (pv 3)) (pg_tup (by rfl) (pgs_cons (pg_name (i := 8) scRq.nd rfl (.inl rfl)) (pgs_cons (pg_name (i := 6) scRq.nd rfl (.inl rfl)) pgs_nil)))
 (pss_cons (ps_set (i := 9) scRq.nd rfl (.inl rfl) (pe_call GOb (hr.mono (by omega)) (by rfl) Z.gOb Z.FOb.kp Z.bOb .nil pass0 (pa_cons (pv 3) (pa_cons (pv 8) pa_nil))))
 (pss_cons (ps_kaug hu64 (pv 4) (pe_tup (pa_cons (pv 9) (pa_cons (pv 6) pa_nil))) pe_int ip_sub (by intros; rfl))
 (pss_one (ps_if (pt_cmpR op_eq (pe_kget hu64 (pv 4) (pe_tup (pa_cons (pv 9) (pa_cons (pv 6) pa_nil))) (fun _ _ => rfl)) pe_int (nomark _))
 (pss_one (ps_expr (pe_bm PySem.F.plainAttrs_list PySem.F.slot_list_append PySem.F.type_list_append mt_append (pv 5) (pa_cons (pe_tup (pa_cons (pv 9) (pa_cons (pe_tup (pa_cons pe_str (pa_cons (pv 6) pa_nil))) pa_nil))) pa_nil)))) pss_nil)))))
 (pss_one (ps_ret (pv 5)))))), ?_⟩
    obtain ⟨W, hW⟩ : ∃ W : Nat, n * sz p = W := ⟨_, rfl⟩
    rw [hW] at g esc fin
    have s1 := sml.z
    have n1 := sml.n
    have p1 := sml.q
    have w1 : W ≤ 12 := by have := sml.w; omega
    have eW : ((n : Nat) : Int) * ((sz p : Nat) : Int) = (W : Int) := by rw [← hW, Int.natCast_mul]
    have szp : ∀ j, j ≤ p → 0 < sz j ∧ sz j ≤ 12 := fun j hj => ⟨cn.ch.pos (by omega), Nat.le_trans (cn.ch.mono (i := j) (j := p) hj (by omega)) sml.z⟩
    have few := st_len g.st (by omega)
    have hc' : ChAt H c (tl sz p ++ [((sz p : Nat) : Int)]) := by rw [← tl_succ]; exact hc
    refine ⟨(by show 0 ≤ sizeLine; decide), fun D nD => ?_⟩
    have sD := same_upd (o := .lst []) nD
    have hD0 : upd H D (.lst []) D = some (.lst []) := upd_same
    have esc1 := esc.kt (Same.kt sD) fun u e => sD _ _ e
    have nDe : e ≠ D := by
      obtain ⟨φ, h⟩ := esc.ext
      exact ne_of_none h nD
    generalize upd H D (.lst []) = H1 at *
    dsimp only [gName]
    have hc1 := hc'.keep sD
    have ht1 := ht.same sD
    refine seq_splitR (fun σ' H' => ∃ y6 y7 y8 y9 ys L, σ' = [some (.ref c), some (.int M), some (.int n), some (.ref t), some (.ref e), some (.ref D), y6, y7, y8, y9] ∧ But D H1 H' ∧ H' D = some (.lst ys) ∧ Paired (RqV H') ys L ∧ (∀ x ∈ L, ∃ j a, j ≤ p ∧ totB cs + ((sz j : Nat) : Int) ≤ M ∧ Plc W cs ((sz j : Nat) : Int) a ∧ x = (wb cs a ((sz j : Nat) : Int), Rqt.fr a)) ∧
      (∀ j a, j ≤ p → totB cs + ((sz j : Nat) : Int) ≤ M → Plc W cs ((sz j : Nat) : Int) a → (wb cs a ((sz j : Nat) : Int), Rqt.fr a) ∈ L) ∧ ys.length ≤ 72) (fun D' rt' hD' => ?_) ?_
    · refine ⟨.ref c, rfl, .int M, rfl, .ref t, rfl, c, t, sz, p, M, cs, rfl, by rw [tl_succ]; exact hc1.sq, by omega, ht1, by omega, fun H2 A nA s2 hA => ?_⟩
      have hD2 := s2 _ _ hD0
      have nAD : A ≠ D := (ne_of_none hD0 nA).symm
      have al : (alw sz p M cs).length ≤ 6 := by
        have := List.length_filter_le (fun z => decide (z ≤ (M : Int) - tot cs)) (tl sz (p + 1))
        unfold alw
        rw [tl_len] at this
        omega
      refine ⟨A, rfl, ⟨_, .inl (.inl hA)⟩, ?_⟩
      refine for_it (walk_list (K := K) (a := A) (xs := (alw sz p M cs).map V.int)) (fun i σ H' => ∃ y6 y7 y8 y9 ys L, σ = [some (.ref c), some (.int M), some (.int n), some (.ref t), some (.ref e), some (.ref D), y6, y7, y8, y9] ∧ But D H2 H' ∧ H' D = some (.lst ys) ∧ Paired (RqV H') ys L ∧ (∀ x ∈ L, ∃ j a, j ≤ p ∧ totB cs + ((sz j : Nat) : Int) ≤ M ∧ Plc W cs ((sz j : Nat) : Int) a ∧ x = (wb cs a ((sz j : Nat) : Int), Rqt.fr a)) ∧
        (∀ i' z a, i' < i → (alw sz p M cs)[i']? = some z → Plc W cs z a → (wb cs a z, Rqt.fr a) ∈ L) ∧ ys.length ≤ 12 * i)
        ⟨_, _, _, _, [], [], rfl, But.refl _ _, hD2, .nil, (fun x h => nomatch h), fun i' z a h => absurd h (by omega), Nat.zero_le _⟩ (fun i σ H' _ q => ?_) ?_ ?_
      · obtain ⟨_, _, _, _, _, _, _, b, _⟩ := q
        exact .inl (.inl (b _ _ nAD hA))
      · rintro i x σ H3a H3 hi ⟨y6, y7, y8, y9, ys, L, rfl, b3, hD3, pr3, so3, co3, ln3⟩ ⟨rfl, hx⟩
        rw [List.length_map] at hi
        obtain ⟨z, hz, rfl⟩ : ∃ z, (alw sz p M cs)[i]? = some z ∧ x = V.int z := by
          rw [List.getElem?_map] at hx
          obtain ⟨z, h1, h2⟩ := Option.map_eq_some_iff.mp hx
          exact ⟨z, h1, h2.symm⟩
        obtain ⟨j, hj, rfl, lim⟩ := alw_mem.mp (List.mem_of_getElem? hz)
        obtain ⟨z0, z1⟩ := szp j hj
        dsimp only [gName]
        have kt3 : Kt H1 H3 := (Same.kt s2).trans fun a o e _ n => b3 _ _ (fun z => by rw [z, hD2] at e; exact n _ (Option.some.inj e).symm) e
        have hc3 := kt3.ch hc1
        have ht3 := kt3.st ht1
        refine ⟨.ref c, rfl, .int n, rfl, .ref t, rfl, .int _, rfl, c, t, tl sz p, ((sz p : Nat) : Int), (n : Int), ((sz j : Nat) : Int), cs, rfl, hc3, by rw [← tl_succ]; exact tl_mem.mpr ⟨j, by omega, rfl⟩, by omega, by omega, by omega, by omega, by omega, by omega, ht3, by rw [← tl_succ, eW]; exact g.st, by omega, fun H4 T s4 hT => ?_⟩
        rw [eW] at hT
        have hT : H4 T = some (.tup ((plcs W cs ((sz j : Nat) : Int)).map V.int)) := hT
        have hD4 := s4 _ _ hD3
        have pl := plcs_len (z := ((sz j : Nat) : Int)) (by omega) (by omega) g.st
        have ht4 := ht3.same s4
        refine ⟨T, rfl, ⟨_, .inl (.inl hT)⟩, ?_⟩
        refine for_it (walk_tup (K := K) (a := T) (xs := (plcs W cs ((sz j : Nat) : Int)).map V.int)) (fun k σ H' => ∃ y7 y8 y9 ys L, σ = [some (.ref c), some (.int M), some (.int n), some (.ref t), some (.ref e), some (.ref D), some (.int ((sz j : Nat) : Int)), y7, y8, y9] ∧ But D H4 H' ∧ H' D = some (.lst ys) ∧ Paired (RqV H') ys L ∧ (∀ x ∈ L, ∃ j a, j ≤ p ∧ totB cs + ((sz j : Nat) : Int) ≤ M ∧ Plc W cs ((sz j : Nat) : Int) a ∧ x = (wb cs a ((sz j : Nat) : Int), Rqt.fr a)) ∧
          (∀ i' z a, i' < i → (alw sz p M cs)[i']? = some z → Plc W cs z a → (wb cs a z, Rqt.fr a) ∈ L) ∧ (∀ k' a, k' < k → (plcs W cs ((sz j : Nat) : Int))[k']? = some a → (wb cs a ((sz j : Nat) : Int), Rqt.fr a) ∈ L) ∧ ys.length ≤ 12 * i + k)
          ⟨_, _, _, ys, L, rfl, But.refl _ _, hD4, Paired.mono (fun _ _ h => h.kt (Same.kt s4)) pr3, so3, co3, fun k' a h => absurd h (by omega), ln3⟩ (fun k σ H' _ q => ?_) ?_ ?_
        · obtain ⟨_, _, _, _, _, _, b, _⟩ := q
          have nTD : T ≠ D := fun z => by rw [z, hD4] at hT; cases hT
          exact .inl (.inl (b _ _ nTD hT))
        · rintro k x σ H5a H5 hk ⟨y7, y8, y9, ys, L, rfl, b5, hD5, pr5, so5, co5, cp5, ln5⟩ ⟨rfl, hx⟩
          rw [List.length_map] at hk
          obtain ⟨a, ha, rfl⟩ : ∃ a, (plcs W cs ((sz j : Nat) : Int))[k]? = some a ∧ x = V.int a := by
            rw [List.getElem?_map] at hx
            obtain ⟨z, h1, h2⟩ := Option.map_eq_some_iff.mp hx
            exact ⟨z, h1, h2.symm⟩
          have pa := (mem_plcs (by omega) (by omega) g.st).mp (List.mem_of_getElem? ha)
          have kt5 : Kt H4 H5 := fun a o e _ n => b5 _ _ (fun z => by rw [z, hD4] at e; exact n _ (Option.some.inj e).symm) e
          have ht5 := kt5.st ht4
          dsimp only [gName]
          refine ⟨.ref D, rfl, .inl ⟨rfl, _, .inl (.inl hD5)⟩, .ref t, rfl, .int a, rfl, .int _, rfl, t, cs, a, _, rfl, ht5, by omega, fun H6 u bs s6 hu pm srt => ?_⟩
          have eb := wb_of g.st pm srt
          subst eb
          refine ⟨.int a, rfl, (by show 2 ≤ sizeLine; decide), fun R nR => ⟨(by show 2 ≤ sizeLine; decide), fun U nU => ?_⟩⟩
          have sR := same_upd (o := .tup [.str "free", .int a]) nR
          have sU := same_upd (o := .tup [.ref u, .ref R]) nU
          have s68 := s6.trans (sR.trans sU)
          have hD8 := s68 _ _ hD5
          have new : RqV (upd (upd H6 R (.tup [.str "free", .int a])) U (.tup [.ref u, .ref R])) (.ref U) (wb cs a ((sz j : Nat) : Int), Rqt.fr a) := ⟨U, u, .ref R, rfl, upd_same, hu.same (sR.trans sU), R, rfl, sU _ _ upd_same⟩
          have pr8 := Paired.mono (fun _ _ h => RqV.kt h (Same.kt s68)) pr5
          generalize upd (upd H6 R (.tup [.str "free", .int a])) U (.tup [.ref u, .ref R]) = H8 at *
          have kt := kt_upd (ys := ys ++ [.ref U]) hD8
          refine ⟨D, ys, _, rfl, rfl, hD8, Nat.lt_of_le_of_lt (show ys.length ≤ 100 by omega) (by decide), ?_⟩
          refine ⟨_, _, _, ys ++ [.ref U], L ++ [(wb cs a ((sz j : Nat) : Int), Rqt.fr a)], rfl, fun b o nb e => by rw [upd_ne nb]; exact s68 _ _ (b5 _ _ nb e), upd_same, Paired.mono (fun _ _ h => RqV.kt h kt) (Paired.snoc pr8 new), fun x h => ?_, fun i' z a' h1 h2 h3 => List.mem_append_left _ (co5 i' z a' h1 h2 h3), fun k' a' h1 h2 => ?_, by rw [List.length_append]; show ys.length + 1 ≤ _; omega⟩
          · rcases List.mem_append.mp h with h | h
            · exact so5 x h
            · exact ⟨j, a, hj, lim, pa, List.mem_singleton.mp h⟩
          · rcases Nat.lt_or_ge k' k with q | q
            · exact List.mem_append_left _ (cp5 k' a' q h2)
            · obtain rfl : k' = k := by omega
              rw [ha] at h2
              cases h2
              exact List.mem_append_right _ (List.mem_singleton.mpr rfl)
        · rintro σ H5 ⟨y7, y8, y9, ys, L, rfl, b5, hD5, pr5, so5, co5, cp5, ln5⟩
          rw [List.length_map] at cp5 ln5
          refine ⟨_, _, _, _, ys, L, rfl, fun b o nb e => b5 _ _ nb (s4 _ _ (b3 _ _ nb e)), hD5, pr5, so5, fun i' z a h1 h2 h3 => ?_, by omega⟩
          rcases Nat.lt_or_ge i' i with q | q
          · exact co5 i' z a q h2 h3
          · obtain rfl : i' = i := by omega
            rw [hz] at h2
            cases h2
            obtain ⟨k', hk', e⟩ := List.getElem_of_mem ((mem_plcs (by omega) (by omega) g.st).mpr h3)
            exact cp5 k' a hk' (by rw [List.getElem?_eq_getElem hk', e])
      · rintro σ H3 ⟨y6, y7, y8, y9, ys, L, rfl, b3, hD3, pr3, so3, co3, ln3⟩
        rw [List.length_map] at co3 ln3
        refine hD' _ _ ⟨_, _, _, _, ys, L, rfl, fun b o nb e => b3 _ _ nb (s2 _ _ e), hD3, pr3, so3, fun j a hj l pa => ?_, by omega⟩
        obtain ⟨i', hi', e⟩ := List.getElem_of_mem (alw_mem.mpr ⟨j, hj, rfl, l⟩)
        exact co3 i' _ a hi' (by rw [List.getElem?_eq_getElem hi', e]) pa
    · rintro σ' H2 ⟨y6, y7, y8, y9, ys, L, rfl, b2, hD2, pr2, so2, co2, ln2⟩
      have kt2 : Kt H1 H2 := fun a o e _ n => b2 _ _ (fun z => by rw [z, hD0] at e; exact n _ (Option.some.inj e).symm) e
      have ht2 := kt2.st ht1
      have esc2 := esc1.kt kt2 fun u e => b2 _ _ nDe e
      obtain ⟨kvs0, kd0, kl0, kv0⟩ := esc2
      obtain ⟨xs, hx, bls⟩ := id ht2
      have asc := g.st.ascL
      -- which counts have been made smaller
      obtain ⟨hit, hhit⟩ : ∃ hit : Nat → List Bk → Int → Bool, hit = fun k bs z => (cs.take k).any fun b => decide ((ct cs b.1, b.2) = (bs, z)) := ⟨_, rfl⟩
      refine ⟨.ref t, rfl, t, rfl, ⟨_, .inl (.inl hx)⟩, ?_⟩
      refine for_it (walk_tup (K := K) (a := t) (xs := xs)) (fun k σ H' => ∃ y6 y7 y8 y9 ys L kvs, σ = [some (.ref c), some (.int M), some (.int n), some (.ref t), some (.ref e), some (.ref D), y6, y7, y8, y9] ∧ KG e D H2 H' ∧ H' D = some (.lst ys) ∧ KD w H' e kvs ∧ kvs.length ≤ 8000000 ∧
        (∀ bs j, Gst sz p M W bs → j ≤ p → totB bs + ((sz j : Nat) : Int) ≤ M → valV kvs (ekey bs ((sz j : Nat) : Int)) = some (.int (((if hit k bs ((sz j : Nat) : Int) then cnt W (ps ++ [cs]) bs ((sz j : Nat) : Int) else cnt W ps bs ((sz j : Nat) : Int)) : Nat) : Int))) ∧
        Paired (RqV H') ys L ∧ (∀ x ∈ L, Gst sz p M W x.1 ∧ Into sz p M W (ps ++ [cs]) cs x.1 x.2) ∧
        (∀ j a, j ≤ p → totB cs + ((sz j : Nat) : Int) ≤ M → Plc W cs ((sz j : Nat) : Int) a → (wb cs a ((sz j : Nat) : Int), Rqt.fr a) ∈ L) ∧ (∀ k' b, k' < k → cs[k']? = some b → cnt W (ps ++ [cs]) (ct cs b.1) b.2 = 0 → (ct cs b.1, Rqt.gt b.2) ∈ L) ∧ ys.length ≤ 72 + k)
        ⟨_, _, _, _, ys, L, kvs0, rfl, KG.refl _, hD2, kd0, kl0, fun bs j gb hj l => ?_, pr2, fun x h => ?_, co2, fun k' b h => absurd h (by omega), ln2⟩ (fun i σ H' _ q => ?_) ?_ ?_
      · rw [kv0 bs j gb hj l, hhit]
        rfl
      · obtain ⟨j, a, hj, l, pa, rfl⟩ := so2 x h
        obtain ⟨z0, _⟩ := szp j hj
        exact ⟨g.put cn.ch hj l pa, (a, ((sz j : Nat) : Int)), mem_wb.mpr (.inr rfl), rfl, ct_wb g.st (by omega) pa⟩
      · obtain ⟨_, _, _, _, _, _, _, _, k, _⟩ := q
        exact .inl (.inl (k.kpT _ _ hx))
      · rintro k x σ H3a H3 hk ⟨y6, y7, y8, y9, ys, L, kvs, rfl, k3, hD3, kd3, kl3, kv3, pr3, so3, co3, cg3, ln3⟩ ⟨rfl, hxk⟩
        obtain ⟨b, hb, u0, rfl, hu0⟩ := BL.get bls hxk
        have hu3 := k3.kpT _ _ hu0
        have kk : k < 13 := by have := bls.len; omega
        have hbm := List.mem_of_getElem? hb
        have ht3 := k3.st ht2
        obtain ⟨jb, hjb, ejb⟩ := tl_mem.mp (g.st.ok b hbm).1
        obtain ⟨z0, z1⟩ := szp jb (by omega)
        have gc : Gst sz p M W (ct cs b.1) := g.cut
        have lim : totB (ct cs b.1) + ((sz jb : Nat) : Int) ≤ M := by
          have := totB_ct g.st hbm
          have := g.lim
          omega
        have noh : hit k (ct cs b.1) ((sz jb : Nat) : Int) = false := by
          rw [hhit]
          refine List.any_eq_false.mpr fun b' hb' q => ?_
          have q := of_decide_eq_true q
          obtain ⟨i', hi', e'⟩ := List.getElem_of_mem hb'
          rw [List.length_take] at hi'
          have hb'm := List.mem_of_mem_take hb'
          have e1 : ct cs b'.1 = ct cs b.1 := (Prod.mk.inj q).1
          have : b'.1 = b.1 := Classical.byContradiction fun ne => by
            have : b' ∈ ct cs b.1 := List.mem_filter.mpr ⟨hb'm, decide_eq_true ne⟩
            rw [← e1] at this
            exact absurd rfl (of_decide_eq_true (List.mem_filter.mp this).2)
          have eb := asc.addr hb'm hbm this
          subst eb
          have h1 : (cs.take k)[i']'(by rw [List.length_take]; omega) = cs[i']'(by omega) := List.getElem_take ..
          rw [h1] at e'
          obtain ⟨h2, h3⟩ := List.getElem?_eq_some_iff.mp hb
          have := List.pairwise_iff_getElem.mp asc i' k (by omega) h2 (by omega)
          rw [e', h3] at this
          exact absurd this (by have : ¬ b'.1 < b'.1 := by omega
                                exact this)
        have v3 := kv3 _ jb gc (by omega) lim
        rw [noh] at v3
        have hitc := cnt_hit (ps := ps) (cs := cs) (b := b) (W := W) (by omega) g.st hbm nps
        rw [ejb] at hitc
        refine ⟨u0, _, rfl, .inl (.inl hu3), rfl, _, _, rfl, _, _, rfl, rfl, ?_⟩
        dsimp only [gName]
        rw [ejb]
        refine ⟨.ref t, rfl, .int b.1, rfl, t, cs, b.1, rfl, ht3, by omega, ⟨b, hbm, rfl⟩, fun H4 u s4 hu => ?_⟩
        have hu : StAt H4 u (ct cs b.1) := hu
        dsimp only [gName]
        have kd4 := kd3.same s4
        refine ⟨.ref e, rfl, .ref u, rfl, .int _, rfl, (by show 2 ≤ sizeLine; decide), fun T nT => ?_⟩
        have sT := same_upd (o := .tup [.ref u, .int ((sz jb : Nat) : Int)]) nT
        have hT : upd H4 T (.tup [.ref u, .int ((sz jb : Nat) : Int)]) T = some (.tup [.ref u, .int ((sz jb : Nat) : Int)]) := upd_same
        have kd5 := kd4.same sT
        have hu5 := hu.same sT
        have s35 := s4.trans sT
        generalize upd H4 T (.tup [.ref u, .int ((sz jb : Nat) : Int)]) = H5 at *
        have nk := ekey_nk hT hu5
        refine ⟨e, T, kvs, ekey (ct cs b.1) ((sz jb : Nat) : Int), _, rfl, rfl, kd5, nk, ekey_depth _ _, v3, _, _, rfl, rfl, kd5, nk, Nat.lt_of_le_of_lt kl3 (by decide), fun H6 b6 kd6 => ?_⟩
        have ev : (((if false = true then cnt W (ps ++ [cs]) (ct cs b.1) ((sz jb : Nat) : Int) else cnt W ps (ct cs b.1) ((sz jb : Nat) : Int)) : Nat) : Int) - 1 = ((cnt W (ps ++ [cs]) (ct cs b.1) ((sz jb : Nat) : Int) : Nat) : Int) := by
          rw [if_neg (by decide)]
          omega
        have kd6 : KD w H6 e (putK kvs (ekey (ct cs b.1) ((sz jb : Nat) : Int)) (.int ((((if false = true then cnt W (ps ++ [cs]) (ct cs b.1) ((sz jb : Nat) : Int) else cnt W ps (ct cs b.1) ((sz jb : Nat) : Int)) : Nat) : Int) - 1))) := kd6
        rw [ev] at kd6
        have hD6 : H6 D = some (.lst ys) := b6 _ _ nDe.symm (s35 _ _ hD3)
        have k36 : KG e D H3 H6 := (KG.same s35).trans (KG.putD b6 kd5)
        have hu6 := (KG.putD (L := D) b6 kd5).st hu5
        have kl6 : (putK kvs (ekey (ct cs b.1) ((sz jb : Nat) : Int)) (.int ((cnt W (ps ++ [cs]) (ct cs b.1) ((sz jb : Nat) : Int) : Nat) : Int))).length ≤ 8000000 := by
          rw [putK_old_len (by rw [v3]; rfl)]
          exact kl3
        have kv6 : ∀ bs j, Gst sz p M W bs → j ≤ p → totB bs + ((sz j : Nat) : Int) ≤ M → valV (putK kvs (ekey (ct cs b.1) ((sz jb : Nat) : Int)) (.int ((cnt W (ps ++ [cs]) (ct cs b.1) ((sz jb : Nat) : Int) : Nat) : Int))) (ekey bs ((sz j : Nat) : Int)) = some (.int (((if hit (k + 1) bs ((sz j : Nat) : Int) then cnt W (ps ++ [cs]) bs ((sz j : Nat) : Int) else cnt W ps bs ((sz j : Nat) : Int)) : Nat) : Int)) := fun bs j gb hj l => by
          have et : cs.take (k + 1) = cs.take k ++ [b] := by rw [List.take_add_one, hb]; rfl
          have eh : hit (k + 1) bs ((sz j : Nat) : Int) = (hit k bs ((sz j : Nat) : Int) || decide ((ct cs b.1, b.2) = (bs, ((sz j : Nat) : Int)))) := by
            rw [hhit]
            dsimp only
            rw [et, List.any_append]
            simp
          rw [valV_put, eh]
          by_cases q : ekey bs ((sz j : Nat) : Int) = ekey (ct cs b.1) ((sz jb : Nat) : Int)
          · obtain ⟨q1, q2⟩ := ekey_inj q
            subst q1
            rw [if_pos q, q2, ejb]
            simp
          · have q3 : ¬ (ct cs b.1, b.2) = (bs, ((sz j : Nat) : Int)) := fun z => q (by
              obtain ⟨z1, z2⟩ := Prod.mk.inj z
              rw [← z1, ← z2, ejb])
            rw [if_neg q, decide_eq_false q3, Bool.or_false]
            exact kv3 bs j gb hj l
        -- the test
        refine ⟨.ref e, rfl, .ref u, rfl, .int _, rfl, (by show 2 ≤ sizeLine; decide), fun T2 nT2 => ?_⟩
        have sT2 := same_upd (o := .tup [.ref u, .int ((sz jb : Nat) : Int)]) nT2
        have hT2 : upd H6 T2 (.tup [.ref u, .int ((sz jb : Nat) : Int)]) T2 = some (.tup [.ref u, .int ((sz jb : Nat) : Int)]) := upd_same
        have kd7 := kd6.same sT2
        have hu7 := hu6.same sT2
        have k37 := k36.trans (KG.same sT2)
        have hD7 := sT2 _ _ hD6
        generalize upd H6 T2 (.tup [.ref u, .int ((sz jb : Nat) : Int)]) = H7 at *
        refine ⟨e, T2, _, ekey (ct cs b.1) ((sz jb : Nat) : Int), .int ((cnt W (ps ++ [cs]) (ct cs b.1) ((sz jb : Nat) : Int) : Nat) : Int), rfl, rfl, kd7, ekey_nk hT2 hu7, ekey_depth _ _, by rw [valV_put, if_pos rfl], rfl, _, rfl, ite2 (fun cc => ?_) (fun cc => ?_)⟩
        · have c0 : cnt W (ps ++ [cs]) (ct cs b.1) ((sz jb : Nat) : Int) = 0 := by
            have := V.int.inj (of_decide_eq_true cc)
            omega
          refine ⟨.ref D, rfl, .inl ⟨rfl, _, .inl (.inl hD7)⟩, .ref u, rfl, .int _, rfl, (by show 2 ≤ sizeLine; decide), fun R nR => ⟨(by show 2 ≤ sizeLine; decide), fun U nU => ?_⟩⟩
          have sR := same_upd (o := .tup [.str "get", .int ((sz jb : Nat) : Int)]) nR
          have sU := same_upd (o := .tup [.ref u, .ref R]) nU
          have s79 := sR.trans sU
          have hD9 := s79 _ _ hD7
          have new : RqV (upd (upd H7 R (.tup [.str "get", .int ((sz jb : Nat) : Int)])) U (.tup [.ref u, .ref R])) (.ref U) (ct cs b.1, Rqt.gt ((sz jb : Nat) : Int)) := ⟨U, u, .ref R, rfl, upd_same, hu7.same s79, R, rfl, sU _ _ upd_same⟩
          have kd9 := kd7.same s79
          have k39 := k37.trans (KG.same s79)
          generalize upd (upd H7 R (.tup [.str "get", .int ((sz jb : Nat) : Int)])) U (.tup [.ref u, .ref R]) = H9 at *
          have kl := KG.list (N := e) (ys := ys ++ [.ref U]) hD9
          refine ⟨D, ys, _, rfl, rfl, hD9, Nat.lt_of_le_of_lt (show ys.length ≤ 100 by omega) (by decide), ?_⟩
          refine ⟨_, _, _, _, ys ++ [.ref U], L ++ [(ct cs b.1, Rqt.gt ((sz jb : Nat) : Int))], _, rfl, (k3.trans k39).trans kl, upd_same, kd9.kt kl.kt (fun o h => by rw [upd_ne nDe]; exact h), kl6, kv6, Paired.mono (fun _ _ h => RqV.kt h kl.kt) (Paired.snoc (Paired.mono (fun _ _ h => RqV.kt h k39.kt) pr3) new), fun x h => ?_, fun j a h1 h2 h3 => List.mem_append_left _ (co3 j a h1 h2 h3), fun k' b' h1 h2 h3 => ?_, by rw [List.length_append]; show ys.length + 1 ≤ _; omega⟩
          · rcases List.mem_append.mp h with h | h
            · exact so3 x h
            · rw [List.mem_singleton.mp h]
              refine ⟨gc, jb, by omega, rfl, lim, (cnt_zero (by omega) (by omega) gc.st).mp c0, b.1, ?_, ?_⟩
              · rw [← ejb]; exact ct_plc g.st hbm
              · rw [← ejb]; exact wb_ct g.st hbm
          · rcases Nat.lt_or_ge k' k with q | q
            · exact List.mem_append_left _ (cg3 k' b' q h2 h3)
            · obtain rfl : k' = k := by omega
              rw [hb] at h2
              cases h2
              rw [ejb]
              exact List.mem_append_right _ (List.mem_singleton.mpr rfl)
        · refine ⟨_, _, _, _, ys, L, _, rfl, k3.trans k37, hD7, kd7, kl6, kv6, Paired.mono (fun _ _ h => RqV.kt h k37.kt) pr3, so3, co3, fun k' b' h1 h2 h3 => ?_, by omega⟩
          rcases Nat.lt_or_ge k' k with q | q
          · exact cg3 k' b' q h2 h3
          · obtain rfl : k' = k := by omega
            rw [hb] at h2
            cases h2
            rw [ejb] at h3
            exact absurd (decide_eq_true (by rw [h3]; rfl)) cc
      · rintro σ H3 ⟨y6, y7, y8, y9, ys, L, kvs, rfl, k3, hD3, kd3, kl3, kv3, pr3, so3, co3, cg3, ln3⟩
        have xl : xs.length = cs.length := bls.len
        rw [xl] at kv3 cg3 ln3
        refine ⟨.ref D, rfl, fin H3 D ys L nD (fun a o ne h => k3.fr _ _ ne (ne_of_none h nD) (b2 _ _ (ne_of_none h nD) (sD _ _ h))) ⟨kvs, kd3, kl3, fun bs j gb hj l => ?_⟩ hD3 pr3 so3 (fun bs q gb h => ?_) (by omega)⟩
        · rw [kv3 bs j gb hj l]
          obtain ⟨z0, _⟩ := szp j hj
          by_cases q : hit cs.length bs ((sz j : Nat) : Int) = true
          · rw [if_pos q]
          · rw [if_neg q, cnt_miss (cs := cs) (by omega) (by omega) gb.st g.st fun b hb z => q (by
              rw [hhit]
              dsimp only
              rw [List.take_length]
              exact List.any_eq_true.mpr ⟨b, hb, decide_eq_true z⟩)]
        · cases q with
          | fr a =>
            obtain ⟨b, hb, rfl, e⟩ := h
            obtain ⟨j, hj, ej⟩ := tl_mem.mp (gb.st.ok b hb).1
            have pl := ct_plc gb.st hb
            have back := wb_ct gb.st hb
            have tt := totB_ct gb.st hb
            rw [e] at pl back tt
            rw [ej] at pl back tt
            exact ⟨_, by rw [← back]; exact co3 j b.1 (by omega) (by have := gb.lim; omega) pl⟩
          | gt z =>
            obtain ⟨j, hj, rfl, l, h1, a, pa, ea⟩ := h
            obtain ⟨z0, _⟩ := szp j hj
            have mem : (a, ((sz j : Nat) : Int)) ∈ cs := by rw [← ea]; exact mem_wb.mpr (.inr rfl)
            have cte : ct cs a = bs := by rw [← ea]; exact ct_wb gb.st (by omega) pa
            obtain ⟨k', hk', e⟩ := List.getElem_of_mem mem
            have := cg3 k' _ hk' (by rw [List.getElem?_eq_getElem hk', e]) (by
              show cnt W (ps ++ [cs]) (ct cs a) ((sz j : Nat) : Int) = 0
              rw [cte]
              exact (cnt_zero (by omega) (by omega) gb.st).mpr h1)
            have this : (ct cs a, Rqt.gt ((sz j : Nat) : Int)) ∈ L := this
            rw [cte] at this
            exact ⟨_, this⟩
end
end Ph

set_option maxHeartbeats 8000000
namespace Ph
open PySem PySem.Spec PyProof.Rows L2
/-! ### the table of the lost states -/
/-- an entry: the fewest moves, and a request that begins them -/
def Uv (s : Nat → Nat) (p M : Nat) (W : Int) (H : Hp) (x : KAV) : Prop := ∃ bs r q u v, x.1 = skey bs ∧ StAt H x.2.1 bs ∧ Gst s p M W bs ∧ x.2.2 = .ref u ∧ H u = some (.tup [.int ((r : Nat) : Int), v]) ∧ ReqAt H v q ∧ Rnk s p M W r bs ∧ Goes s p M W r bs q
theorem Uv.kt {s : Nat → Nat} {p M : Nat} {W : Int} {H H' : Hp} {x : KAV} (h : Uv s p M W H x) (k : Kt H H') : Uv s p M W H' x := by
  obtain ⟨bs, r, q, u, v, e, st, g, ev, hu, rq, rk, gs⟩ := h
  exact ⟨bs, r, q, u, v, e, k.st st, g, ev, k.kpT _ _ hu, rq.kt k, rk, gs⟩
structure Lsd (w : World) (s : Nat → Nat) (p M : Nat) (W : Int) (H : Hp) (N : Addr) (us : List KAV) : Prop where
  kd : KDx w H N us
  en : ∀ x ∈ us, Uv s p M W H x
theorem Lsd.kt {w : World} {s : Nat → Nat} {p M : Nat} {W : Int} {H H' : Hp} {N : Addr} {us : List KAV} (h : Lsd w s p M W H N us) (k : Kt H H') (e : ∀ o, H N = some o → H' N = some o) : Lsd w s p M W H' N us := ⟨h.kd.kt k e, fun x hx => (h.en x hx).kt k⟩
theorem Lsd.gst {w : World} {s : Nat → Nat} {p M : Nat} {W : Int} {H : Hp} {N : Addr} {us : List KAV} (h : Lsd w s p M W H N us) {bs : List Bk} (i : InK us bs) : Gst s p M W bs := by
  obtain ⟨x, hx, e⟩ := i.mem
  obtain ⟨cs, _, _, _, _, e2, _, g, _⟩ := h.en x hx
  rw [skey_inj (e.symm.trans e2)]
  exact g
theorem Lsd.few {w : World} {s : Nat → Nat} {p M : Nat} {W : Int} {H : Hp} {N : Addr} {us : List KAV} (h : Lsd w s p M W H N us) {bss : List (List Bk)} (hb : ∀ bs, Gst s p M W bs → bs ∈ bss) : us.length ≤ bss.length := keys_few h.kd.nd fun x hx => by
  obtain ⟨bs, _, _, _, _, e, _, g, _⟩ := h.en x hx
  exact ⟨bs, hb bs g, e⟩
/-- a state put into the table -/
theorem Lsd.put {w : World} {s : Nat → Nat} {p M : Nat} {W : Int} {H H' : Hp} {N b u : Addr} {v : V} {us : List KAV} {bs : List Bk} {r : Nat} {q : Rqt} (h : Lsd w s p M W H N us) (bt : But N H H') (kd : KDx w H' N (putX us (skey bs) b (.ref u))) (hb : StAt H b bs) (g : Gst s p M W bs) (hu : H u = some (.tup [.int ((r : Nat) : Int), v])) (rq : ReqAt H v q) (rk : Rnk s p M W r bs) (gs : Goes s p M W r bs q) : Lsd w s p M W H' N (putX us (skey bs) b (.ref u)) := by
  have kt := bt.ktX h.kd
  have new : ∀ x : KAV, x.1 = skey bs → StAt H x.2.1 bs → x.2.2 = .ref u → Uv s p M W H' x := fun x e st ev => ⟨bs, r, q, u, v, e, kt.st st, g, ev, kt.kpT _ _ hu, rq.kt kt, rk, gs⟩
  refine ⟨kd, fun x hx => ?_⟩
  unfold putX at hx
  split at hx
  · obtain ⟨y, hy, rfl⟩ := List.mem_map.mp hx
    by_cases e : y.1 = skey bs
    · rw [if_pos e]
      obtain ⟨cs, _, _, _, _, e2, st, _⟩ := h.en y hy
      have : cs = bs := skey_inj (e2.symm.trans e)
      subst this
      exact new _ e st rfl
    · rw [if_neg e]
      exact (h.en y hy).kt kt
  · rcases List.mem_append.mp hx with hx | hx
    · exact (h.en x hx).kt kt
    · rw [List.mem_singleton.mp hx]
      exact new _ rfl hb rfl
section
variable {P : Program} {w : World} {K : PySem.W.Frag} {mg : Str → Option Value} {base : Heap}
def spSb (w : World) : Sp := fun vs H Q _ => ∃ (c nl N e : Addr) (s : Nat → Nat) (p n M m k : Nat) (xs : List V) (ps ns bss : List (List Bk)) (us : List KAV), vs = [.ref c, .int M, .int n, .ref nl, .int ((m + 1 : Nat) : Int), .ref N, .ref e] ∧ ChAt H c (tl s (p + 1)) ∧ Cn s p k ∧ Sml s p n ∧
  H nl = some (.lst xs) ∧ StVs H xs ns ∧ ns.Nodup ∧ 1 ≤ m ∧ (∀ x, x ∈ ns ↔ Gst s p M ((n * s p : Nat) : Int) x ∧ Rnk s p M ((n * s p : Nat) : Int) m x) ∧ (∀ x, x ∈ ps ↔ Gst s p M ((n * s p : Nat) : Int) x ∧ Lst s p M ((n * s p : Nat) : Int) (m - 1) x) ∧
  (∀ bs, Gst s p M ((n * s p : Nat) : Int) bs → bs ∈ bss) ∧ bss.length ≤ 531441 ∧ Esc w H e s p M ((n * s p : Nat) : Int) ps ∧ Lsd w s p M ((n * s p : Nat) : Int) H N us ∧ (∀ bs, InK us bs ↔ Gst s p M ((n * s p : Nat) : Int) bs ∧ Lst s p M ((n * s p : Nat) : Int) m bs) ∧ N ≠ e ∧
  ∀ H' D ys fs us', H D = none → Kt H H' → (∀ a o, a ≠ N → a ≠ e → H a = some o → H' a = some o) → Esc w H' e s p M ((n * s p : Nat) : Int) (ps ++ ns) → Lsd w s p M ((n * s p : Nat) : Int) H' N us' → (∀ bs, InK us' bs ↔ Gst s p M ((n * s p : Nat) : Int) bs ∧ Lst s p M ((n * s p : Nat) : Int) (m + 1) bs) →
    H' D = some (.lst ys) → StVs H' ys fs → fs.Nodup → (∀ x, x ∈ fs ↔ Gst s p M ((n * s p : Nat) : Int) x ∧ Rnk s p M ((n * s p : Nat) : Int) (m + 1) x) → us'.length = us.length + fs.length → Q (.ref D) H'
theorem ok_Sb {k : Nat} (Z : Fns K mg) : FnOk P w K mg base CX0 (k + 1 + 1 + 1 + 1 + 1 + 1 + 1) Z.fSb Z.fdSb ["chain", "limit", "pages", "newest", "moves", "unsafe", "escapes"] (spSb w) := by
  have GRq : FnOk P w K mg base CX0 (k + 1 + 1 + 1 + 1 + 1 + 1) Z.fRq Z.fdRq ["chain", "limit", "pages", "state", "escapes"] (spRq w) := ok_Rq Z
  refine Z.FSb.ok scSb (fun vs H Q E h => ?_) (fun cdv A outer s H vs Q E hr h => ?_)
  · obtain ⟨c, nl, N, e, s, p, n, M, m, _, _, _, _, _, us, rfl, _⟩ := h
    rfl
  · obtain ⟨c, nl, N, e, sz, p, n, M, m, mm, xs, ps, ns, bss, us, rfl, hc, cn, sml, hnl, hxs, nd, m1, hns, hps, hbs, bl, esc, lsd, hus, ne, fin⟩ := h
    have hu64 := u64_of hr
    refine ⟨_, (pss_cons (ps_set (i := 7) scSb.nd rfl (.inl rfl) (pe_lst pa_nil))
 (pss_cons (ps_for PassesOwn.never rfl (pi_list (pv 3)) (pg_name (i := 8) scSb.nd rfl (.inl rfl))
 (pss_one (ps_for PassesOwn.never rfl (pi_list (pe_call GRq (hr.mono (by omega)) (by rfl) Z.gRq Z.FRq.kp Z.bRq .nil pass0 (pa_cons (pv 0) (pa_cons (pv 1) (pa_cons (pv 2) (pa_cons (pv 8) (pa_cons (pv 6) pa_nil))))))) (pg_tup (by rfl) (pgs_cons (pg_name (i := 9) scSb.nd rfl (.inl rfl)) (pgs_cons (pg_name (i := 10) scSb.nd rfl (.inl rfl)) pgs_nil)))
 (pss_one (ps_if (pt_cmpR (op_xNotIn hu64) (pv 9) (pv 5) (by rfl))
 (pss_cons (ps_xput hu64 (pv 5) (pv 9) (pe_tup (pa_cons (pv 4) (pa_cons (pv 10) pa_nil))) rfl)
 (pss_one (ps_expr (pe_bm PySem.F.plainAttrs_list PySem.F.slot_list_append PySem.F.type_list_append mt_append (pv 7) (pa_cons (pv 9) pa_nil))))) pss_nil)))))
 (pss_one (ps_ret (pv 7))))), ?_⟩
    obtain ⟨W, hW⟩ : ∃ W : Nat, n * sz p = W := ⟨_, rfl⟩
    rw [hW] at hns hps hbs esc lsd hus fin
    have w1 : W ≤ 12 := by have := sml.w; omega
    have b12 : (531441 : Nat) < sizeLine := by decide
    refine ⟨(by show 0 ≤ sizeLine; decide), fun D nD => ?_⟩
    have sD := same_upd (o := .lst []) nD
    have hD0 : upd H D (.lst []) D = some (.lst []) := upd_same
    have hN := lsd.kd.ob
    obtain ⟨φe, he⟩ := esc.ext
    have nDN : D ≠ N := (ne_of_none hN nD).symm
    have nDe : D ≠ e := (ne_of_none he nD).symm
    have nlN : nl ≠ N := fun z => by rw [z, hN] at hnl; cases hnl
    have nle : nl ≠ e := fun z => by rw [z, he] at hnl; cases hnl
    have nlD : nl ≠ D := ne_of_none hnl nD
    generalize upd H D (.lst []) = H1 at *
    dsimp only [gName]
    have hnl1 := sD _ _ hnl
    refine ⟨.ref nl, rfl, nl, rfl, ⟨_, .inl (.inl hnl1)⟩, ?_⟩
    refine for_it (walk_list (K := K) (a := nl) (xs := xs)) (fun i σ H' => ∃ y8 y9 y10 us2 ys fs, σ = [some (.ref c), some (.int M), some (.int n), some (.ref nl), some (.int ((m + 1 : Nat) : Int)), some (.ref N), some (.ref e), some (.ref D), y8, y9, y10] ∧ Kt H1 H' ∧ (∀ a o, a ≠ N → a ≠ e → a ≠ D → H1 a = some o → H' a = some o) ∧
      Esc w H' e sz p M W (ps ++ ns.take i) ∧ Lsd w sz p M W H' N us2 ∧ H' D = some (.lst ys) ∧ StVs H' ys fs ∧ fs.Nodup ∧ (∀ bs, bs ∈ fs ↔ InK us2 bs ∧ ¬ Lst sz p M W m bs) ∧ (∀ bs, Gst sz p M W bs → Lst sz p M W m bs → InK us2 bs) ∧ (∀ bs, InK us2 bs → Lst sz p M W (m + 1) bs) ∧
      (∀ i' cs q bs, i' < i → ns[i']? = some cs → Gst sz p M W bs → Into sz p M W (ps ++ ns.take (i' + 1)) cs bs q → InK us2 bs) ∧ us2.length = us.length + fs.length)
      ⟨_, _, _, us, [], [], rfl, Kt.refl _, fun a o _ _ _ h => h, ?_, lsd.kt (Same.kt sD) (fun o h => sD _ _ h), hD0, .nil, List.nodup_nil, fun bs => ⟨(fun h => nomatch h), fun h => absurd ((hus bs).mp h.1).2 h.2⟩, fun bs g l => (hus bs).mpr ⟨g, l⟩, fun bs h => ((hus bs).mp h).2.up, fun i' cs q bs h => absurd h (by omega), rfl⟩ (fun i σ H' _ q => ?_) ?_ ?_
    · rw [List.take_zero, List.append_nil]
      exact esc.kt (Same.kt sD) fun u h => sD _ _ h
    · obtain ⟨_, _, _, _, _, _, _, _, fr, _⟩ := q
      exact .inl (.inl (fr _ _ nlN nle nlD hnl1))
    · rintro i x σ H2a H2 hi ⟨y8, y9, y10, us2, ys, fs, rfl, k2, fr2, esc2, lsd2, hD2, hf2, nd2, mf2, old2, up2, al2, ln2⟩ ⟨rfl, hx⟩
      obtain ⟨cs, hcs, t, rfl, ht⟩ := Paired.get hxs hx
      have xl : xs.length = ns.length := Paired.length hxs
      have hcm := List.mem_of_getElem? hcs
      obtain ⟨gcs, rcs⟩ := (hns cs).mp hcm
      have ht2 := k2.st (ht.same sD)
      have hc2 := k2.ch (hc.keep sD)
      have ncs : cs ∉ ps ++ ns.take i := fun z => by
        rcases List.mem_append.mp z with z | z
        · exact rcs.2 (m - 1) (by omega) ((hps cs).mp z).2
        · obtain ⟨i', hi', e'⟩ := List.getElem_of_mem z
          rw [List.length_take] at hi'
          rw [List.getElem_take] at e'
          obtain ⟨h1, h2⟩ := List.getElem?_eq_some_iff.mp hcs
          have := (List.getElem_inj (i := i') (j := i) (h₀ := by omega) (h₁ := h1) nd).mp (by rw [e', h2])
          omega
      dsimp only [gName]
      refine ⟨.ref c, rfl, .int M, rfl, .int n, rfl, .ref t, rfl, .ref e, rfl, c, t, e, sz, p, n, M, mm, ps ++ ns.take i, cs, rfl, hc2, cn, sml, ht2, by rw [hW]; exact gcs, ncs, by rw [hW]; exact esc2, fun H3 D2 zs L nD2 b3 esc3 hD3 prL soL coL lnL => ?_⟩
      rw [hW] at esc3 soL coL
      have et : ps ++ ns.take i ++ [cs] = ps ++ ns.take (i + 1) := by rw [List.take_add_one, hcs, List.append_assoc]; rfl
      rw [et] at esc3 soL coL
      obtain ⟨φ2, he2⟩ := esc2.ext
      have k3 := but_ktE b3 he2
      have lsd3 := lsd2.kt k3 fun o h => b3 _ _ ne h
      have hDe3 := b3 _ _ nDe hD2
      have hf3 := hf2.kt k3
      have nD2D : D2 ≠ D := (ne_of_none hD2 nD2).symm
      have nD2N : D2 ≠ N := (ne_of_none lsd2.kd.ob nD2).symm
      have all_m : ∀ x ∈ ps ++ ns.take (i + 1), Lst sz p M W m x := fun x h => by
        rcases List.mem_append.mp h with h | h
        · exact ((hps x).mp h).2.mono (by omega)
        · exact ((hns x).mp (List.mem_of_mem_take h)).2.1
      refine ⟨D2, rfl, ⟨_, .inl (.inl hD3)⟩, ?_⟩
      refine for_it (walk_list (K := K) (a := D2) (xs := zs)) (fun j σ H' => ∃ y9 y10 us3 ys fs, σ = [some (.ref c), some (.int M), some (.int n), some (.ref nl), some (.int ((m + 1 : Nat) : Int)), some (.ref N), some (.ref e), some (.ref D), some (.ref t), y9, y10] ∧ KG N D H3 H' ∧
        Lsd w sz p M W H' N us3 ∧ H' D = some (.lst ys) ∧ StVs H' ys fs ∧ fs.Nodup ∧ (∀ bs, bs ∈ fs ↔ InK us3 bs ∧ ¬ Lst sz p M W m bs) ∧ (∀ bs, InK us2 bs → InK us3 bs) ∧ (∀ bs, InK us3 bs → Lst sz p M W (m + 1) bs) ∧ (∀ j' bs q, j' < j → L[j']? = some (bs, q) → InK us3 bs) ∧ us3.length = us.length + fs.length)
        ⟨_, _, us2, ys, fs, rfl, KG.refl _, lsd3, hDe3, hf3, nd2, mf2, fun _ h => h, up2, fun j' bs q h => absurd h (by omega), ln2⟩ (fun j σ H' _ q => ?_) ?_ ?_
      · obtain ⟨_, _, _, _, _, _, k, _⟩ := q
        exact .inl (.inl (k.fr _ _ nD2N nD2D hD3))
      · rintro j x σ H4a H4 hj ⟨y9, y10, us3, ys, fs, rfl, k4, lsd4, hD4, hf4, nd4, mf4, in4, up4, al4, ln4⟩ ⟨rfl, hxj⟩
        obtain ⟨⟨bs, q⟩, hL, T, u, v, rfl, hT, hu, hv⟩ := Paired.get prL hxj
        have hT4 := k4.kpT _ _ hT
        have hu4 : StAt H4 u bs := k4.st hu
        have hv4 : ReqAt H4 v q := hv.kt k4.kt
        obtain ⟨gbs, ibs⟩ := soL _ (List.mem_of_getElem? hL)
        obtain ⟨lbs, gobs⟩ := ibs.lst all_m rcs.1
        refine ⟨T, _, rfl, .inl (.inl hT4), rfl, _, _, rfl, _, _, rfl, rfl, ?_⟩
        dsimp only [gName]
        refine ⟨.ref u, rfl, .ref N, rfl, N, u, us3, skey bs, rfl, rfl, lsd4.kd.r, hu4.nk, skey_depth _, _, rfl, ite2 (fun cc => ?_) (fun cc => ?_)⟩
        · obtain ⟨nw, nin⟩ := InK.not cc
          have nlm : ¬ Lst sz p M W m bs := fun z => nin (in4 _ (old2 _ gbs z))
          have rk : Rnk sz p M W (m + 1) bs := ⟨lbs, fun k hk l => nlm (l.mono (by omega))⟩
          have few := lsd4.few hbs
          refine ⟨.int _, rfl, v, rfl, (by show 2 ≤ sizeLine; decide), fun R nR => ?_⟩
          have sR := same_upd (o := .tup [.int ((m + 1 : Nat) : Int), v]) nR
          have hR : upd H4 R (.tup [.int ((m + 1 : Nat) : Int), v]) R = some (.tup [.int ((m + 1 : Nat) : Int), v]) := upd_same
          have lsd5 := lsd4.kt (Same.kt sR) fun o h => sR _ _ h
          have hu5 := hu4.same sR
          have hv5 := hv4.kt (Same.kt sR)
          have hD5 := sR _ _ hD4
          have k5 := k4.trans (KG.same sR)
          have hf5 := hf4.kt (Same.kt sR)
          generalize upd H4 R (.tup [.int ((m + 1 : Nat) : Int), v]) = H5 at *
          refine ⟨.ref N, rfl, .ref u, rfl, N, u, us3, skey bs, rfl, rfl, lsd5.kd, hu5.nk, skey_depth _, by omega, fun H6 b6 kd6 => ?_⟩
          have lsd6 := lsd5.put b6 kd6 hu5 gbs hR hv5 rk gobs
          have k56 : KG N D H5 H6 := KG.putX b6 lsd5.kd
          have hD6 := b6 _ _ nDN hD5
          have kl := KG.list (N := N) (ys := ys ++ [.ref u]) hD6
          have fl : fs.length ≤ 531441 := by omega
          have yl : ys.length = fs.length := Paired.length hf4
          have nfs : bs ∉ fs := fun z => nin ((mf4 bs).mp z).1
          refine ⟨.ref D, rfl, .inl ⟨rfl, _, .inl (.inl hD6)⟩, .ref u, rfl, D, ys, _, rfl, rfl, hD6, by omega, ?_⟩
          refine ⟨_, _, _, ys ++ [.ref u], fs ++ [bs], rfl, (k5.trans k56).trans kl, lsd6.kt kl.kt (fun o h => by rw [upd_ne nDN.symm]; exact h), upd_same, StVs.snoc ((hf5.kt k56.kt).kt kl.kt) ⟨u, rfl, kl.st (k56.st hu5)⟩, ?_, fun b => ?_, fun b h => (in4 b h).put, fun b h => ?_, fun j' b q' h1 h2 => ?_, ?_⟩
          · exact List.nodup_append.mpr ⟨nd4, List.pairwise_singleton _ _, fun a ha b hb => by rw [List.mem_singleton.mp hb]; intro z; exact nfs (by rw [← z]; exact ha)⟩
          · rw [List.mem_append, List.mem_singleton, mf4]
            constructor
            · rintro (⟨h1, h2⟩ | h)
              · exact ⟨h1.put, h2⟩
              · rw [h]; exact ⟨InK.new, nlm⟩
            · rintro ⟨h1, h2⟩
              rcases h1.inv with h1 | h1
              · exact .inr h1
              · exact .inl ⟨h1, h2⟩
          · rcases h.inv with h | h
            · rw [h]; exact lbs
            · exact up4 b h
          · rcases Nat.lt_or_ge j' j with z | z
            · exact (al4 j' b q' z h2).put
            · obtain rfl : j' = j := by omega
              rw [hL] at h2
              cases h2
              exact InK.new
          · rw [putX_new nw, List.length_append, List.length_append]
            show us3.length + 1 = us.length + (fs.length + 1)
            omega
        · refine ⟨_, _, us3, ys, fs, rfl, k4, lsd4, hD4, hf4, nd4, mf4, in4, up4, fun j' b q' h1 h2 => ?_, ln4⟩
          rcases Nat.lt_or_ge j' j with z | z
          · exact al4 j' b q' z h2
          · obtain rfl : j' = j := by omega
            rw [hL] at h2
            cases h2
            exact InK.yes cc
      · rintro σ H4 ⟨y9, y10, us3, ys, fs, rfl, k4, lsd4, hD4, hf4, nd4, mf4, in4, up4, al4, ln4⟩
        have lz : zs.length = L.length := Paired.length prL
        refine ⟨_, _, _, us3, ys, fs, rfl, k2.trans (k3.trans k4.kt), fun a o n1 n2 n3 h => k4.fr _ _ n1 n3 (b3 _ _ n2 (fr2 a o n1 n2 n3 h)), esc3.kt k4.kt (fun o h => k4.fr _ _ ne.symm nDe.symm h), lsd4, hD4, hf4, nd4, mf4, fun bs g l => in4 _ (old2 bs g l), up4, fun i' cs' q bs h1 h2 h3 h4 => ?_, ln4⟩
        rcases Nat.lt_or_ge i' i with z | z
        · exact in4 _ (al2 i' cs' q bs z h2 h3 h4)
        · obtain rfl : i' = i := by omega
          rw [hcs] at h2
          cases h2
          obtain ⟨q', hq'⟩ := coL bs q h3 h4
          obtain ⟨j', hj', e'⟩ := List.getElem_of_mem hq'
          exact al4 j' bs q' (by omega) (by rw [List.getElem?_eq_getElem hj', e'])
    · rintro σ H2 ⟨y8, y9, y10, us2, ys, fs, rfl, k2, fr2, esc2, lsd2, hD2, hf2, nd2, mf2, old2, up2, al2, ln2⟩
      have xl : xs.length = ns.length := Paired.length hxs
      rw [xl] at esc2 al2
      rw [List.take_length] at esc2
      have key : ∀ bs, InK us2 bs ↔ Gst sz p M W bs ∧ Lst sz p M W (m + 1) bs := fun bs => by
        refine ⟨fun h => ⟨lsd2.gst h, up2 bs h⟩, fun ⟨g, l⟩ => ?_⟩
        rcases Classical.em (Lst sz p M W m bs) with z | z
        · exact old2 bs g z
        · obtain ⟨i, cs, q, h1, h2⟩ := into_all cn.ch (by omega) m1 hps hns g l z
          exact al2 i cs q bs (List.getElem?_eq_some_iff.mp h1).1 h1 g h2
      refine ⟨.ref D, rfl, fin H2 D ys fs us2 nD ((Same.kt sD).trans k2) (fun a o n1 n2 h => fr2 _ _ n1 n2 (ne_of_none h nD) (sD _ _ h)) esc2 lsd2 key hD2 hf2 nd2 (fun x => ?_) ln2⟩
      rw [mf2, key]
      constructor
      · rintro ⟨⟨g, l⟩, nl⟩
        exact ⟨g, l, fun k hk z => nl (z.mono (by omega))⟩
      · rintro ⟨g, l, h⟩
        exact ⟨⟨g, l⟩, h m (by omega)⟩
end
end Ph

set_option maxHeartbeats 8000000
namespace Ph
open PySem PySem.Spec PyProof.Rows L2
theorem Lsd.list {w : World} {s : Nat → Nat} {p M : Nat} {W : Int} {H : Hp} {N : Addr} {us : List KAV} (h : Lsd w s p M W H N us) : ∃ ns, StVs H (us.map fun x => V.ref x.2.1) ns ∧ ns.map skey = us.map (·.1) ∧ ns.Nodup ∧ ∀ bs, bs ∈ ns ↔ InK us bs := by
  have key : ∀ l : List KAV, (∀ x ∈ l, Uv s p M W H x) → ∃ ns, StVs H (l.map fun x => V.ref x.2.1) ns ∧ ns.map skey = l.map (·.1) := fun l => by
    induction l with
    | nil => exact fun _ => ⟨[], .nil, rfl⟩
    | cons x r ih =>
      intro hl
      obtain ⟨ns, h1, h2⟩ := ih fun y hy => hl y (List.mem_cons_of_mem _ hy)
      obtain ⟨bs, _, _, _, _, e, st, _⟩ := hl x List.mem_cons_self
      exact ⟨bs :: ns, .cons ⟨_, rfl, st⟩ h1, by rw [List.map_cons, List.map_cons, h2, e]⟩
  obtain ⟨ns, h1, h2⟩ := key us h.en
  have nd : (ns.map skey).Nodup := by rw [h2]; exact h.kd.nd
  refine ⟨ns, h1, h2, (List.pairwise_map.mp nd).imp fun h e => h (by rw [e]), fun bs => ?_⟩
  constructor
  · intro hb
    have : skey bs ∈ us.map (·.1) := by rw [← h2]; exact List.mem_map.mpr ⟨bs, hb, rfl⟩
    obtain ⟨x, hx, e⟩ := List.mem_map.mp this
    exact InK.of h.kd.nd hx e
  · intro i
    obtain ⟨x, hx, e⟩ := i.mem
    have : skey bs ∈ ns.map skey := by rw [h2, ← e]; exact List.mem_map.mpr ⟨x, hx, rfl⟩
    obtain ⟨cs, hc, e2⟩ := List.mem_map.mp this
    rw [← skey_inj e2]
    exact hc
theorem KD.ndk {w : World} {H : Hp} {d : Addr} {kvs : List (NestedKey × V)} (k : KD w H d kvs) : (kvs.map (·.1)).Nodup := by
  obtain ⟨xs, _, _, rfl, _, nd, _⟩ := k
  rw [List.map_map]
  exact nd
theorem putK_keys {κ : Type} [DecidableEq κ] {kvs : List (κ × V)} {k : κ} {v : V} {x : κ × V} (h : x ∈ putK kvs k v) : x.1 = k ∨ ∃ y ∈ kvs, y.1 = x.1 := by
  unfold putK at h
  split at h
  · obtain ⟨y, hy, rfl⟩ := List.mem_map.mp h
    by_cases e : y.1 = k
    · rw [if_pos e]; exact .inl e
    · rw [if_neg e]; exact .inr ⟨y, hy, rfl⟩
  · rcases List.mem_append.mp h with h | h
    · exact .inr ⟨x, h, rfl⟩
    · rw [List.mem_singleton.mp h]; exact .inl rfl
theorem KDx.kd {w : World} {H : Hp} {d : Addr} {xs : List KAV} (k : KDx w H d xs) : KD w H d (xs.map kv2) := ⟨xs, k.ob, k.sm, rfl, k.ks, k.nd, k.ln⟩
theorem ekeys_few {s : Nat → Nat} {p : Nat} {kvs : List (NestedKey × V)} {bss : List (List Bk)} (nd : (kvs.map (·.1)).Nodup) (h : ∀ kv ∈ kvs, ∃ bs ∈ bss, ∃ j, j ≤ p ∧ kv.1 = ekey bs ((s j : Nat) : Int)) : kvs.length ≤ bss.length * (p + 1) := by
  have := nodup_le (l := kvs.map (·.1)) (m := bss.flatMap fun bs => (List.range (p + 1)).map fun j => ekey bs ((s j : Nat) : Int)) nd fun k hk => by
    obtain ⟨kv, hkv, rfl⟩ := List.mem_map.mp hk
    obtain ⟨bs, hb, j, hj, e⟩ := h kv hkv
    rw [e]
    exact List.mem_flatMap.mpr ⟨bs, hb, List.mem_map.mpr ⟨j, List.mem_range.mpr (by omega), rfl⟩⟩
  rw [List.length_map] at this
  refine Nat.le_trans this (Nat.le_of_eq ?_)
  clear this h nd
  induction bss with
  | nil => simp
  | cons b r ih => rw [List.flatMap_cons, List.length_append, ih, List.length_map, List.length_range, List.length_cons, Nat.add_mul, Nat.one_mul, Nat.add_comm]
section
variable {P : Program} {w : World} {K : PySem.W.Frag} {mg : Str → Option Value} {base : Heap}
def spUs (w : World) : Sp := fun vs H Q _ => ∃ (c : Addr) (s : Nat → Nat) (p n M m : Nat), vs = [.ref c, .int M, .int n] ∧ ChAt H c (tl s (p + 1)) ∧ Cn s p m ∧ Sml s p n ∧
  ∀ H' N us, H N = none → Same H H' → Lsd w s p M ((n * s p : Nat) : Int) H' N us → us.length ≤ 531441 → (∀ bs, InK us bs ↔ Gst s p M ((n * s p : Nat) : Int) bs ∧ ∃ k, Lst s p M ((n * s p : Nat) : Int) k bs) → Q (.ref N) H'
theorem ok_Us {k : Nat} (Z : Fns K mg) : FnOk P w K mg base CX0 (k + 1 + 1 + 1 + 1 + 1 + 1 + 1 + 1) Z.fUs Z.fdUs ["chain", "limit", "pages"] (spUs w) := by
  have GAs : FnOk P w K mg base CX0 (k + 1 + 1 + 1 + 1) Z.fAs Z.fdAs ["chain", "pages", "limit"] (spAs K) := ok_As Z
  have GAl : FnOk P w K mg base CX0 (k + 1 + 1) Z.fAl Z.fdAl ["chain", "limit", "state"] (spAl K) := ok_Al Z
  have GPl : FnOk P w K mg base CX0 (k + 1 + 1 + 1 + 1 + 1) Z.fPl Z.fdPl ["chain", "pages", "state", "size"] spPl := ok_Pl Z
  have GSb : FnOk P w K mg base CX0 (k + 1 + 1 + 1 + 1 + 1 + 1 + 1) Z.fSb Z.fdSb ["chain", "limit", "pages", "newest", "moves", "unsafe", "escapes"] (spSb w) := ok_Sb Z
  refine Z.FUs.ok scUs (fun vs H Q E h => ?_) (fun cdv A outer s H vs Q E hr h => ?_)
  · obtain ⟨c, s, p, n, M, m, rfl, _⟩ := h
    rfl
  · obtain ⟨c, sz, p, n, M, mm, rfl, hc, cn, sml, fin⟩ := h
    have hu64 := u64_of hr
    refine ⟨_, (pss_cons (ps_set (i := 3) scUs.nd rfl (.inl rfl) pe_xnew)
 (pss_cons (ps_set (i := 4) scUs.nd rfl (.inl rfl) pe_xnew)
 (pss_cons (ps_for PassesOwn.never rfl (pi_tup (pe_call GAs (hr.mono (by omega)) (by rfl) Z.gAs Z.FAs.kp Z.bAs .nil pass0 (pa_cons (pv 0) (pa_cons (pv 2) (pa_cons (pv 1) pa_nil))))) (pg_name (i := 5) scUs.nd rfl (.inl rfl))
 (pss_one (ps_for PassesOwn.never rfl (pi_list (pe_call GAl (hr.mono (by omega)) (by rfl) Z.gAl Z.FAl.kp Z.bAl .nil pass0 (pa_cons (pv 0) (pa_cons (pv 1) (pa_cons (pv 5) pa_nil))))) (pg_name (i := 6) scUs.nd rfl (.inl rfl))
 (pss_cons (ps_kput hu64 (pv 4) (pe_tup (pa_cons (pv 5) (pa_cons (pv 6) pa_nil))) (pe_callB call_len_seq (by rfl) Z.N.len (by decide +kernel) (pa_cons (pe_call GPl (hr.mono (by omega)) (by rfl) Z.gPl Z.FPl.kp Z.bPl .nil pass0 (pa_cons (pv 0) (pa_cons (pv 2) (pa_cons (pv 5) (pa_cons (pv 6) pa_nil))))) pa_nil)) rfl)
 (pss_one (ps_if (pt_cmpR op_eq (pe_kget hu64 (pv 4) (pe_tup (pa_cons (pv 5) (pa_cons (pv 6) pa_nil))) (fun _ _ => rfl)) pe_int (nomark _))
 (pss_one (ps_xput hu64 (pv 3) (pv 5) (pe_tup (pa_cons pe_int (pa_cons (pe_tup (pa_cons pe_str (pa_cons (pv 6) pa_nil))) pa_nil))) rfl)) pss_nil))))))
 (pss_cons (ps_set (i := 7) scUs.nd rfl (.inl rfl) pe_int)
 (pss_cons (ps_set (i := 8) scUs.nd rfl (.inl rfl) (pe_callTy (call_listX rfl) (by rfl) Z.N.list (by decide +kernel) (pa_cons (pv 3) pa_nil)))
 (pss_cons (ps_while PassesOwn.never (pt_truth (pv 8) (fun _ => rfl))
 (pss_cons (ps_aug (i := 7) scUs.nd rfl (.inl rfl) pe_int ip_add)
 (pss_one (ps_set (i := 8) scUs.nd rfl (.inl rfl) (pe_call GSb (hr.mono (by omega)) (by rfl) Z.gSb Z.FSb.kp Z.bSb .nil pass0 (pa_cons (pv 0) (pa_cons (pv 1) (pa_cons (pv 2) (pa_cons (pv 8) (pa_cons (pv 7) (pa_cons (pv 3) (pa_cons (pv 4) pa_nil))))))))))))
 (pss_one (ps_ret (pv 3))))))))), ?_⟩
    obtain ⟨W, hW⟩ : ∃ W : Nat, n * sz p = W := ⟨_, rfl⟩
    rw [hW] at fin
    have s1 := sml.z
    have n1 := sml.n
    have p1 := sml.q
    have w1 : W ≤ 12 := by have := sml.w; omega
    have eW : ((n : Nat) : Int) * ((sz p : Nat) : Int) = (W : Int) := by rw [← hW, Int.natCast_mul]
    have szp : ∀ j, j ≤ p → 0 < sz j ∧ sz j ≤ 12 := fun j hj => ⟨cn.ch.pos (by omega), Nat.le_trans (cn.ch.mono (i := j) (j := p) hj (by omega)) sml.z⟩
    refine fun N H1 nN s1' kdN => ?_
    dsimp only [gName]
    refine fun E H2 nE s2 kdE => ?_
    dsimp only [gName]
    have hN2 := s2 _ _ kdN.ob
    have NE : N ≠ E := ne_of_none kdN.ob nE
    have nEH : H E = none := none_of_same s1' nE
    have s02 := s1'.trans s2
    have hc2 := hc.keep s02
    refine seq_splitR (fun σ' H' => ∃ (y5 y6 : Option V) (us : List KAV) (bss : List (List Bk)), σ' = [some (.ref c), some (.int M), some (.int n), some (.ref N), some (.ref E), y5, y6, none, none] ∧ Kt H2 H' ∧ (∀ a o, a ≠ N → a ≠ E → H2 a = some o → H' a = some o) ∧ (∀ bs, bs ∈ bss ↔ Gst sz p M W bs) ∧ bss.length ≤ 531441 ∧ Esc w H' E sz p M W [] ∧ Lsd w sz p M W H' N us ∧ ∀ bs, InK us bs ↔ Gst sz p M W bs ∧ Lst sz p M W 1 bs) (fun D' rt' hD' => ?_) ?_
    · refine ⟨.ref c, rfl, .int n, rfl, .int M, rfl, c, sz, p, n, M, mm, rfl, hc2.sq, cn, sml, fun H3 T xs bss nT s3 hT hxs hbs bl => ?_⟩
      rw [hW] at hbs
      have kd3 := (KDx.kd kdE).same s3
      have hT := hT
      have NT : T ≠ N := ne_of_none hN2 nT |>.symm
      have ET : T ≠ E := ne_of_none kdE.ob nT |>.symm
      have hc3 := hc2.keep s3
      have memb : ∀ {i : Nat} {bs : List Bk}, bss[i]? = some bs → Gst sz p M W bs := fun h => (hbs _).mp (List.mem_of_getElem? h)
      refine ⟨T, rfl, ⟨_, .inl (.inl hT)⟩, ?_⟩
      refine for_it (walk_tup (K := K) (a := T) (xs := xs)) (fun i σ H' => ∃ y5 y6 us kvs, σ = [some (.ref c), some (.int M), some (.int n), some (.ref N), some (.ref E), y5, y6, none, none] ∧ KG N E H3 H' ∧ KD w H' E kvs ∧ (∀ kv ∈ kvs, ∃ bs ∈ bss, ∃ j, j ≤ p ∧ kv.1 = ekey bs ((sz j : Nat) : Int)) ∧
        (∀ i' bs j, i' < i → bss[i']? = some bs → j ≤ p → totB bs + ((sz j : Nat) : Int) ≤ M → valV kvs (ekey bs ((sz j : Nat) : Int)) = some (.int ((cnt W [] bs ((sz j : Nat) : Int) : Nat) : Int))) ∧
        Lsd w sz p M W H' N us ∧ (∀ bs, InK us bs → Lst sz p M W 1 bs) ∧ (∀ i' bs, i' < i → bss[i']? = some bs → Lst sz p M W 1 bs → InK us bs))
        ⟨_, _, [], [], rfl, KG.refl _, kd3, (fun x h => nomatch h), fun i' bs j h => absurd h (by omega), ⟨(kdN.same s2).same s3, (fun x h => nomatch h)⟩, fun bs h => (nomatch h), fun i' bs h => absurd h (by omega)⟩ (fun i σ H' _ q => ?_) ?_ ?_
      · obtain ⟨_, _, _, _, _, g, _⟩ := q
        exact .inl (.inl (g.fr _ _ NT ET hT))
      · rintro i x σ H4a H4 hi ⟨y5, y6, us, kvs, rfl, g4, kd4, ks4, kv4, lsd4, up4, al4⟩ ⟨rfl, hx⟩
        obtain ⟨bs, hbs_i, t, rfl, ht⟩ := Paired.get hxs hx
        have gbs := memb hbs_i
        have bm := List.mem_of_getElem? hbs_i
        have few := st_len gbs.st (by omega)
        have ht4 := g4.st ht
        have hc4 := g4.kt.ch hc3
        dsimp only [gName]
        refine ⟨.ref c, rfl, .int M, rfl, .ref t, rfl, c, t, sz, p, M, bs, rfl, hc4.sq, by omega, ht4, by omega, fun H5 A nA s5 hA => ?_⟩
        have kd5 := kd4.same s5
        have lsd5 := lsd4.kt (Same.kt s5) fun o h => s5 _ _ h
        have g5 := g4.trans (KG.same s5)
        have nAN : A ≠ N := (ne_of_none lsd4.kd.ob nA).symm
        have nAE : A ≠ E := by
          obtain ⟨φ, h⟩ := kd4.ext
          exact (ne_of_none h nA).symm
        refine ⟨A, rfl, ⟨_, .inl (.inl hA)⟩, ?_⟩
        refine for_it (walk_list (K := K) (a := A) (xs := (alw sz p M bs).map V.int)) (fun k σ H' => ∃ y6 us kvs, σ = [some (.ref c), some (.int M), some (.int n), some (.ref N), some (.ref E), some (.ref t), y6, none, none] ∧ KG N E H5 H' ∧ KD w H' E kvs ∧ (∀ kv ∈ kvs, ∃ bs ∈ bss, ∃ j, j ≤ p ∧ kv.1 = ekey bs ((sz j : Nat) : Int)) ∧
          (∀ i' bs j, i' < i → bss[i']? = some bs → j ≤ p → totB bs + ((sz j : Nat) : Int) ≤ M → valV kvs (ekey bs ((sz j : Nat) : Int)) = some (.int ((cnt W [] bs ((sz j : Nat) : Int) : Nat) : Int))) ∧
          (∀ k' z, k' < k → (alw sz p M bs)[k']? = some z → valV kvs (ekey bs z) = some (.int ((cnt W [] bs z : Nat) : Int))) ∧
          Lsd w sz p M W H' N us ∧ (∀ bs, InK us bs → Lst sz p M W 1 bs) ∧ (∀ i' bs, i' < i → bss[i']? = some bs → Lst sz p M W 1 bs → InK us bs) ∧ (∀ k' z, k' < k → (alw sz p M bs)[k']? = some z → plcs W bs z = [] → InK us bs))
          ⟨_, us, kvs, rfl, KG.refl _, kd5, ks4, kv4, fun k' z h => absurd h (by omega), lsd5, up4, al4, fun k' z h => absurd h (by omega)⟩ (fun k σ H' _ q => ?_) ?_ ?_
        · obtain ⟨_, _, _, _, g, _⟩ := q
          exact .inl (.inl (g.fr _ _ nAN nAE hA))
        · rintro k x σ H6a H6 hk ⟨y6, us, kvs, rfl, g6, kd6, ks6, kv6, kw6, lsd6, up6, al6, st6⟩ ⟨rfl, hx⟩
          rw [List.length_map] at hk
          obtain ⟨z, hz, rfl⟩ : ∃ z, (alw sz p M bs)[k]? = some z ∧ x = V.int z := by
            rw [List.getElem?_map] at hx
            obtain ⟨z, h1, h2⟩ := Option.map_eq_some_iff.mp hx
            exact ⟨z, h1, h2.symm⟩
          obtain ⟨j, hj, rfl, lim⟩ := alw_mem.mp (List.mem_of_getElem? hz)
          obtain ⟨z0, z1⟩ := szp j hj
          have hc6 := g6.kt.ch (hc4.keep s5)
          have ht6 := g6.st (ht4.same s5)
          dsimp only [gName]
          refine ⟨.ref c, rfl, .int n, rfl, .ref t, rfl, .int _, rfl, c, t, tl sz p, ((sz p : Nat) : Int), (n : Int), ((sz j : Nat) : Int), bs, rfl, by rw [← tl_succ]; exact hc6, by rw [← tl_succ]; exact tl_mem.mpr ⟨j, by omega, rfl⟩, by omega, by omega, by omega, by omega, by omega, by omega, ht6, by rw [← tl_succ, eW]; exact gbs.st, by omega, fun H7 P7 s7 hP => ?_⟩
          rw [eW] at hP
          have hP : H7 P7 = some (.tup ((plcs W bs ((sz j : Nat) : Int)).map V.int)) := hP
          refine ⟨P7, _, rfl, .inr (.inl (.inl hP)), ?_⟩
          have kd7 := kd6.same s7
          have lsd7 := lsd6.kt (Same.kt s7) fun o h => s7 _ _ h
          have g7 := g6.trans (KG.same s7)
          have ht7 := ht6.same s7
          refine ⟨.ref E, rfl, .ref t, rfl, .int _, rfl, (by show 2 ≤ sizeLine; decide), fun T8 nT8 => ?_⟩
          have sT8 := same_upd (o := .tup [.ref t, .int ((sz j : Nat) : Int)]) nT8
          have hT8 : upd H7 T8 (.tup [.ref t, .int ((sz j : Nat) : Int)]) T8 = some (.tup [.ref t, .int ((sz j : Nat) : Int)]) := upd_same
          have kd8 := kd7.same sT8
          have lsd8 := lsd7.kt (Same.kt sT8) fun o h => sT8 _ _ h
          have g8 := g7.trans (KG.same sT8)
          have ht8 := ht7.same sT8
          generalize upd H7 T8 (.tup [.ref t, .int ((sz j : Nat) : Int)]) = H8 at *
          have kl := ekeys_few (KD.ndk kd8) ks6
          have bl6 : bss.length * (p + 1) ≤ 531441 * 6 := Nat.mul_le_mul bl (by omega)
          rw [List.length_map]
          have cn0 : cnt W [] bs ((sz j : Nat) : Int) = (plcs W bs ((sz j : Nat) : Int)).length := cnt_nil
          rw [← cn0]
          refine ⟨E, T8, kvs, ekey bs ((sz j : Nat) : Int), rfl, rfl, kd8, ekey_nk hT8 ht8, ekey_depth _ _, Nat.lt_of_le_of_lt (Nat.le_trans kl bl6) (by decide), fun H9 b9 kd9 => ?_⟩
          have kt9 := b9.ktD kd8
          have lsd9 := lsd8.kt kt9 fun o h => b9 _ _ NE h
          have g9 := g8.trans (⟨kt9, fun c o n1 n2 e => b9 c o n2 e⟩ : KG N E H8 H9)
          have ht9 := kt9.st ht8
          have ks9 : ∀ kv ∈ putK kvs (ekey bs ((sz j : Nat) : Int)) (.int ((cnt W [] bs ((sz j : Nat) : Int) : Nat) : Int)), ∃ bs ∈ bss, ∃ j, j ≤ p ∧ kv.1 = ekey bs ((sz j : Nat) : Int) := fun kv h => by
            rcases putK_keys h with h | ⟨y, hy, h⟩
            · exact ⟨bs, bm, j, hj, h⟩
            · obtain ⟨b', h1, j', h2, h3⟩ := ks6 y hy
              exact ⟨b', h1, j', h2, by rw [← h, h3]⟩
          have kv9 : ∀ i' bs' j', i' < i → bss[i']? = some bs' → j' ≤ p → totB bs' + ((sz j' : Nat) : Int) ≤ M → valV (putK kvs (ekey bs ((sz j : Nat) : Int)) (.int ((cnt W [] bs ((sz j : Nat) : Int) : Nat) : Int))) (ekey bs' ((sz j' : Nat) : Int)) = some (.int ((cnt W [] bs' ((sz j' : Nat) : Int) : Nat) : Int)) := fun i' bs' j' h1 h2 h3 h4 => by
            rw [valV_put]
            by_cases q : ekey bs' ((sz j' : Nat) : Int) = ekey bs ((sz j : Nat) : Int)
            · rw [if_pos q]
              obtain ⟨q1, q2⟩ := ekey_inj q
              rw [q1, q2]
            · rw [if_neg q]
              exact kv6 i' bs' j' h1 h2 h3 h4
          have kw9 : ∀ k' z, k' < k + 1 → (alw sz p M bs)[k']? = some z → valV (putK kvs (ekey bs ((sz j : Nat) : Int)) (.int ((cnt W [] bs ((sz j : Nat) : Int) : Nat) : Int))) (ekey bs z) = some (.int ((cnt W [] bs z : Nat) : Int)) := fun k' z h1 h2 => by
            rw [valV_put]
            by_cases q : ekey bs z = ekey bs ((sz j : Nat) : Int)
            · rw [if_pos q, (ekey_inj q).2]
            · rw [if_neg q]
              rcases Nat.lt_or_ge k' k with w | w
              · exact kw6 k' z w h2
              · obtain rfl : k' = k := by omega
                rw [hz] at h2
                cases h2
                exact absurd rfl q
          generalize hkv : putK kvs (ekey bs ((sz j : Nat) : Int)) (.int ((cnt W [] bs ((sz j : Nat) : Int) : Nat) : Int)) = kvs9 at *
          -- the test
          refine ⟨.ref E, rfl, .ref t, rfl, .int _, rfl, (by show 2 ≤ sizeLine; decide), fun T2 nT2 => ?_⟩
          have sT2 := same_upd (o := .tup [.ref t, .int ((sz j : Nat) : Int)]) nT2
          have hT2 : upd H9 T2 (.tup [.ref t, .int ((sz j : Nat) : Int)]) T2 = some (.tup [.ref t, .int ((sz j : Nat) : Int)]) := upd_same
          have kd10 := kd9.same sT2
          have lsd10 := lsd9.kt (Same.kt sT2) fun o h => sT2 _ _ h
          have g10 := g9.trans (KG.same sT2)
          have ht10 := ht9.same sT2
          generalize upd H9 T2 (.tup [.ref t, .int ((sz j : Nat) : Int)]) = H10 at *
          refine ⟨E, T2, _, ekey bs ((sz j : Nat) : Int), .int ((cnt W [] bs ((sz j : Nat) : Int) : Nat) : Int), rfl, rfl, kd10, ekey_nk hT2 ht10, ekey_depth _ _, kw9 k _ (by omega) hz, rfl, _, rfl, ite2 (fun cc => ?_) (fun cc => ?_)⟩
          · have c0 : cnt W [] bs ((sz j : Nat) : Int) = 0 := by
              have := V.int.inj (of_decide_eq_true cc)
              omega
            have no : plcs W bs ((sz j : Nat) : Int) = [] := List.length_eq_zero_iff.mp (by rw [← cn0]; exact c0)
            have one : Lst sz p M W 1 bs := lst_one.mpr ⟨j, hj, lim, fun a ha => by
              have := (mem_plcs (by omega) (by omega) gbs.st).mpr ha
              rw [no] at this
              cases this⟩
            refine ⟨.int _, rfl, (by show 2 ≤ sizeLine; decide), fun R nR => ⟨(by show 2 ≤ sizeLine; decide), fun U nU => ?_⟩⟩
            have sR := same_upd (o := .tup [.str "get", .int ((sz j : Nat) : Int)]) nR
            have sU := same_upd (o := .tup [.int 1, .ref R]) nU
            have sRU := sR.trans sU
            have rq : ReqAt (upd (upd H10 R (.tup [.str "get", .int ((sz j : Nat) : Int)])) U (.tup [.int 1, .ref R])) (.ref R) (.gt ((sz j : Nat) : Int)) := ⟨R, rfl, sU _ _ upd_same⟩
            have hU : upd (upd H10 R (.tup [.str "get", .int ((sz j : Nat) : Int)])) U (.tup [.int 1, .ref R]) U = some (.tup [.int ((1 : Nat) : Int), .ref R]) := upd_same
            have kd11 := kd10.same sRU
            have lsd11 := lsd10.kt (Same.kt sRU) fun o h => sRU _ _ h
            have g11 := g10.trans (KG.same sRU)
            have ht11 := ht10.same sRU
            generalize upd (upd H10 R (.tup [.str "get", .int ((sz j : Nat) : Int)])) U (.tup [.int 1, .ref R]) = H11 at *
            have fewu := lsd11.few fun bs g => (hbs bs).mpr g
            refine ⟨.ref N, rfl, .ref t, rfl, N, t, us, skey bs, rfl, rfl, lsd11.kd, ht11.nk, skey_depth _, Nat.lt_of_le_of_lt (Nat.le_trans fewu bl) (by decide), fun H12 b12 kd12 => ?_⟩
            have lsd12 := lsd11.put b12 kd12 ht11 gbs hU rq (rnk_one one) ⟨j, hj, rfl, lim, 0, rfl, fun a ha => by
              have := (mem_plcs (by omega) (by omega) gbs.st).mpr ha
              rw [no] at this
              cases this⟩
            refine ⟨_, _, kvs9, rfl, g11.trans (KG.putX b12 lsd11.kd), kd11.kt (b12.ktX lsd11.kd) (fun u h => b12 _ _ NE.symm h), ks9, kv9, kw9, lsd12, fun b h => ?_, fun i' b h1 h2 h3 => (al6 i' b h1 h2 h3).put, fun k' z h1 h2 h3 => InK.new⟩
            rcases h.inv with h | h
            · rw [h]; exact one
            · exact up6 b h
          · refine ⟨_, us, kvs9, rfl, g10, kd10, ks9, kv9, kw9, lsd10, up6, al6, fun k' z h1 h2 h3 => ?_⟩
            rcases Nat.lt_or_ge k' k with w | w
            · exact st6 k' z w h2 h3
            · obtain rfl : k' = k := by omega
              rw [hz] at h2
              cases h2
              refine absurd (decide_eq_true ?_) cc
              rw [cn0, h3]
              rfl
        · rintro σ H6 ⟨y6, us, kvs, rfl, g6, kd6, ks6, kv6, kw6, lsd6, up6, al6, st6⟩
          rw [List.length_map] at kw6 st6
          refine ⟨_, _, us, kvs, rfl, g5.trans g6, kd6, ks6, fun i' b j h1 h2 h3 h4 => ?_, lsd6, up6, fun i' b h1 h2 h3 => ?_⟩
          · rcases Nat.lt_or_ge i' i with w | w
            · exact kv6 i' b j w h2 h3 h4
            · obtain rfl : i' = i := by omega
              rw [hbs_i] at h2
              cases h2
              obtain ⟨k', hk', e⟩ := List.getElem_of_mem (alw_mem.mpr ⟨j, h3, rfl, h4⟩)
              exact kw6 k' _ hk' (by rw [List.getElem?_eq_getElem hk', e])
          · rcases Nat.lt_or_ge i' i with w | w
            · exact al6 i' b w h2 h3
            · obtain rfl : i' = i := by omega
              rw [hbs_i] at h2
              cases h2
              obtain ⟨j, hj, lim, no⟩ := lst_one.mp h3
              obtain ⟨k', hk', e⟩ := List.getElem_of_mem (alw_mem.mpr ⟨j, hj, rfl, lim⟩)
              refine st6 k' _ hk' (by rw [List.getElem?_eq_getElem hk', e]) (List.eq_nil_iff_forall_not_mem.mpr fun a ha => no a ((mem_plcs (by have := szp j hj; omega) (by omega) gbs.st).mp ha))
      · rintro σ H4 ⟨y5, y6, us, kvs, rfl, g4, kd4, ks4, kv4, lsd4, up4, al4⟩
        have xl : xs.length = bss.length := Paired.length hxs
        have bl6 : bss.length * (p + 1) ≤ 531441 * 6 := Nat.mul_le_mul bl (by omega)
        refine hD' _ _ ⟨y5, y6, us, bss, rfl, (Same.kt s3).trans g4.kt, fun a o n1 n2 h => g4.fr _ _ n1 n2 (s3 _ _ h), hbs, bl, ⟨kvs, kd4, by have := ekeys_few (KD.ndk kd4) ks4; omega, fun b j gb hj l => ?_⟩, lsd4, fun b => ?_⟩
        · obtain ⟨i', hi', e⟩ := List.getElem_of_mem ((hbs b).mpr gb)
          exact kv4 i' b j (by omega) (by rw [List.getElem?_eq_getElem hi', e]) hj l
        · constructor
          · exact fun h => ⟨lsd4.gst h, up4 b h⟩
          · rintro ⟨gb, l⟩
            obtain ⟨i', hi', e⟩ := List.getElem_of_mem ((hbs b).mpr gb)
            exact al4 i' b (by omega) (by rw [List.getElem?_eq_getElem hi', e]) l
    · rintro σ' H3 ⟨y5, y6, us, bss, rfl, k3, fr3, hbs, bl, esc3, lsd3, hus⟩
      have fixH : Same H H3 := fun a o h => fr3 _ _ (ne_of_none h nN) (ne_of_none h nEH) (s02 _ _ h)
      have hc3 := hc.keep fixH
      refine ⟨.ref N, rfl, N, us, rfl, lsd3.kd.r, fun nl nnl => ?_⟩
      have snl := same_upd (o := .lst (us.map fun x => V.ref x.2.1)) nnl
      have hnl : upd H3 nl (.lst (us.map fun x => V.ref x.2.1)) nl = some (.lst (us.map fun x => V.ref x.2.1)) := upd_same
      have lsd4 := lsd3.kt (Same.kt snl) fun o h => snl _ _ h
      have esc4 := esc3.kt (Same.kt snl) fun o h => snl _ _ h
      obtain ⟨ns, hns, _, nd, mns⟩ := lsd4.list
      have fix4 : Same H (upd H3 nl (.lst (us.map fun x => V.ref x.2.1))) := Same.trans fixH snl
      generalize upd H3 nl (.lst (us.map fun x => V.ref x.2.1)) = H4 at *
      dsimp only [gName]
      refine seq_splitR (fun σ' H' => ∃ (y5 y6 y7 y8 : Option V) (us : List KAV), σ' = [some (.ref c), some (.int M), some (.int n), some (.ref N), some (.ref E), y5, y6, y7, y8] ∧ Same H H' ∧ Lsd w sz p M W H' N us ∧ ∀ bs, InK us bs ↔ Gst sz p M W bs ∧ ∃ k, Lst sz p M W k bs) (fun D2 rt2 hD2 => ?_) ?_
      rotate_left
      · rintro σ' H5 ⟨y5, y6, y7, y8, us, rfl, s5, lsd5, hus5⟩
        exact ⟨.ref N, rfl, fin H5 N us nN s5 lsd5 (Nat.le_trans (lsd5.few fun bs g => (hbs bs).mpr g) bl) hus5⟩
      refine ⟨fun q σ H' => ∃ (y5 y6 : Option V) (m : Nat) (nl : Addr) (xs : List V) (ps ns : List (List Bk)) (us : List KAV), σ = [some (.ref c), some (.int M), some (.int n), some (.ref N), some (.ref E), y5, y6, some (.int ((m : Nat) : Int)), some (.ref nl)] ∧ Same H H' ∧ 1 ≤ m ∧ H' nl = some (.lst xs) ∧ StVs H' xs ns ∧ ns.Nodup ∧ (∀ x, x ∈ ns ↔ Gst sz p M W x ∧ Rnk sz p M W m x) ∧ (∀ x, x ∈ ps ↔ Gst sz p M W x ∧ Lst sz p M W (m - 1) x) ∧ Esc w H' E sz p M W ps ∧ Lsd w sz p M W H' N us ∧ (∀ bs, InK us bs ↔ Gst sz p M W bs ∧ Lst sz p M W m bs) ∧ q = 2 * (531441 - us.length) + (if ns = [] then 0 else 1),
        ⟨_, y5, y6, 1, nl, _, [], ns, us, rfl, fix4, Nat.le_refl _, hnl, hns, nd, fun x => ?_, fun x => ⟨(fun h => nomatch h), fun h => h.2.elim⟩, esc4, lsd4, hus, rfl⟩, ?_⟩
      · rw [mns, hus]
        exact ⟨fun h => ⟨h.1, rnk_one h.2⟩, fun h => ⟨h.1, h.2.1⟩⟩
      rintro q σ H5 ⟨y5, y6, m, nl5, xs, ps, ns5, us5, rfl, s5, m1, hnl5, hx5, nd5, mn5, mp5, esc5, lsd5, hus5, rfl⟩
      have xl : xs.length = ns5.length := Paired.length hx5
      refine ⟨.ref nl5, rfl, !xs.isEmpty, .inl ⟨xs, .inl (.inl hnl5), by cases xs <;> simp⟩, ite2 (fun cc => ?_) (fun cc => ?_)⟩
      · have ne5 : ns5 ≠ [] := fun z => by
          rw [z] at xl
          have : xs = [] := List.length_eq_zero_iff.mp xl
          rw [this] at cc
          cases cc
        refine ⟨_, fun σ' H' h => h, ?_⟩
        refine ⟨_, rfl, _, _, rfl, rfl, ?_⟩
        dsimp only
        have em : ((m : Nat) : Int) + 1 = ((m + 1 : Nat) : Int) := by omega
        rw [em]
        refine ⟨.ref c, rfl, .int M, rfl, .int n, rfl, .ref nl5, rfl, .int _, rfl, .ref N, rfl, .ref E, rfl, c, nl5, N, E, sz, p, n, M, m, mm, xs, ps, ns5, bss, us5, rfl, hc.keep s5, cn, sml, hnl5, hx5, nd5, m1, by rw [hW]; exact mn5, by rw [hW]; exact mp5, by rw [hW]; exact fun bs g => (hbs bs).mpr g, bl, by rw [hW]; exact esc5, by rw [hW]; exact lsd5, by rw [hW]; exact hus5, NE, fun H6 D ys fs us6 nD k6 fr6 esc6 lsd6 hus6 hD6 hf6 nd6 mf6 ln6 => ?_⟩
        rw [hW] at esc6 lsd6 hus6 mf6
        have few := lsd6.few fun bs g => (hbs bs).mpr g
        refine ⟨2 * (531441 - us6.length) + (if fs = [] then 0 else 1), ?_, y5, y6, m + 1, D, ys, ps ++ ns5, fs, us6, rfl, fun a o h => fr6 _ _ (ne_of_none h nN) (ne_of_none h nEH) (s5 _ _ h), by omega, hD6, hf6, nd6, mf6, fun x => ?_, esc6, lsd6, hus6, rfl⟩
        · rw [if_neg ne5]
          split
          · rename_i z
            rw [z] at ln6
            rw [ln6]
            show 2 * (531441 - (us5.length + 0)) + 0 < _
            omega
          · rename_i z
            have : 1 ≤ fs.length := by
              cases fs with
              | nil => exact absurd rfl z
              | cons a r => rw [List.length_cons]; omega
            omega
        · rw [List.mem_append, mp5, mn5, Nat.add_sub_cancel]
          constructor
          · rintro (⟨g, l⟩ | ⟨g, l⟩)
            · exact ⟨g, l.mono (by omega)⟩
            · exact ⟨g, l.1⟩
          · rintro ⟨g, l⟩
            rcases Classical.em (Lst sz p M W (m - 1) x) with z | z
            · exact .inl ⟨g, z⟩
            · exact .inr ⟨g, l, fun k hk lk => z (lk.mono (by omega))⟩
      · refine hD2 _ _ ⟨y5, y6, _, _, us5, rfl, s5, lsd5, fun bs => ?_⟩
        have e5 : ns5 = [] := by
          cases xs with
          | nil => exact List.length_eq_zero_iff.mp xl.symm
          | cons a r => exact absurd rfl cc
        rw [hus5]
        refine ⟨fun h => ⟨h.1, m, h.2⟩, fun ⟨g, k, l⟩ => ⟨g, ?_⟩⟩
        have stop : ∀ bs, Gst sz p M W bs → Lst sz p M W (m - 1 + 1) bs → Lst sz p M W (m - 1) bs := fun b gb lb => Classical.byContradiction fun z => by
          rw [Nat.sub_add_cancel m1] at lb
          have : b ∈ ns5 := (mn5 b).mpr ⟨gb, lb, fun k hk lk => z (lk.mono (by omega))⟩
          rw [e5] at this
          cases this
        rcases Nat.lt_or_ge k m with z | z
        · exact l.mono (by omega)
        · exact (Lst.stop cn.ch stop (by omega) g l).mono (by omega)
end
end Ph

set_option maxHeartbeats 8000000
namespace Ph
open PySem PySem.Spec PyProof.Rows L2
/-- every number of moves up to the greatest is some state's -/
theorem rnk_down {s : Nat → Nat} {p M : Nat} {W : Int} (c : CH s (p + 1)) {r k : Nat} {bs : List Bk} (g : Gst s p M W bs) (rk : Rnk s p M W r bs) (k1 : 1 ≤ k) (kr : k ≤ r) : ∃ b, Gst s p M W b ∧ Rnk s p M W k b := by
  refine Classical.byContradiction fun no => ?_
  have stop : ∀ b, Gst s p M W b → Lst s p M W (k - 1 + 1) b → Lst s p M W (k - 1) b := fun b gb lb => Classical.byContradiction fun z => by
    rw [Nat.sub_add_cancel k1] at lb
    exact no ⟨b, gb, lb, fun j hj l => z (l.mono (by omega))⟩
  exact rk.2 (k - 1) (by omega) (Lst.stop c stop (by omega) g rk.1)
theorem rnk_le {s : Nat → Nat} {p M : Nat} {W : Int} (c : CH s (p + 1)) {us : List KAV} (hus : ∀ bs, InK us bs ↔ Gst s p M W bs ∧ ∃ k, Lst s p M W k bs) {r : Nat} {bs : List Bk} (g : Gst s p M W bs) (rk : Rnk s p M W r bs) : r ≤ us.length := by
  have ex : ∀ i : Nat, ∃ b, i < r → Gst s p M W b ∧ Rnk s p M W (i + 1) b := fun i => by
    rcases Nat.lt_or_ge i r with h | h
    · obtain ⟨b, h1, h2⟩ := rnk_down c g rk (k := i + 1) (by omega) (by omega)
      exact ⟨b, fun _ => ⟨h1, h2⟩⟩
    · exact ⟨[], fun z => absurd z (by omega)⟩
  obtain ⟨f, hf⟩ := Classical.axiomOfChoice ex
  have := nodup_le (l := (List.range r).map fun i => skey (f i)) (m := us.map (·.1)) (List.pairwise_map.mpr (List.pairwise_lt_range.imp_of_mem fun {i j} hi hj h e => by
    have e := skey_inj e
    have h1 := (hf i (List.mem_range.mp hi)).2
    have h2 := (hf j (List.mem_range.mp hj)).2
    rw [e] at h1
    have := h1.uniq h2
    omega)) fun k hk => by
    obtain ⟨i, hi, rfl⟩ := List.mem_map.mp hk
    obtain ⟨h1, h2⟩ := hf i (List.mem_range.mp hi)
    obtain ⟨x, hx, e⟩ := ((hus (f i)).mpr ⟨h1, _, h2.1⟩).mem
    exact List.mem_map.mpr ⟨x, hx, e⟩
  rw [List.length_map, List.length_map, List.length_range] at this
  exact this
section
variable {P : Program} {w : World} {K : PySem.W.Frag} {mg : Str → Option Value} {base : Heap}
def GmAt (H : Hp) (c t : Addr) (s : Nat → Nat) (p n M m : Nat) (bs : List Bk) : Prop := ChAt H c (tl s (p + 1)) ∧ Cn s p m ∧ Sml s p n ∧ StAt H t bs ∧ Gst s p M ((n * s p : Nat) : Int) bs
def spCk : Sp := fun vs H Q _ => ∃ (c t : Addr) (s : Nat → Nat) (p n M m : Nat) (bs : List Bk), vs = [.ref c, .int M, .int n, .ref t] ∧ GmAt H c t s p n M m bs ∧ ∀ H' v, Same H H' → Q v H'
theorem ok_Ck {k : Nat} (Z : Fns K mg) : FnOk P w K mg base CX0 (k + 1 + 1 + 1 + 1 + 1) Z.fCk Z.fdCk ["chain", "limit", "pages", "state"] spCk := by
  have GS : FnOk P w K mg base CX0 (k + 1 + 1 + 1 + 1) Z.fS Z.fdS ["chain", "pages", "value"] spS := ok_S Z
  have GV : FnOk P w K mg base CX0 (k + 1) Z.fV Z.fdV ["state"] spV := ok_V Z
  have GCh : FnOk P w K mg base CX0 (k + 1 + 1 + 1) Z.fCh Z.fdCh ["chain", "pages"] (spCh K) := ok_Ch Z
  refine Z.FCk.ok scCk (fun vs H Q E h => ?_) (fun cdv A outer s H vs Q E hr h => ?_)
  · obtain ⟨c, t, s, p, n, M, m, bs, rfl, _⟩ := h
    rfl
  · obtain ⟨c, t, sz, p, n, M, m, bs, rfl, ⟨hc, cn, sml, ht, g⟩, fin⟩ := h
    refine ⟨_, (pss_cons (ps_if (PW.pt (pw_or (pt_not (pt_val (pe_call GS (hr.mono (by omega)) (by rfl) Z.gS Z.FS.kp Z.bS .nil pass0 (pa_cons (pv 0) (pa_cons (pv 2) (pa_cons (pv 3) pa_nil)))))) (pw_or1 (pt_cmpR op_gt (pe_call GV (hr.mono (by omega)) (by rfl) Z.gV Z.FV.kp Z.bV .nil pass0 (pa_cons (pv 3) pa_nil)) (pv 1) (nomark _)))))
 (pss_one ps_never) pss_nil)
 (pss_one (ps_expr (pe_call GCh (hr.mono (by omega)) (by rfl) Z.gCh Z.FCh.kp Z.bCh .nil pass0 (pa_cons (pv 0) (pa_cons (pv 2) pa_nil)))))), ?_⟩
    have n1 := sml.n
    have w1 := sml.w
    have z1 := sml.z
    have few := st_len g.st (by omega)
    have fw : ((n * sz p : Nat) : Int) ≤ 12 := by omega
    have hc' : ChAt H c (tl sz p ++ [((sz p : Nat) : Int)]) := by rw [← tl_succ]; exact hc
    have eW : ((n : Nat) : Int) * ((sz p : Nat) : Int) = ((n * sz p : Nat) : Int) := (Int.natCast_mul _ _).symm
    refine ⟨.ref c, rfl, .int n, rfl, .ref t, rfl, c, t, tl sz p, ((sz p : Nat) : Int), n, bs, rfl, hc', fun z hz => ?_, by omega, by omega, ht, by rw [← tl_succ, eW]; exact g.st, by omega, fun H1 s1 => ⟨true, rfl, ite2 (fun c => absurd c (by decide)) (fun _ => ?_)⟩⟩
    · rw [← tl_succ] at hz
      obtain ⟨j, hj, rfl⟩ := tl_mem.mp hz
      have := cn.ch.pos hj
      have := cn.ch.mono (i := j) (j := p) (by omega) (by omega)
      omega
    refine ⟨.ref t, rfl, t, bs, rfl, ht.same s1, by omega, fun H2 s2 => ⟨.int M, rfl, tot bs, (M : Int), rfl, rfl, _, rfl, ite2 (fun c => absurd (of_decide_eq_true c) (by have := g.lim; have e : tot bs = totB bs := rfl; omega)) (fun _ => ?_)⟩⟩
    exact ⟨.ref c, rfl, .int n, rfl, c, sz, p, n, m, rfl, (hc.keep (s1.trans s2)).sq, cn, sml, fun H3 v s3 => fin _ _ (s1.trans (s2.trans s3))⟩
def spMv : Sp := fun vs H Q _ => ∃ (c t : Addr) (s : Nat → Nat) (p n M m : Nat) (bs : List Bk), vs = [.ref c, .int M, .int n, .ref t] ∧ GmAt H c t s p n M m bs ∧ ∀ H' v, Same H H' → ((v = .non ∧ ∀ k, ¬ Lst s p M ((n * s p : Nat) : Int) k bs) ∨ ∃ r : Nat, v = .int (r : Int) ∧ r ≤ 531441 ∧ Rnk s p M ((n * s p : Nat) : Int) r bs) → Q v H'
theorem ok_Mv {k : Nat} (Z : Fns K mg) : FnOk P w K mg base CX0 (k + 1 + 1 + 1 + 1 + 1 + 1 + 1 + 1 + 1) Z.fMv Z.fdMv ["chain", "limit", "pages", "state"] spMv := by
  have GCk : FnOk P w K mg base CX0 (k + 1 + 1 + 1 + 1 + 1) Z.fCk Z.fdCk ["chain", "limit", "pages", "state"] spCk := ok_Ck Z
  have GUs : FnOk P w K mg base CX0 (k + 1 + 1 + 1 + 1 + 1 + 1 + 1 + 1) Z.fUs Z.fdUs ["chain", "limit", "pages"] (spUs w) := ok_Us Z
  refine Z.FMv.ok scMv (fun vs H Q E h => ?_) (fun cdv A outer s H vs Q E hr h => ?_)
  · obtain ⟨c, t, s, p, n, M, m, bs, rfl, _⟩ := h
    rfl
  · obtain ⟨c, t, sz, p, n, M, m, bs, rfl, gm, fin⟩ := h
    have hu64 := u64_of hr
    refine ⟨_, (pss_cons (ps_expr (pe_call GCk (hr.mono (by omega)) (by rfl) Z.gCk Z.FCk.kp Z.bCk .nil pass0 (pa_cons (pv 0) (pa_cons (pv 1) (pa_cons (pv 2) (pa_cons (pv 3) pa_nil))))))
 (pss_cons (ps_set (i := 4) scMv.nd rfl (.inl rfl) (pe_call GUs (hr.mono (by omega)) (by rfl) Z.gUs Z.FUs.kp Z.bUs .nil pass0 (pa_cons (pv 0) (pa_cons (pv 1) (pa_cons (pv 2) pa_nil)))))
 (pss_cons (ps_if (pt_cmpR (op_xNotIn hu64) (pv 3) (pv 4) (by rfl))
 (pss_one (ps_ret pe_non)) pss_nil)
 (pss_one (ps_ret (pe_ix ix_tup (pe_xget hu64 (pv 4) (pv 3) (fun _ _ => rfl)) pe_int (fun _ _ => rfl))))))), ?_⟩
    obtain ⟨hc, cn, sml, ht, g⟩ := id gm
    refine ⟨.ref c, rfl, .int M, rfl, .int n, rfl, .ref t, rfl, c, t, sz, p, n, M, m, bs, rfl, gm, fun H1 v1 s1 => ?_⟩
    refine ⟨.ref c, rfl, .int M, rfl, .int n, rfl, c, sz, p, n, M, m, rfl, hc.keep s1, cn, sml, fun H2 N us nN s2 lsd ul hus => ?_⟩
    have ht2 := ht.same (s1.trans s2)
    dsimp only [gName]
    refine ⟨.ref t, rfl, .ref N, rfl, N, t, us, skey bs, rfl, rfl, lsd.kd.r, ht2.nk, skey_depth _, _, rfl, ite2 (fun cc => ?_) (fun cc => ?_)⟩
    · obtain ⟨_, nin⟩ := InK.not cc
      exact fin _ _ (s1.trans s2) (.inl ⟨rfl, fun k l => nin ((hus bs).mpr ⟨g, k, l⟩)⟩)
    · obtain ⟨x, hx, ex⟩ := (InK.yes cc).mem
      obtain ⟨bs', r, q, u, v, e, st, _, ev, hu, rq, rk, gs⟩ := lsd.en x hx
      have := skey_inj (ex.symm.trans e)
      subst this
      refine ⟨.ref N, rfl, .ref t, rfl, N, t, us, skey bs, _, rfl, rfl, lsd.kd.r, ht2.nk, skey_depth _, valV_kv2 lsd.kd.nd hx ex, ?_⟩
      rw [ev]
      exact ⟨u, _, 0, _, rfl, rfl, .inl (.inl hu), rfl, fin _ _ (s1.trans s2) (.inr ⟨r, rfl, Nat.le_trans (rnk_le cn.ch hus g rk) ul, rk⟩)⟩
end
end Ph

set_option maxHeartbeats 8000000
namespace Ph
open PySem PySem.Spec PyProof.Rows L2
section
variable {P : Program} {w : World} {K : PySem.W.Frag} {mg : Str → Option Value} {base : Heap}
def spSc (K : PySem.W.Frag) : Sp := fun vs H Q _ => ∃ (a : Addr) (ns : List Int) (k : Nat), vs = [.ref a, .int k] ∧ SqL K H a (ns.map V.int) ∧ k ≤ 1000 ∧ ∀ H' p, Same H H' → H p = none → So 0 H' p → Q (.ref p) H'
theorem ok_Sc {k : Nat} (Z : Fns K mg) : FnOk P w K mg base CX0 (k + 1) Z.fSc Z.fdSc ["_law_script", "_law_k"] (spSc K) := by
  refine Z.FSc.ok scSc (fun vs H Q E h => ?_) (fun cdv A outer s H vs Q E hr h => ?_)
  · obtain ⟨a, ns, k, rfl, _⟩ := h
    rfl
  · obtain ⟨a, ns, n, rfl, hS, hn, q⟩ := h
    refine ⟨_, (pss_cons (ps_set (i := 2) scSc.nd rfl (.inl rfl) (pe_ifExp (pt_cmpR op_lt (pv 1) (pe_callB call_len_seq (by rfl) Z.N.len (by decide +kernel) (pa_cons (pv 0) pa_nil)) (nomark _)) (pe_ix ix_list (pv 0) (pv 1) (fun _ _ => rfl)) (pe_op op_add (pe_op op_mul pe_int (pv 1)) pe_int)))
 (pss_cons (ps_set (i := 3) scSc.nd rfl (.inl rfl) (pe_op op_mulW (pe_op op_mod (pe_callB call_abs (by rfl) Z.N.abs (by decide +kernel) (pa_cons (pv 2) pa_nil)) (pe_op op_powW (pe_op op_pow pe_int pe_int) pe_int)) (pe_callTy call_int1 (by rfl) Z.N.int (by decide +kernel) (pa_cons (pe_cmpR op_ge (pe_callB call_abs (by rfl) Z.N.abs (by decide +kernel) (pa_cons (pv 2) pa_nil)) (pe_op op_pow pe_int pe_int) (nomark _)) pa_nil))))
 (pss_one (ps_ret (pe_lst (pa_cons (pv 3) (pa_cons (pe_op op_mod (pe_op op_add (pe_op op_add (pe_op op_mul (pe_op op_mod (pv 2) pe_int) pe_int) (pe_op op_mul pe_int (pv 1))) pe_int) pe_int) (pa_cons pe_int pa_nil)))))))), ?_⟩
    refine ⟨.int n, rfl, .ref a, rfl, a, ns.map V.int, rfl, .inl hS, _, _, rfl, rfl, _, rfl, ite2 (fun e => ?z1) (fun e => ?z2)⟩
    case z1 =>
      have e1 : (n : Int) < ((ns.map V.int).length : Nat) := of_decide_eq_true e
      have e2 : n < ns.length := by
        rw [List.length_map] at e1
        omega
      refine ⟨.ref a, rfl, .int n, rfl, a, ns.map V.int, n, .int ns[n], rfl, rfl, hS, atI_nat (j := n) (by rw [List.getElem?_map, List.getElem?_eq_getElem e2]; rfl), ?_⟩
      refine ⟨.int _, rfl, _, rfl, _, _, rfl, rfl, ⟨by decide, by decide, by decide⟩, _, _, rfl, rfl, pow_ok60, _, _, rfl, rfl, ten300_pos, .int _, rfl, _, rfl, _, _, rfl, rfl, ⟨by decide, by decide, by decide⟩, _, _, rfl, rfl, .inr ⟨_, rfl, _, _, rfl, rfl, gm_mul ten300_pos ten300_lt _, ?_⟩⟩
      refine ⟨_, rfl, .int _, rfl, _, _, rfl, rfl, (by decide : (0 : Int) < 2305843009213693951), _, _, rfl, rfl, .inr ⟨by decide, by decide⟩, .int n, rfl, _, _, rfl, rfl, .inl ⟨by decide, by decide⟩, _, _, rfl, rfl, _, _, rfl, rfl, _, _, rfl, rfl, (by decide : (0 : Int) < 2305843009213693921), (by show 3 ≤ sizeLine; decide), fun p np => ?_⟩
      exact q _ p (same_upd np) np ⟨_, _, _, upd_same, ⟨(gm_pot ten300_pos ten300_lt _).1, (gm_pot ten300_pos ten300_lt _).2, Int.emod_nonneg _ (by decide), Int.lt_trans (Int.emod_lt_of_pos _ (by decide)) (by decide), by decide⟩, by decide⟩
    case z2 =>
      refine ⟨.int n, rfl, _, _, rfl, rfl, .inl ⟨by decide, by decide⟩, _, _, rfl, rfl, ?_⟩
      refine ⟨.int _, rfl, _, rfl, _, _, rfl, rfl, ⟨by decide, by decide, by decide⟩, _, _, rfl, rfl, pow_ok60, _, _, rfl, rfl, ten300_pos, .int _, rfl, _, rfl, _, _, rfl, rfl, ⟨by decide, by decide, by decide⟩, _, _, rfl, rfl, .inr ⟨_, rfl, _, _, rfl, rfl, gm_mul ten300_pos ten300_lt _, ?_⟩⟩
      refine ⟨_, rfl, .int _, rfl, _, _, rfl, rfl, (by decide : (0 : Int) < 2305843009213693951), _, _, rfl, rfl, .inr ⟨by decide, by decide⟩, .int n, rfl, _, _, rfl, rfl, .inl ⟨by decide, by decide⟩, _, _, rfl, rfl, _, _, rfl, rfl, _, _, rfl, rfl, (by decide : (0 : Int) < 2305843009213693921), (by show 3 ≤ sizeLine; decide), fun p np => ?_⟩
      exact q _ p (same_upd np) np ⟨_, _, _, upd_same, ⟨(gm_pot ten300_pos ten300_lt _).1, (gm_pot ten300_pos ten300_lt _).2, Int.emod_nonneg _ (by decide), Int.lt_trans (Int.emod_lt_of_pos _ (by decide)) (by decide), by decide⟩, by decide⟩
def spNu : Sp := fun vs H Q _ => ∃ (p : Addr) (b : Int) (N : Nat), vs = [.ref p, .int b] ∧ So N H p ∧ N ≤ 1000000 ∧ 0 < b ∧ b < 4611686018427387904 ∧ ∀ H' d, But p H H' → So (N + 1) H' p → 0 ≤ d → d < b → Q (.int d) H'
theorem ok_Nu {k : Nat} (Z : Fns K mg) : FnOk P w K mg base CX0 (k + 1) Z.fNu Z.fdNu ["_law_source_here", "_law_below"] spNu := by
  refine Z.FNu.ok scNu (fun vs H Q E h => ?_) (fun cdv A outer s H vs Q E hr h => ?_)
  · obtain ⟨p, n, N, rfl, _⟩ := h
    rfl
  · obtain ⟨p, n, N, rfl, ⟨g, r, m, hp, hv, hN⟩, N1, hn0, hn1, q⟩ := h
    refine ⟨_, (pss_cons (ps_if (pt_cmpR op_gt (pe_ix ix_list (pv 0) pe_int (fun _ _ => rfl)) pe_int (nomark _))
 (pss_cons (ps_set (i := 2) scNu.nd rfl (.inl rfl) (pe_op op_mod (pe_ix ix_list (pv 0) pe_int (fun _ _ => rfl)) (pv 1)))
 (pss_cons (ps_asg (pe_op op_fdivW (pe_ix ix_list (pv 0) pe_int (fun _ _ => rfl)) (pv 1)) (pg_sub (pv 0) pe_int set_list))
 (pss_one (ps_ret (pv 2))))) pss_nil)
 (pss_cons (ps_asg (pe_op op_add (pe_ix ix_list (pv 0) pe_int (fun _ _ => rfl)) pe_int) (pg_sub (pv 0) pe_int set_list))
 (pss_cons (ps_set (i := 3) scNu.nd rfl (.inl rfl) (pe_ix ix_list (pv 0) pe_int (fun _ _ => rfl)))
 (pss_cons (ps_set (i := 4) scNu.nd rfl (.inl rfl) (pe_op op_mod (pe_op op_pow (pe_op op_add (pe_op op_add (pe_ix ix_list (pv 0) pe_int (fun _ _ => rfl)) (pe_op op_mul (pe_op op_mul pe_int (pv 3)) (pv 3))) pe_int) pe_int) pe_int))
 (pss_cons (ps_set (i := 4) scNu.nd rfl (.inl rfl) (pe_op op_mod (pe_op op_mul (pv 4) (pe_op op_add (pe_op op_mod (pv 4) pe_int) (pe_op op_mul pe_int (pe_ix ix_list (pv 0) pe_int (fun _ _ => rfl))))) pe_int))
 (pss_one (ps_ret (pe_op op_mod (pe_op op_fdiv (pv 4) pe_int) (pv 1))))))))), ?_⟩
    have hL : SqL K H p [.int g, .int r, .int m] := .inl (.inl hp)
    refine ⟨.ref p, rfl, p, _, 0, .int g, rfl, rfl, hL, atI_nat (j := 0) rfl, g, 0, rfl, rfl, _, rfl, ite2 (fun e => ?_) (fun e => ?_)⟩
    · refine ⟨.ref p, rfl, p, _, 0, .int g, rfl, rfl, hL, atI_nat (j := 0) rfl, .int n, rfl, g, n, rfl, rfl, hn0, ?_⟩
      refine ⟨.ref p, rfl, p, _, 0, .int g, rfl, rfl, hL, atI_nat (j := 0) rfl, .int n, rfl, g, n, rfl, rfl, wide_div (b := 62) hn0 ?_ (by decide) (by decide), .ref p, rfl, p, _, 0, 0, rfl, rfl, hp, rfl, _, rfl, ?_⟩
      · have : (2 : Nat) ^ 62 = 4611686018427387904 := by decide
        rw [this]
        omega
      · have d0 : 0 ≤ g / n := Int.ediv_nonneg hv.g0 (by omega)
        have d1 : g / n ≤ g := Int.ediv_le_self _ hv.g0
        refine q _ _ but_upd ⟨_, _, _, upd_same, ⟨d0, wide_le d0 d1 hv.g1, hv.r0, hv.r1, hv.n0⟩, by omega⟩ (Int.emod_nonneg _ (by omega)) (Int.emod_lt_of_pos _ hn0)
    · have n0 := hv.n0
      have r0 := hv.r0
      have r1 := hv.r1
      refine ⟨.ref p, rfl, p, _, 2, .int m, rfl, rfl, hL, atI_nat (j := 2) rfl, _, _, rfl, rfl, .ref p, rfl, p, _, 2, 2, rfl, rfl, hp, rfl, ?_⟩
      have hp2 : upd H p (.lst [.int g, .int r, .int (m + 1)]) p = some (.lst [.int g, .int r, .int (m + 1)]) := upd_same
      have hL2 : SqL K (upd H p (.lst [.int g, .int r, .int (m + 1)])) p [.int g, .int r, .int (m + 1)] := .inl (.inl hp2)
      refine ⟨.ref p, rfl, p, _, 2, .int (m + 1), rfl, rfl, hL2, atI_nat (j := 2) rfl, ?_⟩
      have tt0 : 0 ≤ 104729 * (m + 1) * (m + 1) := Int.mul_nonneg (by omega) (by omega)
      have tt1 : 104729 * (m + 1) * (m + 1) ≤ 104729 * 1000001 * 1000001 := Int.mul_le_mul (by omega) (by omega) (by omega) (by decide)
      refine ⟨.ref p, rfl, p, _, 1, .int r, rfl, rfl, hL2, atI_nat (j := 1) rfl, .int (m + 1), rfl, _, _, rfl, rfl, .inl ⟨by decide, by decide⟩, .int (m + 1), rfl, _, _, rfl, rfl, .inr ⟨by omega, by omega⟩, _, _, rfl, rfl, _, _, rfl, rfl, _, _, rfl, rfl, ⟨by decide, by decide, ?_⟩, _, _, rfl, rfl, (by decide : (0 : Int) < 2305843009213693907), ?_⟩
      · generalize 104729 * (m + 1) * (m + 1) = y at *
        have : (2 : Nat) ^ 64 = 18446744073709551616 := by decide
        rw [this]
        omega
      dsimp only
      generalize (r + 104729 * (m + 1) * (m + 1) + 31) ^ (3 : Int).toNat = y
      have m0 : 0 ≤ y % 2305843009213693907 := Int.emod_nonneg _ (by decide)
      have m1 : y % 2305843009213693907 < 2305843009213693907 := Int.emod_lt_of_pos _ (by decide)
      generalize y % 2305843009213693907 = x at *
      refine ⟨.int x, rfl, .int x, rfl, _, _, rfl, rfl, (by decide : (0 : Int) < 999983), .ref p, rfl, p, _, 2, .int (m + 1), rfl, rfl, hL2, atI_nat (j := 2) rfl, _, _, rfl, rfl, .inl ⟨by decide, by decide⟩, _, _, rfl, rfl, _, _, rfl, rfl, .inl ⟨by omega, by omega⟩, _, _, rfl, rfl, (by decide : (0 : Int) < 2305843009213693723), ?_⟩
      refine ⟨.int _, rfl, _, _, rfl, rfl, ⟨by decide, by decide⟩, .int n, rfl, _, _, rfl, rfl, hn0, ?_⟩
      exact q _ _ but_upd ⟨_, _, _, hp2, ⟨hv.g0, hv.g1, r0, r1, by omega⟩, by omega⟩ (Int.emod_nonneg _ (by omega)) (Int.emod_lt_of_pos _ hn0)
def spCo (K : PySem.W.Frag) : Sp := fun vs H Q _ => ∃ (p l : Addr) (xs : List V) (N : Nat), vs = [.ref p, .ref l] ∧ So N H p ∧ N ≤ 1000000 ∧ (SqL K H l xs ∨ SqT K H l xs) ∧ l ≠ p ∧ xs ≠ [] ∧ xs.length ≤ 100000 ∧ ∀ H' x, But p H H' → So (N + 1) H' p → x ∈ xs → Q x H'
theorem ok_Co {k : Nat} (Z : Fns K mg) : FnOk P w K mg base CX0 (k + 1 + 1) Z.fCo Z.fdCo ["_law_source_here", "_law_some"] (spCo K) := by
  have GNu : FnOk P w K mg base CX0 (k + 1) Z.fNu Z.fdNu ["_law_source_here", "_law_below"] spNu := ok_Nu Z
  refine Z.FCo.ok scCo (fun vs H Q E h => ?_) (fun cdv A outer s H vs Q E hr h => ?_)
  · obtain ⟨p, l, xs, N, rfl, _⟩ := h
    rfl
  · obtain ⟨p, l, xs, N, rfl, hp, hN, hl, hne, hx, hlen, q⟩ := h
    refine ⟨_, (pss_one (ps_ret (pe_ix ix_any (pv 1) (pe_call GNu (hr.mono (by omega)) (by rfl) Z.gNu Z.FNu.kp Z.bNu .nil pass0 (pa_cons (pv 0) (pa_cons (pe_callB call_len_seq (by rfl) Z.N.len (by decide +kernel) (pa_cons (pv 1) pa_nil)) pa_nil))) (fun _ _ => rfl)))), ?_⟩
    have hx0 : 0 < xs.length := List.length_pos_iff.mpr hx
    refine ⟨.ref l, rfl, .ref p, rfl, .ref l, rfl, l, xs, rfl, hl, p, _, N, rfl, hp, hN, ?_, ?_, fun H' d hb hp' d0 d1 => ?_⟩
    · omega
    · omega
    · obtain ⟨j, rfl⟩ : ∃ j : Nat, d = j := ⟨d.toNat, by omega⟩
      have hd : j < xs.length := by omega
      rcases hl with hl | hl
      · exact .inl ⟨l, xs, j, xs[j], rfl, rfl, hb.seq hne hl, atI_nat (List.getElem?_eq_getElem hd), q _ _ hb hp' (List.getElem_mem hd)⟩
      · exact .inr ⟨l, xs, j, xs[j], rfl, rfl, hb.tup hne hl, atI_nat (List.getElem?_eq_getElem hd), q _ _ hb hp' (List.getElem_mem hd)⟩
end
end Ph

set_option maxHeartbeats 8000000
namespace Ph
open PySem PySem.Spec PyProof.Rows L2
section
variable {P : Program} {w : World} {K : PySem.W.Frag} {mg : Str → Option Value} {base : Heap}
def spWs : Sp := fun vs H Q _ => ∃ (t : Addr) (bs : List Bk), vs = [.ref t] ∧ StAt H t bs ∧ bs.length ≤ 5000 ∧ ∀ H', Same H H' → Q (.int (tot bs)) H'
theorem ok_Ws {k : Nat} (Z : Fns K mg) : FnOk P w K mg base CX0 (k + 1) Z.fWs Z.fdWs ["_law_blocks"] spWs := by
  refine Z.FWs.ok scWs (fun vs H Q E h => ?_) (fun cdv A outer s H vs Q E hr h => ?_)
  · obtain ⟨t, bs, rfl, _⟩ := h
    rfl
  · obtain ⟨t, bs, rfl, ⟨xs, ht, bl⟩, hl, q⟩ := h
    refine ⟨_, (pss_one (ps_ret (pe_callB (cr_sum rfl) (by rfl) Z.N.sum (by decide +kernel) (pa_cons (pe_lc (own := [("_law_start", 1), ("_law_many", 2)]) (g := (gTup K 2 (gCons (gName 1) (gCons (gName 2) gNil)))) (tt := tYes) (by rfl) scWs.nd (pi_tup (pv 0)) (blkOk_by (N := scWsN) (sc := defScope scWsS) (by decide +kernel)) (fun _ _ _ _ _ => (pg_tup (by rfl) (pgs_cons (pg_name (i := 1) scWs.nd rfl (.inl rfl)) (pgs_cons (pg_name (i := 2) scWs.nd rfl (.inl rfl)) pgs_nil)))) (fun _ _ _ _ _ => pts_nil) (fun _ _ _ _ _ => (pv 2))) pa_nil)))), ?_⟩
    refine ⟨.ref t, rfl, t, rfl, ⟨_, .inl (.inl ht)⟩, fun D nD => ?_⟩
    refine lc_tpF (K := K) (fun x => V.int (kH H x).2) (.inl (.inl ht)) nD (by rw [bl.len]; exact Nat.lt_of_le_of_lt hl (by decide)) (fun x hx H2 sm Y hY => ?_) (fun H2 sm hD => ?_)
    · obtain ⟨b, hb⟩ := bl.all x hx
      have e := hb.k
      obtain ⟨u, rfl, hu⟩ := hb
      rw [e] at hY
      exact ⟨u, _, rfl, .inl (.inl (sm _ _ hu)), rfl, _, _, rfl, _, _, rfl, rfl, rfl, .int b.2, rfl, hY _ (Same.refl _)⟩
    · refine ⟨D, bs.map fun (b : Bk) => b.2, rfl, .inl (.inl ?_), q _ sm⟩
      rw [hD, ← bl.map, List.map_map, List.map_map]
      rfl
def spLp : Sp := fun vs H Q _ => ∃ (t : Addr) (bs : List Bk) (a z : Int), vs = [.ref t, .int a, .int z] ∧ StAt H t bs ∧ bs.length ≤ 5000 ∧ ∀ H' u cs, Same H H' → StAt H' u cs → cs.Perm (bs ++ [(a, z)]) → (cs.Pairwise fun x y => SrtO.lexB y x = false) → Q (.ref u) H'
theorem ok_Lp {k : Nat} (Z : Fns K mg) : FnOk P w K mg base CX0 (k + 1) Z.fLp Z.fdLp ["_law_blocks", "_law_start", "_law_many"] spLp := by
  refine Z.FLp.ok scLp (fun vs H Q E h => ?_) (fun cdv A outer s H vs Q E hr h => ?_)
  · obtain ⟨t, bs, a, z, rfl, _⟩ := h
    rfl
  · obtain ⟨t, bs, a, z, rfl, ⟨xs, ht, bl⟩, hl, q⟩ := h
    refine ⟨_, (pss_one (ps_ret (pe_callTy call_tuple_of (by rfl) Z.N.tuple (by decide +kernel) (pa_cons (pe_callB cr_sortedPT (by rfl) Z.N.sorted (by decide +kernel) (pa_cons (pe_op op_catA (pv 0) (pe_tup (pa_cons (pe_tup (pa_cons (pv 1) (pa_cons (pv 2) pa_nil))) pa_nil))) pa_nil)) pa_nil)))), ?_⟩
    refine ⟨.ref t, rfl, .int a, rfl, .int z, rfl, (by show 2 ≤ sizeLine; decide), fun T nT => ?_⟩
    have sT := same_upd (o := .tup [.int a, .int z]) nT
    have hT : upd H T (.tup [.int a, .int z]) T = some (.tup [.int a, .int z]) := upd_same
    have ht1 := sT _ _ ht
    have bl1 := BL.kp bl fun v us e => sT _ _ e
    generalize upd H T (.tup [.int a, .int z]) = H1 at *
    refine ⟨(by show 1 ≤ sizeLine; decide), fun T1 nT1 => ?_⟩
    have sT1 := same_upd (o := .tup [V.ref T]) nT1
    have hT1 : upd H1 T1 (.tup [V.ref T]) T1 = some (.tup [V.ref T]) := upd_same
    have hT := sT1 _ _ hT
    have ht2 := sT1 _ _ ht1
    have bl2 := BL.kp bl1 fun v us e => sT1 _ _ e
    have s2 := sT.trans sT1
    generalize upd H1 T1 (.tup [V.ref T]) = H2 at *
    have bl3 : BL H2 (xs ++ [V.ref T]) (bs ++ [(a, z)]) := BL.app bl2 (.cons ⟨T, rfl, hT⟩ .nil)
    have ln : (xs ++ [V.ref T]).length ≤ 5001 := by
      rw [List.length_append, bl.len]
      show bs.length + 1 ≤ 5001
      omega
    refine ⟨t, T1, xs, [V.ref T], rfl, rfl, .inl (.inl ht2), .inl (.inl hT1), ?_, fun xe => ?_, (fun _ z => nomatch z), fun _ _ p np => ?_⟩
    · rw [List.length_append] at ln
      exact Nat.le_trans ln (by decide)
    · have hU : H2 T1 = some (.tup (xs ++ [V.ref T])) := by rw [hT1, xe]; rfl
      have bl4 := bl3
      have s3 := s2
      refine ⟨T1, xs ++ [V.ref T], kH H2, rfl, .inl (.inl hU), fun x hx => ?_, fun zs p srt stb np => ?_⟩
      · obtain ⟨b, hb⟩ := bl4.all x hx
        rw [hb.k]
        exact hb
      · have pm : zs.Perm (xs ++ [V.ref T]) := stb.perm
        have ally : ∀ x ∈ zs, ∃ b, BkAt H2 x b := fun x hx => bl4.all x (pm.mem_iff.mp hx)
        have blz := BL.of ally
        have sp := same_upd (o := .lst zs) np
        refine ⟨p, zs, rfl, .inl ⟨.inl (.inl upd_same), fun u nu => ?_⟩⟩
        have su := same_upd (o := .tup zs) nu
        refine q _ u (zs.map (kH H2)) (s3.trans (sp.trans su)) ⟨zs, upd_same, BL.kp blz fun v us e => su _ _ (sp _ _ e)⟩ ?_ (List.pairwise_map.mpr srt)
        rw [← bl4.map]
        exact pm.map _
    · have sU := same_upd (o := .tup (xs ++ [V.ref T])) np
      have hU : upd H2 p (.tup (xs ++ [V.ref T])) p = some (.tup (xs ++ [V.ref T])) := upd_same
      have bl4 := BL.kp bl3 fun v us e => sU _ _ e
      have s3 := s2.trans sU
      generalize upd H2 p (.tup (xs ++ [V.ref T])) = H3 at *
      refine ⟨p, xs ++ [V.ref T], kH H3, rfl, .inl (.inl hU), fun x hx => ?_, fun zs p2 srt stb np2 => ?_⟩
      · obtain ⟨b, hb⟩ := bl4.all x hx
        rw [hb.k]
        exact hb
      · have pm : zs.Perm (xs ++ [V.ref T]) := stb.perm
        have ally : ∀ x ∈ zs, ∃ b, BkAt H3 x b := fun x hx => bl4.all x (pm.mem_iff.mp hx)
        have blz := BL.of ally
        have sp := same_upd (o := .lst zs) np2
        refine ⟨p2, zs, rfl, .inl ⟨.inl (.inl upd_same), fun u nu => ?_⟩⟩
        have su := same_upd (o := .tup zs) nu
        refine q _ u (zs.map (kH H3)) (s3.trans (sp.trans su)) ⟨zs, upd_same, BL.kp blz fun v us e => su _ _ (sp _ _ e)⟩ ?_ (List.pairwise_map.mpr srt)
        rw [← bl4.map]
        exact pm.map _
def spLk : Sp := fun vs H Q _ => ∃ (t : Addr) (bs : List Bk) (a : Int), vs = [.ref t, .int a] ∧ StAt H t bs ∧ bs.length ≤ 5000 ∧ ∀ H' u, Same H H' → StAt H' u (bs.filter fun b => decide (b.1 ≠ a)) → Q (.ref u) H'
theorem ok_Lk {k : Nat} (Z : Fns K mg) : FnOk P w K mg base CX0 (k + 1) Z.fLk Z.fdLk ["_law_blocks", "_law_start"] spLk := by
  refine Z.FLk.ok scLk (fun vs H Q E h => ?_) (fun cdv A outer s H vs Q E hr h => ?_)
  · obtain ⟨t, bs, a, rfl, _⟩ := h
    rfl
  · obtain ⟨t, bs, a, rfl, ⟨xs, ht, bl⟩, hl, q⟩ := h
    refine ⟨_, (pss_one (ps_ret (pe_callTy call_tuple_of (by rfl) Z.N.tuple (by decide +kernel) (pa_cons (pe_lc (own := [("_law_block", 2)]) (g := (gName 2)) (by rfl) scLk.nd (pi_tup (pv 0)) (blkOk_by (N := scLkN) (sc := defScope scLkS) (by decide +kernel)) (fun _ _ _ _ _ => (pg_name (i := 2) scLk.nd rfl (.inl rfl))) (fun _ _ _ _ _ => (pts_one (pt_cmpR op_ne (pe_ix (r := rIxT K) ix_tup (pv 2) pe_int (fun _ _ => rfl)) (pv 1) (nomark _)))) (fun _ _ _ _ _ => (pv 2))) pa_nil)))), ?_⟩
    refine ⟨.ref t, rfl, t, rfl, ⟨_, .inl (.inl ht)⟩, fun D nD => ?_⟩
    refine lc_tupF (xs := xs) (fun x => if decide ((kH H x).1 ≠ a) = true then some x else none) (.inl (.inl ht)) nD (by rw [bl.len]; exact Nat.lt_of_le_of_lt hl (by decide)) (fun x hx H2 sm Y N hY hN => ?_) (fun H2 sm hD => ?_)
    · obtain ⟨b, hb⟩ := bl.all x hx
      have e := hb.k
      obtain ⟨u, rfl, hu⟩ := hb
      have hY' : ∀ y, (if decide (b.1 ≠ a) = true then some (V.ref u) else none) = some y → Y y H2 := fun y h => hY y (by show (if decide ((kH H (V.ref u)).1 ≠ a) = true then _ else _) = _; rw [e]; exact h)
      have hN' : (if decide (b.1 ≠ a) = true then some (V.ref u) else none) = none → N H2 := fun h => hN (by show (if decide ((kH H (V.ref u)).1 ≠ a) = true then _ else _) = _; rw [e]; exact h)
      refine ⟨rfl, .ref u, rfl, u, _, 0, _, rfl, rfl, .inl (.inl (sm _ _ hu)), atI_nat (j := 0) rfl, .int a, rfl, rfl, _, rfl, ite2 (fun c0 => ?_) (fun c0 => ?_)⟩
      · have c1 : b.1 ≠ a := fun z => by rw [z] at c0; simp at c0
        exact ⟨.ref u, rfl, hY' _ (if_pos (decide_eq_true c1))⟩
      · have c1 : ¬ b.1 ≠ a := fun z => c0 (by simp [z])
        exact hN' (if_neg (by simpa using c1))
    · have e1 : BL H2 (xs.filterMap fun x => if decide ((kH H x).1 ≠ a) = true then some x else none) (bs.filter fun b => decide (b.1 ≠ a)) := by
        have gen : ∀ {ys : List V} {cs : List Bk}, BL H ys cs → BL H2 (ys.filterMap fun x => if decide ((kH H x).1 ≠ a) = true then some x else none) (cs.filter fun b => decide (b.1 ≠ a)) := by
          intro ys cs h
          induction h with
          | nil => exact .nil
          | @cons x b ys cs hb r ih =>
            have e := BkAt.k hb
            by_cases c : decide (b.1 ≠ a) = true
            · rw [List.filter_cons_of_pos (p := fun b : Bk => decide (b.1 ≠ a)) c, List.filterMap_cons_some (b := x) (by show (if decide ((kH H x).1 ≠ a) = true then some x else none) = some x; rw [e]; exact if_pos c)]
              obtain ⟨t2, e1, e2⟩ := hb
              exact .cons ⟨t2, e1, sm _ _ e2⟩ ih
            · rw [List.filter_cons_of_neg (p := fun b : Bk => decide (b.1 ≠ a)) c, List.filterMap_cons_none (by show (if decide ((kH H x).1 ≠ a) = true then some x else none) = none; rw [e]; exact if_neg c)]
              exact ih
        exact gen bl
      refine ⟨D, _, rfl, .inl ⟨.inl (.inl hD), fun u nu => ?_⟩⟩
      have su := same_upd (o := .tup (xs.filterMap fun x => if decide ((kH H x).1 ≠ a) = true then some x else none)) nu
      exact q _ u (Same.trans sm su) ⟨_, upd_same, BL.kp e1 fun v us e => su _ _ e⟩
def spLs : Sp := fun vs H Q _ => ∃ (c t : Addr) (s : Nat → Nat) (p m i : Nat) (bs : List Bk), vs = [.ref c, .int m, .ref t, .int ((s i : Nat) : Int)] ∧ ChAt H c (tl s (p + 1)) ∧ CH s (p + 1) ∧ i ≤ p ∧ s p ≤ 2000 ∧ m ≤ 2000 ∧ StAt H t bs ∧ bs.length ≤ 5000 ∧ (∀ b ∈ bs, 0 ≤ b.1 ∧ 1 ≤ b.2 ∧ b.1 + b.2 ≤ (m : Int) * ((s p : Nat) : Int)) ∧
  ∀ (H' : Hp) (D : Addr) (ns : List Int), Same H H' → H D = none → H' D = some (.lst (ns.map V.int)) → (∀ x, x ∈ ns ↔ Spot ((s i : Nat) : Int) bs ((m : Int) * ((s p : Nat) : Int)) x) → (ns.length : Int) ≤ (m : Int) * ((s p : Nat) : Int) → Q (.ref D) H'
theorem ok_Ls {k : Nat} (Z : Fns K mg) : FnOk P w K mg base CX0 (k + 1) Z.fLs Z.fdLs ["_law_sizes", "_law_pages_here", "_law_blocks", "_law_many"] spLs := by
  refine Z.FLs.ok scLs (fun vs H Q E h => ?_) (fun cdv A outer s H vs Q E hr h => ?_)
  · obtain ⟨c, t, s, p, m, i, bs, rfl, _⟩ := h
    rfl
  · obtain ⟨c, t, sz, p, m, i, bs, rfl, hc, ch, hi, sp, m2, ⟨xs, ht, bl⟩, hl, hb, q⟩ := h
    refine ⟨_, (pss_cons (ps_set (i := 4) scLs.nd rfl (.inl rfl) (pe_lst pa_nil))
 (pss_cons (ps_for PassesOwn.never rfl (pi_range3 (by rfl) Z.N.range (pa_cons pe_int (pa_cons (pe_op op_mul (pv 1) (pe_ix ix_tup (pv 0) (pe_un un_neg pe_int) (fun _ _ => rfl))) (pa_cons (pv 3) pa_nil)))) (pg_name (i := 5) scLs.nd rfl (.inr rfl))
 (pss_one (ps_if (pt_not (pt_val (pe_callB (cr_any rfl) (by rfl) Z.N.any (by decide +kernel) (pa_cons (pe_lc (own := [("_law_one", 6), ("_law_its", 7)]) (g := (gTup K 2 (gCons (gName 6) (gCons (gName 7) gNil)))) (tt := tYes) (by rfl) scLs.nd (pi_tup (pv 2)) (blkOk_by (N := scLsN) (sc := defScope scLsS) (by decide +kernel)) (fun _ _ _ _ _ => (pg_tup (by rfl) (pgs_cons (pg_name (i := 6) scLs.nd rfl (.inl rfl)) (pgs_cons (pg_name (i := 7) scLs.nd rfl (.inl rfl)) pgs_nil)))) (fun _ _ _ _ _ => pts_nil) (fun _ _ _ _ _ => (pe_and (pe_cmpR op_lt (pv 6) (pe_op op_add (pv 5) (pv 3)) (nomark _)) (pe_one (pe_cmpR op_lt (pv 5) (pe_op op_add (pv 6) (pv 7)) (nomark _)))))) pa_nil))))
 (pss_one (ps_expr (pe_bm PySem.F.plainAttrs_list PySem.F.slot_list_append PySem.F.type_list_append mt_append (pv 4) (pa_cons (pv 5) pa_nil)))) pss_nil)))
 (pss_one (ps_ret (pv 4))))), ?_⟩
    refine ⟨(by show 0 ≤ sizeLine; decide), fun D nD => ?_⟩
    have sD := same_upd (o := .lst []) nD
    have hD : upd H D (.lst []) D = some (.lst []) := upd_same
    generalize upd H D (.lst []) = H2 at *
    have hc2 := hc.keep sD
    have ht2 := sD _ _ ht
    have bl2 := BL.kp bl fun v us e => sD _ _ e
    have z0 := ch.pos (i := i) (by omega)
    have zp := ch.mono (i := i) (j := p) hi (by omega)
    have hL : ((sz p : Nat) : Int) % ((sz i : Nat) : Int) = 0 := by
      obtain ⟨q, _, e⟩ := ch.dvd (i := i) (j := p) hi (by omega)
      rw [e, Int.natCast_mul]
      exact Int.mul_emod_right _ _
    obtain ⟨W, eW, W0, W1, Wz⟩ : ∃ W : Int, (m : Int) * ((sz p : Nat) : Int) = W ∧ 0 ≤ W ∧ W ≤ 4000000 ∧ W % ((sz i : Nat) : Int) = 0 := ⟨_, rfl, Int.mul_nonneg (by omega) (by omega), Int.le_trans (Int.mul_le_mul (show (m : Int) ≤ 2000 by omega) (show ((sz p : Nat) : Int) ≤ 2000 by omega) (by omega) (by decide)) (by decide), Int.emod_eq_zero_of_dvd (Int.dvd_trans (Int.dvd_of_emod_eq_zero hL) (Int.dvd_mul_left ..))⟩
    rw [eW] at q hb
    generalize ezn : sz i = zn at *
    refine ⟨.int m, rfl, .ref c, rfl, 1, rfl, c, _, -1, _, rfl, rfl, hc2.sq, tl_atL, _, _, rfl, rfl, .inr ⟨by omega, by omega⟩, .int zn, rfl, 0, W, (zn : Int), rgN 0 W (zn : Int), congrArg (fun w => [V.int 0, V.int w, V.int (zn : Int)]) eW, RgC.up (by omega) (by omega) ⟨by decide, by decide⟩ ⟨by omega, by omega⟩, ?_⟩
    have rgl := rgN_le (i := 0) (j := W) (c := (zn : Int)) (by omega)
    refine for_rangeC (lo := 0) (c := (zn : Int)) (n := rgN 0 W (zn : Int)) (fun i σ H4 => ∃ y5 y6 y7 ns, σ = [some (.ref c), some (.int m), some (.ref t), some (.int (zn : Int)), some (.ref D), y5, y6, y7] ∧ But D H2 H4 ∧ H4 D = some (.lst (List.map V.int ns)) ∧ (∀ x ∈ ns, Spot (zn : Int) bs W x) ∧ ns.length ≤ i ∧ (∀ m : Nat, m < i → Spot (zn : Int) bs W ((0 : Int) + (m : Int) * (zn : Int)) → (0 : Int) + (m : Int) * (zn : Int) ∈ ns))
      ⟨none, none, none, [], rfl, But.refl _ _, hD, (fun x h => nomatch h), Nat.le_refl _, fun m hm => absurd hm (by omega)⟩ ?_ ?_
    · rintro i σ H4 hi ⟨y5, y6, y7, ns, rfl, b4, hD4, ok, ln, all⟩
      have hm : (0 : Int) + (i : Int) * (zn : Int) ∈ rg3 0 (zn : Int) (rgN 0 W zn) := List.mem_map.mpr ⟨i, List.mem_range.mpr hi, rfl⟩
      obtain ⟨m1, m2', m3⟩ := (mem_rg3 (by omega)).mp hm
      rw [Int.sub_zero] at m3
      have allN : ∀ {l : List Int}, (∀ x ∈ ns, x ∈ l) → (Spot (zn : Int) bs W ((0 : Int) + (i : Int) * (zn : Int)) → (0 : Int) + (i : Int) * (zn : Int) ∈ l) → ∀ m : Nat, m < i + 1 → Spot (zn : Int) bs W ((0 : Int) + (m : Int) * (zn : Int)) → (0 : Int) + (m : Int) * (zn : Int) ∈ l := fun h1 h2 m hm2 sp => by
        rcases Nat.lt_or_ge m i with z | z
        · exact h1 _ (all m z sp)
        · obtain rfl : m = i := by omega
          exact h2 sp
      generalize (0 : Int) + (i : Int) * (zn : Int) = a at *
      have m4 : a + zn ≤ W := by
        obtain ⟨x, rfl⟩ := Int.dvd_of_emod_eq_zero m3
        obtain ⟨y, rfl⟩ := Int.dvd_of_emod_eq_zero Wz
        have h1 : x < y := Int.lt_of_mul_lt_mul_left m2' (by omega)
        have h2 : (zn : Int) * (x + 1) ≤ (zn : Int) * y := Int.mul_le_mul_of_nonneg_left (by omega) (by omega)
        rw [Int.mul_add, Int.mul_one] at h2
        exact h2
      have nDt : t ≠ D := ne_of ht2 hD (by intro z; cases z)
      have ht4 := b4 _ _ nDt ht2
      have bl4 := BL.kp bl2 fun v us e => b4 _ _ (ne_of e hD (by intro z; cases z)) e
      refine ⟨.ref t, rfl, t, rfl, ⟨_, .inl (.inl ht4)⟩, fun E nE => ?_⟩
      refine lc_tpF (K := K) (fun x => V.bl (decide ((kH H4 x).1 < a + zn ∧ a < (kH H4 x).1 + (kH H4 x).2))) (.inl (.inl ht4)) nE (by rw [bl4.len]; exact Nat.lt_of_le_of_lt hl (by decide)) (fun x hx H7 sm Y hY => ?_) (fun H7 sm hE => ?_)
      · obtain ⟨b, hbk⟩ := bl4.all x hx
        have e := hbk.k
        obtain ⟨u, rfl, hu⟩ := hbk
        rw [e] at hY
        refine ⟨u, _, rfl, .inl (.inl (sm _ _ hu)), rfl, _, _, rfl, _, _, rfl, rfl, rfl, .int b.1, rfl, .int a, rfl, .int zn, rfl, _, _, rfl, rfl, _, _, rfl, rfl, _, rfl, ite2 (fun c1 => ?_) (fun c1 => ?_)⟩
        · have c1 : b.1 < a + zn := of_decide_eq_true c1
          refine ⟨.int a, rfl, .int b.1, rfl, .int b.2, rfl, _, _, rfl, rfl, _, _, rfl, rfl, ?_⟩
          have e2 : decide (b.1 < a + zn ∧ a < b.1 + b.2) = decide (a < b.1 + b.2) := decide_eq_decide.mpr ⟨fun h => h.2, fun h => ⟨c1, h⟩⟩
          rw [e2] at hY
          exact hY _ (Same.refl _)
        · have c1 : ¬ b.1 < a + zn := fun z => c1 (decide_eq_true z)
          have e2 : decide (b.1 < a + zn ∧ a < b.1 + b.2) = false := decide_eq_false fun h => c1 h.1
          rw [e2] at hY
          exact hY _ (Same.refl _)
      · have hD7 := sm _ _ hD4
        have eb : xs.map (fun x => V.bl (decide ((kH H4 x).1 < a + zn ∧ a < (kH H4 x).1 + (kH H4 x).2))) = (bs.map fun (b : Bk) => decide (b.1 < a + zn ∧ a < b.1 + b.2)).map V.bl := by
          rw [← bl4.map, List.map_map, List.map_map]
          rfl
        rw [eb] at hE
        refine ⟨E, _, rfl, .inl (.inl hE), _, rfl, ite2 (fun c0 => ?_) (fun c0 => ?_)⟩
        · have nany : ¬ (bs.map fun (b : Bk) => decide (b.1 < a + zn ∧ a < b.1 + b.2)).any id = true := fun h => by rw [h] at c0; cases c0
          have spt : Spot (zn : Int) bs W a := ⟨m3, m1, m4, fun b hb2 => by
            have := hb b hb2
            have k2 : ¬ (b.1 < a + zn ∧ a < b.1 + b.2) := fun k => nany (List.any_eq_true.mpr ⟨true, List.mem_map.mpr ⟨b, hb2, decide_eq_true k⟩, rfl⟩)
            omega⟩
          refine ⟨.ref D, rfl, .inl ⟨rfl, _, .inl (.inl hD7)⟩, .int a, rfl, D, _, _, rfl, rfl, hD7, ?_, _, _, _, ns ++ [a], rfl, b4.trans ((Same.but sm).trans but_upd), ?_, fun x hx => ?_, ?_, allN (fun x hx => List.mem_append_left _ hx) fun _ => List.mem_append_right _ (List.mem_singleton.mpr rfl)⟩
          · rw [List.length_map]
            exact Nat.lt_of_lt_of_le (show ns.length < 4000001 by omega) (by decide)
          · rw [upd_same, List.map_append]
            rfl
          · rcases List.mem_append.mp hx with h | h
            · exact ok x h
            · rw [List.mem_singleton.mp h]; exact spt
          · rw [List.length_append]
            show ns.length + 1 ≤ i + 1
            omega
        · refine ⟨_, _, _, ns, rfl, b4.trans (Same.but sm), hD7, ok, by omega, allN (fun x hx => hx) fun sp => ?_⟩
          exfalso
          have anyY : (bs.map fun (b : Bk) => decide (b.1 < a + zn ∧ a < b.1 + b.2)).any id = true := by
            cases e : (bs.map fun (b : Bk) => decide (b.1 < a + zn ∧ a < b.1 + b.2)).any id with
            | true => rfl
            | false => rw [e] at c0; exact absurd rfl c0
          obtain ⟨x, hx, ex⟩ := List.any_eq_true.mp anyY
          obtain ⟨b, hb2, rfl⟩ := List.mem_map.mp hx
          have k := of_decide_eq_true (show decide (b.1 < a + zn ∧ a < b.1 + b.2) = true from ex)
          have := sp.free b hb2
          omega
    · rintro σ H4 ⟨y5, y6, y7, ns, rfl, b4, hD4, ok, ln, all⟩
      have whole : ∀ x, Spot (zn : Int) bs W x → x ∈ ns := fun x sp => by
        have hm : x ∈ rg3 0 (zn : Int) (rgN 0 W zn) := (mem_rg3 (by omega)).mpr ⟨sp.pos, by have := sp.fit; omega, by rw [Int.sub_zero]; exact sp.mod⟩
        obtain ⟨m, hm1, rfl⟩ := List.mem_map.mp hm
        exact all m (List.mem_range.mp hm1) sp
      exact ⟨.ref D, rfl, q _ D ns (fun b o e => b4 _ _ (ne_of_none e nD) (sD _ _ e)) nD hD4 (fun x => ⟨ok x, whole x⟩) (by omega)⟩
end
end Ph

set_option maxHeartbeats 8000000
namespace Ph
open PySem PySem.Spec PyProof.Rows L2
/-! ### the law's own search for all states -/
def DoneV (s : Nat → Nat) (p M : Nat) (W : Int) (xs : List KAV) (bs : List Bk) : Prop := ∀ j, j ≤ p → totB bs + ((s j : Nat) : Int) ≤ M → ∀ a, Plc W bs ((s j : Nat) : Int) a → InK xs (wb bs a ((s j : Nat) : Int))
theorem DoneV.put {s : Nat → Nat} {p M : Nat} {W : Int} {xs : List KAV} {bs : List Bk} {k : NestedKey} {b : Addr} {v : V} (h : DoneV s p M W xs bs) : DoneV s p M W (putX xs k b v) bs := fun j hj l a pl => (h j hj l a pl).put
/-- the table N and the list L of those that wait; E: those that are being looked at -/
structure Sv (w : World) (s : Nat → Nat) (p M : Nat) (W : Int) (N L : Addr) (H : Hp) (xs : List KAV) (ws : List V) (bss : List (List Bk)) (E : List Bk → Prop) : Prop where
  kd : KDx w H N xs
  en : ∀ x ∈ xs, ∃ bs, x.1 = skey bs ∧ StAt H x.2.1 bs ∧ Gst s p M W bs
  wl : H L = some (.lst ws)
  wv : StVs H ws bss
  wg : ∀ bs ∈ bss, Gst s p M W bs ∧ InK xs bs
  ln : ws.length ≤ xs.length
  cl : ∀ bs, InK xs bs → bs ∈ bss ∨ E bs ∨ DoneV s p M W xs bs
  z : InK xs []
section
variable {w : World} {s : Nat → Nat} {p M : Nat} {W : Int} {N L : Addr} {H H' : Hp} {xs : List KAV} {ws : List V} {bss : List (List Bk)} {E : List Bk → Prop}
theorem Sv.ne (q : Sv w s p M W N L H xs ws bss E) : N ≠ L := fun z => by
  have e := q.kd.ob
  rw [z, q.wl] at e
  cases e
theorem Sv.same (q : Sv w s p M W N L H xs ws bss E) (sm : Same H H') : Sv w s p M W N L H' xs ws bss E :=
  ⟨q.kd.same sm, fun kv h => by obtain ⟨bs, e, st, g⟩ := q.en kv h; exact ⟨bs, e, st.same sm, g⟩, sm _ _ q.wl, q.wv.kt (Same.kt sm), q.wg, q.ln, q.cl, q.z⟩
theorem Sv.list {ys : List V} {css : List (List Bk)} {E' : List Bk → Prop} (q : Sv w s p M W N L H xs ws bss E) (v : StVs H ys css) (g : ∀ bs ∈ css, Gst s p M W bs ∧ InK xs bs) (l : ys.length ≤ xs.length) (c : ∀ bs, InK xs bs → bs ∈ css ∨ E' bs ∨ DoneV s p M W xs bs) : Sv w s p M W N L (upd H L (.lst ys)) xs ys css E' := by
  have k := kt_upd (ys := ys) q.wl
  refine ⟨q.kd.kt k fun o e => ?_, fun kv h => by obtain ⟨bs, e, st, g⟩ := q.en kv h; exact ⟨bs, e, k.st st, g⟩, upd_same, v.kt k, g, l, c, q.z⟩
  rw [upd_ne q.ne]
  exact e
/-- a new state in the table and at the end of those that wait -/
theorem Sv.add {u : Addr} {cs : List Bk} {v : V} (q : Sv w s p M W N L H xs ws bss E) (b : But N H H') (kd : KDx w H' N (putX xs (skey cs) u v)) (nw : valV (xs.map kv2) (skey cs) = none) (hu : StAt H u cs) (g : Gst s p M W cs) :
    H' L = some (.lst ws) ∧ Sv w s p M W N L (upd H' L (.lst (ws ++ [.ref u]))) (putX xs (skey cs) u v) (ws ++ [.ref u]) (bss ++ [cs]) E ∧ (putX xs (skey cs) u v).length = xs.length + 1 := by
  have kt := b.ktX q.kd
  have wl := b _ _ q.ne.symm q.wl
  have k := kt_upd (ys := ws ++ [.ref u]) wl
  have e := putX_new (b := u) (v := v) nw
  have ln : (putX xs (skey cs) u v).length = xs.length + 1 := by rw [e, List.length_append]; rfl
  refine ⟨wl, ⟨kd.kt k (fun o e => by rw [upd_ne q.ne]; exact e), fun x h => ?_, upd_same, ?_, fun bs h => ?_, ?_, fun bs h => ?_, q.z.put⟩, ln⟩
  · rw [e] at h
    rcases List.mem_append.mp h with h | h
    · obtain ⟨bs, e, st, g⟩ := q.en x h
      exact ⟨bs, e, k.st (kt.st st), g⟩
    · rw [List.mem_singleton.mp h]
      exact ⟨cs, rfl, k.st (kt.st hu), g⟩
  · exact StVs.snoc ((q.wv.kt kt).kt k) ⟨u, rfl, k.st (kt.st hu)⟩
  · rcases List.mem_append.mp h with h | h
    · exact ⟨(q.wg bs h).1, (q.wg bs h).2.put⟩
    · rw [List.mem_singleton.mp h]
      exact ⟨g, InK.new⟩
  · rw [ln, List.length_append]
    exact Nat.succ_le_succ q.ln
  · rcases h.inv with h | h
    · exact .inl (List.mem_append_right _ (by rw [h]; exact List.mem_singleton.mpr rfl))
    · rcases q.cl bs h with c | c | c
      · exact .inl (List.mem_append_left _ c)
      · exact .inr (.inl c)
      · exact .inr (.inr c.put)
theorem Sv.few {as : List (List Bk)} (q : Sv w s p M W N L H xs ws bss E) (h : ∀ bs, Gst s p M W bs → bs ∈ as) : xs.length ≤ as.length := keys_few q.kd.nd fun x hx => by
  obtain ⟨bs, e, _, g⟩ := q.en x hx
  exact ⟨bs, h bs g, e⟩
theorem kx_states {G : List Bk → Prop} (nd0 : (xs.map (·.1)).Nodup) (en : ∀ x ∈ xs, ∃ bs, x.1 = skey bs ∧ StAt H x.2.1 bs ∧ G bs) : ∃ ns, StVs H (xs.map fun x => V.ref x.2.1) ns ∧ ns.Nodup ∧ ∀ bs, bs ∈ ns ↔ InK xs bs := by
  have key : ∀ l : List KAV, (∀ x ∈ l, ∃ bs, x.1 = skey bs ∧ StAt H x.2.1 bs ∧ G bs) → ∃ ns, StVs H (l.map fun x => V.ref x.2.1) ns ∧ ns.map skey = l.map (·.1) := fun l => by
    induction l with
    | nil => exact fun _ => ⟨[], .nil, rfl⟩
    | cons x r ih =>
      intro hl
      obtain ⟨ns, h1, h2⟩ := ih fun y hy => hl y (List.mem_cons_of_mem _ hy)
      obtain ⟨bs, e, st, _⟩ := hl x List.mem_cons_self
      exact ⟨bs :: ns, .cons ⟨_, rfl, st⟩ h1, by rw [List.map_cons, List.map_cons, h2, e]⟩
  obtain ⟨ns, h1, h2⟩ := key xs en
  have nd : (ns.map skey).Nodup := by rw [h2]; exact nd0
  refine ⟨ns, h1, (List.pairwise_map.mp nd).imp fun h e => h (by rw [e]), fun bs => ?_⟩
  constructor
  · intro hb
    have : skey bs ∈ xs.map (·.1) := by rw [← h2]; exact List.mem_map.mpr ⟨bs, hb, rfl⟩
    obtain ⟨x, hx, e⟩ := List.mem_map.mp this
    exact InK.of nd0 hx e
  · intro i
    obtain ⟨x, hx, e⟩ := i.mem
    have : skey bs ∈ ns.map skey := by rw [h2, ← e]; exact List.mem_map.mpr ⟨x, hx, rfl⟩
    obtain ⟨cs, hc, e2⟩ := List.mem_map.mp this
    rw [← skey_inj e2]
    exact hc
/-- where all that may be put is there, all states are -/
theorem all_in (c : CH s (p + 1)) (z : InK xs []) (d : ∀ bs, InK xs bs → DoneV s p M W xs bs) : ∀ (n : Nat) (bs : List Bk), bs.length = n → Gst s p M W bs → InK xs bs := by
  intro n
  induction n with
  | zero =>
    intro bs e _
    rw [List.length_eq_zero_iff.mp e]
    exact z
  | succ n ih =>
    intro bs e g
    obtain ⟨b, r, rfl⟩ : ∃ b r, bs = b :: r := by
      cases bs with
      | nil => cases e
      | cons b r => exact ⟨b, r, rfl⟩
    have hb : b ∈ b :: r := List.mem_cons_self
    have gc : Gst s p M W (ct (b :: r) b.1) := g.cut
    have back := wb_ct g.st hb
    have lc : (ct (b :: r) b.1).length = n := by
      have h1 := congrArg List.length back
      unfold wb at h1
      rw [(ins_perm _ _).length_eq, List.length_append, e] at h1
      simpa using h1
    obtain ⟨j, hj, ej⟩ := tl_mem.mp (g.st.ok b hb).1
    have tot := totB_ct g.st hb
    have lim := g.lim
    have := d _ (ih _ lc gc) j (by omega) (by rw [← ej]; omega) b.1 (by rw [← ej]; exact ct_plc g.st hb)
    rw [← ej, back] at this
    exact this
end
section
variable {P : Program} {w : World} {K : PySem.W.Frag} {mg : Str → Option Value} {base : Heap}
def spEv (w : World) : Sp := fun vs H Q _ => ∃ (c : Addr) (s : Nat → Nat) (p n M m : Nat), vs = [.ref c, .int M, .int n] ∧ ChAt H c (tl s (p + 1)) ∧ Cn s p m ∧ Sml s p n ∧
  ∀ H' D ys bss, H D = none → Same H H' → H' D = some (.lst ys) → StVs H' ys bss → bss.Nodup → (∀ bs, bs ∈ bss ↔ Gst s p M ((n * s p : Nat) : Int) bs) → bss.length ≤ 3 ^ (n * s p) → Q (.ref D) H'
theorem ok_Ev {k : Nat} (Z : Fns K mg) : FnOk P w K mg base CX0 (k + 1 + 1) Z.fEv Z.fdEv ["_law_sizes", "_law_most", "_law_pages_here"] (spEv w) := by
  have GWs : FnOk P w K mg base CX0 (k + 1) Z.fWs Z.fdWs ["_law_blocks"] spWs := ok_Ws Z
  have GLs : FnOk P w K mg base CX0 (k + 1) Z.fLs Z.fdLs ["_law_sizes", "_law_pages_here", "_law_blocks", "_law_many"] spLs := ok_Ls Z
  have GLp : FnOk P w K mg base CX0 (k + 1) Z.fLp Z.fdLp ["_law_blocks", "_law_start", "_law_many"] spLp := ok_Lp Z
  refine Z.FEv.ok scEv (fun vs H Q E h => ?_) (fun cdv A outer s H vs Q E hr h => ?_)
  · obtain ⟨c, s, p, n, M, m, rfl, _⟩ := h
    rfl
  · obtain ⟨c, sz, p, n, M, m, rfl, hc, cn, sml, fin⟩ := h
    have hu64 := u64_of hr
    refine ⟨_, (pss_cons (ps_par (i := 3) (j := 4) (by rfl) scEv.nd rfl rfl (by decide) rfl rfl (pa_cons (pe_xone hu64 (pe_tup pa_nil) pe_bl) (pa_cons (pe_lst (pa_cons (pe_tup pa_nil) pa_nil)) pa_nil)) (by rfl))
 (pss_cons (ps_while PassesOwn.never (pt_cmpR (op_neD hu64) (pv 4) (pe_lst pa_nil) (nomark _))
 (pss_cons (ps_set (i := 5) scEv.nd rfl (.inl rfl) (pe_bm0 PySem.F.plainAttrs_list PySem.F.slot_list_pop PySem.F.type_list_pop mt_pop (pv 4)))
 (pss_one (ps_for PassesOwn.never rfl (pi_tup (pv 0)) (pg_name (i := 6) scEv.nd rfl (.inl rfl))
 (pss_one (ps_if (pt_cmpR op_le (pe_op op_add (pe_call GWs (hr.mono (by omega)) (by rfl) Z.gWs Z.FWs.kp Z.bWs .nil pass0 (pa_cons (pv 5) pa_nil)) (pv 6)) (pv 1) (nomark _))
 (pss_one (ps_for PassesOwn.never rfl (pi_list (pe_call GLs (hr.mono (by omega)) (by rfl) Z.gLs Z.FLs.kp Z.bLs .nil pass0 (pa_cons (pv 0) (pa_cons (pv 2) (pa_cons (pv 5) (pa_cons (pv 6) pa_nil)))))) (pg_name (i := 7) scEv.nd rfl (.inl rfl))
 (pss_cons (ps_set (i := 8) scEv.nd rfl (.inl rfl) (pe_call GLp (hr.mono (by omega)) (by rfl) Z.gLp Z.FLp.kp Z.bLp .nil pass0 (pa_cons (pv 5) (pa_cons (pv 7) (pa_cons (pv 6) pa_nil)))))
 (pss_one (ps_if (pt_cmpR (op_xNotIn hu64) (pv 8) (pv 3) (by rfl))
 (pss_cons (ps_xput hu64 (pv 3) (pv 8) pe_bl rfl)
 (pss_one (ps_expr (pe_bm PySem.F.plainAttrs_list PySem.F.slot_list_append PySem.F.type_list_append mt_append (pv 4) (pa_cons (pv 8) pa_nil))))) pss_nil))))) pss_nil))))))
 (pss_one (ps_ret (pe_callB (cr_sortedX rfl hu64) (by rfl) Z.N.sorted (by decide +kernel) (pa_cons (pv 3) pa_nil)))))), ?_⟩
    obtain ⟨W, hW⟩ : ∃ W : Nat, n * sz p = W := ⟨_, rfl⟩
    rw [hW] at fin
    have s1 := sml.z
    have n1 := sml.n
    have p1 := sml.q
    have w1 : W ≤ 12 := by have := sml.w; omega
    have eW : ((n : Nat) : Int) * ((sz p : Nat) : Int) = (W : Int) := by rw [← hW, Int.natCast_mul]
    have szp : ∀ j, j ≤ p → 0 < sz j ∧ sz j ≤ 12 := fun j hj => ⟨cn.ch.pos (by omega), Nat.le_trans (cn.ch.mono (i := j) (j := p) hj (by omega)) sml.z⟩
    obtain ⟨as, has, al, al3⟩ := gst_list (s := sz) (p := p) (M := M) w1
    have g0 : Gst sz p M (W : Int) [] := Gst.nil
    have cap1 : (531441 : Nat) < sizeLine := by decide
    refine fun N H1 nN s1 kd1 => ⟨(by show 0 ≤ sizeLine; decide), fun b0 nb0 => ⟨b0, skey [], rfl, kd1.same (same_upd nb0), ?_⟩⟩
    have sb0 := same_upd (o := .tup []) nb0
    have kd2 := kd1.same sb0
    have hb0 : StAt (upd H1 b0 (.tup [])) b0 [] := ⟨[], upd_same, .nil⟩
    have s2 := s1.trans sb0
    generalize upd H1 b0 (.tup []) = H2 at *
    refine ⟨hb0.nk, skey_depth _, fun H3 b3 kd3 => ?_⟩
    have k3 := b3.ktX kd2
    have hb3 := k3.st hb0
    refine ⟨(by show 0 ≤ sizeLine; decide), fun b1 nb1 => ⟨(by show 1 ≤ sizeLine; decide), fun L nL => ⟨_, _, rfl, ?_⟩⟩⟩
    have sb1 := same_upd (o := .tup []) nb1
    have hb1 : StAt (upd H3 b1 (.tup [])) b1 [] := ⟨[], upd_same, .nil⟩
    have sL := same_upd (o := .lst [.ref b1]) nL
    have nN2 : N ≠ L := by
      have := sb1 _ _ kd3.ob
      exact ne_of_none this nL
    have sq0 : Sv w sz p M W N L (upd (upd H3 b1 (.tup [])) L (.lst [.ref b1])) [(skey [], b0, .bl true)] [.ref b1] [[]] (fun _ => False) := ⟨(kd3.same sb1).same sL, fun x h => by
      rw [List.mem_singleton.mp h]
      exact ⟨[], rfl, (hb3.same sb1).same sL, g0⟩, upd_same, .cons ⟨b1, rfl, hb1.same sL⟩ .nil, fun bs h => by
      rw [List.mem_singleton.mp h]
      exact ⟨g0, by show (valV [(skey [], V.bl true)] (skey [])).isSome = true; rw [valV_pos rfl]; rfl⟩, Nat.le_refl _, fun bs h => .inl (by
      have h : InK (putX [] (skey []) b0 (.bl true)) bs := h
      rcases h.inv with e | e
      · rw [e]; exact List.mem_singleton.mpr rfl
      · cases e), by show (valV [(skey [], V.bl true)] (skey [])).isSome = true; rw [valV_pos rfl]; rfl⟩
    have nL1 : H1 L = none := none_of_same sb0 (by
      cases e : H2 L with
      | none => rfl
      | some o => rw [sb1 _ _ (b3 _ _ nN2.symm e)] at nL; cases nL)
    have nLH : H L = none := none_of_same s1 nL1
    have f04 : ∀ a o, H a = some o → upd (upd H3 b1 (.tup [])) L (.lst [.ref b1]) a = some o := fun a o e => sL _ _ (sb1 _ _ (b3 _ _ (ne_of_none e nN) (s2 _ _ e)))
    have hc4 := hc.keep f04
    generalize upd (upd H3 b1 (.tup [])) L (.lst [.ref b1]) = H4 at *
    dsimp only
    refine seq_splitR (fun σ' H' => ∃ y4 y5 y6 y7 y8 xs, σ' = [some (.ref c), some (.int M), some (.int n), some (.ref N), y4, y5, y6, y7, y8] ∧ KG N L H4 H' ∧ KDx w H' N xs ∧ (∀ x ∈ xs, ∃ bs, x.1 = skey bs ∧ StAt H' x.2.1 bs ∧ Gst sz p M W bs) ∧ InK xs [] ∧ ∀ bs, InK xs bs → DoneV sz p M W xs bs) (fun D' rt' hD' => ?_) ?_
    rotate_left
    · rintro σ' H' ⟨_, _, _, _, _, xs, rfl, k, kd, en, z, dn⟩
      obtain ⟨ns, hns, nd, mns⟩ := kx_states (G := Gst sz p M W) kd.nd en
      have sm : Same H H' := fun a o e => k.fr _ _ (ne_of_none e nN) (ne_of_none e nLH) (f04 _ _ e)
      refine ⟨.ref N, rfl, N, xs, ns, rfl, kd.r, hns, fun ys css q pm hys nq => ?_⟩
      have sq := same_upd (o := .lst ys) nq
      have all : ∀ bs, bs ∈ ns ↔ Gst sz p M W bs := fun bs => by
        rw [mns]
        refine ⟨fun i => ?_, fun g => all_in cn.ch z dn _ bs rfl g⟩
        obtain ⟨x, hx, e⟩ := i.mem
        obtain ⟨b', e2, _, g⟩ := en x hx
        rw [skey_inj (e.symm.trans e2)]
        exact g
      have few := keys_few kd.nd fun x hx => by
        obtain ⟨b', e2, _, g⟩ := en x hx
        exact ⟨b', has _ g, e2⟩
      have l1 := Paired.length hns
      rw [List.length_map] at l1
      exact fin _ q ys css (none_of_same sm nq) (sm.trans sq) upd_same (hys.kt (Same.kt sq)) (pm.nodup_iff.mpr nd) (fun bs => pm.mem_iff.trans (all bs)) (by rw [pm.length_eq]; omega)
    refine ⟨fun m σ H' => ∃ y5 y6 y7 y8 xs ws bss, σ = [some (.ref c), some (.int M), some (.int n), some (.ref N), some (.ref L), y5, y6, y7, y8] ∧ KG N L H4 H' ∧ Sv w sz p M W N L H' xs ws bss (fun _ => False) ∧ m = 2 * (531441 - xs.length) + ws.length,
      ⟨_, _, _, _, _, _, _, _, rfl, KG.refl _, sq0, rfl⟩, ?_⟩
    rintro m σ H5 ⟨y5, y6, y7, y8, xs, ws, bss, rfl, k5, sq5, rfl⟩
    refine ⟨.ref L, rfl, (by show 0 ≤ sizeLine; decide), fun E nE => ?_⟩
    have sE := same_upd (o := .lst []) nE
    have hE : upd H5 E (.lst []) E = some (.lst []) := upd_same
    have sq6 := sq5.same sE
    have k6 := k5.trans (KG.same sE)
    generalize upd H5 E (.lst []) = H6 at *
    refine ⟨.list (bss.map stD), .list [], .lst (.inl (.inl sq6.wl)) (StVs.dp sq6.wv), .lst (.inl (.inl hE)) .nil, stDs_shaped bss, il_shaped [], _, rfl, ite2 (fun c0 => ?_) (fun c0 => hD' _ _ ?_)⟩
    rotate_left
    · rw [stDs_nil] at c0
      have e : bss = [] := Classical.byContradiction fun z => c0 (by rw [decide_eq_false z]; rfl)
      subst e
      exact ⟨_, _, _, _, _, xs, rfl, k6, sq6.kd, sq6.en, sq6.z, fun bs h => by
        rcases sq6.cl bs h with z | z | z
        · cases z
        · exact z.elim
        · exact z⟩
    rw [stDs_nil] at c0
    obtain ⟨bss', bs, rfl⟩ : ∃ ss' st, bss = ss' ++ [st] := by
      rcases List.eq_nil_or_concat bss with z | ⟨a, b, z⟩
      · rw [z] at c0; cases c0
      · exact ⟨a, b, by rw [z]; simp⟩
    obtain ⟨ws', x, rfl, wv', t, rfl, ht⟩ := StVs.unsnoc sq6.wv
    obtain ⟨gbs, hbs⟩ := sq6.wg bs (by simp)
    refine ⟨_, fun σ' H' n => n, ?_⟩
    refine ⟨.ref L, rfl, .inl ⟨rfl, _, .inl (.inl sq6.wl)⟩, L, _, .ref t, rfl, rfl, sq6.wl, by simp, ?_⟩
    rw [List.dropLast_concat]
    have sq7 := sq6.list (ys := ws') (css := bss') (E' := fun b => b = bs) wv' (fun bs h => sq6.wg bs (List.mem_append_left _ h)) (Nat.le_trans (by rw [List.length_append]; exact Nat.le_add_right _ _) sq6.ln) (fun b h => by
      rcases sq6.cl b h with z | z | z
      · rcases List.mem_append.mp z with z | z
        · exact .inl z
        · exact .inr (.inl (List.mem_singleton.mp z))
      · exact z.elim
      · exact .inr (.inr z))
    have k7 := k6.trans (KG.list (ys := ws') sq6.wl)
    have ht7 := (KG.list (N := N) (ys := ws') sq6.wl).st ht
    generalize upd H6 L (.lst ws') = H7 at *
    dsimp only [gName]
    have bl := st_len gbs.st (by omega)
    have hws : ws'.length + 1 = (ws' ++ [V.ref t]).length := by rw [List.length_append]; rfl
    have kl0 := sq7.few has
    have hc7 := k7.kt.ch hc4
    have kl0 := sq7.few has
    refine ⟨.ref c, rfl, c, rfl, ⟨_, hc7.sq⟩, ?_⟩
    refine for_it (walk_tup (K := K) (a := c) (xs := (tl sz (p + 1)).map V.int)) (fun i σ H' => ∃ y6 y7 y8 xs2 ws2 bss2, σ = [some (.ref c), some (.int M), some (.int n), some (.ref N), some (.ref L), some (.ref t), y6, y7, y8] ∧ KG N L H7 H' ∧ Sv w sz p M W N L H' xs2 ws2 bss2 (fun b => b = bs) ∧ (∀ j, j < i → totB bs + ((sz j : Nat) : Int) ≤ M → ∀ a, Plc W bs ((sz j : Nat) : Int) a → InK xs2 (wb bs a ((sz j : Nat) : Int))) ∧ 2 * (531441 - xs2.length) + ws2.length ≤ 2 * (531441 - xs.length) + ws'.length)
      ⟨_, _, _, xs, ws', bss', rfl, KG.refl _, sq7, fun j hj => absurd hj (by omega), Nat.le_refl _⟩ (fun i σ H' _ q => ?_) ?_ ?_
    · obtain ⟨_, _, _, _, _, _, _, k, _⟩ := q
      exact (k.kt.ch hc7).sq
    · rintro i x σ H8a H8 hi ⟨y6, y7, y8, xs2, ws2, bss2, rfl, k8, sq8, in8, le8⟩ ⟨rfl, hx⟩
      rw [List.length_map, tl_len] at hi
      rw [tl_getV (by omega)] at hx
      cases hx
      obtain ⟨z0, z1⟩ := szp i (by omega)
      have ht8 := k8.st ht7
      dsimp only [gName]
      have nxt : ∀ {xs2 : List KAV}, (∀ j, j < i → totB bs + ((sz j : Nat) : Int) ≤ M → ∀ a, Plc W bs ((sz j : Nat) : Int) a → InK xs2 (wb bs a ((sz j : Nat) : Int))) → (totB bs + ((sz i : Nat) : Int) ≤ M → ∀ a, Plc W bs ((sz i : Nat) : Int) a → InK xs2 (wb bs a ((sz i : Nat) : Int))) → (∀ j, j < i + 1 → totB bs + ((sz j : Nat) : Int) ≤ M → ∀ a, Plc W bs ((sz j : Nat) : Int) a → InK xs2 (wb bs a ((sz j : Nat) : Int))) := fun h1 h2 j hj => by
        rcases Nat.lt_or_ge j i with z | z
        · exact h1 j z
        · obtain rfl : j = i := by omega
          exact h2
      refine ⟨.ref t, rfl, t, bs, rfl, ht8, by omega, fun H9 s9 => ⟨.int _, rfl, _, _, rfl, rfl, .int M, rfl, _, _, rfl, rfl, _, rfl, ite2 (fun c1 => ?_) (fun c1 => ?_)⟩⟩
      rotate_left
      · exact ⟨_, _, _, xs2, ws2, bss2, rfl, k8.trans (KG.same s9), sq8.same s9, nxt in8 fun l => absurd (decide_eq_true l) c1, le8⟩
      have lim : totB bs + ((sz i : Nat) : Int) ≤ M := of_decide_eq_true c1
      have sq9 := sq8.same s9
      have k9 := k8.trans (KG.same s9)
      have ht9 := ht8.same s9
      refine ⟨.ref c, rfl, .int n, rfl, .ref t, rfl, .int _, rfl, c, t, sz, p, n, i, bs, rfl, k9.kt.ch hc7, cn.ch, by omega, by omega, by omega, ht9, by omega, fun b hb => ?_, fun H10 D ns s10 nD hD mns _ => ?_⟩
      · obtain ⟨h1, h2, h3, _, h5⟩ := gbs.st.ok b hb
        rw [eW]
        exact ⟨h3, h2, h5⟩
      rw [eW] at mns
      have sq10 := sq9.same s10
      have k10 := k9.trans (KG.same s10)
      have ht10 := ht9.same s10
      have nDN : D ≠ N := (ne_of_none sq9.kd.ob nD).symm
      have nDL : D ≠ L := (ne_of_none sq9.wl nD).symm
      refine ⟨D, rfl, ⟨_, .inl (.inl hD)⟩, ?_⟩
      refine for_it (walk_list (K := K) (a := D) (xs := ns.map V.int)) (fun i' σ H' => ∃ y7 y8 xs3 ws3 bss3, σ = [some (.ref c), some (.int M), some (.int n), some (.ref N), some (.ref L), some (.ref t), some (.int ((sz i : Nat) : Int)), y7, y8] ∧ KG N L H10 H' ∧ Sv w sz p M W N L H' xs3 ws3 bss3 (fun b => b = bs) ∧ (∀ bs, InK xs2 bs → InK xs3 bs) ∧ (∀ j a, j < i' → ns[j]? = some a → InK xs3 (wb bs a ((sz i : Nat) : Int))) ∧ 2 * (531441 - xs3.length) + ws3.length ≤ 2 * (531441 - xs.length) + ws'.length)
        ⟨_, _, xs2, ws2, bss2, rfl, KG.refl _, sq10, fun _ h => h, fun j a hj => absurd hj (by omega), le8⟩ (fun i' σ H' _ q => ?_) ?_ ?_
      · obtain ⟨_, _, _, _, _, _, k, _⟩ := q
        exact .inl (.inl (k.fr _ _ nDN nDL hD))
      · rintro i' x σ H11a H11 hi' ⟨y7, y8, xs3, ws3, bss3, rfl, k11, sq11, up11, in11, le11⟩ ⟨rfl, hx⟩
        rw [List.length_map] at hi'
        obtain ⟨a, ha, rfl⟩ : ∃ a, ns[i']? = some a ∧ x = V.int a := by
          rw [List.getElem?_map] at hx
          obtain ⟨z, h1, h2⟩ := Option.map_eq_some_iff.mp hx
          exact ⟨z, h1, h2.symm⟩
        have pl := ((mns a).mp (List.mem_of_getElem? ha)).plc
        have ht11 := k11.st ht10
        dsimp only [gName]
        refine ⟨.ref t, rfl, .int a, rfl, .int _, rfl, t, bs, a, _, rfl, ht11, by omega, fun H12 u cs s12 hu pm srt => ?_⟩
        have ecs := wb_of gbs.st pm srt
        subst ecs
        have gcs := gbs.put cn.ch (j := i) (by omega) lim pl
        have sq12 := sq11.same s12
        have k12 := k11.trans (KG.same s12)
        dsimp only [gName]
        have nx2 : ∀ {xs4 : List KAV}, (∀ bs, InK xs3 bs → InK xs4 bs) → InK xs4 (wb bs a ((sz i : Nat) : Int)) → (∀ j a, j < i' + 1 → ns[j]? = some a → InK xs4 (wb bs a ((sz i : Nat) : Int))) := fun h1 h2 j b hj hb => by
          rcases Nat.lt_or_ge j i' with z | z
          · exact h1 _ (in11 j b z hb)
          · obtain rfl : j = i' := by omega
            rw [ha] at hb
            cases hb
            exact h2
        refine ⟨.ref u, rfl, .ref N, rfl, N, u, xs3, skey (wb bs a ((sz i : Nat) : Int)), rfl, rfl, sq12.kd.r, hu.nk, skey_depth _, _, rfl, ite2 (fun cc => ?_) (fun cc => ?_)⟩
        · obtain ⟨nw, _⟩ := InK.not cc
          have kl := Nat.le_trans (sq12.few has) al
          refine ⟨.ref N, rfl, .ref u, rfl, N, u, xs3, skey (wb bs a ((sz i : Nat) : Int)), rfl, rfl, sq12.kd, hu.nk, skey_depth _, Nat.lt_of_le_of_lt kl cap1, fun H13 b13 kd13 => ?_⟩
          obtain ⟨wl13, sq14, ln14⟩ := sq12.add b13 kd13 nw hu gcs
          have kl14 := Nat.le_trans (sq14.few has) al
          refine ⟨.ref L, rfl, .inl ⟨rfl, _, .inl (.inl wl13)⟩, .ref u, rfl, L, ws3, _, rfl, rfl, wl13, Nat.lt_of_le_of_lt (Nat.le_trans sq12.ln kl) cap1, ?_⟩
          refine ⟨_, _, _, _, _, rfl, (k12.trans (KG.putX b13 sq12.kd)).trans (KG.list wl13), sq14, fun b h => (up11 b h).put, nx2 (fun b h => h.put) InK.new, ?_⟩
          rw [List.length_append]
          show 2 * (531441 - _) + (ws3.length + 1) ≤ _
          omega
        · exact ⟨_, _, xs3, ws3, bss3, rfl, k12, sq12, up11, nx2 (fun _ h => h) (InK.yes cc), le11⟩
      · rintro σ H11 ⟨y7, y8, xs3, ws3, bss3, rfl, k11, sq11, up11, in11, le11⟩
        rw [List.length_map] at in11
        refine ⟨_, _, _, xs3, ws3, bss3, rfl, k10.trans k11, sq11, nxt (fun j hj l a pl => up11 _ (in8 j hj l a pl)) fun _ a pl => ?_, le11⟩
        obtain ⟨j, hj, e⟩ := List.getElem_of_mem ((mns a).mpr (Spot.of pl))
        exact in11 j a hj (by rw [List.getElem?_eq_getElem hj, e])
    · rintro σ H8 ⟨y6, y7, y8, xs2, ws2, bss2, rfl, k8, sq8, in8, le8⟩
      rw [List.length_map, tl_len] at in8
      have done : DoneV sz p M W xs2 bs := fun j hj => in8 j (by omega)
      refine ⟨_, by rw [← hws]; omega, _, _, _, _, xs2, ws2, bss2, rfl, k7.trans k8, ⟨sq8.kd, sq8.en, sq8.wl, sq8.wv, sq8.wg, sq8.ln, fun b h => ?_, sq8.z⟩, rfl⟩
      rcases sq8.cl b h with z | z | z
      · exact .inl z
      · exact .inr (.inr (by rw [z]; exact done))
      · exact .inr (.inr z)
end
end Ph

set_option maxHeartbeats 8000000
namespace Ph
open PySem PySem.Spec PyProof.Rows L2
theorem but_ktS {H H' : Hp} {q : Addr} {N : Nat} (hq : So N H q) (b : But q H H') : Kt H H' := fun a o e _ n => b a o (fun z => by
  obtain ⟨g, r, l, h, _⟩ := hq
  rw [z, h] at e
  exact n _ (Option.some.inj e).symm) e
/-! ### the settings of the small games -/
def sets : List (List Nat × List Nat) := [([1], [3]), ([1, 2], [1]), ([1, 3], [1]), ([1, 2], [2]), ([1, 2, 4], [1]), ([1, 4], [1]), ([1, 5], [1]), ([1, 2], [3]), ([1, 3], [2]), ([1, 3, 6], [1]), ([1, 2, 6], [1])]
theorem cn_of {L zs : List Nat} (h : (L, zs) ∈ sets) : ∃ s p n, L.map (fun i : Nat => (i : Int)) = tl s (p + 1) ∧ zs = [n] ∧ Cn s p 12 ∧ Sml s p n ∧ 1 ≤ n ∧ (s p < 4 → Sml s p (n + 1)) ∧ n * s p ≤ 9 ∧ ((stL (tl s (p + 1)) (n * s p)).map hashS).Nodup := by
  have key : ∀ x ∈ sets, x.2 = [x.2.headD 0] ∧ (okSet x.1 (x.2.headD 0) = true ∧ okHash x.1 (x.2.headD 0) = true) ∧ 1 ≤ x.2.headD 0 ∧ (sqL x.1 (x.1.length - 1) < 4 → okSet x.1 (x.2.headD 0 + 1) = true) ∧ x.2.headD 0 * sqL x.1 (x.1.length - 1) ≤ 9 := by decide +kernel
  obtain ⟨e, ⟨ok, okh⟩, n1, up, w9⟩ := key _ h
  obtain ⟨h1, h2, h3⟩ := set_at ok
  exact ⟨_, _, _, h1, e, h2, h3, n1, fun l => (set_at (up l)).2.2, w9, by have z := of_decide_eq_true okh; rw [h1] at z; exact z⟩
section
variable {P : Program} {w : World} {K : PySem.W.Frag} {mg : Str → Option Value} {base : Heap}
/-- a small game: its chain at c, the limit M, the pages n -/
def GmT (H : Hp) (T c : Addr) (s : Nat → Nat) (p n M : Nat) : Prop := H T = some (.tup [.ref c, .int M, .int n]) ∧ ChAt H c (tl s (p + 1)) ∧ Cn s p 12 ∧ Sml s p n ∧ 1 ≤ n ∧ (s p < 4 → Sml s p (n + 1)) ∧ n * s p ≤ 9 ∧ M ≤ n * s p + 2 ∧ ((stL (tl s (p + 1)) (n * s p)).map hashS).Nodup
def spSg : Sp := fun vs H Q _ => ∃ (q : Addr) (lg : Int) (N : Nat), vs = [.ref q, .int lg] ∧ So N H q ∧ N ≤ 100000 ∧ (lg = 9 ∨ lg = 33 ∨ lg = 126) ∧ ∀ H' T c s p n M, But q H H' → So (N + 2) H' q → GmT H' T c s p n M → Q (.ref T) H'
theorem ok_Sg {k : Nat} (Z : Fns K mg) : FnOk P w K mg base CX0 (k + 1 + 1 + 1) Z.fSg Z.fdSg ["_law_source_here", "_law_largest"] spSg := by
  have GNu : FnOk P w K mg base CX0 (k + 1) Z.fNu Z.fdNu ["_law_source_here", "_law_below"] spNu := ok_Nu Z
  have GCo : FnOk P w K mg base CX0 (k + 1 + 1) Z.fCo Z.fdCo ["_law_source_here", "_law_some"] (spCo K) := ok_Co Z
  refine Z.FSg.ok scSg (fun vs H Q E h => ?_) (fun cdv A outer s H vs Q E hr h => ?_)
  · obtain ⟨q, lg, N, rfl, _⟩ := h
    rfl
  · obtain ⟨q, lg, N, rfl, hq, cap, hlg, fin⟩ := h
    have hu64 := u64_of hr
    refine ⟨_, (pss_cons (ps_set (i := 2) scSg.nd rfl (.inl rfl) (pe_lst (pa_cons (pe_tup (pa_cons (pe_tupF (pa_cons pe_int pa_nil)) (pa_cons pe_int pa_nil))) (pa_cons (pe_tup (pa_cons (pe_tupF (pa_cons pe_int (pa_cons pe_int pa_nil))) (pa_cons pe_int pa_nil))) (pa_cons (pe_tup (pa_cons (pe_tupF (pa_cons pe_int (pa_cons pe_int pa_nil))) (pa_cons pe_int pa_nil))) (pa_cons (pe_tup (pa_cons (pe_tupF (pa_cons pe_int (pa_cons pe_int pa_nil))) (pa_cons pe_int pa_nil))) (pa_cons (pe_tup (pa_cons (pe_tupF (pa_cons pe_int (pa_cons pe_int (pa_cons pe_int pa_nil)))) (pa_cons pe_int pa_nil))) (pa_cons (pe_tup (pa_cons (pe_tupF (pa_cons pe_int (pa_cons pe_int pa_nil))) (pa_cons pe_int pa_nil))) (pa_cons (pe_tup (pa_cons (pe_tupF (pa_cons pe_int (pa_cons pe_int pa_nil))) (pa_cons pe_int pa_nil))) (pa_cons (pe_tup (pa_cons (pe_tupF (pa_cons pe_int (pa_cons pe_int pa_nil))) (pa_cons pe_int pa_nil))) pa_nil))))))))))
 (pss_cons (ps_set (i := 2) scSg.nd rfl (.inl rfl) (pe_op op_cat (pv 2) (pe_lst (pa_cons (pe_tup (pa_cons (pe_tupF (pa_cons pe_int (pa_cons pe_int pa_nil))) (pa_cons pe_int pa_nil))) (pa_cons (pe_tup (pa_cons (pe_tupF (pa_cons pe_int (pa_cons pe_int pa_nil))) (pa_cons pe_int pa_nil))) (pa_cons (pe_tup (pa_cons (pe_tupF (pa_cons pe_int (pa_cons pe_int (pa_cons pe_int pa_nil)))) (pa_cons pe_int pa_nil))) (pa_cons (pe_tup (pa_cons (pe_tupF (pa_cons pe_int (pa_cons pe_int (pa_cons pe_int pa_nil)))) (pa_cons pe_int pa_nil))) (pa_cons (pe_tup (pa_cons (pe_tupF (pa_cons pe_int (pa_cons pe_int pa_nil))) (pa_cons pe_int pa_nil))) pa_nil))))))))
 (pss_cons (ps_asg (pe_call GCo (hr.mono (by omega)) (by rfl) Z.gCo Z.FCo.kp Z.bCo .nil pass0 (pa_cons (pv 0) (pa_cons (pe_slice sl_list (pv 2) po_none (po_some (pe_dget (hu_of hr) (pe_disp (pps_cons pe_int pe_int (pps_cons pe_int pe_int (pps_cons pe_int pe_int pps_nil))) (by rfl) (by rfl) (fun z => by cases z) (by decide)) (pv 1) (fun _ _ => rfl)))) pa_nil))) (pg_tup (by rfl) (pgs_cons (pg_name (i := 3) scSg.nd rfl (.inl rfl)) (pgs_cons (pg_name (i := 4) scSg.nd rfl (.inl rfl)) pgs_nil))))
 (pss_one (ps_ret (pe_tup (pa_cons (pv 3) (pa_cons (pe_call GNu (hr.mono (by omega)) (by rfl) Z.gNu Z.FNu.kp Z.bNu .nil pass0 (pa_cons (pv 0) (pa_cons (pe_op op_add (pe_op op_mul (pv 4) (pe_ix ix_tup (pv 3) (pe_un un_neg pe_int) (fun _ _ => rfl))) pe_int) pa_nil))) (pa_cons (pv 4) pa_nil))))))))), ?_⟩
    refine ⟨(by show 1 ≤ sizeLine; decide), fun a1 o1 n1 d1 => ⟨(by show 2 ≤ sizeLine; decide), fun b1 m1 => ?_⟩⟩
    obtain ⟨s1, v1⟩ := setF_new (ys := [.ref a1, .int 3]) n1 d1 m1 sets [1] [3] (by simp [sets]) rfl rfl
    generalize upd (upd H a1 _) b1 _ = H1 at *
    refine ⟨(by show 2 ≤ sizeLine; decide), fun a2 o2 n2 d2 => ⟨(by show 2 ≤ sizeLine; decide), fun b2 m2 => ?_⟩⟩
    obtain ⟨s2, v2⟩ := setF_new (ys := [.ref a2, .int 1]) n2 d2 m2 sets [1, 2] [1] (by simp [sets]) rfl rfl
    replace v1 := v1.kt (Same.kt s2)
    replace s2 := s1.trans s2
    generalize upd (upd H1 a2 _) b2 _ = H2 at *
    refine ⟨(by show 2 ≤ sizeLine; decide), fun a3 o3 n3 d3 => ⟨(by show 2 ≤ sizeLine; decide), fun b3 m3 => ?_⟩⟩
    obtain ⟨s3, v3⟩ := setF_new (ys := [.ref a3, .int 1]) n3 d3 m3 sets [1, 3] [1] (by simp [sets]) rfl rfl
    replace v1 := v1.kt (Same.kt s3)
    replace v2 := v2.kt (Same.kt s3)
    replace s3 := s2.trans s3
    generalize upd (upd H2 a3 _) b3 _ = H3 at *
    refine ⟨(by show 2 ≤ sizeLine; decide), fun a4 o4 n4 d4 => ⟨(by show 2 ≤ sizeLine; decide), fun b4 m4 => ?_⟩⟩
    obtain ⟨s4, v4⟩ := setF_new (ys := [.ref a4, .int 2]) n4 d4 m4 sets [1, 2] [2] (by simp [sets]) rfl rfl
    replace v1 := v1.kt (Same.kt s4)
    replace v2 := v2.kt (Same.kt s4)
    replace v3 := v3.kt (Same.kt s4)
    replace s4 := s3.trans s4
    generalize upd (upd H3 a4 _) b4 _ = H4 at *
    refine ⟨(by show 3 ≤ sizeLine; decide), fun a5 o5 n5 d5 => ⟨(by show 2 ≤ sizeLine; decide), fun b5 m5 => ?_⟩⟩
    obtain ⟨s5, v5⟩ := setF_new (ys := [.ref a5, .int 1]) n5 d5 m5 sets [1, 2, 4] [1] (by simp [sets]) rfl rfl
    replace v1 := v1.kt (Same.kt s5)
    replace v2 := v2.kt (Same.kt s5)
    replace v3 := v3.kt (Same.kt s5)
    replace v4 := v4.kt (Same.kt s5)
    replace s5 := s4.trans s5
    generalize upd (upd H4 a5 _) b5 _ = H5 at *
    refine ⟨(by show 2 ≤ sizeLine; decide), fun a6 o6 n6 d6 => ⟨(by show 2 ≤ sizeLine; decide), fun b6 m6 => ?_⟩⟩
    obtain ⟨s6, v6⟩ := setF_new (ys := [.ref a6, .int 1]) n6 d6 m6 sets [1, 4] [1] (by simp [sets]) rfl rfl
    replace v1 := v1.kt (Same.kt s6)
    replace v2 := v2.kt (Same.kt s6)
    replace v3 := v3.kt (Same.kt s6)
    replace v4 := v4.kt (Same.kt s6)
    replace v5 := v5.kt (Same.kt s6)
    replace s6 := s5.trans s6
    generalize upd (upd H5 a6 _) b6 _ = H6 at *
    refine ⟨(by show 2 ≤ sizeLine; decide), fun a7 o7 n7 d7 => ⟨(by show 2 ≤ sizeLine; decide), fun b7 m7 => ?_⟩⟩
    obtain ⟨s7, v7⟩ := setF_new (ys := [.ref a7, .int 1]) n7 d7 m7 sets [1, 5] [1] (by simp [sets]) rfl rfl
    replace v1 := v1.kt (Same.kt s7)
    replace v2 := v2.kt (Same.kt s7)
    replace v3 := v3.kt (Same.kt s7)
    replace v4 := v4.kt (Same.kt s7)
    replace v5 := v5.kt (Same.kt s7)
    replace v6 := v6.kt (Same.kt s7)
    replace s7 := s6.trans s7
    generalize upd (upd H6 a7 _) b7 _ = H7 at *
    refine ⟨(by show 2 ≤ sizeLine; decide), fun a8 o8 n8 d8 => ⟨(by show 2 ≤ sizeLine; decide), fun b8 m8 => ?_⟩⟩
    obtain ⟨s8, v8⟩ := setF_new (ys := [.ref a8, .int 2]) n8 d8 m8 sets [1, 2] [2] (by simp [sets]) rfl rfl
    replace v1 := v1.kt (Same.kt s8)
    replace v2 := v2.kt (Same.kt s8)
    replace v3 := v3.kt (Same.kt s8)
    replace v4 := v4.kt (Same.kt s8)
    replace v5 := v5.kt (Same.kt s8)
    replace v6 := v6.kt (Same.kt s8)
    replace v7 := v7.kt (Same.kt s8)
    replace s8 := s7.trans s8
    generalize upd (upd H7 a8 _) b8 _ = H8 at *
    refine ⟨(by show 8 ≤ sizeLine; decide), fun D nD => ?_⟩
    have sD := same_upd (o := .lst [V.ref b1, V.ref b2, V.ref b3, V.ref b4, V.ref b5, V.ref b6, V.ref b7, V.ref b8]) nD
    have allD : ∀ x ∈ [V.ref b1, V.ref b2, V.ref b3, V.ref b4, V.ref b5, V.ref b6, V.ref b7, V.ref b8], SetF sets (upd H8 D (.lst [V.ref b1, V.ref b2, V.ref b3, V.ref b4, V.ref b5, V.ref b6, V.ref b7, V.ref b8])) x := fun x hx => by
      have : SetF sets H8 x := by
        simp only [List.mem_cons, List.not_mem_nil, or_false] at hx
        rcases hx with rfl | rfl | rfl | rfl | rfl | rfl | rfl | rfl <;> assumption
      exact this.kt (Same.kt sD)
    have hD : upd H8 D (.lst [V.ref b1, V.ref b2, V.ref b3, V.ref b4, V.ref b5, V.ref b6, V.ref b7, V.ref b8]) D = some (.lst [V.ref b1, V.ref b2, V.ref b3, V.ref b4, V.ref b5, V.ref b6, V.ref b7, V.ref b8]) := upd_same
    replace sD := s8.trans sD
    generalize upd H8 D (.lst [V.ref b1, V.ref b2, V.ref b3, V.ref b4, V.ref b5, V.ref b6, V.ref b7, V.ref b8]) = HD at *
    have lenD : ([V.ref b1, V.ref b2, V.ref b3, V.ref b4, V.ref b5, V.ref b6, V.ref b7, V.ref b8] : List V).length = 8 := rfl
    have neD : ([V.ref b1, V.ref b2, V.ref b3, V.ref b4, V.ref b5, V.ref b6, V.ref b7, V.ref b8] : List V) ≠ [] := List.cons_ne_nil _ _
    clear v1 v2 v3 v4 v5 v6 v7 v8 d1 d2 d3 d4 d5 d6 d7 d8 n1 n2 n3 n4 n5 n6 n7 n8 m1 m2 m3 m4 m5 m6 m7 m8 s1 s2 s3 s4 s5 s6 s7 s8
    dsimp only [gName]
    refine ⟨.ref D, rfl, ?_⟩
    refine ⟨(by show 2 ≤ sizeLine; decide), fun a11 o11 n11 d11 => ⟨(by show 2 ≤ sizeLine; decide), fun b11 m11 => ?_⟩⟩
    obtain ⟨s11, v11⟩ := setF_new (ys := [.ref a11, .int 3]) n11 d11 m11 sets [1, 2] [3] (by simp [sets]) rfl rfl
    generalize upd (upd HD a11 _) b11 _ = H11 at *
    refine ⟨(by show 2 ≤ sizeLine; decide), fun a12 o12 n12 d12 => ⟨(by show 2 ≤ sizeLine; decide), fun b12 m12 => ?_⟩⟩
    obtain ⟨s12, v12⟩ := setF_new (ys := [.ref a12, .int 2]) n12 d12 m12 sets [1, 3] [2] (by simp [sets]) rfl rfl
    replace v11 := v11.kt (Same.kt s12)
    replace s12 := s11.trans s12
    generalize upd (upd H11 a12 _) b12 _ = H12 at *
    refine ⟨(by show 3 ≤ sizeLine; decide), fun a13 o13 n13 d13 => ⟨(by show 2 ≤ sizeLine; decide), fun b13 m13 => ?_⟩⟩
    obtain ⟨s13, v13⟩ := setF_new (ys := [.ref a13, .int 1]) n13 d13 m13 sets [1, 3, 6] [1] (by simp [sets]) rfl rfl
    replace v11 := v11.kt (Same.kt s13)
    replace v12 := v12.kt (Same.kt s13)
    replace s13 := s12.trans s13
    generalize upd (upd H12 a13 _) b13 _ = H13 at *
    refine ⟨(by show 3 ≤ sizeLine; decide), fun a14 o14 n14 d14 => ⟨(by show 2 ≤ sizeLine; decide), fun b14 m14 => ?_⟩⟩
    obtain ⟨s14, v14⟩ := setF_new (ys := [.ref a14, .int 1]) n14 d14 m14 sets [1, 2, 6] [1] (by simp [sets]) rfl rfl
    replace v11 := v11.kt (Same.kt s14)
    replace v12 := v12.kt (Same.kt s14)
    replace v13 := v13.kt (Same.kt s14)
    replace s14 := s13.trans s14
    generalize upd (upd H13 a14 _) b14 _ = H14 at *
    refine ⟨(by show 2 ≤ sizeLine; decide), fun a15 o15 n15 d15 => ⟨(by show 2 ≤ sizeLine; decide), fun b15 m15 => ?_⟩⟩
    obtain ⟨s15, v15⟩ := setF_new (ys := [.ref a15, .int 3]) n15 d15 m15 sets [1, 2] [3] (by simp [sets]) rfl rfl
    replace v11 := v11.kt (Same.kt s15)
    replace v12 := v12.kt (Same.kt s15)
    replace v13 := v13.kt (Same.kt s15)
    replace v14 := v14.kt (Same.kt s15)
    replace s15 := s14.trans s15
    generalize upd (upd H14 a15 _) b15 _ = H15 at *
    refine ⟨(by show 5 ≤ sizeLine; decide), fun F nF => ?_⟩
    have sF := same_upd (o := .lst [V.ref b11, V.ref b12, V.ref b13, V.ref b14, V.ref b15]) nF
    have allF : ∀ x ∈ [V.ref b11, V.ref b12, V.ref b13, V.ref b14, V.ref b15], SetF sets (upd H15 F (.lst [V.ref b11, V.ref b12, V.ref b13, V.ref b14, V.ref b15])) x := fun x hx => by
      have : SetF sets H15 x := by
        simp only [List.mem_cons, List.not_mem_nil, or_false] at hx
        rcases hx with rfl | rfl | rfl | rfl | rfl <;> assumption
      exact this.kt (Same.kt sF)
    have hF : upd H15 F (.lst [V.ref b11, V.ref b12, V.ref b13, V.ref b14, V.ref b15]) F = some (.lst [V.ref b11, V.ref b12, V.ref b13, V.ref b14, V.ref b15]) := upd_same
    replace sF := s15.trans sF
    generalize upd H15 F (.lst [V.ref b11, V.ref b12, V.ref b13, V.ref b14, V.ref b15]) = HF at *
    have lenF : ([V.ref b11, V.ref b12, V.ref b13, V.ref b14, V.ref b15] : List V).length = 5 := rfl
    have neF : ([V.ref b11, V.ref b12, V.ref b13, V.ref b14, V.ref b15] : List V) ≠ [] := List.cons_ne_nil _ _
    clear v11 v12 v13 v14 v15 d11 d12 d13 d14 d15 n11 n12 n13 n14 n15 m11 m12 m13 m14 m15 s11 s12 s13 s14 s15
    have hDF := sF _ _ hD
    generalize hxs : [V.ref b1, V.ref b2, V.ref b3, V.ref b4, V.ref b5, V.ref b6, V.ref b7, V.ref b8] = xs at *
    generalize hzs : [V.ref b11, V.ref b12, V.ref b13, V.ref b14, V.ref b15] = zs at *
    refine ⟨D, F, xs, zs, rfl, rfl, hDF, hF, by rw [lenD, lenF]; decide, fun G nG => ?_⟩
    have sG := same_upd (o := .lst (xs ++ zs)) nG
    have hG : upd HF G (.lst (xs ++ zs)) G = some (.lst (xs ++ zs)) := upd_same
    have all : ∀ x ∈ xs ++ zs, SetF sets (upd HF G (.lst (xs ++ zs))) x := fun x hx => by
      rcases List.mem_append.mp hx with h | h
      · exact ((allD x h).kt (Same.kt sF)).kt (Same.kt sG)
      · exact (allF x h).kt (Same.kt sG)
    have s0 := sD.trans (sF.trans sG)
    have len : (xs ++ zs).length = 13 := by rw [List.length_append, lenD, lenF]
    have ne : xs ++ zs ≠ [] := fun z => by rw [z] at len; cases len
    generalize upd HF G (.lst (xs ++ zs)) = HG at *
    generalize xs ++ zs = ws at *
    clear hxs hzs allD allF lenD lenF neD neF hDF hD hF sD sF sG
    dsimp only [gName]
    refine ⟨.ref q, rfl, .ref G, rfl, fun d nd => ⟨upd_same, [(.inl 9, .int 3), (.inl 33, .int 8), (.inl 126, .int 13)], rfl, by decide, .int lg, rfl, ?_⟩⟩
    have sd : Same HG (upd (upd HG d (.dK [])) d (.dK (mergeK [] [(.inl 9, .int 3), (.inl 33, .int 8), (.inl 126, .int 13)]))) := fun a o e => by rw [upd_ne (ne_of_none e nd), upd_ne (ne_of_none e nd)]; exact e
    obtain ⟨mm, hm, ev⟩ : ∃ mm : Int, (mm = 3 ∨ mm = 8 ∨ mm = 13) ∧ some (V.int mm) = valV (mergeK [] [(.inl 9, V.int 3), (.inl 33, .int 8), (.inl 126, .int 13)]) (.inl lg : L2.Key) := by
      rcases hlg with rfl | rfl | rfl
      · exact ⟨3, .inl rfl, rfl⟩
      · exact ⟨8, .inr (.inl rfl), rfl⟩
      · exact ⟨13, .inr (.inr rfl), rfl⟩
    refine ⟨d, .int mm, rfl, .inl ⟨_, .inl lg, .inl upd_same, rfl, ev⟩, mm, rfl, G, ws, rfl, .inl (.inl (sd _ _ hG)), fun J nJ => ?_⟩
    have sJ := same_upd (o := .lst (cutV ws none (some mm))) nJ
    have hJ : upd (upd (upd HG d (.dK [])) d (.dK (mergeK [] [(.inl 9, .int 3), (.inl 33, .int 8), (.inl 126, .int 13)]))) J (.lst (cutV ws none (some mm))) J = some (.lst (cutV ws none (some mm))) := upd_same
    have all2 : ∀ x ∈ cutV ws none (some mm), SetF sets (upd (upd (upd HG d (.dK [])) d (.dK (mergeK [] [(.inl 9, .int 3), (.inl 33, .int 8), (.inl 126, .int 13)]))) J (.lst (cutV ws none (some mm)))) x := fun x hx => ((all x (cutV_mem hx)).kt (Same.kt sd)).kt (Same.kt sJ)
    have s1 := s0.trans (sd.trans sJ)
    have nJq : J ≠ q := ((hq.same (s0.trans sd)).po.ne_none nJ).symm
    generalize upd (upd (upd HG d (.dK [])) d (.dK (mergeK [] [(.inl 9, .int 3), (.inl 33, .int 8), (.inl 126, .int 13)]))) J (.lst (cutV ws none (some mm))) = HJ at *
    have hq1 := hq.same s1
    refine ⟨q, J, _, N, rfl, hq1, by omega, .inl (.inl (.inl hJ)), nJq, ?_, ?_, fun H1 x b1 hq2 hx => ?_⟩
    · intro z
      have h := congrArg List.length z
      unfold cutV at h
      rw [List.length_take, List.length_drop, len] at h
      rcases hm with rfl | rfl | rfl <;> cases h
    · have := cutv_le (xs := ws) (lo := none) (hi := some mm)
      omega
    obtain ⟨T, c, L, zs, rfl, hT, hc, dd⟩ := all2 x hx
    obtain ⟨sz, p, n, eL, rfl, cn, sml, n1, up, w9, hh⟩ := cn_of dd
    rw [eL] at hc
    have kt1 : Kt HJ H1 := but_ktS hq1 b1
    have hT1 := kt1.kpT _ _ hT
    have hc1 := kt1.ch hc
    have n12 := sml.n
    have z12 := sml.z
    have w12 := sml.w
    have eW : ((n : Nat) : Int) * ((sz p : Nat) : Int) = ((n * sz p : Nat) : Int) := (Int.natCast_mul _ _).symm
    refine ⟨T, _, rfl, .inl (.inl hT1), rfl, _, _, rfl, _, _, rfl, rfl, ?_⟩
    dsimp only [gName]
    refine ⟨.ref c, rfl, .ref q, rfl, .int n, rfl, .ref c, rfl, 1, rfl, c, _, -1, _, rfl, rfl, hc1.sq, tl_atL, _, _, rfl, rfl, .inl ⟨by omega, by omega⟩, _, _, rfl, rfl, q, _, N + 1, rfl, hq2, by omega, ?_, ?_, fun H2 dd2 b2 hq3 d0 d1 => ⟨.int n, rfl, (by show 3 ≤ sizeLine; decide), fun T2 nT2 => ?_⟩⟩
    · rw [eW]
      omega
    · rw [eW]
      omega
    · rw [eW] at d1
      obtain ⟨M, rfl⟩ : ∃ M : Nat, dd2 = (M : Int) := ⟨dd2.toNat, by omega⟩
      have sT2 := same_upd (o := .tup [.ref c, .int M, .int n]) nT2
      have hc2 := (but_ktS hq2 b2).ch hc1
      exact fin _ T2 c sz p n M (fun a o nb e => sT2 _ _ (b2 _ _ nb (b1 _ _ nb (s1 _ _ e)))) (hq3.same sT2) ⟨upd_same, hc2.keep sT2, cn, sml, n1, up, w9, by omega, hh⟩
end
end Ph

set_option maxHeartbeats 8000000
namespace Ph
open PySem PySem.Spec PyProof.Rows L2
section
variable {P : Program} {w : World} {K : PySem.W.Frag} {mg : Str → Option Value} {base : Heap}
def spMs : Sp := fun vs H Q _ => ∃ (c t : Addr) (s : Nat → Nat) (p n M m : Nat) (bs : List Bk), vs = [.ref c, .int M, .int n, .ref t] ∧ GmAt H c t s p n M m bs ∧
  ∀ H' D ys lots, H D = none → Same H H' → H' D = some (.lst ys) → Paired (LotH H H') ys lots → Lots s p M ((n * s p : Nat) : Int) bs lots → (∀ lot ∈ lots, lot.length ≤ 1000 ∧ ∀ cs ∈ lot, Gst s p M ((n * s p : Nat) : Int) cs) → ys.length ≤ 30 → Q (.ref D) H'
theorem ok_Ms {k : Nat} (Z : Fns K mg) : FnOk P w K mg base CX0 (k + 1 + 1) Z.fMs Z.fdMs ["_law_sizes", "_law_most", "_law_pages_here", "_law_blocks"] spMs := by
  have GWs : FnOk P w K mg base CX0 (k + 1) Z.fWs Z.fdWs ["_law_blocks"] spWs := ok_Ws Z
  have GLs : FnOk P w K mg base CX0 (k + 1) Z.fLs Z.fdLs ["_law_sizes", "_law_pages_here", "_law_blocks", "_law_many"] spLs := ok_Ls Z
  have GLp : FnOk P w K mg base CX0 (k + 1) Z.fLp Z.fdLp ["_law_blocks", "_law_start", "_law_many"] spLp := ok_Lp Z
  have GLk : FnOk P w K mg base CX0 (k + 1) Z.fLk Z.fdLk ["_law_blocks", "_law_start"] spLk := ok_Lk Z
  refine Z.FMs.ok scMs (fun vs H Q E h => ?_) (fun cdv A outer s H vs Q E hr h => ?_)
  · obtain ⟨c, t, s, p, n, M, m, bs, rfl, _⟩ := h
    rfl
  · obtain ⟨c, t, sz, p, n, M, m, bs, rfl, ⟨hc, cn, sml, ht, g⟩, fin⟩ := h
    have hu64 := u64_of hr
    refine ⟨_, (pss_cons (ps_set (i := 4) scMs.nd rfl (.inl rfl) (pe_lst pa_nil))
 (pss_cons (ps_for PassesOwn.never rfl (pi_tup (pv 0)) (pg_name (i := 5) scMs.nd rfl (.inr rfl))
 (pss_one (ps_if (pt_cmpR op_le (pe_op op_add (pe_call GWs (hr.mono (by omega)) (by rfl) Z.gWs Z.FWs.kp Z.bWs .nil pass0 (pa_cons (pv 3) pa_nil)) (pv 5)) (pv 1) (nomark _))
 (pss_cons (ps_set (i := 6) scMs.nd rfl (.inl rfl) (pe_call GLs (hr.mono (by omega)) (by rfl) Z.gLs Z.FLs.kp Z.bLs .nil pass0 (pa_cons (pv 0) (pa_cons (pv 2) (pa_cons (pv 3) (pa_cons (pv 5) pa_nil))))))
 (pss_one (ps_expr (pe_bm PySem.F.plainAttrs_list PySem.F.slot_list_append PySem.F.type_list_append mt_append (pv 4) (pa_cons (pe_lc (own := [("_law_start", 7)]) (g := (gName 7)) (tt := tYes) (by rfl) scMs.nd (pi_list (pv 6)) (blkOk_by (N := scMsN) (sc := defScope scMsS) (by decide +kernel)) (fun _ _ _ _ _ => (pg_name (i := 7) scMs.nd rfl (.inl rfl))) (fun _ _ _ _ _ => pts_nil) (fun _ _ _ _ _ => (pe_call GLp (hr.mono (by omega)) (by rfl) Z.gLp Z.FLp.kp Z.bLp .nil pass0 (pa_cons (pv 3) (pa_cons (pv 7) (pa_cons (pv 5) pa_nil)))))) pa_nil))))) pss_nil)))
 (pss_one (ps_ret (pe_op op_cat (pv 4) (pe_lc (own := [("_law_start", 7), ("_law_many", 5)]) (g := (gTup K 2 (gCons (gName 7) (gCons (gName 5) gNil)))) (tt := tYes) (by rfl) scMs.nd (pi_tup (pv 3)) (blkOk_by (N := scMsN) (sc := defScope scMsS) (by decide +kernel)) (fun _ _ _ _ _ => (pg_tup (by rfl) (pgs_cons (pg_name (i := 7) scMs.nd rfl (.inl rfl)) (pgs_cons (pg_name (i := 5) scMs.nd rfl (.inl rfl)) pgs_nil)))) (fun _ _ _ _ _ => pts_nil) (fun _ _ _ _ _ => (pe_lst (pa_cons (pe_call GLk (hr.mono (by omega)) (by rfl) Z.gLk Z.FLk.kp Z.bLk .nil pass0 (pa_cons (pv 3) (pa_cons (pv 7) pa_nil))) pa_nil))))))))), ?_⟩
    obtain ⟨W, hW⟩ : ∃ W : Nat, n * sz p = W := ⟨_, rfl⟩
    rw [hW] at g fin
    have z12 := sml.z
    have n12 := sml.n
    have p5 := sml.q
    have w1 : W ≤ 12 := by have := sml.w; omega
    have eW : ((n : Nat) : Int) * ((sz p : Nat) : Int) = (W : Int) := by rw [← hW, Int.natCast_mul]
    have szp : ∀ j, j ≤ p → 0 < sz j ∧ sz j ≤ 12 := fun j hj => ⟨cn.ch.pos (by omega), Nat.le_trans (cn.ch.mono (i := j) (j := p) hj (by omega)) sml.z⟩
    have few := st_len g.st (by omega)
    refine ⟨(by show 0 ≤ sizeLine; decide), fun D nD => ?_⟩
    have sD := same_upd (o := .lst []) nD
    have hD : upd H D (.lst []) D = some (.lst []) := upd_same
    have hc1 := hc.keep sD
    have ht1 := ht.same sD
    generalize upd H D (.lst []) = H1 at *
    have ktB : ∀ {H2 H3 : Hp} {xs : List V}, H2 D = some (.lst xs) → But D H2 H3 → Kt H2 H3 := fun hd b a o e _ n => b a o (fun z => by rw [z, hd] at e; exact n _ (Option.some.inj e).symm) e
    have ktB' : ∀ {G : Addr} {H2 H3 : Hp} {xs : List V}, H2 G = some (.lst xs) → But G H2 H3 → Kt H2 H3 := fun hd b a o e _ n => b a o (fun z => by rw [z, hd] at e; exact n _ (Option.some.inj e).symm) e
    dsimp only [gName]
    refine ⟨.ref c, rfl, c, rfl, ⟨_, hc1.sq⟩, ?_⟩
    refine for_it (walk_tup (K := K) (a := c) (xs := (tl sz (p + 1)).map V.int)) (fun i σ H' => ∃ y5 y6 ys lots, σ = [some (.ref c), some (.int M), some (.int n), some (.ref t), some (.ref D), y5, y6, none] ∧ But D H1 H' ∧ H' D = some (.lst ys) ∧ Paired (LotO H D H') ys lots ∧ (∀ lot ∈ lots, lot.length ≤ 1000 ∧ ∃ j, j ≤ p ∧ totB bs + ((sz j : Nat) : Int) ≤ M ∧ ∀ cs, cs ∈ lot ↔ ∃ a, Plc W bs ((sz j : Nat) : Int) a ∧ cs = wb bs a ((sz j : Nat) : Int)) ∧ (∀ j, j < i → totB bs + ((sz j : Nat) : Int) ≤ M → ∃ lot ∈ lots, ∀ cs, cs ∈ lot ↔ ∃ a, Plc W bs ((sz j : Nat) : Int) a ∧ cs = wb bs a ((sz j : Nat) : Int)) ∧ ys.length ≤ i)
      ⟨_, _, [], [], rfl, But.refl _ _, hD, .nil, (fun _ h => nomatch h), fun j h => absurd h (by omega), Nat.le_refl _⟩ (fun i σ H' _ q => ?_) ?_ ?_
    · obtain ⟨_, _, _, _, _, b, _⟩ := q
      exact ((ktB hD b).ch hc1).sq
    · rintro i x σ H2a H2 hi ⟨y5, y6, ys, lots, rfl, b2, hD2, pr2, so2, co2, ln2⟩ ⟨rfl, hx⟩
      rw [List.length_map, tl_len] at hi
      rw [tl_getV (by omega)] at hx
      cases hx
      obtain ⟨z0, z1⟩ := szp i (by omega)
      have ht2 := (ktB hD b2).st ht1
      have hc2 := (ktB hD b2).ch hc1
      dsimp only [gName]
      refine ⟨.ref t, rfl, t, bs, rfl, ht2, by omega, fun H3 s3 => ⟨.int _, rfl, _, _, rfl, rfl, .int M, rfl, _, _, rfl, rfl, _, rfl, ite2 (fun c1 => ?_) (fun c1 => ?_)⟩⟩
      rotate_left
      · refine ⟨_, _, ys, lots, rfl, fun a o ne e => s3 _ _ (b2 _ _ ne e), s3 _ _ hD2, Paired.mono (fun _ _ h => h.kt (Same.kt s3) (Same.but s3)) pr2, so2, fun j hj l => ?_, by omega⟩
        rcases Nat.lt_or_ge j i with w | w
        · exact co2 j w l
        · obtain rfl : j = i := by omega
          exact absurd (decide_eq_true l) c1
      have lim : totB bs + ((sz i : Nat) : Int) ≤ M := of_decide_eq_true c1
      refine ⟨.ref c, rfl, .int n, rfl, .ref t, rfl, .int _, rfl, c, t, sz, p, n, i, bs, rfl, hc2.keep s3, cn.ch, by omega, by omega, by omega, ht2.same s3, by omega, fun b hb => ?_, fun H4 S ns s4 nS hS mns nl => ?_⟩
      · obtain ⟨h1, h2, h3, _, h5⟩ := g.st.ok b hb
        rw [eW]
        exact ⟨h3, h2, h5⟩
      rw [eW] at mns nl
      have s24 := s3.trans s4
      have hD4 := s24 _ _ hD2
      have nSD : S ≠ D := (ne_of_none (s3 _ _ hD2) nS).symm
      have ht4 := ht2.same s24
      dsimp only [gName]
      refine ⟨.ref D, rfl, .inl ⟨rfl, _, .inl (.inl hD4)⟩, .ref S, rfl, S, rfl, ⟨_, .inl (.inl hS)⟩, fun F nF => ?_⟩
      have nFD : F ≠ D := (ne_of_none hD4 nF).symm
      have nFH : H F = none := by
        cases e : H F with
        | none => rfl
        | some o => rw [s24 _ _ (b2 _ _ nFD (sD _ _ e))] at nF; cases nF
      refine lc_R (walk_list (K := K) (a := S) (xs := ns.map V.int)) (fun _ _ _ _ y => YAt.same y) (fun H8 j y => ∃ a, ns[j]? = some a ∧ StV H8 y (wb bs a ((sz i : Nat) : Int))) (fun H8 H9 _ y kp h => by obtain ⟨a, h1, t, e, h2⟩ := h; exact ⟨a, h1, t, e, h2.mono kp⟩) nF (by rw [List.length_map]; exact Nat.lt_of_le_of_lt (show _ ≤ 12 by omega) (by decide)) (fun H5 s5 => .inl (.inl (s5 _ _ hS))) (fun j y H8 H9 hj s8 yy Z hZ => ?_) (fun H8 rs s8 hF pr => ?_)
      · obtain ⟨rfl, hx⟩ := yy
        obtain ⟨a, ha, rfl⟩ : ∃ a, ns[j]? = some a ∧ y = V.int a := by
          rw [List.getElem?_map] at hx
          obtain ⟨z, h1, h2⟩ := Option.map_eq_some_iff.mp hx
          exact ⟨z, h1, h2.symm⟩
        refine ⟨rfl, .ref t, rfl, .int a, rfl, .int _, rfl, t, bs, a, _, rfl, ht4.same s8, by omega, fun H6 u cs s6 hu pm srt => ?_⟩
        have ecs := wb_of g.st pm srt
        subst ecs
        exact hZ _ _ s6 ⟨a, ha, u, rfl, hu⟩
      rw [List.length_map] at pr
      have pr3 : StVs H8 rs (ns.map fun a => wb bs a ((sz i : Nat) : Int)) := by
        have l := Paired.length pr
        rw [List.length_range] at l
        refine pairedG (by rw [List.length_map]; omega) fun k y b hy hb => ?_
        obtain ⟨k', hk', a, ha, st⟩ := Paired.get2 pr hy
        have hk : k < ns.length := by
          have := (List.getElem?_eq_some_iff.mp hy).1
          omega
        rw [List.getElem?_range hk] at hk'
        cases hk'
        rw [List.getElem?_map, ha] at hb
        cases hb
        exact st
      have hD8 := s8 _ _ hD4
      have s28 := s24.trans s8
      refine ⟨D, ys, _, rfl, rfl, hD8, Nat.lt_of_le_of_lt (show ys.length ≤ 12 by omega) (by decide), ?_⟩
      have kt := kt_upd (ys := ys ++ [.ref F]) hD8
      have bt : But D H8 (upd H8 D (.lst (ys ++ [.ref F]))) := fun a o ne e => by rw [upd_ne ne]; exact e
      have mem : ∀ cs, cs ∈ (ns.map fun a => wb bs a ((sz i : Nat) : Int)) ↔ ∃ a, Plc W bs ((sz i : Nat) : Int) a ∧ cs = wb bs a ((sz i : Nat) : Int) := fun cs => by
        rw [List.mem_map]
        constructor
        · rintro ⟨a, ha, rfl⟩
          exact ⟨a, ((mns a).mp ha).plc, rfl⟩
        · rintro ⟨a, ha, rfl⟩
          exact ⟨a, (mns a).mpr (Spot.of ha), rfl⟩
      refine ⟨_, _, ys ++ [.ref F], lots ++ [ns.map fun a => wb bs a ((sz i : Nat) : Int)], rfl, fun a o ne e => bt _ _ ne (s28 _ _ (b2 _ _ ne e)), upd_same, Paired.snoc (Paired.mono (fun _ _ h => (h.kt (Same.kt s28) (Same.but s28)).kt kt bt) pr2) ⟨F, rs, rfl, ⟨nFH, nFD⟩, bt _ _ nFD hF, pr3.kt kt⟩, fun lot hl => ?_, fun j hj l => ?_, by rw [List.length_append]; show ys.length + 1 ≤ _; omega⟩
      · rcases List.mem_append.mp hl with h | h
        · exact so2 lot h
        · rw [List.mem_singleton.mp h]
          exact ⟨by rw [List.length_map]; omega, i, by omega, lim, mem⟩
      · rcases Nat.lt_or_ge j i with w | w
        · obtain ⟨lot, h1, h2⟩ := co2 j w l
          exact ⟨lot, List.mem_append_left _ h1, h2⟩
        · obtain rfl : j = i := by omega
          exact ⟨_, List.mem_append_right _ (List.mem_singleton.mpr rfl), mem⟩
    · rintro σ H2 ⟨y5, y6, ys, lots, rfl, b2, hD2, pr2, so2, co2, ln2⟩
      rw [List.length_map, tl_len] at co2 ln2
      obtain ⟨xs, hx, bls⟩ := (ktB hD b2).st ht1
      have ht2 := (ktB hD b2).st ht1
      refine ⟨.ref D, rfl, .ref t, rfl, t, rfl, ⟨_, .inl (.inl hx)⟩, fun G nG => ?_⟩
      have sG := same_upd (o := .lst []) nG
      have hG : upd H2 G (.lst []) G = some (.lst []) := upd_same
      refine lc_tup (K := K) (a := t) (xs := xs) (fun i H' => But G (upd H2 G (.lst [])) H' ∧ ∃ zs, H' G = some (.lst zs) ∧ Paired (LotO H G H') zs ((bs.take i).map fun b => [ct bs b.1])) ⟨But.refl _ _, [], hG, .nil⟩ (fun i H' _ q => ?_) (fun i x H' hxi q => ?_) (fun H' q => ?_)
      · exact .inl (.inl ((ktB' hG q.1).kpT _ _ (sG _ _ hx)))
      · obtain ⟨bg, zs, hzs, pz⟩ := q
        obtain ⟨b, hb, u0, rfl, hu0⟩ := BL.get bls hxi
        have kg := ktB' hG bg
        have hu' := kg.kpT _ _ (sG _ _ hu0)
        have ht' := kg.st (ht2.same sG)
        have il : i < 13 := by
          have h1 := (List.getElem?_eq_some_iff.mp hb).1
          omega
        refine ⟨u0, _, rfl, .inl (.inl hu'), rfl, _, _, rfl, _, _, rfl, rfl, rfl, ?_⟩
        refine ⟨.ref t, rfl, .int b.1, rfl, t, bs, b.1, rfl, ht', by omega, fun H6 u6 s6 hu6 => ⟨(by show 1 ≤ sizeLine; decide), fun E nE => ?_⟩⟩
        have sE := same_upd (o := .lst [.ref u6]) nE
        have s67 := s6.trans sE
        have hG7 := s67 _ _ hzs
        have zl : zs.length ≤ 13 := by
          have := Paired.length pz
          rw [List.length_map, List.length_take] at this
          omega
        have nEG : E ≠ G := (ne_of_none (s6 _ _ hzs) nE).symm
        have nEH : H E = none := by
          cases e : H E with
          | none => rfl
          | some o =>
            have n1 : E ≠ D := ne_of_none e nD
            rw [s6 _ _ (bg _ _ nEG (sG _ _ (b2 _ _ n1 (sD _ _ e))))] at nE
            cases nE
        refine ⟨zs, hG7, Nat.lt_of_le_of_lt zl (by decide), fun a o ne e => by rw [upd_ne ne]; exact s67 _ _ (bg _ _ ne e), zs ++ [.ref E], upd_same, ?_⟩
        have kt := kt_upd (ys := zs ++ [.ref E]) hG7
        have bt : But G (upd H6 E (.lst [.ref u6])) (upd (upd H6 E (.lst [.ref u6])) G (.lst (zs ++ [.ref E]))) := fun a o ne e => by rw [upd_ne ne]; exact e
        rw [List.take_add_one, hb, List.map_append]
        exact Paired.snoc (Paired.mono (fun _ _ h => (h.kt (Same.kt s67) (Same.but s67)).kt kt bt) pz) ⟨E, [.ref u6], rfl, ⟨nEH, nEG⟩, bt _ _ nEG upd_same, .cons ⟨u6, rfl, kt.st (hu6.same sE)⟩ .nil⟩
      · obtain ⟨bg, zs, hzs, pz⟩ := q
        rw [bls.len, List.take_length] at pz
        have nDG : D ≠ G := ne_of_none hD2 nG
        have hD3 := bg _ _ nDG (sG _ _ hD2)
        have zl := Paired.length pz
        rw [List.length_map] at zl
        have kg := ktB' hG bg
        have pr3 : Paired (LotH H H') ys lots := Paired.mono (fun y lot h => by
          obtain ⟨E, xs, e, n0, hE, hv⟩ := h
          exact ⟨E, xs, e, n0.1, bg _ _ (ne_of_none hE nG) (sG _ _ hE), hv.kt ((Same.kt sG).trans kg)⟩) pr2
        refine ⟨D, G, ys, zs, rfl, rfl, hD3, hzs, Nat.le_trans (show ys.length + zs.length ≤ 100 by omega) (by decide), fun T nT => ?_⟩
        have sT := same_upd (o := .lst (ys ++ zs)) nT
        have sHH : Same H H' := fun a o e => bg _ _ (ne_of_none (b2 _ _ (ne_of_none e nD) (sD _ _ e)) nG) (sG _ _ (b2 _ _ (ne_of_none e nD) (sD _ _ e)))
        refine fin _ T (ys ++ zs) (lots ++ bs.map fun b => [ct bs b.1]) (none_of_same sHH nT) (sHH.trans sT) upd_same (pairedApp (Paired.mono (fun _ _ h => h.same sT) pr3) (Paired.mono (fun _ _ h => h.lot.same sT) pz)) (fun F => ?_) (fun lot hl => ?_) (by rw [List.length_append]; omega)
        · constructor
          · rintro ⟨lot, hl, h⟩
            rcases List.mem_append.mp hl with hl | hl
            · obtain ⟨_, j, hj, l, mem⟩ := so2 lot hl
              exact .inl ⟨j, hj, l, fun a pl => h _ ((mem _).mpr ⟨a, pl, rfl⟩)⟩
            · obtain ⟨b, hb, rfl⟩ := List.mem_map.mp hl
              exact .inr ⟨b, hb, h _ (List.mem_singleton.mpr rfl)⟩
          · rintro (⟨j, hj, l, h⟩ | ⟨b, hb, h⟩)
            · obtain ⟨lot, hl, mem⟩ := co2 j (by omega) l
              refine ⟨lot, List.mem_append_left _ hl, fun cs hcs => ?_⟩
              obtain ⟨a, pl, rfl⟩ := (mem cs).mp hcs
              exact h a pl
            · exact ⟨_, List.mem_append_right _ (List.mem_map.mpr ⟨b, hb, rfl⟩), fun cs hcs => by rw [List.mem_singleton.mp hcs]; exact h⟩
        · rcases List.mem_append.mp hl with hl | hl
          · obtain ⟨ll, j, hj, l, mem⟩ := so2 lot hl
            refine ⟨ll, fun cs hcs => ?_⟩
            obtain ⟨a, pl, rfl⟩ := (mem cs).mp hcs
            exact g.put cn.ch hj l pl
          · obtain ⟨b, hb, rfl⟩ := List.mem_map.mp hl
            refine ⟨by show 1 ≤ 1000; decide, fun cs hcs => ?_⟩
            rw [List.mem_singleton.mp hcs]
            exact g.cut
end
end Ph

set_option maxHeartbeats 8000000
namespace Ph
open PySem PySem.Spec PyProof.Rows L2
section
variable {P : Program} {w : World} {K : PySem.W.Frag} {mg : Str → Option Value} {base : Heap}
/-- the states that a dict's keys are -/
def KsS (H : Hp) (xs : List KAV) : Prop := ∀ x ∈ xs, ∃ bs, x.1 = skey bs ∧ StAt H x.2.1 bs
theorem KsS.kt {H H' : Hp} {xs : List KAV} (h : KsS H xs) (k : Kt H H') : KsS H' xs := fun x hx => by
  obtain ⟨bs, e, st⟩ := h x hx
  exact ⟨bs, e, k.st st⟩
def spRk (w : World) : Sp := fun vs H Q _ => ∃ (c : Addr) (s : Nat → Nat) (p n M m : Nat), vs = [.ref c, .int M, .int n] ∧ ChAt H c (tl s (p + 1)) ∧ Cn s p m ∧ Sml s p n ∧ ((stL (tl s (p + 1)) (n * s p)).map hashS).Nodup ∧
  ∀ H' N xs, H N = none → Same H H' → KDx w H' N xs → (∀ x ∈ xs, ∃ bs r, x.1 = skey bs ∧ x.2.2 = .int ((r : Nat) : Int) ∧ Gst s p M ((n * s p : Nat) : Int) bs ∧ Rnk s p M ((n * s p : Nat) : Int) r bs) → (∀ bs k, Gst s p M ((n * s p : Nat) : Int) bs → Lst s p M ((n * s p : Nat) : Int) k bs → InK xs bs) → KsS H' xs → Q (.ref N) H'
theorem ok_Rk {k : Nat} (Z : Fns K mg) : FnOk P w K mg base CX0 (k + 1 + 1 + 1) Z.fRk Z.fdRk ["_law_sizes", "_law_most", "_law_pages_here"] (spRk w) := by
  have GEv : FnOk P w K mg base CX0 (k + 1 + 1) Z.fEv Z.fdEv ["_law_sizes", "_law_most", "_law_pages_here"] (spEv w) := ok_Ev Z
  have GMs : FnOk P w K mg base CX0 (k + 1 + 1) Z.fMs Z.fdMs ["_law_sizes", "_law_most", "_law_pages_here", "_law_blocks"] spMs := ok_Ms Z
  refine Z.FRk.ok scRk (fun vs H Q E h => ?_) (fun cdv A outer s H vs Q E hr h => ?_)
  · obtain ⟨c, s, p, n, M, m, rfl, _⟩ := h
    rfl
  · obtain ⟨c, sz, p, n, M, m, rfl, hc, cn, sml, hh, fin⟩ := h
    have hu64 := u64_of hr
    refine ⟨_, (pss_cons (ps_set (i := 3) scRk.nd rfl (.inl rfl) (pe_call GEv (hr.mono (by omega)) (by rfl) Z.gEv Z.FEv.kp Z.bEv .nil pass0 (pa_cons (pv 0) (pa_cons (pv 1) (pa_cons (pv 2) pa_nil)))))
 (pss_cons (ps_set (i := 5) scRk.nd rfl (.inl rfl) (pe_frz (pe_callTy (call_dictX rfl hu64) (by rfl) Z.N.dict (by decide +kernel) (pa_cons (pe_lc (own := [("_law_blocks", 4)]) (g := (gName 4)) (tt := tYes) (by rfl) scRk.nd (pi_list (pv 3)) (blkOk_by (N := scRkN) (sc := defScope scRkS) (by decide +kernel)) (fun _ _ _ _ _ => (pg_name (i := 4) scRk.nd rfl (.inl rfl))) (fun _ _ _ _ _ => pts_nil) (fun _ _ _ _ _ => (pe_tup (pa_cons (pv 4) (pa_cons (pe_call GMs (hr.mono (by omega)) (by rfl) Z.gMs Z.FMs.kp Z.bMs .nil pass0 (pa_cons (pv 0) (pa_cons (pv 1) (pa_cons (pv 2) (pa_cons (pv 4) pa_nil))))) pa_nil))))) pa_nil))))
 (pss_cons (ps_asg (pe_tup (pa_cons pe_xnew (pa_cons pe_int (pa_cons (pe_lst (pa_cons (pe_tup pa_nil) pa_nil)) pa_nil)))) (pg_tup (by rfl) (pgs_cons (pg_name (i := 6) scRk.nd rfl (.inr rfl)) (pgs_cons (pg_name (i := 7) scRk.nd rfl (.inr rfl)) (pgs_cons (pg_name (i := 8) scRk.nd rfl (.inl rfl)) pgs_nil)))))
 (pss_cons (ps_while PassesOwn.never (pt_cmpR (op_neD hu64) (pv 8) (pe_lst pa_nil) (nomark _))
 (pss_cons (ps_asg (pe_tup (pa_cons (pe_op op_add (pv 7) pe_int) (pa_cons (pe_lst pa_nil) pa_nil))) (pg_tup (by rfl) (pgs_cons (pg_name (i := 7) scRk.nd rfl (.inr rfl)) (pgs_cons (pg_name (i := 8) scRk.nd rfl (.inl rfl)) pgs_nil))))
 (pss_cons (ps_for PassesOwn.never rfl (Ph.pi_xkeys (pv 5)) (pg_name (i := 4) scRk.nd rfl (.inl rfl))
 (pss_cons (ps_setLc (i := 9) (own := [("_law_some", 11)]) (g := (gName 11)) (by rfl) scRk.nd rfl rfl (sw_true rfl rfl rfl (by decide +kernel)) (pi_list (pe_xgetV (w := w) rfl (by exact hu64) (pv 5) (pv 4) (fun _ _ => rfl))) (blkOk_by (N := scRkN) (sc := defScope scRkS) (by decide +kernel)) (fun _ _ _ _ _ => (pg_name (i := 11) scRk.nd rfl (.inl rfl))) (fun _ _ _ _ _ => (pts_one (pt_val (pe_callB (r := rAll K) (cr_all rfl) (by rfl) Z.N.all (by decide +kernel) (pa_cons (pe_lc (own := [("_law_one", 10)]) (g := (gName 10)) (tt := tYes) (by rfl) scRk.nd (pi_listV (K := K) rfl (pv 11)) (blkOk_by (N := scRkN) (by rfl)) (fun _ _ _ _ _ => (pg_name (i := 10) scRk.nd rfl (.inl rfl))) (fun _ _ _ _ _ => pts_nil) (fun _ _ _ _ _ => (pe_cmpR (op_xInV (w := w) rfl (by exact hu64)) (pv 10) (pv 6) (by rfl)))) pa_nil))))) (fun _ _ _ _ _ => (pv 11)))
 (pss_one (ps_if (PW.pt (pw_and (pt_cmpR (op_xNotInV (w := w) rfl (by exact hu64)) (pv 4) (pv 6) (by rfl)) (pw_and1 (pt_cmpR (op_neD hu64) (pv 9) (pe_lst pa_nil) (nomark _)))))
 (pss_one (ps_expr (pe_bm PySem.F.plainAttrs_list PySem.F.slot_list_append PySem.F.type_list_append mt_append (pv 8) (pa_cons (pv 4) pa_nil)))) pss_nil))))
 (pss_one (ps_expr (pe_xupd hu64 (pv 6) (pe_callTy (call_dictX rfl hu64) (by rfl) Z.N.dict (by decide +kernel) (pa_cons (pe_lc (own := [("_law_blocks", 4)]) (g := (gName 4)) (tt := tYes) (by rfl) scRk.nd (pi_list (pv 8)) (blkOk_by (N := scRkN) (sc := defScope scRkS) (by decide +kernel)) (fun _ _ _ _ _ => (pg_name (i := 4) scRk.nd rfl (.inl rfl))) (fun _ _ _ _ _ => pts_nil) (fun _ _ _ _ _ => (pe_tup (pa_cons (pv 4) (pa_cons (pv 7) pa_nil))))) pa_nil)) ⟨rfl, rfl, rfl, rfl⟩))))))
 (pss_one (ps_ret (pv 6))))))), ?_⟩
    obtain ⟨W, hW⟩ : ∃ W : Nat, n * sz p = W := ⟨_, rfl⟩
    rw [hW] at hh fin
    have z12 := sml.z
    have p5 := sml.q
    have w1 : W ≤ 12 := by have := sml.w; omega
    refine ⟨.ref c, rfl, .int M, rfl, .int n, rfl, c, sz, p, n, M, m, rfl, hc, cn, sml, fun H1 D ys bss nD s1 hD hys nd mbs bl => ?_⟩
    rw [hW] at mbs bl
    have bl2 : bss.length ≤ 531441 := Nat.le_trans bl (Nat.le_trans (Nat.pow_le_pow_right (by decide) w1) (by decide))
    have cap1 : (531441 : Nat) < sizeLine := by decide
    have yl : ys.length = bss.length := Paired.length hys
    have hc1 := hc.keep s1
    dsimp only [gName]
    refine ⟨.ref D, rfl, D, rfl, ⟨_, .inl (.inl hD)⟩, fun F nF => ?_⟩
    refine lc_RB (walk_list (K := K) (a := D) (xs := ys)) (fun _ _ _ _ y => YAt.same y) (fun H2 j z => ∃ bs, bss[j]? = some bs ∧ ∃ T u v, z = .ref T ∧ H2 T = some (.tup [.ref u, v]) ∧ TabN F sz p M W H2 u v bs) (fun H2 H3 j z k b h => ?_) nF (by omega) (fun H2 s2 => .inl (.inl (s2 _ _ hD))) (fun j y H2 H3 hj s2 hl yy Z hZ => ?_) (fun H2 zs s2 hF pr => ?_)
    · obtain ⟨bs, e, T, u, v, ez, hT, tn⟩ := h
      exact ⟨bs, e, T, u, v, ez, k.kpT _ _ hT, tn.kt k b⟩
    · obtain ⟨rfl, hx⟩ := yy
      obtain ⟨bs, hb, u, rfl, hu⟩ := Paired.get hys hx
      have gb := (mbs bs).mp (List.mem_of_getElem? hb)
      refine ⟨rfl, .ref u, rfl, ?_⟩
      have s12 := s2
      refine ⟨.ref c, rfl, .int M, rfl, .int n, rfl, .ref u, rfl, c, u, sz, p, n, M, m, bs, rfl, ⟨(hc1.keep s2), cn, sml, hu.same s2, by rw [hW]; exact gb⟩, fun H4 Q qs lots nQ s4 hQ pq lts gl ql => ⟨(by show 2 ≤ sizeLine; decide), fun T nT => ?_⟩⟩
      rw [hW] at lts gl
      obtain ⟨l, hl⟩ := hl
      have sT := same_upd (o := .tup [.ref u, .ref Q]) nT
      have nQF : Q ≠ F := (ne_of_none hl nQ).symm
      refine hZ _ _ (s4.trans sT) ⟨bs, hb, T, u, .ref Q, rfl, upd_same, (hu.same s2).same (s4.trans sT), Q, qs, lots, rfl, nQF, sT _ _ hQ, ?_, lts, gl, ql⟩
      exact Paired.mono (fun _ _ z => (z.same sT).n hl) pq
    · have pz : Paired (fun z bs => ∃ T u v, z = .ref T ∧ H2 T = some (.tup [.ref u, v]) ∧ TabV sz p M W H2 u v bs) zs bss := by
        have l := Paired.length pr
        rw [List.length_range] at l
        refine pairedG (by omega) fun i z bs hz hb => ?_
        obtain ⟨k', hk', bs', hb', T, u, v, e, hT, tn⟩ := Paired.get2 pr hz
        have hi : i < ys.length := by
          have := (List.getElem?_eq_some_iff.mp hz).1
          omega
        rw [List.getElem?_range hi] at hk'
        cases hk'
        rw [hb] at hb'
        cases hb'
        exact ⟨T, u, v, e, hT, tn.v⟩
      obtain ⟨ps, es, rfl, pt, pe⟩ := tab_pairs (K := K) pz
      have ek := tab_keys pe
      have esl : es.length = bss.length := Paired.length pe
      have knd : (es.map (·.1)).Nodup := by rw [ek]; exact skeys_nodup nd
      refine ⟨F, ps, es, rfl, .inl (.inl hF), pt, fun e he => ?_, fun d H3 nd3 s3 kd3 => ?_⟩
      · obtain ⟨i, hi, ei⟩ := List.getElem_of_mem he
        obtain ⟨bs, hb, e1, tv⟩ := Paired.get pe (List.getElem?_eq_getElem hi)
        rw [ei] at e1 tv
        rw [e1]
        exact ⟨tv.1.nk, skey_depth _⟩
      rw [putAllX_nd (xs := []) knd, List.nil_append] at kd3
      refine ⟨d, dkO w d es, rfl, kd3.ob, True.intro, fun od => ?_⟩
      have kr : KDr w (upd H3 d (.frz od (dkO w d es))) d es := KDx.frz (w := w) kd3 od
      have hd4 : upd H3 d (.frz od (dkO w d es)) d = some (.frz od (dkO w d es)) := upd_same
      have s24 : Same H2 (upd H3 d (.frz od (dkO w d es))) := fun a o e => by rw [upd_ne (ne_of_none e nd3)]; exact s3 _ _ e
      have dsm := kd3.sm
      generalize upd H3 d (.frz od (dkO w d es)) = H4 at *
      have pe4 : Paired (fun (e : KAV) bs => e.1 = skey bs ∧ TabV sz p M W H4 e.2.1 e.2.2 bs) es bss := Paired.mono (fun _ _ h => ⟨h.1, h.2.same s24⟩) pe
      have sH4 : Same H H4 := (s1.trans s2).trans s24
      clear pz pt pe pr hF
      dsimp only [gName]
      refine fun N H5 nN s5 kd5 => ⟨(by show 0 ≤ sizeLine; decide), fun b0 nb0 => ⟨(by show 1 ≤ sizeLine; decide), fun L nL => ⟨(by show 3 ≤ sizeLine; decide), fun T nT => ?_⟩⟩⟩
      have sb0 := same_upd (o := .tup []) nb0
      have hb0 : StAt (upd H5 b0 (.tup [])) b0 [] := ⟨[], upd_same, .nil⟩
      have sL := same_upd (o := .lst [.ref b0]) nL
      have sT := same_upd (o := .tup [.ref N, .int 0, .ref L]) nT
      have hL : upd (upd (upd H5 b0 (.tup [])) L (.lst [.ref b0])) T (.tup [.ref N, .int 0, .ref L]) L = some (.lst [.ref b0]) := sT _ _ upd_same
      have hT : upd (upd (upd H5 b0 (.tup [])) L (.lst [.ref b0])) T (.tup [.ref N, .int 0, .ref L]) T = some (.tup [.ref N, .int 0, .ref L]) := upd_same
      have kd6 := kd5.same (sb0.trans (sL.trans sT))
      have hb6 := hb0.same (sL.trans sT)
      have s46 : Same H4 (upd (upd (upd H5 b0 (.tup [])) L (.lst [.ref b0])) T (.tup [.ref N, .int 0, .ref L])) := s5.trans (sb0.trans (sL.trans sT))
      generalize upd (upd (upd H5 b0 (.tup [])) L (.lst [.ref b0])) T (.tup [.ref N, .int 0, .ref L]) = H6 at *
      refine ⟨T, _, rfl, .inl (.inl hT), rfl, _, _, rfl, _, _, rfl, _, _, rfl, rfl, ?_⟩
      dsimp only [gName]
      have g0 : Gst sz p M (W : Int) [] := Gst.nil
      refine seq_splitR (fun σ' H' => ∃ (y4 y7 y8 y9 y10 y11 : Option V) (xs : List KAV), σ' = [some (.ref c), some (.int M), some (.int n), some (.ref D), y4, some (.ref d), some (.ref N), y7, y8, y9, y10, y11] ∧ Same H4 H' ∧ KDx w H' N xs ∧ (∀ x ∈ xs, ∃ bs r, x.1 = skey bs ∧ x.2.2 = .int ((r : Nat) : Int) ∧ Gst sz p M (W : Int) bs ∧ Rnk sz p M (W : Int) r bs) ∧ (∀ bs k, Gst sz p M (W : Int) bs → Lst sz p M (W : Int) k bs → InK xs bs) ∧ KsS H' xs) (fun D' rt' hD' => ?_) ?_
      rotate_left
      · rintro σ' H' ⟨y4, y7, y8, y9, y10, y11, xs, rfl, s', kd', en', al', ks'⟩
        exact ⟨.ref N, rfl, fin H' N xs (none_of_same sH4 nN) (sH4.trans s') kd' en' al' ks'⟩
      refine ⟨fun q σ H' => ∃ (y4 y9 y10 y11 : Option V) (t : Nat) (L : Addr) (ws : List V) (fs : List (List Bk)) (xs : List KAV), σ = [some (.ref c), some (.int M), some (.int n), some (.ref D), y4, some (.ref d), some (.ref N), some (.int ((t : Nat) : Int)), some (.ref L), y9, y10, y11] ∧ Same H4 H' ∧ KDx w H' N xs ∧ (∀ x ∈ xs, ∃ bs r, x.1 = skey bs ∧ x.2.2 = .int ((r : Nat) : Int) ∧ Gst sz p M (W : Int) bs ∧ Rnk sz p M (W : Int) r bs) ∧ (∀ bs, InK xs bs ↔ Gst sz p M (W : Int) bs ∧ Lst sz p M (W : Int) t bs) ∧ H' L = some (.lst ws) ∧ StVs H' ws fs ∧ ws.length ≤ 531441 ∧ (fs = [] → 1 ≤ t ∧ ∀ bs, Gst sz p M (W : Int) bs → Lst sz p M (W : Int) t bs → Lst sz p M (W : Int) (t - 1) bs) ∧ xs.length ≤ 531441 ∧ KsS H' xs ∧ q = 2 * (531441 - xs.length) + (if fs = [] then 0 else 1),
        ⟨_, none, none, none, none, 0, L, _, [[]], [], rfl, s46, kd6, (fun _ h => nomatch h), fun bs => ⟨(fun h => by cases h), fun h => h.2.elim⟩, hL, .cons ⟨b0, rfl, hb6⟩ .nil, (by show 1 ≤ 531441; decide), (fun h => nomatch h), by decide, (fun _ h => nomatch h), rfl⟩, ?_⟩
      clear hL hb6 kd6 hb0 kd5 s46 s5 sb0 sL nb0 nL hT nT sT
      rintro q σ H7 ⟨y4, y9, y10, y11, t, L7, ws, fs, xs, rfl, s7, kd7, en7, in7, hL7, hf7, wl7, st7, xl7, ks7, rfl⟩
      refine ⟨.ref L7, rfl, (by show 0 ≤ sizeLine; decide), fun E nE => ?_⟩
      have sE := same_upd (o := .lst []) nE
      have hE : upd H7 E (.lst []) E = some (.lst []) := upd_same
      have hL8 := sE _ _ hL7
      have hf8 := hf7.kt (Same.kt sE)
      have kd8 := kd7.same sE
      have s8 := s7.trans sE
      generalize upd H7 E (.lst []) = H8 at *
      refine ⟨.list (fs.map stD), .list [], .lst (.inl (.inl hL8)) (StVs.dp hf8), .lst (.inl (.inl hE)) .nil, stDs_shaped fs, il_shaped [], _, rfl, ite2 (fun c0 => ?_) (fun c0 => hD' _ _ ?_)⟩
      rotate_left
      · rw [stDs_nil] at c0
        have e : fs = [] := Classical.byContradiction fun z => c0 (by rw [decide_eq_false z]; rfl)
        obtain ⟨t1, stop⟩ := st7 e
        obtain ⟨r, rfl⟩ : ∃ r, t = r + 1 := ⟨t - 1, by omega⟩
        refine ⟨_, _, _, _, _, _, xs, rfl, s8, kd8, en7, fun bs k g l => (in7 bs).mpr ⟨g, ?_⟩, ks7.kt (Same.kt sE)⟩
        rcases Nat.lt_or_ge k r with z | z
        · exact l.mono (by omega)
        · exact (Lst.stop cn.ch stop z g l).mono (by omega)
      have ne7 : fs ≠ [] := fun z => by rw [stDs_nil, decide_eq_true z] at c0; cases c0
      refine ⟨_, fun σ' H' h => h, ?_⟩
      refine ⟨_, rfl, _, _, rfl, rfl, (by show 0 ≤ sizeLine; decide), fun L9 nL9 => ⟨(by show 2 ≤ sizeLine; decide), fun T nT => ?_⟩⟩
      have s9 := same_upd (o := .lst []) nL9
      have sT9 := same_upd (o := .tup [.int (((t : Nat) : Int) + 1), .ref L9]) nT
      have hL9 : upd (upd H8 L9 (.lst [])) T (.tup [.int (((t : Nat) : Int) + 1), .ref L9]) L9 = some (.lst []) := sT9 _ _ upd_same
      have hT9 : upd (upd H8 L9 (.lst [])) T (.tup [.int (((t : Nat) : Int) + 1), .ref L9]) T = some (.tup [.int (((t : Nat) : Int) + 1), .ref L9]) := upd_same
      have kd9 := kd8.same (s9.trans sT9)
      have s49 := s8.trans (s9.trans sT9)
      have nNL : N ≠ L9 := ne_of_none kd8.ob nL9
      have n4L : H4 L9 = none := none_of_same s8 nL9
      generalize upd (upd H8 L9 (.lst [])) T (.tup [.int (((t : Nat) : Int) + 1), .ref L9]) = H9 at *
      refine ⟨T, _, rfl, .inl (.inl hT9), rfl, _, _, rfl, _, _, rfl, rfl, ?_⟩
      dsimp only [gName]
      have em : ((t : Nat) : Int) + 1 = ((t + 1 : Nat) : Int) := by omega
      refine ⟨.ref d, rfl, d, od, es, rfl, dsm, s49 _ _ hd4, ?_⟩
      refine for_it walk_xkeys (fun i σ H' => ∃ (y4 y9 y10 y11 : Option V) (ws2 : List V) (fs2 : List (List Bk)), σ = [some (.ref c), some (.int M), some (.int n), some (.ref D), y4, some (.ref d), some (.ref N), some (.int ((t + 1 : Nat) : Int)), some (.ref L9), y9, y10, y11] ∧ But L9 H9 H' ∧ H' L9 = some (.lst ws2) ∧ StVs H' ws2 fs2 ∧ fs2.Nodup ∧ (∀ b, b ∈ fs2 ↔ b ∈ bss.take i ∧ ¬ InK xs b ∧ Lst sz p M (W : Int) (t + 1) b))
        ⟨y4, y9, y10, y11, [], [], by rw [em]; rfl, But.refl _ _, hL9, .nil, .nil, fun b => ⟨(fun h => nomatch h), fun h => by cases h.1⟩⟩ (fun i σ H' _ q => ?_) ?_ ?_
      · obtain ⟨_, _, _, _, _, _, _, b, _⟩ := q
        exact b _ _ (fun z => by rw [z] at hd4; rw [hd4] at n4L; cases n4L) (s49 _ _ hd4)
      · rintro i x σ H10a H10 hi ⟨y4, y9, y10, y11, ws2, fs2, rfl, b10, hL10, hf10, nd10, mf10⟩ ⟨rfl, e, he, rfl⟩
        obtain ⟨bs, hb, ek1, tv4⟩ := Paired.get pe4 he
        have gb := (mbs bs).mp (List.mem_of_getElem? hb)
        have s410 : Same H4 H10 := fun a o ea => b10 _ _ (ne_of_none ea n4L) (s49 _ _ ea)
        obtain ⟨hu, Q, qs, lots, eQ, hQ, pq, lts, gl, ql⟩ := tv4.same s410
        have kd10 : KDx w H10 N xs := kd9.kt (but_ktL hL9 b10) fun o z => b10 _ _ nNL z
        have kr10 := kr.same s410
        have nk : Nk H10 (.ref e.2.1) (skey bs) := hu.nk
        dsimp only [gName]
        refine ⟨.ref d, rfl, .ref e.2.1, rfl, d, e.2.1, es, skey bs, .ref Q, rfl, rfl, kr10, nk, skey_depth _, by rw [valV_kv2 knd (List.mem_of_getElem? he) ek1, eQ], Q, rfl, ⟨_, .inl (.inl hQ)⟩, fun G nG => ?_⟩
        refine lc_RFB (walk_list (K := K) (a := Q) (xs := qs)) (fun _ _ _ _ y => YAt.same y) (fun j => (lots[j]?.map fun lot => lot.all fun cs => (valV (xs.map kv2) (skey cs)).isSome).getD false) (fun H2 j z => ∃ lot, lots[j]? = some lot ∧ LotN G H2 z lot) (fun H2 H3 j z k b h => ?_) nG (Nat.lt_of_le_of_lt ql (by decide)) (fun H2 s2 => .inl (.inl (s2 _ _ hQ))) (fun j y H11 H12 hj s11 hl yy Z N' hZ hN => ?_) (fun H11 zs s11 hG pr => ?_)
        · obtain ⟨lot, e1, h⟩ := h
          exact ⟨lot, e1, h.kt k b⟩
        · obtain ⟨rfl, hx⟩ := yy
          obtain ⟨lot, hlot, E', ls, rfl, hE', hv'⟩ := Paired.get pq hx
          refine ⟨rfl, ?_⟩
          have kd12 := kd10.same s11
          have pj : (lots[j]?.map fun lot => lot.all fun cs => (valV (xs.map kv2) (skey cs)).isSome).getD false = lot.all fun cs => (valV (xs.map kv2) (skey cs)).isSome := by rw [hlot]; rfl
          have lsl : ls.length = lot.length := Paired.length hv'
          have ll := (gl lot (List.mem_of_getElem? hlot)).1
          have hE2 := s11 _ _ hE'
          have hv2 := hv'.kt (Same.kt s11)
          refine ⟨.ref E', rfl, E', rfl, ⟨_, .inl (.inl hE2)⟩, fun B nB => ?_⟩
          refine lc_R (walk_list (K := K) (a := E') (xs := ls)) (fun _ _ _ _ y => YAt.same y) (fun _ k y => ∃ cs, lot[k]? = some cs ∧ y = V.bl (valV (xs.map kv2) (skey cs)).isSome) (fun _ _ _ _ _ h => h) nB (by rw [lsl]; exact Nat.lt_of_le_of_lt ll (by decide)) (fun H13 s13 => .inl (.inl (s13 _ _ hE2))) (fun k y H13 H14 hk s13 yy Z2 hZ2 => ?_) (fun H13 ys' s13 hB pr => ?_)
          · obtain ⟨rfl, hx2⟩ := yy
            obtain ⟨cs, hcs, v, rfl, hv⟩ := Paired.get hv2 hx2
            exact ⟨rfl, .ref v, rfl, .ref N, rfl, N, v, xs, skey cs, rfl, rfl, (kd12.same s13).r, (hv.same s13).nk, skey_depth _, hZ2 _ _ (Same.refl _) ⟨cs, hcs, rfl⟩⟩
          · have ey : ys' = (lot.map fun cs => (valV (xs.map kv2) (skey cs)).isSome).map V.bl := by
              have l := Paired.length pr
              rw [List.length_range] at l
              refine List.ext_getElem? fun i => ?_
              rw [List.getElem?_map, List.getElem?_map]
              rcases Nat.lt_or_ge i ls.length with z | z
              · obtain ⟨y, hy, cs, hcs, rfl⟩ := Paired.get pr (List.getElem?_range z)
                rw [hy, hcs]
                rfl
              · rw [List.getElem?_eq_none (by omega), List.getElem?_eq_none (by omega)]
                rfl
            refine ⟨B, _, rfl, .inl (.inl (by rw [hB, ey])), ?_⟩
            have eall : ((lot.map fun cs => (valV (xs.map kv2) (skey cs)).isSome).all id) = lot.all fun cs => (valV (xs.map kv2) (skey cs)).isSome := by rw [List.all_map]; rfl
            refine ⟨_, rfl, ?_⟩
            rw [eall]
            refine ite2 (fun ca => ⟨.ref E', rfl, hZ _ _ s13 (by rw [pj]; exact ca) ⟨lot, hlot, E', ls, rfl, ne_of_none hE' nG, s13 _ _ hE2, hv2.kt (Same.kt s13)⟩⟩) (fun ca => hN _ s13 (by rw [pj]; exact Bool.eq_false_iff.mpr ca))
        · obtain ⟨ls, hls⟩ := lots_ex pr
          have lost : zs ≠ [] ↔ Lst sz p M (W : Int) (t + 1) bs := by
            rw [lts.lst]
            have l1 := Paired.length pr
            constructor
            · intro h
              obtain ⟨j, hj⟩ : ∃ j, j ∈ (List.range qs.length).filter fun j => (lots[j]?.map fun lot => lot.all fun cs => (valV (xs.map kv2) (skey cs)).isSome).getD false := by
                cases e9 : (List.range qs.length).filter fun j => (lots[j]?.map fun lot => lot.all fun cs => (valV (xs.map kv2) (skey cs)).isSome).getD false with
                | nil => rw [e9] at l1; exact absurd (List.length_eq_zero_iff.mp l1.symm) h
                | cons a r => exact ⟨a, List.mem_cons_self⟩
              obtain ⟨_, h2⟩ := List.mem_filter.mp hj
              cases e9 : lots[j]? with
              | none => rw [e9] at h2; cases h2
              | some lot =>
                rw [e9] at h2
                refine ⟨lot, List.mem_of_getElem? e9, fun cs hcs => ((in7 cs).mp ?_).2⟩
                exact List.all_eq_true.mp h2 cs hcs
            · rintro ⟨lot, hl, h⟩ ez
              obtain ⟨j, hj, ej⟩ := List.getElem_of_mem hl
              have hql := Paired.length pq
              have : j ∈ (List.range qs.length).filter fun j => (lots[j]?.map fun lot => lot.all fun cs => (valV (xs.map kv2) (skey cs)).isSome).getD false := by
                refine List.mem_filter.mpr ⟨List.mem_range.mpr (by omega), ?_⟩
                rw [List.getElem?_eq_getElem hj, ej]
                exact List.all_eq_true.mpr fun cs hcs => (in7 cs).mpr ⟨(gl lot hl).2 cs hcs, h cs hcs⟩
              rw [ez] at l1
              rw [List.length_eq_zero_iff.mp l1] at this
              cases this
          have kd11 := kd10.same s11
          have hu11 := hu.same s11
          have hL11 := s11 _ _ hL10
          have hf11 := hf10.kt (Same.kt s11)
          have b11 : But L9 H9 H11 := fun a o ne ea => s11 _ _ (b10 a o ne ea)
          have bnot : bs ∉ bss.take i := fun h => by
            obtain ⟨j, hj, ej⟩ := List.getElem_of_mem h
            rw [List.length_take] at hj
            rw [List.getElem_take] at ej
            obtain ⟨hi', e2⟩ := List.getElem?_eq_some_iff.mp hb
            have := (List.getElem_inj (h₀ := by omega) (h₁ := hi') nd).mp (ej.trans e2.symm)
            omega
          have tk : ∀ b, b ∈ bss.take (i + 1) ↔ b ∈ bss.take i ∨ b = bs := fun b => by
            rw [List.take_add_one, hb, List.mem_append]
            exact or_congr Iff.rfl List.mem_singleton
          have skip : ¬ (¬ InK xs bs ∧ Lst sz p M (W : Int) (t + 1) bs) → ∀ b, b ∈ fs2 ↔ b ∈ bss.take (i + 1) ∧ ¬ InK xs b ∧ Lst sz p M (W : Int) (t + 1) b := fun hn b => by
            rw [mf10, tk]
            constructor
            · exact fun h => ⟨.inl h.1, h.2⟩
            · rintro ⟨h | h, h2⟩
              · exact ⟨h, h2⟩
              · rw [h] at h2
                exact absurd h2 hn
          dsimp only [gName]
          have lw : ws2.length ≤ 531441 := by
            have h1 := Paired.length hf10
            have h2 := nodup_le nd10 fun b hb => ((mf10 b).mp hb).1
            rw [List.length_take] at h2
            omega
          refine ⟨.ref e.2.1, rfl, .ref N, rfl, N, e.2.1, xs, skey bs, rfl, rfl, kd11.r, hu11.nk, skey_depth _, _, rfl, ite2 (fun c1 => ?_) (fun c1 => ?_)⟩
          rotate_left
          · refine ite2 (fun z => nomatch z) (fun _ => ?_)
            have hin : InK xs bs := InK.yes c1
            exact ⟨_, _, _, _, ws2, fs2, rfl, b11, hL11, hf11, nd10, skip fun h => h.1 hin⟩
          obtain ⟨_, nin⟩ := InK.not c1
          refine ⟨.ref G, rfl, (by show 0 ≤ sizeLine; decide), fun E2 nE2 => ?_⟩
          have sE2 := same_upd (o := .lst []) nE2
          have hE2 : upd H11 E2 (.lst []) E2 = some (.lst []) := upd_same
          have hG12 := sE2 _ _ hG
          have hls12 := Paired.mono (fun _ _ z => LotV.same z sE2) hls
          have hL12 := sE2 _ _ hL11
          have hf12 := hf11.kt (Same.kt sE2)
          have b12 : But L9 H9 (upd H11 E2 (.lst [])) := fun a o ne ea => sE2 _ _ (b11 a o ne ea)
          have hu12 := hu11.same sE2
          generalize upd H11 E2 (.lst []) = H12 at *
          refine ⟨.list (ls.map lotD), .list [], .lst (.inl (.inl hG12)) (lots_dp hls12), .lst (.inl (.inl hE2)) .nil, lotDs_shaped ls, il_shaped [], _, rfl, ite2 (fun c2 => ?_) (fun c2 => ?_)⟩
          rotate_left
          · have ez : zs = [] := Classical.byContradiction fun z => c2 (by
              rw [lotDs_nil, decide_eq_false (fun y => z (List.length_eq_zero_iff.mp (by rw [Paired.length hls, y]; rfl)))]
              rfl)
            exact ⟨_, _, _, _, ws2, fs2, rfl, b12, hL12, hf12, nd10, skip fun h => (lost.mpr h.2) ez⟩
          have nz : zs ≠ [] := fun z => by
            have : ls = [] := List.length_eq_zero_iff.mp (by rw [← Paired.length hls, z]; rfl)
            rw [lotDs_nil, decide_eq_true this] at c2
            cases c2
          refine ⟨.ref L9, rfl, .inl ⟨rfl, _, .inl (.inl hL12)⟩, .ref e.2.1, rfl, L9, ws2, _, rfl, rfl, hL12, Nat.lt_of_le_of_lt lw cap1, ?_⟩
          have kt := kt_upd (ys := ws2 ++ [.ref e.2.1]) hL12
          refine ⟨_, _, _, _, ws2 ++ [.ref e.2.1], fs2 ++ [bs], rfl, fun a o ne ea => by rw [upd_ne ne]; exact b12 a o ne ea, upd_same, (hf12.kt kt).snoc ⟨_, rfl, kt.st hu12⟩, ?_, fun b => ?_⟩
          · refine List.nodup_append.mpr ⟨nd10, List.nodup_cons.mpr ⟨(fun h => nomatch h), List.nodup_nil⟩, fun a ha b hb e => ?_⟩
            rw [List.mem_singleton.mp hb] at e
            rw [e] at ha
            exact bnot ((mf10 bs).mp ha).1
          · rw [List.mem_append, mf10, tk, List.mem_singleton]
            constructor
            · rintro (h | rfl)
              · exact ⟨.inl h.1, h.2⟩
              · exact ⟨.inr rfl, nin, lost.mp nz⟩
            · rintro ⟨h | h, h2⟩
              · exact .inl ⟨h, h2⟩
              · exact .inr h
      · rintro σ H10 ⟨y4, y9, y10, y11, ws2, fs2, rfl, b10, hL10, hf10, nd10, mf10⟩
        rw [esl, List.take_length] at mf10
        have s410 : Same H4 H10 := fun a o ea => b10 _ _ (ne_of_none ea n4L) (s49 _ _ ea)
        have kd10 : KDx w H10 N xs := kd9.kt (but_ktL hL9 b10) fun o z => b10 _ _ nNL z
        dsimp only [gName]
        have lw : ws2.length ≤ 531441 := by
          have h1 := Paired.length hf10
          have h2 := nodup_le nd10 fun b hb => ((mf10 b).mp hb).1
          omega
        have fsl := Paired.length hf10
        refine ⟨.ref N, rfl, N, xs, rfl, kd10.r, .ref L9, rfl, L9, rfl, ⟨_, .inl (.inl hL10)⟩, fun F2 nF2 => ?_⟩
        refine lc_RB (walk_list (K := K) (a := L9) (xs := ws2)) (fun _ _ _ _ y => YAt.same y) (fun H2 j z => ∃ bs, fs2[j]? = some bs ∧ ∃ T u, z = .ref T ∧ H2 T = some (.tup [.ref u, .int ((t + 1 : Nat) : Int)]) ∧ StAt H2 u bs) (fun H2 H3 j z k b h => ?_) nF2 (by omega) (fun H2 s2 => .inl (.inl (s2 _ _ hL10))) (fun j y H11 H12 hj s11 hl yy Z hZ => ?_) (fun H11 zs s11 hF2 pr => ?_)
        · obtain ⟨bs, e, T, u, ez, hT, hu⟩ := h
          exact ⟨bs, e, T, u, ez, k.kpT _ _ hT, k.st hu⟩
        · obtain ⟨rfl, hx⟩ := yy
          obtain ⟨bs, hb, u, rfl, hu⟩ := Paired.get hf10 hx
          refine ⟨rfl, .ref u, rfl, .int _, rfl, (by show 2 ≤ sizeLine; decide), fun T nT => ?_⟩
          have sT := same_upd (o := .tup [.ref u, .int ((t + 1 : Nat) : Int)]) nT
          exact hZ _ _ sT ⟨bs, hb, T, u, rfl, upd_same, (hu.same s11).same sT⟩
        · have pz : Paired (fun z bs => ∃ T u v, z = .ref T ∧ H11 T = some (.tup [.ref u, v]) ∧ StAt H11 u bs ∧ v = .int ((t + 1 : Nat) : Int)) zs fs2 := by
            have l := Paired.length pr
            rw [List.length_range] at l
            refine pairedG (by omega) fun i z bs hz hb => ?_
            obtain ⟨k', hk', bs', hb', T, u, e, hT, hu⟩ := Paired.get2 pr hz
            have hi : i < ws2.length := by
              have := (List.getElem?_eq_some_iff.mp hz).1
              omega
            rw [List.getElem?_range hi] at hk'
            cases hk'
            rw [hb] at hb'
            cases hb'
            exact ⟨T, u, _, e, hT, hu, rfl⟩
          obtain ⟨ps, es2, rfl, pt, pe2⟩ := tab_pairs (K := K) (F := fun u v bs => StAt H11 u bs ∧ v = .int ((t + 1 : Nat) : Int)) pz
          have ek2 := tab_keys pe2
          have es2l : es2.length = fs2.length := Paired.length pe2
          have knd2 : (es2.map (·.1)).Nodup := by rw [ek2]; exact skeys_nodup nd10
          refine ⟨F2, ps, es2, rfl, .inl (.inl hF2), pt, fun e he => ?_, fun d2 H12 nd2 s12 kd12 => ?_⟩
          · obtain ⟨i, hi, ei⟩ := List.getElem_of_mem he
            obtain ⟨bs, hb, e1, hu, _⟩ := Paired.get pe2 (List.getElem?_eq_getElem hi)
            rw [ei] at e1 hu
            rw [e1]
            exact ⟨hu.nk, skey_depth _⟩
          rw [putAllX_nd (xs := []) knd2, List.nil_append] at kd12
          have s102 := s11.trans s12
          have kdN := kd10.same s102
          have nd2N : N ≠ d2 := ne_of_none (s11 _ _ kd10.ob) nd2
          have notin : ∀ b ∈ fs2, ¬ InK xs b := fun b hb => ((mf10 b).mp hb).2.1
          have mem2 : ∀ x ∈ es2, ∃ b ∈ fs2, x.1 = skey b ∧ x.2.2 = .int ((t + 1 : Nat) : Int) := fun x hx => by
            obtain ⟨i, hi, ei⟩ := List.getElem_of_mem hx
            obtain ⟨b, hb, e1, _, e2⟩ := Paired.get pe2 (List.getElem?_eq_getElem hi)
            rw [ei] at e1 e2
            exact ⟨b, List.mem_of_getElem? hb, e1, e2⟩
          have ndA : ((xs ++ es2).map (·.1)).Nodup := by
            rw [List.map_append]
            refine List.nodup_append.mpr ⟨kd10.nd, knd2, fun a ha b hb e => ?_⟩
            obtain ⟨x, hx, rfl⟩ := List.mem_map.mp ha
            obtain ⟨y, hy, rfl⟩ := List.mem_map.mp hb
            obtain ⟨bs, hbs, e1, _⟩ := mem2 y hy
            exact notin bs hbs (InK.of kd10.nd hx (e.trans e1))
          have inA : ∀ b, InK (xs ++ es2) b ↔ Gst sz p M (W : Int) b ∧ Lst sz p M (W : Int) (t + 1) b := fun b => by
            rw [InK.iff ndA]
            constructor
            · rintro ⟨x, hx, e⟩
              rcases List.mem_append.mp hx with hx | hx
              · have := (in7 b).mp (InK.of kd10.nd hx e)
                exact ⟨this.1, this.2.up⟩
              · obtain ⟨b', hb', e1, _⟩ := mem2 x hx
                have eb := skey_inj (e.symm.trans e1)
                rw [eb]
                have := (mf10 b').mp hb'
                exact ⟨(mbs b').mp this.1, this.2.2⟩
            · rintro ⟨g, l⟩
              rcases Classical.em (InK xs b) with z | z
              · obtain ⟨x, hx, e⟩ := z.mem
                exact ⟨x, List.mem_append_left _ hx, e⟩
              · have hb : b ∈ fs2 := (mf10 b).mpr ⟨(mbs b).mpr g, z, l⟩
                have : skey b ∈ es2.map (·.1) := by rw [ek2]; exact List.mem_map.mpr ⟨b, hb, rfl⟩
                obtain ⟨x, hx, e⟩ := List.mem_map.mp this
                exact ⟨x, List.mem_append_right _ hx, e⟩
          have lenA : (xs ++ es2).length ≤ 531441 := Nat.le_trans (keys_few (bss := bss) ndA fun x hx => by
            rcases List.mem_append.mp hx with hx | hx
            · obtain ⟨b, r, e, _, g, _⟩ := en7 x hx
              exact ⟨b, (mbs b).mpr g, e⟩
            · obtain ⟨b, hb, e, _⟩ := mem2 x hx
              exact ⟨b, ((mf10 b).mp hb).1, e⟩) bl2
          refine ⟨d2, es2, rfl, nd2N, kdN, kd12.r, .inr ?_, by rw [List.length_append] at lenA; omega, fun H13 b13 kd13 => ?_⟩
          · have : (es2.map fun e => e.1.hash w) = fs2.map hashS := by
              have := congrArg (List.map (NestedKey.hash w)) ek2
              rw [List.map_map, List.map_map] at this
              exact this.trans (List.map_congr_left fun b _ => hash_skey w b)
            show (es2.map fun e => e.1.hash w).Nodup
            rw [this]
            exact hash_nodup hh nd10 fun b hb => ((mbs b).mp ((mf10 b).mp hb).1).st
          rw [putAllX_nd ndA] at kd13
          have k13 := b13.ktX kdN
          have nNL' : L9 ≠ N := nNL.symm
          refine ⟨2 * (531441 - (xs ++ es2).length) + (if fs2 = [] then 0 else 1), ?_, y4, y9, y10, y11, t + 1, L9, ws2, fs2, xs ++ es2, rfl, fun a o ea => b13 _ _ (ne_of_none ea nN) (s102 _ _ (s410 _ _ ea)), kd13, fun x hx => ?_, inA, b13 _ _ nNL' (s102 _ _ hL10), (hf10.kt (Same.kt s102)).kt k13, lw, fun ef => ⟨by omega, fun b g l => ?_⟩, lenA, fun x hx => ?_, rfl⟩
          · rw [if_neg ne7]
            rw [List.length_append, es2l] at lenA ⊢
            split
            · rename_i z
              rw [z]
              show 2 * (531441 - (xs.length + 0)) + 0 < _
              omega
            · rename_i z
              have : 1 ≤ fs2.length := by
                cases fs2 with
                | nil => exact absurd rfl z
                | cons a r => rw [List.length_cons]; omega
              omega
          · rcases List.mem_append.mp hx with hx | hx
            · exact en7 x hx
            · obtain ⟨b, hb, e1, e2⟩ := mem2 x hx
              obtain ⟨h1, h2, h3⟩ := (mf10 b).mp hb
              have g := (mbs b).mp h1
              exact ⟨b, t + 1, e1, e2, g, h3, fun k hk l => h2 ((in7 b).mpr ⟨g, l.mono (by omega)⟩)⟩
          · rw [Nat.add_sub_cancel]
            refine ((in7 b).mp (Classical.byContradiction fun z => ?_)).2
            have : b ∈ fs2 := (mf10 b).mpr ⟨(mbs b).mpr g, z, l⟩
            rw [ef] at this
            cases this
          · rcases List.mem_append.mp hx with hx | hx
            · exact ks7.kt (((Same.kt (sE.trans (s9.trans sT9))).trans (but_ktL hL9 b10)).trans ((Same.kt s102).trans k13)) x hx
            · obtain ⟨i, hi, ei⟩ := List.getElem_of_mem hx
              obtain ⟨b, hb, e1, hu, _⟩ := Paired.get pe2 (List.getElem?_eq_getElem hi)
              rw [ei] at e1 hu
              exact ⟨b, e1, k13.st (hu.same s12)⟩
end
end Ph

set_option maxHeartbeats 8000000
namespace Ph
open PySem PySem.Spec PyProof.Rows L2
/-- the states to which the answers to a request can lead -/
def Beh (W : Int) (bs : List Bk) : Rqt → List Bk → Prop
  | .fr a, cs => cs = ct bs a
  | .gt z, cs => ∃ a, Plc W bs z a ∧ cs = wb bs a z
section
variable {P : Program} {w : World} {K : PySem.W.Frag} {mg : Str → Option Value} {base : Heap}
def spSx : Sp := fun vs H Q _ => ∃ (c t : Addr) (v : V) (s : Nat → Nat) (p n M m r : Nat) (bs : List Bk) (q : Rqt), vs = [.ref c, .int n, .ref t, v] ∧ GmAt H c t s p n M m bs ∧ ReqAt H v q ∧ Goes s p M ((n * s p : Nat) : Int) r bs q ∧
  ∀ H' D ys css, H D = none → Same H H' → H' D = some (.lst ys) → StVs H' ys css → (∀ cs, cs ∈ css ↔ Beh ((n * s p : Nat) : Int) bs q cs) → ys.length ≤ 13 → Q (.ref D) H'
theorem ok_Sx {k : Nat} (Z : Fns K mg) : FnOk P w K mg base CX0 (k + 1 + 1 + 1 + 1 + 1 + 1) Z.fSx Z.fdSx ["chain", "pages", "state", "request"] spSx := by
  have GPl : FnOk P w K mg base CX0 (k + 1 + 1 + 1 + 1 + 1) Z.fPl Z.fdPl ["chain", "pages", "state", "size"] spPl := ok_Pl Z
  have GWb : FnOk P w K mg base CX0 (k + 1) Z.fWb Z.fdWb ["state", "address", "size"] spWb := ok_Wb Z
  have GOb : FnOk P w K mg base CX0 (k + 1 + 1 + 1) Z.fOb Z.fdOb ["state", "address"] (spOb K) := ok_Ob Z
  refine Z.FSx.ok scSx (fun vs H Q E h => ?_) (fun cdv A outer s H vs Q E hr h => ?_)
  · obtain ⟨c, t, v, s, p, n, M, m, r, bs, q, rfl, _⟩ := h
    rfl
  · obtain ⟨c, t, v, sz, p, n, M, m, r, bs, q, rfl, ⟨hc, cn, sml, ht, g⟩, ⟨rr, rfl, hrr⟩, gs, fin⟩ := h
    have hu64 := u64_of hr
    refine ⟨_, (pss_cons (ps_asg (pv 3) (pg_tup (by rfl) (pgs_cons (pg_name (i := 4) scSx.nd rfl (.inl rfl)) (pgs_cons (pg_name (i := 5) scSx.nd rfl (.inr rfl)) pgs_nil))))
 (pss_cons (ps_if (pt_cmpR op_eq (pv 4) pe_str (nomark _))
 (pss_one (ps_ret (pe_lst (pa_cons (pe_call GOb (hr.mono (by omega)) (by rfl) Z.gOb Z.FOb.kp Z.bOb .nil pass0 (pa_cons (pv 2) (pa_cons (pv 5) pa_nil))) pa_nil)))) pss_nil)
 (pss_one (ps_ret (pe_lc (own := [("place", 6)]) (g := (gName 6)) (tt := tYes) (by rfl) scSx.nd (pi_tup (pe_call GPl (hr.mono (by omega)) (by rfl) Z.gPl Z.FPl.kp Z.bPl .nil pass0 (pa_cons (pv 0) (pa_cons (pv 1) (pa_cons (pv 2) (pa_cons (pv 5) pa_nil)))))) (blkOk_by (N := scSxN) (sc := defScope scSxS) (by decide +kernel)) (fun _ _ _ _ _ => (pg_name (i := 6) scSx.nd rfl (.inl rfl))) (fun _ _ _ _ _ => pts_nil) (fun _ _ _ _ _ => (pe_call GWb (hr.mono (by omega)) (by rfl) Z.gWb Z.FWb.kp Z.bWb .nil pass0 (pa_cons (pv 2) (pa_cons (pv 6) (pa_cons (pv 5) pa_nil)))))))))), ?_⟩
    obtain ⟨W, hW⟩ : ∃ W : Nat, n * sz p = W := ⟨_, rfl⟩
    rw [hW] at g gs fin
    have s1 := sml.z
    have n1 := sml.n
    have p1 := sml.q
    have w1 : W ≤ 12 := by have := sml.w; omega
    have eW : ((n : Nat) : Int) * ((sz p : Nat) : Int) = (W : Int) := by rw [← hW, Int.natCast_mul]
    have few := st_len g.st (by omega)
    have szp : ∀ j, j ≤ p → 0 < sz j ∧ sz j ≤ 12 := fun j hj => ⟨cn.ch.pos (by omega), Nat.le_trans (cn.ch.mono (i := j) (j := p) hj (by omega)) sml.z⟩
    cases q with
    | fr a =>
      obtain ⟨b, hb, eb, _⟩ := gs
      have hrr : H rr = some (.tup [.str "free", .int a]) := hrr
      refine ⟨.ref rr, rfl, rr, _, rfl, .inl (.inl hrr), rfl, _, _, rfl, _, _, rfl, rfl, ?_⟩
      dsimp only [gName]
      refine ⟨.str "free", rfl, rfl, _, rfl, ite2 (fun _ => ?_) (fun c0 => absurd (by decide +kernel) c0)⟩
      refine ⟨.ref t, rfl, .int a, rfl, t, bs, a, rfl, ht, by omega, ⟨b, hb, eb⟩, fun H1 u s1 hu => ⟨(by show 1 ≤ sizeLine; decide), fun D nD => ?_⟩⟩
      have sD := same_upd (o := .lst [.ref u]) nD
      exact fin _ D [.ref u] [ct bs a] (none_of_same s1 nD) (s1.trans sD) upd_same (.cons ⟨u, rfl, hu.same sD⟩ .nil) (fun cs => by rw [List.mem_singleton]; exact Iff.rfl) (by simp)
    | gt z =>
      obtain ⟨j, hj, rfl, lim, _⟩ := gs
      obtain ⟨z0, z1⟩ := szp j hj
      have hrr : H rr = some (.tup [.str "get", .int ((sz j : Nat) : Int)]) := hrr
      refine ⟨.ref rr, rfl, rr, _, rfl, .inl (.inl hrr), rfl, _, _, rfl, _, _, rfl, rfl, ?_⟩
      dsimp only [gName]
      refine ⟨.str "get", rfl, rfl, _, rfl, ite2 (fun c0 => absurd c0 (by decide +kernel)) (fun _ => ?_)⟩
      refine ⟨.ref c, rfl, .int n, rfl, .ref t, rfl, .int _, rfl, c, t, tl sz p, ((sz p : Nat) : Int), (n : Int), ((sz j : Nat) : Int), bs, rfl, by rw [← tl_succ]; exact hc, by rw [← tl_succ]; exact tl_mem.mpr ⟨j, by omega, rfl⟩, by omega, by omega, by omega, by omega, by omega, by omega, ht, by rw [← tl_succ, eW]; exact g.st, by omega, fun H1 P1 s1 hP => ?_⟩
      rw [eW] at hP
      have hP : H1 P1 = some (.tup ((plcs W bs ((sz j : Nat) : Int)).map V.int)) := hP
      have pl := plcs_len (z := ((sz j : Nat) : Int)) (by omega) (by omega) g.st
      refine ⟨P1, rfl, ⟨_, .inl (.inl hP)⟩, fun D nD => ?_⟩
      refine lc_R (walk_tup (K := K) (a := P1) (xs := (plcs W bs ((sz j : Nat) : Int)).map V.int)) (fun _ _ _ _ y => YAt.same y) (fun H8 i y => ∃ a, (plcs W bs ((sz j : Nat) : Int))[i]? = some a ∧ StV H8 y (wb bs a ((sz j : Nat) : Int))) (fun H8 H9 _ y kp h => by obtain ⟨a, h1, t, e, h2⟩ := h; exact ⟨a, h1, t, e, h2.mono kp⟩) nD (by rw [List.length_map]; exact Nat.lt_of_le_of_lt (show _ ≤ 12 by omega) (by decide)) (fun H4 s4 => .inl (.inl (s4 _ _ hP))) (fun i y H8 H9 hi s8 yy Z hZ => ?_) (fun H8 ys s8 hD pr => ?_)
      · obtain ⟨rfl, hx⟩ := yy
        obtain ⟨a, ha, rfl⟩ : ∃ a, (plcs W bs ((sz j : Nat) : Int))[i]? = some a ∧ y = V.int a := by
          rw [List.getElem?_map] at hx
          obtain ⟨z, h1, h2⟩ := Option.map_eq_some_iff.mp hx
          exact ⟨z, h1, h2.symm⟩
        have pa := (mem_plcs (by omega) (by omega) g.st).mp (List.mem_of_getElem? ha)
        refine ⟨rfl, .ref t, rfl, .int a, rfl, .int _, rfl, t, bs, a, _, rfl, (ht.same s1).same s8, by omega, fun H6 u cs s6 hu pm srt => ?_⟩
        have ecs := wb_of g.st pm srt
        subst ecs
        exact hZ _ _ s6 ⟨a, ha, u, rfl, hu⟩
      · rw [List.length_map] at pr
        have pr2 : StVs H8 ys ((plcs W bs ((sz j : Nat) : Int)).map fun a => wb bs a ((sz j : Nat) : Int)) := by
          have l := Paired.length pr
          rw [List.length_range] at l
          refine pairedG (by rw [List.length_map]; omega) fun i y b hy hb => ?_
          obtain ⟨i', hi', a, ha, st⟩ := Paired.get2 pr hy
          have hi : i < (plcs W bs ((sz j : Nat) : Int)).length := by
            have := (List.getElem?_eq_some_iff.mp hy).1
            omega
          rw [List.getElem?_range hi] at hi'
          cases hi'
          rw [List.getElem?_map, ha] at hb
          cases hb
          exact st
        refine fin H8 D ys _ (none_of_same s1 nD) (s1.trans s8) hD pr2 (fun cs => ?_) (by have := Paired.length pr2; rw [List.length_map] at this; omega)
        rw [List.mem_map]
        constructor
        · rintro ⟨a, ha, rfl⟩
          exact ⟨a, (mem_plcs (by omega) (by omega) g.st).mp ha, rfl⟩
        · rintro ⟨a, ha, rfl⟩
          exact ⟨a, (mem_plcs (by omega) (by omega) g.st).mpr ha, rfl⟩
end
end Ph

set_option maxHeartbeats 8000000
namespace Ph
open PySem PySem.Spec PyProof.Rows L2
theorem pe_xgetW {X : Cx} {w : World} {o i : Expr} {pos : Pos} {td ty : TE} (e : X.w = w) (hu : X.A.units + 64 < cLine) (ho : PE X o td) (hi : PE X i ty) (hs : NoSl i) : PE X (.Subscript o i pos) (tXGet w td ty) := by
  subst e
  exact pe_xget hu ho hi hs
/-- a row of a strategy: a state, the moves that are left, the request to begin with -/
def RowV (s : Nat → Nat) (p M : Nat) (W : Int) (C : List Bk → Prop) (H : Hp) (y : V) (bs : List Bk) : Prop := ∃ T u v r q, y = .ref T ∧ H T = some (.tup [.ref u, .int ((r : Nat) : Int), v]) ∧ StAt H u bs ∧ ReqAt H v q ∧ Gst s p M W bs ∧ Rnk s p M W r bs ∧ Goes s p M W r bs q ∧ ∀ cs, Beh W bs q cs → C cs
theorem RowV.kt {s : Nat → Nat} {p M : Nat} {W : Int} {C : List Bk → Prop} {H H' : Hp} {y : V} {bs : List Bk} (h : RowV s p M W C H y bs) (k : Kt H H') : RowV s p M W C H' y bs := by
  obtain ⟨T, u, v, r, q, e, hT, hu, hv, g, rk, gs⟩ := h
  exact ⟨T, u, v, r, q, e, k.kpT _ _ hT, k.st hu, hv.kt k, g, rk, gs⟩
theorem RowV.imp {s : Nat → Nat} {p M : Nat} {W : Int} {C C' : List Bk → Prop} {H : Hp} {y : V} {bs : List Bk} (h : RowV s p M W C H y bs) (k : ∀ cs, C cs → C' cs) : RowV s p M W C' H y bs := by
  obtain ⟨T, u, v, r, q, e, hT, hu, hv, g, rk, gs, c⟩ := h
  exact ⟨T, u, v, r, q, e, hT, hu, hv, g, rk, gs, fun cs b => k cs (c cs b)⟩
section
variable {P : Program} {w : World} {K : PySem.W.Frag} {mg : Str → Option Value} {base : Heap}
def spSt : Sp := fun vs H Q _ => ∃ (c t : Addr) (s : Nat → Nat) (p n M m : Nat) (bs : List Bk), vs = [.ref c, .int M, .int n, .ref t] ∧ GmAt H c t s p n M m bs ∧ (∃ k, Lst s p M ((n * s p : Nat) : Int) k bs) ∧
  ∀ H' T ys ns, Same H H' → H' T = some (.tup ys) → Paired (RowV s p M ((n * s p : Nat) : Int) (fun cs => cs ∈ ns) H') ys ns → ns.Nodup → ns.Pairwise (fun a b => stLt b a = false) → bs ∈ ns → ns.length ≤ 531441 → Q (.ref T) H'
theorem ok_St {k : Nat} (Z : Fns K mg) : FnOk P w K mg base CX0 (k + 1 + 1 + 1 + 1 + 1 + 1 + 1 + 1 + 1) Z.fSt Z.fdSt ["chain", "limit", "pages", "state"] spSt := by
  have GCk : FnOk P w K mg base CX0 (k + 1 + 1 + 1 + 1 + 1) Z.fCk Z.fdCk ["chain", "limit", "pages", "state"] spCk := ok_Ck Z
  have GUs : FnOk P w K mg base CX0 (k + 1 + 1 + 1 + 1 + 1 + 1 + 1 + 1) Z.fUs Z.fdUs ["chain", "limit", "pages"] (spUs w) := ok_Us Z
  have GSx : FnOk P w K mg base CX0 (k + 1 + 1 + 1 + 1 + 1 + 1) Z.fSx Z.fdSx ["chain", "pages", "state", "request"] spSx := ok_Sx Z
  refine Z.FSt.ok scSt (fun vs H Q E h => ?_) (fun cdv A outer s H vs Q E hr h => ?_)
  · obtain ⟨c, t, s, p, n, M, m, bs, rfl, _⟩ := h
    rfl
  · obtain ⟨c, t, sz, p, n, M, m, bs, rfl, gm, lost, fin⟩ := h
    have hu64 := u64_of hr
    refine ⟨_, (pss_cons (ps_expr (pe_call GCk (hr.mono (by omega)) (by rfl) Z.gCk Z.FCk.kp Z.bCk .nil pass0 (pa_cons (pv 0) (pa_cons (pv 1) (pa_cons (pv 2) (pa_cons (pv 3) pa_nil))))))
 (pss_cons (ps_set (i := 4) scSt.nd rfl (.inl rfl) (pe_call GUs (hr.mono (by omega)) (by rfl) Z.gUs Z.FUs.kp Z.bUs .nil pass0 (pa_cons (pv 0) (pa_cons (pv 1) (pa_cons (pv 2) pa_nil)))))
 (pss_cons (ps_if (pt_cmpR (op_xNotIn hu64) (pv 3) (pv 4) (by rfl))
 (pss_one ps_never) pss_nil)
 (pss_cons (ps_set (i := 5) scSt.nd rfl (.inr rfl) pe_xnew)
 (pss_cons (ps_set (i := 6) scSt.nd rfl (.inl rfl) (pe_lst (pa_cons (pv 3) pa_nil)))
 (pss_cons (ps_while PassesOwn.never (pt_truth (pv 6) (fun _ => rfl))
 (pss_cons (ps_set (i := 7) scSt.nd rfl (.inl rfl) (pe_bm0 PySem.F.plainAttrs_list PySem.F.slot_list_pop PySem.F.type_list_pop mt_pop (pv 6)))
 (pss_one (ps_if (pt_cmpR (op_xNotIn hu64) (pv 7) (pv 5) (by rfl))
 (pss_cons (ps_asg (pe_xget hu64 (pv 4) (pv 7) (fun _ _ => rfl)) (pg_tup (by rfl) (pgs_cons (pg_name (i := 8) scSt.nd rfl (.inl rfl)) (pgs_cons (pg_name (i := 9) scSt.nd rfl (.inl rfl)) pgs_nil))))
 (pss_cons (ps_xput hu64 (pv 5) (pv 7) (pe_tup (pa_cons (pv 7) (pa_cons (pv 8) (pa_cons (pv 9) pa_nil)))) rfl)
 (pss_one (ps_expr (pe_bm PySem.F.plainAttrs_list PySem.F.slot_list_extend PySem.F.type_list_extend mt_extend (pv 6) (pa_cons (pe_call GSx (hr.mono (by omega)) (by rfl) Z.gSx Z.FSx.kp Z.bSx .nil pass0 (pa_cons (pv 0) (pa_cons (pv 2) (pa_cons (pv 7) (pa_cons (pv 9) pa_nil))))) pa_nil)))))) pss_nil))))
 (pss_one (ps_ret (pe_callTy call_tuple_of (by rfl) Z.N.tuple (by decide +kernel) (pa_cons (pe_lc (own := [("current", 7)]) (g := (gName 7)) (tt := tYes) (by rfl) scSt.nd (pi_list (pe_callB (cr_sortedXo rfl hu64) (by rfl) Z.N.sorted (by decide +kernel) (pa_cons (pv 5) pa_nil))) (blkOk_by (N := scStN) (sc := defScope scStS) (by decide +kernel)) (fun _ _ _ _ _ => (pg_name (i := 7) scSt.nd rfl (.inl rfl))) (fun _ _ _ _ _ => pts_nil) (fun _ _ _ _ _ => (pe_xgetW (w := w) rfl (by exact hu64) (pv 5) (pv 7) (fun _ _ => rfl)))) pa_nil)))))))))), ?_⟩
    obtain ⟨hc, cn, sml, ht, g⟩ := id gm
    have w1 : n * sz p ≤ 12 := sml.w
    have cap8 : (8000000 : Nat) < sizeLine := by decide
    obtain ⟨as, has, al, _⟩ := gst_list (s := sz) (p := p) (M := M) w1
    refine ⟨.ref c, rfl, .int M, rfl, .int n, rfl, .ref t, rfl, c, t, sz, p, n, M, m, bs, rfl, gm, fun H1 v1 s1 => ?_⟩
    refine ⟨.ref c, rfl, .int M, rfl, .int n, rfl, c, sz, p, n, M, m, rfl, hc.keep s1, cn, sml, fun H2 N0 us nN0 s2 lsd ul hus => ?_⟩
    have ht2 := ht.same (s1.trans s2)
    dsimp only [gName]
    have inb : InK us bs := (hus bs).mpr ⟨g, lost⟩
    refine seq_splitR (fun σ' H' => σ' = [some (.ref c), some (.int M), some (.int n), some (.ref t), some (.ref N0), none, none, none, none, none] ∧ H' = H2) (fun D' rt' hD' => ?_) ?_
    · refine ⟨.ref t, rfl, .ref N0, rfl, N0, t, us, skey bs, rfl, rfl, lsd.kd.r, ht2.nk, skey_depth _, _, rfl, ite2 (fun cc => absurd inb (InK.not cc).2) (fun _ => hD' _ _ ⟨rfl, rfl⟩)⟩
    rintro σ' H2' ⟨rfl, rfl⟩
    refine fun N H3 nN s3 kdN => ?_
    dsimp only [gName]
    refine ⟨.ref t, rfl, (by show 1 ≤ sizeLine; decide), fun L nL => ?_⟩
    have sL := same_upd (o := .lst [.ref t]) nL
    have hL : upd H3 L (.lst [.ref t]) L = some (.lst [.ref t]) := upd_same
    have kd4 := kdN.same sL
    have NL : N ≠ L := ne_of_none kdN.ob nL
    have s24 := s3.trans sL
    have ht4 := ht2.same s24
    have lsd4 := lsd.kt (Same.kt s24) fun o h => s24 _ _ h
    have s04 : Same H (upd H3 L (.lst [.ref t])) := s1.trans (s2.trans s24)
    have N0N : N0 ≠ N := ne_of_none lsd.kd.ob nN
    have N0L : N0 ≠ L := ne_of_none (s3 _ _ lsd.kd.ob) nL
    have nNH : H N = none := none_of_same (s1.trans s2) nN
    have nLH : H L = none := none_of_same (s1.trans (s2.trans s3)) nL
    have hc4 := hc.keep s04
    generalize upd H3 L (.lst [.ref t]) = H4 at *
    dsimp only [gName]
    refine seq_splitR (fun σ' H' => ∃ y6 y7 y8 y9 xs, σ' = [some (.ref c), some (.int M), some (.int n), some (.ref t), some (.ref N0), some (.ref N), y6, y7, y8, y9] ∧ KG N L H4 H' ∧ KDx w H' N xs ∧ (∀ x ∈ xs, ∃ b, x.1 = skey b ∧ StAt H' x.2.1 b ∧ RowV sz p M ((n * sz p : Nat) : Int) (InK xs) H' x.2.2 b) ∧ InK xs bs) (fun D' rt' hD' => ?_) ?_
    · refine ⟨fun q σ H' => ∃ y7 y8 y9 xs ws bss, σ = [some (.ref c), some (.int M), some (.int n), some (.ref t), some (.ref N0), some (.ref N), some (.ref L), y7, y8, y9] ∧ KG N L H4 H' ∧ KDx w H' N xs ∧ (∀ x ∈ xs, ∃ b, x.1 = skey b ∧ StAt H' x.2.1 b ∧ RowV sz p M ((n * sz p : Nat) : Int) (fun cs => cs ∈ bss ∨ InK xs cs) H' x.2.2 b) ∧ H' L = some (.lst ws) ∧ StVs H' ws bss ∧ (∀ b ∈ bss, Gst sz p M ((n * sz p : Nat) : Int) b ∧ ∃ k, Lst sz p M ((n * sz p : Nat) : Int) k b) ∧ (bs ∈ bss ∨ InK xs bs) ∧ ws.length ≤ 1 + 13 * xs.length ∧ q = 14 * (531441 - xs.length) + ws.length,
        ⟨_, _, _, _, [], [.ref t], [bs], rfl, KG.refl _, kd4, (fun _ h => nomatch h), hL, .cons ⟨t, rfl, ht4⟩ .nil, fun b hb => by rw [List.mem_singleton.mp hb]; exact ⟨g, lost⟩, .inl (List.mem_singleton.mpr rfl), Nat.le_refl _, rfl⟩, ?_⟩
      rintro q σ H5 ⟨y7, y8, y9, xs, ws, bss, rfl, k5, kd5, en5, wl5, wv5, lo5, st5, ln5, rfl⟩
      refine ⟨.ref L, rfl, !ws.isEmpty, .inl ⟨ws, .inl (.inl wl5), by cases ws <;> simp⟩, ite2 (fun cc => ?_) (fun cc => hD' _ _ ⟨_, y7, y8, y9, xs, rfl, k5, kd5, ?_, ?_⟩)⟩
      rotate_left
      · have e : ws = [] := by
          cases ws with
          | nil => rfl
          | cons a r => exact absurd rfl cc
        have l := Paired.length wv5
        rw [e] at l
        have eb := List.length_eq_zero_iff.mp l.symm
        intro x hx
        obtain ⟨b, e1, st, rv⟩ := en5 x hx
        exact ⟨b, e1, st, rv.imp fun cs h => h.elim (fun z => by rw [eb] at z; cases z) id⟩
      · have e : ws = [] := by
          cases ws with
          | nil => rfl
          | cons a r => exact absurd rfl cc
        have l := Paired.length wv5
        rw [e] at l
        rcases st5 with h | h
        · rw [List.length_eq_zero_iff.mp l.symm] at h
          cases h
        · exact h
      obtain ⟨bss', b, rfl⟩ : ∃ ss' st, bss = ss' ++ [st] := by
        rcases List.eq_nil_or_concat bss with z | ⟨a, b, z⟩
        · have l := Paired.length wv5
          rw [z] at l
          rw [List.length_eq_zero_iff.mp l] at cc
          cases cc
        · exact ⟨a, b, by rw [z]; simp⟩
      obtain ⟨ws', x, rfl, wv', t', rfl, ht'⟩ := StVs.unsnoc wv5
      obtain ⟨gb, lb⟩ := lo5 b (by simp)
      refine ⟨_, fun σ' H' h => h, ?_⟩
      refine ⟨.ref L, rfl, .inl ⟨rfl, _, .inl (.inl wl5)⟩, L, _, .ref t', rfl, rfl, wl5, by simp, ?_⟩
      rw [List.dropLast_concat]
      have kL := KG.list (N := N) (ys := ws') wl5
      have k6 := k5.trans kL
      have kd6 := kd5.kt kL.kt fun o h => by rw [upd_ne NL]; exact h
      have en6 : ∀ x ∈ xs, ∃ b1, x.1 = skey b1 ∧ StAt (upd H5 L (.lst ws')) x.2.1 b1 ∧ RowV sz p M ((n * sz p : Nat) : Int) (fun cs => cs ∈ bss' ∨ cs = b ∨ InK xs cs) (upd H5 L (.lst ws')) x.2.2 b1 := fun x hx => by
        obtain ⟨b1, e, st, rv⟩ := en5 x hx
        refine ⟨b1, e, kL.st st, (rv.kt kL.kt).imp fun cs h => ?_⟩
        rcases h with h | h
        · rcases List.mem_append.mp h with h | h
          · exact .inl h
          · exact .inr (.inl (List.mem_singleton.mp h))
        · exact .inr (.inr h)
      have wl6 : upd H5 L (.lst ws') L = some (.lst ws') := upd_same
      have wv6 := wv'.kt kL.kt
      have ht6 := kL.st ht'
      have wlen : (ws' ++ [V.ref t']).length = ws'.length + 1 := by rw [List.length_append]; rfl
      rw [wlen] at ln5 ⊢
      generalize upd H5 L (.lst ws') = H6 at *
      dsimp only [gName]
      have few : ∀ {C : List Bk → Prop} {ys : List KAV} {H' : Hp}, KDx w H' N ys → (∀ x ∈ ys, ∃ b, x.1 = skey b ∧ StAt H' x.2.1 b ∧ RowV sz p M ((n * sz p : Nat) : Int) C H' x.2.2 b) → ys.length ≤ 531441 := fun kd en => Nat.le_trans (keys_few kd.nd fun x hx => by
        obtain ⟨b, e, _, rv⟩ := en x hx
        obtain ⟨_, _, _, _, _, _, _, _, _, g, _⟩ := rv
        exact ⟨b, has b g, e⟩) al
      refine ⟨.ref t', rfl, .ref N, rfl, N, t', xs, skey b, rfl, rfl, kd6.r, ht6.nk, skey_depth _, _, rfl, ite2 (fun c0 => ?_) (fun c0 => ?_)⟩
      · obtain ⟨nw, nin⟩ := InK.not c0
        have lsd6 := lsd4.kt k6.kt fun o h => k6.fr _ _ N0N N0L h
        obtain ⟨x, hx, ex⟩ := ((hus b).mpr ⟨gb, lb⟩).mem
        obtain ⟨b', r, q, u, v, e, st, _, ev, hu, rq, rk, gs⟩ := lsd6.en x hx
        have := skey_inj (ex.symm.trans e)
        subst this
        refine ⟨.ref N0, rfl, .ref t', rfl, N0, t', us, skey b, _, rfl, rfl, lsd6.kd.r, ht6.nk, skey_depth _, valV_kv2 lsd6.kd.nd hx ex, ?_⟩
        rw [ev]
        refine ⟨u, _, rfl, .inl (.inl hu), rfl, _, _, rfl, _, _, rfl, rfl, ?_⟩
        dsimp only [gName]
        refine ⟨.ref t', rfl, .int r, rfl, v, rfl, (by show 3 ≤ sizeLine; decide), fun R nR => ?_⟩
        have sR := same_upd (o := .tup [.ref t', .int ((r : Nat) : Int), v]) nR
        have hR : upd H6 R (.tup [.ref t', .int ((r : Nat) : Int), v]) R = some (.tup [.ref t', .int ((r : Nat) : Int), v]) := upd_same
        have kd7 := kd6.same sR
        have k7 := k6.trans (KG.same sR)
        have ht7 := ht6.same sR
        have rq7 := rq.kt (Same.kt sR)
        have wl7 := sR _ _ wl6
        have kl := few kd6 en6
        have row7 : RowV sz p M ((n * sz p : Nat) : Int) (Beh ((n * sz p : Nat) : Int) b q) (upd H6 R (.tup [.ref t', .int ((r : Nat) : Int), v])) (.ref R) b := ⟨R, t', v, r, q, rfl, hR, ht7, rq7, gb, rk, gs, fun _ h => h⟩
        have kt67 := Same.kt sR
        generalize upd H6 R (.tup [.ref t', .int ((r : Nat) : Int), v]) = H7 at *
        refine ⟨.ref N, rfl, .ref t', rfl, N, t', xs, skey b, rfl, rfl, kd7, ht7.nk, skey_depth _, Nat.lt_of_le_of_lt kl (by decide), fun H8 b8 kd8 => ?_⟩
        have g78 : KG N L H7 H8 := KG.putX b8 kd7
        have k8 := k7.trans g78
        have kt68 := kt67.trans g78.kt
        have e8 := putX_new (b := t') (v := V.ref R) nw
        have en8 : ∀ x ∈ putX xs (skey b) t' (.ref R), ∃ b1, x.1 = skey b1 ∧ StAt H8 x.2.1 b1 ∧ RowV sz p M ((n * sz p : Nat) : Int) (fun cs => (cs ∈ bss' ∨ Beh ((n * sz p : Nat) : Int) b q cs) ∨ InK (putX xs (skey b) t' (.ref R)) cs) H8 x.2.2 b1 := fun x hx => by
          rw [e8] at hx
          rcases List.mem_append.mp hx with hx | hx
          · obtain ⟨b1, e, st, rv⟩ := en6 x hx
            refine ⟨b1, e, kt68.st st, (rv.kt kt68).imp fun cs h => ?_⟩
            rcases h with h | h | h
            · exact .inl (.inl h)
            · exact .inr (by rw [h]; exact InK.new)
            · exact .inr h.put
          · rw [List.mem_singleton.mp hx]
            exact ⟨b, rfl, g78.st ht7, (row7.kt g78.kt).imp fun cs h => .inl (.inr h)⟩
        have len8 : (putX xs (skey b) t' (.ref R)).length = xs.length + 1 := by rw [e8, List.length_append]; rfl
        have few8 := few kd8 en8
        have wl8 := b8 _ _ NL.symm wl7
        have ht8 := g78.st ht7
        have wv8 := wv6.kt kt68
        have hc8 := k8.kt.ch hc4
        refine ⟨.ref L, rfl, .inl ⟨rfl, _, .inl (.inl wl8)⟩, .ref c, rfl, .int n, rfl, .ref t', rfl, v, rfl, c, t', v, sz, p, n, M, m, r, b, q, rfl, ⟨hc8, cn, sml, ht8, gb⟩, rq7.kt g78.kt, gs, fun H9 D ys css nD s9 hD hys mem len => ?_⟩
        have wl9 := s9 _ _ wl8
        refine ⟨L, D, ws', ys, rfl, rfl, wl9, hD, Nat.le_of_lt (Nat.lt_of_le_of_lt (show ws'.length + ys.length ≤ 8000000 by omega) cap8), ?_⟩
        have kL2 := KG.list (N := N) (ys := ws' ++ ys) wl9
        refine ⟨_, ?_, _, _, _, putX xs (skey b) t' (.ref R), ws' ++ ys, bss' ++ css, rfl, (k8.trans (KG.same s9)).trans kL2, (kd8.same s9).kt kL2.kt (fun o h => by rw [upd_ne NL]; exact h), fun x hx => ?_, upd_same, ?_, fun b2 hb2 => ?_, ?_, ?_, rfl⟩
        · rw [List.length_append]
          omega
        · obtain ⟨b1, e, st, rv⟩ := en8 x hx
          refine ⟨b1, e, kL2.st (st.same s9), ((rv.kt (Same.kt s9)).kt kL2.kt).imp fun cs h => ?_⟩
          rcases h with (h | h) | h
          · exact .inl (List.mem_append_left _ h)
          · exact .inl (List.mem_append_right _ ((mem cs).mpr h))
          · exact .inr h
        · exact pairedApp ((wv8.kt (Same.kt s9)).kt kL2.kt) (hys.kt kL2.kt)
        · rcases List.mem_append.mp hb2 with h | h
          · exact lo5 b2 (List.mem_append_left _ h)
          · have h := (mem b2).mp h
            cases q with
            | fr a =>
              obtain ⟨_, _, _, k, _, l⟩ := gs
              have h : b2 = ct b a := h
              rw [h]
              exact ⟨gb.cut, k, l⟩
            | gt z =>
              obtain ⟨j, hj, rfl, lim, k, _, l⟩ := gs
              obtain ⟨a, pa, rfl⟩ := h
              exact ⟨gb.put cn.ch hj lim pa, k, l a pa⟩
        · rcases st5 with h | h
          · rcases List.mem_append.mp h with h | h
            · exact .inl (List.mem_append_left _ h)
            · rw [List.mem_singleton.mp h]
              exact .inr InK.new
          · exact .inr h.put
        · rw [List.length_append, len8]
          omega
      · refine ⟨_, by show _ < 14 * (531441 - xs.length) + (ws'.length + 1); exact Nat.lt_succ_self _, _, _, _, xs, ws', bss', rfl, k6, kd6, fun x hx => by
          obtain ⟨b1, e, st, rv⟩ := en6 x hx
          refine ⟨b1, e, st, rv.imp fun cs h => ?_⟩
          rcases h with h | h | h
          · exact .inl h
          · exact .inr (by rw [h]; exact InK.yes c0)
          · exact .inr h, wl6, wv6, fun b hb => lo5 b (List.mem_append_left _ hb), ?_, by omega, rfl⟩
        rcases st5 with h | h
        · rcases List.mem_append.mp h with h | h
          · exact .inl h
          · rw [List.mem_singleton.mp h]
            exact .inr (InK.yes c0)
        · exact .inr h
    · rintro σ' H5 ⟨y6, y7, y8, y9, xs, rfl, k5, kd5, en5, inn⟩
      obtain ⟨ns, hns, nd, mns⟩ := kx_states (G := fun b => True) kd5.nd fun x hx => by
        obtain ⟨b, e, st, _⟩ := en5 x hx
        exact ⟨b, e, st, trivial⟩
      have few := keys_few kd5.nd fun x hx => by
        obtain ⟨b, e, _, rv⟩ := en5 x hx
        obtain ⟨_, _, _, _, _, _, _, _, _, g, _⟩ := rv
        exact ⟨b, has b g, e⟩
      have sm : Same H H5 := fun a o e => k5.fr _ _ (ne_of_none e nNH) (ne_of_none e nLH) (s04 _ _ e)
      refine ⟨.ref N, rfl, N, xs, ns, rfl, kd5.r, hns, fun ys css q pm so hys nq => ⟨q, rfl, ⟨_, .inl (.inl upd_same)⟩, fun D nD => ?_⟩⟩
      have sq := same_upd (o := .lst ys) nq
      have hq : upd H5 q (.lst ys) q = some (.lst ys) := upd_same
      have kd6 := kd5.same sq
      have hys6 := hys.kt (Same.kt sq)
      have en6 : ∀ x ∈ xs, ∃ b, x.1 = skey b ∧ RowV sz p M ((n * sz p : Nat) : Int) (fun cs => cs ∈ css) (upd H5 q (.lst ys)) x.2.2 b := fun x hx => by
        obtain ⟨b, e, _, rv⟩ := en5 x hx
        exact ⟨b, e, (rv.kt (Same.kt sq)).imp fun cs h => pm.mem_iff.mpr ((mns cs).mpr h)⟩
      generalize upd H5 q (.lst ys) = H6 at *
      have yl : ys.length = css.length := Paired.length hys6
      have l1 := Paired.length hns
      rw [List.length_map] at l1
      have l2 := pm.length_eq
      refine lc_R (walk_list (K := K) (a := q) (xs := ys)) (fun _ _ _ _ y => YAt.same y) (fun H8 i y => ∃ b, css[i]? = some b ∧ RowV sz p M ((n * sz p : Nat) : Int) (fun cs => cs ∈ css) H8 y b) (fun H8 H9 _ y kp h => by
        obtain ⟨b, h1, T, u, v, r, q, e, hT, hu, hv, g, rk, gs⟩ := h
        obtain ⟨rr, e2, hrr⟩ := hv
        exact ⟨b, h1, T, u, v, r, q, e, kp _ _ hT, hu.mono kp, ⟨rr, e2, kp _ _ hrr⟩, g, rk, gs⟩) nD (by rw [yl]; exact Nat.lt_of_le_of_lt (show css.length ≤ 531441 by omega) (by decide)) (fun H4 s4 => .inl (.inl (s4 _ _ hq))) (fun i y H8 H9 hi s8 yy Z hZ => ?_) (fun H8 zs s8 hD pr => ?_)
      · obtain ⟨rfl, hx⟩ := yy
        obtain ⟨b, hb, t', rfl, ht'⟩ := Paired.get hys6 hx
        have hb2 : b ∈ ns := pm.mem_iff.mp (List.mem_of_getElem? hb)
        obtain ⟨x, hx2, ex⟩ := ((mns b).mp hb2).mem
        obtain ⟨b', e, rv⟩ := en6 x hx2
        have := skey_inj (ex.symm.trans e)
        subst this
        have kd9 := kd6.same s8
        refine ⟨rfl, .ref N, rfl, .ref t', rfl, N, t', xs, skey b, _, rfl, rfl, kd9.r, (ht'.same s8).nk, skey_depth _, valV_kv2 kd9.nd hx2 ex, hZ _ _ (Same.refl _) ⟨b, hb, rv.kt (Same.kt s8)⟩⟩
      · have pr2 : Paired (RowV sz p M ((n * sz p : Nat) : Int) (fun cs => cs ∈ css) H8) zs css := by
          have l := Paired.length pr
          rw [List.length_range] at l
          refine pairedG (by omega) fun i y b hy hb => ?_
          obtain ⟨i', hi', a, ha, st⟩ := Paired.get2 pr hy
          have hi : i < ys.length := by
            have := (List.getElem?_eq_some_iff.mp hy).1
            omega
          rw [List.getElem?_range hi] at hi'
          cases hi'
          rw [ha] at hb
          cases hb
          exact st
        refine ⟨D, zs, rfl, .inl ⟨.inl (.inl hD), fun T nT => ?_⟩⟩
        have sT := same_upd (o := .tup zs) nT
        have s68 : Same H5 H8 := sq.trans s8
        exact fin _ T zs css (sm.trans (s68.trans sT)) upd_same (Paired.mono (fun _ _ h => h.kt (Same.kt sT)) pr2) (pm.nodup_iff.mpr nd) so (pm.mem_iff.mpr ((mns bs).mpr inn)) (by omega)
end
end Ph

set_option maxHeartbeats 8000000
namespace Ph
open PySem PySem.Spec PyProof.Rows L2
section
variable {P : Program} {w : World} {K : PySem.W.Frag} {mg : Str → Option Value} {base : Heap}
end
/-! ### words taken by page; the lowest places of the pages of a gap -/
def twf (L : Int) (bs : List Bk) (n : Int) : Int := ((bs.filter fun b => decide (b.1 / L = n)).map fun b => b.2).sum
theorem twf_snoc {L : Int} {bs : List Bk} {b : Bk} {n : Int} : twf L (bs ++ [b]) n = twf L bs n + (if b.1 / L = n then b.2 else 0) := by
  unfold twf
  rw [List.filter_append, List.map_append, List.sum_append]
  by_cases e : b.1 / L = n
  · rw [if_pos e, List.filter_cons_of_pos (by simp [e])]
    simp
  · rw [if_neg e, List.filter_cons_of_neg (by simp [e])]
    rfl
/-- a dict that tells of each page the words taken there -/
def Twd (kvs : List (Key × V)) (L : Int) (bs : List Bk) : Prop := ∀ n : Int, (valV kvs (Sum.inl n) = none ∧ twf L bs n = 0) ∨ valV kvs (Sum.inl n) = some (.int (twf L bs n))
theorem Twd.put {kvs : List (Key × V)} {L : Int} {bs : List Bk} {b : Bk} (h : Twd kvs L bs) : Twd (putK kvs (Sum.inl (b.1 / L)) (.int (twf L bs (b.1 / L) + b.2))) L (bs ++ [b]) := fun n => by
  rw [valV_put, twf_snoc]
  by_cases e : n = b.1 / L
  · subst e
    rw [if_pos rfl, if_pos rfl]
    exact .inr rfl
  · rw [if_neg (fun z => e (Sum.inl.inj z)), if_neg (fun z => e z.symm), Int.add_zero]
    exact h n
def lbf (a b L : Int) : List Int := a :: ([(a / L + 1) * L, b / L * L].filter fun s => decide (a < s) && decide (s ≤ b))
section
variable {P : Program} {w : World} {K : PySem.W.Frag} {mg : Str → Option Value} {base : Heap}
def spTw : Sp := fun vs H Q _ => ∃ (c t : Addr) (C : List Int) (L : Int) (bs : List Bk), vs = [.ref c, .ref t] ∧ ChAt H c (C ++ [L]) ∧ 0 < L ∧ L ≤ 1000000000 ∧ StAt H t bs ∧ bs.length ≤ 5000 ∧ ∀ H' d kvs, Same H H' → H d = none → H' d = some (.dK kvs) → Twd kvs L bs → Q (.ref d) H'
theorem ok_Tw {k : Nat} (Z : Fns K mg) : FnOk P w K mg base CX0 (k + 1) Z.fTw Z.fdTw ["chain", "state"] spTw := by
  refine Z.FTw.ok scTw (fun vs H Q E h => ?_) (fun cdv A outer s H vs Q E hr h => ?_)
  · obtain ⟨c, t, C, L, bs, rfl, _⟩ := h
    rfl
  · obtain ⟨c, t, C, L, bs, rfl, hc, L0, L1, ⟨xs, ht, bl⟩, hl, q⟩ := h
    refine ⟨_, (pss_cons (ps_set (i := 2) scTw.nd rfl (.inl rfl) pe_dnewK)
 (pss_cons (ps_for PassesOwn.never rfl (pi_tup (pv 1)) (pg_tup (by rfl) (pgs_cons (pg_name (i := 3) scTw.nd rfl (.inl rfl)) (pgs_cons (pg_name (i := 4) scTw.nd rfl (.inl rfl)) pgs_nil)))
 (pss_cons (ps_set (i := 5) scTw.nd rfl (.inl rfl) (pe_op op_fdiv (pv 3) (pe_ix ix_tup (pv 0) (pe_un un_neg pe_int) (fun _ _ => rfl))))
 (pss_one (ps_asg (pe_op op_add (pe_dget2 (hu_of hr) (pv 2) (pv 5) pe_int ⟨rfl, rfl, rfl, rfl⟩) (pv 4)) (pg_sub (pv 2) (pv 5) (set_dict (hu_of hr)))))))
 (pss_one (ps_ret (pv 2))))), ?_⟩
    have gl : atI ((C ++ [L]).map V.int) (-1) = some (.int L) := by
      rw [List.map_append]
      exact atI_last _ _
    refine fun d nd => ?_
    have sd := same_upd (o := .dK []) nd
    have hd : upd H d (.dK []) d = some (.dK []) := upd_same
    generalize upd H d (.dK []) = H2 at *
    have ht2 := sd _ _ ht
    have bl2 := BL.kp bl fun v us e => sd _ _ e
    refine ⟨.ref t, rfl, t, rfl, ⟨_, .inl (.inl ht2)⟩, ?_⟩
    refine for_it (walk_tup (K := K) (a := t) (xs := xs)) (fun i σ H3 => ∃ y3 y4 y5 kvs, σ = [some (.ref c), some (.ref t), some (.ref d), y3, y4, y5] ∧ But d H2 H3 ∧ H3 d = some (.dK kvs) ∧ Twd kvs L (bs.take i) ∧ kvs.length ≤ i)
      ⟨none, none, none, [], rfl, But.refl _ _, hd, fun n => .inl ⟨rfl, rfl⟩, Nat.le_refl _⟩ (fun i σ H3 _ p => ?_) ?_ ?_
    · obtain ⟨_, _, _, _, _, b3, _⟩ := p
      exact .inl (.inl (b3 _ _ (ne_of ht2 hd (by intro z; cases z)) ht2))
    · rintro i x1 σ H0 H3 hi ⟨y3, y4, y5, kvs, rfl, b3, hd3, tw, lk⟩ ⟨rfl, hx⟩
      obtain ⟨b, hb, u, rfl, hu⟩ := BL.get bl2 hx
      have hu3 := b3 _ _ (ne_of hu hd (by intro z; cases z)) hu
      have etk : bs.take (i + 1) = bs.take i ++ [b] := by rw [List.take_add_one, hb]; rfl
      have hc3 : ChAt H3 c (C ++ [L]) := (hc.keep sd).frz fun o u e => b3 _ _ (ne_of e hd (by intro z; cases z)) e
      refine ⟨u, _, rfl, .inl (.inl hu3), rfl, _, _, rfl, _, _, rfl, rfl, ?_⟩
      refine ⟨.int b.1, rfl, .ref c, rfl, 1, rfl, c, _, -1, _, rfl, rfl, hc3.sq, gl, _, _, rfl, rfl, ⟨L0, by omega⟩, ?_⟩
      have dg := DGet.k (k := Sum.inl (b.1 / L)) hd3
      have e5 : ((valV kvs (Sum.inl (b.1 / L) : Key)).getD (.int 0)) = .int (twf L (bs.take i) (b.1 / L)) := by
        rcases tw (b.1 / L) with ⟨h1, h2⟩ | h1
        · rw [h1, h2]; rfl
        · rw [h1]; rfl
      refine ⟨.ref d, rfl, d, rfl, .inl ⟨_, .inl hd3⟩, .int (b.1 / L), rfl, _, dg, ?_⟩
      rw [e5]
      have lkz : kvs.length < sizeLine := by
        rw [bl.len] at hi
        exact Nat.lt_of_lt_of_le (show kvs.length < 5001 by omega) (by decide)
      refine ⟨.int b.2, rfl, _, _, rfl, rfl, .ref d, rfl, .int (b.1 / L), rfl, d, _, rfl, DPut.k (k := Sum.inl (b.1 / L)) hd3 lkz, ?_⟩
      refine ⟨_, _, _, _, rfl, b3.trans but_upd, upd_same, ?_, ?_⟩
      · rw [etk]
        exact tw.put
      · exact Nat.le_trans putK_len (by omega)
    · rintro σ H3 ⟨y3, y4, y5, kvs, rfl, b3, hd3, tw, lk⟩
      rw [List.take_of_length_le (by rw [bl.len]; exact Nat.le_refl _)] at tw
      exact ⟨.ref d, rfl, q _ d kvs (fun a o e => b3 _ _ (ne_of_none e nd) (sd _ _ e)) nd hd3 tw⟩
def spLb : Sp := fun vs H Q _ => ∃ (a b L : Int), vs = [.int a, .int b, .int L] ∧ 0 < L ∧ L ≤ 1000000000 ∧ ∀ H' l, Same H H' → H l = none → H' l = some (.lst ((lbf a b L).map V.int)) → Q (.ref l) H'
theorem ok_Lb {k : Nat} (Z : Fns K mg) : FnOk P w K mg base CX0 (k + 1) Z.fLb Z.fdLb ["first", "last", "page"] spLb := by
  refine Z.FLb.ok scLb (fun vs H Q E h => ?_) (fun cdv A outer s H vs Q E hr h => ?_)
  · obtain ⟨a, b, L, rfl, _⟩ := h
    rfl
  · obtain ⟨a, b, L, rfl, L0, L1, q⟩ := h
    refine ⟨_, (pss_cons (ps_set (i := 3) scLb.nd rfl (.inl rfl) (pe_lst (pa_cons (pe_op op_mul (pe_op op_add (pe_op op_fdiv (pv 0) (pv 2)) pe_int) (pv 2)) (pa_cons (pe_op op_mul (pe_op op_fdiv (pv 1) (pv 2)) (pv 2)) pa_nil))))
 (pss_one (ps_ret (pe_op op_cat (pe_lst (pa_cons (pv 0) pa_nil)) (pe_lc (own := [("start", 4)]) (g := (gName 4)) (by rfl) scLb.nd (pi_list (pv 3)) (blkOk_by (N := scLbN) (sc := defScope scLbS) (by decide +kernel)) (fun _ _ _ _ _ => (pg_name (i := 4) scLb.nd rfl (.inl rfl))) (fun _ _ _ _ _ => (pts_one (pt_chain op_lt op_le (pv 0) (pv 4) (pv 1)))) (fun _ _ _ _ _ => (pv 4))))))), ?_⟩
    refine ⟨.int a, rfl, .int L, rfl, _, _, rfl, rfl, ⟨L0, by omega⟩, _, _, rfl, rfl, .int L, rfl, _, _, rfl, rfl, .inr ⟨by omega, by omega⟩, .int b, rfl, .int L, rfl, _, _, rfl, rfl, ⟨L0, by omega⟩, .int L, rfl, _, _, rfl, rfl, .inr ⟨by omega, by omega⟩, (by show 2 ≤ sizeLine; decide), fun l1 n1 => ?_⟩
    have s1 := same_upd (o := .lst [.int ((a / L + 1) * L), .int (b / L * L)]) n1
    have h1 : upd H l1 (.lst [.int ((a / L + 1) * L), .int (b / L * L)]) l1 = some (.lst ([(a / L + 1) * L, b / L * L].map V.int)) := upd_same
    dsimp only
    generalize upd H l1 (.lst [.int ((a / L + 1) * L), .int (b / L * L)]) = H1 at *
    refine ⟨.int a, rfl, (by show 1 ≤ sizeLine; decide), fun l2 n2 => ?_⟩
    have s2 := same_upd (o := .lst [.int a]) n2
    have h2 : upd H1 l2 (.lst [.int a]) l2 = some (.lst [.int a]) := upd_same
    have h1' := s2 _ _ h1
    have s02 := s1.trans s2
    generalize upd H1 l2 (.lst [.int a]) = H2 at *
    refine ⟨.ref l1, rfl, l1, rfl, ⟨_, .inl (.inl h1')⟩, fun D nD => ?_⟩
    refine lc_RF (walk_list (K := K) (a := l1) (xs := [(a / L + 1) * L, b / L * L].map V.int)) (fun _ _ _ _ y => YAt.same y) (fun j => decide (a < [(a / L + 1) * L, b / L * L].getD j 0) && decide ([(a / L + 1) * L, b / L * L].getD j 0 ≤ b)) (fun _ j y => y = .int ([(a / L + 1) * L, b / L * L].getD j 0)) (fun _ _ _ _ _ h => h) nD (by show 2 < sizeLine; decide) (fun H4 s4 => .inl (.inl (s4 _ _ h1'))) (fun j x H4 H5 hj s4 y Z1 N1 hZ hN => ?_) (fun H4 zs s4 hD pr => ?_)
    · obtain ⟨rfl, hx⟩ := y
      obtain ⟨v, rfl, ev⟩ : ∃ v : Int, x = .int v ∧ [(a / L + 1) * L, b / L * L].getD j 0 = v := by
        rw [List.getElem?_map] at hx
        obtain ⟨v, h3, h4⟩ := Option.map_eq_some_iff.mp hx
        exact ⟨v, h4.symm, by rw [List.getD_eq_getElem?_getD, h3]; rfl⟩
      rw [ev] at hZ hN
      refine ⟨rfl, .int a, rfl, .int v, rfl, _, _, rfl, rfl, _, rfl, ite2 (fun c1 => ?_) (fun c1 => ?_)⟩
      · refine ⟨.int b, rfl, _, _, rfl, rfl, _, rfl, ite2 (fun c2 => ?_) (fun c2 => ?_)⟩
        · exact ⟨.int v, rfl, hZ _ _ (Same.refl _) (by rw [c1, c2]; rfl) rfl⟩
        · exact hN _ (Same.refl _) (by rw [Bool.eq_false_iff.mpr c2, Bool.and_false])
      · exact ⟨_, rfl, iteF (hN _ (Same.refl _) (by rw [Bool.eq_false_iff.mpr c1, Bool.false_and]))⟩
    · have ezs : zs = ([(a / L + 1) * L, b / L * L].filter fun s => decide (a < s) && decide (s ≤ b)).map V.int := by
        rw [paired_eq pr]
        have er : [(a / L + 1) * L, b / L * L] = (List.range 2).map fun j => [(a / L + 1) * L, b / L * L].getD j 0 := rfl
        conv => rhs; rw [er, List.filter_map, List.map_map]
        rfl
      subst ezs
      have zl : (([(a / L + 1) * L, b / L * L].filter fun s => decide (a < s) && decide (s ≤ b)).map V.int).length ≤ 2 := by
        rw [List.length_map]
        exact Nat.le_trans (List.length_filter_le _ _) (Nat.le_refl _)
      refine ⟨l2, D, _, _, rfl, rfl, s4 _ _ h2, hD, Nat.le_trans (show _ ≤ 3 by simp only [List.length_cons, List.length_nil]; omega) (by decide), fun g ng => ?_⟩
      have sg := same_upd (o := .lst ([V.int a] ++ (([(a / L + 1) * L, b / L * L].filter fun s => decide (a < s) && decide (s ≤ b)).map V.int))) ng
      exact q _ g (s02.trans (s4.trans sg)) (none_of_same (s02.trans s4) ng) upd_same
end

/-! ### the key within place_by_page: the taken words of an address's page -/
def stTa : Stmt := (defBody sPp).getD 4 (.Pass ⟨0, 0, 0, 0⟩)
def nfTa (q : Str) (cl : List (Str × Addr)) (c : Addr) : NdefX.NF := NdefX.NF.of stTa "taken_around" q cl c
theorem nscTa (q : Str) (cl : List (Str × Addr)) (c : Addr) : NdefX.NScope ["address", "page", "taken"] ["address"] ["page", "taken"] (nfTa q cl c).scope := NdefX.nscope_by (show NdefX.nscB ["address", "page", "taken"] ["address"] ["page", "taken"] (C8.fnScope stTa) = true from by decide +kernel)
section
variable {P : Program} {w : World} {K : PySem.W.Frag} {mg : Str → Option Value} {base : Heap}
def spTa : List (Option V) → Sp := fun ws vs H Q _ => ∃ (L a : Int) (d : Addr) (kvs : List (Key × V)) (bs : List Bk), ws = [some (.int L), some (.ref d)] ∧ vs = [.int a] ∧ 0 < L ∧ L ≤ 1000000000 ∧ H d = some (.dK kvs) ∧ Twd kvs L bs ∧ Q (.int (twf L bs (a / L))) H
theorem ok_Ta {k : Nat} (f : Addr) (q : Str) (cl : List (Str × Addr)) (c : Addr) : NdefX.NOk P w K mg base CX0 (k + 1) f (nfTa q cl c) ["address"] ["page", "taken"] spTa := by
  refine NdefX.nok_of (nscTa q cl c) (fun doc pm ctv us h => ?_) (fun ws vs H Q E h => ?_) (fun A outer s H vs ws Q E hr hf hc hlen h => ?_)
  · match us, h with
    | [u], _ => rfl
  · obtain ⟨L, a, d, kvs, bs, _, rfl, _⟩ := h
    rfl
  · obtain ⟨L, a, d, kvs, bs, rfl, rfl, L0, L1, hd, tw, qq⟩ := h
    refine ⟨_, (pss_one (ps_ret (pe_dget2 (hu_of hr) (pv 2) (pe_op op_fdiv (pv 0) (pv 1)) pe_int ⟨rfl, rfl, rfl, rfl⟩))), ?_⟩
    have dg := DGet.k (k := Sum.inl (a / L)) hd
    have e5 : ((valV kvs (Sum.inl (a / L) : Key)).getD (.int 0)) = .int (twf L bs (a / L)) := by
      rcases tw (a / L) with ⟨h1, h2⟩ | h1
      · rw [h1, h2]; rfl
      · rw [h1]; rfl
    refine ⟨.ref d, rfl, d, rfl, .inl ⟨_, .inl hd⟩, .int a, rfl, .int L, rfl, _, _, rfl, rfl, ⟨L0, by omega⟩, _, dg, ?_⟩
    rw [e5]
    exact qq
end

theorem frTa : ∀ y ∈ (C8.fnScope stTa).names, y.2 = .free → (defScope sPp).names.lookup y.1 = some .cell ∨ (defScope sPp).names.lookup y.1 = some .free := by decide +kernel
theorem frTa2 : ∀ y ∈ (["page", "taken"] : List Str), (y, NameKind.free) ∈ (C8.fnScope stTa).names := by decide +kernel
abbrev tkN : Str := (envOfC "place_by_page" (defScope sPp) 0 0 (.ref 0)).qual ++ "taken_around"
abbrev mkTa (n : Nat) (f c : Addr) (c' : Addr) : NdefX.NF := nfTa ((envOfC "place_by_page" (defScope sPp) n f (.ref c)).qual ++ "taken_around") (L2.cloFrom (envOfC "place_by_page" (defScope sPp) n f (.ref c)).cells (C8.fnScope stTa).names []) c'
/-- the lowest places of the pages of all gaps -/
def cnd (L : Int) (gs : List Bk) : List Int := gs.flatMap fun g => lbf g.1 g.2 L
theorem lock_same {H H' : Hp} {d : Addr} {u : HO} {od : Obj} (e : H d = some u) (s : Same (upd H d (.frz od u)) H') : Same H (upd H' d u) := fun b o h => by
  by_cases z : b = d
  · subst z
    rw [upd_same, ← h, e]
  · rw [upd_ne z]
    exact s _ _ (by rw [upd_ne z]; exact h)
theorem lbf_len (a b L : Int) : (lbf a b L).length ≤ 3 := by
  unfold lbf
  rw [List.length_cons]
  have := List.length_filter_le (fun s => decide (a < s) && decide (s ≤ b)) [(a / L + 1) * L, b / L * L]
  have e : [(a / L + 1) * L, b / L * L].length = 2 := rfl
  omega
theorem cnd_len (L : Int) : ∀ gs : List Bk, (cnd L gs).length ≤ 3 * gs.length
  | [] => Nat.le_refl _
  | g :: r => by
    have ih := cnd_len L r
    have h := lbf_len g.1 g.2 L
    unfold cnd at *
    rw [List.flatMap_cons, List.length_append, List.length_cons]
    omega
theorem cnd_snoc (L : Int) (gs : List Bk) (g : Bk) : cnd L (gs ++ [g]) = cnd L gs ++ lbf g.1 g.2 L := by
  unfold cnd
  rw [List.flatMap_append, List.flatMap_cons, List.flatMap_nil, List.append_nil]
/-- the place that the rule asks for: the first best -/
def Cho (r : Str) (L : Int) (bs gs : List Bk) (a : Int) : Prop := ∃ i : Nat, (cnd L gs)[i]? = some a ∧ ∀ (j : Nat) (n : Int), (cnd L gs)[j]? = some n →
  if r = "tight" then twf L bs (n / L) ≤ twf L bs (a / L) ∧ (j < i → twf L bs (n / L) < twf L bs (a / L)) else twf L bs (n / L) ≥ twf L bs (a / L) ∧ (j < i → twf L bs (n / L) > twf L bs (a / L))
section
variable {P : Program} {w : World} {K : PySem.W.Frag} {mg : Str → Option Value} {base : Heap}
def spPp (T : List (Addr × Str)) : Sp := fun vs H Q _ => ∃ (r : Str) (c t l : Addr) (C : List Int) (L : Int) (bs gs : List Bk) (xs : List V), vs = [.str r, .ref c, .ref t, .ref l] ∧ ChAt H c (C ++ [L]) ∧ 0 < L ∧ L ≤ 1000000 ∧ StAt H t bs ∧ bs.length ≤ 5000 ∧ H l = some (.lst xs) ∧ BL H xs gs ∧ gs ≠ [] ∧ gs.length ≤ 5001 ∧ (∀ g ∈ gs, 0 ≤ g.1 ∧ g.1 ≤ g.2 ∧ g.2 ≤ 1000000000) ∧ LamX.Tabs T H ∧
  ∀ H' a, LamX.ExtN H H' → LamX.Tabs T H' → Cho r L bs gs a → Q (.int a) H'
theorem ok_Pp {k : Nat} (Z : Fns K mg) (TB : LamX.TabB base mg Z.cPp Z.pPp) {T : List (Addr × Str)} (hT : InT T Z.pPp tkN) : FnOk P w K mg base CX0 (k + 1 + 1 + 1 + 1) Z.fPp Z.fdPp ["rule", "chain", "state", "found"] (spPp T) := by
  have GTw : FnOk P w K mg base CX0 (k + 1) Z.fTw Z.fdTw ["chain", "state"] spTw := ok_Tw Z
  have GLb : FnOk P w K mg base CX0 (k + 1) Z.fLb Z.fdLb ["first", "last", "page"] spLb := ok_Lb Z
  refine okC Z.FPp Z.ePp scPp (fun vs H Q E h => ?_) (fun A outer s H vs Q E hr h => ?_)
  · obtain ⟨r, c, t, l, C, L, bs, gs, xs, rfl, _⟩ := h
    rfl
  · obtain ⟨r, c, t, l, C, L, bs, gs, xs, rfl, hc, L0, L1, hst, hl, hx, bl, ne, gl, gb, tabs, fin⟩ := h
    refine ⟨_, (pss_cons (ps_set (i := 8) scPp.nd rfl (.inr rfl) (pe_ix ix_tup (pv 1) (pe_un un_neg pe_int) (fun _ _ => rfl)))
 (pss_cons (ps_set (i := 9) scPp.nd rfl (.inr rfl) (pe_call GTw (hr.mono (by omega)) (by rfl) Z.gTw Z.FTw.kp Z.bTw .nil pass0 (pa_cons (pv 1) (pa_cons (pv 2) pa_nil))))
 (pss_cons (ps_set (i := 4) scPp.nd rfl (.inl rfl) (pe_lst pa_nil))
 (pss_cons (ps_for PassesOwn.never rfl (pi_list (pv 3)) (pg_tup (by rfl) (pgs_cons (pg_name (i := 5) scPp.nd rfl (.inl rfl)) (pgs_cons (pg_name (i := 6) scPp.nd rfl (.inl rfl)) pgs_nil)))
 (pss_one (ps_expr (pe_bm PySem.F.plainAttrs_list PySem.F.slot_list_extend PySem.F.type_list_extend mt_extend (pv 4) (pa_cons (pe_call GLb (hr.mono (by omega)) (by rfl) Z.gLb Z.FLb.kp Z.bLb .nil pass0 (pa_cons (pv 5) (pa_cons (pv 6) (pa_cons (pv 8) pa_nil)))) pa_nil)))))
 (pss_cons (NdefX.ps_ndefMS (T := nT T) (st := stTa) (i := 7) (by rfl) TB rfl hT.n.1 (by rfl) hT.n.2 frTa (by rfl) (by rfl) (by rfl) scPp.nd rfl (.inl rfl) (.inr rfl))
 (pss_cons (ps_if (pt_cmpR op_eq (pv 0) pe_str (nomark _))
 (pss_one (ps_ret (pe_lock (pe_maxKeyN (mk := mkTa s.heap.objs.size Z.fPp Z.cPp) (js := [8, 9]) rfl (hr.mono (by omega)) (fun f c' => ok_Ta (k := k) f _ _ c') (fun c' ok => NdefX.Caps.made ok frTa frTa2 (by rfl)) (fun _ => rfl) (by rfl) Z.N.max (by decide +kernel) (pa_cons (pv 4) pa_nil) (pk_cons (pv 7) pk_nil))))) pss_nil)
 (pss_one (ps_ret (pe_lock (pe_minKeyN (mk := mkTa s.heap.objs.size Z.fPp Z.cPp) (js := [8, 9]) rfl (hr.mono (by omega)) (fun f c' => ok_Ta (k := k) f _ _ c') (fun c' ok => NdefX.Caps.made ok frTa frTa2 (by rfl)) (fun _ => rfl) (by rfl) Z.N.min (by decide +kernel) (pa_cons (pv 4) pa_nil) (pk_cons (pv 7) pk_nil))))))))))), ?_⟩
    have gl1 : atI ((C ++ [L]).map V.int) (-1) = some (.int L) := by
      rw [List.map_append]
      exact atI_last _ _
    refine ⟨.ref c, rfl, 1, rfl, c, _, -1, _, rfl, rfl, hc.sq, gl1, ?_⟩
    refine ⟨.ref c, rfl, .ref t, rfl, c, t, C, L, bs, rfl, hc, L0, by omega, hst, hl, fun H1 d kvs s1 nd hd tw => ⟨Nat.zero_le _, fun D nD => ?_⟩⟩
    have sD := same_upd (o := .lst []) nD
    have hD : upd H1 D (.lst []) D = some (.lst []) := upd_same
    have s2 := s1.trans sD
    have hd2 := sD _ _ hd
    have ndD : d ≠ D := ne_of_none hd nD
    have nD0 : H D = none := none_of_same s1 nD
    generalize upd H1 D (.lst []) = H2 at *
    have hx2 := s2 _ _ hx
    have bl2 := BL.kp bl fun v us e => s2 _ _ e
    refine ⟨.ref l, rfl, l, rfl, ⟨_, .inl (.inl hx2)⟩, ?_⟩
    refine for_it (walk_list (K := K) (a := l) (xs := xs)) (fun j σ H3 => ∃ y5 y6, σ = [some (.str r), some (.ref c), some (.ref t), some (.ref l), some (.ref D), y5, y6, none, some (.int L), some (.ref d), none] ∧ But D H2 H3 ∧ H3 D = some (.lst ((cnd L (gs.take j)).map V.int)))
      ⟨_, _, rfl, But.refl _ _, hD⟩ (fun j σ H3 _ p => ?_) ?_ ?_
    · obtain ⟨_, _, _, b3, _⟩ := p
      exact .inl (.inl (b3 _ _ (fun z => by rw [z] at hx; rw [hx] at nD0; cases nD0) hx2))
    · rintro j x σ H0 H3 hj ⟨y5, y6, rfl, b3, hD3⟩ ⟨rfl, hxx⟩
      obtain ⟨g, hg, u, rfl, hu⟩ := BL.get bl2 hxx
      have hu3 := b3 _ _ (ne_of hu hD (by intro z; cases z)) hu
      obtain ⟨g1, g2, g3⟩ := gb g (List.mem_of_getElem? hg)
      have etk : gs.take (j + 1) = gs.take j ++ [g] := by rw [List.take_add_one, hg]; rfl
      refine ⟨u, _, rfl, .inl (.inl hu3), rfl, _, _, rfl, _, _, rfl, rfl, ?_⟩
      refine ⟨.ref D, rfl, .inl ⟨rfl, _, .inl (.inl hD3)⟩, .int g.1, rfl, .int g.2, rfl, .int L, rfl, g.1, g.2, L, rfl, L0, by omega, fun H4 p s4 np hp => ?_⟩
      refine ⟨D, p, _, _, rfl, rfl, s4 _ _ hD3, hp, ?_, ?_⟩
      · rw [List.length_map, List.length_map]
        have h1 := cnd_len L (gs.take j)
        have h2 := lbf_len g.1 g.2 L
        have h3 : (gs.take j).length ≤ gs.length := by rw [List.length_take]; exact Nat.min_le_right _ _
        exact Nat.le_trans (show _ ≤ 100000 by omega) (by decide)
      refine ⟨_, _, rfl, fun v o nv hv => ?_, ?_⟩
      · rw [upd_ne nv]
        exact s4 _ _ (b3 _ _ nv hv)
      · rw [upd_same, etk, cnd_snoc, List.map_append]
    · rintro σ H3 ⟨y5, y6, rfl, b3, hD3⟩
      rw [List.take_of_length_le (by rw [bl.len]; exact Nat.le_refl _)] at hD3
      have s03 : Same H H3 := fun a o e => b3 _ _ (ne_of_none e nD0) (s2 _ _ e)
      have hd3 := b3 _ _ ndD hd2
      have cne : cnd L gs ≠ [] := by
        obtain ⟨g, gr, rfl⟩ := List.exists_cons_of_ne_nil ne
        exact List.cons_ne_nil _ _
      refine ⟨nT_iff.mpr (tabs.ext s03), fun f c' H4 x4 n4 tb4' nf hf hcd => ?_⟩
      have tb4 := nT_iff.mp tb4'
      have hd4 := x4 _ _ hd3 (fun _ z => nomatch z)
      have hD4 := x4 _ _ hD3 (fun _ z => nomatch z)
      have x04 : LamX.ExtN H H4 := LamX.ExtN.trans (.of s03) x4
      have fD : f ≠ D := fun z => by rw [z, hD3] at nf; cases nf
      have cD : c' ≠ D := fun z => by
        have h : H4 c' = some (LamX.CodeO c' (mkTa s.heap.objs.size Z.fPp Z.cPp c').qual) := hcd
        rw [z, hD4] at h
        unfold LamX.CodeO at h
        cases h
      have fin2 : ∀ {od : Obj} {a : Int}, Cho r L bs gs a → Q (.int a) (upd (upd H4 D (.frz od (.lst ((cnd L gs).map V.int)))) D (.lst ((cnd L gs).map V.int))) := fun {od a} ch => by
        have sm := lock_same (od := od) hD4 (Same.refl _)
        exact fin _ a (x04.trans (.of sm)) (tb4.ext sm) ch
      have at1 : ∀ {od : Obj} {b : Addr} {o : HO}, b ≠ D → H4 b = some o → upd H4 D (.frz od (.lst ((cnd L gs).map V.int))) b = some o := fun {od b o} n e => (upd_ne n).trans e
      refine ⟨.str r, rfl, rfl, _, rfl, ite2 (fun c0 => ?_) (fun c0 => ?_)⟩
      · have er : r = "tight" := by simpa using c0
        refine ⟨D, .lst _, hD4, trivial, fun od => ?_⟩
        refine ⟨.ref D, rfl, .ref f, rfl, D, f, c', od, cnd L gs, fun n => twf L bs (n / L), rfl, rfl, at1 fD hf, at1 cD hcd, upd_same, cne, fun n hn Q' q' => ⟨L, n, d, kvs, bs, rfl, rfl, L0, by omega, at1 ndD hd4, tw, q'⟩, fun i m hm best => ⟨upd_same, fin2 ⟨i, hm, fun j n hn => ?_⟩⟩⟩
        rw [if_pos er]
        exact best j n hn
      · have er : r ≠ "tight" := by simpa using c0
        refine ⟨D, .lst _, hD4, trivial, fun od => ?_⟩
        refine ⟨.ref D, rfl, .ref f, rfl, D, f, c', od, cnd L gs, fun n => twf L bs (n / L), rfl, rfl, at1 fD hf, at1 cD hcd, upd_same, cne, fun n hn Q' q' => ⟨L, n, d, kvs, bs, rfl, rfl, L0, by omega, at1 ndD hd4, tw, q'⟩, fun i m hm best => ⟨upd_same, fin2 ⟨i, hm, fun j n hn => ?_⟩⟩⟩
        rw [if_neg er]
        exact best j n hn
end

/-- what place answers: none, or by the rule -/
def PlcR (r : Str) (L : Int) (bs gs : List Bk) (v : V) : Prop :=
  (gs = [] ∧ v = .non) ∨ ∃ (a : Int) (g : Bk) (rest : List Bk), gs = g :: rest ∧ v = .int a ∧ ((r = "lowest" ∧ a = g.1) ∨ (r = "highest" ∧ ∃ g' pre, gs = pre ++ [g'] ∧ a = g'.2) ∨ (r ≠ "lowest" ∧ r ≠ "highest" ∧ Cho r L bs gs a))
def IsRule (r : Str) : Prop := r = "lowest" ∨ r = "highest" ∨ r = "tight" ∨ r = "loose"
section
variable {P : Program} {w : World} {K : PySem.W.Frag} {mg : Str → Option Value} {base : Heap}
def spIr4 : Sp := fun vs H Q _ => ∃ r : Str, vs = [.str r] ∧ IsRule r ∧ Q (.bl true) H
theorem ok_Ir4 {k : Nat} (Z : Fns K mg) : FnOk P w K mg base CX0 (k + 1) Z.fIr Z.fdIr ["value"] spIr4 := by
  refine Z.FIr.ok scIr (fun vs H Q E h => ?_) (fun cdv A outer s H vs Q E hr h => ?_)
  · obtain ⟨r, rfl, _⟩ := h
    rfl
  · obtain ⟨r, rfl, hr4, q⟩ := h
    refine ⟨_, (pss_one (ps_ret (pe_cmpR op_in_seq (pv 0) (pe_glob (v := .ref Z.a_RULES) (by rfl) Z.k_RULES rfl) (by rfl)))), ?_⟩
    rcases hr4 with rfl | rfl | rfl | rfl
    · exact ⟨.str _, rfl, Z.a_RULES, _, rfl, .inr (Z.t_RULES _), rfl, by decide +kernel, q⟩
    · exact ⟨.str _, rfl, Z.a_RULES, _, rfl, .inr (Z.t_RULES _), rfl, by decide +kernel, q⟩
    · exact ⟨.str _, rfl, Z.a_RULES, _, rfl, .inr (Z.t_RULES _), rfl, by decide +kernel, q⟩
    · exact ⟨.str _, rfl, Z.a_RULES, _, rfl, .inr (Z.t_RULES _), rfl, by decide +kernel, q⟩
def spPc4 (T : List (Addr × Str)) : Sp := fun vs H Q _ => ∃ (r : Str) (c t : Addr) (C : List Int) (L m s : Int) (bs : List Bk), vs = [.str r, .ref c, .int m, .ref t, .int s] ∧ IsRule r ∧ ChAt H c (C ++ [L]) ∧ s ∈ C ++ [L] ∧ 0 < s ∧ s ≤ 2000 ∧ 1 ≤ L ∧ L ≤ 2000 ∧ 0 ≤ m ∧ m ≤ 2000 ∧ StAt H t bs ∧ St (C ++ [L]) (m * L) bs ∧ bs.length ≤ 5000 ∧ LamX.Tabs T H ∧
  ∀ H' v, LamX.ExtN H H' → LamX.Tabs T H' → PlcR r L bs (gpf s 0 (bs ++ [(m * L, 0)])) v → Q v H'
theorem ok_Pc4 {k : Nat} (Z : Fns K mg) (TB : LamX.TabB base mg Z.cPp Z.pPp) {T : List (Addr × Str)} (hT : InT T Z.pPp tkN) : FnOk P w K mg base CX0 (k + 1 + 1 + 1 + 1 + 1) Z.fPc Z.fdPc ["rule", "chain", "pages", "state", "size"] (spPc4 T) := by
  have GIr : FnOk P w K mg base CX0 (k + 1) Z.fIr Z.fdIr ["value"] spIr4 := ok_Ir4 Z
  have GGp : FnOk P w K mg base CX0 (k + 1 + 1 + 1 + 1) Z.fGp Z.fdGp ["chain", "pages", "state", "size"] spGp := ok_Gp Z
  have GPp : FnOk P w K mg base CX0 (k + 1 + 1 + 1 + 1) Z.fPp Z.fdPp ["rule", "chain", "state", "found"] (spPp T) := ok_Pp Z TB hT
  refine Z.FPc.ok scPc (fun vs H Q E h => ?_) (fun cdv A outer s H vs Q E hr h => ?_)
  · obtain ⟨r, c, t, C, L, m, s, bs, rfl, _⟩ := h
    rfl
  · obtain ⟨r, c, t, C, L, m, sz, bs, rfl, hr4, hc, hs, s0, s1, L0, L1, m0, m1, hst, st, hl, tabs, q⟩ := h
    refine ⟨_, (pss_cons (ps_if (pt_not (pt_val (pe_call GIr (hr.mono (by omega)) (by rfl) Z.gIr Z.FIr.kp Z.bIr .nil pass0 (pa_cons (pv 0) pa_nil))))
 (pss_one ps_never) pss_nil)
 (pss_cons (ps_set (i := 5) scPc.nd rfl (.inl rfl) (pe_call GGp (hr.mono (by omega)) (by rfl) Z.gGp Z.FGp.kp Z.bGp .nil pass0 (pa_cons (pv 1) (pa_cons (pv 2) (pa_cons (pv 3) (pa_cons (pv 4) pa_nil))))))
 (pss_cons (ps_if (pt_not (pt_truth (pv 5) (fun _ => rfl)))
 (pss_one (ps_ret pe_non)) pss_nil)
 (pss_cons (ps_if (pt_cmpR op_eq (pv 0) pe_str (nomark _))
 (pss_one (ps_ret (pe_ix ix_tup (pe_ix ix_list (pv 5) pe_int (fun _ _ => rfl)) pe_int (fun _ _ => rfl)))) pss_nil)
 (pss_cons (ps_if (pt_cmpR op_eq (pv 0) pe_str (nomark _))
 (pss_one (ps_ret (pe_ix ix_tup (pe_ix ix_list (pv 5) (pe_un un_neg pe_int) (fun _ _ => rfl)) pe_int (fun _ _ => rfl)))) pss_nil)
 (pss_one (ps_ret (pe_call GPp (hr.mono (by omega)) (by rfl) Z.gPp Z.FPp.kp Z.bPp .nil pass0 (pa_cons (pv 0) (pa_cons (pv 1) (pa_cons (pv 3) (pa_cons (pv 5) pa_nil)))))))))))), ?_⟩
    have mL0 : 0 ≤ m * L := Int.mul_nonneg m0 (by omega)
    have mL1 : m * L ≤ 4000000 := Int.le_trans (Int.mul_le_mul m1 L1 (by omega) (by omega)) (by decide)
    refine ⟨.str r, rfl, r, rfl, hr4, _, rfl, ite2 (fun c => absurd c (by decide)) (fun _ => ?_)⟩
    refine ⟨.ref c, rfl, .int m, rfl, .ref t, rfl, .int sz, rfl, c, t, C, L, m, sz, bs, rfl, hc, hs, s0, s1, by omega, L1, m0, m1, hst, st, hl, fun H1 D ys s1' nD hD bl => ?_⟩
    obtain ⟨asc1, asc2⟩ := st.asc0 mL0
    have gb := gpf_bnd s0 (bs ++ [(m * L, 0)]) 0 asc1 (Int.le_refl _)
    have gln := gpf_len sz (bs ++ [(m * L, 0)]) 0
    rw [List.length_append] at gln
    have tb1 : LamX.Tabs T H1 := tabs.ext s1'
    generalize gpf sz 0 (bs ++ [(m * L, 0)]) = gs at *
    cases gs with
    | nil =>
      have ey : ys = [] := List.length_eq_zero_iff.mp (by rw [bl.len]; rfl)
      subst ey
      exact ⟨.ref D, rfl, false, .inl ⟨[], .inl (.inl hD), rfl⟩, ite2 (fun _ => q _ _ (.of s1') tb1 (.inl ⟨rfl, rfl⟩)) (fun c => absurd rfl c)⟩
    | cons g gs =>
      obtain ⟨x, hx, U, rfl, hU⟩ := BL.at0 bl
      refine ⟨.ref D, rfl, true, .inl ⟨ys, .inl (.inl hD), ?_⟩, ite2 (fun c => absurd c (by decide)) (fun _ => ?_)⟩
      · cases ys with
        | nil => simp at hx
        | cons y r => rfl
      refine ⟨.str r, rfl, rfl, _, rfl, ite2 (fun c0 => ?_) (fun c0 => ?_)⟩
      · have er : r = "lowest" := by simpa using c0
        exact ⟨.ref D, rfl, D, ys, 0, _, rfl, rfl, .inl (.inl hD), atI_nat (j := 0) hx, U, _, 0, _, rfl, rfl, .inl (.inl hU), atI_nat (j := 0) rfl, q _ _ (.of s1') tb1 (.inr ⟨_, g, gs, rfl, rfl, .inl ⟨er, rfl⟩⟩)⟩
      have n1 : r ≠ "lowest" := by simpa using c0
      refine ⟨.str r, rfl, rfl, _, rfl, ite2 (fun c1 => ?_) (fun c1 => ?_)⟩
      · have er : r = "highest" := by simpa using c1
        obtain ⟨pre, g', eg⟩ : ∃ pre g', g :: gs = pre ++ [g'] := ⟨_, _, (List.dropLast_concat_getLast (l := g :: gs) (List.cons_ne_nil _ _)).symm⟩
        have hg' : (g :: gs)[pre.length]? = some g' := by rw [eg]; simp
        obtain ⟨y, hy, U', rfl, hU'⟩ := Paired.get2 bl hg'
        have ly : ys.length = pre.length + 1 := by
          rw [bl.len, eg, List.length_append]
          rfl
        have ey : ys = ys.take pre.length ++ [V.ref U'] := by
          have h := List.take_add_one (l := ys) (i := pre.length)
          rw [hy, List.take_of_length_le (by omega)] at h
          exact h
        have lst : atI ys (-1) = some (.ref U') := by
          rw [ey]
          exact atI_last _ _
        exact ⟨.ref D, rfl, 1, rfl, D, ys, -1, _, rfl, rfl, .inl (.inl hD), lst, U', _, 1, _, rfl, rfl, .inl (.inl hU'), atI_nat (j := 1) rfl, q _ _ (.of s1') tb1 (.inr ⟨_, g, gs, rfl, rfl, .inr (.inl ⟨er, g', pre, eg, rfl⟩)⟩)⟩
      have n2 : r ≠ "highest" := by simpa using c1
      refine ⟨.str r, rfl, .ref c, rfl, .ref t, rfl, .ref D, rfl, r, c, t, D, C, L, bs, g :: gs, ys, rfl, hc.keep s1', by omega, by omega, hst.same s1', hl, hD, bl, List.cons_ne_nil _ _, ?_, fun g' hg => ?_, tb1, fun H2 a x2 tb2 ch => q _ _ (LamX.ExtN.trans (.of s1') x2) tb2 (.inr ⟨a, g, gs, rfl, rfl, .inr (.inr ⟨n1, n2, ch⟩)⟩)⟩
      · have : [(m * L, (0 : Int))].length = 1 := rfl
        omega
      · have := gb g' hg
        omega
end

/-! ### the place chosen among the candidates is the first best of all places -/
section
variable {s L W : Int} {bs : List Bk}
theorem gpr_mem (hs : 0 < s) {g : Bk} {n : Int} : n ∈ gpr s g ↔ g.1 ≤ n ∧ n ≤ g.2 ∧ (n - g.1) % s = 0 := by
  unfold gpr
  rw [mem_rg3 hs]
  constructor <;> rintro ⟨h1, h2, h3⟩ <;> exact ⟨h1, by omega, h3⟩
theorem gap_in (hs : 0 < s) {g : Bk} (hg : g ∈ gpf s 0 (bs ++ [(W, 0)])) {n : Int} (hn : n ∈ gpr s g) : n ∈ plf s 0 (bs ++ [(W, 0)]) := by
  rw [plf_gpf hs]
  exact List.mem_flatMap.mpr ⟨g, hg, hn⟩
theorem page_free (hs : 0 < s) (L0 : 0 < L) (hL : L % s = 0) (h : ∀ b ∈ bs, 0 ≤ b.1 ∧ 1 ≤ b.2 ∧ b.1 + b.2 ≤ W) (asc : bs.Pairwise fun b c => b.1 + b.2 ≤ c.1) (W0 : 0 ≤ W) {g : Bk} (hg : g ∈ gpf s 0 (bs ++ [(W, 0)])) (g1 : g.1 % s = 0) {p : Int} (p1 : g.1 / L < p) (p2 : p < g.2 / L) : twf L bs p = 0 := by
  unfold twf
  have e : (bs.filter fun b => decide (b.1 / L = p)) = [] := by
    rw [List.filter_eq_nil_iff]
    intro b hb z
    have z := of_decide_eq_true z
    have b0 := h b hb
    have q1 := Int.ediv_mul_le b.1 (b := L) (by omega)
    have q2 := Int.lt_ediv_add_one_mul_self b.1 L0
    have q3 := Int.lt_ediv_add_one_mul_self g.1 L0
    have q4 := Int.ediv_mul_le g.2 (b := L) (by omega)
    have m1 : (g.1 / L + 1) * L ≤ p * L := Int.mul_le_mul_of_nonneg_right (by omega) (by omega)
    have m2 : (p + 1) * L ≤ g.2 / L * L := Int.mul_le_mul_of_nonneg_right (by omega) (by omega)
    rw [z] at q1 q2
    have r1 := Int.emod_nonneg b.1 (b := s) (by omega)
    have r2 := Int.emod_lt_of_pos b.1 hs
    have hx : (b.1 - b.1 % s) % s = 0 := Int.emod_eq_emod_iff_emod_sub_eq_zero.mp (Int.emod_emod_of_dvd b.1 (Int.dvd_refl s)).symm
    have dp : s ∣ p * L := Int.dvd_trans (Int.dvd_of_emod_eq_zero hL) (Int.dvd_mul_left ..)
    have lo : p * L ≤ b.1 - b.1 % s := by
      obtain ⟨k, hk⟩ := dp
      obtain ⟨j, hj⟩ := Int.dvd_of_emod_eq_zero hx
      rw [hk] at q1 ⊢
      rw [hj]
      refine Int.mul_le_mul_of_nonneg_left ?_ (by omega)
      have : s * k < s * (j + 1) := by rw [Int.mul_add, Int.mul_one]; omega
      have := Int.lt_of_mul_lt_mul_left this (by omega)
      omega
    have hm : b.1 - b.1 % s ∈ plf s 0 (bs ++ [(W, 0)]) := gap_in hs hg ((gpr_mem hs).mpr ⟨by omega, by omega, by
      exact Int.emod_eq_zero_of_dvd (Int.dvd_sub (Int.dvd_of_emod_eq_zero hx) (Int.dvd_of_emod_eq_zero g1))⟩)
    have := ((plf_mem hs bs 0 h asc W0 _).mp hm).2.2.2 b hb
    omega
  rw [e]
  rfl
theorem cnd_le (L0 : 0 < L) {g : Bk} {n : Int} (h : g.1 ≤ g.2) (hn : n ∈ lbf g.1 g.2 L) : g.1 ≤ n ∧ n ≤ g.2 := by
  unfold lbf at hn
  rcases List.mem_cons.mp hn with z | z
  · omega
  · have := (List.mem_filter.mp z).2
    rw [Bool.and_eq_true, decide_eq_true_eq, decide_eq_true_eq] at this
    omega
theorem cnd_in (hs : 0 < s) (L0 : 0 < L) (hL : L % s = 0) {g : Bk} {n : Int} (g1 : g.1 % s = 0) (h : g.1 ≤ g.2) (hn : n ∈ lbf g.1 g.2 L) : n ∈ gpr s g := by
  have b := cnd_le L0 h hn
  refine (gpr_mem hs).mpr ⟨b.1, b.2, ?_⟩
  unfold lbf at hn
  have dL := Int.dvd_of_emod_eq_zero hL
  rcases List.mem_cons.mp hn with z | z
  · rw [z, Int.sub_self]
    exact Int.zero_emod _
  · have z := (List.mem_filter.mp z).1
    simp only [List.mem_cons, List.not_mem_nil, or_false] at z
    rcases z with z | z
    · rw [z]
      exact Int.emod_eq_zero_of_dvd (Int.dvd_sub (Int.dvd_trans dL (Int.dvd_mul_left ..)) (Int.dvd_of_emod_eq_zero g1))
    · rw [z]
      exact Int.emod_eq_zero_of_dvd (Int.dvd_sub (Int.dvd_trans dL (Int.dvd_mul_left ..)) (Int.dvd_of_emod_eq_zero g1))
theorem cnd_rep (hs : 0 < s) (L0 : 0 < L) (hL : L % s = 0) (h : ∀ b ∈ bs, 0 ≤ b.1 ∧ 1 ≤ b.2 ∧ b.1 + b.2 ≤ W) (asc : bs.Pairwise fun b c => b.1 + b.2 ≤ c.1) (W0 : 0 ≤ W) {g : Bk} (hg : g ∈ gpf s 0 (bs ++ [(W, 0)])) (g1 : g.1 % s = 0) {n : Int} (hn : n ∈ gpr s g) : ∃ c ∈ lbf g.1 g.2 L, c ≤ n ∧ twf L bs (c / L) = twf L bs (n / L) := by
  obtain ⟨n1, n2, n3⟩ := (gpr_mem hs).mp hn
  have d1 : g.1 / L ≤ n / L := Int.ediv_le_ediv L0 n1
  have d2 : n / L ≤ g.2 / L := Int.ediv_le_ediv L0 n2
  have q3 := Int.lt_ediv_add_one_mul_self g.1 L0
  have q4 := Int.ediv_mul_le g.2 (b := L) (by omega)
  have q5 := Int.ediv_mul_le n (b := L) (by omega)
  have inl : ∀ c, (c = (g.1 / L + 1) * L ∨ c = g.2 / L * L) → g.1 < c → c ≤ g.2 → c ∈ lbf g.1 g.2 L := fun c e h1 h2 => by
    unfold lbf
    refine List.mem_cons_of_mem _ (List.mem_filter.mpr ⟨?_, ?_⟩)
    · simpa using e
    · rw [Bool.and_eq_true, decide_eq_true_eq, decide_eq_true_eq]
      exact ⟨h1, h2⟩
  by_cases e1 : n / L = g.1 / L
  · exact ⟨g.1, List.mem_cons_self .., n1, by rw [e1]⟩
  · by_cases e2 : n / L = g.2 / L
    · have m1 : (g.1 / L + 1) * L ≤ g.2 / L * L := Int.mul_le_mul_of_nonneg_right (by omega) (by omega)
      refine ⟨g.2 / L * L, inl _ (.inr rfl) (by omega) q4, by rw [← e2]; exact q5, ?_⟩
      rw [Int.mul_ediv_cancel _ (by omega), e2]
    · have m1 : (g.1 / L + 1) * L ≤ n / L * L := Int.mul_le_mul_of_nonneg_right (by omega) (by omega)
      refine ⟨(g.1 / L + 1) * L, inl _ (.inl rfl) (by omega) (by omega), by omega, ?_⟩
      rw [Int.mul_ediv_cancel _ (by omega), page_free hs L0 hL h asc W0 hg g1 (by omega) (by omega), page_free hs L0 hL h asc W0 hg g1 (by omega) (by omega)]
theorem lbf_asc (L0 : 0 < L) {a b : Int} : (lbf a b L).Pairwise (· ≤ ·) := by
  unfold lbf
  refine List.pairwise_cons.mpr ⟨fun x hx => ?_, ?_⟩
  · have := (List.mem_filter.mp hx).2
    rw [Bool.and_eq_true, decide_eq_true_eq, decide_eq_true_eq] at this
    omega
  · by_cases c : a < b / L * L
    · refine List.Pairwise.filter _ (List.pairwise_cons.mpr ⟨fun x hx => ?_, List.pairwise_singleton _ _⟩)
      rw [List.mem_singleton.mp hx]
      have : a / L < b / L := Int.ediv_lt_of_lt_mul L0 c
      exact Int.mul_le_mul_of_nonneg_right (by omega) (by omega)
    · rw [List.filter_cons, List.filter_cons_of_neg (a := b / L * L) (by simp; omega), List.filter_nil]
      split
      · exact List.pairwise_singleton _ _
      · exact List.Pairwise.nil
/-- the gaps lie one behind the other -/
theorem gps_asc (hs : 0 < s) (gs : List Bk) (gb : ∀ g ∈ gs, g.1 ≤ g.2 ∧ (g.2 - g.1) % s = 0) (p : (gs.flatMap (gpr s)).Pairwise (· < ·)) : gs.Pairwise fun g g' => g.2 < g'.1 := by
  induction gs with
  | nil => exact .nil
  | cons g r ih =>
    rw [List.flatMap_cons] at p
    obtain ⟨_, p2, p3⟩ := List.pairwise_append.mp p
    refine List.pairwise_cons.mpr ⟨fun g' hg' => ?_, ih (fun x hx => gb x (List.mem_cons_of_mem _ hx)) p2⟩
    have b1 := gb g (List.mem_cons_self ..)
    have b2 := gb g' (List.mem_cons_of_mem _ hg')
    exact p3 g.2 ((gpr_mem hs).mpr ⟨b1.1, Int.le_refl _, b1.2⟩) g'.1 (List.mem_flatMap.mpr ⟨g', hg', (gpr_mem hs).mpr ⟨Int.le_refl _, b2.1, by rw [Int.sub_self]; exact Int.zero_emod _⟩⟩)
theorem cnd_asc (L0 : 0 < L) : ∀ {gs : List Bk}, (∀ g ∈ gs, g.1 ≤ g.2) → gs.Pairwise (fun g g' => g.2 < g'.1) → (cnd L gs).Pairwise (· ≤ ·)
  | [], _, _ => List.Pairwise.nil
  | g :: r, b, p => by
    obtain ⟨p1, p2⟩ := List.pairwise_cons.mp p
    have ih := cnd_asc L0 (gs := r) (fun x hx => b x (List.mem_cons_of_mem _ hx)) p2
    unfold cnd at *
    rw [List.flatMap_cons]
    refine List.pairwise_append.mpr ⟨lbf_asc L0, ih, fun x hx y hy => ?_⟩
    obtain ⟨g', hg', hy⟩ := List.mem_flatMap.mp hy
    have h1 := cnd_le L0 (b g (List.mem_cons_self ..)) hx
    have h2 := cnd_le L0 (b g' (List.mem_cons_of_mem _ hg')) hy
    have := p1 g' hg'
    omega
theorem gpf_mod (s : Int) : ∀ (l : List Bk) (ff : Int), ∀ g ∈ gpf s ff l, g.1 % s = 0 ∧ g.2 % s = 0
  | [], _, g, hg => nomatch hg
  | b :: r, ff, g, hg => by
    have hg : g ∈ gp1 s ff b ++ gpf s (b.1 + b.2) r := hg
    rcases List.mem_append.mp hg with z | z
    · unfold gp1 at z
      split at z
      · rw [List.mem_singleton.mp z]
        exact ⟨Int.mul_emod_left _ _, Int.mul_emod_left _ _⟩
      · cases z
    · exact gpf_mod s r _ g z
/-- the rule's place is the first best of all places -/
theorem cho_best {r : Str} {a : Int} (hs : 0 < s) (L0 : 0 < L) (hL : L % s = 0) (h : ∀ b ∈ bs, 0 ≤ b.1 ∧ 1 ≤ b.2 ∧ b.1 + b.2 ≤ W) (asc : bs.Pairwise fun b c => b.1 + b.2 ≤ c.1) (W0 : 0 ≤ W) (ch : Cho r L bs (gpf s 0 (bs ++ [(W, 0)])) a) :
    a ∈ plf s 0 (bs ++ [(W, 0)]) ∧ ∀ n ∈ plf s 0 (bs ++ [(W, 0)]), if r = "tight" then twf L bs (n / L) ≤ twf L bs (a / L) ∧ (n < a → twf L bs (n / L) < twf L bs (a / L)) else twf L bs (n / L) ≥ twf L bs (a / L) ∧ (n < a → twf L bs (n / L) > twf L bs (a / L)) := by
  obtain ⟨i, hi, best⟩ := ch
  have pinc := plf_inc hs bs 0 h asc W0
  have hb0 : ∀ b ∈ bs ++ [(W, (0 : Int))], 0 ≤ b.1 ∧ 0 ≤ b.2 ∧ b.1 + b.2 ≤ W := fun b hb => by
    rcases List.mem_append.mp hb with z | z
    · have := h b z
      omega
    · rw [List.mem_singleton.mp z]
      exact ⟨W0, Int.le_refl _, by show W + 0 ≤ W; omega⟩
  have gb := gpf_bnd hs (bs ++ [(W, 0)]) 0 hb0 (Int.le_refl _)
  have gm := gpf_mod s (bs ++ [(W, 0)]) 0
  have gd : ∀ g ∈ gpf s 0 (bs ++ [(W, 0)]), g.1 ≤ g.2 ∧ (g.2 - g.1) % s = 0 := fun g hg => ⟨(gb g hg).2.1, Int.emod_eq_zero_of_dvd (Int.dvd_sub (Int.dvd_of_emod_eq_zero (gm g hg).2) (Int.dvd_of_emod_eq_zero (gm g hg).1))⟩
  have gasc := gps_asc hs _ gd (by rw [← plf_gpf hs]; exact pinc)
  have casc := cnd_asc L0 (fun g hg => (gd g hg).1) gasc
  have am : a ∈ cnd L (gpf s 0 (bs ++ [(W, 0)])) := List.mem_of_getElem? hi
  obtain ⟨g, hg, ha⟩ := List.mem_flatMap.mp am
  refine ⟨gap_in hs hg (cnd_in hs L0 hL (gm g hg).1 (gd g hg).1 ha), fun n hn => ?_⟩
  rw [plf_gpf hs] at hn
  obtain ⟨g', hg', hn⟩ := List.mem_flatMap.mp hn
  obtain ⟨c, hc, cn, ec⟩ := cnd_rep hs L0 hL h asc W0 hg' (gm g' hg').1 hn
  obtain ⟨j, hj⟩ := List.mem_iff_getElem?.mp (List.mem_flatMap.mpr ⟨g', hg', hc⟩ : c ∈ cnd L (gpf s 0 (bs ++ [(W, 0)])))
  have hj : (cnd L (gpf s 0 (bs ++ [(W, 0)])))[j]? = some c := hj
  have bj := best j c hj
  rw [ec] at bj
  have ji : n < a → j < i := fun na => Nat.lt_of_not_le fun ij => by
    obtain ⟨li, ei⟩ := List.getElem?_eq_some_iff.mp hi
    obtain ⟨lj, ej⟩ := List.getElem?_eq_some_iff.mp hj
    rcases Nat.eq_or_lt_of_le ij with z | z
    · rw [← z, hi] at hj
      have := Option.some.inj hj
      omega
    · have := List.pairwise_iff_getElem.mp casc i j li lj z
      rw [ei, ej] at this
      omega
  split
  · rename_i e
    rw [if_pos e] at bj
    exact ⟨bj.1, fun na => bj.2 (ji na)⟩
  · rename_i e
    rw [if_neg e] at bj
    exact ⟨bj.1, fun na => bj.2 (ji na)⟩
end

end Ph

set_option maxHeartbeats 8000000
namespace Ph
open PySem PySem.Spec PyProof.Rows L2
section
variable {P : Program} {w : World} {K : PySem.W.Frag} {mg : Str → Option Value} {base : Heap}
def spMf : Sp := fun vs H Q _ => ∃ a r : Nat, vs = [.int ((a * r : Nat) : Int), .int (a : Int)] ∧ 0 < a ∧ 2 ≤ r ∧ Q (.bl true) H
theorem ok_Mf {k : Nat} (Z : Fns K mg) : FnOk P w K mg base CX0 (k + 1) Z.fMf Z.fdMf ["larger", "size"] spMf := by
  refine Z.FMf.ok scMf (fun vs H Q E h => ?_) (fun cdv A outer s H vs Q E hr h => ?_)
  · obtain ⟨a, r, rfl, _⟩ := h
    rfl
  · obtain ⟨a, r, rfl, a0, r2, q⟩ := h
    refine ⟨_, (pss_one (ps_ret (pe_and (pe_chain op_lt op_lt pe_int (pv 1) (pv 0)) (pe_one (pe_cmpR op_eq (pe_op op_mod (pv 0) (pv 1)) pe_int (nomark _)))))), ?_⟩
    have lt : a < a * r := by
      have : a * 2 ≤ a * r := Nat.mul_le_mul_left a r2
      omega
    refine ⟨.int _, rfl, _, _, rfl, rfl, _, rfl, ite2 (fun _ => ?_) (fun c => absurd (decide_eq_true (show (0 : Int) < (a : Int) by omega)) c)⟩
    refine ⟨.int _, rfl, _, _, rfl, rfl, _, rfl, ite2 (fun _ => ?_) (fun c => absurd (decide_eq_true (show (a : Int) < ((a * r : Nat) : Int) by omega)) c)⟩
    refine ⟨.int _, rfl, .int _, rfl, _, _, rfl, rfl, (by omega : (0 : Int) < (a : Int)), rfl, ?_⟩
    have e : ((a * r : Nat) : Int) % (a : Int) = 0 := by
      rw [Int.natCast_mul]
      exact Int.mul_emod_right _ _
    show Q (.bl (decide (V.int (((a * r : Nat) : Int) % (a : Int)) = V.int 0))) H
    rw [e, decide_eq_true rfl]
    exact q
def spCi : Sp := fun vs H Q _ => ∃ (c : Addr) (s : Nat → Nat) (p m : Nat), vs = [.ref c] ∧ ChAt H c (tl s (p + 1)) ∧ Cn s p m ∧ m ≤ 1000000000 ∧ p + 1 ≤ 12 ∧ ∀ H', Same H H' → Q (.bl true) H'
theorem ok_Ci {k : Nat} (Z : Fns K mg) : FnOk P w K mg base CX0 (k + 1 + 1) Z.fCi Z.fdCi ["value"] spCi := by
  have GI : FnOk P w K mg base CX0 (k + 1) Z.fI Z.fdI ["value"] spI := ok_I Z
  have GMf : FnOk P w K mg base CX0 (k + 1) Z.fMf Z.fdMf ["larger", "size"] spMf := ok_Mf Z
  refine Z.FCi.ok scCi (fun vs H Q E h => ?_) (fun cdv A outer s H vs Q E hr h => ?_)
  · obtain ⟨c, s, p, m, rfl, _⟩ := h
    rfl
  · obtain ⟨c, sz, p, m, rfl, hc, cn, hm, hp, q⟩ := h
    refine ⟨_, (pss_cons (ps_if (PW.pt (pw_or (pt_not (pt_val (pe_callB call_isi (by rfl) Z.N.isinstance (by decide +kernel) (pa_cons (pv 0) (pa_cons (pe_bltn (v := .ty "tuple") (by rfl) Z.N.tuple (by decide +kernel) rfl) pa_nil))))) (pw_or1 (pt_not (pt_chain op_le op_le pe_int (pe_callB call_len_seq (by rfl) Z.N.len (by decide +kernel) (pa_cons (pv 0) pa_nil)) (pe_glob (v := .int 12) (by rfl) Z.k_MOST_SIZES.choose_spec ⟨_, rfl⟩))))))
 (pss_one (ps_ret pe_bl)) pss_nil)
 (pss_cons (ps_if (pt_not (pt_val (pe_callB (cr_all rfl) (by rfl) Z.N.all (by decide +kernel) (pa_cons (pe_lc (own := [("size", 1)]) (g := (gName 1)) (tt := tYes) (by rfl) scCi.nd (pi_tup (pv 0)) (blkOk_by (N := scCiN) (sc := defScope scCiS) (by decide +kernel)) (fun _ _ _ _ _ => (pg_name (i := 1) scCi.nd rfl (.inl rfl))) (fun _ _ _ _ _ => pts_nil) (fun _ _ _ _ _ => (pe_call GI (hr.mono (by omega)) (by rfl) Z.gI Z.FI.kp Z.bI .nil pass0 (pa_cons (pv 1) pa_nil)))) pa_nil))))
 (pss_one (ps_ret pe_bl)) pss_nil)
 (pss_cons (ps_if (PW.pt (pw_or (pt_cmpR op_ne (pe_ix ix_tup (pv 0) pe_int (fun _ _ => rfl)) pe_int (nomark _)) (pw_or1 (pt_cmpR op_gt (pe_ix ix_tup (pv 0) (pe_un un_neg pe_int) (fun _ _ => rfl)) (pe_glob (v := .int 1000000000) (by rfl) Z.k_LARGEST_SIZE.choose_spec ⟨_, rfl⟩) (nomark _)))))
 (pss_one (ps_ret pe_bl)) pss_nil)
 (pss_one (ps_ret (pe_callB (cr_all rfl) (by rfl) Z.N.all (by decide +kernel) (pa_cons (pe_lc (own := [("size", 1), ("larger", 2)]) (g := (gTup K 2 (gCons (gName 1) (gCons (gName 2) gNil)))) (tt := tYes) (by rfl) scCi.nd (pi_zipK (k1 := true) (k2 := true) (by rfl) Z.N.zip (pa_cons (pv 0) (pa_cons (pe_slice sl_tupK (pv 0) (po_some pe_int) po_none) pa_nil))) (blkOk_by (N := scCiN) (sc := defScope scCiS) (by decide +kernel)) (fun _ _ _ _ _ => (pg_tup (by rfl) (pgs_cons (pg_name (i := 1) scCi.nd rfl (.inl rfl)) (pgs_cons (pg_name (i := 2) scCi.nd rfl (.inl rfl)) pgs_nil)))) (fun _ _ _ _ _ => pts_nil) (fun _ _ _ _ _ => (pe_call GMf (hr.mono (by omega)) (by rfl) Z.gMf Z.FMf.kp Z.bMf .nil pass0 (pa_cons (pv 2) (pa_cons (pv 1) pa_nil))))) pa_nil))))))), ?_⟩
    obtain ⟨oc, od, ec⟩ := id hc
    refine ⟨.ref c, rfl, .ref c, .ty "tuple", .type "tuple", .type "tuple", true, rfl, .ty _, .fTuple ec, kit_ty (by decide +kernel), _, rfl, ite2 (fun c => absurd c (by decide)) (fun _ => ?_)⟩
    refine ⟨.ref c, rfl, c, _, rfl, .inr hc.sq, ?_⟩
    rw [List.length_map, tl_len]
    refine ⟨_, _, rfl, rfl, _, rfl, ite2 (fun _ => ?_) (fun c => absurd (decide_eq_true (show (1 : Int) ≤ ((p + 1 : Nat) : Int) by omega)) c)⟩
    refine ⟨_, _, rfl, rfl, _, rfl, ite2 (fun c => absurd c (by rw [decide_eq_true (show ((p + 1 : Nat) : Int) ≤ 12 by omega)]; decide)) (fun _ => ?_)⟩
    refine ⟨.ref c, rfl, c, rfl, ⟨_, hc.sq⟩, fun D nD => ?_⟩
    refine lc_R (walk_tup (K := K) (a := c) (xs := (tl sz (p + 1)).map V.int)) (fun _ _ _ _ y => YAt.same y) (fun _ _ y => y = .bl true) (fun _ _ _ _ _ h => h) nD (by rw [List.length_map, tl_len]; exact Nat.lt_of_le_of_lt hp (by decide)) (fun H2 s2 => s2.tup hc.sq) (fun j x H2 H3 hj s2 y Z hZ => ?_) (fun H2 zs s2 hD pr => ?_)
    · rw [List.length_map, tl_len] at hj
      obtain ⟨rfl, hx⟩ := y
      rw [tl_getV hj] at hx
      cases hx
      exact ⟨rfl, .int _, rfl, _, rfl, hZ _ _ (Same.refl _) rfl⟩
    have allT : ∀ n : Nat, ((List.range n).map fun _ => true).all id = true := fun n => by
      rw [List.all_map]
      exact List.all_eq_true.mpr fun _ _ => rfl
    rw [paired_eq pr, List.length_map, tl_len] at hD
    refine ⟨D, (List.range (p + 1)).map fun _ => true, rfl, by rw [List.map_map]; exact .inl (.inl hD), _, rfl, ite2 (fun c => absurd c (by rw [allT]; decide)) (fun _ => ?_)⟩
    have hc2 := hc.keep s2
    have top : sz p ≤ 1000000000 := Nat.le_trans cn.top hm
    refine ⟨.ref c, rfl, c, _, 0, _, rfl, rfl, hc2.sq, atI_nat (j := 0) (tl_getV (Nat.succ_pos p)), rfl, _, rfl, ite2 (fun c => absurd c (by rw [cn.ch.s0]; decide)) (fun _ => ?_)⟩
    refine ⟨.ref c, rfl, 1, rfl, c, _, -1, _, rfl, rfl, hc2.sq, tl_atL, _, _, rfl, rfl, _, rfl, ite2 (fun c => absurd (of_decide_eq_true c) (by omega)) (fun _ => ?_)⟩
    refine ⟨.ref c, rfl, .ref c, rfl, 1, rfl, c, _, rfl, hc2.sq, fun u H4 s4 hu => ?_⟩
    have cut : cutV ((tl sz (p + 1)).map V.int) (some 1) none = (tl (fun i => sz (i + 1)) p).map V.int := cut_oneL
    rw [cut] at hu
    refine ⟨c, u, _, _, rfl, (hc2.keep s4).sq, hu, fun D2 nD2 => ?_⟩
    refine lc_R (walk_zipK (k1 := true) (k2 := true) (K := K) (a := c) (b := u) (xs := (tl sz (p + 1)).map V.int) (ys := (tl (fun i => sz (i + 1)) p).map V.int) (n := p) (by rw [List.length_map, List.length_map, tl_len, tl_len]; omega)) (fun _ _ _ _ y => YPair.same y) (fun _ _ y => y = .bl true) (fun _ _ _ _ _ h => h) nD2 (Nat.lt_of_le_of_lt (show p ≤ 12 by omega) (by decide)) (fun H5 s5 => ⟨s5.tup (hc2.keep s4).sq, s5.tup hu⟩) (fun j x H5 H6 hj s5 y Z hZ => ?_) (fun H5 zs s5 hD2 pr2 => ?_)
    · obtain ⟨T, x1, x2, rfl, nT, rfl, e1, e2⟩ := y
      have e1' : ((tl sz (p + 1)).map V.int)[j]? = some x1 := e1
      rw [tl_getV (by omega)] at e1'
      have e2' : ((tl (fun i => sz (i + 1)) p).map V.int)[j]? = some x2 := e2
      rw [tl_getV hj] at e2'
      cases e1'
      cases e2'
      obtain ⟨r, r2, _, er⟩ := cn.two j hj
      refine ⟨T, _, rfl, .inl (.inl upd_same), rfl, _, _, rfl, _, _, rfl, rfl, rfl, .int _, rfl, .int _, rfl, sz j, r, by rw [er]; rfl, cn.ch.pos (by omega), r2, hZ _ _ (Same.refl _) rfl⟩
    · rw [paired_eq pr2] at hD2
      refine ⟨D2, (List.range p).map fun _ => true, rfl, by rw [List.map_map]; exact .inl (.inl hD2), ?_⟩
      rw [allT]
      exact q _ (s2.trans (s4.trans s5))
end
section
variable {P : Program} {w : World} {K : PySem.W.Frag} {mg : Str → Option Value} {base : Heap}
def spHk (C : Addr) : Sp := fun vs H Q _ => ∃ (h l c : Addr) (r : Str) (s : Nat → Nat) (p pg M : Nat) (bs : List Bk) (ss : List Tri) (z : Int), vs = [.ref h, .int z] ∧ HrS C H h l c r s p pg M bs ss ∧ z ∈ tl s (p + 1) ∧ tot bs + z ≤ M ∧ bs.length ≤ 5000 ∧ ∀ H', Same H H' → Q .non H'
theorem ok_Hk {k : Nat} (Z : Fns K mg) : FnOk P w K mg base CX0 (k + 1 + 1 + 1 + 1) Z.fHk Z.fdHk ["self", "size"] (spHk Z.CHeap) := by
  have GC : FnOk P w K mg base CX0 (k + 1 + 1 + 1) Z.fC Z.fdC ["chain", "size"] spC := ok_C Z
  have GV : FnOk P w K mg base CX0 (k + 1) Z.fV Z.fdV ["state"] spV := ok_V Z
  refine Z.FHk.ok scHk (fun vs H Q E h => ?_) (fun cdv A outer s H vs Q E hr h => ?_)
  · obtain ⟨h, l, c, r, s, p, pg, M, bs, ss, z, rfl, _⟩ := h
    rfl
  · obtain ⟨h, l, c, r, sz, p, pg, M, bs, ss, z, rfl, ⟨dx, t, xs, a⟩, hz, hM, hl, q⟩ := h
    refine ⟨_, (pss_cons (ps_expr (pe_call GC (hr.mono (by omega)) (by rfl) Z.gC Z.FC.kp Z.bC .nil pass0 (pa_cons (pe_fld (pv 0) rfl) (pa_cons (pv 1) pa_nil))))
 (pss_one (ps_if (pt_cmpR op_gt (pe_op op_add (pe_call GV (hr.mono (by omega)) (by rfl) Z.gV Z.FV.kp Z.bV .nil pass0 (pa_cons (pe_fld (pv 0) rfl) pa_nil)) (pv 1)) (pe_fld (pv 0) rfl) (nomark _))
 (pss_one ps_never) pss_nil))), ?_⟩
    refine ⟨.ref h, rfl, h, Z.CHeap, dx, _, _, rfl, a.ob, Z.clHeap, Z.naHeap_chain, hr_chain, .int z, rfl, c, _, z, rfl, a.ch, hz, fun _ => ?_⟩
    refine ⟨.ref h, rfl, h, Z.CHeap, dx, _, _, rfl, a.ob, Z.clHeap, Z.naHeap_blocks, hr_blocks, t, bs, rfl, a.st, hl, fun H1 s1 => ?_⟩
    refine ⟨.int z, rfl, _, _, rfl, rfl, .ref h, rfl, h, Z.CHeap, dx, _, _, rfl, s1 _ _ a.ob, Z.clHeap, Z.naHeap_limit, hr_limit, _, _, rfl, rfl, _, rfl, ite2 (fun c => absurd (of_decide_eq_true c) (by omega)) (fun _ => ?_)⟩
    exact q _ s1
def spHs (C : Addr) : Sp := fun vs H Q _ => ∃ (h l c : Addr) (r : Str) (s : Nat → Nat) (p pg M : Nat) (bs : List Bk) (ss : List Tri), vs = [.ref h] ∧ HrS C H h l c r s p pg M bs ss ∧ ∀ t, StAt H t bs → Q (.ref t) H
theorem ok_Hs {k : Nat} (Z : Fns K mg) : FnOk P w K mg base CX0 (k + 1) Z.fHs Z.fdHs ["self"] (spHs Z.CHeap) := by
  refine Z.FHs.ok scHs (fun vs H Q E h => ?_) (fun cdv A outer s H vs Q E hr h => ?_)
  · obtain ⟨h, l, c, r, s, p, pg, M, bs, ss, rfl, _⟩ := h
    rfl
  · obtain ⟨h, l, c, r, sz, p, pg, M, bs, ss, rfl, ⟨dx, t, xs, a⟩, q⟩ := h
    refine ⟨_, (pss_one (ps_ret (pe_fld (pv 0) rfl))), ?_⟩
    exact ⟨.ref h, rfl, h, Z.CHeap, dx, _, _, rfl, a.ob, Z.clHeap, Z.naHeap_blocks, hr_blocks, q _ a.st⟩
end
section
variable {P : Program} {w : World} {K : PySem.W.Frag} {mg : Str → Option Value} {base : Heap}
def spHi (C : Addr) : Sp := fun vs H Q _ => ∃ (h c dx : Addr) (r : Str) (s : Nat → Nat) (p m pg M : Nat), vs = [.ref h, .ref c, .int pg, .int M, .str r] ∧ IsRule r ∧ H h = some (.ins C dx []) ∧ ChAt H c (tl s (p + 1)) ∧ Cn s p m ∧ m ≤ 1000000000 ∧ p + 1 ≤ 12 ∧ ∀ H' l, Fr h l H H' → H l = none → HrS C H' h l c r s p pg M [] [] → Q .non H'
theorem ok_Hi {k : Nat} (Z : Fns K mg) : FnOk P w K mg base CX0 (k + 1 + 1 + 1) Z.fHi Z.fdHi ["self", "chain", "pages", "limit", "rule"] (spHi Z.CHeap) := by
  have GCi : FnOk P w K mg base CX0 (k + 1 + 1) Z.fCi Z.fdCi ["value"] spCi := ok_Ci Z
  have GI : FnOk P w K mg base CX0 (k + 1) Z.fI Z.fdI ["value"] spI := ok_I Z
  have GIr : FnOk P w K mg base CX0 (k + 1) Z.fIr Z.fdIr ["value"] spIr4 := ok_Ir4 Z
  refine Z.FHi.ok scHi (fun vs H Q E h => ?_) (fun cdv A outer s H vs Q E hr h => ?_)
  · obtain ⟨h, c, dx, r, s, p, m, pg, M, rfl, _⟩ := h
    rfl
  · obtain ⟨h, c, dx, r, sz, p, m, pg, M, rfl, hr4, hh, hc, cn, hm, hp, q⟩ := h
    refine ⟨_, (pss_cons (ps_if (pt_not (pt_val (pe_call GCi (hr.mono (by omega)) (by rfl) Z.gCi Z.FCi.kp Z.bCi .nil pass0 (pa_cons (pv 1) pa_nil))))
 (pss_one ps_never) pss_nil)
 (pss_cons (ps_if (PW.pt (pw_or (pt_not (pt_val (pe_call GI (hr.mono (by omega)) (by rfl) Z.gI Z.FI.kp Z.bI .nil pass0 (pa_cons (pv 2) pa_nil)))) (pw_or1 (pt_cmpR op_lt (pv 2) pe_int (nomark _)))))
 (pss_one ps_never) pss_nil)
 (pss_cons (ps_if (PW.pt (pw_or (pt_not (pt_val (pe_call GI (hr.mono (by omega)) (by rfl) Z.gI Z.FI.kp Z.bI .nil pass0 (pa_cons (pv 3) pa_nil)))) (pw_or1 (pt_cmpR op_lt (pv 3) pe_int (nomark _)))))
 (pss_one ps_never) pss_nil)
 (pss_cons (ps_if (pt_not (pt_val (pe_call GIr (hr.mono (by omega)) (by rfl) Z.gIr Z.FIr.kp Z.bIr .nil pass0 (pa_cons (pv 4) pa_nil))))
 (pss_one ps_never) pss_nil)
 (pss_cons (ps_fld (pv 0) (pv 1) rfl)
 (pss_cons (ps_fld (pv 0) (pv 2) rfl)
 (pss_cons (ps_fld (pv 0) (pv 3) rfl)
 (pss_cons (ps_fld (pv 0) (pv 4) rfl)
 (pss_cons (ps_fld (pv 0) (pe_tup pa_nil) rfl)
 (pss_one (ps_fld (pv 0) (pe_lst pa_nil) rfl))))))))))), ?_⟩
    refine ⟨.ref c, rfl, c, sz, p, m, rfl, hc, cn, hm, hp, fun H1 s1 => ⟨_, rfl, ite2 (fun c => absurd c (by decide)) (fun _ => ?_)⟩⟩
    refine ⟨.int _, rfl, _, rfl, _, rfl, ite2 (fun c => absurd c (by decide)) (fun _ => ?_)⟩
    refine ⟨.int _, rfl, _, _, rfl, rfl, _, rfl, ite2 (fun c => absurd (of_decide_eq_true c) (by omega)) (fun _ => ?_)⟩
    refine ⟨.int _, rfl, _, rfl, _, rfl, ite2 (fun c => absurd c (by decide)) (fun _ => ?_)⟩
    refine ⟨.int _, rfl, _, _, rfl, rfl, _, rfl, ite2 (fun c => absurd (of_decide_eq_true c) (by omega)) (fun _ => ?_)⟩
    refine ⟨.str r, rfl, r, rfl, hr4, _, rfl, ite2 (fun c => absurd c (by decide)) (fun _ => ?_)⟩
    have hh1 := s1 _ _ hh
    refine ⟨.ref c, rfl, .ref h, rfl, h, Z.CHeap, dx, [], rfl, hh1, Z.clHeap, Z.naHeap_chain, (by show 0 < 1000; decide), ?_⟩
    refine ⟨.int pg, rfl, .ref h, rfl, h, Z.CHeap, dx, _, rfl, upd_same, Z.clHeap, Z.naHeap_pages, (by show 1 < 1000; decide), ?_⟩
    refine ⟨.int M, rfl, .ref h, rfl, h, Z.CHeap, dx, _, rfl, upd_same, Z.clHeap, Z.naHeap_limit, (by show 2 < 1000; decide), ?_⟩
    refine ⟨.str r, rfl, .ref h, rfl, h, Z.CHeap, dx, _, rfl, upd_same, Z.clHeap, Z.naHeap_rule, (by show 3 < 1000; decide), ?_⟩
    have hh2 : upd (upd (upd (upd H1 h (HO.ins Z.CHeap dx (putF "chain" (V.ref c) []))) h (HO.ins Z.CHeap dx (putF "pages" (V.int ↑pg) (putF "chain" (V.ref c) [])))) h (HO.ins Z.CHeap dx (putF "limit" (V.int ↑M) (putF "pages" (V.int ↑pg) (putF "chain" (V.ref c) []))))) h (HO.ins Z.CHeap dx (putF "rule" (V.str r) (putF "limit" (V.int ↑M) (putF "pages" (V.int ↑pg) (putF "chain" (V.ref c) []))))) h = some (HO.ins Z.CHeap dx (putF "rule" (V.str r) (putF "limit" (V.int ↑M) (putF "pages" (V.int ↑pg) (putF "chain" (V.ref c) []))))) := upd_same
    have b12 : But h H1 (upd (upd (upd (upd H1 h (HO.ins Z.CHeap dx (putF "chain" (V.ref c) []))) h (HO.ins Z.CHeap dx (putF "pages" (V.int ↑pg) (putF "chain" (V.ref c) [])))) h (HO.ins Z.CHeap dx (putF "limit" (V.int ↑M) (putF "pages" (V.int ↑pg) (putF "chain" (V.ref c) []))))) h (HO.ins Z.CHeap dx (putF "rule" (V.str r) (putF "limit" (V.int ↑M) (putF "pages" (V.int ↑pg) (putF "chain" (V.ref c) [])))))) := but_upd.trans (but_upd.trans (but_upd.trans but_upd))
    generalize upd (upd (upd (upd H1 h (HO.ins Z.CHeap dx (putF "chain" (V.ref c) []))) h (HO.ins Z.CHeap dx (putF "pages" (V.int ↑pg) (putF "chain" (V.ref c) [])))) h (HO.ins Z.CHeap dx (putF "limit" (V.int ↑M) (putF "pages" (V.int ↑pg) (putF "chain" (V.ref c) []))))) h (HO.ins Z.CHeap dx (putF "rule" (V.str r) (putF "limit" (V.int ↑M) (putF "pages" (V.int ↑pg) (putF "chain" (V.ref c) []))))) = H2 at *
    refine ⟨(by show 0 ≤ sizeLine; decide), fun T nT => ?_⟩
    have nhT : h ≠ T := ne_of_none hh2 nT
    refine ⟨.ref h, rfl, h, Z.CHeap, dx, _, rfl, (by rw [upd_ne nhT]; exact hh2), Z.clHeap, Z.naHeap_blocks, (by show 4 < 1000; decide), ?_⟩
    refine ⟨(by show 0 ≤ sizeLine; decide), fun l nl => ?_⟩
    have nhl : h ≠ l := fun z => by
      rw [← z, upd_same] at nl
      cases nl
    have nTl : T ≠ l := fun z => by
      rw [← z, upd_ne nhT.symm, upd_same] at nl
      cases nl
    refine ⟨.ref h, rfl, h, Z.CHeap, dx, _, rfl, (by rw [upd_ne nhl]; exact upd_same), Z.clHeap, Z.naHeap_steps, (by show 5 < 1000; decide), ?_⟩
    have nl2 : H2 l = none := by
      rw [upd_ne nhl.symm, upd_ne nTl.symm] at nl
      exact nl
    have kp : ∀ b o, b ≠ h → b ≠ l → H1 b = some o → upd (upd (upd (upd H2 T (.tup [])) h (.ins Z.CHeap dx (putF "blocks" (V.ref T) (putF "rule" (V.str r) (putF "limit" (V.int ↑M) (putF "pages" (V.int ↑pg) (putF "chain" (V.ref c) []))))))) l (.lst [])) h (.ins Z.CHeap dx (putF "steps" (V.ref l) (putF "blocks" (V.ref T) (putF "rule" (V.str r) (putF "limit" (V.int ↑M) (putF "pages" (V.int ↑pg) (putF "chain" (V.ref c) []))))))) b = some o := fun b o n1 n2 e => by
      have e2 := b12 _ _ n1 e
      rw [upd_ne n1, upd_ne n2, upd_ne n1, upd_ne (ne_of_none e2 nT)]
      exact e2
    have nl0 : H l = none := by
      cases e : H l with
      | none => rfl
      | some o =>
        have := b12 _ _ nhl.symm (s1 _ _ e)
        rw [nl2] at this
        cases this
    refine q _ l (fun b o n1 n2 e => kp b o n1 n2 (s1 _ _ e)) nl0 ⟨dx, T, [], ?_, ?_, ⟨[], ?_, .nil⟩, ?_, .nil⟩
    · rw [upd_same]
      rfl
    · refine (hc.keep s1).frz fun o u e => kp _ _ (ne_of e hh1 (by intro z; cases z)) (fun z => ?_) e
      have e3 := b12 _ _ (ne_of e hh1 (by intro z; cases z)) e
      rw [z, nl2] at e3
      cases e3
    · rw [upd_ne nhT.symm, upd_ne nTl, upd_ne nhT.symm, upd_same]
    · rw [upd_ne nhl.symm, upd_same]
def spHe (C : Addr) : Sp := fun vs H Q _ => ∃ (h l c : Addr) (r : Str) (s : Nat → Nat) (p pg M : Nat) (bs : List Bk) (ss : List Tri) (x z : Int), vs = [.ref h, .int x, .int z] ∧ HrS C H h l c r s p pg M bs ss ∧ bs.length ≤ 5000 ∧ ss.length ≤ 1000000 ∧ ∀ H' cs, Fr h l H H' → HrS C H' h l c r s p pg M cs (ss ++ [(("get" : Str), x, z)]) → cs.Perm (bs ++ [(x, z)]) → (cs.Pairwise fun x y => SrtO.lexB y x = false) → Q .non H'
theorem ok_He {k : Nat} (Z : Fns K mg) : FnOk P w K mg base CX0 (k + 1 + 1) Z.fHe Z.fdHe ["self", "address", "size"] (spHe Z.CHeap) := by
  have GWb : FnOk P w K mg base CX0 (k + 1) Z.fWb Z.fdWb ["state", "address", "size"] spWb := ok_Wb Z
  refine Z.FHe.ok scHe (fun vs H Q E h => ?_) (fun cdv A outer s H vs Q E hr h => ?_)
  · obtain ⟨h, l, c, r, s, p, pg, M, bs, ss, x, z, rfl, _⟩ := h
    rfl
  · obtain ⟨h, l, c, r, sz, p, pg, M, bs, ss, x, z, rfl, ⟨dx, t, xs, a⟩, hl, hn, q⟩ := h
    refine ⟨_, (pss_cons (ps_fld (pv 0) (pe_call GWb (hr.mono (by omega)) (by rfl) Z.gWb Z.FWb.kp Z.bWb .nil pass0 (pa_cons (pe_fld (pv 0) rfl) (pa_cons (pv 1) (pa_cons (pv 2) pa_nil)))) rfl)
 (pss_one (ps_expr (pe_bm PySem.F.plainAttrs_list PySem.F.slot_list_append PySem.F.type_list_append mt_append (pe_fld (pv 0) rfl) (pa_cons (pe_tup (pa_cons pe_str (pa_cons (pv 1) (pa_cons (pv 2) pa_nil)))) pa_nil))))), ?_⟩
    refine ⟨.ref h, rfl, h, Z.CHeap, dx, _, _, rfl, a.ob, Z.clHeap, Z.naHeap_blocks, hr_blocks, .int x, rfl, .int z, rfl, t, bs, x, z, rfl, a.st, hl, fun H1 u cs s1 st1 pm srt => ?_⟩
    have ob1 := s1 _ _ a.ob
    have ls1 := s1 _ _ a.ls
    have nlh : l ≠ h := ne_of ls1 ob1 (by intro z; cases z)
    refine ⟨.ref h, rfl, h, Z.CHeap, dx, _, rfl, ob1, Z.clHeap, Z.naHeap_blocks, (by show 6 < 1000; decide), ?_⟩
    rw [hr_put]
    have hl2 : upd H1 h (.ins Z.CHeap dx (hfr r c pg M u l)) l = some (.lst xs) := by rw [upd_ne nlh]; exact ls1
    refine ⟨.ref h, rfl, h, Z.CHeap, dx, _, _, rfl, upd_same, Z.clHeap, Z.naHeap_steps, hr_steps, .inl ⟨rfl, _, .inl (.inl hl2)⟩, .int x, rfl, .int z, rfl, (by show 3 ≤ sizeLine; decide), fun T nT => ?_⟩
    have sT := same_upd (o := .tup [.str "get", .int x, .int z]) nT
    have hl3 := sT _ _ hl2
    refine ⟨l, _, _, rfl, rfl, hl3, Nat.lt_of_le_of_lt ((by rw [a.sl.len]; exact hn)) (by decide), ?_⟩
    have ob2 := sT _ _ (upd_same (H := H1) (a := h) (o := .ins Z.CHeap dx (hfr r c pg M u l)))
    have kp : ∀ b o, b ≠ h → b ≠ l → H1 b = some o → upd (upd (upd H1 h (.ins Z.CHeap dx (hfr r c pg M u l))) T (.tup [.str "get", .int x, .int z])) l (.lst (xs ++ [.ref T])) b = some o := fun b o n1 n2 e => by
      rw [upd_ne n2]
      exact sT _ _ (by rw [upd_ne n1]; exact e)
    refine q _ cs (fun b o n1 n2 e => kp b o n1 n2 (s1 _ _ e)) ⟨dx, u, xs ++ [.ref T], ⟨?_, ?_, ?_, upd_same, ?_⟩⟩ pm srt
    · rw [upd_ne nlh.symm]
      exact ob2
    · exact (a.ch.keep s1).frz fun o u e => kp _ _ (ne_of e ob1 (by intro z; cases z)) (ne_of e ls1 (by intro z; cases z)) e
    · exact st1.mono fun v us e => kp _ _ (ne_of e ob1 (by intro z; cases z)) (ne_of e ls1 (by intro z; cases z)) e
    · refine Paired.snoc (a.sl.kp fun v us e => kp _ _ (ne_of (s1 _ _ e) ob1 (by intro z; cases z)) (ne_of (s1 _ _ e) ls1 (by intro z; cases z)) (s1 _ _ e)) ⟨T, rfl, ?_⟩
      rw [upd_ne (ne_of_none hl2 nT).symm]
      exact upd_same
def spNr (C : Addr) : Sp := fun vs H Q _ => ∃ (a : Addr) (x : V), vs = [.ref a, x] ∧ H a = some (exo a C none) ∧ ∀ dx, H dx = none → dx ≠ a → Q .non (upd (upd H dx (exd dx [("size", x)])) a (exo a C (some dx)))
theorem ok_Nr {k : Nat} (Z : Fns K mg) : FnOk P w K mg base CX0 (k + 1) Z.fNr Z.fdNr ["self", "size"] (spNr Z.CNoRoom) := by
  refine Z.FNr.ok scNr (fun vs H Q E h => ?_) (fun cdv A outer s H vs Q E hr h => ?_)
  · obtain ⟨a, x, rfl, _⟩ := h
    rfl
  · obtain ⟨a, x, rfl, ha, q⟩ := h
    refine ⟨_, (pss_one (ps_ost (pv 0) (pv 1) rfl)), ?_⟩
    exact ⟨x, rfl, .ref a, rfl, a, Z.CNoRoom, rfl, Z.oxNoRoom, Z.nfNoRoom_size, .inl ⟨ha, q⟩⟩
def spHf (C : Addr) : Sp := fun vs H Q _ => ∃ (h l c : Addr) (r : Str) (s : Nat → Nat) (p pg M : Nat) (bs : List Bk) (ss : List Tri) (x : Int), vs = [.ref h, .int x] ∧ HrS C H h l c r s p pg M bs ss ∧ bs.length ≤ 5000 ∧ ss.length ≤ 1000000 ∧ (∃ b ∈ bs, b.1 = x) ∧ ∀ H', Fr h l H H' → HrS C H' h l c r s p pg M (bs.filter fun b => decide (b.1 ≠ x)) (ss ++ [(("free" : Str), x, tot bs - tot (bs.filter fun b => decide (b.1 ≠ x)))]) → Q .non H'
theorem ok_Hf {k : Nat} (Z : Fns K mg) : FnOk P w K mg base CX0 (k + 1 + 1 + 1 + 1) Z.fHf Z.fdHf ["self", "address"] (spHf Z.CHeap) := by
  have GOb : FnOk P w K mg base CX0 (k + 1 + 1 + 1) Z.fOb Z.fdOb ["state", "address"] (spOb K) := ok_Ob Z
  have GV : FnOk P w K mg base CX0 (k + 1) Z.fV Z.fdV ["state"] spV := ok_V Z
  refine Z.FHf.ok scHf (fun vs H Q E h => ?_) (fun cdv A outer s H vs Q E hr h => ?_)
  · obtain ⟨h, l, c, r, s, p, pg, M, bs, ss, x, rfl, _⟩ := h
    rfl
  · obtain ⟨h, l, c, r, sz, p, pg, M, bs, ss, x, rfl, hp, hl, hn, ex, q⟩ := h
    refine ⟨_, (pss_cons (ps_set (i := 2) scHf.nd rfl (.inl rfl) (pe_call GOb (hr.mono (by omega)) (by rfl) Z.gOb Z.FOb.kp Z.bOb .nil pass0 (pa_cons (pe_fld (pv 0) rfl) (pa_cons (pv 1) pa_nil))))
 (pss_cons (ps_expr (pe_bm PySem.F.plainAttrs_list PySem.F.slot_list_append PySem.F.type_list_append mt_append (pe_fld (pv 0) rfl) (pa_cons (pe_tup (pa_cons pe_str (pa_cons (pv 1) (pa_cons (pe_op op_sub (pe_call GV (hr.mono (by omega)) (by rfl) Z.gV Z.FV.kp Z.bV .nil pass0 (pa_cons (pe_fld (pv 0) rfl) pa_nil)) (pe_call GV (hr.mono (by omega)) (by rfl) Z.gV Z.FV.kp Z.bV .nil pass0 (pa_cons (pv 2) pa_nil))) pa_nil)))) pa_nil)))
 (pss_one (ps_fld (pv 0) (pv 2) rfl)))), ?_⟩
    obtain ⟨dx, t, xs, a⟩ := id hp
    refine ⟨.ref h, rfl, h, Z.CHeap, dx, _, _, rfl, a.ob, Z.clHeap, Z.naHeap_blocks, hr_blocks, .int x, rfl, t, bs, x, rfl, a.st, hl, ex, fun H1 u s1 st1 => ?_⟩
    have ob1 := s1 _ _ a.ob
    have ls1 := s1 _ _ a.ls
    have nlh : l ≠ h := ne_of ls1 ob1 (by intro z; cases z)
    have fl : (bs.filter fun b => decide (b.1 ≠ x)).length ≤ 5000 := Nat.le_trans (List.length_filter_le _ _) hl
    refine ⟨.ref h, rfl, h, Z.CHeap, dx, _, _, rfl, ob1, Z.clHeap, Z.naHeap_steps, hr_steps, .inl ⟨rfl, _, .inl (.inl ls1)⟩, .int x, rfl, .ref h, rfl, h, Z.CHeap, dx, _, _, rfl, ob1, Z.clHeap, Z.naHeap_blocks, hr_blocks, t, bs, rfl, a.st.same s1, hl, fun H2 s2 => ?_⟩
    refine ⟨.ref u, rfl, u, _, rfl, st1.same s2, fl, fun H3 s3 => ⟨_, _, rfl, rfl, (by show 3 ≤ sizeLine; decide), fun T nT => ?_⟩⟩
    have s13 := s2.trans s3
    have sT := same_upd (o := .tup [.str "free", .int x, .int (tot bs - tot (bs.filter fun b => decide (b.1 ≠ x)))]) nT
    have s14 := s13.trans sT
    have hl4 := s14 _ _ ls1
    have ob4 := s14 _ _ ob1
    have st4 := st1.same s14
    have ch4 := (a.ch.keep s1).keep s14
    have hT4 : upd H3 T (.tup [.str "free", .int x, .int (tot bs - tot (bs.filter fun b => decide (b.1 ≠ x)))]) T = some (.tup [.str "free", .int x, .int (tot bs - tot (bs.filter fun b => decide (b.1 ≠ x)))]) := upd_same
    have stl4 := a.sl.kp fun v us e => s14 _ _ (s1 _ _ e)
    generalize upd H3 T (.tup [.str "free", .int x, .int (tot bs - tot (bs.filter fun b => decide (b.1 ≠ x)))]) = H4 at *
    refine ⟨l, _, _, rfl, rfl, hl4, Nat.lt_of_le_of_lt ((by rw [a.sl.len]; exact hn)) (by decide), ?_⟩
    refine ⟨.ref u, rfl, .ref h, rfl, h, Z.CHeap, dx, _, rfl, (by rw [upd_ne nlh.symm]; exact ob4), Z.clHeap, Z.naHeap_blocks, (by show 6 < 1000; decide), ?_⟩
    rw [hr_put]
    have kp : ∀ b o, b ≠ h → b ≠ l → H4 b = some o → upd (upd H4 l (.lst (xs ++ [.ref T]))) h (.ins Z.CHeap dx (hfr r c pg M u l)) b = some o := fun b o n1 n2 e => by
      rw [upd_ne n1, upd_ne n2]
      exact e
    refine q _ (fun b o n1 n2 e => kp b o n1 n2 (s14 _ _ (s1 _ _ e))) ⟨dx, u, xs ++ [.ref T], ⟨upd_same, ?_, ?_, ?_, ?_⟩⟩
    · exact ch4.frz fun o u e => kp _ _ (ne_of e ob4 (by intro z; cases z)) (ne_of e hl4 (by intro z; cases z)) e
    · exact st4.mono fun v us e => kp _ _ (ne_of e ob4 (by intro z; cases z)) (ne_of e hl4 (by intro z; cases z)) e
    · rw [upd_ne nlh, upd_same]
    · refine Paired.snoc (stl4.kp fun v us e => kp _ _ (ne_of e ob4 (by intro z; cases z)) (ne_of e hl4 (by intro z; cases z)) e) ⟨T, rfl, kp _ _ (ne_of hT4 ob4 (by intro z; cases z)) (ne_of hT4 hl4 (by intro z; cases z)) hT4⟩
end
/-- what changes at h, at l and in tables alone -/
def FrN (h l : Addr) (H H' : Hp) : Prop := ∀ b o, b ≠ h → b ≠ l → H b = some o → (∀ ps, o ≠ .tbl ps) → H' b = some o
theorem nr_out {T : List (Addr × Str)} {H H1 : Hp} {C : Addr} {x : V} {E : XK} (s1 : LamX.ExtN H H1) (tb : LamX.Tabs T H1) (q : ∀ H' d, LamX.ExtN H H' → LamX.Tabs T H' → H' d = some (.xd [("size", x)]) → E (.ref C) (some d) H') (a : Addr) (na : H1 a = none) :
    spNr C [.ref a, x] (upd H1 a (exo a C none)) (fun v H2 => v = .non ∧ ∃ (d : Addr) (fs : List (Str × V)), H2 a = some (exo a C (some d)) ∧ H2 d = some (exd d fs) ∧ H1 d = none ∧ E (.ref C) (some d) (upd (del H2 a) d (.xd fs))) (fun _ _ _ => False) := by
  refine ⟨a, x, rfl, upd_same, fun dx ndx ne => ?_⟩
  have nd : H1 dx = none := by
    rw [upd_ne ne] at ndx
    exact ndx
  have sm : Same H1 (upd (del (upd (upd (upd H1 a (exo a C none)) dx (exd dx [("size", x)])) a (exo a C (some dx))) a) dx (.xd [("size", x)])) := fun b o e => by
    have n1 : b ≠ dx := ne_of_none e nd
    have n2 : b ≠ a := ne_of_none e na
    rw [upd_ne n1, del_ne n2, upd_ne n2, upd_ne n1, upd_ne n2]
    exact e
  exact ⟨rfl, dx, [("size", x)], upd_same, by rw [upd_ne ne]; exact upd_same, nd, q _ dx (s1.trans (.of sm)) (tb.ext sm) upd_same⟩
section
variable {P : Program} {w : World} {K : PySem.W.Frag} {mg : Str → Option Value} {base : Heap}
/-- get, by any rule: a place, or NoRoom -/
def spHg (C CN : Addr) (T : List (Addr × Str)) : Sp := fun vs H Q E => ∃ (h l c : Addr) (r : Str) (s : Nat → Nat) (p pg M : Nat) (bs : List Bk) (ss : List Tri) (z : Int), vs = [.ref h, .int z] ∧ HrS C H h l c r s p pg M bs ss ∧ IsRule r ∧ z ∈ tl s (p + 1) ∧ tot bs + z ≤ M ∧ bs.length ≤ 5000 ∧ ss.length ≤ 1000000 ∧ 0 < z ∧ z ≤ 2000 ∧ 1 ≤ s p ∧ s p ≤ 2000 ∧ pg ≤ 2000 ∧ St (tl s (p + 1)) ((pg : Int) * ((s p : Nat) : Int)) bs ∧ LamX.Tabs T H ∧
  (∀ H' cs x, FrN h l H H' → LamX.Tabs T H' → PlcR r ((s p : Nat) : Int) bs (gpf z 0 (bs ++ [((pg : Int) * ((s p : Nat) : Int), 0)])) (.int x) → HrS C H' h l c r s p pg M cs (ss ++ [(("get" : Str), x, z)]) → cs.Perm (bs ++ [(x, z)]) → (cs.Pairwise fun x y => SrtO.lexB y x = false) → Q (.int x) H') ∧
  (gpf z 0 (bs ++ [((pg : Int) * ((s p : Nat) : Int), 0)]) = [] → ∀ H' d, LamX.ExtN H H' → LamX.Tabs T H' → H' d = some (.xd [("size", .int z)]) → E (.ref CN) (some d) H')
theorem okX_Hg {k : Nat} (Z : Fns K mg) (TB : LamX.TabB base mg Z.cPp Z.pPp) {T : List (Addr × Str)} (hT : InT T Z.pPp tkN) : FnOk P w K mg base (L2.CX P w) (k + 1 + 1 + 1 + 1 + 1 + 1) Z.fHg Z.fdHg ["self", "size"] (spHg Z.CHeap Z.CNoRoom T) := by
  have GHk : FnOk P w K mg base CX0 (k + 1 + 1 + 1 + 1) Z.fHk Z.fdHk ["self", "size"] (spHk Z.CHeap) := ok_Hk Z
  have GHe : FnOk P w K mg base CX0 (k + 1 + 1) Z.fHe Z.fdHe ["self", "address", "size"] (spHe Z.CHeap) := ok_He Z
  have GNr : FnOk P w K mg base CX0 (k + 1) Z.fNr Z.fdNr ["self", "size"] (spNr Z.CNoRoom) := ok_Nr Z
  have GPc : FnOk P w K mg base CX0 (k + 1 + 1 + 1 + 1 + 1) Z.fPc Z.fdPc ["rule", "chain", "pages", "state", "size"] (spPc4 T) := ok_Pc4 Z TB hT
  refine Z.FHg.okX scHg (fun vs H Q E h => ?_) (fun cdv A outer s H vs Q E hr h => ?_)
  · obtain ⟨h, l, c, r, s, p, pg, M, bs, ss, z, rfl, _⟩ := h
    rfl
  · obtain ⟨h, l, c, r, sz, p, pg, M, bs, ss, z, rfl, hp, hr4, hz, hM, hl, hn, z0, z1, p0, p1, g1, st, tabs, q, qe⟩ := h
    refine ⟨_, (pss_cons (ps_expr (pe_meth (pv 0) Z.clHeap Z.mHk GHk (hr.mono (by omega)) Z.bHk .nil pass0 (pa_cons (pv 1) pa_nil)))
 (pss_cons (ps_set (i := 2) scHg.nd rfl (.inl rfl) (pe_call GPc (hr.mono (by omega)) (by rfl) Z.gPc Z.FPc.kp Z.bPc .nil pass0 (pa_cons (pe_fld (pv 0) rfl) (pa_cons (pe_fld (pv 0) rfl) (pa_cons (pe_fld (pv 0) rfl) (pa_cons (pe_fld (pv 0) rfl) (pa_cons (pv 1) pa_nil)))))))
 (pss_cons (ps_if (pt_cmpR op_isN (pv 2) pe_non (nomark _))
 (pss_one (ps_raise rfl (takes_of rfl rfl rfl rfl) (pmk_oex Z.oxNoRoom Z.iNr Z.tNr GNr (hr.mono (by omega)) Z.bNr .nil pass0 (by rfl) Z.gcNoRoom (pa_cons (pv 1) pa_nil)))) pss_nil)
 (pss_cons (ps_expr (pe_meth (pv 0) Z.clHeap Z.mHe GHe (hr.mono (by omega)) Z.bHe .nil pass0 (pa_cons (pv 2) (pa_cons (pv 1) pa_nil))))
 (pss_one (ps_ret (pv 2))))))), ?_⟩
    obtain ⟨dx, t, xs, a⟩ := id hp
    refine ⟨.ref h, rfl, h, dx, _, rfl, a.ob, rfl, .int z, rfl, h, l, c, r, sz, p, pg, M, bs, ss, z, rfl, hp, hz, hM, hl, fun H1 s1 => ?_⟩
    have hp1 := hp.same s1
    have ob1 := s1 _ _ a.ob
    refine ⟨.ref h, rfl, h, Z.CHeap, dx, _, _, rfl, ob1, Z.clHeap, Z.naHeap_rule, hr_rule, .ref h, rfl, h, Z.CHeap, dx, _, _, rfl, ob1, Z.clHeap, Z.naHeap_chain, hr_chain, .ref h, rfl, h, Z.CHeap, dx, _, _, rfl, ob1, Z.clHeap, Z.naHeap_pages, hr_pages, .ref h, rfl, h, Z.CHeap, dx, _, _, rfl, ob1, Z.clHeap, Z.naHeap_blocks, hr_blocks, .int z, rfl, ?_⟩
    have et : tl sz (p + 1) = tl sz p ++ [((sz p : Nat) : Int)] := tl_succ _ _
    have ch1 := a.ch.keep s1
    have st0 := st
    rw [et] at ch1 st hz
    refine ⟨r, c, t, tl sz p, ((sz p : Nat) : Int), pg, z, bs, rfl, hr4, ch1, hz, z0, z1, by omega, by omega, by omega, by omega, a.st.same s1, st, hl, tabs.ext s1, fun H2 v x2 tb2 pl => ?_⟩
    have x12 : LamX.ExtN H H2 := LamX.ExtN.trans (.of s1) x2
    rcases pl with ⟨e, rfl⟩ | pl
    · refine ⟨.non, rfl, rfl, _, rfl, ite2 (fun _ => ?_) (fun c => absurd (by simp) c)⟩
      exact ⟨.int z, rfl, (by show 1 ≤ 1000; decide), fun a0 na => nr_out x12 tb2 (qe e) a0 na⟩
    · obtain ⟨x, g, rest, eg, rfl, w⟩ := id pl
      refine ⟨.int x, rfl, rfl, _, rfl, ite2 (fun c => absurd c (by simp)) (fun _ => ?_)⟩
      have hp2 := hp.ext x12
      refine ⟨.ref h, rfl, h, dx, _, rfl, ext_ins x2 ob1, rfl, .int x, rfl, .int z, rfl, h, l, c, r, sz, p, pg, M, bs, ss, x, z, rfl, hp2, hl, hn, fun H3 cs fr hp3 pm srt => ?_⟩
      refine ⟨.int x, rfl, q _ cs x (fun b o n1 n2 e nt => fr _ _ n1 n2 (x12 _ _ e nt)) ?_ (.inr pl) hp3 pm srt⟩
      obtain ⟨dx2, t2, xs2, a2⟩ := id hp2
      exact tabsT_fr tb2 fr a2.ob a2.ls
end
section
variable {P : Program} {w : World} {K : PySem.W.Frag} {mg : Str → Option Value} {base : Heap}
def spUn (C : Addr) : Sp := fun vs H Q _ => ∃ (h l c : Addr) (r : Str) (s : Nat → Nat) (p pg M : Nat) (bs : List Bk) (ss : List Tri) (st : Tri), vs = [.ref h] ∧ HrS C H h l c r s p pg M bs (ss ++ [st]) ∧ bs.length ≤ 5000 ∧
  ((st.1 = "get" ∧ (∃ b ∈ bs, b.1 = st.2.1) ∧ ∀ H', Fr h l H H' → HrS C H' h l c r s p pg M (bs.filter fun b => decide (b.1 ≠ st.2.1)) ss → Q .non H') ∨
   (st.1 = "free" ∧ ∀ H' cs, Fr h l H H' → HrS C H' h l c r s p pg M cs ss → cs.Perm (bs ++ [(st.2.1, st.2.2)]) → (cs.Pairwise fun x y => SrtO.lexB y x = false) → Q .non H'))
theorem ok_Un {k : Nat} (Z : Fns K mg) : FnOk P w K mg base CX0 (k + 1 + 1 + 1 + 1) Z.fUn Z.fdUn ["self"] (spUn Z.CHeap) := by
  have GOb : FnOk P w K mg base CX0 (k + 1 + 1 + 1) Z.fOb Z.fdOb ["state", "address"] (spOb K) := ok_Ob Z
  have GWb : FnOk P w K mg base CX0 (k + 1) Z.fWb Z.fdWb ["state", "address", "size"] spWb := ok_Wb Z
  refine Z.FUn.ok scUn (fun vs H Q E h => ?_) (fun cdv A outer s H vs Q E hr h => ?_)
  · obtain ⟨h, l, c, r, s, p, pg, M, bs, ss, st, rfl, _⟩ := h
    rfl
  · obtain ⟨h, l, c, r, sz, p, pg, M, bs, ss, ⟨w, x, z⟩, rfl, ⟨dx, t, xs, a⟩, hl, q⟩ := h
    refine ⟨_, (pss_cons (ps_if (pt_not (pt_truth (pe_fld (pv 0) rfl) (fun _ => rfl)))
 (pss_one ps_never) pss_nil)
 (pss_cons (ps_asg (pe_bm0 PySem.F.plainAttrs_list PySem.F.slot_list_pop PySem.F.type_list_pop mt_pop (pe_fld (pv 0) rfl)) (pg_tup (by rfl) (pgs_cons (pg_name (i := 1) scUn.nd rfl (.inl rfl)) (pgs_cons (pg_name (i := 2) scUn.nd rfl (.inl rfl)) (pgs_cons (pg_name (i := 3) scUn.nd rfl (.inl rfl)) pgs_nil)))))
 (pss_one (ps_if (pt_cmpR op_eq (pv 1) pe_str (nomark _))
 (pss_one (ps_fld (pv 0) (pe_call GOb (hr.mono (by omega)) (by rfl) Z.gOb Z.FOb.kp Z.bOb .nil pass0 (pa_cons (pe_fld (pv 0) rfl) (pa_cons (pv 2) pa_nil))) rfl)) (pss_one (ps_fld (pv 0) (pe_call GWb (hr.mono (by omega)) (by rfl) Z.gWb Z.FWb.kp Z.bWb .nil pass0 (pa_cons (pe_fld (pv 0) rfl) (pa_cons (pv 2) (pa_cons (pv 3) pa_nil)))) rfl)))))), ?_⟩
    obtain ⟨ys, y, rfl, st1, T, rfl, hT⟩ : ∃ ys y, xs = ys ++ [y] ∧ StL H ys ss ∧ ∃ T, y = V.ref T ∧ H T = some (.tup [.str w, .int x, .int z]) := by
      obtain ⟨ys, y, h1, h2, h3⟩ := paired_snocR a.sl
      exact ⟨ys, y, h1, h2, h3⟩
    refine ⟨.ref h, rfl, h, Z.CHeap, dx, _, _, rfl, a.ob, Z.clHeap, Z.naHeap_steps, hr_steps, true, .inl ⟨_, .inl (.inl a.ls), by simp⟩, ite2 (fun c => absurd c (by decide)) (fun _ => ?_)⟩
    refine ⟨.ref h, rfl, h, Z.CHeap, dx, _, _, rfl, a.ob, Z.clHeap, Z.naHeap_steps, hr_steps, .inl ⟨rfl, _, .inl (.inl a.ls)⟩, l, _, .ref T, rfl, rfl, a.ls, by simp, ?_⟩
    rw [List.dropLast_concat]
    have nlh : l ≠ h := ne_of a.ls a.ob (by intro z; cases z)
    have kp1 : ∀ b o, b ≠ l → H b = some o → upd H l (.lst ys) b = some o := fun b o n e => by rw [upd_ne n]; exact e
    have hT1 := kp1 _ _ (ne_of hT a.ls (by intro z; cases z)) hT
    have ob1 := kp1 _ _ nlh.symm a.ob
    have ls1 : upd H l (.lst ys) l = some (.lst ys) := upd_same
    have st1' := st1.kp fun v us e => kp1 _ _ (ne_of e a.ls (by intro z; cases z)) e
    have bst : StAt (upd H l (.lst ys)) t bs := a.st.mono fun v us e => kp1 _ _ (ne_of e a.ls (by intro z; cases z)) e
    have ch1 : ChAt (upd H l (.lst ys)) c (tl sz (p + 1)) := a.ch.frz fun o u e => kp1 _ _ (ne_of e a.ls (by intro z; cases z)) e
    have fr1 : Fr h l H (upd H l (.lst ys)) := fun b o _ n e => kp1 b o n e
    have ln1 : ys.length ≤ ss.length := Nat.le_of_eq st1.len
    generalize upd H l (.lst ys) = H1 at *
    refine ⟨T, _, rfl, .inl (.inl hT1), rfl, _, _, rfl, _, _, rfl, _, _, rfl, rfl, ?_⟩
    rcases q with ⟨rfl, ex, q⟩ | ⟨rfl, q⟩
    · refine ⟨.str "get", rfl, rfl, _, rfl, ite2 (fun _ => ?_) (fun c => absurd (by decide +kernel) c)⟩
      refine ⟨.ref h, rfl, h, Z.CHeap, dx, _, _, rfl, ob1, Z.clHeap, Z.naHeap_blocks, hr_blocks, .int x, rfl, t, bs, x, rfl, bst, hl, ex, fun H2 u s2 hu => ?_⟩
      have ob2 := s2 _ _ ob1
      refine ⟨.ref h, rfl, h, Z.CHeap, dx, _, rfl, ob2, Z.clHeap, Z.naHeap_blocks, (by show 6 < 1000; decide), ?_⟩
      rw [hr_put]
      have kp : ∀ b o, b ≠ h → H2 b = some o → upd H2 h (.ins Z.CHeap dx (hfr r c pg M u l)) b = some o := fun b o n e => by rw [upd_ne n]; exact e
      refine q _ (fr1.trans (s2.fr.trans fun b o n1 _ e => kp _ _ n1 e)) ⟨dx, u, ys, ⟨upd_same, (ch1.keep s2).frz fun o u e => kp _ _ (ne_of e ob2 (by intro z; cases z)) e, hu.mono fun v us e => kp _ _ (ne_of e ob2 (by intro z; cases z)) e, kp _ _ nlh (s2 _ _ ls1), st1'.kp fun v us e => kp _ _ (ne_of (s2 _ _ e) ob2 (by intro z; cases z)) (s2 _ _ e)⟩⟩
    · refine ⟨.str "free", rfl, rfl, _, rfl, ite2 (fun c => absurd c (by decide +kernel)) (fun _ => ?_)⟩
      refine ⟨.ref h, rfl, h, Z.CHeap, dx, _, _, rfl, ob1, Z.clHeap, Z.naHeap_blocks, hr_blocks, .int x, rfl, .int z, rfl, t, bs, x, z, rfl, bst, hl, fun H2 u cs s2 hu pm srt => ?_⟩
      have ob2 := s2 _ _ ob1
      refine ⟨.ref h, rfl, h, Z.CHeap, dx, _, rfl, ob2, Z.clHeap, Z.naHeap_blocks, (by show 6 < 1000; decide), ?_⟩
      rw [hr_put]
      have kp : ∀ b o, b ≠ h → H2 b = some o → upd H2 h (.ins Z.CHeap dx (hfr r c pg M u l)) b = some o := fun b o n e => by rw [upd_ne n]; exact e
      exact q _ cs (fr1.trans (s2.fr.trans fun b o n1 _ e => kp _ _ n1 e)) ⟨dx, u, ys, ⟨upd_same, (ch1.keep s2).frz fun o u e => kp _ _ (ne_of e ob2 (by intro z; cases z)) e, hu.mono fun v us e => kp _ _ (ne_of e ob2 (by intro z; cases z)) e, kp _ _ nlh (s2 _ _ ls1), st1'.kp fun v us e => kp _ _ (ne_of (s2 _ _ e) ob2 (by intro z; cases z)) (s2 _ _ e)⟩⟩ pm srt
def spLn (C : Addr) : Sp := fun vs H Q _ => ∃ (h l c : Addr) (r : Str) (s : Nat → Nat) (p pg M : Nat) (bs : List Bk) (ss : List Tri), vs = [.ref h] ∧ HrS C H h l c r s p pg M bs ss ∧ Q (.int ((ss.length : Nat) : Int)) H
theorem ok_Ln {k : Nat} (Z : Fns K mg) : FnOk P w K mg base CX0 (k + 1) Z.fLn Z.fdLn ["self"] (spLn Z.CHeap) := by
  refine Z.FLn.ok scLn (fun vs H Q E h => ?_) (fun cdv A outer s H vs Q E hr h => ?_)
  · obtain ⟨h, l, c, r, s, p, pg, M, bs, ss, rfl, _⟩ := h
    rfl
  · obtain ⟨h, l, c, r, sz, p, pg, M, bs, ss, rfl, ⟨dx, t, xs, a⟩, q⟩ := h
    refine ⟨_, (pss_one (ps_ret (pe_callB call_len_seq (by rfl) Z.N.len (by decide +kernel) (pa_cons (pe_fld (pv 0) rfl) pa_nil)))), ?_⟩
    refine ⟨.ref h, rfl, h, Z.CHeap, dx, _, _, rfl, a.ob, Z.clHeap, Z.naHeap_steps, hr_steps, l, _, rfl, .inl (.inl (.inl a.ls)), ?_⟩
    rw [a.sl.len]
    exact q
end
end Ph

set_option maxHeartbeats 8000000
namespace Ph
open PySem PySem.Spec PyProof.Rows L2
section
variable {P : Program} {w : World} {K : PySem.W.Frag} {mg : Str → Option Value} {base : Heap}
def spEw : Sp := fun vs H Q _ => ∃ (t : Tri), vs = [.str t.1, .int t.2.1, .int t.2.2] ∧ GF t ∧ ∀ H' T, Same H H' → H' T = some (.tup (evV t)) → Q (.ref T) H'
theorem ok_Ew {k : Nat} (Z : Fns K mg) : FnOk P w K mg base CX0 (k + 1) Z.fEw Z.fdEw ["word", "address", "size"] spEw := by
  refine Z.FEw.ok scEw (fun vs H Q E h => ?_) (fun cdv A outer s H vs Q E hr h => ?_)
  · obtain ⟨t, rfl, _⟩ := h
    rfl
  · obtain ⟨⟨w, x, z⟩, rfl, gf, q⟩ := h
    refine ⟨_, (pss_cons (ps_if (pt_cmpR op_eq (pv 0) pe_str (nomark _))
 (pss_one (ps_ret (pe_tup (pa_cons pe_str (pa_cons (pv 2) (pa_cons (pv 1) pa_nil)))))) pss_nil)
 (pss_one (ps_ret (pe_tup (pa_cons pe_str (pa_cons (pv 1) pa_nil)))))), ?_⟩
    rcases gf with rfl | rfl
    · refine ⟨.str "get", rfl, rfl, _, rfl, ite2 (fun _ => ?_) (fun c => absurd (by decide +kernel) c)⟩
      refine ⟨.int z, rfl, .int x, rfl, (by show 3 ≤ sizeLine; decide), fun T nT => q _ T (same_upd nT) (by rw [upd_same, evV_get])⟩
    · refine ⟨.str "free", rfl, rfl, _, rfl, ite2 (fun c => absurd c (by decide +kernel)) (fun _ => ?_)⟩
      refine ⟨.int x, rfl, (by show 2 ≤ sizeLine; decide), fun T nT => q _ T (same_upd nT) (by rw [upd_same, evV_free])⟩
def spHh (C : Addr) : Sp := fun vs H Q _ => ∃ (h l c : Addr) (r : Str) (s : Nat → Nat) (p pg M : Nat) (bs : List Bk) (ss : List Tri), vs = [.ref h] ∧ HrS C H h l c r s p pg M bs ss ∧ ss.length ≤ 1000000 ∧ (∀ t ∈ ss, GF t) ∧ ∀ H' u, Same H H' → HisAt H' u ss → Q (.ref u) H'
theorem ok_Hh {k : Nat} (Z : Fns K mg) : FnOk P w K mg base CX0 (k + 1 + 1) Z.fHh Z.fdHh ["self"] (spHh Z.CHeap) := by
  have GEw : FnOk P w K mg base CX0 (k + 1) Z.fEw Z.fdEw ["word", "address", "size"] spEw := ok_Ew Z
  refine Z.FHh.ok scHh (fun vs H Q E h => ?_) (fun cdv A outer s H vs Q E hr h => ?_)
  · obtain ⟨h, l, c, r, s, p, pg, M, bs, ss, rfl, _⟩ := h
    rfl
  · obtain ⟨h, l, c, r, sz, p, pg, M, bs, ss, rfl, ⟨dx, t, xs, a⟩, hn, gf, q⟩ := h
    refine ⟨_, (pss_one (ps_ret (pe_callTy call_tuple_of (by rfl) Z.N.tuple (by decide +kernel) (pa_cons (pe_lc (own := [("word", 1), ("address", 2), ("size", 3)]) (g := (gTup K 3 (gCons (gName 1) (gCons (gName 2) (gCons (gName 3) gNil))))) (tt := tYes) (by rfl) scHh.nd (pi_list (pe_fld (pv 0) rfl)) (blkOk_by (N := scHhN) (sc := defScope scHhS) (by decide +kernel)) (fun _ _ _ _ _ => (pg_tup (by rfl) (pgs_cons (pg_name (i := 1) scHh.nd rfl (.inl rfl)) (pgs_cons (pg_name (i := 2) scHh.nd rfl (.inl rfl)) (pgs_cons (pg_name (i := 3) scHh.nd rfl (.inl rfl)) pgs_nil))))) (fun _ _ _ _ _ => pts_nil) (fun _ _ _ _ _ => (pe_call GEw (hr.mono (by omega)) (by rfl) Z.gEw Z.FEw.kp Z.bEw .nil pass0 (pa_cons (pv 1) (pa_cons (pv 2) (pa_cons (pv 3) pa_nil)))))) pa_nil)))), ?_⟩
    refine ⟨.ref h, rfl, h, Z.CHeap, dx, _, _, rfl, a.ob, Z.clHeap, Z.naHeap_steps, hr_steps, l, rfl, ⟨_, .inl (.inl a.ls)⟩, fun D nD => ?_⟩
    have xl := a.sl.len
    refine lc_R (walk_list (K := K) (a := l) (xs := xs)) (fun _ _ _ _ y => YAt.same y) (fun H6 j y => ∃ t T, ss[j]? = some t ∧ y = V.ref T ∧ H6 T = some (.tup (evV t))) (fun H H' i y hk h => ?_) nD (by rw [xl]; exact Nat.lt_of_le_of_lt hn (by decide)) (fun H6 s6 => .inl (.inl (s6 _ _ a.ls))) (fun j x H6 H7 hj s6 y Z hZ => ?_) (fun H6 vs s6 hD6 pr6 => ?_)
    · obtain ⟨t, T, h1, h2, h3⟩ := h
      exact ⟨t, T, h1, h2, hk _ _ h3⟩
    · obtain ⟨rfl, hx⟩ := y
      obtain ⟨t, ht, T, rfl, hT⟩ := Paired.get a.sl hx
      exact ⟨T, _, rfl, .inl (.inl (s6 _ _ hT)), rfl, _, _, rfl, _, _, rfl, _, _, rfl, rfl, rfl, .str _, rfl, .int _, rfl, .int _, rfl, t, rfl, gf t (List.mem_of_getElem? ht), fun H8 T8 s8 h8 => hZ _ _ s8 ⟨t, T8, ht, rfl, h8⟩⟩
    · refine ⟨D, vs, rfl, .inl ⟨.inl (.inl hD6), fun u nu => ?_⟩⟩
      have su := same_upd (o := .tup vs) nu
      have vl : vs.length = ss.length := by
        have := pr6.length
        rw [List.length_range] at this
        omega
      refine q _ u (s6.trans su) ⟨vs, upd_same, EvL.kp (paired_get' vl fun i y t hy ht => ?_) fun v us e => su _ _ e⟩
      obtain ⟨j, hj, t', T, h1, h2, h3⟩ := Paired.get2 pr6 hy
      obtain ⟨h4, h5⟩ := List.getElem?_eq_some_iff.mp hj
      rw [List.getElem_range] at h5
      subst h5
      rw [ht] at h1
      cases h1
      exact ⟨T, h2, h3⟩
def spMh : Sp := fun vs H Q _ => ∃ (t : Addr) (bs : List Bk) (x z : Int), vs = [.ref t, .int x, .int z] ∧ StAt H t bs ∧ bs.length ≤ 5000 ∧ 0 < z ∧ 0 ≤ x ∧ x % z = 0 ∧ (∀ b ∈ bs, b.1 + b.2 ≤ x ∨ x + z ≤ b.1) ∧ ∀ H', Same H H' → Q (.bl true) H'
theorem ok_Mh {k : Nat} (Z : Fns K mg) : FnOk P w K mg base CX0 (k + 1 + 1) Z.fMh Z.fdMh ["state", "address", "size"] spMh := by
  have GI : FnOk P w K mg base CX0 (k + 1) Z.fI Z.fdI ["value"] spI := ok_I Z
  refine Z.FMh.ok scMh (fun vs H Q E h => ?_) (fun cdv A outer s H vs Q E hr h => ?_)
  · obtain ⟨t, bs, x, z, rfl, _⟩ := h
    rfl
  · obtain ⟨t, bs, x, z, rfl, ⟨xs, ht, bl⟩, hl, z0, x0, xm, ap, q⟩ := h
    refine ⟨_, (pss_cons (ps_if (PW.pt (pw_or (pt_not (pt_val (pe_call GI (hr.mono (by omega)) (by rfl) Z.gI Z.FI.kp Z.bI .nil pass0 (pa_cons (pv 1) pa_nil)))) (pw_or (pt_cmpR op_lt (pv 1) pe_int (nomark _)) (pw_or1 (pt_cmpR op_ne (pe_op op_mod (pv 1) (pv 2)) pe_int (nomark _))))))
 (pss_one (ps_ret pe_bl)) pss_nil)
 (pss_one (ps_ret (pe_callB (cr_all rfl) (by rfl) Z.N.all (by decide +kernel) (pa_cons (pe_lc (own := [("start", 3), ("taken", 4)]) (g := (gTup K 2 (gCons (gName 3) (gCons (gName 4) gNil)))) (tt := tYes) (by rfl) scMh.nd (pi_tup (pv 0)) (blkOk_by (N := scMhN) (sc := defScope scMhS) (by decide +kernel)) (fun _ _ _ _ _ => (pg_tup (by rfl) (pgs_cons (pg_name (i := 3) scMh.nd rfl (.inl rfl)) (pgs_cons (pg_name (i := 4) scMh.nd rfl (.inl rfl)) pgs_nil)))) (fun _ _ _ _ _ => pts_nil) (fun _ _ _ _ _ => (pe_or (pe_cmpR op_le (pe_op op_add (pv 3) (pv 4)) (pv 1) (nomark _)) (pe_one (pe_cmpR op_le (pe_op op_add (pv 1) (pv 2)) (pv 3) (nomark _)))))) pa_nil))))), ?_⟩
    refine ⟨.int x, rfl, x, rfl, _, rfl, ite2 (fun c => absurd c (by decide)) (fun _ => ?_)⟩
    refine ⟨.int x, rfl, _, _, rfl, rfl, _, rfl, ite2 (fun c => absurd (of_decide_eq_true c) (by omega)) (fun _ => ?_)⟩
    refine ⟨.int x, rfl, .int z, rfl, _, _, rfl, rfl, z0, rfl, _, rfl, ite2 (fun c => absurd c (by simp [xm])) (fun _ => ?_)⟩
    refine ⟨.ref t, rfl, t, rfl, ⟨_, .inl (.inl ht)⟩, fun D nD => ?_⟩
    refine lc_R (walk_tup (K := K) (a := t) (xs := xs)) (fun _ _ _ _ y => YAt.same y) (fun _ _ y => y = .bl true) (fun _ _ _ _ _ h => h) nD (by rw [bl.len]; exact Nat.lt_of_le_of_lt hl (by decide)) (fun H4 s4 => .inl (.inl (s4 _ _ ht))) (fun j y H4 H5 hj s4 yy Z hZ => ?_) (fun H4 zs s4 hE pr => ?_)
    · obtain ⟨rfl, hx⟩ := yy
      obtain ⟨b, hb, u, rfl, hu⟩ := BL.get bl hx
      refine ⟨u, _, rfl, .inl (.inl (s4 _ _ hu)), rfl, _, _, rfl, _, _, rfl, rfl, rfl, ?_⟩
      have ab := ap b (List.mem_of_getElem? hb)
      refine ⟨.int b.1, rfl, .int b.2, rfl, _, _, rfl, rfl, .int x, rfl, _, _, rfl, rfl, _, rfl, ite2 (fun _ => hZ _ _ (Same.refl _) rfl) (fun c => ?_)⟩
      have c' : ¬ (b.1 + b.2 ≤ x) := fun h => c (decide_eq_true h)
      refine ⟨.int x, rfl, .int z, rfl, _, _, rfl, rfl, .int b.1, rfl, _, _, rfl, rfl, hZ _ _ (Same.refl _) ?_⟩
      dsimp only
      rw [decide_eq_true (by omega)]
    · rw [paired_eq pr] at hE
      have allT : ((List.range xs.length).map fun _ => true).all id = true := by
        rw [List.all_map]
        exact List.all_eq_true.mpr fun _ _ => rfl
      refine ⟨D, (List.range xs.length).map fun _ => true, rfl, by rw [List.map_map]; exact .inl (.inl hE), ?_⟩
      rw [allT]
      exact q _ s4
def spIp : Sp := fun vs H Q _ => ∃ (c t : Addr) (C : List Int) (L m : Int) (bs : List Bk) (x z : Int), vs = [.ref c, .int m, .ref t, .int x, .int z] ∧ ChAt H c (C ++ [L]) ∧ 0 ≤ m ∧ m ≤ 100000 ∧ StAt H t bs ∧ bs.length ≤ 5000 ∧ 0 < z ∧ 0 ≤ x ∧ x % z = 0 ∧ (∀ b ∈ bs, b.1 + b.2 ≤ x ∨ x + z ≤ b.1) ∧ x + z ≤ m * L ∧ ∀ H', Same H H' → Q (.bl true) H'
theorem ok_Ip {k : Nat} (Z : Fns K mg) : FnOk P w K mg base CX0 (k + 1 + 1 + 1) Z.fIp Z.fdIp ["chain", "pages", "state", "address", "size"] spIp := by
  have GMh : FnOk P w K mg base CX0 (k + 1 + 1) Z.fMh Z.fdMh ["state", "address", "size"] spMh := ok_Mh Z
  refine Z.FIp.ok scIp (fun vs H Q E h => ?_) (fun cdv A outer s H vs Q E hr h => ?_)
  · obtain ⟨c, t, C, L, m, bs, x, z, rfl, _⟩ := h
    rfl
  · obtain ⟨c, t, C, L, m, bs, x, z, rfl, hc, m0, m1, ht, hl, z0, x0, xm, ap, xW, q⟩ := h
    refine ⟨_, (pss_one (ps_ret (pe_and (pe_call GMh (hr.mono (by omega)) (by rfl) Z.gMh Z.FMh.kp Z.bMh .nil pass0 (pa_cons (pv 2) (pa_cons (pv 3) (pa_cons (pv 4) pa_nil)))) (pe_one (pe_cmpR op_le (pe_op op_add (pv 3) (pv 4)) (pe_op op_mul (pv 1) (pe_ix ix_tup (pv 0) (pe_un un_neg pe_int) (fun _ _ => rfl))) (nomark _)))))), ?_⟩
    have gl : atI ((C ++ [L]).map V.int) (-1) = some (.int L) := by
      rw [List.map_append]
      exact atI_last _ _
    refine ⟨.ref t, rfl, .int x, rfl, .int z, rfl, t, bs, x, z, rfl, ht, hl, z0, x0, xm, ap, fun H1 s1 => ⟨_, rfl, ite2 (fun _ => ?_) (fun c => absurd rfl c)⟩⟩
    refine ⟨.int x, rfl, .int z, rfl, _, _, rfl, rfl, .int m, rfl, .ref c, rfl, 1, rfl, c, _, -1, _, rfl, rfl, (hc.keep s1).sq, gl, m, L, rfl, rfl, .inl ⟨by omega, by omega⟩, _, _, rfl, rfl, ?_⟩
    dsimp only
    rw [decide_eq_true xW]
    exact q _ s1
def spPt (C : Addr) : Sp := fun vs H Q _ => ∃ (h l c : Addr) (r : Str) (s : Nat → Nat) (p pg M : Nat) (bs : List Bk) (ss : List Tri) (x z : Int), vs = [.ref h, .int x, .int z] ∧ HrS C H h l c r s p pg M bs ss ∧ z ∈ tl s (p + 1) ∧ tot bs + z ≤ M ∧ bs.length ≤ 5000 ∧ ss.length ≤ 1000000 ∧ 0 < z ∧ pg ≤ 2000 ∧ 0 ≤ x ∧ x % z = 0 ∧ (∀ b ∈ bs, b.1 + b.2 ≤ x ∨ x + z ≤ b.1) ∧ x + z ≤ (pg : Int) * ((s p : Nat) : Int) ∧
  ∀ H' cs, Fr h l H H' → HrS C H' h l c r s p pg M cs (ss ++ [(("get" : Str), x, z)]) → cs.Perm (bs ++ [(x, z)]) → (cs.Pairwise fun x y => SrtO.lexB y x = false) → Q .non H'
theorem ok_Pt {k : Nat} (Z : Fns K mg) : FnOk P w K mg base CX0 (k + 1 + 1 + 1 + 1 + 1) Z.fPt Z.fdPt ["self", "address", "size"] (spPt Z.CHeap) := by
  have GHk : FnOk P w K mg base CX0 (k + 1 + 1 + 1 + 1) Z.fHk Z.fdHk ["self", "size"] (spHk Z.CHeap) := ok_Hk Z
  have GHe : FnOk P w K mg base CX0 (k + 1 + 1) Z.fHe Z.fdHe ["self", "address", "size"] (spHe Z.CHeap) := ok_He Z
  have GIp : FnOk P w K mg base CX0 (k + 1 + 1 + 1) Z.fIp Z.fdIp ["chain", "pages", "state", "address", "size"] spIp := ok_Ip Z
  refine Z.FPt.ok scPt (fun vs H Q E h => ?_) (fun cdv A outer s H vs Q E hr h => ?_)
  · obtain ⟨h, l, c, r, s, p, pg, M, bs, ss, x, z, rfl, _⟩ := h
    rfl
  · obtain ⟨h, l, c, r, sz, p, pg, M, bs, ss, x, z, rfl, hp, hz, hM, hl, hn, z0, g1, x0, xm, ap, xW, q⟩ := h
    refine ⟨_, (pss_cons (ps_expr (pe_meth (pv 0) Z.clHeap Z.mHk GHk (hr.mono (by omega)) Z.bHk .nil pass0 (pa_cons (pv 2) pa_nil)))
 (pss_cons (ps_if (pt_not (pt_val (pe_call GIp (hr.mono (by omega)) (by rfl) Z.gIp Z.FIp.kp Z.bIp .nil pass0 (pa_cons (pe_fld (pv 0) rfl) (pa_cons (pe_fld (pv 0) rfl) (pa_cons (pe_fld (pv 0) rfl) (pa_cons (pv 1) (pa_cons (pv 2) pa_nil))))))))
 (pss_one ps_never) pss_nil)
 (pss_one (ps_expr (pe_meth (pv 0) Z.clHeap Z.mHe GHe (hr.mono (by omega)) Z.bHe .nil pass0 (pa_cons (pv 1) (pa_cons (pv 2) pa_nil))))))), ?_⟩
    obtain ⟨dx, t, xs, a⟩ := id hp
    refine ⟨.ref h, rfl, h, dx, _, rfl, a.ob, rfl, .int z, rfl, h, l, c, r, sz, p, pg, M, bs, ss, z, rfl, hp, hz, hM, hl, fun H1 s1 => ?_⟩
    have hp1 := hp.same s1
    have ob1 := s1 _ _ a.ob
    have et : tl sz (p + 1) = tl sz p ++ [((sz p : Nat) : Int)] := tl_succ _ _
    have ch1 := a.ch.keep s1
    rw [et] at ch1
    refine ⟨.ref h, rfl, h, Z.CHeap, dx, _, _, rfl, ob1, Z.clHeap, Z.naHeap_chain, hr_chain, .ref h, rfl, h, Z.CHeap, dx, _, _, rfl, ob1, Z.clHeap, Z.naHeap_pages, hr_pages, .ref h, rfl, h, Z.CHeap, dx, _, _, rfl, ob1, Z.clHeap, Z.naHeap_blocks, hr_blocks, .int x, rfl, .int z, rfl, c, t, tl sz p, ((sz p : Nat) : Int), pg, bs, x, z, rfl, ch1, by omega, by omega, a.st.same s1, hl, z0, x0, xm, ap, xW, fun H2 s2 => ⟨_, rfl, ite2 (fun c => absurd c (by decide)) (fun _ => ?_)⟩⟩
    refine ⟨.ref h, rfl, h, dx, _, rfl, s2 _ _ ob1, rfl, .int x, rfl, .int z, rfl, h, l, c, r, sz, p, pg, M, bs, ss, x, z, rfl, hp1.same s2, hl, hn, fun H3 cs fr hp3 pm srt => ?_⟩
    exact q _ cs ((s1.trans s2).fr.trans fr) hp3 pm srt
def spFe : Sp := fun vs H Q _ => ∃ (T : Addr) (t : Tri), vs = [.ref T] ∧ H T = some (.tup (evV t)) ∧ GF t ∧ Q (.bl true) H
theorem ok_Fe {k : Nat} (Z : Fns K mg) : FnOk P w K mg base CX0 (k + 1) Z.fFe Z.fdFe ["value"] spFe := by
  refine Z.FFe.ok scFe (fun vs H Q E h => ?_) (fun cdv A outer s H vs Q E hr h => ?_)
  · obtain ⟨T, t, rfl, _⟩ := h
    rfl
  · obtain ⟨T, ⟨w, x, z⟩, rfl, hT, gf, q⟩ := h
    refine ⟨_, (pss_cons (ps_if (pt_not (pt_val (pe_callB call_isi (by rfl) Z.N.isinstance (by decide +kernel) (pa_cons (pv 0) (pa_cons (pe_bltn (v := .ty "tuple") (by rfl) Z.N.tuple (by decide +kernel) rfl) pa_nil)))))
 (pss_one (ps_ret pe_bl)) pss_nil)
 (pss_one (ps_ret (pe_or (pe_and (pe_cmpR op_eq (pe_callB call_len_seq (by rfl) Z.N.len (by decide +kernel) (pa_cons (pv 0) pa_nil)) pe_int (nomark _)) (pe_one (pe_cmpR op_eq (pe_ix ix_tup (pv 0) pe_int (fun _ _ => rfl)) pe_str (nomark _)))) (pe_one (pe_and (pe_cmpR op_eq (pe_callB call_len_seq (by rfl) Z.N.len (by decide +kernel) (pa_cons (pv 0) pa_nil)) pe_int (nomark _)) (pe_one (pe_cmpR op_eq (pe_ix ix_tup (pv 0) pe_int (fun _ _ => rfl)) pe_str (nomark _))))))))), ?_⟩
    refine ⟨.ref T, rfl, .ref T, .ty "tuple", .type "tuple", .type "tuple", true, rfl, .ty _, .base (.tup hT), kit_ty (by decide +kernel), _, rfl, ite2 (fun c => absurd c (by decide)) (fun _ => ?_)⟩
    rcases gf with rfl | rfl
    · rw [evV_get] at hT
      refine ⟨.ref T, rfl, T, _, rfl, .inr (.inl (.inl hT)), rfl, _, rfl, ite2 (fun _ => ?_) (fun c => absurd (decide_eq_true rfl) c)⟩
      exact ⟨.ref T, rfl, T, _, 0, _, rfl, rfl, .inl (.inl hT), atI_nat (j := 0) rfl, rfl, _, rfl, ite2 (fun _ => q) (fun c => absurd (by decide +kernel) c)⟩
    · rw [evV_free] at hT
      refine ⟨.ref T, rfl, T, _, rfl, .inr (.inl (.inl hT)), rfl, _, rfl, ite2 (fun c => absurd c (by simp)) (fun _ => ⟨_, rfl, ite2 (fun c => absurd c (by decide)) (fun _ => ?_)⟩)⟩
      refine ⟨.ref T, rfl, T, _, rfl, .inr (.inl (.inl hT)), rfl, _, rfl, ite2 (fun _ => ?_) (fun c => absurd (decide_eq_true rfl) c)⟩
      refine ⟨.ref T, rfl, T, _, 0, _, rfl, rfl, .inl (.inl hT), atI_nat (j := 0) rfl, rfl, ?_⟩
      have e : (decide ((V.str ("free" : Str)) = V.str "free")) = true := by decide +kernel
      rw [e]
      exact q
def spRe (C : Addr) : Sp := fun vs H Q _ => ∃ (h T l c : Addr) (r : Str) (s : Nat → Nat) (p pg M : Nat) (bs : List Bk) (ss : List Tri) (t : Tri), vs = [.ref h, .ref T] ∧ H T = some (.tup (evV t)) ∧ HrS C H h l c r s p pg M bs ss ∧ bs.length ≤ 5000 ∧ ss.length ≤ 1000000 ∧ pg ≤ 2000 ∧
  ((t.1 = "get" ∧ t.2.2 ∈ tl s (p + 1) ∧ tot bs + t.2.2 ≤ M ∧ 0 < t.2.2 ∧ 0 ≤ t.2.1 ∧ t.2.1 % t.2.2 = 0 ∧ (∀ b ∈ bs, b.1 + b.2 ≤ t.2.1 ∨ t.2.1 + t.2.2 ≤ b.1) ∧ t.2.1 + t.2.2 ≤ (pg : Int) * ((s p : Nat) : Int) ∧
    ∀ H' cs, Fr h l H H' → HrS C H' h l c r s p pg M cs (ss ++ [t]) → cs.Perm (bs ++ [(t.2.1, t.2.2)]) → (cs.Pairwise fun x y => SrtO.lexB y x = false) → Q .non H') ∨
   (t.1 = "free" ∧ (∃ b ∈ bs, b.1 = t.2.1) ∧ ∀ H', Fr h l H H' → HrS C H' h l c r s p pg M (bs.filter fun b => decide (b.1 ≠ t.2.1)) (ss ++ [(("free" : Str), t.2.1, tot bs - tot (bs.filter fun b => decide (b.1 ≠ t.2.1)))]) → Q .non H'))
theorem ok_Re {k : Nat} (Z : Fns K mg) : FnOk P w K mg base CX0 (k + 1 + 1 + 1 + 1 + 1 + 1) Z.fRe Z.fdRe ["heap", "event"] (spRe Z.CHeap) := by
  have GPt : FnOk P w K mg base CX0 (k + 1 + 1 + 1 + 1 + 1) Z.fPt Z.fdPt ["self", "address", "size"] (spPt Z.CHeap) := ok_Pt Z
  have GHf : FnOk P w K mg base CX0 (k + 1 + 1 + 1 + 1) Z.fHf Z.fdHf ["self", "address"] (spHf Z.CHeap) := ok_Hf Z
  refine Z.FRe.ok scRe (fun vs H Q E h => ?_) (fun cdv A outer s H vs Q E hr h => ?_)
  · obtain ⟨h, T, l, c, r, s, p, pg, M, bs, ss, t, rfl, _⟩ := h
    rfl
  · obtain ⟨h, T, l, c, r, sz, p, pg, M, bs, ss, ⟨w, x, z⟩, rfl, hT, hp, hl, hn, g1, q⟩ := h
    refine ⟨_, (pss_one (ps_if (pt_cmpR op_eq (pe_ix ix_tup (pv 1) pe_int (fun _ _ => rfl)) pe_str (nomark _))
 (pss_one (ps_expr (pe_meth (pv 0) Z.clHeap Z.mPt GPt (hr.mono (by omega)) Z.bPt .nil pass0 (pa_cons (pe_ix ix_tup (pv 1) pe_int (fun _ _ => rfl)) (pa_cons (pe_ix ix_tup (pv 1) pe_int (fun _ _ => rfl)) pa_nil))))) (pss_one (ps_expr (pe_meth (pv 0) Z.clHeap Z.mHf GHf (hr.mono (by omega)) Z.bHf .nil pass0 (pa_cons (pe_ix ix_tup (pv 1) pe_int (fun _ _ => rfl)) pa_nil)))))), ?_⟩
    obtain ⟨dx, t, xs, a⟩ := id hp
    rcases q with ⟨rfl, hz, hM, z0, x0, xm, ap, xW, q⟩ | ⟨rfl, hb, q⟩
    · rw [evV_get] at hT
      refine ⟨.ref T, rfl, T, _, 0, _, rfl, rfl, .inl (.inl hT), atI_nat (j := 0) rfl, rfl, _, rfl, ite2 (fun _ => ?_) (fun c => absurd (by decide +kernel) c)⟩
      refine ⟨.ref h, rfl, h, dx, _, rfl, a.ob, rfl, .ref T, rfl, T, _, 2, _, rfl, rfl, .inl (.inl hT), atI_nat (j := 2) rfl, .ref T, rfl, T, _, 1, _, rfl, rfl, .inl (.inl hT), atI_nat (j := 1) rfl, h, l, c, r, sz, p, pg, M, bs, ss, x, z, rfl, hp, hz, hM, hl, hn, z0, g1, x0, xm, ap, xW, fun H' cs fr hp' pm srt => q H' cs fr hp' pm srt⟩
    · rw [evV_free] at hT
      refine ⟨.ref T, rfl, T, _, 0, _, rfl, rfl, .inl (.inl hT), atI_nat (j := 0) rfl, rfl, _, rfl, ite2 (fun c => absurd c (by decide +kernel)) (fun _ => ?_)⟩
      refine ⟨.ref h, rfl, h, dx, _, rfl, a.ob, rfl, .ref T, rfl, T, _, 1, _, rfl, rfl, .inl (.inl hT), atI_nat (j := 1) rfl, h, l, c, r, sz, p, pg, M, bs, ss, x, rfl, hp, hl, hn, hb, fun H' fr hp' => q H' fr hp'⟩
end

section
variable {P : Program} {w : World} {K : PySem.W.Frag} {mg : Str → Option Value} {base : Heap}
def spRy (C : Addr) : Sp := fun vs H Q _ => ∃ (c u : Addr) (s : Nat → Nat) (p pg M m : Nat) (ss : List Tri) (bs : List Bk), vs = [.ref c, .int pg, .int M, .ref u] ∧ ChAt H c (tl s (p + 1)) ∧ Cn s p m ∧ m ≤ 1000000000 ∧ p ≤ 11 ∧ pg ≤ 2000 ∧ M ≤ 5000 ∧ HisAt H u ss ∧ ss.length ≤ 100000 ∧ Hw s p ((pg : Int) * ((s p : Nat) : Int)) M ss.reverse bs ∧
  ∀ H' h l, Same H H' → H h = none → H l = none → HrS C H' h l c "lowest" s p pg M bs ss → Q (.ref h) H'
theorem ok_Ry {k : Nat} (Z : Fns K mg) : FnOk P w K mg base CX0 (k + 1 + 1 + 1 + 1 + 1 + 1 + 1) Z.fRy Z.fdRy ["chain", "pages", "limit", "history"] (spRy Z.CHeap) := by
  have GHi : FnOk P w K mg base CX0 (k + 1 + 1 + 1) Z.fHi Z.fdHi ["self", "chain", "pages", "limit", "rule"] (spHi Z.CHeap) := ok_Hi Z
  have GFe : FnOk P w K mg base CX0 (k + 1) Z.fFe Z.fdFe ["value"] spFe := ok_Fe Z
  have GRe : FnOk P w K mg base CX0 (k + 1 + 1 + 1 + 1 + 1 + 1) Z.fRe Z.fdRe ["heap", "event"] (spRe Z.CHeap) := ok_Re Z
  obtain ⟨dsHi, vHi, bHi⟩ := Z.bHi
  refine Z.FRy.ok scRy (fun vs H Q E h => ?_) (fun cdv A outer s H vs Q E hr h => ?_)
  · obtain ⟨c, u, s, p, pg, M, m, ss, bs, rfl, _⟩ := h
    rfl
  · obtain ⟨c, u, sz, p, pg, M, m, ss, bs, rfl, hc, cn, m9, p4, g1, M1, ⟨ys, hu, ev⟩, sl, hm, q⟩ := h
    refine ⟨_, (pss_cons (ps_if (pt_not (pt_val (pe_callB call_isi (by rfl) Z.N.isinstance (by decide +kernel) (pa_cons (pv 3) (pa_cons (pe_bltn (v := .ty "tuple") (by rfl) Z.N.tuple (by decide +kernel) rfl) pa_nil)))))
 (pss_one ps_never) pss_nil)
 (pss_cons (ps_set (i := 4) scRy.nd rfl (.inl rfl) (pe_make Z.MHi GHi (hr.mono (by omega)) (by rfl) Z.gcHeap bHi vHi pass0 (pa_cons (pv 0) (pa_cons (pv 1) (pa_cons (pv 2) pa_nil)))))
 (pss_cons (ps_for PassesOwn.never rfl (pi_enumK (k := true) (by rfl) Z.N.enumerate (pa_cons (pv 3) pa_nil)) (pg_tup (by rfl) (pgs_cons (pg_name (i := 5) scRy.nd rfl (.inl rfl)) (pgs_cons (pg_name (i := 6) scRy.nd rfl (.inl rfl)) pgs_nil)))
 (pss_cons (ps_if (pt_not (pt_val (pe_call GFe (hr.mono (by omega)) (by rfl) Z.gFe Z.FFe.kp Z.bFe .nil pass0 (pa_cons (pv 6) pa_nil))))
 (pss_one ps_never) pss_nil)
 (pss_one (ps_try_thru0 (pss_one (ps_expr (pe_call GRe (hr.mono (by omega)) (by rfl) Z.gRe Z.FRe.kp Z.bRe .nil pass0 (pa_cons (pv 4) (pa_cons (pv 6) pa_nil)))))))))
 (pss_one (ps_ret (pv 4)))))), ?_⟩
    have ch := cn.ch
    refine ⟨.ref u, rfl, .ref u, .ty "tuple", .type "tuple", .type "tuple", true, rfl, .ty _, .base (.tup hu), kit_ty (by decide +kernel), _, rfl, ite2 (fun c => absurd c (by decide)) (fun _ => ?_)⟩
    refine ⟨.ref c, rfl, .int pg, rfl, .int M, rfl, fun h dx nh ndx nex => ?_⟩
    have s1 : Same H (upd (upd H dx (.own h)) h (.ins Z.CHeap dx [])) := fun b o e => by
      rw [upd_ne (ne_of_none e nh), upd_ne (ne_of_none e ndx)]
      exact e
    refine ⟨h, c, dx, "lowest", sz, p, m, pg, M, rfl, .inl rfl, upd_same, hc.keep s1, cn, m9, by omega, fun H2 l fr2 nl2 hp2 => ⟨rfl, ?_⟩⟩
    have nl : H l = none := none_of_same s1 nl2
    have s2 : Same H H2 := fun b o e => fr2 _ _ (ne_of_none e nh) (ne_of_none e nl) (s1 _ _ e)
    have yl : ys.length = ss.length := ev.length
    refine ⟨.ref u, rfl, u, _, rfl, .inl (.inl (s2 _ _ hu)), ?_⟩
    refine for_it (walk_enumK (k := true) (K := K) (a := u) (xs := ys)) (fun i σ H3 => ∃ y5 y6 bi, σ = [some (.ref c), some (.int pg), some (.int M), some (.ref u), some (.ref h), y5, y6] ∧ Same H H3 ∧ HrS Z.CHeap H3 h l c "lowest" sz p pg M bi (ss.take i) ∧ Hw sz p ((pg : Int) * ((sz p : Nat) : Int)) M (ss.take i).reverse bi)
      ⟨none, none, [], rfl, s2, hp2, .nil⟩ (fun i σ H3 _ p => ?_) ?_ ?_
    · obtain ⟨_, _, _, _, s3, _⟩ := p
      exact .inl (.inl (s3 _ _ hu))
    · rintro i x σ H0 H3 hi ⟨y5, y6, bi, rfl, s3, hp3, hm3⟩ y
      obtain ⟨R, x1, x2, rfl, nR, rfl, e1, e2⟩ := y
      cases e1
      have e2' : ys[i]? = some x2 := e2
      obtain ⟨t, ht, E, rfl, hE⟩ := Paired.get ev e2'
      have sR := same_upd (o := .tup [.int (i : Nat), .ref E]) nR
      have hR : upd H0 R (.tup [.int (i : Nat), .ref E]) R = some (.tup [.int (i : Nat), .ref E]) := upd_same
      have s4 := s3.trans sR
      have hp4 := hp3.same sR
      generalize upd H0 R (.tup [.int (i : Nat), .ref E]) = H4 at *
      refine ⟨R, _, rfl, .inl (.inl hR), rfl, _, _, rfl, _, _, rfl, rfl, ?_⟩
      have hE4 := s4 _ _ hE
      have len := hm3.len ch
      have tkl : (ss.take i).length ≤ 1000000 := by rw [List.length_take]; omega
      have etk : ss.take (i + 1) = ss.take i ++ [t] := by rw [List.take_add_one, ht]; rfl
      have kp : ∀ {H5 : Hp}, Fr h l H4 H5 → Same H H5 := fun fr b o e => fr _ _ (ne_of_none e nh) (ne_of_none e nl) (s4 _ _ e)
      rcases hm.step ch ht hm3 with ⟨j, x, cs, hj, rfl, hM, sp, pm, srt, hm4⟩ | ⟨e, he, rfl, hm4⟩
      · have z0 := ch.pos (i := j) (by omega)
        refine ⟨.ref E, rfl, E, _, rfl, hE4, .inl rfl, _, rfl, ite2 (fun c => absurd c (by decide)) (fun _ => ?_)⟩
        refine ⟨.ref h, rfl, .ref E, rfl, h, E, l, c, "lowest", sz, p, pg, M, bi, _, _, rfl, hE4, hp4, by omega, tkl, g1, .inl ⟨rfl, tl_mem.mpr ⟨j, by omega, rfl⟩, hM, by dsimp only; omega, sp.pos, sp.mod, fun b hb => (sp.free b hb).symm, sp.fit, fun H5 cs' fr5 hp5 pm5 srt5 => ?_⟩⟩
        have ec : cs' = cs := perm_lex (pm5.trans pm.symm) srt5 srt
        subst ec
        rw [← etk] at hp5
        exact ⟨_, _, cs', rfl, kp fr5, hp5, hm4⟩
      · refine ⟨.ref E, rfl, E, _, rfl, hE4, .inr rfl, _, rfl, ite2 (fun c => absurd c (by decide)) (fun _ => ?_)⟩
        refine ⟨.ref h, rfl, .ref E, rfl, h, E, l, c, "lowest", sz, p, pg, M, bi, _, _, rfl, hE4, hp4, by omega, tkl, g1, .inr ⟨rfl, ⟨e, he, rfl⟩, fun H5 fr5 hp5 => ?_⟩⟩
        have tf : tot bi - tot (bi.filter fun b => decide (b.1 ≠ e.1)) = e.2 := HW.tt_filt (hm3.st ch) he
        dsimp only at hp5
        rw [tf, ← etk] at hp5
        exact ⟨_, _, _, rfl, kp fr5, hp5, hm4⟩
    · rintro σ H3 ⟨y5, y6, bi, rfl, s3, hp3, hm3⟩
      rw [List.take_of_length_le (by omega)] at hm3 hp3
      obtain rfl := hm3.uniq ch hm
      exact ⟨.ref h, rfl, q _ h l s3 nh nl hp3⟩
end
end Ph

set_option maxHeartbeats 8000000
namespace Ph
open PySem PySem.Spec PyProof.Rows L2
/-- a heap and its history -/
structure GX (C : Addr) (H : Hp) (h l c : Addr) (r : Str) (s : Nat → Nat) (p pg M : Nat) (bs : List Bk) (ss : List Tri) : Prop where
  hp : HrS C H h l c r s p pg M bs ss
  hw : Hw s p ((pg : Int) * ((s p : Nat) : Int)) M ss.reverse bs
theorem GX.ext {C : Addr} {H H' : Hp} {h l c : Addr} {r : Str} {s : Nat → Nat} {p pg M : Nat} {bs : List Bk} {ss : List Tri} (g : GX C H h l c r s p pg M bs ss) (x : LamX.ExtN H H') : GX C H' h l c r s p pg M bs ss := ⟨g.hp.ext x, g.hw⟩
theorem GX.same {C : Addr} {H H' : Hp} {h l c : Addr} {r : Str} {s : Nat → Nat} {p pg M : Nat} {bs : List Bk} {ss : List Tri} (g : GX C H h l c r s p pg M bs ss) (x : Same H H') : GX C H' h l c r s p pg M bs ss := ⟨g.hp.same x, g.hw⟩
theorem frN_of {h l : Addr} {H H' : Hp} (f : Fr h l H H') : FrN h l H H' := fun b o n1 n2 e _ => f b o n1 n2 e
theorem GX.bnds {C : Addr} {H : Hp} {h l c : Addr} {r : Str} {s : Nat → Nat} {p pg M : Nat} {bs : List Bk} {ss : List Tri} (g : GX C H h l c r s p pg M bs ss) (ch : CH s (p + 1)) : St (tl s (p + 1)) ((pg : Int) * ((s p : Nat) : Int)) bs ∧ bs.length ≤ M ∧ tot bs ≤ M := ⟨g.hw.st ch, g.hw.len ch, g.hw.tot ch⟩
theorem GX.put {C : Addr} {H H' : Hp} {h l c : Addr} {r : Str} {s : Nat → Nat} {p pg M : Nat} {bs cs : List Bk} {ss : List Tri} {j : Nat} {x : Int} (g : GX C H h l c r s p pg M bs ss) (hj : j ≤ p) (lim : tot bs + ((s j : Nat) : Int) ≤ M) (sp : Spt ((s j : Nat) : Int) bs ((pg : Int) * ((s p : Nat) : Int)) x) (hp : HrS C H' h l c r s p pg M cs (ss ++ [(("get" : Str), x, ((s j : Nat) : Int))])) (pm : cs.Perm (bs ++ [(x, ((s j : Nat) : Int))])) (srt : cs.Pairwise fun x y => SrtO.lexB y x = false) :
    GX C H' h l c r s p pg M cs (ss ++ [(("get" : Str), x, ((s j : Nat) : Int))]) := ⟨hp, by
  rw [List.reverse_append]
  exact .get g.hw hj lim sp pm srt⟩
theorem GX.free {C : Addr} {H H' : Hp} {h l c : Addr} {r : Str} {s : Nat → Nat} {p pg M : Nat} {bs : List Bk} {ss : List Tri} {e : Bk} (ch : CH s (p + 1)) (g : GX C H h l c r s p pg M bs ss) (he : e ∈ bs) (hp : HrS C H' h l c r s p pg M (bs.filter fun b => decide (b.1 ≠ e.1)) (ss ++ [(("free" : Str), e.1, tot bs - tot (bs.filter fun b => decide (b.1 ≠ e.1)))])) :
    GX C H' h l c r s p pg M (bs.filter fun b => decide (b.1 ≠ e.1)) (ss ++ [(("free" : Str), e.1, e.2)]) := by
  have e1 : tot bs - tot (bs.filter fun b => decide (b.1 ≠ e.1)) = e.2 := HW.tt_filt (g.hw.st ch) he
  rw [e1] at hp
  refine ⟨hp, ?_⟩
  rw [List.reverse_append]
  exact .free g.hw he
theorem un_use {C : Addr} {H : Hp} {h l c : Addr} {r : Str} {s : Nat → Nat} {p pg M : Nat} {bs : List Bk} {ss : List Tri} {st : Tri} {Q : VK} {E : XK} (ch : CH s (p + 1)) (g : GX C H h l c r s p pg M bs (ss ++ [st])) (M1 : M ≤ 5000) (q : ∀ H' cs, Fr h l H H' → GX C H' h l c r s p pg M cs ss → Q .non H') : spUn C [.ref h] H Q E := by
  obtain ⟨hp, hw⟩ := g
  have bl := hw.len ch
  rw [List.reverse_append] at hw
  obtain ⟨cs, hw', z⟩ := Hw.undo ch hw
  refine ⟨h, l, c, r, s, p, pg, M, bs, ss, st, rfl, hp, by omega, ?_⟩
  rcases z with ⟨e, ex, rfl⟩ | ⟨e, al⟩
  · exact .inl ⟨e, ex, fun H' fr hp' => q _ _ fr ⟨hp', hw'⟩⟩
  · exact .inr ⟨e, fun H' ds fr hp' pm srt => by
      obtain rfl := al ds pm srt
      exact q _ _ fr ⟨hp', hw'⟩⟩
end Ph

set_option maxHeartbeats 8000000
namespace Ph
open PySem PySem.Spec PyProof.Rows L2
theorem plc_mem {r : Str} {s L W a : Int} {bs : List Bk} (hs : 0 < s) (L0 : 0 < L) (hL : L % s = 0) (h : ∀ b ∈ bs, 0 ≤ b.1 ∧ 1 ≤ b.2 ∧ b.1 + b.2 ≤ W) (asc : bs.Pairwise fun b c => b.1 + b.2 ≤ c.1) (W0 : 0 ≤ W) (pl : PlcR r L bs (gpf s 0 (bs ++ [(W, 0)])) (.int a)) : a ∈ plf s 0 (bs ++ [(W, 0)]) := by
  obtain ⟨a', g, rest, eg, ea, ch⟩ := pl.resolve_left fun z => by cases z.2
  cases ea
  have hb0 : ∀ b ∈ bs ++ [(W, (0 : Int))], 0 ≤ b.1 ∧ 0 ≤ b.2 ∧ b.1 + b.2 ≤ W := fun b hb => by
    rcases List.mem_append.mp hb with z | z
    · have := h b z
      omega
    · rw [List.mem_singleton.mp z]
      exact ⟨W0, Int.le_refl _, by show W + 0 ≤ W; omega⟩
  have gb := gpf_bnd hs (bs ++ [(W, 0)]) 0 hb0 (Int.le_refl _)
  have gm := gpf_mod s (bs ++ [(W, 0)]) 0
  rcases ch with ⟨_, e⟩ | ⟨_, g', pre, eg', e⟩ | ⟨_, _, c⟩
  · have mg : g ∈ gpf s 0 (bs ++ [(W, 0)]) := by rw [eg]; exact List.mem_cons_self ..
    have := gb g mg
    exact gap_in hs mg ((gpr_mem hs).mpr ⟨by omega, by omega, by rw [e, Int.sub_self]; exact Int.zero_emod _⟩)
  · have mg : g' ∈ gpf s 0 (bs ++ [(W, 0)]) := by rw [eg']; exact List.mem_append_right _ (List.mem_singleton.mpr rfl)
    have := gb g' mg
    have m2 := gm g' mg
    refine gap_in hs mg ((gpr_mem hs).mpr ⟨by omega, by omega, ?_⟩)
    rw [e]
    exact Int.emod_eq_zero_of_dvd (Int.dvd_sub (Int.dvd_of_emod_eq_zero m2.2) (Int.dvd_of_emod_eq_zero m2.1))
  · exact (cho_best hs L0 hL h asc W0 c).1
section
variable {P : Program} {w : World} {K : PySem.W.Frag} {mg : Str → Option Value} {base : Heap}
/-- a request to a heap: an answer, or no room -/
def spAx (C : Addr) (T : List (Addr × Str)) : Sp := fun vs H Q _ => ∃ (h l c : Addr) (r : Str) (s : Nat → Nat) (p pg M m : Nat) (bs : List Bk) (ss : List Tri) (v : V) (q : Rqt), vs = [.ref h, v] ∧ GX C H h l c r s p pg M bs ss ∧ IsRule r ∧ ReqAt H v q ∧ Cn s p m ∧ s p ≤ 12 ∧ p ≤ 5 ∧ pg ≤ 12 ∧ M ≤ 1000 ∧ ss.length ≤ 900000 ∧ LamX.Tabs T H ∧
  (match q with | .fr a => ∃ b ∈ bs, b.1 = a | .gt z => ∃ j, j ≤ p ∧ z = ((s j : Nat) : Int) ∧ totB bs + ((s j : Nat) : Int) ≤ M) ∧
  (∀ H' cs t, FrN h l H H' → LamX.Tabs T H' → GX C H' h l c r s p pg M cs (ss ++ [t]) → Beh ((pg * s p : Nat) : Int) bs q cs → Q (.bl false) H') ∧
  (∀ z, q = .gt z → (∀ x, ¬ Plc ((pg * s p : Nat) : Int) bs z x) → ∀ H', LamX.ExtN H H' → LamX.Tabs T H' → Q (.bl true) H')
theorem ok_Ax {k : Nat} {T : List (Addr × Str)} (Z : Fns K mg) (TB : LamX.TabB base mg Z.cPp Z.pPp) (hT : InT T Z.pPp tkN) : FnOk P w K mg base CX0 (k + 1 + 1 + 1 + 1 + 1 + 1 + 1) Z.fAx Z.fdAx ["_law_made", "_law_asked_here"] (spAx Z.CHeap T) := by
  have GHf : FnOk P w K mg base CX0 (k + 1 + 1 + 1 + 1) Z.fHf Z.fdHf ["self", "address"] (spHf Z.CHeap) := ok_Hf Z
  have XHg : FnOk P w K mg base (L2.CX P w) (k + 1 + 1 + 1 + 1 + 1 + 1) Z.fHg Z.fdHg ["self", "size"] (spHg Z.CHeap Z.CNoRoom T) := okX_Hg Z TB hT
  refine Z.FAx.ok scAx (fun vs H Q E h => ?_) (fun cdv A outer s H vs Q E hr h => ?_)
  · obtain ⟨h, l, c, r, s, p, pg, M, m, bs, ss, v, q, rfl, _⟩ := h
    rfl
  · obtain ⟨h, l, c, r, sz, p, pg, M, m, bs, ss, v, q, rfl, g, hr4, ⟨rr, rfl, hrr⟩, cn, z12, p5, pg12, M1, sl, tabs, ok, fin, finX⟩ := h
    refine ⟨_, (pss_cons (ps_try_keep  (i := 2) (c := .ref Z.CNoRoom) rfl rfl rfl scAx.nd rfl rfl ⟨by rfl, by decide, .inl Z.gcNoRoom⟩ (fun W pn xe tk _ => (pss_one (ps_if (pt_cmpR op_eq (pe_ix (r := rIxT K) ix_tup (pv 1) pe_int (fun _ _ => rfl)) pe_str (nomark _))
 (pss_one (ps_expr (pe_meth (pv 0) Z.clHeap Z.mHf GHf (hr.mono (by omega)) Z.bHf .nil pass0 (pa_cons (pe_ix (r := rIxT K) ix_tup (pv 1) pe_int (fun _ _ => rfl)) pa_nil)))) (pss_one (ps_expr (pe_methE (pv 0) Z.clHeap Z.mHg XHg (hr.mono (by omega)) Z.bHg (fun σ => passAt tk σ) (pa_cons (pe_ix (r := rIxT K) ix_tup (pv 1) pe_int (fun _ _ => rfl)) pa_nil))))))) (fun a oe cls d pn hz hf => (pss_one (ps_ret (pe_cmpR op_eq (pe_xf Z.xfNoRoom Z.nfNoRoom_size hz hf (pv 2)) (pe_ix (r := rIxT K) ix_tup (pv 1) pe_int (fun _ _ => rfl)) (nomark _))))))
 (pss_one (ps_ret pe_bl))), ?_⟩
    obtain ⟨dx, t1, xs, a⟩ := id g.hp
    obtain ⟨st, bl, tt⟩ := g.bnds cn.ch
    have eW : ((pg : Nat) : Int) * ((sz p : Nat) : Int) = ((pg * sz p : Nat) : Int) := (Int.natCast_mul _ _).symm
    have top : ∀ j, j ≤ p → 0 < sz j ∧ sz j ≤ 12 := fun j hj => ⟨cn.ch.pos (by omega), Nat.le_trans (cn.ch.mono (i := j) (j := p) hj (by omega)) z12⟩
    have tp := top p (Nat.le_refl _)
    have W0 : 0 ≤ (pg : Int) * ((sz p : Nat) : Int) := Int.mul_nonneg (by omega) (by omega)
    cases q with
    | fr a' =>
      have hrr : H rr = some (.tup [.str "free", .int a']) := hrr
      obtain ⟨b, hb, rfl⟩ := ok
      refine ⟨.ref rr, rfl, rr, _, 0, _, rfl, rfl, .inl (.inl hrr), atI_nat (j := 0) rfl, rfl, _, rfl, ite2 (fun _ => ?_) (fun c => absurd (by decide +kernel) c)⟩
      refine ⟨.ref h, rfl, h, dx, _, rfl, a.ob, rfl, .ref rr, rfl, rr, _, 1, _, rfl, rfl, .inl (.inl hrr), atI_nat (j := 1) rfl, h, l, c, r, sz, p, pg, M, bs, ss, b.1, rfl, g.hp, by omega, by omega, ⟨b, hb, rfl⟩, fun H' fr hp' => ?_⟩
      exact fin H' _ _ (frN_of fr) (tabsT_fr tabs fr a.ob a.ls) (g.free cn.ch hb hp') rfl
    | gt z =>
      have hrr : H rr = some (.tup [.str "get", .int z]) := hrr
      obtain ⟨j, hj, rfl, lim⟩ := ok
      have tj := top j hj
      have np2 : (∀ x, ¬ x ∈ plf ((sz j : Nat) : Int) 0 (bs ++ [((pg : Int) * ((sz p : Nat) : Int), 0)])) → ∀ x, ¬ Plc ((pg * sz p : Nat) : Int) bs ((sz j : Nat) : Int) x := fun no x pl => by
        rw [← eW] at pl
        exact no x ((plf_mem (by omega) bs 0 st.bnd st.asc W0 x).mpr ⟨pl.2.1, pl.1, pl.2.2.1, fun b hb => (pl.2.2.2 b hb).symm⟩)
      refine ⟨.ref rr, rfl, rr, _, 0, _, rfl, rfl, .inl (.inl hrr), atI_nat (j := 0) rfl, rfl, _, rfl, ite2 (fun c => absurd c (by decide +kernel)) (fun _ => ?_)⟩
      refine ⟨.ref h, rfl, h, dx, _, rfl, a.ob, rfl, .ref rr, rfl, rr, _, 1, _, rfl, rfl, .inl (.inl hrr), atI_nat (j := 1) rfl, h, l, c, r, sz, p, pg, M, bs, ss, ((sz j : Nat) : Int), rfl, g.hp, hr4, tl_mem.mpr ⟨j, by omega, rfl⟩, lim, by omega, by omega, by omega, by omega, by omega, by omega, by omega, st, tabs, fun H' cs y fN tb pl hp' pm srt => ?_, fun np H1 d x1 tb1 hd => ?_⟩
      · have mem := plc_mem (s := ((sz j : Nat) : Int)) (by omega) (show (0 : Int) < ((sz p : Nat) : Int) by omega) (Int.emod_eq_zero_of_dvd (Int.natCast_dvd_natCast.mpr ((cn.ch.dvd hj (by omega)).elim fun r h => ⟨r, h.2⟩))) st.bnd st.asc W0 pl
        have fr := (plf_mem (by omega) bs 0 st.bnd st.asc W0 y).mp mem
        have e := wb_of st pm srt
        exact fin H' cs _ fN tb (g.put hj lim ⟨fr.1, fr.2.1, fr.2.2.1, fr.2.2.2⟩ hp' pm srt) ⟨y, by rw [← eW]; exact ⟨fr.2.1, fr.1, fr.2.2.1, fun b hb => (fr.2.2.2 b hb).symm⟩, e⟩
      · refine ⟨Z.exNoRoom_NoRoom, fun b nb => ?_⟩
        have hrr1 := ext_tup x1 hrr
        refine ⟨.ref b, rfl, rfl, rfl, d, _, .int _, rfl, hd, rfl, .ref rr, rfl, rr, _, 1, _, rfl, rfl, .inl (.inl hrr1), atI_nat (j := 1) rfl, rfl, ?_⟩
        rw [decide_eq_true rfl]
        refine finX _ rfl (np2 fun x hx => ?_) H1 x1 tb1
        rw [plf_gpf (by omega), np] at hx
        cases hx
end

end Ph

set_option maxHeartbeats 8000000
namespace Ph
open PySem PySem.Spec PyProof.Rows L2
theorem op_neDK {X : Cx} {K : PySem.W.Frag} (e : X.K = K) (hu : X.A.units + 64 < cLine) : OpR X (compareOp .NotEq) (rNeD K) := by
  subst e
  exact op_neD hu
theorem eqv_stD (a b : List Bk) : PyData.eqv (stD a) (stD b) = decide (a = b) := by
  rcases Classical.em (a = b) with e | e
  · rw [e, decide_eq_true rfl]
    cases q : PyData.eqv (stD b) (stD b) with
    | true => rfl
    | false =>
      have h := (PySem.W.toks_eqv (stD b) (stD b) (stD_alike b b)).2 q [] [Sum.inl 1]
      rw [PySem.W.lex_pre, PyProof.Rows.lex_irrefl] at h
      exact absurd h (by decide)
  · rw [decide_eq_false e]
    cases q : PyData.eqv (stD a) (stD b) with
    | false => rfl
    | true => exact absurd (eqv_bDs a b (by unfold stD at q; simpa only [PyData.eqv] using q)) e
theorem rnk_le2 {s : Nat → Nat} {p M : Nat} {W : Int} (c : CH s (p + 1)) {as : List (List Bk)} (has : ∀ bs, Gst s p M W bs → bs ∈ as) {r : Nat} {bs : List Bk} (g : Gst s p M W bs) (rk : Rnk s p M W r bs) : r ≤ as.length := by
  have ex : ∀ i : Nat, ∃ b, i < r → Gst s p M W b ∧ Rnk s p M W (i + 1) b := fun i => by
    rcases Nat.lt_or_ge i r with h | h
    · obtain ⟨b, h1, h2⟩ := rnk_down c g rk (k := i + 1) (by omega) (by omega)
      exact ⟨b, fun _ => ⟨h1, h2⟩⟩
    · exact ⟨[], fun z => absurd z (by omega)⟩
  obtain ⟨f, hf⟩ := Classical.axiomOfChoice ex
  have := nodup_le (l := (List.range r).map f) (m := as) (List.pairwise_map.mpr (List.pairwise_lt_range.imp_of_mem fun {i j} hi hj h e => by
    have h1 := (hf i (List.mem_range.mp hi)).2
    have h2 := (hf j (List.mem_range.mp hj)).2
    rw [← e] at h2
    have := h1.uniq h2
    omega)) fun b hb => by
      obtain ⟨i, hi, rfl⟩ := List.mem_map.mp hb
      exact has _ (hf i (List.mem_range.mp hi)).1
  rw [List.length_map, List.length_range] at this
  exact this
/-- a heap made beside all that stood -/
structure JH (C h l c : Addr) (r : Str) (T : List (Addr × Str)) (s : Nat → Nat) (p pg M : Nat) (H0 H : Hp) (bs : List Bk) (ss : List Tri) : Prop where
  ext : LamX.ExtN H0 H
  tb : LamX.Tabs T H
  gx : GX C H h l c r s p pg M bs ss
  nh : H0 h = none
  nl : H0 l = none
section
variable {C h l c : Addr} {r : Str} {T : List (Addr × Str)} {s : Nat → Nat} {p pg M : Nat} {H0 H H' : Hp} {bs cs : List Bk} {ss ss' : List Tri}
theorem JH.same (j : JH C h l c r T s p pg M H0 H bs ss) (sm : Same H H') : JH C h l c r T s p pg M H0 H' bs ss := ⟨j.ext.trans (.of sm), tabs_same j.tb sm, j.gx.same sm, j.nh, j.nl⟩
theorem JH.fr (j : JH C h l c r T s p pg M H0 H bs ss) (f : FrN h l H H') (tb : LamX.Tabs T H') (g : GX C H' h l c r s p pg M cs ss') : JH C h l c r T s p pg M H0 H' cs ss' :=
  ⟨fun b o e t => f _ _ (ne_of_none e j.nh) (ne_of_none e j.nl) (j.ext _ _ e t) t, tb, g, j.nh, j.nl⟩
theorem JH.frS (j : JH C h l c r T s p pg M H0 H bs ss) (f : Fr h l H H') (g : GX C H' h l c r s p pg M cs ss') : JH C h l c r T s p pg M H0 H' cs ss' := by
  obtain ⟨dx, t, xs, a⟩ := id j.gx.hp
  exact j.fr (frN_of f) (tabsT_fr j.tb f a.ob a.ls) g
theorem JH.extN (j : JH C h l c r T s p pg M H0 H bs ss) (x : LamX.ExtN H H') (tb : LamX.Tabs T H') : JH C h l c r T s p pg M H0 H' bs ss := ⟨j.ext.trans x, tb, j.gx.ext x, j.nh, j.nl⟩
/-- tuples, frozen ones too, and one dict are kept where a heap changes -/
theorem tuH_fr (g : GX C H h l c r s p pg M bs ss) (f : FrN h l H H') : ∀ a ys, TuH H a ys → TuH H' a ys := fun a ys e => by
  obtain ⟨dx, t, xs, a0⟩ := id g.hp
  rcases e with e | ⟨o, e⟩
  · exact .inl (f _ _ (ne_of e a0.ob (by intro z; cases z)) (ne_of e a0.ls (by intro z; cases z)) e (fun _ z => nomatch z))
  · exact .inr ⟨o, f _ _ (ne_of e a0.ob (by intro z; cases z)) (ne_of e a0.ls (by intro z; cases z)) e (fun _ z => nomatch z)⟩
theorem kdx_fr {w : World} {d : Addr} {es : List KAV} (g : GX C H h l c r s p pg M bs ss) (f : FrN h l H H') (k : KDx w H d es) : KDx w H' d es := k.keeps (tuH_fr g f) fun u e => by
  obtain ⟨dx, t, xs, a0⟩ := id g.hp
  have ob := k.ob
  rw [e] at ob
  cases ob
  exact f _ _ (ne_of e a0.ob (by intro z; cases z)) (ne_of e a0.ls (by intro z; cases z)) e (fun _ z => nomatch z)
theorem kpT_fr (g : GX C H h l c r s p pg M bs ss) (f : FrN h l H H') : KpT H H' := fun a ys e => by
  obtain ⟨dx, t, xs, a0⟩ := id g.hp
  exact f _ _ (ne_of e a0.ob (by intro z; cases z)) (ne_of e a0.ls (by intro z; cases z)) e (fun _ z => nomatch z)
end
/-- what a strategy says, by states -/
def ToT (w : World) (s : Nat → Nat) (p M : Nat) (W : Int) (H : Hp) (d : Addr) (ns : List (List Bk)) : Prop := ∃ es : List KAV, KDx w H d es ∧ Paired (fun (e : KAV) b => e.1 = skey b ∧ ∃ q, ReqAt H e.2.2 q ∧ Gst s p M W b ∧ ∃ r, Rnk s p M W r b ∧ Goes s p M W r b q ∧ ∀ cs, Beh W b q cs → cs ∈ ns) es ns
theorem reqAt_kp {H H' : Hp} {v : V} {q : Rqt} (h : ReqAt H v q) (k : KpT H H') : ReqAt H' v q := by
  obtain ⟨rr, e, hrr⟩ := h
  refine ⟨rr, e, ?_⟩
  cases q with
  | fr a => exact k _ _ hrr
  | gt z => exact k _ _ hrr
theorem ToT.same {w : World} {s : Nat → Nat} {p M : Nat} {W : Int} {H H' : Hp} {d : Addr} {ns : List (List Bk)} (t : ToT w s p M W H d ns) (sm : Same H H') : ToT w s p M W H' d ns := by
  obtain ⟨es, kd, pe⟩ := t
  exact ⟨es, kd.same sm, Paired.mono (fun e b ⟨h1, q, h2, h3⟩ => ⟨h1, q, reqAt_kp h2 (Same.kt sm).kpT, h3⟩) pe⟩
theorem ToT.fr {C h l c : Addr} {r : Str} {s : Nat → Nat} {p pg M : Nat} {H H' : Hp} {bs : List Bk} {ss : List Tri} {w : World} {W : Int} {d : Addr} {ns : List (List Bk)} (t : ToT w s p M W H d ns) (g : GX C H h l c r s p pg M bs ss) (f : FrN h l H H') : ToT w s p M W H' d ns := by
  obtain ⟨es, kd, pe⟩ := t
  exact ⟨es, kdx_fr g f kd, Paired.mono (fun e b ⟨h1, q, h2, h3⟩ => ⟨h1, q, reqAt_kp h2 (kpT_fr g f), h3⟩) pe⟩
theorem ToT.extN {w : World} {s : Nat → Nat} {p M : Nat} {W : Int} {H H' : Hp} {d : Addr} {ns : List (List Bk)} (t : ToT w s p M W H d ns) (x : LamX.ExtN H H') : ToT w s p M W H' d ns := by
  obtain ⟨es, kd, pe⟩ := t
  refine ⟨es, kd.keeps (fun a ys e => e.imp (ext_tup x) fun ⟨o, e⟩ => ⟨o, ext_frz x e⟩) (fun u e => ?_), Paired.mono (fun e b ⟨h1, q, h2, h3⟩ => ⟨h1, q, reqAt_kp h2 (fun _ _ e => ext_tup x e), h3⟩) pe⟩
  have ob := kd.ob
  rw [e] at ob
  cases ob
  exact x _ _ e (fun _ z => nomatch z)
theorem ToT.get {w : World} {s : Nat → Nat} {p M : Nat} {W : Int} {H : Hp} {d : Addr} {ns : List (List Bk)} (t : ToT w s p M W H d ns) {b : List Bk} (hb : b ∈ ns) : ∃ (es : List KAV) (v : V) (q : Rqt), KDx w H d es ∧ valV (es.map kv2) (skey b) = some v ∧ ReqAt H v q ∧ Gst s p M W b ∧ ∃ r, Rnk s p M W r b ∧ Goes s p M W r b q ∧ ∀ cs, Beh W b q cs → cs ∈ ns := by
  obtain ⟨es, kd, pe⟩ := t
  obtain ⟨i, hi, ei⟩ := List.getElem_of_mem hb
  obtain ⟨e, he, h1, q, h2, h3⟩ := Paired.get2 pe (b := b) (i := i) (by rw [List.getElem?_eq_getElem hi, ei])
  exact ⟨es, e.2.2, q, kd, by rw [valV_kv2 kd.nd (List.mem_of_getElem? he) h1], h2, h3⟩
theorem goes_lst {s : Nat → Nat} {p M r : Nat} {W : Int} {bs cs : List Bk} {q : Rqt} (gs : Goes s p M W r bs q) (bh : Beh W bs q cs) : ∃ k, r = k + 1 ∧ Lst s p M W k cs := by
  cases q with
  | fr a =>
    obtain ⟨b, hb, e, k2, ek, lk⟩ := gs
    have e2 : cs = ct bs a := bh
    exact ⟨k2, ek.symm, by rw [e2]; exact lk⟩
  | gt z =>
    obtain ⟨j, hj, rfl, lim, k2, ek, lk⟩ := gs
    obtain ⟨a, pa, rfl⟩ := bh
    exact ⟨k2, ek.symm, lk a pa⟩
theorem tabs_fr2 {T : List (Addr × Str)} {H H' : Hp} {p L : Addr} {xs : List V} (t : LamX.Tabs T H) (f : ∀ b o, b ≠ p → b ≠ L → H b = some o → H' b = some o) (e : H p = some (.lst xs)) (n : H L = none) : LamX.Tabs T H' := fun q hq => by
  obtain ⟨ps, h1, h2, h3⟩ := t q hq
  refine ⟨ps, f _ _ (ne_of h1 e (by intro z; cases z)) (ne_of_none h1 n) h1, h2, fun pos cv hc => ?_⟩
  obtain ⟨c, e1, e2⟩ := h3 pos cv hc
  exact ⟨c, e1, f _ _ (ne_of e2 e (by intro z; unfold LamX.CodeO at z; cases z)) (ne_of_none e2 n) e2⟩
theorem tabsAt {H : Hp} {p c : Addr} (h : ∀ q ∈ [(c, p)], H q.2 = some (.tbl #[])) : LamX.Tabs [(p, tkN)] H := tabsT_nil fun q hq => by
  rw [List.mem_singleton.mp hq]
  exact h (c, p) (List.mem_singleton.mpr rfl)
section
variable {P : Program} {w : World} {K : PySem.W.Frag} {mg : Str → Option Value} {base : Heap}
def spLaw (K : PySem.W.Frag) (P1 : Addr) : Sp := fun vs H Q _ => ∃ (a : Addr) (ns : List Int), vs = [.ref a] ∧ SqL K H a (ns.map V.int) ∧ ns.length ≤ 63 ∧ LamX.Tabs [(P1, tkN)] H ∧ ∀ H', Q (.bl true) H'
theorem ok_Law {k : Nat} (Z : Fns K mg) (TB : LamX.TabB base mg Z.cPp Z.pPp) : FnG P w K mg base CX0 (k + 1 + 1 + 1 + 1 + 1 + 1 + 1 + 1 + 1 + 1 + 1) Z.fLaw Z.fdLaw ["_law_script"] (spLaw K Z.pPp) := by
  have hT := InT.one Z.pPp tkN
  obtain ⟨T, eT⟩ : ∃ T, [(Z.pPp, tkN)] = T := ⟨_, rfl⟩
  rw [eT] at hT
  have GSc : FnOk P w K mg base CX0 (k + 1) Z.fSc Z.fdSc ["_law_script", "_law_k"] (spSc K) := ok_Sc Z
  have GCo : FnOk P w K mg base CX0 (k + 1 + 1) Z.fCo Z.fdCo ["_law_source_here", "_law_some"] (spCo K) := ok_Co Z
  have GSg : FnOk P w K mg base CX0 (k + 1 + 1 + 1) Z.fSg Z.fdSg ["_law_source_here", "_law_largest"] spSg := ok_Sg Z
  have GRk : FnOk P w K mg base CX0 (k + 1 + 1 + 1) Z.fRk Z.fdRk ["_law_sizes", "_law_most", "_law_pages_here"] (spRk w) := ok_Rk Z
  have GHi : FnOk P w K mg base CX0 (k + 1 + 1 + 1) Z.fHi Z.fdHi ["self", "chain", "pages", "limit", "rule"] (spHi Z.CHeap) := ok_Hi Z
  have GPt : FnOk P w K mg base CX0 (k + 1 + 1 + 1 + 1 + 1) Z.fPt Z.fdPt ["self", "address", "size"] (spPt Z.CHeap) := ok_Pt Z
  have GHs : FnOk P w K mg base CX0 (k + 1) Z.fHs Z.fdHs ["self"] (spHs Z.CHeap) := ok_Hs Z
  have GHh : FnOk P w K mg base CX0 (k + 1 + 1) Z.fHh Z.fdHh ["self"] (spHh Z.CHeap) := ok_Hh Z
  have GUn : FnOk P w K mg base CX0 (k + 1 + 1 + 1 + 1) Z.fUn Z.fdUn ["self"] (spUn Z.CHeap) := ok_Un Z
  have GLn : FnOk P w K mg base CX0 (k + 1) Z.fLn Z.fdLn ["self"] (spLn Z.CHeap) := ok_Ln Z
  have GRy : FnOk P w K mg base CX0 (k + 1 + 1 + 1 + 1 + 1 + 1 + 1) Z.fRy Z.fdRy ["chain", "pages", "limit", "history"] (spRy Z.CHeap) := ok_Ry Z
  have GSt : FnOk P w K mg base CX0 (k + 1 + 1 + 1 + 1 + 1 + 1 + 1 + 1 + 1) Z.fSt Z.fdSt ["chain", "limit", "pages", "state"] spSt := ok_St Z
  have GMv : FnOk P w K mg base CX0 (k + 1 + 1 + 1 + 1 + 1 + 1 + 1 + 1 + 1) Z.fMv Z.fdMv ["chain", "limit", "pages", "state"] spMv := ok_Mv Z
  have GAx : FnOk P w K mg base CX0 (k + 1 + 1 + 1 + 1 + 1 + 1 + 1) Z.fAx Z.fdAx ["_law_made", "_law_asked_here"] (spAx Z.CHeap T) := ok_Ax Z TB hT
  obtain ⟨dsHi, vHi, bHi⟩ := Z.bHi
  have kbHi : KBn K Z.fdHi ["self", "chain", "pages", "limit", "rule"] (3 + 1) ["rule"] (fun us ws => us ++ ws) (fun vs zs => vs ++ zs) := kbn_all Z.FHi 4 ["rule"] (fun _ _ _ _ _ _ us ws h1 h2 => match us, ws, h1, h2 with | [_, _, _, _], [_], _, _ => rfl)
  refine okG Z.FLaw scLaw (fun vs H Q E h => ?_) (fun cdv A outer s H vs Q E hgu hr h => ?_)
  · obtain ⟨a, ns, rfl, _⟩ := h
    rfl
  · obtain ⟨a, ns, rfl, hS, hl, tabs, q⟩ := h
    rw [eT] at tabs
    have hu64 := u64_of hr
    refine ⟨_, (pss_cons (ps_for PassesOwn.never rfl (pi_range1 (by rfl) Z.N.range (pa_cons (pe_callB (call_max2 rfl) (by rfl) Z.N.max (by decide +kernel) (pa_cons pe_int (pa_cons (pe_callB (call_min2 rfl) (by rfl) Z.N.min (by decide +kernel) (pa_cons pe_int (pa_cons (pe_callB call_len_seq (by rfl) Z.N.len (by decide +kernel) (pa_cons (pv 0) pa_nil)) pa_nil))) pa_nil))) pa_nil)) (pg_name (i := 1) scLaw.nd rfl (.inl rfl))
 (pss_cons (ps_set (i := 2) scLaw.nd rfl (.inr rfl) (pe_call GSc (hr.mono (by omega)) (by rfl) Z.gSc Z.FSc.kp Z.bSc .nil pass0 (pa_cons (pv 0) (pa_cons (pv 1) pa_nil))))
 (pss_cons (ps_asg (pe_call GSg (hr.mono (by omega)) (by rfl) Z.gSg Z.FSg.kp Z.bSg .nil pass0 (pa_cons (pv 2) (pa_cons pe_int pa_nil))) (pg_tup (by rfl) (pgs_cons (pg_name (i := 3) scLaw.nd rfl (.inl rfl)) (pgs_cons (pg_name (i := 4) scLaw.nd rfl (.inl rfl)) (pgs_cons (pg_name (i := 5) scLaw.nd rfl (.inl rfl)) pgs_nil)))))
 (pss_cons (ps_set (i := 6) scLaw.nd rfl (.inl rfl) (pe_call GCo (hr.mono (by omega)) (by rfl) Z.gCo Z.FCo.kp Z.bCo .nil pass0 (pa_cons (pv 2) (pa_cons (pe_lst (pa_cons pe_str (pa_cons pe_str (pa_cons pe_str (pa_cons pe_str pa_nil))))) pa_nil))))
 (pss_cons (ps_set (i := 7) scLaw.nd rfl (.inr rfl) (pe_callB (cr_sortedX rfl hu64) (by rfl) Z.N.sorted (by decide +kernel) (pa_cons (pe_call GRk (hr.mono (by omega)) (by rfl) Z.gRk Z.FRk.kp Z.bRk .nil pass0 (pa_cons (pv 3) (pa_cons (pv 4) (pa_cons (pv 5) pa_nil)))) pa_nil)))
 (pss_one (ps_for PassesOwn.never rfl (pi_list (pe_lc (own := [("_law_turn", 8)]) (g := (gName 8)) (by rfl) scLaw.nd (pi_range1 (by rfl) Z.N.range (pa_cons pe_int pa_nil)) (blkOk_by (N := scLawN) (sc := defScope scLawS) (by decide +kernel)) (fun _ _ _ _ _ => (pg_name (i := 8) scLaw.nd rfl (.inl rfl))) (fun _ _ _ _ _ => (pts_one (pt_cmpR (op_neDK (K := K) rfl (by exact hu64)) (pv 7) (pe_lst pa_nil) (nomark _)))) (fun _ _ _ _ _ => (pe_call GCo (hr.mono (by omega)) (by rfl) Z.gCo Z.FCo.kp Z.bCo .nil pass0 (pa_cons (pv 2) (pa_cons (pv 7) pa_nil)))))) (pg_name (i := 9) scLaw.nd rfl (.inl rfl))
 (pss_cons (ps_set (i := 10) scLaw.nd rfl (.inl rfl) (pe_makeK Z.MHi GHi (hr.mono (by omega)) (by rfl) Z.gcHeap kbHi pass0 (pa_cons (pv 3) (pa_cons (pv 5) (pa_cons (pv 4) pa_nil))) (pk_cons (pv 6) pk_nil)))
 (pss_cons (ps_for PassesOwn.never rfl (pi_tup (pv 9)) (pg_tup (by rfl) (pgs_cons (pg_name (i := 11) scLaw.nd rfl (.inl rfl)) (pgs_cons (pg_name (i := 12) scLaw.nd rfl (.inl rfl)) pgs_nil)))
 (pss_one (ps_expr (pe_meth (pv 10) Z.clHeap Z.mPt GPt (hr.mono (by omega)) Z.bPt .nil pass0 (pa_cons (pv 11) (pa_cons (pv 12) pa_nil))))))
 (pss_cons (ps_set (i := 13) scLaw.nd rfl (.inl rfl) (pe_callTy (call_dictX rfl hu64) (by rfl) Z.N.dict (by decide +kernel) (pa_cons (pe_lc (own := [("_law_row", 17)]) (g := (gName 17)) (tt := tYes) (by rfl) scLaw.nd (pi_tup (pe_call GSt (hr.mono (by omega)) (by rfl) Z.gSt Z.FSt.kp Z.bSt .nil pass0 (pa_cons (pv 3) (pa_cons (pv 4) (pa_cons (pv 5) (pa_cons (pv 9) pa_nil)))))) (blkOk_by (N := scLawN) (sc := defScope scLawS) (by decide +kernel)) (fun _ _ _ _ _ => (pg_name (i := 17) scLaw.nd rfl (.inl rfl))) (fun _ _ _ _ _ => pts_nil) (fun _ _ _ _ _ => (pe_tup (pa_cons (pe_ix (r := rIxT K) ix_tup (pv 17) pe_int (fun _ _ => rfl)) (pa_cons (pe_ix (r := rIxT K) ix_tup (pv 17) pe_int (fun _ _ => rfl)) pa_nil))))) pa_nil)))
 (pss_cons (ps_par (i := 14) (j := 15) (by rfl) scLaw.nd rfl rfl (by decide) rfl rfl (pa_cons (pe_call GMv (hr.mono (by omega)) (by rfl) Z.gMv Z.FMv.kp Z.bMv .nil pass0 (pa_cons (pv 3) (pa_cons (pv 4) (pa_cons (pv 5) (pa_cons (pv 9) pa_nil))))) (pa_cons pe_bl pa_nil)) (by rfl))
 (pss_cons (ps_while PassesOwn.never (PW.pt (pw_and (pt_cmpR op_gt (pv 14) pe_int (nomark _)) (pw_and1 (pt_not (pt_val (pv 15))))))
 (pss_one (ps_par (i := 14) (j := 15) (by rfl) scLaw.nd rfl rfl (by decide) rfl rfl (pa_cons (pe_op op_sub (pv 14) pe_int) (pa_cons (pe_call GAx (hr.mono (by omega)) (by rfl) Z.gAx Z.FAx.kp Z.bAx .nil pass0 (pa_cons (pv 10) (pa_cons (pe_xget hu64 (pv 13) (pe_meth0 (pv 10) Z.clHeap Z.mHs GHs (hr.mono (by omega)) Z.bHs .nil pass0) (fun _ _ => rfl)) pa_nil))) pa_nil)) (by rfl))))
 (pss_cons (ps_set (i := 16) scLaw.nd rfl (.inl rfl) (pe_call GRy (hr.mono (by omega)) (by rfl) Z.gRy Z.FRy.kp Z.bRy .nil pass0 (pa_cons (pv 3) (pa_cons (pv 5) (pa_cons (pv 4) (pa_cons (pe_meth0 (pv 10) Z.clHeap Z.mHh GHh (hr.mono (by omega)) Z.bHh .nil pass0) pa_nil))))))
 (pss_cons (ps_if (PW.pt (pw_or (pt_not (pt_val (pv 15))) (pw_or1 (pt_cmpR (op_neD hu64) (pe_meth0 (pv 16) Z.clHeap Z.mHs GHs (hr.mono (by omega)) Z.bHs .nil pass0) (pe_meth0 (pv 10) Z.clHeap Z.mHs GHs (hr.mono (by omega)) Z.bHs .nil pass0) (nomark _)))))
 (pss_one (ps_ret pe_bl)) pss_nil)
 (pss_cons (ps_for PassesOwn.never rfl (pi_range1 (by rfl) Z.N.range (pa_cons (pe_op op_sub (pe_callB (call_lenOwn Z.mLn GLn (hr.mono (by omega)) Z.bLn pass0) (by rfl) Z.N.len (by decide +kernel) (pa_cons (pv 10) pa_nil)) (pe_callB call_len_seq (by rfl) Z.N.len (by decide +kernel) (pa_cons (pv 9) pa_nil))) pa_nil)) (pg_name (i := 8) scLaw.nd rfl (.inl rfl))
 (pss_one (ps_expr (pe_meth0 (pv 10) Z.clHeap Z.mUn GUn (hr.mono (by omega)) Z.bUn .nil pass0))))
 (pss_one (ps_if (pt_cmpR (op_neD hu64) (pe_meth0 (pv 10) Z.clHeap Z.mHs GHs (hr.mono (by omega)) Z.bHs .nil pass0) (pv 9) (nomark _))
 (pss_one (ps_ret pe_bl)) pss_nil)))))))))))))))))
 (pss_one (ps_ret pe_bl))), ?_⟩
    refine ⟨.ref a, rfl, a, _, rfl, .inl hS, _, _, rfl, _, _, rfl, ?_⟩
    rw [List.length_map]
    generalize hz : (if (if (ns.length : Int) < 2 then (ns.length : Int) else 2) > 1 then (if (ns.length : Int) < 2 then (ns.length : Int) else 2) else (1 : Int)) = z
    have z3 : 0 ≤ z ∧ z ≤ 2 := by
      rw [← hz]
      split <;> split <;> omega
    refine ⟨z, rfl, by omega, by omega, ?_⟩
    refine for_range (lo := 0) (n := z.toNat) (fun i σ H2 => ∃ y1 y2 y3 y4 y5 y6 y7 y8 y9 y10 y11 y12 y13 y14 y15 y16 y17, σ = [some (.ref a), y1, y2, y3, y4, y5, y6, y7, y8, y9, y10, y11, y12, y13, y14, y15, y16, y17] ∧ LamX.ExtN H H2 ∧ LamX.Tabs T H2) ⟨_, _, _, _, _, _, _, _, _, _, _, _, _, _, _, _, _, rfl, .refl _, tabs⟩ ?_ ?_
    rotate_left
    · rintro σ H2 ⟨y1, y2, y3, y4, y5, y6, y7, y8, y9, y10, y11, y12, y13, y14, y15, y16, y17, rfl, x2, tb2⟩
      exact q _
    rintro i σ H2 hi ⟨y1, y2, y3, y4, y5, y6, y7, y8, y9, y10, y11, y12, y13, y14, y15, y16, y17, rfl, x2, tb2⟩
    have e : (0 : Int) + (i : Int) = ((i : Nat) : Int) := by omega
    rw [e]
    refine ⟨.ref a, rfl, .int i, rfl, a, ns, i, rfl, ext_seq x2 hS, by omega, fun H3 p s3 np hp => ?_⟩
    dsimp only [gName]
    refine ⟨.ref p, rfl, p, 126, 0, rfl, hp, by omega, by omega, fun H5 G c sz pp n M b5 hp5 gm => ?_⟩
    obtain ⟨hG, hc, cn, sml, n1, up, w9, hM, hh⟩ := gm
    have z12 := sml.z
    have p5 := sml.q
    have n12 := sml.n
    refine ⟨G, _, rfl, .inl (.inl hG), rfl, _, _, rfl, _, _, rfl, _, _, rfl, rfl, ?_⟩
    dsimp only [gName]
    have tb5 : LamX.Tabs T H5 := by
      obtain ⟨g, r, l, e, v⟩ := id hp
      exact tabsT_but (tabs_same tb2 s3) b5 e
    have bH5 : ∀ b o, H b = some o → (∀ ps, o ≠ .tbl ps) → H5 b = some o := fun b o e t => by
      have e2 := x2 _ _ e t
      exact b5 _ _ (ne_of_none e2 np) (s3 _ _ e2)
    refine ⟨.ref p, rfl, (by show 4 ≤ sizeLine; decide), fun L4 nL4 => ?_⟩
    have sL4 := same_upd (o := .lst [.str "lowest", .str "highest", .str "tight", .str "loose"]) nL4
    have hp6 := hp5.same sL4
    refine ⟨p, L4, _, 2, rfl, hp6, by omega, .inl (.inl (.inl upd_same)), (hp5.po.ne_none nL4).symm, List.cons_ne_nil _ _, by simp, fun H7 v b7 hp7 hv => ?_⟩
    obtain ⟨r, rfl, hr4⟩ : ∃ r, v = .str r ∧ IsRule r := by
      simp only [List.mem_cons, List.not_mem_nil, or_false] at hv
      rcases hv with rfl | rfl | rfl | rfl
      · exact ⟨_, rfl, .inl rfl⟩
      · exact ⟨_, rfl, .inr (.inl rfl)⟩
      · exact ⟨_, rfl, .inr (.inr (.inl rfl))⟩
      · exact ⟨_, rfl, .inr (.inr (.inr rfl))⟩
    have kt57 : Kt H5 H7 := (Same.kt sL4).trans (but_ktS hp6 b7)
    have hc7 := kt57.ch hc
    have tb7 : LamX.Tabs T H7 := by
      obtain ⟨g, r, l, e, v⟩ := id hp6
      exact tabsT_but (tabs_same tb5 sL4) b7 e
    have bH7 : ∀ b o, H b = some o → (∀ ps, o ≠ .tbl ps) → H7 b = some o := fun b o e t => by
      have e2 := x2 _ _ e t
      exact b7 _ _ (ne_of_none e2 np) (sL4 _ _ (bH5 b o e t))
    clear hv sL4 hp6 hp5 hc hG
    dsimp only [gName]
    refine ⟨.ref c, rfl, .int M, rfl, .int n, rfl, c, sz, pp, n, M, 12, rfl, hc7, cn, sml, hh, fun H8 NN xs nN s8 kd en al ks8 => ?_⟩
    have rk8 : RkT w sz pp M ((n * sz pp : Nat) : Int) H8 NN xs := ⟨kd, en, al⟩
    obtain ⟨bss, hbs0, nd0, mbs⟩ := kx_states (G := fun _ => True) kd.nd fun x hx => by
      obtain ⟨bs, e, st⟩ := ks8 x hx
      exact ⟨bs, e, st, True.intro⟩
    refine ⟨NN, xs, bss, rfl, kd.r, hbs0, fun ys sss S pm hys nS => ?_⟩
    have sS := same_upd (o := .lst ys) nS
    have hS9 : upd H8 S (.lst ys) S = some (.lst ys) := upd_same
    have hys9 := hys.kt (Same.kt sS)
    have s79 := s8.trans sS
    have hp9 := hp7.same s79
    have nSp : S ≠ p := ((hp7.same s8).po.ne_none nS).symm
    have yl : ys.length = xs.length := by rw [Paired.length hys, pm.length_eq, ← Paired.length hbs0, List.length_map]
    have xl9 : xs.length ≤ 19683 := by
      obtain ⟨as, has, _, al9⟩ := gst_list (s := sz) (p := pp) (M := M) (W := n * sz pp) (by omega : n * sz pp ≤ 12)
      refine Nat.le_trans (keys_few (bss := as) rk8.kd.nd fun x hx => ?_) (Nat.le_trans al9 (Nat.le_trans (Nat.pow_le_pow_right (by decide) w9) (by decide)))
      obtain ⟨b, r, e, _, g, _⟩ := rk8.en x hx
      exact ⟨b, has b g, e⟩
    have lostS : ∀ cs ∈ sss, Gst sz pp M ((n * sz pp : Nat) : Int) cs ∧ ∃ k, Lst sz pp M ((n * sz pp : Nat) : Int) k cs := fun cs hcs => by
      have ik := (mbs cs).mp (pm.mem_iff.mp hcs)
      obtain ⟨x0, hx0, ex0⟩ := ik.mem
      obtain ⟨b0, r0, eb0, er0, gb, rk0⟩ := rk8.en x0 hx0
      have eb := skey_inj (ex0.symm.trans eb0)
      subst eb
      exact ⟨gb, r0, rk0.1⟩
    have hc9 := hc7.keep s79
    have tb9 := tabs_same tb7 s79
    have bH9 : ∀ b o, H b = some o → (∀ ps, o ≠ .tbl ps) → upd H8 S (.lst ys) b = some o := fun b o e t => s79 _ _ (bH7 b o e t)
    clear hys hbs0 rk8 kd en al ks8 pm mbs hp7 hc7 tb7 s79
    generalize upd H8 S (.lst ys) = H9 at *
    dsimp only [gName]
    refine ⟨2, rfl, by omega, by decide, fun L nL => ?_⟩
    have npL : p ≠ L := hp9.po.ne_none nL
    have nSL : S ≠ L := ne_of_none hS9 nL
    have cap5 : (100000 : Nat) < sizeLine := by decide
    refine lc_range (lo := 0) (n := 2) (fun i' H' => (∀ b o, b ≠ p → b ≠ L → H9 b = some o → H' b = some o) ∧ So (3 + i') H' p ∧ ∃ zs css, H' L = some (.lst zs) ∧ StVs H' zs css ∧ zs.length ≤ i' ∧ ∀ cs ∈ css, cs ∈ sss) ⟨fun b o _ n2 e => by rw [upd_ne n2]; exact e, (hp9.keep npL).up (by omega), [], [], upd_same, .nil, Nat.le_refl _, fun _ h => nomatch h⟩ (fun i' H10 hi' ⟨fr, hp10, zs, css, hL, hzs, zl, gz⟩ => ?_) (fun H10 ⟨fr, hp10, zs, css, hL, hzs, zl, gz⟩ => ?_)
    · have hS10 := fr _ _ nSp nSL hS9
      have kt10 : Kt H9 H10 := fun b o e _ n2 => fr b o (fun z => by
        obtain ⟨g, r, l, h, _⟩ := hp9
        rw [z, h] at e
        exact n2 _ (Option.some.inj e).symm) (ne_of_none e nL) e
      have hys10 := hys9.kt kt10
      refine ⟨rfl, .ref S, rfl, (by show 0 ≤ sizeLine; decide), fun B nB => ?_⟩
      have sB := same_upd (o := .lst []) nB
      have hB : upd H10 B (.lst []) B = some (.lst []) := upd_same
      have fr11 : ∀ b o, b ≠ p → b ≠ L → H9 b = some o → upd H10 B (.lst []) b = some o := fun b o n1 n2 e => sB _ _ (fr b o n1 n2 e)
      have hp11 := hp10.same sB
      have hL11 := sB _ _ hL
      have hzs11 := hzs.kt (Same.kt sB)
      have hS11 := sB _ _ hS10
      have hys11 := hys10.kt (Same.kt sB)
      generalize upd H10 B (.lst []) = H11 at *
      refine ⟨.list (sss.map stD), .list [], .lst (.inl (.inl hS11)) (StVs.dp hys11), .lst (.inl (.inl hB)) .nil, stDs_shaped sss, il_shaped [], _, rfl, ite2 (fun c0 => ?_) (fun c0 => ?_)⟩
      · have sne : sss ≠ [] := fun z => by
          rw [stDs_nil, decide_eq_true z] at c0
          cases c0
        have yne : ys ≠ [] := fun z => sne (List.length_eq_zero_iff.mp (by rw [← Paired.length hys11, z]; rfl))
        refine ⟨.ref p, rfl, .ref S, rfl, p, S, ys, _, rfl, hp11, by omega, .inl (.inl (.inl hS11)), nSp, yne, by omega, fun H12 v b12 hp12 hv => ?_⟩
        obtain ⟨j, hj, ej⟩ := List.getElem_of_mem hv
        obtain ⟨bs, hbs, t, rfl, ht⟩ := Paired.get hys11 (by rw [List.getElem?_eq_getElem hj, ej] : ys[j]? = some v)
        have kt12 := but_ktS hp11 b12
        have hL12 := b12 _ _ npL.symm hL11
        have ktL := kt_upd (ys := zs ++ [.ref t]) hL12
        refine ⟨_, hL12, by omega, fun b o n1 n2 e => by rw [upd_ne n2]; exact b12 _ _ n1 (fr11 b o n1 n2 e), (hp12.keep npL).up (by omega), zs ++ [.ref t], css ++ [bs], upd_same, ((hzs11.kt kt12).kt ktL).snoc ⟨t, rfl, ktL.st (kt12.st ht)⟩, by rw [List.length_append]; show zs.length + 1 ≤ _; omega, fun cs hcs => ?_⟩
        rcases List.mem_append.mp hcs with z | z
        · exact gz cs z
        · rw [List.mem_singleton.mp z]
          exact List.mem_of_getElem? hbs
      · exact ⟨fr11, hp11.up (by omega), zs, css, hL11, hzs11, by omega, gz⟩
    have kt10 : Kt H9 H10 := fun b o e _ n2 => fr b o (fun z => by
      obtain ⟨g, r, l, h, _⟩ := hp9
      rw [z, h] at e
      exact n2 _ (Option.some.inj e).symm) (ne_of_none e nL) e
    have hc10 := kt10.ch hc9
    have tb10 : LamX.Tabs T H10 := by
      obtain ⟨g, r, l, e, v⟩ := id hp9
      exact tabs_fr2 tb9 fr e nL
    have x10 : LamX.ExtN H H10 := fun b o e t => fr b o (ne_of_none (x2 _ _ e t) np) (ne_of_none (bH9 b o e t) nL) (bH9 b o e t)
    clear hp9 hS9 hys9 hc9 tb9 bH9 fr kt10 hp10
    refine ⟨L, rfl, ⟨_, .inl (.inl hL)⟩, ?_⟩
    refine for_it (walk_list (K := K) (a := L) (xs := zs)) (fun i' σ H' => ∃ y8 y9 y10 y11 y12 y13 y14 y15 y16 y17, σ = [some (.ref a), some (.int i), some (.ref p), some (.ref c), some (.int M), some (.int n), some (.str r), some (.ref S), y8, y9, y10, y11, y12, y13, y14, y15, y16, y17] ∧ LamX.ExtN H10 H' ∧ LamX.Tabs T H') ⟨_, _, _, _, _, _, _, _, _, _, rfl, .refl _, tb10⟩ (fun i' σ H' _ q => ?_) ?_ ?_
    · obtain ⟨_, _, _, _, _, _, _, _, _, _, _, x, _⟩ := q
      exact .inl (.inl (ext_lst x hL))
    rotate_left
    · rintro σ H11 ⟨y8, y9, y10, y11, y12, y13, y14, y15, y16, y17, rfl, x11, tb11⟩
      exact ⟨_, _, _, _, _, _, _, _, _, _, _, _, _, _, _, _, _, rfl, x10.trans x11, tb11⟩
    rintro i' x σ H11a H11 hi' ⟨y8, y9, y10, y11, y12, y13, y14, y15, y16, y17, rfl, x11, tb11⟩ ⟨rfl, hx⟩
    obtain ⟨bs, hbs, t, rfl, ht⟩ := Paired.get hzs hx
    obtain ⟨gb, lost⟩ := lostS _ (gz _ (List.mem_of_getElem? hbs))
    have ht11 := ext_st x11 ht
    have hc11 := ext_ch x11 hc10
    have few := st_len gb.st (by omega)
    dsimp only [gName]
    refine ⟨.ref c, rfl, .int n, rfl, .int M, rfl, .str r, rfl, rfl, rfl, fun h dx nh ndx nex => ?_⟩
    have s4 : Same H11 (upd (upd H11 dx (.own h)) h (.ins Z.CHeap dx [])) := fun b o e => by
      rw [upd_ne (ne_of_none e nh), upd_ne (ne_of_none e ndx)]
      exact e
    refine ⟨h, c, dx, r, sz, pp, 12, n, M, rfl, hr4, upd_same, hc11.keep s4, cn, by decide, by omega, fun H12 l fr12 nl12 hp12 => ⟨rfl, ?_⟩⟩
    have nl11 : H11 l = none := none_of_same s4 nl12
    have s12 : Same H11 H12 := fun b o e => fr12 _ _ (ne_of_none e nh) (ne_of_none e nl11) (s4 _ _ e)
    have j12 : JH Z.CHeap h l c r T sz pp n M H11 H12 [] [] := ⟨.of s12, tabs_same tb11 s12, ⟨hp12, .nil⟩, nh, nl11⟩
    clear fr12 s4 nex ndx nl12 hp12
    obtain ⟨us, hus, blu⟩ := id ht11
    have eW : ((n : Nat) : Int) * ((sz pp : Nat) : Int) = ((n * sz pp : Nat) : Int) := (Int.natCast_mul _ _).symm
    have top : ∀ j, j ≤ pp → 0 < sz j ∧ sz j ≤ 12 := fun j hj => ⟨cn.ch.pos (by omega), Nat.le_trans (cn.ch.mono (i := j) (j := pp) hj (by omega)) z12⟩
    have mem0 : ∀ i2 b, bs[i2]? = some b → bs.take (i2 + 1) = bs.take i2 ++ [b] := fun i2 b hb => by rw [List.take_add_one, hb]; rfl
    have totT : ∀ i2, tot (bs.take i2) ≤ tot bs := fun i2 => by
      have e1 : tot bs = tot (bs.take i2) + tot (bs.drop i2) := by
        show (bs.map fun b => b.2).sum = ((bs.take i2).map fun b => b.2).sum + ((bs.drop i2).map fun b => b.2).sum
        rw [← List.sum_append, ← List.map_append, List.take_append_drop]
      have h2 := HW.len_sum (bs := bs.drop i2) fun b hb => (gb.st.ok b (List.mem_of_mem_drop hb)).2.1
      have : 0 ≤ tot (bs.drop i2) := Int.le_trans (Int.natCast_nonneg _) h2
      omega
    have gl : tot bs ≤ (M : Int) := gb.lim
    refine ⟨.ref t, rfl, t, rfl, ⟨_, .inl (.inl (s12 _ _ hus))⟩, ?_⟩
    refine for_tup (K := K) (a := t) (xs := us) (fun i2 σ H' => ∃ y11 y12 ss, σ = [some (.ref a), some (.int i), some (.ref p), some (.ref c), some (.int M), some (.int n), some (.str r), some (.ref S), y8, some (.ref t), some (.ref h), y11, y12, y13, y14, y15, y16, y17] ∧ JH Z.CHeap h l c r T sz pp n M H11 H' (bs.take i2) ss ∧ ss.length = i2) ⟨_, _, [], rfl, by rw [List.take_zero]; exact j12, rfl⟩ (fun i2 σ H' _ q => ?_) ?_ ?_
    · obtain ⟨_, _, _, _, j, _⟩ := q
      exact .inl (.inl (ext_tup j.ext hus))
    · rintro i2 x σ H13 hx2 ⟨y11, y12, ss, rfl, j13, sl⟩
      obtain ⟨b, hb, u0, rfl, hu0⟩ := BL.get blu hx2
      have hu13 := ext_tup j13.ext hu0
      refine ⟨u0, _, rfl, .inl (.inl hu13), rfl, _, _, rfl, _, _, rfl, rfl, ?_⟩
      dsimp only [gName]
      obtain ⟨dx, t1, xs1, a1⟩ := id j13.gx.hp
      have mb := List.mem_of_getElem? hb
      have et := mem0 i2 b hb
      obtain ⟨k1, k2, k3, k4, k5⟩ := gb.st.ok b mb
      obtain ⟨jj, hjj, ejj⟩ := tl_mem.mp k1
      have lim : tot (bs.take i2) + b.2 ≤ (M : Int) := by
        have h1 := totT (i2 + 1)
        rw [et] at h1
        have h2 : tot (bs.take i2 ++ [b]) = tot (bs.take i2) + b.2 := HW.tt_snoc _ _
        omega
      have fre : ∀ e ∈ bs.take i2, e.1 + e.2 ≤ b.1 := fun e he => by
        have h1 := gb.st.asc.sublist (List.take_sublist (i2 + 1) bs)
        rw [et] at h1
        exact (List.pairwise_append.mp h1).2.2 e he b (List.mem_singleton.mpr rfl)
      have bl13 : (bs.take i2).length ≤ bs.length := by rw [List.length_take]; omega
      have il : i2 < bs.length := (List.getElem?_eq_some_iff.mp hb).1
      refine ⟨.ref h, rfl, h, dx, _, rfl, a1.ob, rfl, .int b.1, rfl, .int b.2, rfl, h, l, c, r, sz, pp, n, M, bs.take i2, ss, b.1, b.2, rfl, j13.gx.hp, k1, lim, by omega, by omega, by omega, by omega, k3, k4, fun e he => .inl (fre e he), by rw [eW]; exact k5, fun H14 ds fr14 hp14 pm srt => ?_⟩
      have eds : ds = bs.take (i2 + 1) := by
        refine perm_lex (by rw [et]; exact pm) srt ?_
        exact (HW.St_lex gb.st).sublist (List.take_sublist (i2 + 1) bs)
      have g14 := j13.gx.put (j := jj) (x := b.1) (by omega) (by rw [← ejj]; exact lim) ⟨by rw [← ejj]; exact k4, k3, by rw [← ejj, eW]; exact k5, fun e he => .inr (fre e he)⟩ (by rw [← ejj]; exact hp14) (by rw [← ejj]; exact pm) srt
      rw [eds] at g14
      exact ⟨_, _, _, rfl, j13.frS fr14 g14, by rw [List.length_append, sl]; rfl⟩
    rintro σ H13 ⟨y11, y12, ss0, rfl, j13, sl⟩
    rw [blu.len] at sl j13
    rw [List.take_of_length_le (Nat.le_refl _)] at j13
    clear mem0 totT
    have hw0 := j13.gx.hw
    have gm13 : GmAt H13 c t sz pp n M 12 bs := ⟨ext_ch j13.ext hc11, cn, sml, ext_st j13.ext ht11, gb⟩
    dsimp only [gName]
    refine ⟨.ref c, rfl, .int M, rfl, .int n, rfl, .ref t, rfl, c, t, sz, pp, n, M, 12, bs, rfl, gm13, lost, fun H14 R yr nr s14 hR hrow nd so inb nl => ⟨R, rfl, ⟨_, .inl (.inl hR)⟩, fun L3 nL3 => ?_⟩⟩
    have yl3 : yr.length = nr.length := Paired.length hrow
    have nl3 : yr.length < sizeLine := by rw [yl3]; exact Nat.lt_of_le_of_lt nl (by decide)
    refine lc_R (walk_tup (K := K) (a := R) (xs := yr)) (fun _ _ _ _ y => YAt.same y) (fun H8 j y => ∃ b, nr[j]? = some b ∧ ∃ T1 u v, y = .ref T1 ∧ H8 T1 = some (.tup [.ref u, v]) ∧ StAt H8 u b ∧ ∃ q, ReqAt H8 v q ∧ Gst sz pp M ((n * sz pp : Nat) : Int) b ∧ ∃ r, Rnk sz pp M ((n * sz pp : Nat) : Int) r b ∧ Goes sz pp M ((n * sz pp : Nat) : Int) r b q ∧ ∀ cs, Beh ((n * sz pp : Nat) : Int) b q cs → cs ∈ nr) (fun H8 H9 _ y kp h => ?_) nL3 nl3 (fun H7 s7 => .inl (.inl (s7 _ _ hR))) (fun j y H8 H9 hj s8 yy Z hZ => ?_) (fun H15 rs s15 hL3 pr4 => ?_)
    · obtain ⟨b, hb, T1, u, v, e, hT1, hu, q, hq, rx⟩ := h
      exact ⟨b, hb, T1, u, v, e, kp _ _ hT1, hu.mono kp, q, reqAt_kp hq kp, rx⟩
    · obtain ⟨rfl, hx⟩ := yy
      obtain ⟨b, hb, T1, u, v, r1, q, rfl, hT1, hu, hv, g1, rk, gs, cl⟩ := Paired.get hrow hx
      have hT8 := s8 _ _ hT1
      refine ⟨rfl, .ref T1, rfl, T1, _, 0, _, rfl, rfl, .inl (.inl hT8), atI_nat (j := 0) rfl, .ref T1, rfl, T1, _, 2, _, rfl, rfl, .inl (.inl hT8), atI_nat (j := 2) rfl, (by show 2 ≤ sizeLine; decide), fun T3 nT3 => ?_⟩
      have sT3 := same_upd (o := .tup [.ref u, v]) nT3
      exact hZ _ _ sT3 ⟨b, hb, T3, u, _, rfl, upd_same, (hu.same s8).same sT3, q, reqAt_kp hv (Same.kt (s8.trans sT3)).kpT, g1, r1, rk, gs, cl⟩
    have pz : Paired (fun z b => ∃ T1 u v, z = .ref T1 ∧ H15 T1 = some (.tup [.ref u, v]) ∧ StAt H15 u b ∧ ∃ q, ReqAt H15 v q ∧ Gst sz pp M ((n * sz pp : Nat) : Int) b ∧ ∃ r, Rnk sz pp M ((n * sz pp : Nat) : Int) r b ∧ Goes sz pp M ((n * sz pp : Nat) : Int) r b q ∧ ∀ cs, Beh ((n * sz pp : Nat) : Int) b q cs → cs ∈ nr) rs nr := by
      have l := Paired.length pr4
      rw [List.length_range] at l
      refine pairedG (by omega) fun i z bs hz hb => ?_
      obtain ⟨k', hk', bs', hb', h⟩ := Paired.get2 pr4 hz
      have hi : i < yr.length := by
        have := (List.getElem?_eq_some_iff.mp hz).1
        omega
      rw [List.getElem?_range hi] at hk'
      cases hk'
      rw [hb] at hb'
      cases hb'
      exact h
    obtain ⟨ps, es, rfl, pt, pe⟩ := tab_pairs (K := K) (F := fun u v b => StAt H15 u b ∧ ∃ q, ReqAt H15 v q ∧ Gst sz pp M ((n * sz pp : Nat) : Int) b ∧ ∃ r, Rnk sz pp M ((n * sz pp : Nat) : Int) r b ∧ Goes sz pp M ((n * sz pp : Nat) : Int) r b q ∧ ∀ cs, Beh ((n * sz pp : Nat) : Int) b q cs → cs ∈ nr) pz
    have ek := tab_keys pe
    have knd : (es.map (·.1)).Nodup := by rw [ek]; exact skeys_nodup nd
    refine ⟨L3, ps, es, rfl, .inl (.inl hL3), pt, fun e he => ?_, fun d H16 nd5 s16 kd5 => ?_⟩
    · obtain ⟨i, hi, ei⟩ := List.getElem_of_mem he
      obtain ⟨b, hb, e1, hu, _⟩ := Paired.get pe (List.getElem?_eq_getElem hi)
      rw [ei] at e1 hu
      rw [e1]
      exact ⟨hu.nk, skey_depth _⟩
    rw [putAllX_nd (xs := []) knd, List.nil_append] at kd5
    have tt16 : ToT w sz pp M ((n * sz pp : Nat) : Int) H16 d nr := ⟨es, kd5, Paired.mono (fun e b ⟨h1, _, q, h2, h3⟩ => ⟨h1, q, reqAt_kp h2 (Same.kt s16).kpT, h3⟩) pe⟩
    have j16 := j13.same (s14.trans (s15.trans s16))
    have gm16 : GmAt H16 c t sz pp n M 12 bs := ⟨ext_ch j16.ext hc11, cn, sml, ext_st j16.ext ht11, gb⟩
    clear pe pt pz hL3 pr4 hrow kd5 hR j13 gm13 s14 s15 s16 so
    dsimp only [gName]
    refine ⟨.ref c, rfl, .int M, rfl, .int n, rfl, .ref t, rfl, c, t, sz, pp, n, M, 12, bs, rfl, gm16, fun H17 v s17 hv => ?_⟩
    rcases hv with ⟨rfl, no⟩ | ⟨r0, rfl, _, rk0⟩
    · obtain ⟨k0, l0⟩ := lost
      exact absurd l0 (no k0)
    have r0l : r0 ≤ 19683 := by
      obtain ⟨as, has, _, al9⟩ := gst_list (s := sz) (p := pp) (M := M) (W := n * sz pp) (by omega : n * sz pp ≤ 12)
      exact Nat.le_trans (rnk_le2 cn.ch has gb rk0) (Nat.le_trans al9 (Nat.le_trans (Nat.pow_le_pow_right (by decide) w9) (by decide)))
    have j17 := j16.same s17
    have tt17 := tt16.same s17
    clear j16 tt16 gm16 s17
    refine ⟨_, _, rfl, ?_⟩
    dsimp only
    refine seq_splitR (fun σ' H' => ∃ (y11 y12 : Option V) (lf : Nat) (cs : List Bk) (ssx : List Tri), σ' = [some (.ref a), some (.int i), some (.ref p), some (.ref c), some (.int M), some (.int n), some (.str r), some (.ref S), y8, some (.ref t), some (.ref h), y11, y12, some (.ref d), some (.int (lf : Int)), some (.bl true), y16, y17] ∧ JH Z.CHeap h l c r T sz pp n M H11 H' cs (ss0 ++ ssx) ∧ ssx.length ≤ r0) (fun D' rt' hD' => ?_) ?_
    · refine ⟨fun m σ H' => ∃ (y11 y12 : Option V) (lf : Nat) (fb : Bool) (cs : List Bk) (ssx : List Tri), σ = [some (.ref a), some (.int i), some (.ref p), some (.ref c), some (.int M), some (.int n), some (.str r), some (.ref S), y8, some (.ref t), some (.ref h), y11, y12, some (.ref d), some (.int (lf : Int)), some (.bl fb), y16, y17] ∧ JH Z.CHeap h l c r T sz pp n M H11 H' cs (ss0 ++ ssx) ∧ ToT w sz pp M ((n * sz pp : Nat) : Int) H' d nr ∧ ssx.length + lf ≤ r0 ∧ (fb = false → cs ∈ nr ∧ ∃ r', r' ≤ lf ∧ Rnk sz pp M ((n * sz pp : Nat) : Int) r' cs) ∧ lf = m,
        ⟨_, _, _, r0, false, bs, [], rfl, by rw [List.append_nil]; exact j17, tt17, by rw [List.length_nil]; omega, fun _ => ⟨inb, r0, Nat.le_refl _, rk0⟩, rfl⟩, ?_⟩
      rintro m σ H18 ⟨y11, y12, lf, fb, cs, ssx, rfl, j18, t18, lx, hf, rfl⟩
      refine ⟨.int _, rfl, _, _, rfl, rfl, _, rfl, ite2 (fun c0 => ?_) (fun c0 => ?_)⟩
      rotate_left
      · refine ite2 (fun z => nomatch z) (fun _ => ?_)
        cases fb with
        | true => exact hD' _ _ ⟨_, _, lf, cs, ssx, rfl, j18, by omega⟩
        | false =>
          obtain ⟨_, r', hr', rk'⟩ := hf rfl
          have : lf = 0 := by
            rcases Nat.eq_zero_or_pos lf with z | z
            · exact z
            · exact absurd (decide_eq_true (show (0 : Int) < (lf : Int) by omega)) c0
          obtain rfl : r' = 0 := by omega
          exact absurd rk'.1 id
      cases fb with
      | true =>
        refine ⟨.bl true, rfl, true, rfl, ite2 (fun z => nomatch z) (fun _ => ?_)⟩
        exact hD' _ _ ⟨_, _, lf, cs, ssx, rfl, j18, by omega⟩
      | false =>
        refine ⟨.bl false, rfl, false, rfl, ite2 (fun _ => ?_) (fun z => absurd rfl z)⟩
        obtain ⟨m1, rfl⟩ : ∃ m1, lf = m1 + 1 := ⟨lf - 1, by have := of_decide_eq_true c0; omega⟩
        have em : ((m1 + 1 : Nat) : Int) - 1 = (m1 : Int) := by omega
        obtain ⟨hcs, r', hr', rk'⟩ := hf rfl
        obtain ⟨es2, v, q2, kd18, vr, hv, g18, r2, rk2, gs, cl⟩ := t18.get hcs
        obtain ⟨dx, t1, xs1, a1⟩ := id j18.gx.hp
        have sll : (ss0 ++ ssx).length ≤ 900000 := by rw [List.length_append]; omega
        refine ⟨_, fun σ' H' h => h, ?_⟩
        refine ⟨.int _, rfl, _, _, rfl, rfl, .ref h, rfl, .ref d, rfl, .ref h, rfl, h, dx, _, rfl, a1.ob, rfl, h, l, c, r, sz, pp, n, M, cs, _, rfl, j18.gx.hp, fun t2 ht2 => ?_⟩
        refine ⟨d, t2, es2, skey cs, v, rfl, rfl, kd18.r, ht2.nk, skey_depth _, vr, ?_⟩
        refine ⟨h, l, c, r, sz, pp, n, M, 12, cs, ss0 ++ ssx, v, q2, rfl, j18.gx, hr4, hv, cn, z12, p5, n12, by omega, sll, j18.tb, ?_, fun H19 cs' t' fN tb g19 bh => ?_, fun z ez np H19 x19 tb19 => ?_⟩
        · cases q2 with
          | fr a' =>
            obtain ⟨b, hb, e, _⟩ := gs
            exact ⟨b, hb, e⟩
          | gt z =>
            obtain ⟨j, hj, e, lim, _⟩ := gs
            exact ⟨j, hj, e, lim⟩
        · refine ⟨_, _, rfl, m1, by omega, y11, y12, m1, false, cs', ssx ++ [t'], by dsimp only; rw [em]; rfl, by rw [← List.append_assoc]; exact j18.fr fN tb g19, t18.fr j18.gx fN, by rw [List.length_append]; show ssx.length + 1 + m1 ≤ r0; omega, fun _ => ⟨cl cs' bh, ?_⟩, rfl⟩
          obtain ⟨_, _, _, _, _, _, _, r3, rk3, _⟩ := t18.get (cl cs' bh)
          obtain ⟨k3, ek, lk⟩ := goes_lst gs bh
          have h1 := rk3.le lk
          have h2 := rk2.uniq rk'
          exact ⟨r3, by omega, rk3⟩
        · exact ⟨_, _, rfl, m1, by omega, y11, y12, m1, true, cs, ssx, by dsimp only; rw [em]; rfl, j18.extN x19 tb19, t18.extN x19, by omega, (fun z => nomatch z), rfl⟩
    rintro σ' H20 ⟨y11, y12, lf, cs, ssx, rfl, j20, lx⟩
    obtain ⟨dx, t1, xs1, a1⟩ := id j20.gx.hp
    have sll : (ss0 ++ ssx).length ≤ 100000 := by rw [List.length_append]; omega
    refine ⟨.ref c, rfl, .int n, rfl, .int M, rfl, .ref h, rfl, h, dx, _, rfl, a1.ob, rfl, h, l, c, r, sz, pp, n, M, cs, ss0 ++ ssx, rfl, j20.gx.hp, by omega, fun t ht => j20.gx.hw.gf t (List.mem_reverse.mpr ht), fun H21 u s21 hu => ?_⟩
    refine ⟨c, u, sz, pp, n, M, 12, ss0 ++ ssx, cs, rfl, (ext_ch j20.ext hc11).keep s21, cn, by decide, by omega, by omega, by omega, hu, sll, j20.gx.hw, fun H22 h2 l2 s22 nh2 nl2 hp22 => ?_⟩
    have j22 := j20.same (s21.trans s22)
    obtain ⟨dx2, t2, xs2, a2⟩ := id hp22
    obtain ⟨dx3, t3, xs3, a3⟩ := id j22.gx.hp
    dsimp only [gName]
    refine ⟨.bl true, rfl, true, rfl, ite2 (fun z => nomatch z) (fun _ => ?_)⟩
    refine ⟨.ref h2, rfl, h2, dx2, _, rfl, a2.ob, rfl, h2, l2, c, "lowest", sz, pp, n, M, cs, _, rfl, hp22, fun t4 ht4 => ⟨.ref h, rfl, h, dx3, _, rfl, a3.ob, rfl, h, l, c, r, sz, pp, n, M, cs, _, rfl, j22.gx.hp, fun t5 ht5 => ⟨stD cs, stD cs, ht4.dp, ht5.dp, stD_shaped cs, stD_shaped cs, _, rfl, ite2 (fun z => absurd z (by rw [eqv_stD]; simp)) (fun _ => ?_)⟩⟩⟩
    have hus22 := ext_tup j22.ext hus
    have usl : us.length = ss0.length := by rw [blu.len, sl]
    have hN : (ss0 ++ ssx).length = ss0.length + ssx.length := List.length_append
    refine ⟨.ref h, rfl, h, dx3, _, rfl, a3.ob, h, l, c, r, sz, pp, n, M, cs, _, rfl, j22.gx.hp, (ss0 ++ ssx).length, rfl, by omega, .ref t, rfl, t, _, rfl, .inr (.inl (.inl hus22)), _, _, rfl, rfl, ?_⟩
    have ez : (((ss0 ++ ssx).length : Nat) : Int) - ((us.length : Nat) : Int) = ((ssx.length : Nat) : Int) := by omega
    refine ⟨((ssx.length : Nat) : Int), congrArg (fun x => [V.int x]) ez, by omega, by omega, ?_⟩
    refine for_range (lo := 0) (n := (((ssx.length : Nat) : Int)).toNat) (fun i3 σ H' => ∃ y8, σ = [some (.ref a), some (.int i), some (.ref p), some (.ref c), some (.int M), some (.int n), some (.str r), some (.ref S), y8, some (.ref t), some (.ref h), y11, y12, some (.ref d), some (.int (lf : Int)), some (.bl true), some (.ref h2), y17] ∧ ∃ cs3, JH Z.CHeap h l c r T sz pp n M H11 H' cs3 ((ss0 ++ ssx).take (ss0.length + ssx.length - i3))) ⟨_, rfl, cs, by rw [Nat.sub_zero, ← hN, List.take_of_length_le (Nat.le_refl _)]; exact j22⟩ ?_ ?_
    · rintro i3 σ H23 hi3 ⟨y8', rfl, cs3, j23⟩
      rw [Int.toNat_natCast] at hi3
      obtain ⟨st, est⟩ : ∃ st, (ss0 ++ ssx).take (ss0.length + ssx.length - i3) = (ss0 ++ ssx).take (ss0.length + ssx.length - (i3 + 1)) ++ [st] := by
        have e1 : ss0.length + ssx.length - i3 = (ss0.length + ssx.length - (i3 + 1)) + 1 := by omega
        have lt : ss0.length + ssx.length - (i3 + 1) < (ss0 ++ ssx).length := by omega
        exact ⟨_, by rw [e1, List.take_add_one, List.getElem?_eq_getElem lt]; rfl⟩
      obtain ⟨dx4, t4, xs4, a4⟩ := id j23.gx.hp
      have g23 := j23.gx
      rw [est] at g23
      refine ⟨.ref h, rfl, h, dx4, _, rfl, a4.ob, rfl, ?_⟩
      dsimp only [tNil]
      refine un_use cn.ch g23 (by omega) fun H24 cs4 fr24 g24 => ?_
      exact ⟨_, rfl, cs4, j23.frS fr24 g24⟩
    rintro σ H23 ⟨y8', rfl, cs3, j23⟩
    rw [Int.toNat_natCast, show ss0.length + ssx.length - ssx.length = ss0.length by omega, List.take_left] at j23
    obtain rfl := j23.gx.hw.uniq cn.ch hw0
    obtain ⟨dx4, t4, xs4, a4⟩ := id j23.gx.hp
    refine ⟨.ref h, rfl, h, dx4, _, rfl, a4.ob, rfl, h, l, c, r, sz, pp, n, M, cs3, _, rfl, j23.gx.hp, fun t6 ht6 => ⟨.ref t, rfl, stD cs3, stD cs3, ht6.dp, (ext_st j23.ext ht11).dp, stD_shaped _, stD_shaped _, _, rfl, ite2 (fun z => absurd z (by rw [eqv_stD]; simp)) (fun _ => ?_)⟩⟩
    exact ⟨_, _, _, _, _, _, _, _, _, _, rfl, x11.trans j23.ext, j23.tb⟩
end
end Ph

set_option maxHeartbeats 8000000
namespace Ph
open PySem PySem.Spec PyProof.Rows L2
theorem all_mk {l : PySem.W.OpenLaw} {w : World} {K : PySem.W.Frag} {h : Heap} {mg : Str → Option Value} {fa : Addr} (X : K.In h) (G : h.Ns mainGlobals mg) (hfa : mg "law" = some (.ref fa)) {q : Program} (TT : TabsTold q K h)
    {CHeap : Addr} (aCHeap : PySem.W.nsIn K mainGlobals "Heap" = some (some (.ref CHeap))) (pgHeap : PySem.W.plainGet K CHeap Str.empty = true) (hdHeap : PySem.W.hasDictIn K CHeap = true) (poHeap : PySem.W.plainOver K CHeap = true) (saHeap : PySem.W.findIn K (.ref CHeap) "__setattr__" = some (some (.builtin "object.__setattr__"))) (mkHeap : PySem.W.makesIn K CHeap = true) (kcHeap : PySem.W.keepIn K (.ref CHeap) = true)
    (naHeap_chain : PySem.W.findIn K (.ref CHeap) "chain" = some none)
    (naHeap_pages : PySem.W.findIn K (.ref CHeap) "pages" = some none)
    (naHeap_limit : PySem.W.findIn K (.ref CHeap) "limit" = some none)
    (naHeap_rule : PySem.W.findIn K (.ref CHeap) "rule" = some none)
    (naHeap_blocks : PySem.W.findIn K (.ref CHeap) "blocks" = some none)
    (naHeap_steps : PySem.W.findIn K (.ref CHeap) "steps" = some none)
    {CHeapError : Addr} (aCHeapError : PySem.W.nsIn K mainGlobals "HeapError" = some (some (.ref CHeapError)))
    {CNoRoom : Addr} (aCNoRoom : PySem.W.nsIn K mainGlobals "NoRoom" = some (some (.ref CNoRoom)))
    (bxH : PySem.W.subIn K (.ref CHeapError) (.type "BaseException") = some true) (hdH : PySem.W.hasDictIn K CHeapError = true) (tyH : PySem.W.typeIn K (.ref CHeapError) = some (.type "type"))
    (zve : PySem.W.nsIn K mainGlobals "ValueError" = some none)
    (cgX : PySem.W.specialIn K (.builtin "object.__class__") "__get__" = some (some (.builtin "getset_descriptor.__get__"))) (ctX : PySem.W.takesIn K (.builtin "object.__class__") = some true)
    {nmNoRoom qNoRoom : Str} {NNoRoom : Addr} {bsNoRoom : List Value} {snNoRoom : List Str} {subNoRoom : List Value} {abNoRoom : Bool} {colNoRoom : Option Bool} {ddNoRoom : Option Addr} {m0NoRoom m1NoRoom m2NoRoom m3NoRoom m5NoRoom : Option Value}
    (xLNoRoom : K.lookup CNoRoom = some (excClassObj nmNoRoom qNoRoom CNoRoom NNoRoom bsNoRoom [.ref CHeapError, .type "ValueError", .type "Exception", .type "BaseException", .type "object"] true snNoRoom subNoRoom abNoRoom colNoRoom ddNoRoom m0NoRoom m1NoRoom m2NoRoom m3NoRoom m5NoRoom "ValueError.__new__"))
    (saNoRoom : PySem.W.findIn K (.ref CNoRoom) "__setattr__" = some (some (.builtin "object.__setattr__"))) (bxNoRoom : PySem.W.subIn K (.ref CNoRoom) (.type "BaseException") = some true) (tyNoRoom : PySem.W.typeIn K (.ref CNoRoom) = some (.type "type")) (kpNoRoom : PySem.W.keepIn K (.ref CNoRoom) = true)
    (gaNoRoom : PySem.W.findIn K (.ref CNoRoom) "__getattribute__" = some (some (.builtin "BaseException.__getattribute__"))) (ggNoRoom : PySem.W.findIn K (.ref CNoRoom) "__getattr__" = some none) (hdNoRoom : PySem.W.hasDictIn K CNoRoom = true) (caNoRoom : PySem.W.findIn K (.ref CNoRoom) "__class__" = some (some (.builtin "object.__class__"))) (moNoRoom : PySem.W.mroIn K CNoRoom (.type "object") = some true)
    (sHNoRoom : PySem.W.subIn K (.ref CNoRoom) (.ref CHeapError) = some true) (isNoRoom_ValueError : PySem.W.kitOne K (.ref CNoRoom) (.type "ValueError") = some true)
    (nfNoRoom_size : PySem.W.findIn K (.ref CNoRoom) "size" = some none)
    (isNoRoom_HeapError : PySem.W.kitOne K (.ref CNoRoom) (.ref CHeapError) = some true)
    (isNoRoom_NoRoom : PySem.W.kitOne K (.ref CNoRoom) (.ref CNoRoom) = some true)
    (ssNoRoom_NoRoom : PySem.W.subIn K (.ref CNoRoom) (.ref CNoRoom) = some true)
    {t_MOST_SIZES : Tok} (v_MOST_SIZES : PySem.W.nsIn K mainGlobals "MOST_SIZES" = some (some (.int 12 t_MOST_SIZES)))
    {t_LARGEST_SIZE : Tok} (v_LARGEST_SIZE : PySem.W.nsIn K mainGlobals "LARGEST_SIZE" = some (some (.int 1000000000 t_LARGEST_SIZE)))
    {t_MOST_STATES : Tok} (v_MOST_STATES : PySem.W.nsIn K mainGlobals "MOST_STATES" = some (some (.int 20000 t_MOST_STATES)))
    {t_MOST_WORDS : Tok} (v_MOST_WORDS : PySem.W.nsIn K mainGlobals "MOST_WORDS" = some (some (.int 14 t_MOST_WORDS)))
    {a_RULES : Addr} {t_RULES0 t_RULES1 t_RULES2 t_RULES3 : Tok} {od_RULES : Option Addr} {nn_RULES : Nat} {sl_RULES : Array (Option Value)} (v_RULES : PySem.W.nsIn K mainGlobals "RULES" = some (some (.ref a_RULES))) (l_RULES : K.lookup a_RULES = some ⟨.type "tuple", od_RULES, .seq #[.str "lowest" t_RULES0, .str "highest" t_RULES1, .str "tight" t_RULES2, .str "loose" t_RULES3] nn_RULES, sl_RULES⟩)
    {f1 : Addr} {od1 an1 : Option Addr} {sl1 : Array (Option Value)} {oc1 kV1 dc1 pm1 cd1 ct1 : Value} (a1 : PySem.W.findIn K (.ref CNoRoom) "__init__" = some (some (.ref f1))) (i1 : PySem.W.typeIn K (.ref f1) = some (.type "function")) (l1 : K.lookup f1 = some ⟨oc1, od1, .func (PySem.W.fnOf "__init__" "NoRoom.__init__" (defArgs (inClass (topS 12) 0)) (defBody (inClass (topS 12) 0)) (defScope (inClass (topS 12) 0)) .none kV1 dc1 pm1 an1 cd1 ct1), sl1⟩) (c1 : PySem.W.codeIn K cd1 "NoRoom.__init__" = true) (k1 : PySem.W.keepIn K (.ref f1) = true)
    {f2 : Addr} {od2 an2 : Option Addr} {sl2 : Array (Option Value)} {oc2 kV2 dc2 pm2 cd2 ct2 : Value} (a2 : PySem.W.nsIn K mainGlobals "is_integer" = some (some (.ref f2))) (l2 : K.lookup f2 = some ⟨oc2, od2, .func (PySem.W.fnOf "is_integer" "is_integer" (defArgs (topS 18)) (defBody (topS 18)) (defScope (topS 18)) .none kV2 dc2 pm2 an2 cd2 ct2), sl2⟩) (c2 : PySem.W.codeIn K cd2 "is_integer" = true) (k2 : PySem.W.keepIn K (.ref f2) = true)
    {f3 : Addr} {od3 an3 : Option Addr} {sl3 : Array (Option Value)} {oc3 kV3 dc3 pm3 cd3 ct3 : Value} (a3 : PySem.W.nsIn K mainGlobals "divided_up" = some (some (.ref f3))) (l3 : K.lookup f3 = some ⟨oc3, od3, .func (PySem.W.fnOf "divided_up" "divided_up" (defArgs (topS 19)) (defBody (topS 19)) (defScope (topS 19)) .none kV3 dc3 pm3 an3 cd3 ct3), sl3⟩) (c3 : PySem.W.codeIn K cd3 "divided_up" = true) (k3 : PySem.W.keepIn K (.ref f3) = true)
    {f4 : Addr} {od4 an4 : Option Addr} {sl4 : Array (Option Value)} {oc4 kV4 dc4 pm4 cd4 ct4 : Value} (a4 : PySem.W.nsIn K mainGlobals "is_chain" = some (some (.ref f4))) (l4 : K.lookup f4 = some ⟨oc4, od4, .func (PySem.W.fnOf "is_chain" "is_chain" (defArgs (topS 23)) (defBody (topS 23)) (defScope (topS 23)) .none kV4 dc4 pm4 an4 cd4 ct4), sl4⟩) (c4 : PySem.W.codeIn K cd4 "is_chain" = true) (k4 : PySem.W.keepIn K (.ref f4) = true)
    {f5 : Addr} {od5 an5 : Option Addr} {sl5 : Array (Option Value)} {oc5 kV5 dc5 pm5 cd5 ct5 : Value} (a5 : PySem.W.nsIn K mainGlobals "may_follow" = some (some (.ref f5))) (l5 : K.lookup f5 = some ⟨oc5, od5, .func (PySem.W.fnOf "may_follow" "may_follow" (defArgs (topS 24)) (defBody (topS 24)) (defScope (topS 24)) .none kV5 dc5 pm5 an5 cd5 ct5), sl5⟩) (c5 : PySem.W.codeIn K cd5 "may_follow" = true) (k5 : PySem.W.keepIn K (.ref f5) = true)
    {f6 : Addr} {od6 an6 : Option Addr} {sl6 : Array (Option Value)} {oc6 kV6 dc6 pm6 cd6 ct6 : Value} (a6 : PySem.W.nsIn K mainGlobals "is_size" = some (some (.ref f6))) (l6 : K.lookup f6 = some ⟨oc6, od6, .func (PySem.W.fnOf "is_size" "is_size" (defArgs (topS 25)) (defBody (topS 25)) (defScope (topS 25)) .none kV6 dc6 pm6 an6 cd6 ct6), sl6⟩) (c6 : PySem.W.codeIn K cd6 "is_size" = true) (k6 : PySem.W.keepIn K (.ref f6) = true)
    {f7 : Addr} {od7 an7 : Option Addr} {sl7 : Array (Option Value)} {oc7 kV7 dc7 pm7 cd7 ct7 : Value} (a7 : PySem.W.nsIn K mainGlobals "class_of" = some (some (.ref f7))) (l7 : K.lookup f7 = some ⟨oc7, od7, .func (PySem.W.fnOf "class_of" "class_of" (defArgs (topS 26)) (defBody (topS 26)) (defScope (topS 26)) .none kV7 dc7 pm7 an7 cd7 ct7), sl7⟩) (c7 : PySem.W.codeIn K cd7 "class_of" = true) (k7 : PySem.W.keepIn K (.ref f7) = true)
    {f8 : Addr} {od8 an8 : Option Addr} {sl8 : Array (Option Value)} {oc8 kV8 dc8 pm8 cd8 ct8 : Value} (a8 : PySem.W.nsIn K mainGlobals "is_state" = some (some (.ref f8))) (l8 : K.lookup f8 = some ⟨oc8, od8, .func (PySem.W.fnOf "is_state" "is_state" (defArgs (topS 30)) (defBody (topS 30)) (defScope (topS 30)) .none kV8 dc8 pm8 an8 cd8 ct8), sl8⟩) (c8 : PySem.W.codeIn K cd8 "is_state" = true) (k8 : PySem.W.keepIn K (.ref f8) = true)
    {f9 : Addr} {od9 an9 : Option Addr} {sl9 : Array (Option Value)} {oc9 kV9 dc9 pm9 cd9 ct9 : Value} (a9 : PySem.W.nsIn K mainGlobals "is_block" = some (some (.ref f9))) (l9 : K.lookup f9 = some ⟨oc9, od9, .func (PySem.W.fnOf "is_block" "is_block" (defArgs (topS 31)) (defBody (topS 31)) (defScope (topS 31)) .none kV9 dc9 pm9 an9 cd9 ct9), sl9⟩) (c9 : PySem.W.codeIn K cd9 "is_block" = true) (k9 : PySem.W.keepIn K (.ref f9) = true)
    {f10 : Addr} {od10 an10 : Option Addr} {sl10 : Array (Option Value)} {oc10 kV10 dc10 pm10 cd10 ct10 : Value} (a10 : PySem.W.nsIn K mainGlobals "live_words" = some (some (.ref f10))) (l10 : K.lookup f10 = some ⟨oc10, od10, .func (PySem.W.fnOf "live_words" "live_words" (defArgs (topS 32)) (defBody (topS 32)) (defScope (topS 32)) .none kV10 dc10 pm10 an10 cd10 ct10), sl10⟩) (c10 : PySem.W.codeIn K cd10 "live_words" = true) (k10 : PySem.W.keepIn K (.ref f10) = true)
    {f11 : Addr} {od11 an11 : Option Addr} {sl11 : Array (Option Value)} {oc11 kV11 dc11 pm11 cd11 ct11 : Value} (a11 : PySem.W.nsIn K mainGlobals "places" = some (some (.ref f11))) (l11 : K.lookup f11 = some ⟨oc11, od11, .func (PySem.W.fnOf "places" "places" (defArgs (topS 33)) (defBody (topS 33)) (defScope (topS 33)) .none kV11 dc11 pm11 an11 cd11 ct11), sl11⟩) (c11 : PySem.W.codeIn K cd11 "places" = true) (k11 : PySem.W.keepIn K (.ref f11) = true)
    {f12 : Addr} {od12 an12 : Option Addr} {sl12 : Array (Option Value)} {oc12 kV12 dc12 pm12 cd12 ct12 : Value} (a12 : PySem.W.nsIn K mainGlobals "gaps" = some (some (.ref f12))) (l12 : K.lookup f12 = some ⟨oc12, od12, .func (PySem.W.fnOf "gaps" "gaps" (defArgs (topS 34)) (defBody (topS 34)) (defScope (topS 34)) .none kV12 dc12 pm12 an12 cd12 ct12), sl12⟩) (c12 : PySem.W.codeIn K cd12 "gaps" = true) (k12 : PySem.W.keepIn K (.ref f12) = true)
    {f13 : Addr} {od13 an13 : Option Addr} {sl13 : Array (Option Value)} {oc13 kV13 dc13 pm13 cd13 ct13 : Value} (a13 : PySem.W.nsIn K mainGlobals "is_place" = some (some (.ref f13))) (l13 : K.lookup f13 = some ⟨oc13, od13, .func (PySem.W.fnOf "is_place" "is_place" (defArgs (topS 35)) (defBody (topS 35)) (defScope (topS 35)) .none kV13 dc13 pm13 an13 cd13 ct13), sl13⟩) (c13 : PySem.W.codeIn K cd13 "is_place" = true) (k13 : PySem.W.keepIn K (.ref f13) = true)
    {f14 : Addr} {od14 an14 : Option Addr} {sl14 : Array (Option Value)} {oc14 kV14 dc14 pm14 cd14 ct14 : Value} (a14 : PySem.W.nsIn K mainGlobals "may_hold" = some (some (.ref f14))) (l14 : K.lookup f14 = some ⟨oc14, od14, .func (PySem.W.fnOf "may_hold" "may_hold" (defArgs (topS 36)) (defBody (topS 36)) (defScope (topS 36)) .none kV14 dc14 pm14 an14 cd14 ct14), sl14⟩) (c14 : PySem.W.codeIn K cd14 "may_hold" = true) (k14 : PySem.W.keepIn K (.ref f14) = true)
    {f15 : Addr} {od15 an15 : Option Addr} {sl15 : Array (Option Value)} {oc15 kV15 dc15 pm15 cd15 ct15 : Value} (a15 : PySem.W.nsIn K mainGlobals "with_block" = some (some (.ref f15))) (l15 : K.lookup f15 = some ⟨oc15, od15, .func (PySem.W.fnOf "with_block" "with_block" (defArgs (topS 37)) (defBody (topS 37)) (defScope (topS 37)) .none kV15 dc15 pm15 an15 cd15 ct15), sl15⟩) (c15 : PySem.W.codeIn K cd15 "with_block" = true) (k15 : PySem.W.keepIn K (.ref f15) = true)
    {f16 : Addr} {od16 an16 : Option Addr} {sl16 : Array (Option Value)} {oc16 kV16 dc16 pm16 cd16 ct16 : Value} (a16 : PySem.W.nsIn K mainGlobals "without_block" = some (some (.ref f16))) (l16 : K.lookup f16 = some ⟨oc16, od16, .func (PySem.W.fnOf "without_block" "without_block" (defArgs (topS 38)) (defBody (topS 38)) (defScope (topS 38)) .none kV16 dc16 pm16 an16 cd16 ct16), sl16⟩) (c16 : PySem.W.codeIn K cd16 "without_block" = true) (k16 : PySem.W.keepIn K (.ref f16) = true)
    {f17 : Addr} {od17 an17 : Option Addr} {sl17 : Array (Option Value)} {oc17 kV17 dc17 pm17 cd17 ct17 : Value} (a17 : PySem.W.nsIn K mainGlobals "has_block" = some (some (.ref f17))) (l17 : K.lookup f17 = some ⟨oc17, od17, .func (PySem.W.fnOf "has_block" "has_block" (defArgs (topS 39)) (defBody (topS 39)) (defScope (topS 39)) .none kV17 dc17 pm17 an17 cd17 ct17), sl17⟩) (c17 : PySem.W.codeIn K cd17 "has_block" = true) (k17 : PySem.W.keepIn K (.ref f17) = true)
    {f18 : Addr} {od18 an18 : Option Addr} {sl18 : Array (Option Value)} {oc18 kV18 dc18 pm18 cd18 ct18 : Value} (a18 : PySem.W.nsIn K mainGlobals "count_states" = some (some (.ref f18))) (l18 : K.lookup f18 = some ⟨oc18, od18, .func (PySem.W.fnOf "count_states" "count_states" (defArgs (topS 40)) (defBody (topS 40)) (defScope (topS 40)) .none kV18 dc18 pm18 an18 cd18 ct18), sl18⟩) (c18 : PySem.W.codeIn K cd18 "count_states" = true) (k18 : PySem.W.keepIn K (.ref f18) = true)
    {f19 : Addr} {od19 an19 : Option Addr} {sl19 : Array (Option Value)} {oc19 kV19 dc19 pm19 cd19 ct19 : Value} (a19 : PySem.W.nsIn K mainGlobals "power" = some (some (.ref f19))) (l19 : K.lookup f19 = some ⟨oc19, od19, .func (PySem.W.fnOf "power" "power" (defArgs (topS 41)) (defBody (topS 41)) (defScope (topS 41)) .none kV19 dc19 pm19 an19 cd19 ct19), sl19⟩) (c19 : PySem.W.codeIn K cd19 "power" = true) (k19 : PySem.W.keepIn K (.ref f19) = true)
    {f20 : Addr} {od20 an20 : Option Addr} {sl20 : Array (Option Value)} {oc20 kV20 dc20 pm20 cd20 ct20 : Value} (a20 : PySem.W.nsIn K mainGlobals "check_many" = some (some (.ref f20))) (l20 : K.lookup f20 = some ⟨oc20, od20, .func (PySem.W.fnOf "check_many" "check_many" (defArgs (topS 42)) (defBody (topS 42)) (defScope (topS 42)) .none kV20 dc20 pm20 an20 cd20 ct20), sl20⟩) (c20 : PySem.W.codeIn K cd20 "check_many" = true) (k20 : PySem.W.keepIn K (.ref f20) = true)
    {f21 : Addr} {od21 an21 : Option Addr} {sl21 : Array (Option Value)} {oc21 kV21 dc21 pm21 cd21 ct21 : Value} (a21 : PySem.W.nsIn K mainGlobals "check_heap" = some (some (.ref f21))) (l21 : K.lookup f21 = some ⟨oc21, od21, .func (PySem.W.fnOf "check_heap" "check_heap" (defArgs (topS 43)) (defBody (topS 43)) (defScope (topS 43)) .none kV21 dc21 pm21 an21 cd21 ct21), sl21⟩) (c21 : PySem.W.codeIn K cd21 "check_heap" = true) (k21 : PySem.W.keepIn K (.ref f21) = true)
    {f22 : Addr} {od22 an22 : Option Addr} {sl22 : Array (Option Value)} {oc22 kV22 dc22 pm22 cd22 ct22 : Value} (a22 : PySem.W.nsIn K mainGlobals "all_states" = some (some (.ref f22))) (l22 : K.lookup f22 = some ⟨oc22, od22, .func (PySem.W.fnOf "all_states" "all_states" (defArgs (topS 44)) (defBody (topS 44)) (defScope (topS 44)) .none kV22 dc22 pm22 an22 cd22 ct22), sl22⟩) (c22 : PySem.W.codeIn K cd22 "all_states" = true) (k22 : PySem.W.keepIn K (.ref f22) = true)
    {f23 : Addr} {od23 an23 : Option Addr} {sl23 : Array (Option Value)} {oc23 kV23 dc23 pm23 cd23 ct23 : Value} (a23 : PySem.W.nsIn K mainGlobals "states_of_words" = some (some (.ref f23))) (l23 : K.lookup f23 = some ⟨oc23, od23, .func (PySem.W.fnOf "states_of_words" "states_of_words" (defArgs (topS 45)) (defBody (topS 45)) (defScope (topS 45)) .none kV23 dc23 pm23 an23 cd23 ct23), sl23⟩) (c23 : PySem.W.codeIn K cd23 "states_of_words" = true) (k23 : PySem.W.keepIn K (.ref f23) = true)
    {f24 : Addr} {od24 an24 : Option Addr} {sl24 : Array (Option Value)} {oc24 kV24 dc24 pm24 cd24 ct24 : Value} (a24 : PySem.W.nsIn K mainGlobals "moves_to_fail" = some (some (.ref f24))) (l24 : K.lookup f24 = some ⟨oc24, od24, .func (PySem.W.fnOf "moves_to_fail" "moves_to_fail" (defArgs (topS 47)) (defBody (topS 47)) (defScope (topS 47)) .none kV24 dc24 pm24 an24 cd24 ct24), sl24⟩) (c24 : PySem.W.codeIn K cd24 "moves_to_fail" = true) (k24 : PySem.W.keepIn K (.ref f24) = true)
    {f25 : Addr} {od25 an25 : Option Addr} {sl25 : Array (Option Value)} {oc25 kV25 dc25 pm25 cd25 ct25 : Value} (a25 : PySem.W.nsIn K mainGlobals "strategy" = some (some (.ref f25))) (l25 : K.lookup f25 = some ⟨oc25, od25, .func (PySem.W.fnOf "strategy" "strategy" (defArgs (topS 48)) (defBody (topS 48)) (defScope (topS 48)) .none kV25 dc25 pm25 an25 cd25 ct25), sl25⟩) (c25 : PySem.W.codeIn K cd25 "strategy" = true) (k25 : PySem.W.keepIn K (.ref f25) = true)
    {f26 : Addr} {od26 an26 : Option Addr} {sl26 : Array (Option Value)} {oc26 kV26 dc26 pm26 cd26 ct26 : Value} (a26 : PySem.W.nsIn K mainGlobals "states_behind" = some (some (.ref f26))) (l26 : K.lookup f26 = some ⟨oc26, od26, .func (PySem.W.fnOf "states_behind" "states_behind" (defArgs (topS 49)) (defBody (topS 49)) (defScope (topS 49)) .none kV26 dc26 pm26 an26 cd26 ct26), sl26⟩) (c26 : PySem.W.codeIn K cd26 "states_behind" = true) (k26 : PySem.W.keepIn K (.ref f26) = true)
    {f27 : Addr} {od27 an27 : Option Addr} {sl27 : Array (Option Value)} {oc27 kV27 dc27 pm27 cd27 ct27 : Value} (a27 : PySem.W.nsIn K mainGlobals "check_state" = some (some (.ref f27))) (l27 : K.lookup f27 = some ⟨oc27, od27, .func (PySem.W.fnOf "check_state" "check_state" (defArgs (topS 50)) (defBody (topS 50)) (defScope (topS 50)) .none kV27 dc27 pm27 an27 cd27 ct27), sl27⟩) (c27 : PySem.W.codeIn K cd27 "check_state" = true) (k27 : PySem.W.keepIn K (.ref f27) = true)
    {f28 : Addr} {od28 an28 : Option Addr} {sl28 : Array (Option Value)} {oc28 kV28 dc28 pm28 cd28 ct28 : Value} (a28 : PySem.W.nsIn K mainGlobals "allowed_sizes" = some (some (.ref f28))) (l28 : K.lookup f28 = some ⟨oc28, od28, .func (PySem.W.fnOf "allowed_sizes" "allowed_sizes" (defArgs (topS 51)) (defBody (topS 51)) (defScope (topS 51)) .none kV28 dc28 pm28 an28 cd28 ct28), sl28⟩) (c28 : PySem.W.codeIn K cd28 "allowed_sizes" = true) (k28 : PySem.W.keepIn K (.ref f28) = true)
    {f29 : Addr} {od29 an29 : Option Addr} {sl29 : Array (Option Value)} {oc29 kV29 dc29 pm29 cd29 ct29 : Value} (a29 : PySem.W.nsIn K mainGlobals "unsafe_states" = some (some (.ref f29))) (l29 : K.lookup f29 = some ⟨oc29, od29, .func (PySem.W.fnOf "unsafe_states" "unsafe_states" (defArgs (topS 52)) (defBody (topS 52)) (defScope (topS 52)) .none kV29 dc29 pm29 an29 cd29 ct29), sl29⟩) (c29 : PySem.W.codeIn K cd29 "unsafe_states" = true) (k29 : PySem.W.keepIn K (.ref f29) = true)
    {f30 : Addr} {od30 an30 : Option Addr} {sl30 : Array (Option Value)} {oc30 kV30 dc30 pm30 cd30 ct30 : Value} (a30 : PySem.W.nsIn K mainGlobals "states_before" = some (some (.ref f30))) (l30 : K.lookup f30 = some ⟨oc30, od30, .func (PySem.W.fnOf "states_before" "states_before" (defArgs (topS 53)) (defBody (topS 53)) (defScope (topS 53)) .none kV30 dc30 pm30 an30 cd30 ct30), sl30⟩) (c30 : PySem.W.codeIn K cd30 "states_before" = true) (k30 : PySem.W.keepIn K (.ref f30) = true)
    {f31 : Addr} {od31 an31 : Option Addr} {sl31 : Array (Option Value)} {oc31 kV31 dc31 pm31 cd31 ct31 : Value} (a31 : PySem.W.nsIn K mainGlobals "requests_into" = some (some (.ref f31))) (l31 : K.lookup f31 = some ⟨oc31, od31, .func (PySem.W.fnOf "requests_into" "requests_into" (defArgs (topS 54)) (defBody (topS 54)) (defScope (topS 54)) .none kV31 dc31 pm31 an31 cd31 ct31), sl31⟩) (c31 : PySem.W.codeIn K cd31 "requests_into" = true) (k31 : PySem.W.keepIn K (.ref f31) = true)
    {f32 : Addr} {od32 an32 : Option Addr} {sl32 : Array (Option Value)} {oc32 kV32 dc32 pm32 cd32 ct32 : Value} (a32 : PySem.W.nsIn K mainGlobals "is_rule" = some (some (.ref f32))) (l32 : K.lookup f32 = some ⟨oc32, od32, .func (PySem.W.fnOf "is_rule" "is_rule" (defArgs (topS 57)) (defBody (topS 57)) (defScope (topS 57)) .none kV32 dc32 pm32 an32 cd32 ct32), sl32⟩) (c32 : PySem.W.codeIn K cd32 "is_rule" = true) (k32 : PySem.W.keepIn K (.ref f32) = true)
    {f33 : Addr} {od33 an33 : Option Addr} {sl33 : Array (Option Value)} {oc33 kV33 dc33 pm33 cd33 ct33 : Value} (a33 : PySem.W.nsIn K mainGlobals "place" = some (some (.ref f33))) (l33 : K.lookup f33 = some ⟨oc33, od33, .func (PySem.W.fnOf "place" "place" (defArgs (topS 58)) (defBody (topS 58)) (defScope (topS 58)) .none kV33 dc33 pm33 an33 cd33 ct33), sl33⟩) (c33 : PySem.W.codeIn K cd33 "place" = true) (k33 : PySem.W.keepIn K (.ref f33) = true)
    {f34 : Addr} {od34 an34 : Option Addr} {sl34 : Array (Option Value)} {oc34 kV34 dc34 pm34 cd34 ct34 : Value} (a34 : PySem.W.nsIn K mainGlobals "place_by_page" = some (some (.ref f34))) (l34 : K.lookup f34 = some ⟨oc34, od34, .func (PySem.W.fnOf "place_by_page" "place_by_page" (defArgs (topS 59)) (defBody (topS 59)) (defScope (topS 59)) .none kV34 dc34 pm34 an34 cd34 ct34), sl34⟩) (c34 : PySem.W.codeIn K cd34 "place_by_page" = true) (k34 : PySem.W.keepIn K (.ref f34) = true)
    {f35 : Addr} {od35 an35 : Option Addr} {sl35 : Array (Option Value)} {oc35 kV35 dc35 pm35 cd35 ct35 : Value} (a35 : PySem.W.nsIn K mainGlobals "lowest_by_page" = some (some (.ref f35))) (l35 : K.lookup f35 = some ⟨oc35, od35, .func (PySem.W.fnOf "lowest_by_page" "lowest_by_page" (defArgs (topS 60)) (defBody (topS 60)) (defScope (topS 60)) .none kV35 dc35 pm35 an35 cd35 ct35), sl35⟩) (c35 : PySem.W.codeIn K cd35 "lowest_by_page" = true) (k35 : PySem.W.keepIn K (.ref f35) = true)
    {f36 : Addr} {od36 an36 : Option Addr} {sl36 : Array (Option Value)} {oc36 kV36 dc36 pm36 cd36 ct36 : Value} (a36 : PySem.W.nsIn K mainGlobals "taken_words" = some (some (.ref f36))) (l36 : K.lookup f36 = some ⟨oc36, od36, .func (PySem.W.fnOf "taken_words" "taken_words" (defArgs (topS 61)) (defBody (topS 61)) (defScope (topS 61)) .none kV36 dc36 pm36 an36 cd36 ct36), sl36⟩) (c36 : PySem.W.codeIn K cd36 "taken_words" = true) (k36 : PySem.W.keepIn K (.ref f36) = true)
    {f37 : Addr} {od37 an37 : Option Addr} {sl37 : Array (Option Value)} {oc37 dc37 pm37 cd37 ct37 : Value} {dd37 : Addr} {td37_rule : Tok} (a37 : PySem.W.findIn K (.ref CHeap) "__init__" = some (some (.ref f37))) (i37 : PySem.W.isFn K (.ref f37) = true) (l37 : K.lookup f37 = some ⟨oc37, od37, .func (PySem.W.fnOf "__init__" "Heap.__init__" (defArgs (inClass (topS 63) 0)) (defBody (inClass (topS 63) 0)) (defScope (inClass (topS 63) 0)) .none (.ref dd37) dc37 pm37 an37 cd37 ct37), sl37⟩) (c37 : PySem.W.codeIn K cd37 "Heap.__init__" = true) (k37 : PySem.W.keepIn K (.ref f37) = true)
    (d37_rule : PySem.W.nsIn K dd37 "rule" = some (some (.str "lowest" td37_rule)))
    {f38 : Addr} {od38 an38 : Option Addr} {sl38 : Array (Option Value)} {oc38 kV38 dc38 pm38 cd38 ct38 : Value} (a38 : PySem.W.findIn K (.ref CHeap) "get" = some (some (.ref f38))) (i38 : PySem.W.isFn K (.ref f38) = true) (l38 : K.lookup f38 = some ⟨oc38, od38, .func (PySem.W.fnOf "get" "Heap.get" (defArgs (inClass (topS 63) 1)) (defBody (inClass (topS 63) 1)) (defScope (inClass (topS 63) 1)) .none kV38 dc38 pm38 an38 cd38 ct38), sl38⟩) (c38 : PySem.W.codeIn K cd38 "Heap.get" = true) (k38 : PySem.W.keepIn K (.ref f38) = true)
    {f39 : Addr} {od39 an39 : Option Addr} {sl39 : Array (Option Value)} {oc39 kV39 dc39 pm39 cd39 ct39 : Value} (a39 : PySem.W.findIn K (.ref CHeap) "put" = some (some (.ref f39))) (i39 : PySem.W.isFn K (.ref f39) = true) (l39 : K.lookup f39 = some ⟨oc39, od39, .func (PySem.W.fnOf "put" "Heap.put" (defArgs (inClass (topS 63) 2)) (defBody (inClass (topS 63) 2)) (defScope (inClass (topS 63) 2)) .none kV39 dc39 pm39 an39 cd39 ct39), sl39⟩) (c39 : PySem.W.codeIn K cd39 "Heap.put" = true) (k39 : PySem.W.keepIn K (.ref f39) = true)
    {f40 : Addr} {od40 an40 : Option Addr} {sl40 : Array (Option Value)} {oc40 kV40 dc40 pm40 cd40 ct40 : Value} (a40 : PySem.W.findIn K (.ref CHeap) "check" = some (some (.ref f40))) (i40 : PySem.W.isFn K (.ref f40) = true) (l40 : K.lookup f40 = some ⟨oc40, od40, .func (PySem.W.fnOf "check" "Heap.check" (defArgs (inClass (topS 63) 3)) (defBody (inClass (topS 63) 3)) (defScope (inClass (topS 63) 3)) .none kV40 dc40 pm40 an40 cd40 ct40), sl40⟩) (c40 : PySem.W.codeIn K cd40 "Heap.check" = true) (k40 : PySem.W.keepIn K (.ref f40) = true)
    {f41 : Addr} {od41 an41 : Option Addr} {sl41 : Array (Option Value)} {oc41 kV41 dc41 pm41 cd41 ct41 : Value} (a41 : PySem.W.findIn K (.ref CHeap) "enter" = some (some (.ref f41))) (i41 : PySem.W.isFn K (.ref f41) = true) (l41 : K.lookup f41 = some ⟨oc41, od41, .func (PySem.W.fnOf "enter" "Heap.enter" (defArgs (inClass (topS 63) 4)) (defBody (inClass (topS 63) 4)) (defScope (inClass (topS 63) 4)) .none kV41 dc41 pm41 an41 cd41 ct41), sl41⟩) (c41 : PySem.W.codeIn K cd41 "Heap.enter" = true) (k41 : PySem.W.keepIn K (.ref f41) = true)
    {f42 : Addr} {od42 an42 : Option Addr} {sl42 : Array (Option Value)} {oc42 kV42 dc42 pm42 cd42 ct42 : Value} (a42 : PySem.W.findIn K (.ref CHeap) "free" = some (some (.ref f42))) (i42 : PySem.W.isFn K (.ref f42) = true) (l42 : K.lookup f42 = some ⟨oc42, od42, .func (PySem.W.fnOf "free" "Heap.free" (defArgs (inClass (topS 63) 5)) (defBody (inClass (topS 63) 5)) (defScope (inClass (topS 63) 5)) .none kV42 dc42 pm42 an42 cd42 ct42), sl42⟩) (c42 : PySem.W.codeIn K cd42 "Heap.free" = true) (k42 : PySem.W.keepIn K (.ref f42) = true)
    {f43 : Addr} {od43 an43 : Option Addr} {sl43 : Array (Option Value)} {oc43 kV43 dc43 pm43 cd43 ct43 : Value} (a43 : PySem.W.findIn K (.ref CHeap) "undo" = some (some (.ref f43))) (i43 : PySem.W.isFn K (.ref f43) = true) (l43 : K.lookup f43 = some ⟨oc43, od43, .func (PySem.W.fnOf "undo" "Heap.undo" (defArgs (inClass (topS 63) 6)) (defBody (inClass (topS 63) 6)) (defScope (inClass (topS 63) 6)) .none kV43 dc43 pm43 an43 cd43 ct43), sl43⟩) (c43 : PySem.W.codeIn K cd43 "Heap.undo" = true) (k43 : PySem.W.keepIn K (.ref f43) = true)
    {f44 : Addr} {od44 an44 : Option Addr} {sl44 : Array (Option Value)} {oc44 kV44 dc44 pm44 cd44 ct44 : Value} (a44 : PySem.W.findIn K (.ref CHeap) "state" = some (some (.ref f44))) (i44 : PySem.W.isFn K (.ref f44) = true) (l44 : K.lookup f44 = some ⟨oc44, od44, .func (PySem.W.fnOf "state" "Heap.state" (defArgs (inClass (topS 63) 7)) (defBody (inClass (topS 63) 7)) (defScope (inClass (topS 63) 7)) .none kV44 dc44 pm44 an44 cd44 ct44), sl44⟩) (c44 : PySem.W.codeIn K cd44 "Heap.state" = true) (k44 : PySem.W.keepIn K (.ref f44) = true)
    {f45 : Addr} {od45 an45 : Option Addr} {sl45 : Array (Option Value)} {oc45 kV45 dc45 pm45 cd45 ct45 : Value} (a45 : PySem.W.findIn K (.ref CHeap) "history" = some (some (.ref f45))) (i45 : PySem.W.isFn K (.ref f45) = true) (l45 : K.lookup f45 = some ⟨oc45, od45, .func (PySem.W.fnOf "history" "Heap.history" (defArgs (inClass (topS 63) 10)) (defBody (inClass (topS 63) 10)) (defScope (inClass (topS 63) 10)) .none kV45 dc45 pm45 an45 cd45 ct45), sl45⟩) (c45 : PySem.W.codeIn K cd45 "Heap.history" = true) (k45 : PySem.W.keepIn K (.ref f45) = true)
    {f46 : Addr} {od46 an46 : Option Addr} {sl46 : Array (Option Value)} {oc46 kV46 dc46 pm46 cd46 ct46 : Value} (a46 : PySem.W.findIn K (.ref CHeap) "__len__" = some (some (.ref f46))) (i46 : PySem.W.isFn K (.ref f46) = true) (l46 : K.lookup f46 = some ⟨oc46, od46, .func (PySem.W.fnOf "__len__" "Heap.__len__" (defArgs (inClass (topS 63) 12)) (defBody (inClass (topS 63) 12)) (defScope (inClass (topS 63) 12)) .none kV46 dc46 pm46 an46 cd46 ct46), sl46⟩) (c46 : PySem.W.codeIn K cd46 "Heap.__len__" = true) (k46 : PySem.W.keepIn K (.ref f46) = true)
    {f47 : Addr} {od47 an47 : Option Addr} {sl47 : Array (Option Value)} {oc47 kV47 dc47 pm47 cd47 ct47 : Value} (a47 : PySem.W.nsIn K mainGlobals "event_of" = some (some (.ref f47))) (l47 : K.lookup f47 = some ⟨oc47, od47, .func (PySem.W.fnOf "event_of" "event_of" (defArgs (topS 64)) (defBody (topS 64)) (defScope (topS 64)) .none kV47 dc47 pm47 an47 cd47 ct47), sl47⟩) (c47 : PySem.W.codeIn K cd47 "event_of" = true) (k47 : PySem.W.keepIn K (.ref f47) = true)
    {f48 : Addr} {od48 an48 : Option Addr} {sl48 : Array (Option Value)} {oc48 kV48 dc48 pm48 cd48 ct48 : Value} (a48 : PySem.W.nsIn K mainGlobals "replay" = some (some (.ref f48))) (l48 : K.lookup f48 = some ⟨oc48, od48, .func (PySem.W.fnOf "replay" "replay" (defArgs (topS 65)) (defBody (topS 65)) (defScope (topS 65)) .none kV48 dc48 pm48 an48 cd48 ct48), sl48⟩) (c48 : PySem.W.codeIn K cd48 "replay" = true) (k48 : PySem.W.keepIn K (.ref f48) = true)
    {f49 : Addr} {od49 an49 : Option Addr} {sl49 : Array (Option Value)} {oc49 kV49 dc49 pm49 cd49 ct49 : Value} (a49 : PySem.W.nsIn K mainGlobals "has_form_of_event" = some (some (.ref f49))) (l49 : K.lookup f49 = some ⟨oc49, od49, .func (PySem.W.fnOf "has_form_of_event" "has_form_of_event" (defArgs (topS 66)) (defBody (topS 66)) (defScope (topS 66)) .none kV49 dc49 pm49 an49 cd49 ct49), sl49⟩) (c49 : PySem.W.codeIn K cd49 "has_form_of_event" = true) (k49 : PySem.W.keepIn K (.ref f49) = true)
    {f50 : Addr} {od50 an50 : Option Addr} {sl50 : Array (Option Value)} {oc50 kV50 dc50 pm50 cd50 ct50 : Value} (a50 : PySem.W.nsIn K mainGlobals "repeat" = some (some (.ref f50))) (l50 : K.lookup f50 = some ⟨oc50, od50, .func (PySem.W.fnOf "repeat" "repeat" (defArgs (topS 67)) (defBody (topS 67)) (defScope (topS 67)) .none kV50 dc50 pm50 an50 cd50 ct50), sl50⟩) (c50 : PySem.W.codeIn K cd50 "repeat" = true) (k50 : PySem.W.keepIn K (.ref f50) = true)
    {f51 : Addr} {od51 an51 : Option Addr} {sl51 : Array (Option Value)} {oc51 kV51 dc51 pm51 cd51 ct51 : Value} (a51 : PySem.W.nsIn K mainGlobals "_law_source" = some (some (.ref f51))) (l51 : K.lookup f51 = some ⟨oc51, od51, .func (PySem.W.fnOf "_law_source" "_law_source" (defArgs (topS 69)) (defBody (topS 69)) (defScope (topS 69)) .none kV51 dc51 pm51 an51 cd51 ct51), sl51⟩) (c51 : PySem.W.codeIn K cd51 "_law_source" = true) (k51 : PySem.W.keepIn K (.ref f51) = true)
    {f52 : Addr} {od52 an52 : Option Addr} {sl52 : Array (Option Value)} {oc52 kV52 dc52 pm52 cd52 ct52 : Value} (a52 : PySem.W.nsIn K mainGlobals "_law_number" = some (some (.ref f52))) (l52 : K.lookup f52 = some ⟨oc52, od52, .func (PySem.W.fnOf "_law_number" "_law_number" (defArgs (topS 70)) (defBody (topS 70)) (defScope (topS 70)) .none kV52 dc52 pm52 an52 cd52 ct52), sl52⟩) (c52 : PySem.W.codeIn K cd52 "_law_number" = true) (k52 : PySem.W.keepIn K (.ref f52) = true)
    {f53 : Addr} {od53 an53 : Option Addr} {sl53 : Array (Option Value)} {oc53 kV53 dc53 pm53 cd53 ct53 : Value} (a53 : PySem.W.nsIn K mainGlobals "_law_choice" = some (some (.ref f53))) (l53 : K.lookup f53 = some ⟨oc53, od53, .func (PySem.W.fnOf "_law_choice" "_law_choice" (defArgs (topS 71)) (defBody (topS 71)) (defScope (topS 71)) .none kV53 dc53 pm53 an53 cd53 ct53), sl53⟩) (c53 : PySem.W.codeIn K cd53 "_law_choice" = true) (k53 : PySem.W.keepIn K (.ref f53) = true)
    {f54 : Addr} {od54 an54 : Option Addr} {sl54 : Array (Option Value)} {oc54 kV54 dc54 pm54 cd54 ct54 : Value} (a54 : PySem.W.nsIn K mainGlobals "_law_words" = some (some (.ref f54))) (l54 : K.lookup f54 = some ⟨oc54, od54, .func (PySem.W.fnOf "_law_words" "_law_words" (defArgs (topS 72)) (defBody (topS 72)) (defScope (topS 72)) .none kV54 dc54 pm54 an54 cd54 ct54), sl54⟩) (c54 : PySem.W.codeIn K cd54 "_law_words" = true) (k54 : PySem.W.keepIn K (.ref f54) = true)
    {f55 : Addr} {od55 an55 : Option Addr} {sl55 : Array (Option Value)} {oc55 kV55 dc55 pm55 cd55 ct55 : Value} (a55 : PySem.W.nsIn K mainGlobals "_law_spots" = some (some (.ref f55))) (l55 : K.lookup f55 = some ⟨oc55, od55, .func (PySem.W.fnOf "_law_spots" "_law_spots" (defArgs (topS 73)) (defBody (topS 73)) (defScope (topS 73)) .none kV55 dc55 pm55 an55 cd55 ct55), sl55⟩) (c55 : PySem.W.codeIn K cd55 "_law_spots" = true) (k55 : PySem.W.keepIn K (.ref f55) = true)
    {f56 : Addr} {od56 an56 : Option Addr} {sl56 : Array (Option Value)} {oc56 kV56 dc56 pm56 cd56 ct56 : Value} (a56 : PySem.W.nsIn K mainGlobals "_law_put" = some (some (.ref f56))) (l56 : K.lookup f56 = some ⟨oc56, od56, .func (PySem.W.fnOf "_law_put" "_law_put" (defArgs (topS 74)) (defBody (topS 74)) (defScope (topS 74)) .none kV56 dc56 pm56 an56 cd56 ct56), sl56⟩) (c56 : PySem.W.codeIn K cd56 "_law_put" = true) (k56 : PySem.W.keepIn K (.ref f56) = true)
    {f57 : Addr} {od57 an57 : Option Addr} {sl57 : Array (Option Value)} {oc57 kV57 dc57 pm57 cd57 ct57 : Value} (a57 : PySem.W.nsIn K mainGlobals "_law_cut" = some (some (.ref f57))) (l57 : K.lookup f57 = some ⟨oc57, od57, .func (PySem.W.fnOf "_law_cut" "_law_cut" (defArgs (topS 75)) (defBody (topS 75)) (defScope (topS 75)) .none kV57 dc57 pm57 an57 cd57 ct57), sl57⟩) (c57 : PySem.W.codeIn K cd57 "_law_cut" = true) (k57 : PySem.W.keepIn K (.ref f57) = true)
    {f58 : Addr} {od58 an58 : Option Addr} {sl58 : Array (Option Value)} {oc58 kV58 dc58 pm58 cd58 ct58 : Value} (a58 : PySem.W.nsIn K mainGlobals "_law_every" = some (some (.ref f58))) (l58 : K.lookup f58 = some ⟨oc58, od58, .func (PySem.W.fnOf "_law_every" "_law_every" (defArgs (topS 76)) (defBody (topS 76)) (defScope (topS 76)) .none kV58 dc58 pm58 an58 cd58 ct58), sl58⟩) (c58 : PySem.W.codeIn K cd58 "_law_every" = true) (k58 : PySem.W.keepIn K (.ref f58) = true)
    {f59 : Addr} {od59 an59 : Option Addr} {sl59 : Array (Option Value)} {oc59 kV59 dc59 pm59 cd59 ct59 : Value} (a59 : PySem.W.nsIn K mainGlobals "_law_moves" = some (some (.ref f59))) (l59 : K.lookup f59 = some ⟨oc59, od59, .func (PySem.W.fnOf "_law_moves" "_law_moves" (defArgs (topS 77)) (defBody (topS 77)) (defScope (topS 77)) .none kV59 dc59 pm59 an59 cd59 ct59), sl59⟩) (c59 : PySem.W.codeIn K cd59 "_law_moves" = true) (k59 : PySem.W.keepIn K (.ref f59) = true)
    {f60 : Addr} {od60 an60 : Option Addr} {sl60 : Array (Option Value)} {oc60 kV60 dc60 pm60 cd60 ct60 : Value} (a60 : PySem.W.nsIn K mainGlobals "_law_ranks" = some (some (.ref f60))) (l60 : K.lookup f60 = some ⟨oc60, od60, .func (PySem.W.fnOf "_law_ranks" "_law_ranks" (defArgs (topS 78)) (defBody (topS 78)) (defScope (topS 78)) .none kV60 dc60 pm60 an60 cd60 ct60), sl60⟩) (c60 : PySem.W.codeIn K cd60 "_law_ranks" = true) (k60 : PySem.W.keepIn K (.ref f60) = true)
    {f61 : Addr} {od61 an61 : Option Addr} {sl61 : Array (Option Value)} {oc61 kV61 dc61 pm61 cd61 ct61 : Value} (a61 : PySem.W.nsIn K mainGlobals "_law_small" = some (some (.ref f61))) (l61 : K.lookup f61 = some ⟨oc61, od61, .func (PySem.W.fnOf "_law_small" "_law_small" (defArgs (topS 79)) (defBody (topS 79)) (defScope (topS 79)) .none kV61 dc61 pm61 an61 cd61 ct61), sl61⟩) (c61 : PySem.W.codeIn K cd61 "_law_small" = true) (k61 : PySem.W.keepIn K (.ref f61) = true)
    {f62 : Addr} {od62 an62 : Option Addr} {sl62 : Array (Option Value)} {oc62 kV62 dc62 pm62 cd62 ct62 : Value} (a62 : PySem.W.nsIn K mainGlobals "_law_asked" = some (some (.ref f62))) (l62 : K.lookup f62 = some ⟨oc62, od62, .func (PySem.W.fnOf "_law_asked" "_law_asked" (defArgs (topS 80)) (defBody (topS 80)) (defScope (topS 80)) .none kV62 dc62 pm62 an62 cd62 ct62), sl62⟩) (c62 : PySem.W.codeIn K cd62 "_law_asked" = true) (k62 : PySem.W.keepIn K (.ref f62) = true)
    {f63 : Addr} {od63 an63 : Option Addr} {sl63 : Array (Option Value)} {oc63 kV63 dc63 pm63 cd63 ct63 : Value} (a63 : PySem.W.nsIn K mainGlobals "law" = some (some (.ref f63))) (l63 : K.lookup f63 = some ⟨oc63, od63, .func (PySem.W.fnOf "law" "law" (defArgs (topS 81)) (defBody (topS 81)) (defScope (topS 81)) .none kV63 dc63 pm63 an63 cd63 ct63), sl63⟩) (c63 : PySem.W.codeIn K cd63 "law" = true) (k63 : PySem.W.keepIn K (.ref f63) = true)
    {tcPp tpPp : Addr} (ttPp : PySem.W.tabIn K "place_by_page" = some (tcPp, tpPp)) (toPp : K.lookup tpPp = none) (rqPp : ((recsOf q).find? fun e => e.name == ("place_by_page" : Str)).isSome = true)
    (z1 : PySem.W.nsIn K mainGlobals "len" = some none)
    (z2 : PySem.W.nsIn K mainGlobals "abs" = some none)
    (z3 : PySem.W.nsIn K mainGlobals "int" = some none)
    (z4 : PySem.W.nsIn K mainGlobals "range" = some none)
    (z5 : PySem.W.nsIn K mainGlobals "tuple" = some none)
    (z6 : PySem.W.nsIn K mainGlobals "max" = some none)
    (z7 : PySem.W.nsIn K mainGlobals "min" = some none)
    (z8 : PySem.W.nsIn K mainGlobals "repr" = some none)
    (z9 : PySem.W.nsIn K mainGlobals "isinstance" = some none)
    (z10 : PySem.W.nsIn K mainGlobals "bool" = some none)
    (z11 : PySem.W.nsIn K mainGlobals "all" = some none)
    (z12 : PySem.W.nsIn K mainGlobals "any" = some none)
    (z13 : PySem.W.nsIn K mainGlobals "list" = some none)
    (z14 : PySem.W.nsIn K mainGlobals "dict" = some none)
    (z15 : PySem.W.nsIn K mainGlobals "sorted" = some none)
    (z16 : PySem.W.nsIn K mainGlobals "set" = some none)
    (z17 : PySem.W.nsIn K mainGlobals "sum" = some none)
    (z18 : PySem.W.nsIn K mainGlobals "zip" = some none)
    (z19 : PySem.W.nsIn K mainGlobals "enumerate" = some none)
    (z20 : PySem.W.nsIn K mainGlobals "reversed" = some none)
    (z21 : PySem.W.nsIn K mainGlobals "str" = some none)
    (zd : PySem.W.nsIn K cStatics "sys.int_max_str_digits" = some none) :
    ∃ (fd : FuncData) (cs : List (Addr × Addr)), TabsE K h cs ∧ (∀ (s : Shared) (v : Value), BindsTo s fd ⟨[v], []⟩ [("_law_script", v)]) ∧ (∀ (H : Hp) (a : Addr) (ns : List Int), ns.length ≤ 63 → (∀ p ∈ cs, H p.2 = some (.tbl #[])) → SqL K H a (ns.map V.int) → spLaw K (cs.getD 0 (0, 0)).2 [.ref a] H (fun v _ => v = .bl true) fun _ _ _ => False) ∧ ∀ base : Heap, K.In base → base.Ns mainGlobals mg → (∀ p ∈ cs, LamX.TabB base mg p.1 p.2) → FnG l.prog w K mg base CX0 (0 + 1 + 1 + 1 + 1 + 1 + 1 + 1 + 1 + 1 + 1 + 1) fa fd ["_law_script"] (spLaw K (cs.getD 0 (0, 0)).2) := by
  have e := hfa.symm.trans (PySem.W.mg_of X G a63)
  cases e
  have F1 := fun_mk (x := "__init__") (qual := "NoRoom.__init__") (st := (inClass (topS 12) 0)) l1 c1 k1
  have F2 := fun_mk (x := "is_integer") (qual := "is_integer") (st := (topS 18)) l2 c2 k2
  have F3 := fun_mk (x := "divided_up") (qual := "divided_up") (st := (topS 19)) l3 c3 k3
  have F4 := fun_mk (x := "is_chain") (qual := "is_chain") (st := (topS 23)) l4 c4 k4
  have F5 := fun_mk (x := "may_follow") (qual := "may_follow") (st := (topS 24)) l5 c5 k5
  have F6 := fun_mk (x := "is_size") (qual := "is_size") (st := (topS 25)) l6 c6 k6
  have F7 := fun_mk (x := "class_of") (qual := "class_of") (st := (topS 26)) l7 c7 k7
  have F8 := fun_mk (x := "is_state") (qual := "is_state") (st := (topS 30)) l8 c8 k8
  have F9 := fun_mk (x := "is_block") (qual := "is_block") (st := (topS 31)) l9 c9 k9
  have F10 := fun_mk (x := "live_words") (qual := "live_words") (st := (topS 32)) l10 c10 k10
  have F11 := fun_mk (x := "places") (qual := "places") (st := (topS 33)) l11 c11 k11
  have F12 := fun_mk (x := "gaps") (qual := "gaps") (st := (topS 34)) l12 c12 k12
  have F13 := fun_mk (x := "is_place") (qual := "is_place") (st := (topS 35)) l13 c13 k13
  have F14 := fun_mk (x := "may_hold") (qual := "may_hold") (st := (topS 36)) l14 c14 k14
  have F15 := fun_mk (x := "with_block") (qual := "with_block") (st := (topS 37)) l15 c15 k15
  have F16 := fun_mk (x := "without_block") (qual := "without_block") (st := (topS 38)) l16 c16 k16
  have F17 := fun_mk (x := "has_block") (qual := "has_block") (st := (topS 39)) l17 c17 k17
  have F18 := fun_mk (x := "count_states") (qual := "count_states") (st := (topS 40)) l18 c18 k18
  have F19 := fun_mk (x := "power") (qual := "power") (st := (topS 41)) l19 c19 k19
  have F20 := fun_mk (x := "check_many") (qual := "check_many") (st := (topS 42)) l20 c20 k20
  have F21 := fun_mk (x := "check_heap") (qual := "check_heap") (st := (topS 43)) l21 c21 k21
  have F22 := fun_mk (x := "all_states") (qual := "all_states") (st := (topS 44)) l22 c22 k22
  have F23 := fun_mk (x := "states_of_words") (qual := "states_of_words") (st := (topS 45)) l23 c23 k23
  have F24 := fun_mk (x := "moves_to_fail") (qual := "moves_to_fail") (st := (topS 47)) l24 c24 k24
  have F25 := fun_mk (x := "strategy") (qual := "strategy") (st := (topS 48)) l25 c25 k25
  have F26 := fun_mk (x := "states_behind") (qual := "states_behind") (st := (topS 49)) l26 c26 k26
  have F27 := fun_mk (x := "check_state") (qual := "check_state") (st := (topS 50)) l27 c27 k27
  have F28 := fun_mk (x := "allowed_sizes") (qual := "allowed_sizes") (st := (topS 51)) l28 c28 k28
  have F29 := fun_mk (x := "unsafe_states") (qual := "unsafe_states") (st := (topS 52)) l29 c29 k29
  have F30 := fun_mk (x := "states_before") (qual := "states_before") (st := (topS 53)) l30 c30 k30
  have F31 := fun_mk (x := "requests_into") (qual := "requests_into") (st := (topS 54)) l31 c31 k31
  have F32 := fun_mk (x := "is_rule") (qual := "is_rule") (st := (topS 57)) l32 c32 k32
  have F33 := fun_mk (x := "place") (qual := "place") (st := (topS 58)) l33 c33 k33
  have F34 := fun_mk (x := "place_by_page") (qual := "place_by_page") (st := (topS 59)) l34 c34 k34
  have F35 := fun_mk (x := "lowest_by_page") (qual := "lowest_by_page") (st := (topS 60)) l35 c35 k35
  have F36 := fun_mk (x := "taken_words") (qual := "taken_words") (st := (topS 61)) l36 c36 k36
  have F37 : FunD K "__init__" "Heap.__init__" (defArgs (inClass (topS 63) 0)) (defBody (inClass (topS 63) 0)) (defScope (inClass (topS 63) 0)) [] [("rule", V.str "lowest")] f37 (PySem.W.fnOf "__init__" "Heap.__init__" (defArgs (inClass (topS 63) 0)) (defBody (inClass (topS 63) 0)) (defScope (inClass (topS 63) 0)) .none (.ref dd37) dc37 pm37 an37 cd37 ct37) := ⟨⟨_, _, _, _, _, _, _, _, _, _, rfl, l37, c37, .inl ⟨rfl, rfl⟩, .inr ⟨dd37, rfl, fun q hq => by
    rw [List.mem_singleton.mp hq]
    exact ⟨_, d37_rule, ⟨_, rfl⟩⟩⟩⟩, k37⟩
  have B37 := F37.binds0 (ps := ["self", "chain", "pages", "limit", "rule"]) 4 (by intro z; cases z) rfl (fun _ _ _ _ _ _ us ks h1 h2 => match us, ks, h1, h2 with | [_, _, _, _], [_], _, _ => ⟨_, _, _, _, _, _, rfl, rfl, rfl⟩)
  have F38 := fun_mk (x := "get") (qual := "Heap.get") (st := (inClass (topS 63) 1)) l38 c38 k38
  have F39 := fun_mk (x := "put") (qual := "Heap.put") (st := (inClass (topS 63) 2)) l39 c39 k39
  have F40 := fun_mk (x := "check") (qual := "Heap.check") (st := (inClass (topS 63) 3)) l40 c40 k40
  have F41 := fun_mk (x := "enter") (qual := "Heap.enter") (st := (inClass (topS 63) 4)) l41 c41 k41
  have F42 := fun_mk (x := "free") (qual := "Heap.free") (st := (inClass (topS 63) 5)) l42 c42 k42
  have F43 := fun_mk (x := "undo") (qual := "Heap.undo") (st := (inClass (topS 63) 6)) l43 c43 k43
  have F44 := fun_mk (x := "state") (qual := "Heap.state") (st := (inClass (topS 63) 7)) l44 c44 k44
  have F45 := fun_mk (x := "history") (qual := "Heap.history") (st := (inClass (topS 63) 10)) l45 c45 k45
  have F46 := fun_mk (x := "__len__") (qual := "Heap.__len__") (st := (inClass (topS 63) 12)) l46 c46 k46
  have F47 := fun_mk (x := "event_of") (qual := "event_of") (st := (topS 64)) l47 c47 k47
  have F48 := fun_mk (x := "replay") (qual := "replay") (st := (topS 65)) l48 c48 k48
  have F49 := fun_mk (x := "has_form_of_event") (qual := "has_form_of_event") (st := (topS 66)) l49 c49 k49
  have F50 := fun_mk (x := "repeat") (qual := "repeat") (st := (topS 67)) l50 c50 k50
  have F51 := fun_mk (x := "_law_source") (qual := "_law_source") (st := (topS 69)) l51 c51 k51
  have F52 := fun_mk (x := "_law_number") (qual := "_law_number") (st := (topS 70)) l52 c52 k52
  have F53 := fun_mk (x := "_law_choice") (qual := "_law_choice") (st := (topS 71)) l53 c53 k53
  have F54 := fun_mk (x := "_law_words") (qual := "_law_words") (st := (topS 72)) l54 c54 k54
  have F55 := fun_mk (x := "_law_spots") (qual := "_law_spots") (st := (topS 73)) l55 c55 k55
  have F56 := fun_mk (x := "_law_put") (qual := "_law_put") (st := (topS 74)) l56 c56 k56
  have F57 := fun_mk (x := "_law_cut") (qual := "_law_cut") (st := (topS 75)) l57 c57 k57
  have F58 := fun_mk (x := "_law_every") (qual := "_law_every") (st := (topS 76)) l58 c58 k58
  have F59 := fun_mk (x := "_law_moves") (qual := "_law_moves") (st := (topS 77)) l59 c59 k59
  have F60 := fun_mk (x := "_law_ranks") (qual := "_law_ranks") (st := (topS 78)) l60 c60 k60
  have F61 := fun_mk (x := "_law_small") (qual := "_law_small") (st := (topS 79)) l61 c61 k61
  have F62 := fun_mk (x := "_law_asked") (qual := "_law_asked") (st := (topS 80)) l62 c62 k62
  have F63 := fun_mk (x := "law") (qual := "law") (st := (topS 81)) l63 c63 k63
  let Z : Fns K mg := {
    N := ⟨PySem.W.mg_none_of X G z1, PySem.W.mg_none_of X G z2, PySem.W.mg_none_of X G z3, PySem.W.mg_none_of X G z4, PySem.W.mg_none_of X G z5, PySem.W.mg_none_of X G z6, PySem.W.mg_none_of X G z7, PySem.W.mg_none_of X G z8, PySem.W.mg_none_of X G z9, PySem.W.mg_none_of X G z10, PySem.W.mg_none_of X G z11, PySem.W.mg_none_of X G z12, PySem.W.mg_none_of X G z13, PySem.W.mg_none_of X G z14, PySem.W.mg_none_of X G z15, PySem.W.mg_none_of X G z16, PySem.W.mg_none_of X G z17, PySem.W.mg_none_of X G z18, PySem.W.mg_none_of X G z19, PySem.W.mg_none_of X G z20, PySem.W.mg_none_of X G z21, zd⟩,
    CHeap := CHeap,
    clHeap := ⟨pgHeap, hdHeap, poHeap, saHeap⟩,
    gcHeap := PySem.W.mg_of X G aCHeap,
    naHeap_chain := naHeap_chain,
    naHeap_pages := naHeap_pages,
    naHeap_limit := naHeap_limit,
    naHeap_rule := naHeap_rule,
    naHeap_blocks := naHeap_blocks,
    naHeap_steps := naHeap_steps,
    CHeapError := CHeapError,
    gcHeapError := PySem.W.mg_of X G aCHeapError,
    CNoRoom := CNoRoom,
    gcNoRoom := PySem.W.mg_of X G aCNoRoom,
    nve := PySem.W.mg_none_of X G zve,
    exNoRoom_NoRoom := PySem.W.exm_ref bxNoRoom hdNoRoom tyNoRoom ssNoRoom_NoRoom,
    oxNoRoom := ⟨⟨nmNoRoom, qNoRoom, NNoRoom, bsNoRoom, _, snNoRoom, subNoRoom, abNoRoom, colNoRoom, ddNoRoom, m0NoRoom, m1NoRoom, m2NoRoom, m3NoRoom, m5NoRoom, xLNoRoom, rfl⟩, saNoRoom, bxNoRoom, tyNoRoom, kpNoRoom⟩,
    ecNoRoom := ⟨gaNoRoom, ggNoRoom, bxNoRoom, hdNoRoom, caNoRoom, cgX, ctX, moNoRoom⟩,
    xfNoRoom := ⟨gaNoRoom, ggNoRoom, bxNoRoom, hdNoRoom⟩,
    exNoRoom := PySem.W.exm_ref bxH hdH tyH sHNoRoom,
    isNoRoom_ValueError := isNoRoom_ValueError,
    nfNoRoom_size := nfNoRoom_size,
    isNoRoom_HeapError := isNoRoom_HeapError,
    isNoRoom_NoRoom := isNoRoom_NoRoom,
    k_MOST_SIZES := ⟨t_MOST_SIZES, PySem.W.mg_of X G v_MOST_SIZES⟩,
    k_LARGEST_SIZE := ⟨t_LARGEST_SIZE, PySem.W.mg_of X G v_LARGEST_SIZE⟩,
    k_MOST_STATES := ⟨t_MOST_STATES, PySem.W.mg_of X G v_MOST_STATES⟩,
    k_MOST_WORDS := ⟨t_MOST_WORDS, PySem.W.mg_of X G v_MOST_WORDS⟩,
    a_RULES := a_RULES,
    k_RULES := PySem.W.mg_of X G v_RULES,
    t_RULES := fun _ => .inr ⟨_, _, _, l_RULES, rfl, rfl, (by show 4 ≤ sizeLine; decide), (.cons ⟨_, rfl⟩ (.cons ⟨_, rfl⟩ (.cons ⟨_, rfl⟩ (.cons ⟨_, rfl⟩ .nil))))⟩,
    fNr := f1, fdNr := _, FNr := F1, bNr := (F1.binds (ps := ["self", "size"]) fun _ _ _ _ _ _ us hl => match us, hl with | [_, _], _ => rfl), iNr := a1, tNr := i1,
    fI := f2, fdI := _, FI := F2, bI := (F2.binds (ps := ["value"]) fun _ _ _ _ _ _ us hl => match us, hl with | [_], _ => rfl), gI := PySem.W.mg_of X G a2,
    fDu := f3, fdDu := _, FDu := F3, bDu := (F3.binds (ps := ["number", "divisor"]) fun _ _ _ _ _ _ us hl => match us, hl with | [_, _], _ => rfl), gDu := PySem.W.mg_of X G a3,
    fCi := f4, fdCi := _, FCi := F4, bCi := (F4.binds (ps := ["value"]) fun _ _ _ _ _ _ us hl => match us, hl with | [_], _ => rfl), gCi := PySem.W.mg_of X G a4,
    fMf := f5, fdMf := _, FMf := F5, bMf := (F5.binds (ps := ["larger", "size"]) fun _ _ _ _ _ _ us hl => match us, hl with | [_, _], _ => rfl), gMf := PySem.W.mg_of X G a5,
    fZ := f6, fdZ := _, FZ := F6, bZ := (F6.binds (ps := ["chain", "value"]) fun _ _ _ _ _ _ us hl => match us, hl with | [_, _], _ => rfl), gZ := PySem.W.mg_of X G a6,
    fC := f7, fdC := _, FC := F7, bC := (F7.binds (ps := ["chain", "size"]) fun _ _ _ _ _ _ us hl => match us, hl with | [_, _], _ => rfl), gC := PySem.W.mg_of X G a7,
    fS := f8, fdS := _, FS := F8, bS := (F8.binds (ps := ["chain", "pages", "value"]) fun _ _ _ _ _ _ us hl => match us, hl with | [_, _, _], _ => rfl), gS := PySem.W.mg_of X G a8,
    fBl := f9, fdBl := _, FBl := F9, bBl := (F9.binds (ps := ["chain", "value"]) fun _ _ _ _ _ _ us hl => match us, hl with | [_, _], _ => rfl), gBl := PySem.W.mg_of X G a9,
    fV := f10, fdV := _, FV := F10, bV := (F10.binds (ps := ["state"]) fun _ _ _ _ _ _ us hl => match us, hl with | [_], _ => rfl), gV := PySem.W.mg_of X G a10,
    fPl := f11, fdPl := _, FPl := F11, bPl := (F11.binds (ps := ["chain", "pages", "state", "size"]) fun _ _ _ _ _ _ us hl => match us, hl with | [_, _, _, _], _ => rfl), gPl := PySem.W.mg_of X G a11,
    fGp := f12, fdGp := _, FGp := F12, bGp := (F12.binds (ps := ["chain", "pages", "state", "size"]) fun _ _ _ _ _ _ us hl => match us, hl with | [_, _, _, _], _ => rfl), gGp := PySem.W.mg_of X G a12,
    fIp := f13, fdIp := _, FIp := F13, bIp := (F13.binds (ps := ["chain", "pages", "state", "address", "size"]) fun _ _ _ _ _ _ us hl => match us, hl with | [_, _, _, _, _], _ => rfl), gIp := PySem.W.mg_of X G a13,
    fMh := f14, fdMh := _, FMh := F14, bMh := (F14.binds (ps := ["state", "address", "size"]) fun _ _ _ _ _ _ us hl => match us, hl with | [_, _, _], _ => rfl), gMh := PySem.W.mg_of X G a14,
    fWb := f15, fdWb := _, FWb := F15, bWb := (F15.binds (ps := ["state", "address", "size"]) fun _ _ _ _ _ _ us hl => match us, hl with | [_, _, _], _ => rfl), gWb := PySem.W.mg_of X G a15,
    fOb := f16, fdOb := _, FOb := F16, bOb := (F16.binds (ps := ["state", "address"]) fun _ _ _ _ _ _ us hl => match us, hl with | [_, _], _ => rfl), gOb := PySem.W.mg_of X G a16,
    fHb := f17, fdHb := _, FHb := F17, bHb := (F17.binds (ps := ["state", "value"]) fun _ _ _ _ _ _ us hl => match us, hl with | [_, _], _ => rfl), gHb := PySem.W.mg_of X G a17,
    fCs := f18, fdCs := _, FCs := F18, bCs := (F18.binds (ps := ["chain", "pages"]) fun _ _ _ _ _ _ us hl => match us, hl with | [_, _], _ => rfl), gCs := PySem.W.mg_of X G a18,
    fPw := f19, fdPw := _, FPw := F19, bPw := (F19.binds (ps := ["base", "times"]) fun _ _ _ _ _ _ us hl => match us, hl with | [_, _], _ => rfl), gPw := PySem.W.mg_of X G a19,
    fCm := f20, fdCm := _, FCm := F20, bCm := (F20.binds (ps := ["many"]) fun _ _ _ _ _ _ us hl => match us, hl with | [_], _ => rfl), gCm := PySem.W.mg_of X G a20,
    fCh := f21, fdCh := _, FCh := F21, bCh := (F21.binds (ps := ["chain", "pages"]) fun _ _ _ _ _ _ us hl => match us, hl with | [_, _], _ => rfl), gCh := PySem.W.mg_of X G a21,
    fAs := f22, fdAs := _, FAs := F22, bAs := (F22.binds (ps := ["chain", "pages", "limit"]) fun _ _ _ _ _ _ us hl => match us, hl with | [_, _, _], _ => rfl), gAs := PySem.W.mg_of X G a22,
    fSw := f23, fdSw := _, FSw := F23, bSw := (F23.binds (ps := ["chain", "words"]) fun _ _ _ _ _ _ us hl => match us, hl with | [_, _], _ => rfl), gSw := PySem.W.mg_of X G a23,
    fMv := f24, fdMv := _, FMv := F24, bMv := (F24.binds (ps := ["chain", "limit", "pages", "state"]) fun _ _ _ _ _ _ us hl => match us, hl with | [_, _, _, _], _ => rfl), gMv := PySem.W.mg_of X G a24,
    fSt := f25, fdSt := _, FSt := F25, bSt := (F25.binds (ps := ["chain", "limit", "pages", "state"]) fun _ _ _ _ _ _ us hl => match us, hl with | [_, _, _, _], _ => rfl), gSt := PySem.W.mg_of X G a25,
    fSx := f26, fdSx := _, FSx := F26, bSx := (F26.binds (ps := ["chain", "pages", "state", "request"]) fun _ _ _ _ _ _ us hl => match us, hl with | [_, _, _, _], _ => rfl), gSx := PySem.W.mg_of X G a26,
    fCk := f27, fdCk := _, FCk := F27, bCk := (F27.binds (ps := ["chain", "limit", "pages", "state"]) fun _ _ _ _ _ _ us hl => match us, hl with | [_, _, _, _], _ => rfl), gCk := PySem.W.mg_of X G a27,
    fAl := f28, fdAl := _, FAl := F28, bAl := (F28.binds (ps := ["chain", "limit", "state"]) fun _ _ _ _ _ _ us hl => match us, hl with | [_, _, _], _ => rfl), gAl := PySem.W.mg_of X G a28,
    fUs := f29, fdUs := _, FUs := F29, bUs := (F29.binds (ps := ["chain", "limit", "pages"]) fun _ _ _ _ _ _ us hl => match us, hl with | [_, _, _], _ => rfl), gUs := PySem.W.mg_of X G a29,
    fSb := f30, fdSb := _, FSb := F30, bSb := (F30.binds (ps := ["chain", "limit", "pages", "newest", "moves", "unsafe", "escapes"]) fun _ _ _ _ _ _ us hl => match us, hl with | [_, _, _, _, _, _, _], _ => rfl), gSb := PySem.W.mg_of X G a30,
    fRq := f31, fdRq := _, FRq := F31, bRq := (F31.binds (ps := ["chain", "limit", "pages", "state", "escapes"]) fun _ _ _ _ _ _ us hl => match us, hl with | [_, _, _, _, _], _ => rfl), gRq := PySem.W.mg_of X G a31,
    fIr := f32, fdIr := _, FIr := F32, bIr := (F32.binds (ps := ["value"]) fun _ _ _ _ _ _ us hl => match us, hl with | [_], _ => rfl), gIr := PySem.W.mg_of X G a32,
    fPc := f33, fdPc := _, FPc := F33, bPc := (F33.binds (ps := ["rule", "chain", "pages", "state", "size"]) fun _ _ _ _ _ _ us hl => match us, hl with | [_, _, _, _, _], _ => rfl), gPc := PySem.W.mg_of X G a33,
    fPp := f34, fdPp := _, FPp := F34, bPp := (F34.binds (ps := ["rule", "chain", "state", "found"]) fun _ _ _ _ _ _ us hl => match us, hl with | [_, _, _, _], _ => rfl), gPp := PySem.W.mg_of X G a34,
    fLb := f35, fdLb := _, FLb := F35, bLb := (F35.binds (ps := ["first", "last", "page"]) fun _ _ _ _ _ _ us hl => match us, hl with | [_, _, _], _ => rfl), gLb := PySem.W.mg_of X G a35,
    fTw := f36, fdTw := _, FTw := F36, bTw := (F36.binds (ps := ["chain", "state"]) fun _ _ _ _ _ _ us hl => match us, hl with | [_, _], _ => rfl), gTw := PySem.W.mg_of X G a36,
    fHi := f37, fdHi := _, FHi := F37, MHi := ⟨mkHeap, a37, i37, kcHeap⟩, bHi := B37,
    fHg := f38, fdHg := _, FHg := F38, bHg := (F38.binds (ps := ["self", "size"]) fun _ _ _ _ _ _ us hl => match us, hl with | [_, _], _ => rfl), mHg := ⟨a38, i38, k38⟩,
    fPt := f39, fdPt := _, FPt := F39, bPt := (F39.binds (ps := ["self", "address", "size"]) fun _ _ _ _ _ _ us hl => match us, hl with | [_, _, _], _ => rfl), mPt := ⟨a39, i39, k39⟩,
    fHk := f40, fdHk := _, FHk := F40, bHk := (F40.binds (ps := ["self", "size"]) fun _ _ _ _ _ _ us hl => match us, hl with | [_, _], _ => rfl), mHk := ⟨a40, i40, k40⟩,
    fHe := f41, fdHe := _, FHe := F41, bHe := (F41.binds (ps := ["self", "address", "size"]) fun _ _ _ _ _ _ us hl => match us, hl with | [_, _, _], _ => rfl), mHe := ⟨a41, i41, k41⟩,
    fHf := f42, fdHf := _, FHf := F42, bHf := (F42.binds (ps := ["self", "address"]) fun _ _ _ _ _ _ us hl => match us, hl with | [_, _], _ => rfl), mHf := ⟨a42, i42, k42⟩,
    fUn := f43, fdUn := _, FUn := F43, bUn := (F43.binds (ps := ["self"]) fun _ _ _ _ _ _ us hl => match us, hl with | [_], _ => rfl), mUn := ⟨a43, i43, k43⟩,
    fHs := f44, fdHs := _, FHs := F44, bHs := (F44.binds (ps := ["self"]) fun _ _ _ _ _ _ us hl => match us, hl with | [_], _ => rfl), mHs := ⟨a44, i44, k44⟩,
    fHh := f45, fdHh := _, FHh := F45, bHh := (F45.binds (ps := ["self"]) fun _ _ _ _ _ _ us hl => match us, hl with | [_], _ => rfl), mHh := ⟨a45, i45, k45⟩,
    fLn := f46, fdLn := _, FLn := F46, bLn := (F46.binds (ps := ["self"]) fun _ _ _ _ _ _ us hl => match us, hl with | [_], _ => rfl), mLn := ⟨a46, i46, k46⟩,
    fEw := f47, fdEw := _, FEw := F47, bEw := (F47.binds (ps := ["word", "address", "size"]) fun _ _ _ _ _ _ us hl => match us, hl with | [_, _, _], _ => rfl), gEw := PySem.W.mg_of X G a47,
    fRy := f48, fdRy := _, FRy := F48, bRy := (F48.binds (ps := ["chain", "pages", "limit", "history"]) fun _ _ _ _ _ _ us hl => match us, hl with | [_, _, _, _], _ => rfl), gRy := PySem.W.mg_of X G a48,
    fFe := f49, fdFe := _, FFe := F49, bFe := (F49.binds (ps := ["value"]) fun _ _ _ _ _ _ us hl => match us, hl with | [_], _ => rfl), gFe := PySem.W.mg_of X G a49,
    fRe := f50, fdRe := _, FRe := F50, bRe := (F50.binds (ps := ["heap", "event"]) fun _ _ _ _ _ _ us hl => match us, hl with | [_, _], _ => rfl), gRe := PySem.W.mg_of X G a50,
    fSc := f51, fdSc := _, FSc := F51, bSc := (F51.binds (ps := ["_law_script", "_law_k"]) fun _ _ _ _ _ _ us hl => match us, hl with | [_, _], _ => rfl), gSc := PySem.W.mg_of X G a51,
    fNu := f52, fdNu := _, FNu := F52, bNu := (F52.binds (ps := ["_law_source_here", "_law_below"]) fun _ _ _ _ _ _ us hl => match us, hl with | [_, _], _ => rfl), gNu := PySem.W.mg_of X G a52,
    fCo := f53, fdCo := _, FCo := F53, bCo := (F53.binds (ps := ["_law_source_here", "_law_some"]) fun _ _ _ _ _ _ us hl => match us, hl with | [_, _], _ => rfl), gCo := PySem.W.mg_of X G a53,
    fWs := f54, fdWs := _, FWs := F54, bWs := (F54.binds (ps := ["_law_blocks"]) fun _ _ _ _ _ _ us hl => match us, hl with | [_], _ => rfl), gWs := PySem.W.mg_of X G a54,
    fLs := f55, fdLs := _, FLs := F55, bLs := (F55.binds (ps := ["_law_sizes", "_law_pages_here", "_law_blocks", "_law_many"]) fun _ _ _ _ _ _ us hl => match us, hl with | [_, _, _, _], _ => rfl), gLs := PySem.W.mg_of X G a55,
    fLp := f56, fdLp := _, FLp := F56, bLp := (F56.binds (ps := ["_law_blocks", "_law_start", "_law_many"]) fun _ _ _ _ _ _ us hl => match us, hl with | [_, _, _], _ => rfl), gLp := PySem.W.mg_of X G a56,
    fLk := f57, fdLk := _, FLk := F57, bLk := (F57.binds (ps := ["_law_blocks", "_law_start"]) fun _ _ _ _ _ _ us hl => match us, hl with | [_, _], _ => rfl), gLk := PySem.W.mg_of X G a57,
    fEv := f58, fdEv := _, FEv := F58, bEv := (F58.binds (ps := ["_law_sizes", "_law_most", "_law_pages_here"]) fun _ _ _ _ _ _ us hl => match us, hl with | [_, _, _], _ => rfl), gEv := PySem.W.mg_of X G a58,
    fMs := f59, fdMs := _, FMs := F59, bMs := (F59.binds (ps := ["_law_sizes", "_law_most", "_law_pages_here", "_law_blocks"]) fun _ _ _ _ _ _ us hl => match us, hl with | [_, _, _, _], _ => rfl), gMs := PySem.W.mg_of X G a59,
    fRk := f60, fdRk := _, FRk := F60, bRk := (F60.binds (ps := ["_law_sizes", "_law_most", "_law_pages_here"]) fun _ _ _ _ _ _ us hl => match us, hl with | [_, _, _], _ => rfl), gRk := PySem.W.mg_of X G a60,
    fSg := f61, fdSg := _, FSg := F61, bSg := (F61.binds (ps := ["_law_source_here", "_law_largest"]) fun _ _ _ _ _ _ us hl => match us, hl with | [_, _], _ => rfl), gSg := PySem.W.mg_of X G a61,
    fAx := f62, fdAx := _, FAx := F62, bAx := (F62.binds (ps := ["_law_made", "_law_asked_here"]) fun _ _ _ _ _ _ us hl => match us, hl with | [_, _], _ => rfl), gAx := PySem.W.mg_of X G a62,
    fLaw := fa, fdLaw := _, FLaw := F63, bLaw := (F63.binds (ps := ["_law_script"]) fun _ _ _ _ _ _ us hl => match us, hl with | [_], _ => rfl), gLaw := PySem.W.mg_of X G a63,
    cPp := tcPp, pPp := tpPp, ePp := tab_code ttPp a34 l34 }
  have te : TabsE K h [(tcPp, tpPp)] := ⟨fun p hp => ?_, fun p hp => ?_, fun p hp => ?_⟩
  refine ⟨PySem.W.fnOf "law" "law" (defArgs (topS 81)) (defBody (topS 81)) (defScope (topS 81)) .none kV63 dc63 pm63 an63 cd63 ct63, [(tcPp, tpPp)], te, fun s v => .of_eq rfl, fun H a ns hl hT hS => ?_, fun base _ _ hB => ok_Law (k := 0) Z (hB (tcPp, tpPp) (by simp))⟩
  · exact ⟨a, ns, rfl, hS, hl, tabsAt hT, fun _ => rfl⟩
  · simp only [List.mem_cons, List.not_mem_nil, or_false] at hp
    rcases hp with rfl
    · exact (TT _ _ _ rqPp ttPp).2
  · simp only [List.mem_cons, List.not_mem_nil, or_false] at hp
    rcases hp with rfl
    · exact toPp
  · simp only [List.mem_cons, List.not_mem_nil, or_false] at hp
    rcases hp with rfl
    · exact (TT _ _ _ rqPp ttPp).1
end Ph
open PySem PySem.W PyProof.Rows
set_option maxHeartbeats 0 in
theorem PySem.Challenge.cw_pinnedheap_k86_whole_strategies_against_holds : PySem.Challenge.rw_pinnedheap_k86_whole_strategies_against.Holds := by
  w_on; o_law; k_head; (case hw => w_witness2)
  k_fill
  refine Ph.walkTG (l := PySem.Challenge.rw_pinnedheap_k86_whole_strategies_against) (n := 63) (k := (0 + 1 + 1 + 1 + 1 + 1 + 1 + 1 + 1 + 1 + 1 + 1)) (x := "_law_script") (sp := fun K cs => Ph.spLaw K (cs.getD 0 (0, 0)).2) rfl (by decide) rfl ⟨rfl, by decide, by decide⟩ (fun w h Y => by first | exact PySem.W.kIn_of Y | exact PySem.W.km_in_of Y) ?F
  case F =>
    intro w mg fa h KX G hmg TT
    refine' Ph.all_mk KX G hmg TT ?aCHeap ?pgHeap ?hdHeap ?poHeap ?saHeap ?mkHeap ?kcHeap ?naHeap_chain ?naHeap_pages ?naHeap_limit ?naHeap_rule ?naHeap_blocks ?naHeap_steps ?aCHeapError ?aCNoRoom ?bxH ?hdH ?tyH ?zve ?cgX ?ctX ?xLNoRoom ?saNoRoom ?bxNoRoom ?tyNoRoom ?kpNoRoom ?gaNoRoom ?ggNoRoom ?hdNoRoom ?caNoRoom ?moNoRoom ?sHNoRoom ?isNoRoom_ValueError ?nfNoRoom_size ?isNoRoom_HeapError ?isNoRoom_NoRoom ?ssNoRoom_NoRoom ?v_MOST_SIZES ?v_LARGEST_SIZE ?v_MOST_STATES ?v_MOST_WORDS ?v_RULES ?l_RULES ?a1 ?i1 ?l1 ?c1 ?k1 ?a2 ?l2 ?c2 ?k2 ?a3 ?l3 ?c3 ?k3 ?a4 ?l4 ?c4 ?k4 ?a5 ?l5 ?c5 ?k5 ?a6 ?l6 ?c6 ?k6 ?a7 ?l7 ?c7 ?k7 ?a8 ?l8 ?c8 ?k8 ?a9 ?l9 ?c9 ?k9 ?a10 ?l10 ?c10 ?k10 ?a11 ?l11 ?c11 ?k11 ?a12 ?l12 ?c12 ?k12 ?a13 ?l13 ?c13 ?k13 ?a14 ?l14 ?c14 ?k14 ?a15 ?l15 ?c15 ?k15 ?a16 ?l16 ?c16 ?k16 ?a17 ?l17 ?c17 ?k17 ?a18 ?l18 ?c18 ?k18 ?a19 ?l19 ?c19 ?k19 ?a20 ?l20 ?c20 ?k20 ?a21 ?l21 ?c21 ?k21 ?a22 ?l22 ?c22 ?k22 ?a23 ?l23 ?c23 ?k23 ?a24 ?l24 ?c24 ?k24 ?a25 ?l25 ?c25 ?k25 ?a26 ?l26 ?c26 ?k26 ?a27 ?l27 ?c27 ?k27 ?a28 ?l28 ?c28 ?k28 ?a29 ?l29 ?c29 ?k29 ?a30 ?l30 ?c30 ?k30 ?a31 ?l31 ?c31 ?k31 ?a32 ?l32 ?c32 ?k32 ?a33 ?l33 ?c33 ?k33 ?a34 ?l34 ?c34 ?k34 ?a35 ?l35 ?c35 ?k35 ?a36 ?l36 ?c36 ?k36 ?a37 ?i37 ?l37 ?c37 ?k37 ?d37_rule ?a38 ?i38 ?l38 ?c38 ?k38 ?a39 ?i39 ?l39 ?c39 ?k39 ?a40 ?i40 ?l40 ?c40 ?k40 ?a41 ?i41 ?l41 ?c41 ?k41 ?a42 ?i42 ?l42 ?c42 ?k42 ?a43 ?i43 ?l43 ?c43 ?k43 ?a44 ?i44 ?l44 ?c44 ?k44 ?a45 ?i45 ?l45 ?c45 ?k45 ?a46 ?i46 ?l46 ?c46 ?k46 ?a47 ?l47 ?c47 ?k47 ?a48 ?l48 ?c48 ?k48 ?a49 ?l49 ?c49 ?k49 ?a50 ?l50 ?c50 ?k50 ?a51 ?l51 ?c51 ?k51 ?a52 ?l52 ?c52 ?k52 ?a53 ?l53 ?c53 ?k53 ?a54 ?l54 ?c54 ?k54 ?a55 ?l55 ?c55 ?k55 ?a56 ?l56 ?c56 ?k56 ?a57 ?l57 ?c57 ?k57 ?a58 ?l58 ?c58 ?k58 ?a59 ?l59 ?c59 ?k59 ?a60 ?l60 ?c60 ?k60 ?a61 ?l61 ?c61 ?k61 ?a62 ?l62 ?c62 ?k62 ?a63 ?l63 ?c63 ?k63 ?ttPp ?toPp ?rqPp ?z1 ?z2 ?z3 ?z4 ?z5 ?z6 ?z7 ?z8 ?z9 ?z10 ?z11 ?z12 ?z13 ?z14 ?z15 ?z16 ?z17 ?z18 ?z19 ?z20 ?z21 ?zd
    (case aCHeap => first | k_is | kit_is | rfl | decide +kernel); (case pgHeap => first | k_is | kit_is | rfl | decide +kernel); (case hdHeap => first | k_is | kit_is | rfl | decide +kernel); (case poHeap => first | k_is | kit_is | rfl | decide +kernel); (case saHeap => first | k_is | kit_is | rfl | decide +kernel); (case mkHeap => first | k_is | kit_is | rfl | decide +kernel); (case kcHeap => first | k_is | kit_is | rfl | decide +kernel); (case naHeap_chain => first | k_is | kit_is | rfl | decide +kernel); (case naHeap_pages => first | k_is | kit_is | rfl | decide +kernel); (case naHeap_limit => first | k_is | kit_is | rfl | decide +kernel); (case naHeap_rule => first | k_is | kit_is | rfl | decide +kernel); (case naHeap_blocks => first | k_is | kit_is | rfl | decide +kernel); (case naHeap_steps => first | k_is | kit_is | rfl | decide +kernel); (case aCHeapError => first | k_is | kit_is | rfl | decide +kernel); (case aCNoRoom => first | k_is | kit_is | rfl | decide +kernel); (case bxH => first | k_is | kit_is | rfl | decide +kernel); (case hdH => first | k_is | kit_is | rfl | decide +kernel); (case tyH => first | k_is | kit_is | rfl | decide +kernel); (case zve => first | k_is | kit_is | rfl | decide +kernel); (case cgX => first | k_is | kit_is | rfl | decide +kernel); (case ctX => first | k_is | kit_is | rfl | decide +kernel); (case xLNoRoom => first | k_is | kit_is | rfl | decide +kernel); (case saNoRoom => first | k_is | kit_is | rfl | decide +kernel); (case bxNoRoom => first | k_is | kit_is | rfl | decide +kernel); (case tyNoRoom => first | k_is | kit_is | rfl | decide +kernel); (case kpNoRoom => first | k_is | kit_is | rfl | decide +kernel); (case gaNoRoom => first | k_is | kit_is | rfl | decide +kernel); (case ggNoRoom => first | k_is | kit_is | rfl | decide +kernel); (case hdNoRoom => first | k_is | kit_is | rfl | decide +kernel); (case caNoRoom => first | k_is | kit_is | rfl | decide +kernel); (case moNoRoom => first | k_is | kit_is | rfl | decide +kernel); (case sHNoRoom => first | k_is | kit_is | rfl | decide +kernel); (case isNoRoom_ValueError => first | k_is | kit_is | rfl | decide +kernel); (case nfNoRoom_size => first | k_is | kit_is | rfl | decide +kernel); (case isNoRoom_HeapError => first | k_is | kit_is | rfl | decide +kernel); (case isNoRoom_NoRoom => first | k_is | kit_is | rfl | decide +kernel); (case ssNoRoom_NoRoom => first | k_is | kit_is | rfl | decide +kernel); (case v_MOST_SIZES => first | k_is | kit_is | rfl | decide +kernel); (case v_LARGEST_SIZE => first | k_is | kit_is | rfl | decide +kernel); (case v_MOST_STATES => first | k_is | kit_is | rfl | decide +kernel); (case v_MOST_WORDS => first | k_is | kit_is | rfl | decide +kernel); (case v_RULES => first | k_is | kit_is | rfl | decide +kernel); (case l_RULES => first | k_is | kit_is | rfl | decide +kernel); (case a1 => first | k_is | kit_is | rfl | decide +kernel); (case i1 => first | k_is | kit_is | rfl | decide +kernel); (case l1 => first | k_is | kit_is | rfl | decide +kernel); (case c1 => first | k_is | kit_is | rfl | decide +kernel); (case k1 => first | k_is | kit_is | rfl | decide +kernel); (case a2 => first | k_is | kit_is | rfl | decide +kernel); (case l2 => first | k_is | kit_is | rfl | decide +kernel); (case c2 => first | k_is | kit_is | rfl | decide +kernel); (case k2 => first | k_is | kit_is | rfl | decide +kernel); (case a3 => first | k_is | kit_is | rfl | decide +kernel); (case l3 => first | k_is | kit_is | rfl | decide +kernel); (case c3 => first | k_is | kit_is | rfl | decide +kernel); (case k3 => first | k_is | kit_is | rfl | decide +kernel); (case a4 => first | k_is | kit_is | rfl | decide +kernel); (case l4 => first | k_is | kit_is | rfl | decide +kernel); (case c4 => first | k_is | kit_is | rfl | decide +kernel); (case k4 => first | k_is | kit_is | rfl | decide +kernel); (case a5 => first | k_is | kit_is | rfl | decide +kernel); (case l5 => first | k_is | kit_is | rfl | decide +kernel); (case c5 => first | k_is | kit_is | rfl | decide +kernel); (case k5 => first | k_is | kit_is | rfl | decide +kernel); (case a6 => first | k_is | kit_is | rfl | decide +kernel); (case l6 => first | k_is | kit_is | rfl | decide +kernel); (case c6 => first | k_is | kit_is | rfl | decide +kernel); (case k6 => first | k_is | kit_is | rfl | decide +kernel); (case a7 => first | k_is | kit_is | rfl | decide +kernel); (case l7 => first | k_is | kit_is | rfl | decide +kernel); (case c7 => first | k_is | kit_is | rfl | decide +kernel); (case k7 => first | k_is | kit_is | rfl | decide +kernel); (case a8 => first | k_is | kit_is | rfl | decide +kernel); (case l8 => first | k_is | kit_is | rfl | decide +kernel); (case c8 => first | k_is | kit_is | rfl | decide +kernel); (case k8 => first | k_is | kit_is | rfl | decide +kernel); (case a9 => first | k_is | kit_is | rfl | decide +kernel); (case l9 => first | k_is | kit_is | rfl | decide +kernel); (case c9 => first | k_is | kit_is | rfl | decide +kernel); (case k9 => first | k_is | kit_is | rfl | decide +kernel); (case a10 => first | k_is | kit_is | rfl | decide +kernel); (case l10 => first | k_is | kit_is | rfl | decide +kernel); (case c10 => first | k_is | kit_is | rfl | decide +kernel); (case k10 => first | k_is | kit_is | rfl | decide +kernel); (case a11 => first | k_is | kit_is | rfl | decide +kernel); (case l11 => first | k_is | kit_is | rfl | decide +kernel); (case c11 => first | k_is | kit_is | rfl | decide +kernel); (case k11 => first | k_is | kit_is | rfl | decide +kernel); (case a12 => first | k_is | kit_is | rfl | decide +kernel); (case l12 => first | k_is | kit_is | rfl | decide +kernel); (case c12 => first | k_is | kit_is | rfl | decide +kernel); (case k12 => first | k_is | kit_is | rfl | decide +kernel); (case a13 => first | k_is | kit_is | rfl | decide +kernel); (case l13 => first | k_is | kit_is | rfl | decide +kernel); (case c13 => first | k_is | kit_is | rfl | decide +kernel); (case k13 => first | k_is | kit_is | rfl | decide +kernel); (case a14 => first | k_is | kit_is | rfl | decide +kernel); (case l14 => first | k_is | kit_is | rfl | decide +kernel); (case c14 => first | k_is | kit_is | rfl | decide +kernel); (case k14 => first | k_is | kit_is | rfl | decide +kernel); (case a15 => first | k_is | kit_is | rfl | decide +kernel); (case l15 => first | k_is | kit_is | rfl | decide +kernel); (case c15 => first | k_is | kit_is | rfl | decide +kernel); (case k15 => first | k_is | kit_is | rfl | decide +kernel); (case a16 => first | k_is | kit_is | rfl | decide +kernel); (case l16 => first | k_is | kit_is | rfl | decide +kernel); (case c16 => first | k_is | kit_is | rfl | decide +kernel); (case k16 => first | k_is | kit_is | rfl | decide +kernel); (case a17 => first | k_is | kit_is | rfl | decide +kernel); (case l17 => first | k_is | kit_is | rfl | decide +kernel); (case c17 => first | k_is | kit_is | rfl | decide +kernel); (case k17 => first | k_is | kit_is | rfl | decide +kernel); (case a18 => first | k_is | kit_is | rfl | decide +kernel); (case l18 => first | k_is | kit_is | rfl | decide +kernel); (case c18 => first | k_is | kit_is | rfl | decide +kernel); (case k18 => first | k_is | kit_is | rfl | decide +kernel); (case a19 => first | k_is | kit_is | rfl | decide +kernel); (case l19 => first | k_is | kit_is | rfl | decide +kernel); (case c19 => first | k_is | kit_is | rfl | decide +kernel); (case k19 => first | k_is | kit_is | rfl | decide +kernel); (case a20 => first | k_is | kit_is | rfl | decide +kernel); (case l20 => first | k_is | kit_is | rfl | decide +kernel); (case c20 => first | k_is | kit_is | rfl | decide +kernel); (case k20 => first | k_is | kit_is | rfl | decide +kernel); (case a21 => first | k_is | kit_is | rfl | decide +kernel); (case l21 => first | k_is | kit_is | rfl | decide +kernel); (case c21 => first | k_is | kit_is | rfl | decide +kernel); (case k21 => first | k_is | kit_is | rfl | decide +kernel); (case a22 => first | k_is | kit_is | rfl | decide +kernel); (case l22 => first | k_is | kit_is | rfl | decide +kernel); (case c22 => first | k_is | kit_is | rfl | decide +kernel); (case k22 => first | k_is | kit_is | rfl | decide +kernel); (case a23 => first | k_is | kit_is | rfl | decide +kernel); (case l23 => first | k_is | kit_is | rfl | decide +kernel); (case c23 => first | k_is | kit_is | rfl | decide +kernel); (case k23 => first | k_is | kit_is | rfl | decide +kernel); (case a24 => first | k_is | kit_is | rfl | decide +kernel); (case l24 => first | k_is | kit_is | rfl | decide +kernel); (case c24 => first | k_is | kit_is | rfl | decide +kernel); (case k24 => first | k_is | kit_is | rfl | decide +kernel); (case a25 => first | k_is | kit_is | rfl | decide +kernel); (case l25 => first | k_is | kit_is | rfl | decide +kernel); (case c25 => first | k_is | kit_is | rfl | decide +kernel); (case k25 => first | k_is | kit_is | rfl | decide +kernel); (case a26 => first | k_is | kit_is | rfl | decide +kernel); (case l26 => first | k_is | kit_is | rfl | decide +kernel); (case c26 => first | k_is | kit_is | rfl | decide +kernel); (case k26 => first | k_is | kit_is | rfl | decide +kernel); (case a27 => first | k_is | kit_is | rfl | decide +kernel); (case l27 => first | k_is | kit_is | rfl | decide +kernel); (case c27 => first | k_is | kit_is | rfl | decide +kernel); (case k27 => first | k_is | kit_is | rfl | decide +kernel); (case a28 => first | k_is | kit_is | rfl | decide +kernel); (case l28 => first | k_is | kit_is | rfl | decide +kernel); (case c28 => first | k_is | kit_is | rfl | decide +kernel); (case k28 => first | k_is | kit_is | rfl | decide +kernel); (case a29 => first | k_is | kit_is | rfl | decide +kernel); (case l29 => first | k_is | kit_is | rfl | decide +kernel); (case c29 => first | k_is | kit_is | rfl | decide +kernel); (case k29 => first | k_is | kit_is | rfl | decide +kernel); (case a30 => first | k_is | kit_is | rfl | decide +kernel); (case l30 => first | k_is | kit_is | rfl | decide +kernel); (case c30 => first | k_is | kit_is | rfl | decide +kernel); (case k30 => first | k_is | kit_is | rfl | decide +kernel); (case a31 => first | k_is | kit_is | rfl | decide +kernel); (case l31 => first | k_is | kit_is | rfl | decide +kernel); (case c31 => first | k_is | kit_is | rfl | decide +kernel); (case k31 => first | k_is | kit_is | rfl | decide +kernel); (case a32 => first | k_is | kit_is | rfl | decide +kernel); (case l32 => first | k_is | kit_is | rfl | decide +kernel); (case c32 => first | k_is | kit_is | rfl | decide +kernel); (case k32 => first | k_is | kit_is | rfl | decide +kernel); (case a33 => first | k_is | kit_is | rfl | decide +kernel); (case l33 => first | k_is | kit_is | rfl | decide +kernel); (case c33 => first | k_is | kit_is | rfl | decide +kernel); (case k33 => first | k_is | kit_is | rfl | decide +kernel); (case a34 => first | k_is | kit_is | rfl | decide +kernel); (case l34 => first | k_is | kit_is | rfl | decide +kernel); (case c34 => first | k_is | kit_is | rfl | decide +kernel); (case k34 => first | k_is | kit_is | rfl | decide +kernel); (case a35 => first | k_is | kit_is | rfl | decide +kernel); (case l35 => first | k_is | kit_is | rfl | decide +kernel); (case c35 => first | k_is | kit_is | rfl | decide +kernel); (case k35 => first | k_is | kit_is | rfl | decide +kernel); (case a36 => first | k_is | kit_is | rfl | decide +kernel); (case l36 => first | k_is | kit_is | rfl | decide +kernel); (case c36 => first | k_is | kit_is | rfl | decide +kernel); (case k36 => first | k_is | kit_is | rfl | decide +kernel); (case a37 => first | k_is | kit_is | rfl | decide +kernel); (case i37 => first | k_is | kit_is | rfl | decide +kernel); (case l37 => first | k_is | kit_is | rfl | decide +kernel); (case c37 => first | k_is | kit_is | rfl | decide +kernel); (case k37 => first | k_is | kit_is | rfl | decide +kernel); (case d37_rule => first | k_is | kit_is | rfl | decide +kernel); (case a38 => first | k_is | kit_is | rfl | decide +kernel); (case i38 => first | k_is | kit_is | rfl | decide +kernel); (case l38 => first | k_is | kit_is | rfl | decide +kernel); (case c38 => first | k_is | kit_is | rfl | decide +kernel); (case k38 => first | k_is | kit_is | rfl | decide +kernel); (case a39 => first | k_is | kit_is | rfl | decide +kernel); (case i39 => first | k_is | kit_is | rfl | decide +kernel); (case l39 => first | k_is | kit_is | rfl | decide +kernel); (case c39 => first | k_is | kit_is | rfl | decide +kernel); (case k39 => first | k_is | kit_is | rfl | decide +kernel); (case a40 => first | k_is | kit_is | rfl | decide +kernel); (case i40 => first | k_is | kit_is | rfl | decide +kernel); (case l40 => first | k_is | kit_is | rfl | decide +kernel); (case c40 => first | k_is | kit_is | rfl | decide +kernel); (case k40 => first | k_is | kit_is | rfl | decide +kernel); (case a41 => first | k_is | kit_is | rfl | decide +kernel); (case i41 => first | k_is | kit_is | rfl | decide +kernel); (case l41 => first | k_is | kit_is | rfl | decide +kernel); (case c41 => first | k_is | kit_is | rfl | decide +kernel); (case k41 => first | k_is | kit_is | rfl | decide +kernel); (case a42 => first | k_is | kit_is | rfl | decide +kernel); (case i42 => first | k_is | kit_is | rfl | decide +kernel); (case l42 => first | k_is | kit_is | rfl | decide +kernel); (case c42 => first | k_is | kit_is | rfl | decide +kernel); (case k42 => first | k_is | kit_is | rfl | decide +kernel); (case a43 => first | k_is | kit_is | rfl | decide +kernel); (case i43 => first | k_is | kit_is | rfl | decide +kernel); (case l43 => first | k_is | kit_is | rfl | decide +kernel); (case c43 => first | k_is | kit_is | rfl | decide +kernel); (case k43 => first | k_is | kit_is | rfl | decide +kernel); (case a44 => first | k_is | kit_is | rfl | decide +kernel); (case i44 => first | k_is | kit_is | rfl | decide +kernel); (case l44 => first | k_is | kit_is | rfl | decide +kernel); (case c44 => first | k_is | kit_is | rfl | decide +kernel); (case k44 => first | k_is | kit_is | rfl | decide +kernel); (case a45 => first | k_is | kit_is | rfl | decide +kernel); (case i45 => first | k_is | kit_is | rfl | decide +kernel); (case l45 => first | k_is | kit_is | rfl | decide +kernel); (case c45 => first | k_is | kit_is | rfl | decide +kernel); (case k45 => first | k_is | kit_is | rfl | decide +kernel); (case a46 => first | k_is | kit_is | rfl | decide +kernel); (case i46 => first | k_is | kit_is | rfl | decide +kernel); (case l46 => first | k_is | kit_is | rfl | decide +kernel); (case c46 => first | k_is | kit_is | rfl | decide +kernel); (case k46 => first | k_is | kit_is | rfl | decide +kernel); (case a47 => first | k_is | kit_is | rfl | decide +kernel); (case l47 => first | k_is | kit_is | rfl | decide +kernel); (case c47 => first | k_is | kit_is | rfl | decide +kernel); (case k47 => first | k_is | kit_is | rfl | decide +kernel); (case a48 => first | k_is | kit_is | rfl | decide +kernel); (case l48 => first | k_is | kit_is | rfl | decide +kernel); (case c48 => first | k_is | kit_is | rfl | decide +kernel); (case k48 => first | k_is | kit_is | rfl | decide +kernel); (case a49 => first | k_is | kit_is | rfl | decide +kernel); (case l49 => first | k_is | kit_is | rfl | decide +kernel); (case c49 => first | k_is | kit_is | rfl | decide +kernel); (case k49 => first | k_is | kit_is | rfl | decide +kernel); (case a50 => first | k_is | kit_is | rfl | decide +kernel); (case l50 => first | k_is | kit_is | rfl | decide +kernel); (case c50 => first | k_is | kit_is | rfl | decide +kernel); (case k50 => first | k_is | kit_is | rfl | decide +kernel); (case a51 => first | k_is | kit_is | rfl | decide +kernel); (case l51 => first | k_is | kit_is | rfl | decide +kernel); (case c51 => first | k_is | kit_is | rfl | decide +kernel); (case k51 => first | k_is | kit_is | rfl | decide +kernel); (case a52 => first | k_is | kit_is | rfl | decide +kernel); (case l52 => first | k_is | kit_is | rfl | decide +kernel); (case c52 => first | k_is | kit_is | rfl | decide +kernel); (case k52 => first | k_is | kit_is | rfl | decide +kernel); (case a53 => first | k_is | kit_is | rfl | decide +kernel); (case l53 => first | k_is | kit_is | rfl | decide +kernel); (case c53 => first | k_is | kit_is | rfl | decide +kernel); (case k53 => first | k_is | kit_is | rfl | decide +kernel); (case a54 => first | k_is | kit_is | rfl | decide +kernel); (case l54 => first | k_is | kit_is | rfl | decide +kernel); (case c54 => first | k_is | kit_is | rfl | decide +kernel); (case k54 => first | k_is | kit_is | rfl | decide +kernel); (case a55 => first | k_is | kit_is | rfl | decide +kernel); (case l55 => first | k_is | kit_is | rfl | decide +kernel); (case c55 => first | k_is | kit_is | rfl | decide +kernel); (case k55 => first | k_is | kit_is | rfl | decide +kernel); (case a56 => first | k_is | kit_is | rfl | decide +kernel); (case l56 => first | k_is | kit_is | rfl | decide +kernel); (case c56 => first | k_is | kit_is | rfl | decide +kernel); (case k56 => first | k_is | kit_is | rfl | decide +kernel); (case a57 => first | k_is | kit_is | rfl | decide +kernel); (case l57 => first | k_is | kit_is | rfl | decide +kernel); (case c57 => first | k_is | kit_is | rfl | decide +kernel); (case k57 => first | k_is | kit_is | rfl | decide +kernel); (case a58 => first | k_is | kit_is | rfl | decide +kernel); (case l58 => first | k_is | kit_is | rfl | decide +kernel); (case c58 => first | k_is | kit_is | rfl | decide +kernel); (case k58 => first | k_is | kit_is | rfl | decide +kernel); (case a59 => first | k_is | kit_is | rfl | decide +kernel); (case l59 => first | k_is | kit_is | rfl | decide +kernel); (case c59 => first | k_is | kit_is | rfl | decide +kernel); (case k59 => first | k_is | kit_is | rfl | decide +kernel); (case a60 => first | k_is | kit_is | rfl | decide +kernel); (case l60 => first | k_is | kit_is | rfl | decide +kernel); (case c60 => first | k_is | kit_is | rfl | decide +kernel); (case k60 => first | k_is | kit_is | rfl | decide +kernel); (case a61 => first | k_is | kit_is | rfl | decide +kernel); (case l61 => first | k_is | kit_is | rfl | decide +kernel); (case c61 => first | k_is | kit_is | rfl | decide +kernel); (case k61 => first | k_is | kit_is | rfl | decide +kernel); (case a62 => first | k_is | kit_is | rfl | decide +kernel); (case l62 => first | k_is | kit_is | rfl | decide +kernel); (case c62 => first | k_is | kit_is | rfl | decide +kernel); (case k62 => first | k_is | kit_is | rfl | decide +kernel); (case a63 => first | k_is | kit_is | rfl | decide +kernel); (case l63 => first | k_is | kit_is | rfl | decide +kernel); (case c63 => first | k_is | kit_is | rfl | decide +kernel); (case k63 => first | k_is | kit_is | rfl | decide +kernel); (case ttPp => first | k_is | kit_is | rfl | decide +kernel); (case toPp => first | k_is | kit_is | rfl | decide +kernel); (case rqPp => first | k_is | kit_is | rfl | decide +kernel); (case z1 => first | k_is | kit_is | rfl | decide +kernel); (case z2 => first | k_is | kit_is | rfl | decide +kernel); (case z3 => first | k_is | kit_is | rfl | decide +kernel); (case z4 => first | k_is | kit_is | rfl | decide +kernel); (case z5 => first | k_is | kit_is | rfl | decide +kernel); (case z6 => first | k_is | kit_is | rfl | decide +kernel); (case z7 => first | k_is | kit_is | rfl | decide +kernel); (case z8 => first | k_is | kit_is | rfl | decide +kernel); (case z9 => first | k_is | kit_is | rfl | decide +kernel); (case z10 => first | k_is | kit_is | rfl | decide +kernel); (case z11 => first | k_is | kit_is | rfl | decide +kernel); (case z12 => first | k_is | kit_is | rfl | decide +kernel); (case z13 => first | k_is | kit_is | rfl | decide +kernel); (case z14 => first | k_is | kit_is | rfl | decide +kernel); (case z15 => first | k_is | kit_is | rfl | decide +kernel); (case z16 => first | k_is | kit_is | rfl | decide +kernel); (case z17 => first | k_is | kit_is | rfl | decide +kernel); (case z18 => first | k_is | kit_is | rfl | decide +kernel); (case z19 => first | k_is | kit_is | rfl | decide +kernel); (case z20 => first | k_is | kit_is | rfl | decide +kernel); (case z21 => first | k_is | kit_is | rfl | decide +kernel); (case zd => first | k_is | kit_is | rfl | decide +kernel)
