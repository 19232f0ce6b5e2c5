import PyProof.Rows.All
import Wide.All
import OpenK.AllK
import Wide.FinOn
import HandS.ForMost
import HandS.ForExc
import HandS.Wide
import HandS.Zip
import HandS.TupAny
import HandS.RaiseMore
import HandS.IsInst
import KE.KIntText
import HandS.SetFor
import HandS.Strs
import HandS.SortInts
import HandS.Conv
import KE.KDictSum
import HandS.SortRule
import HandS.Deep
import PyProof.P3In
import HandS.Sort
import HandS.Walk
import HandS.Small
import PySem.Challenge.RW_pinnedheap_k15_whole_keepers_fit_togethe
set_option Elab.async false
set_option linter.all false
set_option maxRecDepth 100000
namespace Ph
open PySem PySem.Spec PyProof.Rows L2 PySem.NumText PySem.Calls
/-! ### the limit on digits stands as it was at the beginning -/
theorem noDigits_of {K : PySem.W.Frag} {h : Heap} (X : K.In h) (L : h.NoLimit) (e : PySem.W.nsIn K cStatics "sys.int_max_str_digits" = some none) : h.NoDigits := by
  obtain ⟨mc, G, _⟩ := L
  refine ⟨mc, G, ?_⟩
  obtain ⟨o, es, ep, ho, hd, _, hf⟩ := G
  unfold PySem.W.nsIn at e
  split at e
  · rename_i c d es' n' sl q
    have := X _ _ q
    rw [ho] at this
    cases this
    cases hd
    split at e
    · cases e
    · rename_i he
      rw [← hf]
      unfold nsFind findBy
      rw [← Array.find?_toList, he]
      rfl
  · cases e
theorem wp_digits {M : Model} {A : Around} {E : Value → Shared → Prop} {s : Shared} {Q : Nat → Shared → Prop} (hn : s.heap.NoDigits) (h : Q 4300 s) : wpAny M A Builtin.intMaxStrDigits Q E s := by
  obtain ⟨mc, hns, hnone⟩ := hn
  unfold Builtin.intMaxStrDigits
  refine wpAny_bind (wpAny_nsGet hns ?_)
  rw [hnone]
  exact wpAny_pure h
/-! ### int(text) of more than 640 digits -/
theorem wp_textW {M : Model} {A : Around} {E : Value → Shared → Prop} {s : Shared} {Q : Value → Shared → Prop} {v : Value} {text : List Nat} {n : Int} (hn : s.heap.NoDigits)
    (hs : ¬ (text.takeWhile (· != 0)).length ≤ 640) (hr : (int_private% "readNumeral") 4300 10 (text.takeWhile (· != 0)) = (int_private% "Numeral.value") n)
    (ha : ((text.takeWhile (· != 0)).length == text.length) = true) (h : Q (.int n s.toks) { s with toks := s.toks + 1 }) :
    wpAny M A ((int_private% "intFromText") v text 10) Q E s := by
  show wpAny M A (if (text.takeWhile (· != 0)).length ≤ 640 then _ else (Builtin.intMaxStrDigits >>= _)) Q E s
  rw [if_neg hs]
  refine wpAny_bind (wp_digits hn ?_)
  dsimp only
  rw [hr]
  dsimp only
  rw [if_pos ha]
  exact wpAny_mkInt h
set_option maxHeartbeats 4000000 in
theorem meets_textW {x : PySem.Str} {u : Tok} {n : Int} (hs : ¬ (numSeenOf x).length ≤ 640) (hr : (int_private% "readNumeral") 4300 10 (numSeenOf x) = (int_private% "Numeral.value") n) (ha : ((numSeenOf x).length == (numTextOf x).length) = true) :
    Meets (Builtin.«int.__new__» ⟨[.type "int", .str x u], []⟩) (fun _ R s => s.heap.NoDigits ∧ R (.ok (.ret (.int n s.toks))) { s with toks := s.toks + 1 }) :=
  .of_wp fun prog w A R s h => by
    obtain ⟨hn, h⟩ := h
    obtain ⟨hp, g, d, tk, os⟩ := s
    have f1 := F.conv_sub_int
    have f2 := F.madeHere_int
    have f3 := PySem.W.KIN.str_int
    have f4 := PySem.W.KIN.str_idx
    have f5 := PySem.W.KIN.str_trunc
    have f6 : typeOf (.str x u) = pure (.type "str") := rfl
    have hk := PySem.W.KIN.Hid.mk (And.intro hs (And.intro hr ha))
    have hk2 := PySem.W.KIN.Hid.mk hn
    clear hs hr ha hn
    repeat (any_goals (first
      | assumption
      | ((with_reducible show wpAny _ _ ((int_private% "intFromText") _ _ _) _ _ _); refine wp_textW hk2.out hk.out.1 hk.out.2.1 hk.out.2.2 ?_)
      | wp_step))
    all_goals first | exact ⟨_, rfl, h⟩ | skip
def big9 : PySem.Str := (Str.ofString "1") ++ Txt.mul (Str.ofString "0") 900
theorem reps_list (c : Nat) : ∀ (k : Nat) (acc : Array Nat), ((List.replicate k (#[c] : Array Nat)).foldl (· ++ ·) acc).toList = acc.toList ++ List.replicate k c
  | 0, acc => by simp
  | k + 1, acc => by
    rw [List.replicate_succ, List.foldl_cons, reps_list c k, List.replicate_succ]
    simp
theorem zeros_list : (Txt.mul (Str.ofString "0") 900).cps.toList = List.replicate 900 48 := by
  have e : Txt.mul (Str.ofString "0") 900 = ⟨(List.replicate 900 (#[48] : Array Nat)).foldl (· ++ ·) #[]⟩ := by
    unfold Txt.mul
    rw [if_neg (by decide), if_neg (by decide +kernel)]
    rfl
  rw [e]
  exact reps_list 48 900 #[]
theorem big9_list : big9.cps.toList = 49 :: List.replicate 900 48 := by
  have e : big9.cps.toList = (Str.ofString "1").cps.toList ++ (Txt.mul (Str.ofString "0") 900).cps.toList := Array.toList_append
  rw [e, zeros_list]
  rfl
theorem big9_digits : AllDigits big9.cps.toList := by
  rw [big9_list]
  intro d hd
  rcases List.mem_cons.mp hd with e | e
  · subst e; decide
  · rw [(List.mem_replicate.mp e).2]; decide
theorem digits_zeros : ∀ (k a : Nat), (List.replicate k 48).foldl (fun acc c => acc * 10 + (c - 48)) a = a * 10 ^ k
  | 0, a => by simp
  | k + 1, a => by
    rw [List.replicate_succ, List.foldl_cons, digits_zeros k, Nat.pow_succ]
    show (a * 10 + 0) * 10 ^ k = a * (10 ^ k * 10)
    rw [Nat.add_zero, Nat.mul_assoc, Nat.mul_comm 10 (10 ^ k)]
theorem big9_val : digitsVal big9.cps.toList = 10 ^ 900 := by
  rw [big9_list]
  unfold digitsVal
  rw [List.foldl_cons, digits_zeros]
  show (0 * 10 + 1) * 10 ^ 900 = 10 ^ 900
  rw [Nat.zero_mul, Nat.zero_add, Nat.one_mul]
theorem big9_length : big9.length = 901 := by
  have e : big9.cps.toList.length = big9.length := Array.length_toList
  rw [← e, big9_list, List.length_cons, List.length_replicate]
theorem ten_ex : ∃ t : Int, intText? big9 = some t ∧ 0 < t ∧ t.natAbs < 2 ^ 3000 := by
  refine ⟨_, intText_digits big9_digits (by rw [big9_list]; exact List.cons_ne_nil _ _) (by rw [big9_length]; decide), ?_, ?_⟩
  · rw [big9_val]
    exact Int.natCast_pos.mpr (Nat.pow_pos (by decide))
  · rw [big9_val, Int.natAbs_natCast]
    decide +kernel
noncomputable def ten9 : Int := Classical.choose ten_ex
theorem big9_int : intText? big9 = some ten9 := (Classical.choose_spec ten_ex).1
theorem ten9_pos : 0 < ten9 := (Classical.choose_spec ten_ex).2.1
theorem ten9_lt : ten9.natAbs < 2 ^ 3000 := (Classical.choose_spec ten_ex).2.2
theorem big9_text : numTextOf big9 = big9.cps.toList ∧ numSeenOf big9 = big9.cps.toList := numText_signs fun c hc => Or.inr (big9_digits c hc)
theorem big9_seen : ¬ (numSeenOf big9).length ≤ 640 := by
  rw [big9_text.2, big9_list, List.length_cons, List.length_replicate]
  decide
theorem big9_all : ((numSeenOf big9).length == (numTextOf big9).length) = true := by
  rw [big9_text.1, big9_text.2]
  exact beq_self_eq_true _
theorem big9_read : (int_private% "readNumeral") 4300 10 (numSeenOf big9) = (int_private% "Numeral.value") ten9 := by
  rcases read4300 big9 (by rw [big9_length]; decide) with ⟨n, h1, h2, h3⟩ | ⟨h1, _⟩
  · rw [Option.some.inj (big9_int.symm.trans h1)]
    exact h3
  · rw [big9_int] at h1
    cases h1
theorem zeros_length : (Txt.mul (Str.ofString "0") 900).length = 900 := by
  have e : (Txt.mul (Str.ofString "0") 900).cps.toList.length = (Txt.mul (Str.ofString "0") 900).length := Array.length_toList
  rw [← e, zeros_list, List.length_replicate]
theorem big9_len : (Str.ofString "1").length + (Txt.mul (Str.ofString "0") 900).length ≤ sizeLine := by
  rw [zeros_length]
  decide +kernel
theorem zeros_ok : MulOk (Str.ofString "0") 900 := ⟨by decide, fun _ _ => by decide +kernel, fun _ _ => by decide +kernel⟩
section
variable {X : Cx}
theorem Inv.noDigits {pins : List (Addr × Obj)} {σ : List (Option V)} {H : Hp} {s : Shared} (I : Inv X pins σ H s) (e : PySem.W.nsIn X.K cStatics "sys.int_max_str_digits" = some none) : s.heap.NoDigits :=
  (noDigits_of I.ok.mod.kin I.ok.mod.nolimit e).keeps I.bk
theorem call_big9 (e : PySem.W.nsIn X.K cStatics "sys.int_max_str_digits" = some none) : CallR X (.type "int") (fun xs H Q => xs = [.str big9] ∧ Q (.int ten9) H) := by
  intro pins s σ H xs us Q I r h
  obtain ⟨rfl, q⟩ := h
  obtain ⟨u, rfl, t, rfl⟩ := vals1 r
  exact call_int_1 (meets_textW big9_seen big9_read big9_all) ⟨Inv.noDigits I e, ⟨typeIs_int _ _ _, ⟨.int ten9, H, I.tok _, ⟨_, rfl⟩, q⟩⟩⟩
/-- text * number -/
theorem op_repS : OpR X (binaryOp .Mult) (fun x y H Q => ∃ z k, x = .str z ∧ y = .int k ∧ MulOk z k ∧ Q (.str (Txt.mul z k)) H) := by
  intro pins s σ H x y v u Q I rx ry h
  obtain ⟨i, j, rfl, rfl, hz, q⟩ := h
  obtain ⟨t, rfl⟩ := rx
  obtain ⟨t', rfl⟩ := ry
  exact SB.mul hz (fun t' k => ⟨.str _, H, I.tok _, ⟨_, rfl⟩, q⟩)
theorem iop_mulW : OpR X (inplaceOp .Mult) (rI CMulW fun i j => .int (i * j)) := opI fun _ _ _ _ _ _ _ hc q => imul_int q hc.ok
theorem ip_mulW : PIp X .Mult (fun x y H Q => ∃ i j, x = .int i ∧ y = .int j ∧ CMulW i j ∧ Q (.int (i * j)) H) := by
  intro pins s σ H x y v u Q I r1 r2 h
  obtain ⟨i, j, e1, e2, hc, q⟩ := h
  subst e1; subst e2
  obtain ⟨t, rfl⟩ := r1
  obtain ⟨t', rfl⟩ := r2
  exact imul_int ⟨.int _, H, I.tok _, ⟨_, rfl⟩, q⟩ hc.ok
theorem repr_wide {prog : Program} {w : World} {A : Around} {E : Value → Shared → Prop} {s : Shared} {a : Int} {t : Tok} {Q : Value → Shared → Prop} (hn : s.heap.NoDigits) (hlt : a.natAbs < 10 ^ 4300) (h : Q (.str (toString a) s.toks) { s with toks := s.toks + 1 }) :
    wpAny (model prog w) A (call (.builtin "repr") [.int a t]) Q E s := by
  refine Calls.call_function_entry F.kind_repr F.plain_repr F.entry_repr (F.args_repr1 _) ?_
  unfold Builtin.«repr»
  refine wpAny_bind (m := oneArg "repr" _) (wpAny_pure ?_)
  have hv : [Value.int a t].any Value.onHeap = false := rfl
  simp only [cRoomFor, hv, Bool.false_eq_true, if_false, pure_bind]
  refine wpAny_bind (wpAny_specialOf (name := Str.ofString "__repr__") (typeIs_int s a t) F.slot_int_repr.lookup ?_)
  refine wpAny_bind (m := callSpecialIfBound? (.int a t) (Str.ofString "__repr__")) (wpAny_callSpecialIfBound?_slot (name := Str.ofString "__repr__") (typeIs_int s a t) F.slot_int_repr ?_)
  refine wpAny_call_entry F.slot_int_repr (typeIs_int s a t) F.entry_int_repr ?_ (F.args_int_repr_1 _)
  unfold Builtin.«int.__repr__»
  show wpAny _ _ (do let r ← Builtin.overDigitLimit? a; _) _ _ s
  refine wpAny_bind (overDigitLimit_any hn (fun hlt => ?_) (fun hge => absurd hlt (Nat.not_lt.mpr hge)))
  refine wpAny_bind (wpAny_mkStr (wpAny_pure ⟨_, rfl, ?_⟩) (int_text_fits10 hlt))
  refine wpAny_bind (wpAny_isInstance (T := "str") (b := true) rfl isSubtype_str_str ?_)
  exact wpAny_pure ⟨_, rfl, h⟩
theorem call_reprW (e : PySem.W.nsIn X.K cStatics "sys.int_max_str_digits" = some none) : CallR X (.builtin "repr") (fun xs H Q => ∃ i, xs = [.int i] ∧ i.natAbs < 10 ^ 4300 ∧ Q (.str (toString i)) H) := by
  intro pins s σ H xs us Q I r h
  obtain ⟨i, rfl, hz, q⟩ := h
  obtain ⟨u, rfl, t, rfl⟩ := vals1 r
  exact repr_wide (Inv.noDigits I e) hz ⟨.str _, H, I.tok _, ⟨_, rfl⟩, q⟩
end
end Ph

namespace Ph
open PySem PySem.Spec PyProof.Rows L2
def topS (i : Nat) : Stmt := PySem.Challenge.pw_pinnedheap_k15_whole_keepers_fit_togethe.main.body.getD i (.Pass ⟨0, 0, 0, 0⟩)
abbrev sPot : Stmt := topS 12
abbrev sTake : Stmt := topS 13
abbrev sOf : Stmt := topS 14
abbrev sLinks : Stmt := topS 15
theorem scPot : FnScope ["_law_script", "_law_k", "_law_cell", "_law_great"] ["_law_script", "_law_k"] (defScope sPot) := ⟨rfl, rfl, rfl, by decide +kernel, rfl, by decide +kernel, by decide +kernel⟩
theorem scTake : FnScope ["_law_pot_here", "_law_upto", "_law_digit"] ["_law_pot_here", "_law_upto"] (defScope sTake) := ⟨rfl, rfl, rfl, by decide +kernel, rfl, by decide +kernel, by decide +kernel⟩
theorem scOf : FnScope ["_law_pot_here", "_law_some"] ["_law_pot_here", "_law_some"] (defScope sOf) := ⟨rfl, rfl, rfl, by decide +kernel, rfl, by decide +kernel, by decide +kernel⟩
/-! ### the pot -/
def But (p : Addr) (H H' : Hp) : Prop := ∀ b o, b ≠ p → H b = some o → H' b = some o
theorem But.refl (p : Addr) (H : Hp) : But p H H := fun _ _ _ h => h
theorem But.trans {p : Addr} {H H1 H2 : Hp} (a : But p H H1) (b : But p H1 H2) : But p H H2 := fun c o n h => b c o n (a c o n h)
theorem Same.but {p : Addr} {H H' : Hp} (a : Same H H') : But p H H' := fun b o _ h => a b o h
theorem same_upd {H : Hp} {p : Addr} {o : HO} (h : H p = none) : Same H (upd H p o) := fun b x e => by
  rw [upd_ne (ne_of_none e h)]
  exact e
theorem but_upd {H : Hp} {p : Addr} {o : HO} : But p H (upd H p o) := fun b x n e => by
  rw [upd_ne n]
  exact e
def mM : Int := 2305843009213693951
structure PotV (g r : Int) : Prop where
  g0 : 0 ≤ g
  g1 : g.natAbs < 2 ^ 3000
  r0 : 0 ≤ r
  r1 : r < 2305843009213693951
def Pot (H : Hp) (p : Addr) : Prop := ∃ g r : Int, H p = some (.lst [.int g, .int r]) ∧ PotV g r
theorem great_mod (x : Int) : 0 ≤ x % ten9 ∧ (x % ten9).natAbs < 2 ^ 3000 := by
  have p := ten9_pos
  have h0 : 0 ≤ x % ten9 := Int.emod_nonneg _ (by omega)
  exact ⟨h0, wide_le h0 (Int.le_of_lt (Int.emod_lt_of_pos _ p)) ten9_lt⟩
theorem great_mul (x : Int) (b : Bool) : CMulW (x % ten9) (if b = true then 1 else 0) :=
  wide_mul (b := 2) (great_mod x).2 (by cases b <;> decide) (by decide) (by decide) (by decide)
theorem great_pot (x : Int) (b : Bool) : 0 ≤ x % ten9 * (if b = true then 1 else 0) ∧ (x % ten9 * (if b = true then 1 else 0)).natAbs < 2 ^ 3000 := by
  cases b
  · rw [if_neg (by decide), Int.mul_zero]
    exact ⟨Int.le_refl _, Nat.pow_pos (by decide)⟩
  · rw [if_pos rfl, Int.mul_one]
    exact great_mod x
section
variable {P : Program} {w : World} {K : PySem.W.Frag} {mg : Str → Option Value} {base : Heap}
def spPot (K : PySem.W.Frag) : Sp := fun vs H Q _ => ∃ (a : Addr) (ns : List Int) (k : Nat), vs = [.ref a, .int k] ∧ SqL K H a (ns.map V.int) ∧ k ≤ 1000 ∧ ∀ H' p, Same H H' → H p = none → Pot H' p → Q (.ref p) H'
theorem ok_pot {f : Addr} {fd : FuncData} {k : Nat} (F : Fun K "_law_pot" "_law_pot" sPot f fd) (ml : mg "len" = none) (ma : mg "abs" = none) (mi : mg "int" = none) (nd : PySem.W.nsIn K cStatics "sys.int_max_str_digits" = some none) : FnOk P w K mg base CX0 (k + 1) f fd ["_law_script", "_law_k"] (spPot K) := by
  refine F.ok scPot (fun vs H Q E h => ?_) (fun cdv A outer s H vs Q E hr h => ?_)
  · obtain ⟨a, ns, k, rfl, _⟩ := h
    rfl
  · obtain ⟨a, ns, n, rfl, hS, hn, q⟩ := h
    refine ⟨_, pss_cons (ps_set (i := 2) scPot.nd rfl (.inl rfl) (pe_op op_add (pe_op op_mul pe_int (pv 1)) (pe_callB call_len_seq (by rfl) ml PySem.boot_len (pa_cons (pv 0) pa_nil))))
      (pss_cons (ps_if (pt_cmpR op_lt (pv 1) (pe_callB call_len_seq (by rfl) ml PySem.boot_len (pa_cons (pv 0) pa_nil)) (nomark _))
        (pss_one (ps_set (i := 2) scPot.nd rfl (.inl rfl) (pe_ix ix_list (pv 0) (pv 1) (fun _ _ => rfl)))) pss_nil)
      (pss_cons (ps_set (i := 3) scPot.nd rfl (.inl rfl) (pe_op op_mulW (pe_op op_mod (pe_callB call_abs (by rfl) ma (by decide +kernel) (pa_cons (pv 2) pa_nil)) (pe_callTy (call_big9 nd) (by rfl) mi (by decide +kernel) (pa_cons (pe_op op_add_str pe_str (pe_op op_repS pe_str pe_int)) pa_nil)))
          (pe_callTy call_int1 (by rfl) mi (by decide +kernel) (pa_cons (pe_cmpR op_ge (pe_callB call_abs (by rfl) ma (by decide +kernel) (pa_cons (pv 2) pa_nil)) (pe_op op_pow pe_int pe_int) (nomark _)) pa_nil))))
      (pss_one (ps_ret (pe_lst (pa_cons (pv 3) (pa_cons (pe_op op_mod (pe_op op_mul (pe_op op_add (pe_op op_add (pe_op op_mod (pv 2) pe_int) (pe_op op_mul (pe_op op_mul pe_int (pv 1)) (pv 1))) pe_int) pe_int) pe_int) pa_nil))))))), ?_⟩
    refine ⟨.int n, rfl, 3, n, rfl, rfl, .inl ⟨by decide, by decide⟩, .ref a, rfl, a, ns.map V.int, rfl, .inl hS, _, _, rfl, rfl, ?_⟩
    refine ⟨.int n, rfl, .ref a, rfl, a, ns.map V.int, rfl, .inl hS, _, _, rfl, rfl, _, rfl, ite2 (fun e => ?z1) (fun e => ?z2)⟩
    case z1 =>
      have e1 : (n : Int) < ((ns.map V.int).length : Nat) := of_decide_eq_true e
      have e2 : n < ns.length := by
        rw [List.length_map] at e1
        omega
      refine ⟨.ref a, rfl, .int n, rfl, a, ns.map V.int, n, .int ns[n], rfl, rfl, hS, atI_nat (j := n) (by rw [List.getElem?_map, List.getElem?_eq_getElem e2]; rfl), ?_⟩
      refine ⟨.int _, rfl, _, rfl, _, _, rfl, rfl, zeros_ok, _, _, rfl, rfl, big9_len, rfl, _, _, rfl, rfl, ten9_pos, .int _, rfl, _, rfl, _, _, rfl, rfl, ⟨by decide, by decide, by decide⟩, _, _, rfl, rfl, .inr ⟨_, rfl, _, _, rfl, rfl, great_mul _ _, ?_⟩⟩
      refine ⟨_, rfl, .int _, rfl, _, _, rfl, rfl, (by decide : (0 : Int) < 2305843009213693951), .int n, rfl, _, _, rfl, rfl, .inl ⟨by decide, by decide⟩, .int n, rfl, _, _, rfl, rfl, .inl ?_, _, _, rfl, rfl, _, _, rfl, rfl, _, _, rfl, rfl, .inr ⟨by decide, by decide⟩, _, _, rfl, rfl, (by decide : (0 : Int) < 2305843009213693951), (by show 2 ≤ sizeLine; decide), fun p np => ?_⟩
      · constructor <;> omega
      · exact q _ p (same_upd np) np ⟨_, _, upd_same, (great_pot _ _).1, (great_pot _ _).2, Int.emod_nonneg _ (by decide), Int.emod_lt_of_pos _ (by decide)⟩
    case z2 =>
      refine ⟨.int _, rfl, _, rfl, _, _, rfl, rfl, zeros_ok, _, _, rfl, rfl, big9_len, rfl, _, _, rfl, rfl, ten9_pos, .int _, rfl, _, rfl, _, _, rfl, rfl, ⟨by decide, by decide, by decide⟩, _, _, rfl, rfl, .inr ⟨_, rfl, _, _, rfl, rfl, great_mul _ _, ?_⟩⟩
      refine ⟨_, rfl, .int _, rfl, _, _, rfl, rfl, (by decide : (0 : Int) < 2305843009213693951), .int n, rfl, _, _, rfl, rfl, .inl ⟨by decide, by decide⟩, .int n, rfl, _, _, rfl, rfl, .inl ?_, _, _, rfl, rfl, _, _, rfl, rfl, _, _, rfl, rfl, .inr ⟨by decide, by decide⟩, _, _, rfl, rfl, (by decide : (0 : Int) < 2305843009213693951), (by show 2 ≤ sizeLine; decide), fun p np => ?_⟩
      · constructor <;> omega
      · exact q _ p (same_upd np) np ⟨_, _, upd_same, (great_pot _ _).1, (great_pot _ _).2, Int.emod_nonneg _ (by decide), Int.emod_lt_of_pos _ (by decide)⟩
end
end Ph

namespace Ph
open PySem PySem.Spec PyProof.Rows L2
/-! ### set(list of ints): the members, any number of them below the line -/
abbrev sob (w : World) : Obj := { cls := .type "set", dict := none, data := .set #[] 0 (.fresh 0 0 (!w.params.followText "set-order")) }
section
variable {P : Program} {w : World} {A : Around} {E : Value → Shared → Prop} {s : Shared}
set_option maxHeartbeats 4000000 in
theorem set_of_list {l : Addr} {its : Array Value} (ns : List Int) {Q : Value → Shared → Prop} (calm : A.handled = none) (isl : s.heap.IsList l its) (ints0 : IntsAre its.toList ns) (few : ns.length + 1 < scanBound)
    (q : ∀ (g : Heap) (tk c : Nat), SetR w g s.heap.objs.size (fun j => decide (j ∈ ns)) c → c ≤ ns.length → (∀ b u, s.heap.get? b = some u → g.get? b = some u) → Q (.ref s.heap.objs.size) { s with heap := g, toks := tk }) :
    wpAny (model P w) A (call (.type "set") [.ref l]) Q E s := by
  have size : its.size = ns.length := by rw [← Array.length_toList]; exact IntsAre.length ints0
  have y1 := F.called_set.made
  have y2 := F.called_set.sub
  have y3 := F.called_set.notType
  have y4 := F.called_set.canCreate
  have y5 := F.typeCall_set_1 (.ref l)
  obtain ⟨c0, tl, y6⟩ := F.called_set.mro
  refine wpAny_call (codeAny_of_tree ?_)
  show wpAny (model P w) _ (callAny (.type "set") ⟨[.ref l], []⟩) _ _ s
  refine wpAny_pure ⟨Code.quiet_builtin _ (by decide +kernel), codeAny_builtin F.entry_type_call ?_⟩; rw [Around.under_plain (weight_type_call_type "set" [.ref l] []) rfl]
  repeat (any_goals (first | assumption | wp_step))
  refine codeAny_mono (code_set_led1 (.ref l) (E := E) (Q₁ := fun z t => z = .ref s.heap.objs.size ∧ t = { s with heap := s.heap.push (sob w) }) ⟨rfl, rfl⟩) fun r s₁ hr => ?_
  match r, hr with
  | .error e, hr => exact hr
  | .ok (.ret z), hr =>
    obtain ⟨rfl, rfl⟩ := hr
    have at0 : (s.heap.push (sob w)).get? s.heap.objs.size = some (sob w) := Heap.get?_push_size _ rfl
    have ty0 : Shared.TypeIs { s with heap := s.heap.push (sob w) } (.ref s.heap.objs.size) "set" := ⟨_, at0, rfl⟩
    have y7 := F.called_set.init.lookup
    have y8 := F.called_set.init.bind (.ref s.heap.objs.size)
    repeat (any_goals (first | assumption | wp_step))
    refine codeAny_mono (codeAny_call_builtin (R := wants (fun r t => r = .none ∧ ∃ g tk c, t = { s with heap := g, toks := tk } ∧ SetR w g s.heap.objs.size (fun j => decide (j ∈ ns)) c ∧ c ≤ ns.length ∧ (∀ b u, s.heap.get? b = some u → g.get? b = some u)) E)
      F.called_set.init.plain F.entry_set_init (check_set_init_1 ty0 ?_)) fun r₂ s₂ hr₂ => ?_
    · obtain ⟨⟨oc, od, dt, os⟩, hol, ec, nl, ed⟩ := isl
      cases ec; cases ed
      have hol1 : (s.heap.push (sob w)).get? l = some { cls := .type "list", dict := od, data := .seq its nl, slots := os } := Heap.get?_push_of_some _ hol
      have y9 := F.sub_list_set
      have y10 := F.sub_list_frozenset
      have y11 : (Value.type "list" == Value.type "dict") = false := by decide
      have isl1 : (s.heap.push (sob w)).IsList l its := ⟨_, hol1, rfl, nl, rfl⟩
      unfold Builtin.«set.__init__» noKeywords Builtin.Frozenset.updateFrom
      generalize hPI : pyIter = PI; wp_walk; subst hPI
      refine wpAny_pyIter_list isl1 (wpAny_bind (wpAny_runValue ?_))
      have lS : l < s.heap.objs.size := Heap.lt_size hol
      have sz1 : (s.heap.push (sob w)).objs.size = s.heap.objs.size + 1 := Heap.size_push ..
      have calm3 : A.in1.in1.in1.handled = none := by simp [calm]
      refine set_update_ints ((Walks.list calm3 (s.heap.push (sob w)).objs.size l (by rw [sz1]; exact Nat.ne_of_lt (Nat.lt_succ_of_lt lS)) its).toS) s.heap.objs.size ?_ ns size few ?_ (its.size - 0) 0 _ (by omega) (Nat.zero_le _) ⟨⟨_, Heap.get?_push_size _ rfl, rfl, rfl⟩, isl1.push _⟩ ?_ ?_
      · rw [sz1]
        intro z
        rcases List.mem_cons.mp z with e | e
        · exact Nat.ne_of_lt (Nat.lt_succ_self _) e
        · exact Nat.ne_of_gt lS (List.mem_singleton.mp e)
      · intro i v hv
        have hi : i < ns.length := by rw [← size]; exact (Array.getElem?_eq_some_iff.mp hv).1
        obtain ⟨t, e⟩ := PyProof.Rows.IntsAre.int_at ints0 i v (by rw [Array.getElem?_toList]; exact hv)
        exact ⟨ns[i], t, List.getElem?_eq_getElem hi, by rw [e, List.getD_eq_getElem?_getD, List.getElem?_eq_getElem hi]; rfl⟩
      · exact ⟨0, Nat.le_refl 0, setR_new_at (Heap.get?_push_of_some _ at0)⟩
      · rintro ⟨g, g2, d', tk', os'⟩ c hm hc hS
        cases (show g2 = s.gens from hm.gens)
        cases (show d' = s.drawn from hm.drawn)
        cases (show os' = s.os from hm.os)
        rw [size] at hc
        show wpAny _ _ _ _ _ _
        refine wpAny_pure ?_
        show wpAny _ _ (ret Value.none) _ _ _
        refine wpAny_pure ⟨rfl, g, tk', c, rfl, hS, hc, fun b u e => hm.heap b u (fun z => ?_) (Heap.get?_push_of_some _ (Heap.get?_push_of_some _ e))⟩
        have hb := Heap.lt_size e
        rw [sz1] at z
        rcases List.mem_cons.mp z with e | e
        · exact Nat.ne_of_lt hb e
        · exact Nat.ne_of_lt (Nat.lt_succ_of_lt hb) (List.mem_singleton.mp e)
    · match r₂, hr₂ with
      | .error e, h => exact h
      | .ok (.ret r), h =>
        obtain ⟨rfl, g, tk, c, rfl, h1, h2, h3⟩ := h
        repeat (any_goals (first | assumption | wp_step))
        exact q _ _ _ h1 h2 h3
      | .ok .next, h => exact h.elim
end
section
variable {X : Cx}
/-- set(xs), xs a list of ints -/
def rSetI (K : PySem.W.Frag) (w : World) : List V → Hp → VK → Prop := fun vs H Q => ∃ (l : Addr) (ns : List Int), vs = [V.ref l] ∧ SqL K H l (ns.map V.int) ∧ ns.length + 1 < scanBound ∧
  ∀ a c, H a = none → (ns.Nodup → c = ns.length) → Q (.ref a) (upd H a (SetO w a (fun j => decide (j ∈ ns)) c))
theorem cr_setI (hc : X.calm = true) : CallR X (.type "set") (rSetI X.K X.w) := by
  intro pins s σ H vs us Q I r h
  obtain ⟨l, ns, rfl, hl, few, q⟩ := h
  obtain ⟨its, rv, pl, hz⟩ := I.list hl
  rw [Vals.ref1 r]
  refine set_of_list ns (I.ok.hd hc) pl.isList (by simpa using rv.ints) few fun g tk c R _ k => ?_
  refine ⟨.ref _, upd H s.heap.objs.size (SetO X.w s.heap.objs.size (fun j => decide (j ∈ ns)) c), I.laid (t' := tk) k (Nat.le_refl _) (setO_new R), rfl, q _ _ (I.hok.fresh (Nat.le_refl _)) fun nd => ?_⟩
  obtain ⟨o, es, ep, t, ho, hex, hd, good, nd2, mem, _, _, hn, _⟩ := R
  have pm : (es.toList.map keyOf).Perm ns := (List.perm_ext_iff_of_nodup nd2 nd).mpr fun k => by rw [← mem k]; exact decide_eq_true_iff
  rw [← hn, ← pm.length_eq, List.length_map, Array.length_toList]
end
end Ph

namespace Ph
open PySem PySem.Spec PyProof.Rows L2
section
variable {P : Program} {w : World} {A : Around} {E : Value → Shared → Prop} {s : Shared}
/-- sorted(set of ints), any number of members -/
theorem sorted_of_set {a : Addr} {S : Int → Bool} {n : Nat} {Q : Value → Shared → Prop} (R : SetR w s.heap a S n) (calm : A.handled = none)
    (q : ∀ t p (out : Array Value) (c : Nat) (ns : List Int), (∀ b u, s.heap.get? b = some u → t.heap.get? b = some u) → t.gens = s.gens → t.os = s.os → s.heap.objs.size ≤ p → t.heap.get? p = some (seqObj "list" out c) → IntsAre out.toList ns → ns.Pairwise (· < ·) → (∀ k, k ∈ ns ↔ S k = true) → ns.length = n → Q (.ref p) t) :
    wpAny (model P w) A (call (.builtin "sorted") [.ref a]) Q E s := by
  obtain ⟨o, es, ep, t, ho, hex, hd, good, nd, mem, few, fits, hn, ris, led⟩ := R
  refine Calls.call_function_entry kind_sorted plain_sorted entry_sorted (args_sorted1 _) ?_; unfold Builtin.«sorted»
  refine wpAny_bind (m := checkCount "sorted" 1 1 _) (wpAny_pure (wpAny_bind (collect_set (A := A.in1) calm ⟨o, ho, hex.1, hd⟩ fits few ris led fun s1 vs k1 hz g1 o1 pm => ?_)))
  have lenv : vs.length = n := by rw [pm.length_eq, List.length_map, Array.length_toList]; exact hn
  have bound : vs.length ≤ sizeLine := by rw [lenv, ← hn]; exact Nat.le_trans (Nat.le_of_lt few) (by decide +kernel)
  have isI : ∀ v ∈ vs, ∃ k tk, v = Value.int k tk := fun v hv => by
    obtain ⟨e, he, q1⟩ := List.mem_map.mp (pm.mem_iff.mp hv)
    obtain ⟨k, tk, h1, _⟩ := good e he
    exact ⟨k, tk, q1 ▸ h1⟩
  have hI := SrtO.ints_iv isI
  have keys : (vs.map SrtO.iv).Perm (es.toList.map keyOf) := by
    have z := pm.map SrtO.iv
    rw [List.map_map] at z
    refine z.trans (List.Perm.of_eq (List.map_congr_left fun e he => ?_))
    obtain ⟨k, tk, h1, h2⟩ := good e he
    show SrtO.iv e.2 = keyOf e
    rw [key_vInt, h1]
    rfl
  refine wpAny_bind (wpAny_newList ?_ bound)
  have at1 : (s1.heap.push (seqObj "list" vs.toArray 0)).get? s1.heap.objs.size = some (seqObj "list" vs.toArray 0) := Heap.get?_push_size _ rfl
  refine wpAny_bind (wpAny_holding (wpAny_call_entry slot_list_sort ⟨_, at1, rfl⟩ entry_list_sort (SrtO.list_sort_ord SrtO.swo_int at1 bound (fun h2 => SrtO.ints_sortable hI h2) fun out b1 b2 => ⟨_, rfl, ?_⟩) (args_list_sort _)))
  obtain ⟨k2, k3, k4⟩ := SrtO.ints_out hI b1 b2
  obtain ⟨c, hc⟩ := sortedHeap_at (vs := vs) (out := out.toArray) at1
  have pn := k3.trans keys
  refine wpAny_pure ⟨_, rfl, q _ s1.heap.objs.size out.toArray c (out.map SrtO.iv) (fun b u e => ?_) g1 o1 hz hc (by simpa using k2) (lt_of_le_nodup _ k4 (pn.nodup_iff.mpr nd)) (fun k => by rw [pn.mem_iff, ← mem k]) ?_⟩
  · have z := k1 b u e
    have lt := Heap.lt_size z
    show (sortedHeap (s1.heap.push (seqObj "list" vs.toArray 0)) s1.heap.objs.size vs out.toArray).get? b = some u
    rw [sortedHeap_old (Nat.ne_of_lt lt) (by rw [size_push']; exact Nat.lt_succ_of_lt lt)]
    exact Heap.get?_push_of_some _ z
  · rw [pn.length_eq, List.length_map, Array.length_toList]; exact hn
end
section
variable {X : Cx}
def rSortedS2 (w : World) : List V → Hp → VK → Prop := fun vs H Q => ∃ (a : Addr) (S : Int → Bool) (n : Nat), vs = [V.ref a] ∧ H a = some (SetO w a S n) ∧
  ∀ (ns : List Int) (p : Addr), ns.Pairwise (· < ·) → (∀ k : Int, k ∈ ns ↔ S k = true) → H p = none → Q (.ref p) (upd H p (.lst (ns.map V.int)))
theorem cr_sortedS2 (hc : X.calm = true) : CallR X (.builtin "sorted") (rSortedS2 X.w) := by
  intro pins s σ H vs us Q I r h
  obtain ⟨a, S, n, rfl, ha, q⟩ := h
  have R := setO_get I ha
  have few : n < scanBound := by
    obtain ⟨_, es, _, _, _, _, _, _, _, _, few, _, hn, _⟩ := R
    rw [← hn]; exact few
  rw [Vals.ref1 r]
  refine sorted_of_set R (I.ok.hd hc) fun t p out c ns k g o hp hg hi hs hm hl => ?_
  have len : (ns.map V.int).length ≤ sizeLine := by rw [List.length_map, hl]; exact Nat.le_trans (Nat.le_of_lt few) (by decide +kernel)
  have J : Inv X pins σ (upd H p (.lst (ns.map V.int))) { s with heap := t.heap, gens := t.gens, drawn := t.drawn, toks := t.toks } :=
    I.call (ch := []) (Un.laid k hp (I.hok.fresh hp)) (I.hok.laid k hp ⟨len, out.toList, c, vals_of_ints hi, hg⟩) (g ▸ I.bare) (fun _ z => nomatch z)
  have e : t = { s with heap := t.heap, gens := t.gens, drawn := t.drawn, toks := t.toks } := by
    obtain ⟨h1, h2, h3, h4, h5⟩ := t
    cases o
    rfl
  rw [e]
  exact ⟨.ref p, _, J, rfl, q ns p hs hm (I.hok.fresh hp)⟩
/-- len(set of ints) -/
def rLenSet (w : World) : List V → Hp → VK → Prop := fun vs H Q => ∃ (a : Addr) (S : Int → Bool) (n : Nat), vs = [V.ref a] ∧ H a = some (SetO w a S n) ∧ Q (.int n) H
theorem cr_lenSet : CallR X (.builtin "len") (rLenSet X.w) := by
  intro pins s σ H vs us Q I r h
  obtain ⟨a, S, n, rfl, ha, q⟩ := h
  obtain ⟨o, es, ep, t, ho, hex, hd, _, _, _, few, fits, hn, _⟩ := setO_get I ha
  rw [Vals.ref1 r]
  refine call_len_set ho hex hd fits ?_ ⟨.int n, H, I.tok _, ⟨_, by rw [← hn]⟩, q⟩
  have h1 : (es.size : Int) < scanBound := Int.ofNat_lt.mpr few
  exact Int.lt_of_lt_of_le h1 (by decide +kernel)
/-- t.index(k), a tuple of ints: the first place -/
theorem flat_ints (ys : List Int) : (ys.map V.int).all flatV = true := by
  rw [List.all_map]
  exact List.all_eq_true.mpr fun _ _ => rfl
theorem mt_tindexI : MtR X "tuple.index" (fun x xs H Q => ∃ p, ∃ ys : List Int, ∃ z j, x = .ref p ∧ xs = [.int z] ∧ SqT X.K H p (ys.map V.int) ∧ ys[j]? = some z ∧ (∀ m, m < j → ys[m]? ≠ some z) ∧ Q (.int (j : Nat)) H) := by
  intro pins s σ H x xs v us Q I rx rs h
  obtain ⟨p, ys, z, j, rfl, rfl, hq, hy, hno, q⟩ := h
  cases rx
  obtain ⟨u, rfl, t, rfl⟩ := vals1 rs
  obtain ⟨its, r, ⟨⟨cls, dd, dt, sl⟩, ho, hc, n, hd⟩, hz⟩ := I.tuple hq
  cases hc
  cases hd
  have len : its.toArray.size = ys.length := by rw [List.size_toArray, ← r.length, List.length_map]
  have at' : ∀ (m : Nat) (hm : m < its.toArray.size), ∃ y t', ys[m]? = some y ∧ its.toArray[m] = Value.int y t' := fun m hm => by
    have hm' : m < ys.length := len ▸ hm
    obtain ⟨w, hw, t', hw'⟩ := r.get (i := m) (x := .int ys[m]) (by simp [hm'])
    refine ⟨ys[m], t', List.getElem?_eq_getElem hm', ?_⟩
    rw [← hw', ← (List.getElem?_eq_some_iff.mp hw).2]
    simp
  have hj : j < its.toArray.size := by rw [len]; exact (List.getElem?_eq_some_iff.mp hy).1
  refine call_meets PySem.F.slot_tuple_index ⟨_, ho, rfl⟩ PySem.F.entry_tuple_index (PySem.F.args_tuple_index_2 _ _) (TI.tuple_indexAt p its.toArray n dd sl (.int z t) (eqU (.int z)) j hj ?_ ?_)
    ⟨ho, fun w hw => mem_eqAt (x := .int z) ⟨t, rfl⟩ rfl r (flat_ints ys) w (by simpa using hw), ⟨.int (j : Nat), H, I.tok _, ⟨_, rfl⟩, q⟩⟩
  · obtain ⟨y, t', h1, h2⟩ := at' j hj
    rw [hy] at h1
    cases h1
    rw [h2]
    show decide (z = z) = true
    exact decide_eq_true rfl
  · intro m hm hmj
    obtain ⟨y, t', h1, h2⟩ := at' m hm
    rw [h2]
    show decide (y = z) = false
    exact decide_eq_false fun e => hno m hmj (e ▸ h1)
end
end Ph

namespace Ph
open PySem PySem.Spec PyProof.Rows L2
/-! ### a tuple whose object is known: it has no dict of its own, so its methods can be called -/
def ChAt (H : Hp) (c : Addr) (C : List Int) : Prop := ∃ o : Obj, o.dict = none ∧ H c = some (.frz o (.tup (C.map V.int)))
theorem ChAt.sq {K : PySem.W.Frag} {H : Hp} {c : Addr} {C : List Int} (h : ChAt H c C) : SqT K H c (C.map V.int) := let ⟨o, _, e⟩ := h; .inl (.inr ⟨o, e⟩)
theorem ChAt.keep {H H' : Hp} {c : Addr} {C : List Int} (h : ChAt H c C) (s : ∀ b o, H b = some o → H' b = some o) : ChAt H' c C := let ⟨o, d, e⟩ := h; ⟨o, d, s _ _ e⟩
section
variable {X : Cx}
/-- tuple(list): a new one -/
theorem call_tuple_frz : CallR X (.type "tuple") (fun xs H Q => ∃ p ys, xs = [.ref p] ∧ SqL X.K H p ys ∧ ∀ l (o : Obj), H l = none → o.dict = none → Q (.ref l) (upd H l (.frz o (.tup ys)))) := by
  intro pins s σ H xs us Q I r h
  obtain ⟨p, ys, rfl, hq, q⟩ := h
  obtain ⟨u, rfl, rx⟩ := vals1 r
  cases rx
  obtain ⟨its, r', pl, hz⟩ := I.list hq
  have len := r'.length
  refine call_tuple_list pl.isList (fun g k => ?_) (by rw [List.size_toArray]; omega)
  have J := I.kept (t' := s.toks) k
  refine ⟨.ref g.objs.size, _, J.laid (t' := s.toks) (o := .frz { cls := .type "tuple", data := .seq its.toArray } (.tup ys)) (fun b u e => Heap.get?_push_of_some _ e) (Nat.le_refl _) ⟨Heap.get?_push_size _ rfl, hz, its, r', IsTup.new _ _⟩, rfl, q _ _ (J.hok.fresh (Nat.le_refl _)) rfl⟩
variable {o e : Expr} {es : List Expr} {to : TE} {t : TA} {apos cpos : Pos} {name : Str} {id : String} {r : V → List V → Hp → VK → Prop}
/-- c.m(..), c such a tuple -/
def tBT (r : V → List V → Hp → VK → Prop) (to : TE) (t : TA) : TE := fun σ H Q => to σ H fun x H1 => (∃ c C, x = .ref c ∧ ChAt H1 c C) ∧ t σ H1 fun xs H2 => r x xs H2 Q
theorem pe_bmT (slot : Slot "tuple" name id) (hty : typeOf (.builtin id) = pure (.type "method_descriptor")) (hm : MtR X id r) (ho : PE X o to) (ha : PA X (e :: es) t)
    (hbase : attributeBase o name X.env (eval o X.env) = eval o X.env := by rfl)
    (hfew : ((backTo cpos (starEach (e :: es) X.env)).all (fun x => !x.1) && (backToKw cpos (keywordEach [] X.env)).all (fun x => x.1.isSome) && decide ((e :: es).length + ([] : List Keyword).length + (if ([] : List Keyword).isEmpty then 0 else 1) < 30)) = true := by rfl)
    (hline : (apos.endLine == cpos.line) = true := by rfl) (hse : starEach (e :: es) X.env = (false, eval e X.env) :: starEach es X.env := by rfl) (hpl : (backTo cpos (starEach es X.env)).any (·.1) = false := by rfl) :
    PE X (.Call (.Attribute o name apos) (e :: es) [] cpos) (tBT r to t) := ⟨fun pins s σ H Q I h => by
  refine wpAny_Call_method_late hbase hfew hline rfl (thn (ho.run pins s σ H _ I h) fun v s1 ⟨x, H1, I1, r1, ⟨c, C, ex, oc, od, hc⟩, q1⟩ => ?_)
  subst ex
  cases r1
  obtain ⟨g, _, its, _, ⟨u, hu, hcl, _⟩⟩ := I1.hok c _ hc
  rw [g] at hu
  cases hu
  have hA := ha.run cpos pins s1 σ H1 _ I1 q1
  refine ⟨"tuple", id, PySem.F.plainAttrs_tuple, slot, hty, ⟨oc, g, hcl⟩, fun a z => by cases z; exact ⟨oc, g, od⟩, ?_⟩
  rw [hse] at hA ⊢
  refine Calls.callWith_builtin (by show (false || (backTo cpos (starEach es X.env)).any (·.1)) = false; rw [hpl]; rfl) (Calls.evalArgs_plain (thn hA fun us s2 ⟨vs, H2, I2, r2, q2⟩ => hm pins s2 σ H2 (.ref c) vs (.ref c) us Q I2 rfl r2 q2))⟩
end
end Ph

namespace Ph
open PySem PySem.Spec PyProof.Rows L2
theorem scLinks : FnScope ["_law_pot_here", "_law_most", "_law_found", "_law_turn", "_law_ratio"] ["_law_pot_here", "_law_most"] (defScope sLinks) := ⟨rfl, rfl, rfl, by decide +kernel, rfl, by decide +kernel, by decide +kernel⟩
theorem But.seq {K : PySem.W.Frag} {p a : Addr} {H H' : Hp} {xs : List V} (b : But p H H') (n : a ≠ p) (h : SqL K H a xs) : SqL K H' a xs := by
  rcases h with (h | ⟨o, h⟩) | h
  · exact .inl (.inl (b _ _ n h))
  · exact .inl (.inr ⟨o, b _ _ n h⟩)
  · exact .inr h
theorem But.none {p a : Addr} {H H' : Hp} (b : But p H H') (n : a ≠ p) (h : H' a = none) : H a = none := by
  cases q : H a with
  | none => rfl
  | some o => rw [b a o n q] at h; cases h
theorem Pot.same {H H' : Hp} {p : Addr} (P : Pot H p) (s : Same H H') : Pot H' p := by
  obtain ⟨g, r, h, v⟩ := P
  exact ⟨g, r, s _ _ h, v⟩
theorem Pot.ne_none {H : Hp} {p q : Addr} (P : Pot H p) (h : H q = none) : p ≠ q := by
  obtain ⟨g, r, e, v⟩ := P
  exact ne_of_none e h
inductive Lnk (m : Int) : List Int → Int → Prop
  | one : Lnk m [1] 1
  | step {ns : List Int} {x r : Int} : Lnk m ns x → 2 ≤ r → r ≤ 6 → x * r ≤ m → ns.length < 12 → Lnk m (ns ++ [x * r]) (x * r)
theorem Lnk.pos {m x : Int} {ns : List Int} (h : Lnk m ns x) : 1 ≤ x := by
  induction h with
  | one => decide
  | step h h1 h2 h3 h4 ih =>
    have := Int.mul_le_mul ih h1 (by decide) (by omega)
    omega
theorem Lnk.last {m x : Int} {ns : List Int} (h : Lnk m ns x) : ∃ r, ns = r ++ [x] := by
  cases h with
  | one => exact ⟨[], rfl⟩
  | step h h1 h2 h3 h4 => exact ⟨_, rfl⟩
theorem Lnk.le {m x : Int} {ns : List Int} (h : Lnk m ns x) (hm : 1 ≤ m) : x ≤ m := by
  cases h with
  | one => exact hm
  | step h h1 h2 h3 h4 => exact h3
theorem Lnk.len {m x : Int} {ns : List Int} (h : Lnk m ns x) : 1 ≤ ns.length ∧ ns.length ≤ 12 := by
  cases h with
  | one => decide
  | step h h1 h2 h3 h4 => rw [List.length_append]; exact ⟨by simp, by simp; omega⟩
section
variable {P : Program} {w : World} {K : PySem.W.Frag} {mg : Str → Option Value} {base : Heap}
def spTake : Sp := fun vs H Q _ => ∃ (p : Addr) (n : Int), vs = [.ref p, .int n] ∧ Pot H p ∧ 0 < n ∧ n < 4611686018427387904 ∧ ∀ H' d, But p H H' → Pot H' p → 0 ≤ d → d < n → Q (.int d) H'
theorem ok_take {f : Addr} {fd : FuncData} {k : Nat} (F : Fun K "_law_take" "_law_take" sTake f fd) : FnOk P w K mg base CX0 (k + 1) f fd ["_law_pot_here", "_law_upto"] spTake := by
  refine F.ok scTake (fun vs H Q E h => ?_) (fun cdv A outer s H vs Q E hr h => ?_)
  · obtain ⟨a, n, rfl, _⟩ := h
    rfl
  · obtain ⟨p, n, rfl, ⟨g, r, hp, hv⟩, hn0, hn1, q⟩ := h
    refine ⟨_, pss_cons (ps_if (pt_cmpR op_gt (pe_ix ix_list (pv 0) pe_int (fun _ _ => rfl)) pe_int (nomark _))
        (pss_cons (ps_set (i := 2) scTake.nd rfl (.inl rfl) (pe_op op_mod (pe_ix ix_list (pv 0) pe_int (fun _ _ => rfl)) (pv 1)))
        (pss_cons (ps_asg (pe_op op_fdivW (pe_ix ix_list (pv 0) pe_int (fun _ _ => rfl)) (pv 1)) (pg_sub (pv 0) pe_int set_list))
        (pss_one (ps_ret (pv 2))))) pss_nil)
      (pss_cons (ps_asg (pe_op op_mod (pe_op op_add (pe_op op_mul (pe_ix ix_list (pv 0) pe_int (fun _ _ => rfl)) pe_int) pe_int) pe_int) (pg_sub (pv 0) pe_int set_list))
      (pss_one (ps_ret (pe_op op_mod (pe_op op_fdiv (pe_op op_mod (pe_op op_mul (pe_op op_fdiv (pe_ix ix_list (pv 0) pe_int (fun _ _ => rfl)) pe_int) (pe_op op_add (pe_op op_mod (pe_ix ix_list (pv 0) pe_int (fun _ _ => rfl)) pe_int) pe_int)) pe_int) pe_int) (pv 1))))), ?_⟩
    have hL : SqL K H p [.int g, .int r] := .inl (.inl hp)
    refine ⟨.ref p, rfl, p, _, 0, .int g, rfl, rfl, hL, atI_nat (j := 0) rfl, g, 0, rfl, rfl, _, rfl, ite2 (fun e => ?_) (fun e => ?_)⟩
    · have e1 : (0 : Int) < g := of_decide_eq_true e
      refine ⟨.ref p, rfl, p, _, 0, .int g, rfl, rfl, hL, atI_nat (j := 0) rfl, .int n, rfl, g, n, rfl, rfl, hn0, ?_⟩
      refine ⟨.ref p, rfl, p, _, 0, .int g, rfl, rfl, hL, atI_nat (j := 0) rfl, .int n, rfl, g, n, rfl, rfl, wide_div (b := 62) hn0 ?_ (by decide) (by decide), .ref p, rfl, p, _, 0, 0, rfl, rfl, hp, rfl, _, rfl, ?_⟩
      · have : (2 : Nat) ^ 62 = 4611686018427387904 := by decide
        rw [this]
        omega
      · have d0 : 0 ≤ g / n := Int.ediv_nonneg hv.g0 (by omega)
        have d1 : g / n ≤ g := Int.ediv_le_self _ hv.g0
        refine q _ _ but_upd ⟨_, _, upd_same, d0, wide_le d0 d1 hv.g1, hv.r0, hv.r1⟩ (Int.emod_nonneg _ (by omega)) (Int.emod_lt_of_pos _ hn0)
    · refine ⟨.ref p, rfl, p, _, 1, .int r, rfl, rfl, hL, atI_nat (j := 1) rfl, r, _, rfl, rfl, .inl ⟨?_, ?_⟩, _, _, rfl, rfl, _, _, rfl, rfl, (by decide : (0 : Int) < 2305843009213693951), .ref p, rfl, p, _, 1, 1, rfl, rfl, hp, rfl, ?_⟩
      · have := hv.r0; omega
      · have := hv.r1; omega
      have r20 : 0 ≤ (r * 1181783497276652981 + 12345678910987) % 2305843009213693951 := Int.emod_nonneg _ (by decide)
      have r21 : (r * 1181783497276652981 + 12345678910987) % 2305843009213693951 < 2305843009213693951 := Int.emod_lt_of_pos _ (by decide)
      have hL2 : SqL K (upd H p (.lst [.int g, .int ((r * 1181783497276652981 + 12345678910987) % 2305843009213693951)])) p [.int g, .int ((r * 1181783497276652981 + 12345678910987) % 2305843009213693951)] := .inl (.inl upd_same)
      refine ⟨.ref p, rfl, p, _, 1, .int _, rfl, rfl, hL2, atI_nat (j := 1) rfl, _, _, rfl, rfl, ⟨by decide, by decide⟩, .ref p, rfl, p, _, 1, .int _, rfl, rfl, hL2, atI_nat (j := 1) rfl, _, _, rfl, rfl, (by decide : (0 : Int) < 65537), _, _, rfl, rfl, _, _, rfl, rfl, .inl ⟨?_, ?_⟩, _, _, rfl, rfl, (by decide : (0 : Int) < 2305843009213693921), _, _, rfl, rfl, ⟨by decide, by decide⟩, .int n, rfl, _, _, rfl, rfl, hn0, ?_⟩
      · generalize (r * 1181783497276652981 + 12345678910987) % 2305843009213693951 = r2 at *
        have : 0 ≤ r2 / 65537 := Int.ediv_nonneg r20 (by decide)
        omega
      · generalize (r * 1181783497276652981 + 12345678910987) % 2305843009213693951 = r2 at *
        have : r2 / 65537 ≤ r2 := Int.ediv_le_self _ r20
        omega
      · exact q _ _ but_upd ⟨_, _, upd_same, hv.g0, hv.g1, r20, r21⟩ (Int.emod_nonneg _ (by omega)) (Int.emod_lt_of_pos _ hn0)
def spOf (K : PySem.W.Frag) : Sp := fun vs H Q _ => ∃ (p l : Addr) (xs : List V), vs = [.ref p, .ref l] ∧ Pot H p ∧ SqL K H l xs ∧ l ≠ p ∧ xs ≠ [] ∧ xs.length ≤ 1000 ∧ ∀ H' x, But p H H' → Pot H' p → x ∈ xs → Q x H'
theorem ok_of {f fT : Addr} {fd fdT : FuncData} {k : Nat} (F : Fun K "_law_of" "_law_of" sOf f fd) (FT : Fun K "_law_take" "_law_take" sTake fT fdT) (bT : Binds K fdT ["_law_pot_here", "_law_upto"] []) (gT : mg "_law_take" = some (.ref fT)) (ml : mg "len" = none) : FnOk P w K mg base CX0 (k + 1 + 1) f fd ["_law_pot_here", "_law_some"] (spOf K) := by
  have GT : FnOk P w K mg base CX0 (k + 1) fT fdT ["_law_pot_here", "_law_upto"] spTake := ok_take FT
  refine F.ok scOf (fun vs H Q E h => ?_) (fun cdv A outer s H vs Q E hr h => ?_)
  · obtain ⟨a, n, xs, rfl, _⟩ := h
    rfl
  · obtain ⟨p, l, xs, rfl, hp, hl, hne, hx, hlen, q⟩ := h
    refine ⟨_, pss_one (ps_ret (pe_ix ix_list (pv 1) (pe_call GT hr (by rfl) gT FT.kp bT .nil pass0 (pa_cons (pv 0) (pa_cons (pe_callB call_len_seq (by rfl) ml PySem.boot_len (pa_cons (pv 1) pa_nil)) pa_nil))) (fun _ _ => rfl))), ?_⟩
    have hx0 : 0 < xs.length := List.length_pos_iff.mpr hx
    refine ⟨.ref l, rfl, .ref p, rfl, .ref l, rfl, l, xs, rfl, .inl hl, p, _, rfl, hp, ?_, ?_, fun H' d hb hp' d0 d1 => ?_⟩
    · omega
    · omega
    · obtain ⟨j, rfl⟩ : ∃ j : Nat, d = j := ⟨d.toNat, by omega⟩
      have hd : j < xs.length := by omega
      exact ⟨l, xs, j, xs[j], rfl, rfl, hb.seq hne hl, atI_nat (List.getElem?_eq_getElem hd), q _ _ hb hp' (List.getElem_mem hd)⟩
def spLinks : Sp := fun vs H Q _ => ∃ (p : Addr) (m : Int), vs = [.ref p, .int m] ∧ Pot H p ∧ 1 ≤ m ∧ m ≤ 1000000 ∧ ∀ H' t ns x, But p H H' → Pot H' p → H t = none → ChAt H' t ns → Lnk m ns x → ns.length ≤ 6 → Q (.ref t) H'
theorem ok_links {f fT fO : Addr} {fd fdT fdO : FuncData} {k : Nat} (F : Fun K "_law_links" "_law_links" sLinks f fd) (FT : Fun K "_law_take" "_law_take" sTake fT fdT) (bT : Binds K fdT ["_law_pot_here", "_law_upto"] []) (gT : mg "_law_take" = some (.ref fT))
    (FO : Fun K "_law_of" "_law_of" sOf fO fdO) (bO : Binds K fdO ["_law_pot_here", "_law_some"] []) (gO : mg "_law_of" = some (.ref fO)) (ml : mg "len" = none) (mr : mg "range" = none) (mt : mg "tuple" = none) : FnOk P w K mg base CX0 (k + 1 + 1 + 1) f fd ["_law_pot_here", "_law_most"] spLinks := by
  have GT : FnOk P w K mg base CX0 (k + 1) fT fdT ["_law_pot_here", "_law_upto"] spTake := ok_take FT
  have GO : FnOk P w K mg base CX0 (k + 1 + 1) fO fdO ["_law_pot_here", "_law_some"] (spOf K) := ok_of FO FT bT gT ml
  refine F.ok scLinks (fun vs H Q E h => ?_) (fun cdv A outer s H vs Q E hr h => ?_)
  · obtain ⟨a, n, rfl, _⟩ := h
    rfl
  · obtain ⟨p, m, rfl, hp, hm1, hm2, q⟩ := h
    have hr1 : Room (k + 1) (A.deeper (envOfC "_law_links" (defScope sLinks) s.heap.objs.size f cdv)) := hr.mono (by omega)
    refine ⟨_, pss_cons (ps_set (i := 2) scLinks.nd rfl (.inl rfl) (pe_lst (pa_cons pe_int pa_nil)))
      (pss_cons (ps_for PassesOwn.never rfl (pi_range1 (by rfl) mr (pa_cons (pe_call GT hr1 (by rfl) gT FT.kp bT .nil pass0 (pa_cons (pv 0) (pa_cons pe_int pa_nil))) pa_nil)) (pg_name (i := 3) scLinks.nd rfl (.inl rfl))
        (pss_cons (ps_set (i := 4) scLinks.nd rfl (.inl rfl) (pe_call GO hr (by rfl) gO FO.kp bO .nil pass0 (pa_cons (pv 0) (pa_cons (pe_lst (pa_cons pe_int (pa_cons pe_int (pa_cons pe_int (pa_cons pe_int (pa_cons pe_int (pa_cons (pe_op op_add pe_int (pe_call GT hr1 (by rfl) gT FT.kp bT .nil pass0 (pa_cons (pv 0) (pa_cons pe_int pa_nil)))) pa_nil))))))) pa_nil))))
        (pss_one (ps_if (PW.pt (pw_and (pt_cmpR op_le (pe_op op_mul (pe_ix ix_list (pv 2) (pe_un un_neg pe_int) (fun _ _ => rfl)) (pv 4)) (pv 1) (nomark _)) (pw_and1 (pt_cmpR op_lt (pe_callB call_len_seq (by rfl) ml PySem.boot_len (pa_cons (pv 2) pa_nil)) pe_int (nomark _)))))
          (pss_one (ps_expr (pe_bm PySem.F.plainAttrs_list PySem.F.slot_list_append PySem.F.type_list_append mt_append (pv 2) (pa_cons (pe_op op_mul (pe_ix ix_list (pv 2) (pe_un un_neg pe_int) (fun _ _ => rfl)) (pv 4)) pa_nil)))) pss_nil))))
      (pss_one (ps_ret (pe_callTy call_tuple_frz (by rfl) mt (by decide +kernel) (pa_cons (pv 2) pa_nil))))), ?_⟩
    refine ⟨by decide, fun o no => ?_⟩
    have npo : p ≠ o := hp.ne_none no
    refine ⟨.ref p, rfl, p, 6, rfl, hp.same (same_upd no), by decide, by decide, fun H1 d hb1 hp1 d0 d1 => ?_⟩
    refine ⟨d, rfl, by omega, by omega, ?_⟩
    have ho1 : H1 o = some (.lst ([1].map V.int)) := hb1 _ _ npo.symm upd_same
    have hbase : ∀ b x, b ≠ p → b ≠ o → H b = some x → H1 b = some x := fun b x n1 n2 h => hb1 _ _ n1 (by rw [upd_ne n2]; exact h)
    refine for_range (lo := 0) (n := d.toNat) (fun i σ H2 => ∃ y3 y4 ns x, σ = [some (.ref p), some (.int m), some (.ref o), y3, y4] ∧ Pot H2 p ∧ (∀ b x, b ≠ p → b ≠ o → H b = some x → H2 b = some x) ∧ H2 o = some (.lst (ns.map V.int)) ∧ Lnk m ns x ∧ ns.length ≤ i + 1)
      ⟨none, none, [1], 1, rfl, hp1, hbase, ho1, .one, by simp⟩ ?_ ?_
    · rintro i σ H2 hi ⟨y3, y4, ns, x, rfl, hp2, hB, ho2, hk, hl⟩
      have no2 : o ≠ p := npo.symm
      refine ⟨.ref p, rfl, .ref p, rfl, p, 5, rfl, hp2, by decide, by decide, fun H3 e hb3 hp3 e0 e1 => ?_⟩
      refine ⟨_, _, rfl, rfl, (by show 6 ≤ sizeLine; decide), fun l nl => ?_⟩
      have nlp : l ≠ p := (hp3.ne_none nl).symm
      have ho3 : H3 o = some (.lst (ns.map V.int)) := hb3 _ _ no2 ho2
      have nlo : o ≠ l := ne_of_none ho3 nl
      refine ⟨p, l, _, rfl, hp3.same (same_upd nl), .inl (.inl upd_same), nlp, List.cons_ne_nil _ _, by simp, fun H4 v hb4 hp4 hv => ?_⟩
      have ho4 : H4 o = some (.lst (ns.map V.int)) := hb4 _ _ no2 (by rw [upd_ne nlo]; exact ho3)
      have hB4 : ∀ b x, b ≠ p → b ≠ o → H b = some x → H4 b = some x := fun b x n1 n2 h => by
        have h3 := hb3 _ _ n1 (hB b x n1 n2 h)
        exact hb4 _ _ n1 (by rw [upd_ne (ne_of_none h3 nl)]; exact h3)
      obtain ⟨r, rfl, hr2, hr6⟩ : ∃ r : Int, v = .int r ∧ 2 ≤ r ∧ r ≤ 6 := by
        simp only [List.mem_cons, List.not_mem_nil, or_false] at hv
        rcases hv with h | h | h | h | h | h
        · exact ⟨2, h, by decide, by decide⟩
        · exact ⟨2, h, by decide, by decide⟩
        · exact ⟨2, h, by decide, by decide⟩
        · exact ⟨3, h, by decide, by decide⟩
        · exact ⟨4, h, by decide, by decide⟩
        · exact ⟨2 + e, h, by omega, by omega⟩
      obtain ⟨ini, rfl⟩ := hk.last
      have hL4 : SqL K H4 o ((ini ++ [x]).map V.int) := .inl (.inl ho4)
      have gl : atI ((ini ++ [x]).map V.int) (-1) = some (.int x) := by
        rw [List.map_append]
        exact atI_last _ _
      have x1 := hk.pos
      have x2 := hk.le hm1
      have lx := hk.len
      refine ⟨.ref o, rfl, 1, rfl, o, _, -1, _, rfl, rfl, hL4, gl, .int r, rfl, x, r, rfl, rfl, .inl ⟨by omega, by omega⟩, .int m, rfl, _, _, rfl, rfl, _, rfl, ite2 (fun c => ?_) (fun c => ?_)⟩
      · have c1 : x * r ≤ m := of_decide_eq_true c
        refine ⟨.ref o, rfl, o, _, rfl, .inl hL4, _, _, rfl, rfl, _, rfl, ite2 (fun c => ?_) (fun c => ?_)⟩
        · have c2 : (((ini ++ [x]).map V.int).length : Int) < 12 := of_decide_eq_true c
          rw [List.length_map] at c2
          refine ⟨.ref o, rfl, .inl ⟨rfl, _, hL4⟩, .ref o, rfl, 1, rfl, o, _, -1, _, rfl, rfl, hL4, gl, .int r, rfl, x, r, rfl, rfl, .inl ⟨by omega, by omega⟩, o, _, _, rfl, rfl, ho4, ?_, ?_⟩
          · rw [List.length_map]
            exact small1000 (by omega)
          · refine ⟨_, _, ini ++ [x] ++ [x * r], x * r, rfl, ?_, ?_, ?_, .step hk hr2 hr6 c1 (by omega), ?_⟩
            · obtain ⟨g, rr, e1, e2⟩ := hp4
              exact ⟨g, rr, by rw [upd_ne npo]; exact e1, e2⟩
            · intro b z n1 n2 h
              rw [upd_ne n2]
              exact hB4 b z n1 n2 h
            · rw [upd_same, List.map_append (l₂ := [x * r])]
              rfl
            · rw [List.length_append]
              simp
              simp at hl
              omega
        · exact ⟨_, _, _, x, rfl, hp4, hB4, ho4, hk, by omega⟩
      · exact ⟨_, _, _, x, rfl, hp4, hB4, ho4, hk, by omega⟩
    · rintro σ H2 ⟨y3, y4, ns, x, rfl, hp2, hB, ho2, hk, hl⟩
      refine ⟨.ref o, rfl, o, _, rfl, .inl (.inl ho2), fun t ob nt od => ?_⟩
      have npt : p ≠ t := hp2.ne_none nt
      have not : o ≠ t := ne_of_none ho2 nt
      have ntH : H t = none := by
        cases e : H t with
        | none => rfl
        | some z => rw [hB t z npt.symm not.symm e] at nt; cases nt
      refine q _ t ns x (fun b z n1 h => ?_) (hp2.same (same_upd nt)) ntH ⟨ob, od, upd_same⟩ hk (by omega)
      have n2 : b ≠ o := ne_of_none h no
      have h3 := hB b z n1 n2 h
      rw [upd_ne (ne_of_none h3 nt)]
      exact h3
end
end Ph

namespace Ph
open PySem PySem.Spec PyProof.Rows L2 PySem.Calls
section
variable {X : Cx}
/-- d.update(e), both tracked dicts -/
def rDUp : V → List V → Hp → VK → Prop := fun x vs H Q => ∃ (a b : Addr) (ks ls : List (Key × V)), x = .ref a ∧ vs = [.ref b] ∧ a ≠ b ∧ H a = some (.dK ks) ∧ H b = some (.dK ls) ∧ ks.length + ls.length ≤ sizeLine ∧ Q .non (upd H a (.dK (mergeK ks ls)))
theorem mtd_update : MtR X "dict.update" rDUp := by
  intro pins s σ H x vs v us Q I rx rv h
  obtain ⟨a, b, ks, ls, rfl, rfl, nab, ea, eb, hz, q⟩ := h
  cases rx
  obtain ⟨u, rfl, ru⟩ := rv.one
  cases ru
  obtain ⟨za, hda, va, ra, da⟩ := dk_of I.hok ea
  obtain ⟨zb, hdb, vb, rb, db⟩ := dk_of I.hok eb
  refine call_meetsIn PySem.F.slot_dict_update da.typeIs PySem.F.entry_dict_update (PySem.F.args_dict_update_2 _ _) (meets_dict_update (mixKind X.prog X.w) a b nab hdb) ⟨va, vb, da, db, by rw [← ra.length, ← rb.length]; exact hz, fun h' d1 d2 sb => ?_⟩
  have he : ∃ o, h'.get? a = some o := let ⟨o, _, _, ho, _⟩ := d1; ⟨o, ho⟩
  exact ⟨.non, _, d_write (t' := s.toks) I (by rw [ea]; exact True.intro) sb he (dk_new (Nat.le_trans (length_mergeK ls ks) hz) hda (rb.merge ra) d1), rfl, q⟩
end
/-- which ints are keys -/
def hasI (kvs : List (Key × V)) (i : Int) : Bool := (valV kvs (Sum.inl i)).isSome
theorem hasI_merge : ∀ (more kvs : List (Key × V)) (i : Int), hasI (mergeK kvs more) i = (hasI kvs i || more.any fun kv => decide (kv.1 = Sum.inl i))
  | [], kvs, i => by
    show hasI kvs i = (hasI kvs i || false)
    rw [Bool.or_false]
  | kv :: r, kvs, i => by
    have e : mergeK kvs (kv :: r) = mergeK (putK kvs kv.1 kv.2) r := rfl
    rw [e, hasI_merge r, List.any_cons]
    unfold hasI
    rw [valV_put]
    by_cases h : (Sum.inl i : Key) = kv.1
    · rw [if_pos h, h]
      simp
    · rw [if_neg h, decide_eq_false (fun z => h z.symm), Bool.false_or]
end Ph

namespace Ph
open PySem PySem.Spec PyProof.Rows L2
abbrev sDrawn : Stmt := topS 17
abbrev scDrawnS : Stmt := sDrawn
abbrev scDrawnN : List Str := ["_law_pot_here", "_law_links_here", "_law_many", "_law_tries", "_law_found", "_law_taken", "_law_turn", "_law_words", "_law_start", "_law_word"]
theorem scDrawn : FnScope ["_law_pot_here", "_law_links_here", "_law_many", "_law_tries", "_law_found", "_law_taken", "_law_turn", "_law_words", "_law_start", "_law_word"] ["_law_pot_here", "_law_links_here", "_law_many", "_law_tries"] (defScope sDrawn) := ⟨rfl, rfl, rfl, by decide +kernel, rfl, by decide +kernel, by decide +kernel⟩
structure Nm5 (K : PySem.W.Frag) (mg : Str → Option Value) : Prop where
  len : mg "len" = none
  abs : mg "abs" = none
  int : mg "int" = none
  range : mg "range" = none
  tuple : mg "tuple" = none
  max : mg "max" = none
  min : mg "min" = none
  repr : mg "repr" = none
  isinstance : mg "isinstance" = none
  bool : mg "bool" = none
  all : mg "all" = none
  any : mg "any" = none
  list : mg "list" = none
  dict : mg "dict" = none
  sorted : mg "sorted" = none
  set : mg "set" = none
  sum : mg "sum" = none
  dig : PySem.W.nsIn K cStatics "sys.int_max_str_digits" = some none
theorem _root_.L2.Same.tup {K : PySem.W.Frag} {H H' : Hp} {a : Addr} {xs : List V} (e : Same H H') (h : SqT K H a xs) : SqT K H' a xs := by
  rcases h with (h | ⟨o, h⟩) | h
  · exact .inl (.inl (e _ _ h))
  · exact .inl (.inr ⟨o, e _ _ h⟩)
  · exact .inr h
theorem But.tup {K : PySem.W.Frag} {p a : Addr} {H H' : Hp} {xs : List V} (b : But p H H') (n : a ≠ p) (h : SqT K H a xs) : SqT K H' a xs := by
  rcases h with (h | ⟨o, h⟩) | h
  · exact .inl (.inl (b _ _ n h))
  · exact .inl (.inr ⟨o, b _ _ n h⟩)
  · exact .inr h
theorem paired_imp {α β : Type} {F G : α → β → Prop} (h : ∀ a b, F a b → G a b) : ∀ {l : List α} {m : List β}, Paired F l m → Paired G l m
  | _, _, .nil => .nil
  | _, _, .cons x r => .cons (h _ _ x) (paired_imp h r)
/-! ### blocks in the heap -/
def BkAt (H : Hp) (x : V) (b : Int × Int) : Prop := ∃ t, x = .ref t ∧ H t = some (.tup [.int b.1, .int b.2])
def BL (H : Hp) (xs : List V) (bs : List (Int × Int)) : Prop := Paired (BkAt H) xs bs
theorem BL.mono {H H' : Hp} (h : ∀ t ys, H t = some (.tup ys) → H' t = some (.tup ys)) : ∀ {xs : List V} {bs : List (Int × Int)}, BL H xs bs → BL H' xs bs
  | _, _, .nil => .nil
  | _, _, .cons ⟨t, e1, e2⟩ r => .cons ⟨t, e1, h _ _ e2⟩ (BL.mono h r)
theorem BL.len {H : Hp} : ∀ {xs : List V} {bs : List (Int × Int)}, BL H xs bs → xs.length = bs.length
  | _, _, .nil => rfl
  | _, _, .cons _ r => by rw [List.length_cons, List.length_cons, BL.len r]
def kH (H : Hp) : V → Int × Int
  | .ref t => match H t with
    | some (.tup [.int a, .int s]) => (a, s)
    | _ => (0, 0)
  | _ => (0, 0)
theorem BkAt.k {H : Hp} {x : V} {b : Int × Int} (h : BkAt H x b) : kH H x = b := by
  obtain ⟨t, rfl, e⟩ := h
  show (match H t with
    | some (.tup [.int a, .int s]) => (a, s)
    | _ => (0, 0)) = b
  rw [e]
theorem BL.map {H : Hp} : ∀ {xs : List V} {bs : List (Int × Int)}, BL H xs bs → xs.map (kH H) = bs
  | _, _, .nil => rfl
  | _, _, .cons h r => by rw [List.map_cons, h.k, BL.map r]
theorem BL.all {H : Hp} : ∀ {xs : List V} {bs : List (Int × Int)}, BL H xs bs → ∀ x ∈ xs, ∃ b, BkAt H x b
  | _, _, .nil => fun x hx => by cases hx
  | _, _, .cons h r => fun x hx => by
    rcases List.mem_cons.mp hx with e | e
    · rw [e]; exact ⟨_, h⟩
    · exact BL.all r x e
theorem BL.of {H : Hp} : ∀ {xs : List V}, (∀ x ∈ xs, ∃ b, BkAt H x b) → BL H xs (xs.map (kH H))
  | [], _ => .nil
  | x :: r, h => by
    obtain ⟨b, hb⟩ := h x (List.mem_cons_self ..)
    rw [List.map_cons, hb.k]
    exact .cons hb (BL.of fun y hy => h y (List.mem_cons_of_mem _ hy))
def StAt (H : Hp) (t : Addr) (bs : List (Int × Int)) : Prop := ∃ xs, H t = some (.tup xs) ∧ BL H xs bs
theorem StAt.same {H H' : Hp} {t : Addr} {bs : List (Int × Int)} (h : StAt H t bs) (s : Same H H') : StAt H' t bs := by
  obtain ⟨xs, e, b⟩ := h
  exact ⟨xs, s _ _ e, b.mono fun t ys e => s _ _ e⟩
theorem Pot.netup {H : Hp} {p t : Addr} {xs : List V} (P : Pot H p) (e : H t = some (.tup xs)) : t ≠ p := fun z => by
  obtain ⟨g, r, e0, _⟩ := P
  rw [z, e0] at e
  cases e
theorem Pot.nefrz {H : Hp} {p t : Addr} {ob : Obj} {u : HO} (P : Pot H p) (e : H t = some (.frz ob u)) : t ≠ p := fun z => by
  obtain ⟨g, r, e0, _⟩ := P
  rw [z, e0] at e
  cases e
theorem ChAt.but {p : Addr} {H H' : Hp} {c : Addr} {C : List Int} (h : ChAt H c C) (b : But p H H') (P : Pot H p) : ChAt H' c C := let ⟨o, d, e⟩ := h; ⟨o, d, b _ _ (P.nefrz e) e⟩
theorem StAt.but {p : Addr} {H H' : Hp} {t : Addr} {bs : List (Int × Int)} (h : StAt H t bs) (b : But p H H') (P : Pot H p) : StAt H' t bs := by
  obtain ⟨xs, e, bl⟩ := h
  exact ⟨xs, b _ _ (P.netup e) e, bl.mono fun t ys e => b _ _ (P.netup e) e⟩
/-! ### states -/
def okB (C : List Int) (W : Int) (b : Int × Int) : Prop := b.2 ∈ C ∧ 1 ≤ b.2 ∧ 0 ≤ b.1 ∧ b.1 % b.2 = 0 ∧ b.1 + b.2 ≤ W
def apart (b c : Int × Int) : Prop := b.1 + b.2 ≤ c.1 ∨ c.1 + c.2 ≤ b.1
structure St (C : List Int) (W : Int) (bs : List (Int × Int)) : Prop where
  ok : ∀ b ∈ bs, okB C W b
  asc : bs.Pairwise fun b c => b.1 + b.2 ≤ c.1
theorem sorted_st {C : List Int} {W : Int} {bs cs : List (Int × Int)} (h1 : ∀ b ∈ bs, okB C W b) (h2 : bs.Pairwise apart) (hp : cs.Perm bs) (hs : cs.Pairwise fun x y => SrtO.lexB y x = false) : St C W cs := by
  have ok : ∀ b ∈ cs, okB C W b := fun b hb => h1 b (hp.mem_iff.mp hb)
  refine ⟨ok, ?_⟩
  have ap : cs.Pairwise apart := (hp.pairwise_iff (R := apart) (fun {x y} h => h.symm)).mpr h2
  refine (List.pairwise_and_iff.mpr ⟨ap, hs⟩).imp_of_mem fun {b c} hb hc h => ?_
  obtain ⟨h3, h4⟩ := h
  rcases h3 with h5 | h5
  · exact h5
  · exfalso
    obtain ⟨_, k1, _⟩ := ok c hc
    have : SrtO.lexB c b = true := by
      unfold SrtO.lexB
      simp
      rw [if_neg (by omega)]
      omega
    rw [this] at h4
    cases h4
section
variable {P : Program} {w : World} {K : PySem.W.Frag} {mg : Str → Option Value} {base : Heap}
def spDrawn : Sp := fun vs H Q _ => ∃ (p t : Addr) (C : List Int) (L m n : Int), vs = [.ref p, .ref t, .int m, .int n] ∧ Pot H p ∧ ChAt H t (C ++ [L]) ∧ (∀ c ∈ C ++ [L], 1 ≤ c ∧ c ≤ L) ∧ C.length ≤ 20 ∧ L ≤ 2000 ∧ 0 ≤ m ∧ m ≤ 2000 ∧ 0 ≤ n ∧ n ≤ 1000 ∧
  ∀ H' u bs, But p H H' → Pot H' p → StAt H' u bs → St (C ++ [L]) (m * L) bs → (bs.length : Int) ≤ n → Q (.ref u) H'
theorem ok_drawn {f fT fO : Addr} {fd fdT fdO : FuncData} {k : Nat} (F : Fun K "_law_drawn" "_law_drawn" sDrawn f fd) (N : Nm5 K mg) (FT : Fun K "_law_take" "_law_take" sTake fT fdT) (bT : Binds K fdT ["_law_pot_here", "_law_upto"] []) (gT : mg "_law_take" = some (.ref fT))
    (FO : Fun K "_law_of" "_law_of" sOf fO fdO) (bO : Binds K fdO ["_law_pot_here", "_law_some"] []) (gO : mg "_law_of" = some (.ref fO)) : FnOk P w K mg base CX0 (k + 1 + 1 + 1) f fd ["_law_pot_here", "_law_links_here", "_law_many", "_law_tries"] spDrawn := by
  have GT : FnOk P w K mg base CX0 (k + 1) fT fdT ["_law_pot_here", "_law_upto"] spTake := ok_take FT
  have GO : FnOk P w K mg base CX0 (k + 1 + 1) fO fdO ["_law_pot_here", "_law_some"] (spOf K) := ok_of FO FT bT gT N.len
  refine F.ok scDrawn (fun vs H Q E h => ?_) (fun cdv A outer s H vs Q E hr h => ?_)
  · obtain ⟨p, t, C, L, m, n, rfl, _⟩ := h
    rfl
  · obtain ⟨p, t, C, L, m, n, rfl, hp, ⟨oc, hod, ht⟩, hC, hCl, hL, m0, m1, n0, n1, q⟩ := h
    have hr1 : Room (k + 1) (A.deeper (envOfC "_law_drawn" (defScope sDrawn) s.heap.objs.size f cdv)) := hr.mono (by omega)
    refine ⟨_, (pss_cons (ps_asg (pe_tup (pa_cons (pe_lst pa_nil) (pa_cons pe_dnewK pa_nil))) (pg_tup (by rfl) (pgs_cons (pg_name (i := 4) scDrawn.nd rfl (.inl rfl)) (pgs_cons (pg_name (i := 5) scDrawn.nd rfl (.inr rfl)) pgs_nil))))
       (pss_cons (ps_for PassesOwn.never rfl (pi_range1 (by rfl) N.range (pa_cons (pe_op op_mul (pv 3) (pe_callTy call_int1 (by rfl) N.int (by decide +kernel) (pa_cons (pe_cmpR op_gt (pv 2) pe_int (nomark _)) pa_nil))) pa_nil)) (pg_name (i := 6) scDrawn.nd rfl (.inl rfl))
       (pss_cons (ps_set (i := 7) scDrawn.nd rfl (.inl rfl) (pe_call GO hr (by rfl) gO FO.kp bO .nil pass0 (pa_cons (pv 0) (pa_cons (pe_lst (pa_cons (pe_ix ix_tup (pv 1) pe_int (fun _ _ => rfl)) (pa_cons (pe_ix ix_tup (pv 1) (pe_call GT hr1 (by rfl) gT FT.kp bT .nil pass0 (pa_cons (pv 0) (pa_cons (pe_callB call_len_seq (by rfl) N.len (by decide +kernel) (pa_cons (pv 1) pa_nil)) pa_nil))) (fun _ _ => rfl)) (pa_cons (pe_ix ix_tup (pv 1) (pe_op op_sub (pe_un un_neg pe_int) (pe_call GT hr1 (by rfl) gT FT.kp bT .nil pass0 (pa_cons (pv 0) (pa_cons (pe_callB call_len_seq (by rfl) N.len (by decide +kernel) (pa_cons (pv 1) pa_nil)) pa_nil)))) (fun _ _ => rfl)) pa_nil)))) pa_nil))))
       (pss_cons (ps_set (i := 8) scDrawn.nd rfl (.inl rfl) (pe_op op_mul (pv 7) (pe_call GT hr1 (by rfl) gT FT.kp bT .nil pass0 (pa_cons (pv 0) (pa_cons (pe_op op_fdiv (pe_op op_mul (pv 2) (pe_ix ix_tup (pv 1) (pe_un un_neg pe_int) (fun _ _ => rfl))) (pv 7)) pa_nil)))))
       (pss_one (ps_if (pt_not (pt_val (pe_callB (cr_any rfl) (by rfl) N.any (by decide +kernel) (pa_cons (pe_lc (own := [("_law_word", 9)]) (g := (gName 9)) (tt := tYes) (by rfl) scDrawn.nd (pi_range2 (by rfl) N.range (pa_cons (pv 8) (pa_cons (pe_op op_add (pv 8) (pv 7)) pa_nil))) (blkOk_by (N := scDrawnN) (sc := defScope scDrawnS) (by decide +kernel)) (fun _ _ _ _ _ => (pg_name (i := 9) scDrawn.nd rfl (.inl rfl))) (fun _ _ _ _ _ => pts_nil) (fun _ _ _ _ _ => (pe_cmp (pc_din (hu_of hr) (pv 9) (pv 5))))) pa_nil))))
       (pss_cons (ps_expr (pe_bm PySem.F.plainAttrs_dict PySem.F.slot_dict_update PySem.F.type_dict_update mtd_update (pv 5) (pa_cons (pe_callTy (call_dictP rfl) (by rfl) N.dict (by decide +kernel) (pa_cons (pe_lc (own := [("_law_word", 9)]) (g := (gName 9)) (tt := tYes) (by rfl) scDrawn.nd (pi_range2 (by rfl) N.range (pa_cons (pv 8) (pa_cons (pe_op op_add (pv 8) (pv 7)) pa_nil))) (blkOk_by (N := scDrawnN) (sc := defScope scDrawnS) (by decide +kernel)) (fun _ _ _ _ _ => (pg_name (i := 9) scDrawn.nd rfl (.inl rfl))) (fun _ _ _ _ _ => pts_nil) (fun _ _ _ _ _ => (pe_tup (pa_cons (pv 9) (pa_cons pe_bl pa_nil))))) pa_nil)) pa_nil)))
       (pss_one (ps_expr (pe_bm PySem.F.plainAttrs_list PySem.F.slot_list_append PySem.F.type_list_append mt_append (pv 4) (pa_cons (pe_tup (pa_cons (pv 8) (pa_cons (pv 7) pa_nil))) pa_nil))))) pss_nil)))))
       (pss_one (ps_ret (pe_callTy call_tuple_of (by rfl) N.tuple (by decide +kernel) (pa_cons (pe_callB cr_sortedPO (by rfl) N.sorted (by decide +kernel) (pa_cons (pv 4) pa_nil)) pa_nil)))))), ?_⟩
    refine ⟨Nat.zero_le _, fun o no => ?_⟩
    refine fun d nd => ⟨(by show 2 ≤ sizeLine; decide), fun u nu => ?_⟩
    refine ⟨u, _, rfl, .inl (.inl upd_same), rfl, _, _, rfl, _, _, rfl, rfl, ?_⟩
    have so := same_upd (o := .lst []) no
    have sd := same_upd (o := .dK []) nd
    have su := same_upd (o := .tup [.ref o, .ref d]) nu
    have npo : p ≠ o := hp.ne_none no
    have npd : p ≠ d := (hp.same so).ne_none nd
    have nod : o ≠ d := ne_of_none (H := upd H o (.lst [])) upd_same nd
    refine ⟨.int n, rfl, .int m, rfl, _, _, rfl, rfl, .inr ⟨_, rfl, _, _, rfl, rfl, .inl ⟨by omega, by omega⟩, ?_⟩⟩
    have hN : n * (if decide (0 < m) = true then 1 else 0) = if 0 < m then n else 0 := by
      by_cases c : 0 < m
      · rw [decide_eq_true c, if_pos rfl, if_pos c, Int.mul_one]
      · rw [decide_eq_false c, if_neg Bool.false_ne_true, if_neg c, Int.mul_zero]
    refine ⟨if 0 < m then n else 0, congrArg (fun z => [V.int z]) hN, by split <;> omega, by split <;> omega, ?_⟩
    have lenC : ((C ++ [L]).map V.int).length = C.length + 1 := by simp
    have gl : atI ((C ++ [L]).map V.int) (-1) = some (.int L) := by
      rw [List.map_append]
      exact atI_last _ _
    have gn : ∀ j : Nat, j < C.length + 1 → ∃ c, c ∈ C ++ [L] ∧ atI ((C ++ [L]).map V.int) (j : Int) = some (.int c) := fun j hj => by
      have hj2 : j < (C ++ [L]).length := by simp; omega
      exact ⟨(C ++ [L])[j], List.getElem_mem hj2, atI_nat (by rw [List.getElem?_map, List.getElem?_eq_getElem hj2]; rfl)⟩
    have gm : ∀ j : Nat, j < C.length + 1 → ∃ c, c ∈ C ++ [L] ∧ atI ((C ++ [L]).map V.int) (-1 - (j : Int)) = some (.int c) := fun j hj => by
      have hj2 : C.length - j < (C ++ [L]).length := by simp; omega
      refine ⟨(C ++ [L])[C.length - j], List.getElem_mem hj2, ?_⟩
      unfold atI ixN
      rw [lenC, if_neg (by omega), if_pos (by omega)]
      have e : ((-1 - (j : Int)) + ((C.length + 1 : Nat) : Int)).toNat = C.length - j := by omega
      rw [e]
      show ((C ++ [L]).map V.int)[C.length - j]? = _
      rw [List.getElem?_map, List.getElem?_eq_getElem hj2]
      rfl
    refine for_range (lo := 0) (n := (if 0 < m then n else 0).toNat) (fun i σ H2 => ∃ y6 y7 y8 y9 xs bs kvs, σ = [some (.ref p), some (.ref t), some (.int m), some (.int n), some (.ref o), some (.ref d), y6, y7, y8, y9] ∧ Pot H2 p ∧ (∀ b z, b ≠ p → b ≠ o → b ≠ d → H b = some z → H2 b = some z) ∧
        H2 o = some (.lst xs) ∧ BL H2 xs bs ∧ H2 d = some (.dK kvs) ∧ (∀ w : Int, hasI kvs w = true ↔ ∃ b ∈ bs, b.1 ≤ w ∧ w < b.1 + b.2) ∧ (∀ b ∈ bs, okB (C ++ [L]) (m * L) b) ∧ bs.Pairwise apart ∧ bs.length ≤ i ∧ kvs.length ≤ i * 2000)
      ⟨none, none, none, none, [], [], [], rfl, hp.same (so.trans (sd.trans su)), fun b z n1 n2 n3 h => su _ _ (sd _ _ (so _ _ h)), su _ _ (sd _ _ upd_same), .nil, su _ _ upd_same, fun w => ?_, by simp, .nil, Nat.le_refl _, Nat.zero_le _⟩ ?_ ?_
    · constructor
      · intro z; exact absurd z (by unfold hasI; rw [valV_nil]; simp)
      · rintro ⟨b, hb, _⟩; cases hb
    · rintro i σ H2 hi ⟨y6, y7, y8, y9, xs, bs, kvs, rfl, hp2, hB, ho2, hbl, hd2, hk, hok, hap, hlb, hlk⟩
      have hm : 0 < m := by
        by_cases c : 0 < m
        · exact c
        · rw [if_neg c] at hi
          simp at hi
      have hi2 : i < 1000 := by
        rw [if_pos hm] at hi
        omega
      have htp : t ≠ p := hp.nefrz ht
      have hto : t ≠ o := ne_of_none ht no
      have htd : t ≠ d := ne_of_none (so _ _ ht) nd
      have ht2 := hB _ _ htp hto htd ht
      obtain ⟨c0, hc0, g0⟩ := gn 0 (by omega)
      refine ⟨.ref p, rfl, .ref t, rfl, t, _, 0, _, rfl, rfl, .inl (.inr ⟨_, ht2⟩), g0, ?_⟩
      refine ⟨.ref t, rfl, .ref p, rfl, .ref t, rfl, t, _, rfl, .inr (.inl (.inr ⟨_, ht2⟩)), p, _, rfl, hp2, by rw [lenC]; omega, by rw [lenC]; omega, fun H3 e1 b3 hp3 e10 e11 => ?_⟩
      rw [lenC] at e11
      obtain ⟨j1, rfl⟩ : ∃ j : Nat, e1 = j := ⟨e1.toNat, by omega⟩
      obtain ⟨c1, hc1, g1⟩ := gn j1 (by omega)
      have ht3 := b3 _ _ htp ht2
      refine ⟨t, _, j1, _, rfl, rfl, .inl (.inr ⟨_, ht3⟩), g1, ?_⟩
      refine ⟨.ref t, rfl, 1, rfl, .ref p, rfl, .ref t, rfl, t, _, rfl, .inr (.inl (.inr ⟨_, ht3⟩)), p, _, rfl, hp3, by rw [lenC]; omega, by rw [lenC]; omega, fun H4 e2 b4 hp4 e20 e21 => ?_⟩
      rw [lenC] at e21
      obtain ⟨j2, rfl⟩ : ∃ j : Nat, e2 = j := ⟨e2.toNat, by omega⟩
      obtain ⟨c2, hc2, g2⟩ := gm j2 (by omega)
      have ht4 := b4 _ _ htp ht3
      refine ⟨_, _, rfl, rfl, t, _, _, _, rfl, rfl, .inl (.inr ⟨_, ht4⟩), g2, (by show 3 ≤ sizeLine; decide), fun l nl => ?_⟩
      have vl := same_upd (o := .lst [.int c0, .int c1, .int c2]) nl
      refine ⟨p, l, _, rfl, hp4.same vl, .inl (.inl upd_same), (hp4.ne_none nl).symm, List.cons_ne_nil _ _, by simp, fun H5 x b5 hp5 hx => ?_⟩
      obtain ⟨c, rfl, hc⟩ : ∃ c : Int, x = .int c ∧ c ∈ C ++ [L] := by
        simp only [List.mem_cons, List.not_mem_nil, or_false] at hx
        rcases hx with h | h | h
        · exact ⟨_, h, hc0⟩
        · exact ⟨_, h, hc1⟩
        · exact ⟨_, h, hc2⟩
      obtain ⟨hcl, hcu⟩ := hC c hc
      have B5 : ∀ b z, b ≠ p → H2 b = some z → H5 b = some z := fun b z n1 h => b5 _ _ n1 (vl _ _ (b4 _ _ n1 (b3 _ _ n1 h)))
      have ht5 := B5 _ _ htp ht2
      -- start
      have hmL : m * L ≤ 4000000 := by
        have h1 : m * L ≤ 2000 * 2000 := Int.mul_le_mul m1 hL (by have := hC c hc; omega) (by decide)
        omega
      have hcm : c ≤ m * L := by
        have h1 : 1 * L ≤ m * L := Int.mul_le_mul_of_nonneg_right (by omega) (by omega)
        omega
      have hq1 : 1 ≤ m * L / c := by
        rw [Int.le_ediv_iff_mul_le (by omega)]
        omega
      have hq2 : m * L / c * c ≤ m * L := Int.ediv_mul_le _ (by omega)
      have hq3 : m * L / c ≤ m * L := Int.ediv_le_self _ (by omega)
      refine ⟨.int c, rfl, .ref p, rfl, .int m, rfl, .ref t, rfl, 1, rfl, t, _, -1, _, rfl, rfl, .inl (.inr ⟨_, ht5⟩), gl, m, L, rfl, rfl, .inl ⟨by omega, by omega⟩, .int c, rfl, _, _, rfl, rfl, ⟨by omega, by omega⟩, p, _, rfl, hp5, by omega, by omega, fun H6 e b6 hp6 e0 e1 => ⟨c, e, rfl, rfl, .inl ⟨by omega, by omega⟩, ?_⟩⟩
      have B6 : ∀ b z, b ≠ p → H2 b = some z → H6 b = some z := fun b z n1 h => b6 _ _ n1 (B5 b z n1 h)
      have ho6 := B6 _ _ npo.symm ho2
      have hd6 := B6 _ _ npd.symm hd2
      have hs0 : 0 ≤ c * e := Int.mul_nonneg (by omega) e0
      have hs1 : c * e + c ≤ m * L := by
        have h1 : (e + 1) * c ≤ m * L / c * c := Int.mul_le_mul_of_nonneg_right (by omega) (by omega)
        have h2 : (e + 1) * c = c * e + c := by rw [Int.add_mul, Int.mul_comm, Int.one_mul]
        omega
      dsimp only
      generalize hse : c * e = se at *
      have hsm : se % c = 0 := by rw [← hse]; exact Int.mul_emod_right c e
      obtain ⟨cn, rfl⟩ : ∃ cn : Nat, c = cn := ⟨c.toNat, by omega⟩
      have ecn : (se + (cn : Int) - se).toNat = cn := by omega
      refine ⟨.int se, rfl, .int se, rfl, .int cn, rfl, _, _, rfl, rfl, se, se + cn, rfl, ⟨by omega, by omega, by omega, by omega⟩, fun D nD => ?_⟩
      rw [ecn]
      refine lc_range (lo := se) (n := cn) (fun i H7 => Same H6 H7 ∧ H7 D = some (.lst (((List.range i).map fun (j : Nat) => hasI kvs (se + (j : Int))).map V.bl))) ⟨same_upd nD, upd_same⟩ (fun i H7 hi p7 => ?_) (fun H7 p7 => ?_)
      · obtain ⟨s7, hD7⟩ := p7
        refine ⟨rfl, .int (se + i), rfl, .ref d, rfl, d, _, rfl, DGet.k (k := Sum.inl (se + (i : Int))) (s7 _ _ hd6), _, hD7, ?_, fun b z hz => ?_, ?_⟩
        · rw [List.length_map, List.length_map, List.length_range]
          exact Nat.lt_of_lt_of_le (show i < 4000001 by omega) (by decide)
        · rw [upd_ne (ne_of_none hz nD)]
          exact s7 _ _ hz
        · rw [upd_same, List.range_succ]
          simp [hasI]
      · obtain ⟨s7, hD7⟩ := p7
        refine ⟨D, _, rfl, .inl (.inl hD7), _, rfl, ?_⟩
        have hany : ((List.range cn).map fun (j : Nat) => hasI kvs (se + (j : Int))).any id = true ↔ ∃ w : Int, se ≤ w ∧ w < se + cn ∧ hasI kvs w = true := by
          rw [List.any_eq_true]
          constructor
          · rintro ⟨b, hb, hb2⟩
            obtain ⟨j, hj, e3⟩ := List.mem_map.mp hb
            have := List.mem_range.mp hj
            exact ⟨se + j, by omega, by omega, by rw [e3]; exact hb2⟩
          · rintro ⟨w, w1, w2, w3⟩
            refine ⟨true, List.mem_map.mpr ⟨(w - se).toNat, List.mem_range.mpr (by omega), ?_⟩, rfl⟩
            rw [show se + (((w - se).toNat : Nat) : Int) = w by omega]
            exact w3
        have hp7 := hp6.same s7
        have ho7 := s7 _ _ ho6
        have hd7 := s7 _ _ hd6
        have B7 : ∀ b z, b ≠ p → b ≠ o → b ≠ d → H b = some z → H7 b = some z := fun b z k1 k2 k3 h => s7 _ _ (B6 _ _ k1 (hB b z k1 k2 k3 h))
        have bl7 : BL H7 xs bs := hbl.mono fun t ys e => s7 _ _ (B6 _ _ (hp2.netup e) e)
        by_cases ca : ((List.range cn).map fun (j : Nat) => hasI kvs (se + (j : Int))).any id = true
        · rw [ca]
          refine iteF ?_
          exact ⟨_, _, _, _, xs, bs, kvs, rfl, hp7, B7, ho7, bl7, hd7, hk, hok, hap, by omega, by omega⟩
        · have ca' : ((List.range cn).map fun (j : Nat) => hasI kvs (se + (j : Int))).any id = false := by
            cases ez : ((List.range cn).map fun (j : Nat) => hasI kvs (se + (j : Int))).any id with
            | true => exact absurd ez ca
            | false => rfl
          rw [ca']
          refine iteT ?_
          -- taken.update(dict([..]))
          refine ⟨.ref d, rfl, .inr (.inr (.inl ⟨rfl, .inl ⟨_, hd7⟩⟩)), .int se, rfl, .int se, rfl, .int cn, rfl, _, _, rfl, rfl, se, se + cn, rfl, ⟨by omega, by omega, by omega, by omega⟩, fun D2 nD2 => ?_⟩
          rw [ecn]
          refine lc_range (lo := se) (n := cn) (fun i H8 => Same H7 H8 ∧ ∃ ps, H8 D2 = some (.lst (ps.map V.ref)) ∧ Paired (fun q kv => H8 q = some (.tup [kV kv.1, kv.2])) ps ((List.range i).map fun (j : Nat) => ((Sum.inl (se + (j : Int)) : Key), V.bl true)))
            ⟨same_upd nD2, [], upd_same, .nil⟩ (fun i H8 hi p8 => ?_) (fun H8 p8 => ?_)
          · obtain ⟨s8, ps, hD8, hpr⟩ := p8
            have lps : ps.length = i := by
              have := hpr.length
              simpa using this
            refine ⟨rfl, .int (se + i), rfl, (by show 2 ≤ sizeLine; decide), fun T nT => ⟨_, by rw [upd_ne (ne_of_none hD8 nT)]; exact hD8, ?_, fun b z hz => ?_, ps ++ [T], ?_, ?_⟩⟩
            · rw [List.length_map, lps]
              exact Nat.lt_of_lt_of_le (show i < 4000001 by omega) (by decide)
            · rw [upd_ne (ne_of_none hz nD2), upd_ne (ne_of_none (s8 _ _ hz) nT)]
              exact s8 _ _ hz
            · rw [upd_same]
              simp
            · rw [List.range_succ, List.map_append]
              refine Paired.snoc ?_ ?_
              · refine paired_imp (fun q kv hq => ?_) hpr
                rw [upd_ne (ne_of hq hD8 (by intro z; cases z)), upd_ne (ne_of_none hq nT)]
                exact hq
              · rw [upd_ne (ne_of_none hD8 nT).symm, upd_same]
                rfl
          · obtain ⟨s8, ps, hD8, hpr⟩ := p8
            refine ⟨D2, ps, _, rfl, .inl (.inl hD8), paired_imp (fun q kv hq => .inl (.inl hq)) hpr, fun q nq => ?_⟩
            have s9 := same_upd (o := .dK (mergeK [] ((List.range cn).map fun (j : Nat) => ((Sum.inl (se + (j : Int)) : Key), V.bl true)))) nq
            have hd9 := s9 _ _ (s8 _ _ hd7)
            have hml : (mergeK [] ((List.range cn).map fun (j : Nat) => ((Sum.inl (se + (j : Int)) : Key), V.bl true))).length ≤ cn := by
              refine Nat.le_trans (length_mergeK _ _) ?_
              simp
            have hcn : cn ≤ 2000 := by omega
            refine ⟨d, q, kvs, _, rfl, rfl, ne_of_none (s8 _ _ hd7) nq, hd9, upd_same, ?_, ?_⟩
            · exact Nat.le_trans (show _ ≤ 4000001 by omega) (by decide)
            -- found.append(..)
            have ho9 := s9 _ _ (s8 _ _ ho7)
            have ho10 : upd (upd H8 q (.dK (mergeK [] ((List.range cn).map fun (j : Nat) => ((Sum.inl (se + (j : Int)) : Key), V.bl true))))) d (.dK (mergeK kvs (mergeK [] ((List.range cn).map fun (j : Nat) => ((Sum.inl (se + (j : Int)) : Key), V.bl true))))) o = some (.lst xs) := by
              rw [upd_ne nod]
              exact ho9
            refine ⟨.ref o, rfl, .inl ⟨rfl, _, .inl (.inl ho10)⟩, .int se, rfl, .int cn, rfl, (by show 2 ≤ sizeLine; decide), fun T2 nT2 => ?_⟩
            have lxs : xs.length ≤ i := by rw [hbl.len]; exact hlb
            have hdm : H8 d = some (.dK kvs) := s8 _ _ hd7
            have nT2d : T2 ≠ d := fun z => by rw [z, upd_same] at nT2; cases nT2
            have nT2o : o ≠ T2 := ne_of_none ho10 nT2
            have keep : ∀ b z, b ≠ o → b ≠ d → H7 b = some z → upd (upd (upd (upd H8 q (.dK (mergeK [] ((List.range cn).map fun (j : Nat) => ((Sum.inl (se + (j : Int)) : Key), V.bl true))))) d (.dK (mergeK kvs (mergeK [] ((List.range cn).map fun (j : Nat) => ((Sum.inl (se + (j : Int)) : Key), V.bl true)))))) T2 (.tup [.int se, .int (cn : Int)])) o (.lst (xs ++ [.ref T2])) b = some z := fun b z k1 k2 h => by
              have h9 := s9 _ _ (s8 _ _ h)
              have hq : upd (upd H8 q (.dK (mergeK [] ((List.range cn).map fun (j : Nat) => ((Sum.inl (se + (j : Int)) : Key), V.bl true))))) d (.dK (mergeK kvs (mergeK [] ((List.range cn).map fun (j : Nat) => ((Sum.inl (se + (j : Int)) : Key), V.bl true))))) b = some z := by
                rw [upd_ne k2]
                exact h9
              rw [upd_ne k1, upd_ne (ne_of_none hq nT2)]
              exact hq
            refine ⟨o, xs, _, rfl, rfl, by rw [upd_ne nT2o]; exact ho10, ?_, ?_⟩
            · exact Nat.lt_of_lt_of_le (show xs.length < 4000001 by omega) (by decide)
            refine ⟨_, _, _, _, xs ++ [.ref T2], bs ++ [(se, (cn : Int))], mergeK kvs (mergeK [] ((List.range cn).map fun (j : Nat) => ((Sum.inl (se + (j : Int)) : Key), V.bl true))), rfl, ?_, ?_, upd_same, ?_, ?_, ?_, ?_, ?_, ?_, ?_⟩
            · obtain ⟨g, r, ep, pv⟩ := hp7
              exact ⟨g, r, keep _ _ npo npd ep, pv⟩
            · exact fun b z k1 k2 k3 h => keep _ _ k2 k3 (B7 b z k1 k2 k3 h)
            · refine Paired.snoc (bl7.mono fun t ys e => keep _ _ (ne_of e ho7 (by intro z; cases z)) (ne_of e hd7 (by intro z; cases z)) e) ⟨T2, rfl, ?_⟩
              rw [upd_ne nT2o.symm, upd_same]
            · rw [upd_ne nod.symm, upd_ne nT2d.symm, upd_same]
            · intro w
              rw [hasI_merge, Bool.or_eq_true, hk w, valV_any, ← hasI, hasI_merge, Bool.or_eq_true]
              constructor
              · rintro (⟨b, hb, h1⟩ | h1)
                · exact ⟨b, List.mem_append_left _ hb, h1⟩
                · refine ⟨(se, cn), List.mem_append_right _ (List.mem_singleton.mpr rfl), ?_⟩
                  rcases h1 with h1 | h1
                  · exact absurd h1 (by unfold hasI; rw [valV_nil]; simp)
                  · obtain ⟨kv, hkv, h2⟩ := List.any_eq_true.mp h1
                    obtain ⟨j, hj, e3⟩ := List.mem_map.mp hkv
                    have hj2 := List.mem_range.mp hj
                    have h3 := of_decide_eq_true h2
                    rw [← e3] at h3
                    injection h3 with h3
                    show se ≤ w ∧ w < se + cn
                    omega
              · rintro ⟨b, hb, h1⟩
                rcases List.mem_append.mp hb with h2 | h2
                · exact .inl ⟨b, h2, h1⟩
                · right
                  right
                  rw [List.mem_singleton.mp h2] at h1
                  have h1' : se ≤ w ∧ w < se + cn := h1
                  refine List.any_eq_true.mpr ⟨(Sum.inl (se + (((w - se).toNat : Nat) : Int)), .bl true), List.mem_map.mpr ⟨(w - se).toNat, List.mem_range.mpr (by omega), rfl⟩, decide_eq_true ?_⟩
                  show (Sum.inl _ : Key) = Sum.inl w
                  rw [show se + (((w - se).toNat : Nat) : Int) = w by omega]
            · intro b hb
              rcases List.mem_append.mp hb with h2 | h2
              · exact hok b h2
              · rw [List.mem_singleton.mp h2]
                exact ⟨hc, hcl, hs0, hsm, hs1⟩
            · rw [List.pairwise_append]
              refine ⟨hap, List.pairwise_singleton _ _, fun b hb b2 hb2 => ?_⟩
              rw [List.mem_singleton.mp hb2]
              obtain ⟨_, k1, k2, _, _⟩ := hok b hb
              have hno : ∀ w : Int, se ≤ w → w < se + cn → b.1 ≤ w → w < b.1 + b.2 → False := fun w w1 w2 w3 w4 => ca (hany.mpr ⟨w, w1, w2, (hk w).mpr ⟨b, hb, w3, w4⟩⟩)
              have h1 := hno se (by omega) (by omega)
              have h2 := hno b.1
              show b.1 + b.2 ≤ se ∨ se + (cn : Int) ≤ b.1
              by_cases c1 : b.1 ≤ se
              · left
                by_cases c3 : se < b.1 + b.2
                · exact (h1 c1 c3).elim
                · omega
              · right
                by_cases c2 : b.1 < se + cn
                · exact (h2 (by omega) c2 (by omega) (by omega)).elim
                · omega
            · simp
              omega
            · refine Nat.le_trans (length_mergeK _ _) ?_
              omega
    · rintro σ H2 ⟨y6, y7, y8, y9, xs, bs, kvs, rfl, hp2, hB, ho2, hbl, hd2, hk, hok, hap, hlb, hlk⟩
      refine ⟨.ref o, rfl, o, xs, kH H2, rfl, .inl (.inl ho2), fun x hx => ?_, fun ys v hsr hst nv => ?_⟩
      · obtain ⟨b, hb⟩ := hbl.all x hx
        have e := hb.k
        obtain ⟨t2, e1, e2⟩ := hb
        exact ⟨t2, e1, by rw [e]; exact e2⟩
      have sv := same_upd (o := .lst ys) nv
      refine ⟨v, ys, rfl, .inl ⟨.inl (.inl upd_same), fun r nr => ?_⟩⟩
      have sr := sv.trans (same_upd (o := .tup ys) nr)
      have ally : ∀ y ∈ ys, ∃ b, BkAt H2 y b := fun y hy => hbl.all y (hst.perm.mem_iff.mp hy)
      have pm : (ys.map (kH H2)).Perm bs := by
        have := hst.perm.map (kH H2)
        rwa [hbl.map] at this
      refine q _ r (ys.map (kH H2)) (fun b z nb h => ?_) (hp2.same sr) ⟨ys, upd_same, (BL.of ally).mono fun t2 zs e => sr _ _ e⟩ (sorted_st hok hap pm ?_) ?_
      · have k2 : b ≠ o := ne_of_none h no
        have k3 : b ≠ d := ne_of_none (so _ _ h) nd
        exact sr _ _ (hB b z nb k2 k3 h)
      · exact List.pairwise_map.mpr hsr
      · rw [pm.length_eq]
        have : (if 0 < m then n else 0) ≤ n := by split <;> omega
        omega
end
end Ph

namespace Ph
open PySem PySem.Spec PyProof.Rows L2
section
variable {X : Cx}
/-- x in t, t a tuple of data -/
def rInT (K : PySem.W.Frag) : R2 := fun x y H Q => ∃ d ds, Dp K H x d ∧ Dp K H y (.tuple ds) ∧ SeqAt.shaped d = true ∧ SeqAt.shaped (.tuple ds) = true ∧ Q (.bl (ds.any fun z => PyData.eqv z d)) H
theorem op_inT (hu : X.A.units + 65 < cLine) : OpR X (compareOp .In) (rInT X.K) := by
  intro pins s σ H x y v u Q I rx ry h
  obtain ⟨d, ds, dx, dy, sx, sy, q⟩ := h
  obtain ⟨_, r1⟩ := Dp.reads I d x v dx rx
  obtain ⟨_, r2⟩ := Dp.reads I (.tuple ds) y u dy ry
  exact SeqAt.in_tuple_reads r2 r1 (SeqAt.canLay_of_shaped sy) (SeqAt.canLay_of_shaped sx) (room_in_shaped sx hu) ⟨.bl _, H, I, rfl, q⟩
/-- a thing that is only read from now on -/
def tFrz (t : TE) : TE := fun σ H Q => t σ H fun v H1 => ∃ d u, v = .ref d ∧ H1 d = some u ∧ Mut (some u) ∧ ∀ od, Q v (upd H1 d (.frz od u))
theorem pe_frz {e : Expr} {t : TE} (h : PE X e t) : PE X e (tFrz t) := by
  refine ⟨fun pins s σ H Q I hw => ?_⟩
  refine thn (h.run pins s σ _ _ I hw) fun v s1 ⟨x, H1, I1, r, d, u, ex, hd, mu, q⟩ => ?_
  obtain ⟨od, I2⟩ := I1.lock hd mu
  exact ⟨x, _, I2, r, q od⟩
end
/-! ### blocks and states as data -/
def bD (b : Int × Int) : PyData := .tuple [.int b.1, .int b.2]
theorem bD_lay (b : Int × Int) : (bD b).canLay0 = true := by simp [bD, PyData.canLay0, PyData.canLayAll0]
theorem bD_depth (b : Int × Int) : (bD b).depth = 1 := by simp [bD, PyData.depth, PyData.depthAll]
theorem bDs_lay : ∀ zs : List (Int × Int), PyData.canLayAll0 (zs.map bD) = true
  | [] => by simp [PyData.canLayAll0]
  | z :: zs => by simp [PyData.canLayAll0, bD_lay z, bDs_lay zs]
theorem bDs_depth : ∀ zs : List (Int × Int), PyData.depthAll (zs.map bD) ≤ 1
  | [] => by simp [PyData.depthAll]
  | z :: zs => by
    have h1 := bDs_depth zs
    have h2 := bD_depth z
    simp only [List.map_cons, PyData.depthAll, h2]
    omega
theorem bD_shaped (b : Int × Int) : SeqAt.shaped (bD b) = true := by
  show ((bD b).canLay0 && decide ((bD b).depth ≤ 64)) = true
  rw [bD_lay, bD_depth]
  rfl
theorem sD_shaped (zs : List (Int × Int)) : SeqAt.shaped (.tuple (zs.map bD)) = true := by
  have h1 := bDs_depth zs
  have h2 : PyData.depth (.tuple (zs.map bD)) ≤ 64 := by simp only [PyData.depth]; omega
  have h3 : PyData.canLay0 (.tuple (zs.map bD)) = true := by simp only [PyData.canLay0]; exact bDs_lay zs
  show (PyData.canLay0 (.tuple (zs.map bD)) && decide (PyData.depth (.tuple (zs.map bD)) ≤ 64)) = true
  rw [h3, decide_eq_true h2]
  rfl
theorem bD_eqv (b c : Int × Int) : PyData.eqv (bD b) (bD c) = decide (b = c) := by
  obtain ⟨b1, b2⟩ := b
  obtain ⟨c1, c2⟩ := c
  have e : PyData.eqv (bD (b1, b2)) (bD (c1, c2)) = ((b1 == c1) && ((b2 == c2) && true)) := by simp only [bD, PyData.eqv, PyData.eqvAll]
  rw [e, Bool.and_true, Bool.eq_iff_iff, Bool.and_eq_true, beq_iff_eq, beq_iff_eq, decide_eq_true_iff, Prod.mk.injEq]
theorem bDs_any (b : Int × Int) : ∀ zs : List (Int × Int), ((zs.map bD).any fun z => PyData.eqv z (bD b)) = decide (b ∈ zs)
  | [] => by simp
  | z :: zs => by
    rw [List.map_cons, List.any_cons, bDs_any b zs, bD_eqv, Bool.eq_iff_iff, Bool.or_eq_true, decide_eq_true_iff, decide_eq_true_iff, decide_eq_true_iff, List.mem_cons]
    exact ⟨fun h => h.imp Eq.symm id, fun h => h.imp Eq.symm id⟩
theorem sD_eqv_refl (zs : List (Int × Int)) : PyData.eqv (.tuple (zs.map bD)) (.tuple (zs.map bD)) = true := by
  simp only [PyData.eqv]
  induction zs with
  | nil => simp [PyData.eqvAll]
  | cons z zs ih => simp [PyData.eqvAll, ih, bD_eqv]
end Ph

namespace Ph
open PySem PySem.Spec PyProof.Rows L2
/-! ### keepers: the smallest block of each chunk, then the lowest one -/
abbrev Bk := Int × Int
def btr (b c : Bk) : Prop := b.2 < c.2 ∨ (b.2 = c.2 ∧ b.1 ≤ c.1)
instance (b c : Bk) : Decidable (btr b c) := inferInstanceAs (Decidable (_ ∨ _))
def best (s : Int) (bs : List Bk) (b : Bk) : Prop := ∀ c ∈ bs, c.1 / s = b.1 / s → btr b c
instance (s : Int) (bs : List Bk) (b : Bk) : Decidable (best s bs b) := inferInstanceAs (Decidable (∀ c ∈ bs, _))
def kp (s : Int) (bs : List Bk) : List Bk := bs.filter fun b => decide (best s bs b)
theorem btr.refl (b : Bk) : btr b b := .inr ⟨rfl, Int.le_refl _⟩
theorem btr.anti {b c : Bk} (h : btr b c) (k : btr c b) : b = c := by
  unfold btr at h k
  exact Prod.ext (by omega) (by omega)
theorem btr.trans {b c d : Bk} (h : btr b c) (k : btr c d) : btr b d := by
  unfold btr at *
  omega
theorem btr.total (b c : Bk) : btr b c ∨ btr c b := by
  unfold btr
  omega
theorem mem_kp {s : Int} {bs : List Bk} {b : Bk} : b ∈ kp s bs ↔ b ∈ bs ∧ best s bs b := by
  unfold kp
  rw [List.mem_filter, decide_eq_true_iff]
theorem kp_sub (s : Int) (bs : List Bk) : (kp s bs).Sublist bs := List.filter_sublist
/-- the best one of a chunk -/
theorem best_ex (s : Int) (q : Int) : ∀ bs : List Bk, (∃ c ∈ bs, c.1 / s = q) → ∃ b ∈ bs, b.1 / s = q ∧ ∀ c ∈ bs, c.1 / s = q → btr b c
  | [], h => by obtain ⟨c, hc, _⟩ := h; cases hc
  | x :: r, h => by
    by_cases hr : ∃ c ∈ r, c.1 / s = q
    · obtain ⟨b, hb, hq, hbest⟩ := best_ex s q r hr
      by_cases hx : x.1 / s = q
      · rcases btr.total b x with t | t
        · refine ⟨b, List.mem_cons_of_mem _ hb, hq, fun c hc e => ?_⟩
          rcases List.mem_cons.mp hc with z | z
          · rw [z]; exact t
          · exact hbest c z e
        · refine ⟨x, List.mem_cons_self .., hx, fun c hc e => ?_⟩
          rcases List.mem_cons.mp hc with z | z
          · rw [z]; exact btr.refl _
          · exact t.trans (hbest c z e)
      · refine ⟨b, List.mem_cons_of_mem _ hb, hq, fun c hc e => ?_⟩
        rcases List.mem_cons.mp hc with z | z
        · rw [z] at e; exact absurd e hx
        · exact hbest c z e
    · obtain ⟨c, hc, e⟩ := h
      rcases List.mem_cons.mp hc with z | z
      · rw [z] at e
        refine ⟨x, List.mem_cons_self .., e, fun d hd ed => ?_⟩
        rcases List.mem_cons.mp hd with z | z
        · rw [z]; exact btr.refl _
        · exact absurd ⟨d, z, ed⟩ hr
      · exact absurd ⟨c, z, e⟩ hr
theorem kp_ex {s : Int} {bs : List Bk} {c : Bk} (hc : c ∈ bs) : ∃ b ∈ kp s bs, b.1 / s = c.1 / s ∧ btr b c := by
  obtain ⟨b, hb, hq, hbest⟩ := best_ex s (c.1 / s) bs ⟨c, hc, rfl⟩
  exact ⟨b, mem_kp.mpr ⟨hb, fun d hd e => hbest d hd (e.trans hq)⟩, hq, hbest c hc rfl⟩
theorem kp_uniq {s : Int} {bs : List Bk} {b c : Bk} (hb : b ∈ kp s bs) (hc : c ∈ kp s bs) (e : b.1 / s = c.1 / s) : b = c := by
  obtain ⟨b1, b2⟩ := mem_kp.mp hb
  obtain ⟨c1, c2⟩ := mem_kp.mp hc
  exact (b2 c c1 e.symm).anti (c2 b b1 e)
abbrev Asc (bs : List Bk) : Prop := bs.Pairwise fun b c => b.1 < c.1
theorem Asc.kp {s : Int} {bs : List Bk} (h : Asc bs) : Asc (kp s bs) := h.sublist (kp_sub s bs)
/-- one step of the program's dict -/
def stp (s : Int) (E : List Bk) (b : Bk) : List Bk := match E.getLast? with
  | none => [b]
  | some m => if m.1 / s = b.1 / s then (if b.2 < m.2 then E.dropLast ++ [b] else E) else E ++ [b]
theorem kp_snoc {s : Int} (hs : 0 < s) {l : List Bk} {b : Bk} (h : Asc (l ++ [b])) : kp s (l ++ [b]) = stp s (kp s l) b := by
  have hlb : ∀ c ∈ l, c.1 < b.1 := fun c hc => (List.pairwise_append.mp h).2.2 c hc b (List.mem_singleton.mpr rfl)
  have hl : Asc l := (List.pairwise_append.mp h).1
  have hmono : ∀ c ∈ l, c.1 / s ≤ b.1 / s := fun c hc => Int.ediv_le_ediv hs (Int.le_of_lt (hlb c hc))
  have bestsn : ∀ c, best s (l ++ [b]) c ↔ best s l c ∧ (b.1 / s = c.1 / s → btr c b) := fun c => by
    unfold best
    constructor
    · intro z
      exact ⟨fun d hd => z d (List.mem_append_left _ hd), z b (List.mem_append_right _ (List.mem_singleton.mpr rfl))⟩
    · rintro ⟨z1, z2⟩ d hd
      rcases List.mem_append.mp hd with e | e
      · exact z1 d e
      · rw [List.mem_singleton.mp e]; exact z2
  have split : kp s (l ++ [b]) = (kp s l).filter (fun c => decide (b.1 / s = c.1 / s → btr c b)) ++ (if best s l b then [b] else []) := by
    unfold kp
    rw [List.filter_append, List.filter_filter]
    congr 1
    · refine List.filter_congr fun c hc => ?_
      rw [Bool.eq_iff_iff, Bool.and_eq_true, decide_eq_true_iff, decide_eq_true_iff, decide_eq_true_iff, bestsn]
      exact And.comm
    · have e : best s (l ++ [b]) b ↔ best s l b := (bestsn b).trans ⟨fun z => z.1, fun z => ⟨z, fun _ => btr.refl _⟩⟩
      by_cases z : best s l b
      · rw [if_pos z, List.filter_cons, if_pos (decide_eq_true (e.mpr z)), List.filter_nil]
      · rw [if_neg z, List.filter_cons_of_neg (by rw [decide_eq_true_iff]; exact fun q => z (e.mp q)), List.filter_nil]
  rw [split]
  unfold stp
  cases hg : (kp s l).getLast? with
  | none =>
    have e0 := List.getLast?_eq_none_iff.mp hg
    have l0 : l = [] := by
      cases l with
      | nil => rfl
      | cons x r =>
        obtain ⟨y, hy, _⟩ := kp_ex (s := s) (List.mem_cons_self (a := x) (l := r))
        rw [e0] at hy
        cases hy
    subst l0
    rfl
  | some m =>
    obtain ⟨E0, eE⟩ := List.getLast?_eq_some_iff.mp hg
    have hm : m ∈ kp s l := by rw [eE]; exact List.mem_append_right _ (List.mem_singleton.mpr rfl)
    obtain ⟨hml, hmb⟩ := mem_kp.mp hm
    have ascE : Asc (E0 ++ [m]) := eE ▸ hl.kp
    have hE0 : ∀ c ∈ E0, c.1 < m.1 := fun c hc => (List.pairwise_append.mp ascE).2.2 c hc m (List.mem_singleton.mpr rfl)
    have hE0k : ∀ c ∈ E0, c ∈ kp s l := fun c hc => by rw [eE]; exact List.mem_append_left _ hc
    dsimp only
    by_cases hq : m.1 / s = b.1 / s
    · rw [if_pos hq]
      have other : ∀ c ∈ E0, b.1 / s ≠ c.1 / s := fun c hc z => by
        have e := kp_uniq (hE0k c hc) hm (z.symm.trans hq.symm)
        have := hE0 c hc
        rw [e] at this
        omega
      have keepE0 : E0.filter (fun c => decide (b.1 / s = c.1 / s → btr c b)) = E0 := List.filter_eq_self.mpr fun c hc => decide_eq_true fun z => absurd z (other c hc)
      by_cases hlt : b.2 < m.2
      · rw [if_pos hlt, eE, List.filter_append, keepE0, List.filter_cons_of_neg (by rw [decide_eq_true_iff]; intro z; have := z hq.symm; unfold btr at this; omega), List.filter_nil, List.append_nil, List.dropLast_concat, if_pos]
        intro c hc e
        have := hmb c hc (e.trans hq.symm)
        unfold btr at this ⊢
        omega
      · have hmlt := hlb m hml
        have hmbt : btr m b := by unfold btr; omega
        rw [if_neg hlt, eE, List.filter_append, keepE0, List.filter_cons, if_pos (decide_eq_true fun _ => hmbt), List.filter_nil, if_neg, List.append_nil]
        intro z
        have := z m hml hq
        unfold btr at this
        omega
    · rw [if_neg hq]
      have noc : ∀ c ∈ l, c.1 / s ≠ b.1 / s := fun c hc z => by
        obtain ⟨y, hy, ey, _⟩ := kp_ex (s := s) hc
        have h1 := (mem_kp.mp hm).1
        have h2 := hmono m h1
        rw [eE] at hy
        rcases List.mem_append.mp hy with e | e
        · have h3 := Int.ediv_le_ediv hs (Int.le_of_lt (hE0 y e))
          omega
        · rw [List.mem_singleton.mp e] at ey
          exact hq (ey.trans z)
      have keepAll : (kp s l).filter (fun c => decide (b.1 / s = c.1 / s → btr c b)) = kp s l := List.filter_eq_self.mpr fun c hc => decide_eq_true fun z => absurd z.symm (noc c (mem_kp.mp hc).1)
      rw [keepAll, if_pos]
      intro c hc e
      exact absurd e (noc c hc)
/-! ### chains -/
structure Chn (C : List Int) : Prop where
  pos : ∀ c ∈ C, 1 ≤ c
  dvd : ∀ c ∈ C, ∀ d ∈ C, c ≤ d → d % c = 0
theorem Lnk.chn {m x : Int} {ns : List Int} (h : Lnk m ns x) : Chn ns ∧ ∀ c ∈ ns, 1 ≤ c ∧ c ≤ x ∧ x % c = 0 := by
  induction h with
  | one => refine ⟨⟨fun c hc => ?_, fun c hc d hd _ => ?_⟩, fun c hc => ?_⟩ <;> simp at * <;> subst_vars <;> decide
  | @step ns x r h h1 h2 h3 h4 ih =>
    obtain ⟨⟨ip, id⟩, il⟩ := ih
    have hx := h.pos
    have hxr : x * 2 ≤ x * r := Int.mul_le_mul_of_nonneg_left h1 (by omega)
    have key : ∀ c ∈ ns ++ [x * r], 1 ≤ c ∧ c ≤ x * r ∧ (x * r) % c = 0 := fun c hc => by
      rcases List.mem_append.mp hc with e | e
      · obtain ⟨a1, a2, a3⟩ := il c e
        exact ⟨a1, by omega, Int.emod_eq_zero_of_dvd (Int.dvd_trans (Int.dvd_of_emod_eq_zero a3) ⟨r, rfl⟩)⟩
      · rw [List.mem_singleton.mp e]
        exact ⟨by omega, Int.le_refl _, Int.emod_self⟩
    refine ⟨⟨fun c hc => (key c hc).1, fun c hc d hd hcd => ?_⟩, key⟩
    rcases List.mem_append.mp hd with e | e
    · rcases List.mem_append.mp hc with e2 | e2
      · exact id c e2 d e hcd
      · have := (il d e).2.1
        rw [List.mem_singleton.mp e2] at hcd
        omega
    · rw [List.mem_singleton.mp e]
      exact (key c hc).2.2
theorem ediv_same {s t a b : Int} (hs : 0 < s) (ht : t % s = 0) (e : a / s = b / s) (h0 : 0 < t) : a / t = b / t := by
  obtain ⟨k, hk⟩ := Int.dvd_of_emod_eq_zero ht
  rw [hk, ← Int.ediv_ediv_of_nonneg (Int.le_of_lt hs), ← Int.ediv_ediv_of_nonneg (Int.le_of_lt hs), e]
theorem St.ascL {C : List Int} {W : Int} {bs : List Bk} (h : St C W bs) : Asc bs := h.asc.imp_of_mem fun {b c} hb hc z => by
  obtain ⟨_, h1, _⟩ := h.ok b hb
  omega
theorem St.sub {C : List Int} {W : Int} {bs cs : List Bk} (h : St C W bs) (k : cs.Sublist bs) : St C W cs := ⟨fun b hb => h.ok b (k.subset hb), h.asc.sublist k⟩
/-- blocks at least as large as the size: each in its own chunk -/
theorem great_lt {C : List Int} {W s : Int} {bs : List Bk} (hC : Chn C) (hs : s ∈ C) (h : St C W bs) {b c : Bk} (hb : b ∈ bs) (hc : c ∈ bs) (hbs : s ≤ b.2) (hlt : b.1 + b.2 ≤ c.1) : b.1 / s < c.1 / s := by
  have h1 := hC.pos s hs
  have h2 : (b.1 + s) / s = b.1 / s + 1 := by rw [Int.add_ediv_of_dvd_right (Int.dvd_refl s), Int.ediv_self (by omega)]
  have h3 : (b.1 + s) / s ≤ c.1 / s := Int.ediv_le_ediv (by omega) (by omega)
  omega
/-- a block at most as large as the size lies within one chunk -/
theorem small_in {C : List Int} {W s : Int} {bs : List Bk} (hC : Chn C) (hs : s ∈ C) (h : St C W bs) {b : Bk} (hb : b ∈ bs) (hbs : b.2 ≤ s) {w : Int} (h1 : b.1 ≤ w) (h2 : w < b.1 + b.2) : w / s = b.1 / s := by
  obtain ⟨hbC, b1, b0, bm, _⟩ := h.ok b hb
  have e : w / b.2 = b.1 / b.2 := by
    obtain ⟨k, hk⟩ := Int.dvd_of_emod_eq_zero bm
    rw [hk, Int.mul_ediv_cancel_left _ (by omega)]
    rw [Int.ediv_eq_iff_of_pos (by omega)]
    rw [hk] at h1 h2
    rw [Int.mul_comm] at h1 h2
    constructor
    · exact h1
    · exact h2
  exact ediv_same (by omega) (hC.dvd _ hbC s hs hbs) e (by have := hC.pos s hs; omega)
theorem kp_kp {C : List Int} {s t : Int} {bs : List Bk} (hC : Chn C) (hs : s ∈ C) (ht : t ∈ C) (hst : s ≤ t) : kp t (kp s bs) = kp t bs := by
  have p1 := hC.pos s hs
  have p2 := hC.pos t ht
  have up : ∀ {a b : Int}, a / s = b / s → a / t = b / t := fun e => ediv_same (by omega) (hC.dvd s hs t ht hst) e (by omega)
  unfold kp
  rw [List.filter_filter]
  refine List.filter_congr fun b hb => ?_
  rw [Bool.eq_iff_iff, Bool.and_eq_true, decide_eq_true_iff, decide_eq_true_iff, decide_eq_true_iff]
  constructor
  · rintro ⟨z1, z2⟩ c hc e
    obtain ⟨y, hy, ey, hyc⟩ := kp_ex (s := s) hc
    exact (z1 y hy ((up ey).trans e)).trans hyc
  · intro z
    exact ⟨fun c hc e => z c (List.mem_filter.mp hc).1 e, fun c hc e => z c hc (up e)⟩
theorem pair_or {α : Type} {R : α → α → Prop} : ∀ {l : List α}, l.Pairwise R → ∀ b ∈ l, ∀ c ∈ l, b = c ∨ R b c ∨ R c b
  | [], _, b, hb, _, _ => by cases hb
  | x :: r, h, b, hb, c, hc => by
    obtain ⟨h1, h2⟩ := List.pairwise_cons.mp h
    rcases List.mem_cons.mp hb with e | e <;> rcases List.mem_cons.mp hc with e2 | e2
    · exact .inl (e.trans e2.symm)
    · rw [e]; exact .inr (.inl (h1 c e2))
    · rw [e2]; exact .inr (.inr (h1 b e))
    · exact pair_or h2 b e c e2
/-- a block at least as large as the size is kept -/
theorem great_kept {C : List Int} {W s : Int} {bs : List Bk} (hC : Chn C) (hs : s ∈ C) (h : St C W bs) {b : Bk} (hb : b ∈ bs) (hg : s ≤ b.2) : b ∈ kp s bs := by
  refine mem_kp.mpr ⟨hb, fun c hc e => ?_⟩
  have p1 := hC.pos s hs
  rcases pair_or h.asc b hb c hc with z | z | z
  · rw [z]; exact btr.refl _
  · have := great_lt hC hs h hb hc hg z
    omega
  · exfalso
    obtain ⟨hbC, b1, b0, bm, _⟩ := h.ok b hb
    obtain ⟨_, c1, _⟩ := h.ok c hc
    have hd : s ∣ b.1 := Int.dvd_trans (Int.dvd_of_emod_eq_zero (hC.dvd s hs _ hbC hg)) (Int.dvd_of_emod_eq_zero bm)
    have e2 : b.1 / s * s = b.1 := Int.ediv_mul_cancel hd
    have e3 : c.1 / s * s ≤ c.1 := Int.ediv_mul_le _ (by omega)
    rw [e] at e3
    omega
theorem kp_great {C : List Int} {W s : Int} {bs : List Bk} (hC : Chn C) (hs : s ∈ C) (h : St C W bs) (hg : ∀ b ∈ bs, s ≤ b.2) : kp s bs = bs :=
  List.filter_eq_self.mpr fun b hb => decide_eq_true (mem_kp.mp (great_kept hC hs h hb (hg b hb))).2
/-- the starts of the chunks that are not empty -/
def chk0 (s : Int) (bs : List Bk) (k : Int) : Prop := ∃ b ∈ bs, ∃ w, b.1 ≤ w ∧ w < b.1 + b.2 ∧ k = w / s * s
theorem kp_chk {C : List Int} {W s : Int} {bs : List Bk} (hC : Chn C) (hs : s ∈ C) (h : St C W bs) (k : Int) : chk0 s (kp s bs) k ↔ chk0 s bs k := by
  constructor
  · rintro ⟨b, hb, r⟩
    exact ⟨b, (mem_kp.mp hb).1, r⟩
  · rintro ⟨b, hb, w, w1, w2, rfl⟩
    by_cases hg : s ≤ b.2
    · exact ⟨b, great_kept hC hs h hb hg, w, w1, w2, rfl⟩
    · obtain ⟨y, hy, ey, _⟩ := kp_ex (s := s) hb
      have y1 := (h.ok y (mem_kp.mp hy).1).2.1
      refine ⟨y, hy, y.1, Int.le_refl _, by omega, ?_⟩
      rw [small_in hC hs h hb (by omega) w1 w2, ey]
theorem sum_sub : ∀ {l m : List Int}, l.Sublist m → (∀ x ∈ m, 0 ≤ x) → l.sum ≤ m.sum
  | _, _, .slnil, _ => Int.le_refl _
  | _, _, .cons a r, h => by
    have := sum_sub r fun x hx => h x (List.mem_cons_of_mem _ hx)
    have := h a (List.mem_cons_self ..)
    rw [List.sum_cons]
    omega
  | _, _, .cons_cons a r, h => by
    have := sum_sub r fun x hx => h x (List.mem_cons_of_mem _ hx)
    rw [List.sum_cons, List.sum_cons]
    omega
theorem kp_live {C : List Int} {W s : Int} {bs : List Bk} (h : St C W bs) : ((kp s bs).map (·.2)).sum ≤ (bs.map (·.2)).sum :=
  sum_sub ((kp_sub s bs).map _) fun x hx => by
    obtain ⟨b, hb, e⟩ := List.mem_map.mp hx
    have := (h.ok b hb).2.1
    omega
theorem kp_nodup {C : List Int} {W s : Int} {bs : List Bk} (h : St C W bs) (p : Bk → Bool) : (((kp s bs).filter p).map fun b => b.1 / s).Nodup := by
  have a : Asc ((kp s bs).filter p) := h.ascL.kp.sublist List.filter_sublist
  refine List.pairwise_map.mpr (a.imp_of_mem fun {b c} hb hc z e => ?_)
  have := kp_uniq (List.mem_filter.mp hb).1 (List.mem_filter.mp hc).1 e
  rw [this] at z
  omega
end Ph

namespace Ph
open PySem PySem.Spec PyProof.Rows L2
section
variable {P : Program} {w : World} {A : Around} {E : Value → Shared → Prop} {s : Shared} {T : String} {r d : Addr} {n : Nat} {Pv : Nat → Value → Prop} {OK : Heap → Prop}
/-- tuple(x), x walked as the library's source of a list -/
theorem code_tuple_src {Q₁ : Value → Shared → Prop} (S : PySem.W.KdlSrc P w T r d n Pv OK) (calm : A.handled = none) (ok : OK s.heap) (hn : n ≤ sizeLine) (nT : (Value.type T == Value.type "tuple") = false) (nL : (Value.type T == Value.type "list") = false)
    (q : ∀ (g : Heap) (tk : Nat) (acc : Array Value), (∀ b u, s.heap.get? b = some u → g.get? b = some u) → ItemsOf Pv acc n → Q₁ (.ref g.objs.size) { s with heap := g.push { cls := .type "tuple", data := .seq acc }, toks := tk }) :
    codeAny (model P w) A (.call (.builtin "tuple.__new__") ⟨[.type "tuple", .ref r], []⟩) (wants Q₁ E) s := by
  refine codeAny_of_tree ?_
  show wpAny (model P w) A.in1 (do checkBuiltinCall "tuple.__new__" ⟨[.type "tuple", .ref r], []⟩; again (.builtin "tuple.__new__" ⟨[.type "tuple", .ref r], []⟩)) _ _ s
  refine wpAny_bind (wpAny_of_eq (F.newCall_tuple_1 _) (wpAny_pure ⟨plainId_quiet F.plain_tuple_new _, codeAny_builtin F.entry_tuple_new ?_⟩)); rw [Around.under_plainId F.plain_tuple_new _]
  have y1 := sub_tuple_self
  have y2 := init_tuple_lookup
  have y3 := madeHere_tuple
  have ty := S.type _ ok
  have calm1 : A.in1.handled = none := calm
  wp_walk using wpAny_typeOf ty, PySem.W.kdu_collect (A := A.in1) S calm1 ok hn
  intro g tk acc k it
  show wpAny (model P w) _ (Builtin.Tuple.tupleExact acc.toList.toArray >>= fun v => ret v) _ _ _
  unfold Builtin.Tuple.tupleExact
  refine wpAny_bind (wpAny_newObj_type ?_ (by show acc.toList.toArray.size ≤ sizeLine; rw [Array.toArray_toList, it.1]; exact hn))
  rw [Array.toArray_toList]
  exact wpAny_pure (q g tk acc k it)
theorem call_tuple_src {Q : Value → Shared → Prop} (S : PySem.W.KdlSrc P w T r d n Pv OK) (calm : A.handled = none) (ok : OK s.heap) (hn : n ≤ sizeLine) (nT : (Value.type T == Value.type "tuple") = false) (nL : (Value.type T == Value.type "list") = false)
    (q : ∀ (g : Heap) (tk : Nat) (acc : Array Value), (∀ b u, s.heap.get? b = some u → g.get? b = some u) → ItemsOf Pv acc n → Q (.ref g.objs.size) { s with heap := g.push { cls := .type "tuple", data := .seq acc }, toks := tk }) :
    wpAny (model P w) A (call (.type "tuple") [.ref r]) Q E s := by
  refine callType_codes (Q₁ := fun z t => t.TypeIs z "tuple" ∧ Q z t) F.called_tuple (F.typeCall_tuple_1 _) F.entry_object_init (code_tuple_src (A := A.in1) S calm ok hn nT nL fun g tk acc k it => ⟨⟨_, Heap.get?_push_size _ rfl, rfl⟩, q g tk acc k it⟩) fun z t h => ?_
  exact ⟨h.1, F.args_object_init_2 z _, object_init_meets F.called_tuple.init.lookup F.called_tuple.made (by decide) P w A.in1 _ t ⟨h.1, rfl, h.2⟩⟩
end
section
variable {X : Cx} {o : Expr} {p pos apos mpos : Pos} {td : TE}
/-- tuple(d.values()) -/
def tTupVals (td : TE) : TE := fun σ H Q => td σ H fun x H1 => ∃ a kvs, x = V.ref a ∧ H1 a = some (.dK kvs) ∧ ∀ q, H1 q = none → Q (.ref q) (upd H1 q (.tup (kvs.map (·.2))))
theorem pe_tupVals (hc : X.calm = true) (hg : Gl X "tuple") (hm : X.mg "tuple" = none) (hd : PE X o td) (hbase : attributeBase o "values" X.env (eval o X.env) = eval o X.env := by rfl) (hline : (apos.endLine == mpos.line) = true := by rfl)
    (hse : starEach [Expr.Call (.Attribute o "values" apos) [] [] mpos] X.env = [(false, eval (Expr.Call (.Attribute o "values" apos) [] [] mpos) X.env)] := by rfl) :
    PE X (.Call (.Name "tuple" p) [.Call (.Attribute o "values" apos) [] [] mpos] [] pos) (tTupVals td) := by
  refine ⟨fun pins s σ H Q I h => ?_⟩
  refine Call_ (ld_blt I hg hm boot_tuple ?_)
  refine PyProof.Rows.callWith_type1 (PyProof.Rows.args_cons (wpAny_Call_method0_late hbase hline (thn (hd.run pins s σ H _ I h) fun v s1 ⟨x, H1, I1, r1, a, kvs, ex, ha, q⟩ => ?_)) hse) hse rfl
  subst ex
  obtain rfl : v = Value.ref a := r1
  obtain ⟨z, hsys, vs, rel, dof⟩ := dk_of I1.hok ha
  obtain ⟨ep, dat⟩ := dof.dictAt
  obtain ⟨ob, es, ho, ex, _⟩ := id dat
  refine ⟨"dict", "dict.values", F.plainAttrs_dict, F.slot_dict_values, F.type_dict_values, ⟨ob, ho, ex.1⟩, fun b e => by cases e; exact ⟨ob, ho, ex.2.1⟩, Calls.callWith_builtin rfl (PySem.evalArgs_none ?_)⟩
  refine call_meetsIn F.slot_dict_values ⟨ob, ho, ex.1⟩ F.entry_dict_values (F.args_dict_values_1 _) (meets_dict_values (mixKind X.prog X.w) a hsys) ⟨⟨vs, dof⟩, ?_⟩
  refine PyProof.Rows.args_nil ?_
  have lv : kvs.length = vs.length := KV.length rel
  refine call_tuple_src (PySem.W.kdl_values (knd := mixKind X.prog X.w) (kvs := vs) (ep := ep) (r := s1.heap.objs.size) (d := a)) (I.ok.hd hc) ⟨⟨_, Heap.get?_push_size _ rfl, rfl, rfl⟩, dat.keep fun b u e => Heap.get?_push_of_some _ e⟩ (by rw [← lv]; exact z) (by decide) (by decide) fun g tk acc k it => ?_
  have keep : ∀ b u, s1.heap.get? b = some u → (g.push { cls := .type "tuple", data := .seq acc }).get? b = some u := fun b u e => Heap.get?_push_of_some _ (k b u (Heap.get?_push_of_some _ e))
  have low : s1.heap.objs.size ≤ g.objs.size := by
    have := k s1.heap.objs.size _ (Heap.get?_push_size _ rfl)
    exact Nat.le_of_lt (Heap.lt_size this)
  have rv : Vals (kvs.map (·.2)) acc.toList := vals_of_at ((List.length_map _).trans (lv.trans (it.1.symm.trans Array.length_toList.symm))) fun j x u h1 h2 => by
    obtain ⟨kk, hk⟩ := it.2 j u (by rw [← Array.getElem?_toList]; exact h2)
    obtain ⟨x', h3, h4⟩ := KV.at' rel hk
    rw [List.getElem?_map, h3] at h1
    cases h1
    exact h4
  refine ⟨.ref _, upd H1 g.objs.size (.tup (kvs.map (·.2))), I1.laid (t' := tk) keep low ?_, rfl, q _ (I1.hok.fresh low)⟩
  exact ⟨by rw [List.length_map]; exact z, acc.toList, rv, ⟨_, Heap.get?_push_size _ rfl, rfl, 0, by rw [Array.toArray_toList]⟩⟩
end
end Ph

namespace Ph
open PySem PySem.Spec PyProof.Rows L2
/-! ### comprehensions whose steps leave the heap as it is -/
section
variable {K : PySem.W.Frag} {a : Addr} {xs : List V} {g : TG} {tt : TT} {te : TE} {vs : List Nat} {σ : L2.St} {H1 : Hp} {D : Addr} {Qd : Hp → Prop}
abbrev Stp (g : TG) (tt : TT) (te : TE) (vs : List Nat) (σ : L2.St) (H1 : Hp) (f : V → Option V) (x : V) : Prop :=
  ∀ H, (∀ b o, H1 b = some o → H b = some o) → ∀ (Y : V → Hp → Prop) (N : Hp → Prop), (∀ y, f x = some y → Y y H) → (f x = none → N H) →
    g x (wipe σ vs) H fun σ2 H2 => wipe σ2 vs = wipe σ vs ∧ tt σ2 H2 fun b H3 => if b = true then te σ2 H3 Y else N H3
theorem take_filterMap {α β : Type} (f : α → Option β) {l : List α} {i : Nat} {x : α} (h : l[i]? = some x) : (l.take (i + 1)).filterMap f = (l.take i).filterMap f ++ (f x).toList := by
  rw [List.take_add_one, h, List.filterMap_append]
  congr 1
theorem fm_len {α β : Type} (f : α → Option β) (l : List α) (i : Nat) : ((l.take i).filterMap f).length ≤ l.length := by
  refine Nat.le_trans (List.length_filterMap_le _ _) ?_
  rw [List.length_take]
  omega
theorem lc_tupF (f : V → Option V) (ht : SqT K H1 a xs) (nD : H1 D = none) (hlen : xs.length < sizeLine) (hs : ∀ x ∈ xs, Stp g tt te vs σ H1 f x) (hd : ∀ H, (∀ b o, H1 b = some o → H b = some o) → H D = some (.lst (xs.filterMap f)) → Qd H) :
    ∃ W : Nat → Nat → Hp → Prop, (∃ m, W 0 m (upd H1 D (.lst []))) ∧ ∀ i m H, W i m H →
      ((Itt K a).stop i H ∧ Qd H) ∨ ((Itt K a).go i H ∧ ∃ Nx : Hp → Prop, (∀ H', Nx H' → ∃ m', m' < m ∧ W (i + 1) m' H') ∧ ∀ x H', (Itt K a).yld i H x H' → g x (wipe σ vs) H' fun σ2 H2 => wipe σ2 vs = wipe σ vs ∧ tt σ2 H2 fun b H3 =>
        if b = true then te σ2 H3 fun y H4 => ∃ acc, H4 D = some (.lst acc) ∧ acc.length < sizeLine ∧ Nx (upd H4 D (.lst (acc ++ [y]))) else Nx H3) := by
  refine lc_tup (K := K) (a := a) (xs := xs) (fun i H => (∀ b o, H1 b = some o → H b = some o) ∧ H D = some (.lst ((xs.take i).filterMap f))) ⟨fun b o e => ?_, ?_⟩ (fun i H _ p => ?_) (fun i x H hx p => ?_) (fun H p => ?_)
  · rw [upd_ne (ne_of_none e nD)]; exact e
  · rw [upd_same]; rfl
  · rcases ht with (h | ⟨o, h⟩) | h
    · exact .inl (.inl (p.1 _ _ h))
    · exact .inl (.inr ⟨o, p.1 _ _ h⟩)
    · exact .inr h
  · refine hs x (List.mem_of_getElem? hx) H p.1 _ _ (fun y ey => ⟨_, p.2, Nat.lt_of_le_of_lt (fm_len f xs i) hlen, fun b o e => ?_, ?_⟩) fun en => ⟨p.1, ?_⟩
    · rw [upd_ne (ne_of_none e nD)]; exact p.1 _ _ e
    · rw [upd_same, take_filterMap f hx, ey]; rfl
    · rw [take_filterMap f hx, en]; simpa using p.2
  · refine hd H p.1 ?_
    have := p.2
    rwa [List.take_of_length_le (Nat.le_refl _)] at this
theorem lc_listF (f : V → Option V) (ht : SqL K H1 a xs) (nD : H1 D = none) (hlen : xs.length < sizeLine) (hs : ∀ x ∈ xs, Stp g tt te vs σ H1 f x) (hd : ∀ H, (∀ b o, H1 b = some o → H b = some o) → H D = some (.lst (xs.filterMap f)) → Qd H) :
    ∃ W : Nat → Nat → Hp → Prop, (∃ m, W 0 m (upd H1 D (.lst []))) ∧ ∀ i m H, W i m H →
      ((Itl K a).stop i H ∧ Qd H) ∨ ((Itl K a).go i H ∧ ∃ Nx : Hp → Prop, (∀ H', Nx H' → ∃ m', m' < m ∧ W (i + 1) m' H') ∧ ∀ x H', (Itl K a).yld i H x H' → g x (wipe σ vs) H' fun σ2 H2 => wipe σ2 vs = wipe σ vs ∧ tt σ2 H2 fun b H3 =>
        if b = true then te σ2 H3 fun y H4 => ∃ acc, H4 D = some (.lst acc) ∧ acc.length < sizeLine ∧ Nx (upd H4 D (.lst (acc ++ [y]))) else Nx H3) := by
  refine lc_list (K := K) (a := a) (xs := xs) (fun i H => (∀ b o, H1 b = some o → H b = some o) ∧ H D = some (.lst ((xs.take i).filterMap f))) ⟨fun b o e => ?_, ?_⟩ (fun i H _ p => ?_) (fun i x H hx p => ?_) (fun H p => ?_)
  · rw [upd_ne (ne_of_none e nD)]; exact e
  · rw [upd_same]; rfl
  · rcases ht with (h | ⟨o, h⟩) | h
    · exact .inl (.inl (p.1 _ _ h))
    · exact .inl (.inr ⟨o, p.1 _ _ h⟩)
    · exact .inr h
  · refine hs x (List.mem_of_getElem? hx) H p.1 _ _ (fun y ey => ⟨_, p.2, Nat.lt_of_le_of_lt (fm_len f xs i) hlen, fun b o e => ?_, ?_⟩) fun en => ⟨p.1, ?_⟩
    · rw [upd_ne (ne_of_none e nD)]; exact p.1 _ _ e
    · rw [upd_same, take_filterMap f hx, ey]; rfl
    · rw [take_filterMap f hx, en]; simpa using p.2
  · refine hd H p.1 ?_
    have := p.2
    rwa [List.take_of_length_le (Nat.le_refl _)] at this
/-- over the keys of a dict that stands still -/
theorem lc_keysF {d : Addr} {od : Obj} {kvs : List (Key × V)} (f : V → Option V) (ht : H1 d = some (.frz od (.dK kvs))) (nD : H1 D = none) (hlen : kvs.length < sizeLine) (hs : ∀ x ∈ kvs.map (fun kv => kV kv.1), Stp g tt te vs σ H1 f x) (hd : ∀ H, (∀ b o, H1 b = some o → H b = some o) → H D = some (.lst ((kvs.map fun kv => kV kv.1).filterMap f)) → Qd H) :
    ∃ W : Nat → Nat → Hp → Prop, (∃ m, W 0 m (upd H1 D (.lst []))) ∧ ∀ i m H, W i m H →
      ((Itk d od kvs).stop i H ∧ Qd H) ∨ ((Itk d od kvs).go i H ∧ ∃ Nx : Hp → Prop, (∀ H', Nx H' → ∃ m', m' < m ∧ W (i + 1) m' H') ∧ ∀ x H', (Itk d od kvs).yld i H x H' → g x (wipe σ vs) H' fun σ2 H2 => wipe σ2 vs = wipe σ vs ∧ tt σ2 H2 fun b H3 =>
        if b = true then te σ2 H3 fun y H4 => ∃ acc, H4 D = some (.lst acc) ∧ acc.length < sizeLine ∧ Nx (upd H4 D (.lst (acc ++ [y]))) else Nx H3) := by
  refine lc_it walk_keys (fun i H => (∀ b o, H1 b = some o → H b = some o) ∧ H D = some (.lst (((kvs.map fun kv => kV kv.1).take i).filterMap f))) ⟨fun b o e => ?_, ?_⟩ (fun i H _ p => p.1 _ _ ht) (fun i x H H' hi p y => ?_) (fun H p => ?_)
  · rw [upd_ne (ne_of_none e nD)]; exact e
  · rw [upd_same]; rfl
  · obtain ⟨rfl, k, v, hk, rfl⟩ := y
    have hx : (kvs.map fun kv => kV kv.1)[i]? = some (kV k) := by rw [List.getElem?_map, hk]; rfl
    refine hs _ (List.mem_of_getElem? hx) _ p.1 _ _ (fun y ey => ⟨_, p.2, Nat.lt_of_le_of_lt (fm_len f _ i) (by rw [List.length_map]; exact hlen), fun b o e => ?_, ?_⟩) fun en => ⟨p.1, ?_⟩
    · rw [upd_ne (ne_of_none e nD)]; exact p.1 _ _ e
    · rw [upd_same, take_filterMap f hx, ey]; rfl
    · rw [take_filterMap f hx, en]; simpa using p.2
  · refine hd H p.1 ?_
    have := p.2
    rwa [List.take_of_length_le (by rw [List.length_map]; exact Nat.le_refl _)] at this
end
end Ph

namespace Ph
open PySem PySem.Spec PyProof.Rows L2
abbrev sIsInt : Stmt := topS 4
abbrev sIsSize : Stmt := topS 6
abbrev sClass : Stmt := topS 7
abbrev sLive : Stmt := topS 9
abbrev sKeep : Stmt := topS 10
abbrev scLiveS : Stmt := sLive
abbrev scLiveN : List Str := ["state", "address", "size"]
theorem scIsInt : FnScope ["value"] ["value"] (defScope sIsInt) := ⟨rfl, rfl, rfl, by decide +kernel, rfl, by decide +kernel, by decide +kernel⟩
theorem scIsSize : FnScope ["chain", "value"] ["chain", "value"] (defScope sIsSize) := ⟨rfl, rfl, rfl, by decide +kernel, rfl, by decide +kernel, by decide +kernel⟩
theorem scClass : FnScope ["chain", "size"] ["chain", "size"] (defScope sClass) := ⟨rfl, rfl, rfl, by decide +kernel, rfl, by decide +kernel, by decide +kernel⟩
theorem scLive : FnScope ["state", "address", "size"] ["state"] (defScope sLive) := ⟨rfl, rfl, rfl, by decide +kernel, rfl, by decide +kernel, by decide +kernel⟩
theorem scKeep : FnScope ["chain", "state", "size", "kept", "block", "chunk"] ["chain", "state", "size"] (defScope sKeep) := ⟨rfl, rfl, rfl, by decide +kernel, rfl, by decide +kernel, by decide +kernel⟩
/-! ### values of any kind -/
inductive Ty (H : Hp) : V → String → Prop
  | non : Ty H .non "NoneType"
  | bl (b : Bool) : Ty H (.bl b) "bool"
  | int (i : Int) : Ty H (.int i) "int"
  | str (z : Str) : Ty H (.str z) "str"
  | tup {a : Addr} {xs : List V} (e : H a = some (.tup xs)) : Ty H (.ref a) "tuple"
  | lst {a : Addr} {xs : List V} (e : H a = some (.lst xs)) : Ty H (.ref a) "list"
  | dK {a : Addr} {kvs : List (Key × V)} (e : H a = some (.dK kvs)) : Ty H (.ref a) "dict"
theorem Ty.x {K : PySem.W.Frag} {H : Hp} {x : V} {T : String} (t : Ty H x T) : TyX K H x (.type T) := by
  cases t with
  | non => exact .base .non
  | bl b => exact .base (.bl b)
  | int i => exact .base (.int i)
  | str z => exact .base (.str z)
  | tup e => exact .base (.tup e)
  | lst e => exact .base (.lst e)
  | dK e => exact .base (.dK e)
theorem Ty.same {H H' : Hp} {x : V} {T : String} (t : Ty H x T) (s : Same H H') : Ty H' x T := by
  cases t with
  | non => exact .non
  | bl b => exact .bl b
  | int i => exact .int i
  | str z => exact .str z
  | tup e => exact .tup (s _ _ e)
  | lst e => exact .lst (s _ _ e)
  | dK e => exact .dK (s _ _ e)
def isI : V → Bool
  | .int _ => true
  | _ => false
theorem Ty.kInt {H : Hp} {x : V} {T : String} (t : Ty H x T) : kitB T "int" = some (T == "int" || T == "bool") := by cases t <;> decide +kernel
theorem Ty.kBool {H : Hp} {x : V} {T : String} (t : Ty H x T) : kitB T "bool" = some (T == "bool") := by cases t <;> decide +kernel
theorem Ty.kTup {H : Hp} {x : V} {T : String} (t : Ty H x T) : kitB T "tuple" = some (T == "tuple") := by cases t <;> decide +kernel
theorem Ty.isI {H : Hp} {x : V} {T : String} (t : Ty H x T) : isI x = ((T == "int" || T == "bool") && !(T == "bool")) := by cases t <;> simp [Ph.isI]
theorem in_ints (i : Int) : ∀ C : List Int, inV (.int i) (C.map V.int) = decide (i ∈ C)
  | [] => by simp [inV]
  | c :: r => by
    have ih := in_ints i r
    unfold inV at ih ⊢
    rw [List.map_cons, List.any_cons, ih]
    show ((c == i) || decide (i ∈ r)) = decide (i ∈ c :: r)
    by_cases h : c = i
    · subst h; simp
    · have h' : ¬ i = c := fun z => h z.symm
      simp [h, h']

theorem BL.get {H : Hp} : ∀ {xs : List V} {bs : List (Int × Int)} {i : Nat} {x : V}, BL H xs bs → xs[i]? = some x → ∃ b, bs[i]? = some b ∧ BkAt H x b
  | _, _, _, _, .nil, h => by simp at h
  | _, _, 0, _, .cons hb r, h => by
    have e := Option.some.inj h
    rw [← e]
    exact ⟨_, rfl, hb⟩
  | _ :: l1, _ :: l2, i + 1, x, .cons hb r, h => by
    have h' : l1[i]? = some x := h
    obtain ⟨b, e1, e2⟩ := BL.get (H := H) (xs := l1) (bs := l2) r h'
    exact ⟨b, e1, e2⟩
theorem first_at {s : Int} : ∀ {C : List Int}, s ∈ C → ∃ j : Nat, C[j]? = some s ∧ ∀ m, m < j → C[m]? ≠ some s
  | c :: r, h => by
    by_cases e : c = s
    · exact ⟨0, by simp [e], fun m hm => absurd hm (Nat.not_lt_zero _)⟩
    · rcases List.mem_cons.mp h with z | z
      · exact absurd z.symm e
      · obtain ⟨j, h1, h2⟩ := first_at z
        refine ⟨j + 1, by simpa using h1, fun m hm => ?_⟩
        cases m with
        | zero => simpa using e
        | succ m => simpa using h2 m (by omega)
/-! ### the dict of the kept blocks -/
def ent (s : Int) (E : List Bk) (ys : List V) : List (Key × V) := List.zipWith (fun b y => (Sum.inl (b.1 / s), y)) E ys
theorem ent_snoc (s : Int) (E : List Bk) (ys : List V) (b : Bk) (y : V) (h : E.length = ys.length) : ent s (E ++ [b]) (ys ++ [y]) = ent s E ys ++ [(Sum.inl (b.1 / s), y)] := by
  unfold ent
  rw [List.zipWith_append h]
  rfl
theorem ent_snd (s : Int) : ∀ (E : List Bk) (ys : List V), E.length = ys.length → (ent s E ys).map (·.2) = ys
  | [], [], _ => rfl
  | _ :: E, y :: ys, h => by
    show y :: (ent s E ys).map (·.2) = y :: ys
    rw [ent_snd s E ys (by simpa using h)]
  | [], _ :: _, h => by simp at h
  | _ :: _, [], h => by simp at h
theorem ent_none (s q : Int) : ∀ (E : List Bk) (ys : List V), (∀ b ∈ E, b.1 / s ≠ q) → valV (ent s E ys) (Sum.inl q) = none
  | [], ys, _ => by cases ys <;> rfl
  | _ :: _, [], _ => rfl
  | b :: E, y :: ys, h => by
    have e : ent s (b :: E) (y :: ys) = (Sum.inl (b.1 / s), y) :: ent s E ys := rfl
    rw [e, valV_neg (fun z => h b (List.mem_cons_self ..) (Sum.inl.inj z))]
    exact ent_none s q E ys fun c hc => h c (List.mem_cons_of_mem _ hc)
theorem ent_len (s : Int) (E : List Bk) (ys : List V) : (ent s E ys).length ≤ E.length := by
  unfold ent
  rw [List.length_zipWith]
  omega
theorem put_snoc {kvs : List (Key × V)} {k : Key} {y v : V} (h : valV kvs k = none) : putK (kvs ++ [(k, y)]) k v = kvs ++ [(k, v)] := by
  have h1 : (kvs.any fun kv => decide (kv.1 = k)) = false := by
    rw [valV_any, h]
    rfl
  unfold putK
  rw [if_pos (by rw [List.any_append, h1]; simp), List.map_append]
  congr 1
  · have h2 := List.any_eq_false.mp h1
    conv => rhs; rw [← List.map_id kvs]
    refine List.map_congr_left fun kv hkv => ?_
    have h3 := h2 kv hkv
    rw [if_neg (by simpa using h3)]
    rfl
  · simp
theorem kp_noc {s : Int} (hs : 0 < s) {l : List Bk} {b m : Bk} (h : Asc (l ++ [b])) (hg : (kp s l).getLast? = some m) (hq : m.1 / s ≠ b.1 / s) : ∀ c ∈ kp s l, c.1 / s ≠ b.1 / s := by
  obtain ⟨E0, eE⟩ := List.getLast?_eq_some_iff.mp hg
  have hl : Asc l := (List.pairwise_append.mp h).1
  have ascE : Asc (E0 ++ [m]) := eE ▸ hl.kp
  have hm : m ∈ l := (mem_kp.mp (by rw [eE]; exact List.mem_append_right _ (List.mem_singleton.mpr rfl) : m ∈ kp s l)).1
  have hmb := (List.pairwise_append.mp h).2.2 m hm b (List.mem_singleton.mpr rfl)
  have h2 : m.1 / s ≤ b.1 / s := Int.ediv_le_ediv hs (Int.le_of_lt hmb)
  intro c hc
  rw [eE] at hc
  rcases List.mem_append.mp hc with e | e
  · have h1 : c.1 / s ≤ m.1 / s := Int.ediv_le_ediv hs (Int.le_of_lt ((List.pairwise_append.mp ascE).2.2 c e m (List.mem_singleton.mpr rfl)))
    omega
  · rw [List.mem_singleton.mp e]
    exact hq
theorem kp_last {s : Int} {l E0 : List Bk} {m : Bk} (h : Asc l) (eE : kp s l = E0 ++ [m]) : ∀ c ∈ E0, c.1 / s ≠ m.1 / s := fun c hc z => by
  have ascE : Asc (E0 ++ [m]) := eE ▸ h.kp
  have h1 := (List.pairwise_append.mp ascE).2.2 c hc m (List.mem_singleton.mpr rfl)
  have e := kp_uniq (s := s) (bs := l) (b := c) (c := m) (by rw [eE]; exact List.mem_append_left _ hc) (by rw [eE]; exact List.mem_append_right _ (List.mem_singleton.mpr rfl)) z
  rw [e] at h1
  omega
theorem BL.snoc_inv {H : Hp} : ∀ {E0 : List Bk} {m : Bk} {ys : List V}, BL H ys (E0 ++ [m]) → ∃ ys0 y, ys = ys0 ++ [y] ∧ BL H ys0 E0 ∧ BkAt H y m
  | [], _, _, .cons h .nil => ⟨[], _, rfl, .nil, h⟩
  | _ :: _, _, _, .cons h r => by
    obtain ⟨ys0, y, e, b, k⟩ := BL.snoc_inv r
    exact ⟨_ :: ys0, y, by rw [e]; rfl, .cons h b, k⟩
section
variable {P : Program} {w : World} {K : PySem.W.Frag} {mg : Str → Option Value} {base : Heap}
def spI : Sp := fun vs H Q _ => ∃ (x : V) (T : String), vs = [x] ∧ Ty H x T ∧ Q (.bl (isI x)) H
theorem ok_isint {f : Addr} {fd : FuncData} {k : Nat} (F : Fun K "is_integer" "is_integer" sIsInt f fd) (N : Nm5 K mg) : FnOk P w K mg base CX0 (k + 1) f fd ["value"] spI := by
  refine F.ok scIsInt (fun vs H Q E h => ?_) (fun cdv A outer s H vs Q E hr h => ?_)
  · obtain ⟨x, T, rfl, _⟩ := h
    rfl
  · obtain ⟨x, T, rfl, t, q⟩ := h
    refine ⟨_, pss_one (ps_ret (pe_and (pe_callB call_isi (by rfl) N.isinstance (by decide +kernel) (pa_cons (pv 0) (pa_cons (pe_bltn (v := .ty "int") (by rfl) N.int (by decide +kernel) rfl) pa_nil)))
      (pe_one (pe_not (pe_callB call_isi (by rfl) N.isinstance (by decide +kernel) (pa_cons (pv 0) (pa_cons (pe_bltn (v := .ty "bool") (by rfl) N.bool (by decide +kernel) rfl) pa_nil))))))), ?_⟩
    refine ⟨x, rfl, x, .ty "int", .type T, .type "int", _, rfl, .ty _, t.x, kit_ty t.kInt, _, rfl, ite2 (fun c => ?_) (fun c => ?_)⟩
    · refine ⟨x, rfl, x, .ty "bool", .type T, .type "bool", _, rfl, .ty _, t.x, kit_ty t.kBool, _, rfl, ?_⟩
      rw [t.isI, c] at q
      exact q
    · have c' : (T == "int" || T == "bool") = false := by
        cases e : (T == "int" || T == "bool") with
        | true => exact absurd e c
        | false => rfl
      rw [t.isI, c'] at q
      exact q
def sizeB (C : List Int) : V → Bool
  | .int i => decide (i ∈ C)
  | _ => false
def spSize (K : PySem.W.Frag) : Sp := fun vs H Q _ => ∃ (c : Addr) (C : List Int) (x : V) (T : String), vs = [.ref c, x] ∧ SqT K H c (C.map V.int) ∧ Ty H x T ∧ Q (.bl (sizeB C x)) H
theorem ok_issize {f fI : Addr} {fd fdI : FuncData} {k : Nat} (F : Fun K "is_size" "is_size" sIsSize f fd) (N : Nm5 K mg) (FI : Fun K "is_integer" "is_integer" sIsInt fI fdI) (bI : Binds K fdI ["value"] []) (gI : mg "is_integer" = some (.ref fI)) : FnOk P w K mg base CX0 (k + 1 + 1) f fd ["chain", "value"] (spSize K) := by
  have GI : FnOk P w K mg base CX0 (k + 1) fI fdI ["value"] spI := ok_isint FI N
  refine F.ok scIsSize (fun vs H Q E h => ?_) (fun cdv A outer s H vs Q E hr h => ?_)
  · obtain ⟨c, C, x, T, rfl, _⟩ := h
    rfl
  · obtain ⟨c, C, x, T, rfl, hc, t, q⟩ := h
    refine ⟨_, pss_one (ps_ret (pe_and (pe_call GI hr (by rfl) gI FI.kp bI .nil pass0 (pa_cons (pv 1) pa_nil)) (pe_one (pe_cmpR op_in_seq (pv 1) (pv 0) (by rfl))))), ?_⟩
    refine ⟨x, rfl, x, T, rfl, t, _, rfl, ?_⟩
    cases x with
    | int i =>
      refine iteT ⟨.int i, rfl, .ref c, rfl, c, _, rfl, .inr hc, rfl, flat_ints C, ?_⟩
      have e : (if false = true then !inV (.int i) (C.map V.int) else inV (.int i) (C.map V.int)) = sizeB C (.int i) := by
        rw [if_neg Bool.false_ne_true, in_ints]
        rfl
      rw [← e] at q
      exact q
    | _ => exact iteF q

def spClass : Sp := fun vs H Q _ => ∃ (c : Addr) (C : List Int) (s : Int), vs = [.ref c, .int s] ∧ ChAt H c C ∧ s ∈ C ∧ ∀ v, Q v H
theorem ok_class {f fI fZ : Addr} {fd fdI fdZ : FuncData} {k : Nat} (F : Fun K "class_of" "class_of" sClass f fd) (N : Nm5 K mg) (FI : Fun K "is_integer" "is_integer" sIsInt fI fdI) (bI : Binds K fdI ["value"] []) (gI : mg "is_integer" = some (.ref fI))
    (FZ : Fun K "is_size" "is_size" sIsSize fZ fdZ) (bZ : Binds K fdZ ["chain", "value"] []) (gZ : mg "is_size" = some (.ref fZ)) : FnOk P w K mg base CX0 (k + 1 + 1 + 1) f fd ["chain", "size"] spClass := by
  have GZ : FnOk P w K mg base CX0 (k + 1 + 1) fZ fdZ ["chain", "value"] (spSize K) := ok_issize FZ N FI bI gI
  refine F.ok scClass (fun vs H Q E h => ?_) (fun cdv A outer s H vs Q E hr h => ?_)
  · obtain ⟨c, C, s, rfl, _⟩ := h
    rfl
  · obtain ⟨c, C, sz, rfl, hc, hs, q⟩ := h
    refine ⟨_, pss_cons (ps_if (pt_not (pt_val (pe_call GZ hr (by rfl) gZ FZ.kp bZ .nil pass0 (pa_cons (pv 0) (pa_cons (pv 1) pa_nil))))) (pss_one ps_never) pss_nil)
      (pss_one (ps_ret (pe_bmT PySem.F.slot_tuple_index PySem.F.type_tuple_index mt_tindexI (pv 0) (pa_cons (pv 1) pa_nil)))), ?_⟩
    refine ⟨.ref c, rfl, .int sz, rfl, c, C, .int sz, "int", rfl, hc.sq, .int sz, _, rfl, ?_⟩
    have e : sizeB C (.int sz) = true := decide_eq_true hs
    rw [e]
    obtain ⟨j, h1, h2⟩ := first_at hs
    exact iteF ⟨.ref c, rfl, ⟨c, C, rfl, hc⟩, .int sz, rfl, c, C, sz, j, rfl, rfl, hc.sq, h1, h2, q _⟩
def spLive : Sp := fun vs H Q _ => ∃ (t : Addr) (bs : List Bk), vs = [.ref t] ∧ StAt H t bs ∧ bs.length ≤ 5000 ∧ ∀ H', Same H H' → Q (.int (bs.map (·.2)).sum) H'
theorem ok_live {f : Addr} {fd : FuncData} {k : Nat} (F : Fun K "live_words" "live_words" sLive f fd) (N : Nm5 K mg) : FnOk P w K mg base CX0 (k + 1) f fd ["state"] spLive := by
  refine F.ok scLive (fun vs H Q E h => ?_) (fun cdv A outer s H vs Q E hr h => ?_)
  · obtain ⟨t, bs, rfl, _⟩ := h
    rfl
  · obtain ⟨t, bs, rfl, ⟨xs, ht, bl⟩, hl, q⟩ := h
    refine ⟨_, (pss_one (ps_ret (pe_callB (cr_sum rfl) (by rfl) N.sum (by decide +kernel) (pa_cons (pe_lc (own := [("address", 1), ("size", 2)]) (g := (gTup K 2 (gCons (gName 1) (gCons (gName 2) gNil)))) (tt := tYes) (by rfl) scLive.nd (pi_tup (pv 0)) (blkOk_by (N := scLiveN) (sc := defScope scLiveS) (by decide +kernel)) (fun _ _ _ _ _ => (pg_tup (by rfl) (pgs_cons (pg_name (i := 1) scLive.nd rfl (.inl rfl)) (pgs_cons (pg_name (i := 2) scLive.nd rfl (.inl rfl)) pgs_nil)))) (fun _ _ _ _ _ => pts_nil) (fun _ _ _ _ _ => (pv 2))) pa_nil)))), ?_⟩
    refine ⟨.ref t, rfl, t, rfl, ⟨_, .inl (.inl ht)⟩, fun D nD => ?_⟩
    refine lc_tupF (xs := xs) (fun x => some (.int (kH H x).2)) (.inl (.inl ht)) nD (by rw [bl.len]; exact Nat.lt_of_le_of_lt hl (by decide)) (fun x hx H2 sm Y N hY hN => ?_) (fun H2 sm hD => ?_)
    · obtain ⟨b, hb⟩ := bl.all x hx
      have e := hb.k
      obtain ⟨u, rfl, hu⟩ := hb
      refine ⟨u, _, rfl, .inl (.inl (sm _ _ hu)), rfl, _, _, rfl, _, _, rfl, rfl, rfl, .int b.2, rfl, ?_⟩
      exact hY _ (by show some (V.int (kH H (V.ref u)).2) = _; rw [e])
    · have e : xs.filterMap (fun x => some (V.int (kH H x).2)) = (bs.map (·.2)).map V.int := by
        rw [← bl.map, List.map_map, List.map_map]
        exact congrFun List.filterMap_eq_map' xs
      rw [e] at hD
      exact ⟨D, _, rfl, .inl (.inl hD), q _ sm⟩
def spKeep : Sp := fun vs H Q _ => ∃ (c t : Addr) (C : List Int) (s : Int) (bs : List Bk), vs = [.ref c, .ref t, .int s] ∧ ChAt H c C ∧ s ∈ C ∧ 0 < s ∧ s ≤ 2000 ∧ StAt H t bs ∧ Asc bs ∧ bs.length ≤ 5000 ∧ ∀ H' u, Same H H' → StAt H' u (kp s bs) → Q (.ref u) H'
theorem ok_keep {f fI fZ fC : Addr} {fd fdI fdZ fdC : FuncData} {k : Nat} (F : Fun K "keepers" "keepers" sKeep f fd) (N : Nm5 K mg) (FI : Fun K "is_integer" "is_integer" sIsInt fI fdI) (bI : Binds K fdI ["value"] []) (gI : mg "is_integer" = some (.ref fI))
    (FZ : Fun K "is_size" "is_size" sIsSize fZ fdZ) (bZ : Binds K fdZ ["chain", "value"] []) (gZ : mg "is_size" = some (.ref fZ)) (FC : Fun K "class_of" "class_of" sClass fC fdC) (bC : Binds K fdC ["chain", "size"] []) (gC : mg "class_of" = some (.ref fC)) :
    FnOk P w K mg base CX0 (k + 1 + 1 + 1 + 1) f fd ["chain", "state", "size"] spKeep := by
  have GC : FnOk P w K mg base CX0 (k + 1 + 1 + 1) fC fdC ["chain", "size"] spClass := ok_class FC N FI bI gI FZ bZ gZ
  refine F.ok scKeep (fun vs H Q E h => ?_) (fun cdv A outer s H vs Q E hr h => ?_)
  · obtain ⟨c, t, C, s, bs, rfl, _⟩ := h
    rfl
  · obtain ⟨c, t, C, sz, bs, rfl, hc, hs, s0, s1, ⟨xs, ht, bl⟩, asc, hl, q⟩ := h
    refine ⟨_, (pss_cons (ps_expr (pe_call GC hr (by rfl) gC FC.kp bC .nil pass0 (pa_cons (pv 0) (pa_cons (pv 2) pa_nil))))
       (pss_cons (ps_set (i := 3) scKeep.nd rfl (.inl rfl) pe_dnewK)
       (pss_cons (ps_for PassesOwn.never rfl (pi_tup (pv 1)) (pg_name (i := 4) scKeep.nd rfl (.inl rfl))
       (pss_cons (ps_set (i := 5) scKeep.nd rfl (.inl rfl) (pe_op op_fdiv (pe_ix ix_tup (pv 4) pe_int (fun _ _ => rfl)) (pv 2)))
       (pss_one (ps_if (PW.pt (pw_or (pt_cmp (pc_dnotin (hu_of hr) (pv 5) (pv 3))) (pw_or1 (pt_cmpR op_lt (pe_ix ix_tup (pv 4) pe_int (fun _ _ => rfl)) (pe_ix ix_tup (pe_dget (hu_of hr) (pv 3) (pv 5) (fun _ _ => rfl)) pe_int (fun _ _ => rfl)) (nomark _)))))
       (pss_one (ps_asg (pv 4) (pg_sub (pv 3) (pv 5) (set_dict (hu_of hr))))) pss_nil))))
       (pss_one (ps_ret (pe_tupVals rfl (by rfl) N.tuple (pv 3))))))), ?_⟩
    refine ⟨.ref c, rfl, .int sz, rfl, c, C, sz, rfl, hc, hs, fun _ => ?_⟩
    refine fun d nd => ?_
    have sd := same_upd (o := .dK []) nd
    refine ⟨.ref t, rfl, t, rfl, ⟨_, .inl (.inl (sd _ _ ht))⟩, ?_⟩
    refine for_tup (K := K) (a := t) (xs := xs) (fun i σ H2 => ∃ y4 y5 ys, σ = [some (.ref c), some (.ref t), some (.int sz), some (.ref d), y4, y5] ∧ Same H H2 ∧ H2 d = some (.dK (ent sz (kp sz (bs.take i)) ys)) ∧ BL H2 ys (kp sz (bs.take i)))
      ⟨none, none, [], rfl, sd, upd_same, .nil⟩ (fun i σ H2 _ p => ?_) ?_ ?_
    · obtain ⟨y4, y5, ys, _, sm, _⟩ := p
      exact .inl (.inl (sm _ _ ht))
    · rintro i x σ H2 hx ⟨y4, y5, ys, rfl, sm, hd, blE⟩
      obtain ⟨b, hb, ⟨u, rfl, hu⟩⟩ := (bl.mono fun t ys e => sm _ _ e).get hx
      have etk : bs.take (i + 1) = bs.take i ++ [b] := by rw [List.take_add_one, hb]; rfl
      have ascT : Asc (bs.take i ++ [b]) := etk ▸ asc.sublist (List.take_sublist ..)
      have stp1 := kp_snoc s0 ascT
      have hlE : ys.length = (kp sz (bs.take i)).length := blE.len
      have lenE : (kp sz (bs.take i)).length ≤ 5000 := Nat.le_trans (kp_sub _ _).length_le (Nat.le_trans (by rw [List.length_take]; omega) hl)
      have fits : (ent sz (kp sz (bs.take i)) ys).length < sizeLine := Nat.lt_of_le_of_lt (Nat.le_trans (ent_len ..) lenE) (by decide)
      have g0 : atI [V.int b.1, V.int b.2] 0 = some (.int b.1) := atI_nat (j := 0) rfl
      have g1 : ∀ z : Bk, atI [V.int z.1, V.int z.2] 1 = some (.int z.2) := fun z => atI_nat (j := 1) rfl
      refine ⟨.ref u, rfl, u, _, 0, _, rfl, rfl, .inl (.inl hu), g0, .int sz, rfl, b.1, sz, rfl, rfl, ⟨s0, by omega⟩, ?_⟩
      -- how the step goes on behind the store, for a new list of entries
      have store : ∀ E' ys', putK (ent sz (kp sz (bs.take i)) ys) (Sum.inl (b.1 / sz)) (V.ref u) = ent sz E' ys' → kp sz (bs.take (i + 1)) = E' → (∀ H3, (∀ v zs, H2 v = some (.tup zs) → H3 v = some (.tup zs)) → BL H3 ys' E') →
          ∃ y4 y5 ys'', [some (V.ref c), some (.ref t), some (.int sz), some (.ref d), some (.ref u), some (.int (b.1 / sz))] = [some (V.ref c), some (.ref t), some (.int sz), some (.ref d), y4, y5] ∧ Same H (upd H2 d (.dK (putK (ent sz (kp sz (bs.take i)) ys) (Sum.inl (b.1 / sz)) (V.ref u)))) ∧ upd H2 d (.dK (putK (ent sz (kp sz (bs.take i)) ys) (Sum.inl (b.1 / sz)) (V.ref u))) d = some (.dK (ent sz (kp sz (bs.take (i + 1))) ys'')) ∧ BL (upd H2 d (.dK (putK (ent sz (kp sz (bs.take i)) ys) (Sum.inl (b.1 / sz)) (V.ref u)))) ys'' (kp sz (bs.take (i + 1))) :=
        fun E' ys' e1 e2 e3 => by
          refine ⟨_, _, ys', rfl, fun a o ha => ?_, ?_, ?_⟩
          · rw [upd_ne (ne_of_none ha nd)]; exact sm _ _ ha
          · rw [upd_same, e1, e2]
          · rw [e2]
            refine e3 _ fun v zs hv => ?_
            rw [upd_ne (ne_of hv hd (by intro z; cases z))]
            exact hv
      have new : (∀ c ∈ kp sz (bs.take i), c.1 / sz ≠ b.1 / sz) → valV (ent sz (kp sz (bs.take i)) ys) (Sum.inl (b.1 / sz)) = none := ent_none _ _ _ _
      have bat : ∀ H3 : Hp, (∀ v zs, H2 v = some (.tup zs) → H3 v = some (.tup zs)) → BkAt H3 (.ref u) b := fun H3 k3 => ⟨u, rfl, k3 _ _ hu⟩
      cases hg : (kp sz (bs.take i)).getLast? with
      | none =>
        have e0 := List.getLast?_eq_none_iff.mp hg
        have hn := new (by rw [e0]; intro c hc; cases hc)
        refine ⟨.int (b.1 / sz), rfl, .ref d, rfl, d, _, rfl, DGet.k (k := Sum.inl (b.1 / sz)) hd, ?_⟩
        rw [hn]
        refine ⟨_, rfl, iteT ?_⟩
        refine ⟨.ref u, rfl, .ref d, rfl, .int (b.1 / sz), rfl, d, _, rfl, DPut.k (k := Sum.inl (b.1 / sz)) hd fits, ?_⟩
        refine store (kp sz (bs.take i) ++ [b]) (ys ++ [.ref u]) ?_ ?_ ?_
        · rw [putK_new _ hn, ent_snoc _ _ _ _ _ hlE.symm]
        · rw [etk, stp1]; unfold stp; rw [hg, e0]; rfl
        · exact fun H3 k3 => (blE.mono k3).snoc (bat H3 k3)
      | some m =>
        by_cases hq : m.1 / sz = b.1 / sz
        · obtain ⟨E0, eE⟩ := List.getLast?_eq_some_iff.mp hg
          have oth := kp_last ((List.pairwise_append.mp ascT).1) eE
          obtain ⟨ys0, y, rfl, bl0, hy⟩ := BL.snoc_inv (eE ▸ blE)
          have l0 : E0.length = ys0.length := bl0.len.symm
          have ee : ent sz (kp sz (bs.take i)) (ys0 ++ [y]) = ent sz E0 ys0 ++ [(Sum.inl (b.1 / sz), y)] := by rw [eE, ent_snoc _ _ _ _ _ l0, hq]
          have hn0 : valV (ent sz E0 ys0) (Sum.inl (b.1 / sz)) = none := ent_none _ _ _ _ fun c hc z => oth c hc (z.trans hq.symm)
          have hv : valV (ent sz (kp sz (bs.take i)) (ys0 ++ [y])) (Sum.inl (b.1 / sz)) = some y := by
            rw [ee, valV_snoc _ _ _ _ hn0, if_pos rfl]
          obtain ⟨v, rfl, hv2⟩ := hy
          refine ⟨.int (b.1 / sz), rfl, .ref d, rfl, d, _, rfl, DGet.k (k := Sum.inl (b.1 / sz)) hd, ?_⟩
          rw [hv]
          refine ⟨_, rfl, iteF ?_⟩
          refine ⟨.ref u, rfl, u, _, 1, _, rfl, rfl, .inl (.inl hu), g1 b, .ref d, rfl, .int (b.1 / sz), rfl, d, .ref v, rfl, ?_, v, _, 1, _, rfl, rfl, .inl (.inl hv2), g1 m, b.2, m.2, rfl, rfl, ?_⟩
          · have := DGet.k (k := Sum.inl (b.1 / sz)) hd
            rwa [hv] at this
          · by_cases hlt : b.2 < m.2
            · refine ⟨decide (b.2 < m.2), rfl, ?_⟩
              rw [decide_eq_true hlt]
              refine iteT ⟨.ref u, rfl, .ref d, rfl, .int (b.1 / sz), rfl, d, _, rfl, DPut.k (k := Sum.inl (b.1 / sz)) hd fits, ?_⟩
              refine store (E0 ++ [b]) (ys0 ++ [.ref u]) ?_ ?_ ?_
              · rw [ee, put_snoc hn0, ent_snoc _ _ _ _ _ l0]
              · rw [etk, stp1]; unfold stp; rw [hg]; dsimp only; rw [if_pos hq, if_pos hlt, eE, List.dropLast_concat]
              · exact fun H3 k3 => (bl0.mono k3).snoc (bat H3 k3)
            · refine ⟨decide (b.2 < m.2), rfl, ?_⟩
              rw [decide_eq_false hlt]
              refine iteF ⟨_, _, ys0 ++ [.ref v], rfl, sm, ?_, ?_⟩
              · rw [hd, etk, stp1]; unfold stp; rw [hg]; dsimp only; rw [if_pos hq, if_neg hlt]
              · rw [etk, stp1]; unfold stp; rw [hg]; dsimp only; rw [if_pos hq, if_neg hlt]; exact blE
        · have hn := new (kp_noc s0 ascT hg hq)
          refine ⟨.int (b.1 / sz), rfl, .ref d, rfl, d, _, rfl, DGet.k (k := Sum.inl (b.1 / sz)) hd, ?_⟩
          rw [hn]
          refine ⟨_, rfl, iteT ?_⟩
          refine ⟨.ref u, rfl, .ref d, rfl, .int (b.1 / sz), rfl, d, _, rfl, DPut.k (k := Sum.inl (b.1 / sz)) hd fits, ?_⟩
          refine store (kp sz (bs.take i) ++ [b]) (ys ++ [.ref u]) ?_ ?_ ?_
          · rw [putK_new _ hn, ent_snoc _ _ _ _ _ hlE.symm]
          · rw [etk, stp1]; unfold stp; rw [hg]; dsimp only; rw [if_neg hq]
          · exact fun H3 k3 => (blE.mono k3).snoc (bat H3 k3)
    · rintro σ H2 ⟨y4, y5, ys, rfl, sm, hd, blE⟩
      rw [List.take_of_length_le (by rw [bl.len]; exact Nat.le_refl _)] at hd blE
      refine ⟨.ref d, rfl, d, _, rfl, hd, fun v nv => ?_⟩
      rw [ent_snd _ _ _ blE.len.symm]
      have sv := same_upd (o := .tup ys) nv
      exact q _ v (sm.trans sv) ⟨ys, upd_same, blE.mono fun a zs e => sv _ _ e⟩
end
end Ph

namespace Ph
open PySem PySem.Spec PyProof.Rows L2
abbrev sOwn : Stmt := topS 16
abbrev sFull : Stmt := topS 18
abbrev scOwnS : Stmt := sOwn
abbrev scOwnN : List Str := ["_law_heaped", "_law_found", "_law_start", "_law_words", "_law_word"]
abbrev scFullS : Stmt := sFull
abbrev scFullN : List Str := ["_law_heaped", "_law_words", "_law_word"]
theorem scOwn : FnScope ["_law_heaped", "_law_found", "_law_start", "_law_words", "_law_word"] ["_law_heaped"] (defScope sOwn) := ⟨rfl, rfl, rfl, by decide +kernel, rfl, by decide +kernel, by decide +kernel⟩
theorem scFull : FnScope ["_law_heaped", "_law_words", "_law_word"] ["_law_heaped", "_law_words"] (defScope sFull) := ⟨rfl, rfl, rfl, by decide +kernel, rfl, by decide +kernel, by decide +kernel⟩
/-! ### dicts whose keys are ints -/
def AllI (kvs : List (Key × V)) : Prop := ∀ kv ∈ kvs, ∃ i : Int, kv.1 = Sum.inl i
theorem AllI.put {kvs : List (Key × V)} (h : AllI kvs) (i : Int) (v : V) : AllI (putK kvs (Sum.inl i) v) := by
  intro kv hkv
  unfold putK at hkv
  split at hkv
  · obtain ⟨x, hx, e⟩ := List.mem_map.mp hkv
    obtain ⟨j, hj⟩ := h x hx
    split at e
    · exact ⟨j, by rw [← e]; exact hj⟩
    · exact ⟨j, by rw [← e]; exact hj⟩
  · rcases List.mem_append.mp hkv with e | e
    · exact h kv e
    · rw [List.mem_singleton.mp e]
      exact ⟨i, rfl⟩
theorem AllI.merge : ∀ {more kvs : List (Key × V)}, AllI kvs → AllI more → AllI (mergeK kvs more)
  | [], _, h, _ => h
  | kv :: r, kvs, h, hm => by
    obtain ⟨i, hi⟩ := hm kv (List.mem_cons_self ..)
    have e : mergeK kvs (kv :: r) = mergeK (putK kvs kv.1 kv.2) r := rfl
    rw [e, hi]
    exact AllI.merge (h.put i _) fun x hx => hm x (List.mem_cons_of_mem _ hx)
theorem merge_val : ∀ (more kvs : List (Key × V)) (k : Key) (y : V), valV (mergeK kvs more) k = some y → valV kvs k = some y ∨ ∃ kv ∈ more, kv.1 = k ∧ kv.2 = y
  | [], kvs, k, y, h => .inl h
  | kv :: r, kvs, k, y, h => by
    have e : mergeK kvs (kv :: r) = mergeK (putK kvs kv.1 kv.2) r := rfl
    rw [e] at h
    rcases merge_val r _ k y h with z | ⟨x, hx, z⟩
    · rw [valV_put] at z
      by_cases c : k = kv.1
      · rw [if_pos c] at z
        exact .inr ⟨kv, List.mem_cons_self .., c.symm, Option.some.inj z⟩
      · rw [if_neg c] at z
        exact .inl z
    · exact .inr ⟨x, List.mem_cons_of_mem _ hx, z⟩
theorem mem_put {kvs : List (Key × V)} {k : Key} {v : V} {x : Key × V} (h : x ∈ putK kvs k v) : x ∈ kvs ∨ x = (k, v) := by
  unfold putK at h
  split at h
  · obtain ⟨y, hy, e⟩ := List.mem_map.mp h
    split at e
    · rename_i c
      exact .inr (by rw [← e, c])
    · exact .inl (e ▸ hy)
  · rcases List.mem_append.mp h with e | e
    · exact .inl e
    · exact .inr (List.mem_singleton.mp e)
theorem mem_merge : ∀ {more kvs : List (Key × V)} {x : Key × V}, x ∈ mergeK kvs more → x ∈ kvs ∨ x ∈ more
  | [], _, _, h => .inl h
  | kv :: r, kvs, x, h => by
    have e : mergeK kvs (kv :: r) = mergeK (putK kvs kv.1 kv.2) r := rfl
    rw [e] at h
    rcases mem_merge h with z | z
    · rcases mem_put z with z | z
      · exact .inl z
      · exact .inr (by rw [z]; exact List.mem_cons_self ..)
    · exact .inr (List.mem_cons_of_mem _ z)
theorem asc_sum : ∀ (bs : List Bk) (e W : Int), (∀ b ∈ bs, e ≤ b.1 ∧ b.1 + b.2 ≤ W) → bs.Pairwise (fun b c => b.1 + b.2 ≤ c.1) → e ≤ W → e + (bs.map (·.2)).sum ≤ W
  | [], e, W, _, _, h => by simpa using h
  | b :: r, e, W, hb, hp, h => by
    obtain ⟨h1, h2⟩ := List.pairwise_cons.mp hp
    obtain ⟨h3, h4⟩ := hb b (List.mem_cons_self ..)
    have := asc_sum r (b.1 + b.2) W (fun c hc => ⟨h1 c hc, (hb c (List.mem_cons_of_mem _ hc)).2⟩) h2 h4
    rw [List.map_cons, List.sum_cons]
    omega
theorem sum_take : ∀ (l : List Int) (i : Nat) (x : Int), l[i]? = some x → (l.take (i + 1)).sum = (l.take i).sum + x
  | [], i, x, h => by simp at h
  | a :: r, 0, x, h => by
    have e : a = x := by simpa using h
    simp [e]
  | a :: r, i + 1, x, h => by
    have := sum_take r i x (by simpa using h)
    rw [List.take_succ_cons, List.take_succ_cons, List.sum_cons, List.sum_cons, this, Int.add_assoc]
section
variable {P : Program} {w : World} {K : PySem.W.Frag} {mg : Str → Option Value} {base : Heap}
def spOwn : Sp := fun vs H Q _ => ∃ (t : Addr) (C : List Int) (W : Int) (bs : List Bk), vs = [.ref t] ∧ StAt H t bs ∧ St C W bs ∧ 0 ≤ W ∧ W ≤ 4000 ∧
  ∀ H' d kvs, Same H H' → H d = none → H' d = some (.dK kvs) → AllI kvs → (∀ i : Int, hasI kvs i = true ↔ ∃ b ∈ bs, b.1 ≤ i ∧ i < b.1 + b.2) → (∀ (i : Int) y, valV kvs (Sum.inl i) = some y → ∃ b ∈ bs, b.1 ≤ i ∧ i < b.1 + b.2 ∧ BkAt H' y b) → (kvs.length : Int) ≤ W → Q (.ref d) H'
theorem ok_own {f : Addr} {fd : FuncData} {k : Nat} (F : Fun K "_law_owners" "_law_owners" sOwn f fd) (N : Nm5 K mg) : FnOk P w K mg base CX0 (k + 1) f fd ["_law_heaped"] spOwn := by
  refine F.ok scOwn (fun vs H Q E h => ?_) (fun cdv A outer s H vs Q E hr h => ?_)
  · obtain ⟨t, C, W, bs, rfl, _⟩ := h
    rfl
  · obtain ⟨t, C, W, bs, rfl, ⟨xs, ht, bl⟩, st, hW0, hW, q⟩ := h
    refine ⟨_, (pss_cons (ps_set (i := 1) scOwn.nd rfl (.inl rfl) pe_dnewK)
       (pss_cons (ps_for PassesOwn.never rfl (pi_tup (pv 0)) (pg_tup (by rfl) (pgs_cons (pg_name (i := 2) scOwn.nd rfl (.inr rfl)) (pgs_cons (pg_name (i := 3) scOwn.nd rfl (.inr rfl)) pgs_nil)))
       (pss_one (ps_expr (pe_bm PySem.F.plainAttrs_dict PySem.F.slot_dict_update PySem.F.type_dict_update mtd_update (pv 1) (pa_cons (pe_callTy (call_dictP rfl) (by rfl) N.dict (by decide +kernel) (pa_cons (pe_lc (own := [("_law_word", 4)]) (g := (gName 4)) (tt := tYes) (by rfl) scOwn.nd (pi_range2 (by rfl) N.range (pa_cons (pv 2) (pa_cons (pe_op op_add (pv 2) (pv 3)) pa_nil))) (blkOk_by (N := scOwnN) (sc := defScope scOwnS) (by decide +kernel)) (fun _ _ _ _ _ => (pg_name (i := 4) scOwn.nd rfl (.inl rfl))) (fun _ _ _ _ _ => pts_nil) (fun _ _ _ _ _ => (pe_tup (pa_cons (pv 4) (pa_cons (pe_tup (pa_cons (pv 2) (pa_cons (pv 3) pa_nil))) pa_nil))))) pa_nil)) pa_nil)))))
       (pss_one (ps_ret (pv 1))))), ?_⟩
    refine fun d nd => ?_
    have sd := same_upd (o := .dK []) nd
    refine ⟨.ref t, rfl, t, rfl, ⟨_, .inl (.inl (sd _ _ ht))⟩, ?_⟩
    have sumW : (bs.map (·.2)).sum ≤ W := by
      have := asc_sum bs 0 W (fun b hb => ⟨(st.ok b hb).2.2.1, (st.ok b hb).2.2.2.2⟩) st.asc hW0
      omega
    refine for_tup (K := K) (a := t) (xs := xs) (fun i σ H2 => ∃ y2 y3 y4 kvs, σ = [some (.ref t), some (.ref d), y2, y3, y4] ∧ Same H H2 ∧ H2 d = some (.dK kvs) ∧ AllI kvs ∧ (∀ j : Int, hasI kvs j = true ↔ ∃ b ∈ bs.take i, b.1 ≤ j ∧ j < b.1 + b.2) ∧
        (∀ (j : Int) y, valV kvs (Sum.inl j) = some y → ∃ b ∈ bs.take i, b.1 ≤ j ∧ j < b.1 + b.2 ∧ BkAt H2 y b) ∧ (kvs.length : Int) ≤ ((bs.map (·.2)).take i).sum)
      ⟨none, none, none, [], rfl, sd, upd_same, (fun kv hkv => by cases hkv), (fun j => ?_), (fun j y h => ?_), by simp⟩ (fun i σ H2 _ p => ?_) ?_ ?_
    · constructor
      · intro z; exact absurd z (by unfold hasI; rw [valV_nil]; simp)
      · rintro ⟨b, hb, _⟩; simp at hb
    · rw [valV_nil] at h; cases h
    · obtain ⟨y2, y3, y4, kvs, _, sm, _⟩ := p
      exact .inl (.inl (sm _ _ ht))
    · rintro i x σ H2 hx ⟨y2, y3, y4, kvs, rfl, sm, hd, hI, hk, hv, hlen⟩
      obtain ⟨b, hb, ⟨u, rfl, hu⟩⟩ := (bl.mono fun t ys e => sm _ _ e).get hx
      have hbm : b ∈ bs := List.mem_of_getElem? hb
      obtain ⟨hbC, b1, b0, bm, bW⟩ := st.ok b hbm
      have etk : bs.take (i + 1) = bs.take i ++ [b] := by rw [List.take_add_one, hb]; rfl
      obtain ⟨cn, hcn⟩ : ∃ cn : Nat, b.2 = cn := ⟨b.2.toNat, by omega⟩
      obtain ⟨se, bz⟩ := b
      dsimp only at hcn b1 b0 bm bW hu
      subst hcn
      have ecn : (se + (cn : Int) - se).toNat = cn := by omega
      refine ⟨u, _, rfl, .inl (.inl hu), rfl, _, _, rfl, _, _, rfl, rfl, ?_⟩
      refine ⟨.ref d, rfl, .inr (.inr (.inl ⟨rfl, .inl ⟨_, hd⟩⟩)), .int se, rfl, .int se, rfl, .int cn, rfl, _, _, rfl, rfl, se, se + cn, rfl, ⟨by omega, by omega, by omega, by omega⟩, fun D nD => ?_⟩
      rw [ecn]
      refine lc_range (lo := se) (n := cn) (fun j H8 => Same H2 H8 ∧ ∃ (ps : List Addr) (kvl : List (Key × V)), H8 D = some (.lst (ps.map V.ref)) ∧ Paired (fun q kv => H8 q = some (.tup [kV kv.1, kv.2])) ps kvl ∧ kvl.map (·.1) = (List.range j).map (fun (z : Nat) => (Sum.inl (se + (z : Int)) : Key)) ∧ ∀ kv ∈ kvl, BkAt H8 kv.2 (se, (cn : Int)))
        ⟨same_upd nD, [], [], upd_same, .nil, rfl, fun kv hkv => by cases hkv⟩ (fun j H8 hj p8 => ?_) (fun H8 p8 => ?_)
      · obtain ⟨s8, ps, kvl, hD8, hpr, hke, hva⟩ := p8
        have lps : ps.length = j := by
          have h1 := hpr.length
          have h2 := congrArg List.length hke
          simp at h2
          omega
        refine ⟨rfl, .int (se + j), rfl, .int se, rfl, .int cn, rfl, (by show 2 ≤ sizeLine; decide), fun T1 nT1 => ⟨(by show 2 ≤ sizeLine; decide), fun T nT => ?_⟩⟩
        have s1 := same_upd (o := .tup [.int se, .int (cn : Int)]) nT1
        have s2 := same_upd (o := .tup [.int (se + (j : Int)), .ref T1]) nT
        have hD9 := s2 _ _ (s1 _ _ hD8)
        have tupk : ∀ v zs, H8 v = some (.tup zs) → upd (upd (upd H8 T1 (.tup [.int se, .int (cn : Int)])) T (.tup [.int (se + (j : Int)), .ref T1])) D (.lst (ps.map V.ref ++ [.ref T])) v = some (.tup zs) := fun v zs e => by
          rw [upd_ne (ne_of e hD8 (by intro z; cases z))]
          exact s2 _ _ (s1 _ _ e)
        have nT1D : T1 ≠ D := (ne_of_none hD8 nT1).symm
        have nTD : T ≠ D := (ne_of_none (s1 _ _ hD8) nT).symm
        refine ⟨_, hD9, ?_, fun b z hz => ?_, ps ++ [T], kvl ++ [(Sum.inl (se + (j : Int)), .ref T1)], ?_, ?_, ?_, fun kv hkv => ?_⟩
        · rw [List.length_map, lps]
          exact Nat.lt_of_lt_of_le (show j < 4000001 by omega) (by decide)
        · rw [upd_ne (ne_of_none hz nD)]
          exact s2 _ _ (s1 _ _ (s8 _ _ hz))
        · rw [upd_same]
          simp
        · refine Paired.snoc (paired_imp (fun q kv hq => tupk _ _ hq) hpr) ?_
          rw [upd_ne nTD, upd_same]
          rfl
        · rw [List.map_append, hke, List.range_succ, List.map_append]
          rfl
        · rcases List.mem_append.mp hkv with e | e
          · obtain ⟨v, e1, e2⟩ := hva kv e
            exact ⟨v, e1, tupk _ _ e2⟩
          · rw [List.mem_singleton.mp e]
            refine ⟨T1, rfl, ?_⟩
            rw [upd_ne nT1D]
            exact s2 _ _ upd_same
      · obtain ⟨s8, ps, kvl, hD8, hpr, hke, hva⟩ := p8
        refine ⟨D, ps, _, rfl, .inl (.inl hD8), paired_imp (fun q kv hq => .inl (.inl hq)) hpr, fun q nq => ?_⟩
        have s9 := same_upd (o := .dK (mergeK [] kvl)) nq
        have hd9 := s9 _ _ (s8 _ _ hd)
        have hkl : kvl.length = cn := by
          have := congrArg List.length hke
          simpa using this
        have hml : (mergeK [] kvl).length ≤ cn := by
          refine Nat.le_trans (length_mergeK _ _) ?_
          simp [hkl]
        have hsm : (kvs.length : Int) ≤ W := by
          have : ((bs.map (·.2)).take i).sum ≤ (bs.map (·.2)).sum := sum_sub (List.take_sublist ..) fun x hx => by
            obtain ⟨b, hb, e⟩ := List.mem_map.mp hx
            have := (st.ok b hb).2.1
            omega
          omega
        refine ⟨d, q, kvs, _, rfl, rfl, ne_of_none (s8 _ _ hd) nq, hd9, upd_same, ?_, ?_⟩
        · exact Nat.le_trans (show _ ≤ 4000001 by omega) (by decide)
        have keep : ∀ b z, b ≠ d → H2 b = some z → upd (upd H8 q (.dK (mergeK [] kvl))) d (.dK (mergeK kvs (mergeK [] kvl))) b = some z := fun b z k1 h => by
          rw [upd_ne k1]
          exact s9 _ _ (s8 _ _ h)
        have kvI : AllI kvl := fun kv hkv => by
          have : kv.1 ∈ kvl.map (·.1) := List.mem_map.mpr ⟨kv, hkv, rfl⟩
          rw [hke] at this
          obtain ⟨z, _, e⟩ := List.mem_map.mp this
          exact ⟨_, e.symm⟩
        have kvIn : ∀ kv ∈ kvl, ∀ j : Int, kv.1 = Sum.inl j → se ≤ j ∧ j < se + cn := fun kv hkv j ej => by
          have : kv.1 ∈ kvl.map (·.1) := List.mem_map.mpr ⟨kv, hkv, rfl⟩
          rw [hke] at this
          obtain ⟨z, hz, e⟩ := List.mem_map.mp this
          have hz2 := List.mem_range.mp hz
          rw [ej] at e
          injection e with e
          omega
        refine ⟨_, _, _, mergeK kvs (mergeK [] kvl), rfl, fun b z h => keep _ _ (ne_of_none h nd) (sm _ _ h), upd_same, hI.merge (AllI.merge (fun kv hkv => by cases hkv) kvI), fun j => ?_, fun j y hy => ?_, ?_⟩
        · rw [hasI_merge, Bool.or_eq_true, hk j, valV_any, ← hasI, hasI_merge, Bool.or_eq_true, etk]
          constructor
          · rintro (⟨b, hb, h1⟩ | h1)
            · exact ⟨b, List.mem_append_left _ hb, h1⟩
            · refine ⟨(se, cn), List.mem_append_right _ (List.mem_singleton.mpr rfl), ?_⟩
              rcases h1 with h1 | h1
              · exact absurd h1 (by unfold hasI; rw [valV_nil]; simp)
              · obtain ⟨kv, hkv, h2⟩ := List.any_eq_true.mp h1
                exact kvIn kv hkv j (of_decide_eq_true h2)
          · rintro ⟨b, hb, h1⟩
            rcases List.mem_append.mp hb with h2 | h2
            · exact .inl ⟨b, h2, h1⟩
            · right
              right
              rw [List.mem_singleton.mp h2] at h1
              have h1' : se ≤ j ∧ j < se + cn := h1
              have : (Sum.inl j : Key) ∈ kvl.map (·.1) := by
                rw [hke]
                refine List.mem_map.mpr ⟨(j - se).toNat, List.mem_range.mpr (by omega), ?_⟩
                rw [show se + (((j - se).toNat : Nat) : Int) = j by omega]
              obtain ⟨kv, hkv, e⟩ := List.mem_map.mp this
              exact List.any_eq_true.mpr ⟨kv, hkv, decide_eq_true e⟩
        · rw [etk]
          rcases merge_val _ _ _ _ hy with h1 | ⟨kv, hkv, e1, e2⟩
          · obtain ⟨b, hb, h2, h3, ⟨v, e4, e5⟩⟩ := hv j y h1
            exact ⟨b, List.mem_append_left _ hb, h2, h3, v, e4, keep _ _ (ne_of e5 hd (by intro z; cases z)) e5⟩
          · have hkv2 : kv ∈ kvl := (mem_merge hkv).resolve_left fun z => by cases z
            obtain ⟨h2, h3⟩ := kvIn kv hkv2 j e1
            obtain ⟨v, e5, e6⟩ := hva kv hkv2
            refine ⟨(se, cn), List.mem_append_right _ (List.mem_singleton.mpr rfl), h2, h3, v, by rw [← e2]; exact e5, ?_⟩
            have := s9 _ _ e6
            rw [upd_ne (ne_of e6 (s8 _ _ hd) (by intro z; cases z))]
            exact this
        · have e1 := sum_take (bs.map (·.2)) i cn (by rw [List.getElem?_map, hb]; rfl)
          rw [e1]
          have := length_mergeK (mergeK [] kvl) kvs
          omega
    · rintro σ H2 ⟨y2, y3, y4, kvs, rfl, sm, hd, hI, hk, hv, hlen⟩
      have e : bs.take xs.length = bs := List.take_of_length_le (by rw [bl.len]; exact Nat.le_refl _)
      have e2 : (bs.map (·.2)).take xs.length = bs.map (·.2) := List.take_of_length_le (by rw [List.length_map, bl.len]; exact Nat.le_refl _)
      rw [e] at hk hv
      rw [e2] at hlen
      exact ⟨.ref d, rfl, q _ d kvs sm nd hd hI hk hv (by omega)⟩
def iOf : V → Int
  | .int i => i
  | _ => 0
def spFull : Sp := fun vs H Q _ => ∃ (t : Addr) (C : List Int) (W s : Int) (bs : List Bk), vs = [.ref t, .int s] ∧ StAt H t bs ∧ St C W bs ∧ 0 ≤ W ∧ W ≤ 4000 ∧ 0 < s ∧ s ≤ 2000 ∧
  ∀ H' l (ns : List Int), Same H H' → H' l = some (.lst (ns.map V.int)) → ns.Pairwise (· < ·) → (∀ k, k ∈ ns ↔ chk0 s bs k) → Q (.ref l) H'
theorem ok_full {f fO : Addr} {fd fdO : FuncData} {k : Nat} (F : Fun K "_law_full" "_law_full" sFull f fd) (N : Nm5 K mg) (FO : Fun K "_law_owners" "_law_owners" sOwn fO fdO) (bO : Binds K fdO ["_law_heaped"] []) (gO : mg "_law_owners" = some (.ref fO)) : FnOk P w K mg base CX0 (k + 1 + 1) f fd ["_law_heaped", "_law_words"] spFull := by
  have GO : FnOk P w K mg base CX0 (k + 1) fO fdO ["_law_heaped"] spOwn := ok_own FO N
  refine F.ok scFull (fun vs H Q E h => ?_) (fun cdv A outer s H vs Q E hr h => ?_)
  · obtain ⟨t, C, W, s, bs, rfl, _⟩ := h
    rfl
  · obtain ⟨t, C, W, sz, bs, rfl, ht, st, hW0, hW, s0, s1, q⟩ := h
    refine ⟨_, (pss_one (ps_ret (pe_callB (cr_sortedS2 rfl) (by rfl) N.sorted (by decide +kernel) (pa_cons (pe_callTy (cr_setI rfl) (by rfl) N.set (by decide +kernel) (pa_cons (pe_lc (own := [("_law_word", 2)]) (g := (gName 2)) (tt := tYes) (by rfl) scFull.nd (pi_keys (pe_frz (pe_call GO hr (by rfl) gO FO.kp bO .nil pass0 (pa_cons (pv 0) pa_nil)))) (blkOk_by (N := scFullN) (sc := defScope scFullS) (by decide +kernel)) (fun _ _ _ _ _ => (pg_name (i := 2) scFull.nd rfl (.inl rfl))) (fun _ _ _ _ _ => pts_nil) (fun _ _ _ _ _ => (pe_op op_mul (pe_op op_fdiv (pv 2) (pv 1)) (pv 1)))) pa_nil)) pa_nil)))), ?_⟩
    refine ⟨.ref t, rfl, t, C, W, bs, rfl, ht, st, hW0, hW, fun H1 d kvs sm nd hd hI hk hv hlen => ⟨d, _, rfl, hd, trivial, fun od => ?_⟩⟩
    refine ⟨d, od, rfl, .inl ⟨kvs, upd_same, fun D nD => ?_⟩⟩
    have keys : ∀ x ∈ kvs.map (fun kv => kV kv.1), ∃ i : Int, x = .int i ∧ hasI kvs i = true := fun x hx => by
      obtain ⟨kv, hkv, e⟩ := List.mem_map.mp hx
      obtain ⟨i, hi⟩ := hI kv hkv
      refine ⟨i, by rw [← e, hi]; rfl, ?_⟩
      unfold hasI
      rw [← valV_any]
      exact List.any_eq_true.mpr ⟨kv, hkv, decide_eq_true hi⟩
    refine lc_keysF (fun x => some (.int (iOf x / sz * sz))) upd_same nD (Nat.lt_of_le_of_lt (show kvs.length ≤ 4000 by omega) (by decide)) (fun x hx H2 sm2 Y N2 hY hN => ?_) (fun H2 sm2 hD => ?_)
    · obtain ⟨i, rfl, hi⟩ := keys x hx
      obtain ⟨b, hb, i1, i2⟩ := (hk i).mp hi
      obtain ⟨_, _, b0, _, bW⟩ := st.ok b hb
      have h1 : 0 ≤ i / sz := Int.ediv_nonneg (by omega) (by omega)
      have h2 : i / sz ≤ i := Int.ediv_le_self _ (by omega)
      refine ⟨rfl, .int i, rfl, .int sz, rfl, i, sz, rfl, rfl, ⟨s0, by omega⟩, .int sz, rfl, _, sz, rfl, rfl, .inl ⟨by omega, by omega⟩, ?_⟩
      exact hY _ rfl
    · have e : (kvs.map fun kv => kV kv.1).filterMap (fun x => some (V.int (iOf x / sz * sz))) = ((kvs.map fun kv => kV kv.1).map fun x => iOf x / sz * sz).map V.int := by
        rw [List.map_map]
        exact congrFun List.filterMap_eq_map' _
      rw [e] at hD
      refine ⟨D, _, rfl, .inl (.inl hD), ?_, fun a c na _ => ⟨a, _, c, rfl, upd_same, fun ns l hs hm nl => ?_⟩⟩
      · rw [List.length_map, List.length_map]
        exact Nat.lt_of_le_of_lt (show kvs.length + 1 ≤ 4001 by omega) (by decide)
      · have sA := same_upd (o := SetO w a (fun j => decide (j ∈ (kvs.map fun kv => kV kv.1).map fun x => iOf x / sz * sz)) c) na
        have sL := same_upd (o := .lst (ns.map V.int)) nl
        refine q _ l ns (fun b z h => ?_) upd_same hs fun k => ?_
        · refine sL _ _ (sA _ _ (sm2 _ _ ?_))
          rw [upd_ne (ne_of_none h nd)]
          exact sm _ _ h
        · rw [hm k, decide_eq_true_iff]
          constructor
          · intro h
            obtain ⟨x, hx, e⟩ := List.mem_map.mp h
            obtain ⟨i, rfl, hi⟩ := keys x hx
            obtain ⟨b, hb, i1, i2⟩ := (hk i).mp hi
            exact ⟨b, hb, i, i1, i2, e.symm⟩
          · rintro ⟨b, hb, i, i1, i2, rfl⟩
            have hi := (hk i).mpr ⟨b, hb, i1, i2⟩
            unfold hasI at hi
            rw [← valV_any] at hi
            obtain ⟨kv, hkv, e⟩ := List.any_eq_true.mp hi
            refine List.mem_map.mpr ⟨kV kv.1, List.mem_map.mpr ⟨kv, hkv, rfl⟩, ?_⟩
            rw [of_decide_eq_true e]
            rfl
end
end Ph

namespace Ph
open PySem PySem.Spec PyProof.Rows L2
abbrev sSR : Stmt := topS 19
abbrev scSRS : Stmt := sSR
abbrev scSRN : List Str := ["_law_links_here", "_law_heaped", "_law_words", "_law_found", "_law_small", "_law_larger", "_law_great", "_law_one", "_law_start", "_law_size"]
theorem scSR : FnScope ["_law_links_here", "_law_heaped", "_law_words", "_law_found", "_law_small", "_law_larger", "_law_great", "_law_one", "_law_start", "_law_size"] ["_law_links_here", "_law_heaped", "_law_words"] (defScope sSR) := ⟨rfl, rfl, rfl, by decide +kernel, rfl, by decide +kernel, by decide +kernel⟩
theorem inc_ext : ∀ {l m : List Int}, l.Pairwise (· < ·) → m.Pairwise (· < ·) → (∀ k, k ∈ l ↔ k ∈ m) → l = m
  | [], [], _, _, _ => rfl
  | [], y :: m, _, _, h => by have := (h y).mpr (List.mem_cons_self ..); cases this
  | x :: l, [], _, _, h => by have := (h x).mp (List.mem_cons_self ..); cases this
  | x :: l, y :: m, hl, hm, h => by
    obtain ⟨l1, l2⟩ := List.pairwise_cons.mp hl
    obtain ⟨m1, m2⟩ := List.pairwise_cons.mp hm
    have e : x = y := by
      have a := List.mem_cons.mp ((h x).mp (List.mem_cons_self ..))
      have b := List.mem_cons.mp ((h y).mpr (List.mem_cons_self ..))
      rcases a with a | a
      · exact a
      · rcases b with b | b
        · exact b.symm
        · have := m1 x a
          have := l1 y b
          omega
    subst e
    rw [inc_ext l2 m2 fun k => ?_]
    constructor
    · intro hk
      have := l1 k hk
      rcases List.mem_cons.mp ((h k).mp (List.mem_cons_of_mem _ hk)) with z | z
      · omega
      · exact z
    · intro hk
      have := m1 k hk
      rcases List.mem_cons.mp ((h k).mpr (List.mem_cons_of_mem _ hk)) with z | z
      · omega
      · exact z
theorem dpl_ints {K : PySem.W.Frag} {H : Hp} : ∀ ns : List Int, DpAll K H (ns.map V.int) (ns.map PyData.int)
  | [] => .nil
  | n :: r => .cons (.int n) (dpl_ints r)
theorem il_lay : ∀ ns : List Int, PyData.canLayAll0 (ns.map PyData.int) = true
  | [] => by simp [PyData.canLayAll0]
  | z :: zs => by simp [PyData.canLayAll0, PyData.canLay0, il_lay zs]
theorem il_depth : ∀ zs : List Int, PyData.depthAll (zs.map PyData.int) ≤ 1
  | [] => by simp [PyData.depthAll]
  | z :: zs => by
    have h1 := il_depth zs
    simp only [List.map_cons, PyData.depthAll, PyData.depth]
    omega
theorem il_shaped (zs : List Int) : SeqAt.shaped (.list (zs.map PyData.int)) = true := by
  have h1 := il_depth zs
  have h2 : PyData.depth (.list (zs.map PyData.int)) ≤ 64 := by simp only [PyData.depth]; omega
  have h3 : PyData.canLay0 (.list (zs.map PyData.int)) = true := by simp only [PyData.canLay0]; exact il_lay zs
  show (PyData.canLay0 (.list (zs.map PyData.int)) && decide (PyData.depth (.list (zs.map PyData.int)) ≤ 64)) = true
  rw [h3, decide_eq_true h2]
  rfl
theorem il_eqv (zs : List Int) : PyData.eqv (.list (zs.map PyData.int)) (.list (zs.map PyData.int)) = true := by
  simp only [PyData.eqv]
  induction zs with
  | nil => simp [PyData.eqvAll]
  | cons z zs ih => simp [PyData.eqvAll, ih, PyData.eqv]
theorem BL.dp {K : PySem.W.Frag} {H : Hp} : ∀ {xs : List V} {bs : List Bk}, BL H xs bs → DpAll K H xs (bs.map bD)
  | _, _, .nil => .nil
  | _, _, .cons ⟨t, e1, e2⟩ r => by
    rw [List.map_cons]
    refine .cons ?_ (BL.dp r)
    rw [e1]
    exact .tup (.inl (.inl e2)) (.cons (.int _) (.cons (.int _) .nil))
theorem StAt.dp {K : PySem.W.Frag} {H : Hp} {t : Addr} {bs : List Bk} (h : StAt H t bs) : Dp K H (.ref t) (.tuple (bs.map bD)) := by
  obtain ⟨xs, e, bl⟩ := h
  exact .tup (.inl (.inl e)) bl.dp
theorem BkAt.dp {K : PySem.W.Frag} {H : Hp} {x : V} {b : Bk} (h : BkAt H x b) : Dp K H x (bD b) := by
  obtain ⟨t, rfl, e⟩ := h
  exact .tup (.inl (.inl e)) (.cons (.int _) (.cons (.int _) .nil))
theorem BL.filt {H : Hp} (p : Bk → Bool) : ∀ {xs : List V} {bs : List Bk}, BL H xs bs → BL H (xs.filter fun x => p (kH H x)) (bs.filter p)
  | _, _, .nil => .nil
  | _, _, .cons (a := x) (b := b) h r => by
    have ih := BL.filt p r
    have e := h.k
    by_cases c : p b = true
    · rw [List.filter_cons_of_pos (by rw [e]; exact c), List.filter_cons_of_pos c]
      exact .cons h ih
    · rw [List.filter_cons_of_neg (by rw [e]; exact c), List.filter_cons_of_neg c]
      exact ih
theorem fm_filter {α : Type} (p : α → Bool) (l : List α) : l.filterMap (fun x => if p x = true then some x else none) = l.filter p := by
  induction l with
  | nil => rfl
  | cons a r ih =>
    by_cases c : p a = true
    · rw [List.filter_cons_of_pos c, List.filterMap_cons_some (b := a) (by rw [if_pos c]), ih]
    · rw [List.filter_cons_of_neg c, List.filterMap_cons_none (by rw [if_neg c]), ih]
theorem Same.st {H H' : Hp} {t : Addr} {bs : List Bk} (s : Same H H') (h : StAt H t bs) : StAt H' t bs := h.same s
section
variable {P : Program} {w : World} {K : PySem.W.Frag} {mg : Str → Option Value} {base : Heap}
def spSR : Sp := fun vs H Q _ => ∃ (c t : Addr) (C : List Int) (W s : Int) (bs : List Bk), vs = [.ref c, .ref t, .int s] ∧ ChAt H c C ∧ Chn C ∧ (∀ z ∈ C, z ≤ 2000) ∧ C.length ≤ 100 ∧ s ∈ C ∧ StAt H t bs ∧ St C W bs ∧ 0 ≤ W ∧ W ≤ 4000 ∧ bs.length ≤ 1000 ∧ ∀ H', Same H H' → Q (.bl true) H'
theorem ok_sr {f fI fZ fC fK fV fO fF : Addr} {fd fdI fdZ fdC fdK fdV fdO fdF : FuncData} (F : Fun K "_law_size_right" "_law_size_right" sSR f fd) (N : Nm5 K mg)
    (FI : Fun K "is_integer" "is_integer" sIsInt fI fdI) (bI : Binds K fdI ["value"] []) (gI : mg "is_integer" = some (.ref fI))
    (FZ : Fun K "is_size" "is_size" sIsSize fZ fdZ) (bZ : Binds K fdZ ["chain", "value"] []) (gZ : mg "is_size" = some (.ref fZ))
    (FC : Fun K "class_of" "class_of" sClass fC fdC) (bC : Binds K fdC ["chain", "size"] []) (gC : mg "class_of" = some (.ref fC))
    (FV : Fun K "live_words" "live_words" sLive fV fdV) (bV : Binds K fdV ["state"] []) (gV : mg "live_words" = some (.ref fV))
    (FK : Fun K "keepers" "keepers" sKeep fK fdK) (bK : Binds K fdK ["chain", "state", "size"] []) (gK : mg "keepers" = some (.ref fK))
    (FO : Fun K "_law_owners" "_law_owners" sOwn fO fdO) (bO : Binds K fdO ["_law_heaped"] []) (gO : mg "_law_owners" = some (.ref fO))
    (FF : Fun K "_law_full" "_law_full" sFull fF fdF) (bF : Binds K fdF ["_law_heaped", "_law_words"] []) (gF : mg "_law_full" = some (.ref fF)) :
    FnOk P w K mg base CX0 5 f fd ["_law_links_here", "_law_heaped", "_law_words"] spSR := by
  have GK : FnOk P w K mg base CX0 4 fK fdK ["chain", "state", "size"] spKeep := ok_keep FK N FI bI gI FZ bZ gZ FC bC gC
  have GV : FnOk P w K mg base CX0 1 fV fdV ["state"] spLive := ok_live FV N
  have GF : FnOk P w K mg base CX0 2 fF fdF ["_law_heaped", "_law_words"] spFull := ok_full FF N FO bO gO
  refine F.ok scSR (fun vs H Q E h => ?_) (fun cdv A outer s H vs Q E hr4 h => ?_)
  · obtain ⟨c, t, C, W, s, bs, rfl, _⟩ := h
    rfl
  · obtain ⟨c, t, C, W, sz, bs, rfl, hc, hC, hC2, hCl, hs, ht, st, hW0, hW, hl, q⟩ := h
    have hr1 : Room 1 (A.deeper (envOfC "_law_size_right" (defScope sSR) s.heap.objs.size f cdv)) := hr4.mono (by decide)
    have hr2 : Room 2 (A.deeper (envOfC "_law_size_right" (defScope sSR) s.heap.objs.size f cdv)) := hr4.mono (by decide)
    have hu64 := hr4.units
    have hu65 : (A.deeper (envOfC "_law_size_right" (defScope sSR) s.heap.objs.size f cdv)).units + 65 < cLine := by have := hr4.un; omega
    have sp := hC.pos sz hs
    have s2 := hC2 sz hs
    have big : ∀ n : Nat, n ≤ 1000 → n < sizeLine := fun n hn => Nat.lt_of_le_of_lt hn (by decide)
    refine ⟨_, (pss_cons (ps_set (i := 3) scSR.nd rfl (.inl rfl) (pe_call GK hr4 (by rfl) gK FK.kp bK .nil pass0 (pa_cons (pv 0) (pa_cons (pv 1) (pa_cons (pv 2) pa_nil)))))
 (pss_cons (ps_if (pt_not (pt_val (pe_callB (cr_all rfl) (by rfl) N.all (by decide +kernel) (pa_cons (pe_lc (own := [("_law_one", 7)]) (g := (gName 7)) (tt := tYes) (te := tOp (rInT K) (tVar 7) (tVar 1)) (by rfl) scSR.nd (pi_tup (pv 3)) (blkOk_by (N := scSRN) (sc := defScope scSRS) (by decide +kernel)) (fun _ _ _ _ _ => (pg_name (i := 7) scSR.nd rfl (.inl rfl))) (fun _ _ _ _ _ => pts_nil) (fun _ _ _ _ _ => (pe_cmpR (op_inT hu65) (pv 7) (pv 1) (by rfl)))) pa_nil))))
 (pss_one (ps_ret pe_bl)) pss_nil)
 (pss_cons (ps_if (pt_cmpR (op_neD hu64) (pe_call GF hr2 (by rfl) gF FF.kp bF .nil pass0 (pa_cons (pv 3) (pa_cons (pv 2) pa_nil))) (pe_call GF hr2 (by rfl) gF FF.kp bF .nil pass0 (pa_cons (pv 1) (pa_cons (pv 2) pa_nil))) (nomark _))
 (pss_one (ps_ret pe_bl)) pss_nil)
 (pss_cons (ps_if (PW.pt (pw_or (pt_cmpR op_gt (pe_call GV hr1 (by rfl) gV FV.kp bV .nil pass0 (pa_cons (pv 3) pa_nil)) (pe_call GV hr1 (by rfl) gV FV.kp bV .nil pass0 (pa_cons (pv 1) pa_nil)) (nomark _)) (pw_or1 (pt_cmpR (op_neD hu64) (pe_call GK hr4 (by rfl) gK FK.kp bK .nil pass0 (pa_cons (pv 0) (pa_cons (pv 3) (pa_cons (pv 2) pa_nil)))) (pv 3) (nomark _)))))
 (pss_one (ps_ret pe_bl)) pss_nil)
 (pss_cons (ps_setLc (i := 4) (own := [("_law_one", 7)]) (g := (gName 7)) (tt := tTest (tOp (rI0 fun i j => .bl (decide (i ≤ j))) (tOp (rIxT K) (tVar 7) (tC (.int 1))) (tVar 2))) (by rfl) scSR.nd rfl rfl (sw_true rfl rfl rfl (by decide +kernel)) (pi_tup (pv 3)) (blkOk_by (N := scSRN) (sc := defScope scSRS) (by decide +kernel)) (fun _ _ _ _ _ => (pg_name (i := 7) scSR.nd rfl (.inl rfl))) (fun _ _ _ _ _ => (pts_one (pt_cmpR op_le (pe_ix ix_tup (pv 7) pe_int (fun _ _ => rfl)) (pv 2) (nomark _)))) (fun _ _ _ _ _ => (pv 7)))
 (pss_cons (ps_if (pt_cmpR op_ne (pe_callB cr_lenSet (by rfl) N.len (by decide +kernel) (pa_cons (pe_callTy (cr_setI rfl) (by rfl) N.set (by decide +kernel) (pa_cons (pe_lc (own := [("_law_start", 8), ("_law_size", 9)]) (g := (gTup K 2 (gCons (gName 8) (gCons (gName 9) gNil)))) (tt := tYes) (by rfl) scSR.nd (pi_list (pv 4)) (blkOk_by (N := scSRN) (sc := defScope scSRS) (by decide +kernel)) (fun _ _ _ _ _ => (pg_tup (by rfl) (pgs_cons (pg_name (i := 8) scSR.nd rfl (.inl rfl)) (pgs_cons (pg_name (i := 9) scSR.nd rfl (.inl rfl)) pgs_nil)))) (fun _ _ _ _ _ => pts_nil) (fun _ _ _ _ _ => (pe_op op_fdiv (pv 8) (pv 2)))) pa_nil)) pa_nil)) (pe_callB call_len_seq (by rfl) N.len (by decide +kernel) (pa_cons (pv 4) pa_nil)) (nomark _))
 (pss_one (ps_ret pe_bl)) pss_nil)
 (pss_cons (ps_for PassesOwn.never rfl (pi_list (pe_lc (own := [("_law_size", 9)]) (g := (gName 9)) (by rfl) scSR.nd (pi_tup (pv 0)) (blkOk_by (N := scSRN) (sc := defScope scSRS) (by decide +kernel)) (fun _ _ _ _ _ => (pg_name (i := 9) scSR.nd rfl (.inl rfl))) (fun _ _ _ _ _ => (pts_one (pt_cmpR op_ge (pv 9) (pv 2) (nomark _)))) (fun _ _ _ _ _ => (pv 9)))) (pg_name (i := 5) scSR.nd rfl (.inl rfl))
 (pss_one (ps_if (pt_cmpR (op_neD hu64) (pe_call GK hr4 (by rfl) gK FK.kp bK .nil pass0 (pa_cons (pv 0) (pa_cons (pv 3) (pa_cons (pv 5) pa_nil)))) (pe_call GK hr4 (by rfl) gK FK.kp bK .nil pass0 (pa_cons (pv 0) (pa_cons (pv 1) (pa_cons (pv 5) pa_nil)))) (nomark _))
 (pss_one (ps_ret pe_bl)) pss_nil)))
 (pss_cons (ps_set (i := 6) scSR.nd rfl (.inl rfl) (pe_callTy call_tuple_of (by rfl) N.tuple (by decide +kernel) (pa_cons (pe_lc (own := [("_law_one", 7)]) (g := (gName 7)) (tt := tTest (tOp (rI0 fun i j => .bl (decide (j ≤ i))) (tOp (rIxT K) (tVar 7) (tC (.int 1))) (tVar 2))) (by rfl) scSR.nd (pi_tup (pv 1)) (blkOk_by (N := scSRN) (sc := defScope scSRS) (by decide +kernel)) (fun _ _ _ _ _ => (pg_name (i := 7) scSR.nd rfl (.inl rfl))) (fun _ _ _ _ _ => (pts_one (pt_cmpR op_ge (pe_ix ix_tup (pv 7) pe_int (fun _ _ => rfl)) (pv 2) (nomark _)))) (fun _ _ _ _ _ => (pv 7))) pa_nil)))
 (pss_one (ps_ret (pe_cmpR (op_eqD hu64) (pe_call GK hr4 (by rfl) gK FK.kp bK .nil pass0 (pa_cons (pv 0) (pa_cons (pv 6) (pa_cons (pv 2) pa_nil)))) (pv 6) (nomark _)))))))))))), ?_⟩
    -- found
    refine ⟨.ref c, rfl, .ref t, rfl, .int sz, rfl, c, t, C, sz, bs, rfl, hc, hs, by omega, s2, ht, st.ascL, by omega, fun H1 u1 e1 k1 => ?_⟩
    have stk : St C W (kp sz bs) := st.sub (kp_sub _ _)
    have lk : (kp sz bs).length ≤ 1000 := Nat.le_trans (kp_sub _ _).length_le hl
    obtain ⟨xs1, hx1, bl1⟩ := id k1
    have ht1 := ht.same e1
    -- all(one in heaped)
    refine ⟨.ref u1, rfl, u1, rfl, ⟨_, .inl (.inl hx1)⟩, fun D nD => ?_⟩
    refine lc_tupF (xs := xs1) (fun _ => some (.bl true)) (.inl (.inl hx1)) nD (by rw [bl1.len]; exact big _ lk) (fun x hx H2 sm Y N2 hY hN => ?_) (fun H2 sm2 hD => ?_)
    · obtain ⟨b, hb⟩ := bl1.all x hx
      have hbm : b ∈ kp sz bs := by rw [← bl1.map]; exact List.mem_map.mpr ⟨x, hx, hb.k⟩
      have hb2 : BkAt H2 x b := let ⟨z, e, g⟩ := hb; ⟨z, e, sm _ _ g⟩
      refine ⟨rfl, x, rfl, .ref t, rfl, bD b, bs.map bD, hb2.dp, (ht1.same sm).dp, bD_shaped b, sD_shaped bs, ?_⟩
      refine hY _ ?_
      rw [bDs_any, decide_eq_true (mem_kp.mp hbm).1]
    have eA : xs1.filterMap (fun _ => some (V.bl true)) = (xs1.map fun _ => true).map V.bl := by
      rw [List.map_map]
      exact congrFun List.filterMap_eq_map' _
    rw [eA] at hD
    refine ⟨D, _, rfl, .inl (.inl hD), _, rfl, ?_⟩
    have eB : (xs1.map fun _ => true).all id = true := by
      rw [List.all_eq_true]
      intro z hz
      obtain ⟨_, _, e⟩ := List.mem_map.mp hz
      rw [← e]
      rfl
    rw [eB]
    refine iteF ?_
    have e2 : Same H H2 := e1.trans sm2
    have k2 := k1.same sm2
    have ht2 := ht.same e2
    -- full
    refine ⟨.ref u1, rfl, .int sz, rfl, u1, C, W, sz, _, rfl, k2, stk, hW0, hW, by omega, s2, fun H3 l3 n3 e3 hl3 p3 m3 => ?_⟩
    refine ⟨.ref t, rfl, .int sz, rfl, t, C, W, sz, _, rfl, ht2.same e3, st, hW0, hW, by omega, s2, fun H4 l4 n4 e4 hl4 p4 m4 => ?_⟩
    have en : n3 = n4 := inc_ext p3 p4 fun k => by rw [m3, m4]; exact kp_chk hC hs st k
    subst en
    refine ⟨.list (n3.map PyData.int), .list (n3.map PyData.int), .lst (.inl (.inl (e4 _ _ hl3))) (dpl_ints n3), .lst (.inl (.inl hl4)) (dpl_ints n3), il_shaped n3, il_shaped n3, _, rfl, ?_⟩
    rw [il_eqv]
    refine iteF ?_
    have e24 : Same H2 H4 := e3.trans e4
    have k4 := k2.same e24
    have ht4 := ht2.same e24
    -- live words
    refine ⟨.ref u1, rfl, u1, _, rfl, k4, by omega, fun H5 e5 => ?_⟩
    refine ⟨.ref t, rfl, t, _, rfl, ht4.same e5, by omega, fun H6 e6 => ?_⟩
    have hlv := kp_live (s := sz) st
    refine ⟨_, _, rfl, rfl, _, rfl, ?_⟩
    rw [decide_eq_false (by omega)]
    refine iteF ?_
    have e46 : Same H4 H6 := e5.trans e6
    have k6 := k4.same e46
    have ht6 := ht4.same e46
    have hc6 : ChAt H6 c C := hc.keep (e2.trans (e24.trans e46))
    -- keepers of keepers
    refine ⟨.ref c, rfl, .ref u1, rfl, .int sz, rfl, c, u1, C, sz, _, rfl, hc6, hs, by omega, s2, k6, stk.ascL, by omega, fun H7 u7 e7 k7 => ?_⟩
    rw [kp_kp hC hs hs (Int.le_refl _)] at k7
    have k67 := k6.same e7
    refine ⟨.ref u1, rfl, _, _, k7.dp, k67.dp, sD_shaped _, sD_shaped _, _, rfl, ?_⟩
    rw [sD_eqv_refl]
    refine iteF ?_
    have ht7 := ht6.same e7
    have hc7 : ChAt H7 c C := hc6.keep e7
    obtain ⟨xs7, hx7, bl7⟩ := id k67
    -- small
    have g1 : ∀ z : Bk, atI [V.int z.1, V.int z.2] 1 = some (.int z.2) := fun z => atI_nat (j := 1) rfl
    refine ⟨.ref u1, rfl, u1, rfl, ⟨_, .inl (.inl hx7)⟩, fun D7 nD7 => ?_⟩
    refine lc_tupF (xs := xs7) (fun x => if decide ((kH H7 x).2 ≤ sz) = true then some x else none) (.inl (.inl hx7)) nD7 (by rw [bl7.len]; exact big _ lk) (fun x hx H8 sm Y N2 hY hN => ?_) (fun H8 sm8 hD8 => ?_)
    · obtain ⟨b, hb⟩ := bl7.all x hx
      have ek := hb.k
      obtain ⟨v, rfl, hv⟩ := hb
      refine ⟨rfl, .ref v, rfl, v, _, 1, _, rfl, rfl, .inl (.inl (sm _ _ hv)), g1 b, .int sz, rfl, _, _, rfl, rfl, ?_⟩
      refine ⟨decide (b.2 ≤ sz), rfl, ite2 (fun cc => ⟨.ref v, rfl, ?_⟩) (fun cc => ?_)⟩
      · exact hY _ (by dsimp only; rw [ek]; exact if_pos cc)
      · exact hN (by dsimp only; rw [ek]; exact if_neg cc)
    rw [fm_filter (fun x => decide ((kH H7 x).2 ≤ sz))] at hD8
    have bl8 : BL H8 (xs7.filter fun x => decide ((kH H7 x).2 ≤ sz)) ((kp sz bs).filter fun b => decide (b.2 ≤ sz)) := (bl7.filt fun b => decide (b.2 ≤ sz)).mono fun a zs e => sm8 _ _ e
    have k8 := k67.same sm8
    have ht8 := ht7.same sm8
    have hc8 : ChAt H8 c C := hc7.keep sm8
    have l8 : ((kp sz bs).filter fun b => decide (b.2 ≤ sz)).length ≤ 1000 := Nat.le_trans (List.length_filter_le _ _) lk
    -- len(set(..)) != len(small)
    refine ⟨.ref D7, rfl, D7, rfl, ⟨_, .inl (.inl hD8)⟩, fun D8 nD8 => ?_⟩
    refine lc_listF (xs := xs7.filter fun x => decide ((kH H7 x).2 ≤ sz)) (fun x => some (.int ((kH H8 x).1 / sz))) (.inl (.inl hD8)) nD8 (by rw [bl8.len]; exact big _ l8) (fun x hx H9 sm Y N2 hY hN => ?_) (fun H9 sm9 hD9 => ?_)
    · obtain ⟨b, hb⟩ := bl8.all x hx
      have ek := hb.k
      obtain ⟨v, rfl, hv⟩ := hb
      refine ⟨v, _, rfl, .inl (.inl (sm _ _ hv)), rfl, _, _, rfl, _, _, rfl, rfl, rfl, .int b.1, rfl, .int sz, rfl, _, _, rfl, rfl, ⟨by omega, by omega⟩, ?_⟩
      exact hY _ (by dsimp only; rw [ek])
    have eC : (xs7.filter fun x => decide ((kH H7 x).2 ≤ sz)).filterMap (fun x => some (V.int ((kH H8 x).1 / sz))) = (((kp sz bs).filter fun b => decide (b.2 ≤ sz)).map fun b => b.1 / sz).map V.int := by
      conv => rhs; rw [← bl8.map]
      rw [List.map_map, List.map_map]
      exact congrFun List.filterMap_eq_map' _
    rw [eC] at hD9
    refine ⟨D8, _, rfl, .inl (.inl hD9), ?_, fun a cc na hcc => ?_⟩
    · rw [List.length_map]
      exact Nat.lt_of_le_of_lt (show _ ≤ 1001 by omega) (by decide)
    have hcc := hcc (kp_nodup st _)
    have sA := same_upd (o := SetO w a (fun j => decide (j ∈ ((kp sz bs).filter fun b => decide (b.2 ≤ sz)).map fun b => b.1 / sz)) cc) na
    refine ⟨a, _, cc, rfl, upd_same, .ref D7, rfl, D7, _, rfl, .inl (.inl (.inl (sA _ _ (sm9 _ _ hD8)))), ?_⟩
    have eD : ((cc : Nat) : Int) = (((xs7.filter fun x => decide ((kH H7 x).2 ≤ sz)).length : Nat) : Int) := by
      rw [hcc, bl8.len, List.length_map]
    refine ⟨rfl, _, rfl, iteNS (by rw [eD]) ?_⟩
    have e8 : Same H8 (upd H9 a (SetO w a (fun j => decide (j ∈ ((kp sz bs).filter fun b => decide (b.2 ≤ sz)).map fun b => b.1 / sz)) cc)) := Same.trans sm9 sA
    have k10 := k8.same e8
    have ht10 := ht8.same e8
    have hc10 := hc8.keep e8
    have e10 := e2.trans (e24.trans (e46.trans (e7.trans (Same.trans sm8 e8))))
    -- for larger in ..
    refine ⟨.ref c, rfl, c, rfl, ⟨_, hc10.sq⟩, fun D10 nD10 => ?_⟩
    refine lc_tupF (xs := C.map V.int) (fun x => if decide (sz ≤ iOf x) = true then some x else none) hc10.sq nD10 (by rw [List.length_map]; exact big _ (by omega)) (fun x hx H11 sm Y N2 hY hN => ?_) (fun H11 sm11 hD11 => ?_)
    · obtain ⟨z, hz, rfl⟩ := List.mem_map.mp hx
      refine ⟨rfl, .int z, rfl, .int sz, rfl, _, _, rfl, rfl, ?_⟩
      refine ⟨decide (sz ≤ z), rfl, ite2 (fun cc => ⟨.int z, rfl, ?_⟩) (fun cc => ?_)⟩
      · exact hY _ (if_pos cc)
      · exact hN (if_neg cc)
    rw [fm_filter (fun x => decide (sz ≤ iOf x))] at hD11
    refine ⟨D10, rfl, ⟨_, .inl (.inl hD11)⟩, ?_⟩
    refine for_list (K := K) (a := D10) (xs := (C.map V.int).filter fun x => decide (sz ≤ iOf x)) (fun _ σ H12 => ∃ y4 y5 y6 y7 y8 y9, σ = [some (.ref c), some (.ref t), some (.int sz), some (.ref u1), y4, y5, y6, y7, y8, y9] ∧ Same H11 H12)
      ⟨_, _, _, _, _, _, rfl, Same.refl _⟩ (fun i σ H12 _ p => ?_) ?_ ?_
    · obtain ⟨_, _, _, _, _, _, _, e12⟩ := p
      exact .inl (.inl (e12 _ _ hD11))
    · rintro i x σ H12 hx ⟨y4, y5, y6, y7, y8, y9, rfl, e12⟩
      obtain ⟨hxm, hxs⟩ := List.mem_filter.mp (List.mem_of_getElem? hx)
      obtain ⟨z, hz, rfl⟩ := List.mem_map.mp hxm
      have hzs : sz ≤ z := of_decide_eq_true hxs
      have zp := hC.pos z hz
      have z2 := hC2 z hz
      have k12 := (k10.same sm11).same e12
      have ht12 := (ht10.same sm11).same e12
      have hc12 : ChAt H12 c C := (hc10.keep sm11).keep e12
      refine ⟨.ref c, rfl, .ref u1, rfl, .int z, rfl, c, u1, C, z, _, rfl, hc12, hz, by omega, z2, k12, stk.ascL, by omega, fun H13 u13 e13 k13 => ?_⟩
      refine ⟨.ref c, rfl, .ref t, rfl, .int z, rfl, c, t, C, z, _, rfl, hc12.keep e13, hz, by omega, z2, ht12.same e13, st.ascL, by omega, fun H14 u14 e14 k14 => ?_⟩
      rw [kp_kp hC hs hz hzs] at k13
      refine ⟨_, _, (k13.same e14).dp, k14.dp, sD_shaped _, sD_shaped _, _, rfl, ?_⟩
      rw [sD_eqv_refl]
      refine iteF ?_
      exact ⟨_, _, _, _, _, _, rfl, e12.trans (e13.trans e14)⟩
    · rintro σ H12 ⟨y4, y5, y6, y7, y8, y9, rfl, e12⟩
      have ht12 := (ht10.same sm11).same e12
      have hc12 : ChAt H12 c C := (hc10.keep sm11).keep e12
      obtain ⟨xs12, hx12, bl12⟩ := id ht12
      refine ⟨.ref t, rfl, t, rfl, ⟨_, .inl (.inl hx12)⟩, fun D12 nD12 => ?_⟩
      refine lc_tupF (xs := xs12) (fun x => if decide (sz ≤ (kH H12 x).2) = true then some x else none) (.inl (.inl hx12)) nD12 (by rw [bl12.len]; exact big _ hl) (fun x hx H13 sm Y N2 hY hN => ?_) (fun H13 sm13 hD13 => ?_)
      · obtain ⟨b, hb⟩ := bl12.all x hx
        have ek := hb.k
        obtain ⟨v, rfl, hv⟩ := hb
        refine ⟨rfl, .ref v, rfl, v, _, 1, _, rfl, rfl, .inl (.inl (sm _ _ hv)), g1 b, .int sz, rfl, _, _, rfl, rfl, ?_⟩
        refine ⟨decide (sz ≤ b.2), rfl, ite2 (fun cc => ⟨.ref v, rfl, ?_⟩) (fun cc => ?_)⟩
        · exact hY _ (by dsimp only; rw [ek]; exact if_pos cc)
        · exact hN (by dsimp only; rw [ek]; exact if_neg cc)
      rw [fm_filter (fun x => decide (sz ≤ (kH H12 x).2))] at hD13
      have bl13 : BL H13 (xs12.filter fun x => decide (sz ≤ (kH H12 x).2)) (bs.filter fun b => decide (sz ≤ b.2)) := (bl12.filt fun b => decide (sz ≤ b.2)).mono fun a zs e => sm13 _ _ e
      have stg : St C W (bs.filter fun b => decide (sz ≤ b.2)) := st.sub List.filter_sublist
      have lg : (bs.filter fun b => decide (sz ≤ b.2)).length ≤ 1000 := Nat.le_trans (List.length_filter_le _ _) hl
      refine ⟨D12, _, rfl, .inl ⟨.inl (.inl hD13), fun u nu => ?_⟩⟩
      have sU := same_upd (o := .tup (xs12.filter fun x => decide (sz ≤ (kH H12 x).2))) nu
      have kg : StAt (upd H13 u (.tup (xs12.filter fun x => decide (sz ≤ (kH H12 x).2)))) u (bs.filter fun b => decide (sz ≤ b.2)) := ⟨_, upd_same, bl13.mono fun a zs e => sU _ _ e⟩
      have hc14 : ChAt (upd H13 u (.tup (xs12.filter fun x => decide (sz ≤ (kH H12 x).2)))) c C := (hc12.keep sm13).keep sU
      refine ⟨.ref c, rfl, .ref u, rfl, .int sz, rfl, c, u, C, sz, _, rfl, hc14, hs, by omega, s2, kg, stg.ascL, Nat.le_trans lg (by decide), fun H15 u15 e15 k15 => ?_⟩
      rw [kp_great hC hs stg (fun b hb => of_decide_eq_true (List.mem_filter.mp hb).2)] at k15
      refine ⟨.ref u, rfl, _, _, k15.dp, (kg.same e15).dp, sD_shaped _, sD_shaped _, ?_⟩
      rw [sD_eqv_refl]
      exact q _ (e10.trans (Same.trans sm11 (e12.trans (Same.trans sm13 (sU.trans e15)))))
end
end Ph

namespace Ph
open PySem PySem.Spec PyProof.Rows L2
abbrev sLaw : Stmt := topS 20
abbrev scLawS : Stmt := sLaw
abbrev scLawN : List Str := ["_law_script", "_law_k", "_law_pot_here", "_law_turn", "_law_links_here", "_law_many", "_law_heaped", "_law_words"]
theorem scLaw : FnScope ["_law_script", "_law_k", "_law_pot_here", "_law_turn", "_law_links_here", "_law_many", "_law_heaped", "_law_words"] ["_law_script"] (defScope sLaw) := ⟨rfl, rfl, rfl, by decide +kernel, rfl, by decide +kernel, by decide +kernel⟩
theorem same_but {p : Addr} {H H1 H2 : Hp} (a : Same H H1) (n : H p = none) (b : But p H1 H2) : Same H H2 := fun c o h => b c o (ne_of_none h n) (a c o h)
section
variable {P : Program} {w : World} {K : PySem.W.Frag} {mg : Str → Option Value} {base : Heap}
def spLaw (K : PySem.W.Frag) : Sp := fun vs H Q _ => ∃ (a : Addr) (ns : List Int), vs = [.ref a] ∧ SqL K H a (ns.map V.int) ∧ ns.length ≤ 63 ∧ ∀ H', Q (.bl true) H'
theorem ok_law {f fII fZ fC fV fK fP fT fO fL fOw fW fF fS : Addr} {fd fdII fdZ fdC fdV fdK fdP fdT fdO fdL fdOw fdW fdF fdS : FuncData} (FL0 : Fun K "law" "law" sLaw f fd) (N : Nm5 K mg)
    (FII : Fun K "is_integer" "is_integer" sIsInt fII fdII) (bII : Binds K fdII ["value"] []) (gII : mg "is_integer" = some (.ref fII))
    (FZ : Fun K "is_size" "is_size" sIsSize fZ fdZ) (bZ : Binds K fdZ ["chain", "value"] []) (gZ : mg "is_size" = some (.ref fZ))
    (FC : Fun K "class_of" "class_of" sClass fC fdC) (bC : Binds K fdC ["chain", "size"] []) (gC : mg "class_of" = some (.ref fC))
    (FV : Fun K "live_words" "live_words" sLive fV fdV) (bV : Binds K fdV ["state"] []) (gV : mg "live_words" = some (.ref fV))
    (FK : Fun K "keepers" "keepers" sKeep fK fdK) (bK : Binds K fdK ["chain", "state", "size"] []) (gK : mg "keepers" = some (.ref fK))
    (FP : Fun K "_law_pot" "_law_pot" sPot fP fdP) (bP : Binds K fdP ["_law_script", "_law_k"] []) (gP : mg "_law_pot" = some (.ref fP))
    (FT : Fun K "_law_take" "_law_take" sTake fT fdT) (bT : Binds K fdT ["_law_pot_here", "_law_upto"] []) (gT : mg "_law_take" = some (.ref fT))
    (FO : Fun K "_law_of" "_law_of" sOf fO fdO) (bO : Binds K fdO ["_law_pot_here", "_law_some"] []) (gO : mg "_law_of" = some (.ref fO))
    (FL : Fun K "_law_links" "_law_links" sLinks fL fdL) (bL : Binds K fdL ["_law_pot_here", "_law_most"] []) (gL : mg "_law_links" = some (.ref fL))
    (FOw : Fun K "_law_owners" "_law_owners" sOwn fOw fdOw) (bOw : Binds K fdOw ["_law_heaped"] []) (gOw : mg "_law_owners" = some (.ref fOw))
    (FW : Fun K "_law_drawn" "_law_drawn" sDrawn fW fdW) (bW : Binds K fdW ["_law_pot_here", "_law_links_here", "_law_many", "_law_tries"] []) (gW : mg "_law_drawn" = some (.ref fW))
    (FF : Fun K "_law_full" "_law_full" sFull fF fdF) (bF : Binds K fdF ["_law_heaped", "_law_words"] []) (gF : mg "_law_full" = some (.ref fF))
    (FS : Fun K "_law_size_right" "_law_size_right" sSR fS fdS) (bS : Binds K fdS ["_law_links_here", "_law_heaped", "_law_words"] []) (gS : mg "_law_size_right" = some (.ref fS)) :
    FnOk P w K mg base CX0 6 f fd ["_law_script"] (spLaw K) := by
  have GP : FnOk P w K mg base CX0 1 fP fdP ["_law_script", "_law_k"] (spPot K) := ok_pot FP N.len N.abs N.int N.dig
  have GT : FnOk P w K mg base CX0 1 fT fdT ["_law_pot_here", "_law_upto"] spTake := ok_take FT
  have GO : FnOk P w K mg base CX0 2 fO fdO ["_law_pot_here", "_law_some"] (spOf K) := ok_of FO FT bT gT N.len
  have GL : FnOk P w K mg base CX0 3 fL fdL ["_law_pot_here", "_law_most"] spLinks := ok_links FL FT bT gT FO bO gO N.len N.range N.tuple
  have GW : FnOk P w K mg base CX0 3 fW fdW ["_law_pot_here", "_law_links_here", "_law_many", "_law_tries"] spDrawn := ok_drawn FW N FT bT gT FO bO gO
  have GS : FnOk P w K mg base CX0 5 fS fdS ["_law_links_here", "_law_heaped", "_law_words"] spSR := ok_sr FS N FII bII gII FZ bZ gZ FC bC gC FV bV gV FK bK gK FOw bOw gOw FF bF gF
  refine FL0.ok scLaw (fun vs H Q E h => ?_) (fun cdv A outer s H vs Q E hr h => ?_)
  · obtain ⟨a, ns, rfl, _⟩ := h
    rfl
  · obtain ⟨a, ns, rfl, hS, hlen, q⟩ := h
    have hr1 : Room 1 (A.deeper (envOfC "law" (defScope sLaw) s.heap.objs.size f cdv)) := hr.mono (by decide)
    have hr2 : Room 2 (A.deeper (envOfC "law" (defScope sLaw) s.heap.objs.size f cdv)) := hr.mono (by decide)
    have hr3 : Room 3 (A.deeper (envOfC "law" (defScope sLaw) s.heap.objs.size f cdv)) := hr.mono (by decide)
    refine ⟨_, (pss_cons (ps_for PassesOwn.never rfl (pi_range1 (by rfl) N.range (pa_cons (pe_callB (call_max2 rfl) (by rfl) N.max (by decide +kernel) (pa_cons pe_int (pa_cons (pe_callB (call_min2 rfl) (by rfl) N.min (by decide +kernel) (pa_cons pe_int (pa_cons (pe_callB call_len_seq (by rfl) N.len (by decide +kernel) (pa_cons (pv 0) pa_nil)) pa_nil))) pa_nil))) pa_nil)) (pg_name (i := 1) scLaw.nd rfl (.inl rfl))
 (pss_cons (ps_set (i := 2) scLaw.nd rfl (.inl rfl) (pe_call GP hr1 (by rfl) gP FP.kp bP .nil pass0 (pa_cons (pv 0) (pa_cons (pv 1) pa_nil))))
 (pss_one (ps_for PassesOwn.never rfl (pi_range1 (by rfl) N.range (pa_cons pe_int pa_nil)) (pg_name (i := 3) scLaw.nd rfl (.inl rfl))
 (pss_cons (ps_asg (pe_tup (pa_cons (pe_call GL hr3 (by rfl) gL FL.kp bL .nil pass0 (pa_cons (pv 2) (pa_cons pe_int pa_nil))) (pa_cons (pe_op op_add pe_int (pe_call GT hr1 (by rfl) gT FT.kp bT .nil pass0 (pa_cons (pv 2) (pa_cons pe_int pa_nil)))) pa_nil))) (pg_tup (by rfl) (pgs_cons (pg_name (i := 4) scLaw.nd rfl (.inr rfl)) (pgs_cons (pg_name (i := 5) scLaw.nd rfl (.inl rfl)) pgs_nil))))
 (pss_cons (ps_set (i := 6) scLaw.nd rfl (.inr rfl) (pe_call GW hr3 (by rfl) gW FW.kp bW .nil pass0 (pa_cons (pv 2) (pa_cons (pv 4) (pa_cons (pv 5) (pa_cons (pe_call GO hr2 (by rfl) gO FO.kp bO .nil pass0 (pa_cons (pv 2) (pa_cons (pe_lst (pa_cons pe_int (pa_cons pe_int (pa_cons pe_int pa_nil)))) pa_nil))) pa_nil))))))
 (pss_one (ps_if (pt_not (pt_val (pe_callB (cr_all rfl) (by rfl) N.all (by decide +kernel) (pa_cons (pe_lc (own := [("_law_words", 7)]) (g := (gName 7)) (tt := tYes) (by rfl) scLaw.nd (pi_tup (pv 4)) (blkOk_by (N := scLawN) (sc := defScope scLawS) (by decide +kernel)) (fun _ _ _ _ _ => (pg_name (i := 7) scLaw.nd rfl (.inl rfl))) (fun _ _ _ _ _ => pts_nil) (fun _ _ _ _ _ => (pe_call GS hr (by rfl) gS FS.kp bS .nil pass0 (pa_cons (pv 4) (pa_cons (pv 6) (pa_cons (pv 7) pa_nil)))))) pa_nil))))
 (pss_one (ps_ret pe_bl)) pss_nil))))))))
 (pss_one (ps_ret pe_bl))), ?_⟩
    refine ⟨.ref a, rfl, a, _, rfl, .inl hS, _, _, rfl, _, _, rfl, ?_⟩
    generalize hz : (if (if (((ns.map V.int).length : Nat) : Int) < 3 then (((ns.map V.int).length : Nat) : Int) else 3) > 1 then (if (((ns.map V.int).length : Nat) : Int) < 3 then (((ns.map V.int).length : Nat) : Int) else 3) else 1) = z
    have hz0 : 1 ≤ z ∧ z ≤ 3 := by
      rw [← hz]
      split <;> (try split) <;> omega
    refine ⟨z, rfl, by omega, by omega, ?_⟩
    refine for_range (lo := 0) (n := z.toNat) (fun i σ H2 => ∃ y1 y2 y3 y4 y5 y6 y7, σ = [some (.ref a), y1, y2, y3, y4, y5, y6, y7] ∧ Same H H2) ⟨none, none, none, none, none, none, none, rfl, Same.refl _⟩ ?_ ?_
    · rintro i σ H2 hi ⟨y1, y2, y3, y4, y5, y6, y7, rfl, sm⟩
      refine ⟨.ref a, rfl, .int (0 + i), rfl, a, ns, i, ?_, sm.seq hS, by omega, fun H3 p s3 np hp => ?_⟩
      · rw [Int.zero_add]
        rfl
      have npH : H p = none := sm.free np
      refine ⟨3, rfl, by decide, by decide, ?_⟩
      refine for_range (lo := 0) (n := (3 : Int).toNat) (fun j σ H4 => ∃ y3 y4 y5 y6 y7, σ = [some (.ref a), some (.int (0 + i)), some (.ref p), y3, y4, y5, y6, y7] ∧ Same H H4 ∧ Pot H4 p) ⟨_, _, _, _, _, rfl, sm.trans s3, hp⟩ ?_ ?_
      · clear y3 y4 y5 y6 y7
        rintro j σ H4 hj ⟨y3, y4, y5, y6, y7, rfl, s4, hp4⟩
        refine ⟨.ref p, rfl, p, 96, rfl, hp4, by decide, by decide, fun H5 c cs x b5 hp5 nc hc hk hl => ?_⟩
        refine ⟨.ref p, rfl, p, 5, rfl, hp5, by decide, by decide, fun H6 m b6 hp6 m0 m1 => ⟨_, _, rfl, rfl, (by show 2 ≤ sizeLine; decide), fun v nv => ?_⟩⟩
        have sv := same_upd (o := .tup [.ref c, .int (1 + m)]) nv
        refine ⟨v, _, rfl, .inl (.inl upd_same), rfl, _, _, rfl, _, _, rfl, rfl, ?_⟩
        have hc6 := (hc.but b6 hp5).keep sv
        have hp7 := hp6.same sv
        have hL : x ≤ 96 := hk.le (by decide)
        obtain ⟨hCh, hCx⟩ := hk.chn
        obtain ⟨C, rfl⟩ := hk.last
        refine ⟨.ref p, rfl, .ref c, rfl, .int (1 + m), rfl, .ref p, rfl, (by show 3 ≤ sizeLine; decide), fun k1 j1 => ?_⟩
        have v1 := same_upd (o := .lst [.int 5, .int 30, .int 90]) j1
        refine ⟨p, k1, _, rfl, hp7.same v1, .inl (.inl upd_same), (hp7.ne_none j1).symm, List.cons_ne_nil _ _, by simp, fun G1 y d1 hq1 hy => ?_⟩
        obtain ⟨n, rfl, n0, n1⟩ : ∃ n : Int, y = .int n ∧ 0 ≤ n ∧ n ≤ 90 := by
          simp only [List.mem_cons, List.not_mem_nil, or_false] at hy
          rcases hy with h | h | h <;> exact ⟨_, h, by decide, by decide⟩
        have hcG := (hc6.keep v1).but d1 (hp7.same v1)
        have hl2 : C.length ≤ 20 := by simp at hl; omega
        refine ⟨p, c, C, x, 1 + m, n, rfl, hq1, hcG, fun z hz => ⟨(hCx z hz).1, (hCx z hz).2.1⟩, hl2, by omega, by omega, by omega, n0, by omega, fun G2 t bs d2 hq2 hst st hbl => ?_⟩
        have hcG2 := hcG.but d2 hq1
        have x1 : 1 ≤ x := (hCx x (by simp)).1
        have W0 : 0 ≤ (1 + m) * x := Int.mul_nonneg (by omega) (by omega)
        have W1 : (1 + m) * x ≤ 5 * 96 := Int.mul_le_mul (by omega) hL (by omega) (by decide)
        have sG2 : Same H G2 := same_but (same_but ((same_but (same_but s4 npH b5) npH b6).trans (sv.trans v1)) npH d1) npH d2
        -- all(..)
        refine ⟨.ref c, rfl, c, rfl, ⟨_, hcG2.sq⟩, fun D nD => ?_⟩
        refine lc_tup (K := K) (a := c) (xs := (C ++ [x]).map V.int) (fun i G => Same G2 G ∧ G D = some (.lst ((List.replicate i true).map V.bl))) ⟨same_upd nD, upd_same⟩ (fun i G _ pp => ?_) (fun i v G hv pp => ?_) (fun G pp => ?_)
        · exact (hcG2.keep pp.1).sq
        · obtain ⟨sG, hD⟩ := pp
          obtain ⟨sz, hsz, rfl⟩ := List.mem_map.mp (List.mem_of_getElem? hv)
          have hi : i < 21 := by
            have := (List.getElem?_eq_some_iff.mp hv).1
            simp at this
            omega
          refine ⟨rfl, .ref c, rfl, .ref t, rfl, .int sz, rfl, c, t, C ++ [x], (1 + m) * x, sz, bs, rfl, hcG2.keep sG, hCh, fun z hz => by have := (hCx z hz).2.1; omega, by simp; omega, hsz, hst.same sG, st, W0, by omega, by omega, fun G' sG' => ?_⟩
          refine ⟨_, sG' _ _ hD, ?_, fun b z hz => ?_, ?_⟩
          · rw [List.length_map, List.length_replicate]
            exact Nat.lt_trans hi (by decide)
          · rw [upd_ne (ne_of_none hz nD)]
            exact sG' _ _ (sG _ _ hz)
          · rw [upd_same, List.replicate_succ']
            simp
        · obtain ⟨sG, hD⟩ := pp
          refine ⟨D, _, rfl, .inl (.inl hD), _, rfl, ?_⟩
          have eB : (List.replicate ((C ++ [x]).map V.int).length true).all id = true := by
            rw [List.all_eq_true]
            intro z hz
            rw [(List.mem_replicate.mp hz).2]
            rfl
          rw [eB]
          refine iteF ?_
          exact ⟨_, _, _, _, _, rfl, sG2.trans sG, hq2.same sG⟩
      · rintro σ H4 ⟨y3, y4, y5, y6, y7, rfl, s4, hp4⟩
        exact ⟨_, _, _, _, _, _, _, rfl, s4⟩
    · rintro σ H2 ⟨y1, y2, y3, y4, y5, y6, y7, rfl, sm⟩
      exact q _
end
end Ph

namespace Ph
open PySem PySem.Spec PyProof.Rows L2
theorem all_mk {l : PySem.W.OpenLaw} {w : World} {K : PySem.W.Frag} {h : Heap} {mg : Str → Option Value} {fa : Addr} (X : K.In h) (G : h.Ns mainGlobals mg) (hfa : mg "law" = some (.ref fa))
    {f1 : Addr} {od1 an1 : Option Addr} {sl1 : Array (Option Value)} {oc1 kV1 dc1 pm1 cd1 ct1 : Value} (a1 : PySem.W.nsIn K mainGlobals "is_integer" = some (some (.ref f1))) (l1 : K.lookup f1 = some ⟨oc1, od1, .func (PySem.W.fnOf "is_integer" "is_integer" (defArgs sIsInt) (defBody sIsInt) (defScope sIsInt) .none kV1 dc1 pm1 an1 cd1 ct1), sl1⟩) (c1 : PySem.W.codeIn K cd1 "is_integer" = true) (k1 : PySem.W.keepIn K (.ref f1) = true)
    {f2 : Addr} {od2 an2 : Option Addr} {sl2 : Array (Option Value)} {oc2 kV2 dc2 pm2 cd2 ct2 : Value} (a2 : PySem.W.nsIn K mainGlobals "is_size" = some (some (.ref f2))) (l2 : K.lookup f2 = some ⟨oc2, od2, .func (PySem.W.fnOf "is_size" "is_size" (defArgs sIsSize) (defBody sIsSize) (defScope sIsSize) .none kV2 dc2 pm2 an2 cd2 ct2), sl2⟩) (c2 : PySem.W.codeIn K cd2 "is_size" = true) (k2 : PySem.W.keepIn K (.ref f2) = true)
    {f3 : Addr} {od3 an3 : Option Addr} {sl3 : Array (Option Value)} {oc3 kV3 dc3 pm3 cd3 ct3 : Value} (a3 : PySem.W.nsIn K mainGlobals "class_of" = some (some (.ref f3))) (l3 : K.lookup f3 = some ⟨oc3, od3, .func (PySem.W.fnOf "class_of" "class_of" (defArgs sClass) (defBody sClass) (defScope sClass) .none kV3 dc3 pm3 an3 cd3 ct3), sl3⟩) (c3 : PySem.W.codeIn K cd3 "class_of" = true) (k3 : PySem.W.keepIn K (.ref f3) = true)
    {f4 : Addr} {od4 an4 : Option Addr} {sl4 : Array (Option Value)} {oc4 kV4 dc4 pm4 cd4 ct4 : Value} (a4 : PySem.W.nsIn K mainGlobals "live_words" = some (some (.ref f4))) (l4 : K.lookup f4 = some ⟨oc4, od4, .func (PySem.W.fnOf "live_words" "live_words" (defArgs sLive) (defBody sLive) (defScope sLive) .none kV4 dc4 pm4 an4 cd4 ct4), sl4⟩) (c4 : PySem.W.codeIn K cd4 "live_words" = true) (k4 : PySem.W.keepIn K (.ref f4) = true)
    {f5 : Addr} {od5 an5 : Option Addr} {sl5 : Array (Option Value)} {oc5 kV5 dc5 pm5 cd5 ct5 : Value} (a5 : PySem.W.nsIn K mainGlobals "keepers" = some (some (.ref f5))) (l5 : K.lookup f5 = some ⟨oc5, od5, .func (PySem.W.fnOf "keepers" "keepers" (defArgs sKeep) (defBody sKeep) (defScope sKeep) .none kV5 dc5 pm5 an5 cd5 ct5), sl5⟩) (c5 : PySem.W.codeIn K cd5 "keepers" = true) (k5 : PySem.W.keepIn K (.ref f5) = true)
    {f6 : Addr} {od6 an6 : Option Addr} {sl6 : Array (Option Value)} {oc6 kV6 dc6 pm6 cd6 ct6 : Value} (a6 : PySem.W.nsIn K mainGlobals "_law_pot" = some (some (.ref f6))) (l6 : K.lookup f6 = some ⟨oc6, od6, .func (PySem.W.fnOf "_law_pot" "_law_pot" (defArgs sPot) (defBody sPot) (defScope sPot) .none kV6 dc6 pm6 an6 cd6 ct6), sl6⟩) (c6 : PySem.W.codeIn K cd6 "_law_pot" = true) (k6 : PySem.W.keepIn K (.ref f6) = true)
    {f7 : Addr} {od7 an7 : Option Addr} {sl7 : Array (Option Value)} {oc7 kV7 dc7 pm7 cd7 ct7 : Value} (a7 : PySem.W.nsIn K mainGlobals "_law_take" = some (some (.ref f7))) (l7 : K.lookup f7 = some ⟨oc7, od7, .func (PySem.W.fnOf "_law_take" "_law_take" (defArgs sTake) (defBody sTake) (defScope sTake) .none kV7 dc7 pm7 an7 cd7 ct7), sl7⟩) (c7 : PySem.W.codeIn K cd7 "_law_take" = true) (k7 : PySem.W.keepIn K (.ref f7) = true)
    {f8 : Addr} {od8 an8 : Option Addr} {sl8 : Array (Option Value)} {oc8 kV8 dc8 pm8 cd8 ct8 : Value} (a8 : PySem.W.nsIn K mainGlobals "_law_of" = some (some (.ref f8))) (l8 : K.lookup f8 = some ⟨oc8, od8, .func (PySem.W.fnOf "_law_of" "_law_of" (defArgs sOf) (defBody sOf) (defScope sOf) .none kV8 dc8 pm8 an8 cd8 ct8), sl8⟩) (c8 : PySem.W.codeIn K cd8 "_law_of" = true) (k8 : PySem.W.keepIn K (.ref f8) = true)
    {f9 : Addr} {od9 an9 : Option Addr} {sl9 : Array (Option Value)} {oc9 kV9 dc9 pm9 cd9 ct9 : Value} (a9 : PySem.W.nsIn K mainGlobals "_law_links" = some (some (.ref f9))) (l9 : K.lookup f9 = some ⟨oc9, od9, .func (PySem.W.fnOf "_law_links" "_law_links" (defArgs sLinks) (defBody sLinks) (defScope sLinks) .none kV9 dc9 pm9 an9 cd9 ct9), sl9⟩) (c9 : PySem.W.codeIn K cd9 "_law_links" = true) (k9 : PySem.W.keepIn K (.ref f9) = true)
    {f10 : Addr} {od10 an10 : Option Addr} {sl10 : Array (Option Value)} {oc10 kV10 dc10 pm10 cd10 ct10 : Value} (a10 : PySem.W.nsIn K mainGlobals "_law_owners" = some (some (.ref f10))) (l10 : K.lookup f10 = some ⟨oc10, od10, .func (PySem.W.fnOf "_law_owners" "_law_owners" (defArgs sOwn) (defBody sOwn) (defScope sOwn) .none kV10 dc10 pm10 an10 cd10 ct10), sl10⟩) (c10 : PySem.W.codeIn K cd10 "_law_owners" = true) (k10 : PySem.W.keepIn K (.ref f10) = true)
    {f11 : Addr} {od11 an11 : Option Addr} {sl11 : Array (Option Value)} {oc11 kV11 dc11 pm11 cd11 ct11 : Value} (a11 : PySem.W.nsIn K mainGlobals "_law_drawn" = some (some (.ref f11))) (l11 : K.lookup f11 = some ⟨oc11, od11, .func (PySem.W.fnOf "_law_drawn" "_law_drawn" (defArgs sDrawn) (defBody sDrawn) (defScope sDrawn) .none kV11 dc11 pm11 an11 cd11 ct11), sl11⟩) (c11 : PySem.W.codeIn K cd11 "_law_drawn" = true) (k11 : PySem.W.keepIn K (.ref f11) = true)
    {f12 : Addr} {od12 an12 : Option Addr} {sl12 : Array (Option Value)} {oc12 kV12 dc12 pm12 cd12 ct12 : Value} (a12 : PySem.W.nsIn K mainGlobals "_law_full" = some (some (.ref f12))) (l12 : K.lookup f12 = some ⟨oc12, od12, .func (PySem.W.fnOf "_law_full" "_law_full" (defArgs sFull) (defBody sFull) (defScope sFull) .none kV12 dc12 pm12 an12 cd12 ct12), sl12⟩) (c12 : PySem.W.codeIn K cd12 "_law_full" = true) (k12 : PySem.W.keepIn K (.ref f12) = true)
    {f13 : Addr} {od13 an13 : Option Addr} {sl13 : Array (Option Value)} {oc13 kV13 dc13 pm13 cd13 ct13 : Value} (a13 : PySem.W.nsIn K mainGlobals "_law_size_right" = some (some (.ref f13))) (l13 : K.lookup f13 = some ⟨oc13, od13, .func (PySem.W.fnOf "_law_size_right" "_law_size_right" (defArgs sSR) (defBody sSR) (defScope sSR) .none kV13 dc13 pm13 an13 cd13 ct13), sl13⟩) (c13 : PySem.W.codeIn K cd13 "_law_size_right" = true) (k13 : PySem.W.keepIn K (.ref f13) = true)
    {f14 : Addr} {od14 an14 : Option Addr} {sl14 : Array (Option Value)} {oc14 kV14 dc14 pm14 cd14 ct14 : Value} (a14 : PySem.W.nsIn K mainGlobals "law" = some (some (.ref f14))) (l14 : K.lookup f14 = some ⟨oc14, od14, .func (PySem.W.fnOf "law" "law" (defArgs sLaw) (defBody sLaw) (defScope sLaw) .none kV14 dc14 pm14 an14 cd14 ct14), sl14⟩) (c14 : PySem.W.codeIn K cd14 "law" = true) (k14 : PySem.W.keepIn K (.ref f14) = true)
    (z1 : PySem.W.nsIn K mainGlobals "len" = some none)
    (z2 : PySem.W.nsIn K mainGlobals "abs" = some none)
    (z3 : PySem.W.nsIn K mainGlobals "int" = some none)
    (z4 : PySem.W.nsIn K mainGlobals "range" = some none)
    (z5 : PySem.W.nsIn K mainGlobals "tuple" = some none)
    (z6 : PySem.W.nsIn K mainGlobals "max" = some none)
    (z7 : PySem.W.nsIn K mainGlobals "min" = some none)
    (z8 : PySem.W.nsIn K mainGlobals "repr" = some none)
    (z9 : PySem.W.nsIn K mainGlobals "isinstance" = some none)
    (z10 : PySem.W.nsIn K mainGlobals "bool" = some none)
    (z11 : PySem.W.nsIn K mainGlobals "all" = some none)
    (z12 : PySem.W.nsIn K mainGlobals "any" = some none)
    (z13 : PySem.W.nsIn K mainGlobals "list" = some none)
    (z14 : PySem.W.nsIn K mainGlobals "dict" = some none)
    (z15 : PySem.W.nsIn K mainGlobals "sorted" = some none)
    (z16 : PySem.W.nsIn K mainGlobals "set" = some none)
    (z17 : PySem.W.nsIn K mainGlobals "sum" = some none)
    (zd : PySem.W.nsIn K cStatics "sys.int_max_str_digits" = some none) :
    ∃ fd : FuncData, (∀ (s : Shared) (v : Value), BindsTo s fd ⟨[v], []⟩ [("_law_script", v)]) ∧ ∀ base : Heap, K.In base → base.Ns mainGlobals mg → FnOk l.prog w K mg base CX0 6 fa fd ["_law_script"] (spLaw K) := by
  have e := hfa.symm.trans (PySem.W.mg_of X G a14)
  cases e
  have FII := fun_mk (st := sIsInt) l1 c1 k1
  have bFII := FII.binds (ps := ["value"]) fun _ _ _ _ _ _ us hl => match us, hl with | [_], _ => rfl
  have FZ := fun_mk (st := sIsSize) l2 c2 k2
  have bFZ := FZ.binds (ps := ["chain", "value"]) fun _ _ _ _ _ _ us hl => match us, hl with | [_, _], _ => rfl
  have FC := fun_mk (st := sClass) l3 c3 k3
  have bFC := FC.binds (ps := ["chain", "size"]) fun _ _ _ _ _ _ us hl => match us, hl with | [_, _], _ => rfl
  have FV := fun_mk (st := sLive) l4 c4 k4
  have bFV := FV.binds (ps := ["state"]) fun _ _ _ _ _ _ us hl => match us, hl with | [_], _ => rfl
  have FK := fun_mk (st := sKeep) l5 c5 k5
  have bFK := FK.binds (ps := ["chain", "state", "size"]) fun _ _ _ _ _ _ us hl => match us, hl with | [_, _, _], _ => rfl
  have FP := fun_mk (st := sPot) l6 c6 k6
  have bFP := FP.binds (ps := ["_law_script", "_law_k"]) fun _ _ _ _ _ _ us hl => match us, hl with | [_, _], _ => rfl
  have FT := fun_mk (st := sTake) l7 c7 k7
  have bFT := FT.binds (ps := ["_law_pot_here", "_law_upto"]) fun _ _ _ _ _ _ us hl => match us, hl with | [_, _], _ => rfl
  have FO := fun_mk (st := sOf) l8 c8 k8
  have bFO := FO.binds (ps := ["_law_pot_here", "_law_some"]) fun _ _ _ _ _ _ us hl => match us, hl with | [_, _], _ => rfl
  have FL := fun_mk (st := sLinks) l9 c9 k9
  have bFL := FL.binds (ps := ["_law_pot_here", "_law_most"]) fun _ _ _ _ _ _ us hl => match us, hl with | [_, _], _ => rfl
  have FOw := fun_mk (st := sOwn) l10 c10 k10
  have bFOw := FOw.binds (ps := ["_law_heaped"]) fun _ _ _ _ _ _ us hl => match us, hl with | [_], _ => rfl
  have FW := fun_mk (st := sDrawn) l11 c11 k11
  have bFW := FW.binds (ps := ["_law_pot_here", "_law_links_here", "_law_many", "_law_tries"]) fun _ _ _ _ _ _ us hl => match us, hl with | [_, _, _, _], _ => rfl
  have FFu := fun_mk (st := sFull) l12 c12 k12
  have bFFu := FFu.binds (ps := ["_law_heaped", "_law_words"]) fun _ _ _ _ _ _ us hl => match us, hl with | [_, _], _ => rfl
  have FS := fun_mk (st := sSR) l13 c13 k13
  have bFS := FS.binds (ps := ["_law_links_here", "_law_heaped", "_law_words"]) fun _ _ _ _ _ _ us hl => match us, hl with | [_, _, _], _ => rfl
  have FF := fun_mk (st := sLaw) l14 c14 k14
  have N : Nm5 K mg := ⟨PySem.W.mg_none_of X G z1, PySem.W.mg_none_of X G z2, PySem.W.mg_none_of X G z3, PySem.W.mg_none_of X G z4, PySem.W.mg_none_of X G z5, PySem.W.mg_none_of X G z6, PySem.W.mg_none_of X G z7, PySem.W.mg_none_of X G z8, PySem.W.mg_none_of X G z9, PySem.W.mg_none_of X G z10, PySem.W.mg_none_of X G z11, PySem.W.mg_none_of X G z12, PySem.W.mg_none_of X G z13, PySem.W.mg_none_of X G z14, PySem.W.mg_none_of X G z15, PySem.W.mg_none_of X G z16, PySem.W.mg_none_of X G z17, zd⟩
  exact ⟨PySem.W.fnOf "law" "law" (defArgs sLaw) (defBody sLaw) (defScope sLaw) .none kV14 dc14 pm14 an14 cd14 ct14, fun s v => .of_eq rfl, fun base _ _ => ok_law FF N FII bFII (PySem.W.mg_of X G a1) FZ bFZ (PySem.W.mg_of X G a2) FC bFC (PySem.W.mg_of X G a3) FV bFV (PySem.W.mg_of X G a4) FK bFK (PySem.W.mg_of X G a5) FP bFP (PySem.W.mg_of X G a6) FT bFT (PySem.W.mg_of X G a7) FO bFO (PySem.W.mg_of X G a8) FL bFL (PySem.W.mg_of X G a9) FOw bFOw (PySem.W.mg_of X G a10) FW bFW (PySem.W.mg_of X G a11) FFu bFFu (PySem.W.mg_of X G a12) FS bFS (PySem.W.mg_of X G a13) ⟩
end Ph
open PySem PySem.W PyProof.Rows
set_option maxHeartbeats 0 in
theorem PySem.Challenge.cw_pinnedheap_k15_whole_keepers_fit_togethe_holds : PySem.Challenge.rw_pinnedheap_k15_whole_keepers_fit_togethe.Holds := by
  w_on; o_law; k_head; (case hw => w_witness2)
  k_fill
  refine L2.walk_of (l := PySem.Challenge.rw_pinnedheap_k15_whole_keepers_fit_togethe) (n := 63) (k := 6) (x := "_law_script") (CX := fun _ => L2.CX0) (sp := fun w => Ph.spLaw _) rfl (by decide) rfl ⟨rfl, by decide, by decide⟩ (fun w h Y => PySem.W.kIn_of Y) ?F (fun _ _ a ns hl _ hS => ⟨a, ns, rfl, hS, hl, fun _ => rfl⟩) (fun _ _ _ _ _ h => h)
  case F =>
    intro w mg fa h KX G hmg
    refine' Ph.all_mk KX G hmg ?a1 ?l1 ?c1 ?k1 ?a2 ?l2 ?c2 ?k2 ?a3 ?l3 ?c3 ?k3 ?a4 ?l4 ?c4 ?k4 ?a5 ?l5 ?c5 ?k5 ?a6 ?l6 ?c6 ?k6 ?a7 ?l7 ?c7 ?k7 ?a8 ?l8 ?c8 ?k8 ?a9 ?l9 ?c9 ?k9 ?a10 ?l10 ?c10 ?k10 ?a11 ?l11 ?c11 ?k11 ?a12 ?l12 ?c12 ?k12 ?a13 ?l13 ?c13 ?k13 ?a14 ?l14 ?c14 ?k14 ?z1 ?z2 ?z3 ?z4 ?z5 ?z6 ?z7 ?z8 ?z9 ?z10 ?z11 ?z12 ?z13 ?z14 ?z15 ?z16 ?z17 ?zd
    (case a1 => k_is); (case l1 => k_is); (case c1 => k_is); (case k1 => k_is); (case a2 => k_is); (case l2 => k_is); (case c2 => k_is); (case k2 => k_is); (case a3 => k_is); (case l3 => k_is); (case c3 => k_is); (case k3 => k_is); (case a4 => k_is); (case l4 => k_is); (case c4 => k_is); (case k4 => k_is); (case a5 => k_is); (case l5 => k_is); (case c5 => k_is); (case k5 => k_is); (case a6 => k_is); (case l6 => k_is); (case c6 => k_is); (case k6 => k_is); (case a7 => k_is); (case l7 => k_is); (case c7 => k_is); (case k7 => k_is); (case a8 => k_is); (case l8 => k_is); (case c8 => k_is); (case k8 => k_is); (case a9 => k_is); (case l9 => k_is); (case c9 => k_is); (case k9 => k_is); (case a10 => k_is); (case l10 => k_is); (case c10 => k_is); (case k10 => k_is); (case a11 => k_is); (case l11 => k_is); (case c11 => k_is); (case k11 => k_is); (case a12 => k_is); (case l12 => k_is); (case c12 => k_is); (case k12 => k_is); (case a13 => k_is); (case l13 => k_is); (case c13 => k_is); (case k13 => k_is); (case a14 => k_is); (case l14 => k_is); (case c14 => k_is); (case k14 => k_is); (case z1 => k_is); (case z2 => k_is); (case z3 => k_is); (case z4 => k_is); (case z5 => k_is); (case z6 => k_is); (case z7 => k_is); (case z8 => k_is); (case z9 => k_is); (case z10 => k_is); (case z11 => k_is); (case z12 => k_is); (case z13 => k_is); (case z14 => k_is); (case z15 => k_is); (case z16 => k_is); (case z17 => k_is); (case zd => k_is)
