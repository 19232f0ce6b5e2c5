import PyProof.Rows.All
import Wide.All
import OpenK.AllK
import Wide.FinOn
import HandS.ForMost
import HandS.ForExc
import HandS.Wide
import HandS.Zip
import HandS.TupAny
import HandS.RaiseMore
import HandS.IsInst
import KE.KIntText
import HandS.SortRule
import HandS.Style
import KE.KRevSl
import PySem.Challenge.RW_pinnedheap_k05_states_of_any_value
set_option Elab.async false
set_option linter.all false
set_option maxRecDepth 100000
namespace Ph
open PySem PySem.Spec PyProof.Rows L2 PySem.NumText PySem.Calls
/-! ### the limit on digits stands as it was at the beginning -/
theorem noDigits_of {K : PySem.W.Frag} {h : Heap} (X : K.In h) (L : h.NoLimit) (e : PySem.W.nsIn K cStatics "sys.int_max_str_digits" = some none) : h.NoDigits := by
  obtain ⟨mc, G, _⟩ := L
  refine ⟨mc, G, ?_⟩
  obtain ⟨o, es, ep, ho, hd, _, hf⟩ := G
  unfold PySem.W.nsIn at e
  split at e
  · rename_i c d es' n' sl q
    have := X _ _ q
    rw [ho] at this
    cases this
    cases hd
    split at e
    · cases e
    · rename_i he
      rw [← hf]
      unfold nsFind findBy
      rw [← Array.find?_toList, he]
      rfl
  · cases e
theorem wp_digits {M : Model} {A : Around} {E : Value → Shared → Prop} {s : Shared} {Q : Nat → Shared → Prop} (hn : s.heap.NoDigits) (h : Q 4300 s) : wpAny M A Builtin.intMaxStrDigits Q E s := by
  obtain ⟨mc, hns, hnone⟩ := hn
  unfold Builtin.intMaxStrDigits
  refine wpAny_bind (wpAny_nsGet hns ?_)
  rw [hnone]
  exact wpAny_pure h
/-! ### int(text) of more than 640 digits -/
theorem wp_textW {M : Model} {A : Around} {E : Value → Shared → Prop} {s : Shared} {Q : Value → Shared → Prop} {v : Value} {text : List Nat} {n : Int} (hn : s.heap.NoDigits)
    (hs : ¬ (text.takeWhile (· != 0)).length ≤ 640) (hr : (int_private% "readNumeral") 4300 10 (text.takeWhile (· != 0)) = (int_private% "Numeral.value") n)
    (ha : ((text.takeWhile (· != 0)).length == text.length) = true) (h : Q (.int n s.toks) { s with toks := s.toks + 1 }) :
    wpAny M A ((int_private% "intFromText") v text 10) Q E s := by
  show wpAny M A (if (text.takeWhile (· != 0)).length ≤ 640 then _ else (Builtin.intMaxStrDigits >>= _)) Q E s
  rw [if_neg hs]
  refine wpAny_bind (wp_digits hn ?_)
  dsimp only
  rw [hr]
  dsimp only
  rw [if_pos ha]
  exact wpAny_mkInt h
set_option maxHeartbeats 4000000 in
theorem meets_textW {x : PySem.Str} {u : Tok} {n : Int} (hs : ¬ (numSeenOf x).length ≤ 640) (hr : (int_private% "readNumeral") 4300 10 (numSeenOf x) = (int_private% "Numeral.value") n) (ha : ((numSeenOf x).length == (numTextOf x).length) = true) :
    Meets (Builtin.«int.__new__» ⟨[.type "int", .str x u], []⟩) (fun _ R s => s.heap.NoDigits ∧ R (.ok (.ret (.int n s.toks))) { s with toks := s.toks + 1 }) :=
  .of_wp fun prog w A R s h => by
    obtain ⟨hn, h⟩ := h
    obtain ⟨hp, g, d, tk, os⟩ := s
    have f1 := F.conv_sub_int
    have f2 := F.madeHere_int
    have f3 := PySem.W.KIN.str_int
    have f4 := PySem.W.KIN.str_idx
    have f5 := PySem.W.KIN.str_trunc
    have f6 : typeOf (.str x u) = pure (.type "str") := rfl
    have hk := PySem.W.KIN.Hid.mk (And.intro hs (And.intro hr ha))
    have hk2 := PySem.W.KIN.Hid.mk hn
    clear hs hr ha hn
    repeat (any_goals (first
      | assumption
      | ((with_reducible show wpAny _ _ ((int_private% "intFromText") _ _ _) _ _ _); refine wp_textW hk2.out hk.out.1 hk.out.2.1 hk.out.2.2 ?_)
      | wp_step))
    all_goals first | exact ⟨_, rfl, h⟩ | skip
def big9 : PySem.Str := (Str.ofString "1") ++ Txt.mul (Str.ofString "0") 900
theorem reps_list (c : Nat) : ∀ (k : Nat) (acc : Array Nat), ((List.replicate k (#[c] : Array Nat)).foldl (· ++ ·) acc).toList = acc.toList ++ List.replicate k c
  | 0, acc => by simp
  | k + 1, acc => by
    rw [List.replicate_succ, List.foldl_cons, reps_list c k, List.replicate_succ]
    simp
theorem zeros_list : (Txt.mul (Str.ofString "0") 900).cps.toList = List.replicate 900 48 := by
  have e : Txt.mul (Str.ofString "0") 900 = ⟨(List.replicate 900 (#[48] : Array Nat)).foldl (· ++ ·) #[]⟩ := by
    unfold Txt.mul
    rw [if_neg (by decide), if_neg (by decide +kernel)]
    rfl
  rw [e]
  exact reps_list 48 900 #[]
theorem big9_list : big9.cps.toList = 49 :: List.replicate 900 48 := by
  have e : big9.cps.toList = (Str.ofString "1").cps.toList ++ (Txt.mul (Str.ofString "0") 900).cps.toList := Array.toList_append
  rw [e, zeros_list]
  rfl
theorem big9_digits : AllDigits big9.cps.toList := by
  rw [big9_list]
  intro d hd
  rcases List.mem_cons.mp hd with e | e
  · subst e; decide
  · rw [(List.mem_replicate.mp e).2]; decide
theorem digits_zeros : ∀ (k a : Nat), (List.replicate k 48).foldl (fun acc c => acc * 10 + (c - 48)) a = a * 10 ^ k
  | 0, a => by simp
  | k + 1, a => by
    rw [List.replicate_succ, List.foldl_cons, digits_zeros k, Nat.pow_succ]
    show (a * 10 + 0) * 10 ^ k = a * (10 ^ k * 10)
    rw [Nat.add_zero, Nat.mul_assoc, Nat.mul_comm 10 (10 ^ k)]
theorem big9_val : digitsVal big9.cps.toList = 10 ^ 900 := by
  rw [big9_list]
  unfold digitsVal
  rw [List.foldl_cons, digits_zeros]
  show (0 * 10 + 1) * 10 ^ 900 = 10 ^ 900
  rw [Nat.zero_mul, Nat.zero_add, Nat.one_mul]
theorem big9_length : big9.length = 901 := by
  have e : big9.cps.toList.length = big9.length := Array.length_toList
  rw [← e, big9_list, List.length_cons, List.length_replicate]
theorem ten_ex : ∃ t : Int, intText? big9 = some t ∧ 0 < t ∧ t.natAbs < 2 ^ 3000 := by
  refine ⟨_, intText_digits big9_digits (by rw [big9_list]; exact List.cons_ne_nil _ _) (by rw [big9_length]; decide), ?_, ?_⟩
  · rw [big9_val]
    exact Int.natCast_pos.mpr (Nat.pow_pos (by decide))
  · rw [big9_val, Int.natAbs_natCast]
    decide +kernel
noncomputable def ten9 : Int := Classical.choose ten_ex
theorem big9_int : intText? big9 = some ten9 := (Classical.choose_spec ten_ex).1
theorem ten9_pos : 0 < ten9 := (Classical.choose_spec ten_ex).2.1
theorem ten9_lt : ten9.natAbs < 2 ^ 3000 := (Classical.choose_spec ten_ex).2.2
theorem big9_text : numTextOf big9 = big9.cps.toList ∧ numSeenOf big9 = big9.cps.toList := numText_signs fun c hc => Or.inr (big9_digits c hc)
theorem big9_seen : ¬ (numSeenOf big9).length ≤ 640 := by
  rw [big9_text.2, big9_list, List.length_cons, List.length_replicate]
  decide
theorem big9_all : ((numSeenOf big9).length == (numTextOf big9).length) = true := by
  rw [big9_text.1, big9_text.2]
  exact beq_self_eq_true _
theorem big9_read : (int_private% "readNumeral") 4300 10 (numSeenOf big9) = (int_private% "Numeral.value") ten9 := by
  rcases read4300 big9 (by rw [big9_length]; decide) with ⟨n, h1, h2, h3⟩ | ⟨h1, _⟩
  · rw [Option.some.inj (big9_int.symm.trans h1)]
    exact h3
  · rw [big9_int] at h1
    cases h1
theorem zeros_length : (Txt.mul (Str.ofString "0") 900).length = 900 := by
  have e : (Txt.mul (Str.ofString "0") 900).cps.toList.length = (Txt.mul (Str.ofString "0") 900).length := Array.length_toList
  rw [← e, zeros_list, List.length_replicate]
theorem big9_len : (Str.ofString "1").length + (Txt.mul (Str.ofString "0") 900).length ≤ sizeLine := by
  rw [zeros_length]
  decide +kernel
theorem zeros_ok : MulOk (Str.ofString "0") 900 := ⟨by decide, fun _ _ => by decide +kernel, fun _ _ => by decide +kernel⟩
section
variable {X : Cx}
theorem Inv.noDigits {pins : List (Addr × Obj)} {σ : List (Option V)} {H : Hp} {s : Shared} (I : Inv X pins σ H s) (e : PySem.W.nsIn X.K cStatics "sys.int_max_str_digits" = some none) : s.heap.NoDigits :=
  (noDigits_of I.ok.mod.kin I.ok.mod.nolimit e).keeps I.bk
theorem call_big9 (e : PySem.W.nsIn X.K cStatics "sys.int_max_str_digits" = some none) : CallR X (.type "int") (fun xs H Q => xs = [.str big9] ∧ Q (.int ten9) H) := by
  intro pins s σ H xs us Q I r h
  obtain ⟨rfl, q⟩ := h
  obtain ⟨u, rfl, t, rfl⟩ := vals1 r
  exact call_int_1 (meets_textW big9_seen big9_read big9_all) ⟨Inv.noDigits I e, ⟨typeIs_int _ _ _, ⟨.int ten9, H, I.tok _, ⟨_, rfl⟩, q⟩⟩⟩
/-- text * number -/
theorem op_repS : OpR X (binaryOp .Mult) (fun x y H Q => ∃ z k, x = .str z ∧ y = .int k ∧ MulOk z k ∧ Q (.str (Txt.mul z k)) H) := by
  intro pins s σ H x y v u Q I rx ry h
  obtain ⟨i, j, rfl, rfl, hz, q⟩ := h
  obtain ⟨t, rfl⟩ := rx
  obtain ⟨t', rfl⟩ := ry
  exact SB.mul hz (fun t' k => ⟨.str _, H, I.tok _, ⟨_, rfl⟩, q⟩)
theorem iop_mulW : OpR X (inplaceOp .Mult) (rI CMulW fun i j => .int (i * j)) := opI fun _ _ _ _ _ _ _ hc q => imul_int q hc.ok
theorem ip_mulW : PIp X .Mult (fun x y H Q => ∃ i j, x = .int i ∧ y = .int j ∧ CMulW i j ∧ Q (.int (i * j)) H) := by
  intro pins s σ H x y v u Q I r1 r2 h
  obtain ⟨i, j, e1, e2, hc, q⟩ := h
  subst e1; subst e2
  obtain ⟨t, rfl⟩ := r1
  obtain ⟨t', rfl⟩ := r2
  exact imul_int ⟨.int _, H, I.tok _, ⟨_, rfl⟩, q⟩ hc.ok
theorem repr_wide {prog : Program} {w : World} {A : Around} {E : Value → Shared → Prop} {s : Shared} {a : Int} {t : Tok} {Q : Value → Shared → Prop} (hn : s.heap.NoDigits) (hlt : a.natAbs < 10 ^ 4300) (h : Q (.str (toString a) s.toks) { s with toks := s.toks + 1 }) :
    wpAny (model prog w) A (call (.builtin "repr") [.int a t]) Q E s := by
  refine Calls.call_function_entry F.kind_repr F.plain_repr F.entry_repr (F.args_repr1 _) ?_
  unfold Builtin.«repr»
  refine wpAny_bind (m := oneArg "repr" _) (wpAny_pure ?_)
  have hv : [Value.int a t].any Value.onHeap = false := rfl
  simp only [cRoomFor, hv, Bool.false_eq_true, if_false, pure_bind]
  refine wpAny_bind (wpAny_specialOf (name := Str.ofString "__repr__") (typeIs_int s a t) F.slot_int_repr.lookup ?_)
  refine wpAny_bind (m := callSpecialIfBound? (.int a t) (Str.ofString "__repr__")) (wpAny_callSpecialIfBound?_slot (name := Str.ofString "__repr__") (typeIs_int s a t) F.slot_int_repr ?_)
  refine wpAny_call_entry F.slot_int_repr (typeIs_int s a t) F.entry_int_repr ?_ (F.args_int_repr_1 _)
  unfold Builtin.«int.__repr__»
  show wpAny _ _ (do let r ← Builtin.overDigitLimit? a; _) _ _ s
  refine wpAny_bind (overDigitLimit_any hn (fun hlt => ?_) (fun hge => absurd hlt (Nat.not_lt.mpr hge)))
  refine wpAny_bind (wpAny_mkStr (wpAny_pure ⟨_, rfl, ?_⟩) (int_text_fits10 hlt))
  refine wpAny_bind (wpAny_isInstance (T := "str") (b := true) rfl isSubtype_str_str ?_)
  exact wpAny_pure ⟨_, rfl, h⟩
theorem call_reprW (e : PySem.W.nsIn X.K cStatics "sys.int_max_str_digits" = some none) : CallR X (.builtin "repr") (fun xs H Q => ∃ i, xs = [.int i] ∧ i.natAbs < 10 ^ 4300 ∧ Q (.str (toString i)) H) := by
  intro pins s σ H xs us Q I r h
  obtain ⟨i, rfl, hz, q⟩ := h
  obtain ⟨u, rfl, t, rfl⟩ := vals1 r
  exact repr_wide (Inv.noDigits I e) hz ⟨.str _, H, I.tok _, ⟨_, rfl⟩, q⟩
end
end Ph

namespace Ph
open PySem PySem.Spec PyProof.Rows L2
def topS (i : Nat) : Stmt := PySem.Challenge.pw_pinnedheap_k05_states_of_any_value.main.body.getD i (.Pass ⟨0, 0, 0, 0⟩)
abbrev sPot : Stmt := topS 8
abbrev sTake : Stmt := topS 9
abbrev sOf : Stmt := topS 10
abbrev sLinks : Stmt := topS 11
theorem scPot : FnScope ["_law_script", "_law_k", "_law_cell", "_law_great"] ["_law_script", "_law_k"] (defScope sPot) := ⟨rfl, rfl, rfl, by decide +kernel, rfl, by decide +kernel, by decide +kernel⟩
theorem scTake : FnScope ["_law_pot_here", "_law_upto", "_law_digit"] ["_law_pot_here", "_law_upto"] (defScope sTake) := ⟨rfl, rfl, rfl, by decide +kernel, rfl, by decide +kernel, by decide +kernel⟩
theorem scOf : FnScope ["_law_pot_here", "_law_some"] ["_law_pot_here", "_law_some"] (defScope sOf) := ⟨rfl, rfl, rfl, by decide +kernel, rfl, by decide +kernel, by decide +kernel⟩
/-! ### the pot -/
def But (p : Addr) (H H' : Hp) : Prop := ∀ b o, b ≠ p → H b = some o → H' b = some o
theorem But.refl (p : Addr) (H : Hp) : But p H H := fun _ _ _ h => h
theorem But.trans {p : Addr} {H H1 H2 : Hp} (a : But p H H1) (b : But p H1 H2) : But p H H2 := fun c o n h => b c o n (a c o n h)
theorem Same.but {p : Addr} {H H' : Hp} (a : Same H H') : But p H H' := fun b o _ h => a b o h
theorem same_upd {H : Hp} {p : Addr} {o : HO} (h : H p = none) : Same H (upd H p o) := fun b x e => by
  rw [upd_ne (ne_of_none e h)]
  exact e
theorem but_upd {H : Hp} {p : Addr} {o : HO} : But p H (upd H p o) := fun b x n e => by
  rw [upd_ne n]
  exact e
def mM : Int := 2305843009213693951
structure PotV (g r : Int) : Prop where
  g0 : 0 ≤ g
  g1 : g.natAbs < 2 ^ 3000
  r0 : 0 ≤ r
  r1 : r < 2305843009213693951
def Pot (H : Hp) (p : Addr) : Prop := ∃ g r : Int, H p = some (.lst [.int g, .int r]) ∧ PotV g r
theorem great_mod (x : Int) : 0 ≤ x % ten9 ∧ (x % ten9).natAbs < 2 ^ 3000 := by
  have p := ten9_pos
  have h0 : 0 ≤ x % ten9 := Int.emod_nonneg _ (by omega)
  exact ⟨h0, wide_le h0 (Int.le_of_lt (Int.emod_lt_of_pos _ p)) ten9_lt⟩
theorem great_mul (x : Int) (b : Bool) : CMulW (x % ten9) (if b = true then 1 else 0) :=
  wide_mul (b := 2) (great_mod x).2 (by cases b <;> decide) (by decide) (by decide) (by decide)
theorem great_pot (x : Int) (b : Bool) : 0 ≤ x % ten9 * (if b = true then 1 else 0) ∧ (x % ten9 * (if b = true then 1 else 0)).natAbs < 2 ^ 3000 := by
  cases b
  · rw [if_neg (by decide), Int.mul_zero]
    exact ⟨Int.le_refl _, Nat.pow_pos (by decide)⟩
  · rw [if_pos rfl, Int.mul_one]
    exact great_mod x
section
variable {P : Program} {w : World} {K : PySem.W.Frag} {mg : Str → Option Value} {base : Heap}
def spPot (K : PySem.W.Frag) : Sp := fun vs H Q _ => ∃ (a : Addr) (ns : List Int) (k : Nat), vs = [.ref a, .int k] ∧ SqL K H a (ns.map V.int) ∧ k ≤ 1000 ∧ ∀ H' p, Same H H' → H p = none → Pot H' p → Q (.ref p) H'
theorem ok_pot {f : Addr} {fd : FuncData} {k : Nat} (F : Fun K "_law_pot" "_law_pot" sPot f fd) (ml : mg "len" = none) (ma : mg "abs" = none) (mi : mg "int" = none) (nd : PySem.W.nsIn K cStatics "sys.int_max_str_digits" = some none) : FnOk P w K mg base CX0 (k + 1) f fd ["_law_script", "_law_k"] (spPot K) := by
  refine F.ok scPot (fun vs H Q E h => ?_) (fun cdv A outer s H vs Q E hr h => ?_)
  · obtain ⟨a, ns, k, rfl, _⟩ := h
    rfl
  · obtain ⟨a, ns, n, rfl, hS, hn, q⟩ := h
    refine ⟨_, pss_cons (ps_set (i := 2) scPot.nd rfl (.inl rfl) (pe_op op_add (pe_op op_mul pe_int (pv 1)) (pe_callB call_len_seq (by rfl) ml PySem.boot_len (pa_cons (pv 0) pa_nil))))
      (pss_cons (ps_if (pt_cmpR op_lt (pv 1) (pe_callB call_len_seq (by rfl) ml PySem.boot_len (pa_cons (pv 0) pa_nil)) (nomark _))
        (pss_one (ps_set (i := 2) scPot.nd rfl (.inl rfl) (pe_ix ix_list (pv 0) (pv 1) (fun _ _ => rfl)))) pss_nil)
      (pss_cons (ps_set (i := 3) scPot.nd rfl (.inl rfl) (pe_op op_mulW (pe_op op_mod (pe_callB call_abs (by rfl) ma (by decide +kernel) (pa_cons (pv 2) pa_nil)) (pe_callTy (call_big9 nd) (by rfl) mi (by decide +kernel) (pa_cons (pe_op op_add_str pe_str (pe_op op_repS pe_str pe_int)) pa_nil)))
          (pe_callTy call_int1 (by rfl) mi (by decide +kernel) (pa_cons (pe_cmpR op_ge (pe_callB call_abs (by rfl) ma (by decide +kernel) (pa_cons (pv 2) pa_nil)) (pe_op op_pow pe_int pe_int) (nomark _)) pa_nil))))
      (pss_one (ps_ret (pe_lst (pa_cons (pv 3) (pa_cons (pe_op op_mod (pe_op op_mul (pe_op op_add (pe_op op_add (pe_op op_mod (pv 2) pe_int) (pe_op op_mul (pe_op op_mul pe_int (pv 1)) (pv 1))) pe_int) pe_int) pe_int) pa_nil))))))), ?_⟩
    refine ⟨.int n, rfl, 3, n, rfl, rfl, .inl ⟨by decide, by decide⟩, .ref a, rfl, a, ns.map V.int, rfl, .inl hS, _, _, rfl, rfl, ?_⟩
    refine ⟨.int n, rfl, .ref a, rfl, a, ns.map V.int, rfl, .inl hS, _, _, rfl, rfl, _, rfl, ite2 (fun e => ?z1) (fun e => ?z2)⟩
    case z1 =>
      have e1 : (n : Int) < ((ns.map V.int).length : Nat) := of_decide_eq_true e
      have e2 : n < ns.length := by
        rw [List.length_map] at e1
        omega
      refine ⟨.ref a, rfl, .int n, rfl, a, ns.map V.int, n, .int ns[n], rfl, rfl, hS, atI_nat (j := n) (by rw [List.getElem?_map, List.getElem?_eq_getElem e2]; rfl), ?_⟩
      refine ⟨.int _, rfl, _, rfl, _, _, rfl, rfl, zeros_ok, _, _, rfl, rfl, big9_len, rfl, _, _, rfl, rfl, ten9_pos, .int _, rfl, _, rfl, _, _, rfl, rfl, ⟨by decide, by decide, by decide⟩, _, _, rfl, rfl, .inr ⟨_, rfl, _, _, rfl, rfl, great_mul _ _, ?_⟩⟩
      refine ⟨_, rfl, .int _, rfl, _, _, rfl, rfl, (by decide : (0 : Int) < 2305843009213693951), .int n, rfl, _, _, rfl, rfl, .inl ⟨by decide, by decide⟩, .int n, rfl, _, _, rfl, rfl, .inl ?_, _, _, rfl, rfl, _, _, rfl, rfl, _, _, rfl, rfl, .inr ⟨by decide, by decide⟩, _, _, rfl, rfl, (by decide : (0 : Int) < 2305843009213693951), (by show 2 ≤ sizeLine; decide), fun p np => ?_⟩
      · constructor <;> omega
      · exact q _ p (same_upd np) np ⟨_, _, upd_same, (great_pot _ _).1, (great_pot _ _).2, Int.emod_nonneg _ (by decide), Int.emod_lt_of_pos _ (by decide)⟩
    case z2 =>
      refine ⟨.int _, rfl, _, rfl, _, _, rfl, rfl, zeros_ok, _, _, rfl, rfl, big9_len, rfl, _, _, rfl, rfl, ten9_pos, .int _, rfl, _, rfl, _, _, rfl, rfl, ⟨by decide, by decide, by decide⟩, _, _, rfl, rfl, .inr ⟨_, rfl, _, _, rfl, rfl, great_mul _ _, ?_⟩⟩
      refine ⟨_, rfl, .int _, rfl, _, _, rfl, rfl, (by decide : (0 : Int) < 2305843009213693951), .int n, rfl, _, _, rfl, rfl, .inl ⟨by decide, by decide⟩, .int n, rfl, _, _, rfl, rfl, .inl ?_, _, _, rfl, rfl, _, _, rfl, rfl, _, _, rfl, rfl, .inr ⟨by decide, by decide⟩, _, _, rfl, rfl, (by decide : (0 : Int) < 2305843009213693951), (by show 2 ≤ sizeLine; decide), fun p np => ?_⟩
      · constructor <;> omega
      · exact q _ p (same_upd np) np ⟨_, _, upd_same, (great_pot _ _).1, (great_pot _ _).2, Int.emod_nonneg _ (by decide), Int.emod_lt_of_pos _ (by decide)⟩
end
end Ph

namespace Ph
open PySem PySem.Spec PyProof.Rows L2
theorem scLinks : FnScope ["_law_pot_here", "_law_most", "_law_found", "_law_turn", "_law_ratio"] ["_law_pot_here", "_law_most"] (defScope sLinks) := ⟨rfl, rfl, rfl, by decide +kernel, rfl, by decide +kernel, by decide +kernel⟩
theorem But.seq {K : PySem.W.Frag} {p a : Addr} {H H' : Hp} {xs : List V} (b : But p H H') (n : a ≠ p) (h : SqL K H a xs) : SqL K H' a xs := by
  rcases h with (h | ⟨o, h⟩) | h
  · exact .inl (.inl (b _ _ n h))
  · exact .inl (.inr ⟨o, b _ _ n h⟩)
  · exact .inr h
theorem But.none {p a : Addr} {H H' : Hp} (b : But p H H') (n : a ≠ p) (h : H' a = none) : H a = none := by
  cases q : H a with
  | none => rfl
  | some o => rw [b a o n q] at h; cases h
theorem Pot.same {H H' : Hp} {p : Addr} (P : Pot H p) (s : Same H H') : Pot H' p := by
  obtain ⟨g, r, h, v⟩ := P
  exact ⟨g, r, s _ _ h, v⟩
theorem Pot.ne_none {H : Hp} {p q : Addr} (P : Pot H p) (h : H q = none) : p ≠ q := by
  obtain ⟨g, r, e, v⟩ := P
  exact ne_of_none e h
inductive Lnk (m : Int) : List Int → Int → Prop
  | one : Lnk m [1] 1
  | step {ns : List Int} {x r : Int} : Lnk m ns x → 2 ≤ r → r ≤ 6 → x * r ≤ m → ns.length < 12 → Lnk m (ns ++ [x * r]) (x * r)
theorem Lnk.pos {m x : Int} {ns : List Int} (h : Lnk m ns x) : 1 ≤ x := by
  induction h with
  | one => decide
  | step h h1 h2 h3 h4 ih =>
    have := Int.mul_le_mul ih h1 (by decide) (by omega)
    omega
theorem Lnk.last {m x : Int} {ns : List Int} (h : Lnk m ns x) : ∃ r, ns = r ++ [x] := by
  cases h with
  | one => exact ⟨[], rfl⟩
  | step h h1 h2 h3 h4 => exact ⟨_, rfl⟩
theorem Lnk.le {m x : Int} {ns : List Int} (h : Lnk m ns x) (hm : 1 ≤ m) : x ≤ m := by
  cases h with
  | one => exact hm
  | step h h1 h2 h3 h4 => exact h3
theorem Lnk.len {m x : Int} {ns : List Int} (h : Lnk m ns x) : 1 ≤ ns.length ∧ ns.length ≤ 12 := by
  cases h with
  | one => decide
  | step h h1 h2 h3 h4 => rw [List.length_append]; exact ⟨by simp, by simp; omega⟩
section
variable {P : Program} {w : World} {K : PySem.W.Frag} {mg : Str → Option Value} {base : Heap}
def spTake : Sp := fun vs H Q _ => ∃ (p : Addr) (n : Int), vs = [.ref p, .int n] ∧ Pot H p ∧ 0 < n ∧ n < 4611686018427387904 ∧ ∀ H' d, But p H H' → Pot H' p → 0 ≤ d → d < n → Q (.int d) H'
theorem ok_take {f : Addr} {fd : FuncData} {k : Nat} (F : Fun K "_law_take" "_law_take" sTake f fd) : FnOk P w K mg base CX0 (k + 1) f fd ["_law_pot_here", "_law_upto"] spTake := by
  refine F.ok scTake (fun vs H Q E h => ?_) (fun cdv A outer s H vs Q E hr h => ?_)
  · obtain ⟨a, n, rfl, _⟩ := h
    rfl
  · obtain ⟨p, n, rfl, ⟨g, r, hp, hv⟩, hn0, hn1, q⟩ := h
    refine ⟨_, pss_cons (ps_if (pt_cmpR op_gt (pe_ix ix_list (pv 0) pe_int (fun _ _ => rfl)) pe_int (nomark _))
        (pss_cons (ps_set (i := 2) scTake.nd rfl (.inl rfl) (pe_op op_mod (pe_ix ix_list (pv 0) pe_int (fun _ _ => rfl)) (pv 1)))
        (pss_cons (ps_asg (pe_op op_fdivW (pe_ix ix_list (pv 0) pe_int (fun _ _ => rfl)) (pv 1)) (pg_sub (pv 0) pe_int set_list))
        (pss_one (ps_ret (pv 2))))) pss_nil)
      (pss_cons (ps_asg (pe_op op_mod (pe_op op_add (pe_op op_mul (pe_ix ix_list (pv 0) pe_int (fun _ _ => rfl)) pe_int) pe_int) pe_int) (pg_sub (pv 0) pe_int set_list))
      (pss_one (ps_ret (pe_op op_mod (pe_op op_fdiv (pe_op op_mod (pe_op op_mul (pe_op op_fdiv (pe_ix ix_list (pv 0) pe_int (fun _ _ => rfl)) pe_int) (pe_op op_add (pe_op op_mod (pe_ix ix_list (pv 0) pe_int (fun _ _ => rfl)) pe_int) pe_int)) pe_int) pe_int) (pv 1))))), ?_⟩
    have hL : SqL K H p [.int g, .int r] := .inl (.inl hp)
    refine ⟨.ref p, rfl, p, _, 0, .int g, rfl, rfl, hL, atI_nat (j := 0) rfl, g, 0, rfl, rfl, _, rfl, ite2 (fun e => ?_) (fun e => ?_)⟩
    · have e1 : (0 : Int) < g := of_decide_eq_true e
      refine ⟨.ref p, rfl, p, _, 0, .int g, rfl, rfl, hL, atI_nat (j := 0) rfl, .int n, rfl, g, n, rfl, rfl, hn0, ?_⟩
      refine ⟨.ref p, rfl, p, _, 0, .int g, rfl, rfl, hL, atI_nat (j := 0) rfl, .int n, rfl, g, n, rfl, rfl, wide_div (b := 62) hn0 ?_ (by decide) (by decide), .ref p, rfl, p, _, 0, 0, rfl, rfl, hp, rfl, _, rfl, ?_⟩
      · have : (2 : Nat) ^ 62 = 4611686018427387904 := by decide
        rw [this]
        omega
      · have d0 : 0 ≤ g / n := Int.ediv_nonneg hv.g0 (by omega)
        have d1 : g / n ≤ g := Int.ediv_le_self _ hv.g0
        refine q _ _ but_upd ⟨_, _, upd_same, d0, wide_le d0 d1 hv.g1, hv.r0, hv.r1⟩ (Int.emod_nonneg _ (by omega)) (Int.emod_lt_of_pos _ hn0)
    · refine ⟨.ref p, rfl, p, _, 1, .int r, rfl, rfl, hL, atI_nat (j := 1) rfl, r, _, rfl, rfl, .inl ⟨?_, ?_⟩, _, _, rfl, rfl, _, _, rfl, rfl, (by decide : (0 : Int) < 2305843009213693951), .ref p, rfl, p, _, 1, 1, rfl, rfl, hp, rfl, ?_⟩
      · have := hv.r0; omega
      · have := hv.r1; omega
      have r20 : 0 ≤ (r * 1181783497276652981 + 12345678910987) % 2305843009213693951 := Int.emod_nonneg _ (by decide)
      have r21 : (r * 1181783497276652981 + 12345678910987) % 2305843009213693951 < 2305843009213693951 := Int.emod_lt_of_pos _ (by decide)
      have hL2 : SqL K (upd H p (.lst [.int g, .int ((r * 1181783497276652981 + 12345678910987) % 2305843009213693951)])) p [.int g, .int ((r * 1181783497276652981 + 12345678910987) % 2305843009213693951)] := .inl (.inl upd_same)
      refine ⟨.ref p, rfl, p, _, 1, .int _, rfl, rfl, hL2, atI_nat (j := 1) rfl, _, _, rfl, rfl, ⟨by decide, by decide⟩, .ref p, rfl, p, _, 1, .int _, rfl, rfl, hL2, atI_nat (j := 1) rfl, _, _, rfl, rfl, (by decide : (0 : Int) < 65537), _, _, rfl, rfl, _, _, rfl, rfl, .inl ⟨?_, ?_⟩, _, _, rfl, rfl, (by decide : (0 : Int) < 2305843009213693921), _, _, rfl, rfl, ⟨by decide, by decide⟩, .int n, rfl, _, _, rfl, rfl, hn0, ?_⟩
      · generalize (r * 1181783497276652981 + 12345678910987) % 2305843009213693951 = r2 at *
        have : 0 ≤ r2 / 65537 := Int.ediv_nonneg r20 (by decide)
        omega
      · generalize (r * 1181783497276652981 + 12345678910987) % 2305843009213693951 = r2 at *
        have : r2 / 65537 ≤ r2 := Int.ediv_le_self _ r20
        omega
      · exact q _ _ but_upd ⟨_, _, upd_same, hv.g0, hv.g1, r20, r21⟩ (Int.emod_nonneg _ (by omega)) (Int.emod_lt_of_pos _ hn0)
def spOf (K : PySem.W.Frag) : Sp := fun vs H Q _ => ∃ (p l : Addr) (xs : List V), vs = [.ref p, .ref l] ∧ Pot H p ∧ SqL K H l xs ∧ l ≠ p ∧ xs ≠ [] ∧ xs.length ≤ 1000 ∧ ∀ H' x, But p H H' → Pot H' p → x ∈ xs → Q x H'
theorem ok_of {f fT : Addr} {fd fdT : FuncData} {k : Nat} (F : Fun K "_law_of" "_law_of" sOf f fd) (FT : Fun K "_law_take" "_law_take" sTake fT fdT) (bT : Binds K fdT ["_law_pot_here", "_law_upto"] []) (gT : mg "_law_take" = some (.ref fT)) (ml : mg "len" = none) : FnOk P w K mg base CX0 (k + 1 + 1) f fd ["_law_pot_here", "_law_some"] (spOf K) := by
  have GT : FnOk P w K mg base CX0 (k + 1) fT fdT ["_law_pot_here", "_law_upto"] spTake := ok_take FT
  refine F.ok scOf (fun vs H Q E h => ?_) (fun cdv A outer s H vs Q E hr h => ?_)
  · obtain ⟨a, n, xs, rfl, _⟩ := h
    rfl
  · obtain ⟨p, l, xs, rfl, hp, hl, hne, hx, hlen, q⟩ := h
    refine ⟨_, pss_one (ps_ret (pe_ix ix_list (pv 1) (pe_call GT hr (by rfl) gT FT.kp bT .nil pass0 (pa_cons (pv 0) (pa_cons (pe_callB call_len_seq (by rfl) ml PySem.boot_len (pa_cons (pv 1) pa_nil)) pa_nil))) (fun _ _ => rfl))), ?_⟩
    have hx0 : 0 < xs.length := List.length_pos_iff.mpr hx
    refine ⟨.ref l, rfl, .ref p, rfl, .ref l, rfl, l, xs, rfl, .inl hl, p, _, rfl, hp, ?_, ?_, fun H' d hb hp' d0 d1 => ?_⟩
    · omega
    · omega
    · obtain ⟨j, rfl⟩ : ∃ j : Nat, d = j := ⟨d.toNat, by omega⟩
      have hd : j < xs.length := by omega
      exact ⟨l, xs, j, xs[j], rfl, rfl, hb.seq hne hl, atI_nat (List.getElem?_eq_getElem hd), q _ _ hb hp' (List.getElem_mem hd)⟩
def spLinks : Sp := fun vs H Q _ => ∃ (p : Addr) (m : Int), vs = [.ref p, .int m] ∧ Pot H p ∧ 1 ≤ m ∧ m ≤ 1000000 ∧ ∀ H' t ns x, But p H H' → Pot H' p → H t = none → H' t = some (.tup (ns.map V.int)) → Lnk m ns x → ns.length ≤ 6 → Q (.ref t) H'
theorem ok_links {f fT fO : Addr} {fd fdT fdO : FuncData} {k : Nat} (F : Fun K "_law_links" "_law_links" sLinks f fd) (FT : Fun K "_law_take" "_law_take" sTake fT fdT) (bT : Binds K fdT ["_law_pot_here", "_law_upto"] []) (gT : mg "_law_take" = some (.ref fT))
    (FO : Fun K "_law_of" "_law_of" sOf fO fdO) (bO : Binds K fdO ["_law_pot_here", "_law_some"] []) (gO : mg "_law_of" = some (.ref fO)) (ml : mg "len" = none) (mr : mg "range" = none) (mt : mg "tuple" = none) : FnOk P w K mg base CX0 (k + 1 + 1 + 1) f fd ["_law_pot_here", "_law_most"] spLinks := by
  have GT : FnOk P w K mg base CX0 (k + 1) fT fdT ["_law_pot_here", "_law_upto"] spTake := ok_take FT
  have GO : FnOk P w K mg base CX0 (k + 1 + 1) fO fdO ["_law_pot_here", "_law_some"] (spOf K) := ok_of FO FT bT gT ml
  refine F.ok scLinks (fun vs H Q E h => ?_) (fun cdv A outer s H vs Q E hr h => ?_)
  · obtain ⟨a, n, rfl, _⟩ := h
    rfl
  · obtain ⟨p, m, rfl, hp, hm1, hm2, q⟩ := h
    have hr1 : Room (k + 1) (A.deeper (envOfC "_law_links" (defScope sLinks) s.heap.objs.size f cdv)) := hr.mono (by omega)
    refine ⟨_, pss_cons (ps_set (i := 2) scLinks.nd rfl (.inl rfl) (pe_lst (pa_cons pe_int pa_nil)))
      (pss_cons (ps_for PassesOwn.never rfl (pi_range1 (by rfl) mr (pa_cons (pe_call GT hr1 (by rfl) gT FT.kp bT .nil pass0 (pa_cons (pv 0) (pa_cons pe_int pa_nil))) pa_nil)) (pg_name (i := 3) scLinks.nd rfl (.inl rfl))
        (pss_cons (ps_set (i := 4) scLinks.nd rfl (.inl rfl) (pe_call GO hr (by rfl) gO FO.kp bO .nil pass0 (pa_cons (pv 0) (pa_cons (pe_lst (pa_cons pe_int (pa_cons pe_int (pa_cons pe_int (pa_cons pe_int (pa_cons pe_int (pa_cons (pe_op op_add pe_int (pe_call GT hr1 (by rfl) gT FT.kp bT .nil pass0 (pa_cons (pv 0) (pa_cons pe_int pa_nil)))) pa_nil))))))) pa_nil))))
        (pss_one (ps_if (PW.pt (pw_and (pt_cmpR op_le (pe_op op_mul (pe_ix ix_list (pv 2) (pe_un un_neg pe_int) (fun _ _ => rfl)) (pv 4)) (pv 1) (nomark _)) (pw_and1 (pt_cmpR op_lt (pe_callB call_len_seq (by rfl) ml PySem.boot_len (pa_cons (pv 2) pa_nil)) pe_int (nomark _)))))
          (pss_one (ps_expr (pe_bm PySem.F.plainAttrs_list PySem.F.slot_list_append PySem.F.type_list_append mt_append (pv 2) (pa_cons (pe_op op_mul (pe_ix ix_list (pv 2) (pe_un un_neg pe_int) (fun _ _ => rfl)) (pv 4)) pa_nil)))) pss_nil))))
      (pss_one (ps_ret (pe_callTy call_tuple_of (by rfl) mt (by decide +kernel) (pa_cons (pv 2) pa_nil))))), ?_⟩
    refine ⟨by decide, fun o no => ?_⟩
    have npo : p ≠ o := hp.ne_none no
    refine ⟨.ref p, rfl, p, 6, rfl, hp.same (same_upd no), by decide, by decide, fun H1 d hb1 hp1 d0 d1 => ?_⟩
    refine ⟨d, rfl, by omega, by omega, ?_⟩
    have ho1 : H1 o = some (.lst ([1].map V.int)) := hb1 _ _ npo.symm upd_same
    have hbase : ∀ b x, b ≠ p → b ≠ o → H b = some x → H1 b = some x := fun b x n1 n2 h => hb1 _ _ n1 (by rw [upd_ne n2]; exact h)
    refine for_range (lo := 0) (n := d.toNat) (fun i σ H2 => ∃ y3 y4 ns x, σ = [some (.ref p), some (.int m), some (.ref o), y3, y4] ∧ Pot H2 p ∧ (∀ b x, b ≠ p → b ≠ o → H b = some x → H2 b = some x) ∧ H2 o = some (.lst (ns.map V.int)) ∧ Lnk m ns x ∧ ns.length ≤ i + 1)
      ⟨none, none, [1], 1, rfl, hp1, hbase, ho1, .one, by simp⟩ ?_ ?_
    · rintro i σ H2 hi ⟨y3, y4, ns, x, rfl, hp2, hB, ho2, hk, hl⟩
      have no2 : o ≠ p := npo.symm
      refine ⟨.ref p, rfl, .ref p, rfl, p, 5, rfl, hp2, by decide, by decide, fun H3 e hb3 hp3 e0 e1 => ?_⟩
      refine ⟨_, _, rfl, rfl, (by show 6 ≤ sizeLine; decide), fun l nl => ?_⟩
      have nlp : l ≠ p := (hp3.ne_none nl).symm
      have ho3 : H3 o = some (.lst (ns.map V.int)) := hb3 _ _ no2 ho2
      have nlo : o ≠ l := ne_of_none ho3 nl
      refine ⟨p, l, _, rfl, hp3.same (same_upd nl), .inl (.inl upd_same), nlp, List.cons_ne_nil _ _, by simp, fun H4 v hb4 hp4 hv => ?_⟩
      have ho4 : H4 o = some (.lst (ns.map V.int)) := hb4 _ _ no2 (by rw [upd_ne nlo]; exact ho3)
      have hB4 : ∀ b x, b ≠ p → b ≠ o → H b = some x → H4 b = some x := fun b x n1 n2 h => by
        have h3 := hb3 _ _ n1 (hB b x n1 n2 h)
        exact hb4 _ _ n1 (by rw [upd_ne (ne_of_none h3 nl)]; exact h3)
      obtain ⟨r, rfl, hr2, hr6⟩ : ∃ r : Int, v = .int r ∧ 2 ≤ r ∧ r ≤ 6 := by
        simp only [List.mem_cons, List.not_mem_nil, or_false] at hv
        rcases hv with h | h | h | h | h | h
        · exact ⟨2, h, by decide, by decide⟩
        · exact ⟨2, h, by decide, by decide⟩
        · exact ⟨2, h, by decide, by decide⟩
        · exact ⟨3, h, by decide, by decide⟩
        · exact ⟨4, h, by decide, by decide⟩
        · exact ⟨2 + e, h, by omega, by omega⟩
      obtain ⟨ini, rfl⟩ := hk.last
      have hL4 : SqL K H4 o ((ini ++ [x]).map V.int) := .inl (.inl ho4)
      have gl : atI ((ini ++ [x]).map V.int) (-1) = some (.int x) := by
        rw [List.map_append]
        exact atI_last _ _
      have x1 := hk.pos
      have x2 := hk.le hm1
      have lx := hk.len
      refine ⟨.ref o, rfl, 1, rfl, o, _, -1, _, rfl, rfl, hL4, gl, .int r, rfl, x, r, rfl, rfl, .inl ⟨by omega, by omega⟩, .int m, rfl, _, _, rfl, rfl, _, rfl, ite2 (fun c => ?_) (fun c => ?_)⟩
      · have c1 : x * r ≤ m := of_decide_eq_true c
        refine ⟨.ref o, rfl, o, _, rfl, .inl hL4, _, _, rfl, rfl, _, rfl, ite2 (fun c => ?_) (fun c => ?_)⟩
        · have c2 : (((ini ++ [x]).map V.int).length : Int) < 12 := of_decide_eq_true c
          rw [List.length_map] at c2
          refine ⟨.ref o, rfl, .inl ⟨rfl, _, hL4⟩, .ref o, rfl, 1, rfl, o, _, -1, _, rfl, rfl, hL4, gl, .int r, rfl, x, r, rfl, rfl, .inl ⟨by omega, by omega⟩, o, _, _, rfl, rfl, ho4, ?_, ?_⟩
          · rw [List.length_map]
            exact small1000 (by omega)
          · refine ⟨_, _, ini ++ [x] ++ [x * r], x * r, rfl, ?_, ?_, ?_, .step hk hr2 hr6 c1 (by omega), ?_⟩
            · obtain ⟨g, rr, e1, e2⟩ := hp4
              exact ⟨g, rr, by rw [upd_ne npo]; exact e1, e2⟩
            · intro b z n1 n2 h
              rw [upd_ne n2]
              exact hB4 b z n1 n2 h
            · rw [upd_same, List.map_append (l₂ := [x * r])]
              rfl
            · rw [List.length_append]
              simp
              simp at hl
              omega
        · exact ⟨_, _, _, x, rfl, hp4, hB4, ho4, hk, by omega⟩
      · exact ⟨_, _, _, x, rfl, hp4, hB4, ho4, hk, by omega⟩
    · rintro σ H2 ⟨y3, y4, ns, x, rfl, hp2, hB, ho2, hk, hl⟩
      refine ⟨.ref o, rfl, o, _, rfl, .inl ⟨.inl (.inl ho2), fun t nt => ?_⟩⟩
      have npt : p ≠ t := hp2.ne_none nt
      have not : o ≠ t := ne_of_none ho2 nt
      have ntH : H t = none := by
        cases e : H t with
        | none => rfl
        | some z => rw [hB t z npt.symm not.symm e] at nt; cases nt
      refine q _ t ns x (fun b z n1 h => ?_) (hp2.same (same_upd nt)) ntH upd_same hk (by omega)
      have n2 : b ≠ o := ne_of_none h no
      have h3 := hB b z n1 n2 h
      rw [upd_ne (ne_of_none h3 nt)]
      exact h3
end
end Ph

namespace Ph
open PySem PySem.Spec PyProof.Rows L2 PySem.Calls
section
variable {X : Cx}
/-- d.update(e), both tracked dicts -/
def rDUp : V → List V → Hp → VK → Prop := fun x vs H Q => ∃ (a b : Addr) (ks ls : List (Key × V)), x = .ref a ∧ vs = [.ref b] ∧ a ≠ b ∧ H a = some (.dK ks) ∧ H b = some (.dK ls) ∧ ks.length + ls.length ≤ sizeLine ∧ Q .non (upd H a (.dK (mergeK ks ls)))
theorem mtd_update : MtR X "dict.update" rDUp := by
  intro pins s σ H x vs v us Q I rx rv h
  obtain ⟨a, b, ks, ls, rfl, rfl, nab, ea, eb, hz, q⟩ := h
  cases rx
  obtain ⟨u, rfl, ru⟩ := rv.one
  cases ru
  obtain ⟨za, hda, va, ra, da⟩ := dk_of I.hok ea
  obtain ⟨zb, hdb, vb, rb, db⟩ := dk_of I.hok eb
  refine call_meetsIn PySem.F.slot_dict_update da.typeIs PySem.F.entry_dict_update (PySem.F.args_dict_update_2 _ _) (meets_dict_update (mixKind X.prog X.w) a b nab hdb) ⟨va, vb, da, db, by rw [← ra.length, ← rb.length]; exact hz, fun h' d1 d2 sb => ?_⟩
  have he : ∃ o, h'.get? a = some o := let ⟨o, _, _, ho, _⟩ := d1; ⟨o, ho⟩
  exact ⟨.non, _, d_write (t' := s.toks) I (by rw [ea]; exact True.intro) sb he (dk_new (Nat.le_trans (length_mergeK ls ks) hz) hda (rb.merge ra) d1), rfl, q⟩
end
/-- which ints are keys -/
def hasI (kvs : List (Key × V)) (i : Int) : Bool := (valV kvs (Sum.inl i)).isSome
theorem hasI_merge : ∀ (more kvs : List (Key × V)) (i : Int), hasI (mergeK kvs more) i = (hasI kvs i || more.any fun kv => decide (kv.1 = Sum.inl i))
  | [], kvs, i => by
    show hasI kvs i = (hasI kvs i || false)
    rw [Bool.or_false]
  | kv :: r, kvs, i => by
    have e : mergeK kvs (kv :: r) = mergeK (putK kvs kv.1 kv.2) r := rfl
    rw [e, hasI_merge r, List.any_cons]
    unfold hasI
    rw [valV_put]
    by_cases h : (Sum.inl i : Key) = kv.1
    · rw [if_pos h, h]
      simp
    · rw [if_neg h, decide_eq_false (fun z => h z.symm), Bool.false_or]
end Ph

namespace Ph
open PySem PySem.Spec PyProof.Rows L2
abbrev sDrawn : Stmt := topS 12
abbrev scDrawnS : Stmt := sDrawn
abbrev scDrawnN : List Str := ["_law_pot_here", "_law_links_here", "_law_many", "_law_tries", "_law_found", "_law_taken", "_law_turn", "_law_words", "_law_start", "_law_word"]
theorem scDrawn : FnScope ["_law_pot_here", "_law_links_here", "_law_many", "_law_tries", "_law_found", "_law_taken", "_law_turn", "_law_words", "_law_start", "_law_word"] ["_law_pot_here", "_law_links_here", "_law_many", "_law_tries"] (defScope sDrawn) := ⟨rfl, rfl, rfl, by decide +kernel, rfl, by decide +kernel, by decide +kernel⟩
structure Nm5 (K : PySem.W.Frag) (mg : Str → Option Value) : Prop where
  len : mg "len" = none
  abs : mg "abs" = none
  int : mg "int" = none
  range : mg "range" = none
  tuple : mg "tuple" = none
  max : mg "max" = none
  min : mg "min" = none
  repr : mg "repr" = none
  isinstance : mg "isinstance" = none
  bool : mg "bool" = none
  all : mg "all" = none
  any : mg "any" = none
  list : mg "list" = none
  dict : mg "dict" = none
  sorted : mg "sorted" = none
  dig : PySem.W.nsIn K cStatics "sys.int_max_str_digits" = some none
theorem _root_.L2.Same.tup {K : PySem.W.Frag} {H H' : Hp} {a : Addr} {xs : List V} (e : Same H H') (h : SqT K H a xs) : SqT K H' a xs := by
  rcases h with (h | ⟨o, h⟩) | h
  · exact .inl (.inl (e _ _ h))
  · exact .inl (.inr ⟨o, e _ _ h⟩)
  · exact .inr h
theorem But.tup {K : PySem.W.Frag} {p a : Addr} {H H' : Hp} {xs : List V} (b : But p H H') (n : a ≠ p) (h : SqT K H a xs) : SqT K H' a xs := by
  rcases h with (h | ⟨o, h⟩) | h
  · exact .inl (.inl (b _ _ n h))
  · exact .inl (.inr ⟨o, b _ _ n h⟩)
  · exact .inr h
theorem paired_imp {α β : Type} {F G : α → β → Prop} (h : ∀ a b, F a b → G a b) : ∀ {l : List α} {m : List β}, Paired F l m → Paired G l m
  | _, _, .nil => .nil
  | _, _, .cons x r => .cons (h _ _ x) (paired_imp h r)
/-! ### blocks in the heap -/
def BkAt (H : Hp) (x : V) (b : Int × Int) : Prop := ∃ t, x = .ref t ∧ H t = some (.tup [.int b.1, .int b.2])
def BL (H : Hp) (xs : List V) (bs : List (Int × Int)) : Prop := Paired (BkAt H) xs bs
theorem BL.mono {H H' : Hp} (h : ∀ t ys, H t = some (.tup ys) → H' t = some (.tup ys)) : ∀ {xs : List V} {bs : List (Int × Int)}, BL H xs bs → BL H' xs bs
  | _, _, .nil => .nil
  | _, _, .cons ⟨t, e1, e2⟩ r => .cons ⟨t, e1, h _ _ e2⟩ (BL.mono h r)
theorem BL.len {H : Hp} : ∀ {xs : List V} {bs : List (Int × Int)}, BL H xs bs → xs.length = bs.length
  | _, _, .nil => rfl
  | _, _, .cons _ r => by rw [List.length_cons, List.length_cons, BL.len r]
def kH (H : Hp) : V → Int × Int
  | .ref t => match H t with
    | some (.tup [.int a, .int s]) => (a, s)
    | _ => (0, 0)
  | _ => (0, 0)
theorem BkAt.k {H : Hp} {x : V} {b : Int × Int} (h : BkAt H x b) : kH H x = b := by
  obtain ⟨t, rfl, e⟩ := h
  show (match H t with
    | some (.tup [.int a, .int s]) => (a, s)
    | _ => (0, 0)) = b
  rw [e]
theorem BL.map {H : Hp} : ∀ {xs : List V} {bs : List (Int × Int)}, BL H xs bs → xs.map (kH H) = bs
  | _, _, .nil => rfl
  | _, _, .cons h r => by rw [List.map_cons, h.k, BL.map r]
theorem BL.all {H : Hp} : ∀ {xs : List V} {bs : List (Int × Int)}, BL H xs bs → ∀ x ∈ xs, ∃ b, BkAt H x b
  | _, _, .nil => fun x hx => by cases hx
  | _, _, .cons h r => fun x hx => by
    rcases List.mem_cons.mp hx with e | e
    · rw [e]; exact ⟨_, h⟩
    · exact BL.all r x e
theorem BL.of {H : Hp} : ∀ {xs : List V}, (∀ x ∈ xs, ∃ b, BkAt H x b) → BL H xs (xs.map (kH H))
  | [], _ => .nil
  | x :: r, h => by
    obtain ⟨b, hb⟩ := h x (List.mem_cons_self ..)
    rw [List.map_cons, hb.k]
    exact .cons hb (BL.of fun y hy => h y (List.mem_cons_of_mem _ hy))
def StAt (H : Hp) (t : Addr) (bs : List (Int × Int)) : Prop := ∃ xs, H t = some (.tup xs) ∧ BL H xs bs
theorem StAt.same {H H' : Hp} {t : Addr} {bs : List (Int × Int)} (h : StAt H t bs) (s : Same H H') : StAt H' t bs := by
  obtain ⟨xs, e, b⟩ := h
  exact ⟨xs, s _ _ e, b.mono fun t ys e => s _ _ e⟩
theorem Pot.netup {H : Hp} {p t : Addr} {xs : List V} (P : Pot H p) (e : H t = some (.tup xs)) : t ≠ p := fun z => by
  obtain ⟨g, r, e0, _⟩ := P
  rw [z, e0] at e
  cases e
theorem StAt.but {p : Addr} {H H' : Hp} {t : Addr} {bs : List (Int × Int)} (h : StAt H t bs) (b : But p H H') (P : Pot H p) : StAt H' t bs := by
  obtain ⟨xs, e, bl⟩ := h
  exact ⟨xs, b _ _ (P.netup e) e, bl.mono fun t ys e => b _ _ (P.netup e) e⟩
/-! ### states -/
def okB (C : List Int) (W : Int) (b : Int × Int) : Prop := b.2 ∈ C ∧ 1 ≤ b.2 ∧ 0 ≤ b.1 ∧ b.1 % b.2 = 0 ∧ b.1 + b.2 ≤ W
def apart (b c : Int × Int) : Prop := b.1 + b.2 ≤ c.1 ∨ c.1 + c.2 ≤ b.1
structure St (C : List Int) (W : Int) (bs : List (Int × Int)) : Prop where
  ok : ∀ b ∈ bs, okB C W b
  asc : bs.Pairwise fun b c => b.1 + b.2 ≤ c.1
theorem sorted_st {C : List Int} {W : Int} {bs cs : List (Int × Int)} (h1 : ∀ b ∈ bs, okB C W b) (h2 : bs.Pairwise apart) (hp : cs.Perm bs) (hs : cs.Pairwise fun x y => SrtO.lexB y x = false) : St C W cs := by
  have ok : ∀ b ∈ cs, okB C W b := fun b hb => h1 b (hp.mem_iff.mp hb)
  refine ⟨ok, ?_⟩
  have ap : cs.Pairwise apart := (hp.pairwise_iff (R := apart) (fun {x y} h => h.symm)).mpr h2
  refine (List.pairwise_and_iff.mpr ⟨ap, hs⟩).imp_of_mem fun {b c} hb hc h => ?_
  obtain ⟨h3, h4⟩ := h
  rcases h3 with h5 | h5
  · exact h5
  · exfalso
    obtain ⟨_, k1, _⟩ := ok c hc
    have : SrtO.lexB c b = true := by
      unfold SrtO.lexB
      simp
      rw [if_neg (by omega)]
      omega
    rw [this] at h4
    cases h4
section
variable {P : Program} {w : World} {K : PySem.W.Frag} {mg : Str → Option Value} {base : Heap}
def spDrawn : Sp := fun vs H Q _ => ∃ (p t : Addr) (C : List Int) (L m n : Int), vs = [.ref p, .ref t, .int m, .int n] ∧ Pot H p ∧ H t = some (.tup ((C ++ [L]).map V.int)) ∧ (∀ c ∈ C ++ [L], 1 ≤ c ∧ c ≤ L) ∧ C.length ≤ 20 ∧ L ≤ 2000 ∧ 0 ≤ m ∧ m ≤ 2000 ∧ 0 ≤ n ∧ n ≤ 1000 ∧
  ∀ H' u bs, But p H H' → Pot H' p → StAt H' u bs → St (C ++ [L]) (m * L) bs → (bs.length : Int) ≤ n → Q (.ref u) H'
theorem ok_drawn {f fT fO : Addr} {fd fdT fdO : FuncData} {k : Nat} (F : Fun K "_law_drawn" "_law_drawn" sDrawn f fd) (N : Nm5 K mg) (FT : Fun K "_law_take" "_law_take" sTake fT fdT) (bT : Binds K fdT ["_law_pot_here", "_law_upto"] []) (gT : mg "_law_take" = some (.ref fT))
    (FO : Fun K "_law_of" "_law_of" sOf fO fdO) (bO : Binds K fdO ["_law_pot_here", "_law_some"] []) (gO : mg "_law_of" = some (.ref fO)) : FnOk P w K mg base CX0 (k + 1 + 1 + 1) f fd ["_law_pot_here", "_law_links_here", "_law_many", "_law_tries"] spDrawn := by
  have GT : FnOk P w K mg base CX0 (k + 1) fT fdT ["_law_pot_here", "_law_upto"] spTake := ok_take FT
  have GO : FnOk P w K mg base CX0 (k + 1 + 1) fO fdO ["_law_pot_here", "_law_some"] (spOf K) := ok_of FO FT bT gT N.len
  refine F.ok scDrawn (fun vs H Q E h => ?_) (fun cdv A outer s H vs Q E hr h => ?_)
  · obtain ⟨p, t, C, L, m, n, rfl, _⟩ := h
    rfl
  · obtain ⟨p, t, C, L, m, n, rfl, hp, ht, hC, hCl, hL, m0, m1, n0, n1, q⟩ := h
    have hr1 : Room (k + 1) (A.deeper (envOfC "_law_drawn" (defScope sDrawn) s.heap.objs.size f cdv)) := hr.mono (by omega)
    refine ⟨_, (pss_cons (ps_asg (pe_tup (pa_cons (pe_lst pa_nil) (pa_cons pe_dnewK pa_nil))) (pg_tup (by rfl) (pgs_cons (pg_name (i := 4) scDrawn.nd rfl (.inl rfl)) (pgs_cons (pg_name (i := 5) scDrawn.nd rfl (.inr rfl)) pgs_nil))))
       (pss_cons (ps_for PassesOwn.never rfl (pi_range1 (by rfl) N.range (pa_cons (pe_op op_mul (pv 3) (pe_callTy call_int1 (by rfl) N.int (by decide +kernel) (pa_cons (pe_cmpR op_gt (pv 2) pe_int (nomark _)) pa_nil))) pa_nil)) (pg_name (i := 6) scDrawn.nd rfl (.inl rfl))
       (pss_cons (ps_set (i := 7) scDrawn.nd rfl (.inl rfl) (pe_call GO hr (by rfl) gO FO.kp bO .nil pass0 (pa_cons (pv 0) (pa_cons (pe_lst (pa_cons (pe_ix ix_tup (pv 1) pe_int (fun _ _ => rfl)) (pa_cons (pe_ix ix_tup (pv 1) (pe_call GT hr1 (by rfl) gT FT.kp bT .nil pass0 (pa_cons (pv 0) (pa_cons (pe_callB call_len_seq (by rfl) N.len (by decide +kernel) (pa_cons (pv 1) pa_nil)) pa_nil))) (fun _ _ => rfl)) (pa_cons (pe_ix ix_tup (pv 1) (pe_op op_sub (pe_un un_neg pe_int) (pe_call GT hr1 (by rfl) gT FT.kp bT .nil pass0 (pa_cons (pv 0) (pa_cons (pe_callB call_len_seq (by rfl) N.len (by decide +kernel) (pa_cons (pv 1) pa_nil)) pa_nil)))) (fun _ _ => rfl)) pa_nil)))) pa_nil))))
       (pss_cons (ps_set (i := 8) scDrawn.nd rfl (.inl rfl) (pe_op op_mul (pv 7) (pe_call GT hr1 (by rfl) gT FT.kp bT .nil pass0 (pa_cons (pv 0) (pa_cons (pe_op op_fdiv (pe_op op_mul (pv 2) (pe_ix ix_tup (pv 1) (pe_un un_neg pe_int) (fun _ _ => rfl))) (pv 7)) pa_nil)))))
       (pss_one (ps_if (pt_not (pt_val (pe_callB (cr_any rfl) (by rfl) N.any (by decide +kernel) (pa_cons (pe_lc (own := [("_law_word", 9)]) (g := (gName 9)) (tt := tYes) (by rfl) scDrawn.nd (pi_range2 (by rfl) N.range (pa_cons (pv 8) (pa_cons (pe_op op_add (pv 8) (pv 7)) pa_nil))) (blkOk_by (N := scDrawnN) (sc := defScope scDrawnS) (by decide +kernel)) (fun _ _ _ _ _ => (pg_name (i := 9) scDrawn.nd rfl (.inl rfl))) (fun _ _ _ _ _ => pts_nil) (fun _ _ _ _ _ => (pe_cmp (pc_din (hu_of hr) (pv 9) (pv 5))))) pa_nil))))
       (pss_cons (ps_expr (pe_bm PySem.F.plainAttrs_dict PySem.F.slot_dict_update PySem.F.type_dict_update mtd_update (pv 5) (pa_cons (pe_callTy (call_dictP rfl) (by rfl) N.dict (by decide +kernel) (pa_cons (pe_lc (own := [("_law_word", 9)]) (g := (gName 9)) (tt := tYes) (by rfl) scDrawn.nd (pi_range2 (by rfl) N.range (pa_cons (pv 8) (pa_cons (pe_op op_add (pv 8) (pv 7)) pa_nil))) (blkOk_by (N := scDrawnN) (sc := defScope scDrawnS) (by decide +kernel)) (fun _ _ _ _ _ => (pg_name (i := 9) scDrawn.nd rfl (.inl rfl))) (fun _ _ _ _ _ => pts_nil) (fun _ _ _ _ _ => (pe_tup (pa_cons (pv 9) (pa_cons pe_bl pa_nil))))) pa_nil)) pa_nil)))
       (pss_one (ps_expr (pe_bm PySem.F.plainAttrs_list PySem.F.slot_list_append PySem.F.type_list_append mt_append (pv 4) (pa_cons (pe_tup (pa_cons (pv 8) (pa_cons (pv 7) pa_nil))) pa_nil))))) pss_nil)))))
       (pss_one (ps_ret (pe_callTy call_tuple_of (by rfl) N.tuple (by decide +kernel) (pa_cons (pe_callB cr_sortedPO (by rfl) N.sorted (by decide +kernel) (pa_cons (pv 4) pa_nil)) pa_nil)))))), ?_⟩
    refine ⟨Nat.zero_le _, fun o no => ?_⟩
    refine fun d nd => ⟨(by show 2 ≤ sizeLine; decide), fun u nu => ?_⟩
    refine ⟨u, _, rfl, .inl (.inl upd_same), rfl, _, _, rfl, _, _, rfl, rfl, ?_⟩
    have so := same_upd (o := .lst []) no
    have sd := same_upd (o := .dK []) nd
    have su := same_upd (o := .tup [.ref o, .ref d]) nu
    have npo : p ≠ o := hp.ne_none no
    have npd : p ≠ d := (hp.same so).ne_none nd
    have nod : o ≠ d := ne_of_none (H := upd H o (.lst [])) upd_same nd
    refine ⟨.int n, rfl, .int m, rfl, _, _, rfl, rfl, .inr ⟨_, rfl, _, _, rfl, rfl, .inl ⟨by omega, by omega⟩, ?_⟩⟩
    have hN : n * (if decide (0 < m) = true then 1 else 0) = if 0 < m then n else 0 := by
      by_cases c : 0 < m
      · rw [decide_eq_true c, if_pos rfl, if_pos c, Int.mul_one]
      · rw [decide_eq_false c, if_neg Bool.false_ne_true, if_neg c, Int.mul_zero]
    refine ⟨if 0 < m then n else 0, congrArg (fun z => [V.int z]) hN, by split <;> omega, by split <;> omega, ?_⟩
    have hT0 : H t = some (.tup ((C ++ [L]).map V.int)) := ht
    have lenC : ((C ++ [L]).map V.int).length = C.length + 1 := by simp
    have gl : atI ((C ++ [L]).map V.int) (-1) = some (.int L) := by
      rw [List.map_append]
      exact atI_last _ _
    have gn : ∀ j : Nat, j < C.length + 1 → ∃ c, c ∈ C ++ [L] ∧ atI ((C ++ [L]).map V.int) (j : Int) = some (.int c) := fun j hj => by
      have hj2 : j < (C ++ [L]).length := by simp; omega
      exact ⟨(C ++ [L])[j], List.getElem_mem hj2, atI_nat (by rw [List.getElem?_map, List.getElem?_eq_getElem hj2]; rfl)⟩
    have gm : ∀ j : Nat, j < C.length + 1 → ∃ c, c ∈ C ++ [L] ∧ atI ((C ++ [L]).map V.int) (-1 - (j : Int)) = some (.int c) := fun j hj => by
      have hj2 : C.length - j < (C ++ [L]).length := by simp; omega
      refine ⟨(C ++ [L])[C.length - j], List.getElem_mem hj2, ?_⟩
      unfold atI ixN
      rw [lenC, if_neg (by omega), if_pos (by omega)]
      have e : ((-1 - (j : Int)) + ((C.length + 1 : Nat) : Int)).toNat = C.length - j := by omega
      rw [e]
      show ((C ++ [L]).map V.int)[C.length - j]? = _
      rw [List.getElem?_map, List.getElem?_eq_getElem hj2]
      rfl
    refine for_range (lo := 0) (n := (if 0 < m then n else 0).toNat) (fun i σ H2 => ∃ y6 y7 y8 y9 xs bs kvs, σ = [some (.ref p), some (.ref t), some (.int m), some (.int n), some (.ref o), some (.ref d), y6, y7, y8, y9] ∧ Pot H2 p ∧ (∀ b z, b ≠ p → b ≠ o → b ≠ d → H b = some z → H2 b = some z) ∧
        H2 o = some (.lst xs) ∧ BL H2 xs bs ∧ H2 d = some (.dK kvs) ∧ (∀ w : Int, hasI kvs w = true ↔ ∃ b ∈ bs, b.1 ≤ w ∧ w < b.1 + b.2) ∧ (∀ b ∈ bs, okB (C ++ [L]) (m * L) b) ∧ bs.Pairwise apart ∧ bs.length ≤ i ∧ kvs.length ≤ i * 2000)
      ⟨none, none, none, none, [], [], [], rfl, hp.same (so.trans (sd.trans su)), fun b z n1 n2 n3 h => su _ _ (sd _ _ (so _ _ h)), su _ _ (sd _ _ upd_same), .nil, su _ _ upd_same, fun w => ?_, by simp, .nil, Nat.le_refl _, Nat.zero_le _⟩ ?_ ?_
    · constructor
      · intro z; exact absurd z (by unfold hasI; rw [valV_nil]; simp)
      · rintro ⟨b, hb, _⟩; cases hb
    · rintro i σ H2 hi ⟨y6, y7, y8, y9, xs, bs, kvs, rfl, hp2, hB, ho2, hbl, hd2, hk, hok, hap, hlb, hlk⟩
      have hm : 0 < m := by
        by_cases c : 0 < m
        · exact c
        · rw [if_neg c] at hi
          simp at hi
      have hi2 : i < 1000 := by
        rw [if_pos hm] at hi
        omega
      have htp : t ≠ p := hp.netup ht
      have hto : t ≠ o := ne_of_none ht no
      have htd : t ≠ d := ne_of_none (so _ _ ht) nd
      have ht2 := hB _ _ htp hto htd ht
      obtain ⟨c0, hc0, g0⟩ := gn 0 (by omega)
      refine ⟨.ref p, rfl, .ref t, rfl, t, _, 0, _, rfl, rfl, .inl (.inl ht2), g0, ?_⟩
      refine ⟨.ref t, rfl, .ref p, rfl, .ref t, rfl, t, _, rfl, .inr (.inl (.inl ht2)), p, _, rfl, hp2, by rw [lenC]; omega, by rw [lenC]; omega, fun H3 e1 b3 hp3 e10 e11 => ?_⟩
      rw [lenC] at e11
      obtain ⟨j1, rfl⟩ : ∃ j : Nat, e1 = j := ⟨e1.toNat, by omega⟩
      obtain ⟨c1, hc1, g1⟩ := gn j1 (by omega)
      have ht3 := b3 _ _ htp ht2
      refine ⟨t, _, j1, _, rfl, rfl, .inl (.inl ht3), g1, ?_⟩
      refine ⟨.ref t, rfl, 1, rfl, .ref p, rfl, .ref t, rfl, t, _, rfl, .inr (.inl (.inl ht3)), p, _, rfl, hp3, by rw [lenC]; omega, by rw [lenC]; omega, fun H4 e2 b4 hp4 e20 e21 => ?_⟩
      rw [lenC] at e21
      obtain ⟨j2, rfl⟩ : ∃ j : Nat, e2 = j := ⟨e2.toNat, by omega⟩
      obtain ⟨c2, hc2, g2⟩ := gm j2 (by omega)
      have ht4 := b4 _ _ htp ht3
      refine ⟨_, _, rfl, rfl, t, _, _, _, rfl, rfl, .inl (.inl ht4), g2, (by show 3 ≤ sizeLine; decide), fun l nl => ?_⟩
      have vl := same_upd (o := .lst [.int c0, .int c1, .int c2]) nl
      refine ⟨p, l, _, rfl, hp4.same vl, .inl (.inl upd_same), (hp4.ne_none nl).symm, List.cons_ne_nil _ _, by simp, fun H5 x b5 hp5 hx => ?_⟩
      obtain ⟨c, rfl, hc⟩ : ∃ c : Int, x = .int c ∧ c ∈ C ++ [L] := by
        simp only [List.mem_cons, List.not_mem_nil, or_false] at hx
        rcases hx with h | h | h
        · exact ⟨_, h, hc0⟩
        · exact ⟨_, h, hc1⟩
        · exact ⟨_, h, hc2⟩
      obtain ⟨hcl, hcu⟩ := hC c hc
      have B5 : ∀ b z, b ≠ p → H2 b = some z → H5 b = some z := fun b z n1 h => b5 _ _ n1 (vl _ _ (b4 _ _ n1 (b3 _ _ n1 h)))
      have ht5 := B5 _ _ htp ht2
      -- start
      have hmL : m * L ≤ 4000000 := by
        have h1 : m * L ≤ 2000 * 2000 := Int.mul_le_mul m1 hL (by have := hC c hc; omega) (by decide)
        omega
      have hcm : c ≤ m * L := by
        have h1 : 1 * L ≤ m * L := Int.mul_le_mul_of_nonneg_right (by omega) (by omega)
        omega
      have hq1 : 1 ≤ m * L / c := by
        rw [Int.le_ediv_iff_mul_le (by omega)]
        omega
      have hq2 : m * L / c * c ≤ m * L := Int.ediv_mul_le _ (by omega)
      have hq3 : m * L / c ≤ m * L := Int.ediv_le_self _ (by omega)
      refine ⟨.int c, rfl, .ref p, rfl, .int m, rfl, .ref t, rfl, 1, rfl, t, _, -1, _, rfl, rfl, .inl (.inl ht5), gl, m, L, rfl, rfl, .inl ⟨by omega, by omega⟩, .int c, rfl, _, _, rfl, rfl, ⟨by omega, by omega⟩, p, _, rfl, hp5, by omega, by omega, fun H6 e b6 hp6 e0 e1 => ⟨c, e, rfl, rfl, .inl ⟨by omega, by omega⟩, ?_⟩⟩
      have B6 : ∀ b z, b ≠ p → H2 b = some z → H6 b = some z := fun b z n1 h => b6 _ _ n1 (B5 b z n1 h)
      have ho6 := B6 _ _ npo.symm ho2
      have hd6 := B6 _ _ npd.symm hd2
      have hs0 : 0 ≤ c * e := Int.mul_nonneg (by omega) e0
      have hs1 : c * e + c ≤ m * L := by
        have h1 : (e + 1) * c ≤ m * L / c * c := Int.mul_le_mul_of_nonneg_right (by omega) (by omega)
        have h2 : (e + 1) * c = c * e + c := by rw [Int.add_mul, Int.mul_comm, Int.one_mul]
        omega
      dsimp only
      generalize hse : c * e = se at *
      have hsm : se % c = 0 := by rw [← hse]; exact Int.mul_emod_right c e
      obtain ⟨cn, rfl⟩ : ∃ cn : Nat, c = cn := ⟨c.toNat, by omega⟩
      have ecn : (se + (cn : Int) - se).toNat = cn := by omega
      refine ⟨.int se, rfl, .int se, rfl, .int cn, rfl, _, _, rfl, rfl, se, se + cn, rfl, ⟨by omega, by omega, by omega, by omega⟩, fun D nD => ?_⟩
      rw [ecn]
      refine lc_range (lo := se) (n := cn) (fun i H7 => Same H6 H7 ∧ H7 D = some (.lst (((List.range i).map fun (j : Nat) => hasI kvs (se + (j : Int))).map V.bl))) ⟨same_upd nD, upd_same⟩ (fun i H7 hi p7 => ?_) (fun H7 p7 => ?_)
      · obtain ⟨s7, hD7⟩ := p7
        refine ⟨rfl, .int (se + i), rfl, .ref d, rfl, d, _, rfl, DGet.k (k := Sum.inl (se + (i : Int))) (s7 _ _ hd6), _, hD7, ?_, fun b z hz => ?_, ?_⟩
        · rw [List.length_map, List.length_map, List.length_range]
          exact Nat.lt_of_lt_of_le (show i < 4000001 by omega) (by decide)
        · rw [upd_ne (ne_of_none hz nD)]
          exact s7 _ _ hz
        · rw [upd_same, List.range_succ]
          simp [hasI]
      · obtain ⟨s7, hD7⟩ := p7
        refine ⟨D, _, rfl, .inl (.inl hD7), _, rfl, ?_⟩
        have hany : ((List.range cn).map fun (j : Nat) => hasI kvs (se + (j : Int))).any id = true ↔ ∃ w : Int, se ≤ w ∧ w < se + cn ∧ hasI kvs w = true := by
          rw [List.any_eq_true]
          constructor
          · rintro ⟨b, hb, hb2⟩
            obtain ⟨j, hj, e3⟩ := List.mem_map.mp hb
            have := List.mem_range.mp hj
            exact ⟨se + j, by omega, by omega, by rw [e3]; exact hb2⟩
          · rintro ⟨w, w1, w2, w3⟩
            refine ⟨true, List.mem_map.mpr ⟨(w - se).toNat, List.mem_range.mpr (by omega), ?_⟩, rfl⟩
            rw [show se + (((w - se).toNat : Nat) : Int) = w by omega]
            exact w3
        have hp7 := hp6.same s7
        have ho7 := s7 _ _ ho6
        have hd7 := s7 _ _ hd6
        have B7 : ∀ b z, b ≠ p → b ≠ o → b ≠ d → H b = some z → H7 b = some z := fun b z k1 k2 k3 h => s7 _ _ (B6 _ _ k1 (hB b z k1 k2 k3 h))
        have bl7 : BL H7 xs bs := hbl.mono fun t ys e => s7 _ _ (B6 _ _ (hp2.netup e) e)
        by_cases ca : ((List.range cn).map fun (j : Nat) => hasI kvs (se + (j : Int))).any id = true
        · rw [ca]
          refine iteF ?_
          exact ⟨_, _, _, _, xs, bs, kvs, rfl, hp7, B7, ho7, bl7, hd7, hk, hok, hap, by omega, by omega⟩
        · have ca' : ((List.range cn).map fun (j : Nat) => hasI kvs (se + (j : Int))).any id = false := by
            cases ez : ((List.range cn).map fun (j : Nat) => hasI kvs (se + (j : Int))).any id with
            | true => exact absurd ez ca
            | false => rfl
          rw [ca']
          refine iteT ?_
          -- taken.update(dict([..]))
          refine ⟨.ref d, rfl, .inr (.inr (.inl ⟨rfl, .inl ⟨_, hd7⟩⟩)), .int se, rfl, .int se, rfl, .int cn, rfl, _, _, rfl, rfl, se, se + cn, rfl, ⟨by omega, by omega, by omega, by omega⟩, fun D2 nD2 => ?_⟩
          rw [ecn]
          refine lc_range (lo := se) (n := cn) (fun i H8 => Same H7 H8 ∧ ∃ ps, H8 D2 = some (.lst (ps.map V.ref)) ∧ Paired (fun q kv => H8 q = some (.tup [kV kv.1, kv.2])) ps ((List.range i).map fun (j : Nat) => ((Sum.inl (se + (j : Int)) : Key), V.bl true)))
            ⟨same_upd nD2, [], upd_same, .nil⟩ (fun i H8 hi p8 => ?_) (fun H8 p8 => ?_)
          · obtain ⟨s8, ps, hD8, hpr⟩ := p8
            have lps : ps.length = i := by
              have := hpr.length
              simpa using this
            refine ⟨rfl, .int (se + i), rfl, (by show 2 ≤ sizeLine; decide), fun T nT => ⟨_, by rw [upd_ne (ne_of_none hD8 nT)]; exact hD8, ?_, fun b z hz => ?_, ps ++ [T], ?_, ?_⟩⟩
            · rw [List.length_map, lps]
              exact Nat.lt_of_lt_of_le (show i < 4000001 by omega) (by decide)
            · rw [upd_ne (ne_of_none hz nD2), upd_ne (ne_of_none (s8 _ _ hz) nT)]
              exact s8 _ _ hz
            · rw [upd_same]
              simp
            · rw [List.range_succ, List.map_append]
              refine Paired.snoc ?_ ?_
              · refine paired_imp (fun q kv hq => ?_) hpr
                rw [upd_ne (ne_of hq hD8 (by intro z; cases z)), upd_ne (ne_of_none hq nT)]
                exact hq
              · rw [upd_ne (ne_of_none hD8 nT).symm, upd_same]
                rfl
          · obtain ⟨s8, ps, hD8, hpr⟩ := p8
            refine ⟨D2, ps, _, rfl, .inl (.inl hD8), paired_imp (fun q kv hq => .inl (.inl hq)) hpr, fun q nq => ?_⟩
            have s9 := same_upd (o := .dK (mergeK [] ((List.range cn).map fun (j : Nat) => ((Sum.inl (se + (j : Int)) : Key), V.bl true)))) nq
            have hd9 := s9 _ _ (s8 _ _ hd7)
            have hml : (mergeK [] ((List.range cn).map fun (j : Nat) => ((Sum.inl (se + (j : Int)) : Key), V.bl true))).length ≤ cn := by
              refine Nat.le_trans (length_mergeK _ _) ?_
              simp
            have hcn : cn ≤ 2000 := by omega
            refine ⟨d, q, kvs, _, rfl, rfl, ne_of_none (s8 _ _ hd7) nq, hd9, upd_same, ?_, ?_⟩
            · exact Nat.le_trans (show _ ≤ 4000001 by omega) (by decide)
            -- found.append(..)
            have ho9 := s9 _ _ (s8 _ _ ho7)
            have ho10 : upd (upd H8 q (.dK (mergeK [] ((List.range cn).map fun (j : Nat) => ((Sum.inl (se + (j : Int)) : Key), V.bl true))))) d (.dK (mergeK kvs (mergeK [] ((List.range cn).map fun (j : Nat) => ((Sum.inl (se + (j : Int)) : Key), V.bl true))))) o = some (.lst xs) := by
              rw [upd_ne nod]
              exact ho9
            refine ⟨.ref o, rfl, .inl ⟨rfl, _, .inl (.inl ho10)⟩, .int se, rfl, .int cn, rfl, (by show 2 ≤ sizeLine; decide), fun T2 nT2 => ?_⟩
            have lxs : xs.length ≤ i := by rw [hbl.len]; exact hlb
            have hdm : H8 d = some (.dK kvs) := s8 _ _ hd7
            have nT2d : T2 ≠ d := fun z => by rw [z, upd_same] at nT2; cases nT2
            have nT2o : o ≠ T2 := ne_of_none ho10 nT2
            have keep : ∀ b z, b ≠ o → b ≠ d → H7 b = some z → upd (upd (upd (upd H8 q (.dK (mergeK [] ((List.range cn).map fun (j : Nat) => ((Sum.inl (se + (j : Int)) : Key), V.bl true))))) d (.dK (mergeK kvs (mergeK [] ((List.range cn).map fun (j : Nat) => ((Sum.inl (se + (j : Int)) : Key), V.bl true)))))) T2 (.tup [.int se, .int (cn : Int)])) o (.lst (xs ++ [.ref T2])) b = some z := fun b z k1 k2 h => by
              have h9 := s9 _ _ (s8 _ _ h)
              have hq : upd (upd H8 q (.dK (mergeK [] ((List.range cn).map fun (j : Nat) => ((Sum.inl (se + (j : Int)) : Key), V.bl true))))) d (.dK (mergeK kvs (mergeK [] ((List.range cn).map fun (j : Nat) => ((Sum.inl (se + (j : Int)) : Key), V.bl true))))) b = some z := by
                rw [upd_ne k2]
                exact h9
              rw [upd_ne k1, upd_ne (ne_of_none hq nT2)]
              exact hq
            refine ⟨o, xs, _, rfl, rfl, by rw [upd_ne nT2o]; exact ho10, ?_, ?_⟩
            · exact Nat.lt_of_lt_of_le (show xs.length < 4000001 by omega) (by decide)
            refine ⟨_, _, _, _, xs ++ [.ref T2], bs ++ [(se, (cn : Int))], mergeK kvs (mergeK [] ((List.range cn).map fun (j : Nat) => ((Sum.inl (se + (j : Int)) : Key), V.bl true))), rfl, ?_, ?_, upd_same, ?_, ?_, ?_, ?_, ?_, ?_, ?_⟩
            · obtain ⟨g, r, ep, pv⟩ := hp7
              exact ⟨g, r, keep _ _ npo npd ep, pv⟩
            · exact fun b z k1 k2 k3 h => keep _ _ k2 k3 (B7 b z k1 k2 k3 h)
            · refine Paired.snoc (bl7.mono fun t ys e => keep _ _ (ne_of e ho7 (by intro z; cases z)) (ne_of e hd7 (by intro z; cases z)) e) ⟨T2, rfl, ?_⟩
              rw [upd_ne nT2o.symm, upd_same]
            · rw [upd_ne nod.symm, upd_ne nT2d.symm, upd_same]
            · intro w
              rw [hasI_merge, Bool.or_eq_true, hk w, valV_any, ← hasI, hasI_merge, Bool.or_eq_true]
              constructor
              · rintro (⟨b, hb, h1⟩ | h1)
                · exact ⟨b, List.mem_append_left _ hb, h1⟩
                · refine ⟨(se, cn), List.mem_append_right _ (List.mem_singleton.mpr rfl), ?_⟩
                  rcases h1 with h1 | h1
                  · exact absurd h1 (by unfold hasI; rw [valV_nil]; simp)
                  · obtain ⟨kv, hkv, h2⟩ := List.any_eq_true.mp h1
                    obtain ⟨j, hj, e3⟩ := List.mem_map.mp hkv
                    have hj2 := List.mem_range.mp hj
                    have h3 := of_decide_eq_true h2
                    rw [← e3] at h3
                    injection h3 with h3
                    show se ≤ w ∧ w < se + cn
                    omega
              · rintro ⟨b, hb, h1⟩
                rcases List.mem_append.mp hb with h2 | h2
                · exact .inl ⟨b, h2, h1⟩
                · right
                  right
                  rw [List.mem_singleton.mp h2] at h1
                  have h1' : se ≤ w ∧ w < se + cn := h1
                  refine List.any_eq_true.mpr ⟨(Sum.inl (se + (((w - se).toNat : Nat) : Int)), .bl true), List.mem_map.mpr ⟨(w - se).toNat, List.mem_range.mpr (by omega), rfl⟩, decide_eq_true ?_⟩
                  show (Sum.inl _ : Key) = Sum.inl w
                  rw [show se + (((w - se).toNat : Nat) : Int) = w by omega]
            · intro b hb
              rcases List.mem_append.mp hb with h2 | h2
              · exact hok b h2
              · rw [List.mem_singleton.mp h2]
                exact ⟨hc, hcl, hs0, hsm, hs1⟩
            · rw [List.pairwise_append]
              refine ⟨hap, List.pairwise_singleton _ _, fun b hb b2 hb2 => ?_⟩
              rw [List.mem_singleton.mp hb2]
              obtain ⟨_, k1, k2, _, _⟩ := hok b hb
              have hno : ∀ w : Int, se ≤ w → w < se + cn → b.1 ≤ w → w < b.1 + b.2 → False := fun w w1 w2 w3 w4 => ca (hany.mpr ⟨w, w1, w2, (hk w).mpr ⟨b, hb, w3, w4⟩⟩)
              have h1 := hno se (by omega) (by omega)
              have h2 := hno b.1
              show b.1 + b.2 ≤ se ∨ se + (cn : Int) ≤ b.1
              by_cases c1 : b.1 ≤ se
              · left
                by_cases c3 : se < b.1 + b.2
                · exact (h1 c1 c3).elim
                · omega
              · right
                by_cases c2 : b.1 < se + cn
                · exact (h2 (by omega) c2 (by omega) (by omega)).elim
                · omega
            · simp
              omega
            · refine Nat.le_trans (length_mergeK _ _) ?_
              omega
    · rintro σ H2 ⟨y6, y7, y8, y9, xs, bs, kvs, rfl, hp2, hB, ho2, hbl, hd2, hk, hok, hap, hlb, hlk⟩
      refine ⟨.ref o, rfl, o, xs, kH H2, rfl, .inl (.inl ho2), fun x hx => ?_, fun ys v hsr hst nv => ?_⟩
      · obtain ⟨b, hb⟩ := hbl.all x hx
        have e := hb.k
        obtain ⟨t2, e1, e2⟩ := hb
        exact ⟨t2, e1, by rw [e]; exact e2⟩
      have sv := same_upd (o := .lst ys) nv
      refine ⟨v, ys, rfl, .inl ⟨.inl (.inl upd_same), fun r nr => ?_⟩⟩
      have sr := sv.trans (same_upd (o := .tup ys) nr)
      have ally : ∀ y ∈ ys, ∃ b, BkAt H2 y b := fun y hy => hbl.all y (hst.perm.mem_iff.mp hy)
      have pm : (ys.map (kH H2)).Perm bs := by
        have := hst.perm.map (kH H2)
        rwa [hbl.map] at this
      refine q _ r (ys.map (kH H2)) (fun b z nb h => ?_) (hp2.same sr) ⟨ys, upd_same, (BL.of ally).mono fun t2 zs e => sr _ _ e⟩ (sorted_st hok hap pm ?_) ?_
      · have k2 : b ≠ o := ne_of_none h no
        have k3 : b ≠ d := ne_of_none (so _ _ h) nd
        exact sr _ _ (hB b z nb k2 k3 h)
      · exact List.pairwise_map.mpr hsr
      · rw [pm.length_eq]
        have : (if 0 < m then n else 0) ≤ n := by split <;> omega
        omega
end
end Ph

namespace Ph
open PySem PySem.Spec PyProof.Rows L2
abbrev sIsInt : Stmt := topS 1
abbrev sIsSize : Stmt := topS 3
abbrev sIsSt : Stmt := topS 5
abbrev sIsBl : Stmt := topS 6
abbrev sIsNum : Stmt := topS 14
abbrev scIsStS : Stmt := sIsSt
abbrev scIsStN : List Str := ["chain", "pages", "value", "end", "address", "size", "item"]
theorem scIsInt : FnScope ["value"] ["value"] (defScope sIsInt) := ⟨rfl, rfl, rfl, by decide +kernel, rfl, by decide +kernel, by decide +kernel⟩
theorem scIsSize : FnScope ["chain", "value"] ["chain", "value"] (defScope sIsSize) := ⟨rfl, rfl, rfl, by decide +kernel, rfl, by decide +kernel, by decide +kernel⟩
theorem scIsSt : FnScope ["chain", "pages", "value", "end", "address", "size", "item"] ["chain", "pages", "value"] (defScope sIsSt) := ⟨rfl, rfl, rfl, by decide +kernel, rfl, by decide +kernel, by decide +kernel⟩
theorem scIsBl : FnScope ["chain", "value", "address", "size"] ["chain", "value"] (defScope sIsBl) := ⟨rfl, rfl, rfl, by decide +kernel, rfl, by decide +kernel, by decide +kernel⟩
theorem scIsNum : FnScope ["_law_thing", "_law_least"] ["_law_thing", "_law_least"] (defScope sIsNum) := ⟨rfl, rfl, rfl, by decide +kernel, rfl, by decide +kernel, by decide +kernel⟩
/-! ### values of any kind -/
inductive Ty (H : Hp) : V → String → Prop
  | non : Ty H .non "NoneType"
  | bl (b : Bool) : Ty H (.bl b) "bool"
  | int (i : Int) : Ty H (.int i) "int"
  | str (z : Str) : Ty H (.str z) "str"
  | tup {a : Addr} {xs : List V} (e : H a = some (.tup xs)) : Ty H (.ref a) "tuple"
  | lst {a : Addr} {xs : List V} (e : H a = some (.lst xs)) : Ty H (.ref a) "list"
  | dK {a : Addr} {kvs : List (Key × V)} (e : H a = some (.dK kvs)) : Ty H (.ref a) "dict"
theorem Ty.x {K : PySem.W.Frag} {H : Hp} {x : V} {T : String} (t : Ty H x T) : TyX K H x (.type T) := by
  cases t with
  | non => exact .base .non
  | bl b => exact .base (.bl b)
  | int i => exact .base (.int i)
  | str z => exact .base (.str z)
  | tup e => exact .base (.tup e)
  | lst e => exact .base (.lst e)
  | dK e => exact .base (.dK e)
theorem Ty.same {H H' : Hp} {x : V} {T : String} (t : Ty H x T) (s : Same H H') : Ty H' x T := by
  cases t with
  | non => exact .non
  | bl b => exact .bl b
  | int i => exact .int i
  | str z => exact .str z
  | tup e => exact .tup (s _ _ e)
  | lst e => exact .lst (s _ _ e)
  | dK e => exact .dK (s _ _ e)
def isI : V → Bool
  | .int _ => true
  | _ => false
theorem Ty.kInt {H : Hp} {x : V} {T : String} (t : Ty H x T) : kitB T "int" = some (T == "int" || T == "bool") := by cases t <;> decide +kernel
theorem Ty.kBool {H : Hp} {x : V} {T : String} (t : Ty H x T) : kitB T "bool" = some (T == "bool") := by cases t <;> decide +kernel
theorem Ty.kTup {H : Hp} {x : V} {T : String} (t : Ty H x T) : kitB T "tuple" = some (T == "tuple") := by cases t <;> decide +kernel
theorem Ty.isI {H : Hp} {x : V} {T : String} (t : Ty H x T) : isI x = ((T == "int" || T == "bool") && !(T == "bool")) := by cases t <;> simp [Ph.isI]
/-- things at any depth -/
inductive Deep (H : Hp) : V → Prop
  | base {x : V} {T : String} (t : Ty H x T) (n : T ≠ "tuple") : Deep H x
  | tup {a : Addr} {xs : List V} (e : H a = some (.tup xs)) (h : ∀ y ∈ xs, Deep H y) (hl : xs.length ≤ 5000) : Deep H (.ref a)
theorem Deep.ty {H : Hp} {x : V} (d : Deep H x) : ∃ T, Ty H x T := by
  cases d with
  | base t n => exact ⟨_, t⟩
  | tup e h hl => exact ⟨_, .tup e⟩
theorem Deep.mono {H H' : Hp} (f : ∀ x T, Ty H x T → Ty H' x T) (g : ∀ a xs, H a = some (.tup xs) → H' a = some (.tup xs)) {x : V} (d : Deep H x) : Deep H' x := by
  induction d with
  | base t n => exact .base (f _ _ t) n
  | tup e h hl ih => exact .tup (g _ _ e) ih hl
theorem Deep.len {H : Hp} {a : Addr} {xs : List V} (d : Deep H (.ref a)) (e : H a = some (.tup xs)) : xs.length ≤ 5000 := by
  cases d with
  | base t n =>
    cases t with
    | tup e2 => exact absurd rfl n
    | lst e2 => rw [e] at e2; cases e2
    | dK e2 => rw [e] at e2; cases e2
  | tup e2 h hl =>
    rw [e] at e2
    injection e2 with e2
    injection e2 with e2
    rw [e2]
    exact hl
theorem Deep.same {H H' : Hp} {x : V} (d : Deep H x) (s : Same H H') : Deep H' x := d.mono (fun _ _ t => t.same s) fun _ _ e => s _ _ e
theorem Ty.but {p : Addr} {H H' : Hp} {x : V} {T : String} (t : Ty H x T) (b : But p H H') (P : Pot H p) (P' : Pot H' p) : Ty H' x T := by
  obtain ⟨g, r, e0, _⟩ := P
  obtain ⟨g', r', e1, _⟩ := P'
  cases t with
  | non => exact .non
  | bl b => exact .bl b
  | int i => exact .int i
  | str z => exact .str z
  | @tup a xs e => exact .tup (b _ _ (fun z => by rw [z, e0] at e; cases e) e)
  | @lst a xs e =>
    by_cases z : a = p
    · subst z
      exact .lst e1
    · exact .lst (b _ _ z e)
  | @dK a kvs e => exact .dK (b _ _ (fun z => by rw [z, e0] at e; cases e) e)
theorem Deep.but {p : Addr} {H H' : Hp} {x : V} (d : Deep H x) (b : But p H H') (P : Pot H p) (P' : Pot H' p) : Deep H' x := d.mono (fun _ _ t => t.but b P P') fun _ _ e => b _ _ (P.netup e) e
def TL (H : Hp) (xs : List V) : Prop := ∀ y ∈ xs, Deep H y
theorem TL.same {H H' : Hp} {xs : List V} (t : TL H xs) (s : Same H H') : TL H' xs := fun y hy => (t y hy).same s
theorem TL.but {p : Addr} {H H' : Hp} {xs : List V} (t : TL H xs) (b : But p H H') (P : Pot H p) (P' : Pot H' p) : TL H' xs := fun y hy => (t y hy).but b P P'
theorem TL.ints (H : Hp) (ns : List Int) : TL H (ns.map V.int) := fun y hy => by
  obtain ⟨n, _, e⟩ := List.mem_map.mp hy
  rw [← e]
  exact .base (.int n) (by decide)
theorem TL.append {H : Hp} {xs ys : List V} (a : TL H xs) (b : TL H ys) : TL H (xs ++ ys) := fun y hy => by
  rcases List.mem_append.mp hy with h | h
  · exact a y h
  · exact b y h
theorem TL.cut {H : Hp} {xs : List V} {lo hi : Option Int} (a : TL H xs) : TL H (cutV xs lo hi) := fun y hy => a y (List.mem_of_mem_drop (List.mem_of_mem_take hy))
theorem TL.rev {H : Hp} {xs : List V} (a : TL H xs) : TL H xs.reverse := fun y hy => a y (List.mem_reverse.mp hy)
theorem TL.one {H : Hp} {x : V} (t : Deep H x) : TL H [x] := fun y hy => by
  rw [List.mem_singleton.mp hy]
  exact t
theorem BL.deep {H : Hp} : ∀ {xs : List V} {bs : List (Int × Int)}, BL H xs bs → TL H xs
  | _, _, .nil => fun y hy => by cases hy
  | _, _, .cons ⟨t, e1, e2⟩ r => fun y hy => by
    rcases List.mem_cons.mp hy with h | h
    · rw [h, e1]
      exact .tup e2 (TL.ints H [_, _]) (by simp)
    · exact BL.deep r y h
theorem BL.get {H : Hp} : ∀ {xs : List V} {bs : List (Int × Int)} {i : Nat} {x : V}, BL H xs bs → xs[i]? = some x → ∃ b, bs[i]? = some b ∧ BkAt H x b
  | _, _, _, _, .nil, h => by simp at h
  | _, _, 0, _, .cons hb r, h => by
    have e := Option.some.inj h
    rw [← e]
    exact ⟨_, rfl, hb⟩
  | _ :: l1, _ :: l2, i + 1, x, .cons hb r, h => by
    have h' : l1[i]? = some x := h
    obtain ⟨b, e1, e2⟩ := BL.get (H := H) (xs := l1) (bs := l2) r h'
    exact ⟨b, e1, e2⟩
theorem BL.take {H : Hp} : ∀ {xs : List V} {bs : List (Int × Int)} (i : Nat), BL H xs bs → BL H (xs.take i) (bs.take i)
  | _, _, 0, _ => .nil
  | _, _, _ + 1, .nil => .nil
  | _, _, i + 1, .cons hb r => .cons hb (BL.take i r)
theorem BL.fun {H : Hp} {xs : List V} {bs cs : List (Int × Int)} (h1 : BL H xs bs) (h2 : BL H xs cs) : bs = cs := by rw [← h1.map, ← h2.map]
/-- the walk along the ends -/
def chk : Int → List (Int × Int) → Option Int
  | e, [] => some e
  | e, b :: r => if b.1 < e then none else chk (b.1 + b.2) r
theorem chk_snoc : ∀ (l : List (Int × Int)) (e : Int) (b : Int × Int), chk e (l ++ [b]) = (chk e l).bind fun z => if b.1 < z then none else some (b.1 + b.2)
  | [], e, b => by
    show (if b.1 < e then none else some (b.1 + b.2)) = _
    rfl
  | c :: r, e, b => by
    show (if c.1 < e then none else chk (c.1 + c.2) (r ++ [b])) = (if c.1 < e then none else chk (c.1 + c.2) r).bind _
    by_cases h : c.1 < e
    · rw [if_pos h, if_pos h]; rfl
    · rw [if_neg h, if_neg h, chk_snoc r]
theorem chk_app_none : ∀ (l m : List (Int × Int)) (e : Int), chk e l = none → chk e (l ++ m) = none
  | [], m, e, h => by cases h
  | c :: r, m, e, h => by
    show (if c.1 < e then none else chk (c.1 + c.2) (r ++ m)) = none
    have h' : (if c.1 < e then none else chk (c.1 + c.2) r) = none := h
    by_cases hc : c.1 < e
    · rw [if_pos hc]
    · rw [if_neg hc] at h' ⊢
      exact chk_app_none r m _ h'
theorem chk_asc : ∀ (bs : List (Int × Int)) (e z : Int), (∀ b ∈ bs, 1 ≤ b.2) → chk e bs = some z → bs.Pairwise (fun b c => b.1 + b.2 ≤ c.1) ∧ (∀ b ∈ bs, e ≤ b.1 ∧ b.1 + b.2 ≤ z) ∧ e ≤ z
  | [], e, z, _, h => by
    have := Option.some.inj h
    exact ⟨.nil, by simp, by omega⟩
  | c :: r, e, z, hb, h => by
    have h' : (if c.1 < e then none else chk (c.1 + c.2) r) = some z := h
    by_cases hc : c.1 < e
    · rw [if_pos hc] at h'; cases h'
    · rw [if_neg hc] at h'
      obtain ⟨h1, h2, h3⟩ := chk_asc r _ z (fun b hm => hb b (List.mem_cons_of_mem _ hm)) h'
      have hc2 := hb c (List.mem_cons_self ..)
      refine ⟨List.pairwise_cons.mpr ⟨fun b hm => (h2 b hm).1, h1⟩, fun b hm => ?_, by omega⟩
      rcases List.mem_cons.mp hm with e1 | e1
      · rw [e1]; exact ⟨by omega, h3⟩
      · have := h2 b e1
        exact ⟨by omega, this.2⟩
theorem asc_chk : ∀ (bs : List (Int × Int)) (e W : Int), e ≤ W → (∀ b ∈ bs, 1 ≤ b.2 ∧ e ≤ b.1 ∧ b.1 + b.2 ≤ W) → bs.Pairwise (fun b c => b.1 + b.2 ≤ c.1) → ∃ z, chk e bs = some z ∧ z ≤ W
  | [], e, W, he, _, _ => ⟨e, rfl, he⟩
  | c :: r, e, W, he, hb, hp => by
    have h0 := hb c (List.mem_cons_self ..)
    obtain ⟨h1, h2⟩ := List.pairwise_cons.mp hp
    obtain ⟨z, h3, h4⟩ := asc_chk r (c.1 + c.2) W h0.2.2 (fun b hm => by
      have h5 := hb b (List.mem_cons_of_mem _ hm)
      exact ⟨h5.1, h1 b hm, h5.2.2⟩) h2
    refine ⟨z, ?_, h4⟩
    show (if c.1 < e then none else chk (c.1 + c.2) r) = some z
    rw [if_neg (by omega)]
    exact h3
theorem in_ints (i : Int) : ∀ C : List Int, inV (.int i) (C.map V.int) = decide (i ∈ C)
  | [] => by simp [inV]
  | c :: r => by
    have ih := in_ints i r
    unfold inV at ih ⊢
    rw [List.map_cons, List.any_cons, ih]
    show ((c == i) || decide (i ∈ r)) = decide (i ∈ c :: r)
    by_cases h : c = i
    · subst h; simp
    · have h' : ¬ i = c := fun z => h z.symm
      simp [h, h']
theorem flat_ints (C : List Int) : (C.map V.int).all flatV = true := by
  rw [List.all_eq_true]
  intro x hx
  obtain ⟨n, _, e⟩ := List.mem_map.mp hx
  rw [← e]
  rfl
section
variable {P : Program} {w : World} {K : PySem.W.Frag} {mg : Str → Option Value} {base : Heap}
def spI : Sp := fun vs H Q _ => ∃ (x : V) (T : String), vs = [x] ∧ Ty H x T ∧ Q (.bl (isI x)) H
theorem ok_isint {f : Addr} {fd : FuncData} {k : Nat} (F : Fun K "is_integer" "is_integer" sIsInt f fd) (N : Nm5 K mg) : FnOk P w K mg base CX0 (k + 1) f fd ["value"] spI := by
  refine F.ok scIsInt (fun vs H Q E h => ?_) (fun cdv A outer s H vs Q E hr h => ?_)
  · obtain ⟨x, T, rfl, _⟩ := h
    rfl
  · obtain ⟨x, T, rfl, t, q⟩ := h
    refine ⟨_, pss_one (ps_ret (pe_and (pe_callB call_isi (by rfl) N.isinstance (by decide +kernel) (pa_cons (pv 0) (pa_cons (pe_bltn (v := .ty "int") (by rfl) N.int (by decide +kernel) rfl) pa_nil)))
      (pe_one (pe_not (pe_callB call_isi (by rfl) N.isinstance (by decide +kernel) (pa_cons (pv 0) (pa_cons (pe_bltn (v := .ty "bool") (by rfl) N.bool (by decide +kernel) rfl) pa_nil))))))), ?_⟩
    refine ⟨x, rfl, x, .ty "int", .type T, .type "int", _, rfl, .ty _, t.x, kit_ty t.kInt, _, rfl, ite2 (fun c => ?_) (fun c => ?_)⟩
    · refine ⟨x, rfl, x, .ty "bool", .type T, .type "bool", _, rfl, .ty _, t.x, kit_ty t.kBool, _, rfl, ?_⟩
      rw [t.isI, c] at q
      exact q
    · have c' : (T == "int" || T == "bool") = false := by
        cases e : (T == "int" || T == "bool") with
        | true => exact absurd e c
        | false => rfl
      rw [t.isI, c'] at q
      exact q
def geI (l : Int) : V → Bool
  | .int i => decide (l ≤ i)
  | _ => false
def spNum : Sp := fun vs H Q _ => ∃ (x : V) (T : String) (l : Int), vs = [x, .int l] ∧ Ty H x T ∧ Q (.bl (geI l x)) H
theorem ok_isnum {f : Addr} {fd : FuncData} {k : Nat} (F : Fun K "_law_is_number" "_law_is_number" sIsNum f fd) (N : Nm5 K mg) : FnOk P w K mg base CX0 (k + 1) f fd ["_law_thing", "_law_least"] spNum := by
  refine F.ok scIsNum (fun vs H Q E h => ?_) (fun cdv A outer s H vs Q E hr h => ?_)
  · obtain ⟨x, T, l, rfl, _⟩ := h
    rfl
  · obtain ⟨x, T, l, rfl, t, q⟩ := h
    refine ⟨_, pss_one (ps_ret (pe_and (pe_callB call_isi (by rfl) N.isinstance (by decide +kernel) (pa_cons (pv 0) (pa_cons (pe_bltn (v := .ty "int") (by rfl) N.int (by decide +kernel) rfl) pa_nil)))
      (pe_and (pe_not (pe_callB call_isi (by rfl) N.isinstance (by decide +kernel) (pa_cons (pv 0) (pa_cons (pe_bltn (v := .ty "bool") (by rfl) N.bool (by decide +kernel) rfl) pa_nil))))
      (pe_one (pe_cmpR op_ge (pv 0) (pv 1) (nomark _)))))), ?_⟩
    refine ⟨x, rfl, x, .ty "int", .type T, .type "int", _, rfl, .ty _, t.x, kit_ty t.kInt, _, rfl, ?_⟩
    cases t with
    | int i => exact iteT ⟨_, rfl, _, .ty "bool", .type "int", .type "bool", _, rfl, .ty _, (Ty.int i).x, kit_ty (Ty.kBool (H := H) (.int i)), _, rfl, _, rfl, iteT ⟨.int i, rfl, .int l, rfl, _, _, rfl, rfl, q⟩⟩
    | bl b => exact iteT ⟨_, rfl, _, .ty "bool", .type "bool", .type "bool", _, rfl, .ty _, (Ty.bl b).x, kit_ty (Ty.kBool (H := H) (.bl b)), _, rfl, _, rfl, iteF q⟩
    | non => exact iteF q
    | str z => exact iteF q
    | tup e => exact iteF q
    | lst e => exact iteF q
    | dK e => exact iteF q
def sizeB (C : List Int) : V → Bool
  | .int i => decide (i ∈ C)
  | _ => false
def spSize (K : PySem.W.Frag) : Sp := fun vs H Q _ => ∃ (c : Addr) (C : List Int) (x : V) (T : String), vs = [.ref c, x] ∧ SqT K H c (C.map V.int) ∧ Ty H x T ∧ Q (.bl (sizeB C x)) H
theorem ok_issize {f fI : Addr} {fd fdI : FuncData} {k : Nat} (F : Fun K "is_size" "is_size" sIsSize f fd) (N : Nm5 K mg) (FI : Fun K "is_integer" "is_integer" sIsInt fI fdI) (bI : Binds K fdI ["value"] []) (gI : mg "is_integer" = some (.ref fI)) : FnOk P w K mg base CX0 (k + 1 + 1) f fd ["chain", "value"] (spSize K) := by
  have GI : FnOk P w K mg base CX0 (k + 1) fI fdI ["value"] spI := ok_isint FI N
  refine F.ok scIsSize (fun vs H Q E h => ?_) (fun cdv A outer s H vs Q E hr h => ?_)
  · obtain ⟨c, C, x, T, rfl, _⟩ := h
    rfl
  · obtain ⟨c, C, x, T, rfl, hc, t, q⟩ := h
    refine ⟨_, pss_one (ps_ret (pe_and (pe_call GI hr (by rfl) gI FI.kp bI .nil pass0 (pa_cons (pv 1) pa_nil)) (pe_one (pe_cmpR op_in_seq (pv 1) (pv 0) (by rfl))))), ?_⟩
    refine ⟨x, rfl, x, T, rfl, t, _, rfl, ?_⟩
    cases x with
    | int i =>
      refine iteT ⟨.int i, rfl, .ref c, rfl, c, _, rfl, .inr hc, rfl, flat_ints C, ?_⟩
      have e : (if false = true then !inV (.int i) (C.map V.int) else inV (.int i) (C.map V.int)) = sizeB C (.int i) := by
        rw [if_neg Bool.false_ne_true, in_ints]
        rfl
      rw [← e] at q
      exact q
    | _ => exact iteF q
/-- a block wherever it lies -/
def IsBk (C : List Int) (H : Hp) (x : V) : Prop := ∃ b : Int × Int, BkAt H x b ∧ b.2 ∈ C ∧ b.1 % b.2 = 0
def spBlk (K : PySem.W.Frag) : Sp := fun vs H Q _ => ∃ (c : Addr) (C : List Int) (x : V), vs = [.ref c, x] ∧ SqT K H c (C.map V.int) ∧ (∀ z ∈ C, 1 ≤ z) ∧ Deep H x ∧ ∀ b, (b = true ↔ IsBk C H x) → Q (.bl b) H
theorem ok_isbl {f fI fZ : Addr} {fd fdI fdZ : FuncData} {k : Nat} (F : Fun K "is_block" "is_block" sIsBl f fd) (N : Nm5 K mg) (FI : Fun K "is_integer" "is_integer" sIsInt fI fdI) (bI : Binds K fdI ["value"] []) (gI : mg "is_integer" = some (.ref fI))
    (FZ : Fun K "is_size" "is_size" sIsSize fZ fdZ) (bZ : Binds K fdZ ["chain", "value"] []) (gZ : mg "is_size" = some (.ref fZ)) : FnOk P w K mg base CX0 (k + 1 + 1 + 1) f fd ["chain", "value"] (spBlk K) := by
  have GI : FnOk P w K mg base CX0 (k + 1) fI fdI ["value"] spI := ok_isint FI N
  have GZ : FnOk P w K mg base CX0 (k + 1 + 1) fZ fdZ ["chain", "value"] (spSize K) := ok_issize FZ N FI bI gI
  refine F.ok scIsBl (fun vs H Q E h => ?_) (fun cdv A outer s H vs Q E hr h => ?_)
  · obtain ⟨c, C, x, rfl, _⟩ := h
    rfl
  · obtain ⟨c, C, x, rfl, hc, hC, d, q⟩ := h
    have hr1 : Room (k + 1) (A.deeper (envOfC "is_block" (defScope sIsBl) s.heap.objs.size f cdv)) := hr.mono (by omega)
    refine ⟨_, (pss_cons (ps_if (PW.pt (pw_or (pt_not (pt_val (pe_callB call_isi (by rfl) N.isinstance (by decide +kernel) (pa_cons (pv 1) (pa_cons (pe_bltn (v := .ty "tuple") (by rfl) N.tuple (by decide +kernel) rfl) pa_nil))))) (pw_or1 (pt_cmpR op_ne (pe_callB call_len_seq (by rfl) N.len (by decide +kernel) (pa_cons (pv 1) pa_nil)) pe_int (nomark _)))))
       (pss_one (ps_ret pe_bl)) pss_nil)
       (pss_cons (ps_asg (pv 1) (pg_tup (by rfl) (pgs_cons (pg_name (i := 2) scIsBl.nd rfl (.inl rfl)) (pgs_cons (pg_name (i := 3) scIsBl.nd rfl (.inl rfl)) pgs_nil))))
       (pss_one (ps_ret (pe_and (pe_call GI hr1 (by rfl) gI FI.kp bI .nil pass0 (pa_cons (pv 2) pa_nil)) (pe_and (pe_call GZ hr (by rfl) gZ FZ.kp bZ .nil pass0 (pa_cons (pv 0) (pa_cons (pv 3) pa_nil))) (pe_one (pe_cmpR op_eq (pe_op op_mod (pv 2) (pv 3)) pe_int (nomark _))))))))), ?_⟩
    have no : (IsBk C H x → False) → Q (.bl false) H := fun h => q false ⟨fun z => (Bool.false_ne_true z).elim, fun z => (h z).elim⟩
    cases d with
    | @base x T t n =>
      have eT : (T == "tuple") = false := beq_eq_false_iff_ne.mpr n
      refine ⟨x, rfl, x, .ty "tuple", .type T, .type "tuple", _, rfl, .ty _, t.x, kit_ty t.kTup, _, rfl, ?_⟩
      rw [eT]
      refine iteT (no fun ⟨b, ⟨u, e1, e2⟩, _⟩ => ?_)
      subst e1
      cases t with
      | tup e => exact n rfl
      | lst e => rw [e2] at e; cases e
      | dK e => rw [e2] at e; cases e
    | @tup a xs e h _ =>
      have t : Ty H (.ref a) "tuple" := .tup e
      refine ⟨.ref a, rfl, .ref a, .ty "tuple", .type "tuple", .type "tuple", _, rfl, .ty _, t.x, kit_ty t.kTup, _, rfl, iteF ?_⟩
      refine ⟨.ref a, rfl, a, xs, rfl, .inr (.inl (.inl e)), rfl, _, rfl, ?_⟩
      have bk : ∀ b, BkAt H (.ref a) b → xs = [.int b.1, .int b.2] := fun b ⟨u, e1, e2⟩ => by
        cases e1
        rw [e] at e2
        injection e2 with e2
        injection e2 with e2
      by_cases hl : xs.length = 2
      · have hv : V.int ((xs.length : Nat) : Int) = V.int 2 := by rw [hl]; rfl
        refine iteNS hv ?_
        obtain ⟨y, z, rfl⟩ : ∃ y z, xs = [y, z] := by
          match xs, hl with
          | [y, z], _ => exact ⟨y, z, rfl⟩
        obtain ⟨Ty1, ty1⟩ := (h y (by simp)).ty
        obtain ⟨Ty2, ty2⟩ := (h z (by simp)).ty
        refine ⟨.ref a, rfl, a, _, rfl, .inl (.inl e), rfl, _, _, rfl, _, _, rfl, rfl, ?_⟩
        refine ⟨y, rfl, y, Ty1, rfl, ty1, _, rfl, ?_⟩
        cases y with
        | int i =>
          refine iteT ⟨.ref c, rfl, z, rfl, c, C, z, Ty2, rfl, hc, ty2, _, rfl, ?_⟩
          cases z with
          | int j =>
            by_cases hj : j ∈ C
            · rw [show sizeB C (.int j) = true from decide_eq_true hj]
              have hj1 := hC j hj
              refine iteT ⟨.int i, rfl, .int j, rfl, _, _, rfl, rfl, (by omega : 0 < j), rfl, q _ ?_⟩
              rw [decide_eq_true_eq]
              constructor
              · intro z
                exact ⟨(i, j), ⟨a, rfl, e⟩, hj, V.int.inj z⟩
              · rintro ⟨b, hb, hb2, hb3⟩
                have := bk b hb
                injection this with h1 h2
                injection h1 with h1
                injection h2 with h2 _
                injection h2 with h2
                subst h1; subst h2
                exact congrArg V.int hb3
            · rw [show sizeB C (.int j) = false from decide_eq_false hj]
              refine iteF (no fun ⟨b, hb, hb2, hb3⟩ => ?_)
              have := bk b hb
              injection this with h1 h2
              injection h2 with h2 _
              injection h2 with h2
              subst h2
              exact hj hb2
          | _ =>
            refine iteF (no fun ⟨b, hb, hb2, hb3⟩ => ?_)
            have := bk b hb
            injection this with h1 h2
            injection h2 with h2 _
            cases h2
        | _ =>
          refine iteF (no fun ⟨b, hb, hb2, hb3⟩ => ?_)
          have := bk b hb
          injection this with h1 h2
          cases h1
      · have hv : ¬ (V.int ((xs.length : Nat) : Int) = V.int 2) := fun z => hl (by have := V.int.inj z; omega)
        rw [decide_eq_false hv]
        refine iteT (no fun ⟨b, hb, hb2, hb3⟩ => ?_)
        rw [bk b hb] at hl
        exact hl rfl
def IsSt (C : List Int) (W : Int) (H : Hp) (x : V) : Prop := ∃ t bs, x = .ref t ∧ StAt H t bs ∧ St C W bs
def spSt : Sp := fun vs H Q _ => ∃ (c : Addr) (C : List Int) (L m : Int) (x : V), vs = [.ref c, .int m, x] ∧ H c = some (.tup ((C ++ [L]).map V.int)) ∧ (∀ z ∈ C ++ [L], 1 ≤ z ∧ z ≤ L) ∧ L ≤ 2000 ∧ 0 ≤ m ∧ m ≤ 2000 ∧ Deep H x ∧ (∀ a xs, x = .ref a → H a = some (.tup xs) → xs.length ≤ 5000) ∧
  ∀ H' b, Same H H' → (b = true ↔ IsSt (C ++ [L]) (m * L) H x) → Q (.bl b) H'
theorem ok_isst {f fI fZ fB : Addr} {fd fdI fdZ fdB : FuncData} {k : Nat} (F : Fun K "is_state" "is_state" sIsSt f fd) (N : Nm5 K mg) (FI : Fun K "is_integer" "is_integer" sIsInt fI fdI) (bI : Binds K fdI ["value"] []) (gI : mg "is_integer" = some (.ref fI))
    (FZ : Fun K "is_size" "is_size" sIsSize fZ fdZ) (bZ : Binds K fdZ ["chain", "value"] []) (gZ : mg "is_size" = some (.ref fZ)) (FB : Fun K "is_block" "is_block" sIsBl fB fdB) (bB : Binds K fdB ["chain", "value"] []) (gB : mg "is_block" = some (.ref fB)) : FnOk P w K mg base CX0 (k + 1 + 1 + 1 + 1) f fd ["chain", "pages", "value"] spSt := by
  have GB : FnOk P w K mg base CX0 (k + 1 + 1 + 1) fB fdB ["chain", "value"] (spBlk K) := ok_isbl FB N FI bI gI FZ bZ gZ
  refine F.ok scIsSt (fun vs H Q E h => ?_) (fun cdv A outer s H vs Q E hr h => ?_)
  · obtain ⟨c, C, L, m, x, rfl, _⟩ := h
    rfl
  · obtain ⟨c, C, L, m, x, rfl, hc, hC, hL, m0, m1, d, hlen, q⟩ := h
    refine ⟨_, (pss_cons (ps_if (PW.pt (pw_or (pt_not (pt_val (pe_callB call_isi (by rfl) N.isinstance (by decide +kernel) (pa_cons (pv 2) (pa_cons (pe_bltn (v := .ty "tuple") (by rfl) N.tuple (by decide +kernel) rfl) pa_nil))))) (pw_or1 (pt_not (pt_val (pe_callB (cr_all rfl) (by rfl) N.all (by decide +kernel) (pa_cons (pe_lc (own := [("item", 6)]) (g := (gName 6)) (tt := tYes) (by rfl) scIsSt.nd (pi_tup (pv 2)) (blkOk_by (N := scIsStN) (sc := defScope scIsStS) (by decide +kernel)) (fun _ _ _ _ _ => (pg_name (i := 6) scIsSt.nd rfl (.inl rfl))) (fun _ _ _ _ _ => pts_nil) (fun _ _ _ _ _ => (pe_call GB hr (by rfl) gB FB.kp bB .nil pass0 (pa_cons (pv 0) (pa_cons (pv 6) pa_nil))))) pa_nil)))))))
       (pss_one (ps_ret pe_bl)) pss_nil)
       (pss_cons (ps_set (i := 3) scIsSt.nd rfl (.inl rfl) pe_int)
       (pss_cons (ps_for PassesOwn.never rfl (pi_tup (pv 2)) (pg_tup (by rfl) (pgs_cons (pg_name (i := 4) scIsSt.nd rfl (.inl rfl)) (pgs_cons (pg_name (i := 5) scIsSt.nd rfl (.inl rfl)) pgs_nil)))
       (pss_cons (ps_if (pt_cmpR op_lt (pv 4) (pv 3) (nomark _))
       (pss_one (ps_ret pe_bl)) pss_nil)
       (pss_one (ps_set (i := 3) scIsSt.nd rfl (.inl rfl) (pe_op op_add (pv 4) (pv 5))))))
       (pss_one (ps_ret (pe_cmpR op_le (pv 3) (pe_op op_mul (pv 1) (pe_ix ix_tup (pv 0) (pe_un un_neg pe_int) (fun _ _ => rfl))) (nomark _))))))), ?_⟩
    have no : ∀ {H' : Hp}, Same H H' → (IsSt (C ++ [L]) (m * L) H x → False) → Q (.bl false) H' := fun sm h => q _ false sm ⟨fun z => (Bool.false_ne_true z).elim, fun z => (h z).elim⟩
    cases d with
    | @base x T t n =>
      have eT : (T == "tuple") = false := beq_eq_false_iff_ne.mpr n
      refine ⟨x, rfl, x, .ty "tuple", .type T, .type "tuple", _, rfl, .ty _, t.x, kit_ty t.kTup, _, rfl, ?_⟩
      rw [eT]
      refine iteT (no (Same.refl H) fun ⟨u, bs, e1, ⟨zs, e2, _⟩, _⟩ => ?_)
      subst e1
      cases t with
      | tup e => exact n rfl
      | lst e => rw [e2] at e; cases e
      | dK e => rw [e2] at e; cases e
    | @tup a xs e h _ =>
      have t : Ty H (.ref a) "tuple" := .tup e
      have lx := hlen a xs rfl e
      refine ⟨.ref a, rfl, .ref a, .ty "tuple", .type "tuple", .type "tuple", _, rfl, .ty _, t.x, kit_ty t.kTup, _, rfl, iteF ?_⟩
      have hT : SqT K H a xs := .inl (.inl e)
      refine ⟨.ref a, rfl, a, rfl, ⟨xs, hT⟩, fun D nD => lc_tup (K := K) (a := a) (xs := xs) (fun i H2 => Same H H2 ∧ ∃ gs : List Bool, H2 D = some (.lst (gs.map V.bl)) ∧ gs.length = i ∧ (gs.all id = true ↔ ∀ y ∈ xs.take i, IsBk (C ++ [L]) H y)) ⟨same_upd nD, [], upd_same, rfl, by simp⟩ (fun i H2 _ p => p.1.tup hT) (fun i y H2 hy p => ?_) (fun H2 p => ?_)⟩
      · obtain ⟨sm, gs, hD, hl, hg⟩ := p
        have hm := List.mem_of_getElem? hy
        refine ⟨rfl, .ref c, rfl, y, rfl, c, C ++ [L], y, rfl, .inl (.inl (sm _ _ hc)), fun z hz => (hC z hz).1, (h y hm).same sm, fun b hb => ⟨_, hD, ?_, fun b2 o ho => ?_, gs ++ [b], ?_, ?_, ?_⟩⟩
        · rw [List.length_map, hl]
          have := (List.getElem?_eq_some_iff.mp hy).1
          exact Nat.lt_of_lt_of_le (show i < 5001 by omega) (by decide)
        · rw [upd_ne (ne_of_none ho nD)]
          exact sm _ _ ho
        · rw [upd_same, List.map_append]
          rfl
        · rw [List.length_append, List.length_singleton, hl]
        · rw [List.all_append, Bool.and_eq_true, hg, List.take_add_one, hy]
          have e1 : ([b].all id = true) ↔ IsBk (C ++ [L]) H2 y := by
            rw [← hb]
            simp
          rw [e1]
          have e2 : IsBk (C ++ [L]) H2 y ↔ IsBk (C ++ [L]) H y := by
            constructor
            · rintro ⟨b, ⟨u, e3, e4⟩, e5⟩
              refine ⟨b, ⟨u, e3, ?_⟩, e5⟩
              subst e3
              have dy := h _ hm
              cases dy with
              | base t n =>
                have t2 := t.same sm
                cases t2 with
                | tup e => exact absurd rfl n
                | lst e => rw [e4] at e; cases e
                | dK e => rw [e4] at e; cases e
              | tup e6 _ _ =>
                have := sm _ _ e6
                rw [e4] at this
                injection this with this
                rw [this]
                exact e6
            · rintro ⟨b, ⟨u, e3, e4⟩, e5⟩
              exact ⟨b, ⟨u, e3, sm _ _ e4⟩, e5⟩
          rw [e2]
          simp only [List.mem_append]
          constructor
          · rintro ⟨h1, h2⟩ y2 (h3 | h3)
            · exact h1 y2 h3
            · simp at h3
              rw [h3]
              exact h2
          · intro h1
            exact ⟨fun y2 h3 => h1 y2 (.inl h3), h1 y (.inr (by simp))⟩
      · obtain ⟨sm, gs, hD, hl, hg⟩ := p
        rw [List.take_length] at hg
        refine ⟨D, _, rfl, .inl (.inl hD), _, rfl, ?_⟩
        by_cases ca : gs.all id = true
        · rw [ca]
          refine iteF ?_
          have hbk := hg.mp ca
          have bl : BL H xs (xs.map (kH H)) := BL.of fun y hy => by
            obtain ⟨b, hb, _⟩ := hbk y hy
            exact ⟨b, hb⟩
          generalize hbs : xs.map (kH H) = bs at bl
          have hin : ∀ b ∈ bs, b.2 ∈ C ++ [L] ∧ b.1 % b.2 = 0 := fun b hb => by
            rw [← hbs] at hb
            obtain ⟨y, hy, e3⟩ := List.mem_map.mp hb
            obtain ⟨b2, hb2, h3, h4⟩ := hbk y hy
            rw [hb2.k] at e3
            rw [← e3]
            exact ⟨h3, h4⟩
          have hpos : ∀ b ∈ bs, 1 ≤ b.2 := fun b hb => (hC _ (hin b hb).1).1
          have hT2 := sm.tup hT
          have mL0 : 0 ≤ m * L := Int.mul_nonneg m0 (by have := hC L (by simp); omega)
          have key : IsSt (C ++ [L]) (m * L) H (.ref a) ↔ ∃ z, chk 0 bs = some z ∧ z ≤ m * L := by
            constructor
            · rintro ⟨u, cs, e1, ⟨zs, e2, b2⟩, st⟩
              cases e1
              rw [e] at e2
              injection e2 with e2
              injection e2 with e2
              subst e2
              have := bl.fun b2
              subst this
              exact asc_chk _ 0 _ mL0 (fun b hb => by obtain ⟨_, h1, h2, _, h3⟩ := st.ok b hb; exact ⟨h1, h2, h3⟩) st.asc
            · rintro ⟨z, h1, h2⟩
              obtain ⟨h3, h4, _⟩ := chk_asc bs 0 z hpos h1
              exact ⟨a, bs, rfl, ⟨xs, e, bl⟩, fun b hb => by have h5 := hin b hb; have h6 := h4 b hb; exact ⟨h5.1, hpos b hb, h6.1, h5.2, by omega⟩, h3⟩
          refine ⟨.ref a, rfl, a, rfl, ⟨_, hT2⟩, for_tup (K := K) (a := a) (xs := xs) (fun i σ H3 => ∃ y4 y5 y6 z, σ = [some (.ref c), some (.int m), some (.ref a), some (.int z), y4, y5, y6] ∧ H3 = H2 ∧ chk 0 (bs.take i) = some z) ⟨_, _, _, 0, rfl, rfl, rfl⟩ (fun i σ H3 _ p => ?_) (fun i y σ H3 hy p => ?_) (fun σ H3 p => ?_)⟩
          · obtain ⟨_, _, _, _, _, rfl, _⟩ := p
            exact hT2
          · obtain ⟨y4, y5, y6, z, rfl, rfl, hz⟩ := p
            obtain ⟨b, hb, u, e3, e4⟩ := bl.get hy
            subst e3
            refine ⟨u, _, rfl, .inl (.inl (sm _ _ e4)), rfl, _, _, rfl, _, _, rfl, rfl, .int b.1, rfl, .int z, rfl, _, _, rfl, rfl, _, rfl, ite2 (fun cc => ?_) (fun cc => ?_)⟩
            · have c1 : b.1 < z := of_decide_eq_true cc
              refine no sm fun st => ?_
              obtain ⟨zz, h1, _⟩ := key.mp st
              have h2 : chk 0 (bs.take (i + 1)) = none := by
                rw [List.take_add_one, hb]
                show chk 0 (bs.take i ++ [b]) = none
                rw [chk_snoc, hz]
                show (if b.1 < z then none else _) = none
                rw [if_pos c1]
              have h3 := chk_app_none _ (bs.drop (i + 1)) 0 h2
              rw [List.take_append_drop, h1] at h3
              cases h3
            · have c1 : ¬ b.1 < z := fun h => cc (decide_eq_true h)
              refine ⟨.int b.1, rfl, .int b.2, rfl, _, _, rfl, rfl, _, _, _, b.1 + b.2, rfl, rfl, ?_⟩
              rw [List.take_add_one, hb]
              show chk 0 (bs.take i ++ [b]) = _
              rw [chk_snoc, hz]
              show (if b.1 < z then none else _) = _
              rw [if_neg c1]
          · obtain ⟨y4, y5, y6, z, rfl, rfl, hz⟩ := p
            rw [List.take_of_length_le (by rw [← bl.len]; exact Nat.le_refl _)] at hz
            have gl : atI ((C ++ [L]).map V.int) (-1) = some (.int L) := by
              rw [List.map_append]
              exact atI_last _ _
            refine ⟨.int z, rfl, .int m, rfl, .ref c, rfl, 1, rfl, c, _, -1, _, rfl, rfl, .inl (.inl (sm _ _ hc)), gl, m, L, rfl, rfl, .inl ⟨by omega, by omega⟩, _, _, rfl, rfl, q _ _ sm ?_⟩
            rw [decide_eq_true_eq, key, hz]
            constructor
            · exact fun h => ⟨z, rfl, h⟩
            · rintro ⟨zz, h1, h2⟩
              have := Option.some.inj h1
              omega
        · have ca' : gs.all id = false := by
            cases ez : gs.all id with
            | true => exact absurd ez ca
            | false => rfl
          rw [ca']
          refine iteT (no sm fun st => ca (hg.mpr ?_))
          obtain ⟨u, cs, e1, ⟨zs, e2, b2⟩, st⟩ := st
          cases e1
          rw [e] at e2
          injection e2 with e2
          injection e2 with e2
          subst e2
          intro y hy
          obtain ⟨i, hi⟩ := List.mem_iff_getElem?.mp hy
          obtain ⟨b, hb, hb2⟩ := b2.get hi
          obtain ⟨h1, h2, h3, h4, h5⟩ := st.ok b (List.mem_of_getElem? hb)
          exact ⟨b, hb2, h1, h4⟩
end
end Ph

namespace Ph
open PySem PySem.Spec PyProof.Rows L2
abbrev sDue : Stmt := topS 15
abbrev scDueS : Stmt := sDue
abbrev scDueN : List Str := ["_law_links_here", "_law_many", "_law_thing", "_law_taken", "_law_last", "_law_one", "_law_start", "_law_words", "_law_word"]
theorem scDue : FnScope ["_law_links_here", "_law_many", "_law_thing", "_law_taken", "_law_last", "_law_one", "_law_start", "_law_words", "_law_word"] ["_law_links_here", "_law_many", "_law_thing"] (defScope sDue) := ⟨rfl, rfl, rfl, by decide +kernel, rfl, by decide +kernel, by decide +kernel⟩
theorem asc_of {C : List Int} {W : Int} {bs : List (Int × Int)} (h0 : ∀ b ∈ bs, okB C W b) (h1 : bs.Pairwise apart) (h2 : bs.Pairwise fun b c => b.1 < c.1) : bs.Pairwise fun b c => b.1 + b.2 ≤ c.1 :=
  (List.pairwise_and_iff.mpr ⟨h1, h2⟩).imp_of_mem fun {b c} hb hc h => by
    obtain ⟨h3, h4⟩ := h
    obtain ⟨_, k1, _⟩ := h0 c hc
    rcases h3 with h5 | h5
    · exact h5
    · omega
section
variable {P : Program} {w : World} {K : PySem.W.Frag} {mg : Str → Option Value} {base : Heap}
theorem ok_due {f fN : Addr} {fd fdN : FuncData} {k : Nat} (F : Fun K "_law_due" "_law_due" sDue f fd) (N : Nm5 K mg) (FN : Fun K "_law_is_number" "_law_is_number" sIsNum fN fdN) (bN : Binds K fdN ["_law_thing", "_law_least"] []) (gN : mg "_law_is_number" = some (.ref fN)) :
    FnOk P w K mg base CX0 (k + 1 + 1) f fd ["_law_links_here", "_law_many", "_law_thing"] spSt := by
  have GN : FnOk P w K mg base CX0 (k + 1) fN fdN ["_law_thing", "_law_least"] spNum := ok_isnum FN N
  refine F.ok scDue (fun vs H Q E h => ?_) (fun cdv A outer s H vs Q E hr h => ?_)
  · obtain ⟨c, C, L, m, x, rfl, _⟩ := h
    rfl
  · obtain ⟨c, C, L, m, x, rfl, hc, hC, hL, m0, m1, d0, hlen, q⟩ := h
    refine ⟨_, (pss_cons (ps_if (pt_not (pt_val (pe_callB call_isi (by rfl) N.isinstance (by decide +kernel) (pa_cons (pv 2) (pa_cons (pe_bltn (v := .ty "tuple") (by rfl) N.tuple (by decide +kernel) rfl) pa_nil)))))
       (pss_one (ps_ret pe_bl)) pss_nil)
       (pss_cons (ps_asg (pe_tup (pa_cons pe_dnewK (pa_cons (pe_un un_neg pe_int) pa_nil))) (pg_tup (by rfl) (pgs_cons (pg_name (i := 3) scDue.nd rfl (.inr rfl)) (pgs_cons (pg_name (i := 4) scDue.nd rfl (.inl rfl)) pgs_nil))))
       (pss_cons (ps_for PassesOwn.never rfl (pi_tup (pv 2)) (pg_name (i := 5) scDue.nd rfl (.inl rfl))
       (pss_cons (ps_if (PW.pt (pw_or (pt_not (pt_val (pe_callB call_isi (by rfl) N.isinstance (by decide +kernel) (pa_cons (pv 5) (pa_cons (pe_bltn (v := .ty "tuple") (by rfl) N.tuple (by decide +kernel) rfl) pa_nil))))) (pw_or1 (pt_cmpR op_ne (pe_callB call_len_seq (by rfl) N.len (by decide +kernel) (pa_cons (pv 5) pa_nil)) pe_int (nomark _)))))
       (pss_one (ps_ret pe_bl)) pss_nil)
       (pss_cons (ps_if (PW.pt (pw_or (pt_not (pt_val (pe_call GN hr (by rfl) gN FN.kp bN .nil pass0 (pa_cons (pe_ix ix_tup (pv 5) pe_int (fun _ _ => rfl)) (pa_cons pe_int pa_nil))))) (pw_or1 (pt_not (pt_val (pe_call GN hr (by rfl) gN FN.kp bN .nil pass0 (pa_cons (pe_ix ix_tup (pv 5) pe_int (fun _ _ => rfl)) (pa_cons pe_int pa_nil))))))))
       (pss_one (ps_ret pe_bl)) pss_nil)
       (pss_cons (ps_asg (pv 5) (pg_tup (by rfl) (pgs_cons (pg_name (i := 6) scDue.nd rfl (.inl rfl)) (pgs_cons (pg_name (i := 7) scDue.nd rfl (.inl rfl)) pgs_nil))))
       (pss_cons (ps_if (PW.pt (pw_or (pt_cmpR op_notIn_seq (pv 7) (pv 0) (by rfl)) (pw_or (pt_cmpR op_ne (pe_op op_mod (pv 6) (pv 7)) pe_int (nomark _)) (pw_or (pt_cmpR op_gt (pe_op op_add (pv 6) (pv 7)) (pe_op op_mul (pv 1) (pe_ix ix_tup (pv 0) (pe_un un_neg pe_int) (fun _ _ => rfl))) (nomark _)) (pw_or1 (pt_cmpR op_le (pv 6) (pv 4) (nomark _)))))))
       (pss_one (ps_ret pe_bl)) pss_nil)
       (pss_cons (ps_if (pt_val (pe_callB (cr_any rfl) (by rfl) N.any (by decide +kernel) (pa_cons (pe_lc (own := [("_law_word", 8)]) (g := (gName 8)) (tt := tYes) (by rfl) scDue.nd (pi_range2 (by rfl) N.range (pa_cons (pv 6) (pa_cons (pe_op op_add (pv 6) (pv 7)) pa_nil))) (blkOk_by (N := scDueN) (sc := defScope scDueS) (by decide +kernel)) (fun _ _ _ _ _ => (pg_name (i := 8) scDue.nd rfl (.inl rfl))) (fun _ _ _ _ _ => pts_nil) (fun _ _ _ _ _ => (pe_cmp (pc_din (hu_of hr) (pv 8) (pv 3))))) pa_nil)))
       (pss_one (ps_ret pe_bl)) pss_nil)
       (pss_cons (ps_expr (pe_bm PySem.F.plainAttrs_dict PySem.F.slot_dict_update PySem.F.type_dict_update mtd_update (pv 3) (pa_cons (pe_callTy (call_dictP rfl) (by rfl) N.dict (by decide +kernel) (pa_cons (pe_lc (own := [("_law_word", 8)]) (g := (gName 8)) (tt := tYes) (by rfl) scDue.nd (pi_range2 (by rfl) N.range (pa_cons (pv 6) (pa_cons (pe_op op_add (pv 6) (pv 7)) pa_nil))) (blkOk_by (N := scDueN) (sc := defScope scDueS) (by decide +kernel)) (fun _ _ _ _ _ => (pg_name (i := 8) scDue.nd rfl (.inl rfl))) (fun _ _ _ _ _ => pts_nil) (fun _ _ _ _ _ => (pe_tup (pa_cons (pv 8) (pa_cons pe_bl pa_nil))))) pa_nil)) pa_nil)))
       (pss_one (ps_set (i := 4) scDue.nd rfl (.inl rfl) (pv 6))))))))))
       (pss_one (ps_ret pe_bl))))), ?_⟩
    have no : ∀ {H' : Hp}, Same H H' → (IsSt (C ++ [L]) (m * L) H x → False) → Q (.bl false) H' := fun sm h => q _ false sm ⟨fun z => (Bool.false_ne_true z).elim, fun z => (h z).elim⟩
    cases d0 with
    | @base x T t n =>
      have eT : (T == "tuple") = false := beq_eq_false_iff_ne.mpr n
      refine ⟨x, rfl, x, .ty "tuple", .type T, .type "tuple", _, rfl, .ty _, t.x, kit_ty t.kTup, _, rfl, ?_⟩
      rw [eT]
      refine iteT (no (Same.refl H) fun ⟨u, bs, e1, ⟨zs, e2, _⟩, _⟩ => ?_)
      subst e1
      cases t with
      | tup e => exact n rfl
      | lst e => rw [e2] at e; cases e
      | dK e => rw [e2] at e; cases e
    | @tup a xs e h _ =>
      have t : Ty H (.ref a) "tuple" := .tup e
      have lx := hlen a xs rfl e
      refine ⟨.ref a, rfl, .ref a, .ty "tuple", .type "tuple", .type "tuple", _, rfl, .ty _, t.x, kit_ty t.kTup, _, rfl, iteF ?_⟩
      refine fun d nd => ⟨1, rfl, (by show 2 ≤ sizeLine; decide), fun u nu => ⟨u, _, rfl, .inl (.inl upd_same), rfl, _, _, rfl, _, _, rfl, rfl, ?_⟩⟩
      have sd := same_upd (o := .dK []) nd
      have su := same_upd (o := .tup [.ref d, .int (-1)]) nu
      have mL0 : 0 ≤ m * L := Int.mul_nonneg m0 (by have := hC L (by simp); omega)
      have hmL : m * L ≤ 4000000 := by
        have h1 : m * L ≤ 2000 * 2000 := Int.mul_le_mul m1 hL (by have := hC L (by simp); omega) (by decide)
        omega
      have gl : atI ((C ++ [L]).map V.int) (-1) = some (.int L) := by
        rw [List.map_append]
        exact atI_last _ _
      have hT : SqT K H a xs := .inl (.inl e)
      have fut : IsSt (C ++ [L]) (m * L) H (.ref a) → ∃ cs, BL H xs cs ∧ St (C ++ [L]) (m * L) cs := by
        rintro ⟨u, cs, e1, ⟨zs, e2, b2⟩, st⟩
        cases e1
        rw [e] at e2
        injection e2 with e2
        injection e2 with e2
        subst e2
        exact ⟨cs, b2, st⟩
      refine ⟨.ref a, rfl, a, rfl, ⟨xs, (sd.trans su).tup hT⟩, for_tup (K := K) (a := a) (xs := xs) (fun i σ H2 => ∃ y5 y6 y7 y8 last kvs bs, σ = [some (.ref c), some (.int m), some (.ref a), some (.ref d), some (.int last), y5, y6, y7, y8] ∧ Same H H2 ∧ H2 d = some (.dK kvs) ∧ BL H (xs.take i) bs ∧ (∀ b ∈ bs, okB (C ++ [L]) (m * L) b) ∧ bs.Pairwise apart ∧ bs.Pairwise (fun b c => b.1 < c.1) ∧
          (∀ b ∈ bs, b.1 ≤ last) ∧ (last = -1 ∨ ∃ b ∈ bs, b.1 = last) ∧ (∀ w : Int, hasI kvs w = true ↔ ∃ b ∈ bs, b.1 ≤ w ∧ w < b.1 + b.2) ∧ kvs.length ≤ i * 2000)
        ⟨none, none, none, none, -1, [], [], rfl, sd.trans su, su _ _ upd_same, .nil, by simp, .nil, .nil, by simp, .inl rfl, fun w => ?_, Nat.zero_le _⟩ (fun i σ H2 _ p => ?_) (fun i y σ H2 hy p => ?_) (fun σ H2 p => ?_)⟩
      · constructor
        · intro z; exact absurd z (by unfold hasI; rw [valV_nil]; simp)
        · rintro ⟨b, hb, _⟩; cases hb
      · obtain ⟨_, _, _, _, _, _, _, _, sm, _⟩ := p
        exact sm.tup hT
      · obtain ⟨y5, y6, y7, y8, last, kvs, bs, rfl, sm, hd2, hbl, hok, hap, hlt, hla, hl1, hk, hkl⟩ := p
        have hi : i < xs.length := (List.getElem?_eq_some_iff.mp hy).1
        have stp : IsSt (C ++ [L]) (m * L) H (.ref a) → ∃ b, BkAt H y b ∧ okB (C ++ [L]) (m * L) b ∧ ∀ b' ∈ bs, b'.1 + b'.2 ≤ b.1 := fun st => by
          obtain ⟨cs, b2, st⟩ := fut st
          obtain ⟨b, hb, hb2⟩ := b2.get hy
          have e1 : bs = cs.take i := hbl.fun (b2.take i)
          refine ⟨b, hb2, st.ok b (List.mem_of_getElem? hb), fun b' hb' => ?_⟩
          have h1 : (cs.take (i + 1)).Pairwise fun b c => b.1 + b.2 ≤ c.1 := st.asc.sublist (List.take_sublist _ _)
          rw [List.take_add_one, hb] at h1
          rw [e1] at hb'
          exact (List.pairwise_append.mp h1).2.2 b' hb' b (by simp)
        have hDy := h y (List.mem_of_getElem? hy)
        cases hDy with
        | @base y T t n =>
          have eT : (T == "tuple") = false := beq_eq_false_iff_ne.mpr n
          refine ⟨y, rfl, y, .ty "tuple", .type T, .type "tuple", _, rfl, .ty _, (t.same sm).x, kit_ty t.kTup, _, rfl, ?_⟩
          rw [eT]
          refine iteT (no sm fun st => ?_)
          obtain ⟨b, ⟨v, e1, e2⟩, _⟩ := stp st
          subst e1
          cases t with
          | tup e => exact n rfl
          | lst e => rw [e2] at e; cases e
          | dK e => rw [e2] at e; cases e
        | @tup ay ys ey hys _ =>
          have ty : Ty H2 (.ref ay) "tuple" := .tup (sm _ _ ey)
          refine ⟨.ref ay, rfl, .ref ay, .ty "tuple", .type "tuple", .type "tuple", _, rfl, .ty _, ty.x, kit_ty ty.kTup, _, rfl, iteF ?_⟩
          have hTy : SqT K H2 ay ys := .inl (.inl (sm _ _ ey))
          refine ⟨.ref ay, rfl, ay, ys, rfl, .inr hTy, rfl, _, rfl, ?_⟩
          have bk : ∀ b, BkAt H (.ref ay) b → ys = [.int b.1, .int b.2] := fun b ⟨u, e1, e2⟩ => by
            cases e1
            rw [ey] at e2
            injection e2 with e2
            injection e2 with e2
          by_cases hl : ys.length = 2
          · have hv : V.int ((ys.length : Nat) : Int) = V.int 2 := by rw [hl]; rfl
            refine iteNS hv ?_
            obtain ⟨y1, y2, rfl⟩ : ∃ y z, ys = [y, z] := by
              match ys, hl with
              | [y, z], _ => exact ⟨y, z, rfl⟩
            obtain ⟨T1, ty1⟩ := (hys y1 (by simp)).ty
            obtain ⟨T2, ty2⟩ := (hys y2 (by simp)).ty
            refine ⟨.ref ay, rfl, ay, _, 0, y1, rfl, rfl, hTy, atI_nat (j := 0) rfl, y1, T1, 0, rfl, ty1.same sm, _, rfl, ?_⟩
            by_cases g1 : geI 0 y1 = true
            · rw [g1]
              refine iteF ?_
              refine ⟨.ref ay, rfl, ay, _, 1, y2, rfl, rfl, hTy, atI_nat (j := 1) rfl, y2, T2, 1, rfl, ty2.same sm, _, rfl, ?_⟩
              by_cases g2 : geI 1 y2 = true
              · rw [g2]
                refine iteF ?_
                obtain ⟨st, rfl, st0⟩ : ∃ i : Int, y1 = .int i ∧ 0 ≤ i := by
                  cases y1 with
                  | int i => exact ⟨i, rfl, of_decide_eq_true g1⟩
                  | _ => exact absurd g1 Bool.false_ne_true
                obtain ⟨wd, rfl, wd1⟩ : ∃ i : Int, y2 = .int i ∧ 1 ≤ i := by
                  cases y2 with
                  | int i => exact ⟨i, rfl, of_decide_eq_true g2⟩
                  | _ => exact absurd g2 Bool.false_ne_true
                have stp2 : IsSt (C ++ [L]) (m * L) H (.ref a) → okB (C ++ [L]) (m * L) (st, wd) ∧ ∀ b' ∈ bs, b'.1 + b'.2 ≤ st := fun z => by
                  obtain ⟨b, hb, h1, h2⟩ := stp z
                  have h3 := bk b hb
                  injection h3 with h4 h5
                  injection h4 with h4
                  injection h5 with h5 _
                  injection h5 with h5
                  subst h4; subst h5
                  exact ⟨h1, h2⟩
                refine ⟨.ref ay, rfl, ay, _, rfl, hTy, rfl, _, _, rfl, _, _, rfl, rfl, ?_⟩
                -- words not in links or ..
                have hc2 : SqT K H2 c ((C ++ [L]).map V.int) := .inl (.inl (sm _ _ hc))
                refine ⟨.int wd, rfl, .ref c, rfl, c, _, rfl, .inr hc2, rfl, flat_ints _, _, rfl, ?_⟩
                rw [if_pos rfl, in_ints]
                by_cases c1 : wd ∈ C ++ [L]
                · rw [decide_eq_true c1]
                  refine iteF ?_
                  refine ⟨.int st, rfl, .int wd, rfl, _, _, rfl, rfl, (by omega : 0 < wd), rfl, _, rfl, ?_⟩
                  by_cases c2 : st % wd = 0
                  · refine iteNS (congrArg V.int c2) ?_
                    refine ⟨.int st, rfl, .int wd, rfl, _, _, rfl, rfl, .int m, rfl, .ref c, rfl, 1, rfl, c, _, -1, _, rfl, rfl, hc2, gl, m, L, rfl, rfl, .inl ⟨by omega, by omega⟩, _, _, rfl, rfl, _, rfl, ?_⟩
                    by_cases c3 : m * L < st + wd
                    · rw [decide_eq_true c3]
                      refine iteT (no sm fun z => ?_)
                      obtain ⟨⟨_, _, _, _, k5⟩, _⟩ := stp2 z
                      have k5' : st + wd ≤ m * L := k5
                      omega
                    · rw [decide_eq_false c3]
                      refine iteF ?_
                      refine ⟨.int st, rfl, .int last, rfl, _, _, rfl, rfl, _, rfl, ?_⟩
                      by_cases c4 : st ≤ last
                      · rw [decide_eq_true c4]
                        refine iteT (no sm fun z => ?_)
                        obtain ⟨_, k6⟩ := stp2 z
                        rcases hl1 with h1 | ⟨b, hb, h1⟩
                        · omega
                        · have := k6 b hb
                          obtain ⟨_, k7, _⟩ := hok b hb
                          omega
                      · rw [decide_eq_false c4]
                        refine iteF ?_
                        -- any
                        have wd2 := hC wd c1
                        obtain ⟨cn, rfl⟩ : ∃ cn : Nat, wd = cn := ⟨wd.toNat, by omega⟩
                        have ecn : (st + (cn : Int) - st).toNat = cn := by omega
                        refine ⟨.int st, rfl, .int st, rfl, .int cn, rfl, _, _, rfl, rfl, st, st + cn, rfl, ⟨by omega, by omega, by omega, by omega⟩, fun D nD => ?_⟩
                        rw [ecn]
                        refine lc_range (lo := st) (n := cn) (fun i H7 => Same H2 H7 ∧ H7 D = some (.lst (((List.range i).map fun (j : Nat) => hasI kvs (st + (j : Int))).map V.bl))) ⟨same_upd nD, upd_same⟩ (fun i H7 hi p7 => ?_) (fun H7 p7 => ?_)
                        · obtain ⟨s7, hD7⟩ := p7
                          refine ⟨rfl, .int (st + i), rfl, .ref d, rfl, d, _, rfl, DGet.k (k := Sum.inl (st + (i : Int))) (s7 _ _ hd2), _, hD7, ?_, fun b z hz => ?_, ?_⟩
                          · rw [List.length_map, List.length_map, List.length_range]
                            exact Nat.lt_of_lt_of_le (show i < 4000001 by omega) (by decide)
                          · rw [upd_ne (ne_of_none hz nD)]
                            exact s7 _ _ hz
                          · rw [upd_same, List.range_succ]
                            simp [hasI]
                        · obtain ⟨s7, hD7⟩ := p7
                          refine ⟨D, _, rfl, .inl (.inl hD7), _, rfl, ?_⟩
                          have hany : ((List.range cn).map fun (j : Nat) => hasI kvs (st + (j : Int))).any id = true ↔ ∃ w : Int, st ≤ w ∧ w < st + cn ∧ hasI kvs w = true := by
                            rw [List.any_eq_true]
                            constructor
                            · rintro ⟨b, hb, hb2⟩
                              obtain ⟨j, hj, e3⟩ := List.mem_map.mp hb
                              have := List.mem_range.mp hj
                              exact ⟨st + j, by omega, by omega, by rw [e3]; exact hb2⟩
                            · rintro ⟨w, w1, w2, w3⟩
                              refine ⟨true, List.mem_map.mpr ⟨(w - st).toNat, List.mem_range.mpr (by omega), ?_⟩, rfl⟩
                              rw [show st + (((w - st).toNat : Nat) : Int) = w by omega]
                              exact w3
                          have hd7 := s7 _ _ hd2
                          by_cases ca : ((List.range cn).map fun (j : Nat) => hasI kvs (st + (j : Int))).any id = true
                          · rw [ca]
                            refine iteT (no (sm.trans s7) fun z => ?_)
                            obtain ⟨_, k6⟩ := stp2 z
                            obtain ⟨w, w1, w2, w3⟩ := hany.mp ca
                            obtain ⟨b, hb, h1, h2⟩ := (hk w).mp w3
                            have := k6 b hb
                            omega
                          · have ca' : ((List.range cn).map fun (j : Nat) => hasI kvs (st + (j : Int))).any id = false := by
                              cases ez : ((List.range cn).map fun (j : Nat) => hasI kvs (st + (j : Int))).any id with
                              | true => exact absurd ez ca
                              | false => rfl
                            rw [ca']
                            refine iteF ?_
                            refine ⟨.ref d, rfl, .inr (.inr (.inl ⟨rfl, .inl ⟨_, hd7⟩⟩)), .int st, rfl, .int st, rfl, .int cn, rfl, _, _, rfl, rfl, st, st + cn, rfl, ⟨by omega, by omega, by omega, by omega⟩, fun D2 nD2 => ?_⟩
                            rw [ecn]
                            refine lc_range (lo := st) (n := cn) (fun i H8 => Same H7 H8 ∧ ∃ ps, H8 D2 = some (.lst (ps.map V.ref)) ∧ Paired (fun q kv => H8 q = some (.tup [kV kv.1, kv.2])) ps ((List.range i).map fun (j : Nat) => ((Sum.inl (st + (j : Int)) : Key), V.bl true)))
                              ⟨same_upd nD2, [], upd_same, .nil⟩ (fun i H8 hi p8 => ?_) (fun H8 p8 => ?_)
                            · obtain ⟨s8, ps, hD8, hpr⟩ := p8
                              have lps : ps.length = i := by
                                have := hpr.length
                                simpa using this
                              refine ⟨rfl, .int (st + i), rfl, (by show 2 ≤ sizeLine; decide), fun T nT => ⟨_, by rw [upd_ne (ne_of_none hD8 nT)]; exact hD8, ?_, fun b z hz => ?_, ps ++ [T], ?_, ?_⟩⟩
                              · rw [List.length_map, lps]
                                exact Nat.lt_of_lt_of_le (show i < 4000001 by omega) (by decide)
                              · rw [upd_ne (ne_of_none hz nD2), upd_ne (ne_of_none (s8 _ _ hz) nT)]
                                exact s8 _ _ hz
                              · rw [upd_same]
                                simp
                              · rw [List.range_succ, List.map_append]
                                refine Paired.snoc ?_ ?_
                                · refine paired_imp (fun q kv hq => ?_) hpr
                                  rw [upd_ne (ne_of hq hD8 (by intro z; cases z)), upd_ne (ne_of_none hq nT)]
                                  exact hq
                                · rw [upd_ne (ne_of_none hD8 nT).symm, upd_same]
                                  rfl
                            · obtain ⟨s8, ps, hD8, hpr⟩ := p8
                              refine ⟨D2, ps, _, rfl, .inl (.inl hD8), paired_imp (fun q kv hq => .inl (.inl hq)) hpr, fun q2 nq => ?_⟩
                              have s9 := same_upd (o := .dK (mergeK [] ((List.range cn).map fun (j : Nat) => ((Sum.inl (st + (j : Int)) : Key), V.bl true)))) nq
                              have hd9 := s9 _ _ (s8 _ _ hd7)
                              have hml : (mergeK [] ((List.range cn).map fun (j : Nat) => ((Sum.inl (st + (j : Int)) : Key), V.bl true))).length ≤ cn := by
                                refine Nat.le_trans (length_mergeK _ _) ?_
                                simp
                              refine ⟨d, q2, kvs, _, rfl, rfl, ne_of_none (s8 _ _ hd7) nq, hd9, upd_same, ?_, ?_⟩
                              · exact Nat.le_trans (show _ ≤ 10002000 by omega) (by decide)
                              refine ⟨.int st, rfl, ?_⟩
                              refine ⟨_, _, _, _, st, mergeK kvs (mergeK [] ((List.range cn).map fun (j : Nat) => ((Sum.inl (st + (j : Int)) : Key), V.bl true))), bs ++ [(st, (cn : Int))], rfl, ?_, upd_same, ?_, ?_, ?_, ?_, ?_, .inr ⟨(st, cn), by simp, rfl⟩, ?_, ?_⟩
                              · intro b z hz
                                rw [upd_ne (ne_of_none hz nd)]
                                exact s9 _ _ (s8 _ _ (s7 _ _ (sm _ _ hz)))
                              · rw [List.take_add_one, hy]
                                exact Paired.snoc hbl ⟨ay, rfl, ey⟩
                              · intro b hb
                                rcases List.mem_append.mp hb with h2 | h2
                                · exact hok b h2
                                · rw [List.mem_singleton.mp h2]
                                  exact ⟨c1, by omega, st0, c2, by show st + (cn : Int) ≤ m * L; omega⟩
                              · rw [List.pairwise_append]
                                refine ⟨hap, List.pairwise_singleton _ _, fun b hb b2 hb2 => ?_⟩
                                rw [List.mem_singleton.mp hb2]
                                obtain ⟨_, k1, k2, _, _⟩ := hok b hb
                                have h1 := hla b hb
                                have hno : ∀ w : Int, st ≤ w → w < st + cn → b.1 ≤ w → w < b.1 + b.2 → False := fun w w1 w2 w3 w4 => ca (hany.mpr ⟨w, w1, w2, (hk w).mpr ⟨b, hb, w3, w4⟩⟩)
                                left
                                show b.1 + b.2 ≤ st
                                by_cases c5 : st < b.1 + b.2
                                · exact (hno st (by omega) (by omega) (by omega) c5).elim
                                · omega
                              · rw [List.pairwise_append]
                                refine ⟨hlt, List.pairwise_singleton _ _, fun b hb b2 hb2 => ?_⟩
                                rw [List.mem_singleton.mp hb2]
                                have h1 := hla b hb
                                show b.1 < st
                                omega
                              · intro b hb
                                rcases List.mem_append.mp hb with h2 | h2
                                · have := hla b h2
                                  omega
                                · rw [List.mem_singleton.mp h2]
                                  exact Int.le_refl _
                              · intro w
                                rw [hasI_merge, Bool.or_eq_true, hk w, valV_any, ← hasI, hasI_merge, Bool.or_eq_true]
                                constructor
                                · rintro (⟨b, hb, h1⟩ | h1)
                                  · exact ⟨b, List.mem_append_left _ hb, h1⟩
                                  · refine ⟨(st, cn), List.mem_append_right _ (List.mem_singleton.mpr rfl), ?_⟩
                                    rcases h1 with h1 | h1
                                    · exact absurd h1 (by unfold hasI; rw [valV_nil]; simp)
                                    · obtain ⟨kv, hkv, h2⟩ := List.any_eq_true.mp h1
                                      obtain ⟨j, hj, e3⟩ := List.mem_map.mp hkv
                                      have hj2 := List.mem_range.mp hj
                                      have h3 := of_decide_eq_true h2
                                      rw [← e3] at h3
                                      injection h3 with h3
                                      show st ≤ w ∧ w < st + cn
                                      omega
                                · rintro ⟨b, hb, h1⟩
                                  rcases List.mem_append.mp hb with h2 | h2
                                  · exact .inl ⟨b, h2, h1⟩
                                  · right
                                    right
                                    rw [List.mem_singleton.mp h2] at h1
                                    have h1' : st ≤ w ∧ w < st + cn := h1
                                    refine List.any_eq_true.mpr ⟨(Sum.inl (st + (((w - st).toNat : Nat) : Int)), .bl true), List.mem_map.mpr ⟨(w - st).toNat, List.mem_range.mpr (by omega), rfl⟩, decide_eq_true ?_⟩
                                    show (Sum.inl _ : Key) = Sum.inl w
                                    rw [show st + (((w - st).toNat : Nat) : Int) = w by omega]
                              · refine Nat.le_trans (length_mergeK _ _) ?_
                                omega
                  · have nd2 : ¬ (V.int (st % wd) = V.int 0) := fun z => c2 (V.int.inj z)
                    rw [decide_eq_false nd2]
                    refine iteT (no sm fun z => ?_)
                    obtain ⟨⟨_, _, _, k4, _⟩, _⟩ := stp2 z
                    exact c2 k4
                · rw [decide_eq_false c1]
                  refine iteT (no sm fun z => ?_)
                  obtain ⟨⟨k1, _⟩, _⟩ := stp2 z
                  exact c1 k1
              · have g2' : geI 1 y2 = false := by
                  cases ez : geI 1 y2 with
                  | true => exact absurd ez g2
                  | false => rfl
                rw [g2']
                refine iteT (no sm fun z => ?_)
                obtain ⟨b, hb, ⟨_, k2, _⟩, _⟩ := stp z
                have h3 := bk b hb
                injection h3 with h4 h5
                injection h5 with h5 _
                subst h5
                exact g2 (decide_eq_true k2)
            · have g1' : geI 0 y1 = false := by
                cases ez : geI 0 y1 with
                | true => exact absurd ez g1
                | false => rfl
              rw [g1']
              refine iteT (no sm fun z => ?_)
              obtain ⟨b, hb, ⟨_, _, k3, _⟩, _⟩ := stp z
              have h3 := bk b hb
              injection h3 with h4 h5
              subst h4
              exact g1 (decide_eq_true k3)
          · have hv : ¬ (V.int ((ys.length : Nat) : Int) = V.int 2) := fun z => hl (by have := V.int.inj z; omega)
            rw [decide_eq_false hv]
            refine iteT (no sm fun z => ?_)
            obtain ⟨b, hb, _⟩ := stp z
            rw [bk b hb] at hl
            exact hl rfl
      · obtain ⟨y5, y6, y7, y8, last, kvs, bs, rfl, sm, hd2, hbl, hok, hap, hlt, hla, hl1, hk, hkl⟩ := p
        rw [List.take_length] at hbl
        exact q _ true sm ⟨fun _ => ⟨a, bs, rfl, ⟨xs, e, hbl⟩, hok, asc_of hok hap hlt⟩, fun _ => rfl⟩
end
end Ph

namespace Ph
open PySem PySem.Spec PyProof.Rows L2 PySem.Calls HT
section
variable {prog : Program} {w : World} {A : Around} {E : Value → Shared → Prop} {s : Shared}
theorem rev_pick (xs : Array Value) : ((List.range xs.size).filterMap fun (k : Nat) => xs[(((xs.size : Int) - 1) + (k : Int) * (-1)).toNat]?).toArray = xs.toList.reverse.toArray := by
  have e : ((List.range xs.size).filterMap fun (k : Nat) => xs[(((xs.size : Int) - 1) + (k : Int) * (-1)).toNat]?) = ((List.range xs.size).map fun k => xs.size - 1 - k).filterMap (xs[·]?) := by
    rw [List.filterMap_map]
    congr 1
    funext k
    have : (((xs.size : Int) - 1) + (k : Int) * (-1)).toNat = xs.size - 1 - k := by omega
    show xs[_]? = xs[_]?
    rw [this]
  rw [e, PySem.W.krv_range, List.filterMap_reverse, PySem.W.krv_all]
theorem sliceApplied_rev {sl : Addr} {vs : Value} {n : Nat} {Q : Int × Int × Nat → Shared → Prop} (hs : s.heap.IsSliceOf sl .none .none vs) (ps : IsPart vs (some (-1)))
    (h : Q ((n : Int) - 1, -1, n) s) : wpAny (model prog w) A (Builtin.Slice.sliceApplied (.ref sl) (pure (n : Int))) Q E s := by
  obtain ⟨os, hos, hcs, hds⟩ := id hs
  unfold Builtin.Slice.sliceApplied Builtin.Slice.sliceFields
  refine wpAny_bind (wpAny_bind (wpAny_field hos hds (x := .none) rfl (wpAny_bind (wpAny_field hos hds (x := .none) rfl (wpAny_bind (wpAny_field hos hds (x := vs) rfl (wpAny_pure ?_)))))))
  refine wpAny_bind (slicePart_ ps ?_)
  show wpAny _ _ (if ((-1 : Int) == 0) = true then _ else _) _ _ s
  rw [if_neg (by decide)]
  refine wpAny_bind (slicePart_ .none (wpAny_bind (slicePart_ .none (wpAny_bind (wpAny_pure ?_)))))
  show wpAny _ _ (pure (((n : Int) - 1), (-1 : Int), Builtin.Slice.slicePlaces ((n : Int) - 1) (-1) (-1))) _ _ s
  have e : Builtin.Slice.slicePlaces ((n : Int) - 1) (-1) (-1) = n := by
    unfold Builtin.Slice.slicePlaces
    have h1 : ¬ ((-1 : Int) > 0) := by decide
    rw [if_neg h1]
    by_cases h : (n : Int) - 1 > -1
    · rw [if_pos h, show (- -1 : Int) = 1 by decide, Int.ediv_one]
      omega
    · rw [if_neg h]
      omega
  rw [e]
  exact wpAny_pure h
theorem getItem_tuple_rev {t sl : Addr} {items : Array Value} {vs : Value} {Q : Value → Shared → Prop} (ht : IsTup s.heap t items) (hs : s.heap.IsSliceOf sl .none .none vs) (ps : IsPart vs (some (-1)))
    (h : Q (.ref s.heap.objs.size) { s with heap := s.heap.push { cls := .type "tuple", data := .seq items.toList.reverse.toArray } })
    (hsz : items.size ≤ sizeLine) : wpAny (model prog w) A (getItem (.ref t) (.ref sl)) Q E s := by
  have htake : sizeOk (.seq items.toList.reverse.toArray) := by
    show items.toList.reverse.toArray.size ≤ sizeLine
    rw [List.size_toArray, List.length_reverse, Array.length_toList]
    omega
  obtain ⟨os, hos, hcs, hds⟩ := id hs
  have hTs : s.TypeIs (.ref sl) "slice" := ⟨os, hos, hcs⟩
  unfold getItem
  try with_reducible refine wpAny_holding ?_
  first | refine wpAny_bind (wpAny_pure ?_) | skip
  refine wpAny_bind (wpAny_sequenceKey ht.typeIs (by decide) ?_)
  refine wpAny_bind (wpAny_callSpecial?_slot (name := Str.ofString "__getitem__") ht.typeIs PyProof.Rows.slot_tuple_getitem
    (wpAny_call_entry PyProof.Rows.slot_tuple_getitem ht.typeIs entry_tuple_getitem ?_ (args_tuple_getitem _ _)))
  show wpAny _ _ (Builtin.Tuple.tupleItemsOf (.ref t) >>= _) _ _ s
  refine wpAny_bind (tupleItemsOf_ ht ?_)
  refine wpAny_bind (wpAny_typeOf hTs ?_)
  rw [if_pos (by decide)]
  refine wpAny_bind (sliceApplied_rev hs ps ?_)
  have hno : ¬ ((((items.size : Int) - 1) == 0 && (-1 : Int) == 1 && items.size == items.size) = true) := by
    intro q
    rw [Bool.and_eq_true, Bool.and_eq_true] at q
    exact absurd q.1.2 (by decide)
  show wpAny _ _ (if (((items.size : Int) - 1) == 0 && (-1 : Int) == 1 && items.size == items.size) = true then _ else _) _ _ s
  rw [if_neg hno, rev_pick]
  first
    | exact wpAny_bind (m := Builtin.Tuple.tupleExact _) (wpAny_newObj_type (wpAny_pure ⟨_, rfl, wpAny_pure h⟩) htake)
    | exact wpAny_bind (m := Builtin.Tuple.tupleExact _) (wpAny_newObj_type (wpAny_bind (wpAny_pure (wpAny_pure ⟨_, rfl, wpAny_pure h⟩))) htake)
    | exact wpAny_bind (wpAny_bind (m := Builtin.Tuple.tupleExact _) (wpAny_newObj_type (wpAny_pure (wpAny_pure ⟨_, rfl, wpAny_pure h⟩)) htake))
    | exact wpAny_bind (wpAny_bind (m := Builtin.Tuple.tupleExact _) (wpAny_newObj_type (wpAny_pure ⟨_, rfl, wpAny_pure h⟩) htake))
end
section
variable {X : Cx}
/-- t[::-1] of a tuple -/
def tRevT (K : PySem.W.Frag) (te : TE) : TE := fun σ H Q => te σ H fun x H1 => ∃ a xs, x = .ref a ∧ SqT K H1 a xs ∧ ∀ p, H1 p = none → Q (.ref p) (upd H1 p (.tup xs.reverse))
theorem pe_revT {e : Expr} {te : TE} {k : Nat} {p1 p2 p3 pos : Pos} (he : PE X e te) : PE X (.Subscript e (.Slice none none (some (.UnaryOp .USub (.Constant (.int 1) k p1) p2)) p3) pos) (tRevT X.K te) := by
  refine ⟨fun pins s σ H Q I h => ?_⟩
  refine Subscript_ (thn (he.run pins s σ H _ I h) fun v s1 ⟨x, H1, I1, r1, q1⟩ => ?_)
  obtain ⟨a, xs, ex, hx, q⟩ := q1
  subst ex
  cases r1
  have hst : PO X (some (.UnaryOp .USub (.Constant (.int 1) k p1) p2)) (tPart (tUn (rU fun i => .int (-i)) (tC (.int 1)))) := po_some (pe_un un_neg pe_int)
  refine wpAny_Slice (thn (po_none.run pins s1 σ H1 (fun o H2 => o = none ∧ H2 = H1) I1 ⟨rfl, rfl⟩) fun vl s2 ⟨l, H2, I2, pl, el, e2⟩ => ?_)
  subst el e2
  refine thn (po_none.run pins s2 σ H2 (fun o H3 => o = none ∧ H3 = H2) I2 ⟨rfl, rfl⟩) fun vu s3 ⟨u, H3, I3, pu, eu, e3⟩ => ?_
  subst eu e3
  refine thn (hst.run pins s3 σ H3 (fun o H4 => o = some (-1) ∧ H4 = H3) I3 ⟨1, rfl, -1, rfl, rfl, rfl⟩) fun vs s4 ⟨o, H4, I4, ps, eo, e4⟩ => ?_
  subst eo e4
  cases pl
  cases pu
  have I5 : Inv X pins σ H4 { s4 with heap := s4.heap.push { cls := .type "slice", data := .fields #[.none, .none, vs] } } := I4.kept (t' := s4.toks) fun b ob q => Heap.get?_push_of_some _ q
  obtain ⟨its, r, ht, hz⟩ := I5.tuple hx
  have hlen := r.length
  show wpAny (model X.prog X.w) X.A (subscriptTail e (.Slice none none (some (.UnaryOp .USub (.Constant (.int 1) k p1) p2)) p3) (.ref a) (.ref s4.heap.objs.size)) (EP X pins σ Q) X.xe { s4 with heap := s4.heap.push { cls := .type "slice", data := .fields #[.none, .none, vs] } }
  refine tail_any (ops := [.ref a, .ref s4.heap.objs.size]) ht.typeIs (PyProof.Rows.slot_tuple_getitem.lookup) ?_ (by with_unfolding_all rfl)
  refine getItem_tuple_rev ht (Heap.IsSliceOf.new _ .none .none vs) ps ?_ (by rw [List.size_toArray]; omega)
  refine ⟨.ref _, _, I5.laid (t' := s4.toks) (o := .tup xs.reverse) (fun b ob q => Heap.get?_push_of_some _ q) (Nat.le_refl _) ?_, rfl, q _ (I5.hok.fresh (Nat.le_refl _))⟩
  refine ⟨by rw [List.length_reverse]; exact hz, _, r.reverse, ⟨_, Heap.get?_push_size _ rfl, rfl, _, rfl⟩⟩
/-- repr(True), repr(False) -/
def tx (b : Bool) : Str := if b then "True" else "False"
theorem call_repr_bl : CallR X (.builtin "repr") (fun xs H Q => ∃ b, xs = [.bl b] ∧ Q (.str (tx b)) H) := by
  intro pins s σ H xs us Q I r h
  obtain ⟨b, rfl, q⟩ := h
  obtain ⟨u, rfl, r1⟩ := vals1 r
  cases r1
  exact PySem.P.repr_of_bool ⟨.str _, H, I.tok _, ⟨_, rfl⟩, q⟩
end
end Ph

namespace Ph
open PySem PySem.Spec PyProof.Rows L2
abbrev sOdd : Stmt := topS 13
abbrev sChg : Stmt := topS 16
theorem scOdd : FnScope ["_law_pot_here", "_law_some", "_law_thing", "_law_turn"] ["_law_pot_here"] (defScope sOdd) := ⟨rfl, rfl, rfl, by decide +kernel, rfl, by decide +kernel, by decide +kernel⟩
theorem scChg : FnScope ["_law_pot_here", "_law_links_here", "_law_thing", "_law_way", "_law_at", "_law_start", "_law_words", "_law_odd_here"] ["_law_pot_here", "_law_links_here", "_law_thing"] (defScope sChg) := ⟨rfl, rfl, rfl, by decide +kernel, rfl, by decide +kernel, by decide +kernel⟩
/-! ### tuples cut, put together, turned round: some tuple holds it -/
section
variable {X : Cx}
theorem cut_whole {xs : List V} {lo hi : Option Int} (h : HT.sIx xs.length 0 lo = 0 ∧ HT.sIx xs.length xs.length hi = xs.length) : cutV xs lo hi = xs := by
  unfold cutV
  rw [h.1, h.2, List.drop_zero]
  exact List.take_length
def rSlS : V → Option Int → Option Int → Hp → VK → Prop := fun x lo hi H Q => ∃ a xs, x = .ref a ∧ H a = some (.tup xs) ∧ ∀ p H', Same H H' → H' p = some (.tup (cutV xs lo hi)) → Q (.ref p) H'
theorem sl_tupS : SlR X rSlS := by
  intro pins s σ H x v vl vu lo hi sl Q I rx hs pl pu h
  obtain ⟨a, xs, rfl, hx, q⟩ := h
  exact sl_tupA pins s σ H _ v vl vu lo hi sl Q I rx hs pl pu ⟨a, xs, rfl, .inl (.inl hx), fun hw => q a H (Same.refl H) (by rw [cut_whole hw]; exact hx), fun _ p np => q p _ (same_upd np) upd_same⟩
def rCatS : R2 := fun x y H Q => ∃ a b xs ys, x = .ref a ∧ y = .ref b ∧ H a = some (.tup xs) ∧ H b = some (.tup ys) ∧ xs.length + ys.length ≤ 1000 ∧ ∀ p H', Same H H' → H' p = some (.tup (xs ++ ys)) → Q (.ref p) H'
theorem op_catS : OpR X (binaryOp .Add) rCatS := by
  intro pins s σ H x y v u Q I rx ry h
  obtain ⟨a, b, xs, ys, rfl, rfl, ha, hb, hz, q⟩ := h
  refine op_catA pins s σ H _ _ v u Q I rx ry ⟨a, b, xs, ys, rfl, rfl, .inl (.inl ha), .inl (.inl hb), Nat.le_of_lt (small1000 hz), fun e => q b H (Same.refl H) (by rw [e]; exact hb), fun _ e => q a H (Same.refl H) (by rw [e, List.append_nil]; exact ha), fun _ _ p np => q p _ (same_upd np) upd_same⟩
end
theorem same_upd2 {H : Hp} {p : Addr} {o o' : HO} (h : H p = none) : Same H (upd (upd H p o) p o') := fun b x e => by
  rw [upd_ne (ne_of_none e h), upd_ne (ne_of_none e h)]
  exact e
theorem cut_le {xs : List V} {lo hi : Option Int} : (cutV xs lo hi).length ≤ xs.length := by
  unfold cutV
  rw [List.length_take, List.length_drop]
  omega
theorem upd_at {H : Hp} {p : Addr} {o : HO} (_ : H p = none) : upd H p o p = some o := upd_same
/-! ### a state as data -/
def bD (b : Int × Int) : PyData := .tuple [.int b.1, .int b.2]
theorem BL.dp {K : PySem.W.Frag} {H : Hp} : ∀ {xs : List V} {bs : List (Int × Int)}, BL H xs bs → DpAll K H xs (bs.map bD)
  | _, _, .nil => .nil
  | _, _, .cons ⟨t, e1, e2⟩ r => by
    subst e1
    exact .cons (.tup (.inl (.inl e2)) (.cons (.int _) (.cons (.int _) .nil))) (BL.dp r)
theorem canLay_bs : ∀ bs : List (Int × Int), PyData.canLayAll0 (bs.map bD) = true
  | [] => by simp [PyData.canLayAll0]
  | b :: r => by
    have ih := canLay_bs r
    simp only [List.map_cons, PyData.canLayAll0, bD, PyData.canLay0, Bool.and_self, Bool.true_and, ih]
theorem depth_bs : ∀ bs : List (Int × Int), PyData.depthAll (bs.map bD) ≤ 3
  | [] => by simp [PyData.depthAll]
  | b :: r => by
    have ih := depth_bs r
    simp only [List.map_cons, PyData.depthAll, bD, PyData.depth]
    omega
theorem shaped_bs (bs : List (Int × Int)) : SeqAt.shaped (.tuple (bs.map bD)) = true := by
  have h1 := canLay_bs bs
  have h2 := depth_bs bs
  unfold SeqAt.shaped
  rw [Bool.and_eq_true]
  refine ⟨by simp only [PyData.canLay0, h1], decide_eq_true ?_⟩
  simp only [PyData.depth]
  omega
theorem eqv_empty (bs : List (Int × Int)) : PyData.eqv (.tuple (bs.map bD)) (.tuple []) = bs.isEmpty := by
  cases bs with
  | nil => simp [PyData.eqv, PyData.eqvAll]
  | cons b r => simp [PyData.eqv, PyData.eqvAll]
section
variable {P : Program} {w : World} {K : PySem.W.Frag} {mg : Str → Option Value} {base : Heap}
def spOdd : Sp := fun vs H Q _ => ∃ p : Addr, vs = [.ref p] ∧ Pot H p ∧ ∀ H' x, But p H H' → Pot H' p → Deep H' x → Q x H'
theorem ok_odd {f fT fO : Addr} {fd fdT fdO : FuncData} {k : Nat} (F : Fun K "_law_odd" "_law_odd" sOdd f fd) (N : Nm5 K mg) (FT : Fun K "_law_take" "_law_take" sTake fT fdT) (bT : Binds K fdT ["_law_pot_here", "_law_upto"] []) (gT : mg "_law_take" = some (.ref fT))
    (FO : Fun K "_law_of" "_law_of" sOf fO fdO) (bO : Binds K fdO ["_law_pot_here", "_law_some"] []) (gO : mg "_law_of" = some (.ref fO)) : FnOk P w K mg base CX0 (k + 1 + 1 + 1) f fd ["_law_pot_here"] spOdd := by
  have GT : FnOk P w K mg base CX0 (k + 1) fT fdT ["_law_pot_here", "_law_upto"] spTake := ok_take FT
  have GO : FnOk P w K mg base CX0 (k + 1 + 1) fO fdO ["_law_pot_here", "_law_some"] (spOf K) := ok_of FO FT bT gT N.len
  refine F.ok scOdd (fun vs H Q E h => ?_) (fun cdv A outer s H vs Q E hr h => ?_)
  · obtain ⟨p, rfl, _⟩ := h
    rfl
  · obtain ⟨p, rfl, hp, q⟩ := h
    have hr1 : Room (k + 1) (A.deeper (envOfC "_law_odd" (defScope sOdd) s.heap.objs.size f cdv)) := hr.mono (by omega)
    refine ⟨_, (pss_cons (ps_set (i := 1) scOdd.nd rfl (.inl rfl) (pe_lst (pa_cons pe_non (pa_cons pe_bl (pa_cons pe_bl (pa_cons (pe_un un_neg pe_int) (pa_cons pe_int (pa_cons pe_int (pa_cons (pe_op op_pow pe_int pe_int) (pa_cons pe_str (pa_cons pe_str (pa_cons pe_str (pa_cons (pe_tup pa_nil) (pa_cons (pe_lst pa_nil) (pa_cons pe_dnewK (pa_cons (pe_tup (pa_cons pe_int pa_nil)) (pa_cons (pe_lst (pa_cons pe_int pa_nil)) (pa_cons (pe_tup (pa_cons pe_int (pa_cons pe_int pa_nil))) (pa_cons (pe_tup (pa_cons (pe_tup (pa_cons pe_int (pa_cons pe_int pa_nil))) pa_nil)) (pa_cons (pe_disp (pps_cons pe_str pe_int pps_nil) (by rfl) (by rfl) (fun z => by cases z) (by decide)) pa_nil))))))))))))))))))))
       (pss_cons (ps_set (i := 2) scOdd.nd rfl (.inl rfl) (pe_call GO hr (by rfl) gO FO.kp bO .nil pass0 (pa_cons (pv 0) (pa_cons (pv 1) pa_nil))))
       (pss_cons (ps_for PassesOwn.never rfl (pi_range1 (by rfl) N.range (pa_cons (pe_call GO hr (by rfl) gO FO.kp bO .nil pass0 (pa_cons (pv 0) (pa_cons (pe_lst (pa_cons pe_int (pa_cons pe_int (pa_cons pe_int (pa_cons pe_int (pa_cons pe_int pa_nil)))))) pa_nil))) pa_nil)) (pg_name (i := 3) scOdd.nd rfl (.inl rfl))
       (pss_one (ps_set (i := 2) scOdd.nd rfl (.inl rfl) (pe_ix ix_list (pe_lst (pa_cons (pe_tup (pa_cons (pv 2) pa_nil)) (pa_cons (pe_lst (pa_cons (pv 2) pa_nil)) (pa_cons (pe_disp (pps_cons pe_str (pv 2) pps_nil) (by rfl) (by rfl) (fun z => by cases z) (by decide)) (pa_cons (pe_tup (pa_cons (pv 2) (pa_cons pe_int pa_nil))) pa_nil))))) (pe_call GT hr1 (by rfl) gT FT.kp bT .nil pass0 (pa_cons (pv 0) (pa_cons pe_int pa_nil))) (fun _ _ => rfl)))))
       (pss_one (ps_ret (pv 2)))))), ?_⟩
    refine ⟨1, rfl, _, _, rfl, rfl, ⟨by decide, by decide, by decide⟩, Nat.zero_le _, fun t1 n1 => ⟨Nat.zero_le _, fun l1 m1 => ?_⟩⟩
    refine fun d1 k1 => ?_
    refine ⟨(by show 1 ≤ sizeLine; decide), fun t2 n2 => ⟨(by show 1 ≤ sizeLine; decide), fun l2 m2 => ⟨(by show 2 ≤ sizeLine; decide), fun t3 n3 => ⟨(by show 2 ≤ sizeLine; decide), fun t4 n4 => ⟨(by show 1 ≤ sizeLine; decide), fun t5 n5 => ?_⟩⟩⟩⟩⟩
    refine fun d2 k2 => ⟨upd_same, [(Sum.inr "a", .int 1)], rfl, by decide, (by show 18 ≤ sizeLine; decide), fun l3 m3 => ?_⟩
    have u1 := same_upd (o := .tup []) n1
    have u2 := same_upd (o := .lst []) m1
    have u3 := same_upd (o := .dK []) k1
    have u4 := same_upd (o := .tup [.int 1]) n2
    have u5 := same_upd (o := .lst [.int 1]) m2
    have u6 := same_upd (o := .tup [.int 0, .int 1]) n3
    have u7 := same_upd (o := .tup [.int 0, .int 1]) n4
    have u8 := same_upd (o := .tup [.ref t4]) n5
    have u9 := same_upd2 (o := .dK []) (o' := .dK (mergeK [] [(Sum.inr "a", .int 1)])) k2
    have c8 := u9
    have c7 := u8.trans c8
    have c6 := u7.trans c7
    have c5 := u6.trans c6
    have c4 := u5.trans c5
    have c3 := u4.trans c4
    have c2 := u3.trans c3
    have c1 := u2.trans c2
    have c0 := u1.trans c1
    have hpK := hp.same c0
    refine ⟨.ref p, rfl, .ref l3, rfl, p, l3, _, rfl, hpK.same (same_upd m3), .inl (.inl upd_same), (hpK.ne_none m3).symm, List.cons_ne_nil _ _, by simp, fun H2 x b2 hp2 hx => ?_⟩
    have fin : ∀ y : V, Deep _ y → Deep H2 y := fun y v => (v.same (same_upd m3)).but b2 (hpK.same (same_upd m3)) hp2
    have hB : But p H H2 := fun b o nb h => b2 b o nb (same_upd m3 _ _ (c0 _ _ h))
    have vx : Deep H2 x := by
      simp only [List.mem_cons, List.not_mem_nil, or_false] at hx
      rcases hx with h | h | h | h | h | h | h | h | h | h | h | h | h | h | h | h | h | h <;> subst h
      · exact .base (.non) (by decide)
      · exact .base (.bl _) (by decide)
      · exact .base (.bl _) (by decide)
      · exact .base (.int _) (by decide)
      · exact .base (.int _) (by decide)
      · exact .base (.int _) (by decide)
      · exact .base (.int _) (by decide)
      · exact .base (.str _) (by decide)
      · exact .base (.str _) (by decide)
      · exact .base (.str _) (by decide)
      · exact fin _ (.tup (c1 _ _ upd_same) (TL.ints _ []) (by simp))
      · exact fin _ (.base (.lst (c2 _ _ upd_same)) (by decide))
      · exact fin _ (.base (.dK (c3 _ _ upd_same)) (by decide))
      · exact fin _ (.tup (c4 _ _ upd_same) (TL.ints _ [1]) (by simp))
      · exact fin _ (.base (.lst (c5 _ _ upd_same)) (by decide))
      · exact fin _ (.tup (c6 _ _ upd_same) (TL.ints _ [0, 1]) (by simp))
      · exact fin _ (.tup (c8 _ _ upd_same) (TL.one (.tup (c7 _ _ upd_same) (TL.ints _ [0, 1]) (by simp))) (by simp))
      · exact fin _ (.base (.dK upd_same) (by decide))
    -- the loop
    refine ⟨.ref p, rfl, (by show 5 ≤ sizeLine; decide), fun l4 m4 => ⟨p, l4, _, rfl, hp2.same (same_upd m4), .inl (.inl upd_same), (hp2.ne_none m4).symm, List.cons_ne_nil _ _, by simp, fun H3 y b3 hp3 hy => ?_⟩⟩
    obtain ⟨n, rfl, hn0, hn1⟩ : ∃ n : Int, y = .int n ∧ 0 ≤ n ∧ n ≤ 17 := by
      simp only [List.mem_cons, List.not_mem_nil, or_false] at hy
      rcases hy with h | h | h | h | h <;> exact ⟨_, h, by decide, by decide⟩
    refine ⟨n, rfl, by omega, by omega, ?_⟩
    refine for_range (lo := 0) (n := n.toNat) (fun i σ H4 => ∃ y1 z y3, σ = [some (.ref p), y1, some z, y3] ∧ But p H H4 ∧ Pot H4 p ∧ Deep H4 z)
      ⟨_, x, _, rfl, fun b o nb h => b3 b o nb (same_upd m4 _ _ (hB b o nb h)), hp3, (vx.same (same_upd m4)).but b3 (hp2.same (same_upd m4)) hp3⟩ ?_ ?_
    · rintro i σ H4 hi ⟨y1, z, y3, rfl, b4, hp4, vz⟩
      refine ⟨z, rfl, (by show 1 ≤ sizeLine; decide), fun a1 i1 => ⟨z, rfl, (by show 1 ≤ sizeLine; decide), fun a2 i2 => fun a3 i3 => ⟨z, rfl, upd_same, [(Sum.inr "a", z)], rfl, (by show 1 ≤ 15; decide), z, rfl, (by show 2 ≤ sizeLine; decide), fun a4 i4 => ⟨(by show 4 ≤ sizeLine; decide), fun a5 i5 => ?_⟩⟩⟩⟩
      have w1 := same_upd (o := .tup [z]) i1
      have w2 := same_upd (o := .lst [z]) i2
      have w3 := same_upd2 (o := .dK []) (o' := .dK (mergeK [] [(Sum.inr "a", z)])) i3
      have w4 := same_upd (o := .tup [z, .int 1]) i4
      have w5 := same_upd (o := .lst [.ref a1, .ref a2, .ref a3, .ref a4]) i5
      have e45 := w4.trans w5
      have e35 := w3.trans e45
      have e25 := w2.trans e35
      have e15 := w1.trans e25
      refine ⟨.ref p, rfl, p, 4, rfl, hp4.same e15, by decide, by decide, fun H5 d b5 hp5 d0 d1 => ?_⟩
      have hl : SqL K H5 a5 [.ref a1, .ref a2, .ref a3, .ref a4] := .inl (.inl (b5 _ _ ((hp4.same (w1.trans (w2.trans (w3.trans w4)))).ne_none i5).symm upd_same))
      have fin : ∀ y : V, Deep _ y → Deep H5 y := fun y v => v.but b5 (hp4.same e15) hp5
      have bb : But p H H5 := fun b o nb h => b5 b o nb (e15 _ _ (b4 b o nb h))
      obtain ⟨j, rfl⟩ : ∃ j : Nat, d = j := ⟨d.toNat, by omega⟩
      have hj : j < 4 := by omega
      match j, hj with
      | 0, _ => exact ⟨a5, _, 0, _, rfl, rfl, hl, atI_nat (j := 0) rfl, _, _, _, rfl, bb, hp5, fin _ (.tup (e25 _ _ upd_same) (TL.one (vz.same e15)) (by simp))⟩
      | 1, _ => exact ⟨a5, _, 1, _, rfl, rfl, hl, atI_nat (j := 1) rfl, _, _, _, rfl, bb, hp5, fin _ (.base (.lst (e35 _ _ upd_same)) (by decide))⟩
      | 2, _ => exact ⟨a5, _, 2, _, rfl, rfl, hl, atI_nat (j := 2) rfl, _, _, _, rfl, bb, hp5, fin _ (.base (.dK (e45 _ _ upd_same)) (by decide))⟩
      | 3, _ => exact ⟨a5, _, 3, _, rfl, rfl, hl, atI_nat (j := 3) rfl, _, _, _, rfl, bb, hp5, fin _ (.tup (w5 _ _ upd_same) (TL.append (TL.one (vz.same e15)) (TL.ints _ [1])) (by simp))⟩
    · rintro σ H4 ⟨y1, z, y3, rfl, b4, hp4, vz⟩
      exact ⟨z, rfl, q _ _ b4 hp4 vz⟩
def spChg : Sp := fun vs H Q _ => ∃ (p c t : Addr) (C : List Int) (L : Int) (bs : List (Int × Int)), vs = [.ref p, .ref c, .ref t] ∧ Pot H p ∧ H c = some (.tup ((C ++ [L]).map V.int)) ∧ C.length ≤ 20 ∧ StAt H t bs ∧ bs.length ≤ 100 ∧ ∀ H' x, But p H H' → Pot H' p → Deep H' x → Q x H'
theorem ok_chg {f fT fO : Addr} {fd fdT fdO : FuncData} {k : Nat} (F : Fun K "_law_changed" "_law_changed" sChg f fd) (N : Nm5 K mg) (FT : Fun K "_law_take" "_law_take" sTake fT fdT) (bT : Binds K fdT ["_law_pot_here", "_law_upto"] []) (gT : mg "_law_take" = some (.ref fT))
    (FO : Fun K "_law_of" "_law_of" sOf fO fdO) (bO : Binds K fdO ["_law_pot_here", "_law_some"] []) (gO : mg "_law_of" = some (.ref fO)) : FnOk P w K mg base CX0 (k + 1 + 1 + 1) f fd ["_law_pot_here", "_law_links_here", "_law_thing"] spChg := by
  have GT : FnOk P w K mg base CX0 (k + 1) fT fdT ["_law_pot_here", "_law_upto"] spTake := ok_take FT
  have GO : FnOk P w K mg base CX0 (k + 1 + 1) fO fdO ["_law_pot_here", "_law_some"] (spOf K) := ok_of FO FT bT gT N.len
  refine F.ok scChg (fun vs H Q E h => ?_) (fun cdv A outer s H vs Q E hr h => ?_)
  · obtain ⟨p, c, t, C, L, bs, rfl, _⟩ := h
    rfl
  · obtain ⟨p, c, t, C, L, bs, rfl, hp, hc, hCl, ⟨xs, ht, hbl⟩, hlen, q⟩ := h
    have hr1 : Room (k + 1) (A.deeper (envOfC "_law_changed" (defScope sChg) s.heap.objs.size f cdv)) := hr.mono (by omega)
    refine ⟨_, (pss_cons (ps_if (pt_cmpR (op_eqD hr.units) (pv 2) (pe_tup pa_nil) (nomark _))
       (pss_one (ps_ret (pe_call GO hr (by rfl) gO FO.kp bO .nil pass0 (pa_cons (pv 0) (pa_cons (pe_lst (pa_cons (pe_tup (pa_cons (pe_tup (pa_cons pe_int (pa_cons pe_int pa_nil))) pa_nil)) (pa_cons (pe_lst pa_nil) (pa_cons (pe_tup (pa_cons (pe_tup (pa_cons pe_int (pa_cons pe_int pa_nil))) pa_nil)) (pa_cons (pe_tup (pa_cons (pe_tup (pa_cons pe_int pa_nil)) pa_nil)) (pa_cons (pe_tup (pa_cons pe_int (pa_cons pe_int pa_nil))) (pa_cons (pe_tup (pa_cons pe_non pa_nil)) (pa_cons (pe_tup (pa_cons (pe_tup (pa_cons (pe_ix ix_tup (pv 1) (pe_un un_neg pe_int) (fun _ _ => rfl)) (pa_cons pe_int pa_nil))) pa_nil)) pa_nil)))))))) pa_nil))))) pss_nil)
       (pss_cons (ps_par (i := 3) (j := 4) (by rfl) scChg.nd rfl rfl (by decide) rfl rfl (pa_cons (pe_call GT hr1 (by rfl) gT FT.kp bT .nil pass0 (pa_cons (pv 0) (pa_cons pe_int pa_nil))) (pa_cons (pe_call GT hr1 (by rfl) gT FT.kp bT .nil pass0 (pa_cons (pv 0) (pa_cons (pe_callB call_len_seq (by rfl) N.len (by decide +kernel) (pa_cons (pv 2) pa_nil)) pa_nil))) pa_nil)) (by rfl))
       (pss_cons (ps_asg (pe_ix ix_tup (pv 2) (pv 4) (fun _ _ => rfl)) (pg_tup (by rfl) (pgs_cons (pg_name (i := 5) scChg.nd rfl (.inl rfl)) (pgs_cons (pg_name (i := 6) scChg.nd rfl (.inl rfl)) pgs_nil))))
       (pss_cons (ps_set (i := 7) scChg.nd rfl (.inl rfl) (pe_lst (pa_cons (pe_tup (pa_cons (pe_op op_add (pv 5) pe_int) (pa_cons (pv 6) pa_nil))) (pa_cons (pe_tup (pa_cons (pv 5) (pa_cons (pe_ix ix_tup (pv 1) (pe_call GT hr1 (by rfl) gT FT.kp bT .nil pass0 (pa_cons (pv 0) (pa_cons (pe_callB call_len_seq (by rfl) N.len (by decide +kernel) (pa_cons (pv 1) pa_nil)) pa_nil))) (fun _ _ => rfl)) pa_nil))) (pa_cons (pe_tup (pa_cons (pe_op op_add (pv 5) (pv 6)) (pa_cons (pv 6) pa_nil))) (pa_cons (pe_tup (pa_cons (pv 5) (pa_cons pe_bl pa_nil))) pa_nil))))))
       (pss_cons (ps_set (i := 7) scChg.nd rfl (.inl rfl) (pe_op op_cat (pv 7) (pe_lst (pa_cons (pe_tup (pa_cons pe_bl (pa_cons pe_int pa_nil))) (pa_cons (pe_lst (pa_cons (pv 5) (pa_cons (pv 6) pa_nil))) (pa_cons (pe_tup (pa_cons (pv 5) (pa_cons (pv 6) (pa_cons pe_int pa_nil)))) (pa_cons (pe_tup (pa_cons (pv 5) pa_nil)) (pa_cons pe_non (pa_cons (pe_tup (pa_cons (pv 5) (pa_cons (pe_op op_add (pv 6) pe_int) pa_nil))) (pa_cons (pe_tup (pa_cons (pe_un un_neg (pv 6)) (pa_cons (pv 6) pa_nil))) pa_nil))))))))))
       (pss_cons (ps_if (pt_cmpR op_eq (pv 3) pe_int (nomark _))
       (pss_one (ps_ret (pe_op op_catS (pe_slice sl_tupS (pv 2) po_none (po_some (pv 4))) (pe_slice sl_tupS (pv 2) (po_some (pe_op op_add (pv 4) pe_int)) po_none)))) pss_nil)
       (pss_cons (ps_if (pt_cmpR op_eq (pv 3) pe_int (nomark _))
       (pss_one (ps_ret (pe_op op_catS (pe_op op_catS (pe_slice sl_tupS (pv 2) po_none (po_some (pv 4))) (pe_slice sl_tupS (pv 2) (po_some (pv 4)) (po_some (pe_op op_add (pv 4) pe_int)))) (pe_slice sl_tupS (pv 2) (po_some (pv 4)) po_none)))) pss_nil)
       (pss_cons (ps_if (pt_cmpR op_eq (pv 3) pe_int (nomark _))
       (pss_one (ps_ret (pe_op op_catS (pe_op op_catS (pe_slice sl_tupS (pv 2) po_none (po_some (pv 4))) (pe_revT (pe_slice sl_tupS (pv 2) (po_some (pv 4)) (po_some (pe_op op_add (pv 4) pe_int))))) (pe_slice sl_tupS (pv 2) (po_some (pe_op op_add (pv 4) pe_int)) po_none)))) pss_nil)
       (pss_cons (ps_if (pt_cmpR op_eq (pv 3) pe_int (nomark _))
       (pss_one (ps_ret (pe_callTy call_list_of (by rfl) N.list (by decide +kernel) (pa_cons (pv 2) pa_nil)))) pss_nil)
       (pss_one (ps_ret (pe_op op_catS (pe_op op_catS (pe_slice sl_tupS (pv 2) po_none (po_some (pv 4))) (pe_tup (pa_cons (pe_call GO hr (by rfl) gO FO.kp bO .nil pass0 (pa_cons (pv 0) (pa_cons (pv 7) pa_nil))) pa_nil))) (pe_slice sl_tupS (pv 2) (po_some (pe_op op_add (pv 4) pe_int)) po_none))))))))))))), ?_⟩
    have tp : t ≠ p := hp.netup ht
    have cp : c ≠ p := hp.netup hc
    have gl : atI ((C ++ [L]).map V.int) (-1) = some (.int L) := by
      rw [List.map_append]
      exact atI_last _ _
    have lxs : xs.length ≤ 100 := by rw [hbl.len]; exact hlen
    refine ⟨.ref t, rfl, Nat.zero_le _, fun u nu => ?_⟩
    have su := same_upd (o := .tup []) nu
    refine ⟨.tuple (bs.map bD), .tuple [], .tup (.inl (.inl (su _ _ ht))) (BL.dp (hbl.mono fun t ys e => su _ _ e)), .tup (.inl (.inl upd_same)) .nil, shaped_bs bs, shaped_bs [], _, rfl, ?_⟩
    rw [eqv_empty]
    have hp1 := hp.same su
    have ht1 := su _ _ ht
    have hc1 := su _ _ hc
    have bl1 : BL (upd H u (.tup [])) xs bs := hbl.mono fun t ys e => su _ _ e
    have b01 : But p H (upd H u (.tup [])) := Same.but su
    generalize upd H u (.tup []) = H1 at *
    clear su nu hp ht hc hbl
    by_cases hbe : bs = []
    · subst hbe
      refine iteT ?_
      refine ⟨.ref p, rfl, (by show 2 ≤ sizeLine; decide), fun a1 i1 => ⟨(by show 1 ≤ sizeLine; decide), fun a2 i2 => ⟨(by show 0 ≤ sizeLine; decide), fun a3 i3 => ⟨(by show 2 ≤ sizeLine; decide), fun a4 i4 => ⟨(by show 1 ≤ sizeLine; decide), fun a5 i5 => ⟨(by show 1 ≤ sizeLine; decide), fun a6 i6 => ⟨(by show 1 ≤ sizeLine; decide), fun a7 i7 => ⟨(by show 2 ≤ sizeLine; decide), fun a8 i8 => ⟨(by show 1 ≤ sizeLine; decide), fun a9 i9 => ?_⟩⟩⟩⟩⟩⟩⟩⟩⟩
      have w1 := same_upd (o := .tup [.int 0, .int 1]) i1
      have w2 := same_upd (o := .tup [.ref a1]) i2
      have w3 := same_upd (o := .lst []) i3
      have w4 := same_upd (o := .tup [.int 0, .int 0]) i4
      have w5 := same_upd (o := .tup [.ref a4]) i5
      have w6 := same_upd (o := .tup [.int 0]) i6
      have w7 := same_upd (o := .tup [.ref a6]) i7
      have w8 := same_upd (o := .tup [.int 0, .int 1]) i8
      have w9 := same_upd (o := .tup [.non]) i9
      have hc9 := w9 _ _ (w8 _ _ (w7 _ _ (w6 _ _ (w5 _ _ (w4 _ _ (w3 _ _ (w2 _ _ (w1 _ _ hc1))))))))
      refine ⟨.ref c, rfl, 1, rfl, c, _, -1, _, rfl, rfl, .inl (.inl hc9), gl, (by show 2 ≤ sizeLine; decide), fun a10 i10 => ⟨(by show 1 ≤ sizeLine; decide), fun a11 i11 => ⟨(by show 7 ≤ sizeLine; decide), fun a12 i12 => ?_⟩⟩⟩
      have w10 := same_upd (o := .tup [.int L, .int 1]) i10
      have w11 := same_upd (o := .tup [.ref a10]) i11
      have c10 := w11
      have c9 := w10.trans c10
      have c8 := w9.trans c9
      have c7 := w8.trans c8
      have c6 := w7.trans c7
      have c5 := w6.trans c6
      have c4 := w5.trans c5
      have c3 := w4.trans c4
      have c2 := w3.trans c3
      have c1 := w2.trans c2
      have c0 := w1.trans c1
      have hpK := hp1.same c0
      refine ⟨p, a12, _, rfl, hpK.same (same_upd i12), .inl (.inl upd_same), (hpK.ne_none i12).symm, List.cons_ne_nil _ _, by simp, fun H2 x b2 hp2 hx => ?_⟩
      have fin : ∀ y : V, Deep _ y → Deep H2 y := fun y v => (v.same (same_upd i12)).but b2 (hpK.same (same_upd i12)) hp2
      refine q _ _ (b01.trans fun b o nb h => b2 b o nb (same_upd i12 _ _ (c0 _ _ h))) hp2 ?_
      simp only [List.mem_cons, List.not_mem_nil, or_false] at hx
      rcases hx with h | h | h | h | h | h | h <;> subst h
      · exact fin _ (.tup (c2 _ _ upd_same) (TL.one (.tup (c1 _ _ upd_same) (TL.ints _ [0, 1]) (by simp))) (by simp))
      · exact fin _ (.base (.lst (c3 _ _ upd_same)) (by decide))
      · exact fin _ (.tup (c5 _ _ upd_same) (TL.one (.tup (c4 _ _ upd_same) (TL.ints _ [0, 0]) (by simp))) (by simp))
      · exact fin _ (.tup (c7 _ _ upd_same) (TL.one (.tup (c6 _ _ upd_same) (TL.ints _ [0]) (by simp))) (by simp))
      · exact fin _ (.tup (c8 _ _ upd_same) (TL.ints _ [0, 1]) (by simp))
      · exact fin _ (.tup (c9 _ _ upd_same) (TL.one (.base .non (by decide))) (by simp))
      · exact fin _ (.tup upd_same (TL.one (.tup (c10 _ _ upd_same) (TL.ints _ [L, 1]) (by simp))) (by simp))
    · have hne : bs.isEmpty = false := by
        cases bs with
        | nil => exact absurd rfl hbe
        | cons b r => rfl
      rw [hne]
      refine iteF ?_
      have lx1 : 1 ≤ xs.length := by
        rw [bl1.len]
        exact List.length_pos_iff.mpr hbe
      refine ⟨.ref p, rfl, p, 8, rfl, hp1, by decide, by decide, fun H2 wy b2 hp2 w0 w1 => ?_⟩
      have ht2 := b2 _ _ tp ht1
      refine ⟨.ref p, rfl, .ref t, rfl, t, _, rfl, .inr (.inl (.inl ht2)), p, _, rfl, hp2, by omega, by omega, fun H3 dd b3 hp3 d0 d1 => ⟨_, _, rfl, ?_⟩⟩
      obtain ⟨j, rfl⟩ : ∃ j : Nat, dd = j := ⟨dd.toNat, by omega⟩
      have hj : j < xs.length := by omega
      have ht3 := b3 _ _ tp ht2
      have hc3 := b3 _ _ cp (b2 _ _ cp hc1)
      have B3 : But p H H3 := (b01.trans b2).trans b3
      have bl3 : BL H3 xs bs := bl1.mono fun t ys e => b3 _ _ (hp2.netup (b2 _ _ (hp1.netup e) e)) (b2 _ _ (hp1.netup e) e)
      obtain ⟨b, hb, v, ev, e4⟩ := bl3.get (List.getElem?_eq_getElem hj)
      refine ⟨.ref t, rfl, .int j, rfl, t, _, j, .ref v, rfl, rfl, .inl (.inl ht3), atI_nat (by rw [List.getElem?_eq_getElem hj, ev]), v, _, rfl, .inl (.inl e4), rfl, _, _, rfl, _, _, rfl, rfl, ?_⟩
      obtain ⟨st, wd⟩ := b
      -- the odd ones
      refine ⟨.int st, rfl, _, _, rfl, rfl, .int wd, rfl, (by show 2 ≤ sizeLine; decide), fun a1 i1 => ?_⟩
      have w1' := same_upd (o := .tup [.int (st + 1), .int wd]) i1
      have hc4 := w1' _ _ hc3
      have lenC : ((C ++ [L]).map V.int).length = C.length + 1 := by simp
      refine ⟨.int st, rfl, .ref c, rfl, .ref p, rfl, .ref c, rfl, c, _, rfl, .inr (.inl (.inl hc4)), p, _, rfl, hp3.same w1', by rw [lenC]; omega, by rw [lenC]; omega, fun H4 e5 b4 hp4 e50 e51 => ?_⟩
      rw [lenC] at e51
      obtain ⟨j5, rfl⟩ : ∃ j : Nat, e5 = j := ⟨e5.toNat, by omega⟩
      have hj5 : j5 < (C ++ [L]).length := by simp; omega
      refine ⟨c, _, j5, .int (C ++ [L])[j5], rfl, rfl, .inl (.inl (b4 _ _ cp hc4)), atI_nat (by rw [List.getElem?_map, List.getElem?_eq_getElem hj5]; rfl), (by show 2 ≤ sizeLine; decide), fun a2 i2 => ?_⟩
      refine ⟨.int st, rfl, .int wd, rfl, _, _, rfl, rfl, .int wd, rfl, (by show 2 ≤ sizeLine; decide), fun a3 i3 => ⟨.int st, rfl, (by show 2 ≤ sizeLine; decide), fun a4 i4 => ⟨(by show 4 ≤ sizeLine; decide), fun l1 k1 => ?_⟩⟩⟩
      have x2 := same_upd (o := .tup [.int st, .int (C ++ [L])[j5]]) i2
      have x3 := same_upd (o := .tup [.int (st + wd), .int wd]) i3
      have x4 := same_upd (o := .tup [.int st, .bl true]) i4
      have x5 := same_upd (o := .lst [.ref a1, .ref a2, .ref a3, .ref a4]) k1
      have hpA := hp4.same (x2.trans (x3.trans (x4.trans x5)))
      have da1 : Deep H4 (.ref a1) := .tup (b4 _ _ ((hp3.same w1').netup upd_same) upd_same) (TL.ints _ [_, _]) (by simp)
      refine ⟨.ref l1, rfl, (by show 2 ≤ sizeLine; decide), fun a5 i5 => ⟨.int st, rfl, .int wd, rfl, (by show 2 ≤ sizeLine; decide), fun a6 i6 => ⟨.int st, rfl, .int wd, rfl, (by show 3 ≤ sizeLine; decide), fun a7 i7 => ⟨.int st, rfl, (by show 1 ≤ sizeLine; decide), fun a8 i8 => ⟨.int st, rfl, .int wd, rfl, _, _, rfl, rfl, (by show 2 ≤ sizeLine; decide), fun a9 i9 => ⟨.int wd, rfl, _, rfl, .int wd, rfl, (by show 2 ≤ sizeLine; decide), fun a10 i10 => ⟨(by show 7 ≤ sizeLine; decide), fun l2 k2 => ?_⟩⟩⟩⟩⟩⟩⟩
      have y5 := same_upd (o := .tup [.bl true, .int 1]) i5
      have y6 := same_upd (o := .lst [.int st, .int wd]) i6
      have y7 := same_upd (o := .tup [.int st, .int wd, .int 0]) i7
      have y8 := same_upd (o := .tup [.int st]) i8
      have y9 := same_upd (o := .tup [.int st, .int (wd + 1)]) i9
      have y10 := same_upd (o := .tup [.int (-wd), .int wd]) i10
      have y11 := same_upd (o := .lst [.ref a5, .ref a6, .ref a7, .ref a8, .non, .ref a9, .ref a10]) k2
      have z10 := y11
      have z9 := y10.trans z10
      have z8 := y9.trans z9
      have z7 := y8.trans z8
      have z6 := y7.trans z7
      have z5 := y6.trans z6
      have z4 := y5.trans z5
      have z3 := x5.trans z4
      have z2 := x4.trans z3
      have z1 := x3.trans z2
      have z0 := x2.trans z1
      refine ⟨l1, l2, _, _, rfl, rfl, z4 _ _ upd_same, upd_same, (by show 11 ≤ sizeLine; decide), fun l3 k3 => ?_⟩
      have zL := z0.trans (same_upd k3 (o := .lst ([.ref a1, .ref a2, .ref a3, .ref a4] ++ [.ref a5, .ref a6, .ref a7, .ref a8, .non, .ref a9, .ref a10])))
      have s3 := same_upd k3 (o := .lst ([.ref a1, .ref a2, .ref a3, .ref a4] ++ [.ref a5, .ref a6, .ref a7, .ref a8, .non, .ref a9, .ref a10]))
      have hpL := hp4.same zL
      have oT : TL _ ([.ref a1, .ref a2, .ref a3, .ref a4] ++ [.ref a5, .ref a6, .ref a7, .ref a8, .non, .ref a9, .ref a10]) := fun y hy => by
        have hy2 : y = .ref a1 ∨ y = .ref a2 ∨ y = .ref a3 ∨ y = .ref a4 ∨ y = .ref a5 ∨ y = .ref a6 ∨ y = .ref a7 ∨ y = .ref a8 ∨ y = .non ∨ y = .ref a9 ∨ y = .ref a10 := by simpa using hy
        rcases hy2 with h | h | h | h | h | h | h | h | h | h | h <;> subst h
        · exact da1.same zL
        · exact (Deep.tup (z1 _ _ upd_same) (TL.ints _ [_, _]) (by simp)).same s3
        · exact (Deep.tup (z2 _ _ upd_same) (TL.ints _ [_, _]) (by simp)).same s3
        · exact (Deep.tup (z3 _ _ upd_same) (TL.append (TL.ints _ [_]) (TL.one (.base (.bl true) (by decide)))) (by simp)).same s3
        · exact (Deep.tup (z5 _ _ upd_same) (TL.append (TL.one (.base (.bl true) (by decide))) (TL.ints _ [_])) (by simp)).same s3
        · exact (Deep.base (.lst (z6 _ _ upd_same)) (by decide)).same s3
        · exact (Deep.tup (z7 _ _ upd_same) (TL.ints _ [_, _, _]) (by simp)).same s3
        · exact (Deep.tup (z8 _ _ upd_same) (TL.ints _ [_]) (by simp)).same s3
        · exact .base .non (by decide)
        · exact (Deep.tup (z9 _ _ upd_same) (TL.ints _ [_, _]) (by simp)).same s3
        · exact (Deep.tup (z10 _ _ upd_same) (TL.ints _ [_, _]) (by simp)).same s3
      have nlp : l3 ≠ p := ((hp4.same z0).ne_none k3).symm
      have ht5 := zL _ _ (b4 _ _ tp (w1' _ _ ht3))
      have sT : TL _ xs := ((bl3.deep).same w1').but b4 (hp3.same w1') hp4
      have sT5 := sT.same zL
      have bb := (B3.trans ((Same.but w1').trans b4)).trans (Same.but zL)
      have hl5 := upd_at (o := .lst ([.ref a1, .ref a2, .ref a3, .ref a4] ++ [.ref a5, .ref a6, .ref a7, .ref a8, .non, .ref a9, .ref a10])) k3
      have iZ : ∀ (lo hi : Option Int), (cutV xs lo hi).length ≤ 100 := fun lo hi => Nat.le_trans cut_le lxs
      generalize hoL : ([.ref a1, .ref a2, .ref a3, .ref a4] ++ [.ref a5, .ref a6, .ref a7, .ref a8, .non, .ref a9, .ref a10] : List V) = oL at *
      have oN : oL ≠ [] := by rw [← hoL]; simp
      have oZ : oL.length ≤ 1000 := by rw [← hoL]; simp
      clear zL s3 z0 z1 z2 z3 z4 z5 z6 z7 z8 z9 z10 y5 y6 y7 y8 y9 y10 y11 x2 x3 x4 x5 hoL
      have iT := fun (H' : Hp) (lo hi : Option Int) (s : Same _ H') => (sT5.same s).cut (lo := lo) (hi := hi)
      refine ⟨.int wy, rfl, rfl, _, rfl, ite2 (fun c => ?_) (fun c => ?_)⟩
      · refine ⟨.ref t, rfl, .int j, rfl, j, rfl, t, _, rfl, ht5, fun p1 H6 s6 e6 => ?_⟩
        refine ⟨.ref t, rfl, .int j, rfl, _, _, rfl, rfl, _, rfl, t, _, rfl, s6 _ _ ht5, fun p2 H7 s7 e7 => ?_⟩
        refine ⟨p1, p2, _, _, rfl, rfl, s7 _ _ e6, e7, ?_, fun p3 H8 s8 e8 => ?_⟩
        · have := iZ none (some (j : Int)); have := iZ (some ((j : Int) + 1)) none; omega
        · have sA := s6.trans (s7.trans s8)
          refine q _ _ (bb.trans (Same.but sA)) (hpL.same sA) (.tup e8 ((iT _ _ _ sA).append (iT _ _ _ sA)) ?_)
          rw [List.length_append]
          have := iZ none (some (j : Int)); have := iZ (some ((j : Int) + 1)) none; omega
      refine ⟨.int wy, rfl, rfl, _, rfl, ite2 (fun c => ?_) (fun c => ?_)⟩
      · refine ⟨.ref t, rfl, .int j, rfl, j, rfl, t, _, rfl, ht5, fun p1 H6 s6 e6 => ?_⟩
        refine ⟨.ref t, rfl, .int j, rfl, j, rfl, .int j, rfl, _, _, rfl, rfl, _, rfl, t, _, rfl, s6 _ _ ht5, fun p2 H7 s7 e7 => ?_⟩
        refine ⟨p1, p2, _, _, rfl, rfl, s7 _ _ e6, e7, ?_, fun p3 H8 s8 e8 => ?_⟩
        · have := iZ none (some (j : Int)); have := iZ (some (j : Int)) (some ((j : Int) + 1)); omega
        refine ⟨.ref t, rfl, .int j, rfl, j, rfl, t, _, rfl, s8 _ _ (s7 _ _ (s6 _ _ ht5)), fun p4 H9 s9 e9 => ?_⟩
        refine ⟨p3, p4, _, _, rfl, rfl, s9 _ _ e8, e9, ?_, fun p5 Hx sx ex => ?_⟩
        · rw [List.length_append]
          have := iZ none (some (j : Int)); have := iZ (some (j : Int)) (some ((j : Int) + 1)); have := iZ (some (j : Int)) none; omega
        · have sA := s6.trans (s7.trans (s8.trans (s9.trans sx)))
          refine q _ _ (bb.trans (Same.but sA)) (hpL.same sA) (.tup ex (((iT _ _ _ sA).append (iT _ _ _ sA)).append (iT _ _ _ sA)) ?_)
          rw [List.length_append, List.length_append]
          have := iZ none (some (j : Int)); have := iZ (some (j : Int)) (some ((j : Int) + 1)); have := iZ (some (j : Int)) none; omega
      refine ⟨.int wy, rfl, rfl, _, rfl, ite2 (fun c => ?_) (fun c => ?_)⟩
      · refine ⟨.ref t, rfl, .int j, rfl, j, rfl, t, _, rfl, ht5, fun p1 H6 s6 e6 => ?_⟩
        refine ⟨.ref t, rfl, .int j, rfl, j, rfl, .int j, rfl, _, _, rfl, rfl, _, rfl, t, _, rfl, s6 _ _ ht5, fun p2 H7 s7 e7 => ?_⟩
        refine ⟨p2, _, rfl, .inl (.inl e7), fun p3 n3 => ?_⟩
        have s8 := same_upd (o := .tup (cutV xs (some (j : Int)) (some ((j : Int) + 2))).reverse) n3
        refine ⟨p1, p3, _, _, rfl, rfl, s8 _ _ (s7 _ _ e6), upd_same, ?_, fun p4 H9 s9 e9 => ?_⟩
        · rw [List.length_reverse]
          have := iZ none (some (j : Int)); have := iZ (some (j : Int)) (some ((j : Int) + 2)); omega
        refine ⟨.ref t, rfl, .int j, rfl, _, _, rfl, rfl, _, rfl, t, _, rfl, s9 _ _ (s8 _ _ (s7 _ _ (s6 _ _ ht5))), fun p5 Hx sx ex => ?_⟩
        refine ⟨p4, p5, _, _, rfl, rfl, sx _ _ e9, ex, ?_, fun p6 Hy sy ey => ?_⟩
        · rw [List.length_append, List.length_reverse]
          have := iZ none (some (j : Int)); have := iZ (some (j : Int)) (some ((j : Int) + 2)); have := iZ (some ((j : Int) + 2)) none; omega
        · have sA := s6.trans (s7.trans (s8.trans (s9.trans (sx.trans sy))))
          refine q _ _ (bb.trans (Same.but sA)) (hpL.same sA) (.tup ey (((iT _ _ _ sA).append (iT _ _ _ sA).rev).append (iT _ _ _ sA)) ?_)
          rw [List.length_append, List.length_append, List.length_reverse]
          have := iZ none (some (j : Int)); have := iZ (some (j : Int)) (some ((j : Int) + 2)); have := iZ (some ((j : Int) + 2)) none; omega
      refine ⟨.int wy, rfl, rfl, _, rfl, ite2 (fun c => ?_) (fun c => ?_)⟩
      · refine ⟨.ref t, rfl, t, _, rfl, .inr (.inl (.inl ht5)), fun l4 n4 => ?_⟩
        exact q _ _ (bb.trans (Same.but (same_upd n4))) (hpL.same (same_upd n4)) (.base (.lst upd_same) (by decide))
      · refine ⟨.ref t, rfl, .int j, rfl, j, rfl, t, _, rfl, ht5, fun p1 H6 s6 e6 => ?_⟩
        have hp6 := hpL.same s6
        refine ⟨.ref p, rfl, .ref l3, rfl, p, l3, oL, rfl, hp6, .inl (.inl (s6 _ _ hl5)), nlp, oN, oZ, fun H7 y b7 hp7 hy => ?_⟩
        have dy := ((oT.same s6).but b7 hp6 hp7) y hy
        have p1p : p1 ≠ p := hp6.netup e6
        refine ⟨(by show 1 ≤ sizeLine; decide), fun a1 i1 => ?_⟩
        have s8 := same_upd (o := .tup [y]) i1
        refine ⟨p1, a1, _, _, rfl, rfl, s8 _ _ (b7 _ _ p1p e6), upd_same, ?_, fun p3 H9 s9 e9 => ?_⟩
        · rw [List.length_singleton]
          have := iZ none (some (j : Int)); omega
        refine ⟨.ref t, rfl, .int j, rfl, _, _, rfl, rfl, _, rfl, t, _, rfl, s9 _ _ (s8 _ _ (b7 _ _ tp (s6 _ _ ht5))), fun p4 Hx sx ex => ?_⟩
        refine ⟨p3, p4, _, _, rfl, rfl, sx _ _ e9, ex, ?_, fun p5 Hy sy ey => ?_⟩
        · rw [List.length_append, List.length_singleton]
          have := iZ none (some (j : Int)); have := iZ (some ((j : Int) + 1)) none; omega
        · have sA := s8.trans (s9.trans (sx.trans sy))
          have sT7 : TL Hy xs := ((sT5.same s6).but b7 hp6 hp7).same sA
          refine q _ _ (((bb.trans (Same.but s6)).trans b7).trans (Same.but sA)) (hp7.same sA) (.tup ey (((sT7.cut).append (TL.one (dy.same sA))).append (sT7.cut)) ?_)
          rw [List.length_append, List.length_append, List.length_singleton]
          have := iZ none (some (j : Int)); have := iZ (some ((j : Int) + 1)) none; omega
end
end Ph

namespace Ph
open PySem PySem.Spec PyProof.Rows L2
abbrev sLaw : Stmt := topS 17
theorem scLaw : FnScope ["_law_script", "_law_k", "_law_pot_here", "_law_turn", "_law_links_here", "_law_many", "_law_heaped", "_law_some", "_law_thing", "_law_fewer"] ["_law_script"] (defScope sLaw) := ⟨rfl, rfl, rfl, by decide +kernel, rfl, by decide +kernel, by decide +kernel⟩
theorem same_but {p : Addr} {H H1 H2 : Hp} (a : Same H H1) (n : H p = none) (b : But p H1 H2) : Same H H2 := fun c o h => b c o (ne_of_none h n) (a c o h)
theorem Lnk.all {m x : Int} {ns : List Int} (h : Lnk m ns x) : ∀ c ∈ ns, 1 ≤ c ∧ c ≤ x := by
  induction h with
  | one => intro c hc; rw [List.mem_singleton.mp hc]; decide
  | @step ns x r h h1 h2 h3 h4 ih =>
    intro c hc
    have hx := h.pos
    have hxr : x * 1 ≤ x * r := Int.mul_le_mul_of_nonneg_left (by omega) (by omega)
    rw [Int.mul_one] at hxr
    rcases List.mem_append.mp hc with e | e
    · have := ih c e
      omega
    · rw [List.mem_singleton.mp e]
      omega
theorem BkAt.back {H H' : Hp} {x : V} {b : Int × Int} (d : Deep H x) (s : Same H H') (h : BkAt H' x b) : BkAt H x b := by
  obtain ⟨u, e3, e4⟩ := h
  refine ⟨u, e3, ?_⟩
  subst e3
  cases d with
  | base t n =>
    have t2 := t.same s
    cases t2 with
    | tup e => exact absurd rfl n
    | lst e => rw [e4] at e; cases e
    | dK e => rw [e4] at e; cases e
  | tup e6 _ _ =>
    have := s _ _ e6
    rw [e4] at this
    injection this with this
    rw [this]
    exact e6
theorem BL.back {H H' : Hp} (s : Same H H') : ∀ {xs : List V} {bs : List (Int × Int)}, (∀ y ∈ xs, Deep H y) → BL H' xs bs → BL H xs bs
  | _, _, _, .nil => .nil
  | _, _, d, .cons h r => .cons (h.back (d _ (List.mem_cons_self ..)) s) (BL.back s (fun y hy => d y (List.mem_cons_of_mem _ hy)) r)
theorem IsSt.back {C : List Int} {W : Int} {H H' : Hp} {x : V} (d : Deep H x) (s : Same H H') (h : IsSt C W H' x) : IsSt C W H x := by
  obtain ⟨t, bs, rfl, ⟨xs, e, bl⟩, st⟩ := h
  cases d with
  | base t n =>
    have t2 := t.same s
    cases t2 with
    | tup e => exact absurd rfl n
    | lst e2 => rw [e] at e2; cases e2
    | dK e2 => rw [e] at e2; cases e2
  | tup e6 hd _ =>
    have := s _ _ e6
    rw [e] at this
    injection this with this
    injection this with this
    subst this
    exact ⟨t, bs, rfl, ⟨_, e6, bl.back s hd⟩, st⟩
theorem IsSt.same {C : List Int} {W : Int} {H H' : Hp} {x : V} (s : Same H H') (h : IsSt C W H x) : IsSt C W H' x := by
  obtain ⟨t, bs, e, a, st⟩ := h
  exact ⟨t, bs, e, a.same s, st⟩
theorem StAt.deep {H : Hp} {t : Addr} {bs : List (Int × Int)} (h : StAt H t bs) (hl : bs.length ≤ 5000) : Deep H (.ref t) := by
  obtain ⟨xs, e, bl⟩ := h
  exact .tup e bl.deep (by rw [bl.len]; exact hl)
section
variable {P : Program} {w : World} {K : PySem.W.Frag} {mg : Str → Option Value} {base : Heap}
def spLaw (K : PySem.W.Frag) : Sp := fun vs H Q _ => ∃ (a : Addr) (ns : List Int), vs = [.ref a] ∧ SqL K H a (ns.map V.int) ∧ ns.length ≤ 63 ∧ ∀ H', Q (.bl true) H'
theorem ok_law {f fII fZ fB fI fP fT fO fL fW fD fN fU fC : Addr} {fd fdII fdZ fdB fdI fdP fdT fdO fdL fdW fdD fdN fdU fdC : FuncData} (F : Fun K "law" "law" sLaw f fd) (N : Nm5 K mg)
    (FII : Fun K "is_integer" "is_integer" sIsInt fII fdII) (bII : Binds K fdII ["value"] []) (gII : mg "is_integer" = some (.ref fII))
    (FZ : Fun K "is_size" "is_size" sIsSize fZ fdZ) (bZ : Binds K fdZ ["chain", "value"] []) (gZ : mg "is_size" = some (.ref fZ))
    (FB : Fun K "is_block" "is_block" sIsBl fB fdB) (bB : Binds K fdB ["chain", "value"] []) (gB : mg "is_block" = some (.ref fB))
    (FI : Fun K "is_state" "is_state" sIsSt fI fdI) (bI : Binds K fdI ["chain", "pages", "value"] []) (gI : mg "is_state" = some (.ref fI))
    (FP : Fun K "_law_pot" "_law_pot" sPot fP fdP) (bP : Binds K fdP ["_law_script", "_law_k"] []) (gP : mg "_law_pot" = some (.ref fP))
    (FT : Fun K "_law_take" "_law_take" sTake fT fdT) (bT : Binds K fdT ["_law_pot_here", "_law_upto"] []) (gT : mg "_law_take" = some (.ref fT))
    (FO : Fun K "_law_of" "_law_of" sOf fO fdO) (bO : Binds K fdO ["_law_pot_here", "_law_some"] []) (gO : mg "_law_of" = some (.ref fO))
    (FL : Fun K "_law_links" "_law_links" sLinks fL fdL) (bL : Binds K fdL ["_law_pot_here", "_law_most"] []) (gL : mg "_law_links" = some (.ref fL))
    (FW : Fun K "_law_drawn" "_law_drawn" sDrawn fW fdW) (bW : Binds K fdW ["_law_pot_here", "_law_links_here", "_law_many", "_law_tries"] []) (gW : mg "_law_drawn" = some (.ref fW))
    (FD : Fun K "_law_odd" "_law_odd" sOdd fD fdD) (bD : Binds K fdD ["_law_pot_here"] []) (gD : mg "_law_odd" = some (.ref fD))
    (FN : Fun K "_law_is_number" "_law_is_number" sIsNum fN fdN) (bN : Binds K fdN ["_law_thing", "_law_least"] []) (gN : mg "_law_is_number" = some (.ref fN))
    (FU : Fun K "_law_due" "_law_due" sDue fU fdU) (bU : Binds K fdU ["_law_links_here", "_law_many", "_law_thing"] []) (gU : mg "_law_due" = some (.ref fU))
    (FC : Fun K "_law_changed" "_law_changed" sChg fC fdC) (bC : Binds K fdC ["_law_pot_here", "_law_links_here", "_law_thing"] []) (gC : mg "_law_changed" = some (.ref fC)) :
    FnOk P w K mg base CX0 5 f fd ["_law_script"] (spLaw K) := by
  have GP : FnOk P w K mg base CX0 1 fP fdP ["_law_script", "_law_k"] (spPot K) := ok_pot FP N.len N.abs N.int N.dig
  have GT : FnOk P w K mg base CX0 1 fT fdT ["_law_pot_here", "_law_upto"] spTake := ok_take FT
  have GO : FnOk P w K mg base CX0 2 fO fdO ["_law_pot_here", "_law_some"] (spOf K) := ok_of FO FT bT gT N.len
  have GL : FnOk P w K mg base CX0 3 fL fdL ["_law_pot_here", "_law_most"] spLinks := ok_links FL FT bT gT FO bO gO N.len N.range N.tuple
  have GW : FnOk P w K mg base CX0 3 fW fdW ["_law_pot_here", "_law_links_here", "_law_many", "_law_tries"] spDrawn := ok_drawn FW N FT bT gT FO bO gO
  have GC : FnOk P w K mg base CX0 3 fC fdC ["_law_pot_here", "_law_links_here", "_law_thing"] spChg := ok_chg FC N FT bT gT FO bO gO
  have GD : FnOk P w K mg base CX0 3 fD fdD ["_law_pot_here"] spOdd := ok_odd FD N FT bT gT FO bO gO
  have GI : FnOk P w K mg base CX0 4 fI fdI ["chain", "pages", "value"] spSt := ok_isst FI N FII bII gII FZ bZ gZ FB bB gB
  have GU : FnOk P w K mg base CX0 2 fU fdU ["_law_links_here", "_law_many", "_law_thing"] spSt := ok_due FU N FN bN gN
  refine F.ok scLaw (fun vs H Q E h => ?_) (fun cdv A outer s H vs Q E hr h => ?_)
  · obtain ⟨a, ns, rfl, _⟩ := h
    rfl
  · obtain ⟨a, ns, rfl, hS, hlen, q⟩ := h
    have hr1 : Room 1 (A.deeper (envOfC "law" (defScope sLaw) s.heap.objs.size f cdv)) := hr.mono (by decide)
    have hr2 : Room 2 (A.deeper (envOfC "law" (defScope sLaw) s.heap.objs.size f cdv)) := hr.mono (by decide)
    have hr3 : Room 3 (A.deeper (envOfC "law" (defScope sLaw) s.heap.objs.size f cdv)) := hr.mono (by decide)
    refine ⟨_, (pss_cons (ps_for PassesOwn.never rfl (pi_range1 (by rfl) N.range (pa_cons (pe_callB (call_max2 rfl) (by rfl) N.max (by decide +kernel) (pa_cons pe_int (pa_cons (pe_callB (call_min2 rfl) (by rfl) N.min (by decide +kernel) (pa_cons pe_int (pa_cons (pe_callB call_len_seq (by rfl) N.len (by decide +kernel) (pa_cons (pv 0) pa_nil)) pa_nil))) pa_nil))) pa_nil)) (pg_name (i := 1) scLaw.nd rfl (.inl rfl))
       (pss_cons (ps_set (i := 2) scLaw.nd rfl (.inl rfl) (pe_call GP hr1 (by rfl) gP FP.kp bP .nil pass0 (pa_cons (pv 0) (pa_cons (pv 1) pa_nil))))
       (pss_one (ps_for PassesOwn.never rfl (pi_range1 (by rfl) N.range (pa_cons pe_int pa_nil)) (pg_name (i := 3) scLaw.nd rfl (.inl rfl))
       (pss_cons (ps_par (i := 4) (j := 5) (by rfl) scLaw.nd rfl rfl (by decide) rfl rfl (pa_cons (pe_call GL hr3 (by rfl) gL FL.kp bL .nil pass0 (pa_cons (pv 2) (pa_cons pe_int pa_nil))) (pa_cons (pe_call GT hr1 (by rfl) gT FT.kp bT .nil pass0 (pa_cons (pv 2) (pa_cons pe_int pa_nil))) pa_nil)) (by rfl))
       (pss_cons (ps_if (pt_cmpR op_eq (pe_call GT hr1 (by rfl) gT FT.kp bT .nil pass0 (pa_cons (pv 2) (pa_cons pe_int pa_nil))) pe_int (nomark _))
       (pss_one (ps_asg (pe_call GO hr2 (by rfl) gO FO.kp bO .nil pass0 (pa_cons (pv 2) (pa_cons (pe_lst (pa_cons (pe_tup (pa_cons (pe_tup (pa_cons pe_int (pa_cons pe_int (pa_cons pe_int (pa_cons pe_int pa_nil))))) (pa_cons pe_int pa_nil))) (pa_cons (pe_tup (pa_cons (pe_tup (pa_cons pe_int (pa_cons pe_int (pa_cons pe_int (pa_cons pe_int pa_nil))))) (pa_cons pe_int pa_nil))) (pa_cons (pe_tup (pa_cons (pe_tup (pa_cons pe_int (pa_cons pe_int pa_nil))) (pa_cons pe_int pa_nil))) pa_nil)))) pa_nil))) (pg_tup (by rfl) (pgs_cons (pg_name (i := 4) scLaw.nd rfl (.inl rfl)) (pgs_cons (pg_name (i := 5) scLaw.nd rfl (.inl rfl)) pgs_nil))))) pss_nil)
       (pss_cons (ps_set (i := 6) scLaw.nd rfl (.inl rfl) (pe_call GW hr3 (by rfl) gW FW.kp bW .nil pass0 (pa_cons (pv 2) (pa_cons (pv 4) (pa_cons (pv 5) (pa_cons (pe_call GO hr2 (by rfl) gO FO.kp bO .nil pass0 (pa_cons (pv 2) (pa_cons (pe_lst (pa_cons pe_int (pa_cons pe_int (pa_cons pe_int pa_nil)))) pa_nil))) pa_nil))))))
       (pss_cons (ps_set (i := 7) scLaw.nd rfl (.inl rfl) (pe_lst (pa_cons (pv 6) (pa_cons (pe_op op_catS (pv 6) (pe_tup (pa_cons (pe_tup (pa_cons (pe_op op_mul (pv 5) (pe_ix ix_tup (pv 4) (pe_un un_neg pe_int) (fun _ _ => rfl))) (pa_cons pe_int pa_nil))) pa_nil))) (pa_cons (pe_call GC hr3 (by rfl) gC FC.kp bC .nil pass0 (pa_cons (pv 2) (pa_cons (pv 4) (pa_cons (pv 6) pa_nil)))) (pa_cons (pe_call GD hr3 (by rfl) gD FD.kp bD .nil pass0 (pa_cons (pv 2) pa_nil)) pa_nil))))))
       (pss_one (ps_for PassesOwn.never rfl (pi_list (pe_op op_cat (pv 7) (pe_lst (pa_cons (pe_call GC hr3 (by rfl) gC FC.kp bC .nil pass0 (pa_cons (pv 2) (pa_cons (pv 4) (pa_cons (pv 6) pa_nil)))) pa_nil)))) (pg_name (i := 8) scLaw.nd rfl (.inl rfl))
       (pss_one (ps_for PassesOwn.never rfl (pi_tup (pe_tup (pa_cons (pv 5) (pa_cons (pe_callB (call_max2 rfl) (by rfl) N.max (by decide +kernel) (pa_cons pe_int (pa_cons (pe_op op_sub (pv 5) pe_int) pa_nil))) (pa_cons pe_int pa_nil))))) (pg_name (i := 9) scLaw.nd rfl (.inl rfl))
       (pss_one (ps_if (pt_cmpR op_ne (pe_callB call_repr_bl (by rfl) N.repr (by decide +kernel) (pa_cons (pe_call GI hr (by rfl) gI FI.kp bI .nil pass0 (pa_cons (pv 4) (pa_cons (pv 9) (pa_cons (pv 8) pa_nil)))) pa_nil)) (pe_callB call_repr_bl (by rfl) N.repr (by decide +kernel) (pa_cons (pe_call GU hr2 (by rfl) gU FU.kp bU .nil pass0 (pa_cons (pv 4) (pa_cons (pv 9) (pa_cons (pv 8) pa_nil)))) pa_nil)) (nomark _))
       (pss_one (ps_ret pe_bl)) pss_nil))))))))))))))
       (pss_one (ps_ret pe_bl))), ?_⟩
    refine ⟨.ref a, rfl, a, _, rfl, .inl hS, _, _, rfl, _, _, rfl, ?_⟩
    generalize hz : (if (if (((ns.map V.int).length : Nat) : Int) < 3 then (((ns.map V.int).length : Nat) : Int) else 3) > 1 then (if (((ns.map V.int).length : Nat) : Int) < 3 then (((ns.map V.int).length : Nat) : Int) else 3) else 1) = z
    have hz0 : 1 ≤ z ∧ z ≤ 3 := by
      rw [← hz]
      split <;> (try split) <;> omega
    refine ⟨z, rfl, by omega, by omega, ?_⟩
    refine for_range (lo := 0) (n := z.toNat) (fun i σ H2 => ∃ y1 y2 y3 y4 y5 y6 y7 y8 y9, σ = [some (.ref a), y1, y2, y3, y4, y5, y6, y7, y8, y9] ∧ Same H H2) ⟨none, none, none, none, none, none, none, none, none, rfl, Same.refl _⟩ ?_ ?_
    · rintro i σ H2 hi ⟨y1, y2, y3, y4, y5, y6, y7, y8, y9, rfl, sm⟩
      refine ⟨.ref a, rfl, .int (0 + i), rfl, a, ns, i, ?_, sm.seq hS, by omega, fun H3 p s3 np hp => ?_⟩
      · rw [Int.zero_add]
        rfl
      have npH : H p = none := sm.free np
      refine ⟨6, rfl, by decide, by decide, ?_⟩
      refine for_range (lo := 0) (n := (6 : Int).toNat) (fun j σ H4 => ∃ y3 y4 y5 y6 y7 y8 y9, σ = [some (.ref a), some (.int (0 + i)), some (.ref p), y3, y4, y5, y6, y7, y8, y9] ∧ Same H H4 ∧ Pot H4 p) ⟨_, _, _, _, _, _, _, rfl, sm.trans s3, hp⟩ ?_ ?_
      · clear y3 y4 y5 y6 y7 y8 y9
        rintro j σ H4 hj ⟨y3, y4, y5, y6, y7, y8, y9, rfl, s4, hp4⟩
        refine ⟨.ref p, rfl, p, 48, rfl, hp4, by decide, by decide, fun H5 c cs x b5 hp5 nc hc hk hl => ?_⟩
        refine ⟨.ref p, rfl, p, 6, rfl, hp5, by decide, by decide, fun H6 m b6 hp6 m0 m1 => ⟨_, _, rfl, ?_⟩⟩
        have cp : c ≠ p := hp5.netup hc
        have hc6 := b6 _ _ cp hc
        refine ⟨.ref p, rfl, p, 4, rfl, hp6, by decide, by decide, fun H7 e b7 hp7 e0 e1 => ⟨rfl, _, rfl, ite2 (fun cc => ?x1) (fun cc => ?x2)⟩⟩
        case x2 =>
          obtain ⟨C, rfl⟩ := hk.last
          have hC := hk.all
          have hL : x ≤ 2000 := by have := hk.le (by decide); omega
          have hCl : C.length ≤ 20 := by simp at hl; omega
          have m2 : m ≤ 2000 := by omega
          have hcX := b7 _ _ cp hc6
          have bX : Same H H7 := same_but (same_but (same_but s4 npH b5) npH b6) npH b7
          clear b5 b6 b7 hk hl nc hc hc6 hp5 hp6 m1
          have mL0 : 0 ≤ m * x := Int.mul_nonneg m0 (by have := hC x (by simp); omega)
          have gl : atI ((C ++ [x]).map V.int) (-1) = some (.int x) := by
            rw [List.map_append]
            exact atI_last _ _
          refine ⟨.ref p, rfl, .ref c, rfl, .int m, rfl, .ref p, rfl, (by show 3 ≤ sizeLine; decide), fun k1 j1 => ?_⟩
          have v1 := same_upd (o := .lst [.int 12, .int 12, .int 60]) j1
          refine ⟨p, k1, _, rfl, hp7.same v1, .inl (.inl upd_same), (hp7.ne_none j1).symm, List.cons_ne_nil _ _, by simp, fun G1 y d1 hq1 hy => ?_⟩
          obtain ⟨n, rfl, n0, n1⟩ : ∃ n : Int, y = .int n ∧ 0 ≤ n ∧ n ≤ 60 := by
            simp only [List.mem_cons, List.not_mem_nil, or_false] at hy
            rcases hy with h | h | h <;> exact ⟨_, h, by decide, by decide⟩
          have g1 := d1 _ _ cp (v1 _ _ hcX)
          refine ⟨p, c, C, x, m, n, rfl, hq1, g1, hC, hCl, hL, m0, m2, n0, by omega, fun G2 t bs d2 hq2 hst st hbl => ?_⟩
          have g2 := d2 _ _ cp g1
          have lbs : bs.length ≤ 60 := by omega
          obtain ⟨xs, ht, bl⟩ := id hst
          have lxs : xs.length ≤ 60 := by rw [bl.len]; exact lbs
          have tp : t ≠ p := hq2.netup ht
          -- some
          refine ⟨.ref t, rfl, .ref t, rfl, .int m, rfl, .ref c, rfl, 1, rfl, c, _, -1, _, rfl, rfl, .inl (.inl g2), gl, m, x, rfl, rfl, .inl ⟨by omega, by omega⟩, (by show 2 ≤ sizeLine; decide), fun u1 r1 => ⟨(by show 1 ≤ sizeLine; decide), fun u2 r2 => ?_⟩⟩
          have e1 := same_upd (o := .tup [.int (m * x), .int 1]) r1
          have e2 := same_upd (o := .tup [.ref u1]) r2
          have e12 := e1.trans e2
          refine ⟨t, u2, _, _, rfl, rfl, e12 _ _ ht, upd_same, by rw [List.length_singleton]; omega, fun t2 G3 e3 ht2 => ?_⟩
          have e13 := e12.trans e3
          have dt2 : Deep G3 (.ref t2) := .tup ht2 (TL.append ((bl.deep).same e13) (TL.one (.tup (e3 _ _ (e2 _ _ upd_same)) (TL.ints _ [_, _]) (by simp)))) (by rw [List.length_append, List.length_singleton]; omega)
          have hq3 := hq2.same e13
          have st3 := hst.same e13
          refine ⟨.ref p, rfl, .ref c, rfl, .ref t, rfl, p, c, t, C, x, bs, rfl, hq3, e13 _ _ g2, hCl, st3, by omega, fun G4 x4 d4 hq4 dx4 => ?_⟩
          refine ⟨.ref p, rfl, p, rfl, hq4, fun G5 x5 d5 hq5 dx5 => ⟨(by show 4 ≤ sizeLine; decide), fun k2 j2 => ?_⟩⟩
          have v2 := same_upd (o := .lst [.ref t, .ref t2, x4, x5]) j2
          have g5 := d5 _ _ cp (d4 _ _ cp (e13 _ _ g2))
          have st5 := (st3.but d4 hq3).but d5 hq4
          have hq6 := hq5.same v2
          refine ⟨.ref k2, rfl, .ref p, rfl, .ref c, rfl, .ref t, rfl, p, c, t, C, x, bs, rfl, hq6, v2 _ _ g5, hCl, st5.same v2, by omega, fun G6 x6 d6 hq7 dx6 => ⟨(by show 1 ≤ sizeLine; decide), fun k3 j3 => ?_⟩⟩
          have v3 := same_upd (o := .lst [x6]) j3
          have k2p : k2 ≠ p := (hq5.ne_none j2).symm
          refine ⟨k2, k3, _, _, rfl, rfl, v3 _ _ (d6 _ _ k2p upd_same), upd_same, (by show 5 ≤ sizeLine; decide), fun k4 j4 => ?_⟩
          have v4 := same_upd (o := .lst ([.ref t, .ref t2, x4, x5] ++ [x6])) j4
          have v34 := v3.trans v4
          have gX := v34 _ _ (d6 _ _ cp (v2 _ _ g5))
          have hqX := hq7.same v34
          have sX : Same H _ := (same_but ((same_but (same_but ((same_but (same_but (bX.trans v1) npH d1) npH d2).trans e13) npH d4) npH d5).trans v2) npH d6).trans v34
          have all : ∀ y ∈ [V.ref t, .ref t2, x4, x5] ++ [x6], Deep _ y := fun y hy => by
            have hy2 : y = .ref t ∨ y = .ref t2 ∨ y = x4 ∨ y = x5 ∨ y = x6 := by simpa using hy
            have up : ∀ z, Deep G5 z → Deep _ z := fun z dz => ((dz.same v2).but d6 hq6 hq7).same v34
            rcases hy2 with h | h | h | h | h <;> subst h
            · exact up _ (st5.deep (by omega))
            · exact up _ ((dt2.but d4 hq3 hq4).but d5 hq4 hq5)
            · exact up _ (dx4.but d5 hq4 hq5)
            · exact up _ dx5
            · exact dx6.same v34
          refine ⟨k4, rfl, ⟨_, .inl (.inl upd_same)⟩, for_list (K := K) (a := k4) (xs := [.ref t, .ref t2, x4, x5] ++ [x6]) (fun mm σ G8 => ∃ y7 y8 y9, σ = [some (.ref a), some (.int (0 + i)), some (.ref p), some (.int (0 + j)), some (.ref c), some (.int m), some (.ref t), y7, y8, y9] ∧ Same _ G8) ⟨_, _, _, rfl, Same.refl _⟩ (fun mm σ G8 _ hP => ?_) (fun mm y σ G8 hy hP => ?_) (fun σ G8 hP => ?_)⟩
          · obtain ⟨_, _, _, _, sg⟩ := hP
            exact .inl (.inl (sg _ _ upd_same))
          · obtain ⟨y7, y8, y9, rfl, sg⟩ := hP
            have dy := (all y (List.mem_of_getElem? hy)).same sg
            refine ⟨.int m, rfl, .int m, rfl, _, _, rfl, rfl, _, _, rfl, (by show 3 ≤ sizeLine; decide), fun u3 r3 => ?_⟩
            have e5 := same_upd (H := G8) (o := .tup [.int m, .int (if m - 1 > 0 then m - 1 else 0), .int 0]) r3
            refine ⟨u3, rfl, ⟨_, .inl (.inl upd_same)⟩, for_tup (K := K) (a := u3) (xs := [.int m, .int (if m - 1 > 0 then m - 1 else 0), .int 0]) (fun nn σ G9 => ∃ y9, σ = [some (.ref a), some (.int (0 + i)), some (.ref p), some (.int (0 + j)), some (.ref c), some (.int m), some (.ref t), y7, some y, y9] ∧ Same (upd G8 u3 (.tup [.int m, .int (if m - 1 > 0 then m - 1 else 0), .int 0])) G9) ⟨_, rfl, Same.refl _⟩ (fun nn σ G9 _ hP => ?_) (fun nn fv σ G9 hf hP => ?_) (fun σ G9 hP => ?_)⟩
            · obtain ⟨_, _, sh⟩ := hP
              exact .inl (.inl (sh _ _ upd_same))
            · obtain ⟨y9, rfl, sh⟩ := hP
              obtain ⟨fw, rfl, f0, f1⟩ : ∃ fw : Int, fv = .int fw ∧ 0 ≤ fw ∧ fw ≤ 2000 := by
                have hm := List.mem_of_getElem? hf
                have hm2 : fv = .int m ∨ fv = .int (if m - 1 > 0 then m - 1 else 0) ∨ fv = .int 0 := by simpa using hm
                rcases hm2 with h | h | h
                · exact ⟨_, h, by omega, by omega⟩
                · exact ⟨_, h, by split <;> omega, by split <;> omega⟩
                · exact ⟨_, h, by decide, by decide⟩
              have s89 := e5.trans sh
              have dy9 := dy.same s89
              have c9 := s89 _ _ (sg _ _ gX)
              refine ⟨.ref c, rfl, .int fw, rfl, y, rfl, c, C, x, fw, y, rfl, c9, hC, hL, f0, f1, dy9, fun a2 zs ez ez2 => ?_, fun G10 b1 s10 hb1 => ?_⟩
              · subst ez
                exact dy9.len ez2
              have dy10 := dy9.same s10
              refine ⟨_, rfl, .ref c, rfl, .int fw, rfl, y, rfl, c, C, x, fw, y, rfl, s10 _ _ c9, hC, hL, f0, f1, dy10, fun a2 zs ez ez2 => ?_, fun G11 b2 s11 hb2 => ⟨_, rfl, rfl, _, rfl, iteNS ?_ ?_⟩⟩
              · subst ez
                exact dy10.len ez2
              · have hcc : IsSt (C ++ [x]) (fw * x) G9 y ↔ IsSt (C ++ [x]) (fw * x) G10 y := ⟨fun h => h.same s10, fun h => h.back dy9 s10⟩
                have e : b1 = b2 := by
                  rw [hcc] at hb1
                  cases b1 <;> cases b2 <;> simp_all
                rw [e]
              · exact ⟨_, rfl, sh.trans (s10.trans s11)⟩
            · obtain ⟨y9, rfl, sh⟩ := hP
              exact ⟨_, _, _, rfl, sg.trans (e5.trans sh)⟩
          · obtain ⟨y7, y8, y9, rfl, sg⟩ := hP
            exact ⟨_, _, _, _, _, _, _, rfl, sX.trans sg, hqX.same sg⟩
        case x1 =>
          refine ⟨.ref p, rfl, (by show 4 ≤ sizeLine; decide), fun t1 i1 => ⟨(by show 2 ≤ sizeLine; decide), fun t2 i2 => ⟨(by show 4 ≤ sizeLine; decide), fun t3 i3 => ⟨(by show 2 ≤ sizeLine; decide), fun t4 i4 => ⟨(by show 2 ≤ sizeLine; decide), fun t5 i5 => ⟨(by show 2 ≤ sizeLine; decide), fun t6 i6 => ⟨(by show 3 ≤ sizeLine; decide), fun l i7 => ?_⟩⟩⟩⟩⟩⟩⟩
          have w1 := same_upd (o := .tup [.int 1, .int 2, .int 10, .int 40]) i1
          have w2 := same_upd (o := .tup [.ref t1, .int 50]) i2
          have w3 := same_upd (o := .tup [.int 1, .int 2, .int 4, .int 8]) i3
          have w4 := same_upd (o := .tup [.ref t3, .int 250]) i4
          have w5 := same_upd (o := .tup [.int 1, .int 5]) i5
          have w6 := same_upd (o := .tup [.ref t5, .int 400]) i6
          have c5 := w6
          have c4 := w5.trans c5
          have c3 := w4.trans c4
          have c2a := w3.trans c3
          have c1 := w2.trans c2a
          have c0 := w1.trans c1
          have hpK := hp7.same c0
          refine ⟨p, l, _, rfl, hpK.same (same_upd i7), .inl (.inl upd_same), (hpK.ne_none i7).symm, List.cons_ne_nil _ _, by simp, fun H8 v b8 hp8 hv => ?_⟩
          have cr : ∀ t ys, (upd _ t6 (.tup [.ref t5, .int 400])) t = some (.tup ys) → H8 t = some (.tup ys) := fun t ys e => b8 _ _ (hpK.netup e) (same_upd i7 _ _ e)
          obtain ⟨u, c2, C, x2, m3, rfl, hu, hcX, hC, hL, hCl, m0', m2⟩ : ∃ (u c' : Addr) (C : List Int) (x' m' : Int), v = .ref u ∧ H8 u = some (.tup [.ref c', .int m']) ∧ H8 c' = some (.tup ((C ++ [x']).map V.int)) ∧ (∀ z ∈ C ++ [x'], 1 ≤ z ∧ z ≤ x') ∧ x' ≤ 2000 ∧ C.length ≤ 20 ∧ 0 ≤ m' ∧ m' ≤ 2000 := by
            simp only [List.mem_cons, List.not_mem_nil, or_false] at hv
            rcases hv with h | h | h
            · exact ⟨t2, t1, [1, 2, 10], 40, 50, h, cr _ _ (c2a _ _ upd_same), cr _ _ (c1 _ _ upd_same), by decide, by decide, by decide, by decide, by decide⟩
            · exact ⟨t4, t3, [1, 2, 4], 8, 250, h, cr _ _ (c4 _ _ upd_same), cr _ _ (c3 _ _ upd_same), by decide, by decide, by decide, by decide, by decide⟩
            · exact ⟨t6, t5, [1], 5, 400, h, cr _ _ upd_same, cr _ _ (c5 _ _ upd_same), by decide, by decide, by decide, by decide, by decide⟩
          refine ⟨u, _, rfl, .inl (.inl hu), rfl, _, _, rfl, _, _, rfl, rfl, ?_⟩
          have cpX : c2 ≠ p := hp8.netup hcX
          have bX : Same H H8 := same_but (((same_but (same_but (same_but s4 npH b5) npH b6) npH b7).trans c0).trans (same_upd i7)) npH b8
          clear b5 b6 b7 hk hl nc hc hc6 hp5 hp6 m0 m1 cp hp7 hp4 w1 w2 w3 w4 w5 w6 c0 c1 c2a c3 c4 c5 hpK cr b8
          have mL0 : 0 ≤ m3 * x2 := Int.mul_nonneg m0' (by have := hC x2 (by simp); omega)
          have gl : atI ((C ++ [x2]).map V.int) (-1) = some (.int x2) := by
            rw [List.map_append]
            exact atI_last _ _
          refine ⟨.ref p, rfl, .ref c2, rfl, .int m3, rfl, .ref p, rfl, (by show 3 ≤ sizeLine; decide), fun k1 j1 => ?_⟩
          have v1 := same_upd (o := .lst [.int 12, .int 12, .int 60]) j1
          refine ⟨p, k1, _, rfl, hp8.same v1, .inl (.inl upd_same), (hp8.ne_none j1).symm, List.cons_ne_nil _ _, by simp, fun G1 y d1 hq1 hy => ?_⟩
          obtain ⟨n, rfl, n0, n1⟩ : ∃ n : Int, y = .int n ∧ 0 ≤ n ∧ n ≤ 60 := by
            simp only [List.mem_cons, List.not_mem_nil, or_false] at hy
            rcases hy with h | h | h <;> exact ⟨_, h, by decide, by decide⟩
          have g1 := d1 _ _ cpX (v1 _ _ hcX)
          refine ⟨p, c2, C, x2, m3, n, rfl, hq1, g1, hC, hCl, hL, m0', m2, n0, by omega, fun G2 t bs d2 hq2 hst st hbl => ?_⟩
          have g2 := d2 _ _ cpX g1
          have lbs : bs.length ≤ 60 := by omega
          obtain ⟨xs, ht, bl⟩ := id hst
          have lxs : xs.length ≤ 60 := by rw [bl.len]; exact lbs
          have tp : t ≠ p := hq2.netup ht
          -- some
          refine ⟨.ref t, rfl, .ref t, rfl, .int m3, rfl, .ref c2, rfl, 1, rfl, c2, _, -1, _, rfl, rfl, .inl (.inl g2), gl, m3, x2, rfl, rfl, .inl ⟨by omega, by omega⟩, (by show 2 ≤ sizeLine; decide), fun u1 r1 => ⟨(by show 1 ≤ sizeLine; decide), fun u2 r2 => ?_⟩⟩
          have e1 := same_upd (o := .tup [.int (m3 * x2), .int 1]) r1
          have e2 := same_upd (o := .tup [.ref u1]) r2
          have e12 := e1.trans e2
          refine ⟨t, u2, _, _, rfl, rfl, e12 _ _ ht, upd_same, by rw [List.length_singleton]; omega, fun t2 G3 e3 ht2 => ?_⟩
          have e13 := e12.trans e3
          have dt2 : Deep G3 (.ref t2) := .tup ht2 (TL.append ((bl.deep).same e13) (TL.one (.tup (e3 _ _ (e2 _ _ upd_same)) (TL.ints _ [_, _]) (by simp)))) (by rw [List.length_append, List.length_singleton]; omega)
          have hq3 := hq2.same e13
          have st3 := hst.same e13
          refine ⟨.ref p, rfl, .ref c2, rfl, .ref t, rfl, p, c2, t, C, x2, bs, rfl, hq3, e13 _ _ g2, hCl, st3, by omega, fun G4 x4 d4 hq4 dx4 => ?_⟩
          refine ⟨.ref p, rfl, p, rfl, hq4, fun G5 x5 d5 hq5 dx5 => ⟨(by show 4 ≤ sizeLine; decide), fun k2 j2 => ?_⟩⟩
          have v2 := same_upd (o := .lst [.ref t, .ref t2, x4, x5]) j2
          have g5 := d5 _ _ cpX (d4 _ _ cpX (e13 _ _ g2))
          have st5 := (st3.but d4 hq3).but d5 hq4
          have hq6 := hq5.same v2
          refine ⟨.ref k2, rfl, .ref p, rfl, .ref c2, rfl, .ref t, rfl, p, c2, t, C, x2, bs, rfl, hq6, v2 _ _ g5, hCl, st5.same v2, by omega, fun G6 x6 d6 hq7 dx6 => ⟨(by show 1 ≤ sizeLine; decide), fun k3 j3 => ?_⟩⟩
          have v3 := same_upd (o := .lst [x6]) j3
          have k2p : k2 ≠ p := (hq5.ne_none j2).symm
          refine ⟨k2, k3, _, _, rfl, rfl, v3 _ _ (d6 _ _ k2p upd_same), upd_same, (by show 5 ≤ sizeLine; decide), fun k4 j4 => ?_⟩
          have v4 := same_upd (o := .lst ([.ref t, .ref t2, x4, x5] ++ [x6])) j4
          have v34 := v3.trans v4
          have gX := v34 _ _ (d6 _ _ cpX (v2 _ _ g5))
          have hqX := hq7.same v34
          have sX : Same H _ := (same_but ((same_but (same_but ((same_but (same_but (bX.trans v1) npH d1) npH d2).trans e13) npH d4) npH d5).trans v2) npH d6).trans v34
          have all : ∀ y ∈ [V.ref t, .ref t2, x4, x5] ++ [x6], Deep _ y := fun y hy => by
            have hy2 : y = .ref t ∨ y = .ref t2 ∨ y = x4 ∨ y = x5 ∨ y = x6 := by simpa using hy
            have up : ∀ z, Deep G5 z → Deep _ z := fun z dz => ((dz.same v2).but d6 hq6 hq7).same v34
            rcases hy2 with h | h | h | h | h <;> subst h
            · exact up _ (st5.deep (by omega))
            · exact up _ ((dt2.but d4 hq3 hq4).but d5 hq4 hq5)
            · exact up _ (dx4.but d5 hq4 hq5)
            · exact up _ dx5
            · exact dx6.same v34
          refine ⟨k4, rfl, ⟨_, .inl (.inl upd_same)⟩, for_list (K := K) (a := k4) (xs := [.ref t, .ref t2, x4, x5] ++ [x6]) (fun mm σ G8 => ∃ y7 y8 y9, σ = [some (.ref a), some (.int (0 + i)), some (.ref p), some (.int (0 + j)), some (.ref c2), some (.int m3), some (.ref t), y7, y8, y9] ∧ Same _ G8) ⟨_, _, _, rfl, Same.refl _⟩ (fun mm σ G8 _ hP => ?_) (fun mm y σ G8 hy hP => ?_) (fun σ G8 hP => ?_)⟩
          · obtain ⟨_, _, _, _, sg⟩ := hP
            exact .inl (.inl (sg _ _ upd_same))
          · obtain ⟨y7, y8, y9, rfl, sg⟩ := hP
            have dy := (all y (List.mem_of_getElem? hy)).same sg
            refine ⟨.int m3, rfl, .int m3, rfl, _, _, rfl, rfl, _, _, rfl, (by show 3 ≤ sizeLine; decide), fun u3 r3 => ?_⟩
            have e5 := same_upd (H := G8) (o := .tup [.int m3, .int (if m3 - 1 > 0 then m3 - 1 else 0), .int 0]) r3
            refine ⟨u3, rfl, ⟨_, .inl (.inl upd_same)⟩, for_tup (K := K) (a := u3) (xs := [.int m3, .int (if m3 - 1 > 0 then m3 - 1 else 0), .int 0]) (fun nn σ G9 => ∃ y9, σ = [some (.ref a), some (.int (0 + i)), some (.ref p), some (.int (0 + j)), some (.ref c2), some (.int m3), some (.ref t), y7, some y, y9] ∧ Same (upd G8 u3 (.tup [.int m3, .int (if m3 - 1 > 0 then m3 - 1 else 0), .int 0])) G9) ⟨_, rfl, Same.refl _⟩ (fun nn σ G9 _ hP => ?_) (fun nn fv σ G9 hf hP => ?_) (fun σ G9 hP => ?_)⟩
            · obtain ⟨_, _, sh⟩ := hP
              exact .inl (.inl (sh _ _ upd_same))
            · obtain ⟨y9, rfl, sh⟩ := hP
              obtain ⟨fw, rfl, f0, f1⟩ : ∃ fw : Int, fv = .int fw ∧ 0 ≤ fw ∧ fw ≤ 2000 := by
                have hm := List.mem_of_getElem? hf
                have hm2 : fv = .int m3 ∨ fv = .int (if m3 - 1 > 0 then m3 - 1 else 0) ∨ fv = .int 0 := by simpa using hm
                rcases hm2 with h | h | h
                · exact ⟨_, h, by omega, by omega⟩
                · exact ⟨_, h, by split <;> omega, by split <;> omega⟩
                · exact ⟨_, h, by decide, by decide⟩
              have s89 := e5.trans sh
              have dy9 := dy.same s89
              have c9 := s89 _ _ (sg _ _ gX)
              refine ⟨.ref c2, rfl, .int fw, rfl, y, rfl, c2, C, x2, fw, y, rfl, c9, hC, hL, f0, f1, dy9, fun a2 zs ez ez2 => ?_, fun G10 b1 s10 hb1 => ?_⟩
              · subst ez
                exact dy9.len ez2
              have dy10 := dy9.same s10
              refine ⟨_, rfl, .ref c2, rfl, .int fw, rfl, y, rfl, c2, C, x2, fw, y, rfl, s10 _ _ c9, hC, hL, f0, f1, dy10, fun a2 zs ez ez2 => ?_, fun G11 b2 s11 hb2 => ⟨_, rfl, rfl, _, rfl, iteNS ?_ ?_⟩⟩
              · subst ez
                exact dy10.len ez2
              · have hcc : IsSt (C ++ [x2]) (fw * x2) G9 y ↔ IsSt (C ++ [x2]) (fw * x2) G10 y := ⟨fun h => h.same s10, fun h => h.back dy9 s10⟩
                have e : b1 = b2 := by
                  rw [hcc] at hb1
                  cases b1 <;> cases b2 <;> simp_all
                rw [e]
              · exact ⟨_, rfl, sh.trans (s10.trans s11)⟩
            · obtain ⟨y9, rfl, sh⟩ := hP
              exact ⟨_, _, _, rfl, sg.trans (e5.trans sh)⟩
          · obtain ⟨y7, y8, y9, rfl, sg⟩ := hP
            exact ⟨_, _, _, _, _, _, _, rfl, sX.trans sg, hqX.same sg⟩
      · rintro σ H4 ⟨y3, y4, y5, y6, y7, y8, y9, rfl, s4, hp4⟩
        exact ⟨_, _, _, _, _, _, _, _, _, rfl, s4⟩
    · rintro σ H2 ⟨y1, y2, y3, y4, y5, y6, y7, y8, y9, rfl, sm⟩
      exact q _
end
end Ph

namespace Ph
open PySem PySem.Spec PyProof.Rows L2
theorem all_mk {l : PySem.W.OpenLaw} {w : World} {K : PySem.W.Frag} {h : Heap} {mg : Str → Option Value} {fa : Addr} (X : K.In h) (G : h.Ns mainGlobals mg) (hfa : mg "law" = some (.ref fa))
    {f1 : Addr} {od1 an1 : Option Addr} {sl1 : Array (Option Value)} {oc1 kV1 dc1 pm1 cd1 ct1 : Value} (a1 : PySem.W.nsIn K mainGlobals "is_integer" = some (some (.ref f1))) (l1 : K.lookup f1 = some ⟨oc1, od1, .func (PySem.W.fnOf "is_integer" "is_integer" (defArgs sIsInt) (defBody sIsInt) (defScope sIsInt) .none kV1 dc1 pm1 an1 cd1 ct1), sl1⟩) (c1 : PySem.W.codeIn K cd1 "is_integer" = true) (k1 : PySem.W.keepIn K (.ref f1) = true)
    {f2 : Addr} {od2 an2 : Option Addr} {sl2 : Array (Option Value)} {oc2 kV2 dc2 pm2 cd2 ct2 : Value} (a2 : PySem.W.nsIn K mainGlobals "is_size" = some (some (.ref f2))) (l2 : K.lookup f2 = some ⟨oc2, od2, .func (PySem.W.fnOf "is_size" "is_size" (defArgs sIsSize) (defBody sIsSize) (defScope sIsSize) .none kV2 dc2 pm2 an2 cd2 ct2), sl2⟩) (c2 : PySem.W.codeIn K cd2 "is_size" = true) (k2 : PySem.W.keepIn K (.ref f2) = true)
    {f3 : Addr} {od3 an3 : Option Addr} {sl3 : Array (Option Value)} {oc3 kV3 dc3 pm3 cd3 ct3 : Value} (a3 : PySem.W.nsIn K mainGlobals "is_block" = some (some (.ref f3))) (l3 : K.lookup f3 = some ⟨oc3, od3, .func (PySem.W.fnOf "is_block" "is_block" (defArgs sIsBl) (defBody sIsBl) (defScope sIsBl) .none kV3 dc3 pm3 an3 cd3 ct3), sl3⟩) (c3 : PySem.W.codeIn K cd3 "is_block" = true) (k3 : PySem.W.keepIn K (.ref f3) = true)
    {f4 : Addr} {od4 an4 : Option Addr} {sl4 : Array (Option Value)} {oc4 kV4 dc4 pm4 cd4 ct4 : Value} (a4 : PySem.W.nsIn K mainGlobals "is_state" = some (some (.ref f4))) (l4 : K.lookup f4 = some ⟨oc4, od4, .func (PySem.W.fnOf "is_state" "is_state" (defArgs sIsSt) (defBody sIsSt) (defScope sIsSt) .none kV4 dc4 pm4 an4 cd4 ct4), sl4⟩) (c4 : PySem.W.codeIn K cd4 "is_state" = true) (k4 : PySem.W.keepIn K (.ref f4) = true)
    {f5 : Addr} {od5 an5 : Option Addr} {sl5 : Array (Option Value)} {oc5 kV5 dc5 pm5 cd5 ct5 : Value} (a5 : PySem.W.nsIn K mainGlobals "_law_pot" = some (some (.ref f5))) (l5 : K.lookup f5 = some ⟨oc5, od5, .func (PySem.W.fnOf "_law_pot" "_law_pot" (defArgs sPot) (defBody sPot) (defScope sPot) .none kV5 dc5 pm5 an5 cd5 ct5), sl5⟩) (c5 : PySem.W.codeIn K cd5 "_law_pot" = true) (k5 : PySem.W.keepIn K (.ref f5) = true)
    {f6 : Addr} {od6 an6 : Option Addr} {sl6 : Array (Option Value)} {oc6 kV6 dc6 pm6 cd6 ct6 : Value} (a6 : PySem.W.nsIn K mainGlobals "_law_take" = some (some (.ref f6))) (l6 : K.lookup f6 = some ⟨oc6, od6, .func (PySem.W.fnOf "_law_take" "_law_take" (defArgs sTake) (defBody sTake) (defScope sTake) .none kV6 dc6 pm6 an6 cd6 ct6), sl6⟩) (c6 : PySem.W.codeIn K cd6 "_law_take" = true) (k6 : PySem.W.keepIn K (.ref f6) = true)
    {f7 : Addr} {od7 an7 : Option Addr} {sl7 : Array (Option Value)} {oc7 kV7 dc7 pm7 cd7 ct7 : Value} (a7 : PySem.W.nsIn K mainGlobals "_law_of" = some (some (.ref f7))) (l7 : K.lookup f7 = some ⟨oc7, od7, .func (PySem.W.fnOf "_law_of" "_law_of" (defArgs sOf) (defBody sOf) (defScope sOf) .none kV7 dc7 pm7 an7 cd7 ct7), sl7⟩) (c7 : PySem.W.codeIn K cd7 "_law_of" = true) (k7 : PySem.W.keepIn K (.ref f7) = true)
    {f8 : Addr} {od8 an8 : Option Addr} {sl8 : Array (Option Value)} {oc8 kV8 dc8 pm8 cd8 ct8 : Value} (a8 : PySem.W.nsIn K mainGlobals "_law_links" = some (some (.ref f8))) (l8 : K.lookup f8 = some ⟨oc8, od8, .func (PySem.W.fnOf "_law_links" "_law_links" (defArgs sLinks) (defBody sLinks) (defScope sLinks) .none kV8 dc8 pm8 an8 cd8 ct8), sl8⟩) (c8 : PySem.W.codeIn K cd8 "_law_links" = true) (k8 : PySem.W.keepIn K (.ref f8) = true)
    {f9 : Addr} {od9 an9 : Option Addr} {sl9 : Array (Option Value)} {oc9 kV9 dc9 pm9 cd9 ct9 : Value} (a9 : PySem.W.nsIn K mainGlobals "_law_drawn" = some (some (.ref f9))) (l9 : K.lookup f9 = some ⟨oc9, od9, .func (PySem.W.fnOf "_law_drawn" "_law_drawn" (defArgs sDrawn) (defBody sDrawn) (defScope sDrawn) .none kV9 dc9 pm9 an9 cd9 ct9), sl9⟩) (c9 : PySem.W.codeIn K cd9 "_law_drawn" = true) (k9 : PySem.W.keepIn K (.ref f9) = true)
    {f10 : Addr} {od10 an10 : Option Addr} {sl10 : Array (Option Value)} {oc10 kV10 dc10 pm10 cd10 ct10 : Value} (a10 : PySem.W.nsIn K mainGlobals "_law_odd" = some (some (.ref f10))) (l10 : K.lookup f10 = some ⟨oc10, od10, .func (PySem.W.fnOf "_law_odd" "_law_odd" (defArgs sOdd) (defBody sOdd) (defScope sOdd) .none kV10 dc10 pm10 an10 cd10 ct10), sl10⟩) (c10 : PySem.W.codeIn K cd10 "_law_odd" = true) (k10 : PySem.W.keepIn K (.ref f10) = true)
    {f11 : Addr} {od11 an11 : Option Addr} {sl11 : Array (Option Value)} {oc11 kV11 dc11 pm11 cd11 ct11 : Value} (a11 : PySem.W.nsIn K mainGlobals "_law_is_number" = some (some (.ref f11))) (l11 : K.lookup f11 = some ⟨oc11, od11, .func (PySem.W.fnOf "_law_is_number" "_law_is_number" (defArgs sIsNum) (defBody sIsNum) (defScope sIsNum) .none kV11 dc11 pm11 an11 cd11 ct11), sl11⟩) (c11 : PySem.W.codeIn K cd11 "_law_is_number" = true) (k11 : PySem.W.keepIn K (.ref f11) = true)
    {f12 : Addr} {od12 an12 : Option Addr} {sl12 : Array (Option Value)} {oc12 kV12 dc12 pm12 cd12 ct12 : Value} (a12 : PySem.W.nsIn K mainGlobals "_law_due" = some (some (.ref f12))) (l12 : K.lookup f12 = some ⟨oc12, od12, .func (PySem.W.fnOf "_law_due" "_law_due" (defArgs sDue) (defBody sDue) (defScope sDue) .none kV12 dc12 pm12 an12 cd12 ct12), sl12⟩) (c12 : PySem.W.codeIn K cd12 "_law_due" = true) (k12 : PySem.W.keepIn K (.ref f12) = true)
    {f13 : Addr} {od13 an13 : Option Addr} {sl13 : Array (Option Value)} {oc13 kV13 dc13 pm13 cd13 ct13 : Value} (a13 : PySem.W.nsIn K mainGlobals "_law_changed" = some (some (.ref f13))) (l13 : K.lookup f13 = some ⟨oc13, od13, .func (PySem.W.fnOf "_law_changed" "_law_changed" (defArgs sChg) (defBody sChg) (defScope sChg) .none kV13 dc13 pm13 an13 cd13 ct13), sl13⟩) (c13 : PySem.W.codeIn K cd13 "_law_changed" = true) (k13 : PySem.W.keepIn K (.ref f13) = true)
    {f14 : Addr} {od14 an14 : Option Addr} {sl14 : Array (Option Value)} {oc14 kV14 dc14 pm14 cd14 ct14 : Value} (a14 : PySem.W.nsIn K mainGlobals "law" = some (some (.ref f14))) (l14 : K.lookup f14 = some ⟨oc14, od14, .func (PySem.W.fnOf "law" "law" (defArgs sLaw) (defBody sLaw) (defScope sLaw) .none kV14 dc14 pm14 an14 cd14 ct14), sl14⟩) (c14 : PySem.W.codeIn K cd14 "law" = true) (k14 : PySem.W.keepIn K (.ref f14) = true)
    (z1 : PySem.W.nsIn K mainGlobals "len" = some none)
    (z2 : PySem.W.nsIn K mainGlobals "abs" = some none)
    (z3 : PySem.W.nsIn K mainGlobals "int" = some none)
    (z4 : PySem.W.nsIn K mainGlobals "range" = some none)
    (z5 : PySem.W.nsIn K mainGlobals "tuple" = some none)
    (z6 : PySem.W.nsIn K mainGlobals "max" = some none)
    (z7 : PySem.W.nsIn K mainGlobals "min" = some none)
    (z8 : PySem.W.nsIn K mainGlobals "repr" = some none)
    (z9 : PySem.W.nsIn K mainGlobals "isinstance" = some none)
    (z10 : PySem.W.nsIn K mainGlobals "bool" = some none)
    (z11 : PySem.W.nsIn K mainGlobals "all" = some none)
    (z12 : PySem.W.nsIn K mainGlobals "any" = some none)
    (z13 : PySem.W.nsIn K mainGlobals "list" = some none)
    (z14 : PySem.W.nsIn K mainGlobals "dict" = some none)
    (z15 : PySem.W.nsIn K mainGlobals "sorted" = some none)
    (zd : PySem.W.nsIn K cStatics "sys.int_max_str_digits" = some none) :
    ∃ fd : FuncData, (∀ (s : Shared) (v : Value), BindsTo s fd ⟨[v], []⟩ [("_law_script", v)]) ∧ ∀ base : Heap, K.In base → base.Ns mainGlobals mg → FnOk l.prog w K mg base CX0 5 fa fd ["_law_script"] (spLaw K) := by
  have e := hfa.symm.trans (PySem.W.mg_of X G a14)
  cases e
  have FII := fun_mk (st := sIsInt) l1 c1 k1
  have bFII := FII.binds (ps := ["value"]) fun _ _ _ _ _ _ us hl => match us, hl with | [_], _ => rfl
  have FZ := fun_mk (st := sIsSize) l2 c2 k2
  have bFZ := FZ.binds (ps := ["chain", "value"]) fun _ _ _ _ _ _ us hl => match us, hl with | [_, _], _ => rfl
  have FB := fun_mk (st := sIsBl) l3 c3 k3
  have bFB := FB.binds (ps := ["chain", "value"]) fun _ _ _ _ _ _ us hl => match us, hl with | [_, _], _ => rfl
  have FI := fun_mk (st := sIsSt) l4 c4 k4
  have bFI := FI.binds (ps := ["chain", "pages", "value"]) fun _ _ _ _ _ _ us hl => match us, hl with | [_, _, _], _ => rfl
  have FP := fun_mk (st := sPot) l5 c5 k5
  have bFP := FP.binds (ps := ["_law_script", "_law_k"]) fun _ _ _ _ _ _ us hl => match us, hl with | [_, _], _ => rfl
  have FT := fun_mk (st := sTake) l6 c6 k6
  have bFT := FT.binds (ps := ["_law_pot_here", "_law_upto"]) fun _ _ _ _ _ _ us hl => match us, hl with | [_, _], _ => rfl
  have FO := fun_mk (st := sOf) l7 c7 k7
  have bFO := FO.binds (ps := ["_law_pot_here", "_law_some"]) fun _ _ _ _ _ _ us hl => match us, hl with | [_, _], _ => rfl
  have FL := fun_mk (st := sLinks) l8 c8 k8
  have bFL := FL.binds (ps := ["_law_pot_here", "_law_most"]) fun _ _ _ _ _ _ us hl => match us, hl with | [_, _], _ => rfl
  have FW := fun_mk (st := sDrawn) l9 c9 k9
  have bFW := FW.binds (ps := ["_law_pot_here", "_law_links_here", "_law_many", "_law_tries"]) fun _ _ _ _ _ _ us hl => match us, hl with | [_, _, _, _], _ => rfl
  have FD := fun_mk (st := sOdd) l10 c10 k10
  have bFD := FD.binds (ps := ["_law_pot_here"]) fun _ _ _ _ _ _ us hl => match us, hl with | [_], _ => rfl
  have FN := fun_mk (st := sIsNum) l11 c11 k11
  have bFN := FN.binds (ps := ["_law_thing", "_law_least"]) fun _ _ _ _ _ _ us hl => match us, hl with | [_, _], _ => rfl
  have FU := fun_mk (st := sDue) l12 c12 k12
  have bFU := FU.binds (ps := ["_law_links_here", "_law_many", "_law_thing"]) fun _ _ _ _ _ _ us hl => match us, hl with | [_, _, _], _ => rfl
  have FC := fun_mk (st := sChg) l13 c13 k13
  have bFC := FC.binds (ps := ["_law_pot_here", "_law_links_here", "_law_thing"]) fun _ _ _ _ _ _ us hl => match us, hl with | [_, _, _], _ => rfl
  have FF := fun_mk (st := sLaw) l14 c14 k14
  have N : Nm5 K mg := ⟨PySem.W.mg_none_of X G z1, PySem.W.mg_none_of X G z2, PySem.W.mg_none_of X G z3, PySem.W.mg_none_of X G z4, PySem.W.mg_none_of X G z5, PySem.W.mg_none_of X G z6, PySem.W.mg_none_of X G z7, PySem.W.mg_none_of X G z8, PySem.W.mg_none_of X G z9, PySem.W.mg_none_of X G z10, PySem.W.mg_none_of X G z11, PySem.W.mg_none_of X G z12, PySem.W.mg_none_of X G z13, PySem.W.mg_none_of X G z14, PySem.W.mg_none_of X G z15, zd⟩
  exact ⟨PySem.W.fnOf "law" "law" (defArgs sLaw) (defBody sLaw) (defScope sLaw) .none kV14 dc14 pm14 an14 cd14 ct14, fun s v => .of_eq rfl, fun base _ _ => ok_law FF N FII bFII (PySem.W.mg_of X G a1) FZ bFZ (PySem.W.mg_of X G a2) FB bFB (PySem.W.mg_of X G a3) FI bFI (PySem.W.mg_of X G a4) FP bFP (PySem.W.mg_of X G a5) FT bFT (PySem.W.mg_of X G a6) FO bFO (PySem.W.mg_of X G a7) FL bFL (PySem.W.mg_of X G a8) FW bFW (PySem.W.mg_of X G a9) FD bFD (PySem.W.mg_of X G a10) FN bFN (PySem.W.mg_of X G a11) FU bFU (PySem.W.mg_of X G a12) FC bFC (PySem.W.mg_of X G a13) ⟩
end Ph
open PySem PySem.W PyProof.Rows
set_option maxHeartbeats 0 in
theorem PySem.Challenge.cw_pinnedheap_k05_states_of_any_value_holds : PySem.Challenge.rw_pinnedheap_k05_states_of_any_value.Holds := by
  w_on; o_law; k_head; (case hw => w_witness2)
  k_fill
  refine L2.walk_of (l := PySem.Challenge.rw_pinnedheap_k05_states_of_any_value) (n := 63) (k := 5) (x := "_law_script") (CX := fun _ => L2.CX0) (sp := fun w => Ph.spLaw _) rfl (by decide) rfl ⟨rfl, by decide, by decide⟩ (fun w h Y => PySem.W.kIn_of Y) ?F (fun _ _ a ns hl _ hS => ⟨a, ns, rfl, hS, hl, fun _ => rfl⟩) (fun _ _ _ _ _ h => h)
  case F =>
    intro w mg fa h KX G hmg
    refine' Ph.all_mk KX G hmg ?a1 ?l1 ?c1 ?k1 ?a2 ?l2 ?c2 ?k2 ?a3 ?l3 ?c3 ?k3 ?a4 ?l4 ?c4 ?k4 ?a5 ?l5 ?c5 ?k5 ?a6 ?l6 ?c6 ?k6 ?a7 ?l7 ?c7 ?k7 ?a8 ?l8 ?c8 ?k8 ?a9 ?l9 ?c9 ?k9 ?a10 ?l10 ?c10 ?k10 ?a11 ?l11 ?c11 ?k11 ?a12 ?l12 ?c12 ?k12 ?a13 ?l13 ?c13 ?k13 ?a14 ?l14 ?c14 ?k14 ?z1 ?z2 ?z3 ?z4 ?z5 ?z6 ?z7 ?z8 ?z9 ?z10 ?z11 ?z12 ?z13 ?z14 ?z15 ?zd
    (case a1 => k_is); (case l1 => k_is); (case c1 => k_is); (case k1 => k_is); (case a2 => k_is); (case l2 => k_is); (case c2 => k_is); (case k2 => k_is); (case a3 => k_is); (case l3 => k_is); (case c3 => k_is); (case k3 => k_is); (case a4 => k_is); (case l4 => k_is); (case c4 => k_is); (case k4 => k_is); (case a5 => k_is); (case l5 => k_is); (case c5 => k_is); (case k5 => k_is); (case a6 => k_is); (case l6 => k_is); (case c6 => k_is); (case k6 => k_is); (case a7 => k_is); (case l7 => k_is); (case c7 => k_is); (case k7 => k_is); (case a8 => k_is); (case l8 => k_is); (case c8 => k_is); (case k8 => k_is); (case a9 => k_is); (case l9 => k_is); (case c9 => k_is); (case k9 => k_is); (case a10 => k_is); (case l10 => k_is); (case c10 => k_is); (case k10 => k_is); (case a11 => k_is); (case l11 => k_is); (case c11 => k_is); (case k11 => k_is); (case a12 => k_is); (case l12 => k_is); (case c12 => k_is); (case k12 => k_is); (case a13 => k_is); (case l13 => k_is); (case c13 => k_is); (case k13 => k_is); (case a14 => k_is); (case l14 => k_is); (case c14 => k_is); (case k14 => k_is); (case z1 => k_is); (case z2 => k_is); (case z3 => k_is); (case z4 => k_is); (case z5 => k_is); (case z6 => k_is); (case z7 => k_is); (case z8 => k_is); (case z9 => k_is); (case z10 => k_is); (case z11 => k_is); (case z12 => k_is); (case z13 => k_is); (case z14 => k_is); (case z15 => k_is); (case zd => k_is)
