import PyProof.Rows.All
import Wide.All
import OpenK.AllK
import Wide.FinOn
import HandS.ForMost
import HandS.ForExc
import HandS.Wide
import HandS.Zip
import HandS.TupAny
import HandS.RaiseMore
import HandS.IsInst
import KE.KIntText
import PySem.Challenge.RW_pinnedheap_k09_whole_counts_of_states
set_option Elab.async false
set_option linter.all false
set_option maxRecDepth 100000
namespace Ph
open PySem PySem.Spec PyProof.Rows L2 PySem.NumText PySem.Calls
/-! ### the limit on digits stands as it was at the beginning -/
theorem noDigits_of {K : PySem.W.Frag} {h : Heap} (X : K.In h) (L : h.NoLimit) (e : PySem.W.nsIn K cStatics "sys.int_max_str_digits" = some none) : h.NoDigits := by
  obtain ⟨mc, G, _⟩ := L
  refine ⟨mc, G, ?_⟩
  obtain ⟨o, es, ep, ho, hd, _, hf⟩ := G
  unfold PySem.W.nsIn at e
  split at e
  · rename_i c d es' n' sl q
    have := X _ _ q
    rw [ho] at this
    cases this
    cases hd
    split at e
    · cases e
    · rename_i he
      rw [← hf]
      unfold nsFind findBy
      rw [← Array.find?_toList, he]
      rfl
  · cases e
theorem wp_digits {M : Model} {A : Around} {E : Value → Shared → Prop} {s : Shared} {Q : Nat → Shared → Prop} (hn : s.heap.NoDigits) (h : Q 4300 s) : wpAny M A Builtin.intMaxStrDigits Q E s := by
  obtain ⟨mc, hns, hnone⟩ := hn
  unfold Builtin.intMaxStrDigits
  refine wpAny_bind (wpAny_nsGet hns ?_)
  rw [hnone]
  exact wpAny_pure h
/-! ### int(text) of more than 640 digits -/
theorem wp_textW {M : Model} {A : Around} {E : Value → Shared → Prop} {s : Shared} {Q : Value → Shared → Prop} {v : Value} {text : List Nat} {n : Int} (hn : s.heap.NoDigits)
    (hs : ¬ (text.takeWhile (· != 0)).length ≤ 640) (hr : (int_private% "readNumeral") 4300 10 (text.takeWhile (· != 0)) = (int_private% "Numeral.value") n)
    (ha : ((text.takeWhile (· != 0)).length == text.length) = true) (h : Q (.int n s.toks) { s with toks := s.toks + 1 }) :
    wpAny M A ((int_private% "intFromText") v text 10) Q E s := by
  show wpAny M A (if (text.takeWhile (· != 0)).length ≤ 640 then _ else (Builtin.intMaxStrDigits >>= _)) Q E s
  rw [if_neg hs]
  refine wpAny_bind (wp_digits hn ?_)
  dsimp only
  rw [hr]
  dsimp only
  rw [if_pos ha]
  exact wpAny_mkInt h
set_option maxHeartbeats 4000000 in
theorem meets_textW {x : PySem.Str} {u : Tok} {n : Int} (hs : ¬ (numSeenOf x).length ≤ 640) (hr : (int_private% "readNumeral") 4300 10 (numSeenOf x) = (int_private% "Numeral.value") n) (ha : ((numSeenOf x).length == (numTextOf x).length) = true) :
    Meets (Builtin.«int.__new__» ⟨[.type "int", .str x u], []⟩) (fun _ R s => s.heap.NoDigits ∧ R (.ok (.ret (.int n s.toks))) { s with toks := s.toks + 1 }) :=
  .of_wp fun prog w A R s h => by
    obtain ⟨hn, h⟩ := h
    obtain ⟨hp, g, d, tk, os⟩ := s
    have f1 := F.conv_sub_int
    have f2 := F.madeHere_int
    have f3 := PySem.W.KIN.str_int
    have f4 := PySem.W.KIN.str_idx
    have f5 := PySem.W.KIN.str_trunc
    have f6 : typeOf (.str x u) = pure (.type "str") := rfl
    have hk := PySem.W.KIN.Hid.mk (And.intro hs (And.intro hr ha))
    have hk2 := PySem.W.KIN.Hid.mk hn
    clear hs hr ha hn
    repeat (any_goals (first
      | assumption
      | ((with_reducible show wpAny _ _ ((int_private% "intFromText") _ _ _) _ _ _); refine wp_textW hk2.out hk.out.1 hk.out.2.1 hk.out.2.2 ?_)
      | wp_step))
    all_goals first | exact ⟨_, rfl, h⟩ | skip
def big9 : PySem.Str := (Str.ofString "1") ++ Txt.mul (Str.ofString "0") 900
theorem reps_list (c : Nat) : ∀ (k : Nat) (acc : Array Nat), ((List.replicate k (#[c] : Array Nat)).foldl (· ++ ·) acc).toList = acc.toList ++ List.replicate k c
  | 0, acc => by simp
  | k + 1, acc => by
    rw [List.replicate_succ, List.foldl_cons, reps_list c k, List.replicate_succ]
    simp
theorem zeros_list : (Txt.mul (Str.ofString "0") 900).cps.toList = List.replicate 900 48 := by
  have e : Txt.mul (Str.ofString "0") 900 = ⟨(List.replicate 900 (#[48] : Array Nat)).foldl (· ++ ·) #[]⟩ := by
    unfold Txt.mul
    rw [if_neg (by decide), if_neg (by decide +kernel)]
    rfl
  rw [e]
  exact reps_list 48 900 #[]
theorem big9_list : big9.cps.toList = 49 :: List.replicate 900 48 := by
  have e : big9.cps.toList = (Str.ofString "1").cps.toList ++ (Txt.mul (Str.ofString "0") 900).cps.toList := Array.toList_append
  rw [e, zeros_list]
  rfl
theorem big9_digits : AllDigits big9.cps.toList := by
  rw [big9_list]
  intro d hd
  rcases List.mem_cons.mp hd with e | e
  · subst e; decide
  · rw [(List.mem_replicate.mp e).2]; decide
theorem digits_zeros : ∀ (k a : Nat), (List.replicate k 48).foldl (fun acc c => acc * 10 + (c - 48)) a = a * 10 ^ k
  | 0, a => by simp
  | k + 1, a => by
    rw [List.replicate_succ, List.foldl_cons, digits_zeros k, Nat.pow_succ]
    show (a * 10 + 0) * 10 ^ k = a * (10 ^ k * 10)
    rw [Nat.add_zero, Nat.mul_assoc, Nat.mul_comm 10 (10 ^ k)]
theorem big9_val : digitsVal big9.cps.toList = 10 ^ 900 := by
  rw [big9_list]
  unfold digitsVal
  rw [List.foldl_cons, digits_zeros]
  show (0 * 10 + 1) * 10 ^ 900 = 10 ^ 900
  rw [Nat.zero_mul, Nat.zero_add, Nat.one_mul]
theorem big9_length : big9.length = 901 := by
  have e : big9.cps.toList.length = big9.length := Array.length_toList
  rw [← e, big9_list, List.length_cons, List.length_replicate]
theorem ten_ex : ∃ t : Int, intText? big9 = some t ∧ 0 < t ∧ t.natAbs < 2 ^ 3000 := by
  refine ⟨_, intText_digits big9_digits (by rw [big9_list]; exact List.cons_ne_nil _ _) (by rw [big9_length]; decide), ?_, ?_⟩
  · rw [big9_val]
    exact Int.natCast_pos.mpr (Nat.pow_pos (by decide))
  · rw [big9_val, Int.natAbs_natCast]
    decide +kernel
noncomputable def ten9 : Int := Classical.choose ten_ex
theorem big9_int : intText? big9 = some ten9 := (Classical.choose_spec ten_ex).1
theorem ten9_pos : 0 < ten9 := (Classical.choose_spec ten_ex).2.1
theorem ten9_lt : ten9.natAbs < 2 ^ 3000 := (Classical.choose_spec ten_ex).2.2
theorem big9_text : numTextOf big9 = big9.cps.toList ∧ numSeenOf big9 = big9.cps.toList := numText_signs fun c hc => Or.inr (big9_digits c hc)
theorem big9_seen : ¬ (numSeenOf big9).length ≤ 640 := by
  rw [big9_text.2, big9_list, List.length_cons, List.length_replicate]
  decide
theorem big9_all : ((numSeenOf big9).length == (numTextOf big9).length) = true := by
  rw [big9_text.1, big9_text.2]
  exact beq_self_eq_true _
theorem big9_read : (int_private% "readNumeral") 4300 10 (numSeenOf big9) = (int_private% "Numeral.value") ten9 := by
  rcases read4300 big9 (by rw [big9_length]; decide) with ⟨n, h1, h2, h3⟩ | ⟨h1, _⟩
  · rw [Option.some.inj (big9_int.symm.trans h1)]
    exact h3
  · rw [big9_int] at h1
    cases h1
theorem zeros_length : (Txt.mul (Str.ofString "0") 900).length = 900 := by
  have e : (Txt.mul (Str.ofString "0") 900).cps.toList.length = (Txt.mul (Str.ofString "0") 900).length := Array.length_toList
  rw [← e, zeros_list, List.length_replicate]
theorem big9_len : (Str.ofString "1").length + (Txt.mul (Str.ofString "0") 900).length ≤ sizeLine := by
  rw [zeros_length]
  decide +kernel
theorem zeros_ok : MulOk (Str.ofString "0") 900 := ⟨by decide, fun _ _ => by decide +kernel, fun _ _ => by decide +kernel⟩
section
variable {X : Cx}
theorem Inv.noDigits {pins : List (Addr × Obj)} {σ : List (Option V)} {H : Hp} {s : Shared} (I : Inv X pins σ H s) (e : PySem.W.nsIn X.K cStatics "sys.int_max_str_digits" = some none) : s.heap.NoDigits :=
  (noDigits_of I.ok.mod.kin I.ok.mod.nolimit e).keeps I.bk
theorem call_big9 (e : PySem.W.nsIn X.K cStatics "sys.int_max_str_digits" = some none) : CallR X (.type "int") (fun xs H Q => xs = [.str big9] ∧ Q (.int ten9) H) := by
  intro pins s σ H xs us Q I r h
  obtain ⟨rfl, q⟩ := h
  obtain ⟨u, rfl, t, rfl⟩ := vals1 r
  exact call_int_1 (meets_textW big9_seen big9_read big9_all) ⟨Inv.noDigits I e, ⟨typeIs_int _ _ _, ⟨.int ten9, H, I.tok _, ⟨_, rfl⟩, q⟩⟩⟩
/-- text * number -/
theorem op_repS : OpR X (binaryOp .Mult) (fun x y H Q => ∃ z k, x = .str z ∧ y = .int k ∧ MulOk z k ∧ Q (.str (Txt.mul z k)) H) := by
  intro pins s σ H x y v u Q I rx ry h
  obtain ⟨i, j, rfl, rfl, hz, q⟩ := h
  obtain ⟨t, rfl⟩ := rx
  obtain ⟨t', rfl⟩ := ry
  exact SB.mul hz (fun t' k => ⟨.str _, H, I.tok _, ⟨_, rfl⟩, q⟩)
theorem iop_mulW : OpR X (inplaceOp .Mult) (rI CMulW fun i j => .int (i * j)) := opI fun _ _ _ _ _ _ _ hc q => imul_int q hc.ok
theorem ip_mulW : PIp X .Mult (fun x y H Q => ∃ i j, x = .int i ∧ y = .int j ∧ CMulW i j ∧ Q (.int (i * j)) H) := by
  intro pins s σ H x y v u Q I r1 r2 h
  obtain ⟨i, j, e1, e2, hc, q⟩ := h
  subst e1; subst e2
  obtain ⟨t, rfl⟩ := r1
  obtain ⟨t', rfl⟩ := r2
  exact imul_int ⟨.int _, H, I.tok _, ⟨_, rfl⟩, q⟩ hc.ok
theorem repr_wide {prog : Program} {w : World} {A : Around} {E : Value → Shared → Prop} {s : Shared} {a : Int} {t : Tok} {Q : Value → Shared → Prop} (hn : s.heap.NoDigits) (hlt : a.natAbs < 10 ^ 4300) (h : Q (.str (toString a) s.toks) { s with toks := s.toks + 1 }) :
    wpAny (model prog w) A (call (.builtin "repr") [.int a t]) Q E s := by
  refine Calls.call_function_entry F.kind_repr F.plain_repr F.entry_repr (F.args_repr1 _) ?_
  unfold Builtin.«repr»
  refine wpAny_bind (m := oneArg "repr" _) (wpAny_pure ?_)
  have hv : [Value.int a t].any Value.onHeap = false := rfl
  simp only [cRoomFor, hv, Bool.false_eq_true, if_false, pure_bind]
  refine wpAny_bind (wpAny_specialOf (name := Str.ofString "__repr__") (typeIs_int s a t) F.slot_int_repr.lookup ?_)
  refine wpAny_bind (m := callSpecialIfBound? (.int a t) (Str.ofString "__repr__")) (wpAny_callSpecialIfBound?_slot (name := Str.ofString "__repr__") (typeIs_int s a t) F.slot_int_repr ?_)
  refine wpAny_call_entry F.slot_int_repr (typeIs_int s a t) F.entry_int_repr ?_ (F.args_int_repr_1 _)
  unfold Builtin.«int.__repr__»
  show wpAny _ _ (do let r ← Builtin.overDigitLimit? a; _) _ _ s
  refine wpAny_bind (overDigitLimit_any hn (fun hlt => ?_) (fun hge => absurd hlt (Nat.not_lt.mpr hge)))
  refine wpAny_bind (wpAny_mkStr (wpAny_pure ⟨_, rfl, ?_⟩) (int_text_fits10 hlt))
  refine wpAny_bind (wpAny_isInstance (T := "str") (b := true) rfl isSubtype_str_str ?_)
  exact wpAny_pure ⟨_, rfl, h⟩
theorem call_reprW (e : PySem.W.nsIn X.K cStatics "sys.int_max_str_digits" = some none) : CallR X (.builtin "repr") (fun xs H Q => ∃ i, xs = [.int i] ∧ i.natAbs < 10 ^ 4300 ∧ Q (.str (toString i)) H) := by
  intro pins s σ H xs us Q I r h
  obtain ⟨i, rfl, hz, q⟩ := h
  obtain ⟨u, rfl, t, rfl⟩ := vals1 r
  exact repr_wide (Inv.noDigits I e) hz ⟨.str _, H, I.tok _, ⟨_, rfl⟩, q⟩
end
end Ph

namespace Ph
open PySem PySem.Spec PyProof.Rows L2
def topS (i : Nat) : Stmt := PySem.Challenge.pw_pinnedheap_k09_whole_counts_of_states.main.body.getD i (.Pass ⟨0, 0, 0, 0⟩)
abbrev sPot : Stmt := topS 4
abbrev sTake : Stmt := topS 5
abbrev sOf : Stmt := topS 6
abbrev sLinks : Stmt := topS 7
theorem scPot : FnScope ["_law_script", "_law_k", "_law_cell", "_law_great"] ["_law_script", "_law_k"] (defScope sPot) := ⟨rfl, rfl, rfl, by decide +kernel, rfl, by decide +kernel, by decide +kernel⟩
theorem scTake : FnScope ["_law_pot_here", "_law_upto", "_law_digit"] ["_law_pot_here", "_law_upto"] (defScope sTake) := ⟨rfl, rfl, rfl, by decide +kernel, rfl, by decide +kernel, by decide +kernel⟩
theorem scOf : FnScope ["_law_pot_here", "_law_some"] ["_law_pot_here", "_law_some"] (defScope sOf) := ⟨rfl, rfl, rfl, by decide +kernel, rfl, by decide +kernel, by decide +kernel⟩
/-! ### the pot -/
def But (p : Addr) (H H' : Hp) : Prop := ∀ b o, b ≠ p → H b = some o → H' b = some o
theorem But.refl (p : Addr) (H : Hp) : But p H H := fun _ _ _ h => h
theorem But.trans {p : Addr} {H H1 H2 : Hp} (a : But p H H1) (b : But p H1 H2) : But p H H2 := fun c o n h => b c o n (a c o n h)
theorem Same.but {p : Addr} {H H' : Hp} (a : Same H H') : But p H H' := fun b o _ h => a b o h
theorem same_upd {H : Hp} {p : Addr} {o : HO} (h : H p = none) : Same H (upd H p o) := fun b x e => by
  rw [upd_ne (ne_of_none e h)]
  exact e
theorem but_upd {H : Hp} {p : Addr} {o : HO} : But p H (upd H p o) := fun b x n e => by
  rw [upd_ne n]
  exact e
def mM : Int := 2305843009213693951
structure PotV (g r : Int) : Prop where
  g0 : 0 ≤ g
  g1 : g.natAbs < 2 ^ 3000
  r0 : 0 ≤ r
  r1 : r < 2305843009213693951
def Pot (H : Hp) (p : Addr) : Prop := ∃ g r : Int, H p = some (.lst [.int g, .int r]) ∧ PotV g r
theorem great_mod (x : Int) : 0 ≤ x % ten9 ∧ (x % ten9).natAbs < 2 ^ 3000 := by
  have p := ten9_pos
  have h0 : 0 ≤ x % ten9 := Int.emod_nonneg _ (by omega)
  exact ⟨h0, wide_le h0 (Int.le_of_lt (Int.emod_lt_of_pos _ p)) ten9_lt⟩
theorem great_mul (x : Int) (b : Bool) : CMulW (x % ten9) (if b = true then 1 else 0) :=
  wide_mul (b := 2) (great_mod x).2 (by cases b <;> decide) (by decide) (by decide) (by decide)
theorem great_pot (x : Int) (b : Bool) : 0 ≤ x % ten9 * (if b = true then 1 else 0) ∧ (x % ten9 * (if b = true then 1 else 0)).natAbs < 2 ^ 3000 := by
  cases b
  · rw [if_neg (by decide), Int.mul_zero]
    exact ⟨Int.le_refl _, Nat.pow_pos (by decide)⟩
  · rw [if_pos rfl, Int.mul_one]
    exact great_mod x
section
variable {P : Program} {w : World} {K : PySem.W.Frag} {mg : Str → Option Value} {base : Heap}
def spPot (K : PySem.W.Frag) : Sp := fun vs H Q _ => ∃ (a : Addr) (ns : List Int) (k : Nat), vs = [.ref a, .int k] ∧ SqL K H a (ns.map V.int) ∧ k ≤ 1000 ∧ ∀ H' p, Same H H' → H p = none → Pot H' p → Q (.ref p) H'
theorem ok_pot {f : Addr} {fd : FuncData} {k : Nat} (F : Fun K "_law_pot" "_law_pot" sPot f fd) (ml : mg "len" = none) (ma : mg "abs" = none) (mi : mg "int" = none) (nd : PySem.W.nsIn K cStatics "sys.int_max_str_digits" = some none) : FnOk P w K mg base CX0 (k + 1) f fd ["_law_script", "_law_k"] (spPot K) := by
  refine F.ok scPot (fun vs H Q E h => ?_) (fun cdv A outer s H vs Q E hr h => ?_)
  · obtain ⟨a, ns, k, rfl, _⟩ := h
    rfl
  · obtain ⟨a, ns, n, rfl, hS, hn, q⟩ := h
    refine ⟨_, pss_cons (ps_set (i := 2) scPot.nd rfl (.inl rfl) (pe_op op_add (pe_op op_mul pe_int (pv 1)) (pe_callB call_len_seq (by rfl) ml PySem.boot_len (pa_cons (pv 0) pa_nil))))
      (pss_cons (ps_if (pt_cmpR op_lt (pv 1) (pe_callB call_len_seq (by rfl) ml PySem.boot_len (pa_cons (pv 0) pa_nil)) (nomark _))
        (pss_one (ps_set (i := 2) scPot.nd rfl (.inl rfl) (pe_ix ix_list (pv 0) (pv 1) (fun _ _ => rfl)))) pss_nil)
      (pss_cons (ps_set (i := 3) scPot.nd rfl (.inl rfl) (pe_op op_mulW (pe_op op_mod (pe_callB call_abs (by rfl) ma (by decide +kernel) (pa_cons (pv 2) pa_nil)) (pe_callTy (call_big9 nd) (by rfl) mi (by decide +kernel) (pa_cons (pe_op op_add_str pe_str (pe_op op_repS pe_str pe_int)) pa_nil)))
          (pe_callTy call_int1 (by rfl) mi (by decide +kernel) (pa_cons (pe_cmpR op_ge (pe_callB call_abs (by rfl) ma (by decide +kernel) (pa_cons (pv 2) pa_nil)) (pe_op op_pow pe_int pe_int) (nomark _)) pa_nil))))
      (pss_one (ps_ret (pe_lst (pa_cons (pv 3) (pa_cons (pe_op op_mod (pe_op op_mul (pe_op op_add (pe_op op_add (pe_op op_mod (pv 2) pe_int) (pe_op op_mul (pe_op op_mul pe_int (pv 1)) (pv 1))) pe_int) pe_int) pe_int) pa_nil))))))), ?_⟩
    refine ⟨.int n, rfl, 3, n, rfl, rfl, .inl ⟨by decide, by decide⟩, .ref a, rfl, a, ns.map V.int, rfl, .inl hS, _, _, rfl, rfl, ?_⟩
    refine ⟨.int n, rfl, .ref a, rfl, a, ns.map V.int, rfl, .inl hS, _, _, rfl, rfl, _, rfl, ite2 (fun e => ?z1) (fun e => ?z2)⟩
    case z1 =>
      have e1 : (n : Int) < ((ns.map V.int).length : Nat) := of_decide_eq_true e
      have e2 : n < ns.length := by
        rw [List.length_map] at e1
        omega
      refine ⟨.ref a, rfl, .int n, rfl, a, ns.map V.int, n, .int ns[n], rfl, rfl, hS, atI_nat (j := n) (by rw [List.getElem?_map, List.getElem?_eq_getElem e2]; rfl), ?_⟩
      refine ⟨.int _, rfl, _, rfl, _, _, rfl, rfl, zeros_ok, _, _, rfl, rfl, big9_len, rfl, _, _, rfl, rfl, ten9_pos, .int _, rfl, _, rfl, _, _, rfl, rfl, ⟨by decide, by decide, by decide⟩, _, _, rfl, rfl, .inr ⟨_, rfl, _, _, rfl, rfl, great_mul _ _, ?_⟩⟩
      refine ⟨_, rfl, .int _, rfl, _, _, rfl, rfl, (by decide : (0 : Int) < 2305843009213693951), .int n, rfl, _, _, rfl, rfl, .inl ⟨by decide, by decide⟩, .int n, rfl, _, _, rfl, rfl, .inl ?_, _, _, rfl, rfl, _, _, rfl, rfl, _, _, rfl, rfl, .inr ⟨by decide, by decide⟩, _, _, rfl, rfl, (by decide : (0 : Int) < 2305843009213693951), (by show 2 ≤ sizeLine; decide), fun p np => ?_⟩
      · constructor <;> omega
      · exact q _ p (same_upd np) np ⟨_, _, upd_same, (great_pot _ _).1, (great_pot _ _).2, Int.emod_nonneg _ (by decide), Int.emod_lt_of_pos _ (by decide)⟩
    case z2 =>
      refine ⟨.int _, rfl, _, rfl, _, _, rfl, rfl, zeros_ok, _, _, rfl, rfl, big9_len, rfl, _, _, rfl, rfl, ten9_pos, .int _, rfl, _, rfl, _, _, rfl, rfl, ⟨by decide, by decide, by decide⟩, _, _, rfl, rfl, .inr ⟨_, rfl, _, _, rfl, rfl, great_mul _ _, ?_⟩⟩
      refine ⟨_, rfl, .int _, rfl, _, _, rfl, rfl, (by decide : (0 : Int) < 2305843009213693951), .int n, rfl, _, _, rfl, rfl, .inl ⟨by decide, by decide⟩, .int n, rfl, _, _, rfl, rfl, .inl ?_, _, _, rfl, rfl, _, _, rfl, rfl, _, _, rfl, rfl, .inr ⟨by decide, by decide⟩, _, _, rfl, rfl, (by decide : (0 : Int) < 2305843009213693951), (by show 2 ≤ sizeLine; decide), fun p np => ?_⟩
      · constructor <;> omega
      · exact q _ p (same_upd np) np ⟨_, _, upd_same, (great_pot _ _).1, (great_pot _ _).2, Int.emod_nonneg _ (by decide), Int.emod_lt_of_pos _ (by decide)⟩
end
end Ph

namespace Ph
open PySem PySem.Spec PyProof.Rows L2
theorem scLinks : FnScope ["_law_pot_here", "_law_most", "_law_found", "_law_turn", "_law_ratio"] ["_law_pot_here", "_law_most"] (defScope sLinks) := ⟨rfl, rfl, rfl, by decide +kernel, rfl, by decide +kernel, by decide +kernel⟩
theorem But.seq {K : PySem.W.Frag} {p a : Addr} {H H' : Hp} {xs : List V} (b : But p H H') (n : a ≠ p) (h : SqL K H a xs) : SqL K H' a xs := by
  rcases h with (h | ⟨o, h⟩) | h
  · exact .inl (.inl (b _ _ n h))
  · exact .inl (.inr ⟨o, b _ _ n h⟩)
  · exact .inr h
theorem But.none {p a : Addr} {H H' : Hp} (b : But p H H') (n : a ≠ p) (h : H' a = none) : H a = none := by
  cases q : H a with
  | none => rfl
  | some o => rw [b a o n q] at h; cases h
theorem Pot.same {H H' : Hp} {p : Addr} (P : Pot H p) (s : Same H H') : Pot H' p := by
  obtain ⟨g, r, h, v⟩ := P
  exact ⟨g, r, s _ _ h, v⟩
theorem Pot.ne_none {H : Hp} {p q : Addr} (P : Pot H p) (h : H q = none) : p ≠ q := by
  obtain ⟨g, r, e, v⟩ := P
  exact ne_of_none e h
inductive Lnk (m : Int) : List Int → Int → Prop
  | one : Lnk m [1] 1
  | step {ns : List Int} {x r : Int} : Lnk m ns x → 2 ≤ r → r ≤ 6 → x * r ≤ m → ns.length < 12 → Lnk m (ns ++ [x * r]) (x * r)
theorem Lnk.pos {m x : Int} {ns : List Int} (h : Lnk m ns x) : 1 ≤ x := by
  induction h with
  | one => decide
  | step h h1 h2 h3 h4 ih =>
    have := Int.mul_le_mul ih h1 (by decide) (by omega)
    omega
theorem Lnk.last {m x : Int} {ns : List Int} (h : Lnk m ns x) : ∃ r, ns = r ++ [x] := by
  cases h with
  | one => exact ⟨[], rfl⟩
  | step h h1 h2 h3 h4 => exact ⟨_, rfl⟩
theorem Lnk.le {m x : Int} {ns : List Int} (h : Lnk m ns x) (hm : 1 ≤ m) : x ≤ m := by
  cases h with
  | one => exact hm
  | step h h1 h2 h3 h4 => exact h3
theorem Lnk.len {m x : Int} {ns : List Int} (h : Lnk m ns x) : 1 ≤ ns.length ∧ ns.length ≤ 12 := by
  cases h with
  | one => decide
  | step h h1 h2 h3 h4 => rw [List.length_append]; exact ⟨by simp, by simp; omega⟩
section
variable {P : Program} {w : World} {K : PySem.W.Frag} {mg : Str → Option Value} {base : Heap}
def spTake : Sp := fun vs H Q _ => ∃ (p : Addr) (n : Int), vs = [.ref p, .int n] ∧ Pot H p ∧ 0 < n ∧ n < 4611686018427387904 ∧ ∀ H' d, But p H H' → Pot H' p → 0 ≤ d → d < n → Q (.int d) H'
theorem ok_take {f : Addr} {fd : FuncData} {k : Nat} (F : Fun K "_law_take" "_law_take" sTake f fd) : FnOk P w K mg base CX0 (k + 1) f fd ["_law_pot_here", "_law_upto"] spTake := by
  refine F.ok scTake (fun vs H Q E h => ?_) (fun cdv A outer s H vs Q E hr h => ?_)
  · obtain ⟨a, n, rfl, _⟩ := h
    rfl
  · obtain ⟨p, n, rfl, ⟨g, r, hp, hv⟩, hn0, hn1, q⟩ := h
    refine ⟨_, pss_cons (ps_if (pt_cmpR op_gt (pe_ix ix_list (pv 0) pe_int (fun _ _ => rfl)) pe_int (nomark _))
        (pss_cons (ps_set (i := 2) scTake.nd rfl (.inl rfl) (pe_op op_mod (pe_ix ix_list (pv 0) pe_int (fun _ _ => rfl)) (pv 1)))
        (pss_cons (ps_asg (pe_op op_fdivW (pe_ix ix_list (pv 0) pe_int (fun _ _ => rfl)) (pv 1)) (pg_sub (pv 0) pe_int set_list))
        (pss_one (ps_ret (pv 2))))) pss_nil)
      (pss_cons (ps_asg (pe_op op_mod (pe_op op_add (pe_op op_mul (pe_ix ix_list (pv 0) pe_int (fun _ _ => rfl)) pe_int) pe_int) pe_int) (pg_sub (pv 0) pe_int set_list))
      (pss_one (ps_ret (pe_op op_mod (pe_op op_fdiv (pe_op op_mod (pe_op op_mul (pe_op op_fdiv (pe_ix ix_list (pv 0) pe_int (fun _ _ => rfl)) pe_int) (pe_op op_add (pe_op op_mod (pe_ix ix_list (pv 0) pe_int (fun _ _ => rfl)) pe_int) pe_int)) pe_int) pe_int) (pv 1))))), ?_⟩
    have hL : SqL K H p [.int g, .int r] := .inl (.inl hp)
    refine ⟨.ref p, rfl, p, _, 0, .int g, rfl, rfl, hL, atI_nat (j := 0) rfl, g, 0, rfl, rfl, _, rfl, ite2 (fun e => ?_) (fun e => ?_)⟩
    · have e1 : (0 : Int) < g := of_decide_eq_true e
      refine ⟨.ref p, rfl, p, _, 0, .int g, rfl, rfl, hL, atI_nat (j := 0) rfl, .int n, rfl, g, n, rfl, rfl, hn0, ?_⟩
      refine ⟨.ref p, rfl, p, _, 0, .int g, rfl, rfl, hL, atI_nat (j := 0) rfl, .int n, rfl, g, n, rfl, rfl, wide_div (b := 62) hn0 ?_ (by decide) (by decide), .ref p, rfl, p, _, 0, 0, rfl, rfl, hp, rfl, _, rfl, ?_⟩
      · have : (2 : Nat) ^ 62 = 4611686018427387904 := by decide
        rw [this]
        omega
      · have d0 : 0 ≤ g / n := Int.ediv_nonneg hv.g0 (by omega)
        have d1 : g / n ≤ g := Int.ediv_le_self _ hv.g0
        refine q _ _ but_upd ⟨_, _, upd_same, d0, wide_le d0 d1 hv.g1, hv.r0, hv.r1⟩ (Int.emod_nonneg _ (by omega)) (Int.emod_lt_of_pos _ hn0)
    · refine ⟨.ref p, rfl, p, _, 1, .int r, rfl, rfl, hL, atI_nat (j := 1) rfl, r, _, rfl, rfl, .inl ⟨?_, ?_⟩, _, _, rfl, rfl, _, _, rfl, rfl, (by decide : (0 : Int) < 2305843009213693951), .ref p, rfl, p, _, 1, 1, rfl, rfl, hp, rfl, ?_⟩
      · have := hv.r0; omega
      · have := hv.r1; omega
      have r20 : 0 ≤ (r * 1181783497276652981 + 12345678910987) % 2305843009213693951 := Int.emod_nonneg _ (by decide)
      have r21 : (r * 1181783497276652981 + 12345678910987) % 2305843009213693951 < 2305843009213693951 := Int.emod_lt_of_pos _ (by decide)
      have hL2 : SqL K (upd H p (.lst [.int g, .int ((r * 1181783497276652981 + 12345678910987) % 2305843009213693951)])) p [.int g, .int ((r * 1181783497276652981 + 12345678910987) % 2305843009213693951)] := .inl (.inl upd_same)
      refine ⟨.ref p, rfl, p, _, 1, .int _, rfl, rfl, hL2, atI_nat (j := 1) rfl, _, _, rfl, rfl, ⟨by decide, by decide⟩, .ref p, rfl, p, _, 1, .int _, rfl, rfl, hL2, atI_nat (j := 1) rfl, _, _, rfl, rfl, (by decide : (0 : Int) < 65537), _, _, rfl, rfl, _, _, rfl, rfl, .inl ⟨?_, ?_⟩, _, _, rfl, rfl, (by decide : (0 : Int) < 2305843009213693921), _, _, rfl, rfl, ⟨by decide, by decide⟩, .int n, rfl, _, _, rfl, rfl, hn0, ?_⟩
      · generalize (r * 1181783497276652981 + 12345678910987) % 2305843009213693951 = r2 at *
        have : 0 ≤ r2 / 65537 := Int.ediv_nonneg r20 (by decide)
        omega
      · generalize (r * 1181783497276652981 + 12345678910987) % 2305843009213693951 = r2 at *
        have : r2 / 65537 ≤ r2 := Int.ediv_le_self _ r20
        omega
      · exact q _ _ but_upd ⟨_, _, upd_same, hv.g0, hv.g1, r20, r21⟩ (Int.emod_nonneg _ (by omega)) (Int.emod_lt_of_pos _ hn0)
def spOf (K : PySem.W.Frag) : Sp := fun vs H Q _ => ∃ (p l : Addr) (xs : List V), vs = [.ref p, .ref l] ∧ Pot H p ∧ SqL K H l xs ∧ l ≠ p ∧ xs ≠ [] ∧ xs.length ≤ 1000 ∧ ∀ H' x, But p H H' → Pot H' p → x ∈ xs → Q x H'
theorem ok_of {f fT : Addr} {fd fdT : FuncData} {k : Nat} (F : Fun K "_law_of" "_law_of" sOf f fd) (FT : Fun K "_law_take" "_law_take" sTake fT fdT) (bT : Binds K fdT ["_law_pot_here", "_law_upto"] []) (gT : mg "_law_take" = some (.ref fT)) (ml : mg "len" = none) : FnOk P w K mg base CX0 (k + 1 + 1) f fd ["_law_pot_here", "_law_some"] (spOf K) := by
  have GT : FnOk P w K mg base CX0 (k + 1) fT fdT ["_law_pot_here", "_law_upto"] spTake := ok_take FT
  refine F.ok scOf (fun vs H Q E h => ?_) (fun cdv A outer s H vs Q E hr h => ?_)
  · obtain ⟨a, n, xs, rfl, _⟩ := h
    rfl
  · obtain ⟨p, l, xs, rfl, hp, hl, hne, hx, hlen, q⟩ := h
    refine ⟨_, pss_one (ps_ret (pe_ix ix_list (pv 1) (pe_call GT hr (by rfl) gT FT.kp bT .nil pass0 (pa_cons (pv 0) (pa_cons (pe_callB call_len_seq (by rfl) ml PySem.boot_len (pa_cons (pv 1) pa_nil)) pa_nil))) (fun _ _ => rfl))), ?_⟩
    have hx0 : 0 < xs.length := List.length_pos_iff.mpr hx
    refine ⟨.ref l, rfl, .ref p, rfl, .ref l, rfl, l, xs, rfl, .inl hl, p, _, rfl, hp, ?_, ?_, fun H' d hb hp' d0 d1 => ?_⟩
    · omega
    · omega
    · obtain ⟨j, rfl⟩ : ∃ j : Nat, d = j := ⟨d.toNat, by omega⟩
      have hd : j < xs.length := by omega
      exact ⟨l, xs, j, xs[j], rfl, rfl, hb.seq hne hl, atI_nat (List.getElem?_eq_getElem hd), q _ _ hb hp' (List.getElem_mem hd)⟩
def spLinks : Sp := fun vs H Q _ => ∃ (p : Addr) (m : Int), vs = [.ref p, .int m] ∧ Pot H p ∧ 1 ≤ m ∧ m ≤ 1000000 ∧ ∀ H' t ns x, But p H H' → Pot H' p → H t = none → H' t = some (.tup (ns.map V.int)) → Lnk m ns x → ns.length ≤ 6 → Q (.ref t) H'
theorem ok_links {f fT fO : Addr} {fd fdT fdO : FuncData} {k : Nat} (F : Fun K "_law_links" "_law_links" sLinks f fd) (FT : Fun K "_law_take" "_law_take" sTake fT fdT) (bT : Binds K fdT ["_law_pot_here", "_law_upto"] []) (gT : mg "_law_take" = some (.ref fT))
    (FO : Fun K "_law_of" "_law_of" sOf fO fdO) (bO : Binds K fdO ["_law_pot_here", "_law_some"] []) (gO : mg "_law_of" = some (.ref fO)) (ml : mg "len" = none) (mr : mg "range" = none) (mt : mg "tuple" = none) : FnOk P w K mg base CX0 (k + 1 + 1 + 1) f fd ["_law_pot_here", "_law_most"] spLinks := by
  have GT : FnOk P w K mg base CX0 (k + 1) fT fdT ["_law_pot_here", "_law_upto"] spTake := ok_take FT
  have GO : FnOk P w K mg base CX0 (k + 1 + 1) fO fdO ["_law_pot_here", "_law_some"] (spOf K) := ok_of FO FT bT gT ml
  refine F.ok scLinks (fun vs H Q E h => ?_) (fun cdv A outer s H vs Q E hr h => ?_)
  · obtain ⟨a, n, rfl, _⟩ := h
    rfl
  · obtain ⟨p, m, rfl, hp, hm1, hm2, q⟩ := h
    have hr1 : Room (k + 1) (A.deeper (envOfC "_law_links" (defScope sLinks) s.heap.objs.size f cdv)) := hr.mono (by omega)
    refine ⟨_, pss_cons (ps_set (i := 2) scLinks.nd rfl (.inl rfl) (pe_lst (pa_cons pe_int pa_nil)))
      (pss_cons (ps_for PassesOwn.never rfl (pi_range1 (by rfl) mr (pa_cons (pe_call GT hr1 (by rfl) gT FT.kp bT .nil pass0 (pa_cons (pv 0) (pa_cons pe_int pa_nil))) pa_nil)) (pg_name (i := 3) scLinks.nd rfl (.inl rfl))
        (pss_cons (ps_set (i := 4) scLinks.nd rfl (.inl rfl) (pe_call GO hr (by rfl) gO FO.kp bO .nil pass0 (pa_cons (pv 0) (pa_cons (pe_lst (pa_cons pe_int (pa_cons pe_int (pa_cons pe_int (pa_cons pe_int (pa_cons pe_int (pa_cons (pe_op op_add pe_int (pe_call GT hr1 (by rfl) gT FT.kp bT .nil pass0 (pa_cons (pv 0) (pa_cons pe_int pa_nil)))) pa_nil))))))) pa_nil))))
        (pss_one (ps_if (PW.pt (pw_and (pt_cmpR op_le (pe_op op_mul (pe_ix ix_list (pv 2) (pe_un un_neg pe_int) (fun _ _ => rfl)) (pv 4)) (pv 1) (nomark _)) (pw_and1 (pt_cmpR op_lt (pe_callB call_len_seq (by rfl) ml PySem.boot_len (pa_cons (pv 2) pa_nil)) pe_int (nomark _)))))
          (pss_one (ps_expr (pe_bm PySem.F.plainAttrs_list PySem.F.slot_list_append PySem.F.type_list_append mt_append (pv 2) (pa_cons (pe_op op_mul (pe_ix ix_list (pv 2) (pe_un un_neg pe_int) (fun _ _ => rfl)) (pv 4)) pa_nil)))) pss_nil))))
      (pss_one (ps_ret (pe_callTy call_tuple_of (by rfl) mt (by decide +kernel) (pa_cons (pv 2) pa_nil))))), ?_⟩
    refine ⟨by decide, fun o no => ?_⟩
    have npo : p ≠ o := hp.ne_none no
    refine ⟨.ref p, rfl, p, 6, rfl, hp.same (same_upd no), by decide, by decide, fun H1 d hb1 hp1 d0 d1 => ?_⟩
    refine ⟨d, rfl, by omega, by omega, ?_⟩
    have ho1 : H1 o = some (.lst ([1].map V.int)) := hb1 _ _ npo.symm upd_same
    have hbase : ∀ b x, b ≠ p → b ≠ o → H b = some x → H1 b = some x := fun b x n1 n2 h => hb1 _ _ n1 (by rw [upd_ne n2]; exact h)
    refine for_range (lo := 0) (n := d.toNat) (fun i σ H2 => ∃ y3 y4 ns x, σ = [some (.ref p), some (.int m), some (.ref o), y3, y4] ∧ Pot H2 p ∧ (∀ b x, b ≠ p → b ≠ o → H b = some x → H2 b = some x) ∧ H2 o = some (.lst (ns.map V.int)) ∧ Lnk m ns x ∧ ns.length ≤ i + 1)
      ⟨none, none, [1], 1, rfl, hp1, hbase, ho1, .one, by simp⟩ ?_ ?_
    · rintro i σ H2 hi ⟨y3, y4, ns, x, rfl, hp2, hB, ho2, hk, hl⟩
      have no2 : o ≠ p := npo.symm
      refine ⟨.ref p, rfl, .ref p, rfl, p, 5, rfl, hp2, by decide, by decide, fun H3 e hb3 hp3 e0 e1 => ?_⟩
      refine ⟨_, _, rfl, rfl, (by show 6 ≤ sizeLine; decide), fun l nl => ?_⟩
      have nlp : l ≠ p := (hp3.ne_none nl).symm
      have ho3 : H3 o = some (.lst (ns.map V.int)) := hb3 _ _ no2 ho2
      have nlo : o ≠ l := ne_of_none ho3 nl
      refine ⟨p, l, _, rfl, hp3.same (same_upd nl), .inl (.inl upd_same), nlp, List.cons_ne_nil _ _, by simp, fun H4 v hb4 hp4 hv => ?_⟩
      have ho4 : H4 o = some (.lst (ns.map V.int)) := hb4 _ _ no2 (by rw [upd_ne nlo]; exact ho3)
      have hB4 : ∀ b x, b ≠ p → b ≠ o → H b = some x → H4 b = some x := fun b x n1 n2 h => by
        have h3 := hb3 _ _ n1 (hB b x n1 n2 h)
        exact hb4 _ _ n1 (by rw [upd_ne (ne_of_none h3 nl)]; exact h3)
      obtain ⟨r, rfl, hr2, hr6⟩ : ∃ r : Int, v = .int r ∧ 2 ≤ r ∧ r ≤ 6 := by
        simp only [List.mem_cons, List.not_mem_nil, or_false] at hv
        rcases hv with h | h | h | h | h | h
        · exact ⟨2, h, by decide, by decide⟩
        · exact ⟨2, h, by decide, by decide⟩
        · exact ⟨2, h, by decide, by decide⟩
        · exact ⟨3, h, by decide, by decide⟩
        · exact ⟨4, h, by decide, by decide⟩
        · exact ⟨2 + e, h, by omega, by omega⟩
      obtain ⟨ini, rfl⟩ := hk.last
      have hL4 : SqL K H4 o ((ini ++ [x]).map V.int) := .inl (.inl ho4)
      have gl : atI ((ini ++ [x]).map V.int) (-1) = some (.int x) := by
        rw [List.map_append]
        exact atI_last _ _
      have x1 := hk.pos
      have x2 := hk.le hm1
      have lx := hk.len
      refine ⟨.ref o, rfl, 1, rfl, o, _, -1, _, rfl, rfl, hL4, gl, .int r, rfl, x, r, rfl, rfl, .inl ⟨by omega, by omega⟩, .int m, rfl, _, _, rfl, rfl, _, rfl, ite2 (fun c => ?_) (fun c => ?_)⟩
      · have c1 : x * r ≤ m := of_decide_eq_true c
        refine ⟨.ref o, rfl, o, _, rfl, .inl hL4, _, _, rfl, rfl, _, rfl, ite2 (fun c => ?_) (fun c => ?_)⟩
        · have c2 : (((ini ++ [x]).map V.int).length : Int) < 12 := of_decide_eq_true c
          rw [List.length_map] at c2
          refine ⟨.ref o, rfl, .inl ⟨rfl, _, hL4⟩, .ref o, rfl, 1, rfl, o, _, -1, _, rfl, rfl, hL4, gl, .int r, rfl, x, r, rfl, rfl, .inl ⟨by omega, by omega⟩, o, _, _, rfl, rfl, ho4, ?_, ?_⟩
          · rw [List.length_map]
            exact small1000 (by omega)
          · refine ⟨_, _, ini ++ [x] ++ [x * r], x * r, rfl, ?_, ?_, ?_, .step hk hr2 hr6 c1 (by omega), ?_⟩
            · obtain ⟨g, rr, e1, e2⟩ := hp4
              exact ⟨g, rr, by rw [upd_ne npo]; exact e1, e2⟩
            · intro b z n1 n2 h
              rw [upd_ne n2]
              exact hB4 b z n1 n2 h
            · rw [upd_same, List.map_append (l₂ := [x * r])]
              rfl
            · rw [List.length_append]
              simp
              simp at hl
              omega
        · exact ⟨_, _, _, x, rfl, hp4, hB4, ho4, hk, by omega⟩
      · exact ⟨_, _, _, x, rfl, hp4, hB4, ho4, hk, by omega⟩
    · rintro σ H2 ⟨y3, y4, ns, x, rfl, hp2, hB, ho2, hk, hl⟩
      refine ⟨.ref o, rfl, o, _, rfl, .inl ⟨.inl (.inl ho2), fun t nt => ?_⟩⟩
      have npt : p ≠ t := hp2.ne_none nt
      have not : o ≠ t := ne_of_none ho2 nt
      have ntH : H t = none := by
        cases e : H t with
        | none => rfl
        | some z => rw [hB t z npt.symm not.symm e] at nt; cases nt
      refine q _ t ns x (fun b z n1 h => ?_) (hp2.same (same_upd nt)) ntH upd_same hk (by omega)
      have n2 : b ≠ o := ne_of_none h no
      have h3 := hB b z n1 n2 h
      rw [upd_ne (ne_of_none h3 nt)]
      exact h3
end
end Ph

namespace Ph
open PySem PySem.Spec PyProof.Rows L2
/-! ### how many states a page has: sizes behind the 1, the last one, the number -/
inductive Gd : List Nat → Nat → Nat → Prop
  | nil : Gd [] 1 2
  | snoc {r : List Nat} {s c q : Nat} : Gd r s c → 2 ≤ q → Gd (r ++ [s * q]) (s * q) (c ^ q + 1)
theorem pow_two_le (c : Nat) : ∀ q, 2 ≤ q → c ^ q + 2 ≤ (c + 1) ^ q ∨ c = 0
  | 0, h => by omega
  | 1, h => by omega
  | 2, _ => by
    rcases Nat.eq_zero_or_pos c with h | h
    · exact .inr h
    · left
      rw [Nat.pow_two, Nat.pow_two, Nat.add_mul, Nat.mul_add]
      omega
  | q + 3, _ => by
    rcases pow_two_le c (q + 2) (by omega) with h | h
    · left
      rw [Nat.pow_succ, Nat.pow_succ (n := c + 1)]
      have h1 : (c ^ (q + 2) + 2) * (c + 1) ≤ (c + 1) ^ (q + 2) * (c + 1) := Nat.mul_le_mul_right _ h
      have h2 : c ^ (q + 2) * c + 2 ≤ (c ^ (q + 2) + 2) * (c + 1) := by
        rw [Nat.add_mul, Nat.mul_add]
        omega
      omega
    · exact .inr h
theorem Gd.facts {r : List Nat} {s c : Nat} (h : Gd r s c) : 1 ≤ s ∧ 1 ≤ c ∧ c + 1 ≤ 3 ^ s := by
  induction h with
  | nil => decide
  | @snoc r s c q h hq ih =>
    obtain ⟨h1, h2, h3⟩ := ih
    refine ⟨?_, by omega, ?_⟩
    · exact Nat.mul_le_mul h1 (show 1 ≤ q by omega)
    · rcases pow_two_le c q hq with h4 | h4
      · have h5 : (c + 1) ^ q ≤ (3 ^ s) ^ q := Nat.pow_le_pow_left h3 q
        rw [Nat.pow_mul]
        omega
      · omega
theorem Gd.cut {r : List Nat} {s c : Nat} (h : Gd r s c) : ∀ i, i < r.length → ∃ s' c' q, Gd (r.take i) s' c' ∧ r[i]? = some (s' * q) ∧ 2 ≤ q ∧ s' * q ≤ s ∧ Gd (r.take (i + 1)) (s' * q) (c' ^ q + 1) := by
  induction h with
  | nil => intro i hi; simp at hi
  | @snoc r s c q h hq ih =>
    intro i hi
    have hs := h.facts.1
    by_cases h1 : i < r.length
    · obtain ⟨s', c', q', g1, e, h2, h3, g2⟩ := ih i h1
      refine ⟨s', c', q', ?_, ?_, h2, ?_, ?_⟩
      · rw [List.take_append_of_le_length (by omega)]; exact g1
      · rw [List.getElem?_append_left h1]; exact e
      · exact Nat.le_trans h3 (Nat.le_mul_of_pos_right _ (by omega))
      · rw [List.take_append_of_le_length (by omega)]; exact g2
    · have e : i = r.length := by
        rw [List.length_append, List.length_singleton] at hi
        omega
      subst e
      refine ⟨s, c, q, ?_, ?_, hq, Nat.le_refl _, ?_⟩
      · rw [List.take_append_of_le_length (Nat.le_refl _), List.take_length]; exact h
      · rw [List.getElem?_append_right (Nat.le_refl _), Nat.sub_self]; rfl
      · rw [List.take_of_length_le (by simp)]; exact .snoc h hq
theorem Gd.last {r : List Nat} {s c : Nat} (h : Gd r s c) : ∃ l, (1 :: r) = l ++ [s] := by
  cases h with
  | nil => exact ⟨[], rfl⟩
  | @snoc r s c q h hq => exact ⟨1 :: r, by simp⟩
theorem Gd.fun {r : List Nat} {s c : Nat} (h : Gd r s c) : ∀ {s' c'}, Gd r s' c' → s = s' ∧ c = c' := by
  induction h with
  | nil =>
    intro s' c' h'
    generalize e : ([] : List Nat) = z at h'
    cases h' with
    | nil => exact ⟨rfl, rfl⟩
    | snoc _ _ => simp at e
  | @snoc r s c q h hq ih =>
    intro s' c' h'
    generalize e : r ++ [s * q] = z at h'
    cases h' with
    | nil => simp at e
    | @snoc r2 s2 c2 q2 h2 hq2 =>
      obtain ⟨e1, e2⟩ := List.append_inj' e rfl
      subst e1
      obtain ⟨e3, e4⟩ := ih h2
      subst e3; subst e4
      have e5 : s * q = s * q2 := by simpa using e2
      have e6 := Nat.eq_of_mul_eq_mul_left (by have := h.facts.1; omega) e5
      subst e6
      exact ⟨rfl, rfl⟩
theorem Gd.tail {r : List Nat} {s c : Nat} (h : Gd r s c) : 2 ≤ r.length → ∃ c', Gd r.tail s c' ∧ c' ≤ c := by
  induction h with
  | nil => intro z; simp at z
  | @snoc r s c q h hq ih =>
    intro hl
    by_cases h1 : 2 ≤ r.length
    · obtain ⟨c', g, hc⟩ := ih h1
      refine ⟨c' ^ q + 1, ?_, Nat.add_le_add_right (Nat.pow_le_pow_left hc q) 1⟩
      have e : (r ++ [s * q]).tail = r.tail ++ [s * q] := by
        cases r with
        | nil => simp at h1
        | cons x y => rfl
      rw [e]
      exact .snoc g hq
    · have h2 : r.length = 1 := by
        rw [List.length_append, List.length_singleton] at hl
        omega
      generalize er : r = z at h
      cases h with
      | nil => rw [er] at h2; simp at h2
      | @snoc r3 s3 c3 q3 h3 hq3 =>
        have e3 : r3 = [] := by
          rw [er, List.length_append, List.length_singleton] at h2
          exact List.length_eq_zero_iff.mp (by omega)
        subst e3
        obtain ⟨e4, e5⟩ := h3.fun .nil
        subst e4; subst e5
        refine ⟨2 ^ (1 * q3 * q) + 1, ?_, ?_⟩
        · have g : Gd ([] ++ [1 * (1 * q3 * q)]) (1 * (1 * q3 * q)) (2 ^ (1 * q3 * q) + 1) := .snoc .nil (Nat.le_trans hq (Nat.le_mul_of_pos_left _ (by omega)))
          simp only [Nat.one_mul] at g ⊢
          exact g
        · rw [Nat.one_mul, Nat.pow_mul]
          exact Nat.add_le_add_right (Nat.pow_le_pow_left (by omega) q) 1
theorem Gd.bits {r : List Nat} {s c : Nat} (h : Gd r s c) : c < 2 ^ (2 * s) := by
  obtain ⟨h1, h2, h3⟩ := h.facts
  have e : 3 ^ s ≤ 2 ^ (2 * s) := by
    rw [Nat.pow_mul]
    exact Nat.pow_le_pow_left (by decide) s
  omega
theorem lnk_gd {m x : Int} {ns : List Int} (h : Lnk m ns x) : ∃ r s c, ns = (1 :: r).map Int.ofNat ∧ x = (s : Nat) ∧ Gd r s c ∧ r.length + 1 = ns.length := by
  induction h with
  | one => exact ⟨[], 1, 2, rfl, rfl, .nil, rfl⟩
  | @step ns x q h h1 h2 h3 h4 ih =>
    obtain ⟨r, s, c, e1, e2, g, e3⟩ := ih
    obtain ⟨k, rfl⟩ : ∃ k : Nat, q = k := ⟨q.toNat, by omega⟩
    subst e2
    refine ⟨r ++ [s * k], s * k, c ^ k + 1, ?_, ?_, .snoc g (by omega), ?_⟩
    · rw [e1]
      simp
    · simp
    · simp
      omega
end Ph

namespace Ph
open PySem PySem.Spec PyProof.Rows L2
abbrev sCount : Stmt := topS 1
abbrev sPower : Stmt := topS 2
abbrev sCounted : Stmt := topS 8
theorem scCount : FnScope ["chain", "pages", "counted", "size", "larger"] ["chain", "pages"] (defScope sCount) := ⟨rfl, rfl, rfl, by decide +kernel, rfl, by decide +kernel, by decide +kernel⟩
theorem scPower : FnScope ["base", "times", "product", "turn"] ["base", "times"] (defScope sPower) := ⟨rfl, rfl, rfl, by decide +kernel, rfl, by decide +kernel, by decide +kernel⟩
theorem scCounted : FnScope ["_law_links_here", "_law_many", "_law_one", "_law_smaller", "_law_size", "_law_product", "_law_turn", "_law_found"] ["_law_links_here", "_law_many"] (defScope sCounted) := ⟨rfl, rfl, rfl, by decide +kernel, rfl, by decide +kernel, by decide +kernel⟩
def vN (l : List Nat) : List V := l.map fun n => V.int (n : Nat)
theorem vN_len (l : List Nat) : (vN l).length = l.length := List.length_map ..
theorem vN_get {l : List Nat} {i n : Nat} (h : l[i]? = some n) : (vN l)[i]? = some (.int (n : Nat)) := by
  unfold vN
  rw [List.getElem?_map, h]
  rfl
theorem _root_.L2.Same.tup {K : PySem.W.Frag} {H H' : Hp} {a : Addr} {xs : List V} (e : Same H H') (h : SqT K H a xs) : SqT K H' a xs := by
  rcases h with (h | ⟨o, h⟩) | h
  · exact .inl (.inl (e _ _ h))
  · exact .inl (.inr ⟨o, e _ _ h⟩)
  · exact .inr h
theorem But.tup {K : PySem.W.Frag} {p a : Addr} {H H' : Hp} {xs : List V} (b : But p H H') (n : a ≠ p) (h : SqT K H a xs) : SqT K H' a xs := by
  rcases h with (h | ⟨o, h⟩) | h
  · exact .inl (.inl (b _ _ n h))
  · exact .inl (.inr ⟨o, b _ _ n h⟩)
  · exact .inr h
theorem cutT1 (xs : List V) : cutV xs (some 1) none = xs.drop 1 := by
  unfold cutV
  rw [show HT.sIx xs.length 0 (some 1) = min 1 xs.length from HT.sIx_nat xs.length 0 1, HT.sIx_none]
  cases xs with
  | nil => rfl
  | cons x r =>
    rw [show min 1 (x :: r).length = 1 by
      rw [List.length_cons]
      omega]
    show (List.take ((x :: r).length - 1) r) = r
    rw [List.length_cons, Nat.add_sub_cancel]
    exact List.take_length
theorem notwhole1 {xs : List V} (h : xs ≠ []) : ¬ (HT.sIx xs.length 0 (some 1) = 0 ∧ HT.sIx xs.length xs.length none = xs.length) := by
  rw [show HT.sIx xs.length 0 (some 1) = min 1 xs.length from HT.sIx_nat xs.length 0 1]
  have := List.length_pos_iff.mpr h
  omega
/-- a loop over zip of two tuples, the second one not longer -/
theorem for_zipS {K : PySem.W.Frag} {a b : Addr} {xs ys : List V} {g : TG} {tb : TS} {D : Ends} {σ : L2.St} {H : Hp} (hl : ys.length ≤ xs.length) (Pv : Nat → L2.St → Hp → Prop) (h0 : Pv 0 σ H) (hq : ∀ i σ H, Pv i σ H → SqT K H a xs ∧ SqT K H b ys)
    (hs : ∀ (i : Nat) (x y : V) (T : Addr) (σ : L2.St) (H : Hp), xs[i]? = some x → ys[i]? = some y → Pv i σ H → H T = none → g (.ref T) σ (upd H T (.tup [x, y])) fun σ2 H2 => tb { D with nx := Pv (i + 1), ct := Pv (i + 1), bk := D.nx } σ2 H2) (hd : ∀ σ H, Pv ys.length σ H → D.nx σ H) :
    ∃ W : Nat → Nat → L2.St → Hp → Prop, (∃ m, W 0 m σ H) ∧ ∀ i m σ H, W i m σ H →
      ((RZ.ItzT K a b).stop i H ∧ D.nx σ H) ∨ ((RZ.ItzT K a b).go i H ∧ ∃ N : L2.St → Hp → Prop, (∀ σ' H', N σ' H' → ∃ m', m' < m ∧ W (i + 1) m' σ' H') ∧ ∀ v H', (RZ.ItzT K a b).yld i H v H' → g v σ H' fun σ2 H2 => tb { D with nx := N, ct := N, bk := D.nx } σ2 H2) := by
  refine ⟨fun i m σ H => m = ys.length - i ∧ i ≤ ys.length ∧ Pv i σ H, ⟨ys.length, rfl, Nat.zero_le _, h0⟩, ?_⟩
  rintro i m σ H ⟨rfl, hi, p⟩
  obtain ⟨qx, qy⟩ := hq i σ H p
  by_cases hlt : i < ys.length
  · have hlt2 : i < xs.length := by omega
    have hx : xs[i]? = some xs[i] := List.getElem?_eq_getElem hlt2
    have hy : ys[i]? = some ys[i] := List.getElem?_eq_getElem hlt
    refine .inr ⟨⟨xs, ys, _, _, qx, qy, hx, hy⟩, Pv (i + 1), fun σ' H' p' => ⟨ys.length - (i + 1), by omega, rfl, hlt, p'⟩, fun v H' y => ?_⟩
    obtain ⟨T, x', y', rfl, hT, rfl, f1, f2⟩ := y
    exact hs i x' y' T σ H (f1 xs qx) (f2 ys qy) p hT
  · have e : i = ys.length := by omega
    subst e
    exact .inl ⟨⟨xs, ys, qx, qy, Or.inr (Nat.le_refl _)⟩, hd σ H p⟩
section
variable {P : Program} {w : World} {K : PySem.W.Frag} {mg : Str → Option Value} {base : Heap}
theorem pow_bits {b B i : Nat} (h : b < 2 ^ B) : b ^ i < 2 ^ (B * i + 1) := by
  have h1 : b ^ i ≤ (2 ^ B) ^ i := Nat.pow_le_pow_left (Nat.le_of_lt h) i
  rw [← Nat.pow_mul] at h1
  exact Nat.lt_of_le_of_lt h1 (Nat.pow_lt_pow_right (by decide) (Nat.lt_succ_self _))
theorem mul_ok {b B i n : Nat} (h : b < 2 ^ B) (h0 : 1 ≤ B) (hi : i ≤ n) (hB : B * (n + 1) ≤ 900000) : CMulW ((b ^ i : Nat) : Int) (b : Nat) := by
  refine wide_mul (a := B * i + 1) (b := B) ?_ ?_ (by omega) (by omega) ?_
  · rw [Int.natAbs_natCast]; exact pow_bits h
  · rw [Int.natAbs_natCast]; exact h
  · have : B * i ≤ B * n := Nat.mul_le_mul_left _ hi
    rw [Nat.mul_add] at hB
    omega
def spPower : Sp := fun vs H Q _ => ∃ b n B : Nat, vs = [.int (b : Nat), .int (n : Nat)] ∧ b < 2 ^ B ∧ 1 ≤ B ∧ B * (n + 1) ≤ 900000 ∧ n ≤ 900000 ∧ Q (.int ((b ^ n : Nat) : Int)) H
theorem ok_power {f : Addr} {fd : FuncData} {k : Nat} (F : Fun K "power" "power" sPower f fd) (mr : mg "range" = none) : FnOk P w K mg base CX0 (k + 1) f fd ["base", "times"] spPower := by
  refine F.ok scPower (fun vs H Q E h => ?_) (fun cdv A outer s H vs Q E hr h => ?_)
  · obtain ⟨b, n, B, rfl, _⟩ := h
    rfl
  · obtain ⟨b, n, B, rfl, hb, h1, hB, hn, q⟩ := h
    refine ⟨_, pss_cons (ps_set (i := 2) scPower.nd rfl (.inl rfl) pe_int)
      (pss_cons (ps_for PassesOwn.never rfl (pi_range1 (by rfl) mr (pa_cons (pv 1) pa_nil)) (pg_name (i := 3) scPower.nd rfl (.inl rfl))
        (pss_one (ps_aug (i := 2) scPower.nd rfl (.inl rfl) (pv 0) ip_mulW)))
      (pss_one (ps_ret (pv 2)))), ?_⟩
    refine ⟨.int n, rfl, n, rfl, by omega, by omega, ?_⟩
    refine for_range (lo := 0) (n := ((n : Nat) : Int).toNat) (fun i σ H2 => ∃ y3, σ = [some (.int b), some (.int n), some (.int ((b ^ i : Nat) : Int)), y3] ∧ H2 = H) ⟨none, rfl, rfl⟩ ?_ ?_
    · rintro i σ H2 hi ⟨y3, rfl, rfl⟩
      refine ⟨_, rfl, .int b, rfl, _, _, rfl, rfl, mul_ok hb h1 (show i ≤ n by omega) hB, some (.int (0 + i)), ?_, rfl⟩
      show [some (V.int b), some (V.int n), some (V.int (((b ^ i : Nat) : Int) * (b : Nat))), _] = _
      rw [← Int.natCast_mul, ← Nat.pow_succ]
    · rintro σ H2 ⟨y3, rfl, rfl⟩
      exact ⟨_, rfl, q⟩
def spCount (K : PySem.W.Frag) : Sp := fun vs H Q _ => ∃ (t : Addr) (r : List Nat) (s c n : Nat), vs = [.ref t, .int (n : Nat)] ∧ SqT K H t (vN (1 :: r)) ∧ Gd r s c ∧ s ≤ 2000 ∧ s * n ≤ 2000 ∧ r.length ≤ 1000 ∧ ∀ H', Same H H' → Q (.int ((c ^ n : Nat) : Int)) H'
theorem ok_count {f fP : Addr} {fd fdP : FuncData} {k : Nat} (F : Fun K "count_states" "count_states" sCount f fd) (FP : Fun K "power" "power" sPower fP fdP) (bP : Binds K fdP ["base", "times"] []) (gP : mg "power" = some (.ref fP)) (mr : mg "range" = none) (mz : mg "zip" = none) :
    FnOk P w K mg base CX0 (k + 1 + 1) f fd ["chain", "pages"] (spCount K) := by
  have GP : FnOk P w K mg base CX0 (k + 1) fP fdP ["base", "times"] spPower := ok_power FP mr
  refine F.ok scCount (fun vs H Q E h => ?_) (fun cdv A outer s H vs Q E hr h => ?_)
  · obtain ⟨t, r, s', c, n, rfl, _⟩ := h
    rfl
  · obtain ⟨t, r, sz, c, n, rfl, hT, hg, hs1, hs2, hrl, q⟩ := h
    refine ⟨_, pss_cons (ps_if (pt_cmpR op_eq (pv 1) pe_int (nomark _)) (pss_one (ps_ret pe_int)) pss_nil)
      (pss_cons (ps_set (i := 2) scCount.nd rfl (.inl rfl) pe_int)
      (pss_cons (ps_for PassesOwn.never rfl (RZ.pi_zipA (by rfl) mz (pa_cons (pv 0) (pa_cons (pe_slice sl_tup (pv 0) (po_some pe_int) po_none) pa_nil)))
          (pg_tup rfl (pgs_cons (pg_name (i := 3) scCount.nd rfl (.inl rfl)) (pgs_cons (pg_name (i := 4) scCount.nd rfl (.inl rfl)) pgs_nil)))
        (pss_one (ps_set (i := 2) scCount.nd rfl (.inl rfl) (pe_op op_add (pe_call GP hr (by rfl) gP FP.kp bP .nil pass0 (pa_cons (pv 2) (pa_cons (pe_op op_fdiv (pv 4) (pv 3)) pa_nil))) pe_int))))
      (pss_one (ps_ret (pe_call GP hr (by rfl) gP FP.kp bP .nil pass0 (pa_cons (pv 2) (pa_cons (pv 1) pa_nil))))))), ?_⟩
    refine ⟨.int n, rfl, rfl, _, rfl, ite2 (fun e => ?_) (fun e => ?_)⟩
    · have e0 : (n : Int) = 0 := V.int.inj (of_decide_eq_true e)
      have e1 : n = 0 := by omega
      subst e1
      have := q H (Same.refl H)
      rw [Nat.pow_zero] at this
      exact this
    · refine ⟨.ref t, rfl, .ref t, rfl, 1, rfl, t, _, rfl, hT, notwhole1 (by unfold vN; simp), fun d nd => ?_⟩
      have sd : Same H (upd H d (.tup (cutV (vN (1 :: r)) (some 1) none))) := same_upd nd
      have hD : SqT K (upd H d (.tup (cutV (vN (1 :: r)) (some 1) none))) d (vN r) := by
        refine .inl (.inl ?_)
        rw [upd_same, cutT1]
        rfl
      refine ⟨t, d, _, _, rfl, .inr ⟨sd.tup hT, hD, ?_⟩⟩
      refine for_zipS (xs := vN (1 :: r)) (ys := vN r) (by rw [vN_len, vN_len, List.length_cons]; omega)
        (fun i σ H2 => ∃ y3 y4 s' c', σ = [some (.ref t), some (.int n), some (.int ((c' : Nat) : Int)), y3, y4] ∧ Same (upd H d (.tup (cutV (vN (1 :: r)) (some 1) none))) H2 ∧ i ≤ r.length ∧ Gd (r.take i) s' c' ∧ (1 :: r)[i]? = some s')
        ⟨none, none, 1, 2, rfl, Same.refl _, Nat.zero_le _, .nil, rfl⟩ (fun i σ H2 h2 => ?_) ?_ ?_
      · obtain ⟨y3, y4, s', c', rfl, sm, _⟩ := h2
        exact ⟨sm.tup (sd.tup hT), sm.tup hD⟩
      · rintro i x y T σ H2 hx hy ⟨y3, y4, s', c', rfl, sm, hi, g, e1⟩ nT
        have hi2 : i < r.length := by
          have := (List.getElem?_eq_some_iff.mp hy).1
          rwa [vN_len] at this
        obtain ⟨s2, c2, qq, g1, e2, hq2, hle, g2⟩ := hg.cut i hi2
        obtain ⟨e3, e4⟩ := g.fun g1
        subst e3; subst e4
        have ex : x = .int (s' : Nat) := Option.some.inj (hx.symm.trans (vN_get e1))
        have ey : y = .int ((s' * qq : Nat) : Int) := Option.some.inj (hy.symm.trans (vN_get e2))
        subst ex; subst ey
        have f := g.facts
        have hqle : qq ≤ s' * qq := Nat.le_mul_of_pos_left _ (by omega)
        have hsle : s' ≤ s' * qq := Nat.le_mul_of_pos_right _ (by omega)
        have hdv : ((s' * qq : Nat) : Int) / ((s' : Nat) : Int) = ((qq : Nat) : Int) := by
          rw [← Int.natCast_ediv, Nat.mul_div_cancel_left _ (by omega)]
        refine ⟨T, _, rfl, .inl (.inl upd_same), rfl, _, _, rfl, _, _, rfl, rfl, ?_⟩
        refine ⟨.int (c' : Nat), rfl, .int ((s' * qq : Nat) : Int), rfl, .int (s' : Nat), rfl, _, _, rfl, rfl, ⟨by omega, by omega⟩, c', qq, 2 * s', ?_, g.bits, by omega, ?_, by omega, ?_⟩
        · show [V.int (c' : Nat), V.int (((s' * qq : Nat) : Int) / ((s' : Nat) : Int))] = _
          rw [hdv]
        · have : 2 * s' * (qq + 1) = 2 * (s' * qq) + 2 * s' := by rw [Nat.mul_add, Nat.mul_one, Nat.mul_assoc]
          have : s' ≤ s' * qq := Nat.le_mul_of_pos_right _ (by omega)
          omega
        · refine ⟨_, _, rfl, rfl, _, _, s' * qq, c' ^ qq + 1, rfl, sm.trans (same_upd nT), by omega, g2, ?_⟩
          rw [List.getElem?_cons_succ]
          exact e2
      · rintro σ H2 ⟨y3, y4, s', c', rfl, sm, hi, g, e1⟩
        rw [vN_len, List.take_length] at g
        obtain ⟨e3, e4⟩ := g.fun hg
        subst e3; subst e4
        refine ⟨.int (c' : Nat), rfl, .int n, rfl, c', n, 2 * s', rfl, g.bits, ?_, ?_, ?_, q _ (sd.trans sm)⟩
        · have := g.facts; omega
        · have : 2 * s' * (n + 1) = 2 * (s' * n) + 2 * s' := by rw [Nat.mul_add, Nat.mul_one, Nat.mul_assoc]
          omega
        · have := Nat.le_mul_of_pos_left n (show 0 < s' by have := g.facts; omega)
          omega
theorem ok_counted {f : Addr} {fd : FuncData} {k : Nat} (F : Fun K "_law_counted" "_law_counted" sCounted f fd) (mr : mg "range" = none) (mz : mg "zip" = none) :
    FnOk P w K mg base CX0 (k + 1) f fd ["_law_links_here", "_law_many"] (spCount K) := by
  refine F.ok scCounted (fun vs H Q E h => ?_) (fun cdv A outer s H vs Q E hr h => ?_)
  · obtain ⟨t, r, s', c, n, rfl, _⟩ := h
    rfl
  · obtain ⟨t, r, sz, c, n, rfl, hT, hg, hs1, hs2, hrl, q⟩ := h
    refine ⟨_, pss_cons (ps_set (i := 2) scCounted.nd rfl (.inl rfl) pe_int)
      (pss_cons (ps_for PassesOwn.never rfl (RZ.pi_zipA (by rfl) mz (pa_cons (pv 0) (pa_cons (pe_slice sl_tup (pv 0) (po_some pe_int) po_none) pa_nil)))
          (pg_tup rfl (pgs_cons (pg_name (i := 3) scCounted.nd rfl (.inl rfl)) (pgs_cons (pg_name (i := 4) scCounted.nd rfl (.inl rfl)) pgs_nil)))
        (pss_cons (ps_set (i := 5) scCounted.nd rfl (.inl rfl) pe_int)
        (pss_cons (ps_for PassesOwn.never rfl (pi_range1 (by rfl) mr (pa_cons (pe_op op_fdiv (pv 4) (pv 3)) pa_nil)) (pg_name (i := 6) scCounted.nd rfl (.inl rfl))
          (pss_one (ps_set (i := 5) scCounted.nd rfl (.inl rfl) (pe_op op_mulW (pv 5) (pv 2)))))
        (pss_one (ps_set (i := 2) scCounted.nd rfl (.inl rfl) (pe_op op_add (pv 5) pe_int))))))
      (pss_cons (ps_set (i := 7) scCounted.nd rfl (.inl rfl) pe_int)
      (pss_cons (ps_for PassesOwn.never rfl (pi_range1 (by rfl) mr (pa_cons (pv 1) pa_nil)) (pg_name (i := 6) scCounted.nd rfl (.inl rfl))
          (pss_one (ps_set (i := 7) scCounted.nd rfl (.inl rfl) (pe_op op_mulW (pv 7) (pv 2)))))
      (pss_one (ps_ret (pv 7)))))), ?_⟩
    refine ⟨.ref t, rfl, .ref t, rfl, 1, rfl, t, _, rfl, hT, notwhole1 (by unfold vN; simp), fun d nd => ?_⟩
    have sd : Same H (upd H d (.tup (cutV (vN (1 :: r)) (some 1) none))) := same_upd nd
    have hD : SqT K (upd H d (.tup (cutV (vN (1 :: r)) (some 1) none))) d (vN r) := by
      refine .inl (.inl ?_)
      rw [upd_same, cutT1]
      rfl
    refine ⟨t, d, _, _, rfl, .inr ⟨sd.tup hT, hD, ?_⟩⟩
    refine for_zipS (xs := vN (1 :: r)) (ys := vN r) (by rw [vN_len, vN_len, List.length_cons]; omega)
      (fun i σ H2 => ∃ y3 y4 y5 y6 y7 s' c', σ = [some (.ref t), some (.int n), some (.int ((c' : Nat) : Int)), y3, y4, y5, y6, y7] ∧ Same (upd H d (.tup (cutV (vN (1 :: r)) (some 1) none))) H2 ∧ i ≤ r.length ∧ Gd (r.take i) s' c' ∧ (1 :: r)[i]? = some s')
      ⟨none, none, none, none, none, 1, 2, rfl, Same.refl _, Nat.zero_le _, .nil, rfl⟩ (fun i σ H2 h2 => ?_) ?_ ?_
    · obtain ⟨y3, y4, y5, y6, y7, s', c', rfl, sm, _⟩ := h2
      exact ⟨sm.tup (sd.tup hT), sm.tup hD⟩
    · rintro i x y T σ H2 hx hy ⟨y3, y4, y5, y6, y7, s', c', rfl, sm, hi, g, e1⟩ nT
      have hi2 : i < r.length := by
        have := (List.getElem?_eq_some_iff.mp hy).1
        rwa [vN_len] at this
      obtain ⟨s2, c2, qq, g1, e2, hq2, hle, g2⟩ := hg.cut i hi2
      obtain ⟨e3, e4⟩ := g.fun g1
      subst e3; subst e4
      have ex : x = .int (s' : Nat) := Option.some.inj (hx.symm.trans (vN_get e1))
      have ey : y = .int ((s' * qq : Nat) : Int) := Option.some.inj (hy.symm.trans (vN_get e2))
      subst ex; subst ey
      have f := g.facts
      have hqle : qq ≤ s' * qq := Nat.le_mul_of_pos_left _ (by omega)
      have hsle : s' ≤ s' * qq := Nat.le_mul_of_pos_right _ (by omega)
      have hdv : ((s' * qq : Nat) : Int) / ((s' : Nat) : Int) = ((qq : Nat) : Int) := by
        rw [← Int.natCast_ediv, Nat.mul_div_cancel_left _ (by omega)]
      have hB : 2 * s' * (qq + 1) ≤ 900000 := by
        have : 2 * s' * (qq + 1) = 2 * (s' * qq) + 2 * s' := by rw [Nat.mul_add, Nat.mul_one, Nat.mul_assoc]
        omega
      refine ⟨T, _, rfl, .inl (.inl upd_same), rfl, _, _, rfl, _, _, rfl, rfl, ?_⟩
      refine ⟨.int ((s' * qq : Nat) : Int), rfl, .int (s' : Nat), rfl, _, _, rfl, rfl, ⟨by omega, by omega⟩, qq, ?_, by omega, by omega, ?_⟩
      · show [V.int (((s' * qq : Nat) : Int) / ((s' : Nat) : Int))] = _
        rw [hdv]
      · refine for_range (lo := 0) (n := ((qq : Nat) : Int).toNat) (fun j σ H3 => ∃ y6, σ = [some (.ref t), some (.int n), some (.int ((c' : Nat) : Int)), some (.int (s' : Nat)), some (.int ((s' * qq : Nat) : Int)), some (.int ((c' ^ j : Nat) : Int)), y6, y7] ∧ H3 = upd H2 T (.tup [.int (s' : Nat), .int ((s' * qq : Nat) : Int)])) ⟨_, rfl, rfl⟩ ?_ ?_
        · rintro j σ H3 hj ⟨z6, rfl, rfl⟩
          refine ⟨_, rfl, _, rfl, _, _, rfl, rfl, mul_ok g.bits (by omega) (show j ≤ qq by omega) hB, some (.int (0 + j)), ?_, rfl⟩
          show [_, _, _, _, _, some (V.int (((c' ^ j : Nat) : Int) * (c' : Nat))), _, _] = _
          rw [← Int.natCast_mul, ← Nat.pow_succ]
        · rintro σ H3 ⟨z6, rfl, rfl⟩
          refine ⟨_, rfl, _, _, rfl, rfl, _, _, _, _, _, s' * qq, c' ^ qq + 1, rfl, sm.trans (same_upd nT), by omega, g2, ?_⟩
          rw [List.getElem?_cons_succ]
          exact e2
    · rintro σ H2 ⟨y3, y4, y5, y6, y7, s', c', rfl, sm, hi, g, e1⟩
      rw [vN_len, List.take_length] at g
      obtain ⟨e3, e4⟩ := g.fun hg
      subst e3; subst e4
      have hf := g.facts
      have hn : n ≤ 2000 := by
        have := Nat.le_mul_of_pos_left n (show 0 < s' by omega)
        omega
      refine ⟨.int n, rfl, n, rfl, by omega, by omega, ?_⟩
      refine for_range (lo := 0) (n := ((n : Nat) : Int).toNat) (fun j σ H3 => ∃ y6, σ = [some (.ref t), some (.int n), some (.int ((c' : Nat) : Int)), y3, y4, y5, y6, some (.int ((c' ^ j : Nat) : Int))] ∧ H3 = H2) ⟨_, rfl, rfl⟩ ?_ ?_
      · rintro j σ H3 hj ⟨z6, rfl, rfl⟩
        refine ⟨_, rfl, _, rfl, _, _, rfl, rfl, mul_ok g.bits (by omega) (show j ≤ n by omega) ?_, some (.int (0 + j)), ?_, rfl⟩
        · have : 2 * s' * (n + 1) = 2 * (s' * n) + 2 * s' := by rw [Nat.mul_add, Nat.mul_one, Nat.mul_assoc]
          omega
        · show [_, _, _, _, _, _, _, some (V.int (((c' ^ j : Nat) : Int) * (c' : Nat)))] = _
          rw [← Int.natCast_mul, ← Nat.pow_succ]
      · rintro σ H3 ⟨z6, rfl, rfl⟩
        exact ⟨_, rfl, q _ (sd.trans sm)⟩
end
end Ph

namespace Ph
open PySem PySem.Spec PyProof.Rows L2
abbrev sLaw : Stmt := topS 9
theorem scLaw : FnScope ["_law_script", "_law_k", "_law_pot_here", "_law_turn", "_law_links_here", "_law_many", "_law_found", "_law_ratio", "_law_longer_links", "_law_fewer"] ["_law_script"] (defScope sLaw) := ⟨rfl, rfl, rfl, by decide +kernel, rfl, by decide +kernel, by decide +kernel⟩
theorem same_but {p : Addr} {H H1 H2 : Hp} (a : Same H H1) (n : H p = none) (b : But p H1 H2) : Same H H2 := fun c o h => b c o (ne_of_none h n) (a c o h)
theorem vN_ints (l : List Nat) : (l.map Int.ofNat).map V.int = vN l := by
  unfold vN
  rw [List.map_map]
  rfl
theorem Gd.text {r : List Nat} {s c n : Nat} (h : Gd r s c) (hn : s * n ≤ 2000) : ((c ^ n : Nat) : Int).natAbs < 10 ^ 4300 := by
  rw [Int.natAbs_natCast]
  have h1 : c ^ n ≤ (3 ^ s) ^ n := Nat.pow_le_pow_left (by have := h.facts; omega) n
  rw [← Nat.pow_mul] at h1
  have h2 : 3 ^ (s * n) ≤ 10 ^ (s * n) := Nat.pow_le_pow_left (by decide) _
  have h3 : 10 ^ (s * n) < 10 ^ 4300 := Nat.pow_lt_pow_right (by decide) (by omega)
  exact Nat.lt_of_le_of_lt h1 (Nat.lt_of_le_of_lt h2 h3)
theorem cut_to {xs : List V} {j : Nat} (h : j ≤ xs.length) : cutV xs none (some (j : Int)) = xs.take j := by
  unfold cutV
  rw [show HT.sIx xs.length xs.length (some (j : Int)) = min j xs.length from HT.sIx_nat xs.length xs.length j, HT.sIx_none, Nat.min_eq_left h]
  rfl
theorem cut_from {xs : List V} {j : Nat} (h : j ≤ xs.length) : cutV xs (some (j : Int)) none = xs.drop j := by
  unfold cutV
  rw [show HT.sIx xs.length 0 (some (j : Int)) = min j xs.length from HT.sIx_nat xs.length 0 j, HT.sIx_none, Nat.min_eq_left h]
  exact List.take_of_length_le (by rw [List.length_drop]; exact Nat.le_refl _)
theorem not_to {xs : List V} {j : Nat} (h : j < xs.length) : ¬ (HT.sIx xs.length 0 none = 0 ∧ HT.sIx xs.length xs.length (some (j : Int)) = xs.length) := by
  rw [show HT.sIx xs.length xs.length (some (j : Int)) = min j xs.length from HT.sIx_nat xs.length xs.length j]
  omega
theorem not_from {xs : List V} {j : Nat} (h0 : 0 < j) (h : j ≤ xs.length) : ¬ (HT.sIx xs.length 0 (some (j : Int)) = 0 ∧ HT.sIx xs.length xs.length none = xs.length) := by
  rw [show HT.sIx xs.length 0 (some (j : Int)) = min j xs.length from HT.sIx_nat xs.length 0 j]
  omega
theorem Gd.len {r : List Nat} {s c : Nat} (h : Gd r s c) : r.length < s := by
  induction h with
  | nil => decide
  | @snoc r s c q h hq ih =>
    rw [List.length_append, List.length_singleton]
    have : s * 2 ≤ s * q := Nat.mul_le_mul_left _ hq
    omega
section
variable {P : Program} {w : World} {K : PySem.W.Frag} {mg : Str → Option Value} {base : Heap}
structure Nms (K : PySem.W.Frag) (mg : Str → Option Value) : Prop where
  len : mg "len" = none
  abs : mg "abs" = none
  int : mg "int" = none
  range : mg "range" = none
  tuple : mg "tuple" = none
  zip : mg "zip" = none
  max : mg "max" = none
  min : mg "min" = none
  repr : mg "repr" = none
  dig : PySem.W.nsIn K cStatics "sys.int_max_str_digits" = some none
def spLaw (K : PySem.W.Frag) : Sp := fun vs H Q _ => ∃ (a : Addr) (ns : List Int), vs = [.ref a] ∧ SqL K H a (ns.map V.int) ∧ ns.length ≤ 63 ∧ ∀ H', Q (.bl true) H'
theorem ok_law {f fS fW fP fT fO fL fC : Addr} {fd fdS fdW fdP fdT fdO fdL fdC : FuncData} (F : Fun K "law" "law" sLaw f fd) (N : Nms K mg)
    (FS : Fun K "count_states" "count_states" sCount fS fdS) (bS : Binds K fdS ["chain", "pages"] []) (gS : mg "count_states" = some (.ref fS))
    (FW : Fun K "power" "power" sPower fW fdW) (bW : Binds K fdW ["base", "times"] []) (gW : mg "power" = some (.ref fW))
    (FP : Fun K "_law_pot" "_law_pot" sPot fP fdP) (bP : Binds K fdP ["_law_script", "_law_k"] []) (gP : mg "_law_pot" = some (.ref fP))
    (FT : Fun K "_law_take" "_law_take" sTake fT fdT) (bT : Binds K fdT ["_law_pot_here", "_law_upto"] []) (gT : mg "_law_take" = some (.ref fT))
    (FO : Fun K "_law_of" "_law_of" sOf fO fdO) (bO : Binds K fdO ["_law_pot_here", "_law_some"] []) (gO : mg "_law_of" = some (.ref fO))
    (FL : Fun K "_law_links" "_law_links" sLinks fL fdL) (bL : Binds K fdL ["_law_pot_here", "_law_most"] []) (gL : mg "_law_links" = some (.ref fL))
    (FC : Fun K "_law_counted" "_law_counted" sCounted fC fdC) (bC : Binds K fdC ["_law_links_here", "_law_many"] []) (gC : mg "_law_counted" = some (.ref fC)) :
    FnOk P w K mg base CX0 4 f fd ["_law_script"] (spLaw K) := by
  have GS : FnOk P w K mg base CX0 2 fS fdS ["chain", "pages"] (spCount K) := ok_count FS FW bW gW N.range N.zip
  have GP : FnOk P w K mg base CX0 1 fP fdP ["_law_script", "_law_k"] (spPot K) := ok_pot FP N.len N.abs N.int N.dig
  have GT : FnOk P w K mg base CX0 1 fT fdT ["_law_pot_here", "_law_upto"] spTake := ok_take FT
  have GL : FnOk P w K mg base CX0 3 fL fdL ["_law_pot_here", "_law_most"] spLinks := ok_links FL FT bT gT FO bO gO N.len N.range N.tuple
  have GC : FnOk P w K mg base CX0 1 fC fdC ["_law_links_here", "_law_many"] (spCount K) := ok_counted FC N.range N.zip
  refine F.ok scLaw (fun vs H Q E h => ?_) (fun cdv A outer s H vs Q E hr h => ?_)
  · obtain ⟨a, ns, rfl, _⟩ := h
    rfl
  · obtain ⟨a, ns, rfl, hS, hlen, q⟩ := h
    have hr1 : Room 1 (A.deeper (envOfC "law" (defScope sLaw) s.heap.objs.size f cdv)) := hr.mono (by decide)
    have hr2 : Room 2 (A.deeper (envOfC "law" (defScope sLaw) s.heap.objs.size f cdv)) := hr.mono (by decide)
    refine ⟨_, (pss_cons (ps_for PassesOwn.never rfl (pi_range1 (by rfl) N.range (pa_cons (pe_callB (call_max2 rfl) (by rfl) N.max (by decide +kernel) (pa_cons pe_int (pa_cons (pe_callB (call_min2 rfl) (by rfl) N.min (by decide +kernel) (pa_cons pe_int (pa_cons (pe_callB call_len_seq (by rfl) N.len (by decide +kernel) (pa_cons (pv 0) pa_nil)) pa_nil))) pa_nil))) pa_nil)) (pg_name (i := 1) scLaw.nd rfl (.inl rfl))
       (pss_cons (ps_set (i := 2) scLaw.nd rfl (.inl rfl) (pe_call GP hr1 (by rfl) gP FP.kp bP .nil pass0 (pa_cons (pv 0) (pa_cons (pv 1) pa_nil))))
       (pss_one (ps_for PassesOwn.never rfl (pi_range1 (by rfl) N.range (pa_cons pe_int pa_nil)) (pg_name (i := 3) scLaw.nd rfl (.inl rfl))
       (pss_cons (ps_set (i := 4) scLaw.nd rfl (.inl rfl) (pe_call GL hr (by rfl) gL FL.kp bL .nil pass0 (pa_cons (pv 2) (pa_cons pe_int pa_nil))))
       (pss_cons (ps_set (i := 5) scLaw.nd rfl (.inl rfl) (pe_call GT hr1 (by rfl) gT FT.kp bT .nil pass0 (pa_cons (pv 2) (pa_cons (pe_callB (call_min2 rfl) (by rfl) N.min (by decide +kernel) (pa_cons pe_int (pa_cons (pe_op op_fdiv pe_int (pe_ix ix_tup (pv 4) (pe_un un_neg pe_int) (fun _ _ => rfl))) pa_nil))) pa_nil))))
       (pss_cons (ps_set (i := 6) scLaw.nd rfl (.inl rfl) (pe_call GS hr2 (by rfl) gS FS.kp bS .nil pass0 (pa_cons (pv 4) (pa_cons (pv 5) pa_nil))))
       (pss_cons (ps_if (PW.pt (pw_or (pt_cmpR op_ne (pe_callB (call_reprW N.dig) (by rfl) N.repr (by decide +kernel) (pa_cons (pv 6) pa_nil)) (pe_callB (call_reprW N.dig) (by rfl) N.repr (by decide +kernel) (pa_cons (pe_call GC hr1 (by rfl) gC FC.kp bC .nil pass0 (pa_cons (pv 4) (pa_cons (pv 5) pa_nil))) pa_nil)) (nomark _)) (pw_or1 (pt_cmpR op_ne (pe_call GS hr2 (by rfl) gS FS.kp bS .nil pass0 (pa_cons (pv 4) (pa_cons pe_int pa_nil))) pe_int (nomark _)))))
       (pss_one (ps_ret pe_bl)) pss_nil)
       (pss_cons (ps_if (pt_cmpR op_ne (pe_call GS hr2 (by rfl) gS FS.kp bS .nil pass0 (pa_cons (pv 4) (pa_cons (pe_op op_add (pv 5) pe_int) pa_nil))) (pe_op op_mulW (pv 6) (pe_call GS hr2 (by rfl) gS FS.kp bS .nil pass0 (pa_cons (pv 4) (pa_cons pe_int pa_nil)))) (nomark _))
       (pss_one (ps_ret pe_bl)) pss_nil)
       (pss_cons (ps_set (i := 7) scLaw.nd rfl (.inl rfl) (pe_op op_add pe_int (pe_call GT hr1 (by rfl) gT FT.kp bT .nil pass0 (pa_cons (pv 2) (pa_cons pe_int pa_nil)))))
       (pss_cons (ps_set (i := 8) scLaw.nd rfl (.inl rfl) (pe_op op_catT (pv 4) (pe_tup (pa_cons (pe_op op_mul (pe_ix ix_tup (pv 4) (pe_un un_neg pe_int) (fun _ _ => rfl)) (pv 7)) pa_nil))))
       (pss_cons (ps_if (pt_cmpR op_ne (pe_call GS hr2 (by rfl) gS FS.kp bS .nil pass0 (pa_cons (pv 8) (pa_cons pe_int pa_nil))) (pe_op op_add (pe_call GS hr2 (by rfl) gS FS.kp bS .nil pass0 (pa_cons (pv 4) (pa_cons (pv 7) pa_nil))) pe_int) (nomark _))
       (pss_one (ps_ret pe_bl)) pss_nil)
       (pss_one (ps_if (pt_cmpR op_gt (pe_callB call_len_seq (by rfl) N.len (by decide +kernel) (pa_cons (pv 4) pa_nil)) pe_int (nomark _))
       (pss_cons (ps_set (i := 9) scLaw.nd rfl (.inl rfl) (pe_op op_catT (pe_slice sl_tup (pv 4) po_none (po_some pe_int)) (pe_slice sl_tup (pv 4) (po_some pe_int) po_none)))
       (pss_one (ps_if (pt_cmpR op_gt (pe_call GS hr2 (by rfl) gS FS.kp bS .nil pass0 (pa_cons (pv 9) (pa_cons (pv 5) pa_nil))) (pv 6) (nomark _))
       (pss_one (ps_ret pe_bl)) pss_nil))) pss_nil))))))))))))))
       (pss_one (ps_ret pe_bl))), ?_⟩
    refine ⟨.ref a, rfl, a, _, rfl, .inl hS, _, _, rfl, _, _, rfl, ?_⟩
    generalize hz : (if (if (((ns.map V.int).length : Nat) : Int) < 3 then (((ns.map V.int).length : Nat) : Int) else 3) > 1 then (if (((ns.map V.int).length : Nat) : Int) < 3 then (((ns.map V.int).length : Nat) : Int) else 3) else 1) = z
    have hz0 : 1 ≤ z ∧ z ≤ 3 := by
      rw [← hz]
      split <;> (try split) <;> omega
    refine ⟨z, rfl, by omega, by omega, ?_⟩
    refine for_range (lo := 0) (n := z.toNat) (fun i σ H2 => ∃ y1 y2 y3 y4 y5 y6 y7 y8 y9, σ = [some (.ref a), y1, y2, y3, y4, y5, y6, y7, y8, y9] ∧ Same H H2) ⟨none, none, none, none, none, none, none, none, none, rfl, Same.refl _⟩ ?_ ?_
    · rintro i σ H2 hi ⟨y1, y2, y3, y4, y5, y6, y7, y8, y9, rfl, sm⟩
      refine ⟨.ref a, rfl, .int (0 + i), rfl, a, ns, i, ?_, sm.seq hS, by omega, fun H3 p s3 np hp => ?_⟩
      · rw [Int.zero_add]
        rfl
      have npH : H p = none := sm.free np
      refine ⟨4, rfl, by decide, by decide, ?_⟩
      refine for_range (lo := 0) (n := (4 : Int).toNat) (fun j σ H4 => ∃ y3 y4 y5 y6 y7 y8 y9, σ = [some (.ref a), some (.int (0 + i)), some (.ref p), y3, y4, y5, y6, y7, y8, y9] ∧ Same H H4 ∧ Pot H4 p) ⟨_, _, _, _, _, _, _, rfl, sm.trans s3, hp⟩ ?_ ?_
      · clear y3 y4 y5 y6 y7 y8 y9
        rintro j σ H4 hj ⟨y3, y4, y5, y6, y7, y8, y9, rfl, s4, hp4⟩
        refine ⟨.ref p, rfl, p, 200, rfl, hp4, by decide, by decide, fun H5 t cs x b5 hp5 nt ht hk hl => ?_⟩
        obtain ⟨r, sz, c, ecs, ex, g, er⟩ := lnk_gd hk
        subst ex
        have ht5 : H5 t = some (.tup (vN (1 :: r))) := by rw [ht, ecs, vN_ints]
        have s5 : Same H H5 := same_but s4 npH b5
        have hsz : sz ≤ 200 := by have := hk.le (by decide); omega
        have f := g.facts
        have hrl := g.len
        have tp : t ≠ p := (hp4.ne_none nt).symm
        have T5 : SqT K H5 t (vN (1 :: r)) := .inl (.inl ht5)
        have gl : atI (vN (1 :: r)) (-1) = some (.int (sz : Nat)) := by
          obtain ⟨l, e⟩ := g.last
          rw [e]
          unfold vN
          rw [List.map_append]
          exact atI_last _ _
        have hD1 : (10 : Int) ≤ 2000 / ((sz : Nat) : Int) := by
          rw [Int.le_ediv_iff_mul_le (by omega)]
          omega
        have hD2 : 2000 / ((sz : Nat) : Int) * ((sz : Nat) : Int) ≤ 2000 := Int.ediv_mul_le _ (by omega)
        have hD3 : 2000 / ((sz : Nat) : Int) ≤ 2000 := Int.ediv_le_self _ (by decide)
        -- many
        refine ⟨.ref p, rfl, .ref t, rfl, 1, rfl, t, _, -1, _, rfl, rfl, T5, gl, 2000, (sz : Nat), rfl, rfl, ⟨by omega, by omega⟩, 80, _, rfl, p, _, rfl, hp5, ?_, ?_, fun H6 d b6 hp6 d0 d1 => ?_⟩
        · show (0 : Int) < if 2000 / ((sz : Nat) : Int) < 80 then 2000 / ((sz : Nat) : Int) else 80
          split <;> omega
        · show (if 2000 / ((sz : Nat) : Int) < 80 then 2000 / ((sz : Nat) : Int) else 80) < (4611686018427387904 : Int)
          split <;> omega
        obtain ⟨m, rfl⟩ : ∃ m : Nat, d = m := ⟨d.toNat, by omega⟩
        have hm1 : (m : Int) + 1 ≤ 2000 / ((sz : Nat) : Int) := by
          have d2 : (m : Int) < if 2000 / ((sz : Nat) : Int) < 80 then 2000 / ((sz : Nat) : Int) else 80 := d1
          split at d2 <;> omega
        have hm2 : sz * (m + 1) ≤ 2000 := by
          have h1 : ((m : Int) + 1) * ((sz : Nat) : Int) ≤ 2000 / ((sz : Nat) : Int) * ((sz : Nat) : Int) := Int.mul_le_mul_of_nonneg_right hm1 (by omega)
          have h2 : ((m + 1 : Nat) : Int) * ((sz : Nat) : Int) ≤ 2000 := by
            rw [Int.natCast_add]
            exact Int.le_trans h1 hD2
          rw [Nat.mul_comm]
          rw [← Int.natCast_mul] at h2
          omega
        have hm3 : sz * m ≤ 2000 := Nat.le_trans (Nat.mul_le_mul_left _ (Nat.le_succ m)) hm2
        have s6 : Same H H6 := same_but s5 npH b6
        have T6 : SqT K H6 t (vN (1 :: r)) := b6.tup tp T5
        -- found
        refine ⟨.ref t, rfl, .int m, rfl, t, r, sz, c, m, rfl, T6, g, by omega, hm3, by omega, fun H7 s7 => ?_⟩
        refine ⟨.int ((c ^ m : Nat) : Int), rfl, _, rfl, g.text hm3, .ref t, rfl, .int m, rfl, t, r, sz, c, m, rfl, s7.tup T6, g, by omega, hm3, by omega, fun H8 s8 => ?_⟩
        have s68 := s7.trans s8
        refine ⟨_, rfl, g.text hm3, rfl, _, rfl, iteNS rfl ?_⟩
        refine ⟨.ref t, rfl, t, r, sz, c, 0, rfl, s68.tup T6, g, by omega, by omega, by omega, fun H9 s9 => ⟨rfl, _, rfl, iteNS (by rw [Nat.pow_zero]; rfl) ?_⟩⟩
        have s69 := s68.trans s9
        refine ⟨.ref t, rfl, .int m, rfl, _, _, rfl, rfl, t, r, sz, c, m + 1, rfl, s69.tup T6, g, by omega, hm2, by omega, fun H10 s10 => ?_⟩
        have s610 := s69.trans s10
        refine ⟨.int ((c ^ m : Nat) : Int), rfl, .ref t, rfl, t, r, sz, c, 1, rfl, s610.tup T6, g, by omega, by omega, by omega, fun H11 s11 => ?_⟩
        have s611 := s610.trans s11
        refine ⟨_, _, rfl, rfl, ?_, rfl, _, rfl, iteNS ?_ ?_⟩
        · rw [Nat.pow_one]
          refine mul_ok g.bits (by omega) (Nat.le_refl m) ?_
          have : 2 * sz * (m + 1) = 2 * (sz * m) + 2 * sz := by rw [Nat.mul_add, Nat.mul_one, Nat.mul_assoc]
          omega
        · show V.int ((c ^ (m + 1) : Nat) : Int) = V.int (((c ^ m : Nat) : Int) * ((c ^ 1 : Nat) : Int))
          rw [← Int.natCast_mul, Nat.pow_one, Nat.pow_succ]
        -- ratio
        refine ⟨.ref p, rfl, p, 4, rfl, hp6.same s611, by decide, by decide, fun H12 e b12 hp12 e0 e1 => ⟨_, _, rfl, rfl, ?_⟩⟩
        obtain ⟨e, rfl⟩ : ∃ k : Nat, e = k := ⟨e.toNat, by omega⟩
        have s12 : Same H H12 := same_but (s6.trans s611) npH b12
        have T12 : SqT K H12 t (vN (1 :: r)) := b12.tup tp (s611.tup T6)
        have hqs : sz * (2 + e) ≤ 1000 := Nat.le_trans (Nat.mul_le_mul hsz (show 2 + e ≤ 5 by omega)) (by decide)
        refine ⟨.ref t, rfl, .ref t, rfl, 1, rfl, t, _, -1, _, rfl, rfl, T12, gl, .int (2 + (e : Nat)), rfl, _, _, rfl, rfl, .inl ⟨by omega, by omega⟩, by show 1 ≤ sizeLine; decide, fun u nu => ?_⟩
        have s13 := same_upd (o := .tup [.int (((sz : Nat) : Int) * (2 + (e : Nat)))]) nu
        refine ⟨t, u, vN (1 :: r), [.int (((sz : Nat) : Int) * (2 + (e : Nat)))], rfl, rfl, s13.tup T12, .inl (.inl upd_same), by unfold vN; simp, ?_, (fun z => by cases z), fun _ v nv => ?_⟩
        · rw [vN_len, List.length_cons, List.length_singleton]
          exact Nat.le_of_lt (small1000 (by omega))
        have s14 := s13.trans (same_upd (o := .tup (vN (1 :: r) ++ [.int (((sz : Nat) : Int) * (2 + (e : Nat)))])) nv)
        have ev : vN (1 :: r) ++ [.int (((sz : Nat) : Int) * (2 + (e : Nat)))] = vN (1 :: (r ++ [sz * (2 + e)])) := by
          unfold vN
          simp
        refine ⟨.ref v, rfl, v, r ++ [sz * (2 + e)], sz * (2 + e), c ^ (2 + e) + 1, 1, rfl, .inl (.inl ?_), .snoc g (by omega), by omega, by omega, by simp; omega, fun H15 s15 => ?_⟩
        · rw [← ev]
          exact upd_same
        have s1215 := s14.trans s15
        refine ⟨.ref t, rfl, .int (2 + (e : Nat)), rfl, t, r, sz, c, 2 + e, rfl, s1215.tup T12, g, by omega, by omega, by omega, fun H16 s16 => ⟨_, _, rfl, rfl, rfl, _, rfl, iteNS ?_ ?_⟩⟩
        · rw [Nat.pow_one]
          rfl
        have s1216 := s1215.trans s16
        have T16 := s1216.tup T12
        -- fewer
        refine ⟨.ref t, rfl, t, _, rfl, .inr T16, _, _, rfl, rfl, _, rfl, ite2 (fun c1 => ?_) (fun c1 => ?_)⟩
        · have c2 : (2 : Int) < ((vN (1 :: r)).length : Nat) := of_decide_eq_true c1
          rw [vN_len, List.length_cons] at c2
          have hl2 : 2 ≤ r.length := by omega
          obtain ⟨c', g', hc'⟩ := g.tail hl2
          refine ⟨.ref t, rfl, 1, rfl, t, _, rfl, T16, not_to (j := 1) (by rw [vN_len, List.length_cons]; omega), fun v1 n1 => ?_⟩
          have s17 := same_upd (o := .tup (cutV (vN (1 :: r)) none (some 1))) n1
          have V1 : SqT K (upd H16 v1 (.tup (cutV (vN (1 :: r)) none (some 1)))) v1 [.int 1] := by
            refine .inl (.inl ?_)
            rw [upd_same, show cutV (vN (1 :: r)) none (some 1) = (vN (1 :: r)).take 1 from cut_to (j := 1) (by rw [vN_len, List.length_cons]; omega)]
            rfl
          refine ⟨.ref t, rfl, 2, rfl, t, _, rfl, s17.tup T16, not_from (j := 2) (by decide) (by rw [vN_len, List.length_cons]; omega), fun v2 n2 => ?_⟩
          have s18 := same_upd (o := .tup (cutV (vN (1 :: r)) (some 2) none)) n2
          have V2 : SqT K (upd (upd H16 v1 (.tup (cutV (vN (1 :: r)) none (some 1)))) v2 (.tup (cutV (vN (1 :: r)) (some 2) none))) v2 (vN r.tail) := by
            refine .inl (.inl ?_)
            rw [upd_same, show cutV (vN (1 :: r)) (some 2) none = (vN (1 :: r)).drop 2 from cut_from (j := 2) (by rw [vN_len, List.length_cons]; omega)]
            cases r with
            | nil => rfl
            | cons x y => rfl
          refine ⟨v1, v2, _, _, rfl, rfl, s18.tup V1, V2, by simp, ?_, fun z => ?_, fun _ v3 n3 => ?_⟩
          · rw [vN_len, List.length_tail, List.length_singleton]
            exact Nat.le_of_lt (small1000 (by omega))
          · exfalso
            have := congrArg List.length z
            rw [vN_len, List.length_tail] at this
            simp at this
            omega
          have s19 := same_upd (o := .tup ([.int 1] ++ vN r.tail)) n3
          refine ⟨.ref v3, rfl, .int m, rfl, v3, r.tail, sz, c', m, rfl, .inl (.inl upd_same), g', by omega, hm3, by rw [List.length_tail]; omega, fun H20 s20 => ?_⟩
          refine ⟨.int ((c ^ m : Nat) : Int), rfl, _, _, rfl, rfl, _, rfl, ?_⟩
          have hle : c' ^ m ≤ c ^ m := Nat.pow_le_pow_left hc' m
          rw [decide_eq_false (by omega)]
          have sAll := s1216.trans (s17.trans (s18.trans (s19.trans s20)))
          exact iteF ⟨_, _, _, _, _, _, _, rfl, s12.trans sAll, hp12.same sAll⟩
        · exact ⟨_, _, _, _, _, _, _, rfl, s12.trans s1216, hp12.same s1216⟩
      · rintro σ H4 ⟨y3, y4, y5, y6, y7, y8, y9, rfl, s4, hp4⟩
        exact ⟨_, _, _, _, _, _, _, _, _, rfl, s4⟩
    · rintro σ H2 ⟨y1, y2, y3, y4, y5, y6, y7, y8, y9, rfl, sm⟩
      exact q _
end
end Ph

namespace Ph
open PySem PySem.Spec PyProof.Rows L2
structure DefAt (K : PySem.W.Frag) (x : Str) (st : Stmt) (f : Addr) (fd : FuncData) : Prop where
  at_ : PySem.W.nsIn K mainGlobals x = some (some (.ref f))
  fn : Fun K x x st f fd
theorem defAt {K : PySem.W.Frag} {x : Str} {st : Stmt} {f : Addr} {oc : Value} {od an : Option Addr} {osl : Array (Option Value)} {kV doc pm cdv ct : Value} (a : PySem.W.nsIn K mainGlobals x = some (some (.ref f)))
    (l : K.lookup f = some ⟨oc, od, .func (PySem.W.fnOf x x (defArgs st) (defBody st) (defScope st) .none kV doc pm an cdv ct), osl⟩) (c : PySem.W.codeIn K cdv x = true) (k : PySem.W.keepIn K (.ref f) = true) :
    DefAt K x st f (PySem.W.fnOf x x (defArgs st) (defBody st) (defScope st) .none kV doc pm an cdv ct) := ⟨a, fun_mk l c k⟩
theorem all_mk {l : PySem.W.OpenLaw} {w : World} {K : PySem.W.Frag} {h : Heap} {mg : Str → Option Value} {fa : Addr} (X : K.In h) (G : h.Ns mainGlobals mg) (hfa : mg "law" = some (.ref fa))
    {f1 : Addr} {od1 an1 : Option Addr} {sl1 : Array (Option Value)} {oc1 kV1 dc1 pm1 cd1 ct1 : Value} (a1 : PySem.W.nsIn K mainGlobals "count_states" = some (some (.ref f1))) (l1 : K.lookup f1 = some ⟨oc1, od1, .func (PySem.W.fnOf "count_states" "count_states" (defArgs sCount) (defBody sCount) (defScope sCount) .none kV1 dc1 pm1 an1 cd1 ct1), sl1⟩) (c1 : PySem.W.codeIn K cd1 "count_states" = true) (k1 : PySem.W.keepIn K (.ref f1) = true)
    {f2 : Addr} {od2 an2 : Option Addr} {sl2 : Array (Option Value)} {oc2 kV2 dc2 pm2 cd2 ct2 : Value} (a2 : PySem.W.nsIn K mainGlobals "power" = some (some (.ref f2))) (l2 : K.lookup f2 = some ⟨oc2, od2, .func (PySem.W.fnOf "power" "power" (defArgs sPower) (defBody sPower) (defScope sPower) .none kV2 dc2 pm2 an2 cd2 ct2), sl2⟩) (c2 : PySem.W.codeIn K cd2 "power" = true) (k2 : PySem.W.keepIn K (.ref f2) = true)
    {f3 : Addr} {od3 an3 : Option Addr} {sl3 : Array (Option Value)} {oc3 kV3 dc3 pm3 cd3 ct3 : Value} (a3 : PySem.W.nsIn K mainGlobals "_law_pot" = some (some (.ref f3))) (l3 : K.lookup f3 = some ⟨oc3, od3, .func (PySem.W.fnOf "_law_pot" "_law_pot" (defArgs sPot) (defBody sPot) (defScope sPot) .none kV3 dc3 pm3 an3 cd3 ct3), sl3⟩) (c3 : PySem.W.codeIn K cd3 "_law_pot" = true) (k3 : PySem.W.keepIn K (.ref f3) = true)
    {f4 : Addr} {od4 an4 : Option Addr} {sl4 : Array (Option Value)} {oc4 kV4 dc4 pm4 cd4 ct4 : Value} (a4 : PySem.W.nsIn K mainGlobals "_law_take" = some (some (.ref f4))) (l4 : K.lookup f4 = some ⟨oc4, od4, .func (PySem.W.fnOf "_law_take" "_law_take" (defArgs sTake) (defBody sTake) (defScope sTake) .none kV4 dc4 pm4 an4 cd4 ct4), sl4⟩) (c4 : PySem.W.codeIn K cd4 "_law_take" = true) (k4 : PySem.W.keepIn K (.ref f4) = true)
    {f5 : Addr} {od5 an5 : Option Addr} {sl5 : Array (Option Value)} {oc5 kV5 dc5 pm5 cd5 ct5 : Value} (a5 : PySem.W.nsIn K mainGlobals "_law_of" = some (some (.ref f5))) (l5 : K.lookup f5 = some ⟨oc5, od5, .func (PySem.W.fnOf "_law_of" "_law_of" (defArgs sOf) (defBody sOf) (defScope sOf) .none kV5 dc5 pm5 an5 cd5 ct5), sl5⟩) (c5 : PySem.W.codeIn K cd5 "_law_of" = true) (k5 : PySem.W.keepIn K (.ref f5) = true)
    {f6 : Addr} {od6 an6 : Option Addr} {sl6 : Array (Option Value)} {oc6 kV6 dc6 pm6 cd6 ct6 : Value} (a6 : PySem.W.nsIn K mainGlobals "_law_links" = some (some (.ref f6))) (l6 : K.lookup f6 = some ⟨oc6, od6, .func (PySem.W.fnOf "_law_links" "_law_links" (defArgs sLinks) (defBody sLinks) (defScope sLinks) .none kV6 dc6 pm6 an6 cd6 ct6), sl6⟩) (c6 : PySem.W.codeIn K cd6 "_law_links" = true) (k6 : PySem.W.keepIn K (.ref f6) = true)
    {f7 : Addr} {od7 an7 : Option Addr} {sl7 : Array (Option Value)} {oc7 kV7 dc7 pm7 cd7 ct7 : Value} (a7 : PySem.W.nsIn K mainGlobals "_law_counted" = some (some (.ref f7))) (l7 : K.lookup f7 = some ⟨oc7, od7, .func (PySem.W.fnOf "_law_counted" "_law_counted" (defArgs sCounted) (defBody sCounted) (defScope sCounted) .none kV7 dc7 pm7 an7 cd7 ct7), sl7⟩) (c7 : PySem.W.codeIn K cd7 "_law_counted" = true) (k7 : PySem.W.keepIn K (.ref f7) = true)
    {f8 : Addr} {od8 an8 : Option Addr} {sl8 : Array (Option Value)} {oc8 kV8 dc8 pm8 cd8 ct8 : Value} (a8 : PySem.W.nsIn K mainGlobals "law" = some (some (.ref f8))) (l8 : K.lookup f8 = some ⟨oc8, od8, .func (PySem.W.fnOf "law" "law" (defArgs sLaw) (defBody sLaw) (defScope sLaw) .none kV8 dc8 pm8 an8 cd8 ct8), sl8⟩) (c8 : PySem.W.codeIn K cd8 "law" = true) (k8 : PySem.W.keepIn K (.ref f8) = true)
    (z1 : PySem.W.nsIn K mainGlobals "len" = some none)
    (z2 : PySem.W.nsIn K mainGlobals "abs" = some none)
    (z3 : PySem.W.nsIn K mainGlobals "int" = some none)
    (z4 : PySem.W.nsIn K mainGlobals "range" = some none)
    (z5 : PySem.W.nsIn K mainGlobals "tuple" = some none)
    (z6 : PySem.W.nsIn K mainGlobals "zip" = some none)
    (z7 : PySem.W.nsIn K mainGlobals "max" = some none)
    (z8 : PySem.W.nsIn K mainGlobals "min" = some none)
    (z9 : PySem.W.nsIn K mainGlobals "repr" = some none)
    (zd : PySem.W.nsIn K cStatics "sys.int_max_str_digits" = some none) :
    ∃ fd : FuncData, (∀ (s : Shared) (v : Value), BindsTo s fd ⟨[v], []⟩ [("_law_script", v)]) ∧ ∀ base : Heap, K.In base → base.Ns mainGlobals mg → FnOk l.prog w K mg base CX0 4 fa fd ["_law_script"] (spLaw K) := by
  have e := hfa.symm.trans (PySem.W.mg_of X G a8)
  cases e
  have FS := fun_mk (st := sCount) l1 c1 k1
  have bFS := FS.binds (ps := ["chain", "pages"]) fun _ _ _ _ _ _ us hl => match us, hl with | [_, _], _ => rfl
  have FW := fun_mk (st := sPower) l2 c2 k2
  have bFW := FW.binds (ps := ["base", "times"]) fun _ _ _ _ _ _ us hl => match us, hl with | [_, _], _ => rfl
  have FP := fun_mk (st := sPot) l3 c3 k3
  have bFP := FP.binds (ps := ["_law_script", "_law_k"]) fun _ _ _ _ _ _ us hl => match us, hl with | [_, _], _ => rfl
  have FT := fun_mk (st := sTake) l4 c4 k4
  have bFT := FT.binds (ps := ["_law_pot_here", "_law_upto"]) fun _ _ _ _ _ _ us hl => match us, hl with | [_, _], _ => rfl
  have FO := fun_mk (st := sOf) l5 c5 k5
  have bFO := FO.binds (ps := ["_law_pot_here", "_law_some"]) fun _ _ _ _ _ _ us hl => match us, hl with | [_, _], _ => rfl
  have FL := fun_mk (st := sLinks) l6 c6 k6
  have bFL := FL.binds (ps := ["_law_pot_here", "_law_most"]) fun _ _ _ _ _ _ us hl => match us, hl with | [_, _], _ => rfl
  have FC := fun_mk (st := sCounted) l7 c7 k7
  have bFC := FC.binds (ps := ["_law_links_here", "_law_many"]) fun _ _ _ _ _ _ us hl => match us, hl with | [_, _], _ => rfl
  have FF := fun_mk (st := sLaw) l8 c8 k8
  have N : Nms K mg := ⟨PySem.W.mg_none_of X G z1, PySem.W.mg_none_of X G z2, PySem.W.mg_none_of X G z3, PySem.W.mg_none_of X G z4, PySem.W.mg_none_of X G z5, PySem.W.mg_none_of X G z6, PySem.W.mg_none_of X G z7, PySem.W.mg_none_of X G z8, PySem.W.mg_none_of X G z9, zd⟩
  exact ⟨PySem.W.fnOf "law" "law" (defArgs sLaw) (defBody sLaw) (defScope sLaw) .none kV8 dc8 pm8 an8 cd8 ct8, fun s v => .of_eq rfl, fun base _ _ => ok_law FF N FS bFS (PySem.W.mg_of X G a1) FW bFW (PySem.W.mg_of X G a2) FP bFP (PySem.W.mg_of X G a3) FT bFT (PySem.W.mg_of X G a4) FO bFO (PySem.W.mg_of X G a5) FL bFL (PySem.W.mg_of X G a6) FC bFC (PySem.W.mg_of X G a7)⟩
end Ph
open PySem PySem.W PyProof.Rows
set_option maxHeartbeats 0 in
theorem PySem.Challenge.cw_pinnedheap_k09_whole_counts_of_states_holds : PySem.Challenge.rw_pinnedheap_k09_whole_counts_of_states.Holds := by
  w_on; o_law; k_head; (case hw => w_witness2)
  k_fill
  refine L2.walk_of (l := PySem.Challenge.rw_pinnedheap_k09_whole_counts_of_states) (n := 63) (k := 4) (x := "_law_script") (CX := fun _ => L2.CX0) (sp := fun w => Ph.spLaw _) rfl (by decide) rfl ⟨rfl, by decide, by decide⟩ (fun w h Y => PySem.W.kIn_of Y) ?F (fun _ _ a ns hl _ hS => ⟨a, ns, rfl, hS, hl, fun _ => rfl⟩) (fun _ _ _ _ _ h => h)
  case F =>
    intro w mg fa h KX G hmg
    refine' Ph.all_mk KX G hmg ?a1 ?l1 ?c1 ?k1 ?a2 ?l2 ?c2 ?k2 ?a3 ?l3 ?c3 ?k3 ?a4 ?l4 ?c4 ?k4 ?a5 ?l5 ?c5 ?k5 ?a6 ?l6 ?c6 ?k6 ?a7 ?l7 ?c7 ?k7 ?a8 ?l8 ?c8 ?k8 ?z1 ?z2 ?z3 ?z4 ?z5 ?z6 ?z7 ?z8 ?z9 ?zd
    (case a1 => k_is); (case l1 => k_is); (case c1 => k_is); (case k1 => k_is); (case a2 => k_is); (case l2 => k_is); (case c2 => k_is); (case k2 => k_is); (case a3 => k_is); (case l3 => k_is); (case c3 => k_is); (case k3 => k_is); (case a4 => k_is); (case l4 => k_is); (case c4 => k_is); (case k4 => k_is); (case a5 => k_is); (case l5 => k_is); (case c5 => k_is); (case k5 => k_is); (case a6 => k_is); (case l6 => k_is); (case c6 => k_is); (case k6 => k_is); (case a7 => k_is); (case l7 => k_is); (case c7 => k_is); (case k7 => k_is); (case a8 => k_is); (case l8 => k_is); (case c8 => k_is); (case k8 => k_is); (case z1 => k_is); (case z2 => k_is); (case z3 => k_is); (case z4 => k_is); (case z5 => k_is); (case z6 => k_is); (case z7 => k_is); (case z8 => k_is); (case z9 => k_is); (case zd => k_is)
