import PyProof.Rows.All
import Wide.All
import OpenK.AllK
import Wide.FinOn
import HandS.ForMost
import HandS.ForExc
import HandS.Wide
import HandS.Zip
import HandS.TupAny
import HandS.RaiseMore
import HandS.IsInst
import KE.KIntText
import HandS.Style
import KE.KRevSl
import PySem.Challenge.RW_pinnedheap_k02_chains_of_any_value
set_option Elab.async false
set_option linter.all false
set_option maxRecDepth 100000
namespace Ph
open PySem PySem.Spec PyProof.Rows L2 PySem.NumText PySem.Calls
/-! ### the limit on digits stands as it was at the beginning -/
theorem noDigits_of {K : PySem.W.Frag} {h : Heap} (X : K.In h) (L : h.NoLimit) (e : PySem.W.nsIn K cStatics "sys.int_max_str_digits" = some none) : h.NoDigits := by
  obtain ⟨mc, G, _⟩ := L
  refine ⟨mc, G, ?_⟩
  obtain ⟨o, es, ep, ho, hd, _, hf⟩ := G
  unfold PySem.W.nsIn at e
  split at e
  · rename_i c d es' n' sl q
    have := X _ _ q
    rw [ho] at this
    cases this
    cases hd
    split at e
    · cases e
    · rename_i he
      rw [← hf]
      unfold nsFind findBy
      rw [← Array.find?_toList, he]
      rfl
  · cases e
theorem wp_digits {M : Model} {A : Around} {E : Value → Shared → Prop} {s : Shared} {Q : Nat → Shared → Prop} (hn : s.heap.NoDigits) (h : Q 4300 s) : wpAny M A Builtin.intMaxStrDigits Q E s := by
  obtain ⟨mc, hns, hnone⟩ := hn
  unfold Builtin.intMaxStrDigits
  refine wpAny_bind (wpAny_nsGet hns ?_)
  rw [hnone]
  exact wpAny_pure h
/-! ### int(text) of more than 640 digits -/
theorem wp_textW {M : Model} {A : Around} {E : Value → Shared → Prop} {s : Shared} {Q : Value → Shared → Prop} {v : Value} {text : List Nat} {n : Int} (hn : s.heap.NoDigits)
    (hs : ¬ (text.takeWhile (· != 0)).length ≤ 640) (hr : (int_private% "readNumeral") 4300 10 (text.takeWhile (· != 0)) = (int_private% "Numeral.value") n)
    (ha : ((text.takeWhile (· != 0)).length == text.length) = true) (h : Q (.int n s.toks) { s with toks := s.toks + 1 }) :
    wpAny M A ((int_private% "intFromText") v text 10) Q E s := by
  show wpAny M A (if (text.takeWhile (· != 0)).length ≤ 640 then _ else (Builtin.intMaxStrDigits >>= _)) Q E s
  rw [if_neg hs]
  refine wpAny_bind (wp_digits hn ?_)
  dsimp only
  rw [hr]
  dsimp only
  rw [if_pos ha]
  exact wpAny_mkInt h
set_option maxHeartbeats 4000000 in
theorem meets_textW {x : PySem.Str} {u : Tok} {n : Int} (hs : ¬ (numSeenOf x).length ≤ 640) (hr : (int_private% "readNumeral") 4300 10 (numSeenOf x) = (int_private% "Numeral.value") n) (ha : ((numSeenOf x).length == (numTextOf x).length) = true) :
    Meets (Builtin.«int.__new__» ⟨[.type "int", .str x u], []⟩) (fun _ R s => s.heap.NoDigits ∧ R (.ok (.ret (.int n s.toks))) { s with toks := s.toks + 1 }) :=
  .of_wp fun prog w A R s h => by
    obtain ⟨hn, h⟩ := h
    obtain ⟨hp, g, d, tk, os⟩ := s
    have f1 := F.conv_sub_int
    have f2 := F.madeHere_int
    have f3 := PySem.W.KIN.str_int
    have f4 := PySem.W.KIN.str_idx
    have f5 := PySem.W.KIN.str_trunc
    have f6 : typeOf (.str x u) = pure (.type "str") := rfl
    have hk := PySem.W.KIN.Hid.mk (And.intro hs (And.intro hr ha))
    have hk2 := PySem.W.KIN.Hid.mk hn
    clear hs hr ha hn
    repeat (any_goals (first
      | assumption
      | ((with_reducible show wpAny _ _ ((int_private% "intFromText") _ _ _) _ _ _); refine wp_textW hk2.out hk.out.1 hk.out.2.1 hk.out.2.2 ?_)
      | wp_step))
    all_goals first | exact ⟨_, rfl, h⟩ | skip
def big9 : PySem.Str := (Str.ofString "1") ++ Txt.mul (Str.ofString "0") 900
theorem reps_list (c : Nat) : ∀ (k : Nat) (acc : Array Nat), ((List.replicate k (#[c] : Array Nat)).foldl (· ++ ·) acc).toList = acc.toList ++ List.replicate k c
  | 0, acc => by simp
  | k + 1, acc => by
    rw [List.replicate_succ, List.foldl_cons, reps_list c k, List.replicate_succ]
    simp
theorem zeros_list : (Txt.mul (Str.ofString "0") 900).cps.toList = List.replicate 900 48 := by
  have e : Txt.mul (Str.ofString "0") 900 = ⟨(List.replicate 900 (#[48] : Array Nat)).foldl (· ++ ·) #[]⟩ := by
    unfold Txt.mul
    rw [if_neg (by decide), if_neg (by decide +kernel)]
    rfl
  rw [e]
  exact reps_list 48 900 #[]
theorem big9_list : big9.cps.toList = 49 :: List.replicate 900 48 := by
  have e : big9.cps.toList = (Str.ofString "1").cps.toList ++ (Txt.mul (Str.ofString "0") 900).cps.toList := Array.toList_append
  rw [e, zeros_list]
  rfl
theorem big9_digits : AllDigits big9.cps.toList := by
  rw [big9_list]
  intro d hd
  rcases List.mem_cons.mp hd with e | e
  · subst e; decide
  · rw [(List.mem_replicate.mp e).2]; decide
theorem digits_zeros : ∀ (k a : Nat), (List.replicate k 48).foldl (fun acc c => acc * 10 + (c - 48)) a = a * 10 ^ k
  | 0, a => by simp
  | k + 1, a => by
    rw [List.replicate_succ, List.foldl_cons, digits_zeros k, Nat.pow_succ]
    show (a * 10 + 0) * 10 ^ k = a * (10 ^ k * 10)
    rw [Nat.add_zero, Nat.mul_assoc, Nat.mul_comm 10 (10 ^ k)]
theorem big9_val : digitsVal big9.cps.toList = 10 ^ 900 := by
  rw [big9_list]
  unfold digitsVal
  rw [List.foldl_cons, digits_zeros]
  show (0 * 10 + 1) * 10 ^ 900 = 10 ^ 900
  rw [Nat.zero_mul, Nat.zero_add, Nat.one_mul]
theorem big9_length : big9.length = 901 := by
  have e : big9.cps.toList.length = big9.length := Array.length_toList
  rw [← e, big9_list, List.length_cons, List.length_replicate]
theorem ten_ex : ∃ t : Int, intText? big9 = some t ∧ 0 < t ∧ t.natAbs < 2 ^ 3000 := by
  refine ⟨_, intText_digits big9_digits (by rw [big9_list]; exact List.cons_ne_nil _ _) (by rw [big9_length]; decide), ?_, ?_⟩
  · rw [big9_val]
    exact Int.natCast_pos.mpr (Nat.pow_pos (by decide))
  · rw [big9_val, Int.natAbs_natCast]
    decide +kernel
noncomputable def ten9 : Int := Classical.choose ten_ex
theorem big9_int : intText? big9 = some ten9 := (Classical.choose_spec ten_ex).1
theorem ten9_pos : 0 < ten9 := (Classical.choose_spec ten_ex).2.1
theorem ten9_lt : ten9.natAbs < 2 ^ 3000 := (Classical.choose_spec ten_ex).2.2
theorem big9_text : numTextOf big9 = big9.cps.toList ∧ numSeenOf big9 = big9.cps.toList := numText_signs fun c hc => Or.inr (big9_digits c hc)
theorem big9_seen : ¬ (numSeenOf big9).length ≤ 640 := by
  rw [big9_text.2, big9_list, List.length_cons, List.length_replicate]
  decide
theorem big9_all : ((numSeenOf big9).length == (numTextOf big9).length) = true := by
  rw [big9_text.1, big9_text.2]
  exact beq_self_eq_true _
theorem big9_read : (int_private% "readNumeral") 4300 10 (numSeenOf big9) = (int_private% "Numeral.value") ten9 := by
  rcases read4300 big9 (by rw [big9_length]; decide) with ⟨n, h1, h2, h3⟩ | ⟨h1, _⟩
  · rw [Option.some.inj (big9_int.symm.trans h1)]
    exact h3
  · rw [big9_int] at h1
    cases h1
theorem zeros_length : (Txt.mul (Str.ofString "0") 900).length = 900 := by
  have e : (Txt.mul (Str.ofString "0") 900).cps.toList.length = (Txt.mul (Str.ofString "0") 900).length := Array.length_toList
  rw [← e, zeros_list, List.length_replicate]
theorem big9_len : (Str.ofString "1").length + (Txt.mul (Str.ofString "0") 900).length ≤ sizeLine := by
  rw [zeros_length]
  decide +kernel
theorem zeros_ok : MulOk (Str.ofString "0") 900 := ⟨by decide, fun _ _ => by decide +kernel, fun _ _ => by decide +kernel⟩
section
variable {X : Cx}
theorem Inv.noDigits {pins : List (Addr × Obj)} {σ : List (Option V)} {H : Hp} {s : Shared} (I : Inv X pins σ H s) (e : PySem.W.nsIn X.K cStatics "sys.int_max_str_digits" = some none) : s.heap.NoDigits :=
  (noDigits_of I.ok.mod.kin I.ok.mod.nolimit e).keeps I.bk
theorem call_big9 (e : PySem.W.nsIn X.K cStatics "sys.int_max_str_digits" = some none) : CallR X (.type "int") (fun xs H Q => xs = [.str big9] ∧ Q (.int ten9) H) := by
  intro pins s σ H xs us Q I r h
  obtain ⟨rfl, q⟩ := h
  obtain ⟨u, rfl, t, rfl⟩ := vals1 r
  exact call_int_1 (meets_textW big9_seen big9_read big9_all) ⟨Inv.noDigits I e, ⟨typeIs_int _ _ _, ⟨.int ten9, H, I.tok _, ⟨_, rfl⟩, q⟩⟩⟩
/-- text * number -/
theorem op_repS : OpR X (binaryOp .Mult) (fun x y H Q => ∃ z k, x = .str z ∧ y = .int k ∧ MulOk z k ∧ Q (.str (Txt.mul z k)) H) := by
  intro pins s σ H x y v u Q I rx ry h
  obtain ⟨i, j, rfl, rfl, hz, q⟩ := h
  obtain ⟨t, rfl⟩ := rx
  obtain ⟨t', rfl⟩ := ry
  exact SB.mul hz (fun t' k => ⟨.str _, H, I.tok _, ⟨_, rfl⟩, q⟩)
theorem iop_mulW : OpR X (inplaceOp .Mult) (rI CMulW fun i j => .int (i * j)) := opI fun _ _ _ _ _ _ _ hc q => imul_int q hc.ok
theorem ip_mulW : PIp X .Mult (fun x y H Q => ∃ i j, x = .int i ∧ y = .int j ∧ CMulW i j ∧ Q (.int (i * j)) H) := by
  intro pins s σ H x y v u Q I r1 r2 h
  obtain ⟨i, j, e1, e2, hc, q⟩ := h
  subst e1; subst e2
  obtain ⟨t, rfl⟩ := r1
  obtain ⟨t', rfl⟩ := r2
  exact imul_int ⟨.int _, H, I.tok _, ⟨_, rfl⟩, q⟩ hc.ok
theorem repr_wide {prog : Program} {w : World} {A : Around} {E : Value → Shared → Prop} {s : Shared} {a : Int} {t : Tok} {Q : Value → Shared → Prop} (hn : s.heap.NoDigits) (hlt : a.natAbs < 10 ^ 4300) (h : Q (.str (toString a) s.toks) { s with toks := s.toks + 1 }) :
    wpAny (model prog w) A (call (.builtin "repr") [.int a t]) Q E s := by
  refine Calls.call_function_entry F.kind_repr F.plain_repr F.entry_repr (F.args_repr1 _) ?_
  unfold Builtin.«repr»
  refine wpAny_bind (m := oneArg "repr" _) (wpAny_pure ?_)
  have hv : [Value.int a t].any Value.onHeap = false := rfl
  simp only [cRoomFor, hv, Bool.false_eq_true, if_false, pure_bind]
  refine wpAny_bind (wpAny_specialOf (name := Str.ofString "__repr__") (typeIs_int s a t) F.slot_int_repr.lookup ?_)
  refine wpAny_bind (m := callSpecialIfBound? (.int a t) (Str.ofString "__repr__")) (wpAny_callSpecialIfBound?_slot (name := Str.ofString "__repr__") (typeIs_int s a t) F.slot_int_repr ?_)
  refine wpAny_call_entry F.slot_int_repr (typeIs_int s a t) F.entry_int_repr ?_ (F.args_int_repr_1 _)
  unfold Builtin.«int.__repr__»
  show wpAny _ _ (do let r ← Builtin.overDigitLimit? a; _) _ _ s
  refine wpAny_bind (overDigitLimit_any hn (fun hlt => ?_) (fun hge => absurd hlt (Nat.not_lt.mpr hge)))
  refine wpAny_bind (wpAny_mkStr (wpAny_pure ⟨_, rfl, ?_⟩) (int_text_fits10 hlt))
  refine wpAny_bind (wpAny_isInstance (T := "str") (b := true) rfl isSubtype_str_str ?_)
  exact wpAny_pure ⟨_, rfl, h⟩
theorem call_reprW (e : PySem.W.nsIn X.K cStatics "sys.int_max_str_digits" = some none) : CallR X (.builtin "repr") (fun xs H Q => ∃ i, xs = [.int i] ∧ i.natAbs < 10 ^ 4300 ∧ Q (.str (toString i)) H) := by
  intro pins s σ H xs us Q I r h
  obtain ⟨i, rfl, hz, q⟩ := h
  obtain ⟨u, rfl, t, rfl⟩ := vals1 r
  exact repr_wide (Inv.noDigits I e) hz ⟨.str _, H, I.tok _, ⟨_, rfl⟩, q⟩
end
end Ph

namespace Ph
open PySem PySem.Spec PyProof.Rows L2
def topS (i : Nat) : Stmt := PySem.Challenge.pw_pinnedheap_k02_chains_of_any_value.main.body.getD i (.Pass ⟨0, 0, 0, 0⟩)
abbrev sPot : Stmt := topS 8
abbrev sTake : Stmt := topS 9
abbrev sOf : Stmt := topS 10
abbrev sLinks : Stmt := topS 11
theorem scPot : FnScope ["_law_script", "_law_k", "_law_cell", "_law_great"] ["_law_script", "_law_k"] (defScope sPot) := ⟨rfl, rfl, rfl, by decide +kernel, rfl, by decide +kernel, by decide +kernel⟩
theorem scTake : FnScope ["_law_pot_here", "_law_upto", "_law_digit"] ["_law_pot_here", "_law_upto"] (defScope sTake) := ⟨rfl, rfl, rfl, by decide +kernel, rfl, by decide +kernel, by decide +kernel⟩
theorem scOf : FnScope ["_law_pot_here", "_law_some"] ["_law_pot_here", "_law_some"] (defScope sOf) := ⟨rfl, rfl, rfl, by decide +kernel, rfl, by decide +kernel, by decide +kernel⟩
/-! ### the pot -/
def But (p : Addr) (H H' : Hp) : Prop := ∀ b o, b ≠ p → H b = some o → H' b = some o
theorem But.refl (p : Addr) (H : Hp) : But p H H := fun _ _ _ h => h
theorem But.trans {p : Addr} {H H1 H2 : Hp} (a : But p H H1) (b : But p H1 H2) : But p H H2 := fun c o n h => b c o n (a c o n h)
theorem Same.but {p : Addr} {H H' : Hp} (a : Same H H') : But p H H' := fun b o _ h => a b o h
theorem same_upd {H : Hp} {p : Addr} {o : HO} (h : H p = none) : Same H (upd H p o) := fun b x e => by
  rw [upd_ne (ne_of_none e h)]
  exact e
theorem but_upd {H : Hp} {p : Addr} {o : HO} : But p H (upd H p o) := fun b x n e => by
  rw [upd_ne n]
  exact e
def mM : Int := 2305843009213693951
structure PotV (g r : Int) : Prop where
  g0 : 0 ≤ g
  g1 : g.natAbs < 2 ^ 3000
  r0 : 0 ≤ r
  r1 : r < 2305843009213693951
def Pot (H : Hp) (p : Addr) : Prop := ∃ g r : Int, H p = some (.lst [.int g, .int r]) ∧ PotV g r
theorem great_mod (x : Int) : 0 ≤ x % ten9 ∧ (x % ten9).natAbs < 2 ^ 3000 := by
  have p := ten9_pos
  have h0 : 0 ≤ x % ten9 := Int.emod_nonneg _ (by omega)
  exact ⟨h0, wide_le h0 (Int.le_of_lt (Int.emod_lt_of_pos _ p)) ten9_lt⟩
theorem great_mul (x : Int) (b : Bool) : CMulW (x % ten9) (if b = true then 1 else 0) :=
  wide_mul (b := 2) (great_mod x).2 (by cases b <;> decide) (by decide) (by decide) (by decide)
theorem great_pot (x : Int) (b : Bool) : 0 ≤ x % ten9 * (if b = true then 1 else 0) ∧ (x % ten9 * (if b = true then 1 else 0)).natAbs < 2 ^ 3000 := by
  cases b
  · rw [if_neg (by decide), Int.mul_zero]
    exact ⟨Int.le_refl _, Nat.pow_pos (by decide)⟩
  · rw [if_pos rfl, Int.mul_one]
    exact great_mod x
section
variable {P : Program} {w : World} {K : PySem.W.Frag} {mg : Str → Option Value} {base : Heap}
def spPot (K : PySem.W.Frag) : Sp := fun vs H Q _ => ∃ (a : Addr) (ns : List Int) (k : Nat), vs = [.ref a, .int k] ∧ SqL K H a (ns.map V.int) ∧ k ≤ 1000 ∧ ∀ H' p, Same H H' → H p = none → Pot H' p → Q (.ref p) H'
theorem ok_pot {f : Addr} {fd : FuncData} {k : Nat} (F : Fun K "_law_pot" "_law_pot" sPot f fd) (ml : mg "len" = none) (ma : mg "abs" = none) (mi : mg "int" = none) (nd : PySem.W.nsIn K cStatics "sys.int_max_str_digits" = some none) : FnOk P w K mg base CX0 (k + 1) f fd ["_law_script", "_law_k"] (spPot K) := by
  refine F.ok scPot (fun vs H Q E h => ?_) (fun cdv A outer s H vs Q E hr h => ?_)
  · obtain ⟨a, ns, k, rfl, _⟩ := h
    rfl
  · obtain ⟨a, ns, n, rfl, hS, hn, q⟩ := h
    refine ⟨_, pss_cons (ps_set (i := 2) scPot.nd rfl (.inl rfl) (pe_op op_add (pe_op op_mul pe_int (pv 1)) (pe_callB call_len_seq (by rfl) ml PySem.boot_len (pa_cons (pv 0) pa_nil))))
      (pss_cons (ps_if (pt_cmpR op_lt (pv 1) (pe_callB call_len_seq (by rfl) ml PySem.boot_len (pa_cons (pv 0) pa_nil)) (nomark _))
        (pss_one (ps_set (i := 2) scPot.nd rfl (.inl rfl) (pe_ix ix_list (pv 0) (pv 1) (fun _ _ => rfl)))) pss_nil)
      (pss_cons (ps_set (i := 3) scPot.nd rfl (.inl rfl) (pe_op op_mulW (pe_op op_mod (pe_callB call_abs (by rfl) ma (by decide +kernel) (pa_cons (pv 2) pa_nil)) (pe_callTy (call_big9 nd) (by rfl) mi (by decide +kernel) (pa_cons (pe_op op_add_str pe_str (pe_op op_repS pe_str pe_int)) pa_nil)))
          (pe_callTy call_int1 (by rfl) mi (by decide +kernel) (pa_cons (pe_cmpR op_ge (pe_callB call_abs (by rfl) ma (by decide +kernel) (pa_cons (pv 2) pa_nil)) (pe_op op_pow pe_int pe_int) (nomark _)) pa_nil))))
      (pss_one (ps_ret (pe_lst (pa_cons (pv 3) (pa_cons (pe_op op_mod (pe_op op_mul (pe_op op_add (pe_op op_add (pe_op op_mod (pv 2) pe_int) (pe_op op_mul (pe_op op_mul pe_int (pv 1)) (pv 1))) pe_int) pe_int) pe_int) pa_nil))))))), ?_⟩
    refine ⟨.int n, rfl, 3, n, rfl, rfl, .inl ⟨by decide, by decide⟩, .ref a, rfl, a, ns.map V.int, rfl, .inl hS, _, _, rfl, rfl, ?_⟩
    refine ⟨.int n, rfl, .ref a, rfl, a, ns.map V.int, rfl, .inl hS, _, _, rfl, rfl, _, rfl, ite2 (fun e => ?z1) (fun e => ?z2)⟩
    case z1 =>
      have e1 : (n : Int) < ((ns.map V.int).length : Nat) := of_decide_eq_true e
      have e2 : n < ns.length := by
        rw [List.length_map] at e1
        omega
      refine ⟨.ref a, rfl, .int n, rfl, a, ns.map V.int, n, .int ns[n], rfl, rfl, hS, atI_nat (j := n) (by rw [List.getElem?_map, List.getElem?_eq_getElem e2]; rfl), ?_⟩
      refine ⟨.int _, rfl, _, rfl, _, _, rfl, rfl, zeros_ok, _, _, rfl, rfl, big9_len, rfl, _, _, rfl, rfl, ten9_pos, .int _, rfl, _, rfl, _, _, rfl, rfl, ⟨by decide, by decide, by decide⟩, _, _, rfl, rfl, .inr ⟨_, rfl, _, _, rfl, rfl, great_mul _ _, ?_⟩⟩
      refine ⟨_, rfl, .int _, rfl, _, _, rfl, rfl, (by decide : (0 : Int) < 2305843009213693951), .int n, rfl, _, _, rfl, rfl, .inl ⟨by decide, by decide⟩, .int n, rfl, _, _, rfl, rfl, .inl ?_, _, _, rfl, rfl, _, _, rfl, rfl, _, _, rfl, rfl, .inr ⟨by decide, by decide⟩, _, _, rfl, rfl, (by decide : (0 : Int) < 2305843009213693951), (by show 2 ≤ sizeLine; decide), fun p np => ?_⟩
      · constructor <;> omega
      · exact q _ p (same_upd np) np ⟨_, _, upd_same, (great_pot _ _).1, (great_pot _ _).2, Int.emod_nonneg _ (by decide), Int.emod_lt_of_pos _ (by decide)⟩
    case z2 =>
      refine ⟨.int _, rfl, _, rfl, _, _, rfl, rfl, zeros_ok, _, _, rfl, rfl, big9_len, rfl, _, _, rfl, rfl, ten9_pos, .int _, rfl, _, rfl, _, _, rfl, rfl, ⟨by decide, by decide, by decide⟩, _, _, rfl, rfl, .inr ⟨_, rfl, _, _, rfl, rfl, great_mul _ _, ?_⟩⟩
      refine ⟨_, rfl, .int _, rfl, _, _, rfl, rfl, (by decide : (0 : Int) < 2305843009213693951), .int n, rfl, _, _, rfl, rfl, .inl ⟨by decide, by decide⟩, .int n, rfl, _, _, rfl, rfl, .inl ?_, _, _, rfl, rfl, _, _, rfl, rfl, _, _, rfl, rfl, .inr ⟨by decide, by decide⟩, _, _, rfl, rfl, (by decide : (0 : Int) < 2305843009213693951), (by show 2 ≤ sizeLine; decide), fun p np => ?_⟩
      · constructor <;> omega
      · exact q _ p (same_upd np) np ⟨_, _, upd_same, (great_pot _ _).1, (great_pot _ _).2, Int.emod_nonneg _ (by decide), Int.emod_lt_of_pos _ (by decide)⟩
end
end Ph

namespace Ph
open PySem PySem.Spec PyProof.Rows L2
theorem scLinks : FnScope ["_law_pot_here", "_law_most", "_law_found", "_law_turn", "_law_ratio"] ["_law_pot_here", "_law_most"] (defScope sLinks) := ⟨rfl, rfl, rfl, by decide +kernel, rfl, by decide +kernel, by decide +kernel⟩
theorem But.seq {K : PySem.W.Frag} {p a : Addr} {H H' : Hp} {xs : List V} (b : But p H H') (n : a ≠ p) (h : SqL K H a xs) : SqL K H' a xs := by
  rcases h with (h | ⟨o, h⟩) | h
  · exact .inl (.inl (b _ _ n h))
  · exact .inl (.inr ⟨o, b _ _ n h⟩)
  · exact .inr h
theorem But.none {p a : Addr} {H H' : Hp} (b : But p H H') (n : a ≠ p) (h : H' a = none) : H a = none := by
  cases q : H a with
  | none => rfl
  | some o => rw [b a o n q] at h; cases h
theorem Pot.same {H H' : Hp} {p : Addr} (P : Pot H p) (s : Same H H') : Pot H' p := by
  obtain ⟨g, r, h, v⟩ := P
  exact ⟨g, r, s _ _ h, v⟩
theorem Pot.ne_none {H : Hp} {p q : Addr} (P : Pot H p) (h : H q = none) : p ≠ q := by
  obtain ⟨g, r, e, v⟩ := P
  exact ne_of_none e h
inductive Lnk (m : Int) : List Int → Int → Prop
  | one : Lnk m [1] 1
  | step {ns : List Int} {x r : Int} : Lnk m ns x → 2 ≤ r → r ≤ 6 → x * r ≤ m → ns.length < 12 → Lnk m (ns ++ [x * r]) (x * r)
theorem Lnk.pos {m x : Int} {ns : List Int} (h : Lnk m ns x) : 1 ≤ x := by
  induction h with
  | one => decide
  | step h h1 h2 h3 h4 ih =>
    have := Int.mul_le_mul ih h1 (by decide) (by omega)
    omega
theorem Lnk.last {m x : Int} {ns : List Int} (h : Lnk m ns x) : ∃ r, ns = r ++ [x] := by
  cases h with
  | one => exact ⟨[], rfl⟩
  | step h h1 h2 h3 h4 => exact ⟨_, rfl⟩
theorem Lnk.le {m x : Int} {ns : List Int} (h : Lnk m ns x) (hm : 1 ≤ m) : x ≤ m := by
  cases h with
  | one => exact hm
  | step h h1 h2 h3 h4 => exact h3
theorem Lnk.len {m x : Int} {ns : List Int} (h : Lnk m ns x) : 1 ≤ ns.length ∧ ns.length ≤ 12 := by
  cases h with
  | one => decide
  | step h h1 h2 h3 h4 => rw [List.length_append]; exact ⟨by simp, by simp; omega⟩
section
variable {P : Program} {w : World} {K : PySem.W.Frag} {mg : Str → Option Value} {base : Heap}
def spTake : Sp := fun vs H Q _ => ∃ (p : Addr) (n : Int), vs = [.ref p, .int n] ∧ Pot H p ∧ 0 < n ∧ n < 4611686018427387904 ∧ ∀ H' d, But p H H' → Pot H' p → 0 ≤ d → d < n → Q (.int d) H'
theorem ok_take {f : Addr} {fd : FuncData} {k : Nat} (F : Fun K "_law_take" "_law_take" sTake f fd) : FnOk P w K mg base CX0 (k + 1) f fd ["_law_pot_here", "_law_upto"] spTake := by
  refine F.ok scTake (fun vs H Q E h => ?_) (fun cdv A outer s H vs Q E hr h => ?_)
  · obtain ⟨a, n, rfl, _⟩ := h
    rfl
  · obtain ⟨p, n, rfl, ⟨g, r, hp, hv⟩, hn0, hn1, q⟩ := h
    refine ⟨_, pss_cons (ps_if (pt_cmpR op_gt (pe_ix ix_list (pv 0) pe_int (fun _ _ => rfl)) pe_int (nomark _))
        (pss_cons (ps_set (i := 2) scTake.nd rfl (.inl rfl) (pe_op op_mod (pe_ix ix_list (pv 0) pe_int (fun _ _ => rfl)) (pv 1)))
        (pss_cons (ps_asg (pe_op op_fdivW (pe_ix ix_list (pv 0) pe_int (fun _ _ => rfl)) (pv 1)) (pg_sub (pv 0) pe_int set_list))
        (pss_one (ps_ret (pv 2))))) pss_nil)
      (pss_cons (ps_asg (pe_op op_mod (pe_op op_add (pe_op op_mul (pe_ix ix_list (pv 0) pe_int (fun _ _ => rfl)) pe_int) pe_int) pe_int) (pg_sub (pv 0) pe_int set_list))
      (pss_one (ps_ret (pe_op op_mod (pe_op op_fdiv (pe_op op_mod (pe_op op_mul (pe_op op_fdiv (pe_ix ix_list (pv 0) pe_int (fun _ _ => rfl)) pe_int) (pe_op op_add (pe_op op_mod (pe_ix ix_list (pv 0) pe_int (fun _ _ => rfl)) pe_int) pe_int)) pe_int) pe_int) (pv 1))))), ?_⟩
    have hL : SqL K H p [.int g, .int r] := .inl (.inl hp)
    refine ⟨.ref p, rfl, p, _, 0, .int g, rfl, rfl, hL, atI_nat (j := 0) rfl, g, 0, rfl, rfl, _, rfl, ite2 (fun e => ?_) (fun e => ?_)⟩
    · have e1 : (0 : Int) < g := of_decide_eq_true e
      refine ⟨.ref p, rfl, p, _, 0, .int g, rfl, rfl, hL, atI_nat (j := 0) rfl, .int n, rfl, g, n, rfl, rfl, hn0, ?_⟩
      refine ⟨.ref p, rfl, p, _, 0, .int g, rfl, rfl, hL, atI_nat (j := 0) rfl, .int n, rfl, g, n, rfl, rfl, wide_div (b := 62) hn0 ?_ (by decide) (by decide), .ref p, rfl, p, _, 0, 0, rfl, rfl, hp, rfl, _, rfl, ?_⟩
      · have : (2 : Nat) ^ 62 = 4611686018427387904 := by decide
        rw [this]
        omega
      · have d0 : 0 ≤ g / n := Int.ediv_nonneg hv.g0 (by omega)
        have d1 : g / n ≤ g := Int.ediv_le_self _ hv.g0
        refine q _ _ but_upd ⟨_, _, upd_same, d0, wide_le d0 d1 hv.g1, hv.r0, hv.r1⟩ (Int.emod_nonneg _ (by omega)) (Int.emod_lt_of_pos _ hn0)
    · refine ⟨.ref p, rfl, p, _, 1, .int r, rfl, rfl, hL, atI_nat (j := 1) rfl, r, _, rfl, rfl, .inl ⟨?_, ?_⟩, _, _, rfl, rfl, _, _, rfl, rfl, (by decide : (0 : Int) < 2305843009213693951), .ref p, rfl, p, _, 1, 1, rfl, rfl, hp, rfl, ?_⟩
      · have := hv.r0; omega
      · have := hv.r1; omega
      have r20 : 0 ≤ (r * 1181783497276652981 + 12345678910987) % 2305843009213693951 := Int.emod_nonneg _ (by decide)
      have r21 : (r * 1181783497276652981 + 12345678910987) % 2305843009213693951 < 2305843009213693951 := Int.emod_lt_of_pos _ (by decide)
      have hL2 : SqL K (upd H p (.lst [.int g, .int ((r * 1181783497276652981 + 12345678910987) % 2305843009213693951)])) p [.int g, .int ((r * 1181783497276652981 + 12345678910987) % 2305843009213693951)] := .inl (.inl upd_same)
      refine ⟨.ref p, rfl, p, _, 1, .int _, rfl, rfl, hL2, atI_nat (j := 1) rfl, _, _, rfl, rfl, ⟨by decide, by decide⟩, .ref p, rfl, p, _, 1, .int _, rfl, rfl, hL2, atI_nat (j := 1) rfl, _, _, rfl, rfl, (by decide : (0 : Int) < 65537), _, _, rfl, rfl, _, _, rfl, rfl, .inl ⟨?_, ?_⟩, _, _, rfl, rfl, (by decide : (0 : Int) < 2305843009213693921), _, _, rfl, rfl, ⟨by decide, by decide⟩, .int n, rfl, _, _, rfl, rfl, hn0, ?_⟩
      · generalize (r * 1181783497276652981 + 12345678910987) % 2305843009213693951 = r2 at *
        have : 0 ≤ r2 / 65537 := Int.ediv_nonneg r20 (by decide)
        omega
      · generalize (r * 1181783497276652981 + 12345678910987) % 2305843009213693951 = r2 at *
        have : r2 / 65537 ≤ r2 := Int.ediv_le_self _ r20
        omega
      · exact q _ _ but_upd ⟨_, _, upd_same, hv.g0, hv.g1, r20, r21⟩ (Int.emod_nonneg _ (by omega)) (Int.emod_lt_of_pos _ hn0)
def spOf (K : PySem.W.Frag) : Sp := fun vs H Q _ => ∃ (p l : Addr) (xs : List V), vs = [.ref p, .ref l] ∧ Pot H p ∧ SqL K H l xs ∧ l ≠ p ∧ xs ≠ [] ∧ xs.length ≤ 1000 ∧ ∀ H' x, But p H H' → Pot H' p → x ∈ xs → Q x H'
theorem ok_of {f fT : Addr} {fd fdT : FuncData} {k : Nat} (F : Fun K "_law_of" "_law_of" sOf f fd) (FT : Fun K "_law_take" "_law_take" sTake fT fdT) (bT : Binds K fdT ["_law_pot_here", "_law_upto"] []) (gT : mg "_law_take" = some (.ref fT)) (ml : mg "len" = none) : FnOk P w K mg base CX0 (k + 1 + 1) f fd ["_law_pot_here", "_law_some"] (spOf K) := by
  have GT : FnOk P w K mg base CX0 (k + 1) fT fdT ["_law_pot_here", "_law_upto"] spTake := ok_take FT
  refine F.ok scOf (fun vs H Q E h => ?_) (fun cdv A outer s H vs Q E hr h => ?_)
  · obtain ⟨a, n, xs, rfl, _⟩ := h
    rfl
  · obtain ⟨p, l, xs, rfl, hp, hl, hne, hx, hlen, q⟩ := h
    refine ⟨_, pss_one (ps_ret (pe_ix ix_list (pv 1) (pe_call GT hr (by rfl) gT FT.kp bT .nil pass0 (pa_cons (pv 0) (pa_cons (pe_callB call_len_seq (by rfl) ml PySem.boot_len (pa_cons (pv 1) pa_nil)) pa_nil))) (fun _ _ => rfl))), ?_⟩
    have hx0 : 0 < xs.length := List.length_pos_iff.mpr hx
    refine ⟨.ref l, rfl, .ref p, rfl, .ref l, rfl, l, xs, rfl, .inl hl, p, _, rfl, hp, ?_, ?_, fun H' d hb hp' d0 d1 => ?_⟩
    · omega
    · omega
    · obtain ⟨j, rfl⟩ : ∃ j : Nat, d = j := ⟨d.toNat, by omega⟩
      have hd : j < xs.length := by omega
      exact ⟨l, xs, j, xs[j], rfl, rfl, hb.seq hne hl, atI_nat (List.getElem?_eq_getElem hd), q _ _ hb hp' (List.getElem_mem hd)⟩
def spLinks : Sp := fun vs H Q _ => ∃ (p : Addr) (m : Int), vs = [.ref p, .int m] ∧ Pot H p ∧ 1 ≤ m ∧ m ≤ 1000000 ∧ ∀ H' t ns x, But p H H' → Pot H' p → H t = none → H' t = some (.tup (ns.map V.int)) → Lnk m ns x → ns.length ≤ 6 → Q (.ref t) H'
theorem ok_links {f fT fO : Addr} {fd fdT fdO : FuncData} {k : Nat} (F : Fun K "_law_links" "_law_links" sLinks f fd) (FT : Fun K "_law_take" "_law_take" sTake fT fdT) (bT : Binds K fdT ["_law_pot_here", "_law_upto"] []) (gT : mg "_law_take" = some (.ref fT))
    (FO : Fun K "_law_of" "_law_of" sOf fO fdO) (bO : Binds K fdO ["_law_pot_here", "_law_some"] []) (gO : mg "_law_of" = some (.ref fO)) (ml : mg "len" = none) (mr : mg "range" = none) (mt : mg "tuple" = none) : FnOk P w K mg base CX0 (k + 1 + 1 + 1) f fd ["_law_pot_here", "_law_most"] spLinks := by
  have GT : FnOk P w K mg base CX0 (k + 1) fT fdT ["_law_pot_here", "_law_upto"] spTake := ok_take FT
  have GO : FnOk P w K mg base CX0 (k + 1 + 1) fO fdO ["_law_pot_here", "_law_some"] (spOf K) := ok_of FO FT bT gT ml
  refine F.ok scLinks (fun vs H Q E h => ?_) (fun cdv A outer s H vs Q E hr h => ?_)
  · obtain ⟨a, n, rfl, _⟩ := h
    rfl
  · obtain ⟨p, m, rfl, hp, hm1, hm2, q⟩ := h
    have hr1 : Room (k + 1) (A.deeper (envOfC "_law_links" (defScope sLinks) s.heap.objs.size f cdv)) := hr.mono (by omega)
    refine ⟨_, pss_cons (ps_set (i := 2) scLinks.nd rfl (.inl rfl) (pe_lst (pa_cons pe_int pa_nil)))
      (pss_cons (ps_for PassesOwn.never rfl (pi_range1 (by rfl) mr (pa_cons (pe_call GT hr1 (by rfl) gT FT.kp bT .nil pass0 (pa_cons (pv 0) (pa_cons pe_int pa_nil))) pa_nil)) (pg_name (i := 3) scLinks.nd rfl (.inl rfl))
        (pss_cons (ps_set (i := 4) scLinks.nd rfl (.inl rfl) (pe_call GO hr (by rfl) gO FO.kp bO .nil pass0 (pa_cons (pv 0) (pa_cons (pe_lst (pa_cons pe_int (pa_cons pe_int (pa_cons pe_int (pa_cons pe_int (pa_cons pe_int (pa_cons (pe_op op_add pe_int (pe_call GT hr1 (by rfl) gT FT.kp bT .nil pass0 (pa_cons (pv 0) (pa_cons pe_int pa_nil)))) pa_nil))))))) pa_nil))))
        (pss_one (ps_if (PW.pt (pw_and (pt_cmpR op_le (pe_op op_mul (pe_ix ix_list (pv 2) (pe_un un_neg pe_int) (fun _ _ => rfl)) (pv 4)) (pv 1) (nomark _)) (pw_and1 (pt_cmpR op_lt (pe_callB call_len_seq (by rfl) ml PySem.boot_len (pa_cons (pv 2) pa_nil)) pe_int (nomark _)))))
          (pss_one (ps_expr (pe_bm PySem.F.plainAttrs_list PySem.F.slot_list_append PySem.F.type_list_append mt_append (pv 2) (pa_cons (pe_op op_mul (pe_ix ix_list (pv 2) (pe_un un_neg pe_int) (fun _ _ => rfl)) (pv 4)) pa_nil)))) pss_nil))))
      (pss_one (ps_ret (pe_callTy call_tuple_of (by rfl) mt (by decide +kernel) (pa_cons (pv 2) pa_nil))))), ?_⟩
    refine ⟨by decide, fun o no => ?_⟩
    have npo : p ≠ o := hp.ne_none no
    refine ⟨.ref p, rfl, p, 6, rfl, hp.same (same_upd no), by decide, by decide, fun H1 d hb1 hp1 d0 d1 => ?_⟩
    refine ⟨d, rfl, by omega, by omega, ?_⟩
    have ho1 : H1 o = some (.lst ([1].map V.int)) := hb1 _ _ npo.symm upd_same
    have hbase : ∀ b x, b ≠ p → b ≠ o → H b = some x → H1 b = some x := fun b x n1 n2 h => hb1 _ _ n1 (by rw [upd_ne n2]; exact h)
    refine for_range (lo := 0) (n := d.toNat) (fun i σ H2 => ∃ y3 y4 ns x, σ = [some (.ref p), some (.int m), some (.ref o), y3, y4] ∧ Pot H2 p ∧ (∀ b x, b ≠ p → b ≠ o → H b = some x → H2 b = some x) ∧ H2 o = some (.lst (ns.map V.int)) ∧ Lnk m ns x ∧ ns.length ≤ i + 1)
      ⟨none, none, [1], 1, rfl, hp1, hbase, ho1, .one, by simp⟩ ?_ ?_
    · rintro i σ H2 hi ⟨y3, y4, ns, x, rfl, hp2, hB, ho2, hk, hl⟩
      have no2 : o ≠ p := npo.symm
      refine ⟨.ref p, rfl, .ref p, rfl, p, 5, rfl, hp2, by decide, by decide, fun H3 e hb3 hp3 e0 e1 => ?_⟩
      refine ⟨_, _, rfl, rfl, (by show 6 ≤ sizeLine; decide), fun l nl => ?_⟩
      have nlp : l ≠ p := (hp3.ne_none nl).symm
      have ho3 : H3 o = some (.lst (ns.map V.int)) := hb3 _ _ no2 ho2
      have nlo : o ≠ l := ne_of_none ho3 nl
      refine ⟨p, l, _, rfl, hp3.same (same_upd nl), .inl (.inl upd_same), nlp, List.cons_ne_nil _ _, by simp, fun H4 v hb4 hp4 hv => ?_⟩
      have ho4 : H4 o = some (.lst (ns.map V.int)) := hb4 _ _ no2 (by rw [upd_ne nlo]; exact ho3)
      have hB4 : ∀ b x, b ≠ p → b ≠ o → H b = some x → H4 b = some x := fun b x n1 n2 h => by
        have h3 := hb3 _ _ n1 (hB b x n1 n2 h)
        exact hb4 _ _ n1 (by rw [upd_ne (ne_of_none h3 nl)]; exact h3)
      obtain ⟨r, rfl, hr2, hr6⟩ : ∃ r : Int, v = .int r ∧ 2 ≤ r ∧ r ≤ 6 := by
        simp only [List.mem_cons, List.not_mem_nil, or_false] at hv
        rcases hv with h | h | h | h | h | h
        · exact ⟨2, h, by decide, by decide⟩
        · exact ⟨2, h, by decide, by decide⟩
        · exact ⟨2, h, by decide, by decide⟩
        · exact ⟨3, h, by decide, by decide⟩
        · exact ⟨4, h, by decide, by decide⟩
        · exact ⟨2 + e, h, by omega, by omega⟩
      obtain ⟨ini, rfl⟩ := hk.last
      have hL4 : SqL K H4 o ((ini ++ [x]).map V.int) := .inl (.inl ho4)
      have gl : atI ((ini ++ [x]).map V.int) (-1) = some (.int x) := by
        rw [List.map_append]
        exact atI_last _ _
      have x1 := hk.pos
      have x2 := hk.le hm1
      have lx := hk.len
      refine ⟨.ref o, rfl, 1, rfl, o, _, -1, _, rfl, rfl, hL4, gl, .int r, rfl, x, r, rfl, rfl, .inl ⟨by omega, by omega⟩, .int m, rfl, _, _, rfl, rfl, _, rfl, ite2 (fun c => ?_) (fun c => ?_)⟩
      · have c1 : x * r ≤ m := of_decide_eq_true c
        refine ⟨.ref o, rfl, o, _, rfl, .inl hL4, _, _, rfl, rfl, _, rfl, ite2 (fun c => ?_) (fun c => ?_)⟩
        · have c2 : (((ini ++ [x]).map V.int).length : Int) < 12 := of_decide_eq_true c
          rw [List.length_map] at c2
          refine ⟨.ref o, rfl, .inl ⟨rfl, _, hL4⟩, .ref o, rfl, 1, rfl, o, _, -1, _, rfl, rfl, hL4, gl, .int r, rfl, x, r, rfl, rfl, .inl ⟨by omega, by omega⟩, o, _, _, rfl, rfl, ho4, ?_, ?_⟩
          · rw [List.length_map]
            exact small1000 (by omega)
          · refine ⟨_, _, ini ++ [x] ++ [x * r], x * r, rfl, ?_, ?_, ?_, .step hk hr2 hr6 c1 (by omega), ?_⟩
            · obtain ⟨g, rr, e1, e2⟩ := hp4
              exact ⟨g, rr, by rw [upd_ne npo]; exact e1, e2⟩
            · intro b z n1 n2 h
              rw [upd_ne n2]
              exact hB4 b z n1 n2 h
            · rw [upd_same, List.map_append (l₂ := [x * r])]
              rfl
            · rw [List.length_append]
              simp
              simp at hl
              omega
        · exact ⟨_, _, _, x, rfl, hp4, hB4, ho4, hk, by omega⟩
      · exact ⟨_, _, _, x, rfl, hp4, hB4, ho4, hk, by omega⟩
    · rintro σ H2 ⟨y3, y4, ns, x, rfl, hp2, hB, ho2, hk, hl⟩
      refine ⟨.ref o, rfl, o, _, rfl, .inl ⟨.inl (.inl ho2), fun t nt => ?_⟩⟩
      have npt : p ≠ t := hp2.ne_none nt
      have not : o ≠ t := ne_of_none ho2 nt
      have ntH : H t = none := by
        cases e : H t with
        | none => rfl
        | some z => rw [hB t z npt.symm not.symm e] at nt; cases nt
      refine q _ t ns x (fun b z n1 h => ?_) (hp2.same (same_upd nt)) ntH upd_same hk (by omega)
      have n2 : b ≠ o := ne_of_none h no
      have h3 := hB b z n1 n2 h
      rw [upd_ne (ne_of_none h3 nt)]
      exact h3
end
end Ph

namespace Ph
open PySem PySem.Spec PyProof.Rows L2
abbrev sIsInt : Stmt := topS 1
abbrev sIsCh : Stmt := topS 5
abbrev sMay : Stmt := topS 6
abbrev sIsNum : Stmt := topS 13
abbrev sDue : Stmt := topS 14
theorem scIsInt : FnScope ["value"] ["value"] (defScope sIsInt) := ⟨rfl, rfl, rfl, by decide +kernel, rfl, by decide +kernel, by decide +kernel⟩
theorem scMay : FnScope ["larger", "size"] ["larger", "size"] (defScope sMay) := ⟨rfl, rfl, rfl, by decide +kernel, rfl, by decide +kernel, by decide +kernel⟩
theorem scIsCh : FnScope ["value", "size", "larger"] ["value"] (defScope sIsCh) := ⟨rfl, rfl, rfl, by decide +kernel, rfl, by decide +kernel, by decide +kernel⟩
theorem scIsNum : FnScope ["_law_thing", "_law_least"] ["_law_thing", "_law_least"] (defScope sIsNum) := ⟨rfl, rfl, rfl, by decide +kernel, rfl, by decide +kernel, by decide +kernel⟩
theorem scDue : FnScope ["_law_thing", "_law_size", "_law_first", "_law_second"] ["_law_thing"] (defScope sDue) := ⟨rfl, rfl, rfl, by decide +kernel, rfl, by decide +kernel, by decide +kernel⟩
theorem _root_.L2.Same.tup {K : PySem.W.Frag} {H H' : Hp} {a : Addr} {xs : List V} (e : Same H H') (h : SqT K H a xs) : SqT K H' a xs := by
  rcases h with (h | ⟨o, h⟩) | h
  · exact .inl (.inl (e _ _ h))
  · exact .inl (.inr ⟨o, e _ _ h⟩)
  · exact .inr h
theorem But.tup {K : PySem.W.Frag} {p a : Addr} {H H' : Hp} {xs : List V} (b : But p H H') (n : a ≠ p) (h : SqT K H a xs) : SqT K H' a xs := by
  rcases h with (h | ⟨o, h⟩) | h
  · exact .inl (.inl (b _ _ n h))
  · exact .inl (.inr ⟨o, b _ _ n h⟩)
  · exact .inr h
theorem cut_to {xs : List V} {j : Nat} (h : j ≤ xs.length) : cutV xs none (some (j : Int)) = xs.take j := by
  unfold cutV
  rw [show HT.sIx xs.length xs.length (some (j : Int)) = min j xs.length from HT.sIx_nat xs.length xs.length j, HT.sIx_none, Nat.min_eq_left h]
  rfl
theorem cut_from {xs : List V} {j : Nat} (h : j ≤ xs.length) : cutV xs (some (j : Int)) none = xs.drop j := by
  unfold cutV
  rw [show HT.sIx xs.length 0 (some (j : Int)) = min j xs.length from HT.sIx_nat xs.length 0 j, HT.sIx_none, Nat.min_eq_left h]
  exact List.take_of_length_le (by rw [List.length_drop]; exact Nat.le_refl _)
theorem not_from {xs : List V} {j : Nat} (h0 : 0 < j) (h : j ≤ xs.length) : ¬ (HT.sIx xs.length 0 (some (j : Int)) = 0 ∧ HT.sIx xs.length xs.length none = xs.length) := by
  rw [show HT.sIx xs.length 0 (some (j : Int)) = min j xs.length from HT.sIx_nat xs.length 0 j]
  omega
/-- a comprehension over zip of two tuples, the second one not longer -/
theorem lc_zipS {K : PySem.W.Frag} {a b : Addr} {xs ys : List V} {g : TG} {tt : TT} {te : TE} {vs : List Nat} {σ : L2.St} {H1 : Hp} {D : Addr} {Qd : Hp → Prop} (hl : ys.length ≤ xs.length) (Pv : Nat → Hp → Prop) (h0 : Pv 0 (upd H1 D (.lst []))) (hq : ∀ i H, Pv i H → SqT K H a xs ∧ SqT K H b ys)
    (hs : ∀ (i : Nat) (x y : V) (T : Addr) (H : Hp), xs[i]? = some x → ys[i]? = some y → Pv i H → H T = none → g (.ref T) (wipe σ vs) (upd H T (.tup [x, y])) fun σ2 H2 => wipe σ2 vs = wipe σ vs ∧ tt σ2 H2 fun b H3 =>
      if b = true then te σ2 H3 fun y H4 => ∃ acc, H4 D = some (.lst acc) ∧ acc.length < sizeLine ∧ Pv (i + 1) (upd H4 D (.lst (acc ++ [y]))) else Pv (i + 1) H3) (hd : ∀ H, Pv ys.length H → Qd H) :
    ∃ W : Nat → Nat → Hp → Prop, (∃ m, W 0 m (upd H1 D (.lst []))) ∧ ∀ i m H, W i m H →
      ((RZ.ItzT K a b).stop i H ∧ Qd H) ∨ ((RZ.ItzT K a b).go i H ∧ ∃ Nx : Hp → Prop, (∀ H', Nx H' → ∃ m', m' < m ∧ W (i + 1) m' H') ∧ ∀ x H', (RZ.ItzT K a b).yld i H x H' → g x (wipe σ vs) H' fun σ2 H2 => wipe σ2 vs = wipe σ vs ∧ tt σ2 H2 fun b H3 =>
        if b = true then te σ2 H3 fun y H4 => ∃ acc, H4 D = some (.lst acc) ∧ acc.length < sizeLine ∧ Nx (upd H4 D (.lst (acc ++ [y]))) else Nx H3) := by
  refine ⟨fun i m H => m = ys.length - i ∧ i ≤ ys.length ∧ Pv i H, ⟨ys.length, rfl, Nat.zero_le _, h0⟩, ?_⟩
  rintro i m H ⟨rfl, hi, p⟩
  obtain ⟨qx, qy⟩ := hq i H p
  by_cases hlt : i < ys.length
  · have hlt2 : i < xs.length := by omega
    refine .inr ⟨⟨xs, ys, _, _, qx, qy, List.getElem?_eq_getElem hlt2, List.getElem?_eq_getElem hlt⟩, Pv (i + 1), fun H' p' => ⟨ys.length - (i + 1), by omega, rfl, hlt, p'⟩, fun v H' y => ?_⟩
    obtain ⟨T, x', y', rfl, hT, rfl, f1, f2⟩ := y
    exact hs i x' y' T H (f1 xs qx) (f2 ys qy) p hT
  · have e : i = ys.length := by omega
    subst e
    exact .inl ⟨⟨xs, ys, qx, qy, Or.inr (Nat.le_refl _)⟩, hd H p⟩
/-! ### values of any kind -/
inductive Ty (H : Hp) : V → String → Prop
  | non : Ty H .non "NoneType"
  | bl (b : Bool) : Ty H (.bl b) "bool"
  | int (i : Int) : Ty H (.int i) "int"
  | str (z : Str) : Ty H (.str z) "str"
  | tup {a : Addr} {xs : List V} (e : H a = some (.tup xs)) : Ty H (.ref a) "tuple"
  | lst {a : Addr} {xs : List V} (e : H a = some (.lst xs)) : Ty H (.ref a) "list"
  | dK {a : Addr} {kvs : List (Key × V)} (e : H a = some (.dK kvs)) : Ty H (.ref a) "dict"
theorem Ty.x {K : PySem.W.Frag} {H : Hp} {x : V} {T : String} (t : Ty H x T) : TyX K H x (.type T) := by
  cases t with
  | non => exact .base .non
  | bl b => exact .base (.bl b)
  | int i => exact .base (.int i)
  | str z => exact .base (.str z)
  | tup e => exact .base (.tup e)
  | lst e => exact .base (.lst e)
  | dK e => exact .base (.dK e)
theorem Ty.same {H H' : Hp} {x : V} {T : String} (t : Ty H x T) (s : Same H H') : Ty H' x T := by
  cases t with
  | non => exact .non
  | bl b => exact .bl b
  | int i => exact .int i
  | str z => exact .str z
  | tup e => exact .tup (s _ _ e)
  | lst e => exact .lst (s _ _ e)
  | dK e => exact .dK (s _ _ e)
def isI : V → Bool
  | .int _ => true
  | _ => false
theorem Ty.kInt {H : Hp} {x : V} {T : String} (t : Ty H x T) : kitB T "int" = some (T == "int" || T == "bool") := by cases t <;> decide +kernel
theorem Ty.kBool {H : Hp} {x : V} {T : String} (t : Ty H x T) : kitB T "bool" = some (T == "bool") := by cases t <;> decide +kernel
theorem Ty.kTup {H : Hp} {x : V} {T : String} (t : Ty H x T) : kitB T "tuple" = some (T == "tuple") := by cases t <;> decide +kernel
theorem Ty.isI {H : Hp} {x : V} {T : String} (t : Ty H x T) : isI x = ((T == "int" || T == "bool") && !(T == "bool")) := by cases t <;> simp [Ph.isI]
structure Nm2 (K : PySem.W.Frag) (mg : Str → Option Value) : Prop where
  len : mg "len" = none
  abs : mg "abs" = none
  int : mg "int" = none
  range : mg "range" = none
  tuple : mg "tuple" = none
  zip : mg "zip" = none
  max : mg "max" = none
  min : mg "min" = none
  repr : mg "repr" = none
  isinstance : mg "isinstance" = none
  bool : mg "bool" = none
  all : mg "all" = none
  list : mg "list" = none
  dig : PySem.W.nsIn K cStatics "sys.int_max_str_digits" = some none
section
variable {P : Program} {w : World} {K : PySem.W.Frag} {mg : Str → Option Value} {base : Heap}
def spI : Sp := fun vs H Q _ => ∃ (x : V) (T : String), vs = [x] ∧ Ty H x T ∧ Q (.bl (isI x)) H
theorem ok_isint {f : Addr} {fd : FuncData} {k : Nat} (F : Fun K "is_integer" "is_integer" sIsInt f fd) (N : Nm2 K mg) : FnOk P w K mg base CX0 (k + 1) f fd ["value"] spI := by
  refine F.ok scIsInt (fun vs H Q E h => ?_) (fun cdv A outer s H vs Q E hr h => ?_)
  · obtain ⟨x, T, rfl, _⟩ := h
    rfl
  · obtain ⟨x, T, rfl, t, q⟩ := h
    refine ⟨_, pss_one (ps_ret (pe_and (pe_callB call_isi (by rfl) N.isinstance (by decide +kernel) (pa_cons (pv 0) (pa_cons (pe_bltn (v := .ty "int") (by rfl) N.int (by decide +kernel) rfl) pa_nil)))
      (pe_one (pe_not (pe_callB call_isi (by rfl) N.isinstance (by decide +kernel) (pa_cons (pv 0) (pa_cons (pe_bltn (v := .ty "bool") (by rfl) N.bool (by decide +kernel) rfl) pa_nil))))))), ?_⟩
    refine ⟨x, rfl, x, .ty "int", .type T, .type "int", _, rfl, .ty _, t.x, kit_ty t.kInt, _, rfl, ite2 (fun c => ?_) (fun c => ?_)⟩
    · refine ⟨x, rfl, x, .ty "bool", .type T, .type "bool", _, rfl, .ty _, t.x, kit_ty t.kBool, _, rfl, ?_⟩
      rw [t.isI, c] at q
      exact q
    · have c' : (T == "int" || T == "bool") = false := by
        cases e : (T == "int" || T == "bool") with
        | true => exact absurd e c
        | false => rfl
      rw [t.isI, c'] at q
      exact q
def follow (s l : Int) : Bool := decide (0 < s ∧ s < l ∧ l % s = 0)
def spMay : Sp := fun vs H Q _ => ∃ (l s : Int), vs = [.int l, .int s] ∧ Q (.bl (follow s l)) H
theorem ok_may {f : Addr} {fd : FuncData} {k : Nat} (F : Fun K "may_follow" "may_follow" sMay f fd) : FnOk P w K mg base CX0 (k + 1) f fd ["larger", "size"] spMay := by
  refine F.ok scMay (fun vs H Q E h => ?_) (fun cdv A outer s H vs Q E hr h => ?_)
  · obtain ⟨x, T, rfl, _⟩ := h
    rfl
  · obtain ⟨l, z, rfl, q⟩ := h
    refine ⟨_, pss_one (ps_ret (pe_and (pe_chain op_lt op_lt pe_int (pv 1) (pv 0)) (pe_one (pe_cmpR op_eq (pe_op op_mod (pv 0) (pv 1)) pe_int (nomark _))))), ?_⟩
    refine ⟨.int z, rfl, _, _, rfl, rfl, _, rfl, ite2 (fun c => ?_) (fun c => ?_)⟩
    · have c1 : 0 < z := of_decide_eq_true c
      refine ⟨.int l, rfl, _, _, rfl, rfl, _, rfl, ite2 (fun c => ?_) (fun c => ?_)⟩
      · have c2 : z < l := of_decide_eq_true c
        refine ⟨.int l, rfl, .int z, rfl, _, _, rfl, rfl, c1, rfl, ?_⟩
        have e : follow z l = decide (V.int (l % z) = V.int 0) := by
          unfold follow
          rw [decide_eq_decide]
          exact ⟨fun h => by rw [h.2.2], fun h => ⟨c1, c2, V.int.inj h⟩⟩
        rw [e] at q
        exact q
      · have e : follow z l = false := decide_eq_false fun h => c (decide_eq_true h.2.1)
        rw [e] at q
        exact q
    · have e : follow z l = false := decide_eq_false fun h => c (decide_eq_true h.1)
      rw [e] at q
      exact ⟨_, rfl, iteF q⟩
/-- a tuple of typed things, or a thing of another type -/
def Vd (H : Hp) (x : V) : Prop := (∃ T, Ty H x T ∧ T ≠ "tuple") ∨ ∃ a xs, x = .ref a ∧ H a = some (.tup xs) ∧ ∀ y ∈ xs, ∃ T, Ty H y T
theorem Vd.ty {H : Hp} {x : V} (v : Vd H x) : ∃ T, Ty H x T := by
  rcases v with ⟨T, t, _⟩ | ⟨a, xs, rfl, e, _⟩
  · exact ⟨T, t⟩
  · exact ⟨_, .tup e⟩
theorem Vd.same {H H' : Hp} {x : V} (v : Vd H x) (s : Same H H') : Vd H' x := by
  rcases v with ⟨T, t, n⟩ | ⟨a, xs, rfl, e, h⟩
  · exact .inl ⟨T, t.same s, n⟩
  · exact .inr ⟨a, xs, rfl, s _ _ e, fun y hy => by obtain ⟨T, t⟩ := h y hy; exact ⟨T, t.same s⟩⟩
/-- each one a larger multiple of the one before -/
def ups : List Int → Bool
  | s :: l :: r => follow s l && ups (l :: r)
  | _ => true
def okC (ns : List Int) : Prop := 1 ≤ ns.length ∧ ns.length ≤ 12 ∧ ns[0]? = some 1 ∧ (∀ n ∈ ns, n ≤ 1000000000) ∧ ups ns = true
def IsC (H : Hp) (x : V) : Prop := ∃ a ns, x = .ref a ∧ H a = some (.tup (ns.map V.int)) ∧ okC ns
def spCh : Sp := fun vs H Q _ => ∃ x : V, vs = [x] ∧ Vd H x ∧ ∀ H' b, Same H H' → (b = true ↔ IsC H x) → Q (.bl b) H'
theorem all_ints : ∀ {xs : List V}, (xs.map isI).all id = true → ∃ ns : List Int, xs = ns.map V.int
  | [], _ => ⟨[], rfl⟩
  | x :: r, h => by
    rw [List.map_cons, List.all_cons, Bool.and_eq_true] at h
    obtain ⟨ns, e⟩ := all_ints h.2
    cases x with
    | int i => exact ⟨i :: ns, by rw [e]; rfl⟩
    | _ => exact absurd h.1 Bool.false_ne_true
theorem ints_all (ns : List Int) : ((ns.map V.int).map isI).all id = true := by
  rw [List.all_eq_true]
  intro b hb
  rw [List.map_map] at hb
  obtain ⟨n, _, e⟩ := List.mem_map.mp hb
  rw [← e]
  rfl
theorem ints_inj : ∀ {a b : List Int}, a.map V.int = b.map V.int → a = b
  | [], [], _ => rfl
  | [], _ :: _, h => by simp at h
  | _ :: _, [], h => by simp at h
  | x :: r, y :: t, h => by
    rw [List.map_cons, List.map_cons] at h
    injection h with h1 h2
    injection h1 with h1
    rw [h1, ints_inj h2]
theorem ups_all : ∀ ns : List Int, ups ns = (List.zipWith follow ns ns.tail).all id
  | [] => rfl
  | [_] => rfl
  | s :: l :: r => by
    show (follow s l && ups (l :: r)) = (follow s l :: List.zipWith follow (l :: r) r).all id
    rw [ups_all (l :: r), List.all_cons]
    rfl
theorem ups_mem : ∀ (s : Int) (ns : List Int) (z : Int), ups (s :: ns) = true → (s :: ns).getLast? = some z → 0 < s ∨ ns = [] → ∀ n ∈ s :: ns, s ≤ n ∧ n ≤ z
  | s, [], z, _, h, _ => by
    intro n hn
    have e : s = z := Option.some.inj h
    rcases List.mem_cons.mp hn with e1 | e1
    · omega
    · cases e1
  | s, l :: r, z, hu, h, _ => by
    intro n hn
    rw [show ups (s :: l :: r) = (follow s l && ups (l :: r)) from rfl, Bool.and_eq_true] at hu
    have f : 0 < s ∧ s < l ∧ l % s = 0 := of_decide_eq_true hu.1
    rw [List.getLast?_cons_cons] at h
    have ih := ups_mem l r z hu.2 h (.inl (by omega))
    rcases List.mem_cons.mp hn with e1 | e1
    · have := ih l (List.mem_cons_self ..)
      omega
    · have := ih n e1
      omega
theorem zw_get {s l : Int} {ns : List Int} {i : Nat} (h1 : ns[i]? = some s) (h2 : ns.tail[i]? = some l) : (List.zipWith follow ns ns.tail)[i]? = some (follow s l) := by
  rw [List.getElem?_zipWith, h1, h2]
theorem ok_isch {f fI fM : Addr} {fd fdI fdM : FuncData} {k : Nat} {t1 t2 : Tok} (F : Fun K "is_chain" "is_chain" sIsCh f fd) (N : Nm2 K mg)
    (FI : Fun K "is_integer" "is_integer" sIsInt fI fdI) (bI : Binds K fdI ["value"] []) (gI : mg "is_integer" = some (.ref fI))
    (FM : Fun K "may_follow" "may_follow" sMay fM fdM) (bM : Binds K fdM ["larger", "size"] []) (gM : mg "may_follow" = some (.ref fM))
    (m1 : mg "MOST_SIZES" = some (.int 12 t1)) (m2 : mg "LARGEST_SIZE" = some (.int 1000000000 t2)) : FnOk P w K mg base CX0 (k + 1 + 1) f fd ["value"] spCh := by
  have GI : FnOk P w K mg base CX0 (k + 1) fI fdI ["value"] spI := ok_isint FI N
  have GM : FnOk P w K mg base CX0 (k + 1) fM fdM ["larger", "size"] spMay := ok_may FM
  refine F.ok scIsCh (fun vs H Q E h => ?_) (fun cdv A outer s H vs Q E hr h => ?_)
  · obtain ⟨x, rfl, _⟩ := h
    rfl
  · obtain ⟨x, rfl, v, q⟩ := h
    refine ⟨_, pss_cons (ps_if (PW.pt (pw_or (pt_not (pt_val (pe_callB call_isi (by rfl) N.isinstance (by decide +kernel) (pa_cons (pv 0) (pa_cons (pe_bltn (v := .ty "tuple") (by rfl) N.tuple (by decide +kernel) rfl) pa_nil)))))
        (pw_or1 (pt_not (pt_chain op_le op_le pe_int (pe_callB call_len_seq (by rfl) N.len PySem.boot_len (pa_cons (pv 0) pa_nil)) (pe_glob (v := .int 12) (by rfl) m1 ⟨_, rfl⟩)))))) (pss_one (ps_ret pe_bl)) pss_nil)
      (pss_cons (ps_if (pt_not (pt_val (pe_callB (cr_all rfl) (by rfl) N.all (by decide +kernel) (pa_cons (pe_lc (own := [("size", 1)]) (g := gName 1) (tt := tYes) (by rfl) scIsCh.nd (pi_tup (pv 0)) (blkOk_by (N := ["value", "size", "larger"]) (sc := defScope sIsCh) (by decide +kernel))
          (fun _ _ _ _ _ => pg_name (i := 1) scIsCh.nd rfl (.inl rfl)) (fun _ _ _ _ _ => pts_nil) (fun _ _ _ _ _ => pe_call GI hr (by rfl) gI FI.kp bI .nil pass0 (pa_cons (pv 1) pa_nil))) pa_nil)))) (pss_one (ps_ret pe_bl)) pss_nil)
      (pss_cons (ps_if (PW.pt (pw_or (pt_cmpR op_ne (pe_ix ix_tup (pv 0) pe_int (fun _ _ => rfl)) pe_int (nomark _)) (pw_or1 (pt_cmpR op_gt (pe_ix ix_tup (pv 0) (pe_un un_neg pe_int) (fun _ _ => rfl)) (pe_glob (v := .int 1000000000) (by rfl) m2 ⟨_, rfl⟩) (nomark _))))) (pss_one (ps_ret pe_bl)) pss_nil)
      (pss_one (ps_ret (pe_callB (cr_all rfl) (by rfl) N.all (by decide +kernel) (pa_cons (pe_lc (own := [("size", 1), ("larger", 2)]) (g := gTup K 2 (gCons (gName 1) (gCons (gName 2) gNil))) (tt := tYes) (by rfl) scIsCh.nd (RZ.pi_zipA (by rfl) N.zip (pa_cons (pv 0) (pa_cons (pe_slice sl_tup (pv 0) (po_some pe_int) po_none) pa_nil))) (blkOk_by (N := ["value", "size", "larger"]) (sc := defScope sIsCh) (by decide +kernel))
          (fun _ _ _ _ _ => pg_tup rfl (pgs_cons (pg_name (i := 1) scIsCh.nd rfl (.inl rfl)) (pgs_cons (pg_name (i := 2) scIsCh.nd rfl (.inl rfl)) pgs_nil))) (fun _ _ _ _ _ => pts_nil) (fun _ _ _ _ _ => pe_call GM hr (by rfl) gM FM.kp bM .nil pass0 (pa_cons (pv 2) (pa_cons (pv 1) pa_nil)))) pa_nil)))))), ?_⟩
    rcases v with ⟨T, t, nT⟩ | ⟨a, xs, rfl, e, hx⟩
    · have eT : (T == "tuple") = false := beq_eq_false_iff_ne.mpr nT
      refine ⟨x, rfl, x, .ty "tuple", .type T, .type "tuple", _, rfl, .ty _, t.x, kit_ty t.kTup, _, rfl, ?_⟩
      rw [eT]
      refine iteT ?_
      refine q _ _ (Same.refl H) ⟨fun z => (Bool.false_ne_true z).elim, fun ⟨a, ns, e1, e2, _⟩ => ?_⟩
      subst e1
      cases t with
      | tup e => exact absurd rfl nT
      | lst e => rw [e2] at e; cases e
      | dK e => rw [e2] at e; cases e
    · have t : Ty H (.ref a) "tuple" := .tup e
      have hT : SqT K H a xs := .inl (.inl e)
      refine ⟨.ref a, rfl, .ref a, .ty "tuple", .type "tuple", .type "tuple", _, rfl, .ty _, t.x, kit_ty t.kTup, _, rfl, iteF ?_⟩
      refine ⟨.ref a, rfl, a, xs, rfl, .inr hT, _, _, rfl, rfl, _, rfl, ite2 (fun c => ?_) (fun c => ?_)⟩
      · have c1 : (1 : Int) ≤ (xs.length : Nat) := of_decide_eq_true c
        refine ⟨_, _, rfl, rfl, _, rfl, ?_⟩
        by_cases c2 : ((xs.length : Nat) : Int) ≤ 12
        · rw [decide_eq_true c2]
          refine iteF ?_
          have lx : xs.length ≤ 12 := by omega
          refine ⟨.ref a, rfl, a, rfl, ⟨xs, hT⟩, fun D nD => lc_tup (K := K) (a := a) (xs := xs) (fun i H2 => Same H H2 ∧ H2 D = some (.lst (((xs.take i).map isI).map V.bl))) ⟨same_upd nD, upd_same⟩ (fun i H2 _ p => p.1.tup hT) (fun i y H2 hy p => ?_) (fun H2 p => ?_)⟩
          · obtain ⟨sm, hD⟩ := p
            obtain ⟨T, ty⟩ := hx y (List.mem_of_getElem? hy)
            refine ⟨rfl, y, rfl, y, T, rfl, ty.same sm, _, hD, ?_, fun b o ho => ?_, ?_⟩
            · rw [List.length_map, List.length_map, List.length_take]
              exact small1000 (by omega)
            · rw [upd_ne (ne_of_none ho nD)]
              exact sm _ _ ho
            · rw [upd_same, List.take_add_one, hy]
              simp
          · obtain ⟨sm, hD⟩ := p
            rw [List.take_length] at hD
            refine ⟨D, _, rfl, .inl (.inl hD), _, rfl, ?_⟩
            by_cases ca : (xs.map isI).all id = true
            · rw [ca]
              refine iteF ?_
              obtain ⟨ns, rfl⟩ := all_ints ca
              rw [List.length_map] at lx c1
              obtain ⟨n0, r, rfl⟩ : ∃ n0 r, ns = n0 :: r := by
                cases ns with
                | nil => simp at c1
                | cons x y => exact ⟨x, y, rfl⟩
              have hT2 := sm.tup hT
              refine ⟨.ref a, rfl, a, _, 0, .int n0, rfl, rfl, hT2, atI_nat (j := 0) rfl, rfl, _, rfl, ?_⟩
              by_cases c3 : n0 = 1
              · subst c3
                refine iteNS rfl ?_
                obtain ⟨z, hz⟩ : ∃ z, ((1 : Int) :: r).getLast? = some z := ⟨_, List.getLast?_eq_getLast (List.cons_ne_nil 1 r)⟩
                have gl : atI ((((1 : Int) :: r)).map V.int) (-1) = some (.int z) := by
                  obtain ⟨l, e⟩ := List.getLast?_eq_some_iff.mp hz
                  rw [e, List.map_append]
                  exact atI_last _ _
                refine ⟨.ref a, rfl, 1, rfl, a, _, -1, _, rfl, rfl, hT2, gl, _, _, rfl, rfl, _, rfl, ?_⟩
                by_cases c4 : (1000000000 : Int) < z
                · rw [decide_eq_true c4]
                  refine iteT (q _ _ sm ⟨fun z => (Bool.false_ne_true z).elim, fun ⟨a2, ns, e1, e2, h1, h2, h3, h4, h5⟩ => ?_⟩)
                  cases e1
                  rw [e] at e2
                  have e3 := Option.some.inj e2
                  injection e3 with e3
                  have e4 : (1 : Int) :: r = ns := ints_inj e3
                  subst e4
                  have := h4 z (List.mem_of_getLast? hz)
                  omega
                · rw [decide_eq_false c4]
                  refine iteF ?_
                  refine ⟨.ref a, rfl, .ref a, rfl, 1, rfl, a, _, rfl, hT2, not_from (j := 1) (by decide) (by simp), fun d nd => ?_⟩
                  have sd := same_upd (o := .tup (cutV (((1 : Int) :: r).map V.int) (some 1) none)) nd
                  have hd : SqT K (upd H2 d (.tup (cutV (((1 : Int) :: r).map V.int) (some 1) none))) d (r.map V.int) := by
                    refine .inl (.inl ?_)
                    rw [upd_same, show cutV (((1 : Int) :: r).map V.int) (some 1) none = (((1 : Int) :: r).map V.int).drop 1 from cut_from (j := 1) (by simp)]
                    rfl
                  refine ⟨a, d, _, _, rfl, .inr ⟨sd.tup hT2, hd, fun D2 nD2 => lc_zipS (K := K) (a := a) (b := d) (xs := ((1 : Int) :: r).map V.int) (ys := r.map V.int) (by simp) (fun i H3 => Same (upd H2 d (.tup (cutV (((1 : Int) :: r).map V.int) (some 1) none))) H3 ∧ H3 D2 = some (.lst (((List.zipWith follow ((1 : Int) :: r) r).take i).map V.bl))) ⟨same_upd nD2, upd_same⟩ (fun i H3 p => ⟨p.1.tup (sd.tup hT2), p.1.tup hd⟩) (fun i x y T H3 hx hy p nT => ?_) (fun H3 p => ?_)⟩⟩
                  · obtain ⟨sm3, hD3⟩ := p
                    rw [List.getElem?_map] at hx hy
                    obtain ⟨sx, ex1, ex2⟩ := Option.map_eq_some_iff.mp hx
                    obtain ⟨sy, ey1, ey2⟩ := Option.map_eq_some_iff.mp hy
                    subst ex2; subst ey2
                    have nDT : D2 ≠ T := ne_of_none hD3 nT
                    refine ⟨T, _, rfl, .inl (.inl upd_same), rfl, _, _, rfl, _, _, rfl, rfl, rfl, .int sy, rfl, .int sx, rfl, sy, sx, rfl, _, (by rw [upd_ne nDT]; exact hD3), ?_, fun b o ho => ?_, ?_⟩
                    · rw [List.length_map, List.length_take, List.length_zipWith]
                      simp at lx
                      exact small1000 (by omega)
                    · rw [upd_ne (ne_of_none ho nD2), upd_ne (ne_of_none (sm3 _ _ ho) nT)]
                      exact sm3 _ _ ho
                    · rw [upd_same, List.take_add_one, show (List.zipWith follow ((1 : Int) :: r) r)[i]? = some (follow sx sy) from zw_get (ns := (1 : Int) :: r) ex1 ey1]
                      simp
                  · obtain ⟨sm3, hD3⟩ := p
                    rw [List.take_of_length_le (by simp)] at hD3
                    refine ⟨D2, _, rfl, .inl (.inl hD3), q _ _ (sm.trans (sd.trans sm3)) ?_⟩
                    have eu := ups_all ((1 : Int) :: r)
                    rw [show ((1 : Int) :: r).tail = r from rfl] at eu
                    rw [← eu]
                    constructor
                    · intro hu
                      refine ⟨a, _, rfl, e, ?_, ?_, rfl, fun n hn => ?_, hu⟩
                      · simp
                      · exact lx
                      · have := (ups_mem 1 r z hu hz (.inl (by decide)) n hn).2
                        omega
                    · rintro ⟨a2, ns, e1, e2, h1, h2, h3, h4, h5⟩
                      cases e1
                      rw [e] at e2
                      have e3 := Option.some.inj e2
                      injection e3 with e3
                      have e4 : (1 : Int) :: r = ns := ints_inj e3
                      rw [e4]
                      exact h5
              · have nd : ¬ (V.int n0 = V.int 1) := fun z => c3 (V.int.inj z)
                rw [decide_eq_false nd]
                refine iteT (q _ _ sm ⟨fun z => (Bool.false_ne_true z).elim, fun ⟨a2, ns, e1, e2, h1, h2, h3, h4, h5⟩ => ?_⟩)
                cases e1
                rw [e] at e2
                have e3 := Option.some.inj e2
                injection e3 with e3
                cases ns with
                | nil => simp at h1
                | cons m rr =>
                  rw [List.map_cons, List.map_cons] at e3
                  injection e3 with e5 e6
                  injection e5 with e5
                  have e7 : m = 1 := by simpa using h3
                  exact (c3 (by omega)).elim
            · have ca' : (xs.map isI).all id = false := by
                cases ez : (xs.map isI).all id with
                | true => exact absurd ez ca
                | false => rfl
              rw [ca']
              refine iteT (q _ _ sm ⟨fun z => (Bool.false_ne_true z).elim, fun ⟨a2, ns, e1, e2, h1, h2, h3, h4, h5⟩ => ?_⟩)
              cases e1
              rw [e] at e2
              have e3 := Option.some.inj e2
              injection e3 with e3
              rw [e3] at ca
              exact (ca (ints_all ns)).elim
        · rw [decide_eq_false c2]
          refine iteT (q _ _ (Same.refl H) ⟨fun z => (Bool.false_ne_true z).elim, fun ⟨a2, ns, e1, e2, h1, h2, h3, h4, h5⟩ => ?_⟩)
          cases e1
          rw [e] at e2
          have e3 := Option.some.inj e2
          injection e3 with e3
          rw [e3, List.length_map] at c2
          omega
      · refine ⟨_, rfl, iteT (q _ _ (Same.refl H) ⟨fun z => (Bool.false_ne_true z).elim, fun ⟨a2, ns, e1, e2, h1, h2, h3, h4, h5⟩ => ?_⟩)⟩
        cases e1
        rw [e] at e2
        have e3 := Option.some.inj e2
        injection e3 with e3
        rw [e3, List.length_map] at c
        exact (c (decide_eq_true (by omega))).elim
end
end Ph

namespace Ph
open PySem PySem.Spec PyProof.Rows L2
section
variable {P : Program} {w : World} {K : PySem.W.Frag} {mg : Str → Option Value} {base : Heap}
def geI (l : Int) : V → Bool
  | .int i => decide (l ≤ i)
  | _ => false
def spNum : Sp := fun vs H Q _ => ∃ (x : V) (T : String) (l : Int), vs = [x, .int l] ∧ Ty H x T ∧ Q (.bl (geI l x)) H
theorem ok_isnum {f : Addr} {fd : FuncData} {k : Nat} (F : Fun K "_law_is_number" "_law_is_number" sIsNum f fd) (N : Nm2 K mg) : FnOk P w K mg base CX0 (k + 1) f fd ["_law_thing", "_law_least"] spNum := by
  refine F.ok scIsNum (fun vs H Q E h => ?_) (fun cdv A outer s H vs Q E hr h => ?_)
  · obtain ⟨x, T, l, rfl, _⟩ := h
    rfl
  · obtain ⟨x, T, l, rfl, t, q⟩ := h
    refine ⟨_, pss_one (ps_ret (pe_and (pe_callB call_isi (by rfl) N.isinstance (by decide +kernel) (pa_cons (pv 0) (pa_cons (pe_bltn (v := .ty "int") (by rfl) N.int (by decide +kernel) rfl) pa_nil)))
      (pe_and (pe_not (pe_callB call_isi (by rfl) N.isinstance (by decide +kernel) (pa_cons (pv 0) (pa_cons (pe_bltn (v := .ty "bool") (by rfl) N.bool (by decide +kernel) rfl) pa_nil))))
      (pe_one (pe_cmpR op_ge (pv 0) (pv 1) (nomark _)))))), ?_⟩
    refine ⟨x, rfl, x, .ty "int", .type T, .type "int", _, rfl, .ty _, t.x, kit_ty t.kInt, _, rfl, ?_⟩
    cases t with
    | int i => exact iteT ⟨_, rfl, _, .ty "bool", .type "int", .type "bool", _, rfl, .ty _, (Ty.int i).x, kit_ty (Ty.kBool (H := H) (.int i)), _, rfl, _, rfl, iteT ⟨.int i, rfl, .int l, rfl, _, _, rfl, rfl, q⟩⟩
    | bl b => exact iteT ⟨_, rfl, _, .ty "bool", .type "bool", .type "bool", _, rfl, .ty _, (Ty.bl b).x, kit_ty (Ty.kBool (H := H) (.bl b)), _, rfl, _, rfl, iteF q⟩
    | non => exact iteF q
    | str z => exact iteF q
    | tup e => exact iteF q
    | lst e => exact iteF q
    | dK e => exact iteF q
def numB : V → Bool
  | .int i => decide (1 ≤ i) && decide (i ≤ 1000000000)
  | _ => false
theorem all_nums : ∀ {xs : List V}, (xs.map numB).all id = true → ∃ ns : List Int, xs = ns.map V.int ∧ ∀ n ∈ ns, 1 ≤ n ∧ n ≤ 1000000000
  | [], _ => ⟨[], rfl, by simp⟩
  | x :: r, h => by
    rw [List.map_cons, List.all_cons, Bool.and_eq_true] at h
    obtain ⟨ns, e, hn⟩ := all_nums h.2
    cases x with
    | int i =>
      have h1 : (decide (1 ≤ i) && decide (i ≤ 1000000000)) = true := h.1
      rw [Bool.and_eq_true, decide_eq_true_eq, decide_eq_true_eq] at h1
      refine ⟨i :: ns, by rw [e]; rfl, fun n hm => ?_⟩
      rcases List.mem_cons.mp hm with e1 | e1
      · rw [e1]; exact h1
      · exact hn n e1
    | _ => exact absurd h.1 Bool.false_ne_true
theorem nums_all {ns : List Int} (h : ∀ n ∈ ns, 1 ≤ n ∧ n ≤ 1000000000) : ((ns.map V.int).map numB).all id = true := by
  rw [List.all_eq_true]
  intro b hb
  rw [List.map_map] at hb
  obtain ⟨n, hn, e⟩ := List.mem_map.mp hb
  rw [← e]
  have := h n hn
  show (decide (1 ≤ n) && decide (n ≤ 1000000000)) = true
  rw [decide_eq_true this.1, decide_eq_true this.2]
  rfl
theorem okC_low {ns : List Int} (h : okC ns) : ∀ n ∈ ns, 1 ≤ n ∧ n ≤ 1000000000 := by
  obtain ⟨h1, h2, h3, h4, h5⟩ := h
  cases ns with
  | nil => simp at h1
  | cons m r =>
    have e : m = 1 := by simpa using h3
    subst e
    obtain ⟨z, hz⟩ : ∃ z, ((1 : Int) :: r).getLast? = some z := ⟨_, List.getLast?_eq_getLast (List.cons_ne_nil 1 r)⟩
    exact fun n hn => ⟨(ups_mem 1 r z h5 hz (.inl (by decide)) n hn).1, h4 n hn⟩
theorem ok_due {f fI : Addr} {fd fdI : FuncData} {k : Nat} (F : Fun K "_law_due" "_law_due" sDue f fd) (N : Nm2 K mg)
    (FI : Fun K "_law_is_number" "_law_is_number" sIsNum fI fdI) (bI : Binds K fdI ["_law_thing", "_law_least"] []) (gI : mg "_law_is_number" = some (.ref fI)) : FnOk P w K mg base CX0 (k + 1 + 1) f fd ["_law_thing"] spCh := by
  have GI : FnOk P w K mg base CX0 (k + 1) fI fdI ["_law_thing", "_law_least"] spNum := ok_isnum FI N
  refine F.ok scDue (fun vs H Q E h => ?_) (fun cdv A outer s H vs Q E hr h => ?_)
  · obtain ⟨x, rfl, _⟩ := h
    rfl
  · obtain ⟨x, rfl, v, q⟩ := h
    refine ⟨_, pss_cons (ps_if (PW.pt (pw_or (pt_not (pt_val (pe_callB call_isi (by rfl) N.isinstance (by decide +kernel) (pa_cons (pv 0) (pa_cons (pe_bltn (v := .ty "tuple") (by rfl) N.tuple (by decide +kernel) rfl) pa_nil)))))
        (pw_or1 (pt_not (pt_chain op_le op_le pe_int (pe_callB call_len_seq (by rfl) N.len PySem.boot_len (pa_cons (pv 0) pa_nil)) pe_int))))) (pss_one (ps_ret pe_bl)) pss_nil)
      (pss_cons (ps_if (PW.pt (pw_or (pt_not (pt_val (pe_callB (cr_all rfl) (by rfl) N.all (by decide +kernel) (pa_cons (pe_lc (own := [("_law_size", 1)]) (g := gName 1) (tt := tYes) (by rfl) scDue.nd (pi_tup (pv 0)) (blkOk_by (N := ["_law_thing", "_law_size", "_law_first", "_law_second"]) (sc := defScope sDue) (by decide +kernel))
          (fun _ _ _ _ _ => pg_name (i := 1) scDue.nd rfl (.inl rfl)) (fun _ _ _ _ _ => pts_nil) (fun _ _ _ _ _ => pe_and (pe_call GI hr (by rfl) gI FI.kp bI .nil pass0 (pa_cons (pv 1) (pa_cons pe_int pa_nil))) (pe_one (pe_cmpR op_le (pv 1) (pe_op op_pow pe_int pe_int) (nomark _))))) pa_nil))))
          (pw_or1 (pt_cmpR op_ne (pe_ix ix_tup (pv 0) pe_int (fun _ _ => rfl)) pe_int (nomark _))))) (pss_one (ps_ret pe_bl)) pss_nil)
      (pss_one (ps_ret (pe_callB (cr_all rfl) (by rfl) N.all (by decide +kernel) (pa_cons (pe_lc (own := [("_law_first", 2), ("_law_second", 3)]) (g := gTup K 2 (gCons (gName 2) (gCons (gName 3) gNil))) (tt := tYes) (by rfl) scDue.nd (RZ.pi_zipA (by rfl) N.zip (pa_cons (pv 0) (pa_cons (pe_slice sl_tup (pv 0) (po_some pe_int) po_none) pa_nil))) (blkOk_by (N := ["_law_thing", "_law_size", "_law_first", "_law_second"]) (sc := defScope sDue) (by decide +kernel))
          (fun _ _ _ _ _ => pg_tup rfl (pgs_cons (pg_name (i := 2) scDue.nd rfl (.inl rfl)) (pgs_cons (pg_name (i := 3) scDue.nd rfl (.inl rfl)) pgs_nil))) (fun _ _ _ _ _ => pts_nil) (fun _ _ _ _ _ => pe_and (pe_cmpR op_eq (pe_op op_mod (pv 3) (pv 2)) pe_int (nomark _)) (pe_one (pe_cmpR op_gt (pv 3) (pv 2) (nomark _))))) pa_nil))))), ?_⟩
    rcases v with ⟨T, t, nT⟩ | ⟨a, xs, rfl, e, hx⟩
    · have eT : (T == "tuple") = false := beq_eq_false_iff_ne.mpr nT
      refine ⟨x, rfl, x, .ty "tuple", .type T, .type "tuple", _, rfl, .ty _, t.x, kit_ty t.kTup, _, rfl, ?_⟩
      rw [eT]
      refine iteT ?_
      refine q _ _ (Same.refl H) ⟨fun z => (Bool.false_ne_true z).elim, fun ⟨a, ns, e1, e2, _⟩ => ?_⟩
      subst e1
      cases t with
      | tup e => exact absurd rfl nT
      | lst e => rw [e2] at e; cases e
      | dK e => rw [e2] at e; cases e
    · have t : Ty H (.ref a) "tuple" := .tup e
      have hT : SqT K H a xs := .inl (.inl e)
      have noC : ∀ {H' : Hp}, Same H H' → (∀ ns, xs = ns.map V.int → ¬ okC ns) → Q (.bl false) H' := fun sm h => q _ _ sm ⟨fun z => (Bool.false_ne_true z).elim, fun ⟨a2, ns, e1, e2, h1⟩ => by
        cases e1
        rw [e] at e2
        have e3 := Option.some.inj e2
        injection e3 with e3
        exact (h ns e3 h1).elim⟩
      refine ⟨.ref a, rfl, .ref a, .ty "tuple", .type "tuple", .type "tuple", _, rfl, .ty _, t.x, kit_ty t.kTup, _, rfl, iteF ?_⟩
      refine ⟨.ref a, rfl, a, xs, rfl, .inr hT, _, _, rfl, rfl, _, rfl, ite2 (fun c => ?_) (fun c => ?_)⟩
      · have c1 : (1 : Int) ≤ (xs.length : Nat) := of_decide_eq_true c
        refine ⟨_, _, rfl, rfl, _, rfl, ?_⟩
        by_cases c2 : ((xs.length : Nat) : Int) ≤ 12
        · rw [decide_eq_true c2]
          refine iteF ?_
          have lx : xs.length ≤ 12 := by omega
          refine ⟨.ref a, rfl, a, rfl, ⟨xs, hT⟩, fun D nD => lc_tup (K := K) (a := a) (xs := xs) (fun i H2 => Same H H2 ∧ H2 D = some (.lst (((xs.take i).map numB).map V.bl))) ⟨same_upd nD, upd_same⟩ (fun i H2 _ p => p.1.tup hT) (fun i y H2 hy p => ?_) (fun H2 p => ?_)⟩
          · obtain ⟨sm, hD⟩ := p
            obtain ⟨T, ty⟩ := hx y (List.mem_of_getElem? hy)
            have fin : ∃ acc, H2 D = some (.lst acc) ∧ acc.length < sizeLine ∧ Same H (upd H2 D (.lst (acc ++ [.bl (numB y)]))) ∧ upd H2 D (.lst (acc ++ [.bl (numB y)])) D = some (.lst (((xs.take (i + 1)).map numB).map V.bl)) := by
              refine ⟨_, hD, ?_, fun b o ho => ?_, ?_⟩
              · rw [List.length_map, List.length_map, List.length_take]
                exact small1000 (by omega)
              · rw [upd_ne (ne_of_none ho nD)]
                exact sm _ _ ho
              · rw [upd_same, List.take_add_one, hy]
                simp
            refine ⟨rfl, y, rfl, y, T, 1, rfl, ty.same sm, _, rfl, ?_⟩
            cases y with
            | int i =>
              by_cases c3 : 1 ≤ i
              · have e1 : geI 1 (.int i) = true := decide_eq_true c3
                have e2 : numB (.int i) = decide (i ≤ 1000000000) := by
                  show (decide (1 ≤ i) && decide (i ≤ 1000000000)) = _
                  rw [decide_eq_true c3]
                  rfl
                rw [e1]
                rw [e2] at fin
                exact iteT ⟨.int i, rfl, _, _, rfl, rfl, ⟨by decide, by decide, by decide⟩, _, _, rfl, rfl, fin⟩
              · have e1 : geI 1 (.int i) = false := decide_eq_false c3
                have e2 : numB (.int i) = false := by
                  show (decide (1 ≤ i) && decide (i ≤ 1000000000)) = _
                  rw [decide_eq_false c3]
                  rfl
                rw [e1]
                rw [e2] at fin
                exact iteF fin
            | _ => exact iteF fin
          · obtain ⟨sm, hD⟩ := p
            rw [List.take_length] at hD
            refine ⟨D, _, rfl, .inl (.inl hD), _, rfl, ?_⟩
            by_cases ca : (xs.map numB).all id = true
            · rw [ca]
              refine iteF ?_
              obtain ⟨ns, rfl, hns⟩ := all_nums ca
              rw [List.length_map] at lx c1
              obtain ⟨n0, r, rfl⟩ : ∃ n0 r, ns = n0 :: r := by
                cases ns with
                | nil => simp at c1
                | cons x y => exact ⟨x, y, rfl⟩
              have hT2 := sm.tup hT
              refine ⟨.ref a, rfl, a, _, 0, .int n0, rfl, rfl, hT2, atI_nat (j := 0) rfl, rfl, _, rfl, ?_⟩
              by_cases c3 : n0 = 1
              · subst c3
                refine iteNS rfl ?_
                refine ⟨.ref a, rfl, .ref a, rfl, 1, rfl, a, _, rfl, hT2, not_from (j := 1) (by decide) (by simp), fun d nd => ?_⟩
                have sd := same_upd (o := .tup (cutV (((1 : Int) :: r).map V.int) (some 1) none)) nd
                have hd : SqT K (upd H2 d (.tup (cutV (((1 : Int) :: r).map V.int) (some 1) none))) d (r.map V.int) := by
                  refine .inl (.inl ?_)
                  rw [upd_same, show cutV (((1 : Int) :: r).map V.int) (some 1) none = (((1 : Int) :: r).map V.int).drop 1 from cut_from (j := 1) (by simp)]
                  rfl
                refine ⟨a, d, _, _, rfl, .inr ⟨sd.tup hT2, hd, fun D2 nD2 => lc_zipS (K := K) (a := a) (b := d) (xs := ((1 : Int) :: r).map V.int) (ys := r.map V.int) (by simp) (fun i H3 => Same (upd H2 d (.tup (cutV (((1 : Int) :: r).map V.int) (some 1) none))) H3 ∧ H3 D2 = some (.lst (((List.zipWith follow ((1 : Int) :: r) r).take i).map V.bl))) ⟨same_upd nD2, upd_same⟩ (fun i H3 p => ⟨p.1.tup (sd.tup hT2), p.1.tup hd⟩) (fun i x y T H3 hx hy p nT => ?_) (fun H3 p => ?_)⟩⟩
                · obtain ⟨sm3, hD3⟩ := p
                  rw [List.getElem?_map] at hx hy
                  obtain ⟨sx, ex1, ex2⟩ := Option.map_eq_some_iff.mp hx
                  obtain ⟨sy, ey1, ey2⟩ := Option.map_eq_some_iff.mp hy
                  subst ex2; subst ey2
                  have nDT : D2 ≠ T := ne_of_none hD3 nT
                  have sx1 := (hns sx (List.mem_of_getElem? ex1)).1
                  have hDT : upd H3 T (.tup [.int sx, .int sy]) D2 = some (.lst (((List.zipWith follow ((1 : Int) :: r) r).take i).map V.bl)) := by rw [upd_ne nDT]; exact hD3
                  have fin : ∃ acc, upd H3 T (.tup [.int sx, .int sy]) D2 = some (.lst acc) ∧ acc.length < sizeLine ∧ Same (upd H2 d (.tup (cutV (((1 : Int) :: r).map V.int) (some 1) none))) (upd (upd H3 T (.tup [.int sx, .int sy])) D2 (.lst (acc ++ [.bl (follow sx sy)]))) ∧ upd (upd H3 T (.tup [.int sx, .int sy])) D2 (.lst (acc ++ [.bl (follow sx sy)])) D2 = some (.lst (((List.zipWith follow ((1 : Int) :: r) r).take (i + 1)).map V.bl)) := by
                    refine ⟨_, hDT, ?_, fun b o ho => ?_, ?_⟩
                    · rw [List.length_map, List.length_take, List.length_zipWith]
                      simp at lx
                      exact small1000 (by omega)
                    · rw [upd_ne (ne_of_none ho nD2), upd_ne (ne_of_none (sm3 _ _ ho) nT)]
                      exact sm3 _ _ ho
                    · rw [upd_same, List.take_add_one, show (List.zipWith follow ((1 : Int) :: r) r)[i]? = some (follow sx sy) from zw_get (ns := (1 : Int) :: r) ex1 ey1]
                      simp
                  refine ⟨T, _, rfl, .inl (.inl upd_same), rfl, _, _, rfl, _, _, rfl, rfl, rfl, .int sy, rfl, .int sx, rfl, _, _, rfl, rfl, (by omega : 0 < sx), rfl, _, rfl, ite2 (fun c => ?_) (fun c => ?_)⟩
                  · have c5 : sy % sx = 0 := V.int.inj (of_decide_eq_true c)
                    have e5 : follow sx sy = decide (sx < sy) := by
                      unfold follow
                      rw [decide_eq_decide]
                      exact ⟨fun h => h.2.1, fun h => ⟨by omega, h, c5⟩⟩
                    rw [e5] at fin
                    exact ⟨.int sy, rfl, .int sx, rfl, _, _, rfl, rfl, fin⟩
                  · have e5 : follow sx sy = false := decide_eq_false fun h => c (decide_eq_true (congrArg V.int h.2.2))
                    rw [e5] at fin
                    exact fin
                · obtain ⟨sm3, hD3⟩ := p
                  rw [List.take_of_length_le (by simp)] at hD3
                  refine ⟨D2, _, rfl, .inl (.inl hD3), q _ _ (sm.trans (sd.trans sm3)) ?_⟩
                  have eu := ups_all ((1 : Int) :: r)
                  rw [show ((1 : Int) :: r).tail = r from rfl] at eu
                  rw [← eu]
                  constructor
                  · intro hu
                    exact ⟨a, _, rfl, e, by simp, lx, rfl, fun n hn => (hns n hn).2, hu⟩
                  · rintro ⟨a2, ns, e1, e2, h1, h2, h3, h4, h5⟩
                    cases e1
                    rw [e] at e2
                    have e3 := Option.some.inj e2
                    injection e3 with e3
                    have e4 : (1 : Int) :: r = ns := ints_inj e3
                    rw [e4]
                    exact h5
              · have nd : ¬ (V.int n0 = V.int 1) := fun z => c3 (V.int.inj z)
                rw [decide_eq_false nd]
                refine iteT (noC sm fun ns e3 h => ?_)
                have e4 := ints_inj e3
                subst e4
                have : n0 = 1 := by simpa using h.2.2.1
                exact c3 this
            · have ca' : (xs.map numB).all id = false := by
                cases ez : (xs.map numB).all id with
                | true => exact absurd ez ca
                | false => rfl
              rw [ca']
              refine iteT (noC sm fun ns e3 h => ?_)
              rw [e3] at ca
              exact ca (nums_all (okC_low h))
        · rw [decide_eq_false c2]
          refine iteT (noC (Same.refl H) fun ns e3 h => ?_)
          have := h.2.1
          rw [e3, List.length_map] at c2
          omega
      · refine ⟨_, rfl, iteT (noC (Same.refl H) fun ns e3 h => ?_)⟩
        have := h.1
        rw [e3, List.length_map] at c
        exact (c (decide_eq_true (by omega))).elim
end
end Ph

namespace Ph
open PySem PySem.Spec PyProof.Rows L2 PySem.Calls HT
section
variable {prog : Program} {w : World} {A : Around} {E : Value → Shared → Prop} {s : Shared}
theorem rev_pick (xs : Array Value) : ((List.range xs.size).filterMap fun (k : Nat) => xs[(((xs.size : Int) - 1) + (k : Int) * (-1)).toNat]?).toArray = xs.toList.reverse.toArray := by
  have e : ((List.range xs.size).filterMap fun (k : Nat) => xs[(((xs.size : Int) - 1) + (k : Int) * (-1)).toNat]?) = ((List.range xs.size).map fun k => xs.size - 1 - k).filterMap (xs[·]?) := by
    rw [List.filterMap_map]
    congr 1
    funext k
    have : (((xs.size : Int) - 1) + (k : Int) * (-1)).toNat = xs.size - 1 - k := by omega
    show xs[_]? = xs[_]?
    rw [this]
  rw [e, PySem.W.krv_range, List.filterMap_reverse, PySem.W.krv_all]
theorem sliceApplied_rev {sl : Addr} {vs : Value} {n : Nat} {Q : Int × Int × Nat → Shared → Prop} (hs : s.heap.IsSliceOf sl .none .none vs) (ps : IsPart vs (some (-1)))
    (h : Q ((n : Int) - 1, -1, n) s) : wpAny (model prog w) A (Builtin.Slice.sliceApplied (.ref sl) (pure (n : Int))) Q E s := by
  obtain ⟨os, hos, hcs, hds⟩ := id hs
  unfold Builtin.Slice.sliceApplied Builtin.Slice.sliceFields
  refine wpAny_bind (wpAny_bind (wpAny_field hos hds (x := .none) rfl (wpAny_bind (wpAny_field hos hds (x := .none) rfl (wpAny_bind (wpAny_field hos hds (x := vs) rfl (wpAny_pure ?_)))))))
  refine wpAny_bind (slicePart_ ps ?_)
  show wpAny _ _ (if ((-1 : Int) == 0) = true then _ else _) _ _ s
  rw [if_neg (by decide)]
  refine wpAny_bind (slicePart_ .none (wpAny_bind (slicePart_ .none (wpAny_bind (wpAny_pure ?_)))))
  show wpAny _ _ (pure (((n : Int) - 1), (-1 : Int), Builtin.Slice.slicePlaces ((n : Int) - 1) (-1) (-1))) _ _ s
  have e : Builtin.Slice.slicePlaces ((n : Int) - 1) (-1) (-1) = n := by
    unfold Builtin.Slice.slicePlaces
    have h1 : ¬ ((-1 : Int) > 0) := by decide
    rw [if_neg h1]
    by_cases h : (n : Int) - 1 > -1
    · rw [if_pos h, show (- -1 : Int) = 1 by decide, Int.ediv_one]
      omega
    · rw [if_neg h]
      omega
  rw [e]
  exact wpAny_pure h
theorem getItem_tuple_rev {t sl : Addr} {items : Array Value} {vs : Value} {Q : Value → Shared → Prop} (ht : IsTup s.heap t items) (hs : s.heap.IsSliceOf sl .none .none vs) (ps : IsPart vs (some (-1)))
    (h : Q (.ref s.heap.objs.size) { s with heap := s.heap.push { cls := .type "tuple", data := .seq items.toList.reverse.toArray } })
    (hsz : items.size ≤ sizeLine) : wpAny (model prog w) A (getItem (.ref t) (.ref sl)) Q E s := by
  have htake : sizeOk (.seq items.toList.reverse.toArray) := by
    show items.toList.reverse.toArray.size ≤ sizeLine
    rw [List.size_toArray, List.length_reverse, Array.length_toList]
    omega
  obtain ⟨os, hos, hcs, hds⟩ := id hs
  have hTs : s.TypeIs (.ref sl) "slice" := ⟨os, hos, hcs⟩
  unfold getItem
  try with_reducible refine wpAny_holding ?_
  first | refine wpAny_bind (wpAny_pure ?_) | skip
  refine wpAny_bind (wpAny_sequenceKey ht.typeIs (by decide) ?_)
  refine wpAny_bind (wpAny_callSpecial?_slot (name := Str.ofString "__getitem__") ht.typeIs PyProof.Rows.slot_tuple_getitem
    (wpAny_call_entry PyProof.Rows.slot_tuple_getitem ht.typeIs entry_tuple_getitem ?_ (args_tuple_getitem _ _)))
  show wpAny _ _ (Builtin.Tuple.tupleItemsOf (.ref t) >>= _) _ _ s
  refine wpAny_bind (tupleItemsOf_ ht ?_)
  refine wpAny_bind (wpAny_typeOf hTs ?_)
  rw [if_pos (by decide)]
  refine wpAny_bind (sliceApplied_rev hs ps ?_)
  have hno : ¬ ((((items.size : Int) - 1) == 0 && (-1 : Int) == 1 && items.size == items.size) = true) := by
    intro q
    rw [Bool.and_eq_true, Bool.and_eq_true] at q
    exact absurd q.1.2 (by decide)
  show wpAny _ _ (if (((items.size : Int) - 1) == 0 && (-1 : Int) == 1 && items.size == items.size) = true then _ else _) _ _ s
  rw [if_neg hno, rev_pick]
  first
    | exact wpAny_bind (m := Builtin.Tuple.tupleExact _) (wpAny_newObj_type (wpAny_pure ⟨_, rfl, wpAny_pure h⟩) htake)
    | exact wpAny_bind (m := Builtin.Tuple.tupleExact _) (wpAny_newObj_type (wpAny_bind (wpAny_pure (wpAny_pure ⟨_, rfl, wpAny_pure h⟩))) htake)
    | exact wpAny_bind (wpAny_bind (m := Builtin.Tuple.tupleExact _) (wpAny_newObj_type (wpAny_pure (wpAny_pure ⟨_, rfl, wpAny_pure h⟩)) htake))
    | exact wpAny_bind (wpAny_bind (m := Builtin.Tuple.tupleExact _) (wpAny_newObj_type (wpAny_pure ⟨_, rfl, wpAny_pure h⟩) htake))
end
section
variable {X : Cx}
/-- t[::-1] of a tuple -/
def tRevT (K : PySem.W.Frag) (te : TE) : TE := fun σ H Q => te σ H fun x H1 => ∃ a xs, x = .ref a ∧ SqT K H1 a xs ∧ ∀ p, H1 p = none → Q (.ref p) (upd H1 p (.tup xs.reverse))
theorem pe_revT {e : Expr} {te : TE} {k : Nat} {p1 p2 p3 pos : Pos} (he : PE X e te) : PE X (.Subscript e (.Slice none none (some (.UnaryOp .USub (.Constant (.int 1) k p1) p2)) p3) pos) (tRevT X.K te) := by
  refine ⟨fun pins s σ H Q I h => ?_⟩
  refine Subscript_ (thn (he.run pins s σ H _ I h) fun v s1 ⟨x, H1, I1, r1, q1⟩ => ?_)
  obtain ⟨a, xs, ex, hx, q⟩ := q1
  subst ex
  cases r1
  have hst : PO X (some (.UnaryOp .USub (.Constant (.int 1) k p1) p2)) (tPart (tUn (rU fun i => .int (-i)) (tC (.int 1)))) := po_some (pe_un un_neg pe_int)
  refine wpAny_Slice (thn (po_none.run pins s1 σ H1 (fun o H2 => o = none ∧ H2 = H1) I1 ⟨rfl, rfl⟩) fun vl s2 ⟨l, H2, I2, pl, el, e2⟩ => ?_)
  subst el e2
  refine thn (po_none.run pins s2 σ H2 (fun o H3 => o = none ∧ H3 = H2) I2 ⟨rfl, rfl⟩) fun vu s3 ⟨u, H3, I3, pu, eu, e3⟩ => ?_
  subst eu e3
  refine thn (hst.run pins s3 σ H3 (fun o H4 => o = some (-1) ∧ H4 = H3) I3 ⟨1, rfl, -1, rfl, rfl, rfl⟩) fun vs s4 ⟨o, H4, I4, ps, eo, e4⟩ => ?_
  subst eo e4
  cases pl
  cases pu
  have I5 : Inv X pins σ H4 { s4 with heap := s4.heap.push { cls := .type "slice", data := .fields #[.none, .none, vs] } } := I4.kept (t' := s4.toks) fun b ob q => Heap.get?_push_of_some _ q
  obtain ⟨its, r, ht, hz⟩ := I5.tuple hx
  have hlen := r.length
  show wpAny (model X.prog X.w) X.A (subscriptTail e (.Slice none none (some (.UnaryOp .USub (.Constant (.int 1) k p1) p2)) p3) (.ref a) (.ref s4.heap.objs.size)) (EP X pins σ Q) X.xe { s4 with heap := s4.heap.push { cls := .type "slice", data := .fields #[.none, .none, vs] } }
  refine tail_any (ops := [.ref a, .ref s4.heap.objs.size]) ht.typeIs (PyProof.Rows.slot_tuple_getitem.lookup) ?_ (by with_unfolding_all rfl)
  refine getItem_tuple_rev ht (Heap.IsSliceOf.new _ .none .none vs) ps ?_ (by rw [List.size_toArray]; omega)
  refine ⟨.ref _, _, I5.laid (t' := s4.toks) (o := .tup xs.reverse) (fun b ob q => Heap.get?_push_of_some _ q) (Nat.le_refl _) ?_, rfl, q _ (I5.hok.fresh (Nat.le_refl _))⟩
  refine ⟨by rw [List.length_reverse]; exact hz, _, r.reverse, ⟨_, Heap.get?_push_size _ rfl, rfl, _, rfl⟩⟩
/-- repr(True), repr(False) -/
def tx (b : Bool) : Str := if b then "True" else "False"
theorem call_repr_bl : CallR X (.builtin "repr") (fun xs H Q => ∃ b, xs = [.bl b] ∧ Q (.str (tx b)) H) := by
  intro pins s σ H xs us Q I r h
  obtain ⟨b, rfl, q⟩ := h
  obtain ⟨u, rfl, r1⟩ := vals1 r
  cases r1
  exact PySem.P.repr_of_bool ⟨.str _, H, I.tok _, ⟨_, rfl⟩, q⟩
end
end Ph

namespace Ph
open PySem PySem.Spec PyProof.Rows L2
abbrev sOdd : Stmt := topS 12
abbrev sLong : Stmt := topS 15
abbrev sChg : Stmt := topS 16
theorem scOdd : FnScope ["_law_pot_here", "_law_some", "_law_thing", "_law_turn"] ["_law_pot_here"] (defScope sOdd) := ⟨rfl, rfl, rfl, by decide +kernel, rfl, by decide +kernel, by decide +kernel⟩
theorem scLong : FnScope ["_law_pot_here", "_law_found", "_law_turn"] ["_law_pot_here"] (defScope sLong) := ⟨rfl, rfl, rfl, by decide +kernel, rfl, by decide +kernel, by decide +kernel⟩
theorem scChg : FnScope ["_law_pot_here", "_law_links_here", "_law_way", "_law_at", "_law_odd_here"] ["_law_pot_here", "_law_links_here"] (defScope sChg) := ⟨rfl, rfl, rfl, by decide +kernel, rfl, by decide +kernel, by decide +kernel⟩
/-! ### tuples cut, put together, turned round: some tuple holds it -/
section
variable {X : Cx}
theorem cut_whole {xs : List V} {lo hi : Option Int} (h : HT.sIx xs.length 0 lo = 0 ∧ HT.sIx xs.length xs.length hi = xs.length) : cutV xs lo hi = xs := by
  unfold cutV
  rw [h.1, h.2, List.drop_zero]
  exact List.take_length
def rSlS : V → Option Int → Option Int → Hp → VK → Prop := fun x lo hi H Q => ∃ a xs, x = .ref a ∧ H a = some (.tup xs) ∧ ∀ p H', Same H H' → H' p = some (.tup (cutV xs lo hi)) → Q (.ref p) H'
theorem sl_tupS : SlR X rSlS := by
  intro pins s σ H x v vl vu lo hi sl Q I rx hs pl pu h
  obtain ⟨a, xs, rfl, hx, q⟩ := h
  exact sl_tupA pins s σ H _ v vl vu lo hi sl Q I rx hs pl pu ⟨a, xs, rfl, .inl (.inl hx), fun hw => q a H (Same.refl H) (by rw [cut_whole hw]; exact hx), fun _ p np => q p _ (same_upd np) upd_same⟩
def rCatS : R2 := fun x y H Q => ∃ a b xs ys, x = .ref a ∧ y = .ref b ∧ H a = some (.tup xs) ∧ H b = some (.tup ys) ∧ xs.length + ys.length ≤ 1000 ∧ ∀ p H', Same H H' → H' p = some (.tup (xs ++ ys)) → Q (.ref p) H'
theorem op_catS : OpR X (binaryOp .Add) rCatS := by
  intro pins s σ H x y v u Q I rx ry h
  obtain ⟨a, b, xs, ys, rfl, rfl, ha, hb, hz, q⟩ := h
  refine op_catA pins s σ H _ _ v u Q I rx ry ⟨a, b, xs, ys, rfl, rfl, .inl (.inl ha), .inl (.inl hb), Nat.le_of_lt (small1000 hz), fun e => q b H (Same.refl H) (by rw [e]; exact hb), fun _ e => q a H (Same.refl H) (by rw [e, List.append_nil]; exact ha), fun _ _ p np => q p _ (same_upd np) upd_same⟩
end
theorem same_upd2 {H : Hp} {p : Addr} {o o' : HO} (h : H p = none) : Same H (upd (upd H p o) p o') := fun b x e => by
  rw [upd_ne (ne_of_none e h), upd_ne (ne_of_none e h)]
  exact e
/-! ### typed things -/
theorem Ty.but {p : Addr} {H H' : Hp} {x : V} {T : String} (t : Ty H x T) (b : But p H H') (P : Pot H p) (P' : Pot H' p) : Ty H' x T := by
  obtain ⟨g, r, e0, _⟩ := P
  obtain ⟨g', r', e1, _⟩ := P'
  cases t with
  | non => exact .non
  | bl b => exact .bl b
  | int i => exact .int i
  | str z => exact .str z
  | @tup a xs e => exact .tup (b _ _ (fun z => by rw [z, e0] at e; cases e) e)
  | @lst a xs e =>
    by_cases z : a = p
    · subst z
      exact .lst e1
    · exact .lst (b _ _ z e)
  | @dK a kvs e => exact .dK (b _ _ (fun z => by rw [z, e0] at e; cases e) e)
def TL (H : Hp) (xs : List V) : Prop := ∀ y ∈ xs, ∃ T, Ty H y T
theorem TL.same {H H' : Hp} {xs : List V} (t : TL H xs) (s : Same H H') : TL H' xs := fun y hy => by obtain ⟨T, t⟩ := t y hy; exact ⟨T, t.same s⟩
theorem TL.but {p : Addr} {H H' : Hp} {xs : List V} (t : TL H xs) (b : But p H H') (P : Pot H p) (P' : Pot H' p) : TL H' xs := fun y hy => by obtain ⟨T, t⟩ := t y hy; exact ⟨T, t.but b P P'⟩
theorem TL.ints (H : Hp) (ns : List Int) : TL H (ns.map V.int) := fun y hy => by
  obtain ⟨n, _, e⟩ := List.mem_map.mp hy
  rw [← e]
  exact ⟨_, .int n⟩
theorem TL.append {H : Hp} {xs ys : List V} (a : TL H xs) (b : TL H ys) : TL H (xs ++ ys) := fun y hy => by
  rcases List.mem_append.mp hy with h | h
  · exact a y h
  · exact b y h
theorem TL.cut {H : Hp} {xs : List V} {lo hi : Option Int} (a : TL H xs) : TL H (cutV xs lo hi) := fun y hy => a y (List.mem_of_mem_drop (List.mem_of_mem_take hy))
theorem TL.rev {H : Hp} {xs : List V} (a : TL H xs) : TL H xs.reverse := fun y hy => a y (List.mem_reverse.mp hy)
theorem TL.one {H : Hp} {x : V} {T : String} (t : Ty H x T) : TL H [x] := fun y hy => by
  rw [List.mem_singleton.mp hy]
  exact ⟨T, t⟩
theorem Vd.tup {H : Hp} {a : Addr} {xs : List V} (e : H a = some (.tup xs)) (t : TL H xs) : Vd H (.ref a) := .inr ⟨a, xs, rfl, e, t⟩
theorem Vd.but {p : Addr} {H H' : Hp} {x : V} (v : Vd H x) (b : But p H H') (P : Pot H p) (P' : Pot H' p) : Vd H' x := by
  rcases v with ⟨T, t, n⟩ | ⟨a, xs, rfl, e, h⟩
  · exact .inl ⟨T, t.but b P P', n⟩
  · obtain ⟨g, r, e0, _⟩ := id P
    exact .tup (b _ _ (fun z => by rw [z, e0] at e; cases e) e) (TL.but h b P P')
theorem cut_le {xs : List V} {lo hi : Option Int} : (cutV xs lo hi).length ≤ xs.length := by
  unfold cutV
  rw [List.length_take, List.length_drop]
  omega
section
variable {P : Program} {w : World} {K : PySem.W.Frag} {mg : Str → Option Value} {base : Heap}
def spOdd : Sp := fun vs H Q _ => ∃ p : Addr, vs = [.ref p] ∧ Pot H p ∧ ∀ H' x, But p H H' → Pot H' p → Vd H' x → Q x H'
theorem ok_odd {f fT fO : Addr} {fd fdT fdO : FuncData} {k : Nat} (F : Fun K "_law_odd" "_law_odd" sOdd f fd) (N : Nm2 K mg) (FT : Fun K "_law_take" "_law_take" sTake fT fdT) (bT : Binds K fdT ["_law_pot_here", "_law_upto"] []) (gT : mg "_law_take" = some (.ref fT))
    (FO : Fun K "_law_of" "_law_of" sOf fO fdO) (bO : Binds K fdO ["_law_pot_here", "_law_some"] []) (gO : mg "_law_of" = some (.ref fO)) : FnOk P w K mg base CX0 (k + 1 + 1 + 1) f fd ["_law_pot_here"] spOdd := by
  have GT : FnOk P w K mg base CX0 (k + 1) fT fdT ["_law_pot_here", "_law_upto"] spTake := ok_take FT
  have GO : FnOk P w K mg base CX0 (k + 1 + 1) fO fdO ["_law_pot_here", "_law_some"] (spOf K) := ok_of FO FT bT gT N.len
  refine F.ok scOdd (fun vs H Q E h => ?_) (fun cdv A outer s H vs Q E hr h => ?_)
  · obtain ⟨p, rfl, _⟩ := h
    rfl
  · obtain ⟨p, rfl, hp, q⟩ := h
    have hr1 : Room (k + 1) (A.deeper (envOfC "_law_odd" (defScope sOdd) s.heap.objs.size f cdv)) := hr.mono (by omega)
    refine ⟨_, (pss_cons (ps_set (i := 1) scOdd.nd rfl (.inl rfl) (pe_lst (pa_cons pe_non (pa_cons pe_bl (pa_cons pe_bl (pa_cons (pe_un un_neg pe_int) (pa_cons pe_int (pa_cons pe_int (pa_cons (pe_op op_pow pe_int pe_int) (pa_cons pe_str (pa_cons pe_str (pa_cons pe_str (pa_cons (pe_tup pa_nil) (pa_cons (pe_lst pa_nil) (pa_cons pe_dnewK (pa_cons (pe_tup (pa_cons pe_int pa_nil)) (pa_cons (pe_lst (pa_cons pe_int pa_nil)) (pa_cons (pe_tup (pa_cons pe_int (pa_cons pe_int pa_nil))) (pa_cons (pe_tup (pa_cons (pe_tup (pa_cons pe_int (pa_cons pe_int pa_nil))) pa_nil)) (pa_cons (pe_disp (pps_cons pe_str pe_int pps_nil) (by rfl) (by rfl) (fun z => by cases z) (by decide)) pa_nil))))))))))))))))))))
       (pss_cons (ps_set (i := 2) scOdd.nd rfl (.inl rfl) (pe_call GO hr (by rfl) gO FO.kp bO .nil pass0 (pa_cons (pv 0) (pa_cons (pv 1) pa_nil))))
       (pss_cons (ps_for PassesOwn.never rfl (pi_range1 (by rfl) N.range (pa_cons (pe_call GO hr (by rfl) gO FO.kp bO .nil pass0 (pa_cons (pv 0) (pa_cons (pe_lst (pa_cons pe_int (pa_cons pe_int (pa_cons pe_int (pa_cons pe_int (pa_cons pe_int pa_nil)))))) pa_nil))) pa_nil)) (pg_name (i := 3) scOdd.nd rfl (.inl rfl))
       (pss_one (ps_set (i := 2) scOdd.nd rfl (.inl rfl) (pe_ix ix_list (pe_lst (pa_cons (pe_tup (pa_cons (pv 2) pa_nil)) (pa_cons (pe_lst (pa_cons (pv 2) pa_nil)) (pa_cons (pe_disp (pps_cons pe_str (pv 2) pps_nil) (by rfl) (by rfl) (fun z => by cases z) (by decide)) (pa_cons (pe_tup (pa_cons (pv 2) (pa_cons pe_int pa_nil))) pa_nil))))) (pe_call GT hr1 (by rfl) gT FT.kp bT .nil pass0 (pa_cons (pv 0) (pa_cons pe_int pa_nil))) (fun _ _ => rfl)))))
       (pss_one (ps_ret (pv 2)))))), ?_⟩
    refine ⟨1, rfl, _, _, rfl, rfl, ⟨by decide, by decide, by decide⟩, Nat.zero_le _, fun t1 n1 => ⟨Nat.zero_le _, fun l1 m1 => ?_⟩⟩
    refine fun d1 k1 => ?_
    refine ⟨(by show 1 ≤ sizeLine; decide), fun t2 n2 => ⟨(by show 1 ≤ sizeLine; decide), fun l2 m2 => ⟨(by show 2 ≤ sizeLine; decide), fun t3 n3 => ⟨(by show 2 ≤ sizeLine; decide), fun t4 n4 => ⟨(by show 1 ≤ sizeLine; decide), fun t5 n5 => ?_⟩⟩⟩⟩⟩
    refine fun d2 k2 => ⟨upd_same, [(Sum.inr "a", .int 1)], rfl, by decide, (by show 18 ≤ sizeLine; decide), fun l3 m3 => ?_⟩
    have u1 := same_upd (o := .tup []) n1
    have u2 := same_upd (o := .lst []) m1
    have u3 := same_upd (o := .dK []) k1
    have u4 := same_upd (o := .tup [.int 1]) n2
    have u5 := same_upd (o := .lst [.int 1]) m2
    have u6 := same_upd (o := .tup [.int 0, .int 1]) n3
    have u7 := same_upd (o := .tup [.int 0, .int 1]) n4
    have u8 := same_upd (o := .tup [.ref t4]) n5
    have u9 := same_upd2 (o := .dK []) (o' := .dK (mergeK [] [(Sum.inr "a", .int 1)])) k2
    have c8 := u9
    have c7 := u8.trans c8
    have c6 := u7.trans c7
    have c5 := u6.trans c6
    have c4 := u5.trans c5
    have c3 := u4.trans c4
    have c2 := u3.trans c3
    have c1 := u2.trans c2
    have c0 := u1.trans c1
    have hpK := hp.same c0
    refine ⟨.ref p, rfl, .ref l3, rfl, p, l3, _, rfl, hpK.same (same_upd m3), .inl (.inl upd_same), (hpK.ne_none m3).symm, List.cons_ne_nil _ _, by simp, fun H2 x b2 hp2 hx => ?_⟩
    have fin : ∀ y : V, Vd _ y → Vd H2 y := fun y v => (v.same (same_upd m3)).but b2 (hpK.same (same_upd m3)) hp2
    have hB : But p H H2 := fun b o nb h => b2 b o nb (same_upd m3 _ _ (c0 _ _ h))
    have vx : Vd H2 x := by
      simp only [List.mem_cons, List.not_mem_nil, or_false] at hx
      rcases hx with h | h | h | h | h | h | h | h | h | h | h | h | h | h | h | h | h | h <;> subst h
      · exact .inl ⟨_, .non, by decide⟩
      · exact .inl ⟨_, .bl _, by decide⟩
      · exact .inl ⟨_, .bl _, by decide⟩
      · exact .inl ⟨_, .int _, by decide⟩
      · exact .inl ⟨_, .int _, by decide⟩
      · exact .inl ⟨_, .int _, by decide⟩
      · exact .inl ⟨_, .int _, by decide⟩
      · exact .inl ⟨_, .str _, by decide⟩
      · exact .inl ⟨_, .str _, by decide⟩
      · exact .inl ⟨_, .str _, by decide⟩
      · exact fin _ (.tup (c1 _ _ upd_same) (TL.ints _ []))
      · exact fin _ (.inl ⟨_, .lst (c2 _ _ upd_same), by decide⟩)
      · exact fin _ (.inl ⟨_, .dK (c3 _ _ upd_same), by decide⟩)
      · exact fin _ (.tup (c4 _ _ upd_same) (TL.ints _ [1]))
      · exact fin _ (.inl ⟨_, .lst (c5 _ _ upd_same), by decide⟩)
      · exact fin _ (.tup (c6 _ _ upd_same) (TL.ints _ [0, 1]))
      · exact fin _ (.tup (c8 _ _ upd_same) (TL.one (.tup (c7 _ _ upd_same))))
      · exact fin _ (.inl ⟨_, .dK upd_same, by decide⟩)
    -- the loop
    refine ⟨.ref p, rfl, (by show 5 ≤ sizeLine; decide), fun l4 m4 => ⟨p, l4, _, rfl, hp2.same (same_upd m4), .inl (.inl upd_same), (hp2.ne_none m4).symm, List.cons_ne_nil _ _, by simp, fun H3 y b3 hp3 hy => ?_⟩⟩
    obtain ⟨n, rfl, hn0, hn1⟩ : ∃ n : Int, y = .int n ∧ 0 ≤ n ∧ n ≤ 17 := by
      simp only [List.mem_cons, List.not_mem_nil, or_false] at hy
      rcases hy with h | h | h | h | h <;> exact ⟨_, h, by decide, by decide⟩
    refine ⟨n, rfl, by omega, by omega, ?_⟩
    refine for_range (lo := 0) (n := n.toNat) (fun i σ H4 => ∃ y1 z y3, σ = [some (.ref p), y1, some z, y3] ∧ But p H H4 ∧ Pot H4 p ∧ Vd H4 z)
      ⟨_, x, _, rfl, fun b o nb h => b3 b o nb (same_upd m4 _ _ (hB b o nb h)), hp3, (vx.same (same_upd m4)).but b3 (hp2.same (same_upd m4)) hp3⟩ ?_ ?_
    · rintro i σ H4 hi ⟨y1, z, y3, rfl, b4, hp4, vz⟩
      obtain ⟨Tz, tz⟩ := vz.ty
      refine ⟨z, rfl, (by show 1 ≤ sizeLine; decide), fun a1 i1 => ⟨z, rfl, (by show 1 ≤ sizeLine; decide), fun a2 i2 => fun a3 i3 => ⟨z, rfl, upd_same, [(Sum.inr "a", z)], rfl, (by show 1 ≤ 15; decide), z, rfl, (by show 2 ≤ sizeLine; decide), fun a4 i4 => ⟨(by show 4 ≤ sizeLine; decide), fun a5 i5 => ?_⟩⟩⟩⟩
      have w1 := same_upd (o := .tup [z]) i1
      have w2 := same_upd (o := .lst [z]) i2
      have w3 := same_upd2 (o := .dK []) (o' := .dK (mergeK [] [(Sum.inr "a", z)])) i3
      have w4 := same_upd (o := .tup [z, .int 1]) i4
      have w5 := same_upd (o := .lst [.ref a1, .ref a2, .ref a3, .ref a4]) i5
      have e45 := w4.trans w5
      have e35 := w3.trans e45
      have e25 := w2.trans e35
      have e15 := w1.trans e25
      refine ⟨.ref p, rfl, p, 4, rfl, hp4.same e15, by decide, by decide, fun H5 d b5 hp5 d0 d1 => ?_⟩
      have hl : SqL K H5 a5 [.ref a1, .ref a2, .ref a3, .ref a4] := .inl (.inl (b5 _ _ ((hp4.same (w1.trans (w2.trans (w3.trans w4)))).ne_none i5).symm upd_same))
      have fin : ∀ y : V, Vd _ y → Vd H5 y := fun y v => v.but b5 (hp4.same e15) hp5
      have bb : But p H H5 := fun b o nb h => b5 b o nb (e15 _ _ (b4 b o nb h))
      obtain ⟨j, rfl⟩ : ∃ j : Nat, d = j := ⟨d.toNat, by omega⟩
      have hj : j < 4 := by omega
      have tz1 := tz.same w1
      match j, hj with
      | 0, _ => exact ⟨a5, _, 0, _, rfl, rfl, hl, atI_nat (j := 0) rfl, _, _, _, rfl, bb, hp5, fin _ (.tup (e25 _ _ upd_same) (TL.one (tz.same e15)))⟩
      | 1, _ => exact ⟨a5, _, 1, _, rfl, rfl, hl, atI_nat (j := 1) rfl, _, _, _, rfl, bb, hp5, fin _ (.inl ⟨_, .lst (e35 _ _ upd_same), by decide⟩)⟩
      | 2, _ => exact ⟨a5, _, 2, _, rfl, rfl, hl, atI_nat (j := 2) rfl, _, _, _, rfl, bb, hp5, fin _ (.inl ⟨_, .dK (e45 _ _ upd_same), by decide⟩)⟩
      | 3, _ => exact ⟨a5, _, 3, _, rfl, rfl, hl, atI_nat (j := 3) rfl, _, _, _, rfl, bb, hp5, fin _ (.tup (w5 _ _ upd_same) (TL.append (TL.one (tz.same e15)) (TL.ints _ [1])))⟩
    · rintro σ H4 ⟨y1, z, y3, rfl, b4, hp4, vz⟩
      exact ⟨z, rfl, q _ _ b4 hp4 vz⟩
def spLong : Sp := fun vs H Q _ => ∃ p : Addr, vs = [.ref p] ∧ Pot H p ∧ ∀ (H' : Hp) (t : Addr) (ns : List Int), But p H H' → Pot H' p → H t = none → H' t = some (.tup (ns.map V.int)) → 1 ≤ ns.length → ns.length ≤ 20 → Q (.ref t) H'
theorem ok_long {f fT fO : Addr} {fd fdT fdO : FuncData} {k : Nat} (F : Fun K "_law_long" "_law_long" sLong f fd) (N : Nm2 K mg) (FT : Fun K "_law_take" "_law_take" sTake fT fdT) (bT : Binds K fdT ["_law_pot_here", "_law_upto"] []) (gT : mg "_law_take" = some (.ref fT))
    (FO : Fun K "_law_of" "_law_of" sOf fO fdO) (bO : Binds K fdO ["_law_pot_here", "_law_some"] []) (gO : mg "_law_of" = some (.ref fO)) : FnOk P w K mg base CX0 (k + 1 + 1 + 1) f fd ["_law_pot_here"] spLong := by
  have GT : FnOk P w K mg base CX0 (k + 1) fT fdT ["_law_pot_here", "_law_upto"] spTake := ok_take FT
  have GO : FnOk P w K mg base CX0 (k + 1 + 1) fO fdO ["_law_pot_here", "_law_some"] (spOf K) := ok_of FO FT bT gT N.len
  refine F.ok scLong (fun vs H Q E h => ?_) (fun cdv A outer s H vs Q E hr h => ?_)
  · obtain ⟨p, rfl, _⟩ := h
    rfl
  · obtain ⟨p, rfl, hp, q⟩ := h
    have hr1 : Room (k + 1) (A.deeper (envOfC "_law_long" (defScope sLong) s.heap.objs.size f cdv)) := hr.mono (by omega)
    refine ⟨_, (pss_cons (ps_set (i := 1) scLong.nd rfl (.inl rfl) (pe_lst (pa_cons pe_int pa_nil)))
       (pss_cons (ps_for PassesOwn.never rfl (pi_range1 (by rfl) N.range (pa_cons (pe_op op_add pe_int (pe_call GT hr1 (by rfl) gT FT.kp bT .nil pass0 (pa_cons (pv 0) (pa_cons pe_int pa_nil)))) pa_nil)) (pg_name (i := 2) scLong.nd rfl (.inl rfl))
       (pss_one (ps_expr (pe_bm PySem.F.plainAttrs_list PySem.F.slot_list_append PySem.F.type_list_append mt_append (pv 1) (pa_cons (pe_op op_mul (pe_ix ix_list (pv 1) (pe_un un_neg pe_int) (fun _ _ => rfl)) (pe_call GO hr (by rfl) gO FO.kp bO .nil pass0 (pa_cons (pv 0) (pa_cons (pe_lst (pa_cons pe_int (pa_cons pe_int (pa_cons pe_int (pa_cons pe_int pa_nil))))) pa_nil)))) pa_nil)))))
       (pss_cons (ps_if (pt_cmpR op_eq (pe_call GT hr1 (by rfl) gT FT.kp bT .nil pass0 (pa_cons (pv 0) (pa_cons pe_int pa_nil))) pe_int (nomark _))
       (pss_one (ps_set (i := 1) scLong.nd rfl (.inl rfl) (pe_lst (pa_cons pe_int (pa_cons (pe_call GO hr (by rfl) gO FO.kp bO .nil pass0 (pa_cons (pv 0) (pa_cons (pe_lst (pa_cons (pe_op op_pow pe_int pe_int) (pa_cons (pe_op op_add (pe_op op_pow pe_int pe_int) pe_int) (pa_cons (pe_op op_mul pe_int (pe_op op_pow pe_int pe_int)) (pa_cons (pe_op op_add pe_int (pe_call GT hr1 (by rfl) gT FT.kp bT .nil pass0 (pa_cons (pv 0) (pa_cons (pe_op op_pow pe_int pe_int) pa_nil)))) pa_nil))))) pa_nil))) pa_nil))))) pss_nil)
       (pss_one (ps_ret (pe_callTy call_tuple_of (by rfl) N.tuple (by decide +kernel) (pa_cons (pv 1) pa_nil))))))), ?_⟩
    refine ⟨(by show 1 ≤ sizeLine; decide), fun o no => ?_⟩
    have npo : p ≠ o := hp.ne_none no
    refine ⟨.ref p, rfl, p, 3, rfl, hp.same (same_upd no), by decide, by decide, fun H1 d b1 hp1 d0 d1 => ⟨_, _, rfl, rfl, 10 + d, rfl, by omega, by omega, ?_⟩⟩
    have hbase : ∀ b x, b ≠ p → b ≠ o → H b = some x → H1 b = some x := fun b x n1 n2 h => b1 _ _ n1 (by rw [upd_ne n2]; exact h)
    refine for_range (lo := 0) (n := (10 + d).toNat) (fun i σ H2 => ∃ (y2 : Option V) (ns : List Int) (x : Int), σ = [some (.ref p), some (.ref o), y2] ∧ Pot H2 p ∧ (∀ b x, b ≠ p → b ≠ o → H b = some x → H2 b = some x) ∧ H2 o = some (.lst ((ns ++ [x]).map V.int)) ∧ ns.length = i)
      ⟨none, [], 1, rfl, hp1, hbase, b1 _ _ npo.symm upd_same, rfl⟩ ?_ ?_
    · rintro i σ H2 hi ⟨y2, ns, x, rfl, hp2, hB, ho2, hl⟩
      have hL : SqL K H2 o ((ns ++ [x]).map V.int) := .inl (.inl ho2)
      have gl : atI ((ns ++ [x]).map V.int) (-1) = some (.int x) := by
        rw [List.map_append]
        exact atI_last _ _
      refine ⟨.ref o, rfl, .inl ⟨rfl, _, hL⟩, .ref o, rfl, 1, rfl, o, _, -1, _, rfl, rfl, hL, gl, .ref p, rfl, (by show 4 ≤ sizeLine; decide), fun l ml => ?_⟩
      have nol : o ≠ l := ne_of_none ho2 ml
      refine ⟨p, l, _, rfl, hp2.same (same_upd ml), .inl (.inl upd_same), (hp2.ne_none ml).symm, List.cons_ne_nil _ _, by simp, fun H3 y b3 hp3 hy => ?_⟩
      obtain ⟨n, rfl, hn0, hn1⟩ : ∃ n : Int, y = .int n ∧ 0 ≤ n ∧ n ≤ 17 := by
        simp only [List.mem_cons, List.not_mem_nil, or_false] at hy
        rcases hy with h | h | h | h <;> exact ⟨_, h, by decide, by decide⟩
      have ho3 : H3 o = some (.lst ((ns ++ [x]).map V.int)) := b3 _ _ npo.symm (by rw [upd_ne nol]; exact ho2)
      refine ⟨x, n, rfl, rfl, .inr ⟨by omega, by omega⟩, o, _, _, rfl, rfl, ho3, ?_, _, ns ++ [x], x * n, rfl, ?_, ?_, ?_, ?_⟩
      · rw [List.length_map, List.length_append, List.length_singleton]
        exact small1000 (by omega)
      · obtain ⟨g, rr, e1, e2⟩ := hp3
        exact ⟨g, rr, by rw [upd_ne npo]; exact e1, e2⟩
      · intro b z n1 n2 h
        rw [upd_ne n2]
        have h2 := hB b z n1 n2 h
        exact b3 _ _ n1 (by rw [upd_ne (ne_of_none h2 ml)]; exact h2)
      · rw [upd_same, List.map_append (l₂ := [x * n])]
        rfl
      · rw [List.length_append, List.length_singleton, hl]
    · rintro σ H2 ⟨y2, ns, x, rfl, hp2, hB, ho2, hl⟩
      refine ⟨.ref p, rfl, p, 2, rfl, hp2, by decide, by decide, fun H3 e b3 hp3 e0 e1 => ⟨rfl, _, rfl, ?_⟩⟩
      have hB3 : ∀ b x, b ≠ p → b ≠ o → H b = some x → H3 b = some x := fun b x n1 n2 h => b3 _ _ n1 (hB b x n1 n2 h)
      have last : ∀ (H4 : Hp) (o2 : Addr) (ms : List Int), Pot H4 p → (∀ b x, b ≠ p → b ≠ o → H b = some x → H4 b = some x) → H4 o2 = some (.lst (ms.map V.int)) → 1 ≤ ms.length → ms.length ≤ 20 →
          ∀ t, H4 t = none → Q (.ref t) (upd H4 t (.tup (ms.map V.int))) := fun H4 o2 ms hp4 hB4 ho4 h1 h2 t nt => by
        refine q _ t ms (fun b z n1 h => ?_) (hp4.same (same_upd nt)) ?_ upd_same h1 h2
        · have n2 : b ≠ o := ne_of_none h no
          have h3 := hB4 b z n1 n2 h
          rw [upd_ne (ne_of_none h3 nt)]
          exact h3
        · cases e : H t with
          | none => rfl
          | some z =>
            have n2 : t ≠ o := ne_of_none e no
            rw [hB4 t z (hp4.ne_none nt).symm n2 e] at nt
            cases nt
      by_cases c : e = 0
      · subst c
        refine iteT ?_
        refine ⟨.ref p, rfl, _, _, rfl, rfl, ⟨by decide, by decide, by decide⟩, _, _, rfl, rfl, ⟨by decide, by decide, by decide⟩, _, _, rfl, rfl, _, _, rfl, rfl, ⟨by decide, by decide, by decide⟩, _, _, rfl, rfl, .inl ⟨by decide, by decide⟩, .ref p, rfl, _, _, rfl, rfl, ⟨by decide, by decide, by decide⟩, p, 10 ^ 9, rfl, hp3, by decide, by decide, fun H4 g b4 hp4 g0 g1 => ⟨_, _, rfl, rfl, (by show 4 ≤ sizeLine; decide), fun l ml => ?_⟩⟩
        refine ⟨p, l, _, rfl, hp4.same (same_upd ml), .inl (.inl upd_same), (hp4.ne_none ml).symm, List.cons_ne_nil _ _, by simp, fun H5 y b5 hp5 hy => ?_⟩
        obtain ⟨n, rfl⟩ : ∃ n : Int, y = .int n := by
          simp only [List.mem_cons, List.not_mem_nil, or_false] at hy
          rcases hy with h | h | h | h <;> exact ⟨_, h⟩
        have hB5 : ∀ b x, b ≠ p → b ≠ o → H b = some x → H5 b = some x := fun b x n1 n2 h => by
          have h4 := b4 _ _ n1 (hB3 b x n1 n2 h)
          exact b5 _ _ n1 (by rw [upd_ne (ne_of_none h4 ml)]; exact h4)
        refine ⟨(by show 2 ≤ sizeLine; decide), fun o2 no2 => ?_⟩
        refine ⟨.ref o2, rfl, o2, _, rfl, .inl ⟨.inl (.inl upd_same), fun t nt => ?_⟩⟩
        exact last _ o2 [1, n] (hp5.same (same_upd no2)) (fun b x n1 n2 h => same_upd no2 _ _ (hB5 b x n1 n2 h)) upd_same (by simp) (by simp) t nt
      · have nd : ¬ (V.int e = V.int 0) := fun z => c (V.int.inj z)
        rw [decide_eq_false nd]
        refine iteF ?_
        have ho3 : H3 o = some (.lst ((ns ++ [x]).map V.int)) := b3 _ _ npo.symm ho2
        refine ⟨.ref o, rfl, o, _, rfl, .inl ⟨.inl (.inl ho3), fun t nt => ?_⟩⟩
        exact last _ o (ns ++ [x]) hp3 hB3 ho3 (by simp) (by simp; omega) t nt
def spChg : Sp := fun vs H Q _ => ∃ (p t : Addr) (ns : List Int), vs = [.ref p, .ref t] ∧ Pot H p ∧ H t = some (.tup (ns.map V.int)) ∧ 1 ≤ ns.length ∧ ns.length ≤ 20 ∧ ∀ H' x, But p H H' → Pot H' p → Vd H' x → Q x H'
theorem ok_chg {f fT fO : Addr} {fd fdT fdO : FuncData} {k : Nat} (F : Fun K "_law_changed" "_law_changed" sChg f fd) (N : Nm2 K mg) (FT : Fun K "_law_take" "_law_take" sTake fT fdT) (bT : Binds K fdT ["_law_pot_here", "_law_upto"] []) (gT : mg "_law_take" = some (.ref fT))
    (FO : Fun K "_law_of" "_law_of" sOf fO fdO) (bO : Binds K fdO ["_law_pot_here", "_law_some"] []) (gO : mg "_law_of" = some (.ref fO)) : FnOk P w K mg base CX0 (k + 1 + 1 + 1) f fd ["_law_pot_here", "_law_links_here"] spChg := by
  have GT : FnOk P w K mg base CX0 (k + 1) fT fdT ["_law_pot_here", "_law_upto"] spTake := ok_take FT
  have GO : FnOk P w K mg base CX0 (k + 1 + 1) fO fdO ["_law_pot_here", "_law_some"] (spOf K) := ok_of FO FT bT gT N.len
  refine F.ok scChg (fun vs H Q E h => ?_) (fun cdv A outer s H vs Q E hr h => ?_)
  · obtain ⟨p, t, ns, rfl, _⟩ := h
    rfl
  · obtain ⟨p, t, ns, rfl, hp, ht, hn1, hn2, q⟩ := h
    have hr1 : Room (k + 1) (A.deeper (envOfC "_law_changed" (defScope sChg) s.heap.objs.size f cdv)) := hr.mono (by omega)
    refine ⟨_, (pss_cons (ps_par (i := 2) (j := 3) (by rfl) scChg.nd rfl rfl (by decide) rfl rfl (pa_cons (pe_call GT hr1 (by rfl) gT FT.kp bT .nil pass0 (pa_cons (pv 0) (pa_cons pe_int pa_nil))) (pa_cons (pe_call GT hr1 (by rfl) gT FT.kp bT .nil pass0 (pa_cons (pv 0) (pa_cons (pe_callB call_len_seq (by rfl) N.len (by decide +kernel) (pa_cons (pv 1) pa_nil)) pa_nil))) pa_nil)) (by rfl))
       (pss_cons (ps_set (i := 4) scChg.nd rfl (.inl rfl) (pe_lst (pa_cons pe_int (pa_cons pe_int (pa_cons (pe_un un_neg pe_int) (pa_cons pe_bl (pa_cons pe_bl (pa_cons pe_non (pa_cons pe_str (pa_cons pe_int (pa_cons pe_int (pa_cons (pe_op op_pow pe_int pe_int) (pa_cons (pe_tup (pa_cons pe_int pa_nil)) (pa_cons (pe_op op_add (pe_ix ix_tup (pv 1) (pv 3) (fun _ _ => rfl)) pe_int) (pa_cons (pe_op op_mul (pe_ix ix_tup (pv 1) (pv 3) (fun _ _ => rfl)) pe_int) pa_nil)))))))))))))))
       (pss_cons (ps_if (pt_cmpR op_eq (pv 2) pe_int (nomark _))
       (pss_one (ps_ret (pe_op op_catS (pe_slice sl_tupS (pv 1) po_none (po_some (pv 3))) (pe_slice sl_tupS (pv 1) (po_some (pe_op op_add (pv 3) pe_int)) po_none)))) pss_nil)
       (pss_cons (ps_if (pt_cmpR op_eq (pv 2) pe_int (nomark _))
       (pss_one (ps_ret (pe_op op_catS (pe_op op_catS (pe_slice sl_tupS (pv 1) po_none (po_some (pv 3))) (pe_slice sl_tupS (pv 1) (po_some (pv 3)) (po_some (pe_op op_add (pv 3) pe_int)))) (pe_slice sl_tupS (pv 1) (po_some (pv 3)) po_none)))) pss_nil)
       (pss_cons (ps_if (pt_cmpR op_eq (pv 2) pe_int (nomark _))
       (pss_one (ps_ret (pe_op op_catS (pe_op op_catS (pe_slice sl_tupS (pv 1) po_none (po_some (pv 3))) (pe_revT (pe_slice sl_tupS (pv 1) (po_some (pv 3)) (po_some (pe_op op_add (pv 3) pe_int))))) (pe_slice sl_tupS (pv 1) (po_some (pe_op op_add (pv 3) pe_int)) po_none)))) pss_nil)
       (pss_cons (ps_if (pt_cmpR op_eq (pv 2) pe_int (nomark _))
       (pss_one (ps_ret (pe_callTy call_list_of (by rfl) N.list (by decide +kernel) (pa_cons (pv 1) pa_nil)))) pss_nil)
       (pss_cons (ps_if (pt_cmpR op_eq (pv 2) pe_int (nomark _))
       (pss_one (ps_ret (pe_op op_catS (pv 1) (pe_tup (pa_cons (pe_call GO hr (by rfl) gO FO.kp bO .nil pass0 (pa_cons (pv 0) (pa_cons (pv 4) pa_nil))) pa_nil))))) pss_nil)
       (pss_one (ps_ret (pe_op op_catS (pe_op op_catS (pe_slice sl_tupS (pv 1) po_none (po_some (pv 3))) (pe_tup (pa_cons (pe_call GO hr (by rfl) gO FO.kp bO .nil pass0 (pa_cons (pv 0) (pa_cons (pv 4) pa_nil))) pa_nil))) (pe_slice sl_tupS (pv 1) (po_some (pe_op op_add (pv 3) pe_int)) po_none))))))))))), ?_⟩
    have tp : t ≠ p := fun z => by
      obtain ⟨g, r, e0, _⟩ := hp
      rw [z, e0] at ht
      cases ht
    refine ⟨.ref p, rfl, p, 7, rfl, hp, by decide, by decide, fun H1 wy b1 hp1 w0 w1 => ?_⟩
    have ht1 := b1 _ _ tp ht
    refine ⟨.ref p, rfl, .ref t, rfl, t, _, rfl, .inr (.inl (.inl ht1)), p, _, rfl, hp1, ?_, ?_, fun H2 d b2 hp2 d0 d1 => ⟨_, _, rfl, ?_⟩⟩
    · rw [List.length_map]; omega
    · rw [List.length_map]; omega
    rw [List.length_map] at d1
    obtain ⟨j, rfl⟩ : ∃ j : Nat, d = j := ⟨d.toNat, by omega⟩
    have hj : j < ns.length := by omega
    have ht2 := b2 _ _ tp ht1
    have gj : atI (ns.map V.int) (j : Int) = some (.int ns[j]) := atI_nat (by rw [List.getElem?_map, List.getElem?_eq_getElem hj]; rfl)
    refine ⟨1, rfl, _, _, rfl, rfl, ⟨by decide, by decide, by decide⟩, (by show 1 ≤ sizeLine; decide), fun u nu => ?_⟩
    have v1 := same_upd (o := .tup [.int 1]) nu
    have ht3 := v1 _ _ ht2
    refine ⟨.ref t, rfl, .int j, rfl, t, _, j, _, rfl, rfl, .inl (.inl ht3), gj, _, _, rfl, rfl, .ref t, rfl, .int j, rfl, t, _, j, _, rfl, rfl, .inl (.inl ht3), gj, _, _, rfl, rfl, .inr ⟨by decide, by decide⟩, (by show 13 ≤ sizeLine; decide), fun l ml => ?_⟩
    have hp3 := hp2.same v1
    have nlp : l ≠ p := (hp3.ne_none ml).symm
    generalize hL : ([V.int 0, V.int 1, V.int (-1), V.bl true, V.bl false, V.non, V.str (Str.ofString "2"), V.int 2, V.int 3, V.int (10 ^ (9 : Int).toNat), V.ref u, V.int (ns[j] + 1), V.int (ns[j] * 2)] : List V) = oL
    have v2 := same_upd (o := .lst oL) ml
    have v12 := v1.trans v2
    have hp4 := hp2.same v12
    have ht4 := v12 _ _ ht2
    have hl4 : upd (upd H2 u (.tup [.int 1])) l (.lst oL) l = some (.lst oL) := upd_same
    have hu4 : upd (upd H2 u (.tup [.int 1])) l (.lst oL) u = some (.tup [.int 1]) := v2 _ _ upd_same
    have oT : TL (upd (upd H2 u (.tup [.int 1])) l (.lst oL)) oL := by
      rw [← hL] at hu4 ⊢
      intro y hy
      simp only [List.mem_cons, List.not_mem_nil, or_false] at hy
      rcases hy with h | h | h | h | h | h | h | h | h | h | h | h | h <;> subst h
      · exact ⟨_, .int _⟩
      · exact ⟨_, .int _⟩
      · exact ⟨_, .int _⟩
      · exact ⟨_, .bl _⟩
      · exact ⟨_, .bl _⟩
      · exact ⟨_, .non⟩
      · exact ⟨_, .str _⟩
      · exact ⟨_, .int _⟩
      · exact ⟨_, .int _⟩
      · exact ⟨_, .int _⟩
      · exact ⟨_, .tup hu4⟩
      · exact ⟨_, .int _⟩
      · exact ⟨_, .int _⟩
    have oN : oL ≠ [] := by rw [← hL]; exact List.cons_ne_nil _ _
    have oZ : oL.length ≤ 1000 := by rw [← hL]; simp
    have bb : But p H (upd (upd H2 u (.tup [.int 1])) l (.lst oL)) := fun b o nb h => v12 _ _ (b2 _ _ nb (b1 _ _ nb h))
    clear hL v1 v2
    generalize upd (upd H2 u (.tup [.int 1])) l (.lst oL) = H4 at *
    have hlen : (ns.map V.int).length ≤ 20 := by rw [List.length_map]; exact hn2
    have iT : ∀ (H' : Hp) (lo hi : Option Int), TL H' (cutV (ns.map V.int) lo hi) := fun H' lo hi => (TL.ints H' ns).cut
    have iZ : ∀ (lo hi : Option Int), (cutV (ns.map V.int) lo hi).length ≤ 20 := fun lo hi => Nat.le_trans cut_le hlen
    refine ⟨.int wy, rfl, rfl, _, rfl, ite2 (fun c => ?_) (fun c => ?_)⟩
    · refine ⟨.ref t, rfl, .int j, rfl, j, rfl, t, _, rfl, ht4, fun p1 H5 s5 e5 => ?_⟩
      refine ⟨.ref t, rfl, .int j, rfl, _, _, rfl, rfl, _, rfl, t, _, rfl, s5 _ _ ht4, fun p2 H6 s6 e6 => ?_⟩
      refine ⟨p1, p2, _, _, rfl, rfl, s6 _ _ e5, e6, ?_, fun p3 H7 s7 e7 => ?_⟩
      · have := iZ none (some (j : Int)); have := iZ (some ((j : Int) + 1)) none; omega
      · have sA := s5.trans (s6.trans s7)
        exact q _ _ (bb.trans (Same.but sA)) (hp4.same sA) (.tup e7 ((iT _ _ _).append (iT _ _ _)))
    refine ⟨.int wy, rfl, rfl, _, rfl, ite2 (fun c => ?_) (fun c => ?_)⟩
    · refine ⟨.ref t, rfl, .int j, rfl, j, rfl, t, _, rfl, ht4, fun p1 H5 s5 e5 => ?_⟩
      refine ⟨.ref t, rfl, .int j, rfl, j, rfl, .int j, rfl, _, _, rfl, rfl, _, rfl, t, _, rfl, s5 _ _ ht4, fun p2 H6 s6 e6 => ?_⟩
      refine ⟨p1, p2, _, _, rfl, rfl, s6 _ _ e5, e6, ?_, fun p3 H7 s7 e7 => ?_⟩
      · have := iZ none (some (j : Int)); have := iZ (some (j : Int)) (some ((j : Int) + 1)); omega
      refine ⟨.ref t, rfl, .int j, rfl, j, rfl, t, _, rfl, s7 _ _ (s6 _ _ (s5 _ _ ht4)), fun p4 H8 s8 e8 => ?_⟩
      refine ⟨p3, p4, _, _, rfl, rfl, s8 _ _ e7, e8, ?_, fun p5 H9 s9 e9 => ?_⟩
      · rw [List.length_append]
        have := iZ none (some (j : Int)); have := iZ (some (j : Int)) (some ((j : Int) + 1)); have := iZ (some (j : Int)) none; omega
      · have sA := s5.trans (s6.trans (s7.trans (s8.trans s9)))
        exact q _ _ (bb.trans (Same.but sA)) (hp4.same sA) (.tup e9 (((iT _ _ _).append (iT _ _ _)).append (iT _ _ _)))
    refine ⟨.int wy, rfl, rfl, _, rfl, ite2 (fun c => ?_) (fun c => ?_)⟩
    · refine ⟨.ref t, rfl, .int j, rfl, j, rfl, t, _, rfl, ht4, fun p1 H5 s5 e5 => ?_⟩
      refine ⟨.ref t, rfl, .int j, rfl, j, rfl, .int j, rfl, _, _, rfl, rfl, _, rfl, t, _, rfl, s5 _ _ ht4, fun p2 H6 s6 e6 => ?_⟩
      refine ⟨p2, _, rfl, .inl (.inl e6), fun p3 n3 => ?_⟩
      have s7 := same_upd (o := .tup (cutV (ns.map V.int) (some (j : Int)) (some ((j : Int) + 2))).reverse) n3
      refine ⟨p1, p3, _, _, rfl, rfl, s7 _ _ (s6 _ _ e5), upd_same, ?_, fun p4 H8 s8 e8 => ?_⟩
      · rw [List.length_reverse]
        have := iZ none (some (j : Int)); have := iZ (some (j : Int)) (some ((j : Int) + 2)); omega
      refine ⟨.ref t, rfl, .int j, rfl, _, _, rfl, rfl, _, rfl, t, _, rfl, s8 _ _ (s7 _ _ (s6 _ _ (s5 _ _ ht4))), fun p5 H9 s9 e9 => ?_⟩
      refine ⟨p4, p5, _, _, rfl, rfl, s9 _ _ e8, e9, ?_, fun p6 Hx sx ex => ?_⟩
      · rw [List.length_append, List.length_reverse]
        have := iZ none (some (j : Int)); have := iZ (some (j : Int)) (some ((j : Int) + 2)); have := iZ (some ((j : Int) + 2)) none; omega
      · have sA := s5.trans (s6.trans (s7.trans (s8.trans (s9.trans sx))))
        exact q _ _ (bb.trans (Same.but sA)) (hp4.same sA) (.tup ex (((iT _ _ _).append (iT _ _ _).rev).append (iT _ _ _)))
    refine ⟨.int wy, rfl, rfl, _, rfl, ite2 (fun c => ?_) (fun c => ?_)⟩
    · refine ⟨.ref t, rfl, t, _, rfl, .inr (.inl (.inl ht4)), fun l2 n2 => ?_⟩
      exact q _ _ (bb.trans (Same.but (same_upd n2))) (hp4.same (same_upd n2)) (.inl ⟨_, .lst upd_same, by decide⟩)
    refine ⟨.int wy, rfl, rfl, _, rfl, ite2 (fun c => ?_) (fun c => ?_)⟩
    · refine ⟨.ref t, rfl, .ref p, rfl, .ref l, rfl, p, l, oL, rfl, hp4, .inl (.inl hl4), nlp, oN, oZ, fun H5 y b5 hp5 hy => ?_⟩
      obtain ⟨T, ty⟩ := (oT.but b5 hp4 hp5) y hy
      refine ⟨(by show 1 ≤ sizeLine; decide), fun a1 i1 => ?_⟩
      have s6 := same_upd (o := .tup [y]) i1
      refine ⟨t, a1, _, _, rfl, rfl, s6 _ _ (b5 _ _ tp ht4), upd_same, ?_, fun p3 H7 s7 e7 => ?_⟩
      · rw [List.length_singleton]; omega
      · exact q _ _ ((bb.trans b5).trans (Same.but (s6.trans s7))) (hp5.same (s6.trans s7)) (.tup e7 ((TL.ints _ ns).append (TL.one (ty.same (s6.trans s7)))))
    · refine ⟨.ref t, rfl, .int j, rfl, j, rfl, t, _, rfl, ht4, fun p1 H5 s5 e5 => ?_⟩
      have hp5 := hp4.same s5
      refine ⟨.ref p, rfl, .ref l, rfl, p, l, oL, rfl, hp5, .inl (.inl (s5 _ _ hl4)), nlp, oN, oZ, fun H6 y b6 hp6 hy => ?_⟩
      obtain ⟨T, ty⟩ := ((oT.same s5).but b6 hp5 hp6) y hy
      have p1p : p1 ≠ p := fun z => by
        obtain ⟨g, r, e0, _⟩ := hp5
        rw [z, e0] at e5
        cases e5
      refine ⟨(by show 1 ≤ sizeLine; decide), fun a1 i1 => ?_⟩
      have s7 := same_upd (o := .tup [y]) i1
      refine ⟨p1, a1, _, _, rfl, rfl, s7 _ _ (b6 _ _ p1p e5), upd_same, ?_, fun p3 H8 s8 e8 => ?_⟩
      · rw [List.length_singleton]
        have := iZ none (some (j : Int)); omega
      refine ⟨.ref t, rfl, .int j, rfl, _, _, rfl, rfl, _, rfl, t, _, rfl, s8 _ _ (s7 _ _ (b6 _ _ tp (s5 _ _ ht4))), fun p4 H9 s9 e9 => ?_⟩
      refine ⟨p3, p4, _, _, rfl, rfl, s9 _ _ e8, e9, ?_, fun p5 Hx sx ex => ?_⟩
      · rw [List.length_append, List.length_singleton]
        have := iZ none (some (j : Int)); have := iZ (some ((j : Int) + 1)) none; omega
      · have sA := s7.trans (s8.trans (s9.trans sx))
        exact q _ _ (((bb.trans (Same.but s5)).trans b6).trans (Same.but sA)) (hp6.same sA) (.tup ex (((iT _ _ _).append (TL.one (ty.same sA))).append (iT _ _ _)))
end
end Ph

namespace Ph
open PySem PySem.Spec PyProof.Rows L2
abbrev sLaw : Stmt := topS 17
theorem scLaw : FnScope ["_law_script", "_law_k", "_law_pot_here", "_law_turn", "_law_links_here", "_law_thing"] ["_law_script"] (defScope sLaw) := ⟨rfl, rfl, rfl, by decide +kernel, rfl, by decide +kernel, by decide +kernel⟩
theorem same_but {p : Addr} {H H1 H2 : Hp} (a : Same H H1) (n : H p = none) (b : But p H1 H2) : Same H H2 := fun c o h => b c o (ne_of_none h n) (a c o h)
section
variable {P : Program} {w : World} {K : PySem.W.Frag} {mg : Str → Option Value} {base : Heap}
def spLaw (K : PySem.W.Frag) : Sp := fun vs H Q _ => ∃ (a : Addr) (ns : List Int), vs = [.ref a] ∧ SqL K H a (ns.map V.int) ∧ ns.length ≤ 63 ∧ ∀ H', Q (.bl true) H'
theorem ok_law {f fII fM fI fP fT fO fL fD fN fU fG fC : Addr} {fd fdII fdM fdI fdP fdT fdO fdL fdD fdN fdU fdG fdC : FuncData} {t1 t2 : Tok} (F : Fun K "law" "law" sLaw f fd) (N : Nm2 K mg)
    (FII : Fun K "is_integer" "is_integer" sIsInt fII fdII) (bII : Binds K fdII ["value"] []) (gII : mg "is_integer" = some (.ref fII))
    (FM : Fun K "may_follow" "may_follow" sMay fM fdM) (bM : Binds K fdM ["larger", "size"] []) (gM : mg "may_follow" = some (.ref fM))
    (FI : Fun K "is_chain" "is_chain" sIsCh fI fdI) (bI : Binds K fdI ["value"] []) (gI : mg "is_chain" = some (.ref fI))
    (FP : Fun K "_law_pot" "_law_pot" sPot fP fdP) (bP : Binds K fdP ["_law_script", "_law_k"] []) (gP : mg "_law_pot" = some (.ref fP))
    (FT : Fun K "_law_take" "_law_take" sTake fT fdT) (bT : Binds K fdT ["_law_pot_here", "_law_upto"] []) (gT : mg "_law_take" = some (.ref fT))
    (FO : Fun K "_law_of" "_law_of" sOf fO fdO) (bO : Binds K fdO ["_law_pot_here", "_law_some"] []) (gO : mg "_law_of" = some (.ref fO))
    (FL : Fun K "_law_links" "_law_links" sLinks fL fdL) (bL : Binds K fdL ["_law_pot_here", "_law_most"] []) (gL : mg "_law_links" = some (.ref fL))
    (FD : Fun K "_law_odd" "_law_odd" sOdd fD fdD) (bD : Binds K fdD ["_law_pot_here"] []) (gD : mg "_law_odd" = some (.ref fD))
    (FN : Fun K "_law_is_number" "_law_is_number" sIsNum fN fdN) (bN : Binds K fdN ["_law_thing", "_law_least"] []) (gN : mg "_law_is_number" = some (.ref fN))
    (FU : Fun K "_law_due" "_law_due" sDue fU fdU) (bU : Binds K fdU ["_law_thing"] []) (gU : mg "_law_due" = some (.ref fU))
    (FG : Fun K "_law_long" "_law_long" sLong fG fdG) (bG : Binds K fdG ["_law_pot_here"] []) (gG : mg "_law_long" = some (.ref fG))
    (FC : Fun K "_law_changed" "_law_changed" sChg fC fdC) (bC : Binds K fdC ["_law_pot_here", "_law_links_here"] []) (gC : mg "_law_changed" = some (.ref fC))
    (m1 : mg "MOST_SIZES" = some (.int 12 t1)) (m2 : mg "LARGEST_SIZE" = some (.int 1000000000 t2)) :
    FnOk P w K mg base CX0 4 f fd ["_law_script"] (spLaw K) := by
  have GP : FnOk P w K mg base CX0 1 fP fdP ["_law_script", "_law_k"] (spPot K) := ok_pot FP N.len N.abs N.int N.dig
  have GT : FnOk P w K mg base CX0 1 fT fdT ["_law_pot_here", "_law_upto"] spTake := ok_take FT
  have GL : FnOk P w K mg base CX0 3 fL fdL ["_law_pot_here", "_law_most"] spLinks := ok_links FL FT bT gT FO bO gO N.len N.range N.tuple
  have GG : FnOk P w K mg base CX0 3 fG fdG ["_law_pot_here"] spLong := ok_long FG N FT bT gT FO bO gO
  have GC : FnOk P w K mg base CX0 3 fC fdC ["_law_pot_here", "_law_links_here"] spChg := ok_chg FC N FT bT gT FO bO gO
  have GD : FnOk P w K mg base CX0 3 fD fdD ["_law_pot_here"] spOdd := ok_odd FD N FT bT gT FO bO gO
  have GI : FnOk P w K mg base CX0 2 fI fdI ["value"] spCh := ok_isch FI N FII bII gII FM bM gM m1 m2
  have GU : FnOk P w K mg base CX0 2 fU fdU ["_law_thing"] spCh := ok_due FU N FN bN gN
  refine F.ok scLaw (fun vs H Q E h => ?_) (fun cdv A outer s H vs Q E hr h => ?_)
  · obtain ⟨a, ns, rfl, _⟩ := h
    rfl
  · obtain ⟨a, ns, rfl, hS, hlen, q⟩ := h
    have hr1 : Room 1 (A.deeper (envOfC "law" (defScope sLaw) s.heap.objs.size f cdv)) := hr.mono (by decide)
    have hr2 : Room 2 (A.deeper (envOfC "law" (defScope sLaw) s.heap.objs.size f cdv)) := hr.mono (by decide)
    refine ⟨_, (pss_cons (ps_for PassesOwn.never rfl (pi_range1 (by rfl) N.range (pa_cons (pe_callB (call_max2 rfl) (by rfl) N.max (by decide +kernel) (pa_cons pe_int (pa_cons (pe_callB (call_min2 rfl) (by rfl) N.min (by decide +kernel) (pa_cons pe_int (pa_cons (pe_callB call_len_seq (by rfl) N.len (by decide +kernel) (pa_cons (pv 0) pa_nil)) pa_nil))) pa_nil))) pa_nil)) (pg_name (i := 1) scLaw.nd rfl (.inl rfl))
       (pss_cons (ps_set (i := 2) scLaw.nd rfl (.inl rfl) (pe_call GP hr1 (by rfl) gP FP.kp bP .nil pass0 (pa_cons (pv 0) (pa_cons (pv 1) pa_nil))))
       (pss_one (ps_for PassesOwn.never rfl (pi_range1 (by rfl) N.range (pa_cons pe_int pa_nil)) (pg_name (i := 3) scLaw.nd rfl (.inl rfl))
       (pss_cons (ps_set (i := 4) scLaw.nd rfl (.inl rfl) (pe_ifExp (pt_cmpR op_gt (pe_call GT hr1 (by rfl) gT FT.kp bT .nil pass0 (pa_cons (pv 2) (pa_cons pe_int pa_nil))) pe_int (nomark _)) (pe_call GL hr (by rfl) gL FL.kp bL .nil pass0 (pa_cons (pv 2) (pa_cons pe_int pa_nil))) (pe_call GG hr (by rfl) gG FG.kp bG .nil pass0 (pa_cons (pv 2) pa_nil))))
       (pss_one (ps_for PassesOwn.never rfl (pi_tup (pe_tup (pa_cons (pv 4) (pa_cons (pe_call GC hr (by rfl) gC FC.kp bC .nil pass0 (pa_cons (pv 2) (pa_cons (pv 4) pa_nil))) (pa_cons (pe_call GD hr (by rfl) gD FD.kp bD .nil pass0 (pa_cons (pv 2) pa_nil)) pa_nil))))) (pg_name (i := 5) scLaw.nd rfl (.inl rfl))
       (pss_one (ps_if (pt_cmpR op_ne (pe_callB call_repr_bl (by rfl) N.repr (by decide +kernel) (pa_cons (pe_call GI hr2 (by rfl) gI FI.kp bI .nil pass0 (pa_cons (pv 5) pa_nil)) pa_nil)) (pe_callB call_repr_bl (by rfl) N.repr (by decide +kernel) (pa_cons (pe_call GU hr2 (by rfl) gU FU.kp bU .nil pass0 (pa_cons (pv 5) pa_nil)) pa_nil)) (nomark _))
       (pss_one (ps_ret pe_bl)) pss_nil)))))))))
       (pss_one (ps_ret pe_bl))), ?_⟩
    refine ⟨.ref a, rfl, a, _, rfl, .inl hS, _, _, rfl, _, _, rfl, ?_⟩
    generalize hz : (if (if (((ns.map V.int).length : Nat) : Int) < 3 then (((ns.map V.int).length : Nat) : Int) else 3) > 1 then (if (((ns.map V.int).length : Nat) : Int) < 3 then (((ns.map V.int).length : Nat) : Int) else 3) else 1) = z
    have hz0 : 1 ≤ z ∧ z ≤ 3 := by
      rw [← hz]
      split <;> (try split) <;> omega
    refine ⟨z, rfl, by omega, by omega, ?_⟩
    refine for_range (lo := 0) (n := z.toNat) (fun i σ H2 => ∃ y1 y2 y3 y4 y5, σ = [some (.ref a), y1, y2, y3, y4, y5] ∧ Same H H2) ⟨none, none, none, none, none, rfl, Same.refl _⟩ ?_ ?_
    · rintro i σ H2 hi ⟨y1, y2, y3, y4, y5, rfl, sm⟩
      refine ⟨.ref a, rfl, .int (0 + i), rfl, a, ns, i, ?_, sm.seq hS, by omega, fun H3 p s3 np hp => ?_⟩
      · rw [Int.zero_add]
        rfl
      have npH : H p = none := sm.free np
      refine ⟨10, rfl, by decide, by decide, ?_⟩
      refine for_range (lo := 0) (n := (10 : Int).toNat) (fun j σ H4 => ∃ y3 y4 y5, σ = [some (.ref a), some (.int (0 + i)), some (.ref p), y3, y4, y5] ∧ Same H H4 ∧ Pot H4 p) ⟨_, _, _, rfl, sm.trans s3, hp⟩ ?_ ?_
      · clear y3 y4 y5
        rintro j σ H4 hj ⟨y3, y4, y5, rfl, s4, hp4⟩
        refine ⟨.ref p, rfl, p, 3, rfl, hp4, by decide, by decide, fun H5 d b5 hp5 d0 d1 => ⟨_, _, rfl, rfl, _, rfl, ite2 (fun c => ?x1) (fun c => ?x2)⟩⟩
        case x1 =>
          refine ⟨.ref p, rfl, p, 5000, rfl, hp5, by decide, by decide, fun H6 t cs x b6 hp6 nt ht hk hl => ?_⟩
          have l1 : 1 ≤ cs.length := hk.len.1
          have l2 : cs.length ≤ 20 := by omega
          have bA := b5.trans b6
          clear b6 hk hl nt
          have s6 : Same H H6 := same_but s4 npH bA
          have tp : t ≠ p := fun z => by
            obtain ⟨g, r, e0, _⟩ := hp6
            rw [z, e0] at ht
            cases ht
          refine ⟨.ref t, rfl, .ref p, rfl, .ref t, rfl, p, t, cs, rfl, hp6, ht, l1, l2, fun H7 x7 b7 hp7 v7 => ⟨.ref p, rfl, p, rfl, hp7, fun H8 x8 b8 hp8 v8 => ⟨(by show 3 ≤ sizeLine; decide), fun u nu => ?_⟩⟩⟩
          have v9 := same_upd (o := .tup [.ref t, x7, x8]) nu
          have s8 : Same H H8 := same_but (same_but s6 npH b7) npH b8
          have t8 : Vd H8 (.ref t) := .tup (b8 _ _ tp (b7 _ _ tp ht)) (TL.ints _ cs)
          have x78 : Vd H8 x7 := v7.but b8 hp7 hp8
          refine ⟨u, rfl, ⟨_, .inl (.inl upd_same)⟩, for_tup (K := K) (a := u) (xs := [.ref t, x7, x8]) (fun m σ H9 => ∃ y5, σ = [some (.ref a), some (.int (0 + i)), some (.ref p), some (.int (0 + j)), some (.ref t), y5] ∧ Same (upd H8 u (.tup [.ref t, x7, x8])) H9) ⟨_, rfl, Same.refl _⟩ (fun m σ H9 _ hP => ?_) (fun m x σ H9 hx hP => ?_) (fun σ H9 hP => ?_)⟩
          · obtain ⟨_, _, sm9⟩ := hP
            exact .inl (.inl (sm9 _ _ upd_same))
          · obtain ⟨y5, rfl, sm9⟩ := hP
            have vx : Vd H8 x := by
              rcases List.mem_cons.mp (List.mem_of_getElem? hx) with e | e
              · rw [e]; exact t8
              rcases List.mem_cons.mp e with e | e
              · rw [e]; exact x78
              rw [List.mem_singleton.mp e]
              exact v8
            have vx9 : Vd H9 x := (vx.same v9).same sm9
            refine ⟨x, rfl, x, rfl, vx9, fun H10 b s10 hb => ⟨_, rfl, x, rfl, x, rfl, vx9.same s10, fun H11 b' s11 hb' => ⟨_, rfl, rfl, _, rfl, iteNS ?_ ?_⟩⟩⟩
            · have e : b = b' := by
                have hc : IsC H9 x ↔ IsC H10 x := by
                  constructor
                  · rintro ⟨z, zs, e1, e2, e3⟩
                    exact ⟨z, zs, e1, s10 _ _ e2, e3⟩
                  · rintro ⟨z, zs, e1, e2, e3⟩
                    subst e1
                    rcases vx9 with ⟨T, ty, nT⟩ | ⟨z2, xs, e4, e5, _⟩
                    · exfalso
                      have ty2 := ty.same s10
                      cases ty2 with
                      | tup e => exact nT rfl
                      | lst e => rw [e2] at e; cases e
                      | dK e => rw [e2] at e; cases e
                    · cases e4
                      have e6 := s10 _ _ e5
                      rw [e2] at e6
                      injection e6 with e6
                      injection e6 with e6
                      rw [← e6] at e5
                      exact ⟨_, zs, rfl, e5, e3⟩
                cases b <;> cases b' <;> simp_all
              rw [e]
            · exact ⟨_, rfl, sm9.trans (s10.trans s11)⟩
          · obtain ⟨y5, rfl, sm9⟩ := hP
            exact ⟨_, _, _, rfl, s8.trans (v9.trans sm9), hp8.same (v9.trans sm9)⟩
        case x2 =>
          refine ⟨.ref p, rfl, p, rfl, hp5, fun H6 t cs b6 hp6 nt ht l1 l2 => ?_⟩
          have bA := b5.trans b6
          clear b6 nt
          have s6 : Same H H6 := same_but s4 npH bA
          have tp : t ≠ p := fun z => by
            obtain ⟨g, r, e0, _⟩ := hp6
            rw [z, e0] at ht
            cases ht
          refine ⟨.ref t, rfl, .ref p, rfl, .ref t, rfl, p, t, cs, rfl, hp6, ht, l1, l2, fun H7 x7 b7 hp7 v7 => ⟨.ref p, rfl, p, rfl, hp7, fun H8 x8 b8 hp8 v8 => ⟨(by show 3 ≤ sizeLine; decide), fun u nu => ?_⟩⟩⟩
          have v9 := same_upd (o := .tup [.ref t, x7, x8]) nu
          have s8 : Same H H8 := same_but (same_but s6 npH b7) npH b8
          have t8 : Vd H8 (.ref t) := .tup (b8 _ _ tp (b7 _ _ tp ht)) (TL.ints _ cs)
          have x78 : Vd H8 x7 := v7.but b8 hp7 hp8
          refine ⟨u, rfl, ⟨_, .inl (.inl upd_same)⟩, for_tup (K := K) (a := u) (xs := [.ref t, x7, x8]) (fun m σ H9 => ∃ y5, σ = [some (.ref a), some (.int (0 + i)), some (.ref p), some (.int (0 + j)), some (.ref t), y5] ∧ Same (upd H8 u (.tup [.ref t, x7, x8])) H9) ⟨_, rfl, Same.refl _⟩ (fun m σ H9 _ hP => ?_) (fun m x σ H9 hx hP => ?_) (fun σ H9 hP => ?_)⟩
          · obtain ⟨_, _, sm9⟩ := hP
            exact .inl (.inl (sm9 _ _ upd_same))
          · obtain ⟨y5, rfl, sm9⟩ := hP
            have vx : Vd H8 x := by
              rcases List.mem_cons.mp (List.mem_of_getElem? hx) with e | e
              · rw [e]; exact t8
              rcases List.mem_cons.mp e with e | e
              · rw [e]; exact x78
              rw [List.mem_singleton.mp e]
              exact v8
            have vx9 : Vd H9 x := (vx.same v9).same sm9
            refine ⟨x, rfl, x, rfl, vx9, fun H10 b s10 hb => ⟨_, rfl, x, rfl, x, rfl, vx9.same s10, fun H11 b' s11 hb' => ⟨_, rfl, rfl, _, rfl, iteNS ?_ ?_⟩⟩⟩
            · have e : b = b' := by
                have hc : IsC H9 x ↔ IsC H10 x := by
                  constructor
                  · rintro ⟨z, zs, e1, e2, e3⟩
                    exact ⟨z, zs, e1, s10 _ _ e2, e3⟩
                  · rintro ⟨z, zs, e1, e2, e3⟩
                    subst e1
                    rcases vx9 with ⟨T, ty, nT⟩ | ⟨z2, xs, e4, e5, _⟩
                    · exfalso
                      have ty2 := ty.same s10
                      cases ty2 with
                      | tup e => exact nT rfl
                      | lst e => rw [e2] at e; cases e
                      | dK e => rw [e2] at e; cases e
                    · cases e4
                      have e6 := s10 _ _ e5
                      rw [e2] at e6
                      injection e6 with e6
                      injection e6 with e6
                      rw [← e6] at e5
                      exact ⟨_, zs, rfl, e5, e3⟩
                cases b <;> cases b' <;> simp_all
              rw [e]
            · exact ⟨_, rfl, sm9.trans (s10.trans s11)⟩
          · obtain ⟨y5, rfl, sm9⟩ := hP
            exact ⟨_, _, _, rfl, s8.trans (v9.trans sm9), hp8.same (v9.trans sm9)⟩
      · rintro σ H4 ⟨y3, y4, y5, rfl, s4, hp4⟩
        exact ⟨_, _, _, _, _, rfl, s4⟩
    · rintro σ H2 ⟨y1, y2, y3, y4, y5, rfl, sm⟩
      exact q _
end
end Ph

namespace Ph
open PySem PySem.Spec PyProof.Rows L2
theorem all_mk {l : PySem.W.OpenLaw} {w : World} {K : PySem.W.Frag} {h : Heap} {mg : Str → Option Value} {fa : Addr} (X : K.In h) (G : h.Ns mainGlobals mg) (hfa : mg "law" = some (.ref fa))
    {f1 : Addr} {od1 an1 : Option Addr} {sl1 : Array (Option Value)} {oc1 kV1 dc1 pm1 cd1 ct1 : Value} (a1 : PySem.W.nsIn K mainGlobals "is_integer" = some (some (.ref f1))) (l1 : K.lookup f1 = some ⟨oc1, od1, .func (PySem.W.fnOf "is_integer" "is_integer" (defArgs sIsInt) (defBody sIsInt) (defScope sIsInt) .none kV1 dc1 pm1 an1 cd1 ct1), sl1⟩) (c1 : PySem.W.codeIn K cd1 "is_integer" = true) (k1 : PySem.W.keepIn K (.ref f1) = true)
    {f2 : Addr} {od2 an2 : Option Addr} {sl2 : Array (Option Value)} {oc2 kV2 dc2 pm2 cd2 ct2 : Value} (a2 : PySem.W.nsIn K mainGlobals "may_follow" = some (some (.ref f2))) (l2 : K.lookup f2 = some ⟨oc2, od2, .func (PySem.W.fnOf "may_follow" "may_follow" (defArgs sMay) (defBody sMay) (defScope sMay) .none kV2 dc2 pm2 an2 cd2 ct2), sl2⟩) (c2 : PySem.W.codeIn K cd2 "may_follow" = true) (k2 : PySem.W.keepIn K (.ref f2) = true)
    {f3 : Addr} {od3 an3 : Option Addr} {sl3 : Array (Option Value)} {oc3 kV3 dc3 pm3 cd3 ct3 : Value} (a3 : PySem.W.nsIn K mainGlobals "is_chain" = some (some (.ref f3))) (l3 : K.lookup f3 = some ⟨oc3, od3, .func (PySem.W.fnOf "is_chain" "is_chain" (defArgs sIsCh) (defBody sIsCh) (defScope sIsCh) .none kV3 dc3 pm3 an3 cd3 ct3), sl3⟩) (c3 : PySem.W.codeIn K cd3 "is_chain" = true) (k3 : PySem.W.keepIn K (.ref f3) = true)
    {f4 : Addr} {od4 an4 : Option Addr} {sl4 : Array (Option Value)} {oc4 kV4 dc4 pm4 cd4 ct4 : Value} (a4 : PySem.W.nsIn K mainGlobals "_law_pot" = some (some (.ref f4))) (l4 : K.lookup f4 = some ⟨oc4, od4, .func (PySem.W.fnOf "_law_pot" "_law_pot" (defArgs sPot) (defBody sPot) (defScope sPot) .none kV4 dc4 pm4 an4 cd4 ct4), sl4⟩) (c4 : PySem.W.codeIn K cd4 "_law_pot" = true) (k4 : PySem.W.keepIn K (.ref f4) = true)
    {f5 : Addr} {od5 an5 : Option Addr} {sl5 : Array (Option Value)} {oc5 kV5 dc5 pm5 cd5 ct5 : Value} (a5 : PySem.W.nsIn K mainGlobals "_law_take" = some (some (.ref f5))) (l5 : K.lookup f5 = some ⟨oc5, od5, .func (PySem.W.fnOf "_law_take" "_law_take" (defArgs sTake) (defBody sTake) (defScope sTake) .none kV5 dc5 pm5 an5 cd5 ct5), sl5⟩) (c5 : PySem.W.codeIn K cd5 "_law_take" = true) (k5 : PySem.W.keepIn K (.ref f5) = true)
    {f6 : Addr} {od6 an6 : Option Addr} {sl6 : Array (Option Value)} {oc6 kV6 dc6 pm6 cd6 ct6 : Value} (a6 : PySem.W.nsIn K mainGlobals "_law_of" = some (some (.ref f6))) (l6 : K.lookup f6 = some ⟨oc6, od6, .func (PySem.W.fnOf "_law_of" "_law_of" (defArgs sOf) (defBody sOf) (defScope sOf) .none kV6 dc6 pm6 an6 cd6 ct6), sl6⟩) (c6 : PySem.W.codeIn K cd6 "_law_of" = true) (k6 : PySem.W.keepIn K (.ref f6) = true)
    {f7 : Addr} {od7 an7 : Option Addr} {sl7 : Array (Option Value)} {oc7 kV7 dc7 pm7 cd7 ct7 : Value} (a7 : PySem.W.nsIn K mainGlobals "_law_links" = some (some (.ref f7))) (l7 : K.lookup f7 = some ⟨oc7, od7, .func (PySem.W.fnOf "_law_links" "_law_links" (defArgs sLinks) (defBody sLinks) (defScope sLinks) .none kV7 dc7 pm7 an7 cd7 ct7), sl7⟩) (c7 : PySem.W.codeIn K cd7 "_law_links" = true) (k7 : PySem.W.keepIn K (.ref f7) = true)
    {f8 : Addr} {od8 an8 : Option Addr} {sl8 : Array (Option Value)} {oc8 kV8 dc8 pm8 cd8 ct8 : Value} (a8 : PySem.W.nsIn K mainGlobals "_law_odd" = some (some (.ref f8))) (l8 : K.lookup f8 = some ⟨oc8, od8, .func (PySem.W.fnOf "_law_odd" "_law_odd" (defArgs sOdd) (defBody sOdd) (defScope sOdd) .none kV8 dc8 pm8 an8 cd8 ct8), sl8⟩) (c8 : PySem.W.codeIn K cd8 "_law_odd" = true) (k8 : PySem.W.keepIn K (.ref f8) = true)
    {f9 : Addr} {od9 an9 : Option Addr} {sl9 : Array (Option Value)} {oc9 kV9 dc9 pm9 cd9 ct9 : Value} (a9 : PySem.W.nsIn K mainGlobals "_law_is_number" = some (some (.ref f9))) (l9 : K.lookup f9 = some ⟨oc9, od9, .func (PySem.W.fnOf "_law_is_number" "_law_is_number" (defArgs sIsNum) (defBody sIsNum) (defScope sIsNum) .none kV9 dc9 pm9 an9 cd9 ct9), sl9⟩) (c9 : PySem.W.codeIn K cd9 "_law_is_number" = true) (k9 : PySem.W.keepIn K (.ref f9) = true)
    {f10 : Addr} {od10 an10 : Option Addr} {sl10 : Array (Option Value)} {oc10 kV10 dc10 pm10 cd10 ct10 : Value} (a10 : PySem.W.nsIn K mainGlobals "_law_due" = some (some (.ref f10))) (l10 : K.lookup f10 = some ⟨oc10, od10, .func (PySem.W.fnOf "_law_due" "_law_due" (defArgs sDue) (defBody sDue) (defScope sDue) .none kV10 dc10 pm10 an10 cd10 ct10), sl10⟩) (c10 : PySem.W.codeIn K cd10 "_law_due" = true) (k10 : PySem.W.keepIn K (.ref f10) = true)
    {f11 : Addr} {od11 an11 : Option Addr} {sl11 : Array (Option Value)} {oc11 kV11 dc11 pm11 cd11 ct11 : Value} (a11 : PySem.W.nsIn K mainGlobals "_law_long" = some (some (.ref f11))) (l11 : K.lookup f11 = some ⟨oc11, od11, .func (PySem.W.fnOf "_law_long" "_law_long" (defArgs sLong) (defBody sLong) (defScope sLong) .none kV11 dc11 pm11 an11 cd11 ct11), sl11⟩) (c11 : PySem.W.codeIn K cd11 "_law_long" = true) (k11 : PySem.W.keepIn K (.ref f11) = true)
    {f12 : Addr} {od12 an12 : Option Addr} {sl12 : Array (Option Value)} {oc12 kV12 dc12 pm12 cd12 ct12 : Value} (a12 : PySem.W.nsIn K mainGlobals "_law_changed" = some (some (.ref f12))) (l12 : K.lookup f12 = some ⟨oc12, od12, .func (PySem.W.fnOf "_law_changed" "_law_changed" (defArgs sChg) (defBody sChg) (defScope sChg) .none kV12 dc12 pm12 an12 cd12 ct12), sl12⟩) (c12 : PySem.W.codeIn K cd12 "_law_changed" = true) (k12 : PySem.W.keepIn K (.ref f12) = true)
    {f13 : Addr} {od13 an13 : Option Addr} {sl13 : Array (Option Value)} {oc13 kV13 dc13 pm13 cd13 ct13 : Value} (a13 : PySem.W.nsIn K mainGlobals "law" = some (some (.ref f13))) (l13 : K.lookup f13 = some ⟨oc13, od13, .func (PySem.W.fnOf "law" "law" (defArgs sLaw) (defBody sLaw) (defScope sLaw) .none kV13 dc13 pm13 an13 cd13 ct13), sl13⟩) (c13 : PySem.W.codeIn K cd13 "law" = true) (k13 : PySem.W.keepIn K (.ref f13) = true)
    (z1 : PySem.W.nsIn K mainGlobals "len" = some none)
    (z2 : PySem.W.nsIn K mainGlobals "abs" = some none)
    (z3 : PySem.W.nsIn K mainGlobals "int" = some none)
    (z4 : PySem.W.nsIn K mainGlobals "range" = some none)
    (z5 : PySem.W.nsIn K mainGlobals "tuple" = some none)
    (z6 : PySem.W.nsIn K mainGlobals "zip" = some none)
    (z7 : PySem.W.nsIn K mainGlobals "max" = some none)
    (z8 : PySem.W.nsIn K mainGlobals "min" = some none)
    (z9 : PySem.W.nsIn K mainGlobals "repr" = some none)
    (z10 : PySem.W.nsIn K mainGlobals "isinstance" = some none)
    (z11 : PySem.W.nsIn K mainGlobals "bool" = some none)
    (z12 : PySem.W.nsIn K mainGlobals "all" = some none)
    (z13 : PySem.W.nsIn K mainGlobals "list" = some none)
    {t1 : Tok} (v1 : PySem.W.nsIn K mainGlobals "MOST_SIZES" = some (some (Value.int 12 t1)))
    {t2 : Tok} (v2 : PySem.W.nsIn K mainGlobals "LARGEST_SIZE" = some (some (Value.int 1000000000 t2)))
    (zd : PySem.W.nsIn K cStatics "sys.int_max_str_digits" = some none) :
    ∃ fd : FuncData, (∀ (s : Shared) (v : Value), BindsTo s fd ⟨[v], []⟩ [("_law_script", v)]) ∧ ∀ base : Heap, K.In base → base.Ns mainGlobals mg → FnOk l.prog w K mg base CX0 4 fa fd ["_law_script"] (spLaw K) := by
  have e := hfa.symm.trans (PySem.W.mg_of X G a13)
  cases e
  have FII := fun_mk (st := sIsInt) l1 c1 k1
  have bFII := FII.binds (ps := ["value"]) fun _ _ _ _ _ _ us hl => match us, hl with | [_], _ => rfl
  have FM := fun_mk (st := sMay) l2 c2 k2
  have bFM := FM.binds (ps := ["larger", "size"]) fun _ _ _ _ _ _ us hl => match us, hl with | [_, _], _ => rfl
  have FI := fun_mk (st := sIsCh) l3 c3 k3
  have bFI := FI.binds (ps := ["value"]) fun _ _ _ _ _ _ us hl => match us, hl with | [_], _ => rfl
  have FP := fun_mk (st := sPot) l4 c4 k4
  have bFP := FP.binds (ps := ["_law_script", "_law_k"]) fun _ _ _ _ _ _ us hl => match us, hl with | [_, _], _ => rfl
  have FT := fun_mk (st := sTake) l5 c5 k5
  have bFT := FT.binds (ps := ["_law_pot_here", "_law_upto"]) fun _ _ _ _ _ _ us hl => match us, hl with | [_, _], _ => rfl
  have FO := fun_mk (st := sOf) l6 c6 k6
  have bFO := FO.binds (ps := ["_law_pot_here", "_law_some"]) fun _ _ _ _ _ _ us hl => match us, hl with | [_, _], _ => rfl
  have FL := fun_mk (st := sLinks) l7 c7 k7
  have bFL := FL.binds (ps := ["_law_pot_here", "_law_most"]) fun _ _ _ _ _ _ us hl => match us, hl with | [_, _], _ => rfl
  have FD := fun_mk (st := sOdd) l8 c8 k8
  have bFD := FD.binds (ps := ["_law_pot_here"]) fun _ _ _ _ _ _ us hl => match us, hl with | [_], _ => rfl
  have FN := fun_mk (st := sIsNum) l9 c9 k9
  have bFN := FN.binds (ps := ["_law_thing", "_law_least"]) fun _ _ _ _ _ _ us hl => match us, hl with | [_, _], _ => rfl
  have FU := fun_mk (st := sDue) l10 c10 k10
  have bFU := FU.binds (ps := ["_law_thing"]) fun _ _ _ _ _ _ us hl => match us, hl with | [_], _ => rfl
  have FG := fun_mk (st := sLong) l11 c11 k11
  have bFG := FG.binds (ps := ["_law_pot_here"]) fun _ _ _ _ _ _ us hl => match us, hl with | [_], _ => rfl
  have FC := fun_mk (st := sChg) l12 c12 k12
  have bFC := FC.binds (ps := ["_law_pot_here", "_law_links_here"]) fun _ _ _ _ _ _ us hl => match us, hl with | [_, _], _ => rfl
  have FF := fun_mk (st := sLaw) l13 c13 k13
  have N : Nm2 K mg := ⟨PySem.W.mg_none_of X G z1, PySem.W.mg_none_of X G z2, PySem.W.mg_none_of X G z3, PySem.W.mg_none_of X G z4, PySem.W.mg_none_of X G z5, PySem.W.mg_none_of X G z6, PySem.W.mg_none_of X G z7, PySem.W.mg_none_of X G z8, PySem.W.mg_none_of X G z9, PySem.W.mg_none_of X G z10, PySem.W.mg_none_of X G z11, PySem.W.mg_none_of X G z12, PySem.W.mg_none_of X G z13, zd⟩
  exact ⟨PySem.W.fnOf "law" "law" (defArgs sLaw) (defBody sLaw) (defScope sLaw) .none kV13 dc13 pm13 an13 cd13 ct13, fun s v => .of_eq rfl, fun base _ _ => ok_law FF N FII bFII (PySem.W.mg_of X G a1) FM bFM (PySem.W.mg_of X G a2) FI bFI (PySem.W.mg_of X G a3) FP bFP (PySem.W.mg_of X G a4) FT bFT (PySem.W.mg_of X G a5) FO bFO (PySem.W.mg_of X G a6) FL bFL (PySem.W.mg_of X G a7) FD bFD (PySem.W.mg_of X G a8) FN bFN (PySem.W.mg_of X G a9) FU bFU (PySem.W.mg_of X G a10) FG bFG (PySem.W.mg_of X G a11) FC bFC (PySem.W.mg_of X G a12) (PySem.W.mg_of X G v1) (PySem.W.mg_of X G v2)⟩
end Ph
open PySem PySem.W PyProof.Rows
set_option maxHeartbeats 0 in
theorem PySem.Challenge.cw_pinnedheap_k02_chains_of_any_value_holds : PySem.Challenge.rw_pinnedheap_k02_chains_of_any_value.Holds := by
  w_on; o_law; k_head; (case hw => w_witness2)
  k_fill
  refine L2.walk_of (l := PySem.Challenge.rw_pinnedheap_k02_chains_of_any_value) (n := 63) (k := 4) (x := "_law_script") (CX := fun _ => L2.CX0) (sp := fun w => Ph.spLaw _) rfl (by decide) rfl ⟨rfl, by decide, by decide⟩ (fun w h Y => PySem.W.kIn_of Y) ?F (fun _ _ a ns hl _ hS => ⟨a, ns, rfl, hS, hl, fun _ => rfl⟩) (fun _ _ _ _ _ h => h)
  case F =>
    intro w mg fa h KX G hmg
    refine' Ph.all_mk KX G hmg ?a1 ?l1 ?c1 ?k1 ?a2 ?l2 ?c2 ?k2 ?a3 ?l3 ?c3 ?k3 ?a4 ?l4 ?c4 ?k4 ?a5 ?l5 ?c5 ?k5 ?a6 ?l6 ?c6 ?k6 ?a7 ?l7 ?c7 ?k7 ?a8 ?l8 ?c8 ?k8 ?a9 ?l9 ?c9 ?k9 ?a10 ?l10 ?c10 ?k10 ?a11 ?l11 ?c11 ?k11 ?a12 ?l12 ?c12 ?k12 ?a13 ?l13 ?c13 ?k13 ?z1 ?z2 ?z3 ?z4 ?z5 ?z6 ?z7 ?z8 ?z9 ?z10 ?z11 ?z12 ?z13 ?v1 ?v2 ?zd
    (case a1 => k_is); (case l1 => k_is); (case c1 => k_is); (case k1 => k_is); (case a2 => k_is); (case l2 => k_is); (case c2 => k_is); (case k2 => k_is); (case a3 => k_is); (case l3 => k_is); (case c3 => k_is); (case k3 => k_is); (case a4 => k_is); (case l4 => k_is); (case c4 => k_is); (case k4 => k_is); (case a5 => k_is); (case l5 => k_is); (case c5 => k_is); (case k5 => k_is); (case a6 => k_is); (case l6 => k_is); (case c6 => k_is); (case k6 => k_is); (case a7 => k_is); (case l7 => k_is); (case c7 => k_is); (case k7 => k_is); (case a8 => k_is); (case l8 => k_is); (case c8 => k_is); (case k8 => k_is); (case a9 => k_is); (case l9 => k_is); (case c9 => k_is); (case k9 => k_is); (case a10 => k_is); (case l10 => k_is); (case c10 => k_is); (case k10 => k_is); (case a11 => k_is); (case l11 => k_is); (case c11 => k_is); (case k11 => k_is); (case a12 => k_is); (case l12 => k_is); (case c12 => k_is); (case k12 => k_is); (case a13 => k_is); (case l13 => k_is); (case c13 => k_is); (case k13 => k_is); (case z1 => k_is); (case z2 => k_is); (case z3 => k_is); (case z4 => k_is); (case z5 => k_is); (case z6 => k_is); (case z7 => k_is); (case z8 => k_is); (case z9 => k_is); (case z10 => k_is); (case z11 => k_is); (case z12 => k_is); (case z13 => k_is); (case v1 => k_is); (case v2 => k_is); (case zd => k_is)
