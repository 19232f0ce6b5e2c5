import PyProof.Rows.All
import Wide.All
import OpenK.AllK
import Wide.FinOn
import HandS.ForMost
import HandS.ForExc
import HandS.Wide
import HandS.Zip
import HandS.TupAny
import HandS.RaiseMore
import HandS.IsInst
import KE.KIntText
import HandS.SetFor
import HandS.Strs
import HandS.SortInts
import HandS.Conv
import KE.KDictSum
import HandS.SortRule
import HandS.Deep
import PyProof.P3In
import HandS.Sort
import HandS.Walk
import HandS.Small
import HandS.SortKw
import HandS.Star
import KE.DataMinMax
import HandS.SetBool
import HandS.TupLe
import HandS.Style
import PySem.Challenge.RW_pinnedheap_k16_whole_states_moved_by_pag
set_option Elab.async false
set_option linter.all false
set_option maxRecDepth 100000
namespace Ph
open PySem PySem.Spec PyProof.Rows L2 PySem.NumText PySem.Calls
/-! ### the limit on digits stands as it was at the beginning -/
theorem noDigits_of {K : PySem.W.Frag} {h : Heap} (X : K.In h) (L : h.NoLimit) (e : PySem.W.nsIn K cStatics "sys.int_max_str_digits" = some none) : h.NoDigits := by
  obtain ⟨mc, G, _⟩ := L
  refine ⟨mc, G, ?_⟩
  obtain ⟨o, es, ep, ho, hd, _, hf⟩ := G
  unfold PySem.W.nsIn at e
  split at e
  · rename_i c d es' n' sl q
    have := X _ _ q
    rw [ho] at this
    cases this
    cases hd
    split at e
    · cases e
    · rename_i he
      rw [← hf]
      unfold nsFind findBy
      rw [← Array.find?_toList, he]
      rfl
  · cases e
theorem wp_digits {M : Model} {A : Around} {E : Value → Shared → Prop} {s : Shared} {Q : Nat → Shared → Prop} (hn : s.heap.NoDigits) (h : Q 4300 s) : wpAny M A Builtin.intMaxStrDigits Q E s := by
  obtain ⟨mc, hns, hnone⟩ := hn
  unfold Builtin.intMaxStrDigits
  refine wpAny_bind (wpAny_nsGet hns ?_)
  rw [hnone]
  exact wpAny_pure h
/-! ### int(text) of more than 640 digits -/
theorem wp_textW {M : Model} {A : Around} {E : Value → Shared → Prop} {s : Shared} {Q : Value → Shared → Prop} {v : Value} {text : List Nat} {n : Int} (hn : s.heap.NoDigits)
    (hs : ¬ (text.takeWhile (· != 0)).length ≤ 640) (hr : (int_private% "readNumeral") 4300 10 (text.takeWhile (· != 0)) = (int_private% "Numeral.value") n)
    (ha : ((text.takeWhile (· != 0)).length == text.length) = true) (h : Q (.int n s.toks) { s with toks := s.toks + 1 }) :
    wpAny M A ((int_private% "intFromText") v text 10) Q E s := by
  show wpAny M A (if (text.takeWhile (· != 0)).length ≤ 640 then _ else (Builtin.intMaxStrDigits >>= _)) Q E s
  rw [if_neg hs]
  refine wpAny_bind (wp_digits hn ?_)
  dsimp only
  rw [hr]
  dsimp only
  rw [if_pos ha]
  exact wpAny_mkInt h
set_option maxHeartbeats 4000000 in
theorem meets_textW {x : PySem.Str} {u : Tok} {n : Int} (hs : ¬ (numSeenOf x).length ≤ 640) (hr : (int_private% "readNumeral") 4300 10 (numSeenOf x) = (int_private% "Numeral.value") n) (ha : ((numSeenOf x).length == (numTextOf x).length) = true) :
    Meets (Builtin.«int.__new__» ⟨[.type "int", .str x u], []⟩) (fun _ R s => s.heap.NoDigits ∧ R (.ok (.ret (.int n s.toks))) { s with toks := s.toks + 1 }) :=
  .of_wp fun prog w A R s h => by
    obtain ⟨hn, h⟩ := h
    obtain ⟨hp, g, d, tk, os⟩ := s
    have f1 := F.conv_sub_int
    have f2 := F.madeHere_int
    have f3 := PySem.W.KIN.str_int
    have f4 := PySem.W.KIN.str_idx
    have f5 := PySem.W.KIN.str_trunc
    have f6 : typeOf (.str x u) = pure (.type "str") := rfl
    have hk := PySem.W.KIN.Hid.mk (And.intro hs (And.intro hr ha))
    have hk2 := PySem.W.KIN.Hid.mk hn
    clear hs hr ha hn
    repeat (any_goals (first
      | assumption
      | ((with_reducible show wpAny _ _ ((int_private% "intFromText") _ _ _) _ _ _); refine wp_textW hk2.out hk.out.1 hk.out.2.1 hk.out.2.2 ?_)
      | wp_step))
    all_goals first | exact ⟨_, rfl, h⟩ | skip
def big9 : PySem.Str := (Str.ofString "1") ++ Txt.mul (Str.ofString "0") 900
theorem reps_list (c : Nat) : ∀ (k : Nat) (acc : Array Nat), ((List.replicate k (#[c] : Array Nat)).foldl (· ++ ·) acc).toList = acc.toList ++ List.replicate k c
  | 0, acc => by simp
  | k + 1, acc => by
    rw [List.replicate_succ, List.foldl_cons, reps_list c k, List.replicate_succ]
    simp
theorem zeros_list : (Txt.mul (Str.ofString "0") 900).cps.toList = List.replicate 900 48 := by
  have e : Txt.mul (Str.ofString "0") 900 = ⟨(List.replicate 900 (#[48] : Array Nat)).foldl (· ++ ·) #[]⟩ := by
    unfold Txt.mul
    rw [if_neg (by decide), if_neg (by decide +kernel)]
    rfl
  rw [e]
  exact reps_list 48 900 #[]
theorem big9_list : big9.cps.toList = 49 :: List.replicate 900 48 := by
  have e : big9.cps.toList = (Str.ofString "1").cps.toList ++ (Txt.mul (Str.ofString "0") 900).cps.toList := Array.toList_append
  rw [e, zeros_list]
  rfl
theorem big9_digits : AllDigits big9.cps.toList := by
  rw [big9_list]
  intro d hd
  rcases List.mem_cons.mp hd with e | e
  · subst e; decide
  · rw [(List.mem_replicate.mp e).2]; decide
theorem digits_zeros : ∀ (k a : Nat), (List.replicate k 48).foldl (fun acc c => acc * 10 + (c - 48)) a = a * 10 ^ k
  | 0, a => by simp
  | k + 1, a => by
    rw [List.replicate_succ, List.foldl_cons, digits_zeros k, Nat.pow_succ]
    show (a * 10 + 0) * 10 ^ k = a * (10 ^ k * 10)
    rw [Nat.add_zero, Nat.mul_assoc, Nat.mul_comm 10 (10 ^ k)]
theorem big9_val : digitsVal big9.cps.toList = 10 ^ 900 := by
  rw [big9_list]
  unfold digitsVal
  rw [List.foldl_cons, digits_zeros]
  show (0 * 10 + 1) * 10 ^ 900 = 10 ^ 900
  rw [Nat.zero_mul, Nat.zero_add, Nat.one_mul]
theorem big9_length : big9.length = 901 := by
  have e : big9.cps.toList.length = big9.length := Array.length_toList
  rw [← e, big9_list, List.length_cons, List.length_replicate]
theorem ten_ex : ∃ t : Int, intText? big9 = some t ∧ 0 < t ∧ t.natAbs < 2 ^ 3000 := by
  refine ⟨_, intText_digits big9_digits (by rw [big9_list]; exact List.cons_ne_nil _ _) (by rw [big9_length]; decide), ?_, ?_⟩
  · rw [big9_val]
    exact Int.natCast_pos.mpr (Nat.pow_pos (by decide))
  · rw [big9_val, Int.natAbs_natCast]
    decide +kernel
noncomputable def ten9 : Int := Classical.choose ten_ex
theorem big9_int : intText? big9 = some ten9 := (Classical.choose_spec ten_ex).1
theorem ten9_pos : 0 < ten9 := (Classical.choose_spec ten_ex).2.1
theorem ten9_lt : ten9.natAbs < 2 ^ 3000 := (Classical.choose_spec ten_ex).2.2
theorem big9_text : numTextOf big9 = big9.cps.toList ∧ numSeenOf big9 = big9.cps.toList := numText_signs fun c hc => Or.inr (big9_digits c hc)
theorem big9_seen : ¬ (numSeenOf big9).length ≤ 640 := by
  rw [big9_text.2, big9_list, List.length_cons, List.length_replicate]
  decide
theorem big9_all : ((numSeenOf big9).length == (numTextOf big9).length) = true := by
  rw [big9_text.1, big9_text.2]
  exact beq_self_eq_true _
theorem big9_read : (int_private% "readNumeral") 4300 10 (numSeenOf big9) = (int_private% "Numeral.value") ten9 := by
  rcases read4300 big9 (by rw [big9_length]; decide) with ⟨n, h1, h2, h3⟩ | ⟨h1, _⟩
  · rw [Option.some.inj (big9_int.symm.trans h1)]
    exact h3
  · rw [big9_int] at h1
    cases h1
theorem zeros_length : (Txt.mul (Str.ofString "0") 900).length = 900 := by
  have e : (Txt.mul (Str.ofString "0") 900).cps.toList.length = (Txt.mul (Str.ofString "0") 900).length := Array.length_toList
  rw [← e, zeros_list, List.length_replicate]
theorem big9_len : (Str.ofString "1").length + (Txt.mul (Str.ofString "0") 900).length ≤ sizeLine := by
  rw [zeros_length]
  decide +kernel
theorem zeros_ok : MulOk (Str.ofString "0") 900 := ⟨by decide, fun _ _ => by decide +kernel, fun _ _ => by decide +kernel⟩
section
variable {X : Cx}
theorem Inv.noDigits {pins : List (Addr × Obj)} {σ : List (Option V)} {H : Hp} {s : Shared} (I : Inv X pins σ H s) (e : PySem.W.nsIn X.K cStatics "sys.int_max_str_digits" = some none) : s.heap.NoDigits :=
  (noDigits_of I.ok.mod.kin I.ok.mod.nolimit e).keeps I.bk
theorem call_big9 (e : PySem.W.nsIn X.K cStatics "sys.int_max_str_digits" = some none) : CallR X (.type "int") (fun xs H Q => xs = [.str big9] ∧ Q (.int ten9) H) := by
  intro pins s σ H xs us Q I r h
  obtain ⟨rfl, q⟩ := h
  obtain ⟨u, rfl, t, rfl⟩ := vals1 r
  exact call_int_1 (meets_textW big9_seen big9_read big9_all) ⟨Inv.noDigits I e, ⟨typeIs_int _ _ _, ⟨.int ten9, H, I.tok _, ⟨_, rfl⟩, q⟩⟩⟩
/-- text * number -/
theorem op_repS : OpR X (binaryOp .Mult) (fun x y H Q => ∃ z k, x = .str z ∧ y = .int k ∧ MulOk z k ∧ Q (.str (Txt.mul z k)) H) := by
  intro pins s σ H x y v u Q I rx ry h
  obtain ⟨i, j, rfl, rfl, hz, q⟩ := h
  obtain ⟨t, rfl⟩ := rx
  obtain ⟨t', rfl⟩ := ry
  exact SB.mul hz (fun t' k => ⟨.str _, H, I.tok _, ⟨_, rfl⟩, q⟩)
theorem iop_mulW : OpR X (inplaceOp .Mult) (rI CMulW fun i j => .int (i * j)) := opI fun _ _ _ _ _ _ _ hc q => imul_int q hc.ok
theorem ip_mulW : PIp X .Mult (fun x y H Q => ∃ i j, x = .int i ∧ y = .int j ∧ CMulW i j ∧ Q (.int (i * j)) H) := by
  intro pins s σ H x y v u Q I r1 r2 h
  obtain ⟨i, j, e1, e2, hc, q⟩ := h
  subst e1; subst e2
  obtain ⟨t, rfl⟩ := r1
  obtain ⟨t', rfl⟩ := r2
  exact imul_int ⟨.int _, H, I.tok _, ⟨_, rfl⟩, q⟩ hc.ok
theorem repr_wide {prog : Program} {w : World} {A : Around} {E : Value → Shared → Prop} {s : Shared} {a : Int} {t : Tok} {Q : Value → Shared → Prop} (hn : s.heap.NoDigits) (hlt : a.natAbs < 10 ^ 4300) (h : Q (.str (toString a) s.toks) { s with toks := s.toks + 1 }) :
    wpAny (model prog w) A (call (.builtin "repr") [.int a t]) Q E s := by
  refine Calls.call_function_entry F.kind_repr F.plain_repr F.entry_repr (F.args_repr1 _) ?_
  unfold Builtin.«repr»
  refine wpAny_bind (m := oneArg "repr" _) (wpAny_pure ?_)
  have hv : [Value.int a t].any Value.onHeap = false := rfl
  simp only [cRoomFor, hv, Bool.false_eq_true, if_false, pure_bind]
  refine wpAny_bind (wpAny_specialOf (name := Str.ofString "__repr__") (typeIs_int s a t) F.slot_int_repr.lookup ?_)
  refine wpAny_bind (m := callSpecialIfBound? (.int a t) (Str.ofString "__repr__")) (wpAny_callSpecialIfBound?_slot (name := Str.ofString "__repr__") (typeIs_int s a t) F.slot_int_repr ?_)
  refine wpAny_call_entry F.slot_int_repr (typeIs_int s a t) F.entry_int_repr ?_ (F.args_int_repr_1 _)
  unfold Builtin.«int.__repr__»
  show wpAny _ _ (do let r ← Builtin.overDigitLimit? a; _) _ _ s
  refine wpAny_bind (overDigitLimit_any hn (fun hlt => ?_) (fun hge => absurd hlt (Nat.not_lt.mpr hge)))
  refine wpAny_bind (wpAny_mkStr (wpAny_pure ⟨_, rfl, ?_⟩) (int_text_fits10 hlt))
  refine wpAny_bind (wpAny_isInstance (T := "str") (b := true) rfl isSubtype_str_str ?_)
  exact wpAny_pure ⟨_, rfl, h⟩
theorem call_reprW (e : PySem.W.nsIn X.K cStatics "sys.int_max_str_digits" = some none) : CallR X (.builtin "repr") (fun xs H Q => ∃ i, xs = [.int i] ∧ i.natAbs < 10 ^ 4300 ∧ Q (.str (toString i)) H) := by
  intro pins s σ H xs us Q I r h
  obtain ⟨i, rfl, hz, q⟩ := h
  obtain ⟨u, rfl, t, rfl⟩ := vals1 r
  exact repr_wide (Inv.noDigits I e) hz ⟨.str _, H, I.tok _, ⟨_, rfl⟩, q⟩
end
end Ph

namespace Ph
open PySem PySem.Spec PyProof.Rows L2
def topS (i : Nat) : Stmt := PySem.Challenge.pw_pinnedheap_k16_whole_states_moved_by_pag.main.body.getD i (.Pass ⟨0, 0, 0, 0⟩)
abbrev sPot : Stmt := topS 20
abbrev sTake : Stmt := topS 21
abbrev sOf : Stmt := topS 22
abbrev sLinks : Stmt := topS 23
theorem scPot : FnScope ["_law_script", "_law_k", "_law_cell", "_law_great"] ["_law_script", "_law_k"] (defScope sPot) := ⟨rfl, rfl, rfl, by decide +kernel, rfl, by decide +kernel, by decide +kernel⟩
theorem scTake : FnScope ["_law_pot_here", "_law_upto", "_law_digit"] ["_law_pot_here", "_law_upto"] (defScope sTake) := ⟨rfl, rfl, rfl, by decide +kernel, rfl, by decide +kernel, by decide +kernel⟩
theorem scOf : FnScope ["_law_pot_here", "_law_some"] ["_law_pot_here", "_law_some"] (defScope sOf) := ⟨rfl, rfl, rfl, by decide +kernel, rfl, by decide +kernel, by decide +kernel⟩
/-! ### the pot -/
def But (p : Addr) (H H' : Hp) : Prop := ∀ b o, b ≠ p → H b = some o → H' b = some o
theorem But.refl (p : Addr) (H : Hp) : But p H H := fun _ _ _ h => h
theorem But.trans {p : Addr} {H H1 H2 : Hp} (a : But p H H1) (b : But p H1 H2) : But p H H2 := fun c o n h => b c o n (a c o n h)
theorem Same.but {p : Addr} {H H' : Hp} (a : Same H H') : But p H H' := fun b o _ h => a b o h
theorem same_upd {H : Hp} {p : Addr} {o : HO} (h : H p = none) : Same H (upd H p o) := fun b x e => by
  rw [upd_ne (ne_of_none e h)]
  exact e
theorem but_upd {H : Hp} {p : Addr} {o : HO} : But p H (upd H p o) := fun b x n e => by
  rw [upd_ne n]
  exact e
def mM : Int := 2305843009213693951
structure PotV (g r : Int) : Prop where
  g0 : 0 ≤ g
  g1 : g.natAbs < 2 ^ 3000
  r0 : 0 ≤ r
  r1 : r < 2305843009213693951
def Pot (H : Hp) (p : Addr) : Prop := ∃ g r : Int, H p = some (.lst [.int g, .int r]) ∧ PotV g r
theorem great_mod (x : Int) : 0 ≤ x % ten9 ∧ (x % ten9).natAbs < 2 ^ 3000 := by
  have p := ten9_pos
  have h0 : 0 ≤ x % ten9 := Int.emod_nonneg _ (by omega)
  exact ⟨h0, wide_le h0 (Int.le_of_lt (Int.emod_lt_of_pos _ p)) ten9_lt⟩
theorem great_mul (x : Int) (b : Bool) : CMulW (x % ten9) (if b = true then 1 else 0) :=
  wide_mul (b := 2) (great_mod x).2 (by cases b <;> decide) (by decide) (by decide) (by decide)
theorem great_pot (x : Int) (b : Bool) : 0 ≤ x % ten9 * (if b = true then 1 else 0) ∧ (x % ten9 * (if b = true then 1 else 0)).natAbs < 2 ^ 3000 := by
  cases b
  · rw [if_neg (by decide), Int.mul_zero]
    exact ⟨Int.le_refl _, Nat.pow_pos (by decide)⟩
  · rw [if_pos rfl, Int.mul_one]
    exact great_mod x
section
variable {P : Program} {w : World} {K : PySem.W.Frag} {mg : Str → Option Value} {base : Heap}
def spPot (K : PySem.W.Frag) : Sp := fun vs H Q _ => ∃ (a : Addr) (ns : List Int) (k : Nat), vs = [.ref a, .int k] ∧ SqL K H a (ns.map V.int) ∧ k ≤ 1000 ∧ ∀ H' p, Same H H' → H p = none → Pot H' p → Q (.ref p) H'
theorem ok_pot {f : Addr} {fd : FuncData} {k : Nat} (F : Fun K "_law_pot" "_law_pot" sPot f fd) (ml : mg "len" = none) (ma : mg "abs" = none) (mi : mg "int" = none) (nd : PySem.W.nsIn K cStatics "sys.int_max_str_digits" = some none) : FnOk P w K mg base CX0 (k + 1) f fd ["_law_script", "_law_k"] (spPot K) := by
  refine F.ok scPot (fun vs H Q E h => ?_) (fun cdv A outer s H vs Q E hr h => ?_)
  · obtain ⟨a, ns, k, rfl, _⟩ := h
    rfl
  · obtain ⟨a, ns, n, rfl, hS, hn, q⟩ := h
    refine ⟨_, pss_cons (ps_set (i := 2) scPot.nd rfl (.inl rfl) (pe_op op_add (pe_op op_mul pe_int (pv 1)) (pe_callB call_len_seq (by rfl) ml PySem.boot_len (pa_cons (pv 0) pa_nil))))
      (pss_cons (ps_if (pt_cmpR op_lt (pv 1) (pe_callB call_len_seq (by rfl) ml PySem.boot_len (pa_cons (pv 0) pa_nil)) (nomark _))
        (pss_one (ps_set (i := 2) scPot.nd rfl (.inl rfl) (pe_ix ix_list (pv 0) (pv 1) (fun _ _ => rfl)))) pss_nil)
      (pss_cons (ps_set (i := 3) scPot.nd rfl (.inl rfl) (pe_op op_mulW (pe_op op_mod (pe_callB call_abs (by rfl) ma (by decide +kernel) (pa_cons (pv 2) pa_nil)) (pe_callTy (call_big9 nd) (by rfl) mi (by decide +kernel) (pa_cons (pe_op op_add_str pe_str (pe_op op_repS pe_str pe_int)) pa_nil)))
          (pe_callTy call_int1 (by rfl) mi (by decide +kernel) (pa_cons (pe_cmpR op_ge (pe_callB call_abs (by rfl) ma (by decide +kernel) (pa_cons (pv 2) pa_nil)) (pe_op op_pow pe_int pe_int) (nomark _)) pa_nil))))
      (pss_one (ps_ret (pe_lst (pa_cons (pv 3) (pa_cons (pe_op op_mod (pe_op op_mul (pe_op op_add (pe_op op_add (pe_op op_mod (pv 2) pe_int) (pe_op op_mul (pe_op op_mul pe_int (pv 1)) (pv 1))) pe_int) pe_int) pe_int) pa_nil))))))), ?_⟩
    refine ⟨.int n, rfl, 3, n, rfl, rfl, .inl ⟨by decide, by decide⟩, .ref a, rfl, a, ns.map V.int, rfl, .inl hS, _, _, rfl, rfl, ?_⟩
    refine ⟨.int n, rfl, .ref a, rfl, a, ns.map V.int, rfl, .inl hS, _, _, rfl, rfl, _, rfl, ite2 (fun e => ?z1) (fun e => ?z2)⟩
    case z1 =>
      have e1 : (n : Int) < ((ns.map V.int).length : Nat) := of_decide_eq_true e
      have e2 : n < ns.length := by
        rw [List.length_map] at e1
        omega
      refine ⟨.ref a, rfl, .int n, rfl, a, ns.map V.int, n, .int ns[n], rfl, rfl, hS, atI_nat (j := n) (by rw [List.getElem?_map, List.getElem?_eq_getElem e2]; rfl), ?_⟩
      refine ⟨.int _, rfl, _, rfl, _, _, rfl, rfl, zeros_ok, _, _, rfl, rfl, big9_len, rfl, _, _, rfl, rfl, ten9_pos, .int _, rfl, _, rfl, _, _, rfl, rfl, ⟨by decide, by decide, by decide⟩, _, _, rfl, rfl, .inr ⟨_, rfl, _, _, rfl, rfl, great_mul _ _, ?_⟩⟩
      refine ⟨_, rfl, .int _, rfl, _, _, rfl, rfl, (by decide : (0 : Int) < 2305843009213693951), .int n, rfl, _, _, rfl, rfl, .inl ⟨by decide, by decide⟩, .int n, rfl, _, _, rfl, rfl, .inl ?_, _, _, rfl, rfl, _, _, rfl, rfl, _, _, rfl, rfl, .inr ⟨by decide, by decide⟩, _, _, rfl, rfl, (by decide : (0 : Int) < 2305843009213693951), (by show 2 ≤ sizeLine; decide), fun p np => ?_⟩
      · constructor <;> omega
      · exact q _ p (same_upd np) np ⟨_, _, upd_same, (great_pot _ _).1, (great_pot _ _).2, Int.emod_nonneg _ (by decide), Int.emod_lt_of_pos _ (by decide)⟩
    case z2 =>
      refine ⟨.int _, rfl, _, rfl, _, _, rfl, rfl, zeros_ok, _, _, rfl, rfl, big9_len, rfl, _, _, rfl, rfl, ten9_pos, .int _, rfl, _, rfl, _, _, rfl, rfl, ⟨by decide, by decide, by decide⟩, _, _, rfl, rfl, .inr ⟨_, rfl, _, _, rfl, rfl, great_mul _ _, ?_⟩⟩
      refine ⟨_, rfl, .int _, rfl, _, _, rfl, rfl, (by decide : (0 : Int) < 2305843009213693951), .int n, rfl, _, _, rfl, rfl, .inl ⟨by decide, by decide⟩, .int n, rfl, _, _, rfl, rfl, .inl ?_, _, _, rfl, rfl, _, _, rfl, rfl, _, _, rfl, rfl, .inr ⟨by decide, by decide⟩, _, _, rfl, rfl, (by decide : (0 : Int) < 2305843009213693951), (by show 2 ≤ sizeLine; decide), fun p np => ?_⟩
      · constructor <;> omega
      · exact q _ p (same_upd np) np ⟨_, _, upd_same, (great_pot _ _).1, (great_pot _ _).2, Int.emod_nonneg _ (by decide), Int.emod_lt_of_pos _ (by decide)⟩
end
end Ph

namespace Ph
open PySem PySem.Spec PyProof.Rows L2
/-! ### set(list of ints): the members, any number of them below the line -/
abbrev sob (w : World) : Obj := { cls := .type "set", dict := none, data := .set #[] 0 (.fresh 0 0 (!w.params.followText "set-order")) }
section
variable {P : Program} {w : World} {A : Around} {E : Value → Shared → Prop} {s : Shared}
set_option maxHeartbeats 4000000 in
theorem set_of_list {l : Addr} {its : Array Value} (ns : List Int) {Q : Value → Shared → Prop} (calm : A.handled = none) (isl : s.heap.IsList l its) (ints0 : IntsAre its.toList ns) (few : ns.length + 1 < scanBound)
    (q : ∀ (g : Heap) (tk c : Nat), SetR w g s.heap.objs.size (fun j => decide (j ∈ ns)) c → c ≤ ns.length → (∀ b u, s.heap.get? b = some u → g.get? b = some u) → Q (.ref s.heap.objs.size) { s with heap := g, toks := tk }) :
    wpAny (model P w) A (call (.type "set") [.ref l]) Q E s := by
  have size : its.size = ns.length := by rw [← Array.length_toList]; exact IntsAre.length ints0
  have y1 := F.called_set.made
  have y2 := F.called_set.sub
  have y3 := F.called_set.notType
  have y4 := F.called_set.canCreate
  have y5 := F.typeCall_set_1 (.ref l)
  obtain ⟨c0, tl, y6⟩ := F.called_set.mro
  refine wpAny_call (codeAny_of_tree ?_)
  show wpAny (model P w) _ (callAny (.type "set") ⟨[.ref l], []⟩) _ _ s
  refine wpAny_pure ⟨Code.quiet_builtin _ (by decide +kernel), codeAny_builtin F.entry_type_call ?_⟩; rw [Around.under_plain (weight_type_call_type "set" [.ref l] []) rfl]
  repeat (any_goals (first | assumption | wp_step))
  refine codeAny_mono (code_set_led1 (.ref l) (E := E) (Q₁ := fun z t => z = .ref s.heap.objs.size ∧ t = { s with heap := s.heap.push (sob w) }) ⟨rfl, rfl⟩) fun r s₁ hr => ?_
  match r, hr with
  | .error e, hr => exact hr
  | .ok (.ret z), hr =>
    obtain ⟨rfl, rfl⟩ := hr
    have at0 : (s.heap.push (sob w)).get? s.heap.objs.size = some (sob w) := Heap.get?_push_size _ rfl
    have ty0 : Shared.TypeIs { s with heap := s.heap.push (sob w) } (.ref s.heap.objs.size) "set" := ⟨_, at0, rfl⟩
    have y7 := F.called_set.init.lookup
    have y8 := F.called_set.init.bind (.ref s.heap.objs.size)
    repeat (any_goals (first | assumption | wp_step))
    refine codeAny_mono (codeAny_call_builtin (R := wants (fun r t => r = .none ∧ ∃ g tk c, t = { s with heap := g, toks := tk } ∧ SetR w g s.heap.objs.size (fun j => decide (j ∈ ns)) c ∧ c ≤ ns.length ∧ (∀ b u, s.heap.get? b = some u → g.get? b = some u)) E)
      F.called_set.init.plain F.entry_set_init (check_set_init_1 ty0 ?_)) fun r₂ s₂ hr₂ => ?_
    · obtain ⟨⟨oc, od, dt, os⟩, hol, ec, nl, ed⟩ := isl
      cases ec; cases ed
      have hol1 : (s.heap.push (sob w)).get? l = some { cls := .type "list", dict := od, data := .seq its nl, slots := os } := Heap.get?_push_of_some _ hol
      have y9 := F.sub_list_set
      have y10 := F.sub_list_frozenset
      have y11 : (Value.type "list" == Value.type "dict") = false := by decide
      have isl1 : (s.heap.push (sob w)).IsList l its := ⟨_, hol1, rfl, nl, rfl⟩
      unfold Builtin.«set.__init__» noKeywords Builtin.Frozenset.updateFrom
      generalize hPI : pyIter = PI; wp_walk; subst hPI
      refine wpAny_pyIter_list isl1 (wpAny_bind (wpAny_runValue ?_))
      have lS : l < s.heap.objs.size := Heap.lt_size hol
      have sz1 : (s.heap.push (sob w)).objs.size = s.heap.objs.size + 1 := Heap.size_push ..
      have calm3 : A.in1.in1.in1.handled = none := by simp [calm]
      refine set_update_ints ((Walks.list calm3 (s.heap.push (sob w)).objs.size l (by rw [sz1]; exact Nat.ne_of_lt (Nat.lt_succ_of_lt lS)) its).toS) s.heap.objs.size ?_ ns size few ?_ (its.size - 0) 0 _ (by omega) (Nat.zero_le _) ⟨⟨_, Heap.get?_push_size _ rfl, rfl, rfl⟩, isl1.push _⟩ ?_ ?_
      · rw [sz1]
        intro z
        rcases List.mem_cons.mp z with e | e
        · exact Nat.ne_of_lt (Nat.lt_succ_self _) e
        · exact Nat.ne_of_gt lS (List.mem_singleton.mp e)
      · intro i v hv
        have hi : i < ns.length := by rw [← size]; exact (Array.getElem?_eq_some_iff.mp hv).1
        obtain ⟨t, e⟩ := PyProof.Rows.IntsAre.int_at ints0 i v (by rw [Array.getElem?_toList]; exact hv)
        exact ⟨ns[i], t, List.getElem?_eq_getElem hi, by rw [e, List.getD_eq_getElem?_getD, List.getElem?_eq_getElem hi]; rfl⟩
      · exact ⟨0, Nat.le_refl 0, setR_new_at (Heap.get?_push_of_some _ at0)⟩
      · rintro ⟨g, g2, d', tk', os'⟩ c hm hc hS
        cases (show g2 = s.gens from hm.gens)
        cases (show d' = s.drawn from hm.drawn)
        cases (show os' = s.os from hm.os)
        rw [size] at hc
        show wpAny _ _ _ _ _ _
        refine wpAny_pure ?_
        show wpAny _ _ (ret Value.none) _ _ _
        refine wpAny_pure ⟨rfl, g, tk', c, rfl, hS, hc, fun b u e => hm.heap b u (fun z => ?_) (Heap.get?_push_of_some _ (Heap.get?_push_of_some _ e))⟩
        have hb := Heap.lt_size e
        rw [sz1] at z
        rcases List.mem_cons.mp z with e | e
        · exact Nat.ne_of_lt hb e
        · exact Nat.ne_of_lt (Nat.lt_succ_of_lt hb) (List.mem_singleton.mp e)
    · match r₂, hr₂ with
      | .error e, h => exact h
      | .ok (.ret r), h =>
        obtain ⟨rfl, g, tk, c, rfl, h1, h2, h3⟩ := h
        repeat (any_goals (first | assumption | wp_step))
        exact q _ _ _ h1 h2 h3
      | .ok .next, h => exact h.elim
end
section
variable {X : Cx}
/-- set(xs), xs a list of ints -/
def rSetI (K : PySem.W.Frag) (w : World) : List V → Hp → VK → Prop := fun vs H Q => ∃ (l : Addr) (ns : List Int), vs = [V.ref l] ∧ SqL K H l (ns.map V.int) ∧ ns.length + 1 < scanBound ∧
  ∀ a c, H a = none → (ns.Nodup → c = ns.length) → Q (.ref a) (upd H a (SetO w a (fun j => decide (j ∈ ns)) c))
theorem cr_setI (hc : X.calm = true) : CallR X (.type "set") (rSetI X.K X.w) := by
  intro pins s σ H vs us Q I r h
  obtain ⟨l, ns, rfl, hl, few, q⟩ := h
  obtain ⟨its, rv, pl, hz⟩ := I.list hl
  rw [Vals.ref1 r]
  refine set_of_list ns (I.ok.hd hc) pl.isList (by simpa using rv.ints) few fun g tk c R _ k => ?_
  refine ⟨.ref _, upd H s.heap.objs.size (SetO X.w s.heap.objs.size (fun j => decide (j ∈ ns)) c), I.laid (t' := tk) k (Nat.le_refl _) (setO_new R), rfl, q _ _ (I.hok.fresh (Nat.le_refl _)) fun nd => ?_⟩
  obtain ⟨o, es, ep, t, ho, hex, hd, good, nd2, mem, _, _, hn, _⟩ := R
  have pm : (es.toList.map keyOf).Perm ns := (List.perm_ext_iff_of_nodup nd2 nd).mpr fun k => by rw [← mem k]; exact decide_eq_true_iff
  rw [← hn, ← pm.length_eq, List.length_map, Array.length_toList]
end
end Ph

namespace Ph
open PySem PySem.Spec PyProof.Rows L2
section
variable {P : Program} {w : World} {A : Around} {E : Value → Shared → Prop} {s : Shared}
/-- sorted(set of ints), any number of members -/
theorem sorted_of_set {a : Addr} {S : Int → Bool} {n : Nat} {Q : Value → Shared → Prop} (R : SetR w s.heap a S n) (calm : A.handled = none)
    (q : ∀ t p (out : Array Value) (c : Nat) (ns : List Int), (∀ b u, s.heap.get? b = some u → t.heap.get? b = some u) → t.gens = s.gens → t.os = s.os → s.heap.objs.size ≤ p → t.heap.get? p = some (seqObj "list" out c) → IntsAre out.toList ns → ns.Pairwise (· < ·) → (∀ k, k ∈ ns ↔ S k = true) → ns.length = n → Q (.ref p) t) :
    wpAny (model P w) A (call (.builtin "sorted") [.ref a]) Q E s := by
  obtain ⟨o, es, ep, t, ho, hex, hd, good, nd, mem, few, fits, hn, ris, led⟩ := R
  refine Calls.call_function_entry kind_sorted plain_sorted entry_sorted (args_sorted1 _) ?_; unfold Builtin.«sorted»
  refine wpAny_bind (m := checkCount "sorted" 1 1 _) (wpAny_pure (wpAny_bind (collect_set (A := A.in1) calm ⟨o, ho, hex.1, hd⟩ fits few ris led fun s1 vs k1 hz g1 o1 pm => ?_)))
  have lenv : vs.length = n := by rw [pm.length_eq, List.length_map, Array.length_toList]; exact hn
  have bound : vs.length ≤ sizeLine := by rw [lenv, ← hn]; exact Nat.le_trans (Nat.le_of_lt few) (by decide +kernel)
  have isI : ∀ v ∈ vs, ∃ k tk, v = Value.int k tk := fun v hv => by
    obtain ⟨e, he, q1⟩ := List.mem_map.mp (pm.mem_iff.mp hv)
    obtain ⟨k, tk, h1, _⟩ := good e he
    exact ⟨k, tk, q1 ▸ h1⟩
  have hI := SrtO.ints_iv isI
  have keys : (vs.map SrtO.iv).Perm (es.toList.map keyOf) := by
    have z := pm.map SrtO.iv
    rw [List.map_map] at z
    refine z.trans (List.Perm.of_eq (List.map_congr_left fun e he => ?_))
    obtain ⟨k, tk, h1, h2⟩ := good e he
    show SrtO.iv e.2 = keyOf e
    rw [key_vInt, h1]
    rfl
  refine wpAny_bind (wpAny_newList ?_ bound)
  have at1 : (s1.heap.push (seqObj "list" vs.toArray 0)).get? s1.heap.objs.size = some (seqObj "list" vs.toArray 0) := Heap.get?_push_size _ rfl
  refine wpAny_bind (wpAny_holding (wpAny_call_entry slot_list_sort ⟨_, at1, rfl⟩ entry_list_sort (SrtO.list_sort_ord SrtO.swo_int at1 bound (fun h2 => SrtO.ints_sortable hI h2) fun out b1 b2 => ⟨_, rfl, ?_⟩) (args_list_sort _)))
  obtain ⟨k2, k3, k4⟩ := SrtO.ints_out hI b1 b2
  obtain ⟨c, hc⟩ := sortedHeap_at (vs := vs) (out := out.toArray) at1
  have pn := k3.trans keys
  refine wpAny_pure ⟨_, rfl, q _ s1.heap.objs.size out.toArray c (out.map SrtO.iv) (fun b u e => ?_) g1 o1 hz hc (by simpa using k2) (lt_of_le_nodup _ k4 (pn.nodup_iff.mpr nd)) (fun k => by rw [pn.mem_iff, ← mem k]) ?_⟩
  · have z := k1 b u e
    have lt := Heap.lt_size z
    show (sortedHeap (s1.heap.push (seqObj "list" vs.toArray 0)) s1.heap.objs.size vs out.toArray).get? b = some u
    rw [sortedHeap_old (Nat.ne_of_lt lt) (by rw [size_push']; exact Nat.lt_succ_of_lt lt)]
    exact Heap.get?_push_of_some _ z
  · rw [pn.length_eq, List.length_map, Array.length_toList]; exact hn
end
section
variable {X : Cx}
def rSortedS2 (w : World) : List V → Hp → VK → Prop := fun vs H Q => ∃ (a : Addr) (S : Int → Bool) (n : Nat), vs = [V.ref a] ∧ H a = some (SetO w a S n) ∧
  ∀ (ns : List Int) (p : Addr), ns.Pairwise (· < ·) → (∀ k : Int, k ∈ ns ↔ S k = true) → H p = none → Q (.ref p) (upd H p (.lst (ns.map V.int)))
theorem cr_sortedS2 (hc : X.calm = true) : CallR X (.builtin "sorted") (rSortedS2 X.w) := by
  intro pins s σ H vs us Q I r h
  obtain ⟨a, S, n, rfl, ha, q⟩ := h
  have R := setO_get I ha
  have few : n < scanBound := by
    obtain ⟨_, es, _, _, _, _, _, _, _, _, few, _, hn, _⟩ := R
    rw [← hn]; exact few
  rw [Vals.ref1 r]
  refine sorted_of_set R (I.ok.hd hc) fun t p out c ns k g o hp hg hi hs hm hl => ?_
  have len : (ns.map V.int).length ≤ sizeLine := by rw [List.length_map, hl]; exact Nat.le_trans (Nat.le_of_lt few) (by decide +kernel)
  have J : Inv X pins σ (upd H p (.lst (ns.map V.int))) { s with heap := t.heap, gens := t.gens, drawn := t.drawn, toks := t.toks } :=
    I.call (ch := []) (Un.laid k hp (I.hok.fresh hp)) (I.hok.laid k hp ⟨len, out.toList, c, vals_of_ints hi, hg⟩) (g ▸ I.bare) (fun _ z => nomatch z)
  have e : t = { s with heap := t.heap, gens := t.gens, drawn := t.drawn, toks := t.toks } := by
    obtain ⟨h1, h2, h3, h4, h5⟩ := t
    cases o
    rfl
  rw [e]
  exact ⟨.ref p, _, J, rfl, q ns p hs hm (I.hok.fresh hp)⟩
/-- len(set of ints) -/
def rLenSet (w : World) : List V → Hp → VK → Prop := fun vs H Q => ∃ (a : Addr) (S : Int → Bool) (n : Nat), vs = [V.ref a] ∧ H a = some (SetO w a S n) ∧ Q (.int n) H
theorem cr_lenSet : CallR X (.builtin "len") (rLenSet X.w) := by
  intro pins s σ H vs us Q I r h
  obtain ⟨a, S, n, rfl, ha, q⟩ := h
  obtain ⟨o, es, ep, t, ho, hex, hd, _, _, _, few, fits, hn, _⟩ := setO_get I ha
  rw [Vals.ref1 r]
  refine call_len_set ho hex hd fits ?_ ⟨.int n, H, I.tok _, ⟨_, by rw [← hn]⟩, q⟩
  have h1 : (es.size : Int) < scanBound := Int.ofNat_lt.mpr few
  exact Int.lt_of_lt_of_le h1 (by decide +kernel)
/-- t.index(k), a tuple of ints: the first place -/
theorem flat_ints (ys : List Int) : (ys.map V.int).all flatV = true := by
  rw [List.all_map]
  exact List.all_eq_true.mpr fun _ _ => rfl
theorem mt_tindexI : MtR X "tuple.index" (fun x xs H Q => ∃ p, ∃ ys : List Int, ∃ z j, x = .ref p ∧ xs = [.int z] ∧ SqT X.K H p (ys.map V.int) ∧ ys[j]? = some z ∧ (∀ m, m < j → ys[m]? ≠ some z) ∧ Q (.int (j : Nat)) H) := by
  intro pins s σ H x xs v us Q I rx rs h
  obtain ⟨p, ys, z, j, rfl, rfl, hq, hy, hno, q⟩ := h
  cases rx
  obtain ⟨u, rfl, t, rfl⟩ := vals1 rs
  obtain ⟨its, r, ⟨⟨cls, dd, dt, sl⟩, ho, hc, n, hd⟩, hz⟩ := I.tuple hq
  cases hc
  cases hd
  have len : its.toArray.size = ys.length := by rw [List.size_toArray, ← r.length, List.length_map]
  have at' : ∀ (m : Nat) (hm : m < its.toArray.size), ∃ y t', ys[m]? = some y ∧ its.toArray[m] = Value.int y t' := fun m hm => by
    have hm' : m < ys.length := len ▸ hm
    obtain ⟨w, hw, t', hw'⟩ := r.get (i := m) (x := .int ys[m]) (by simp [hm'])
    refine ⟨ys[m], t', List.getElem?_eq_getElem hm', ?_⟩
    rw [← hw', ← (List.getElem?_eq_some_iff.mp hw).2]
    simp
  have hj : j < its.toArray.size := by rw [len]; exact (List.getElem?_eq_some_iff.mp hy).1
  refine call_meets PySem.F.slot_tuple_index ⟨_, ho, rfl⟩ PySem.F.entry_tuple_index (PySem.F.args_tuple_index_2 _ _) (TI.tuple_indexAt p its.toArray n dd sl (.int z t) (eqU (.int z)) j hj ?_ ?_)
    ⟨ho, fun w hw => mem_eqAt (x := .int z) ⟨t, rfl⟩ rfl r (flat_ints ys) w (by simpa using hw), ⟨.int (j : Nat), H, I.tok _, ⟨_, rfl⟩, q⟩⟩
  · obtain ⟨y, t', h1, h2⟩ := at' j hj
    rw [hy] at h1
    cases h1
    rw [h2]
    show decide (z = z) = true
    exact decide_eq_true rfl
  · intro m hm hmj
    obtain ⟨y, t', h1, h2⟩ := at' m hm
    rw [h2]
    show decide (y = z) = false
    exact decide_eq_false fun e => hno m hmj (e ▸ h1)
end
end Ph

namespace Ph
open PySem PySem.Spec PyProof.Rows L2
/-! ### a tuple whose object is known: it has no dict of its own, so its methods can be called -/
def ChAt (H : Hp) (c : Addr) (C : List Int) : Prop := ∃ o : Obj, o.dict = none ∧ H c = some (.frz o (.tup (C.map V.int)))
theorem ChAt.sq {K : PySem.W.Frag} {H : Hp} {c : Addr} {C : List Int} (h : ChAt H c C) : SqT K H c (C.map V.int) := let ⟨o, _, e⟩ := h; .inl (.inr ⟨o, e⟩)
theorem ChAt.keep {H H' : Hp} {c : Addr} {C : List Int} (h : ChAt H c C) (s : ∀ b o, H b = some o → H' b = some o) : ChAt H' c C := let ⟨o, d, e⟩ := h; ⟨o, d, s _ _ e⟩
section
variable {X : Cx}
/-- tuple(list): a new one -/
theorem call_tuple_frz : CallR X (.type "tuple") (fun xs H Q => ∃ p ys, xs = [.ref p] ∧ SqL X.K H p ys ∧ ∀ l (o : Obj), H l = none → o.dict = none → Q (.ref l) (upd H l (.frz o (.tup ys)))) := by
  intro pins s σ H xs us Q I r h
  obtain ⟨p, ys, rfl, hq, q⟩ := h
  obtain ⟨u, rfl, rx⟩ := vals1 r
  cases rx
  obtain ⟨its, r', pl, hz⟩ := I.list hq
  have len := r'.length
  refine call_tuple_list pl.isList (fun g k => ?_) (by rw [List.size_toArray]; omega)
  have J := I.kept (t' := s.toks) k
  refine ⟨.ref g.objs.size, _, J.laid (t' := s.toks) (o := .frz { cls := .type "tuple", data := .seq its.toArray } (.tup ys)) (fun b u e => Heap.get?_push_of_some _ e) (Nat.le_refl _) ⟨Heap.get?_push_size _ rfl, hz, its, r', IsTup.new _ _⟩, rfl, q _ _ (J.hok.fresh (Nat.le_refl _)) rfl⟩
variable {o e : Expr} {es : List Expr} {to : TE} {t : TA} {apos cpos : Pos} {name : Str} {id : String} {r : V → List V → Hp → VK → Prop}
/-- c.m(..), c such a tuple -/
def tBT (r : V → List V → Hp → VK → Prop) (to : TE) (t : TA) : TE := fun σ H Q => to σ H fun x H1 => (∃ c C, x = .ref c ∧ ChAt H1 c C) ∧ t σ H1 fun xs H2 => r x xs H2 Q
theorem pe_bmT (slot : Slot "tuple" name id) (hty : typeOf (.builtin id) = pure (.type "method_descriptor")) (hm : MtR X id r) (ho : PE X o to) (ha : PA X (e :: es) t)
    (hbase : attributeBase o name X.env (eval o X.env) = eval o X.env := by rfl)
    (hfew : ((backTo cpos (starEach (e :: es) X.env)).all (fun x => !x.1) && (backToKw cpos (keywordEach [] X.env)).all (fun x => x.1.isSome) && decide ((e :: es).length + ([] : List Keyword).length + (if ([] : List Keyword).isEmpty then 0 else 1) < 30)) = true := by rfl)
    (hline : (apos.endLine == cpos.line) = true := by rfl) (hse : starEach (e :: es) X.env = (false, eval e X.env) :: starEach es X.env := by rfl) (hpl : (backTo cpos (starEach es X.env)).any (·.1) = false := by rfl) :
    PE X (.Call (.Attribute o name apos) (e :: es) [] cpos) (tBT r to t) := ⟨fun pins s σ H Q I h => by
  refine wpAny_Call_method_late hbase hfew hline rfl (thn (ho.run pins s σ H _ I h) fun v s1 ⟨x, H1, I1, r1, ⟨c, C, ex, oc, od, hc⟩, q1⟩ => ?_)
  subst ex
  cases r1
  obtain ⟨g, _, its, _, ⟨u, hu, hcl, _⟩⟩ := I1.hok c _ hc
  rw [g] at hu
  cases hu
  have hA := ha.run cpos pins s1 σ H1 _ I1 q1
  refine ⟨"tuple", id, PySem.F.plainAttrs_tuple, slot, hty, ⟨oc, g, hcl⟩, fun a z => by cases z; exact ⟨oc, g, od⟩, ?_⟩
  rw [hse] at hA ⊢
  refine Calls.callWith_builtin (by show (false || (backTo cpos (starEach es X.env)).any (·.1)) = false; rw [hpl]; rfl) (Calls.evalArgs_plain (thn hA fun us s2 ⟨vs, H2, I2, r2, q2⟩ => hm pins s2 σ H2 (.ref c) vs (.ref c) us Q I2 rfl r2 q2))⟩
end
end Ph

namespace Ph
open PySem PySem.Spec PyProof.Rows L2
theorem scLinks : FnScope ["_law_pot_here", "_law_most", "_law_found", "_law_turn", "_law_ratio"] ["_law_pot_here", "_law_most"] (defScope sLinks) := ⟨rfl, rfl, rfl, by decide +kernel, rfl, by decide +kernel, by decide +kernel⟩
theorem But.seq {K : PySem.W.Frag} {p a : Addr} {H H' : Hp} {xs : List V} (b : But p H H') (n : a ≠ p) (h : SqL K H a xs) : SqL K H' a xs := by
  rcases h with (h | ⟨o, h⟩) | h
  · exact .inl (.inl (b _ _ n h))
  · exact .inl (.inr ⟨o, b _ _ n h⟩)
  · exact .inr h
theorem But.none {p a : Addr} {H H' : Hp} (b : But p H H') (n : a ≠ p) (h : H' a = none) : H a = none := by
  cases q : H a with
  | none => rfl
  | some o => rw [b a o n q] at h; cases h
theorem Pot.same {H H' : Hp} {p : Addr} (P : Pot H p) (s : Same H H') : Pot H' p := by
  obtain ⟨g, r, h, v⟩ := P
  exact ⟨g, r, s _ _ h, v⟩
theorem Pot.ne_none {H : Hp} {p q : Addr} (P : Pot H p) (h : H q = none) : p ≠ q := by
  obtain ⟨g, r, e, v⟩ := P
  exact ne_of_none e h
inductive Lnk (m : Int) : List Int → Int → Prop
  | one : Lnk m [1] 1
  | step {ns : List Int} {x r : Int} : Lnk m ns x → 2 ≤ r → r ≤ 6 → x * r ≤ m → ns.length < 12 → Lnk m (ns ++ [x * r]) (x * r)
theorem Lnk.pos {m x : Int} {ns : List Int} (h : Lnk m ns x) : 1 ≤ x := by
  induction h with
  | one => decide
  | step h h1 h2 h3 h4 ih =>
    have := Int.mul_le_mul ih h1 (by decide) (by omega)
    omega
theorem Lnk.last {m x : Int} {ns : List Int} (h : Lnk m ns x) : ∃ r, ns = r ++ [x] := by
  cases h with
  | one => exact ⟨[], rfl⟩
  | step h h1 h2 h3 h4 => exact ⟨_, rfl⟩
theorem Lnk.le {m x : Int} {ns : List Int} (h : Lnk m ns x) (hm : 1 ≤ m) : x ≤ m := by
  cases h with
  | one => exact hm
  | step h h1 h2 h3 h4 => exact h3
theorem Lnk.len {m x : Int} {ns : List Int} (h : Lnk m ns x) : 1 ≤ ns.length ∧ ns.length ≤ 12 := by
  cases h with
  | one => decide
  | step h h1 h2 h3 h4 => rw [List.length_append]; exact ⟨by simp, by simp; omega⟩
section
variable {P : Program} {w : World} {K : PySem.W.Frag} {mg : Str → Option Value} {base : Heap}
def spTake : Sp := fun vs H Q _ => ∃ (p : Addr) (n : Int), vs = [.ref p, .int n] ∧ Pot H p ∧ 0 < n ∧ n < 4611686018427387904 ∧ ∀ H' d, But p H H' → Pot H' p → 0 ≤ d → d < n → Q (.int d) H'
theorem ok_take {f : Addr} {fd : FuncData} {k : Nat} (F : Fun K "_law_take" "_law_take" sTake f fd) : FnOk P w K mg base CX0 (k + 1) f fd ["_law_pot_here", "_law_upto"] spTake := by
  refine F.ok scTake (fun vs H Q E h => ?_) (fun cdv A outer s H vs Q E hr h => ?_)
  · obtain ⟨a, n, rfl, _⟩ := h
    rfl
  · obtain ⟨p, n, rfl, ⟨g, r, hp, hv⟩, hn0, hn1, q⟩ := h
    refine ⟨_, pss_cons (ps_if (pt_cmpR op_gt (pe_ix ix_list (pv 0) pe_int (fun _ _ => rfl)) pe_int (nomark _))
        (pss_cons (ps_set (i := 2) scTake.nd rfl (.inl rfl) (pe_op op_mod (pe_ix ix_list (pv 0) pe_int (fun _ _ => rfl)) (pv 1)))
        (pss_cons (ps_asg (pe_op op_fdivW (pe_ix ix_list (pv 0) pe_int (fun _ _ => rfl)) (pv 1)) (pg_sub (pv 0) pe_int set_list))
        (pss_one (ps_ret (pv 2))))) pss_nil)
      (pss_cons (ps_asg (pe_op op_mod (pe_op op_add (pe_op op_mul (pe_ix ix_list (pv 0) pe_int (fun _ _ => rfl)) pe_int) pe_int) pe_int) (pg_sub (pv 0) pe_int set_list))
      (pss_one (ps_ret (pe_op op_mod (pe_op op_fdiv (pe_op op_mod (pe_op op_mul (pe_op op_fdiv (pe_ix ix_list (pv 0) pe_int (fun _ _ => rfl)) pe_int) (pe_op op_add (pe_op op_mod (pe_ix ix_list (pv 0) pe_int (fun _ _ => rfl)) pe_int) pe_int)) pe_int) pe_int) (pv 1))))), ?_⟩
    have hL : SqL K H p [.int g, .int r] := .inl (.inl hp)
    refine ⟨.ref p, rfl, p, _, 0, .int g, rfl, rfl, hL, atI_nat (j := 0) rfl, g, 0, rfl, rfl, _, rfl, ite2 (fun e => ?_) (fun e => ?_)⟩
    · have e1 : (0 : Int) < g := of_decide_eq_true e
      refine ⟨.ref p, rfl, p, _, 0, .int g, rfl, rfl, hL, atI_nat (j := 0) rfl, .int n, rfl, g, n, rfl, rfl, hn0, ?_⟩
      refine ⟨.ref p, rfl, p, _, 0, .int g, rfl, rfl, hL, atI_nat (j := 0) rfl, .int n, rfl, g, n, rfl, rfl, wide_div (b := 62) hn0 ?_ (by decide) (by decide), .ref p, rfl, p, _, 0, 0, rfl, rfl, hp, rfl, _, rfl, ?_⟩
      · have : (2 : Nat) ^ 62 = 4611686018427387904 := by decide
        rw [this]
        omega
      · have d0 : 0 ≤ g / n := Int.ediv_nonneg hv.g0 (by omega)
        have d1 : g / n ≤ g := Int.ediv_le_self _ hv.g0
        refine q _ _ but_upd ⟨_, _, upd_same, d0, wide_le d0 d1 hv.g1, hv.r0, hv.r1⟩ (Int.emod_nonneg _ (by omega)) (Int.emod_lt_of_pos _ hn0)
    · refine ⟨.ref p, rfl, p, _, 1, .int r, rfl, rfl, hL, atI_nat (j := 1) rfl, r, _, rfl, rfl, .inl ⟨?_, ?_⟩, _, _, rfl, rfl, _, _, rfl, rfl, (by decide : (0 : Int) < 2305843009213693951), .ref p, rfl, p, _, 1, 1, rfl, rfl, hp, rfl, ?_⟩
      · have := hv.r0; omega
      · have := hv.r1; omega
      have r20 : 0 ≤ (r * 1181783497276652981 + 12345678910987) % 2305843009213693951 := Int.emod_nonneg _ (by decide)
      have r21 : (r * 1181783497276652981 + 12345678910987) % 2305843009213693951 < 2305843009213693951 := Int.emod_lt_of_pos _ (by decide)
      have hL2 : SqL K (upd H p (.lst [.int g, .int ((r * 1181783497276652981 + 12345678910987) % 2305843009213693951)])) p [.int g, .int ((r * 1181783497276652981 + 12345678910987) % 2305843009213693951)] := .inl (.inl upd_same)
      refine ⟨.ref p, rfl, p, _, 1, .int _, rfl, rfl, hL2, atI_nat (j := 1) rfl, _, _, rfl, rfl, ⟨by decide, by decide⟩, .ref p, rfl, p, _, 1, .int _, rfl, rfl, hL2, atI_nat (j := 1) rfl, _, _, rfl, rfl, (by decide : (0 : Int) < 65537), _, _, rfl, rfl, _, _, rfl, rfl, .inl ⟨?_, ?_⟩, _, _, rfl, rfl, (by decide : (0 : Int) < 2305843009213693921), _, _, rfl, rfl, ⟨by decide, by decide⟩, .int n, rfl, _, _, rfl, rfl, hn0, ?_⟩
      · generalize (r * 1181783497276652981 + 12345678910987) % 2305843009213693951 = r2 at *
        have : 0 ≤ r2 / 65537 := Int.ediv_nonneg r20 (by decide)
        omega
      · generalize (r * 1181783497276652981 + 12345678910987) % 2305843009213693951 = r2 at *
        have : r2 / 65537 ≤ r2 := Int.ediv_le_self _ r20
        omega
      · exact q _ _ but_upd ⟨_, _, upd_same, hv.g0, hv.g1, r20, r21⟩ (Int.emod_nonneg _ (by omega)) (Int.emod_lt_of_pos _ hn0)
def spOf (K : PySem.W.Frag) : Sp := fun vs H Q _ => ∃ (p l : Addr) (xs : List V), vs = [.ref p, .ref l] ∧ Pot H p ∧ SqL K H l xs ∧ l ≠ p ∧ xs ≠ [] ∧ xs.length ≤ 1000 ∧ ∀ H' x, But p H H' → Pot H' p → x ∈ xs → Q x H'
theorem ok_of {f fT : Addr} {fd fdT : FuncData} {k : Nat} (F : Fun K "_law_of" "_law_of" sOf f fd) (FT : Fun K "_law_take" "_law_take" sTake fT fdT) (bT : Binds K fdT ["_law_pot_here", "_law_upto"] []) (gT : mg "_law_take" = some (.ref fT)) (ml : mg "len" = none) : FnOk P w K mg base CX0 (k + 1 + 1) f fd ["_law_pot_here", "_law_some"] (spOf K) := by
  have GT : FnOk P w K mg base CX0 (k + 1) fT fdT ["_law_pot_here", "_law_upto"] spTake := ok_take FT
  refine F.ok scOf (fun vs H Q E h => ?_) (fun cdv A outer s H vs Q E hr h => ?_)
  · obtain ⟨a, n, xs, rfl, _⟩ := h
    rfl
  · obtain ⟨p, l, xs, rfl, hp, hl, hne, hx, hlen, q⟩ := h
    refine ⟨_, pss_one (ps_ret (pe_ix ix_list (pv 1) (pe_call GT hr (by rfl) gT FT.kp bT .nil pass0 (pa_cons (pv 0) (pa_cons (pe_callB call_len_seq (by rfl) ml PySem.boot_len (pa_cons (pv 1) pa_nil)) pa_nil))) (fun _ _ => rfl))), ?_⟩
    have hx0 : 0 < xs.length := List.length_pos_iff.mpr hx
    refine ⟨.ref l, rfl, .ref p, rfl, .ref l, rfl, l, xs, rfl, .inl hl, p, _, rfl, hp, ?_, ?_, fun H' d hb hp' d0 d1 => ?_⟩
    · omega
    · omega
    · obtain ⟨j, rfl⟩ : ∃ j : Nat, d = j := ⟨d.toNat, by omega⟩
      have hd : j < xs.length := by omega
      exact ⟨l, xs, j, xs[j], rfl, rfl, hb.seq hne hl, atI_nat (List.getElem?_eq_getElem hd), q _ _ hb hp' (List.getElem_mem hd)⟩
def spLinks : Sp := fun vs H Q _ => ∃ (p : Addr) (m : Int), vs = [.ref p, .int m] ∧ Pot H p ∧ 1 ≤ m ∧ m ≤ 1000000 ∧ ∀ H' t ns x, But p H H' → Pot H' p → H t = none → ChAt H' t ns → Lnk m ns x → ns.length ≤ 6 → Q (.ref t) H'
theorem ok_links {f fT fO : Addr} {fd fdT fdO : FuncData} {k : Nat} (F : Fun K "_law_links" "_law_links" sLinks f fd) (FT : Fun K "_law_take" "_law_take" sTake fT fdT) (bT : Binds K fdT ["_law_pot_here", "_law_upto"] []) (gT : mg "_law_take" = some (.ref fT))
    (FO : Fun K "_law_of" "_law_of" sOf fO fdO) (bO : Binds K fdO ["_law_pot_here", "_law_some"] []) (gO : mg "_law_of" = some (.ref fO)) (ml : mg "len" = none) (mr : mg "range" = none) (mt : mg "tuple" = none) : FnOk P w K mg base CX0 (k + 1 + 1 + 1) f fd ["_law_pot_here", "_law_most"] spLinks := by
  have GT : FnOk P w K mg base CX0 (k + 1) fT fdT ["_law_pot_here", "_law_upto"] spTake := ok_take FT
  have GO : FnOk P w K mg base CX0 (k + 1 + 1) fO fdO ["_law_pot_here", "_law_some"] (spOf K) := ok_of FO FT bT gT ml
  refine F.ok scLinks (fun vs H Q E h => ?_) (fun cdv A outer s H vs Q E hr h => ?_)
  · obtain ⟨a, n, rfl, _⟩ := h
    rfl
  · obtain ⟨p, m, rfl, hp, hm1, hm2, q⟩ := h
    have hr1 : Room (k + 1) (A.deeper (envOfC "_law_links" (defScope sLinks) s.heap.objs.size f cdv)) := hr.mono (by omega)
    refine ⟨_, pss_cons (ps_set (i := 2) scLinks.nd rfl (.inl rfl) (pe_lst (pa_cons pe_int pa_nil)))
      (pss_cons (ps_for PassesOwn.never rfl (pi_range1 (by rfl) mr (pa_cons (pe_call GT hr1 (by rfl) gT FT.kp bT .nil pass0 (pa_cons (pv 0) (pa_cons pe_int pa_nil))) pa_nil)) (pg_name (i := 3) scLinks.nd rfl (.inl rfl))
        (pss_cons (ps_set (i := 4) scLinks.nd rfl (.inl rfl) (pe_call GO hr (by rfl) gO FO.kp bO .nil pass0 (pa_cons (pv 0) (pa_cons (pe_lst (pa_cons pe_int (pa_cons pe_int (pa_cons pe_int (pa_cons pe_int (pa_cons pe_int (pa_cons (pe_op op_add pe_int (pe_call GT hr1 (by rfl) gT FT.kp bT .nil pass0 (pa_cons (pv 0) (pa_cons pe_int pa_nil)))) pa_nil))))))) pa_nil))))
        (pss_one (ps_if (PW.pt (pw_and (pt_cmpR op_le (pe_op op_mul (pe_ix ix_list (pv 2) (pe_un un_neg pe_int) (fun _ _ => rfl)) (pv 4)) (pv 1) (nomark _)) (pw_and1 (pt_cmpR op_lt (pe_callB call_len_seq (by rfl) ml PySem.boot_len (pa_cons (pv 2) pa_nil)) pe_int (nomark _)))))
          (pss_one (ps_expr (pe_bm PySem.F.plainAttrs_list PySem.F.slot_list_append PySem.F.type_list_append mt_append (pv 2) (pa_cons (pe_op op_mul (pe_ix ix_list (pv 2) (pe_un un_neg pe_int) (fun _ _ => rfl)) (pv 4)) pa_nil)))) pss_nil))))
      (pss_one (ps_ret (pe_callTy call_tuple_frz (by rfl) mt (by decide +kernel) (pa_cons (pv 2) pa_nil))))), ?_⟩
    refine ⟨by decide, fun o no => ?_⟩
    have npo : p ≠ o := hp.ne_none no
    refine ⟨.ref p, rfl, p, 6, rfl, hp.same (same_upd no), by decide, by decide, fun H1 d hb1 hp1 d0 d1 => ?_⟩
    refine ⟨d, rfl, by omega, by omega, ?_⟩
    have ho1 : H1 o = some (.lst ([1].map V.int)) := hb1 _ _ npo.symm upd_same
    have hbase : ∀ b x, b ≠ p → b ≠ o → H b = some x → H1 b = some x := fun b x n1 n2 h => hb1 _ _ n1 (by rw [upd_ne n2]; exact h)
    refine for_range (lo := 0) (n := d.toNat) (fun i σ H2 => ∃ y3 y4 ns x, σ = [some (.ref p), some (.int m), some (.ref o), y3, y4] ∧ Pot H2 p ∧ (∀ b x, b ≠ p → b ≠ o → H b = some x → H2 b = some x) ∧ H2 o = some (.lst (ns.map V.int)) ∧ Lnk m ns x ∧ ns.length ≤ i + 1)
      ⟨none, none, [1], 1, rfl, hp1, hbase, ho1, .one, by simp⟩ ?_ ?_
    · rintro i σ H2 hi ⟨y3, y4, ns, x, rfl, hp2, hB, ho2, hk, hl⟩
      have no2 : o ≠ p := npo.symm
      refine ⟨.ref p, rfl, .ref p, rfl, p, 5, rfl, hp2, by decide, by decide, fun H3 e hb3 hp3 e0 e1 => ?_⟩
      refine ⟨_, _, rfl, rfl, (by show 6 ≤ sizeLine; decide), fun l nl => ?_⟩
      have nlp : l ≠ p := (hp3.ne_none nl).symm
      have ho3 : H3 o = some (.lst (ns.map V.int)) := hb3 _ _ no2 ho2
      have nlo : o ≠ l := ne_of_none ho3 nl
      refine ⟨p, l, _, rfl, hp3.same (same_upd nl), .inl (.inl upd_same), nlp, List.cons_ne_nil _ _, by simp, fun H4 v hb4 hp4 hv => ?_⟩
      have ho4 : H4 o = some (.lst (ns.map V.int)) := hb4 _ _ no2 (by rw [upd_ne nlo]; exact ho3)
      have hB4 : ∀ b x, b ≠ p → b ≠ o → H b = some x → H4 b = some x := fun b x n1 n2 h => by
        have h3 := hb3 _ _ n1 (hB b x n1 n2 h)
        exact hb4 _ _ n1 (by rw [upd_ne (ne_of_none h3 nl)]; exact h3)
      obtain ⟨r, rfl, hr2, hr6⟩ : ∃ r : Int, v = .int r ∧ 2 ≤ r ∧ r ≤ 6 := by
        simp only [List.mem_cons, List.not_mem_nil, or_false] at hv
        rcases hv with h | h | h | h | h | h
        · exact ⟨2, h, by decide, by decide⟩
        · exact ⟨2, h, by decide, by decide⟩
        · exact ⟨2, h, by decide, by decide⟩
        · exact ⟨3, h, by decide, by decide⟩
        · exact ⟨4, h, by decide, by decide⟩
        · exact ⟨2 + e, h, by omega, by omega⟩
      obtain ⟨ini, rfl⟩ := hk.last
      have hL4 : SqL K H4 o ((ini ++ [x]).map V.int) := .inl (.inl ho4)
      have gl : atI ((ini ++ [x]).map V.int) (-1) = some (.int x) := by
        rw [List.map_append]
        exact atI_last _ _
      have x1 := hk.pos
      have x2 := hk.le hm1
      have lx := hk.len
      refine ⟨.ref o, rfl, 1, rfl, o, _, -1, _, rfl, rfl, hL4, gl, .int r, rfl, x, r, rfl, rfl, .inl ⟨by omega, by omega⟩, .int m, rfl, _, _, rfl, rfl, _, rfl, ite2 (fun c => ?_) (fun c => ?_)⟩
      · have c1 : x * r ≤ m := of_decide_eq_true c
        refine ⟨.ref o, rfl, o, _, rfl, .inl hL4, _, _, rfl, rfl, _, rfl, ite2 (fun c => ?_) (fun c => ?_)⟩
        · have c2 : (((ini ++ [x]).map V.int).length : Int) < 12 := of_decide_eq_true c
          rw [List.length_map] at c2
          refine ⟨.ref o, rfl, .inl ⟨rfl, _, hL4⟩, .ref o, rfl, 1, rfl, o, _, -1, _, rfl, rfl, hL4, gl, .int r, rfl, x, r, rfl, rfl, .inl ⟨by omega, by omega⟩, o, _, _, rfl, rfl, ho4, ?_, ?_⟩
          · rw [List.length_map]
            exact small1000 (by omega)
          · refine ⟨_, _, ini ++ [x] ++ [x * r], x * r, rfl, ?_, ?_, ?_, .step hk hr2 hr6 c1 (by omega), ?_⟩
            · obtain ⟨g, rr, e1, e2⟩ := hp4
              exact ⟨g, rr, by rw [upd_ne npo]; exact e1, e2⟩
            · intro b z n1 n2 h
              rw [upd_ne n2]
              exact hB4 b z n1 n2 h
            · rw [upd_same, List.map_append (l₂ := [x * r])]
              rfl
            · rw [List.length_append]
              simp
              simp at hl
              omega
        · exact ⟨_, _, _, x, rfl, hp4, hB4, ho4, hk, by omega⟩
      · exact ⟨_, _, _, x, rfl, hp4, hB4, ho4, hk, by omega⟩
    · rintro σ H2 ⟨y3, y4, ns, x, rfl, hp2, hB, ho2, hk, hl⟩
      refine ⟨.ref o, rfl, o, _, rfl, .inl (.inl ho2), fun t ob nt od => ?_⟩
      have npt : p ≠ t := hp2.ne_none nt
      have not : o ≠ t := ne_of_none ho2 nt
      have ntH : H t = none := by
        cases e : H t with
        | none => rfl
        | some z => rw [hB t z npt.symm not.symm e] at nt; cases nt
      refine q _ t ns x (fun b z n1 h => ?_) (hp2.same (same_upd nt)) ntH ⟨ob, od, upd_same⟩ hk (by omega)
      have n2 : b ≠ o := ne_of_none h no
      have h3 := hB b z n1 n2 h
      rw [upd_ne (ne_of_none h3 nt)]
      exact h3
end
end Ph

namespace Ph
open PySem PySem.Spec PyProof.Rows L2 PySem.Calls
section
variable {X : Cx}
/-- d.update(e), both tracked dicts -/
def rDUp : V → List V → Hp → VK → Prop := fun x vs H Q => ∃ (a b : Addr) (ks ls : List (Key × V)), x = .ref a ∧ vs = [.ref b] ∧ a ≠ b ∧ H a = some (.dK ks) ∧ H b = some (.dK ls) ∧ ks.length + ls.length ≤ sizeLine ∧ Q .non (upd H a (.dK (mergeK ks ls)))
theorem mtd_update : MtR X "dict.update" rDUp := by
  intro pins s σ H x vs v us Q I rx rv h
  obtain ⟨a, b, ks, ls, rfl, rfl, nab, ea, eb, hz, q⟩ := h
  cases rx
  obtain ⟨u, rfl, ru⟩ := rv.one
  cases ru
  obtain ⟨za, hda, va, ra, da⟩ := dk_of I.hok ea
  obtain ⟨zb, hdb, vb, rb, db⟩ := dk_of I.hok eb
  refine call_meetsIn PySem.F.slot_dict_update da.typeIs PySem.F.entry_dict_update (PySem.F.args_dict_update_2 _ _) (meets_dict_update (mixKind X.prog X.w) a b nab hdb) ⟨va, vb, da, db, by rw [← ra.length, ← rb.length]; exact hz, fun h' d1 d2 sb => ?_⟩
  have he : ∃ o, h'.get? a = some o := let ⟨o, _, _, ho, _⟩ := d1; ⟨o, ho⟩
  exact ⟨.non, _, d_write (t' := s.toks) I (by rw [ea]; exact True.intro) sb he (dk_new (Nat.le_trans (length_mergeK ls ks) hz) hda (rb.merge ra) d1), rfl, q⟩
end
/-- which ints are keys -/
def hasI (kvs : List (Key × V)) (i : Int) : Bool := (valV kvs (Sum.inl i)).isSome
theorem hasI_merge : ∀ (more kvs : List (Key × V)) (i : Int), hasI (mergeK kvs more) i = (hasI kvs i || more.any fun kv => decide (kv.1 = Sum.inl i))
  | [], kvs, i => by
    show hasI kvs i = (hasI kvs i || false)
    rw [Bool.or_false]
  | kv :: r, kvs, i => by
    have e : mergeK kvs (kv :: r) = mergeK (putK kvs kv.1 kv.2) r := rfl
    rw [e, hasI_merge r, List.any_cons]
    unfold hasI
    rw [valV_put]
    by_cases h : (Sum.inl i : Key) = kv.1
    · rw [if_pos h, h]
      simp
    · rw [if_neg h, decide_eq_false (fun z => h z.symm), Bool.false_or]
end Ph

namespace Ph
open PySem PySem.Spec PyProof.Rows L2
abbrev sDrawn : Stmt := topS 24
abbrev scDrawnS : Stmt := sDrawn
abbrev scDrawnN : List Str := ["_law_pot_here", "_law_links_here", "_law_many", "_law_tries", "_law_found", "_law_taken", "_law_turn", "_law_words", "_law_start", "_law_word"]
theorem scDrawn : FnScope ["_law_pot_here", "_law_links_here", "_law_many", "_law_tries", "_law_found", "_law_taken", "_law_turn", "_law_words", "_law_start", "_law_word"] ["_law_pot_here", "_law_links_here", "_law_many", "_law_tries"] (defScope sDrawn) := ⟨rfl, rfl, rfl, by decide +kernel, rfl, by decide +kernel, by decide +kernel⟩
structure Nm5 (K : PySem.W.Frag) (mg : Str → Option Value) : Prop where
  len : mg "len" = none
  abs : mg "abs" = none
  int : mg "int" = none
  range : mg "range" = none
  tuple : mg "tuple" = none
  max : mg "max" = none
  min : mg "min" = none
  repr : mg "repr" = none
  isinstance : mg "isinstance" = none
  bool : mg "bool" = none
  all : mg "all" = none
  any : mg "any" = none
  list : mg "list" = none
  dict : mg "dict" = none
  sorted : mg "sorted" = none
  set : mg "set" = none
  sum : mg "sum" = none
  zip : mg "zip" = none
  dig : PySem.W.nsIn K cStatics "sys.int_max_str_digits" = some none
theorem _root_.L2.Same.tup {K : PySem.W.Frag} {H H' : Hp} {a : Addr} {xs : List V} (e : Same H H') (h : SqT K H a xs) : SqT K H' a xs := by
  rcases h with (h | ⟨o, h⟩) | h
  · exact .inl (.inl (e _ _ h))
  · exact .inl (.inr ⟨o, e _ _ h⟩)
  · exact .inr h
theorem But.tup {K : PySem.W.Frag} {p a : Addr} {H H' : Hp} {xs : List V} (b : But p H H') (n : a ≠ p) (h : SqT K H a xs) : SqT K H' a xs := by
  rcases h with (h | ⟨o, h⟩) | h
  · exact .inl (.inl (b _ _ n h))
  · exact .inl (.inr ⟨o, b _ _ n h⟩)
  · exact .inr h
theorem paired_imp {α β : Type} {F G : α → β → Prop} (h : ∀ a b, F a b → G a b) : ∀ {l : List α} {m : List β}, Paired F l m → Paired G l m
  | _, _, .nil => .nil
  | _, _, .cons x r => .cons (h _ _ x) (paired_imp h r)
/-! ### blocks in the heap -/
def BkAt (H : Hp) (x : V) (b : Int × Int) : Prop := ∃ t, x = .ref t ∧ H t = some (.tup [.int b.1, .int b.2])
def BL (H : Hp) (xs : List V) (bs : List (Int × Int)) : Prop := Paired (BkAt H) xs bs
theorem BL.mono {H H' : Hp} (h : ∀ t ys, H t = some (.tup ys) → H' t = some (.tup ys)) : ∀ {xs : List V} {bs : List (Int × Int)}, BL H xs bs → BL H' xs bs
  | _, _, .nil => .nil
  | _, _, .cons ⟨t, e1, e2⟩ r => .cons ⟨t, e1, h _ _ e2⟩ (BL.mono h r)
theorem BL.len {H : Hp} : ∀ {xs : List V} {bs : List (Int × Int)}, BL H xs bs → xs.length = bs.length
  | _, _, .nil => rfl
  | _, _, .cons _ r => by rw [List.length_cons, List.length_cons, BL.len r]
def kH (H : Hp) : V → Int × Int
  | .ref t => match H t with
    | some (.tup [.int a, .int s]) => (a, s)
    | _ => (0, 0)
  | _ => (0, 0)
theorem BkAt.k {H : Hp} {x : V} {b : Int × Int} (h : BkAt H x b) : kH H x = b := by
  obtain ⟨t, rfl, e⟩ := h
  show (match H t with
    | some (.tup [.int a, .int s]) => (a, s)
    | _ => (0, 0)) = b
  rw [e]
theorem BL.map {H : Hp} : ∀ {xs : List V} {bs : List (Int × Int)}, BL H xs bs → xs.map (kH H) = bs
  | _, _, .nil => rfl
  | _, _, .cons h r => by rw [List.map_cons, h.k, BL.map r]
theorem BL.all {H : Hp} : ∀ {xs : List V} {bs : List (Int × Int)}, BL H xs bs → ∀ x ∈ xs, ∃ b, BkAt H x b
  | _, _, .nil => fun x hx => by cases hx
  | _, _, .cons h r => fun x hx => by
    rcases List.mem_cons.mp hx with e | e
    · rw [e]; exact ⟨_, h⟩
    · exact BL.all r x e
theorem BL.of {H : Hp} : ∀ {xs : List V}, (∀ x ∈ xs, ∃ b, BkAt H x b) → BL H xs (xs.map (kH H))
  | [], _ => .nil
  | x :: r, h => by
    obtain ⟨b, hb⟩ := h x (List.mem_cons_self ..)
    rw [List.map_cons, hb.k]
    exact .cons hb (BL.of fun y hy => h y (List.mem_cons_of_mem _ hy))
def StAt (H : Hp) (t : Addr) (bs : List (Int × Int)) : Prop := ∃ xs, H t = some (.tup xs) ∧ BL H xs bs
theorem StAt.same {H H' : Hp} {t : Addr} {bs : List (Int × Int)} (h : StAt H t bs) (s : Same H H') : StAt H' t bs := by
  obtain ⟨xs, e, b⟩ := h
  exact ⟨xs, s _ _ e, b.mono fun t ys e => s _ _ e⟩
theorem Pot.netup {H : Hp} {p t : Addr} {xs : List V} (P : Pot H p) (e : H t = some (.tup xs)) : t ≠ p := fun z => by
  obtain ⟨g, r, e0, _⟩ := P
  rw [z, e0] at e
  cases e
theorem Pot.nefrz {H : Hp} {p t : Addr} {ob : Obj} {u : HO} (P : Pot H p) (e : H t = some (.frz ob u)) : t ≠ p := fun z => by
  obtain ⟨g, r, e0, _⟩ := P
  rw [z, e0] at e
  cases e
theorem ChAt.but {p : Addr} {H H' : Hp} {c : Addr} {C : List Int} (h : ChAt H c C) (b : But p H H') (P : Pot H p) : ChAt H' c C := let ⟨o, d, e⟩ := h; ⟨o, d, b _ _ (P.nefrz e) e⟩
theorem StAt.but {p : Addr} {H H' : Hp} {t : Addr} {bs : List (Int × Int)} (h : StAt H t bs) (b : But p H H') (P : Pot H p) : StAt H' t bs := by
  obtain ⟨xs, e, bl⟩ := h
  exact ⟨xs, b _ _ (P.netup e) e, bl.mono fun t ys e => b _ _ (P.netup e) e⟩
/-! ### states -/
def okB (C : List Int) (W : Int) (b : Int × Int) : Prop := b.2 ∈ C ∧ 1 ≤ b.2 ∧ 0 ≤ b.1 ∧ b.1 % b.2 = 0 ∧ b.1 + b.2 ≤ W
def apart (b c : Int × Int) : Prop := b.1 + b.2 ≤ c.1 ∨ c.1 + c.2 ≤ b.1
structure St (C : List Int) (W : Int) (bs : List (Int × Int)) : Prop where
  ok : ∀ b ∈ bs, okB C W b
  asc : bs.Pairwise fun b c => b.1 + b.2 ≤ c.1
theorem sorted_st {C : List Int} {W : Int} {bs cs : List (Int × Int)} (h1 : ∀ b ∈ bs, okB C W b) (h2 : bs.Pairwise apart) (hp : cs.Perm bs) (hs : cs.Pairwise fun x y => SrtO.lexB y x = false) : St C W cs := by
  have ok : ∀ b ∈ cs, okB C W b := fun b hb => h1 b (hp.mem_iff.mp hb)
  refine ⟨ok, ?_⟩
  have ap : cs.Pairwise apart := (hp.pairwise_iff (R := apart) (fun {x y} h => h.symm)).mpr h2
  refine (List.pairwise_and_iff.mpr ⟨ap, hs⟩).imp_of_mem fun {b c} hb hc h => ?_
  obtain ⟨h3, h4⟩ := h
  rcases h3 with h5 | h5
  · exact h5
  · exfalso
    obtain ⟨_, k1, _⟩ := ok c hc
    have : SrtO.lexB c b = true := by
      unfold SrtO.lexB
      simp
      rw [if_neg (by omega)]
      omega
    rw [this] at h4
    cases h4
section
variable {P : Program} {w : World} {K : PySem.W.Frag} {mg : Str → Option Value} {base : Heap}
def spDrawn : Sp := fun vs H Q _ => ∃ (p t : Addr) (C : List Int) (L m n : Int), vs = [.ref p, .ref t, .int m, .int n] ∧ Pot H p ∧ ChAt H t (C ++ [L]) ∧ (∀ c ∈ C ++ [L], 1 ≤ c ∧ c ≤ L) ∧ C.length ≤ 20 ∧ L ≤ 2000 ∧ 0 ≤ m ∧ m ≤ 2000 ∧ 0 ≤ n ∧ n ≤ 1000 ∧
  ∀ H' u bs, But p H H' → Pot H' p → StAt H' u bs → St (C ++ [L]) (m * L) bs → (bs.length : Int) ≤ n → Q (.ref u) H'
theorem ok_drawn {f fT fO : Addr} {fd fdT fdO : FuncData} {k : Nat} (F : Fun K "_law_drawn" "_law_drawn" sDrawn f fd) (N : Nm5 K mg) (FT : Fun K "_law_take" "_law_take" sTake fT fdT) (bT : Binds K fdT ["_law_pot_here", "_law_upto"] []) (gT : mg "_law_take" = some (.ref fT))
    (FO : Fun K "_law_of" "_law_of" sOf fO fdO) (bO : Binds K fdO ["_law_pot_here", "_law_some"] []) (gO : mg "_law_of" = some (.ref fO)) : FnOk P w K mg base CX0 (k + 1 + 1 + 1) f fd ["_law_pot_here", "_law_links_here", "_law_many", "_law_tries"] spDrawn := by
  have GT : FnOk P w K mg base CX0 (k + 1) fT fdT ["_law_pot_here", "_law_upto"] spTake := ok_take FT
  have GO : FnOk P w K mg base CX0 (k + 1 + 1) fO fdO ["_law_pot_here", "_law_some"] (spOf K) := ok_of FO FT bT gT N.len
  refine F.ok scDrawn (fun vs H Q E h => ?_) (fun cdv A outer s H vs Q E hr h => ?_)
  · obtain ⟨p, t, C, L, m, n, rfl, _⟩ := h
    rfl
  · obtain ⟨p, t, C, L, m, n, rfl, hp, ⟨oc, hod, ht⟩, hC, hCl, hL, m0, m1, n0, n1, q⟩ := h
    have hr1 : Room (k + 1) (A.deeper (envOfC "_law_drawn" (defScope sDrawn) s.heap.objs.size f cdv)) := hr.mono (by omega)
    refine ⟨_, (pss_cons (ps_asg (pe_tup (pa_cons (pe_lst pa_nil) (pa_cons pe_dnewK pa_nil))) (pg_tup (by rfl) (pgs_cons (pg_name (i := 4) scDrawn.nd rfl (.inl rfl)) (pgs_cons (pg_name (i := 5) scDrawn.nd rfl (.inr rfl)) pgs_nil))))
       (pss_cons (ps_for PassesOwn.never rfl (pi_range1 (by rfl) N.range (pa_cons (pe_op op_mul (pv 3) (pe_callTy call_int1 (by rfl) N.int (by decide +kernel) (pa_cons (pe_cmpR op_gt (pv 2) pe_int (nomark _)) pa_nil))) pa_nil)) (pg_name (i := 6) scDrawn.nd rfl (.inl rfl))
       (pss_cons (ps_set (i := 7) scDrawn.nd rfl (.inl rfl) (pe_call GO hr (by rfl) gO FO.kp bO .nil pass0 (pa_cons (pv 0) (pa_cons (pe_lst (pa_cons (pe_ix ix_tup (pv 1) pe_int (fun _ _ => rfl)) (pa_cons (pe_ix ix_tup (pv 1) (pe_call GT hr1 (by rfl) gT FT.kp bT .nil pass0 (pa_cons (pv 0) (pa_cons (pe_callB call_len_seq (by rfl) N.len (by decide +kernel) (pa_cons (pv 1) pa_nil)) pa_nil))) (fun _ _ => rfl)) (pa_cons (pe_ix ix_tup (pv 1) (pe_op op_sub (pe_un un_neg pe_int) (pe_call GT hr1 (by rfl) gT FT.kp bT .nil pass0 (pa_cons (pv 0) (pa_cons (pe_callB call_len_seq (by rfl) N.len (by decide +kernel) (pa_cons (pv 1) pa_nil)) pa_nil)))) (fun _ _ => rfl)) pa_nil)))) pa_nil))))
       (pss_cons (ps_set (i := 8) scDrawn.nd rfl (.inl rfl) (pe_op op_mul (pv 7) (pe_call GT hr1 (by rfl) gT FT.kp bT .nil pass0 (pa_cons (pv 0) (pa_cons (pe_op op_fdiv (pe_op op_mul (pv 2) (pe_ix ix_tup (pv 1) (pe_un un_neg pe_int) (fun _ _ => rfl))) (pv 7)) pa_nil)))))
       (pss_one (ps_if (pt_not (pt_val (pe_callB (cr_any rfl) (by rfl) N.any (by decide +kernel) (pa_cons (pe_lc (own := [("_law_word", 9)]) (g := (gName 9)) (tt := tYes) (by rfl) scDrawn.nd (pi_range2 (by rfl) N.range (pa_cons (pv 8) (pa_cons (pe_op op_add (pv 8) (pv 7)) pa_nil))) (blkOk_by (N := scDrawnN) (sc := defScope scDrawnS) (by decide +kernel)) (fun _ _ _ _ _ => (pg_name (i := 9) scDrawn.nd rfl (.inl rfl))) (fun _ _ _ _ _ => pts_nil) (fun _ _ _ _ _ => (pe_cmp (pc_din (hu_of hr) (pv 9) (pv 5))))) pa_nil))))
       (pss_cons (ps_expr (pe_bm PySem.F.plainAttrs_dict PySem.F.slot_dict_update PySem.F.type_dict_update mtd_update (pv 5) (pa_cons (pe_callTy (call_dictP rfl) (by rfl) N.dict (by decide +kernel) (pa_cons (pe_lc (own := [("_law_word", 9)]) (g := (gName 9)) (tt := tYes) (by rfl) scDrawn.nd (pi_range2 (by rfl) N.range (pa_cons (pv 8) (pa_cons (pe_op op_add (pv 8) (pv 7)) pa_nil))) (blkOk_by (N := scDrawnN) (sc := defScope scDrawnS) (by decide +kernel)) (fun _ _ _ _ _ => (pg_name (i := 9) scDrawn.nd rfl (.inl rfl))) (fun _ _ _ _ _ => pts_nil) (fun _ _ _ _ _ => (pe_tup (pa_cons (pv 9) (pa_cons pe_bl pa_nil))))) pa_nil)) pa_nil)))
       (pss_one (ps_expr (pe_bm PySem.F.plainAttrs_list PySem.F.slot_list_append PySem.F.type_list_append mt_append (pv 4) (pa_cons (pe_tup (pa_cons (pv 8) (pa_cons (pv 7) pa_nil))) pa_nil))))) pss_nil)))))
       (pss_one (ps_ret (pe_callTy call_tuple_of (by rfl) N.tuple (by decide +kernel) (pa_cons (pe_callB cr_sortedPO (by rfl) N.sorted (by decide +kernel) (pa_cons (pv 4) pa_nil)) pa_nil)))))), ?_⟩
    refine ⟨Nat.zero_le _, fun o no => ?_⟩
    refine fun d nd => ⟨(by show 2 ≤ sizeLine; decide), fun u nu => ?_⟩
    refine ⟨u, _, rfl, .inl (.inl upd_same), rfl, _, _, rfl, _, _, rfl, rfl, ?_⟩
    have so := same_upd (o := .lst []) no
    have sd := same_upd (o := .dK []) nd
    have su := same_upd (o := .tup [.ref o, .ref d]) nu
    have npo : p ≠ o := hp.ne_none no
    have npd : p ≠ d := (hp.same so).ne_none nd
    have nod : o ≠ d := ne_of_none (H := upd H o (.lst [])) upd_same nd
    refine ⟨.int n, rfl, .int m, rfl, _, _, rfl, rfl, .inr ⟨_, rfl, _, _, rfl, rfl, .inl ⟨by omega, by omega⟩, ?_⟩⟩
    have hN : n * (if decide (0 < m) = true then 1 else 0) = if 0 < m then n else 0 := by
      by_cases c : 0 < m
      · rw [decide_eq_true c, if_pos rfl, if_pos c, Int.mul_one]
      · rw [decide_eq_false c, if_neg Bool.false_ne_true, if_neg c, Int.mul_zero]
    refine ⟨if 0 < m then n else 0, congrArg (fun z => [V.int z]) hN, by split <;> omega, by split <;> omega, ?_⟩
    have lenC : ((C ++ [L]).map V.int).length = C.length + 1 := by simp
    have gl : atI ((C ++ [L]).map V.int) (-1) = some (.int L) := by
      rw [List.map_append]
      exact atI_last _ _
    have gn : ∀ j : Nat, j < C.length + 1 → ∃ c, c ∈ C ++ [L] ∧ atI ((C ++ [L]).map V.int) (j : Int) = some (.int c) := fun j hj => by
      have hj2 : j < (C ++ [L]).length := by simp; omega
      exact ⟨(C ++ [L])[j], List.getElem_mem hj2, atI_nat (by rw [List.getElem?_map, List.getElem?_eq_getElem hj2]; rfl)⟩
    have gm : ∀ j : Nat, j < C.length + 1 → ∃ c, c ∈ C ++ [L] ∧ atI ((C ++ [L]).map V.int) (-1 - (j : Int)) = some (.int c) := fun j hj => by
      have hj2 : C.length - j < (C ++ [L]).length := by simp; omega
      refine ⟨(C ++ [L])[C.length - j], List.getElem_mem hj2, ?_⟩
      unfold atI ixN
      rw [lenC, if_neg (by omega), if_pos (by omega)]
      have e : ((-1 - (j : Int)) + ((C.length + 1 : Nat) : Int)).toNat = C.length - j := by omega
      rw [e]
      show ((C ++ [L]).map V.int)[C.length - j]? = _
      rw [List.getElem?_map, List.getElem?_eq_getElem hj2]
      rfl
    refine for_range (lo := 0) (n := (if 0 < m then n else 0).toNat) (fun i σ H2 => ∃ y6 y7 y8 y9 xs bs kvs, σ = [some (.ref p), some (.ref t), some (.int m), some (.int n), some (.ref o), some (.ref d), y6, y7, y8, y9] ∧ Pot H2 p ∧ (∀ b z, b ≠ p → b ≠ o → b ≠ d → H b = some z → H2 b = some z) ∧
        H2 o = some (.lst xs) ∧ BL H2 xs bs ∧ H2 d = some (.dK kvs) ∧ (∀ w : Int, hasI kvs w = true ↔ ∃ b ∈ bs, b.1 ≤ w ∧ w < b.1 + b.2) ∧ (∀ b ∈ bs, okB (C ++ [L]) (m * L) b) ∧ bs.Pairwise apart ∧ bs.length ≤ i ∧ kvs.length ≤ i * 2000)
      ⟨none, none, none, none, [], [], [], rfl, hp.same (so.trans (sd.trans su)), fun b z n1 n2 n3 h => su _ _ (sd _ _ (so _ _ h)), su _ _ (sd _ _ upd_same), .nil, su _ _ upd_same, fun w => ?_, by simp, .nil, Nat.le_refl _, Nat.zero_le _⟩ ?_ ?_
    · constructor
      · intro z; exact absurd z (by unfold hasI; rw [valV_nil]; simp)
      · rintro ⟨b, hb, _⟩; cases hb
    · rintro i σ H2 hi ⟨y6, y7, y8, y9, xs, bs, kvs, rfl, hp2, hB, ho2, hbl, hd2, hk, hok, hap, hlb, hlk⟩
      have hm : 0 < m := by
        by_cases c : 0 < m
        · exact c
        · rw [if_neg c] at hi
          simp at hi
      have hi2 : i < 1000 := by
        rw [if_pos hm] at hi
        omega
      have htp : t ≠ p := hp.nefrz ht
      have hto : t ≠ o := ne_of_none ht no
      have htd : t ≠ d := ne_of_none (so _ _ ht) nd
      have ht2 := hB _ _ htp hto htd ht
      obtain ⟨c0, hc0, g0⟩ := gn 0 (by omega)
      refine ⟨.ref p, rfl, .ref t, rfl, t, _, 0, _, rfl, rfl, .inl (.inr ⟨_, ht2⟩), g0, ?_⟩
      refine ⟨.ref t, rfl, .ref p, rfl, .ref t, rfl, t, _, rfl, .inr (.inl (.inr ⟨_, ht2⟩)), p, _, rfl, hp2, by rw [lenC]; omega, by rw [lenC]; omega, fun H3 e1 b3 hp3 e10 e11 => ?_⟩
      rw [lenC] at e11
      obtain ⟨j1, rfl⟩ : ∃ j : Nat, e1 = j := ⟨e1.toNat, by omega⟩
      obtain ⟨c1, hc1, g1⟩ := gn j1 (by omega)
      have ht3 := b3 _ _ htp ht2
      refine ⟨t, _, j1, _, rfl, rfl, .inl (.inr ⟨_, ht3⟩), g1, ?_⟩
      refine ⟨.ref t, rfl, 1, rfl, .ref p, rfl, .ref t, rfl, t, _, rfl, .inr (.inl (.inr ⟨_, ht3⟩)), p, _, rfl, hp3, by rw [lenC]; omega, by rw [lenC]; omega, fun H4 e2 b4 hp4 e20 e21 => ?_⟩
      rw [lenC] at e21
      obtain ⟨j2, rfl⟩ : ∃ j : Nat, e2 = j := ⟨e2.toNat, by omega⟩
      obtain ⟨c2, hc2, g2⟩ := gm j2 (by omega)
      have ht4 := b4 _ _ htp ht3
      refine ⟨_, _, rfl, rfl, t, _, _, _, rfl, rfl, .inl (.inr ⟨_, ht4⟩), g2, (by show 3 ≤ sizeLine; decide), fun l nl => ?_⟩
      have vl := same_upd (o := .lst [.int c0, .int c1, .int c2]) nl
      refine ⟨p, l, _, rfl, hp4.same vl, .inl (.inl upd_same), (hp4.ne_none nl).symm, List.cons_ne_nil _ _, by simp, fun H5 x b5 hp5 hx => ?_⟩
      obtain ⟨c, rfl, hc⟩ : ∃ c : Int, x = .int c ∧ c ∈ C ++ [L] := by
        simp only [List.mem_cons, List.not_mem_nil, or_false] at hx
        rcases hx with h | h | h
        · exact ⟨_, h, hc0⟩
        · exact ⟨_, h, hc1⟩
        · exact ⟨_, h, hc2⟩
      obtain ⟨hcl, hcu⟩ := hC c hc
      have B5 : ∀ b z, b ≠ p → H2 b = some z → H5 b = some z := fun b z n1 h => b5 _ _ n1 (vl _ _ (b4 _ _ n1 (b3 _ _ n1 h)))
      have ht5 := B5 _ _ htp ht2
      -- start
      have hmL : m * L ≤ 4000000 := by
        have h1 : m * L ≤ 2000 * 2000 := Int.mul_le_mul m1 hL (by have := hC c hc; omega) (by decide)
        omega
      have hcm : c ≤ m * L := by
        have h1 : 1 * L ≤ m * L := Int.mul_le_mul_of_nonneg_right (by omega) (by omega)
        omega
      have hq1 : 1 ≤ m * L / c := by
        rw [Int.le_ediv_iff_mul_le (by omega)]
        omega
      have hq2 : m * L / c * c ≤ m * L := Int.ediv_mul_le _ (by omega)
      have hq3 : m * L / c ≤ m * L := Int.ediv_le_self _ (by omega)
      refine ⟨.int c, rfl, .ref p, rfl, .int m, rfl, .ref t, rfl, 1, rfl, t, _, -1, _, rfl, rfl, .inl (.inr ⟨_, ht5⟩), gl, m, L, rfl, rfl, .inl ⟨by omega, by omega⟩, .int c, rfl, _, _, rfl, rfl, ⟨by omega, by omega⟩, p, _, rfl, hp5, by omega, by omega, fun H6 e b6 hp6 e0 e1 => ⟨c, e, rfl, rfl, .inl ⟨by omega, by omega⟩, ?_⟩⟩
      have B6 : ∀ b z, b ≠ p → H2 b = some z → H6 b = some z := fun b z n1 h => b6 _ _ n1 (B5 b z n1 h)
      have ho6 := B6 _ _ npo.symm ho2
      have hd6 := B6 _ _ npd.symm hd2
      have hs0 : 0 ≤ c * e := Int.mul_nonneg (by omega) e0
      have hs1 : c * e + c ≤ m * L := by
        have h1 : (e + 1) * c ≤ m * L / c * c := Int.mul_le_mul_of_nonneg_right (by omega) (by omega)
        have h2 : (e + 1) * c = c * e + c := by rw [Int.add_mul, Int.mul_comm, Int.one_mul]
        omega
      dsimp only
      generalize hse : c * e = se at *
      have hsm : se % c = 0 := by rw [← hse]; exact Int.mul_emod_right c e
      obtain ⟨cn, rfl⟩ : ∃ cn : Nat, c = cn := ⟨c.toNat, by omega⟩
      have ecn : (se + (cn : Int) - se).toNat = cn := by omega
      refine ⟨.int se, rfl, .int se, rfl, .int cn, rfl, _, _, rfl, rfl, se, se + cn, rfl, ⟨by omega, by omega, by omega, by omega⟩, fun D nD => ?_⟩
      rw [ecn]
      refine lc_range (lo := se) (n := cn) (fun i H7 => Same H6 H7 ∧ H7 D = some (.lst (((List.range i).map fun (j : Nat) => hasI kvs (se + (j : Int))).map V.bl))) ⟨same_upd nD, upd_same⟩ (fun i H7 hi p7 => ?_) (fun H7 p7 => ?_)
      · obtain ⟨s7, hD7⟩ := p7
        refine ⟨rfl, .int (se + i), rfl, .ref d, rfl, d, _, rfl, DGet.k (k := Sum.inl (se + (i : Int))) (s7 _ _ hd6), _, hD7, ?_, fun b z hz => ?_, ?_⟩
        · rw [List.length_map, List.length_map, List.length_range]
          exact Nat.lt_of_lt_of_le (show i < 4000001 by omega) (by decide)
        · rw [upd_ne (ne_of_none hz nD)]
          exact s7 _ _ hz
        · rw [upd_same, List.range_succ]
          simp [hasI]
      · obtain ⟨s7, hD7⟩ := p7
        refine ⟨D, _, rfl, .inl (.inl hD7), _, rfl, ?_⟩
        have hany : ((List.range cn).map fun (j : Nat) => hasI kvs (se + (j : Int))).any id = true ↔ ∃ w : Int, se ≤ w ∧ w < se + cn ∧ hasI kvs w = true := by
          rw [List.any_eq_true]
          constructor
          · rintro ⟨b, hb, hb2⟩
            obtain ⟨j, hj, e3⟩ := List.mem_map.mp hb
            have := List.mem_range.mp hj
            exact ⟨se + j, by omega, by omega, by rw [e3]; exact hb2⟩
          · rintro ⟨w, w1, w2, w3⟩
            refine ⟨true, List.mem_map.mpr ⟨(w - se).toNat, List.mem_range.mpr (by omega), ?_⟩, rfl⟩
            rw [show se + (((w - se).toNat : Nat) : Int) = w by omega]
            exact w3
        have hp7 := hp6.same s7
        have ho7 := s7 _ _ ho6
        have hd7 := s7 _ _ hd6
        have B7 : ∀ b z, b ≠ p → b ≠ o → b ≠ d → H b = some z → H7 b = some z := fun b z k1 k2 k3 h => s7 _ _ (B6 _ _ k1 (hB b z k1 k2 k3 h))
        have bl7 : BL H7 xs bs := hbl.mono fun t ys e => s7 _ _ (B6 _ _ (hp2.netup e) e)
        by_cases ca : ((List.range cn).map fun (j : Nat) => hasI kvs (se + (j : Int))).any id = true
        · rw [ca]
          refine iteF ?_
          exact ⟨_, _, _, _, xs, bs, kvs, rfl, hp7, B7, ho7, bl7, hd7, hk, hok, hap, by omega, by omega⟩
        · have ca' : ((List.range cn).map fun (j : Nat) => hasI kvs (se + (j : Int))).any id = false := by
            cases ez : ((List.range cn).map fun (j : Nat) => hasI kvs (se + (j : Int))).any id with
            | true => exact absurd ez ca
            | false => rfl
          rw [ca']
          refine iteT ?_
          -- taken.update(dict([..]))
          refine ⟨.ref d, rfl, .inr (.inr (.inl ⟨rfl, .inl ⟨_, hd7⟩⟩)), .int se, rfl, .int se, rfl, .int cn, rfl, _, _, rfl, rfl, se, se + cn, rfl, ⟨by omega, by omega, by omega, by omega⟩, fun D2 nD2 => ?_⟩
          rw [ecn]
          refine lc_range (lo := se) (n := cn) (fun i H8 => Same H7 H8 ∧ ∃ ps, H8 D2 = some (.lst (ps.map V.ref)) ∧ Paired (fun q kv => H8 q = some (.tup [kV kv.1, kv.2])) ps ((List.range i).map fun (j : Nat) => ((Sum.inl (se + (j : Int)) : Key), V.bl true)))
            ⟨same_upd nD2, [], upd_same, .nil⟩ (fun i H8 hi p8 => ?_) (fun H8 p8 => ?_)
          · obtain ⟨s8, ps, hD8, hpr⟩ := p8
            have lps : ps.length = i := by
              have := hpr.length
              simpa using this
            refine ⟨rfl, .int (se + i), rfl, (by show 2 ≤ sizeLine; decide), fun T nT => ⟨_, by rw [upd_ne (ne_of_none hD8 nT)]; exact hD8, ?_, fun b z hz => ?_, ps ++ [T], ?_, ?_⟩⟩
            · rw [List.length_map, lps]
              exact Nat.lt_of_lt_of_le (show i < 4000001 by omega) (by decide)
            · rw [upd_ne (ne_of_none hz nD2), upd_ne (ne_of_none (s8 _ _ hz) nT)]
              exact s8 _ _ hz
            · rw [upd_same]
              simp
            · rw [List.range_succ, List.map_append]
              refine Paired.snoc ?_ ?_
              · refine paired_imp (fun q kv hq => ?_) hpr
                rw [upd_ne (ne_of hq hD8 (by intro z; cases z)), upd_ne (ne_of_none hq nT)]
                exact hq
              · rw [upd_ne (ne_of_none hD8 nT).symm, upd_same]
                rfl
          · obtain ⟨s8, ps, hD8, hpr⟩ := p8
            refine ⟨D2, ps, _, rfl, .inl (.inl hD8), paired_imp (fun q kv hq => .inl (.inl hq)) hpr, fun q nq => ?_⟩
            have s9 := same_upd (o := .dK (mergeK [] ((List.range cn).map fun (j : Nat) => ((Sum.inl (se + (j : Int)) : Key), V.bl true)))) nq
            have hd9 := s9 _ _ (s8 _ _ hd7)
            have hml : (mergeK [] ((List.range cn).map fun (j : Nat) => ((Sum.inl (se + (j : Int)) : Key), V.bl true))).length ≤ cn := by
              refine Nat.le_trans (length_mergeK _ _) ?_
              simp
            have hcn : cn ≤ 2000 := by omega
            refine ⟨d, q, kvs, _, rfl, rfl, ne_of_none (s8 _ _ hd7) nq, hd9, upd_same, ?_, ?_⟩
            · exact Nat.le_trans (show _ ≤ 4000001 by omega) (by decide)
            -- found.append(..)
            have ho9 := s9 _ _ (s8 _ _ ho7)
            have ho10 : upd (upd H8 q (.dK (mergeK [] ((List.range cn).map fun (j : Nat) => ((Sum.inl (se + (j : Int)) : Key), V.bl true))))) d (.dK (mergeK kvs (mergeK [] ((List.range cn).map fun (j : Nat) => ((Sum.inl (se + (j : Int)) : Key), V.bl true))))) o = some (.lst xs) := by
              rw [upd_ne nod]
              exact ho9
            refine ⟨.ref o, rfl, .inl ⟨rfl, _, .inl (.inl ho10)⟩, .int se, rfl, .int cn, rfl, (by show 2 ≤ sizeLine; decide), fun T2 nT2 => ?_⟩
            have lxs : xs.length ≤ i := by rw [hbl.len]; exact hlb
            have hdm : H8 d = some (.dK kvs) := s8 _ _ hd7
            have nT2d : T2 ≠ d := fun z => by rw [z, upd_same] at nT2; cases nT2
            have nT2o : o ≠ T2 := ne_of_none ho10 nT2
            have keep : ∀ b z, b ≠ o → b ≠ d → H7 b = some z → upd (upd (upd (upd H8 q (.dK (mergeK [] ((List.range cn).map fun (j : Nat) => ((Sum.inl (se + (j : Int)) : Key), V.bl true))))) d (.dK (mergeK kvs (mergeK [] ((List.range cn).map fun (j : Nat) => ((Sum.inl (se + (j : Int)) : Key), V.bl true)))))) T2 (.tup [.int se, .int (cn : Int)])) o (.lst (xs ++ [.ref T2])) b = some z := fun b z k1 k2 h => by
              have h9 := s9 _ _ (s8 _ _ h)
              have hq : upd (upd H8 q (.dK (mergeK [] ((List.range cn).map fun (j : Nat) => ((Sum.inl (se + (j : Int)) : Key), V.bl true))))) d (.dK (mergeK kvs (mergeK [] ((List.range cn).map fun (j : Nat) => ((Sum.inl (se + (j : Int)) : Key), V.bl true))))) b = some z := by
                rw [upd_ne k2]
                exact h9
              rw [upd_ne k1, upd_ne (ne_of_none hq nT2)]
              exact hq
            refine ⟨o, xs, _, rfl, rfl, by rw [upd_ne nT2o]; exact ho10, ?_, ?_⟩
            · exact Nat.lt_of_lt_of_le (show xs.length < 4000001 by omega) (by decide)
            refine ⟨_, _, _, _, xs ++ [.ref T2], bs ++ [(se, (cn : Int))], mergeK kvs (mergeK [] ((List.range cn).map fun (j : Nat) => ((Sum.inl (se + (j : Int)) : Key), V.bl true))), rfl, ?_, ?_, upd_same, ?_, ?_, ?_, ?_, ?_, ?_, ?_⟩
            · obtain ⟨g, r, ep, pv⟩ := hp7
              exact ⟨g, r, keep _ _ npo npd ep, pv⟩
            · exact fun b z k1 k2 k3 h => keep _ _ k2 k3 (B7 b z k1 k2 k3 h)
            · refine Paired.snoc (bl7.mono fun t ys e => keep _ _ (ne_of e ho7 (by intro z; cases z)) (ne_of e hd7 (by intro z; cases z)) e) ⟨T2, rfl, ?_⟩
              rw [upd_ne nT2o.symm, upd_same]
            · rw [upd_ne nod.symm, upd_ne nT2d.symm, upd_same]
            · intro w
              rw [hasI_merge, Bool.or_eq_true, hk w, valV_any, ← hasI, hasI_merge, Bool.or_eq_true]
              constructor
              · rintro (⟨b, hb, h1⟩ | h1)
                · exact ⟨b, List.mem_append_left _ hb, h1⟩
                · refine ⟨(se, cn), List.mem_append_right _ (List.mem_singleton.mpr rfl), ?_⟩
                  rcases h1 with h1 | h1
                  · exact absurd h1 (by unfold hasI; rw [valV_nil]; simp)
                  · obtain ⟨kv, hkv, h2⟩ := List.any_eq_true.mp h1
                    obtain ⟨j, hj, e3⟩ := List.mem_map.mp hkv
                    have hj2 := List.mem_range.mp hj
                    have h3 := of_decide_eq_true h2
                    rw [← e3] at h3
                    injection h3 with h3
                    show se ≤ w ∧ w < se + cn
                    omega
              · rintro ⟨b, hb, h1⟩
                rcases List.mem_append.mp hb with h2 | h2
                · exact .inl ⟨b, h2, h1⟩
                · right
                  right
                  rw [List.mem_singleton.mp h2] at h1
                  have h1' : se ≤ w ∧ w < se + cn := h1
                  refine List.any_eq_true.mpr ⟨(Sum.inl (se + (((w - se).toNat : Nat) : Int)), .bl true), List.mem_map.mpr ⟨(w - se).toNat, List.mem_range.mpr (by omega), rfl⟩, decide_eq_true ?_⟩
                  show (Sum.inl _ : Key) = Sum.inl w
                  rw [show se + (((w - se).toNat : Nat) : Int) = w by omega]
            · intro b hb
              rcases List.mem_append.mp hb with h2 | h2
              · exact hok b h2
              · rw [List.mem_singleton.mp h2]
                exact ⟨hc, hcl, hs0, hsm, hs1⟩
            · rw [List.pairwise_append]
              refine ⟨hap, List.pairwise_singleton _ _, fun b hb b2 hb2 => ?_⟩
              rw [List.mem_singleton.mp hb2]
              obtain ⟨_, k1, k2, _, _⟩ := hok b hb
              have hno : ∀ w : Int, se ≤ w → w < se + cn → b.1 ≤ w → w < b.1 + b.2 → False := fun w w1 w2 w3 w4 => ca (hany.mpr ⟨w, w1, w2, (hk w).mpr ⟨b, hb, w3, w4⟩⟩)
              have h1 := hno se (by omega) (by omega)
              have h2 := hno b.1
              show b.1 + b.2 ≤ se ∨ se + (cn : Int) ≤ b.1
              by_cases c1 : b.1 ≤ se
              · left
                by_cases c3 : se < b.1 + b.2
                · exact (h1 c1 c3).elim
                · omega
              · right
                by_cases c2 : b.1 < se + cn
                · exact (h2 (by omega) c2 (by omega) (by omega)).elim
                · omega
            · simp
              omega
            · refine Nat.le_trans (length_mergeK _ _) ?_
              omega
    · rintro σ H2 ⟨y6, y7, y8, y9, xs, bs, kvs, rfl, hp2, hB, ho2, hbl, hd2, hk, hok, hap, hlb, hlk⟩
      refine ⟨.ref o, rfl, o, xs, kH H2, rfl, .inl (.inl ho2), fun x hx => ?_, fun ys v hsr hst nv => ?_⟩
      · obtain ⟨b, hb⟩ := hbl.all x hx
        have e := hb.k
        obtain ⟨t2, e1, e2⟩ := hb
        exact ⟨t2, e1, by rw [e]; exact e2⟩
      have sv := same_upd (o := .lst ys) nv
      refine ⟨v, ys, rfl, .inl ⟨.inl (.inl upd_same), fun r nr => ?_⟩⟩
      have sr := sv.trans (same_upd (o := .tup ys) nr)
      have ally : ∀ y ∈ ys, ∃ b, BkAt H2 y b := fun y hy => hbl.all y (hst.perm.mem_iff.mp hy)
      have pm : (ys.map (kH H2)).Perm bs := by
        have := hst.perm.map (kH H2)
        rwa [hbl.map] at this
      refine q _ r (ys.map (kH H2)) (fun b z nb h => ?_) (hp2.same sr) ⟨ys, upd_same, (BL.of ally).mono fun t2 zs e => sr _ _ e⟩ (sorted_st hok hap pm ?_) ?_
      · have k2 : b ≠ o := ne_of_none h no
        have k3 : b ≠ d := ne_of_none (so _ _ h) nd
        exact sr _ _ (hB b z nb k2 k3 h)
      · exact List.pairwise_map.mpr hsr
      · rw [pm.length_eq]
        have : (if 0 < m then n else 0) ≤ n := by split <;> omega
        omega
end
end Ph

namespace Ph
open PySem PySem.Spec PyProof.Rows L2
section
variable {X : Cx}
/-- x in t, t a tuple of data -/
def rInT (K : PySem.W.Frag) : R2 := fun x y H Q => ∃ d ds, Dp K H x d ∧ Dp K H y (.tuple ds) ∧ SeqAt.shaped d = true ∧ SeqAt.shaped (.tuple ds) = true ∧ Q (.bl (ds.any fun z => PyData.eqv z d)) H
theorem op_inT (hu : X.A.units + 65 < cLine) : OpR X (compareOp .In) (rInT X.K) := by
  intro pins s σ H x y v u Q I rx ry h
  obtain ⟨d, ds, dx, dy, sx, sy, q⟩ := h
  obtain ⟨_, r1⟩ := Dp.reads I d x v dx rx
  obtain ⟨_, r2⟩ := Dp.reads I (.tuple ds) y u dy ry
  exact SeqAt.in_tuple_reads r2 r1 (SeqAt.canLay_of_shaped sy) (SeqAt.canLay_of_shaped sx) (room_in_shaped sx hu) ⟨.bl _, H, I, rfl, q⟩
/-- a thing that is only read from now on -/
def tFrz (t : TE) : TE := fun σ H Q => t σ H fun v H1 => ∃ d u, v = .ref d ∧ H1 d = some u ∧ Mut (some u) ∧ ∀ od, Q v (upd H1 d (.frz od u))
theorem pe_frz {e : Expr} {t : TE} (h : PE X e t) : PE X e (tFrz t) := by
  refine ⟨fun pins s σ H Q I hw => ?_⟩
  refine thn (h.run pins s σ _ _ I hw) fun v s1 ⟨x, H1, I1, r, d, u, ex, hd, mu, q⟩ => ?_
  obtain ⟨od, I2⟩ := I1.lock hd mu
  exact ⟨x, _, I2, r, q od⟩
end
/-! ### blocks and states as data -/
def bD (b : Int × Int) : PyData := .tuple [.int b.1, .int b.2]
theorem bD_lay (b : Int × Int) : (bD b).canLay0 = true := by simp [bD, PyData.canLay0, PyData.canLayAll0]
theorem bD_depth (b : Int × Int) : (bD b).depth = 1 := by simp [bD, PyData.depth, PyData.depthAll]
theorem bDs_lay : ∀ zs : List (Int × Int), PyData.canLayAll0 (zs.map bD) = true
  | [] => by simp [PyData.canLayAll0]
  | z :: zs => by simp [PyData.canLayAll0, bD_lay z, bDs_lay zs]
theorem bDs_depth : ∀ zs : List (Int × Int), PyData.depthAll (zs.map bD) ≤ 1
  | [] => by simp [PyData.depthAll]
  | z :: zs => by
    have h1 := bDs_depth zs
    have h2 := bD_depth z
    simp only [List.map_cons, PyData.depthAll, h2]
    omega
theorem bD_shaped (b : Int × Int) : SeqAt.shaped (bD b) = true := by
  show ((bD b).canLay0 && decide ((bD b).depth ≤ 64)) = true
  rw [bD_lay, bD_depth]
  rfl
theorem sD_shaped (zs : List (Int × Int)) : SeqAt.shaped (.tuple (zs.map bD)) = true := by
  have h1 := bDs_depth zs
  have h2 : PyData.depth (.tuple (zs.map bD)) ≤ 64 := by simp only [PyData.depth]; omega
  have h3 : PyData.canLay0 (.tuple (zs.map bD)) = true := by simp only [PyData.canLay0]; exact bDs_lay zs
  show (PyData.canLay0 (.tuple (zs.map bD)) && decide (PyData.depth (.tuple (zs.map bD)) ≤ 64)) = true
  rw [h3, decide_eq_true h2]
  rfl
theorem bD_eqv (b c : Int × Int) : PyData.eqv (bD b) (bD c) = decide (b = c) := by
  obtain ⟨b1, b2⟩ := b
  obtain ⟨c1, c2⟩ := c
  have e : PyData.eqv (bD (b1, b2)) (bD (c1, c2)) = ((b1 == c1) && ((b2 == c2) && true)) := by simp only [bD, PyData.eqv, PyData.eqvAll]
  rw [e, Bool.and_true, Bool.eq_iff_iff, Bool.and_eq_true, beq_iff_eq, beq_iff_eq, decide_eq_true_iff, Prod.mk.injEq]
theorem bDs_any (b : Int × Int) : ∀ zs : List (Int × Int), ((zs.map bD).any fun z => PyData.eqv z (bD b)) = decide (b ∈ zs)
  | [] => by simp
  | z :: zs => by
    rw [List.map_cons, List.any_cons, bDs_any b zs, bD_eqv, Bool.eq_iff_iff, Bool.or_eq_true, decide_eq_true_iff, decide_eq_true_iff, decide_eq_true_iff, List.mem_cons]
    exact ⟨fun h => h.imp Eq.symm id, fun h => h.imp Eq.symm id⟩
theorem sD_eqv_refl (zs : List (Int × Int)) : PyData.eqv (.tuple (zs.map bD)) (.tuple (zs.map bD)) = true := by
  simp only [PyData.eqv]
  induction zs with
  | nil => simp [PyData.eqvAll]
  | cons z zs ih => simp [PyData.eqvAll, ih, bD_eqv]
end Ph

namespace Ph
open PySem PySem.Spec PyProof.Rows L2
/-! ### keepers: the smallest block of each chunk, then the lowest one -/
abbrev Bk := Int × Int
def btr (b c : Bk) : Prop := b.2 < c.2 ∨ (b.2 = c.2 ∧ b.1 ≤ c.1)
instance (b c : Bk) : Decidable (btr b c) := inferInstanceAs (Decidable (_ ∨ _))
def best (s : Int) (bs : List Bk) (b : Bk) : Prop := ∀ c ∈ bs, c.1 / s = b.1 / s → btr b c
instance (s : Int) (bs : List Bk) (b : Bk) : Decidable (best s bs b) := inferInstanceAs (Decidable (∀ c ∈ bs, _))
def kp (s : Int) (bs : List Bk) : List Bk := bs.filter fun b => decide (best s bs b)
theorem btr.refl (b : Bk) : btr b b := .inr ⟨rfl, Int.le_refl _⟩
theorem btr.anti {b c : Bk} (h : btr b c) (k : btr c b) : b = c := by
  unfold btr at h k
  exact Prod.ext (by omega) (by omega)
theorem btr.trans {b c d : Bk} (h : btr b c) (k : btr c d) : btr b d := by
  unfold btr at *
  omega
theorem btr.total (b c : Bk) : btr b c ∨ btr c b := by
  unfold btr
  omega
theorem mem_kp {s : Int} {bs : List Bk} {b : Bk} : b ∈ kp s bs ↔ b ∈ bs ∧ best s bs b := by
  unfold kp
  rw [List.mem_filter, decide_eq_true_iff]
theorem kp_sub (s : Int) (bs : List Bk) : (kp s bs).Sublist bs := List.filter_sublist
/-- the best one of a chunk -/
theorem best_ex (s : Int) (q : Int) : ∀ bs : List Bk, (∃ c ∈ bs, c.1 / s = q) → ∃ b ∈ bs, b.1 / s = q ∧ ∀ c ∈ bs, c.1 / s = q → btr b c
  | [], h => by obtain ⟨c, hc, _⟩ := h; cases hc
  | x :: r, h => by
    by_cases hr : ∃ c ∈ r, c.1 / s = q
    · obtain ⟨b, hb, hq, hbest⟩ := best_ex s q r hr
      by_cases hx : x.1 / s = q
      · rcases btr.total b x with t | t
        · refine ⟨b, List.mem_cons_of_mem _ hb, hq, fun c hc e => ?_⟩
          rcases List.mem_cons.mp hc with z | z
          · rw [z]; exact t
          · exact hbest c z e
        · refine ⟨x, List.mem_cons_self .., hx, fun c hc e => ?_⟩
          rcases List.mem_cons.mp hc with z | z
          · rw [z]; exact btr.refl _
          · exact t.trans (hbest c z e)
      · refine ⟨b, List.mem_cons_of_mem _ hb, hq, fun c hc e => ?_⟩
        rcases List.mem_cons.mp hc with z | z
        · rw [z] at e; exact absurd e hx
        · exact hbest c z e
    · obtain ⟨c, hc, e⟩ := h
      rcases List.mem_cons.mp hc with z | z
      · rw [z] at e
        refine ⟨x, List.mem_cons_self .., e, fun d hd ed => ?_⟩
        rcases List.mem_cons.mp hd with z | z
        · rw [z]; exact btr.refl _
        · exact absurd ⟨d, z, ed⟩ hr
      · exact absurd ⟨c, z, e⟩ hr
theorem kp_ex {s : Int} {bs : List Bk} {c : Bk} (hc : c ∈ bs) : ∃ b ∈ kp s bs, b.1 / s = c.1 / s ∧ btr b c := by
  obtain ⟨b, hb, hq, hbest⟩ := best_ex s (c.1 / s) bs ⟨c, hc, rfl⟩
  exact ⟨b, mem_kp.mpr ⟨hb, fun d hd e => hbest d hd (e.trans hq)⟩, hq, hbest c hc rfl⟩
theorem kp_uniq {s : Int} {bs : List Bk} {b c : Bk} (hb : b ∈ kp s bs) (hc : c ∈ kp s bs) (e : b.1 / s = c.1 / s) : b = c := by
  obtain ⟨b1, b2⟩ := mem_kp.mp hb
  obtain ⟨c1, c2⟩ := mem_kp.mp hc
  exact (b2 c c1 e.symm).anti (c2 b b1 e)
abbrev Asc (bs : List Bk) : Prop := bs.Pairwise fun b c => b.1 < c.1
theorem Asc.kp {s : Int} {bs : List Bk} (h : Asc bs) : Asc (kp s bs) := h.sublist (kp_sub s bs)
/-- one step of the program's dict -/
def stp (s : Int) (E : List Bk) (b : Bk) : List Bk := match E.getLast? with
  | none => [b]
  | some m => if m.1 / s = b.1 / s then (if b.2 < m.2 then E.dropLast ++ [b] else E) else E ++ [b]
theorem kp_snoc {s : Int} (hs : 0 < s) {l : List Bk} {b : Bk} (h : Asc (l ++ [b])) : kp s (l ++ [b]) = stp s (kp s l) b := by
  have hlb : ∀ c ∈ l, c.1 < b.1 := fun c hc => (List.pairwise_append.mp h).2.2 c hc b (List.mem_singleton.mpr rfl)
  have hl : Asc l := (List.pairwise_append.mp h).1
  have hmono : ∀ c ∈ l, c.1 / s ≤ b.1 / s := fun c hc => Int.ediv_le_ediv hs (Int.le_of_lt (hlb c hc))
  have bestsn : ∀ c, best s (l ++ [b]) c ↔ best s l c ∧ (b.1 / s = c.1 / s → btr c b) := fun c => by
    unfold best
    constructor
    · intro z
      exact ⟨fun d hd => z d (List.mem_append_left _ hd), z b (List.mem_append_right _ (List.mem_singleton.mpr rfl))⟩
    · rintro ⟨z1, z2⟩ d hd
      rcases List.mem_append.mp hd with e | e
      · exact z1 d e
      · rw [List.mem_singleton.mp e]; exact z2
  have split : kp s (l ++ [b]) = (kp s l).filter (fun c => decide (b.1 / s = c.1 / s → btr c b)) ++ (if best s l b then [b] else []) := by
    unfold kp
    rw [List.filter_append, List.filter_filter]
    congr 1
    · refine List.filter_congr fun c hc => ?_
      rw [Bool.eq_iff_iff, Bool.and_eq_true, decide_eq_true_iff, decide_eq_true_iff, decide_eq_true_iff, bestsn]
      exact And.comm
    · have e : best s (l ++ [b]) b ↔ best s l b := (bestsn b).trans ⟨fun z => z.1, fun z => ⟨z, fun _ => btr.refl _⟩⟩
      by_cases z : best s l b
      · rw [if_pos z, List.filter_cons, if_pos (decide_eq_true (e.mpr z)), List.filter_nil]
      · rw [if_neg z, List.filter_cons_of_neg (by rw [decide_eq_true_iff]; exact fun q => z (e.mp q)), List.filter_nil]
  rw [split]
  unfold stp
  cases hg : (kp s l).getLast? with
  | none =>
    have e0 := List.getLast?_eq_none_iff.mp hg
    have l0 : l = [] := by
      cases l with
      | nil => rfl
      | cons x r =>
        obtain ⟨y, hy, _⟩ := kp_ex (s := s) (List.mem_cons_self (a := x) (l := r))
        rw [e0] at hy
        cases hy
    subst l0
    rfl
  | some m =>
    obtain ⟨E0, eE⟩ := List.getLast?_eq_some_iff.mp hg
    have hm : m ∈ kp s l := by rw [eE]; exact List.mem_append_right _ (List.mem_singleton.mpr rfl)
    obtain ⟨hml, hmb⟩ := mem_kp.mp hm
    have ascE : Asc (E0 ++ [m]) := eE ▸ hl.kp
    have hE0 : ∀ c ∈ E0, c.1 < m.1 := fun c hc => (List.pairwise_append.mp ascE).2.2 c hc m (List.mem_singleton.mpr rfl)
    have hE0k : ∀ c ∈ E0, c ∈ kp s l := fun c hc => by rw [eE]; exact List.mem_append_left _ hc
    dsimp only
    by_cases hq : m.1 / s = b.1 / s
    · rw [if_pos hq]
      have other : ∀ c ∈ E0, b.1 / s ≠ c.1 / s := fun c hc z => by
        have e := kp_uniq (hE0k c hc) hm (z.symm.trans hq.symm)
        have := hE0 c hc
        rw [e] at this
        omega
      have keepE0 : E0.filter (fun c => decide (b.1 / s = c.1 / s → btr c b)) = E0 := List.filter_eq_self.mpr fun c hc => decide_eq_true fun z => absurd z (other c hc)
      by_cases hlt : b.2 < m.2
      · rw [if_pos hlt, eE, List.filter_append, keepE0, List.filter_cons_of_neg (by rw [decide_eq_true_iff]; intro z; have := z hq.symm; unfold btr at this; omega), List.filter_nil, List.append_nil, List.dropLast_concat, if_pos]
        intro c hc e
        have := hmb c hc (e.trans hq.symm)
        unfold btr at this ⊢
        omega
      · have hmlt := hlb m hml
        have hmbt : btr m b := by unfold btr; omega
        rw [if_neg hlt, eE, List.filter_append, keepE0, List.filter_cons, if_pos (decide_eq_true fun _ => hmbt), List.filter_nil, if_neg, List.append_nil]
        intro z
        have := z m hml hq
        unfold btr at this
        omega
    · rw [if_neg hq]
      have noc : ∀ c ∈ l, c.1 / s ≠ b.1 / s := fun c hc z => by
        obtain ⟨y, hy, ey, _⟩ := kp_ex (s := s) hc
        have h1 := (mem_kp.mp hm).1
        have h2 := hmono m h1
        rw [eE] at hy
        rcases List.mem_append.mp hy with e | e
        · have h3 := Int.ediv_le_ediv hs (Int.le_of_lt (hE0 y e))
          omega
        · rw [List.mem_singleton.mp e] at ey
          exact hq (ey.trans z)
      have keepAll : (kp s l).filter (fun c => decide (b.1 / s = c.1 / s → btr c b)) = kp s l := List.filter_eq_self.mpr fun c hc => decide_eq_true fun z => absurd z.symm (noc c (mem_kp.mp hc).1)
      rw [keepAll, if_pos]
      intro c hc e
      exact absurd e (noc c hc)
/-! ### chains -/
structure Chn (C : List Int) : Prop where
  pos : ∀ c ∈ C, 1 ≤ c
  dvd : ∀ c ∈ C, ∀ d ∈ C, c ≤ d → d % c = 0
theorem Lnk.chn {m x : Int} {ns : List Int} (h : Lnk m ns x) : Chn ns ∧ ∀ c ∈ ns, 1 ≤ c ∧ c ≤ x ∧ x % c = 0 := by
  induction h with
  | one => refine ⟨⟨fun c hc => ?_, fun c hc d hd _ => ?_⟩, fun c hc => ?_⟩ <;> simp at * <;> subst_vars <;> decide
  | @step ns x r h h1 h2 h3 h4 ih =>
    obtain ⟨⟨ip, id⟩, il⟩ := ih
    have hx := h.pos
    have hxr : x * 2 ≤ x * r := Int.mul_le_mul_of_nonneg_left h1 (by omega)
    have key : ∀ c ∈ ns ++ [x * r], 1 ≤ c ∧ c ≤ x * r ∧ (x * r) % c = 0 := fun c hc => by
      rcases List.mem_append.mp hc with e | e
      · obtain ⟨a1, a2, a3⟩ := il c e
        exact ⟨a1, by omega, Int.emod_eq_zero_of_dvd (Int.dvd_trans (Int.dvd_of_emod_eq_zero a3) ⟨r, rfl⟩)⟩
      · rw [List.mem_singleton.mp e]
        exact ⟨by omega, Int.le_refl _, Int.emod_self⟩
    refine ⟨⟨fun c hc => (key c hc).1, fun c hc d hd hcd => ?_⟩, key⟩
    rcases List.mem_append.mp hd with e | e
    · rcases List.mem_append.mp hc with e2 | e2
      · exact id c e2 d e hcd
      · have := (il d e).2.1
        rw [List.mem_singleton.mp e2] at hcd
        omega
    · rw [List.mem_singleton.mp e]
      exact (key c hc).2.2
theorem ediv_same {s t a b : Int} (hs : 0 < s) (ht : t % s = 0) (e : a / s = b / s) (h0 : 0 < t) : a / t = b / t := by
  obtain ⟨k, hk⟩ := Int.dvd_of_emod_eq_zero ht
  rw [hk, ← Int.ediv_ediv_of_nonneg (Int.le_of_lt hs), ← Int.ediv_ediv_of_nonneg (Int.le_of_lt hs), e]
theorem St.ascL {C : List Int} {W : Int} {bs : List Bk} (h : St C W bs) : Asc bs := h.asc.imp_of_mem fun {b c} hb hc z => by
  obtain ⟨_, h1, _⟩ := h.ok b hb
  omega
theorem St.sub {C : List Int} {W : Int} {bs cs : List Bk} (h : St C W bs) (k : cs.Sublist bs) : St C W cs := ⟨fun b hb => h.ok b (k.subset hb), h.asc.sublist k⟩
/-- blocks at least as large as the size: each in its own chunk -/
theorem great_lt {C : List Int} {W s : Int} {bs : List Bk} (hC : Chn C) (hs : s ∈ C) (h : St C W bs) {b c : Bk} (hb : b ∈ bs) (hc : c ∈ bs) (hbs : s ≤ b.2) (hlt : b.1 + b.2 ≤ c.1) : b.1 / s < c.1 / s := by
  have h1 := hC.pos s hs
  have h2 : (b.1 + s) / s = b.1 / s + 1 := by rw [Int.add_ediv_of_dvd_right (Int.dvd_refl s), Int.ediv_self (by omega)]
  have h3 : (b.1 + s) / s ≤ c.1 / s := Int.ediv_le_ediv (by omega) (by omega)
  omega
/-- a block at most as large as the size lies within one chunk -/
theorem small_in {C : List Int} {W s : Int} {bs : List Bk} (hC : Chn C) (hs : s ∈ C) (h : St C W bs) {b : Bk} (hb : b ∈ bs) (hbs : b.2 ≤ s) {w : Int} (h1 : b.1 ≤ w) (h2 : w < b.1 + b.2) : w / s = b.1 / s := by
  obtain ⟨hbC, b1, b0, bm, _⟩ := h.ok b hb
  have e : w / b.2 = b.1 / b.2 := by
    obtain ⟨k, hk⟩ := Int.dvd_of_emod_eq_zero bm
    rw [hk, Int.mul_ediv_cancel_left _ (by omega)]
    rw [Int.ediv_eq_iff_of_pos (by omega)]
    rw [hk] at h1 h2
    rw [Int.mul_comm] at h1 h2
    constructor
    · exact h1
    · exact h2
  exact ediv_same (by omega) (hC.dvd _ hbC s hs hbs) e (by have := hC.pos s hs; omega)
theorem kp_kp {C : List Int} {s t : Int} {bs : List Bk} (hC : Chn C) (hs : s ∈ C) (ht : t ∈ C) (hst : s ≤ t) : kp t (kp s bs) = kp t bs := by
  have p1 := hC.pos s hs
  have p2 := hC.pos t ht
  have up : ∀ {a b : Int}, a / s = b / s → a / t = b / t := fun e => ediv_same (by omega) (hC.dvd s hs t ht hst) e (by omega)
  unfold kp
  rw [List.filter_filter]
  refine List.filter_congr fun b hb => ?_
  rw [Bool.eq_iff_iff, Bool.and_eq_true, decide_eq_true_iff, decide_eq_true_iff, decide_eq_true_iff]
  constructor
  · rintro ⟨z1, z2⟩ c hc e
    obtain ⟨y, hy, ey, hyc⟩ := kp_ex (s := s) hc
    exact (z1 y hy ((up ey).trans e)).trans hyc
  · intro z
    exact ⟨fun c hc e => z c (List.mem_filter.mp hc).1 e, fun c hc e => z c hc (up e)⟩
theorem pair_or {α : Type} {R : α → α → Prop} : ∀ {l : List α}, l.Pairwise R → ∀ b ∈ l, ∀ c ∈ l, b = c ∨ R b c ∨ R c b
  | [], _, b, hb, _, _ => by cases hb
  | x :: r, h, b, hb, c, hc => by
    obtain ⟨h1, h2⟩ := List.pairwise_cons.mp h
    rcases List.mem_cons.mp hb with e | e <;> rcases List.mem_cons.mp hc with e2 | e2
    · exact .inl (e.trans e2.symm)
    · rw [e]; exact .inr (.inl (h1 c e2))
    · rw [e2]; exact .inr (.inr (h1 b e))
    · exact pair_or h2 b e c e2
/-- a block at least as large as the size is kept -/
theorem great_kept {C : List Int} {W s : Int} {bs : List Bk} (hC : Chn C) (hs : s ∈ C) (h : St C W bs) {b : Bk} (hb : b ∈ bs) (hg : s ≤ b.2) : b ∈ kp s bs := by
  refine mem_kp.mpr ⟨hb, fun c hc e => ?_⟩
  have p1 := hC.pos s hs
  rcases pair_or h.asc b hb c hc with z | z | z
  · rw [z]; exact btr.refl _
  · have := great_lt hC hs h hb hc hg z
    omega
  · exfalso
    obtain ⟨hbC, b1, b0, bm, _⟩ := h.ok b hb
    obtain ⟨_, c1, _⟩ := h.ok c hc
    have hd : s ∣ b.1 := Int.dvd_trans (Int.dvd_of_emod_eq_zero (hC.dvd s hs _ hbC hg)) (Int.dvd_of_emod_eq_zero bm)
    have e2 : b.1 / s * s = b.1 := Int.ediv_mul_cancel hd
    have e3 : c.1 / s * s ≤ c.1 := Int.ediv_mul_le _ (by omega)
    rw [e] at e3
    omega
theorem kp_great {C : List Int} {W s : Int} {bs : List Bk} (hC : Chn C) (hs : s ∈ C) (h : St C W bs) (hg : ∀ b ∈ bs, s ≤ b.2) : kp s bs = bs :=
  List.filter_eq_self.mpr fun b hb => decide_eq_true (mem_kp.mp (great_kept hC hs h hb (hg b hb))).2
/-- the starts of the chunks that are not empty -/
def chk0 (s : Int) (bs : List Bk) (k : Int) : Prop := ∃ b ∈ bs, ∃ w, b.1 ≤ w ∧ w < b.1 + b.2 ∧ k = w / s * s
theorem kp_chk {C : List Int} {W s : Int} {bs : List Bk} (hC : Chn C) (hs : s ∈ C) (h : St C W bs) (k : Int) : chk0 s (kp s bs) k ↔ chk0 s bs k := by
  constructor
  · rintro ⟨b, hb, r⟩
    exact ⟨b, (mem_kp.mp hb).1, r⟩
  · rintro ⟨b, hb, w, w1, w2, rfl⟩
    by_cases hg : s ≤ b.2
    · exact ⟨b, great_kept hC hs h hb hg, w, w1, w2, rfl⟩
    · obtain ⟨y, hy, ey, _⟩ := kp_ex (s := s) hb
      have y1 := (h.ok y (mem_kp.mp hy).1).2.1
      refine ⟨y, hy, y.1, Int.le_refl _, by omega, ?_⟩
      rw [small_in hC hs h hb (by omega) w1 w2, ey]
theorem sum_sub : ∀ {l m : List Int}, l.Sublist m → (∀ x ∈ m, 0 ≤ x) → l.sum ≤ m.sum
  | _, _, .slnil, _ => Int.le_refl _
  | _, _, .cons a r, h => by
    have := sum_sub r fun x hx => h x (List.mem_cons_of_mem _ hx)
    have := h a (List.mem_cons_self ..)
    rw [List.sum_cons]
    omega
  | _, _, .cons_cons a r, h => by
    have := sum_sub r fun x hx => h x (List.mem_cons_of_mem _ hx)
    rw [List.sum_cons, List.sum_cons]
    omega
theorem kp_live {C : List Int} {W s : Int} {bs : List Bk} (h : St C W bs) : ((kp s bs).map (·.2)).sum ≤ (bs.map (·.2)).sum :=
  sum_sub ((kp_sub s bs).map _) fun x hx => by
    obtain ⟨b, hb, e⟩ := List.mem_map.mp hx
    have := (h.ok b hb).2.1
    omega
theorem kp_nodup {C : List Int} {W s : Int} {bs : List Bk} (h : St C W bs) (p : Bk → Bool) : (((kp s bs).filter p).map fun b => b.1 / s).Nodup := by
  have a : Asc ((kp s bs).filter p) := h.ascL.kp.sublist List.filter_sublist
  refine List.pairwise_map.mpr (a.imp_of_mem fun {b c} hb hc z e => ?_)
  have := kp_uniq (List.mem_filter.mp hb).1 (List.mem_filter.mp hc).1 e
  rw [this] at z
  omega
end Ph

namespace Ph
open PySem PySem.Spec PyProof.Rows L2
section
variable {P : Program} {w : World} {A : Around} {E : Value → Shared → Prop} {s : Shared} {T : String} {r d : Addr} {n : Nat} {Pv : Nat → Value → Prop} {OK : Heap → Prop}
/-- tuple(x), x walked as the library's source of a list -/
theorem code_tuple_src {Q₁ : Value → Shared → Prop} (S : PySem.W.KdlSrc P w T r d n Pv OK) (calm : A.handled = none) (ok : OK s.heap) (hn : n ≤ sizeLine) (nT : (Value.type T == Value.type "tuple") = false) (nL : (Value.type T == Value.type "list") = false)
    (q : ∀ (g : Heap) (tk : Nat) (acc : Array Value), (∀ b u, s.heap.get? b = some u → g.get? b = some u) → ItemsOf Pv acc n → Q₁ (.ref g.objs.size) { s with heap := g.push { cls := .type "tuple", data := .seq acc }, toks := tk }) :
    codeAny (model P w) A (.call (.builtin "tuple.__new__") ⟨[.type "tuple", .ref r], []⟩) (wants Q₁ E) s := by
  refine codeAny_of_tree ?_
  show wpAny (model P w) A.in1 (do checkBuiltinCall "tuple.__new__" ⟨[.type "tuple", .ref r], []⟩; again (.builtin "tuple.__new__" ⟨[.type "tuple", .ref r], []⟩)) _ _ s
  refine wpAny_bind (wpAny_of_eq (F.newCall_tuple_1 _) (wpAny_pure ⟨plainId_quiet F.plain_tuple_new _, codeAny_builtin F.entry_tuple_new ?_⟩)); rw [Around.under_plainId F.plain_tuple_new _]
  have y1 := sub_tuple_self
  have y2 := init_tuple_lookup
  have y3 := madeHere_tuple
  have ty := S.type _ ok
  have calm1 : A.in1.handled = none := calm
  wp_walk using wpAny_typeOf ty, PySem.W.kdu_collect (A := A.in1) S calm1 ok hn
  intro g tk acc k it
  show wpAny (model P w) _ (Builtin.Tuple.tupleExact acc.toList.toArray >>= fun v => ret v) _ _ _
  unfold Builtin.Tuple.tupleExact
  refine wpAny_bind (wpAny_newObj_type ?_ (by show acc.toList.toArray.size ≤ sizeLine; rw [Array.toArray_toList, it.1]; exact hn))
  rw [Array.toArray_toList]
  exact wpAny_pure (q g tk acc k it)
theorem call_tuple_src {Q : Value → Shared → Prop} (S : PySem.W.KdlSrc P w T r d n Pv OK) (calm : A.handled = none) (ok : OK s.heap) (hn : n ≤ sizeLine) (nT : (Value.type T == Value.type "tuple") = false) (nL : (Value.type T == Value.type "list") = false)
    (q : ∀ (g : Heap) (tk : Nat) (acc : Array Value), (∀ b u, s.heap.get? b = some u → g.get? b = some u) → ItemsOf Pv acc n → Q (.ref g.objs.size) { s with heap := g.push { cls := .type "tuple", data := .seq acc }, toks := tk }) :
    wpAny (model P w) A (call (.type "tuple") [.ref r]) Q E s := by
  refine callType_codes (Q₁ := fun z t => t.TypeIs z "tuple" ∧ Q z t) F.called_tuple (F.typeCall_tuple_1 _) F.entry_object_init (code_tuple_src (A := A.in1) S calm ok hn nT nL fun g tk acc k it => ⟨⟨_, Heap.get?_push_size _ rfl, rfl⟩, q g tk acc k it⟩) fun z t h => ?_
  exact ⟨h.1, F.args_object_init_2 z _, object_init_meets F.called_tuple.init.lookup F.called_tuple.made (by decide) P w A.in1 _ t ⟨h.1, rfl, h.2⟩⟩
end
section
variable {X : Cx} {o : Expr} {p pos apos mpos : Pos} {td : TE}
/-- tuple(d.values()) -/
def tTupVals (td : TE) : TE := fun σ H Q => td σ H fun x H1 => ∃ a kvs, x = V.ref a ∧ H1 a = some (.dK kvs) ∧ ∀ q, H1 q = none → Q (.ref q) (upd H1 q (.tup (kvs.map (·.2))))
theorem pe_tupVals (hc : X.calm = true) (hg : Gl X "tuple") (hm : X.mg "tuple" = none) (hd : PE X o td) (hbase : attributeBase o "values" X.env (eval o X.env) = eval o X.env := by rfl) (hline : (apos.endLine == mpos.line) = true := by rfl)
    (hse : starEach [Expr.Call (.Attribute o "values" apos) [] [] mpos] X.env = [(false, eval (Expr.Call (.Attribute o "values" apos) [] [] mpos) X.env)] := by rfl) :
    PE X (.Call (.Name "tuple" p) [.Call (.Attribute o "values" apos) [] [] mpos] [] pos) (tTupVals td) := by
  refine ⟨fun pins s σ H Q I h => ?_⟩
  refine Call_ (ld_blt I hg hm boot_tuple ?_)
  refine PyProof.Rows.callWith_type1 (PyProof.Rows.args_cons (wpAny_Call_method0_late hbase hline (thn (hd.run pins s σ H _ I h) fun v s1 ⟨x, H1, I1, r1, a, kvs, ex, ha, q⟩ => ?_)) hse) hse rfl
  subst ex
  obtain rfl : v = Value.ref a := r1
  obtain ⟨z, hsys, vs, rel, dof⟩ := dk_of I1.hok ha
  obtain ⟨ep, dat⟩ := dof.dictAt
  obtain ⟨ob, es, ho, ex, _⟩ := id dat
  refine ⟨"dict", "dict.values", F.plainAttrs_dict, F.slot_dict_values, F.type_dict_values, ⟨ob, ho, ex.1⟩, fun b e => by cases e; exact ⟨ob, ho, ex.2.1⟩, Calls.callWith_builtin rfl (PySem.evalArgs_none ?_)⟩
  refine call_meetsIn F.slot_dict_values ⟨ob, ho, ex.1⟩ F.entry_dict_values (F.args_dict_values_1 _) (meets_dict_values (mixKind X.prog X.w) a hsys) ⟨⟨vs, dof⟩, ?_⟩
  refine PyProof.Rows.args_nil ?_
  have lv : kvs.length = vs.length := KV.length rel
  refine call_tuple_src (PySem.W.kdl_values (knd := mixKind X.prog X.w) (kvs := vs) (ep := ep) (r := s1.heap.objs.size) (d := a)) (I.ok.hd hc) ⟨⟨_, Heap.get?_push_size _ rfl, rfl, rfl⟩, dat.keep fun b u e => Heap.get?_push_of_some _ e⟩ (by rw [← lv]; exact z) (by decide) (by decide) fun g tk acc k it => ?_
  have keep : ∀ b u, s1.heap.get? b = some u → (g.push { cls := .type "tuple", data := .seq acc }).get? b = some u := fun b u e => Heap.get?_push_of_some _ (k b u (Heap.get?_push_of_some _ e))
  have low : s1.heap.objs.size ≤ g.objs.size := by
    have := k s1.heap.objs.size _ (Heap.get?_push_size _ rfl)
    exact Nat.le_of_lt (Heap.lt_size this)
  have rv : Vals (kvs.map (·.2)) acc.toList := vals_of_at ((List.length_map _).trans (lv.trans (it.1.symm.trans Array.length_toList.symm))) fun j x u h1 h2 => by
    obtain ⟨kk, hk⟩ := it.2 j u (by rw [← Array.getElem?_toList]; exact h2)
    obtain ⟨x', h3, h4⟩ := KV.at' rel hk
    rw [List.getElem?_map, h3] at h1
    cases h1
    exact h4
  refine ⟨.ref _, upd H1 g.objs.size (.tup (kvs.map (·.2))), I1.laid (t' := tk) keep low ?_, rfl, q _ (I1.hok.fresh low)⟩
  exact ⟨by rw [List.length_map]; exact z, acc.toList, rv, ⟨_, Heap.get?_push_size _ rfl, rfl, 0, by rw [Array.toArray_toList]⟩⟩
end
end Ph

namespace Ph
open PySem PySem.Spec PyProof.Rows L2
/-! ### comprehensions whose steps leave the heap as it is -/
section
variable {K : PySem.W.Frag} {a : Addr} {xs : List V} {g : TG} {tt : TT} {te : TE} {vs : List Nat} {σ : L2.St} {H1 : Hp} {D : Addr} {Qd : Hp → Prop}
abbrev Stp (g : TG) (tt : TT) (te : TE) (vs : List Nat) (σ : L2.St) (H1 : Hp) (f : V → Option V) (x : V) : Prop :=
  ∀ H, (∀ b o, H1 b = some o → H b = some o) → ∀ (Y : V → Hp → Prop) (N : Hp → Prop), (∀ y, f x = some y → Y y H) → (f x = none → N H) →
    g x (wipe σ vs) H fun σ2 H2 => wipe σ2 vs = wipe σ vs ∧ tt σ2 H2 fun b H3 => if b = true then te σ2 H3 Y else N H3
theorem take_filterMap {α β : Type} (f : α → Option β) {l : List α} {i : Nat} {x : α} (h : l[i]? = some x) : (l.take (i + 1)).filterMap f = (l.take i).filterMap f ++ (f x).toList := by
  rw [List.take_add_one, h, List.filterMap_append]
  congr 1
theorem fm_len {α β : Type} (f : α → Option β) (l : List α) (i : Nat) : ((l.take i).filterMap f).length ≤ l.length := by
  refine Nat.le_trans (List.length_filterMap_le _ _) ?_
  rw [List.length_take]
  omega
theorem lc_tupF (f : V → Option V) (ht : SqT K H1 a xs) (nD : H1 D = none) (hlen : xs.length < sizeLine) (hs : ∀ x ∈ xs, Stp g tt te vs σ H1 f x) (hd : ∀ H, (∀ b o, H1 b = some o → H b = some o) → H D = some (.lst (xs.filterMap f)) → Qd H) :
    ∃ W : Nat → Nat → Hp → Prop, (∃ m, W 0 m (upd H1 D (.lst []))) ∧ ∀ i m H, W i m H →
      ((Itt K a).stop i H ∧ Qd H) ∨ ((Itt K a).go i H ∧ ∃ Nx : Hp → Prop, (∀ H', Nx H' → ∃ m', m' < m ∧ W (i + 1) m' H') ∧ ∀ x H', (Itt K a).yld i H x H' → g x (wipe σ vs) H' fun σ2 H2 => wipe σ2 vs = wipe σ vs ∧ tt σ2 H2 fun b H3 =>
        if b = true then te σ2 H3 fun y H4 => ∃ acc, H4 D = some (.lst acc) ∧ acc.length < sizeLine ∧ Nx (upd H4 D (.lst (acc ++ [y]))) else Nx H3) := by
  refine lc_tup (K := K) (a := a) (xs := xs) (fun i H => (∀ b o, H1 b = some o → H b = some o) ∧ H D = some (.lst ((xs.take i).filterMap f))) ⟨fun b o e => ?_, ?_⟩ (fun i H _ p => ?_) (fun i x H hx p => ?_) (fun H p => ?_)
  · rw [upd_ne (ne_of_none e nD)]; exact e
  · rw [upd_same]; rfl
  · rcases ht with (h | ⟨o, h⟩) | h
    · exact .inl (.inl (p.1 _ _ h))
    · exact .inl (.inr ⟨o, p.1 _ _ h⟩)
    · exact .inr h
  · refine hs x (List.mem_of_getElem? hx) H p.1 _ _ (fun y ey => ⟨_, p.2, Nat.lt_of_le_of_lt (fm_len f xs i) hlen, fun b o e => ?_, ?_⟩) fun en => ⟨p.1, ?_⟩
    · rw [upd_ne (ne_of_none e nD)]; exact p.1 _ _ e
    · rw [upd_same, take_filterMap f hx, ey]; rfl
    · rw [take_filterMap f hx, en]; simpa using p.2
  · refine hd H p.1 ?_
    have := p.2
    rwa [List.take_of_length_le (Nat.le_refl _)] at this
theorem lc_listF (f : V → Option V) (ht : SqL K H1 a xs) (nD : H1 D = none) (hlen : xs.length < sizeLine) (hs : ∀ x ∈ xs, Stp g tt te vs σ H1 f x) (hd : ∀ H, (∀ b o, H1 b = some o → H b = some o) → H D = some (.lst (xs.filterMap f)) → Qd H) :
    ∃ W : Nat → Nat → Hp → Prop, (∃ m, W 0 m (upd H1 D (.lst []))) ∧ ∀ i m H, W i m H →
      ((Itl K a).stop i H ∧ Qd H) ∨ ((Itl K a).go i H ∧ ∃ Nx : Hp → Prop, (∀ H', Nx H' → ∃ m', m' < m ∧ W (i + 1) m' H') ∧ ∀ x H', (Itl K a).yld i H x H' → g x (wipe σ vs) H' fun σ2 H2 => wipe σ2 vs = wipe σ vs ∧ tt σ2 H2 fun b H3 =>
        if b = true then te σ2 H3 fun y H4 => ∃ acc, H4 D = some (.lst acc) ∧ acc.length < sizeLine ∧ Nx (upd H4 D (.lst (acc ++ [y]))) else Nx H3) := by
  refine lc_list (K := K) (a := a) (xs := xs) (fun i H => (∀ b o, H1 b = some o → H b = some o) ∧ H D = some (.lst ((xs.take i).filterMap f))) ⟨fun b o e => ?_, ?_⟩ (fun i H _ p => ?_) (fun i x H hx p => ?_) (fun H p => ?_)
  · rw [upd_ne (ne_of_none e nD)]; exact e
  · rw [upd_same]; rfl
  · rcases ht with (h | ⟨o, h⟩) | h
    · exact .inl (.inl (p.1 _ _ h))
    · exact .inl (.inr ⟨o, p.1 _ _ h⟩)
    · exact .inr h
  · refine hs x (List.mem_of_getElem? hx) H p.1 _ _ (fun y ey => ⟨_, p.2, Nat.lt_of_le_of_lt (fm_len f xs i) hlen, fun b o e => ?_, ?_⟩) fun en => ⟨p.1, ?_⟩
    · rw [upd_ne (ne_of_none e nD)]; exact p.1 _ _ e
    · rw [upd_same, take_filterMap f hx, ey]; rfl
    · rw [take_filterMap f hx, en]; simpa using p.2
  · refine hd H p.1 ?_
    have := p.2
    rwa [List.take_of_length_le (Nat.le_refl _)] at this
/-- over the keys of a dict that stands still -/
theorem lc_keysF {d : Addr} {od : Obj} {kvs : List (Key × V)} (f : V → Option V) (ht : H1 d = some (.frz od (.dK kvs))) (nD : H1 D = none) (hlen : kvs.length < sizeLine) (hs : ∀ x ∈ kvs.map (fun kv => kV kv.1), Stp g tt te vs σ H1 f x) (hd : ∀ H, (∀ b o, H1 b = some o → H b = some o) → H D = some (.lst ((kvs.map fun kv => kV kv.1).filterMap f)) → Qd H) :
    ∃ W : Nat → Nat → Hp → Prop, (∃ m, W 0 m (upd H1 D (.lst []))) ∧ ∀ i m H, W i m H →
      ((Itk d od kvs).stop i H ∧ Qd H) ∨ ((Itk d od kvs).go i H ∧ ∃ Nx : Hp → Prop, (∀ H', Nx H' → ∃ m', m' < m ∧ W (i + 1) m' H') ∧ ∀ x H', (Itk d od kvs).yld i H x H' → g x (wipe σ vs) H' fun σ2 H2 => wipe σ2 vs = wipe σ vs ∧ tt σ2 H2 fun b H3 =>
        if b = true then te σ2 H3 fun y H4 => ∃ acc, H4 D = some (.lst acc) ∧ acc.length < sizeLine ∧ Nx (upd H4 D (.lst (acc ++ [y]))) else Nx H3) := by
  refine lc_it walk_keys (fun i H => (∀ b o, H1 b = some o → H b = some o) ∧ H D = some (.lst (((kvs.map fun kv => kV kv.1).take i).filterMap f))) ⟨fun b o e => ?_, ?_⟩ (fun i H _ p => p.1 _ _ ht) (fun i x H H' hi p y => ?_) (fun H p => ?_)
  · rw [upd_ne (ne_of_none e nD)]; exact e
  · rw [upd_same]; rfl
  · obtain ⟨rfl, k, v, hk, rfl⟩ := y
    have hx : (kvs.map fun kv => kV kv.1)[i]? = some (kV k) := by rw [List.getElem?_map, hk]; rfl
    refine hs _ (List.mem_of_getElem? hx) _ p.1 _ _ (fun y ey => ⟨_, p.2, Nat.lt_of_le_of_lt (fm_len f _ i) (by rw [List.length_map]; exact hlen), fun b o e => ?_, ?_⟩) fun en => ⟨p.1, ?_⟩
    · rw [upd_ne (ne_of_none e nD)]; exact p.1 _ _ e
    · rw [upd_same, take_filterMap f hx, ey]; rfl
    · rw [take_filterMap f hx, en]; simpa using p.2
  · refine hd H p.1 ?_
    have := p.2
    rwa [List.take_of_length_le (by rw [List.length_map]; exact Nat.le_refl _)] at this
end
end Ph

namespace Ph
open PySem PySem.Spec PyProof.Rows L2
abbrev sIsInt : Stmt := topS 4
abbrev sIsSize : Stmt := topS 7
abbrev sClass : Stmt := topS 8
abbrev sLive : Stmt := topS 12
abbrev sKeep : Stmt := topS 18
abbrev scLiveS : Stmt := sLive
abbrev scLiveN : List Str := ["state", "address", "size"]
theorem scIsInt : FnScope ["value"] ["value"] (defScope sIsInt) := ⟨rfl, rfl, rfl, by decide +kernel, rfl, by decide +kernel, by decide +kernel⟩
theorem scIsSize : FnScope ["chain", "value"] ["chain", "value"] (defScope sIsSize) := ⟨rfl, rfl, rfl, by decide +kernel, rfl, by decide +kernel, by decide +kernel⟩
theorem scClass : FnScope ["chain", "size"] ["chain", "size"] (defScope sClass) := ⟨rfl, rfl, rfl, by decide +kernel, rfl, by decide +kernel, by decide +kernel⟩
theorem scLive : FnScope ["state", "address", "size"] ["state"] (defScope sLive) := ⟨rfl, rfl, rfl, by decide +kernel, rfl, by decide +kernel, by decide +kernel⟩
theorem scKeep : FnScope ["chain", "state", "size", "kept", "block", "chunk"] ["chain", "state", "size"] (defScope sKeep) := ⟨rfl, rfl, rfl, by decide +kernel, rfl, by decide +kernel, by decide +kernel⟩
/-! ### values of any kind -/
inductive Ty (H : Hp) : V → String → Prop
  | non : Ty H .non "NoneType"
  | bl (b : Bool) : Ty H (.bl b) "bool"
  | int (i : Int) : Ty H (.int i) "int"
  | str (z : Str) : Ty H (.str z) "str"
  | tup {a : Addr} {xs : List V} (e : H a = some (.tup xs)) : Ty H (.ref a) "tuple"
  | lst {a : Addr} {xs : List V} (e : H a = some (.lst xs)) : Ty H (.ref a) "list"
  | dK {a : Addr} {kvs : List (Key × V)} (e : H a = some (.dK kvs)) : Ty H (.ref a) "dict"
theorem Ty.x {K : PySem.W.Frag} {H : Hp} {x : V} {T : String} (t : Ty H x T) : TyX K H x (.type T) := by
  cases t with
  | non => exact .base .non
  | bl b => exact .base (.bl b)
  | int i => exact .base (.int i)
  | str z => exact .base (.str z)
  | tup e => exact .base (.tup e)
  | lst e => exact .base (.lst e)
  | dK e => exact .base (.dK e)
theorem Ty.same {H H' : Hp} {x : V} {T : String} (t : Ty H x T) (s : Same H H') : Ty H' x T := by
  cases t with
  | non => exact .non
  | bl b => exact .bl b
  | int i => exact .int i
  | str z => exact .str z
  | tup e => exact .tup (s _ _ e)
  | lst e => exact .lst (s _ _ e)
  | dK e => exact .dK (s _ _ e)
def isI : V → Bool
  | .int _ => true
  | _ => false
theorem Ty.kInt {H : Hp} {x : V} {T : String} (t : Ty H x T) : kitB T "int" = some (T == "int" || T == "bool") := by cases t <;> decide +kernel
theorem Ty.kBool {H : Hp} {x : V} {T : String} (t : Ty H x T) : kitB T "bool" = some (T == "bool") := by cases t <;> decide +kernel
theorem Ty.kTup {H : Hp} {x : V} {T : String} (t : Ty H x T) : kitB T "tuple" = some (T == "tuple") := by cases t <;> decide +kernel
theorem Ty.isI {H : Hp} {x : V} {T : String} (t : Ty H x T) : isI x = ((T == "int" || T == "bool") && !(T == "bool")) := by cases t <;> simp [Ph.isI]
theorem in_ints (i : Int) : ∀ C : List Int, inV (.int i) (C.map V.int) = decide (i ∈ C)
  | [] => by simp [inV]
  | c :: r => by
    have ih := in_ints i r
    unfold inV at ih ⊢
    rw [List.map_cons, List.any_cons, ih]
    show ((c == i) || decide (i ∈ r)) = decide (i ∈ c :: r)
    by_cases h : c = i
    · subst h; simp
    · have h' : ¬ i = c := fun z => h z.symm
      simp [h, h']

theorem BL.get {H : Hp} : ∀ {xs : List V} {bs : List (Int × Int)} {i : Nat} {x : V}, BL H xs bs → xs[i]? = some x → ∃ b, bs[i]? = some b ∧ BkAt H x b
  | _, _, _, _, .nil, h => by simp at h
  | _, _, 0, _, .cons hb r, h => by
    have e := Option.some.inj h
    rw [← e]
    exact ⟨_, rfl, hb⟩
  | _ :: l1, _ :: l2, i + 1, x, .cons hb r, h => by
    have h' : l1[i]? = some x := h
    obtain ⟨b, e1, e2⟩ := BL.get (H := H) (xs := l1) (bs := l2) r h'
    exact ⟨b, e1, e2⟩
theorem first_at {s : Int} : ∀ {C : List Int}, s ∈ C → ∃ j : Nat, C[j]? = some s ∧ ∀ m, m < j → C[m]? ≠ some s
  | c :: r, h => by
    by_cases e : c = s
    · exact ⟨0, by simp [e], fun m hm => absurd hm (Nat.not_lt_zero _)⟩
    · rcases List.mem_cons.mp h with z | z
      · exact absurd z.symm e
      · obtain ⟨j, h1, h2⟩ := first_at z
        refine ⟨j + 1, by simpa using h1, fun m hm => ?_⟩
        cases m with
        | zero => simpa using e
        | succ m => simpa using h2 m (by omega)
/-! ### the dict of the kept blocks -/
def ent (s : Int) (E : List Bk) (ys : List V) : List (Key × V) := List.zipWith (fun b y => (Sum.inl (b.1 / s), y)) E ys
theorem ent_snoc (s : Int) (E : List Bk) (ys : List V) (b : Bk) (y : V) (h : E.length = ys.length) : ent s (E ++ [b]) (ys ++ [y]) = ent s E ys ++ [(Sum.inl (b.1 / s), y)] := by
  unfold ent
  rw [List.zipWith_append h]
  rfl
theorem ent_snd (s : Int) : ∀ (E : List Bk) (ys : List V), E.length = ys.length → (ent s E ys).map (·.2) = ys
  | [], [], _ => rfl
  | _ :: E, y :: ys, h => by
    show y :: (ent s E ys).map (·.2) = y :: ys
    rw [ent_snd s E ys (by simpa using h)]
  | [], _ :: _, h => by simp at h
  | _ :: _, [], h => by simp at h
theorem ent_none (s q : Int) : ∀ (E : List Bk) (ys : List V), (∀ b ∈ E, b.1 / s ≠ q) → valV (ent s E ys) (Sum.inl q) = none
  | [], ys, _ => by cases ys <;> rfl
  | _ :: _, [], _ => rfl
  | b :: E, y :: ys, h => by
    have e : ent s (b :: E) (y :: ys) = (Sum.inl (b.1 / s), y) :: ent s E ys := rfl
    rw [e, valV_neg (fun z => h b (List.mem_cons_self ..) (Sum.inl.inj z))]
    exact ent_none s q E ys fun c hc => h c (List.mem_cons_of_mem _ hc)
theorem ent_len (s : Int) (E : List Bk) (ys : List V) : (ent s E ys).length ≤ E.length := by
  unfold ent
  rw [List.length_zipWith]
  omega
theorem put_snoc {kvs : List (Key × V)} {k : Key} {y v : V} (h : valV kvs k = none) : putK (kvs ++ [(k, y)]) k v = kvs ++ [(k, v)] := by
  have h1 : (kvs.any fun kv => decide (kv.1 = k)) = false := by
    rw [valV_any, h]
    rfl
  unfold putK
  rw [if_pos (by rw [List.any_append, h1]; simp), List.map_append]
  congr 1
  · have h2 := List.any_eq_false.mp h1
    conv => rhs; rw [← List.map_id kvs]
    refine List.map_congr_left fun kv hkv => ?_
    have h3 := h2 kv hkv
    rw [if_neg (by simpa using h3)]
    rfl
  · simp
theorem kp_noc {s : Int} (hs : 0 < s) {l : List Bk} {b m : Bk} (h : Asc (l ++ [b])) (hg : (kp s l).getLast? = some m) (hq : m.1 / s ≠ b.1 / s) : ∀ c ∈ kp s l, c.1 / s ≠ b.1 / s := by
  obtain ⟨E0, eE⟩ := List.getLast?_eq_some_iff.mp hg
  have hl : Asc l := (List.pairwise_append.mp h).1
  have ascE : Asc (E0 ++ [m]) := eE ▸ hl.kp
  have hm : m ∈ l := (mem_kp.mp (by rw [eE]; exact List.mem_append_right _ (List.mem_singleton.mpr rfl) : m ∈ kp s l)).1
  have hmb := (List.pairwise_append.mp h).2.2 m hm b (List.mem_singleton.mpr rfl)
  have h2 : m.1 / s ≤ b.1 / s := Int.ediv_le_ediv hs (Int.le_of_lt hmb)
  intro c hc
  rw [eE] at hc
  rcases List.mem_append.mp hc with e | e
  · have h1 : c.1 / s ≤ m.1 / s := Int.ediv_le_ediv hs (Int.le_of_lt ((List.pairwise_append.mp ascE).2.2 c e m (List.mem_singleton.mpr rfl)))
    omega
  · rw [List.mem_singleton.mp e]
    exact hq
theorem kp_last {s : Int} {l E0 : List Bk} {m : Bk} (h : Asc l) (eE : kp s l = E0 ++ [m]) : ∀ c ∈ E0, c.1 / s ≠ m.1 / s := fun c hc z => by
  have ascE : Asc (E0 ++ [m]) := eE ▸ h.kp
  have h1 := (List.pairwise_append.mp ascE).2.2 c hc m (List.mem_singleton.mpr rfl)
  have e := kp_uniq (s := s) (bs := l) (b := c) (c := m) (by rw [eE]; exact List.mem_append_left _ hc) (by rw [eE]; exact List.mem_append_right _ (List.mem_singleton.mpr rfl)) z
  rw [e] at h1
  omega
theorem BL.snoc_inv {H : Hp} : ∀ {E0 : List Bk} {m : Bk} {ys : List V}, BL H ys (E0 ++ [m]) → ∃ ys0 y, ys = ys0 ++ [y] ∧ BL H ys0 E0 ∧ BkAt H y m
  | [], _, _, .cons h .nil => ⟨[], _, rfl, .nil, h⟩
  | _ :: _, _, _, .cons h r => by
    obtain ⟨ys0, y, e, b, k⟩ := BL.snoc_inv r
    exact ⟨_ :: ys0, y, by rw [e]; rfl, .cons h b, k⟩
section
variable {P : Program} {w : World} {K : PySem.W.Frag} {mg : Str → Option Value} {base : Heap}
def spI : Sp := fun vs H Q _ => ∃ (x : V) (T : String), vs = [x] ∧ Ty H x T ∧ Q (.bl (isI x)) H
theorem ok_isint {f : Addr} {fd : FuncData} {k : Nat} (F : Fun K "is_integer" "is_integer" sIsInt f fd) (N : Nm5 K mg) : FnOk P w K mg base CX0 (k + 1) f fd ["value"] spI := by
  refine F.ok scIsInt (fun vs H Q E h => ?_) (fun cdv A outer s H vs Q E hr h => ?_)
  · obtain ⟨x, T, rfl, _⟩ := h
    rfl
  · obtain ⟨x, T, rfl, t, q⟩ := h
    refine ⟨_, pss_one (ps_ret (pe_and (pe_callB call_isi (by rfl) N.isinstance (by decide +kernel) (pa_cons (pv 0) (pa_cons (pe_bltn (v := .ty "int") (by rfl) N.int (by decide +kernel) rfl) pa_nil)))
      (pe_one (pe_not (pe_callB call_isi (by rfl) N.isinstance (by decide +kernel) (pa_cons (pv 0) (pa_cons (pe_bltn (v := .ty "bool") (by rfl) N.bool (by decide +kernel) rfl) pa_nil))))))), ?_⟩
    refine ⟨x, rfl, x, .ty "int", .type T, .type "int", _, rfl, .ty _, t.x, kit_ty t.kInt, _, rfl, ite2 (fun c => ?_) (fun c => ?_)⟩
    · refine ⟨x, rfl, x, .ty "bool", .type T, .type "bool", _, rfl, .ty _, t.x, kit_ty t.kBool, _, rfl, ?_⟩
      rw [t.isI, c] at q
      exact q
    · have c' : (T == "int" || T == "bool") = false := by
        cases e : (T == "int" || T == "bool") with
        | true => exact absurd e c
        | false => rfl
      rw [t.isI, c'] at q
      exact q
def sizeB (C : List Int) : V → Bool
  | .int i => decide (i ∈ C)
  | _ => false
def spSize (K : PySem.W.Frag) : Sp := fun vs H Q _ => ∃ (c : Addr) (C : List Int) (x : V) (T : String), vs = [.ref c, x] ∧ SqT K H c (C.map V.int) ∧ Ty H x T ∧ Q (.bl (sizeB C x)) H
theorem ok_issize {f fI : Addr} {fd fdI : FuncData} {k : Nat} (F : Fun K "is_size" "is_size" sIsSize f fd) (N : Nm5 K mg) (FI : Fun K "is_integer" "is_integer" sIsInt fI fdI) (bI : Binds K fdI ["value"] []) (gI : mg "is_integer" = some (.ref fI)) : FnOk P w K mg base CX0 (k + 1 + 1) f fd ["chain", "value"] (spSize K) := by
  have GI : FnOk P w K mg base CX0 (k + 1) fI fdI ["value"] spI := ok_isint FI N
  refine F.ok scIsSize (fun vs H Q E h => ?_) (fun cdv A outer s H vs Q E hr h => ?_)
  · obtain ⟨c, C, x, T, rfl, _⟩ := h
    rfl
  · obtain ⟨c, C, x, T, rfl, hc, t, q⟩ := h
    refine ⟨_, pss_one (ps_ret (pe_and (pe_call GI hr (by rfl) gI FI.kp bI .nil pass0 (pa_cons (pv 1) pa_nil)) (pe_one (pe_cmpR op_in_seq (pv 1) (pv 0) (by rfl))))), ?_⟩
    refine ⟨x, rfl, x, T, rfl, t, _, rfl, ?_⟩
    cases x with
    | int i =>
      refine iteT ⟨.int i, rfl, .ref c, rfl, c, _, rfl, .inr hc, rfl, flat_ints C, ?_⟩
      have e : (if false = true then !inV (.int i) (C.map V.int) else inV (.int i) (C.map V.int)) = sizeB C (.int i) := by
        rw [if_neg Bool.false_ne_true, in_ints]
        rfl
      rw [← e] at q
      exact q
    | _ => exact iteF q

def spClass : Sp := fun vs H Q _ => ∃ (c : Addr) (C : List Int) (s : Int), vs = [.ref c, .int s] ∧ ChAt H c C ∧ s ∈ C ∧ ∀ v, Q v H
theorem ok_class {f fI fZ : Addr} {fd fdI fdZ : FuncData} {k : Nat} (F : Fun K "class_of" "class_of" sClass f fd) (N : Nm5 K mg) (FI : Fun K "is_integer" "is_integer" sIsInt fI fdI) (bI : Binds K fdI ["value"] []) (gI : mg "is_integer" = some (.ref fI))
    (FZ : Fun K "is_size" "is_size" sIsSize fZ fdZ) (bZ : Binds K fdZ ["chain", "value"] []) (gZ : mg "is_size" = some (.ref fZ)) : FnOk P w K mg base CX0 (k + 1 + 1 + 1) f fd ["chain", "size"] spClass := by
  have GZ : FnOk P w K mg base CX0 (k + 1 + 1) fZ fdZ ["chain", "value"] (spSize K) := ok_issize FZ N FI bI gI
  refine F.ok scClass (fun vs H Q E h => ?_) (fun cdv A outer s H vs Q E hr h => ?_)
  · obtain ⟨c, C, s, rfl, _⟩ := h
    rfl
  · obtain ⟨c, C, sz, rfl, hc, hs, q⟩ := h
    refine ⟨_, pss_cons (ps_if (pt_not (pt_val (pe_call GZ hr (by rfl) gZ FZ.kp bZ .nil pass0 (pa_cons (pv 0) (pa_cons (pv 1) pa_nil))))) (pss_one ps_never) pss_nil)
      (pss_one (ps_ret (pe_bmT PySem.F.slot_tuple_index PySem.F.type_tuple_index mt_tindexI (pv 0) (pa_cons (pv 1) pa_nil)))), ?_⟩
    refine ⟨.ref c, rfl, .int sz, rfl, c, C, .int sz, "int", rfl, hc.sq, .int sz, _, rfl, ?_⟩
    have e : sizeB C (.int sz) = true := decide_eq_true hs
    rw [e]
    obtain ⟨j, h1, h2⟩ := first_at hs
    exact iteF ⟨.ref c, rfl, ⟨c, C, rfl, hc⟩, .int sz, rfl, c, C, sz, j, rfl, rfl, hc.sq, h1, h2, q _⟩
def spLive : Sp := fun vs H Q _ => ∃ (t : Addr) (bs : List Bk), vs = [.ref t] ∧ StAt H t bs ∧ bs.length ≤ 5000 ∧ ∀ H', Same H H' → Q (.int (bs.map (·.2)).sum) H'
theorem ok_live {f : Addr} {fd : FuncData} {k : Nat} (F : Fun K "live_words" "live_words" sLive f fd) (N : Nm5 K mg) : FnOk P w K mg base CX0 (k + 1) f fd ["state"] spLive := by
  refine F.ok scLive (fun vs H Q E h => ?_) (fun cdv A outer s H vs Q E hr h => ?_)
  · obtain ⟨t, bs, rfl, _⟩ := h
    rfl
  · obtain ⟨t, bs, rfl, ⟨xs, ht, bl⟩, hl, q⟩ := h
    refine ⟨_, (pss_one (ps_ret (pe_callB (cr_sum rfl) (by rfl) N.sum (by decide +kernel) (pa_cons (pe_lc (own := [("address", 1), ("size", 2)]) (g := (gTup K 2 (gCons (gName 1) (gCons (gName 2) gNil)))) (tt := tYes) (by rfl) scLive.nd (pi_tup (pv 0)) (blkOk_by (N := scLiveN) (sc := defScope scLiveS) (by decide +kernel)) (fun _ _ _ _ _ => (pg_tup (by rfl) (pgs_cons (pg_name (i := 1) scLive.nd rfl (.inl rfl)) (pgs_cons (pg_name (i := 2) scLive.nd rfl (.inl rfl)) pgs_nil)))) (fun _ _ _ _ _ => pts_nil) (fun _ _ _ _ _ => (pv 2))) pa_nil)))), ?_⟩
    refine ⟨.ref t, rfl, t, rfl, ⟨_, .inl (.inl ht)⟩, fun D nD => ?_⟩
    refine lc_tupF (xs := xs) (fun x => some (.int (kH H x).2)) (.inl (.inl ht)) nD (by rw [bl.len]; exact Nat.lt_of_le_of_lt hl (by decide)) (fun x hx H2 sm Y N hY hN => ?_) (fun H2 sm hD => ?_)
    · obtain ⟨b, hb⟩ := bl.all x hx
      have e := hb.k
      obtain ⟨u, rfl, hu⟩ := hb
      refine ⟨u, _, rfl, .inl (.inl (sm _ _ hu)), rfl, _, _, rfl, _, _, rfl, rfl, rfl, .int b.2, rfl, ?_⟩
      exact hY _ (by show some (V.int (kH H (V.ref u)).2) = _; rw [e])
    · have e : xs.filterMap (fun x => some (V.int (kH H x).2)) = (bs.map (·.2)).map V.int := by
        rw [← bl.map, List.map_map, List.map_map]
        exact congrFun List.filterMap_eq_map' xs
      rw [e] at hD
      exact ⟨D, _, rfl, .inl (.inl hD), q _ sm⟩
def spKeep : Sp := fun vs H Q _ => ∃ (c t : Addr) (C : List Int) (s : Int) (bs : List Bk), vs = [.ref c, .ref t, .int s] ∧ ChAt H c C ∧ s ∈ C ∧ 0 < s ∧ s ≤ 2000 ∧ StAt H t bs ∧ Asc bs ∧ bs.length ≤ 5000 ∧ ∀ H' u, Same H H' → StAt H' u (kp s bs) → Q (.ref u) H'
theorem ok_keep {f fI fZ fC : Addr} {fd fdI fdZ fdC : FuncData} {k : Nat} (F : Fun K "keepers" "keepers" sKeep f fd) (N : Nm5 K mg) (FI : Fun K "is_integer" "is_integer" sIsInt fI fdI) (bI : Binds K fdI ["value"] []) (gI : mg "is_integer" = some (.ref fI))
    (FZ : Fun K "is_size" "is_size" sIsSize fZ fdZ) (bZ : Binds K fdZ ["chain", "value"] []) (gZ : mg "is_size" = some (.ref fZ)) (FC : Fun K "class_of" "class_of" sClass fC fdC) (bC : Binds K fdC ["chain", "size"] []) (gC : mg "class_of" = some (.ref fC)) :
    FnOk P w K mg base CX0 (k + 1 + 1 + 1 + 1) f fd ["chain", "state", "size"] spKeep := by
  have GC : FnOk P w K mg base CX0 (k + 1 + 1 + 1) fC fdC ["chain", "size"] spClass := ok_class FC N FI bI gI FZ bZ gZ
  refine F.ok scKeep (fun vs H Q E h => ?_) (fun cdv A outer s H vs Q E hr h => ?_)
  · obtain ⟨c, t, C, s, bs, rfl, _⟩ := h
    rfl
  · obtain ⟨c, t, C, sz, bs, rfl, hc, hs, s0, s1, ⟨xs, ht, bl⟩, asc, hl, q⟩ := h
    refine ⟨_, (pss_cons (ps_expr (pe_call GC hr (by rfl) gC FC.kp bC .nil pass0 (pa_cons (pv 0) (pa_cons (pv 2) pa_nil))))
       (pss_cons (ps_set (i := 3) scKeep.nd rfl (.inl rfl) pe_dnewK)
       (pss_cons (ps_for PassesOwn.never rfl (pi_tup (pv 1)) (pg_name (i := 4) scKeep.nd rfl (.inl rfl))
       (pss_cons (ps_set (i := 5) scKeep.nd rfl (.inl rfl) (pe_op op_fdiv (pe_ix ix_tup (pv 4) pe_int (fun _ _ => rfl)) (pv 2)))
       (pss_one (ps_if (PW.pt (pw_or (pt_cmp (pc_dnotin (hu_of hr) (pv 5) (pv 3))) (pw_or1 (pt_cmpR op_lt (pe_ix ix_tup (pv 4) pe_int (fun _ _ => rfl)) (pe_ix ix_tup (pe_dget (hu_of hr) (pv 3) (pv 5) (fun _ _ => rfl)) pe_int (fun _ _ => rfl)) (nomark _)))))
       (pss_one (ps_asg (pv 4) (pg_sub (pv 3) (pv 5) (set_dict (hu_of hr))))) pss_nil))))
       (pss_one (ps_ret (pe_tupVals rfl (by rfl) N.tuple (pv 3))))))), ?_⟩
    refine ⟨.ref c, rfl, .int sz, rfl, c, C, sz, rfl, hc, hs, fun _ => ?_⟩
    refine fun d nd => ?_
    have sd := same_upd (o := .dK []) nd
    refine ⟨.ref t, rfl, t, rfl, ⟨_, .inl (.inl (sd _ _ ht))⟩, ?_⟩
    refine for_tup (K := K) (a := t) (xs := xs) (fun i σ H2 => ∃ y4 y5 ys, σ = [some (.ref c), some (.ref t), some (.int sz), some (.ref d), y4, y5] ∧ Same H H2 ∧ H2 d = some (.dK (ent sz (kp sz (bs.take i)) ys)) ∧ BL H2 ys (kp sz (bs.take i)))
      ⟨none, none, [], rfl, sd, upd_same, .nil⟩ (fun i σ H2 _ p => ?_) ?_ ?_
    · obtain ⟨y4, y5, ys, _, sm, _⟩ := p
      exact .inl (.inl (sm _ _ ht))
    · rintro i x σ H2 hx ⟨y4, y5, ys, rfl, sm, hd, blE⟩
      obtain ⟨b, hb, ⟨u, rfl, hu⟩⟩ := (bl.mono fun t ys e => sm _ _ e).get hx
      have etk : bs.take (i + 1) = bs.take i ++ [b] := by rw [List.take_add_one, hb]; rfl
      have ascT : Asc (bs.take i ++ [b]) := etk ▸ asc.sublist (List.take_sublist ..)
      have stp1 := kp_snoc s0 ascT
      have hlE : ys.length = (kp sz (bs.take i)).length := blE.len
      have lenE : (kp sz (bs.take i)).length ≤ 5000 := Nat.le_trans (kp_sub _ _).length_le (Nat.le_trans (by rw [List.length_take]; omega) hl)
      have fits : (ent sz (kp sz (bs.take i)) ys).length < sizeLine := Nat.lt_of_le_of_lt (Nat.le_trans (ent_len ..) lenE) (by decide)
      have g0 : atI [V.int b.1, V.int b.2] 0 = some (.int b.1) := atI_nat (j := 0) rfl
      have g1 : ∀ z : Bk, atI [V.int z.1, V.int z.2] 1 = some (.int z.2) := fun z => atI_nat (j := 1) rfl
      refine ⟨.ref u, rfl, u, _, 0, _, rfl, rfl, .inl (.inl hu), g0, .int sz, rfl, b.1, sz, rfl, rfl, ⟨s0, by omega⟩, ?_⟩
      -- how the step goes on behind the store, for a new list of entries
      have store : ∀ E' ys', putK (ent sz (kp sz (bs.take i)) ys) (Sum.inl (b.1 / sz)) (V.ref u) = ent sz E' ys' → kp sz (bs.take (i + 1)) = E' → (∀ H3, (∀ v zs, H2 v = some (.tup zs) → H3 v = some (.tup zs)) → BL H3 ys' E') →
          ∃ y4 y5 ys'', [some (V.ref c), some (.ref t), some (.int sz), some (.ref d), some (.ref u), some (.int (b.1 / sz))] = [some (V.ref c), some (.ref t), some (.int sz), some (.ref d), y4, y5] ∧ Same H (upd H2 d (.dK (putK (ent sz (kp sz (bs.take i)) ys) (Sum.inl (b.1 / sz)) (V.ref u)))) ∧ upd H2 d (.dK (putK (ent sz (kp sz (bs.take i)) ys) (Sum.inl (b.1 / sz)) (V.ref u))) d = some (.dK (ent sz (kp sz (bs.take (i + 1))) ys'')) ∧ BL (upd H2 d (.dK (putK (ent sz (kp sz (bs.take i)) ys) (Sum.inl (b.1 / sz)) (V.ref u)))) ys'' (kp sz (bs.take (i + 1))) :=
        fun E' ys' e1 e2 e3 => by
          refine ⟨_, _, ys', rfl, fun a o ha => ?_, ?_, ?_⟩
          · rw [upd_ne (ne_of_none ha nd)]; exact sm _ _ ha
          · rw [upd_same, e1, e2]
          · rw [e2]
            refine e3 _ fun v zs hv => ?_
            rw [upd_ne (ne_of hv hd (by intro z; cases z))]
            exact hv
      have new : (∀ c ∈ kp sz (bs.take i), c.1 / sz ≠ b.1 / sz) → valV (ent sz (kp sz (bs.take i)) ys) (Sum.inl (b.1 / sz)) = none := ent_none _ _ _ _
      have bat : ∀ H3 : Hp, (∀ v zs, H2 v = some (.tup zs) → H3 v = some (.tup zs)) → BkAt H3 (.ref u) b := fun H3 k3 => ⟨u, rfl, k3 _ _ hu⟩
      cases hg : (kp sz (bs.take i)).getLast? with
      | none =>
        have e0 := List.getLast?_eq_none_iff.mp hg
        have hn := new (by rw [e0]; intro c hc; cases hc)
        refine ⟨.int (b.1 / sz), rfl, .ref d, rfl, d, _, rfl, DGet.k (k := Sum.inl (b.1 / sz)) hd, ?_⟩
        rw [hn]
        refine ⟨_, rfl, iteT ?_⟩
        refine ⟨.ref u, rfl, .ref d, rfl, .int (b.1 / sz), rfl, d, _, rfl, DPut.k (k := Sum.inl (b.1 / sz)) hd fits, ?_⟩
        refine store (kp sz (bs.take i) ++ [b]) (ys ++ [.ref u]) ?_ ?_ ?_
        · rw [putK_new _ hn, ent_snoc _ _ _ _ _ hlE.symm]
        · rw [etk, stp1]; unfold stp; rw [hg, e0]; rfl
        · exact fun H3 k3 => (blE.mono k3).snoc (bat H3 k3)
      | some m =>
        by_cases hq : m.1 / sz = b.1 / sz
        · obtain ⟨E0, eE⟩ := List.getLast?_eq_some_iff.mp hg
          have oth := kp_last ((List.pairwise_append.mp ascT).1) eE
          obtain ⟨ys0, y, rfl, bl0, hy⟩ := BL.snoc_inv (eE ▸ blE)
          have l0 : E0.length = ys0.length := bl0.len.symm
          have ee : ent sz (kp sz (bs.take i)) (ys0 ++ [y]) = ent sz E0 ys0 ++ [(Sum.inl (b.1 / sz), y)] := by rw [eE, ent_snoc _ _ _ _ _ l0, hq]
          have hn0 : valV (ent sz E0 ys0) (Sum.inl (b.1 / sz)) = none := ent_none _ _ _ _ fun c hc z => oth c hc (z.trans hq.symm)
          have hv : valV (ent sz (kp sz (bs.take i)) (ys0 ++ [y])) (Sum.inl (b.1 / sz)) = some y := by
            rw [ee, valV_snoc _ _ _ _ hn0, if_pos rfl]
          obtain ⟨v, rfl, hv2⟩ := hy
          refine ⟨.int (b.1 / sz), rfl, .ref d, rfl, d, _, rfl, DGet.k (k := Sum.inl (b.1 / sz)) hd, ?_⟩
          rw [hv]
          refine ⟨_, rfl, iteF ?_⟩
          refine ⟨.ref u, rfl, u, _, 1, _, rfl, rfl, .inl (.inl hu), g1 b, .ref d, rfl, .int (b.1 / sz), rfl, d, .ref v, rfl, ?_, v, _, 1, _, rfl, rfl, .inl (.inl hv2), g1 m, b.2, m.2, rfl, rfl, ?_⟩
          · have := DGet.k (k := Sum.inl (b.1 / sz)) hd
            rwa [hv] at this
          · by_cases hlt : b.2 < m.2
            · refine ⟨decide (b.2 < m.2), rfl, ?_⟩
              rw [decide_eq_true hlt]
              refine iteT ⟨.ref u, rfl, .ref d, rfl, .int (b.1 / sz), rfl, d, _, rfl, DPut.k (k := Sum.inl (b.1 / sz)) hd fits, ?_⟩
              refine store (E0 ++ [b]) (ys0 ++ [.ref u]) ?_ ?_ ?_
              · rw [ee, put_snoc hn0, ent_snoc _ _ _ _ _ l0]
              · rw [etk, stp1]; unfold stp; rw [hg]; dsimp only; rw [if_pos hq, if_pos hlt, eE, List.dropLast_concat]
              · exact fun H3 k3 => (bl0.mono k3).snoc (bat H3 k3)
            · refine ⟨decide (b.2 < m.2), rfl, ?_⟩
              rw [decide_eq_false hlt]
              refine iteF ⟨_, _, ys0 ++ [.ref v], rfl, sm, ?_, ?_⟩
              · rw [hd, etk, stp1]; unfold stp; rw [hg]; dsimp only; rw [if_pos hq, if_neg hlt]
              · rw [etk, stp1]; unfold stp; rw [hg]; dsimp only; rw [if_pos hq, if_neg hlt]; exact blE
        · have hn := new (kp_noc s0 ascT hg hq)
          refine ⟨.int (b.1 / sz), rfl, .ref d, rfl, d, _, rfl, DGet.k (k := Sum.inl (b.1 / sz)) hd, ?_⟩
          rw [hn]
          refine ⟨_, rfl, iteT ?_⟩
          refine ⟨.ref u, rfl, .ref d, rfl, .int (b.1 / sz), rfl, d, _, rfl, DPut.k (k := Sum.inl (b.1 / sz)) hd fits, ?_⟩
          refine store (kp sz (bs.take i) ++ [b]) (ys ++ [.ref u]) ?_ ?_ ?_
          · rw [putK_new _ hn, ent_snoc _ _ _ _ _ hlE.symm]
          · rw [etk, stp1]; unfold stp; rw [hg]; dsimp only; rw [if_neg hq]
          · exact fun H3 k3 => (blE.mono k3).snoc (bat H3 k3)
    · rintro σ H2 ⟨y4, y5, ys, rfl, sm, hd, blE⟩
      rw [List.take_of_length_le (by rw [bl.len]; exact Nat.le_refl _)] at hd blE
      refine ⟨.ref d, rfl, d, _, rfl, hd, fun v nv => ?_⟩
      rw [ent_snd _ _ _ blE.len.symm]
      have sv := same_upd (o := .tup ys) nv
      exact q _ v (sm.trans sv) ⟨ys, upd_same, blE.mono fun a zs e => sv _ _ e⟩
end
end Ph

namespace Ph
open PySem PySem.Spec PyProof.Rows L2
abbrev sIsSt : Stmt := topS 10
abbrev sIsBl : Stmt := topS 11
abbrev scIsStS : Stmt := sIsSt
abbrev scIsStN : List Str := ["chain", "pages", "value", "end", "address", "size", "item"]
theorem scIsSt : FnScope ["chain", "pages", "value", "end", "address", "size", "item"] ["chain", "pages", "value"] (defScope sIsSt) := ⟨rfl, rfl, rfl, by decide +kernel, rfl, by decide +kernel, by decide +kernel⟩
theorem scIsBl : FnScope ["chain", "value", "address", "size"] ["chain", "value"] (defScope sIsBl) := ⟨rfl, rfl, rfl, by decide +kernel, rfl, by decide +kernel, by decide +kernel⟩
/-- things at any depth -/
inductive Deep (H : Hp) : V → Prop
  | base {x : V} {T : String} (t : Ty H x T) (n : T ≠ "tuple") : Deep H x
  | tup {a : Addr} {xs : List V} (e : H a = some (.tup xs)) (h : ∀ y ∈ xs, Deep H y) (hl : xs.length ≤ 5000) : Deep H (.ref a)
theorem Deep.ty {H : Hp} {x : V} (d : Deep H x) : ∃ T, Ty H x T := by
  cases d with
  | base t n => exact ⟨_, t⟩
  | tup e h hl => exact ⟨_, .tup e⟩
theorem Deep.mono {H H' : Hp} (f : ∀ x T, Ty H x T → Ty H' x T) (g : ∀ a xs, H a = some (.tup xs) → H' a = some (.tup xs)) {x : V} (d : Deep H x) : Deep H' x := by
  induction d with
  | base t n => exact .base (f _ _ t) n
  | tup e h hl ih => exact .tup (g _ _ e) ih hl
theorem Deep.len {H : Hp} {a : Addr} {xs : List V} (d : Deep H (.ref a)) (e : H a = some (.tup xs)) : xs.length ≤ 5000 := by
  cases d with
  | base t n =>
    cases t with
    | tup e2 => exact absurd rfl n
    | lst e2 => rw [e] at e2; cases e2
    | dK e2 => rw [e] at e2; cases e2
  | tup e2 h hl =>
    rw [e] at e2
    injection e2 with e2
    injection e2 with e2
    rw [e2]
    exact hl
theorem Deep.same {H H' : Hp} {x : V} (d : Deep H x) (s : Same H H') : Deep H' x := d.mono (fun _ _ t => t.same s) fun _ _ e => s _ _ e
theorem Ty.but {p : Addr} {H H' : Hp} {x : V} {T : String} (t : Ty H x T) (b : But p H H') (P : Pot H p) (P' : Pot H' p) : Ty H' x T := by
  obtain ⟨g, r, e0, _⟩ := P
  obtain ⟨g', r', e1, _⟩ := P'
  cases t with
  | non => exact .non
  | bl b => exact .bl b
  | int i => exact .int i
  | str z => exact .str z
  | @tup a xs e => exact .tup (b _ _ (fun z => by rw [z, e0] at e; cases e) e)
  | @lst a xs e =>
    by_cases z : a = p
    · subst z
      exact .lst e1
    · exact .lst (b _ _ z e)
  | @dK a kvs e => exact .dK (b _ _ (fun z => by rw [z, e0] at e; cases e) e)
theorem Deep.but {p : Addr} {H H' : Hp} {x : V} (d : Deep H x) (b : But p H H') (P : Pot H p) (P' : Pot H' p) : Deep H' x := d.mono (fun _ _ t => t.but b P P') fun _ _ e => b _ _ (P.netup e) e
def TL (H : Hp) (xs : List V) : Prop := ∀ y ∈ xs, Deep H y
theorem TL.same {H H' : Hp} {xs : List V} (t : TL H xs) (s : Same H H') : TL H' xs := fun y hy => (t y hy).same s
theorem TL.but {p : Addr} {H H' : Hp} {xs : List V} (t : TL H xs) (b : But p H H') (P : Pot H p) (P' : Pot H' p) : TL H' xs := fun y hy => (t y hy).but b P P'
theorem TL.ints (H : Hp) (ns : List Int) : TL H (ns.map V.int) := fun y hy => by
  obtain ⟨n, _, e⟩ := List.mem_map.mp hy
  rw [← e]
  exact .base (.int n) (by decide)
theorem TL.append {H : Hp} {xs ys : List V} (a : TL H xs) (b : TL H ys) : TL H (xs ++ ys) := fun y hy => by
  rcases List.mem_append.mp hy with h | h
  · exact a y h
  · exact b y h
theorem TL.cut {H : Hp} {xs : List V} {lo hi : Option Int} (a : TL H xs) : TL H (cutV xs lo hi) := fun y hy => a y (List.mem_of_mem_drop (List.mem_of_mem_take hy))
theorem TL.rev {H : Hp} {xs : List V} (a : TL H xs) : TL H xs.reverse := fun y hy => a y (List.mem_reverse.mp hy)
theorem TL.one {H : Hp} {x : V} (t : Deep H x) : TL H [x] := fun y hy => by
  rw [List.mem_singleton.mp hy]
  exact t
theorem BL.deep {H : Hp} : ∀ {xs : List V} {bs : List (Int × Int)}, BL H xs bs → TL H xs
  | _, _, .nil => fun y hy => by cases hy
  | _, _, .cons ⟨t, e1, e2⟩ r => fun y hy => by
    rcases List.mem_cons.mp hy with h | h
    · rw [h, e1]
      exact .tup e2 (TL.ints H [_, _]) (by simp)
    · exact BL.deep r y h
theorem BL.take {H : Hp} : ∀ {xs : List V} {bs : List (Int × Int)} (i : Nat), BL H xs bs → BL H (xs.take i) (bs.take i)
  | _, _, 0, _ => .nil
  | _, _, _ + 1, .nil => .nil
  | _, _, i + 1, .cons hb r => .cons hb (BL.take i r)
theorem BL.fun {H : Hp} {xs : List V} {bs cs : List (Int × Int)} (h1 : BL H xs bs) (h2 : BL H xs cs) : bs = cs := by rw [← h1.map, ← h2.map]
/-- the walk along the ends -/
def chk : Int → List (Int × Int) → Option Int
  | e, [] => some e
  | e, b :: r => if b.1 < e then none else chk (b.1 + b.2) r
theorem chk_snoc : ∀ (l : List (Int × Int)) (e : Int) (b : Int × Int), chk e (l ++ [b]) = (chk e l).bind fun z => if b.1 < z then none else some (b.1 + b.2)
  | [], e, b => by
    show (if b.1 < e then none else some (b.1 + b.2)) = _
    rfl
  | c :: r, e, b => by
    show (if c.1 < e then none else chk (c.1 + c.2) (r ++ [b])) = (if c.1 < e then none else chk (c.1 + c.2) r).bind _
    by_cases h : c.1 < e
    · rw [if_pos h, if_pos h]; rfl
    · rw [if_neg h, if_neg h, chk_snoc r]
theorem chk_app_none : ∀ (l m : List (Int × Int)) (e : Int), chk e l = none → chk e (l ++ m) = none
  | [], m, e, h => by cases h
  | c :: r, m, e, h => by
    show (if c.1 < e then none else chk (c.1 + c.2) (r ++ m)) = none
    have h' : (if c.1 < e then none else chk (c.1 + c.2) r) = none := h
    by_cases hc : c.1 < e
    · rw [if_pos hc]
    · rw [if_neg hc] at h' ⊢
      exact chk_app_none r m _ h'
theorem chk_asc : ∀ (bs : List (Int × Int)) (e z : Int), (∀ b ∈ bs, 1 ≤ b.2) → chk e bs = some z → bs.Pairwise (fun b c => b.1 + b.2 ≤ c.1) ∧ (∀ b ∈ bs, e ≤ b.1 ∧ b.1 + b.2 ≤ z) ∧ e ≤ z
  | [], e, z, _, h => by
    have := Option.some.inj h
    exact ⟨.nil, by simp, by omega⟩
  | c :: r, e, z, hb, h => by
    have h' : (if c.1 < e then none else chk (c.1 + c.2) r) = some z := h
    by_cases hc : c.1 < e
    · rw [if_pos hc] at h'; cases h'
    · rw [if_neg hc] at h'
      obtain ⟨h1, h2, h3⟩ := chk_asc r _ z (fun b hm => hb b (List.mem_cons_of_mem _ hm)) h'
      have hc2 := hb c (List.mem_cons_self ..)
      refine ⟨List.pairwise_cons.mpr ⟨fun b hm => (h2 b hm).1, h1⟩, fun b hm => ?_, by omega⟩
      rcases List.mem_cons.mp hm with e1 | e1
      · rw [e1]; exact ⟨by omega, h3⟩
      · have := h2 b e1
        exact ⟨by omega, this.2⟩
theorem asc_chk : ∀ (bs : List (Int × Int)) (e W : Int), e ≤ W → (∀ b ∈ bs, 1 ≤ b.2 ∧ e ≤ b.1 ∧ b.1 + b.2 ≤ W) → bs.Pairwise (fun b c => b.1 + b.2 ≤ c.1) → ∃ z, chk e bs = some z ∧ z ≤ W
  | [], e, W, he, _, _ => ⟨e, rfl, he⟩
  | c :: r, e, W, he, hb, hp => by
    have h0 := hb c (List.mem_cons_self ..)
    obtain ⟨h1, h2⟩ := List.pairwise_cons.mp hp
    obtain ⟨z, h3, h4⟩ := asc_chk r (c.1 + c.2) W h0.2.2 (fun b hm => by
      have h5 := hb b (List.mem_cons_of_mem _ hm)
      exact ⟨h5.1, h1 b hm, h5.2.2⟩) h2
    refine ⟨z, ?_, h4⟩
    show (if c.1 < e then none else chk (c.1 + c.2) r) = some z
    rw [if_neg (by omega)]
    exact h3
theorem StAt.deep {H : Hp} {t : Addr} {bs : List (Int × Int)} (h : StAt H t bs) (hl : bs.length ≤ 5000) : Deep H (.ref t) := by
  obtain ⟨xs, e, bl⟩ := h
  exact .tup e bl.deep (by rw [bl.len]; exact hl)
section
variable {P : Program} {w : World} {K : PySem.W.Frag} {mg : Str → Option Value} {base : Heap}
/-- a block wherever it lies -/
def IsBk (C : List Int) (H : Hp) (x : V) : Prop := ∃ b : Int × Int, BkAt H x b ∧ b.2 ∈ C ∧ b.1 % b.2 = 0
def spBlk (K : PySem.W.Frag) : Sp := fun vs H Q _ => ∃ (c : Addr) (C : List Int) (x : V), vs = [.ref c, x] ∧ SqT K H c (C.map V.int) ∧ (∀ z ∈ C, 1 ≤ z) ∧ Deep H x ∧ ∀ b, (b = true ↔ IsBk C H x) → Q (.bl b) H
theorem ok_isbl {f fI fZ : Addr} {fd fdI fdZ : FuncData} {k : Nat} (F : Fun K "is_block" "is_block" sIsBl f fd) (N : Nm5 K mg) (FI : Fun K "is_integer" "is_integer" sIsInt fI fdI) (bI : Binds K fdI ["value"] []) (gI : mg "is_integer" = some (.ref fI))
    (FZ : Fun K "is_size" "is_size" sIsSize fZ fdZ) (bZ : Binds K fdZ ["chain", "value"] []) (gZ : mg "is_size" = some (.ref fZ)) : FnOk P w K mg base CX0 (k + 1 + 1 + 1) f fd ["chain", "value"] (spBlk K) := by
  have GI : FnOk P w K mg base CX0 (k + 1) fI fdI ["value"] spI := ok_isint FI N
  have GZ : FnOk P w K mg base CX0 (k + 1 + 1) fZ fdZ ["chain", "value"] (spSize K) := ok_issize FZ N FI bI gI
  refine F.ok scIsBl (fun vs H Q E h => ?_) (fun cdv A outer s H vs Q E hr h => ?_)
  · obtain ⟨c, C, x, rfl, _⟩ := h
    rfl
  · obtain ⟨c, C, x, rfl, hc, hC, d, q⟩ := h
    have hr1 : Room (k + 1) (A.deeper (envOfC "is_block" (defScope sIsBl) s.heap.objs.size f cdv)) := hr.mono (by omega)
    refine ⟨_, (pss_cons (ps_if (PW.pt (pw_or (pt_not (pt_val (pe_callB call_isi (by rfl) N.isinstance (by decide +kernel) (pa_cons (pv 1) (pa_cons (pe_bltn (v := .ty "tuple") (by rfl) N.tuple (by decide +kernel) rfl) pa_nil))))) (pw_or1 (pt_cmpR op_ne (pe_callB call_len_seq (by rfl) N.len (by decide +kernel) (pa_cons (pv 1) pa_nil)) pe_int (nomark _)))))
       (pss_one (ps_ret pe_bl)) pss_nil)
       (pss_cons (ps_asg (pv 1) (pg_tup (by rfl) (pgs_cons (pg_name (i := 2) scIsBl.nd rfl (.inl rfl)) (pgs_cons (pg_name (i := 3) scIsBl.nd rfl (.inl rfl)) pgs_nil))))
       (pss_one (ps_ret (pe_and (pe_call GI hr1 (by rfl) gI FI.kp bI .nil pass0 (pa_cons (pv 2) pa_nil)) (pe_and (pe_call GZ hr (by rfl) gZ FZ.kp bZ .nil pass0 (pa_cons (pv 0) (pa_cons (pv 3) pa_nil))) (pe_one (pe_cmpR op_eq (pe_op op_mod (pv 2) (pv 3)) pe_int (nomark _))))))))), ?_⟩
    have no : (IsBk C H x → False) → Q (.bl false) H := fun h => q false ⟨fun z => (Bool.false_ne_true z).elim, fun z => (h z).elim⟩
    cases d with
    | @base x T t n =>
      have eT : (T == "tuple") = false := beq_eq_false_iff_ne.mpr n
      refine ⟨x, rfl, x, .ty "tuple", .type T, .type "tuple", _, rfl, .ty _, t.x, kit_ty t.kTup, _, rfl, ?_⟩
      rw [eT]
      refine iteT (no fun ⟨b, ⟨u, e1, e2⟩, _⟩ => ?_)
      subst e1
      cases t with
      | tup e => exact n rfl
      | lst e => rw [e2] at e; cases e
      | dK e => rw [e2] at e; cases e
    | @tup a xs e h _ =>
      have t : Ty H (.ref a) "tuple" := .tup e
      refine ⟨.ref a, rfl, .ref a, .ty "tuple", .type "tuple", .type "tuple", _, rfl, .ty _, t.x, kit_ty t.kTup, _, rfl, iteF ?_⟩
      refine ⟨.ref a, rfl, a, xs, rfl, .inr (.inl (.inl e)), rfl, _, rfl, ?_⟩
      have bk : ∀ b, BkAt H (.ref a) b → xs = [.int b.1, .int b.2] := fun b ⟨u, e1, e2⟩ => by
        cases e1
        rw [e] at e2
        injection e2 with e2
        injection e2 with e2
      by_cases hl : xs.length = 2
      · have hv : V.int ((xs.length : Nat) : Int) = V.int 2 := by rw [hl]; rfl
        refine iteNS hv ?_
        obtain ⟨y, z, rfl⟩ : ∃ y z, xs = [y, z] := by
          match xs, hl with
          | [y, z], _ => exact ⟨y, z, rfl⟩
        obtain ⟨Ty1, ty1⟩ := (h y (by simp)).ty
        obtain ⟨Ty2, ty2⟩ := (h z (by simp)).ty
        refine ⟨.ref a, rfl, a, _, rfl, .inl (.inl e), rfl, _, _, rfl, _, _, rfl, rfl, ?_⟩
        refine ⟨y, rfl, y, Ty1, rfl, ty1, _, rfl, ?_⟩
        cases y with
        | int i =>
          refine iteT ⟨.ref c, rfl, z, rfl, c, C, z, Ty2, rfl, hc, ty2, _, rfl, ?_⟩
          cases z with
          | int j =>
            by_cases hj : j ∈ C
            · rw [show sizeB C (.int j) = true from decide_eq_true hj]
              have hj1 := hC j hj
              refine iteT ⟨.int i, rfl, .int j, rfl, _, _, rfl, rfl, (by omega : 0 < j), rfl, q _ ?_⟩
              rw [decide_eq_true_eq]
              constructor
              · intro z
                exact ⟨(i, j), ⟨a, rfl, e⟩, hj, V.int.inj z⟩
              · rintro ⟨b, hb, hb2, hb3⟩
                have := bk b hb
                injection this with h1 h2
                injection h1 with h1
                injection h2 with h2 _
                injection h2 with h2
                subst h1; subst h2
                exact congrArg V.int hb3
            · rw [show sizeB C (.int j) = false from decide_eq_false hj]
              refine iteF (no fun ⟨b, hb, hb2, hb3⟩ => ?_)
              have := bk b hb
              injection this with h1 h2
              injection h2 with h2 _
              injection h2 with h2
              subst h2
              exact hj hb2
          | _ =>
            refine iteF (no fun ⟨b, hb, hb2, hb3⟩ => ?_)
            have := bk b hb
            injection this with h1 h2
            injection h2 with h2 _
            cases h2
        | _ =>
          refine iteF (no fun ⟨b, hb, hb2, hb3⟩ => ?_)
          have := bk b hb
          injection this with h1 h2
          cases h1
      · have hv : ¬ (V.int ((xs.length : Nat) : Int) = V.int 2) := fun z => hl (by have := V.int.inj z; omega)
        rw [decide_eq_false hv]
        refine iteT (no fun ⟨b, hb, hb2, hb3⟩ => ?_)
        rw [bk b hb] at hl
        exact hl rfl
def IsSt (C : List Int) (W : Int) (H : Hp) (x : V) : Prop := ∃ t bs, x = .ref t ∧ StAt H t bs ∧ St C W bs
def spSt : Sp := fun vs H Q _ => ∃ (c : Addr) (C : List Int) (L m : Int) (x : V), vs = [.ref c, .int m, x] ∧ ChAt H c (C ++ [L]) ∧ (∀ z ∈ C ++ [L], 1 ≤ z ∧ z ≤ L) ∧ L ≤ 2000 ∧ 0 ≤ m ∧ m ≤ 2000 ∧ Deep H x ∧ (∀ a xs, x = .ref a → H a = some (.tup xs) → xs.length ≤ 5000) ∧
  ∀ H' b, Same H H' → (b = true ↔ IsSt (C ++ [L]) (m * L) H x) → Q (.bl b) H'
theorem ok_isst {f fI fZ fB : Addr} {fd fdI fdZ fdB : FuncData} {k : Nat} (F : Fun K "is_state" "is_state" sIsSt f fd) (N : Nm5 K mg) (FI : Fun K "is_integer" "is_integer" sIsInt fI fdI) (bI : Binds K fdI ["value"] []) (gI : mg "is_integer" = some (.ref fI))
    (FZ : Fun K "is_size" "is_size" sIsSize fZ fdZ) (bZ : Binds K fdZ ["chain", "value"] []) (gZ : mg "is_size" = some (.ref fZ)) (FB : Fun K "is_block" "is_block" sIsBl fB fdB) (bB : Binds K fdB ["chain", "value"] []) (gB : mg "is_block" = some (.ref fB)) : FnOk P w K mg base CX0 (k + 1 + 1 + 1 + 1) f fd ["chain", "pages", "value"] spSt := by
  have GB : FnOk P w K mg base CX0 (k + 1 + 1 + 1) fB fdB ["chain", "value"] (spBlk K) := ok_isbl FB N FI bI gI FZ bZ gZ
  refine F.ok scIsSt (fun vs H Q E h => ?_) (fun cdv A outer s H vs Q E hr h => ?_)
  · obtain ⟨c, C, L, m, x, rfl, _⟩ := h
    rfl
  · obtain ⟨c, C, L, m, x, rfl, hc, hC, hL, m0, m1, d, hlen, q⟩ := h
    refine ⟨_, (pss_cons (ps_if (PW.pt (pw_or (pt_not (pt_val (pe_callB call_isi (by rfl) N.isinstance (by decide +kernel) (pa_cons (pv 2) (pa_cons (pe_bltn (v := .ty "tuple") (by rfl) N.tuple (by decide +kernel) rfl) pa_nil))))) (pw_or1 (pt_not (pt_val (pe_callB (cr_all rfl) (by rfl) N.all (by decide +kernel) (pa_cons (pe_lc (own := [("item", 6)]) (g := (gName 6)) (tt := tYes) (by rfl) scIsSt.nd (pi_tup (pv 2)) (blkOk_by (N := scIsStN) (sc := defScope scIsStS) (by decide +kernel)) (fun _ _ _ _ _ => (pg_name (i := 6) scIsSt.nd rfl (.inl rfl))) (fun _ _ _ _ _ => pts_nil) (fun _ _ _ _ _ => (pe_call GB hr (by rfl) gB FB.kp bB .nil pass0 (pa_cons (pv 0) (pa_cons (pv 6) pa_nil))))) pa_nil)))))))
       (pss_one (ps_ret pe_bl)) pss_nil)
       (pss_cons (ps_set (i := 3) scIsSt.nd rfl (.inl rfl) pe_int)
       (pss_cons (ps_for PassesOwn.never rfl (pi_tup (pv 2)) (pg_tup (by rfl) (pgs_cons (pg_name (i := 4) scIsSt.nd rfl (.inl rfl)) (pgs_cons (pg_name (i := 5) scIsSt.nd rfl (.inl rfl)) pgs_nil)))
       (pss_cons (ps_if (pt_cmpR op_lt (pv 4) (pv 3) (nomark _))
       (pss_one (ps_ret pe_bl)) pss_nil)
       (pss_one (ps_set (i := 3) scIsSt.nd rfl (.inl rfl) (pe_op op_add (pv 4) (pv 5))))))
       (pss_one (ps_ret (pe_cmpR op_le (pv 3) (pe_op op_mul (pv 1) (pe_ix ix_tup (pv 0) (pe_un un_neg pe_int) (fun _ _ => rfl))) (nomark _))))))), ?_⟩
    have no : ∀ {H' : Hp}, Same H H' → (IsSt (C ++ [L]) (m * L) H x → False) → Q (.bl false) H' := fun sm h => q _ false sm ⟨fun z => (Bool.false_ne_true z).elim, fun z => (h z).elim⟩
    cases d with
    | @base x T t n =>
      have eT : (T == "tuple") = false := beq_eq_false_iff_ne.mpr n
      refine ⟨x, rfl, x, .ty "tuple", .type T, .type "tuple", _, rfl, .ty _, t.x, kit_ty t.kTup, _, rfl, ?_⟩
      rw [eT]
      refine iteT (no (Same.refl H) fun ⟨u, bs, e1, ⟨zs, e2, _⟩, _⟩ => ?_)
      subst e1
      cases t with
      | tup e => exact n rfl
      | lst e => rw [e2] at e; cases e
      | dK e => rw [e2] at e; cases e
    | @tup a xs e h _ =>
      have t : Ty H (.ref a) "tuple" := .tup e
      have lx := hlen a xs rfl e
      refine ⟨.ref a, rfl, .ref a, .ty "tuple", .type "tuple", .type "tuple", _, rfl, .ty _, t.x, kit_ty t.kTup, _, rfl, iteF ?_⟩
      have hT : SqT K H a xs := .inl (.inl e)
      refine ⟨.ref a, rfl, a, rfl, ⟨xs, hT⟩, fun D nD => lc_tup (K := K) (a := a) (xs := xs) (fun i H2 => Same H H2 ∧ ∃ gs : List Bool, H2 D = some (.lst (gs.map V.bl)) ∧ gs.length = i ∧ (gs.all id = true ↔ ∀ y ∈ xs.take i, IsBk (C ++ [L]) H y)) ⟨same_upd nD, [], upd_same, rfl, by simp⟩ (fun i H2 _ p => p.1.tup hT) (fun i y H2 hy p => ?_) (fun H2 p => ?_)⟩
      · obtain ⟨sm, gs, hD, hl, hg⟩ := p
        have hm := List.mem_of_getElem? hy
        refine ⟨rfl, .ref c, rfl, y, rfl, c, C ++ [L], y, rfl, (hc.keep sm).sq, fun z hz => (hC z hz).1, (h y hm).same sm, fun b hb => ⟨_, hD, ?_, fun b2 o ho => ?_, gs ++ [b], ?_, ?_, ?_⟩⟩
        · rw [List.length_map, hl]
          have := (List.getElem?_eq_some_iff.mp hy).1
          exact Nat.lt_of_lt_of_le (show i < 5001 by omega) (by decide)
        · rw [upd_ne (ne_of_none ho nD)]
          exact sm _ _ ho
        · rw [upd_same, List.map_append]
          rfl
        · rw [List.length_append, List.length_singleton, hl]
        · rw [List.all_append, Bool.and_eq_true, hg, List.take_add_one, hy]
          have e1 : ([b].all id = true) ↔ IsBk (C ++ [L]) H2 y := by
            rw [← hb]
            simp
          rw [e1]
          have e2 : IsBk (C ++ [L]) H2 y ↔ IsBk (C ++ [L]) H y := by
            constructor
            · rintro ⟨b, ⟨u, e3, e4⟩, e5⟩
              refine ⟨b, ⟨u, e3, ?_⟩, e5⟩
              subst e3
              have dy := h _ hm
              cases dy with
              | base t n =>
                have t2 := t.same sm
                cases t2 with
                | tup e => exact absurd rfl n
                | lst e => rw [e4] at e; cases e
                | dK e => rw [e4] at e; cases e
              | tup e6 _ _ =>
                have := sm _ _ e6
                rw [e4] at this
                injection this with this
                rw [this]
                exact e6
            · rintro ⟨b, ⟨u, e3, e4⟩, e5⟩
              exact ⟨b, ⟨u, e3, sm _ _ e4⟩, e5⟩
          rw [e2]
          simp only [List.mem_append]
          constructor
          · rintro ⟨h1, h2⟩ y2 (h3 | h3)
            · exact h1 y2 h3
            · simp at h3
              rw [h3]
              exact h2
          · intro h1
            exact ⟨fun y2 h3 => h1 y2 (.inl h3), h1 y (.inr (by simp))⟩
      · obtain ⟨sm, gs, hD, hl, hg⟩ := p
        rw [List.take_length] at hg
        refine ⟨D, _, rfl, .inl (.inl hD), _, rfl, ?_⟩
        by_cases ca : gs.all id = true
        · rw [ca]
          refine iteF ?_
          have hbk := hg.mp ca
          have bl : BL H xs (xs.map (kH H)) := BL.of fun y hy => by
            obtain ⟨b, hb, _⟩ := hbk y hy
            exact ⟨b, hb⟩
          generalize hbs : xs.map (kH H) = bs at bl
          have hin : ∀ b ∈ bs, b.2 ∈ C ++ [L] ∧ b.1 % b.2 = 0 := fun b hb => by
            rw [← hbs] at hb
            obtain ⟨y, hy, e3⟩ := List.mem_map.mp hb
            obtain ⟨b2, hb2, h3, h4⟩ := hbk y hy
            rw [hb2.k] at e3
            rw [← e3]
            exact ⟨h3, h4⟩
          have hpos : ∀ b ∈ bs, 1 ≤ b.2 := fun b hb => (hC _ (hin b hb).1).1
          have hT2 := sm.tup hT
          have mL0 : 0 ≤ m * L := Int.mul_nonneg m0 (by have := hC L (by simp); omega)
          have key : IsSt (C ++ [L]) (m * L) H (.ref a) ↔ ∃ z, chk 0 bs = some z ∧ z ≤ m * L := by
            constructor
            · rintro ⟨u, cs, e1, ⟨zs, e2, b2⟩, st⟩
              cases e1
              rw [e] at e2
              injection e2 with e2
              injection e2 with e2
              subst e2
              have := bl.fun b2
              subst this
              exact asc_chk _ 0 _ mL0 (fun b hb => by obtain ⟨_, h1, h2, _, h3⟩ := st.ok b hb; exact ⟨h1, h2, h3⟩) st.asc
            · rintro ⟨z, h1, h2⟩
              obtain ⟨h3, h4, _⟩ := chk_asc bs 0 z hpos h1
              exact ⟨a, bs, rfl, ⟨xs, e, bl⟩, fun b hb => by have h5 := hin b hb; have h6 := h4 b hb; exact ⟨h5.1, hpos b hb, h6.1, h5.2, by omega⟩, h3⟩
          refine ⟨.ref a, rfl, a, rfl, ⟨_, hT2⟩, for_tup (K := K) (a := a) (xs := xs) (fun i σ H3 => ∃ y4 y5 y6 z, σ = [some (.ref c), some (.int m), some (.ref a), some (.int z), y4, y5, y6] ∧ H3 = H2 ∧ chk 0 (bs.take i) = some z) ⟨_, _, _, 0, rfl, rfl, rfl⟩ (fun i σ H3 _ p => ?_) (fun i y σ H3 hy p => ?_) (fun σ H3 p => ?_)⟩
          · obtain ⟨_, _, _, _, _, rfl, _⟩ := p
            exact hT2
          · obtain ⟨y4, y5, y6, z, rfl, rfl, hz⟩ := p
            obtain ⟨b, hb, u, e3, e4⟩ := bl.get hy
            subst e3
            refine ⟨u, _, rfl, .inl (.inl (sm _ _ e4)), rfl, _, _, rfl, _, _, rfl, rfl, .int b.1, rfl, .int z, rfl, _, _, rfl, rfl, _, rfl, ite2 (fun cc => ?_) (fun cc => ?_)⟩
            · have c1 : b.1 < z := of_decide_eq_true cc
              refine no sm fun st => ?_
              obtain ⟨zz, h1, _⟩ := key.mp st
              have h2 : chk 0 (bs.take (i + 1)) = none := by
                rw [List.take_add_one, hb]
                show chk 0 (bs.take i ++ [b]) = none
                rw [chk_snoc, hz]
                show (if b.1 < z then none else _) = none
                rw [if_pos c1]
              have h3 := chk_app_none _ (bs.drop (i + 1)) 0 h2
              rw [List.take_append_drop, h1] at h3
              cases h3
            · have c1 : ¬ b.1 < z := fun h => cc (decide_eq_true h)
              refine ⟨.int b.1, rfl, .int b.2, rfl, _, _, rfl, rfl, _, _, _, b.1 + b.2, rfl, rfl, ?_⟩
              rw [List.take_add_one, hb]
              show chk 0 (bs.take i ++ [b]) = _
              rw [chk_snoc, hz]
              show (if b.1 < z then none else _) = _
              rw [if_neg c1]
          · obtain ⟨y4, y5, y6, z, rfl, rfl, hz⟩ := p
            rw [List.take_of_length_le (by rw [← bl.len]; exact Nat.le_refl _)] at hz
            have gl : atI ((C ++ [L]).map V.int) (-1) = some (.int L) := by
              rw [List.map_append]
              exact atI_last _ _
            refine ⟨.int z, rfl, .int m, rfl, .ref c, rfl, 1, rfl, c, _, -1, _, rfl, rfl, (hc.keep sm).sq, gl, m, L, rfl, rfl, .inl ⟨by omega, by omega⟩, _, _, rfl, rfl, q _ _ sm ?_⟩
            rw [decide_eq_true_eq, key, hz]
            constructor
            · exact fun h => ⟨z, rfl, h⟩
            · rintro ⟨zz, h1, h2⟩
              have := Option.some.inj h1
              omega
        · have ca' : gs.all id = false := by
            cases ez : gs.all id with
            | true => exact absurd ez ca
            | false => rfl
          rw [ca']
          refine iteT (no sm fun st => ca (hg.mpr ?_))
          obtain ⟨u, cs, e1, ⟨zs, e2, b2⟩, st⟩ := st
          cases e1
          rw [e] at e2
          injection e2 with e2
          injection e2 with e2
          subst e2
          intro y hy
          obtain ⟨i, hi⟩ := List.mem_iff_getElem?.mp hy
          obtain ⟨b, hb, hb2⟩ := b2.get hi
          obtain ⟨h1, h2, h3, h4, h5⟩ := st.ok b (List.mem_of_getElem? hb)
          exact ⟨b, hb2, h1, h4⟩
end
end Ph

namespace Ph
open PySem PySem.Spec PyProof.Rows L2
/-! ### max(ints, default=d) -/
def mxd (d : Int) : List Int → Int
  | [] => d
  | n :: r => r.foldl max n
theorem alike_ints (ns : List Int) : PySem.W.AlikeAll (ns.map PyData.int) := by
  refine ⟨fun x hx y hy => ?_, fun x hx => ?_⟩
  · obtain ⟨a, _, rfl⟩ := List.mem_map.mp hx
    obtain ⟨b, _, rfl⟩ := List.mem_map.mp hy
    rfl
  · obtain ⟨a, _, rfl⟩ := List.mem_map.mp hx
    exact fun z => nomatch z
theorem dpI {K : PySem.W.Frag} {H : Hp} : ∀ ns : List Int, DpAll K H (ns.map V.int) (ns.map PyData.int)
  | [] => .nil
  | n :: r => .cons (.int n) (dpI r)
theorem depthI : ∀ ns : List Int, PyData.depthAll (ns.map PyData.int) ≤ 1
  | [] => by simp [PyData.depthAll]
  | n :: r => by
    have h := depthI r
    simp only [List.map_cons, PyData.depthAll, PyData.depth]
    omega
section
variable {X : Cx}
def rMaxDf (K : PySem.W.Frag) : List V → List V → Hp → VK → Prop := fun xs zs H Q => ∃ (l : Addr) (ns : List Int) (d : Int), xs = [.ref l] ∧ zs = [.int d] ∧ SqL K H l (ns.map V.int) ∧ Q (.int (mxd d ns)) H
theorem cr_maxDf (hc : X.calm = true) (hu : X.A.units + 2 < cLine) : CallRK X (.builtin "max") ["default"] (rMaxDf X.K) := by
  intro pins s σ H xs zs us ws Q I r rz h
  obtain ⟨l, ns, d, rfl, rfl, hl, q⟩ := h
  obtain ⟨its, rv, pl, hz⟩ := I.list hl
  rw [Vals.ref1 r]
  obtain ⟨w, rfl, t, rfl⟩ := vals1 rz
  obtain ⟨as, rd⟩ := Dp.readsAll I _ _ its (dpI ns) rv
  have hd := depthI ns
  refine PySem.W.max_list_default (d := .int d t) (I.ok.hd hc) pl.isList (by simpa using rd) (alike_ints ns) (by omega) (fun e g tk k => ?_) (fun y ys i v g tk bs e hv rv k => ?_)
  · have e2 : ns = [] := List.map_eq_nil_iff.mp e
    rw [e2] at q
    exact ⟨.int d, H, I.kept k, ⟨t, rfl⟩, q⟩
  · cases ns with
    | nil => cases e
    | cons n r =>
      injection e with e1 e2
      subst e1
      subst e2
      rw [PySem.W.maxD_ints] at rv
      cases rv with
      | int _ t' => exact ⟨.int (r.foldl max n), H, I.kept k, ⟨t', rfl⟩, q⟩
/-! ### list(range(a, b, c)) -/
def rg3 (i c : Int) (n : Nat) : List Int := (List.range n).map fun (t : Nat) => i + (t : Int) * c
def tLst3 (ta : TA) : TE := fun σ H Q => ta σ H fun vs H1 => ∃ (i j c : Int) (n : Nat), vs = [.int i, .int j, .int c] ∧ RgC i j c n ∧ n ≤ 2 ^ 24 ∧ ∀ q, H1 q = none → Q (.ref q) (upd H1 q (.lst ((rg3 i c n).map V.int)))
theorem vals_rg3 {i c : Int} {n : Nat} {acc : Array Value} (h : ItemsOf (fun j v => ∃ t, v = .int (i + j * c) t) acc n) : Vals ((rg3 i c n).map V.int) acc.toList := by
  have e : acc.toList.length = n := by rw [Array.length_toList]; exact h.1
  unfold rg3
  rw [List.map_map, ← e]
  refine vals_of_get acc.toList _ fun j u hj => ?_
  obtain ⟨t, rfl⟩ := h.2 j u (by rw [← hj, Array.getElem?_toList])
  exact ⟨t, rfl⟩
theorem pe_listRg3 {a b c : Expr} {ta : TA} {p p2 pos pos2 : Pos} (hc : X.calm = true) (hg : Gl X "list") (hm : X.mg "list" = none) (hg2 : Gl X "range") (hm2 : X.mg "range" = none) (ha : PA X [a, b, c] ta)
    (na : starEach [Expr.Call (.Name "range" p2) [a, b, c] [] pos2] X.env = (false, eval (Expr.Call (.Name "range" p2) [a, b, c] [] pos2) X.env) :: starEach [] X.env := by rfl)
    (hs : starEach [a, b, c] X.env = (false, eval a X.env) :: starEach [b, c] X.env := by rfl) (hpl : (backTo pos2 (starEach [b, c] X.env)).any (·.1) = false := by rfl) :
    PE X (.Call (.Name "list" p) [.Call (.Name "range" p2) [a, b, c] [] pos2] [] pos) (tLst3 ta) := by
  refine ⟨fun pins s σ H Q I h => ?_⟩
  refine Call_ (ld_blt I hg hm boot_list (PyProof.Rows.callWith_type1 (args_cons ?_ na) na))
  refine Call_ (ld_blt I hg2 hm2 boot_range (PyProof.Rows.callWith_type1 (thn (ha.run pos2 pins s σ H _ I h) fun us s1 ⟨vs, H1, I1, r1, i, j, k, n, e, ⟨c0, c1, c2, c3⟩, hn, q⟩ => ?_) hs hpl))
  subst e
  obtain ⟨t1, t2, t3, rfl⟩ : ∃ t1 t2 t3, us = [Value.int i t1, .int j t2, .int k t3] := by
    cases r1 with
    | cons ra rr =>
      cases rr with
      | cons rb rr =>
        cases rr with
        | cons rd rr =>
          cases rr
          obtain ⟨t1, rfl⟩ := ra
          obtain ⟨t2, rfl⟩ := rb
          obtain ⟨t3, rfl⟩ := rd
          exact ⟨t1, t2, t3, rfl⟩
  · skip
    refine call_range_3 c0 (args_nil ?_) (.inl (PyProof.noPylong_small c1))
    have I2 : Inv X pins σ H1 { s1 with heap := s1.heap.push { cls := .type "range", data := .fields #[.int i t1, .int j t2, .int k t3] } } := I1.kept (t' := s1.toks) fun b o e => Heap.get?_push_of_some _ e
    refine call_list_range (n := n) (I2.ok.hd hc) (IsRange.new ..) c2 c3 hn fun g tk acc cc keep at' it => ?_
    refine ⟨.ref _, upd H1 _ (.lst ((rg3 i k n).map V.int)), I2.laid (t' := tk) keep (Nat.le_refl _) ⟨?_, acc.toList, cc, vals_rg3 it, ?_⟩, rfl, q _ (I2.hok.fresh (Nat.le_refl _))⟩
    · unfold rg3
      rw [List.length_map, List.length_map, List.length_range, sizeLine_eq]
      omega
    · rw [Array.toArray_toList]; exact at'
end
end Ph

set_option maxHeartbeats 2000000
namespace Ph
open PySem PySem.Spec PyProof.Rows L2
/-! ### {e for x in xs}, e an int -/
abbrev TurnI (w : World) (D : Addr) (te : TE) (σ2 : L2.St) (H3 : Hp) (Nx : Hp → Prop) : Prop :=
  te σ2 H3 fun y H4 => ∃ (c : Int) (S : Int → Bool) (n : Nat), y = .int c ∧ H4 D = some (SetO w D S n) ∧ n + 1 < scanBound ∧ Nx (upd H4 D (SetO w D (fun j => S j || decide (j = c)) (if S c = true then n else n + 1)))
def tScI (w : World) (wi : TI) (g : TG) (tt : TT) (te : TE) (vs : List Nat) : TE := fun σ H Q => wi σ H fun J H1 => ∀ D, H1 D = none → ∃ W : Nat → Nat → Hp → Prop, (∃ m, W 0 m (upd H1 D (SetO w D (fun _ => false) 0))) ∧ ∀ i m H, W i m H →
  (J.stop i H ∧ Q (.ref D) H) ∨ (J.go i H ∧ ∃ Nx : Hp → Prop, (∀ H', Nx H' → ∃ m', m' < m ∧ W (i + 1) m' H') ∧ ∀ x H', J.yld i H x H' → g x (wipe σ vs) H' fun σ2 H2 => wipe σ2 vs = wipe σ vs ∧ tt σ2 H2 fun b H3 => if b = true then TurnI w D te σ2 H3 Nx else Nx H3)
section
variable {X : Cx}
abbrev BlkG (X : Cx) (scope : Scope) (F : Cx → Prop) : Prop := ∀ (s : Shared) (H : Hp) (C : Addr) (cl : List (PySem.Str × Addr)) (fp : List Addr), F (X.blk s H scope (compEnvC scope cl C X.env) fp)
theorem pe_scI {elt tg iter : Expr} {ifs : List Expr} {scope : Scope} {own : List (PySem.Str × Nat)} {pos : Pos} {wi : TI} {g : TG} {tt : TT} {te : TE} (calm : X.calm = true) (nod : X.N.Nodup) (walk : PI X tg iter wi) (blk : BlkOk X.N X.env.scope scope own)
    (gs : BlkG X scope fun Y => PG Y tg g) (ts : BlkG X scope fun Y => PTs Y ifs tt) (es : BlkG X scope fun Y => PE Y elt te) (fold : ∀ x, foldedSetIterable iter X.env x = pure x := by intro _; rfl) :
    PE X (.SetComp elt [⟨tg, iter, ifs, 0⟩] scope pos) (tScI X.w wi g tt te (own.map (·.2))) := by
  refine ⟨fun pins s σ H Q I want => ?_⟩
  rw [PpSet.eval_SetComp]
  have captured : ∀ y ∈ scope.names, y.2 = .free → ∃ c, X.env.cells.lookup y.1 = some c := fun y hy e => (blk.free y hy e).elim (fun k => I.ok.has _ (.inl k)) fun k => I.ok.has _ (.inr k)
  refine wpAny_comprehension_free rfl fold (closure_ok captured) blk.kind (fun y hy e => by rw [blk.uniq y hy, e]) (thn (walk.run pins s σ H _ I want) fun xv s1 hx => thn hx fun itv s2 h2 => ?_)
  obtain ⟨it, fp, tn, J, H2, rfl, I2, T, tn2, fp2, q⟩ := h2
  refine PpSet.newSet_ok (newEnv_comp ?_)
  have freshD : H2 s2.heap.objs.size = none := I2.hok.fresh (Nat.le_refl _)
  obtain ⟨W, ⟨m0, start⟩, step⟩ := q _ freshD
  have low : ∀ b ∈ fp, b < s2.heap.objs.size := fun b hb => let ⟨o, e, _⟩ := T.obj _ _ tn2 b hb; Heap.lt_size e
  have I3 : Inv X pins σ (upd H2 s2.heap.objs.size (SetO X.w s2.heap.objs.size (fun _ => false) 0)) { s2 with heap := s2.heap.push (sob X.w) } := I2.laid (t' := s2.toks) (fun b o e => Heap.get?_push_of_some _ e) (Nat.le_refl _) (setO_new (setR_fresh X.w))
  have fp3 : ∀ b ∈ fp, FpOk X pins (upd H2 s2.heap.objs.size (SetO X.w s2.heap.objs.size (fun _ => false) 0)) b ∧ b < (s2.heap.push (sob X.w)).objs.size := fun b hb => by
    refine ⟨⟨?_, (fp2 b hb).2⟩, by rw [Heap.size_push]; exact Nat.lt_succ_of_lt (low b hb)⟩
    rw [upd_ne (Nat.ne_of_lt (low b hb))]
    exact (fp2 b hb).1
  have tn3 : tn 0 (s2.heap.push (sob X.w)) := T.keep _ _ _ tn2 fun b _ o e => Heap.get?_push_of_some _ e
  have I4 := block_start I3 blk nod fp3
  generalize eD : s2.heap.objs.size = D at start step I3 fp3 I4 ⊢
  generalize eS : ({ s2 with heap := s2.heap.push (sob X.w) } : Shared) = s3 at I3 fp3 tn3 I4 ⊢
  generalize eH : upd H2 D (SetO X.w D (fun _ => false) 0) = H3 at start I3 fp3 I4
  have tn3' : tn 0 s3.heap := by rw [← eS]; exact tn3
  have fp3' : ∀ b ∈ fp, FpOk X pins H3 b ∧ b < s3.heap.objs.size := fun b hb => by
    have := fp3 b hb
    rw [← eS]
    exact this
  have G := gs s3 H3 s3.heap.objs.size (cellsFrom (s3.heap.objs.size + 1) scope.names (cloFrom X.env.cells scope.names [])) fp
  have Te := ts s3 H3 s3.heap.objs.size (cellsFrom (s3.heap.objs.size + 1) scope.names (cloFrom X.env.cells scope.names [])) fp
  have El := es s3 H3 s3.heap.objs.size (cellsFrom (s3.heap.objs.size + 1) scope.names (cloFrom X.env.cells scope.names [])) fp
  have shape : codeAny (model X.prog X.w) X.A (.compStart (.SetComp elt [⟨tg, iter, ifs, 0⟩] scope pos) 0 (.ref it) (.ref D) (compEnvC scope (cellsFrom (s3.heap.objs.size + 1) scope.names (cloFrom X.env.cells scope.names [])) s3.heap.objs.size X.env))
      (compPost (model X.prog X.w) X.A X.xe none (EP X pins σ Q) (.ref D) s3.heap.objs.size) { s3 with heap := pushCells (s3.heap.push { cls := .type "dict", data := .dict #[] }) scope.names } := by
    generalize eE : compEnvC scope (cellsFrom (s3.heap.objs.size + 1) scope.names (cloFrom X.env.cells scope.names [])) s3.heap.objs.size X.env = ce at I4 G Te El ⊢
    have locs : ce.locals = s3.heap.objs.size := by subst eE; rfl
    generalize e4 : ({ s3 with heap := pushCells (s3.heap.push { cls := .type "dict", data := .dict #[] }) scope.names } : Shared) = s4 at I4 ⊢
    have tn4 : tn 0 s4.heap := T.keep _ _ _ tn3' fun b _ o e => by rw [← e4]; exact pushCells_keeps _ _ _ _ (Heap.get?_push_of_some _ e)
    have off : ∀ {σ' : L2.St} {H' : Hp} {s' : Shared}, Inv (X.blk s3 H3 scope ce fp) [] σ' H' s' → (∀ b ∈ fp, H' b = none) → ∀ b ∈ fp, FpOk (X.blk s3 H3 scope ce fp) [] H' b := fun J hn b hb =>
      ⟨hn b hb, (J.ok.exf b hb).1, J.ok.exfs b hb, .inl hb, fun x c e => (J.ok.exf b hb).2 x c e, fun p hp => nomatch (show p ∈ ([] : List (Addr × Obj)) from by simpa using hp)⟩
    have loop : codeAny (model X.prog X.w) X.A (.compLoop (.SetComp elt [⟨tg, iter, ifs, 0⟩] scope pos) 0 (.ref it) (.ref D) ce) (compPost (model X.prog X.w) X.A X.xe none (EP X pins σ Q) (.ref D) s3.heap.objs.size) s4 := by
      refine PpSet.compLoopS_any (fun n s' => ∃ i H', Inv (X.blk s3 H3 scope ce fp) [] (wipe σ (own.map (·.2))) H' s' ∧ tn i s'.heap ∧ (∀ b ∈ fp, H' b = none) ∧ W i n H') ?_ m0 ⟨0, H3, I4, tn4, fun b hb => (fp3' b hb).1.1, start⟩
      rintro n s5 ⟨i, H5, I5, tn5, free5, w5⟩
      rcases step i n H5 w5 with ⟨stop, done⟩ | ⟨go, Nx, lower, turn⟩
      · refine thnF (T.done (X.blk s3 H3 scope ce fp) rfl rfl rfl calm i [] s5 _ H5 (fun _ _ => False) I5 (off I5 free5) tn5 stop) fun r s6 ⟨hr, I6⟩ => ?_
        subst hr
        have I7 : Inv X pins σ H5 s6 := I3.call' (ch := fp) I6.os I6.base I6.hok I6.bare fun b hb => let z := (fp3' b hb).1.2; ⟨z.2.2.1, z.1, z.2.2.2.1, z.2.2.2.2⟩
        obtain ⟨m, names, _⟩ := I6.loc
        have names' : s6.heap.Ns s3.heap.objs.size m := locs ▸ (show s6.heap.Ns ce.locals m from names)
        have none5 : H5 s3.heap.objs.size = none := locs ▸ (show H5 ce.locals = none from I6.free)
        obtain ⟨f0, f1, f2, f3, f4, f5⟩ := I3.fpOk (Nat.le_refl s3.heap.objs.size) none5
        exact ⟨m, names', fun g sb => ⟨.ref D, H5, I7.turned (t' := s6.toks) (fun b o hb e => (sb.2 b hb).trans e) f0 f1 f3 f4 f5, rfl, done⟩⟩
      · refine thnF (T.item (X.blk s3 H3 scope ce fp) rfl rfl rfl calm i [] s5 _ H5 (fun _ _ => False) I5 (off I5 free5) tn5 go) fun r s6 ⟨u, hr, h6⟩ => ?_
        subst hr
        refine thnF h6 fun _ s7 ⟨x, H7, I7, r7, y7, tn7, free7⟩ => ?_
        refine thnF (G.run _ s7 _ H7 x u _ (I7.pinned (off I7 free7) (T.obj _ _ tn7)) r7 (turn x H7 y7)) fun _ s8 ⟨σ8, H8, I8, wiped, q8⟩ => ?_
        refine thnF (Te.run _ s8 σ8 H8 _ I8 q8) fun b s9 ⟨H9, I9, q9⟩ => ?_
        have back : ∀ {s' : Shared} {H' : Hp}, Inv (X.blk s3 H3 scope ce fp) ([] ++ pinsAt fp s7.heap) σ8 H' s' → Nx H' → ∃ m, m < n ∧ ∃ i H', Inv (X.blk s3 H3 scope ce fp) [] (wipe σ (own.map (·.2))) H' s' ∧ tn i s'.heap ∧ (∀ b ∈ fp, H' b = none) ∧ W i m H' := fun {s' H'} J nx => by
          obtain ⟨m', less, w'⟩ := lower H' nx
          have held : ∀ b ∈ fp, ∀ o, s7.heap.get? b = some o → s'.heap.get? b = some o ∧ H' b = none := fun b hb o e => let z := J.pin (b, o) (List.mem_append_right _ (List.mem_append_right _ (mem_pinsAt hb e))); ⟨z.1, z.2.1⟩
          refine ⟨m', less, i + 1, H', (J.unpinned (pins := [])).weak (by rw [← wiped, wipe_length]) (fun j v e => (wipe_some (wiped ▸ e)).1), T.keep _ _ _ tn7 fun b hb o e => (held b hb o e).1, fun b hb => ?_, w'⟩
          obtain ⟨o, e, _⟩ := T.obj _ _ tn7 b hb
          exact (held b hb o e).2
        cases b with
        | false => exact back I9 (by simpa using q9)
        | true =>
          have q9' : TurnI X.w D te σ8 H9 Nx := by simpa using q9
          refine thnF (El.run _ s9 σ8 H9 _ I9 q9') fun z s10 ⟨yv, H10, I10, r10, c, S0, n0, ey, at10, room, nx⟩ => ?_
          subst ey
          obtain ⟨tk, rfl⟩ := r10
          refine setR_add (setO_get (X := X.blk s3 H3 scope ce fp) I10 at10) room fun g sb new => ?_
          have there : ∃ u, g.get? D = some u := let ⟨o, _, _, _, ho, _⟩ := new; ⟨o, ho⟩
          exact back (I10.write (e := D) (t' := s10.toks + 1) (by rw [at10]; trivial) (.inl rfl) (fun b u hb hu => (sb.2 b hb).trans hu) there (setO_new new)) nx
    exact PpSet.codeAny_compStart_set loop (T.self X.A 0 _ _ _ tn4 loop)
  exact shape
/-- over a tuple, the steps leave the heap as it is -/
theorem sc_tupF {w : World} {K : PySem.W.Frag} {a : Addr} {xs : List V} {g : TG} {tt : TT} {te : TE} {vs : List Nat} {σ : L2.St} {H1 : Hp} {D : Addr} {Qd : Hp → Prop} (f : V → Int) (ht : SqT K H1 a xs) (nD : H1 D = none) (few : xs.length + 1 < scanBound)
    (hs : ∀ x ∈ xs, ∀ H, (∀ b o, H1 b = some o → H b = some o) → ∀ (Y : V → Hp → Prop) (N : Hp → Prop), Y (.int (f x)) H → g x (wipe σ vs) H fun σ2 H2 => wipe σ2 vs = wipe σ vs ∧ tt σ2 H2 fun b H3 => if b = true then te σ2 H3 Y else N H3)
    (hd : ∀ H n, (∀ b o, H1 b = some o → H b = some o) → H D = some (SetO w D (fun j => decide (j ∈ xs.map f)) n) → Qd H) :
    ∃ W : Nat → Nat → Hp → Prop, (∃ m, W 0 m (upd H1 D (SetO w D (fun _ => false) 0))) ∧ ∀ i m H, W i m H →
      ((Itt K a).stop i H ∧ Qd H) ∨ ((Itt K a).go i H ∧ ∃ Nx : Hp → Prop, (∀ H', Nx H' → ∃ m', m' < m ∧ W (i + 1) m' H') ∧ ∀ x H', (Itt K a).yld i H x H' → g x (wipe σ vs) H' fun σ2 H2 => wipe σ2 vs = wipe σ vs ∧ tt σ2 H2 fun b H3 => if b = true then TurnI w D te σ2 H3 Nx else Nx H3) := by
  have tupStays : ∀ H, (∀ b o, H1 b = some o → H b = some o) → SqT K H a xs := fun H k => by
    rcases ht with (h | ⟨o, h⟩) | h
    · exact .inl (.inl (k _ _ h))
    · exact .inl (.inr ⟨o, k _ _ h⟩)
    · exact .inr h
  refine ⟨fun i m H => m = xs.length - i ∧ i ≤ xs.length ∧ (∀ b o, H1 b = some o → H b = some o) ∧ ∃ n, n ≤ i ∧ H D = some (SetO w D (fun j => decide (j ∈ (xs.take i).map f)) n), ⟨xs.length, by simp, Nat.zero_le _, fun b o e => ?_, 0, Nat.le_refl _, ?_⟩, ?_⟩
  · rw [upd_ne (ne_of_none e nD)]; exact e
  · rw [upd_same]
    congr
  rintro i m H ⟨rfl, hi, k, n, hn, hD⟩
  have hq := tupStays H k
  by_cases hlt : i < xs.length
  · refine .inr ⟨⟨xs, xs[i], hq, by simp [hlt]⟩, fun H' => (∀ b o, H1 b = some o → H' b = some o) ∧ ∃ n, n ≤ i + 1 ∧ H' D = some (SetO w D (fun j => decide (j ∈ (xs.take (i + 1)).map f)) n), fun H' p => ⟨xs.length - (i + 1), by omega, rfl, hlt, p.1, p.2⟩, fun x H' y => ?_⟩
    obtain ⟨rfl, y⟩ := y
    have hx := y xs hq
    refine hs x (List.mem_of_getElem? hx) _ k _ _ ⟨f x, _, n, rfl, hD, by omega, fun b o e => ?_, (if decide (f x ∈ (xs.take i).map f) = true then n else n + 1), ?_, ?_⟩
    · rw [upd_ne (ne_of_none e nD)]; exact k _ _ e
    · split <;> omega
    · rw [upd_same]
      congr
      funext j
      rw [List.take_add_one, hx, Bool.eq_iff_iff]
      simp
  · have e : i = xs.length := by omega
    subst e
    rw [List.take_of_length_le (Nat.le_refl _)] at hD
    exact .inl ⟨⟨xs, hq, Nat.le_refl _⟩, hd H n k hD⟩
end
end Ph

namespace Ph
open PySem PySem.Spec PyProof.Rows L2
theorem inc_ext : ∀ {l m : List Int}, l.Pairwise (· < ·) → m.Pairwise (· < ·) → (∀ k, k ∈ l ↔ k ∈ m) → l = m
  | [], [], _, _, _ => rfl
  | [], y :: m, _, _, h => by have := (h y).mpr (List.mem_cons_self ..); cases this
  | x :: l, [], _, _, h => by have := (h x).mp (List.mem_cons_self ..); cases this
  | x :: l, y :: m, hl, hm, h => by
    obtain ⟨l1, l2⟩ := List.pairwise_cons.mp hl
    obtain ⟨m1, m2⟩ := List.pairwise_cons.mp hm
    have e : x = y := by
      have a := List.mem_cons.mp ((h x).mp (List.mem_cons_self ..))
      have b := List.mem_cons.mp ((h y).mpr (List.mem_cons_self ..))
      rcases a with a | a
      · exact a
      · rcases b with b | b
        · exact b.symm
        · have := m1 x a
          have := l1 y b
          omega
    subst e
    rw [inc_ext l2 m2 fun k => ?_]
    constructor
    · intro hk
      have := l1 k hk
      rcases List.mem_cons.mp ((h k).mp (List.mem_cons_of_mem _ hk)) with z | z
      · omega
      · exact z
    · intro hk
      have := m1 k hk
      rcases List.mem_cons.mp ((h k).mpr (List.mem_cons_of_mem _ hk)) with z | z
      · omega
      · exact z
/-! ### ranges with a step -/
def upS (x s : Int) : Int := -(-x / s) * s
theorem upS_ge {x s : Int} (hs : 0 < s) : x ≤ upS x s := by
  unfold upS
  have := Int.ediv_mul_le (-x) (b := s) (by omega)
  rw [Int.neg_mul]
  omega
theorem upS_lt {x s : Int} (hs : 0 < s) : upS x s < x + s := by
  unfold upS
  have := Int.lt_ediv_add_one_mul_self (-x) hs
  rw [Int.add_mul, Int.one_mul] at this
  rw [Int.neg_mul]
  omega
theorem upS_mod {x s : Int} : upS x s % s = 0 := by
  unfold upS
  exact Int.mul_emod_left _ _
/-- how many numbers a range gives -/
def rgN (i j c : Int) : Nat := (Builtin.Range.rangeSize i j c).toNat
theorem rgN_nonneg {i j c : Int} (hc : 0 < c) : 0 ≤ Builtin.Range.rangeSize i j c := by
  unfold Builtin.Range.rangeSize
  rw [if_pos hc]
  split
  · have : 0 ≤ (j - i - 1) / c := Int.ediv_nonneg (by omega) (by omega)
    omega
  · exact Int.le_refl _
theorem rgN_le {i j c : Int} (hc : 0 < c) : rgN i j c ≤ (j - i).toNat := by
  unfold rgN Builtin.Range.rangeSize
  rw [if_pos hc]
  split
  · have : (j - i - 1) / c ≤ j - i - 1 := Int.ediv_le_self _ (by omega)
    omega
  · simp
theorem rg3_inc {i c : Int} (hc : 0 < c) (n : Nat) : (rg3 i c n).Pairwise (· < ·) := by
  unfold rg3
  rw [List.pairwise_map]
  refine List.pairwise_lt_range.imp fun {a b} h => ?_
  have : (a : Int) * c < b * c := Int.mul_lt_mul_of_pos_right (by omega) hc
  omega
theorem mem_rg3 {i j c k : Int} (hc : 0 < c) : k ∈ rg3 i c (rgN i j c) ↔ i ≤ k ∧ k < j ∧ (k - i) % c = 0 := by
  have hn := rgN_nonneg (i := i) (j := j) hc
  unfold rg3
  rw [List.mem_map]
  constructor
  · rintro ⟨t, ht, rfl⟩
    have ht := List.mem_range.mp ht
    have t0 : 0 ≤ (t : Int) * c := Int.mul_nonneg (by omega) (by omega)
    have hl : (t : Int) < Builtin.Range.rangeSize i j c := by unfold rgN at ht; omega
    unfold Builtin.Range.rangeSize at hl
    rw [if_pos hc] at hl
    refine ⟨by omega, ?_, ?_⟩
    · split at hl
      · have h1 : (t : Int) * c ≤ (j - i - 1) / c * c := Int.mul_le_mul_of_nonneg_right (by omega) (by omega)
        have h2 := Int.ediv_mul_le (j - i - 1) (b := c) (by omega)
        omega
      · omega
    · rw [show i + (t : Int) * c - i = t * c by omega]
      exact Int.mul_emod_left _ _
  · rintro ⟨h1, h2, h3⟩
    obtain ⟨t, ht⟩ := Int.dvd_of_emod_eq_zero h3
    have t0 : 0 ≤ t := by
      by_cases z : 0 ≤ t
      · exact z
      · have : c * t < 0 := Int.mul_neg_of_pos_of_neg hc (by omega)
        omega
    refine ⟨t.toNat, List.mem_range.mpr ?_, ?_⟩
    · have hl : t < Builtin.Range.rangeSize i j c := by
        unfold Builtin.Range.rangeSize
        rw [if_pos hc, if_pos (by omega)]
        have : t ≤ (j - i - 1) / c := by
          rw [Int.le_ediv_iff_mul_le hc]
          rw [Int.mul_comm]
          omega
        omega
      unfold rgN
      omega
    · rw [Int.toNat_of_nonneg t0, Int.mul_comm]
      omega
theorem inc_append {l m : List Int} (hl : l.Pairwise (· < ·)) (hm : m.Pairwise (· < ·)) (h : ∀ a ∈ l, ∀ b ∈ m, a < b) : (l ++ m).Pairwise (· < ·) := List.pairwise_append.mpr ⟨hl, hm, h⟩
/-! ### places -/
def plf (s : Int) : Int → List Bk → List Int
  | _, [] => []
  | ff, b :: r => rg3 (upS ff s) s (rgN (upS ff s) (b.1 - s + 1) s) ++ plf s (b.1 + b.2) r
def free (s : Int) (bs : List Bk) (W k : Int) : Prop := k % s = 0 ∧ 0 ≤ k ∧ k + s ≤ W ∧ ∀ b ∈ bs, k + s ≤ b.1 ∨ b.1 + b.2 ≤ k
theorem up_mod {s ff k : Int} (hs : 0 < s) : upS ff s ≤ k ∧ (k - upS ff s) % s = 0 ↔ ff ≤ k ∧ k % s = 0 := by
  have h1 := upS_ge (x := ff) hs
  have h2 := upS_lt (x := ff) hs
  have h3 := upS_mod (x := ff) (s := s)
  obtain ⟨q, hq⟩ := Int.dvd_of_emod_eq_zero h3
  constructor
  · rintro ⟨a, b⟩
    refine ⟨by omega, ?_⟩
    obtain ⟨r, hr⟩ := Int.dvd_of_emod_eq_zero b
    have : k = s * (q + r) := by rw [Int.mul_add]; omega
    rw [this]
    exact Int.mul_emod_right _ _
  · rintro ⟨a, b⟩
    obtain ⟨r, hr⟩ := Int.dvd_of_emod_eq_zero b
    have e : k - upS ff s = s * (r - q) := by rw [Int.mul_sub]; omega
    refine ⟨?_, by rw [e]; exact Int.mul_emod_right _ _⟩
    by_cases z : upS ff s ≤ k
    · exact z
    · exfalso
      have : r - q < 0 := by
        by_cases z2 : r - q < 0
        · exact z2
        · have : 0 ≤ s * (r - q) := Int.mul_nonneg (by omega) (by omega)
          omega
      have h5 : s * (r - q) ≤ s * (-1) := Int.mul_le_mul_of_nonneg_left (by omega) (by omega)
      omega
theorem plf_mem {s W : Int} (hs : 0 < s) : ∀ (bs : List Bk) (ff : Int), (∀ b ∈ bs, ff ≤ b.1 ∧ 1 ≤ b.2 ∧ b.1 + b.2 ≤ W) → bs.Pairwise (fun b c => b.1 + b.2 ≤ c.1) → ff ≤ W → ∀ k, k ∈ plf s ff (bs ++ [(W, 0)]) ↔ k % s = 0 ∧ ff ≤ k ∧ k + s ≤ W ∧ ∀ b ∈ bs, k + s ≤ b.1 ∨ b.1 + b.2 ≤ k
  | [], ff, _, _, _, k => by
    show k ∈ rg3 (upS ff s) s (rgN (upS ff s) (W - s + 1) s) ++ [] ↔ _
    rw [List.append_nil, mem_rg3 hs]
    have h := up_mod (ff := ff) (k := k) hs
    constructor
    · rintro ⟨a, b, c⟩
      obtain ⟨d, e⟩ := h.mp ⟨a, c⟩
      exact ⟨e, d, by omega, fun b hb => by cases hb⟩
    · rintro ⟨a, b, c, _⟩
      obtain ⟨d, e⟩ := h.mpr ⟨b, a⟩
      exact ⟨d, by omega, e⟩
  | b :: r, ff, hb, hp, hW, k => by
    obtain ⟨p1, p2⟩ := List.pairwise_cons.mp hp
    obtain ⟨b1, b2, b3⟩ := hb b (List.mem_cons_self ..)
    have ih := plf_mem hs r (b.1 + b.2) (fun c hc => ⟨p1 c hc, (hb c (List.mem_cons_of_mem _ hc)).2⟩) p2 b3 k
    show k ∈ rg3 (upS ff s) s (rgN (upS ff s) (b.1 - s + 1) s) ++ plf s (b.1 + b.2) (r ++ [(W, 0)]) ↔ _
    rw [List.mem_append, mem_rg3 hs, ih]
    have h := up_mod (ff := ff) (k := k) hs
    constructor
    · rintro (⟨a, c, d⟩ | ⟨a, c, d, e⟩)
      · obtain ⟨f, g⟩ := h.mp ⟨a, d⟩
        refine ⟨g, f, by omega, fun x hx => ?_⟩
        rcases List.mem_cons.mp hx with z | z
        · rw [z]; left; omega
        · have := p1 x z
          left; omega
      · refine ⟨a, by omega, d, fun x hx => ?_⟩
        rcases List.mem_cons.mp hx with z | z
        · rw [z]; right; exact c
        · exact e x z
    · rintro ⟨a, c, d, e⟩
      rcases e b (List.mem_cons_self ..) with z | z
      · obtain ⟨f, g⟩ := h.mpr ⟨c, a⟩
        exact .inl ⟨f, by omega, g⟩
      · exact .inr ⟨a, z, d, fun x hx => e x (List.mem_cons_of_mem _ hx)⟩
theorem plf_inc {s W : Int} (hs : 0 < s) : ∀ (bs : List Bk) (ff : Int), (∀ b ∈ bs, ff ≤ b.1 ∧ 1 ≤ b.2 ∧ b.1 + b.2 ≤ W) → bs.Pairwise (fun b c => b.1 + b.2 ≤ c.1) → ff ≤ W → (plf s ff (bs ++ [(W, 0)])).Pairwise (· < ·)
  | [], ff, _, _, _ => by
    show (rg3 (upS ff s) s (rgN (upS ff s) (W - s + 1) s) ++ []).Pairwise (· < ·)
    rw [List.append_nil]
    exact rg3_inc hs _
  | b :: r, ff, hb, hp, hW => by
    obtain ⟨p1, p2⟩ := List.pairwise_cons.mp hp
    obtain ⟨b1, b2, b3⟩ := hb b (List.mem_cons_self ..)
    have hb' : ∀ c ∈ r, b.1 + b.2 ≤ c.1 ∧ 1 ≤ c.2 ∧ c.1 + c.2 ≤ W := fun c hc => ⟨p1 c hc, (hb c (List.mem_cons_of_mem _ hc)).2⟩
    refine inc_append (rg3_inc hs _) (plf_inc hs r (b.1 + b.2) hb' p2 b3) fun x hx y hy => ?_
    have h1 := ((mem_rg3 hs).mp hx).2.1
    have h2 := ((plf_mem hs r (b.1 + b.2) hb' p2 b3 y).mp hy).2.1
    omega
theorem St.bnd {C : List Int} {W : Int} {bs : List Bk} (st : St C W bs) : ∀ b ∈ bs, 0 ≤ b.1 ∧ 1 ≤ b.2 ∧ b.1 + b.2 ≤ W := fun b hb => let ⟨_, h1, h2, _, h3⟩ := st.ok b hb; ⟨h2, h1, h3⟩
/-! ### a state behind another one -/
def mv (d : Int) (bs : List Bk) : List Bk := bs.map fun b => (b.1 + d, b.2)
theorem mem_mv {d : Int} {bs : List Bk} {c : Bk} : c ∈ mv d bs ↔ ∃ b ∈ bs, c = (b.1 + d, b.2) := by
  unfold mv
  rw [List.mem_map]
  exact ⟨fun ⟨b, h, e⟩ => ⟨b, h, e.symm⟩, fun ⟨b, h, e⟩ => ⟨b, h, e.symm⟩⟩
theorem St.cat {C : List Int} {L m g : Int} {bs cs : List Bk} (hC : ∀ z ∈ C, 1 ≤ z ∧ L % z = 0) (hL : 1 ≤ L) (hm : 0 ≤ m) (hg : 0 ≤ g) (h1 : St C (m * L) bs) (h2 : St C (g * L) cs) : St C ((m + g) * L) (bs ++ mv (m * L) cs) := by
  have e : (m + g) * L = m * L + g * L := Int.add_mul _ _ _
  have m0 : 0 ≤ m * L := Int.mul_nonneg hm (by omega)
  have g0 : 0 ≤ g * L := Int.mul_nonneg hg (by omega)
  refine ⟨fun b hb => ?_, ?_⟩
  · rcases List.mem_append.mp hb with z | z
    · obtain ⟨a1, a2, a3, a4, a5⟩ := h1.ok b z
      exact ⟨a1, a2, a3, a4, by omega⟩
    · obtain ⟨c, hc, rfl⟩ := mem_mv.mp z
      obtain ⟨a1, a2, a3, a4, a5⟩ := h2.ok c hc
      refine ⟨a1, a2, by show 0 ≤ c.1 + m * L; omega, ?_, by show c.1 + m * L + c.2 ≤ _; omega⟩
      show (c.1 + m * L) % c.2 = 0
      exact Int.emod_eq_zero_of_dvd (Int.dvd_add (Int.dvd_of_emod_eq_zero a4) (Int.dvd_trans (Int.dvd_of_emod_eq_zero (hC _ a1).2) ⟨m, Int.mul_comm _ _⟩))
  · refine List.pairwise_append.mpr ⟨h1.asc, ?_, fun b hb c hc => ?_⟩
    · unfold mv
      rw [List.pairwise_map]
      refine h2.asc.imp fun {a b} h => ?_
      show a.1 + m * L + a.2 ≤ b.1 + m * L
      omega
    · obtain ⟨x, hx, rfl⟩ := mem_mv.mp hc
      have := (h1.ok b hb).2.2.2.2
      have := (h2.ok x hx).2.2.1
      show b.1 + b.2 ≤ x.1 + m * L
      omega
theorem pl_cat {C : List Int} {L m g s : Int} {bs cs : List Bk} (hs : 0 < s) (hsL : L % s = 0) (hC : ∀ z ∈ C, 1 ≤ z ∧ L % z = 0) (hL : 1 ≤ L) (hm : 0 ≤ m) (hg : 0 ≤ g) (h1 : St C (m * L) bs) (h2 : St C (g * L) cs) :
    plf s 0 (bs ++ mv (m * L) cs ++ [((m + g) * L, 0)]) = plf s 0 (bs ++ [(m * L, 0)]) ++ (plf s 0 (cs ++ [(g * L, 0)])).map (· + m * L) := by
  have e : (m + g) * L = m * L + g * L := Int.add_mul _ _ _
  have m0 : 0 ≤ m * L := Int.mul_nonneg hm (by omega)
  have g0 : 0 ≤ g * L := Int.mul_nonneg hg (by omega)
  have h3 := h1.cat hC hL hm hg h2
  have M1 := plf_mem hs bs 0 h1.bnd h1.asc m0
  have M2 := plf_mem hs cs 0 h2.bnd h2.asc g0
  have M3 := plf_mem hs _ 0 h3.bnd h3.asc (by omega)
  have hd : s ∣ m * L := Int.dvd_trans (Int.dvd_of_emod_eq_zero hsL) ⟨m, Int.mul_comm _ _⟩
  refine inc_ext (plf_inc hs _ 0 h3.bnd h3.asc (by omega)) (inc_append (plf_inc hs _ 0 h1.bnd h1.asc m0) ?_ fun a ha b hb => ?_) fun k => ?_
  · rw [List.pairwise_map]
    exact (plf_inc hs _ 0 h2.bnd h2.asc g0).imp fun {a b} h => by omega
  · obtain ⟨x, hx, rfl⟩ := List.mem_map.mp hb
    have := ((M1 a).mp ha).2.2.1
    have := ((M2 x).mp hx).2.1
    omega
  · rw [M3, List.mem_append, M1, List.mem_map]
    constructor
    · rintro ⟨a, b, c, d⟩
      by_cases hk : k + s ≤ m * L
      · exact .inl ⟨a, b, hk, fun x hx => d x (List.mem_append_left _ hx)⟩
      · right
        have hk2 : m * L ≤ k := by
          obtain ⟨q, hq⟩ := hd
          obtain ⟨r, hr⟩ := Int.dvd_of_emod_eq_zero a
          by_cases z : m * L ≤ k
          · exact z
          · exfalso
            have : r < q := by
              by_cases z2 : r < q
              · exact z2
              · have : s * q ≤ s * r := Int.mul_le_mul_of_nonneg_left (by omega) (by omega)
                omega
            have : s * (r + 1) ≤ s * q := Int.mul_le_mul_of_nonneg_left (by omega) (by omega)
            rw [Int.mul_add, Int.mul_one] at this
            omega
        refine ⟨k - m * L, (M2 _).mpr ⟨Int.emod_eq_zero_of_dvd (Int.dvd_sub (Int.dvd_of_emod_eq_zero a) hd), by omega, by omega, fun x hx => ?_⟩, by omega⟩
        have := d (x.1 + m * L, x.2) (List.mem_append_right _ (mem_mv.mpr ⟨x, hx, rfl⟩))
        dsimp only at this
        omega
    · rintro (⟨a, b, c, d⟩ | ⟨x, hx, rfl⟩)
      · refine ⟨a, b, by omega, fun y hy => ?_⟩
        rcases List.mem_append.mp hy with z | z
        · exact d y z
        · obtain ⟨c2, hc2, rfl⟩ := mem_mv.mp z
          have := (h2.ok c2 hc2).2.2.1
          left
          show k + s ≤ c2.1 + m * L
          omega
      · obtain ⟨a, b, c, d⟩ := (M2 x).mp hx
        refine ⟨Int.emod_eq_zero_of_dvd (Int.dvd_add (Int.dvd_of_emod_eq_zero a) hd), by omega, by omega, fun y hy => ?_⟩
        rcases List.mem_append.mp hy with z | z
        · have := (h1.ok y z).2.2.2.2
          right
          omega
        · obtain ⟨c2, hc2, rfl⟩ := mem_mv.mp z
          have := d c2 hc2
          show x + m * L + s ≤ c2.1 + m * L ∨ c2.1 + m * L + c2.2 ≤ x + m * L
          omega
/-! ### keepers -/
theorem kp_cat {C : List Int} {L m g s : Int} {bs cs : List Bk} (hs : 0 < s) (hsL : L % s = 0) (hL : 1 ≤ L) (hm : 0 ≤ m) (h1 : St C (m * L) bs) (h2 : St C (g * L) cs) : kp s (bs ++ mv (m * L) cs) = kp s bs ++ mv (m * L) (kp s cs) := by
  obtain ⟨q, hq⟩ : s ∣ m * L := Int.dvd_trans (Int.dvd_of_emod_eq_zero hsL) ⟨m, Int.mul_comm _ _⟩
  have sh : ∀ x : Int, (x + m * L) / s = x / s + q := fun x => by rw [hq, Int.add_mul_ediv_left _ _ (by omega)]
  have lo : ∀ b ∈ bs, b.1 / s < q := fun b hb => by
    have := (h1.ok b hb)
    obtain ⟨_, a1, _, _, a2⟩ := this
    exact Int.ediv_lt_of_lt_mul hs (by rw [Int.mul_comm]; omega)
  have hi : ∀ c ∈ cs, q ≤ (c.1 + m * L) / s := fun c hc => by
    have h0 := (h2.ok c hc).2.2.1
    have : 0 ≤ c.1 / s := Int.ediv_nonneg h0 (by omega)
    rw [sh]
    omega
  unfold kp
  rw [List.filter_append]
  congr 1
  · refine List.filter_congr fun b hb => ?_
    rw [Bool.eq_iff_iff, decide_eq_true_iff, decide_eq_true_iff]
    constructor
    · exact fun z c hc e => z c (List.mem_append_left _ hc) e
    · intro z c hc e
      rcases List.mem_append.mp hc with y | y
      · exact z c y e
      · obtain ⟨x, hx, rfl⟩ := mem_mv.mp y
        have h3 := lo b hb
        have h4 := hi x hx
        dsimp only at e
        omega
  · unfold mv
    rw [List.filter_map]
    congr 1
    refine List.filter_congr fun b hb => ?_
    show decide (best s (bs ++ mv (m * L) cs) (b.1 + m * L, b.2)) = _
    rw [Bool.eq_iff_iff, decide_eq_true_iff, decide_eq_true_iff]
    constructor
    · intro z c hc e
      have := z (c.1 + m * L, c.2) (List.mem_append_right _ (mem_mv.mpr ⟨c, hc, rfl⟩)) (by dsimp only; rw [sh, sh, e])
      unfold btr at this ⊢
      dsimp only at this
      omega
    · intro z c hc e
      rcases List.mem_append.mp hc with y | y
      · have h3 := lo c y
        have h4 := hi b hb
        dsimp only at e
        omega
      · obtain ⟨x, hx, rfl⟩ := mem_mv.mp y
        dsimp only at e
        rw [sh, sh] at e
        have := z x hx (by omega)
        unfold btr at this ⊢
        dsimp only
        omega
/-! ### reaches -/
def rch (l : Int) (bs : List Bk) : Int := mxd 0 ((bs.filter fun b => decide (b.2 ≤ l)).map fun b => b.1 + b.2)
theorem foldl_max : ∀ (l : List Int) (n : Int), (∀ x ∈ l, x ≤ l.foldl max n) ∧ n ≤ l.foldl max n ∧ (l.foldl max n = n ∨ l.foldl max n ∈ l)
  | [], n => ⟨(fun x hx => nomatch hx), Int.le_refl _, .inl rfl⟩
  | a :: r, n => by
    obtain ⟨h1, h2, h3⟩ := foldl_max r (max n a)
    rw [List.foldl_cons]
    refine ⟨fun x hx => ?_, by omega, ?_⟩
    · rcases List.mem_cons.mp hx with e | e
      · rw [e]; omega
      · exact h1 x e
    · rcases h3 with e | e
      · rcases (by omega : max n a = n ∨ max n a = a) with z | z
        · left; omega
        · right; rw [e, z]; exact List.mem_cons_self ..
      · right; exact List.mem_cons_of_mem _ e
theorem mxd_spec {l : List Int} (h : ∀ x ∈ l, 0 < x) : (l = [] ∧ mxd 0 l = 0) ∨ (mxd 0 l ∈ l ∧ ∀ x ∈ l, x ≤ mxd 0 l) := by
  cases l with
  | nil => exact .inl ⟨rfl, rfl⟩
  | cons n r =>
    right
    obtain ⟨h1, h2, h3⟩ := foldl_max r n
    show r.foldl max n ∈ n :: r ∧ ∀ x ∈ n :: r, x ≤ r.foldl max n
    refine ⟨?_, fun x hx => ?_⟩
    · rcases h3 with e | e
      · rw [e]; exact List.mem_cons_self ..
      · exact List.mem_cons_of_mem _ e
    · rcases List.mem_cons.mp hx with e | e
      · rw [e]; exact h2
      · exact h1 x e
theorem rch_cat {C : List Int} {L m g l : Int} {bs cs : List Bk} (hL : 1 ≤ L) (hm : 0 ≤ m) (h1 : St C (m * L) bs) (h2 : St C (g * L) cs) : rch l (bs ++ mv (m * L) cs) = if rch l cs = 0 then rch l bs else rch l cs + m * L := by
  have m0 : 0 ≤ m * L := Int.mul_nonneg hm (by omega)
  have e2 : ((mv (m * L) cs).filter fun b => decide (b.2 ≤ l)).map (fun b => b.1 + b.2) = ((cs.filter fun b => decide (b.2 ≤ l)).map fun b => b.1 + b.2).map (· + m * L) := by
    unfold mv
    rw [List.filter_map, List.map_map, List.map_map]
    exact List.map_congr_left fun b _ => by show b.1 + m * L + b.2 = b.1 + b.2 + m * L; omega
  have p1 : ∀ x ∈ (bs.filter fun b => decide (b.2 ≤ l)).map (fun b => b.1 + b.2), 0 < x ∧ x ≤ m * L := fun x hx => by
    obtain ⟨b, hb, rfl⟩ := List.mem_map.mp hx
    obtain ⟨_, a1, a2, _, a3⟩ := h1.ok b (List.mem_filter.mp hb).1
    omega
  have p2 : ∀ x ∈ (cs.filter fun b => decide (b.2 ≤ l)).map (fun b => b.1 + b.2), 0 < x := fun x hx => by
    obtain ⟨b, hb, rfl⟩ := List.mem_map.mp hx
    obtain ⟨_, a1, a2, _, a3⟩ := h2.ok b (List.mem_filter.mp hb).1
    omega
  unfold rch
  rw [List.filter_append, List.map_append, e2]
  generalize (bs.filter fun b => decide (b.2 ≤ l)).map (fun b => b.1 + b.2) = l1 at p1
  generalize (cs.filter fun b => decide (b.2 ≤ l)).map (fun b => b.1 + b.2) = l2 at p2
  rcases mxd_spec p2 with ⟨z1, z2⟩ | ⟨z1, z2⟩
  · rw [if_pos z2, z1]
    simp
  · have hne : mxd 0 l2 ≠ 0 := by have := p2 _ z1; omega
    rw [if_neg hne]
    have p3 : ∀ x ∈ l1 ++ l2.map (· + m * L), 0 < x := fun x hx => by
      rcases List.mem_append.mp hx with y | y
      · exact (p1 x y).1
      · obtain ⟨w, hw, rfl⟩ := List.mem_map.mp y
        have := p2 w hw
        omega
    rcases mxd_spec p3 with ⟨y1, _⟩ | ⟨y1, y2⟩
    · have : mxd 0 l2 + m * L ∈ l1 ++ l2.map (· + m * L) := List.mem_append_right _ (List.mem_map.mpr ⟨_, z1, rfl⟩)
      rw [y1] at this
      cases this
    · have a1 := y2 _ (List.mem_append_right _ (List.mem_map.mpr ⟨_, z1, rfl⟩))
      rcases List.mem_append.mp y1 with y | y
      · have := p1 _ y
        have := p2 _ z1
        omega
      · obtain ⟨w, hw, e⟩ := List.mem_map.mp y
        have := z2 w hw
        omega
end Ph

namespace Ph
open PySem PySem.Spec PyProof.Rows L2
structure Fns (K : PySem.W.Frag) (mg : Str → Option Value) where
  N : Nm5 K mg
  fI : Addr
  fdI : FuncData
  FI : Fun K "is_integer" "is_integer" (topS 4) fI fdI
  bI : Binds K fdI ["value"] []
  gI : mg "is_integer" = some (.ref fI)
  fDu : Addr
  fdDu : FuncData
  FDu : Fun K "divided_up" "divided_up" (topS 5) fDu fdDu
  bDu : Binds K fdDu ["number", "divisor"] []
  gDu : mg "divided_up" = some (.ref fDu)
  fZ : Addr
  fdZ : FuncData
  FZ : Fun K "is_size" "is_size" (topS 7) fZ fdZ
  bZ : Binds K fdZ ["chain", "value"] []
  gZ : mg "is_size" = some (.ref fZ)
  fC : Addr
  fdC : FuncData
  FC : Fun K "class_of" "class_of" (topS 8) fC fdC
  bC : Binds K fdC ["chain", "size"] []
  gC : mg "class_of" = some (.ref fC)
  fS : Addr
  fdS : FuncData
  FS : Fun K "is_state" "is_state" (topS 10) fS fdS
  bS : Binds K fdS ["chain", "pages", "value"] []
  gS : mg "is_state" = some (.ref fS)
  fB : Addr
  fdB : FuncData
  FB : Fun K "is_block" "is_block" (topS 11) fB fdB
  bB : Binds K fdB ["chain", "value"] []
  gB : mg "is_block" = some (.ref fB)
  fV : Addr
  fdV : FuncData
  FV : Fun K "live_words" "live_words" (topS 12) fV fdV
  bV : Binds K fdV ["state"] []
  gV : mg "live_words" = some (.ref fV)
  fPl : Addr
  fdPl : FuncData
  FPl : Fun K "places" "places" (topS 13) fPl fdPl
  bPl : Binds K fdPl ["chain", "pages", "state", "size"] []
  gPl : mg "places" = some (.ref fPl)
  fGp : Addr
  fdGp : FuncData
  FGp : Fun K "gaps" "gaps" (topS 14) fGp fdGp
  bGp : Binds K fdGp ["chain", "pages", "state", "size"] []
  gGp : mg "gaps" = some (.ref fGp)
  fU : Addr
  fdU : FuncData
  FU : Fun K "used_pages" "used_pages" (topS 15) fU fdU
  bU : Binds K fdU ["chain", "state"] []
  gU : mg "used_pages" = some (.ref fU)
  fRs : Addr
  fdRs : FuncData
  FRs : Fun K "reaches" "reaches" (topS 16) fRs fdRs
  bRs : Binds K fdRs ["chain", "state"] []
  gRs : mg "reaches" = some (.ref fRs)
  fR : Addr
  fdR : FuncData
  FR : Fun K "reach" "reach" (topS 17) fR fdR
  bR : Binds K fdR ["state", "largest"] []
  gR : mg "reach" = some (.ref fR)
  fK : Addr
  fdK : FuncData
  FK : Fun K "keepers" "keepers" (topS 18) fK fdK
  bK : Binds K fdK ["chain", "state", "size"] []
  gK : mg "keepers" = some (.ref fK)
  fP : Addr
  fdP : FuncData
  FP : Fun K "_law_pot" "_law_pot" (topS 20) fP fdP
  bP : Binds K fdP ["_law_script", "_law_k"] []
  gP : mg "_law_pot" = some (.ref fP)
  fT : Addr
  fdT : FuncData
  FT : Fun K "_law_take" "_law_take" (topS 21) fT fdT
  bT : Binds K fdT ["_law_pot_here", "_law_upto"] []
  gT : mg "_law_take" = some (.ref fT)
  fO : Addr
  fdO : FuncData
  FO : Fun K "_law_of" "_law_of" (topS 22) fO fdO
  bO : Binds K fdO ["_law_pot_here", "_law_some"] []
  gO : mg "_law_of" = some (.ref fO)
  fL : Addr
  fdL : FuncData
  FL : Fun K "_law_links" "_law_links" (topS 23) fL fdL
  bL : Binds K fdL ["_law_pot_here", "_law_most"] []
  gL : mg "_law_links" = some (.ref fL)
  fW : Addr
  fdW : FuncData
  FW : Fun K "_law_drawn" "_law_drawn" (topS 24) fW fdW
  bW : Binds K fdW ["_law_pot_here", "_law_links_here", "_law_many", "_law_tries"] []
  gW : mg "_law_drawn" = some (.ref fW)
  fM : Addr
  fdM : FuncData
  FM : Fun K "_law_moved" "_law_moved" (topS 25) fM fdM
  bM : Binds K fdM ["_law_heaped", "_law_words"] []
  gM : mg "_law_moved" = some (.ref fM)
  fPr : Addr
  fdPr : FuncData
  FPr : Fun K "_law_parts_right" "_law_parts_right" (topS 26) fPr fdPr
  bPr : Binds K fdPr ["_law_links_here", "_law_many", "_law_first", "_law_second", "_law_gap"] []
  gPr : mg "_law_parts_right" = some (.ref fPr)
  fLaw : Addr
  fdLaw : FuncData
  FLaw : Fun K "law" "law" (topS 27) fLaw fdLaw
  bLaw : Binds K fdLaw ["_law_script"] []
  gLaw : mg "law" = some (.ref fLaw)
abbrev sDu : Stmt := topS 5
abbrev scDuS : Stmt := sDu
abbrev scDuN : List Str := ["number", "divisor"]
theorem scDu : FnScope ["number", "divisor"] ["number", "divisor"] (defScope sDu) := ⟨rfl, rfl, rfl, by decide +kernel, rfl, by decide +kernel, by decide +kernel⟩
abbrev sPl : Stmt := topS 13
abbrev scPlS : Stmt := sPl
abbrev scPlN : List Str := ["chain", "pages", "state", "size", "found", "first", "last"]
theorem scPl : FnScope ["chain", "pages", "state", "size", "found", "first", "last"] ["chain", "pages", "state", "size"] (defScope sPl) := ⟨rfl, rfl, rfl, by decide +kernel, rfl, by decide +kernel, by decide +kernel⟩
abbrev sGp : Stmt := topS 14
abbrev scGpS : Stmt := sGp
abbrev scGpN : List Str := ["chain", "pages", "state", "size", "found", "free_from", "address", "taken", "first", "last"]
theorem scGp : FnScope ["chain", "pages", "state", "size", "found", "free_from", "address", "taken", "first", "last"] ["chain", "pages", "state", "size"] (defScope sGp) := ⟨rfl, rfl, rfl, by decide +kernel, rfl, by decide +kernel, by decide +kernel⟩
abbrev sU : Stmt := topS 15
abbrev scUS : Stmt := sU
abbrev scUN : List Str := ["chain", "state", "address", "size"]
theorem scU : FnScope ["chain", "state", "address", "size"] ["chain", "state"] (defScope sU) := ⟨rfl, rfl, rfl, by decide +kernel, rfl, by decide +kernel, by decide +kernel⟩
abbrev sRs : Stmt := topS 16
abbrev scRsS : Stmt := sRs
abbrev scRsN : List Str := ["chain", "state", "largest"]
theorem scRs : FnScope ["chain", "state", "largest"] ["chain", "state"] (defScope sRs) := ⟨rfl, rfl, rfl, by decide +kernel, rfl, by decide +kernel, by decide +kernel⟩
abbrev sR : Stmt := topS 17
abbrev scRS : Stmt := sR
abbrev scRN : List Str := ["state", "largest", "address", "size"]
theorem scR : FnScope ["state", "largest", "address", "size"] ["state", "largest"] (defScope sR) := ⟨rfl, rfl, rfl, by decide +kernel, rfl, by decide +kernel, by decide +kernel⟩
abbrev sM : Stmt := topS 25
abbrev scMS : Stmt := sM
abbrev scMN : List Str := ["_law_heaped", "_law_words", "_law_start", "_law_size"]
theorem scM : FnScope ["_law_heaped", "_law_words", "_law_start", "_law_size"] ["_law_heaped", "_law_words"] (defScope sM) := ⟨rfl, rfl, rfl, by decide +kernel, rfl, by decide +kernel, by decide +kernel⟩
/-! ### comprehensions whose steps lay new things -/
theorem lc_tupR {K : PySem.W.Frag} {a : Addr} {xs : List V} {g : TG} {te : TE} {vs : List Nat} {σ : L2.St} {H1 : Hp} {D : Addr} {Qd : Hp → Prop} (R : Hp → V → V → Prop) (mono : ∀ H H' x y, (∀ v zs, H v = some (.tup zs) → H' v = some (.tup zs)) → R H x y → R H' x y)
    (ht : SqT K H1 a xs) (nD : H1 D = none) (hlen : xs.length < sizeLine)
    (hs : ∀ x ∈ xs, ∀ H, Same H1 H → ∀ Y : V → Hp → Prop, (∀ y H', Same H H' → R H' x y → Y y H') → g x (wipe σ vs) H fun σ2 H2 => wipe σ2 vs = wipe σ vs ∧ te σ2 H2 Y)
    (hd : ∀ H ys, Same H1 H → H D = some (.lst ys) → Paired (R H) xs ys → Qd H) :
    ∃ W : Nat → Nat → Hp → Prop, (∃ m, W 0 m (upd H1 D (.lst []))) ∧ ∀ i m H, W i m H →
      ((Itt K a).stop i H ∧ Qd H) ∨ ((Itt K a).go i H ∧ ∃ Nx : Hp → Prop, (∀ H', Nx H' → ∃ m', m' < m ∧ W (i + 1) m' H') ∧ ∀ x H', (Itt K a).yld i H x H' → g x (wipe σ vs) H' fun σ2 H2 => wipe σ2 vs = wipe σ vs ∧ tYes σ2 H2 fun b H3 =>
        if b = true then te σ2 H3 fun y H4 => ∃ acc, H4 D = some (.lst acc) ∧ acc.length < sizeLine ∧ Nx (upd H4 D (.lst (acc ++ [y]))) else Nx H3) := by
  refine lc_tup (fun i H => Same H1 H ∧ ∃ ys, H D = some (.lst ys) ∧ Paired (R H) (xs.take i) ys) ⟨same_upd nD, [], upd_same, .nil⟩ (fun i H _ p => p.1.tup ht) (fun i x H hx p => ?_) (fun H p => ?_)
  · obtain ⟨sm, ys, hD, pr⟩ := p
    have hlen2 : ys.length < sizeLine := by
      have h1 := pr.length
      rw [List.length_take] at h1
      omega
    have := hs x (List.mem_of_getElem? hx) H sm (fun y H4 => ∃ acc, H4 D = some (.lst acc) ∧ acc.length < sizeLine ∧ (Same H1 (upd H4 D (.lst (acc ++ [y]))) ∧ ∃ ys, upd H4 D (.lst (acc ++ [y])) D = some (.lst ys) ∧ Paired (R (upd H4 D (.lst (acc ++ [y])))) (xs.take (i + 1)) ys)) (fun y H4 s4 r4 => ?_)
    · exact this
    · have hD4 := s4 _ _ hD
      have tk : ∀ v zs, H4 v = some (.tup zs) → upd H4 D (.lst (ys ++ [y])) v = some (.tup zs) := fun v zs e => by
        rw [upd_ne (ne_of e hD4 (by intro z; cases z))]
        exact e
      refine ⟨ys, hD4, hlen2, fun b o e => ?_, ys ++ [y], upd_same, ?_⟩
      · rw [upd_ne (ne_of_none e nD)]
        exact s4 _ _ (sm _ _ e)
      · rw [List.take_add_one, hx]
        exact Paired.snoc (paired_imp (fun a b h => mono _ _ _ _ (fun v zs e => tk v zs (s4 _ _ e)) h) pr) (mono _ _ _ _ tk r4)
  · obtain ⟨sm, ys, hD, pr⟩ := p
    rw [List.take_of_length_le (Nat.le_refl _)] at pr
    exact hd H ys sm hD pr
theorem paired_fun {α β : Type} {f : α → β} {F : α → β → Prop} (h : ∀ a b, F a b → b = f a) : ∀ {l : List α} {m : List β}, Paired F l m → m = l.map f
  | _, _, .nil => rfl
  | _, _, .cons x r => by rw [List.map_cons, h _ _ x, paired_fun h r]
theorem fm_if (p : Bk → Bool) (f : Bk → Int) (k : V → Bk) : ∀ xs : List V, xs.filterMap (fun x => if p (k x) = true then some (V.int (f (k x))) else none) = (((xs.map k).filter p).map f).map V.int
  | [] => rfl
  | x :: r => by
    have ih := fm_if p f k r
    by_cases c : p (k x) = true
    · rw [List.map_cons, List.filter_cons_of_pos c, List.map_cons, List.map_cons, ← ih, List.filterMap_cons_some (b := V.int (f (k x))) (by rw [if_pos c])]
    · rw [List.map_cons, List.filter_cons_of_neg c, ← ih, List.filterMap_cons_none (by rw [if_neg c])]
theorem u2_of {A : Around} {k : Nat} (hr : Room k A) : A.units + 2 < cLine := by have := hr.un; omega
/-! ### places, one after another -/
def fin : Int → List Bk → Int
  | ff, [] => ff
  | _, b :: r => fin (b.1 + b.2) r
theorem fin_snoc : ∀ (l : List Bk) (ff : Int) (b : Bk), fin ff (l ++ [b]) = b.1 + b.2
  | [], _, _ => rfl
  | _ :: r, _, b => fin_snoc r _ b
theorem plf_snoc (s : Int) : ∀ (l : List Bk) (ff : Int) (b : Bk), plf s ff (l ++ [b]) = plf s ff l ++ rg3 (upS (fin ff l) s) s (rgN (upS (fin ff l) s) (b.1 - s + 1) s)
  | [], ff, b => by
    show rg3 _ _ _ ++ [] = [] ++ _
    rw [List.append_nil]
    rfl
  | c :: r, ff, b => by
    show rg3 _ _ _ ++ plf s (c.1 + c.2) (r ++ [b]) = (rg3 _ _ _ ++ plf s (c.1 + c.2) r) ++ _
    rw [plf_snoc s r, List.append_assoc]
    rfl
theorem rg3_len (i c : Int) (n : Nat) : (rg3 i c n).length = n := by unfold rg3; simp
theorem plf_len {s : Int} (hs : 0 < s) : ∀ (l : List Bk) (ff e : Int), (∀ b ∈ l, ff ≤ b.1 ∧ 0 ≤ b.2 ∧ b.1 + b.2 ≤ e) → l.Pairwise (fun b c => b.1 + b.2 ≤ c.1) → ff ≤ e → (plf s ff l).length ≤ (e - ff).toNat
  | [], ff, e, _, _, _ => by show 0 ≤ _; omega
  | b :: r, ff, e, hb, hp, he => by
    obtain ⟨p1, p2⟩ := List.pairwise_cons.mp hp
    obtain ⟨b1, b2, b3⟩ := hb b (List.mem_cons_self ..)
    have ih := plf_len hs r (b.1 + b.2) e (fun c hc => ⟨p1 c hc, (hb c (List.mem_cons_of_mem _ hc)).2⟩) p2 b3
    show (rg3 _ _ _ ++ plf s (b.1 + b.2) r).length ≤ _
    rw [List.length_append, rg3_len]
    have h1 := rgN_le (i := upS ff s) (j := b.1 - s + 1) hs
    have h2 := upS_ge (x := ff) hs
    omega
theorem fin_bnd : ∀ (l : List Bk) (ff e : Int), (∀ b ∈ l, ff ≤ b.1 ∧ 0 ≤ b.2 ∧ b.1 + b.2 ≤ e) → ff ≤ e → l.Pairwise (fun b c => b.1 + b.2 ≤ c.1) → ff ≤ fin ff l ∧ fin ff l ≤ e
  | [], ff, e, _, he, _ => ⟨Int.le_refl _, he⟩
  | b :: r, ff, e, hb, he, hp => by
    obtain ⟨p1, p2⟩ := List.pairwise_cons.mp hp
    obtain ⟨b1, b2, b3⟩ := hb b (List.mem_cons_self ..)
    have ih := fin_bnd r (b.1 + b.2) e (fun c hc => ⟨p1 c hc, (hb c (List.mem_cons_of_mem _ hc)).2⟩) b3 p2
    show ff ≤ fin (b.1 + b.2) r ∧ _
    exact ⟨by omega, ih.2⟩
theorem RgC.up {i j c : Int} (hc : 0 < c) (hc2 : c < 1073741824) (hi : -(2 ^ 61) ≤ i ∧ i < 2 ^ 61) (hj : -(2 ^ 61) ≤ j ∧ j < 2 ^ 61) : RgC i j c (rgN i j c) := by
  have h1 := rgN_le (i := i) (j := j) hc
  have h0 := rgN_nonneg (i := i) (j := j) hc
  have h2 : Builtin.Range.rangeSize i j c = ((rgN i j c : Nat) : Int) := by unfold rgN; omega
  refine ⟨by omega, by omega, ?_, h2⟩
  unfold Builtin.Range.small
  rw [h2]
  simp only [Builtin.Range.rangeFitsLong, Bool.and_eq_true, Bool.or_eq_true, decide_eq_true_eq, beq_iff_eq, if_pos hc]
  omega
theorem St.asc0 {C : List Int} {W : Int} {bs : List Bk} (st : St C W bs) (h0 : 0 ≤ W) : (∀ b ∈ bs ++ [(W, 0)], 0 ≤ b.1 ∧ 0 ≤ b.2 ∧ b.1 + b.2 ≤ W) ∧ (bs ++ [(W, 0)]).Pairwise (fun b c : Bk => b.1 + b.2 ≤ c.1) := by
  refine ⟨fun b hb => ?_, List.pairwise_append.mpr ⟨st.asc, by simp, fun b hb c hc => ?_⟩⟩
  · rcases List.mem_append.mp hb with z | z
    · have := st.bnd b z
      omega
    · rw [List.mem_singleton.mp z]
      dsimp only
      omega
  · rw [List.mem_singleton.mp hc]
    exact (st.bnd b hb).2.2
theorem plf_gap {s x : Int} (hs : 0 < s) (ff a : Int) : rg3 (upS ff s) s (rgN (upS ff s) (a - s + 1) s) = if upS ff s ≤ (a - s) / s * s then rg3 (upS ff s) s (rgN (upS ff s) ((a - s) / s * s + 1) s) else [] := by
  have key : ∀ k, k % s = 0 → (k ≤ a - s ↔ k ≤ (a - s) / s * s) := fun k hk => by
    have e : k = k / s * s := by
      have := Int.mul_ediv_add_emod k s
      rw [hk, Int.mul_comm] at this
      omega
    constructor
    · intro h
      have h1 : k / s ≤ (a - s) / s := Int.ediv_le_ediv hs h
      have := Int.mul_le_mul_of_nonneg_right h1 (Int.le_of_lt hs)
      omega
    · intro h
      have := Int.ediv_mul_le (a - s) (b := s) (by omega)
      omega
  have um : upS ff s % s = 0 := upS_mod
  have mm : ∀ k, (k - upS ff s) % s = 0 → k % s = 0 := fun k h => by
    have e : k = (k - upS ff s) + upS ff s := by omega
    rw [e, Int.add_emod, h, um]
    simp
  split
  · refine inc_ext (rg3_inc hs _) (rg3_inc hs _) fun k => ?_
    rw [mem_rg3 hs, mem_rg3 hs]
    constructor
    · rintro ⟨h1, h2, h3⟩
      have := (key k (mm k h3)).mp (by omega)
      exact ⟨h1, by omega, h3⟩
    · rintro ⟨h1, h2, h3⟩
      have := (key k (mm k h3)).mpr (by omega)
      exact ⟨h1, by omega, h3⟩
  · rename_i h
    cases e : rg3 (upS ff s) s (rgN (upS ff s) (a - s + 1) s) with
    | nil => rfl
    | cons k r =>
      have hk : k ∈ rg3 (upS ff s) s (rgN (upS ff s) (a - s + 1) s) := by rw [e]; exact List.mem_cons_self ..
      rw [mem_rg3 hs] at hk
      have := (key (upS ff s) um).mp (by omega)
      omega
def gp1 (s ff : Int) (b : Bk) : List Bk := if upS ff s ≤ (b.1 - s) / s * s then [(upS ff s, (b.1 - s) / s * s)] else []
def gpf (s : Int) : Int → List Bk → List Bk
  | _, [] => []
  | ff, b :: r => gp1 s ff b ++ gpf s (b.1 + b.2) r
theorem gpf_snoc (s : Int) : ∀ (l : List Bk) (ff : Int) (b : Bk), gpf s ff (l ++ [b]) = gpf s ff l ++ gp1 s (fin ff l) b
  | [], ff, b => by show gp1 s ff b ++ [] = [] ++ _; rw [List.append_nil]; rfl
  | c :: r, ff, b => by
    show gp1 s ff c ++ gpf s (c.1 + c.2) (r ++ [b]) = gp1 s ff c ++ gpf s (c.1 + c.2) r ++ _
    rw [gpf_snoc s r, List.append_assoc]
    rfl
def gpr (s : Int) (g : Bk) : List Int := rg3 g.1 s (rgN g.1 (g.2 + 1) s)
theorem plf_gpf {s : Int} (hs : 0 < s) : ∀ (l : List Bk) (ff : Int), plf s ff l = (gpf s ff l).flatMap (gpr s)
  | [], _ => rfl
  | b :: r, ff => by
    show rg3 (upS ff s) s (rgN (upS ff s) (b.1 - s + 1) s) ++ plf s (b.1 + b.2) r = (gp1 s ff b ++ gpf s (b.1 + b.2) r).flatMap (gpr s)
    rw [plf_gpf hs r, plf_gap (x := 0) hs, List.flatMap_append]
    congr 1
    unfold gp1
    split
    · rw [List.flatMap_cons, List.flatMap_nil, List.append_nil]
      rfl
    · rfl
theorem gpf_bnd {s W : Int} (hs : 0 < s) : ∀ (l : List Bk) (ff : Int), (∀ b ∈ l, 0 ≤ b.1 ∧ 0 ≤ b.2 ∧ b.1 + b.2 ≤ W) → 0 ≤ ff → ∀ g ∈ gpf s ff l, 0 ≤ g.1 ∧ g.1 ≤ g.2 ∧ g.2 ≤ W
  | [], _, _, _, g, hg => by cases hg
  | b :: r, ff, h, hf, g, hg => by
    obtain ⟨b1, b2, b3⟩ := h b (List.mem_cons_self ..)
    rcases List.mem_append.mp hg with z | z
    · unfold gp1 at z
      split at z
      · rename_i c
        rw [List.mem_singleton.mp z]
        have := upS_ge (x := ff) hs
        have := Int.ediv_mul_le (b.1 - s) (b := s) (by omega)
        exact ⟨by show 0 ≤ upS ff s; omega, c, by show (b.1 - s) / s * s ≤ W; omega⟩
      · cases z
    · exact gpf_bnd hs r (b.1 + b.2) (fun c hc => h c (List.mem_cons_of_mem _ hc)) (by omega) g z
theorem gpf_len (s : Int) : ∀ (l : List Bk) (ff : Int), (gpf s ff l).length ≤ l.length
  | [], _ => Nat.le_refl _
  | b :: r, ff => by
    show (gp1 s ff b ++ _).length ≤ _
    have h1 := gpf_len s r (b.1 + b.2)
    have h2 : (gp1 s ff b).length ≤ 1 := by unfold gp1; split <;> simp
    rw [List.length_append, List.length_cons]
    omega
section
variable {P : Program} {w : World} {K : PySem.W.Frag} {mg : Str → Option Value} {base : Heap}
def spDu : Sp := fun vs H Q _ => ∃ n d : Int, vs = [.int n, .int d] ∧ 0 < d ∧ d < 1073741824 ∧ Q (.int (-(-n / d))) H
theorem ok_Du {k : Nat} (Z : Fns K mg) : FnOk P w K mg base CX0 (k + 1) Z.fDu Z.fdDu ["number", "divisor"] spDu := by
  refine Z.FDu.ok scDu (fun vs H Q E h => ?_) (fun cdv A outer s H vs Q E hr h => ?_)
  · obtain ⟨n, d, rfl, _⟩ := h
    rfl
  · obtain ⟨n, d, rfl, d0, d1, q⟩ := h
    refine ⟨_, (pss_one (ps_ret (pe_un un_neg (pe_op op_fdiv (pe_un un_neg (pv 0)) (pv 1))))), ?_⟩
    exact ⟨.int n, rfl, n, rfl, .int d, rfl, -n, d, rfl, rfl, ⟨d0, d1⟩, _, rfl, q⟩
def spGp : Sp := fun vs H Q _ => ∃ (c t : Addr) (C : List Int) (L m s : Int) (bs : List Bk), vs = [.ref c, .int m, .ref t, .int s] ∧ ChAt H c (C ++ [L]) ∧ s ∈ C ++ [L] ∧ 0 < s ∧ s ≤ 2000 ∧ 0 ≤ L ∧ L ≤ 2000 ∧ 0 ≤ m ∧ m ≤ 2000 ∧ StAt H t bs ∧ St (C ++ [L]) (m * L) bs ∧ bs.length ≤ 5000 ∧
  ∀ H' D ys, Same H H' → H D = none → H' D = some (.lst ys) → BL H' ys (gpf s 0 (bs ++ [(m * L, 0)])) → Q (.ref D) H'
theorem ok_Gp {k : Nat} (Z : Fns K mg) : FnOk P w K mg base CX0 (k + 1 + 1 + 1 + 1) Z.fGp Z.fdGp ["chain", "pages", "state", "size"] spGp := by
  have GC : FnOk P w K mg base CX0 (k + 1 + 1 + 1) Z.fC Z.fdC ["chain", "size"] spClass := ok_class Z.FC Z.N Z.FI Z.bI Z.gI Z.FZ Z.bZ Z.gZ
  have GDu : FnOk P w K mg base CX0 (k + 1) Z.fDu Z.fdDu ["number", "divisor"] spDu := ok_Du Z
  refine Z.FGp.ok scGp (fun vs H Q E h => ?_) (fun cdv A outer s H vs Q E hr h => ?_)
  · obtain ⟨c, t, C, L, m, s, bs, rfl, _⟩ := h
    rfl
  · obtain ⟨c, t, C, L, m, sz, bs, rfl, hc, hs, s0, s1, L0, L1, m0, m1, ⟨xs, ht, bl⟩, st, hl, q⟩ := h
    refine ⟨_, (pss_cons (ps_expr (pe_call GC (hr.mono (by omega)) (by rfl) Z.gC Z.FC.kp Z.bC .nil pass0 (pa_cons (pv 0) (pa_cons (pv 3) pa_nil))))
 (pss_cons (ps_set (i := 4) scGp.nd rfl (.inl rfl) (pe_lst pa_nil))
 (pss_cons (ps_set (i := 5) scGp.nd rfl (.inl rfl) pe_int)
 (pss_cons (ps_for PassesOwn.never rfl (pi_tup (pe_tup (StX.pa_star (pv 2) (pa_cons (pe_tup (pa_cons (pe_op op_mul (pv 1) (pe_ix ix_tup (pv 0) (pe_un un_neg pe_int) (fun _ _ => rfl))) (pa_cons pe_int pa_nil))) pa_nil)))) (pg_tup (by rfl) (pgs_cons (pg_name (i := 6) scGp.nd rfl (.inl rfl)) (pgs_cons (pg_name (i := 7) scGp.nd rfl (.inl rfl)) pgs_nil)))
 (pss_cons (ps_set (i := 8) scGp.nd rfl (.inl rfl) (pe_op op_mul (pe_call GDu (hr.mono (by omega)) (by rfl) Z.gDu Z.FDu.kp Z.bDu .nil pass0 (pa_cons (pv 5) (pa_cons (pv 3) pa_nil))) (pv 3)))
 (pss_cons (ps_set (i := 9) scGp.nd rfl (.inl rfl) (pe_op op_mul (pe_op op_fdiv (pe_op op_sub (pv 6) (pv 3)) (pv 3)) (pv 3)))
 (pss_cons (ps_if (pt_cmpR op_le (pv 8) (pv 9) (nomark _))
 (pss_one (ps_expr (pe_bm PySem.F.plainAttrs_list PySem.F.slot_list_append PySem.F.type_list_append mt_append (pv 4) (pa_cons (pe_tup (pa_cons (pv 8) (pa_cons (pv 9) pa_nil))) pa_nil)))) pss_nil)
 (pss_one (ps_set (i := 5) scGp.nd rfl (.inl rfl) (pe_op op_add (pv 6) (pv 7))))))))
 (pss_one (ps_ret (pv 4))))))), ?_⟩
    have mL0 : 0 ≤ m * L := Int.mul_nonneg m0 L0
    have mL1 : m * L ≤ 4000000 := Int.le_trans (Int.mul_le_mul m1 L1 L0 (by omega)) (by decide)
    have gl : atI ((C ++ [L]).map V.int) (-1) = some (.int L) := by
      rw [List.map_append]
      exact atI_last _ _
    refine ⟨.ref c, rfl, .int sz, rfl, c, C ++ [L], sz, rfl, hc, hs, fun _ => ?_⟩
    refine ⟨by decide, fun d nd => ?_⟩
    have sd := same_upd (o := .lst []) nd
    have hc1 := hc.keep sd
    refine ⟨.ref t, rfl, t, xs, rfl, .inl (.inl (.inl (sd _ _ ht))), .int m, rfl, .ref c, rfl, _, rfl, c, _, -1, _, rfl, rfl, hc1.sq, gl, m, L, rfl, rfl, .inl ⟨by omega, by omega⟩, ?_⟩
    refine ⟨(by show 2 ≤ sizeLine; decide), fun T nT => ?_⟩
    have sT := same_upd (o := .tup [.int (m * L), .int 0]) nT
    refine ⟨?_, fun T2 nT2 => ?_⟩
    · show (xs ++ [V.ref T]).length ≤ sizeLine
      rw [List.length_append, bl.len]
      exact Nat.le_trans (Nat.add_le_add_right hl 1) (by decide)
    have sT2 := same_upd (o := .tup (xs ++ [V.ref T])) nT2
    have hd2 := sT2 _ _ (sT _ _ (upd_same (H := H) (a := d) (o := .lst [])))
    have bl2 : BL (upd (upd (upd H d (.lst [])) T (.tup [.int (m * L), .int 0])) T2 (.tup (xs ++ [V.ref T]))) (xs ++ [V.ref T]) (bs ++ [(m * L, 0)]) := by
      refine Paired.snoc (bl.mono fun v zs e => sT2 _ _ (sT _ _ (sd _ _ e))) ⟨T, rfl, sT2 _ _ upd_same⟩
    obtain ⟨asc1, asc2⟩ := st.asc0 mL0
    have eC : ∀ i, ∀ b ∈ (bs ++ [(m * L, 0)]).take i, 0 ≤ b.1 ∧ 0 ≤ b.2 ∧ b.1 + b.2 ≤ m * L := fun i b hb => asc1 b (List.mem_of_mem_take hb)
    have eP : ∀ i, ((bs ++ [(m * L, 0)]).take i).Pairwise (fun b c : Bk => b.1 + b.2 ≤ c.1) := fun i => asc2.sublist (List.take_sublist ..)
    have s02 : Same H (upd (upd (upd H d (.lst [])) T (.tup [.int (m * L), .int 0])) T2 (.tup (xs ++ [V.ref T]))) := (sd.trans sT).trans sT2
    have hT2 : upd (upd (upd H d (.lst [])) T (.tup [.int (m * L), .int 0])) T2 (.tup (xs ++ [V.ref T])) T2 = some (.tup (xs ++ [V.ref T])) := upd_same
    generalize upd (upd (upd H d (.lst [])) T (.tup [.int (m * L), .int 0])) T2 (.tup (xs ++ [V.ref T])) = H0 at hd2 bl2 s02 hT2 ⊢
    refine ⟨T2, rfl, ⟨_, .inl (.inl hT2)⟩, ?_⟩
    generalize el : bs ++ [(m * L, 0)] = l at bl2 asc1 asc2 eC eP q
    have nT2d : T2 ≠ d := ne_of hT2 hd2 (by intro z; cases z)
    refine for_tup (K := K) (a := T2) (xs := xs ++ [V.ref T]) (fun i σ H2 => ∃ y6 y7 y8 y9 ys, σ = [some (.ref c), some (.int m), some (.ref t), some (.int sz), some (.ref d), some (.int (fin 0 (l.take i))), y6, y7, y8, y9] ∧ But d H0 H2 ∧ H2 d = some (.lst ys) ∧ BL H2 ys (gpf sz 0 (l.take i)))
      ⟨none, none, none, none, [], rfl, But.refl _ _, hd2, .nil⟩ (fun i σ H2 _ p => ?_) ?_ ?_
    · obtain ⟨_, _, _, _, _, _, bt, _⟩ := p
      exact .inl (.inl (bt _ _ nT2d hT2))
    · rintro i x σ H2 hx ⟨y6, y7, y8, y9, ys, rfl, bt, hd3, bl3⟩
      obtain ⟨b, hb, ⟨u, rfl, hu⟩⟩ := bl2.get hx
      have hu2 := bt _ _ (ne_of hu hd2 (by intro z; cases z)) hu
      have etk : l.take (i + 1) = l.take i ++ [b] := by rw [List.take_add_one, hb]; rfl
      obtain ⟨fb1, fb2⟩ := fin_bnd (l.take i) 0 (m * L) (eC i) mL0 (eP i)
      obtain ⟨b1, b2, b3⟩ := asc1 b (List.mem_of_getElem? hb)
      have u1 := upS_ge (x := fin 0 (l.take i)) s0
      have u2 := upS_lt (x := fin 0 (l.take i)) s0
      have d1 := Int.ediv_mul_le (b.1 - sz) (b := sz) (by omega)
      have d2 := Int.lt_ediv_add_one_mul_self (b.1 - sz) s0
      refine ⟨u, _, rfl, .inl (.inl hu2), rfl, _, _, rfl, _, _, rfl, rfl, ?_⟩
      refine ⟨.int (fin 0 (l.take i)), rfl, .int sz, rfl, _, sz, rfl, s0, by omega, .int sz, rfl, _, sz, rfl, rfl, .inr ⟨by omega, by omega⟩, ?_⟩
      refine ⟨.int b.1, rfl, .int sz, rfl, _, _, rfl, rfl, .int sz, rfl, _, _, rfl, rfl, ⟨s0, by omega⟩, .int sz, rfl, _, _, rfl, rfl, .inr ⟨by omega, by omega⟩, ?_⟩
      have lenb : ys.length < sizeLine := by
        have h1 := bl3.len
        have h2 := gpf_len sz (l.take i) 0
        have h3 : (l.take i).length ≤ l.length := by rw [List.length_take]; exact Nat.min_le_right _ _
        have h4 : l.length = bs.length + 1 := by rw [← el, List.length_append]; rfl
        exact Nat.lt_of_le_of_lt (show ys.length ≤ 5001 by omega) (by decide)
      refine ⟨.int (upS (fin 0 (l.take i)) sz), rfl, .int ((b.1 - sz) / sz * sz), rfl, _, _, rfl, rfl, _, rfl, ite2 (fun c0 => ?_) (fun c0 => ?_)⟩
      · have c1 : upS (fin 0 (l.take i)) sz ≤ (b.1 - sz) / sz * sz := of_decide_eq_true c0
        refine ⟨.ref d, rfl, .inl ⟨rfl, _, .inl (.inl hd3)⟩, .int _, rfl, .int _, rfl, (by show 2 ≤ sizeLine; decide), fun p np => ?_⟩
        have sp := same_upd (o := .tup [.int (upS (fin 0 (l.take i)) sz), .int ((b.1 - sz) / sz * sz)]) np
        have hd4 := sp _ _ hd3
        refine ⟨d, _, _, rfl, rfl, hd4, lenb, ?_⟩
        refine ⟨.int b.1, rfl, .int b.2, rfl, _, _, rfl, rfl, some (.int b.1), some (.int b.2), some (.int (upS (fin 0 (l.take i)) sz)), some (.int ((b.1 - sz) / sz * sz)), ys ++ [.ref p], ?_, fun v o nv hv => ?_, upd_same, ?_⟩
        · rw [etk, fin_snoc]
          rfl
        · rw [upd_ne nv]
          exact sp _ _ (bt _ _ nv hv)
        · rw [etk, gpf_snoc]
          have kp : ∀ v us, upd H2 p (.tup [.int (upS (fin 0 (l.take i)) sz), .int ((b.1 - sz) / sz * sz)]) v = some (.tup us) → upd (upd H2 p (.tup [.int (upS (fin 0 (l.take i)) sz), .int ((b.1 - sz) / sz * sz)])) d (.lst (ys ++ [.ref p])) v = some (.tup us) := fun v us e => by
            rw [upd_ne (ne_of e hd4 (by intro z; cases z))]
            exact e
          have e1 : gp1 sz (fin 0 (l.take i)) b = [(upS (fin 0 (l.take i)) sz, (b.1 - sz) / sz * sz)] := if_pos c1
          rw [e1]
          exact Paired.snoc (bl3.mono fun v us e => kp v us (sp _ _ e)) ⟨p, rfl, kp _ _ upd_same⟩
      · have c1 : ¬ upS (fin 0 (l.take i)) sz ≤ (b.1 - sz) / sz * sz := of_decide_eq_false (by simpa using c0)
        refine ⟨.int b.1, rfl, .int b.2, rfl, _, _, rfl, rfl, some (.int b.1), some (.int b.2), some (.int (upS (fin 0 (l.take i)) sz)), some (.int ((b.1 - sz) / sz * sz)), ys, ?_, bt, hd3, ?_⟩
        · rw [etk, fin_snoc]
          rfl
        · rw [etk, gpf_snoc]
          have e1 : gp1 sz (fin 0 (l.take i)) b = [] := if_neg c1
          rw [e1, List.append_nil]
          exact bl3
    · rintro σ H2 ⟨y6, y7, y8, y9, ys, rfl, bt, hd3, bl3⟩
      have e : l.take (xs ++ [V.ref T]).length = l := List.take_of_length_le (by rw [bl2.len]; exact Nat.le_refl _)
      rw [e] at bl3
      exact ⟨.ref d, rfl, q _ d ys (fun a o ha => bt _ _ (ne_of_none ha nd) (s02 _ _ ha)) nd hd3 bl3⟩
def spPl : Sp := fun vs H Q _ => ∃ (c t : Addr) (C : List Int) (L m s : Int) (bs : List Bk), vs = [.ref c, .int m, .ref t, .int s] ∧ ChAt H c (C ++ [L]) ∧ s ∈ C ++ [L] ∧ 0 < s ∧ s ≤ 2000 ∧ 0 ≤ L ∧ L ≤ 2000 ∧ 0 ≤ m ∧ m ≤ 2000 ∧ StAt H t bs ∧ St (C ++ [L]) (m * L) bs ∧ bs.length ≤ 5000 ∧
  ∀ H' u, Same H H' → H' u = some (.tup ((plf s 0 (bs ++ [(m * L, 0)])).map V.int)) → Q (.ref u) H'
theorem ok_Pl {k : Nat} (Z : Fns K mg) : FnOk P w K mg base CX0 (k + 1 + 1 + 1 + 1 + 1) Z.fPl Z.fdPl ["chain", "pages", "state", "size"] spPl := by
  have GGp : FnOk P w K mg base CX0 (k + 1 + 1 + 1 + 1) Z.fGp Z.fdGp ["chain", "pages", "state", "size"] spGp := ok_Gp Z
  refine Z.FPl.ok scPl (fun vs H Q E h => ?_) (fun cdv A outer s H vs Q E hr h => ?_)
  · obtain ⟨c, t, C, L, m, s, bs, rfl, _⟩ := h
    rfl
  · obtain ⟨c, t, C, L, m, sz, bs, rfl, hc, hs, s0, s1, L0, L1, m0, m1, hst, st, hl, q⟩ := h
    refine ⟨_, (pss_cons (ps_set (i := 4) scPl.nd rfl (.inl rfl) (pe_lst pa_nil))
 (pss_cons (ps_for PassesOwn.never rfl (pi_list (pe_call GGp (hr.mono (by omega)) (by rfl) Z.gGp Z.FGp.kp Z.bGp .nil pass0 (pa_cons (pv 0) (pa_cons (pv 1) (pa_cons (pv 2) (pa_cons (pv 3) pa_nil)))))) (pg_tup (by rfl) (pgs_cons (pg_name (i := 5) scPl.nd rfl (.inl rfl)) (pgs_cons (pg_name (i := 6) scPl.nd rfl (.inl rfl)) pgs_nil)))
 (pss_one (ps_expr (pe_bm PySem.F.plainAttrs_list PySem.F.slot_list_extend PySem.F.type_list_extend mt_extend (pv 4) (pa_cons (pe_listRg3 rfl (by rfl) Z.N.list (by rfl) Z.N.range (pa_cons (pv 5) (pa_cons (pe_op op_add (pv 6) pe_int) (pa_cons (pv 3) pa_nil)))) pa_nil)))))
 (pss_one (ps_ret (pe_callTy call_tuple_of (by rfl) Z.N.tuple (by decide +kernel) (pa_cons (pv 4) pa_nil)))))), ?_⟩
    have mL0 : 0 ≤ m * L := Int.mul_nonneg m0 L0
    have mL1 : m * L ≤ 4000000 := Int.le_trans (Int.mul_le_mul m1 L1 L0 (by omega)) (by decide)
    obtain ⟨asc1, asc2⟩ := st.asc0 mL0
    refine ⟨by decide, fun d nd => ?_⟩
    have sd := same_upd (o := .lst []) nd
    have hd0 : upd H d (.lst []) d = some (.lst []) := upd_same
    refine ⟨.ref c, rfl, .int m, rfl, .ref t, rfl, .int sz, rfl, c, t, C, L, m, sz, bs, rfl, hc.keep sd, hs, s0, s1, L0, L1, m0, m1, hst.same sd, st, hl, fun H1 D ys s1' nD hD bl => ?_⟩
    have gb := gpf_bnd s0 (bs ++ [(m * L, 0)]) 0 asc1 (Int.le_refl _)
    have pln := plf_len s0 (bs ++ [(m * L, 0)]) 0 (m * L) asc1 asc2 mL0
    rw [plf_gpf s0] at pln q
    generalize gpf sz 0 (bs ++ [(m * L, 0)]) = gs at *
    have hd1 := s1' _ _ hd0
    have nDd : D ≠ d := (ne_of_none hd0 nD).symm
    refine ⟨D, rfl, ⟨_, .inl (.inl hD)⟩, ?_⟩
    refine for_list (K := K) (a := D) (xs := ys) (fun i σ H2 => ∃ y5 y6, σ = [some (.ref c), some (.int m), some (.ref t), some (.int sz), some (.ref d), y5, y6] ∧ But d H1 H2 ∧ H2 d = some (.lst (((gs.take i).flatMap (gpr sz)).map V.int)))
      ⟨none, none, rfl, But.refl _ _, hd1⟩ (fun i σ H2 _ p => ?_) ?_ ?_
    · obtain ⟨_, _, _, bt, _⟩ := p
      exact .inl (.inl (bt _ _ nDd hD))
    · rintro i x σ H2 hx ⟨y5, y6, rfl, bt, hd3⟩
      obtain ⟨b, hb, ⟨u, rfl, hu⟩⟩ := bl.get hx
      have hu2 := bt _ _ (ne_of hu hd1 (by intro z; cases z)) hu
      obtain ⟨g1, g2, g3⟩ := gb b (List.mem_of_getElem? hb)
      have etk : gs.take (i + 1) = gs.take i ++ [b] := by rw [List.take_add_one, hb]; rfl
      have ln : ((gs.take (i + 1)).flatMap (gpr sz)).length ≤ (m * L - 0).toNat := by
        refine Nat.le_trans ?_ pln
        conv => rhs; rw [← List.take_append_drop (i + 1) gs]
        rw [List.flatMap_append, List.length_append]
        omega
      rw [etk, List.flatMap_append, List.length_append, List.flatMap_cons, List.flatMap_nil, List.append_nil] at ln
      have ln2 : (gpr sz b).length = rgN b.1 (b.2 + 1) sz := rg3_len _ _ _
      refine ⟨u, _, rfl, .inl (.inl hu2), rfl, _, _, rfl, _, _, rfl, rfl, ?_⟩
      refine ⟨.ref d, rfl, .inl ⟨rfl, _, .inl (.inl hd3)⟩, .int b.1, rfl, .int b.2, rfl, _, _, rfl, rfl, .int sz, rfl, _, _, sz, _, rfl, RgC.up (i := b.1) (j := b.2 + 1) s0 (by omega) ⟨by omega, by omega⟩ ⟨by omega, by omega⟩, Nat.le_trans (show _ ≤ 4000000 by omega) (by decide), fun p np => ?_⟩
      have sp := same_upd (o := .lst ((rg3 b.1 sz (rgN b.1 (b.2 + 1) sz)).map V.int)) np
      refine ⟨d, p, _, _, rfl, rfl, sp _ _ hd3, upd_same, ?_, ?_⟩
      · rw [List.length_map, List.length_map, rg3_len]
        exact Nat.le_trans (show _ ≤ 4000000 by omega) (by decide)
      refine ⟨_, _, rfl, fun v o nv hv => ?_, ?_⟩
      · rw [upd_ne nv]
        exact sp _ _ (bt _ _ nv hv)
      · rw [upd_same, etk, List.flatMap_append, List.map_append, List.flatMap_cons, List.flatMap_nil, List.append_nil]
        rfl
    · rintro σ H2 ⟨y5, y6, rfl, bt, hd3⟩
      have e : gs.take ys.length = gs := List.take_of_length_le (by rw [bl.len]; exact Nat.le_refl _)
      rw [e] at hd3
      refine ⟨.ref d, rfl, d, _, rfl, .inl ⟨.inl (.inl hd3), fun v nv => q _ v (fun a o ha => ?_) upd_same⟩⟩
      exact same_upd nv _ _ (bt _ _ (ne_of_none ha nd) (s1' _ _ (sd _ _ ha)))
def spU : Sp := fun vs H Q _ => ∃ (c t : Addr) (C : List Int) (L : Int) (bs : List Bk), vs = [.ref c, .ref t] ∧ ChAt H c (C ++ [L]) ∧ 0 < L ∧ L ≤ 2000 ∧ StAt H t bs ∧ bs.length ≤ 4000 ∧
  ∀ H' u (ns : List Int), Same H H' → H' u = some (.tup (ns.map V.int)) → ns.Pairwise (· < ·) → (∀ j, j ∈ ns ↔ ∃ b ∈ bs, b.1 / L = j) → Q (.ref u) H'
theorem ok_U {k : Nat} (Z : Fns K mg) : FnOk P w K mg base CX0 (k + 1) Z.fU Z.fdU ["chain", "state"] spU := by
  refine Z.FU.ok scU (fun vs H Q E h => ?_) (fun cdv A outer s H vs Q E hr h => ?_)
  · obtain ⟨c, t, C, L, bs, rfl, _⟩ := h
    rfl
  · obtain ⟨c, t, C, L, bs, rfl, hc, L0, L1, ⟨xs, ht, bl⟩, hl, q⟩ := h
    refine ⟨_, (pss_one (ps_ret (pe_callTy call_tuple_of (by rfl) Z.N.tuple (by decide +kernel) (pa_cons (pe_callB (cr_sortedS2 rfl) (by rfl) Z.N.sorted (by decide +kernel) (pa_cons (pe_scI (own := [("address", 2), ("size", 3)]) (g := (gTup K 2 (gCons (gName 2) (gCons (gName 3) gNil)))) (tt := tYes) (by rfl) scU.nd (pi_tup (pv 1)) (blkOk_by (N := scUN) (sc := defScope scUS) (by decide +kernel)) (fun _ _ _ _ _ => (pg_tup (by rfl) (pgs_cons (pg_name (i := 2) scU.nd rfl (.inl rfl)) (pgs_cons (pg_name (i := 3) scU.nd rfl (.inl rfl)) pgs_nil)))) (fun _ _ _ _ _ => pts_nil) (fun _ _ _ _ _ => (pe_op op_fdiv (pv 2) (pe_ix (r := rIxT K) ix_tup (pv 0) (pe_un un_neg pe_int) (fun _ _ => rfl))))) pa_nil)) pa_nil)))), ?_⟩
    have gl : atI ((C ++ [L]).map V.int) (-1) = some (.int L) := by
      rw [List.map_append]
      exact atI_last _ _
    refine ⟨.ref t, rfl, t, rfl, ⟨_, .inl (.inl ht)⟩, fun D nD => ?_⟩
    refine sc_tupF (xs := xs) (fun x => (kH H x).1 / L) (.inl (.inl ht)) nD (by rw [bl.len]; exact Nat.lt_of_le_of_lt (Nat.add_le_add_right hl 1) (by decide)) (fun x hx H2 sm Y N hY => ?_) (fun H2 n sm hD => ?_)
    · obtain ⟨b, hb⟩ := bl.all x hx
      have e := hb.k
      obtain ⟨u, rfl, hu⟩ := hb
      refine ⟨u, _, rfl, .inl (.inl (sm _ _ hu)), rfl, _, _, rfl, _, _, rfl, rfl, rfl, .int b.1, rfl, .ref c, rfl, _, rfl, c, _, -1, _, rfl, rfl, (hc.keep sm).sq, gl, b.1, L, rfl, rfl, ⟨L0, by omega⟩, ?_⟩
      rw [e] at hY
      exact hY
    · refine ⟨D, _, n, rfl, hD, fun ns l hs hm nl => ?_⟩
      refine ⟨l, _, rfl, .inl ⟨.inl (.inl upd_same), fun v nv => ?_⟩⟩
      have sL := same_upd (o := .lst (ns.map V.int)) nl
      have sV := same_upd (o := .tup (ns.map V.int)) nv
      refine q _ v ns (Same.trans sm (sL.trans sV)) upd_same hs fun j => ?_
      rw [hm j, decide_eq_true_iff, List.mem_map]
      rw [← bl.map]
      constructor
      · rintro ⟨x, hx, e⟩
        exact ⟨kH H x, List.mem_map.mpr ⟨x, hx, rfl⟩, e⟩
      · rintro ⟨b, hb, e⟩
        obtain ⟨x, hx, rfl⟩ := List.mem_map.mp hb
        exact ⟨x, hx, e⟩
def spR : Sp := fun vs H Q _ => ∃ (t : Addr) (l : Int) (bs : List Bk), vs = [.ref t, .int l] ∧ StAt H t bs ∧ bs.length ≤ 5000 ∧ ∀ H', Same H H' → Q (.int (rch l bs)) H'
theorem ok_R {k : Nat} (Z : Fns K mg) : FnOk P w K mg base CX0 (k + 1) Z.fR Z.fdR ["state", "largest"] spR := by
  refine Z.FR.ok scR (fun vs H Q E h => ?_) (fun cdv A outer s H vs Q E hr h => ?_)
  · obtain ⟨t, l, bs, rfl, _⟩ := h
    rfl
  · obtain ⟨t, l, bs, rfl, ⟨xs, ht, bl⟩, hl, q⟩ := h
    have hu2 := u2_of hr
    refine ⟨_, (pss_one (ps_ret (pe_callBK (cr_maxDf rfl hu2) (by rfl) Z.N.max (by decide +kernel) (pa_cons (pe_lc (own := [("address", 2), ("size", 3)]) (g := (gTup K 2 (gCons (gName 2) (gCons (gName 3) gNil)))) (by rfl) scR.nd (pi_tup (pv 0)) (blkOk_by (N := scRN) (sc := defScope scRS) (by decide +kernel)) (fun _ _ _ _ _ => (pg_tup (by rfl) (pgs_cons (pg_name (i := 2) scR.nd rfl (.inl rfl)) (pgs_cons (pg_name (i := 3) scR.nd rfl (.inl rfl)) pgs_nil)))) (fun _ _ _ _ _ => (pts_one (pt_cmpR op_le (pv 3) (pv 1) (nomark _)))) (fun _ _ _ _ _ => (pe_op op_add (pv 2) (pv 3)))) pa_nil) (pk_cons pe_int pk_nil)))), ?_⟩
    refine ⟨.ref t, rfl, t, rfl, ⟨_, .inl (.inl ht)⟩, fun D nD => ?_⟩
    refine lc_tupF (xs := xs) (fun x => if decide ((kH H x).2 ≤ l) = true then some (.int ((kH H x).1 + (kH H x).2)) else none) (.inl (.inl ht)) nD (by rw [bl.len]; exact Nat.lt_of_le_of_lt hl (by decide)) (fun x hx H2 sm Y N hY hN => ?_) (fun H2 sm hD => ?_)
    · obtain ⟨b, hb⟩ := bl.all x hx
      have e := hb.k
      obtain ⟨u, rfl, hu⟩ := hb
      refine ⟨u, _, rfl, .inl (.inl (sm _ _ hu)), rfl, _, _, rfl, _, _, rfl, rfl, rfl, .int b.2, rfl, .int l, rfl, b.2, l, rfl, rfl, _, rfl, ite2 (fun cc => ⟨.int b.1, rfl, .int b.2, rfl, b.1, b.2, rfl, rfl, ?_⟩) (fun cc => ?_)⟩
      · exact hY _ (by dsimp only; rw [e]; exact if_pos cc)
      · exact hN (by dsimp only; rw [e]; exact if_neg cc)
    · have e : xs.filterMap (fun x => if decide ((kH H x).2 ≤ l) = true then some (V.int ((kH H x).1 + (kH H x).2)) else none) = ((bs.filter fun b => decide (b.2 ≤ l)).map fun b => b.1 + b.2).map V.int := by
        rw [← bl.map]
        exact fm_if (fun b => decide (b.2 ≤ l)) (fun b => b.1 + b.2) (kH H) xs
      rw [e] at hD
      exact ⟨D, _, 0, rfl, rfl, .inl (.inl hD), q _ sm⟩
def spRs : Sp := fun vs H Q _ => ∃ (c t : Addr) (C : List Int) (bs : List Bk), vs = [.ref c, .ref t] ∧ ChAt H c C ∧ C.length ≤ 1000 ∧ StAt H t bs ∧ bs.length ≤ 5000 ∧ ∀ H' u, Same H H' → H' u = some (.tup ((C.map fun l => rch l bs).map V.int)) → Q (.ref u) H'
def iV : V → Int
  | .int i => i
  | _ => 0
theorem ok_Rs {k : Nat} (Z : Fns K mg) : FnOk P w K mg base CX0 (k + 1 + 1) Z.fRs Z.fdRs ["chain", "state"] spRs := by
  have GR : FnOk P w K mg base CX0 (k + 1) Z.fR Z.fdR ["state", "largest"] spR := ok_R Z
  refine Z.FRs.ok scRs (fun vs H Q E h => ?_) (fun cdv A outer s H vs Q E hr h => ?_)
  · obtain ⟨c, t, C, bs, rfl, _⟩ := h
    rfl
  · obtain ⟨c, t, C, bs, rfl, hc, hC, ht, hl, q⟩ := h
    refine ⟨_, (pss_one (ps_ret (pe_callTy call_tuple_of (by rfl) Z.N.tuple (by decide +kernel) (pa_cons (pe_lc (own := [("largest", 2)]) (g := (gName 2)) (tt := tYes) (by rfl) scRs.nd (pi_tup (pv 0)) (blkOk_by (N := scRsN) (sc := defScope scRsS) (by decide +kernel)) (fun _ _ _ _ _ => (pg_name (i := 2) scRs.nd rfl (.inl rfl))) (fun _ _ _ _ _ => pts_nil) (fun _ _ _ _ _ => (pe_call GR (hr.mono (by omega)) (by rfl) Z.gR Z.FR.kp Z.bR .nil pass0 (pa_cons (pv 1) (pa_cons (pv 2) pa_nil))))) pa_nil)))), ?_⟩
    refine ⟨.ref c, rfl, c, rfl, ⟨_, hc.sq⟩, fun D nD => ?_⟩
    refine lc_tupR (xs := C.map V.int) (fun _ x y => y = .int (rch (iV x) bs)) (fun _ _ _ _ _ h => h) hc.sq nD (by rw [List.length_map]; exact Nat.lt_of_le_of_lt hC (by decide)) (fun x hx H2 sm Y hY => ?_) (fun H2 ys sm hD pr => ?_)
    · obtain ⟨z, hz, rfl⟩ := List.mem_map.mp hx
      exact ⟨rfl, .ref t, rfl, .int z, rfl, t, z, bs, rfl, ht.same sm, hl, fun H3 s3 => hY _ _ s3 rfl⟩
    · have e : ys = (C.map fun l => rch l bs).map V.int := by
        rw [paired_fun (f := fun x => V.int (rch (iV x) bs)) (fun a b h => h) pr, List.map_map, List.map_map]
        rfl
      rw [e] at hD
      exact ⟨D, _, rfl, .inl ⟨.inl (.inl hD), fun v nv => q _ v (Same.trans sm (same_upd nv)) upd_same⟩⟩
def spM : Sp := fun vs H Q _ => ∃ (t : Addr) (d : Int) (bs : List Bk), vs = [.ref t, .int d] ∧ StAt H t bs ∧ bs.length ≤ 5000 ∧ ∀ H' u, Same H H' → StAt H' u (mv d bs) → Q (.ref u) H'
theorem ok_M {k : Nat} (Z : Fns K mg) : FnOk P w K mg base CX0 (k + 1) Z.fM Z.fdM ["_law_heaped", "_law_words"] spM := by
  refine Z.FM.ok scM (fun vs H Q E h => ?_) (fun cdv A outer s H vs Q E hr h => ?_)
  · obtain ⟨t, d, bs, rfl, _⟩ := h
    rfl
  · obtain ⟨t, d, bs, rfl, ⟨xs, ht, bl⟩, hl, q⟩ := h
    refine ⟨_, (pss_one (ps_ret (pe_callTy call_tuple_of (by rfl) Z.N.tuple (by decide +kernel) (pa_cons (pe_lc (own := [("_law_start", 2), ("_law_size", 3)]) (g := (gTup K 2 (gCons (gName 2) (gCons (gName 3) gNil)))) (tt := tYes) (by rfl) scM.nd (pi_tup (pv 0)) (blkOk_by (N := scMN) (sc := defScope scMS) (by decide +kernel)) (fun _ _ _ _ _ => (pg_tup (by rfl) (pgs_cons (pg_name (i := 2) scM.nd rfl (.inl rfl)) (pgs_cons (pg_name (i := 3) scM.nd rfl (.inl rfl)) pgs_nil)))) (fun _ _ _ _ _ => pts_nil) (fun _ _ _ _ _ => (pe_tup (pa_cons (pe_op op_add (pv 2) (pv 1)) (pa_cons (pv 3) pa_nil))))) pa_nil)))), ?_⟩
    refine ⟨.ref t, rfl, t, rfl, ⟨_, .inl (.inl ht)⟩, fun D nD => ?_⟩
    refine lc_tupR (xs := xs) (fun H2 x y => BkAt H2 y ((kH H x).1 + d, (kH H x).2)) (fun H1 H2 x y k h => ?_) (.inl (.inl ht)) nD (by rw [bl.len]; exact Nat.lt_of_le_of_lt hl (by decide)) (fun x hx H2 sm Y hY => ?_) (fun H2 ys sm hD pr => ?_)
    · obtain ⟨u, e, hu⟩ := h
      exact ⟨u, e, k _ _ hu⟩
    · obtain ⟨b, hb⟩ := bl.all x hx
      have e := hb.k
      obtain ⟨u, rfl, hu⟩ := hb
      refine ⟨u, _, rfl, .inl (.inl (sm _ _ hu)), rfl, _, _, rfl, _, _, rfl, rfl, rfl, .int b.1, rfl, .int d, rfl, b.1, d, rfl, rfl, .int b.2, rfl, (by show 2 ≤ sizeLine; decide), fun T nT => ?_⟩
      exact hY _ _ (same_upd nT) ⟨T, rfl, by rw [e]; exact upd_same⟩
    · have e : BL H2 ys (mv d bs) := by
        unfold mv
        rw [← bl.map, List.map_map]
        clear hD ht bl
        induction pr with
        | nil => exact .nil
        | cons h r ih => exact .cons h (ih)
      refine ⟨D, _, rfl, .inl ⟨.inl (.inl hD), fun v nv => q _ v (Same.trans sm (same_upd nv)) ⟨ys, upd_same, ?_⟩⟩⟩
      exact e.mono fun a zs ha => same_upd nv _ _ ha
end
end Ph

namespace Ph
open PySem PySem.Spec PyProof.Rows L2
/-- a comprehension over zip of two tuples, the second one not longer -/
theorem lc_zipS {K : PySem.W.Frag} {a b : Addr} {xs ys : List V} {g : TG} {tt : TT} {te : TE} {vs : List Nat} {σ : L2.St} {H1 : Hp} {D : Addr} {Qd : Hp → Prop} (hl : ys.length ≤ xs.length) (Pv : Nat → Hp → Prop) (h0 : Pv 0 (upd H1 D (.lst []))) (hq : ∀ i H, Pv i H → SqT K H a xs ∧ SqT K H b ys)
    (hs : ∀ (i : Nat) (x y : V) (T : Addr) (H : Hp), xs[i]? = some x → ys[i]? = some y → Pv i H → H T = none → g (.ref T) (wipe σ vs) (upd H T (.tup [x, y])) fun σ2 H2 => wipe σ2 vs = wipe σ vs ∧ tt σ2 H2 fun b H3 =>
      if b = true then te σ2 H3 fun y H4 => ∃ acc, H4 D = some (.lst acc) ∧ acc.length < sizeLine ∧ Pv (i + 1) (upd H4 D (.lst (acc ++ [y]))) else Pv (i + 1) H3) (hd : ∀ H, Pv ys.length H → Qd H) :
    ∃ W : Nat → Nat → Hp → Prop, (∃ m, W 0 m (upd H1 D (.lst []))) ∧ ∀ i m H, W i m H →
      ((RZ.ItzT K a b).stop i H ∧ Qd H) ∨ ((RZ.ItzT K a b).go i H ∧ ∃ Nx : Hp → Prop, (∀ H', Nx H' → ∃ m', m' < m ∧ W (i + 1) m' H') ∧ ∀ x H', (RZ.ItzT K a b).yld i H x H' → g x (wipe σ vs) H' fun σ2 H2 => wipe σ2 vs = wipe σ vs ∧ tt σ2 H2 fun b H3 =>
        if b = true then te σ2 H3 fun y H4 => ∃ acc, H4 D = some (.lst acc) ∧ acc.length < sizeLine ∧ Nx (upd H4 D (.lst (acc ++ [y]))) else Nx H3) := by
  refine ⟨fun i m H => m = ys.length - i ∧ i ≤ ys.length ∧ Pv i H, ⟨ys.length, rfl, Nat.zero_le _, h0⟩, ?_⟩
  rintro i m H ⟨rfl, hi, p⟩
  obtain ⟨qx, qy⟩ := hq i H p
  by_cases hlt : i < ys.length
  · have hlt2 : i < xs.length := by omega
    refine .inr ⟨⟨xs, ys, _, _, qx, qy, List.getElem?_eq_getElem hlt2, List.getElem?_eq_getElem hlt⟩, Pv (i + 1), fun H' p' => ⟨ys.length - (i + 1), by omega, rfl, hlt, p'⟩, fun v H' y => ?_⟩
    obtain ⟨T, x', y', rfl, hT, rfl, f1, f2⟩ := y
    exact hs i x' y' T H (f1 xs qx) (f2 ys qy) p hT
  · have e : i = ys.length := by omega
    subst e
    exact .inl ⟨⟨xs, ys, qx, qy, Or.inr (Nat.le_refl _)⟩, hd H p⟩
end Ph

namespace Ph
open PySem PySem.Spec PyProof.Rows L2
abbrev sPr : Stmt := topS 26
abbrev scPrS : Stmt := sPr
abbrev scPrN : List Str := ["_law_links_here", "_law_many", "_law_first", "_law_second", "_law_gap", "_law_shift", "_law_whole", "_law_total", "_law_pages_due", "_law_size", "_law_spots", "_law_ends", "_law_number", "_law_at", "_law_low", "_law_high"]
theorem scPr : FnScope ["_law_links_here", "_law_many", "_law_first", "_law_second", "_law_gap", "_law_shift", "_law_whole", "_law_total", "_law_pages_due", "_law_size", "_law_spots", "_law_ends", "_law_number", "_law_at", "_law_low", "_law_high"] ["_law_links_here", "_law_many", "_law_first", "_law_second", "_law_gap"] (defScope sPr) := ⟨rfl, rfl, rfl, by decide +kernel, rfl, by decide +kernel, by decide +kernel⟩
abbrev sLaw : Stmt := topS 27
abbrev scLawS : Stmt := sLaw
abbrev scLawN : List Str := ["_law_script", "_law_k", "_law_pot_here", "_law_turn", "_law_links_here", "_law_many", "_law_gap", "_law_first", "_law_second"]
theorem scLaw : FnScope ["_law_script", "_law_k", "_law_pot_here", "_law_turn", "_law_links_here", "_law_many", "_law_gap", "_law_first", "_law_second"] ["_law_script"] (defScope sLaw) := ⟨rfl, rfl, rfl, by decide +kernel, rfl, by decide +kernel, by decide +kernel⟩
/-! ### tuples of ints and states as data -/
theorem il_lay : ∀ ns : List Int, PyData.canLayAll0 (ns.map PyData.int) = true
  | [] => by simp [PyData.canLayAll0]
  | z :: zs => by simp [PyData.canLayAll0, PyData.canLay0, il_lay zs]
theorem il_depth : ∀ zs : List Int, PyData.depthAll (zs.map PyData.int) ≤ 1
  | [] => by simp [PyData.depthAll]
  | z :: zs => by
    have h1 := il_depth zs
    simp only [List.map_cons, PyData.depthAll, PyData.depth]
    omega
theorem tl_shaped (zs : List Int) : SeqAt.shaped (.tuple (zs.map PyData.int)) = true := by
  have h1 := il_depth zs
  have h2 : PyData.depth (.tuple (zs.map PyData.int)) ≤ 64 := by simp only [PyData.depth]; omega
  have h3 : PyData.canLay0 (.tuple (zs.map PyData.int)) = true := by simp only [PyData.canLay0]; exact il_lay zs
  show (PyData.canLay0 (.tuple (zs.map PyData.int)) && decide (PyData.depth (.tuple (zs.map PyData.int)) ≤ 64)) = true
  rw [h3, decide_eq_true h2]
  rfl
theorem il_shaped (zs : List Int) : SeqAt.shaped (.list (zs.map PyData.int)) = true := by
  have h1 := il_depth zs
  have h2 : PyData.depth (.list (zs.map PyData.int)) ≤ 64 := by simp only [PyData.depth]; omega
  have h3 : PyData.canLay0 (.list (zs.map PyData.int)) = true := by simp only [PyData.canLay0]; exact il_lay zs
  show (PyData.canLay0 (.list (zs.map PyData.int)) && decide (PyData.depth (.list (zs.map PyData.int)) ≤ 64)) = true
  rw [h3, decide_eq_true h2]
  rfl
theorem il_all (zs : List Int) : PyData.eqvAll (zs.map PyData.int) (zs.map PyData.int) = true := by
  induction zs with
  | nil => simp [PyData.eqvAll]
  | cons z zs ih => simp [PyData.eqvAll, ih, PyData.eqv]
theorem tl_eqv (zs : List Int) : PyData.eqv (.tuple (zs.map PyData.int)) (.tuple (zs.map PyData.int)) = true := by
  simp only [PyData.eqv]
  exact il_all zs
theorem il_eqv (zs : List Int) : PyData.eqv (.list (zs.map PyData.int)) (.list (zs.map PyData.int)) = true := by
  simp only [PyData.eqv]
  exact il_all zs
theorem BL.dp {K : PySem.W.Frag} {H : Hp} : ∀ {xs : List V} {bs : List Bk}, BL H xs bs → DpAll K H xs (bs.map bD)
  | _, _, .nil => .nil
  | _, _, .cons ⟨t, e1, e2⟩ r => by
    rw [List.map_cons]
    refine .cons ?_ (BL.dp r)
    rw [e1]
    exact .tup (.inl (.inl e2)) (.cons (.int _) (.cons (.int _) .nil))
theorem StAt.dp {K : PySem.W.Frag} {H : Hp} {t : Addr} {bs : List Bk} (h : StAt H t bs) : Dp K H (.ref t) (.tuple (bs.map bD)) := by
  obtain ⟨xs, e, bl⟩ := h
  exact .tup (.inl (.inl e)) bl.dp
theorem SqT.dp {K : PySem.W.Frag} {H : Hp} {t : Addr} {ns : List Int} (h : SqT K H t (ns.map V.int)) : Dp K H (.ref t) (.tuple (ns.map PyData.int)) := .tup h (dpI ns)
theorem BL.app {H : Hp} : ∀ {xs ys : List V} {bs cs : List Bk}, BL H xs bs → BL H ys cs → BL H (xs ++ ys) (bs ++ cs)
  | _, _, _, _, .nil, h => h
  | _, _, _, _, .cons h r, k => .cons h (BL.app r k)
theorem catSt {K : PySem.W.Frag} {H : Hp} {a b : Addr} {bs cs : List Bk} {Q : VK} (h1 : StAt H a bs) (h2 : StAt H b cs) (hl : bs.length + cs.length ≤ 10000) (q : ∀ H' p, Same H H' → StAt H' p (bs ++ cs) → Q (.ref p) H') : rCatA K (.ref a) (.ref b) H Q := by
  obtain ⟨xs, e1, b1⟩ := id h1
  obtain ⟨ys, e2, b2⟩ := id h2
  have l1 := b1.len
  have l2 := b2.len
  refine ⟨a, b, xs, ys, rfl, rfl, .inl (.inl e1), .inl (.inl e2), Nat.le_trans (show _ ≤ 10000 by omega) (by decide), fun z => ?_, fun _ z => ?_, fun _ _ p np => ?_⟩
  · have : bs = [] := by
      rw [z] at l1
      exact List.length_eq_zero_iff.mp l1.symm
    rw [this] at q
    exact q _ _ (Same.refl _) h2
  · have : cs = [] := by
      rw [z] at l2
      exact List.length_eq_zero_iff.mp l2.symm
    rw [this, List.append_nil] at q
    exact q _ _ (Same.refl _) h1
  · have s := same_upd (o := .tup (xs ++ ys)) np
    exact q _ _ s ⟨_, upd_same, (b1.app b2).mono fun t zs e => s _ _ e⟩
theorem catI {K : PySem.W.Frag} {H : Hp} {a b : Addr} {ns ms : List Int} {Q : VK} (h1 : SqT K H a (ns.map V.int)) (h2 : SqT K H b (ms.map V.int)) (hl : ns.length + ms.length ≤ 10000000) (q : ∀ H' p, Same H H' → SqT K H' p ((ns ++ ms).map V.int) → Q (.ref p) H') : rCatA K (.ref a) (.ref b) H Q := by
  refine ⟨a, b, _, _, rfl, rfl, h1, h2, ?_, fun z => ?_, fun _ z => ?_, fun _ _ p np => ?_⟩
  · rw [List.length_map, List.length_map]
    exact Nat.le_trans hl (by decide)
  · have : ns = [] := List.map_eq_nil_iff.mp z
    rw [this] at q
    exact q _ _ (Same.refl _) h2
  · have : ms = [] := List.map_eq_nil_iff.mp z
    rw [this, List.append_nil] at q
    exact q _ _ (Same.refl _) h1
  · rw [← List.map_append]
    exact q _ _ (same_upd np) (.inl (.inl upd_same))
theorem inc_len : ∀ {l : List Int} {a b : Int}, l.Pairwise (· < ·) → (∀ x ∈ l, a ≤ x ∧ x < b) → l.length ≤ (b - a).toNat
  | [], _, _, _, _ => Nat.zero_le _
  | x :: r, a, b, hp, h => by
    obtain ⟨h1, h2⟩ := List.pairwise_cons.mp hp
    have := inc_len (a := x + 1) (b := b) h2 fun y hy => ⟨h1 y hy, (h y (List.mem_cons_of_mem _ hy)).2⟩
    have := h x (List.mem_cons_self ..)
    rw [List.length_cons]
    omega
theorem live_cat (d : Int) (bs cs : List Bk) : ((bs ++ mv d cs).map (·.2)).sum = (bs.map (·.2)).sum + (cs.map (·.2)).sum := by
  unfold mv
  rw [List.map_append, List.sum_append, List.map_map]
  rfl
section
variable {P : Program} {w : World} {K : PySem.W.Frag} {mg : Str → Option Value} {base : Heap}
def spPr : Sp := fun vs H Q _ => ∃ (c t1 t2 : Addr) (C : List Int) (L m g : Int) (bs cs : List Bk), vs = [.ref c, .int m, .ref t1, .ref t2, .int g] ∧ ChAt H c (C ++ [L]) ∧ (∀ z ∈ C ++ [L], 1 ≤ z ∧ z ≤ L ∧ L % z = 0) ∧ C.length ≤ 20 ∧ L ≤ 60 ∧ 0 ≤ m ∧ m ≤ 10 ∧ 0 ≤ g ∧ g ≤ 10 ∧
  StAt H t1 bs ∧ St (C ++ [L]) (m * L) bs ∧ StAt H t2 cs ∧ St (C ++ [L]) (g * L) cs ∧ bs.length ≤ 100 ∧ cs.length ≤ 100 ∧ ∀ H', Same H H' → Q (.bl true) H'
theorem ok_Pr {k : Nat} (Z : Fns K mg) : FnOk P w K mg base CX0 6 Z.fPr Z.fdPr ["_law_links_here", "_law_many", "_law_first", "_law_second", "_law_gap"] spPr := by
  have GC : FnOk P w K mg base CX0 3 Z.fC Z.fdC ["chain", "size"] spClass := ok_class Z.FC Z.N Z.FI Z.bI Z.gI Z.FZ Z.bZ Z.gZ
  have GS : FnOk P w K mg base CX0 4 Z.fS Z.fdS ["chain", "pages", "value"] spSt := ok_isst Z.FS Z.N Z.FI Z.bI Z.gI Z.FZ Z.bZ Z.gZ Z.FB Z.bB Z.gB
  have GV : FnOk P w K mg base CX0 1 Z.fV Z.fdV ["state"] spLive := ok_live Z.FV Z.N
  have GPl : FnOk P w K mg base CX0 5 Z.fPl Z.fdPl ["chain", "pages", "state", "size"] spPl := ok_Pl Z
  have GU : FnOk P w K mg base CX0 1 Z.fU Z.fdU ["chain", "state"] spU := ok_U Z
  have GRs : FnOk P w K mg base CX0 2 Z.fRs Z.fdRs ["chain", "state"] spRs := ok_Rs Z
  have GK : FnOk P w K mg base CX0 4 Z.fK Z.fdK ["chain", "state", "size"] spKeep := ok_keep Z.FK Z.N Z.FI Z.bI Z.gI Z.FZ Z.bZ Z.gZ Z.FC Z.bC Z.gC
  have GM : FnOk P w K mg base CX0 1 Z.fM Z.fdM ["_law_heaped", "_law_words"] spM := ok_M Z
  refine Z.FPr.ok scPr (fun vs H Q E h => ?_) (fun cdv A outer s H vs Q E hr h => ?_)
  · obtain ⟨c, t1, t2, C, L, m, g, bs, cs, rfl, _⟩ := h
    rfl
  · obtain ⟨c, t1, t2, C, L, m, g, bs, cs, rfl, hc, hC, hCl, hL, m0, m1, g0, g1, ht1, st1, ht2, st2, hl1, hl2, q⟩ := h
    refine ⟨_, (pss_cons (ps_set (i := 5) scPr.nd rfl (.inr rfl) (pe_op op_mul (pv 1) (pe_ix ix_tup (pv 0) (pe_un un_neg pe_int) (fun _ _ => rfl))))
 (pss_cons (ps_par (i := 6) (j := 7) (by rfl) scPr.nd rfl rfl (by decide) rfl rfl (pa_cons (pe_op op_catA (pv 2) (pe_call GM (hr.mono (by omega)) (by rfl) Z.gM Z.FM.kp Z.bM .nil pass0 (pa_cons (pv 3) (pa_cons (pv 5) pa_nil)))) (pa_cons (pe_op op_add (pv 1) (pv 4)) pa_nil)) (by rfl))
 (pss_cons (ps_if (PW.pt (pw_or (pt_cmpR op_isnot_bl (pe_call GS (hr.mono (by omega)) (by rfl) Z.gS Z.FS.kp Z.bS .nil pass0 (pa_cons (pv 0) (pa_cons (pv 7) (pa_cons (pv 6) pa_nil)))) pe_bl (nomark _)) (pw_or1 (pt_cmpR op_ne (pe_call GV (hr.mono (by omega)) (by rfl) Z.gV Z.FV.kp Z.bV .nil pass0 (pa_cons (pv 6) pa_nil)) (pe_op op_add (pe_call GV (hr.mono (by omega)) (by rfl) Z.gV Z.FV.kp Z.bV .nil pass0 (pa_cons (pv 2) pa_nil)) (pe_call GV (hr.mono (by omega)) (by rfl) Z.gV Z.FV.kp Z.bV .nil pass0 (pa_cons (pv 3) pa_nil))) (nomark _)))))
 (pss_one (ps_ret pe_bl)) pss_nil)
 (pss_cons (ps_set (i := 8) scPr.nd rfl (.inl rfl) (pe_op op_catA (pe_call GU (hr.mono (by omega)) (by rfl) Z.gU Z.FU.kp Z.bU .nil pass0 (pa_cons (pv 0) (pa_cons (pv 2) pa_nil))) (pe_callTy call_tuple_of (by rfl) Z.N.tuple (by decide +kernel) (pa_cons (pe_lc (own := [("_law_number", 12)]) (g := (gName 12)) (tt := tYes) (by rfl) scPr.nd (pi_tup (pe_call GU (hr.mono (by omega)) (by rfl) Z.gU Z.FU.kp Z.bU .nil pass0 (pa_cons (pv 0) (pa_cons (pv 3) pa_nil)))) (blkOk_by (N := scPrN) (sc := defScope scPrS) (by decide +kernel)) (fun _ _ _ _ _ => (pg_name (i := 12) scPr.nd rfl (.inl rfl))) (fun _ _ _ _ _ => pts_nil) (fun _ _ _ _ _ => (pe_op op_add (pv 12) (pv 1)))) pa_nil))))
 (pss_cons (ps_if (pt_cmpR (op_neD hr.units) (pe_call GU (hr.mono (by omega)) (by rfl) Z.gU Z.FU.kp Z.bU .nil pass0 (pa_cons (pv 0) (pa_cons (pv 6) pa_nil))) (pv 8) (nomark _))
 (pss_one (ps_ret pe_bl)) pss_nil)
 (pss_cons (ps_for PassesOwn.never rfl (pi_tup (pv 0)) (pg_name (i := 9) scPr.nd rfl (.inl rfl))
 (pss_cons (ps_set (i := 10) scPr.nd rfl (.inl rfl) (pe_op op_catA (pe_call GPl (hr.mono (by omega)) (by rfl) Z.gPl Z.FPl.kp Z.bPl .nil pass0 (pa_cons (pv 0) (pa_cons (pv 1) (pa_cons (pv 2) (pa_cons (pv 9) pa_nil))))) (pe_callTy call_tuple_of (by rfl) Z.N.tuple (by decide +kernel) (pa_cons (pe_lc (own := [("_law_at", 13)]) (g := (gName 13)) (tt := tYes) (by rfl) scPr.nd (pi_tup (pe_call GPl (hr.mono (by omega)) (by rfl) Z.gPl Z.FPl.kp Z.bPl .nil pass0 (pa_cons (pv 0) (pa_cons (pv 4) (pa_cons (pv 3) (pa_cons (pv 9) pa_nil)))))) (blkOk_by (N := scPrN) (sc := defScope scPrS) (by decide +kernel)) (fun _ _ _ _ _ => (pg_name (i := 13) scPr.nd rfl (.inl rfl))) (fun _ _ _ _ _ => pts_nil) (fun _ _ _ _ _ => (pe_op op_add (pv 13) (pv 5)))) pa_nil))))
 (pss_cons (ps_if (pt_cmpR (op_neD hr.units) (pe_call GPl (hr.mono (by omega)) (by rfl) Z.gPl Z.FPl.kp Z.bPl .nil pass0 (pa_cons (pv 0) (pa_cons (pv 7) (pa_cons (pv 6) (pa_cons (pv 9) pa_nil))))) (pv 10) (nomark _))
 (pss_one (ps_ret pe_bl)) pss_nil)
 (pss_one (ps_if (pt_cmpR (op_neD hr.units) (pe_call GK (hr.mono (by omega)) (by rfl) Z.gK Z.FK.kp Z.bK .nil pass0 (pa_cons (pv 0) (pa_cons (pv 6) (pa_cons (pv 9) pa_nil)))) (pe_op op_catA (pe_call GK (hr.mono (by omega)) (by rfl) Z.gK Z.FK.kp Z.bK .nil pass0 (pa_cons (pv 0) (pa_cons (pv 2) (pa_cons (pv 9) pa_nil)))) (pe_call GM (hr.mono (by omega)) (by rfl) Z.gM Z.FM.kp Z.bM .nil pass0 (pa_cons (pe_call GK (hr.mono (by omega)) (by rfl) Z.gK Z.FK.kp Z.bK .nil pass0 (pa_cons (pv 0) (pa_cons (pv 3) (pa_cons (pv 9) pa_nil)))) (pa_cons (pv 5) pa_nil)))) (nomark _))
 (pss_one (ps_ret pe_bl)) pss_nil)))))
 (pss_cons (ps_setLc (i := 11) (own := [("_law_low", 14), ("_law_high", 15)]) (g := (gTup K 2 (gCons (gName 14) (gCons (gName 15) gNil)))) (tt := tYes) (by rfl) scPr.nd rfl rfl (sw_true rfl rfl rfl (by decide +kernel)) (RZ.pi_zipA (by rfl) Z.N.zip (pa_cons (pe_call GRs (hr.mono (by omega)) (by rfl) Z.gRs Z.FRs.kp Z.bRs .nil pass0 (pa_cons (pv 0) (pa_cons (pv 2) pa_nil))) (pa_cons (pe_call GRs (hr.mono (by omega)) (by rfl) Z.gRs Z.FRs.kp Z.bRs .nil pass0 (pa_cons (pv 0) (pa_cons (pv 3) pa_nil))) pa_nil))) (blkOk_by (N := scPrN) (sc := defScope scPrS) (by decide +kernel)) (fun _ _ _ _ _ => (pg_tup (by rfl) (pgs_cons (pg_name (i := 14) scPr.nd rfl (.inl rfl)) (pgs_cons (pg_name (i := 15) scPr.nd rfl (.inl rfl)) pgs_nil)))) (fun _ _ _ _ _ => pts_nil) (fun _ _ _ _ _ => (pe_ifExp (pt_cmpR op_eq (pv 15) pe_int (nomark _)) (pv 14) (pe_op op_add (pv 15) (pv 5)))))
 (pss_one (ps_ret (pe_cmpR (op_eqD hr.units) (pe_callTy call_list_of (by rfl) Z.N.list (by decide +kernel) (pa_cons (pe_call GRs (hr.mono (by omega)) (by rfl) Z.gRs Z.FRs.kp Z.bRs .nil pass0 (pa_cons (pv 0) (pa_cons (pv 6) pa_nil))) pa_nil)) (pv 11) (nomark _))))))))))), ?_⟩
    have L1 : 1 ≤ L := (hC L (List.mem_append_right _ (List.mem_singleton.mpr rfl))).1
    have mL0 : 0 ≤ m * L := Int.mul_nonneg m0 (by omega)
    have gl : atI ((C ++ [L]).map V.int) (-1) = some (.int L) := by
      rw [List.map_append]
      exact atI_last _ _
    have hC2 : ∀ z ∈ C ++ [L], 1 ≤ z ∧ L % z = 0 := fun z hz => ⟨(hC z hz).1, (hC z hz).2.2⟩
    have hC1 : ∀ z ∈ C ++ [L], 1 ≤ z ∧ z ≤ L := fun z hz => ⟨(hC z hz).1, (hC z hz).2.1⟩
    have st := st1.cat hC2 L1 m0 g0 st2
    refine ⟨.int m, rfl, .ref c, rfl, _, rfl, c, _, -1, _, rfl, rfl, hc.sq, gl, m, L, rfl, rfl, .inl ⟨by omega, by omega⟩, ?_⟩
    refine ⟨.ref t1, rfl, .ref t2, rfl, .int (m * L), rfl, t2, m * L, cs, rfl, ht2, by omega, fun H1 u1 e1 k1 => ?_⟩
    have lm : (mv (m * L) cs).length ≤ 100 := by unfold mv; rw [List.length_map]; exact hl2
    refine catSt (ht1.same e1) k1 (by omega) fun H2 p2 e2 k2 => ?_
    have e12 := e1.trans e2
    have hc2 := hc.keep e12
    have lw : (bs ++ mv (m * L) cs).length ≤ 200 := by rw [List.length_append]; omega
    refine ⟨.int m, rfl, .int g, rfl, m, g, rfl, rfl, _, _, rfl, ?_⟩
    refine ⟨.ref c, rfl, .int (m + g), rfl, .ref p2, rfl, c, C, L, m + g, .ref p2, rfl, hc2, hC1, by omega, by omega, by omega, k2.deep (by omega), fun a xs e ea => ?_, fun H3 b e3 hb => ?_⟩
    · cases e
      obtain ⟨ys, h1, h2⟩ := id k2
      rw [ea] at h1
      cases h1
      rw [h2.len]
      omega
    have hbt : b = true := hb.mpr ⟨p2, _, rfl, k2, st⟩
    subst hbt
    refine ⟨true, true, rfl, rfl, _, rfl, iteF ?_⟩
    have k3 := k2.same e3
    have e13 := e12.trans e3
    have h13 := ht1.same e13
    have h23 := ht2.same e13
    refine ⟨.ref p2, rfl, p2, _, rfl, k3, by omega, fun H4 e4 => ?_⟩
    refine ⟨.ref t1, rfl, t1, _, rfl, h13.same e4, by omega, fun H5 e5 => ?_⟩
    refine ⟨.ref t2, rfl, t2, _, rfl, (h23.same e4).same e5, by omega, fun H6 e6 => ?_⟩
    refine ⟨_, _, rfl, rfl, rfl, _, rfl, iteNS (by rw [live_cat]) ?_⟩
    have e36 := (e4.trans e5).trans e6
    have k6 := k3.same e36
    have h16 := h13.same e36
    have h26 := h23.same e36
    have hc6 := (hc2.keep e3).keep e36
    -- used pages
    have pg : ∀ (n : Int) (ds : List Bk), 0 ≤ n → St (C ++ [L]) (n * L) ds → ∀ (ns : List Int), (∀ j, j ∈ ns ↔ ∃ b ∈ ds, b.1 / L = j) → ∀ x ∈ ns, 0 ≤ x ∧ x < n := fun n ds hn hst ns hm x hx => by
      obtain ⟨b, hb, rfl⟩ := (hm x).mp hx
      obtain ⟨b0, b1, b2⟩ := hst.bnd b hb
      exact ⟨Int.ediv_nonneg b0 (by omega), Int.ediv_lt_of_lt_mul (by omega) (by omega)⟩
    refine ⟨.ref c, rfl, .ref t1, rfl, c, t1, C, L, bs, rfl, hc6, by omega, by omega, h16, by omega, fun H7 u7 n7 e7 h7 p7 m7 => ?_⟩
    have b7 := pg m bs m0 st1 n7 m7
    have l7 := inc_len p7 b7
    refine ⟨.ref c, rfl, .ref t2, rfl, c, t2, C, L, cs, rfl, hc6.keep e7, by omega, by omega, h26.same e7, by omega, fun H8 u8 n8 e8 h8 p8 m8 => ⟨u8, rfl, ⟨_, .inl (.inl h8)⟩, fun D nD => ?_⟩⟩
    have b8 := pg g cs g0 st2 n8 m8
    have l8 := inc_len p8 b8
    refine lc_tupF (xs := n8.map V.int) (fun x => some (.int (iV x + m))) (.inl (.inl h8)) nD (by rw [List.length_map]; exact Nat.lt_of_le_of_lt (show _ ≤ 10 by omega) (by decide)) (fun x hx H9 sm Y N2 hY hN => ?_) (fun H9 sm9 hD => ?_)
    · obtain ⟨z, hz, rfl⟩ := List.mem_map.mp hx
      exact ⟨rfl, .int z, rfl, .int m, rfl, z, m, rfl, rfl, hY _ rfl⟩
    have eD : (n8.map V.int).filterMap (fun x => some (V.int (iV x + m))) = (n8.map (· + m)).map V.int := by
      rw [List.map_map]
      rw [congrFun List.filterMap_eq_map' _, List.map_map]
      rfl
    rw [eD] at hD
    refine ⟨D, _, rfl, .inl ⟨.inl (.inl hD), fun v nv => ?_⟩⟩
    have sv := same_upd (o := .tup ((n8.map (· + m)).map V.int)) nv
    have e79 : Same H7 _ := (e8.trans sm9).trans sv
    refine catI (.inl (.inl (e79 _ _ h7))) (.inl (.inl upd_same)) (by rw [List.length_map]; omega) fun H10 p10 e10 k10 => ?_
    have e610 := e7.trans (e79.trans e10)
    have k10' := k6.same e610
    have h1a := h16.same e610
    have h2a := h26.same e610
    have hca := hc6.keep e610
    refine ⟨.ref c, rfl, .ref p2, rfl, c, p2, C, L, _, rfl, hca, by omega, by omega, k10', by omega, fun H11 u11 n11 e11 h11 p11 m11 => ?_⟩
    have en : n11 = n7 ++ n8.map (· + m) := by
      refine inc_ext p11 (inc_append p7 ?_ fun a ha b hb => ?_) fun j => ?_
      · rw [List.pairwise_map]
        exact p8.imp fun {a b} h => by omega
      · obtain ⟨x, hx, rfl⟩ := List.mem_map.mp hb
        have := b7 a ha
        have := b8 x hx
        omega
      · rw [m11, List.mem_append, m7, List.mem_map]
        have sh : ∀ x : Int, (x + m * L) / L = x / L + m := fun x => Int.add_mul_ediv_right _ _ (by omega)
        constructor
        · rintro ⟨b, hb, e⟩
          rcases List.mem_append.mp hb with z | z
          · exact .inl ⟨b, z, e⟩
          · obtain ⟨d, hd, rfl⟩ := mem_mv.mp z
            dsimp only at e
            rw [sh] at e
            exact .inr ⟨d.1 / L, (m8 _).mpr ⟨d, hd, rfl⟩, e⟩
        · rintro (⟨b, hb, e⟩ | ⟨x, hx, e⟩)
          · exact ⟨b, List.mem_append_left _ hb, e⟩
          · obtain ⟨d, hd, e2⟩ := (m8 x).mp hx
            refine ⟨(d.1 + m * L, d.2), List.mem_append_right _ (mem_mv.mpr ⟨d, hd, rfl⟩), ?_⟩
            show (d.1 + m * L) / L = j
            rw [sh, e2]
            exact e
    subst en
    refine ⟨.ref p10, rfl, _, _, SqT.dp (.inl (.inl h11)), SqT.dp (e11.tup k10), tl_shaped _, tl_shaped _, _, rfl, ?_⟩
    rw [tl_eqv]
    refine iteF ?_
    have kb := k10'.same e11
    have h1b := h1a.same e11
    have h2b := h2a.same e11
    have hcb := hca.keep e11
    have e0b := (e12.trans e3).trans (e36.trans (e610.trans e11))
    -- the sizes
    refine ⟨.ref c, rfl, c, rfl, ⟨_, hcb.sq⟩, ?_⟩
    refine for_tup (K := K) (a := c) (xs := (C ++ [L]).map V.int) (fun _ σ Hs => ∃ y9 y10 y11 y12 y13 y14 y15, σ = [some (.ref c), some (.int m), some (.ref t1), some (.ref t2), some (.int g), some (.int (m * L)), some (.ref p2), some (.int (m + g)), some (.ref p10), y9, y10, y11, y12, y13, y14, y15] ∧ Same H11 Hs)
      ⟨_, _, _, _, _, _, _, rfl, Same.refl _⟩ (fun i σ Hs _ p => ?_) ?_ ?_
    · obtain ⟨_, _, _, _, _, _, _, _, es⟩ := p
      exact (hcb.keep es).sq
    · rintro i x σ Hs hx ⟨y9, y10, y11, y12, y13, y14, y15, rfl, es⟩
      obtain ⟨z, hz, rfl⟩ := List.mem_map.mp (List.mem_of_getElem? hx)
      obtain ⟨z1, z2, z3⟩ := hC z hz
      have hcs := hcb.keep es
      have h1s := h1b.same es
      have h2s := h2b.same es
      have ks := kb.same es
      refine ⟨.ref c, rfl, .int m, rfl, .ref t1, rfl, .int z, rfl, c, t1, C, L, m, z, bs, rfl, hcs, hz, by omega, by omega, by omega, by omega, by omega, by omega, h1s, st1, by omega, fun Ha ua ea ha => ?_⟩
      refine ⟨.ref c, rfl, .int g, rfl, .ref t2, rfl, .int z, rfl, c, t2, C, L, g, z, cs, rfl, hcs.keep ea, hz, by omega, by omega, by omega, by omega, by omega, by omega, h2s.same ea, st2, by omega, fun Hb ub eb hb => ⟨ub, rfl, ⟨_, .inl (.inl hb)⟩, fun D nD => ?_⟩⟩
      have lpl : ∀ (n : Int) (ds : List Bk), 0 ≤ n → n ≤ 20 → St (C ++ [L]) (n * L) ds → (plf z 0 (ds ++ [(n * L, 0)])).length ≤ 1200 := fun n ds hn hn2 hst => by
        have n0 : 0 ≤ n * L := Int.mul_nonneg hn (by omega)
        have n1 : n * L ≤ 20 * 60 := Int.mul_le_mul hn2 hL (by omega) (by omega)
        obtain ⟨q1, q2⟩ := hst.asc0 n0
        have := plf_len (s := z) (by omega) _ 0 (n * L) q1 q2 n0
        omega
      have la := lpl m bs m0 (by omega) st1
      have lb := lpl g cs g0 (by omega) st2
      refine lc_tupF (xs := (plf z 0 (cs ++ [(g * L, 0)])).map V.int) (fun x => some (.int (iV x + m * L))) (.inl (.inl hb)) nD (by rw [List.length_map]; exact Nat.lt_of_le_of_lt lb (by decide)) (fun x hx H9 sm Y N2 hY hN => ?_) (fun Hd smd hD => ?_)
      · obtain ⟨y, hy, rfl⟩ := List.mem_map.mp hx
        exact ⟨rfl, .int y, rfl, .int (m * L), rfl, y, m * L, rfl, rfl, hY _ rfl⟩
      have eD2 : ((plf z 0 (cs ++ [(g * L, 0)])).map V.int).filterMap (fun x => some (V.int (iV x + m * L))) = ((plf z 0 (cs ++ [(g * L, 0)])).map (· + m * L)).map V.int := by
        rw [List.map_map, congrFun List.filterMap_eq_map' _, List.map_map]
        rfl
      rw [eD2] at hD
      refine ⟨D, _, rfl, .inl ⟨.inl (.inl hD), fun v nv => ?_⟩⟩
      have sv2 := same_upd (o := .tup (((plf z 0 (cs ++ [(g * L, 0)])).map (· + m * L)).map V.int)) nv
      have ead : Same Ha _ := (eb.trans smd).trans sv2
      refine catI (.inl (.inl (ead _ _ ha))) (.inl (.inl upd_same)) (by rw [List.length_map]; omega) fun He pe ee ke => ?_
      have ese := ea.trans (ead.trans ee)
      rw [← pl_cat (by omega) z3 hC2 L1 m0 g0 st1 st2] at ke
      refine ⟨.ref c, rfl, .int (m + g), rfl, .ref p2, rfl, .int z, rfl, c, p2, C, L, m + g, z, _, rfl, hcs.keep ese, hz, by omega, by omega, by omega, by omega, by omega, by omega, ks.same ese, st, by omega, fun Hf uf ef hf => ?_⟩
      refine ⟨.ref pe, rfl, _, _, SqT.dp (.inl (.inl hf)), SqT.dp (ef.tup ke), tl_shaped _, tl_shaped _, _, rfl, ?_⟩
      rw [tl_eqv]
      refine iteF ?_
      have esf := ese.trans ef
      have hcf := hcs.keep esf
      have h1f := h1s.same esf
      have h2f := h2s.same esf
      have kf := ks.same esf
      -- keepers
      refine ⟨.ref c, rfl, .ref p2, rfl, .int z, rfl, c, p2, C ++ [L], z, _, rfl, hcf, hz, by omega, by omega, kf, st.ascL, by omega, fun Hg ug eg kg => ?_⟩
      refine ⟨.ref c, rfl, .ref t1, rfl, .int z, rfl, c, t1, C ++ [L], z, _, rfl, hcf.keep eg, hz, by omega, by omega, h1f.same eg, st1.ascL, by omega, fun Hh uh eh kh => ?_⟩
      refine ⟨.ref c, rfl, .ref t2, rfl, .int z, rfl, c, t2, C ++ [L], z, _, rfl, (hcf.keep eg).keep eh, hz, by omega, by omega, (h2f.same eg).same eh, st2.ascL, by omega, fun Hi ui ei ki => ?_⟩
      have lk1 : (kp z bs).length ≤ 100 := Nat.le_trans (kp_sub _ _).length_le hl1
      have lk2 : (kp z cs).length ≤ 100 := Nat.le_trans (kp_sub _ _).length_le hl2
      refine ⟨.int (m * L), rfl, ui, m * L, _, rfl, ki, by omega, fun Hj uj ej kj => ?_⟩
      refine catSt (kh.same (ei.trans ej)) kj (by unfold mv; rw [List.length_map]; omega) fun Hk pk ek kk => ?_
      rw [kp_cat (by omega) z3 L1 m0 st1 st2] at kg
      refine ⟨_, _, (kg.same ((eh.trans ei).trans (ej.trans ek))).dp, kk.dp, sD_shaped _, sD_shaped _, _, rfl, ?_⟩
      rw [sD_eqv_refl]
      refine iteF ⟨_, _, _, _, _, _, _, rfl, ?_⟩
      exact es.trans (esf.trans (eg.trans ((eh.trans ei).trans (ej.trans ek))))
    · rintro σ Hs ⟨y9, y10, y11, y12, y13, y14, y15, rfl, es⟩
      have hcs := hcb.keep es
      have h1s := h1b.same es
      have h2s := h2b.same es
      have ks := kb.same es
      have lC : (C ++ [L]).length ≤ 1000 := by rw [List.length_append]; simp; omega
      refine ⟨.ref c, rfl, .ref t1, rfl, c, t1, C ++ [L], bs, rfl, hcs, lC, h1s, by omega, fun Ha ua ea ha => ?_⟩
      refine ⟨.ref c, rfl, .ref t2, rfl, c, t2, C ++ [L], cs, rfl, hcs.keep ea, lC, h2s.same ea, by omega, fun Hb ub eb hb => ?_⟩
      refine ⟨ua, ub, _, _, rfl, .inr ⟨.inl (.inl (eb _ _ ha)), .inl (.inl hb), fun D nD => ?_⟩⟩
      refine lc_zipS (K := K) (a := ua) (b := ub) (xs := ((C ++ [L]).map fun l => rch l bs).map V.int) (ys := ((C ++ [L]).map fun l => rch l cs).map V.int) (by simp) (fun i H3 => Same Hb H3 ∧ H3 D = some (.lst ((((C ++ [L]).take i).map fun l => rch l (bs ++ mv (m * L) cs)).map V.int))) ⟨same_upd nD, upd_same⟩ (fun i H3 p => ⟨.inl (.inl (p.1 _ _ (eb _ _ ha))), .inl (.inl (p.1 _ _ hb))⟩) (fun i x y T H3 hx hy p nT => ?_) (fun H3 p => ?_)
      · obtain ⟨s3, hD3⟩ := p
        obtain ⟨l, hl, rfl, rfl⟩ : ∃ l, (C ++ [L])[i]? = some l ∧ x = .int (rch l bs) ∧ y = .int (rch l cs) := by
          rw [List.getElem?_map, List.getElem?_map] at hx hy
          cases e : (C ++ [L])[i]? with
          | none => rw [e] at hx; cases hx
          | some l =>
            rw [e] at hx hy
            exact ⟨l, rfl, (Option.some.inj hx).symm, (Option.some.inj hy).symm⟩
        have sT := same_upd (o := .tup [.int (rch l bs), .int (rch l cs)]) nT
        have rc := rch_cat (l := l) L1 m0 st1 st2
        have fits : ((((C ++ [L]).take i).map fun l => rch l (bs ++ mv (m * L) cs)).map V.int).length < sizeLine := by
          rw [List.length_map, List.length_map, List.length_take]
          exact Nat.lt_of_le_of_lt (show _ ≤ 1000 by omega) (by decide)
        have fin1 : ∀ v : Int, v = rch l (bs ++ mv (m * L) cs) → ∃ acc, upd H3 T (.tup [.int (rch l bs), .int (rch l cs)]) D = some (.lst acc) ∧ acc.length < sizeLine ∧ Same Hb (upd (upd H3 T (.tup [.int (rch l bs), .int (rch l cs)])) D (.lst (acc ++ [.int v]))) ∧ upd (upd H3 T (.tup [.int (rch l bs), .int (rch l cs)])) D (.lst (acc ++ [.int v])) D = some (.lst ((((C ++ [L]).take (i + 1)).map fun l => rch l (bs ++ mv (m * L) cs)).map V.int)) := fun v ev => by
          refine ⟨_, sT _ _ hD3, fits, fun b o hb => ?_, ?_⟩
          · rw [upd_ne (ne_of_none hb nD)]
            exact sT _ _ (s3 _ _ hb)
          · rw [upd_same, ev, List.take_add_one, hl]
            simp
        refine ⟨T, _, rfl, .inl (.inl upd_same), rfl, _, _, rfl, _, _, rfl, rfl, rfl, ?_⟩
        refine ⟨.int (rch l cs), rfl, rfl, _, rfl, ite2 (fun cc => ⟨.int (rch l bs), rfl, fin1 _ ?_⟩) (fun cc => ⟨.int (rch l cs), rfl, .int (m * L), rfl, _, _, rfl, rfl, fin1 _ ?_⟩)⟩
        · have z : rch l cs = 0 := V.int.inj (of_decide_eq_true cc)
          rw [rc, if_pos z]
        · have z : ¬ rch l cs = 0 := fun z => cc (decide_eq_true (by rw [z]))
          rw [rc, if_neg z]
      · obtain ⟨s3, hD3⟩ := p
        rw [List.length_map, List.length_map, List.take_of_length_le (Nat.le_refl _)] at hD3
        have esb := (ea.trans eb).trans s3
        refine ⟨.ref c, rfl, .ref p2, rfl, c, p2, C ++ [L], _, rfl, hcs.keep esb, lC, ks.same esb, by omega, fun Hf uf ef hf => ?_⟩
        refine ⟨uf, _, rfl, .inr (.inl (.inl hf)), fun lq nlq => ?_⟩
        have sl := same_upd (o := .lst (((C ++ [L]).map fun l => rch l (bs ++ mv (m * L) cs)).map V.int)) nlq
        refine ⟨.ref D, rfl, _, _, .lst (.inl (.inl upd_same)) (dpI _), .lst (.inl (.inl (sl _ _ (ef _ _ hD3)))) (dpI _), il_shaped _, il_shaped _, ?_⟩
        rw [il_eqv]
        exact q _ ((e0b.trans es).trans (esb.trans (ef.trans sl)))
end
end Ph

namespace Ph
open PySem PySem.Spec PyProof.Rows L2
theorem same_but {p : Addr} {H H1 H2 : Hp} (a : Same H H1) (n : H p = none) (b : But p H1 H2) : Same H H2 := fun c o h => b c o (ne_of_none h n) (a c o h)
theorem St.more {C : List Int} {W W' : Int} {bs : List Bk} (h : St C W bs) (hW : W ≤ W') : St C W' bs := ⟨fun b hb => let ⟨h1, h2, h3, h4, h5⟩ := h.ok b hb; ⟨h1, h2, h3, h4, Int.le_trans h5 hW⟩, h.asc⟩
section
variable {P : Program} {w : World} {K : PySem.W.Frag} {mg : Str → Option Value} {base : Heap}
def spLaw (K : PySem.W.Frag) : Sp := fun vs H Q _ => ∃ (a : Addr) (ns : List Int), vs = [.ref a] ∧ SqL K H a (ns.map V.int) ∧ ns.length ≤ 63 ∧ ∀ H', Q (.bl true) H'
theorem ok_Law {k : Nat} (Z : Fns K mg) : FnOk P w K mg base CX0 7 Z.fLaw Z.fdLaw ["_law_script"] (spLaw K) := by
  have GP : FnOk P w K mg base CX0 1 Z.fP Z.fdP ["_law_script", "_law_k"] (spPot K) := ok_pot Z.FP Z.N.len Z.N.abs Z.N.int Z.N.dig
  have GT : FnOk P w K mg base CX0 1 Z.fT Z.fdT ["_law_pot_here", "_law_upto"] spTake := ok_take Z.FT
  have GL : FnOk P w K mg base CX0 3 Z.fL Z.fdL ["_law_pot_here", "_law_most"] spLinks := ok_links Z.FL Z.FT Z.bT Z.gT Z.FO Z.bO Z.gO Z.N.len Z.N.range Z.N.tuple
  have GW : FnOk P w K mg base CX0 3 Z.fW Z.fdW ["_law_pot_here", "_law_links_here", "_law_many", "_law_tries"] spDrawn := ok_drawn Z.FW Z.N Z.FT Z.bT Z.gT Z.FO Z.bO Z.gO
  have GS : FnOk P w K mg base CX0 4 Z.fS Z.fdS ["chain", "pages", "value"] spSt := ok_isst Z.FS Z.N Z.FI Z.bI Z.gI Z.FZ Z.bZ Z.gZ Z.FB Z.bB Z.gB
  have GPr : FnOk P w K mg base CX0 6 Z.fPr Z.fdPr ["_law_links_here", "_law_many", "_law_first", "_law_second", "_law_gap"] spPr := ok_Pr (k := 0) Z
  refine Z.FLaw.ok scLaw (fun vs H Q E h => ?_) (fun cdv A outer s H vs Q E hr h => ?_)
  · obtain ⟨a, ns, rfl, _⟩ := h
    rfl
  · obtain ⟨a, ns, rfl, hS, hlen, q⟩ := h
    refine ⟨_, (pss_cons (ps_for PassesOwn.never rfl (pi_range1 (by rfl) Z.N.range (pa_cons (pe_callB (call_max2 rfl) (by rfl) Z.N.max (by decide +kernel) (pa_cons pe_int (pa_cons (pe_callB (call_min2 rfl) (by rfl) Z.N.min (by decide +kernel) (pa_cons pe_int (pa_cons (pe_callB call_len_seq (by rfl) Z.N.len (by decide +kernel) (pa_cons (pv 0) pa_nil)) pa_nil))) pa_nil))) pa_nil)) (pg_name (i := 1) scLaw.nd rfl (.inl rfl))
 (pss_cons (ps_set (i := 2) scLaw.nd rfl (.inl rfl) (pe_call GP (hr.mono (by omega)) (by rfl) Z.gP Z.FP.kp Z.bP .nil pass0 (pa_cons (pv 0) (pa_cons (pv 1) pa_nil))))
 (pss_one (ps_for PassesOwn.never rfl (pi_range1 (by rfl) Z.N.range (pa_cons pe_int pa_nil)) (pg_name (i := 3) scLaw.nd rfl (.inl rfl))
 (pss_cons (ps_par3 (i := 4) (j := 5) (l := 6) (by rfl) scLaw.nd rfl rfl rfl (by decide) (by decide) (by decide) rfl rfl rfl (pa_cons (pe_call GL (hr.mono (by omega)) (by rfl) Z.gL Z.FL.kp Z.bL .nil pass0 (pa_cons (pv 2) (pa_cons pe_int pa_nil))) (pa_cons (pe_op op_add pe_int (pe_call GT (hr.mono (by omega)) (by rfl) Z.gT Z.FT.kp Z.bT .nil pass0 (pa_cons (pv 2) (pa_cons pe_int pa_nil)))) (pa_cons (pe_op op_add pe_int (pe_call GT (hr.mono (by omega)) (by rfl) Z.gT Z.FT.kp Z.bT .nil pass0 (pa_cons (pv 2) (pa_cons pe_int pa_nil)))) pa_nil))) (by rfl))
 (pss_cons (ps_par (i := 7) (j := 8) (by rfl) scLaw.nd rfl rfl (by decide) rfl rfl (pa_cons (pe_call GW (hr.mono (by omega)) (by rfl) Z.gW Z.FW.kp Z.bW .nil pass0 (pa_cons (pv 2) (pa_cons (pv 4) (pa_cons (pv 5) (pa_cons pe_int pa_nil))))) (pa_cons (pe_call GW (hr.mono (by omega)) (by rfl) Z.gW Z.FW.kp Z.bW .nil pass0 (pa_cons (pv 2) (pa_cons (pv 4) (pa_cons (pv 6) (pa_cons pe_int pa_nil))))) pa_nil)) (by rfl))
 (pss_cons (ps_if (PW.pt (pw_or (pt_cmpR op_isnot_bl (pe_call GS (hr.mono (by omega)) (by rfl) Z.gS Z.FS.kp Z.bS .nil pass0 (pa_cons (pv 4) (pa_cons (pe_op op_add (pv 5) pe_int) (pa_cons (pv 7) pa_nil)))) pe_bl (nomark _)) (pw_or1 (pt_not (pt_val (pe_call GPr (hr.mono (by omega)) (by rfl) Z.gPr Z.FPr.kp Z.bPr .nil pass0 (pa_cons (pv 4) (pa_cons (pv 5) (pa_cons (pv 7) (pa_cons (pv 8) (pa_cons (pv 6) pa_nil)))))))))))
 (pss_one (ps_ret pe_bl)) pss_nil)
 (pss_one (ps_if (pt_not (pt_val (pe_call GPr (hr.mono (by omega)) (by rfl) Z.gPr Z.FPr.kp Z.bPr .nil pass0 (pa_cons (pv 4) (pa_cons (pv 5) (pa_cons (pe_tup pa_nil) (pa_cons (pv 8) (pa_cons (pv 6) pa_nil))))))))
 (pss_one (ps_ret pe_bl)) pss_nil)))))))))
 (pss_one (ps_ret pe_bl))), ?_⟩
    refine ⟨.ref a, rfl, a, _, rfl, .inl hS, _, _, rfl, _, _, rfl, ?_⟩
    generalize hz : (if (if (((ns.map V.int).length : Nat) : Int) < 3 then (((ns.map V.int).length : Nat) : Int) else 3) > 1 then (if (((ns.map V.int).length : Nat) : Int) < 3 then (((ns.map V.int).length : Nat) : Int) else 3) else 1) = z
    have hz0 : 1 ≤ z ∧ z ≤ 3 := by
      rw [← hz]
      split <;> (try split) <;> omega
    refine ⟨z, rfl, by omega, by omega, ?_⟩
    refine for_range (lo := 0) (n := z.toNat) (fun i σ H2 => ∃ y1 y2 y3 y4 y5 y6 y7 y8, σ = [some (.ref a), y1, y2, y3, y4, y5, y6, y7, y8] ∧ Same H H2) ⟨none, none, none, none, none, none, none, none, rfl, Same.refl _⟩ ?_ ?_
    · rintro i σ H2 hi ⟨y1, y2, y3, y4, y5, y6, y7, y8, rfl, sm⟩
      refine ⟨.ref a, rfl, .int (0 + i), rfl, a, ns, i, ?_, sm.seq hS, by omega, fun H3 p s3 np hp => ?_⟩
      · rw [Int.zero_add]
        rfl
      have npH : H p = none := sm.free np
      refine ⟨3, rfl, by decide, by decide, ?_⟩
      refine for_range (lo := 0) (n := (3 : Int).toNat) (fun j σ H4 => ∃ y3 y4 y5 y6 y7 y8, σ = [some (.ref a), some (.int (0 + i)), some (.ref p), y3, y4, y5, y6, y7, y8] ∧ Same H H4 ∧ Pot H4 p) ⟨_, _, _, _, _, _, rfl, sm.trans s3, hp⟩ ?_ ?_
      · clear y3 y4 y5 y6 y7 y8
        rintro j σ H4 hj ⟨y3, y4, y5, y6, y7, y8, rfl, s4, hp4⟩
        refine ⟨.ref p, rfl, p, 60, rfl, hp4, by decide, by decide, fun H5 c cs x b5 hp5 nc hc hk hl => ?_⟩
        refine ⟨.ref p, rfl, p, 4, rfl, hp5, by decide, by decide, fun H6 m b6 hp6 m0 m1 => ⟨_, _, rfl, rfl, ?_⟩⟩
        refine ⟨.ref p, rfl, p, 4, rfl, hp6, by decide, by decide, fun H7 g b7 hp7 g0 g1 => ⟨_, _, rfl, rfl, _, _, _, rfl, ?_⟩⟩
        have hc8 := (hc.but b6 hp5).but b7 hp6
        have hp8 := hp7
        have hL : x ≤ 60 := hk.le (by decide)
        obtain ⟨hCh, hCx⟩ := hk.chn
        obtain ⟨C, rfl⟩ := hk.last
        have hl2 : C.length ≤ 20 := by simp at hl; omega
        have x1 : 1 ≤ x := (hCx x (by simp)).1
        refine ⟨.ref p, rfl, .ref c, rfl, .int (1 + m), rfl, p, c, C, x, 1 + m, 15, rfl, hp8, hc8, fun z hz => ⟨(hCx z hz).1, (hCx z hz).2.1⟩, hl2, by omega, by omega, by omega, by omega, by omega, fun G1 t1 bs d1 hq1 hst1 st1 hbl1 => ?_⟩
        have hcG1 := hc8.but d1 hp8
        refine ⟨.ref p, rfl, .ref c, rfl, .int (1 + g), rfl, p, c, C, x, 1 + g, 15, rfl, hq1, hcG1, fun z hz => ⟨(hCx z hz).1, (hCx z hz).2.1⟩, hl2, by omega, by omega, by omega, by omega, by omega, fun G2 t2 cs d2 hq2 hst2 st2 hbl2 => ⟨_, _, rfl, ?_⟩⟩
        have hcG2 := hcG1.but d2 hq1
        have hst1' := hst1.but d2 hq1
        have sG2 : Same H G2 := same_but (same_but (same_but (same_but (same_but s4 npH b5) npH b6) npH b7) npH d1) npH d2
        refine ⟨.ref c, rfl, .int (1 + m), rfl, _, _, rfl, rfl, .ref t1, rfl, c, C, x, 1 + m + 3, .ref t1, rfl, hcG2, fun z hz => ⟨(hCx z hz).1, (hCx z hz).2.1⟩, by omega, by omega, by omega, hst1'.deep (by omega), fun a xs e ea => ?_, fun G3 b e3 hb => ?_⟩
        · cases e
          obtain ⟨ys, h1, h2⟩ := id hst1'
          rw [ea] at h1
          cases h1
          rw [h2.len]
          omega
        have hbt : b = true := hb.mpr ⟨t1, _, rfl, hst1', st1.more (Int.mul_le_mul_of_nonneg_right (by omega) (by omega))⟩
        subst hbt
        refine ⟨true, true, rfl, rfl, _, rfl, iteF ?_⟩
        refine ⟨.ref c, rfl, .int (1 + m), rfl, .ref t1, rfl, .ref t2, rfl, .int (1 + g), rfl, c, t1, t2, C, x, 1 + m, 1 + g, bs, cs, rfl, hcG2.keep e3, hCx, hl2, by omega, by omega, by omega, by omega, by omega, hst1'.same e3, st1, hst2.same e3, st2, by omega, by omega, fun G4 e4 => ⟨_, rfl, iteF ?_⟩⟩
        refine ⟨.ref c, rfl, .int (1 + m), rfl, (by show 0 ≤ sizeLine; decide), fun t0 n0 => ?_⟩
        have s0 := same_upd (o := .tup []) n0
        have e24 := (e3.trans e4).trans s0
        refine ⟨.ref t2, rfl, .int (1 + g), rfl, c, t0, t2, C, x, 1 + m, 1 + g, [], cs, rfl, hcG2.keep e24, hCx, hl2, by omega, by omega, by omega, by omega, by omega, ⟨[], upd_same, .nil⟩, ⟨(fun b hb => nomatch hb), .nil⟩, hst2.same e24, st2, by simp, by omega, fun G5 e5 => ⟨_, rfl, iteF ?_⟩⟩
        exact ⟨_, _, _, _, _, _, rfl, sG2.trans (e24.trans e5), hq2.same (e24.trans e5)⟩
      · rintro σ H4 ⟨y3, y4, y5, y6, y7, y8, rfl, s4, hp4⟩
        exact ⟨_, _, _, _, _, _, _, _, rfl, s4⟩
    · rintro σ H2 ⟨y1, y2, y3, y4, y5, y6, y7, y8, rfl, sm⟩
      exact q _
end
end Ph

namespace Ph
open PySem PySem.Spec PyProof.Rows L2
theorem all_mk {l : PySem.W.OpenLaw} {w : World} {K : PySem.W.Frag} {h : Heap} {mg : Str → Option Value} {fa : Addr} (X : K.In h) (G : h.Ns mainGlobals mg) (hfa : mg "law" = some (.ref fa))
    {f1 : Addr} {od1 an1 : Option Addr} {sl1 : Array (Option Value)} {oc1 kV1 dc1 pm1 cd1 ct1 : Value} (a1 : PySem.W.nsIn K mainGlobals "is_integer" = some (some (.ref f1))) (l1 : K.lookup f1 = some ⟨oc1, od1, .func (PySem.W.fnOf "is_integer" "is_integer" (defArgs (topS 4)) (defBody (topS 4)) (defScope (topS 4)) .none kV1 dc1 pm1 an1 cd1 ct1), sl1⟩) (c1 : PySem.W.codeIn K cd1 "is_integer" = true) (k1 : PySem.W.keepIn K (.ref f1) = true)
    {f2 : Addr} {od2 an2 : Option Addr} {sl2 : Array (Option Value)} {oc2 kV2 dc2 pm2 cd2 ct2 : Value} (a2 : PySem.W.nsIn K mainGlobals "divided_up" = some (some (.ref f2))) (l2 : K.lookup f2 = some ⟨oc2, od2, .func (PySem.W.fnOf "divided_up" "divided_up" (defArgs (topS 5)) (defBody (topS 5)) (defScope (topS 5)) .none kV2 dc2 pm2 an2 cd2 ct2), sl2⟩) (c2 : PySem.W.codeIn K cd2 "divided_up" = true) (k2 : PySem.W.keepIn K (.ref f2) = true)
    {f3 : Addr} {od3 an3 : Option Addr} {sl3 : Array (Option Value)} {oc3 kV3 dc3 pm3 cd3 ct3 : Value} (a3 : PySem.W.nsIn K mainGlobals "is_size" = some (some (.ref f3))) (l3 : K.lookup f3 = some ⟨oc3, od3, .func (PySem.W.fnOf "is_size" "is_size" (defArgs (topS 7)) (defBody (topS 7)) (defScope (topS 7)) .none kV3 dc3 pm3 an3 cd3 ct3), sl3⟩) (c3 : PySem.W.codeIn K cd3 "is_size" = true) (k3 : PySem.W.keepIn K (.ref f3) = true)
    {f4 : Addr} {od4 an4 : Option Addr} {sl4 : Array (Option Value)} {oc4 kV4 dc4 pm4 cd4 ct4 : Value} (a4 : PySem.W.nsIn K mainGlobals "class_of" = some (some (.ref f4))) (l4 : K.lookup f4 = some ⟨oc4, od4, .func (PySem.W.fnOf "class_of" "class_of" (defArgs (topS 8)) (defBody (topS 8)) (defScope (topS 8)) .none kV4 dc4 pm4 an4 cd4 ct4), sl4⟩) (c4 : PySem.W.codeIn K cd4 "class_of" = true) (k4 : PySem.W.keepIn K (.ref f4) = true)
    {f5 : Addr} {od5 an5 : Option Addr} {sl5 : Array (Option Value)} {oc5 kV5 dc5 pm5 cd5 ct5 : Value} (a5 : PySem.W.nsIn K mainGlobals "is_state" = some (some (.ref f5))) (l5 : K.lookup f5 = some ⟨oc5, od5, .func (PySem.W.fnOf "is_state" "is_state" (defArgs (topS 10)) (defBody (topS 10)) (defScope (topS 10)) .none kV5 dc5 pm5 an5 cd5 ct5), sl5⟩) (c5 : PySem.W.codeIn K cd5 "is_state" = true) (k5 : PySem.W.keepIn K (.ref f5) = true)
    {f6 : Addr} {od6 an6 : Option Addr} {sl6 : Array (Option Value)} {oc6 kV6 dc6 pm6 cd6 ct6 : Value} (a6 : PySem.W.nsIn K mainGlobals "is_block" = some (some (.ref f6))) (l6 : K.lookup f6 = some ⟨oc6, od6, .func (PySem.W.fnOf "is_block" "is_block" (defArgs (topS 11)) (defBody (topS 11)) (defScope (topS 11)) .none kV6 dc6 pm6 an6 cd6 ct6), sl6⟩) (c6 : PySem.W.codeIn K cd6 "is_block" = true) (k6 : PySem.W.keepIn K (.ref f6) = true)
    {f7 : Addr} {od7 an7 : Option Addr} {sl7 : Array (Option Value)} {oc7 kV7 dc7 pm7 cd7 ct7 : Value} (a7 : PySem.W.nsIn K mainGlobals "live_words" = some (some (.ref f7))) (l7 : K.lookup f7 = some ⟨oc7, od7, .func (PySem.W.fnOf "live_words" "live_words" (defArgs (topS 12)) (defBody (topS 12)) (defScope (topS 12)) .none kV7 dc7 pm7 an7 cd7 ct7), sl7⟩) (c7 : PySem.W.codeIn K cd7 "live_words" = true) (k7 : PySem.W.keepIn K (.ref f7) = true)
    {f8 : Addr} {od8 an8 : Option Addr} {sl8 : Array (Option Value)} {oc8 kV8 dc8 pm8 cd8 ct8 : Value} (a8 : PySem.W.nsIn K mainGlobals "places" = some (some (.ref f8))) (l8 : K.lookup f8 = some ⟨oc8, od8, .func (PySem.W.fnOf "places" "places" (defArgs (topS 13)) (defBody (topS 13)) (defScope (topS 13)) .none kV8 dc8 pm8 an8 cd8 ct8), sl8⟩) (c8 : PySem.W.codeIn K cd8 "places" = true) (k8 : PySem.W.keepIn K (.ref f8) = true)
    {f9 : Addr} {od9 an9 : Option Addr} {sl9 : Array (Option Value)} {oc9 kV9 dc9 pm9 cd9 ct9 : Value} (a9 : PySem.W.nsIn K mainGlobals "gaps" = some (some (.ref f9))) (l9 : K.lookup f9 = some ⟨oc9, od9, .func (PySem.W.fnOf "gaps" "gaps" (defArgs (topS 14)) (defBody (topS 14)) (defScope (topS 14)) .none kV9 dc9 pm9 an9 cd9 ct9), sl9⟩) (c9 : PySem.W.codeIn K cd9 "gaps" = true) (k9 : PySem.W.keepIn K (.ref f9) = true)
    {f10 : Addr} {od10 an10 : Option Addr} {sl10 : Array (Option Value)} {oc10 kV10 dc10 pm10 cd10 ct10 : Value} (a10 : PySem.W.nsIn K mainGlobals "used_pages" = some (some (.ref f10))) (l10 : K.lookup f10 = some ⟨oc10, od10, .func (PySem.W.fnOf "used_pages" "used_pages" (defArgs (topS 15)) (defBody (topS 15)) (defScope (topS 15)) .none kV10 dc10 pm10 an10 cd10 ct10), sl10⟩) (c10 : PySem.W.codeIn K cd10 "used_pages" = true) (k10 : PySem.W.keepIn K (.ref f10) = true)
    {f11 : Addr} {od11 an11 : Option Addr} {sl11 : Array (Option Value)} {oc11 kV11 dc11 pm11 cd11 ct11 : Value} (a11 : PySem.W.nsIn K mainGlobals "reaches" = some (some (.ref f11))) (l11 : K.lookup f11 = some ⟨oc11, od11, .func (PySem.W.fnOf "reaches" "reaches" (defArgs (topS 16)) (defBody (topS 16)) (defScope (topS 16)) .none kV11 dc11 pm11 an11 cd11 ct11), sl11⟩) (c11 : PySem.W.codeIn K cd11 "reaches" = true) (k11 : PySem.W.keepIn K (.ref f11) = true)
    {f12 : Addr} {od12 an12 : Option Addr} {sl12 : Array (Option Value)} {oc12 kV12 dc12 pm12 cd12 ct12 : Value} (a12 : PySem.W.nsIn K mainGlobals "reach" = some (some (.ref f12))) (l12 : K.lookup f12 = some ⟨oc12, od12, .func (PySem.W.fnOf "reach" "reach" (defArgs (topS 17)) (defBody (topS 17)) (defScope (topS 17)) .none kV12 dc12 pm12 an12 cd12 ct12), sl12⟩) (c12 : PySem.W.codeIn K cd12 "reach" = true) (k12 : PySem.W.keepIn K (.ref f12) = true)
    {f13 : Addr} {od13 an13 : Option Addr} {sl13 : Array (Option Value)} {oc13 kV13 dc13 pm13 cd13 ct13 : Value} (a13 : PySem.W.nsIn K mainGlobals "keepers" = some (some (.ref f13))) (l13 : K.lookup f13 = some ⟨oc13, od13, .func (PySem.W.fnOf "keepers" "keepers" (defArgs (topS 18)) (defBody (topS 18)) (defScope (topS 18)) .none kV13 dc13 pm13 an13 cd13 ct13), sl13⟩) (c13 : PySem.W.codeIn K cd13 "keepers" = true) (k13 : PySem.W.keepIn K (.ref f13) = true)
    {f14 : Addr} {od14 an14 : Option Addr} {sl14 : Array (Option Value)} {oc14 kV14 dc14 pm14 cd14 ct14 : Value} (a14 : PySem.W.nsIn K mainGlobals "_law_pot" = some (some (.ref f14))) (l14 : K.lookup f14 = some ⟨oc14, od14, .func (PySem.W.fnOf "_law_pot" "_law_pot" (defArgs (topS 20)) (defBody (topS 20)) (defScope (topS 20)) .none kV14 dc14 pm14 an14 cd14 ct14), sl14⟩) (c14 : PySem.W.codeIn K cd14 "_law_pot" = true) (k14 : PySem.W.keepIn K (.ref f14) = true)
    {f15 : Addr} {od15 an15 : Option Addr} {sl15 : Array (Option Value)} {oc15 kV15 dc15 pm15 cd15 ct15 : Value} (a15 : PySem.W.nsIn K mainGlobals "_law_take" = some (some (.ref f15))) (l15 : K.lookup f15 = some ⟨oc15, od15, .func (PySem.W.fnOf "_law_take" "_law_take" (defArgs (topS 21)) (defBody (topS 21)) (defScope (topS 21)) .none kV15 dc15 pm15 an15 cd15 ct15), sl15⟩) (c15 : PySem.W.codeIn K cd15 "_law_take" = true) (k15 : PySem.W.keepIn K (.ref f15) = true)
    {f16 : Addr} {od16 an16 : Option Addr} {sl16 : Array (Option Value)} {oc16 kV16 dc16 pm16 cd16 ct16 : Value} (a16 : PySem.W.nsIn K mainGlobals "_law_of" = some (some (.ref f16))) (l16 : K.lookup f16 = some ⟨oc16, od16, .func (PySem.W.fnOf "_law_of" "_law_of" (defArgs (topS 22)) (defBody (topS 22)) (defScope (topS 22)) .none kV16 dc16 pm16 an16 cd16 ct16), sl16⟩) (c16 : PySem.W.codeIn K cd16 "_law_of" = true) (k16 : PySem.W.keepIn K (.ref f16) = true)
    {f17 : Addr} {od17 an17 : Option Addr} {sl17 : Array (Option Value)} {oc17 kV17 dc17 pm17 cd17 ct17 : Value} (a17 : PySem.W.nsIn K mainGlobals "_law_links" = some (some (.ref f17))) (l17 : K.lookup f17 = some ⟨oc17, od17, .func (PySem.W.fnOf "_law_links" "_law_links" (defArgs (topS 23)) (defBody (topS 23)) (defScope (topS 23)) .none kV17 dc17 pm17 an17 cd17 ct17), sl17⟩) (c17 : PySem.W.codeIn K cd17 "_law_links" = true) (k17 : PySem.W.keepIn K (.ref f17) = true)
    {f18 : Addr} {od18 an18 : Option Addr} {sl18 : Array (Option Value)} {oc18 kV18 dc18 pm18 cd18 ct18 : Value} (a18 : PySem.W.nsIn K mainGlobals "_law_drawn" = some (some (.ref f18))) (l18 : K.lookup f18 = some ⟨oc18, od18, .func (PySem.W.fnOf "_law_drawn" "_law_drawn" (defArgs (topS 24)) (defBody (topS 24)) (defScope (topS 24)) .none kV18 dc18 pm18 an18 cd18 ct18), sl18⟩) (c18 : PySem.W.codeIn K cd18 "_law_drawn" = true) (k18 : PySem.W.keepIn K (.ref f18) = true)
    {f19 : Addr} {od19 an19 : Option Addr} {sl19 : Array (Option Value)} {oc19 kV19 dc19 pm19 cd19 ct19 : Value} (a19 : PySem.W.nsIn K mainGlobals "_law_moved" = some (some (.ref f19))) (l19 : K.lookup f19 = some ⟨oc19, od19, .func (PySem.W.fnOf "_law_moved" "_law_moved" (defArgs (topS 25)) (defBody (topS 25)) (defScope (topS 25)) .none kV19 dc19 pm19 an19 cd19 ct19), sl19⟩) (c19 : PySem.W.codeIn K cd19 "_law_moved" = true) (k19 : PySem.W.keepIn K (.ref f19) = true)
    {f20 : Addr} {od20 an20 : Option Addr} {sl20 : Array (Option Value)} {oc20 kV20 dc20 pm20 cd20 ct20 : Value} (a20 : PySem.W.nsIn K mainGlobals "_law_parts_right" = some (some (.ref f20))) (l20 : K.lookup f20 = some ⟨oc20, od20, .func (PySem.W.fnOf "_law_parts_right" "_law_parts_right" (defArgs (topS 26)) (defBody (topS 26)) (defScope (topS 26)) .none kV20 dc20 pm20 an20 cd20 ct20), sl20⟩) (c20 : PySem.W.codeIn K cd20 "_law_parts_right" = true) (k20 : PySem.W.keepIn K (.ref f20) = true)
    {f21 : Addr} {od21 an21 : Option Addr} {sl21 : Array (Option Value)} {oc21 kV21 dc21 pm21 cd21 ct21 : Value} (a21 : PySem.W.nsIn K mainGlobals "law" = some (some (.ref f21))) (l21 : K.lookup f21 = some ⟨oc21, od21, .func (PySem.W.fnOf "law" "law" (defArgs (topS 27)) (defBody (topS 27)) (defScope (topS 27)) .none kV21 dc21 pm21 an21 cd21 ct21), sl21⟩) (c21 : PySem.W.codeIn K cd21 "law" = true) (k21 : PySem.W.keepIn K (.ref f21) = true)
    (z1 : PySem.W.nsIn K mainGlobals "len" = some none)
    (z2 : PySem.W.nsIn K mainGlobals "abs" = some none)
    (z3 : PySem.W.nsIn K mainGlobals "int" = some none)
    (z4 : PySem.W.nsIn K mainGlobals "range" = some none)
    (z5 : PySem.W.nsIn K mainGlobals "tuple" = some none)
    (z6 : PySem.W.nsIn K mainGlobals "max" = some none)
    (z7 : PySem.W.nsIn K mainGlobals "min" = some none)
    (z8 : PySem.W.nsIn K mainGlobals "repr" = some none)
    (z9 : PySem.W.nsIn K mainGlobals "isinstance" = some none)
    (z10 : PySem.W.nsIn K mainGlobals "bool" = some none)
    (z11 : PySem.W.nsIn K mainGlobals "all" = some none)
    (z12 : PySem.W.nsIn K mainGlobals "any" = some none)
    (z13 : PySem.W.nsIn K mainGlobals "list" = some none)
    (z14 : PySem.W.nsIn K mainGlobals "dict" = some none)
    (z15 : PySem.W.nsIn K mainGlobals "sorted" = some none)
    (z16 : PySem.W.nsIn K mainGlobals "set" = some none)
    (z17 : PySem.W.nsIn K mainGlobals "sum" = some none)
    (z18 : PySem.W.nsIn K mainGlobals "zip" = some none)
    (zd : PySem.W.nsIn K cStatics "sys.int_max_str_digits" = some none) :
    ∃ fd : FuncData, (∀ (s : Shared) (v : Value), BindsTo s fd ⟨[v], []⟩ [("_law_script", v)]) ∧ ∀ base : Heap, K.In base → base.Ns mainGlobals mg → FnOk l.prog w K mg base CX0 7 fa fd ["_law_script"] (spLaw K) := by
  have e := hfa.symm.trans (PySem.W.mg_of X G a21)
  cases e
  have F1 := fun_mk (x := "is_integer") (qual := "is_integer") (st := topS 4) l1 c1 k1
  have F2 := fun_mk (x := "divided_up") (qual := "divided_up") (st := topS 5) l2 c2 k2
  have F3 := fun_mk (x := "is_size") (qual := "is_size") (st := topS 7) l3 c3 k3
  have F4 := fun_mk (x := "class_of") (qual := "class_of") (st := topS 8) l4 c4 k4
  have F5 := fun_mk (x := "is_state") (qual := "is_state") (st := topS 10) l5 c5 k5
  have F6 := fun_mk (x := "is_block") (qual := "is_block") (st := topS 11) l6 c6 k6
  have F7 := fun_mk (x := "live_words") (qual := "live_words") (st := topS 12) l7 c7 k7
  have F8 := fun_mk (x := "places") (qual := "places") (st := topS 13) l8 c8 k8
  have F9 := fun_mk (x := "gaps") (qual := "gaps") (st := topS 14) l9 c9 k9
  have F10 := fun_mk (x := "used_pages") (qual := "used_pages") (st := topS 15) l10 c10 k10
  have F11 := fun_mk (x := "reaches") (qual := "reaches") (st := topS 16) l11 c11 k11
  have F12 := fun_mk (x := "reach") (qual := "reach") (st := topS 17) l12 c12 k12
  have F13 := fun_mk (x := "keepers") (qual := "keepers") (st := topS 18) l13 c13 k13
  have F14 := fun_mk (x := "_law_pot") (qual := "_law_pot") (st := topS 20) l14 c14 k14
  have F15 := fun_mk (x := "_law_take") (qual := "_law_take") (st := topS 21) l15 c15 k15
  have F16 := fun_mk (x := "_law_of") (qual := "_law_of") (st := topS 22) l16 c16 k16
  have F17 := fun_mk (x := "_law_links") (qual := "_law_links") (st := topS 23) l17 c17 k17
  have F18 := fun_mk (x := "_law_drawn") (qual := "_law_drawn") (st := topS 24) l18 c18 k18
  have F19 := fun_mk (x := "_law_moved") (qual := "_law_moved") (st := topS 25) l19 c19 k19
  have F20 := fun_mk (x := "_law_parts_right") (qual := "_law_parts_right") (st := topS 26) l20 c20 k20
  have F21 := fun_mk (x := "law") (qual := "law") (st := topS 27) l21 c21 k21
  let Z : Fns K mg := {
    N := ⟨PySem.W.mg_none_of X G z1, PySem.W.mg_none_of X G z2, PySem.W.mg_none_of X G z3, PySem.W.mg_none_of X G z4, PySem.W.mg_none_of X G z5, PySem.W.mg_none_of X G z6, PySem.W.mg_none_of X G z7, PySem.W.mg_none_of X G z8, PySem.W.mg_none_of X G z9, PySem.W.mg_none_of X G z10, PySem.W.mg_none_of X G z11, PySem.W.mg_none_of X G z12, PySem.W.mg_none_of X G z13, PySem.W.mg_none_of X G z14, PySem.W.mg_none_of X G z15, PySem.W.mg_none_of X G z16, PySem.W.mg_none_of X G z17, PySem.W.mg_none_of X G z18, zd⟩,
    fI := f1, fdI := _, FI := F1, bI := (F1.binds (ps := ["value"]) fun _ _ _ _ _ _ us hl => match us, hl with | [_], _ => rfl), gI := PySem.W.mg_of X G a1,
    fDu := f2, fdDu := _, FDu := F2, bDu := (F2.binds (ps := ["number", "divisor"]) fun _ _ _ _ _ _ us hl => match us, hl with | [_, _], _ => rfl), gDu := PySem.W.mg_of X G a2,
    fZ := f3, fdZ := _, FZ := F3, bZ := (F3.binds (ps := ["chain", "value"]) fun _ _ _ _ _ _ us hl => match us, hl with | [_, _], _ => rfl), gZ := PySem.W.mg_of X G a3,
    fC := f4, fdC := _, FC := F4, bC := (F4.binds (ps := ["chain", "size"]) fun _ _ _ _ _ _ us hl => match us, hl with | [_, _], _ => rfl), gC := PySem.W.mg_of X G a4,
    fS := f5, fdS := _, FS := F5, bS := (F5.binds (ps := ["chain", "pages", "value"]) fun _ _ _ _ _ _ us hl => match us, hl with | [_, _, _], _ => rfl), gS := PySem.W.mg_of X G a5,
    fB := f6, fdB := _, FB := F6, bB := (F6.binds (ps := ["chain", "value"]) fun _ _ _ _ _ _ us hl => match us, hl with | [_, _], _ => rfl), gB := PySem.W.mg_of X G a6,
    fV := f7, fdV := _, FV := F7, bV := (F7.binds (ps := ["state"]) fun _ _ _ _ _ _ us hl => match us, hl with | [_], _ => rfl), gV := PySem.W.mg_of X G a7,
    fPl := f8, fdPl := _, FPl := F8, bPl := (F8.binds (ps := ["chain", "pages", "state", "size"]) fun _ _ _ _ _ _ us hl => match us, hl with | [_, _, _, _], _ => rfl), gPl := PySem.W.mg_of X G a8,
    fGp := f9, fdGp := _, FGp := F9, bGp := (F9.binds (ps := ["chain", "pages", "state", "size"]) fun _ _ _ _ _ _ us hl => match us, hl with | [_, _, _, _], _ => rfl), gGp := PySem.W.mg_of X G a9,
    fU := f10, fdU := _, FU := F10, bU := (F10.binds (ps := ["chain", "state"]) fun _ _ _ _ _ _ us hl => match us, hl with | [_, _], _ => rfl), gU := PySem.W.mg_of X G a10,
    fRs := f11, fdRs := _, FRs := F11, bRs := (F11.binds (ps := ["chain", "state"]) fun _ _ _ _ _ _ us hl => match us, hl with | [_, _], _ => rfl), gRs := PySem.W.mg_of X G a11,
    fR := f12, fdR := _, FR := F12, bR := (F12.binds (ps := ["state", "largest"]) fun _ _ _ _ _ _ us hl => match us, hl with | [_, _], _ => rfl), gR := PySem.W.mg_of X G a12,
    fK := f13, fdK := _, FK := F13, bK := (F13.binds (ps := ["chain", "state", "size"]) fun _ _ _ _ _ _ us hl => match us, hl with | [_, _, _], _ => rfl), gK := PySem.W.mg_of X G a13,
    fP := f14, fdP := _, FP := F14, bP := (F14.binds (ps := ["_law_script", "_law_k"]) fun _ _ _ _ _ _ us hl => match us, hl with | [_, _], _ => rfl), gP := PySem.W.mg_of X G a14,
    fT := f15, fdT := _, FT := F15, bT := (F15.binds (ps := ["_law_pot_here", "_law_upto"]) fun _ _ _ _ _ _ us hl => match us, hl with | [_, _], _ => rfl), gT := PySem.W.mg_of X G a15,
    fO := f16, fdO := _, FO := F16, bO := (F16.binds (ps := ["_law_pot_here", "_law_some"]) fun _ _ _ _ _ _ us hl => match us, hl with | [_, _], _ => rfl), gO := PySem.W.mg_of X G a16,
    fL := f17, fdL := _, FL := F17, bL := (F17.binds (ps := ["_law_pot_here", "_law_most"]) fun _ _ _ _ _ _ us hl => match us, hl with | [_, _], _ => rfl), gL := PySem.W.mg_of X G a17,
    fW := f18, fdW := _, FW := F18, bW := (F18.binds (ps := ["_law_pot_here", "_law_links_here", "_law_many", "_law_tries"]) fun _ _ _ _ _ _ us hl => match us, hl with | [_, _, _, _], _ => rfl), gW := PySem.W.mg_of X G a18,
    fM := f19, fdM := _, FM := F19, bM := (F19.binds (ps := ["_law_heaped", "_law_words"]) fun _ _ _ _ _ _ us hl => match us, hl with | [_, _], _ => rfl), gM := PySem.W.mg_of X G a19,
    fPr := f20, fdPr := _, FPr := F20, bPr := (F20.binds (ps := ["_law_links_here", "_law_many", "_law_first", "_law_second", "_law_gap"]) fun _ _ _ _ _ _ us hl => match us, hl with | [_, _, _, _, _], _ => rfl), gPr := PySem.W.mg_of X G a20,
    fLaw := fa, fdLaw := _, FLaw := F21, bLaw := (F21.binds (ps := ["_law_script"]) fun _ _ _ _ _ _ us hl => match us, hl with | [_], _ => rfl), gLaw := PySem.W.mg_of X G a21 }
  exact ⟨PySem.W.fnOf "law" "law" (defArgs (topS 27)) (defBody (topS 27)) (defScope (topS 27)) .none kV21 dc21 pm21 an21 cd21 ct21, fun s v => .of_eq rfl, fun base _ _ => ok_Law (k := 0) Z⟩
end Ph
open PySem PySem.W PyProof.Rows
set_option maxHeartbeats 0 in
theorem PySem.Challenge.cw_pinnedheap_k16_whole_states_moved_by_pag_holds : PySem.Challenge.rw_pinnedheap_k16_whole_states_moved_by_pag.Holds := by
  w_on; o_law; k_head; (case hw => w_witness2)
  k_fill
  refine L2.walk_of (l := PySem.Challenge.rw_pinnedheap_k16_whole_states_moved_by_pag) (n := 63) (k := 7) (x := "_law_script") (CX := fun _ => L2.CX0) (sp := fun w => Ph.spLaw _) rfl (by decide) rfl ⟨rfl, by decide, by decide⟩ (fun w h Y => PySem.W.kIn_of Y) ?F (fun _ _ a ns hl _ hS => ⟨a, ns, rfl, hS, hl, fun _ => rfl⟩) (fun _ _ _ _ _ h => h)
  case F =>
    intro w mg fa h KX G hmg
    refine' Ph.all_mk KX G hmg ?a1 ?l1 ?c1 ?k1 ?a2 ?l2 ?c2 ?k2 ?a3 ?l3 ?c3 ?k3 ?a4 ?l4 ?c4 ?k4 ?a5 ?l5 ?c5 ?k5 ?a6 ?l6 ?c6 ?k6 ?a7 ?l7 ?c7 ?k7 ?a8 ?l8 ?c8 ?k8 ?a9 ?l9 ?c9 ?k9 ?a10 ?l10 ?c10 ?k10 ?a11 ?l11 ?c11 ?k11 ?a12 ?l12 ?c12 ?k12 ?a13 ?l13 ?c13 ?k13 ?a14 ?l14 ?c14 ?k14 ?a15 ?l15 ?c15 ?k15 ?a16 ?l16 ?c16 ?k16 ?a17 ?l17 ?c17 ?k17 ?a18 ?l18 ?c18 ?k18 ?a19 ?l19 ?c19 ?k19 ?a20 ?l20 ?c20 ?k20 ?a21 ?l21 ?c21 ?k21 ?z1 ?z2 ?z3 ?z4 ?z5 ?z6 ?z7 ?z8 ?z9 ?z10 ?z11 ?z12 ?z13 ?z14 ?z15 ?z16 ?z17 ?z18 ?zd
    (case a1 => k_is); (case l1 => k_is); (case c1 => k_is); (case k1 => k_is); (case a2 => k_is); (case l2 => k_is); (case c2 => k_is); (case k2 => k_is); (case a3 => k_is); (case l3 => k_is); (case c3 => k_is); (case k3 => k_is); (case a4 => k_is); (case l4 => k_is); (case c4 => k_is); (case k4 => k_is); (case a5 => k_is); (case l5 => k_is); (case c5 => k_is); (case k5 => k_is); (case a6 => k_is); (case l6 => k_is); (case c6 => k_is); (case k6 => k_is); (case a7 => k_is); (case l7 => k_is); (case c7 => k_is); (case k7 => k_is); (case a8 => k_is); (case l8 => k_is); (case c8 => k_is); (case k8 => k_is); (case a9 => k_is); (case l9 => k_is); (case c9 => k_is); (case k9 => k_is); (case a10 => k_is); (case l10 => k_is); (case c10 => k_is); (case k10 => k_is); (case a11 => k_is); (case l11 => k_is); (case c11 => k_is); (case k11 => k_is); (case a12 => k_is); (case l12 => k_is); (case c12 => k_is); (case k12 => k_is); (case a13 => k_is); (case l13 => k_is); (case c13 => k_is); (case k13 => k_is); (case a14 => k_is); (case l14 => k_is); (case c14 => k_is); (case k14 => k_is); (case a15 => k_is); (case l15 => k_is); (case c15 => k_is); (case k15 => k_is); (case a16 => k_is); (case l16 => k_is); (case c16 => k_is); (case k16 => k_is); (case a17 => k_is); (case l17 => k_is); (case c17 => k_is); (case k17 => k_is); (case a18 => k_is); (case l18 => k_is); (case c18 => k_is); (case k18 => k_is); (case a19 => k_is); (case l19 => k_is); (case c19 => k_is); (case k19 => k_is); (case a20 => k_is); (case l20 => k_is); (case c20 => k_is); (case k20 => k_is); (case a21 => k_is); (case l21 => k_is); (case c21 => k_is); (case k21 => k_is); (case z1 => k_is); (case z2 => k_is); (case z3 => k_is); (case z4 => k_is); (case z5 => k_is); (case z6 => k_is); (case z7 => k_is); (case z8 => k_is); (case z9 => k_is); (case z10 => k_is); (case z11 => k_is); (case z12 => k_is); (case z13 => k_is); (case z14 => k_is); (case z15 => k_is); (case z16 => k_is); (case z17 => k_is); (case z18 => k_is); (case zd => k_is)
