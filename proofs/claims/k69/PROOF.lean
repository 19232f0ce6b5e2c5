import PyProof.Rows.All
import Wide.All
import OpenK.AllK
import Wide.FinOn
import HandS.ForMost
import HandS.SetFor
import HandS.Strs
import HandS.SortInts
import HandS.Conv
import KE.KDictSum
import HandS.SortKw
import HandS.Star
import KE.DataMinMax
import HandS.ForExc
import HandS.Wide
import HandS.Zip
import HandS.TupAny
import HandS.RaiseMore
import HandS.IsInst
import KE.KIntText
import HandS.SortRule
import HandS.SetBool
import HandS.Walk
import KE.GoesEnum
import HandS.TupLe
import HandS.Deep
import PyProof.P3In
import PyProof.ReprRoads
import PyProof.ReprLen
import KE.DatumOrd
import KE.SortData
import KE.LtData
import KE.KTupSum
import HandS.Sort
import KE.KDictList
import HandS.Small
import HandS.Defaults
import HandS.Style
import PyProof.RowDictHeap
import KE.KDictKeyed
import KE.KDictDisplayH
import KE.KDictLaw
import HandS.Dict
import HandS.Iter
import KE.SortCalls
import HandS.ExcValue
import HandS.DictTup
import KE.KDictPairs
import KE.KDictCopyH
import HandS.DictComp
import PyProof.EnumMake
import PyProof.Draws
import KE.KExcIs
import HandS.Exc
import HandS.ExcIs
import HandS.ExcField
import HandS.ExcInit
import HandS.ExcOwn
import HandS.WordsExc
import KE.KRevSl
import HandS.EndTab
import KE.KNest
import PyProof.Lay0
import PyProof.CallFns
import HandS.MakeKwOnly
import HandS.NestedK
import KE.DataMinKey
import KE.KMinKey
import HandS.SlotsOwn
import KE.DatumMoreOrd
import HandS.TupSets
import HandS.Rev
import PySem.Challenge.RW_pinnedheap_k69_whole_games_and_growing_h
set_option Elab.async false
set_option linter.all false
set_option maxRecDepth 100000
namespace Ph
/-! ### the bounds, as sums over chunks -/
def cdw (x s : Nat) : Nat := (x + s - 1) / s
theorem lt_cdw {x s k : Nat} (h : 0 < s) : k < cdw x s ↔ k * s < x := by
  unfold cdw
  show k + 1 ≤ _ ↔ _
  rw [Nat.le_div_iff_mul_le h, Nat.add_mul, Nat.one_mul]
  omega
theorem cdw_mono {x y s : Nat} (h : x ≤ y) : cdw x s ≤ cdw y s := Nat.div_le_div_right (by omega)
theorem cdw_mul {n s : Nat} (h : 0 < s) : cdw (n * s) s = n := by
  unfold cdw
  rw [Nat.div_eq_iff (by omega)]
  have : n * s + s = (n + 1) * s := by rw [Nat.add_mul, Nat.one_mul]
  omega
theorem le_cdw {x s : Nat} (h : 0 < s) : x ≤ cdw x s * s := by
  by_cases c : x ≤ cdw x s * s
  · exact c
  · have := (lt_cdw (x := x) (k := cdw x s) h).mpr (by omega)
    omega
def sm (f : Nat → Nat) : Nat → Nat
  | 0 => 0
  | n + 1 => sm f n + f n
theorem sm_mono {f : Nat → Nat} {a : Nat} : ∀ {c : Nat}, a ≤ c → sm f a ≤ sm f c
  | 0, h => by rw [Nat.le_zero.mp h]; exact Nat.le_refl _
  | c + 1, h => by
    rcases Nat.lt_or_ge a (c + 1) with z | z
    · exact Nat.le_trans (sm_mono (Nat.le_of_lt_succ z)) (Nat.le_add_right _ _)
    · rw [Nat.le_antisymm h z]; exact Nat.le_refl _
theorem sm_le {f g : Nat → Nat} : ∀ {n : Nat}, (∀ k, k < n → f k ≤ g k) → sm f n ≤ sm g n
  | 0, _ => Nat.le_refl _
  | n + 1, h => Nat.add_le_add (sm_le fun k hk => h k (Nat.lt_succ_of_lt hk)) (h n (Nat.lt_succ_self n))
theorem sm_congr {f g : Nat → Nat} : ∀ {n : Nat}, (∀ k, k < n → f k = g k) → sm f n = sm g n
  | 0, _ => rfl
  | n + 1, h => by
    show sm f n + f n = sm g n + g n
    rw [sm_congr fun k hk => h k (Nat.lt_succ_of_lt hk), h n (Nat.lt_succ_self n)]
theorem sm_const {f : Nat → Nat} {a v : Nat} : ∀ {c : Nat}, a ≤ c → (∀ k, a ≤ k → k < c → f k = v) → sm f c = sm f a + v * (c - a)
  | 0, h, _ => by rw [Nat.le_zero.mp h]; rfl
  | c + 1, h, hf => by
    rcases Nat.lt_or_ge a (c + 1) with z | z
    · show sm f c + f c = _
      rw [sm_const (Nat.le_of_lt_succ z) fun k h1 h2 => hf k h1 (Nat.lt_succ_of_lt h2), hf c (Nat.le_of_lt_succ z) (Nat.lt_succ_self c), Nat.succ_sub (Nat.le_of_lt_succ z), Nat.mul_succ]
      omega
    · rw [Nat.le_antisymm h z]
      simp
theorem sm_ge {f : Nat → Nat} {v : Nat} : ∀ {n : Nat}, (∀ k, k < n → v ≤ f k) → n * v ≤ sm f n
  | 0, _ => by omega
  | n + 1, h => by
    have := sm_ge (n := n) fun k hk => h k (Nat.lt_succ_of_lt hk)
    have := h n (Nat.lt_succ_self n)
    show (n + 1) * v ≤ sm f n + f n
    rw [Nat.add_mul, Nat.one_mul]
    omega
/-- every r-th number alone -/
theorem sm_step {f : Nat → Nat} {r : Nat} (hr : 1 ≤ r) : ∀ {a n : Nat}, (a = 0 ∨ (a - 1) * r < n) → sm (fun k => f (k * r)) a ≤ sm f n
  | 0, _, _ => Nat.zero_le _
  | a + 1, n, h => by
    have h1 : a * r < n := by rcases h with z | z; · omega
                              · exact z
    have ih : sm (fun k => f (k * r)) a ≤ sm f (a * r) := by
      refine sm_step hr ?_
      cases a with
      | zero => exact .inl rfl
      | succ a => 
        right
        show a * r < (a + 1) * r
        rw [Nat.add_mul, Nat.one_mul]
        omega
    show sm _ a + f (a * r) ≤ _
    exact Nat.le_trans (Nat.add_le_add_right ih _) (sm_mono (f := f) (a := a * r + 1) h1)
/-- the class of the blocks that reach x: the first below i whose number is greater -/
def cls (b : Nat → Nat) : Nat → Nat → Nat
  | 0, _ => 0
  | i + 1, x => if cls b i x < i then cls b i x else if x < b i then i else i + 1
theorem cls_le (b : Nat → Nat) : ∀ (i x : Nat), cls b i x ≤ i
  | 0, _ => Nat.le_refl _
  | i + 1, x => by
    have := cls_le b i x
    unfold cls
    split
    · omega
    · split <;> omega
theorem cls_hi {b : Nat → Nat} : ∀ {i x : Nat}, cls b i x < i → x < b (cls b i x)
  | 0, _, h => absurd h (by omega)
  | i + 1, x, h => by
    unfold cls at h ⊢
    split
    · rename_i c
      exact cls_hi c
    · rename_i c
      rw [if_neg c] at h
      split
      · rename_i c2
        exact c2
      · rename_i c2
        rw [if_neg c2] at h
        omega
theorem cls_lo {b : Nat → Nat} : ∀ {i x j : Nat}, j < cls b i x → b j ≤ x
  | 0, _, _, h => absurd h (by unfold cls; omega)
  | i + 1, x, j, h => by
    have l := cls_le b i x
    unfold cls at h
    by_cases c : cls b i x < i
    · rw [if_pos c] at h
      exact cls_lo h
    · rw [if_neg c] at h
      by_cases c2 : x < b i
      · rw [if_pos c2] at h
        exact cls_lo (i := i) (by omega)
      · rw [if_neg c2] at h
        by_cases e : j = i
        · rw [e]; omega
        · exact cls_lo (i := i) (by omega)
theorem cls_eq {b : Nat → Nat} {i x j : Nat} (hj : j ≤ i) (lo : ∀ j', j' < j → b j' ≤ x) (hi : j < i → x < b j) : cls b i x = j := by
  have l := cls_le b i x
  rcases Nat.lt_trichotomy (cls b i x) j with z | z | z
  · have h1 := cls_hi (b := b) (i := i) (x := x) (by omega)
    have h2 := lo _ z
    omega
  · exact z
  · have h1 := cls_lo z
    have h2 := hi (by omega)
    omega
theorem cls_anti {b b' : Nat → Nat} {i x : Nat} (h : ∀ j, j < i → b j ≤ b' j) : cls b' i x ≤ cls b i x := by
  rcases Nat.lt_or_ge (cls b i x) (cls b' i x) with z | z
  · have l := cls_le b' i x
    have h1 := cls_hi (b := b) (i := i) (x := x) (by omega)
    have h2 := cls_lo z
    have h3 := h (cls b i x) (by omega)
    omega
  · exact z
def pvn (b : Nat → Nat) (t : Nat) : Nat → Nat
  | 0 => 0
  | j + 1 => cdw (b j) t
/-- the words that keep busy all chunks of t words before the numbers of the first i classes -/
def Lw (s b : Nat → Nat) (t i : Nat) : Nat := sm (fun j => s j * (pvn b t (j + 1) - pvn b t j)) i
theorem lw_sum {s b : Nat → Nat} {t i : Nat} (ht : 0 < t) (hm : ∀ j, j + 1 < i → b j ≤ b (j + 1)) : ∀ j, j ≤ i → Lw s b t j = sm (fun k => s (cls b i (k * t))) (pvn b t j)
  | 0, _ => rfl
  | j + 1, hj => by
    have mm : ∀ d j', j' + d + 1 = j → b j' ≤ b (j - 1) := by
      intro d
      induction d with
      | zero => intro j' e; have : j - 1 = j' := by omega
                rw [this]; exact Nat.le_refl _
      | succ d ih => intro j' e; exact Nat.le_trans (hm j' (by omega)) (ih (j' + 1) (by omega))
    have le : pvn b t j ≤ pvn b t (j + 1) := by
      cases j with
      | zero => exact Nat.zero_le _
      | succ j => exact cdw_mono (hm j (by omega))
    show Lw s b t j + s j * _ = _
    rw [lw_sum ht hm j (by omega), sm_const le (v := s j) fun k h1 h2 => ?_]
    have e : cls b i (k * t) = j := by
      refine cls_eq (by omega) (fun j' hj' => ?_) (fun _ => (lt_cdw ht).mp h2)
      cases j with
      | zero => omega
      | succ j0 =>
        have h3 : ¬ k * t < b j0 := fun h => by
          have := (lt_cdw ht).mpr h
          have h1' : cdw (b j0) t ≤ k := h1
          omega
        have h4 := mm (j0 - j') j' (by omega)
        show b j' ≤ k * t
        have : j0 + 1 - 1 = j0 := rfl
        rw [this] at h4
        omega
    rw [e]
structure CH (s : Nat → Nat) (m : Nat) : Prop where
  s0 : s 0 = 1
  dv : ∀ i, i + 1 < m → ∃ r, 1 ≤ r ∧ s (i + 1) = s i * r
theorem CH.pos {s : Nat → Nat} {m : Nat} (c : CH s m) : ∀ {i}, i < m → 1 ≤ s i
  | 0, _ => by rw [c.s0]; exact Nat.le_refl _
  | i + 1, h => by
    obtain ⟨r, hr, e⟩ := c.dv i h
    rw [e]
    exact Nat.le_trans (Nat.le_refl 1) (Nat.mul_le_mul (c.pos (by omega)) hr)
theorem CH.mono1 {s : Nat → Nat} {m i : Nat} (c : CH s m) (h : i + 1 < m) : s i ≤ s (i + 1) := by
  obtain ⟨r, hr, e⟩ := c.dv i h
  rw [e]
  exact Nat.le_mul_of_pos_right _ hr
theorem CH.mono {s : Nat → Nat} {m i : Nat} (c : CH s m) : ∀ {j}, i ≤ j → j < m → s i ≤ s j
  | 0, h, _ => by rw [Nat.le_zero.mp h]; exact Nat.le_refl _
  | j + 1, h, hj => by
    rcases Nat.lt_or_ge i (j + 1) with z | z
    · exact Nat.le_trans (c.mono (Nat.le_of_lt_succ z) (by omega)) (c.mono1 hj)
    · rw [Nat.le_antisymm h z]; exact Nat.le_refl _
theorem CH.dvd {s : Nat → Nat} {m i : Nat} (c : CH s m) : ∀ {j}, i ≤ j → j < m → ∃ r, 1 ≤ r ∧ s j = s i * r
  | 0, h, _ => by rw [Nat.le_zero.mp h]; exact ⟨1, Nat.le_refl _, by rw [Nat.mul_one]⟩
  | j + 1, h, hj => by
    rcases Nat.lt_or_ge i (j + 1) with z | z
    · obtain ⟨r, hr, e⟩ := c.dvd (Nat.le_of_lt_succ z) (by omega)
      obtain ⟨r2, hr2, e2⟩ := c.dv j hj
      exact ⟨r * r2, Nat.le_trans (Nat.le_refl 1) (Nat.mul_le_mul hr hr2), by rw [e2, e, Nat.mul_assoc]⟩
    · rw [Nat.le_antisymm h z]; exact ⟨1, Nat.le_refl _, by rw [Nat.mul_one]⟩
structure BD (s b : Nat → Nat) (m M : Nat) : Prop where
  b0 : b 0 = M
  bs : ∀ i, i + 1 < m → b (i + 1) = s (i + 1) * (cdw (b i) (s (i + 1)) + (M - Lw s b (s (i + 1)) (i + 1)) / s (i + 1))
def SS (s b : Nat → Nat) (i n : Nat) : Nat := sm (fun k => s (cls b i (k * s i))) n
section
variable {s b : Nat → Nat} {m M : Nat} (c : CH s m) (B : BD s b m M)
include c B
theorem BD.up {i : Nat} (h : i + 1 < m) : b i ≤ b (i + 1) := by
  have p := c.pos h
  rw [B.bs i h]
  have := le_cdw (x := b i) p
  rw [Nat.mul_comm] at this
  exact Nat.le_trans this (Nat.mul_le_mul_left _ (Nat.le_add_right _ _))
theorem BD.mono {i : Nat} : ∀ {j}, i ≤ j → j < m → b i ≤ b j
  | 0, h, _ => by rw [Nat.le_zero.mp h]; exact Nat.le_refl _
  | j + 1, h, hj => by
    rcases Nat.lt_or_ge i (j + 1) with z | z
    · exact Nat.le_trans (BD.mono (Nat.le_of_lt_succ z) (by omega)) (B.up c hj)
    · rw [Nat.le_antisymm h z]; exact Nat.le_refl _
theorem BD.num {i : Nat} (h : i < m) : b i / s i * s i = b i := by
  have p := c.pos h
  cases i with
  | zero => rw [c.s0]; omega
  | succ i => rw [B.bs i h, Nat.mul_div_cancel_left _ p, Nat.mul_comm]
theorem BD.ss_lw {i : Nat} (h : i < m) : Lw s b (s i) i = SS s b i (pvn b (s i) i) := lw_sum (s := s) (b := b) (c.pos h) (fun j hj => B.up c (by omega)) i (Nat.le_refl _)
theorem BD.key : ∀ {i : Nat}, i < m → SS s b i (b i / s i) ≤ M ∧ M < SS s b i (b i / s i) + s i ∧ Lw s b (s i) i ≤ M
  | 0, h => by
    have e : ∀ n, SS s b 0 n = n := fun n => by
      unfold SS
      rw [sm_const (f := fun k => s (cls b 0 (k * s 0))) (a := 0) (v := 1) (Nat.zero_le n) fun k _ _ => c.s0]
      show 0 + _ = _
      omega
    rw [e, c.s0, B.b0]
    refine ⟨by omega, by omega, Nat.zero_le _⟩
  | i + 1, h => by
    have p := c.pos h
    obtain ⟨k1, k2, k3⟩ := BD.key (i := i) (by omega)
    have hL : Lw s b (s (i + 1)) (i + 1) ≤ M := by
      rw [B.ss_lw c h]
      show SS s b (i + 1) (cdw (b i) (s (i + 1))) ≤ M
      obtain ⟨r, hr, er⟩ := c.dv i h
      refine Nat.le_trans (Nat.le_trans (m := sm (fun k => (fun q => s (cls b i (q * s i))) (k * r)) (cdw (b i) (s (i + 1)))) (sm_le fun k hk => ?_) (sm_step (f := fun q => s (cls b i (q * s i))) hr (n := b i / s i) ?_)) k1
      · have hk2 := (lt_cdw p).mp hk
        have e : k * s (i + 1) = k * r * s i := by rw [er, Nat.mul_assoc, Nat.mul_comm (s i) r]
        dsimp only
        rw [e] at hk2 ⊢
        have : cls b (i + 1) (k * r * s i) = cls b i (k * r * s i) := by
          have l := cls_le b i (k * r * s i)
          show (if cls b i (k * r * s i) < i then cls b i (k * r * s i) else if k * r * s i < b i then i else i + 1) = _
          split
          · rfl
          · omega
        rw [this]
        exact Nat.le_refl _
      · cases e : cdw (b i) (s (i + 1)) with
        | zero => exact .inl rfl
        | succ a =>
          right
          have h1 := (lt_cdw (x := b i) (k := a) p).mp (by omega)
          rw [er, Nat.mul_comm (s i) r, ← Nat.mul_assoc, ← B.num c (i := i) (by omega)] at h1
          exact Nat.lt_of_mul_lt_mul_right h1
    have hS : SS s b (i + 1) (b (i + 1) / s (i + 1)) = Lw s b (s (i + 1)) (i + 1) + s (i + 1) * ((M - Lw s b (s (i + 1)) (i + 1)) / s (i + 1)) := by
      rw [B.bs i h, Nat.mul_div_cancel_left _ p]
      generalize (M - Lw s b (s (i + 1)) (i + 1)) / s (i + 1) = d
      rw [B.ss_lw c h]
      show SS s b (i + 1) (cdw (b i) (s (i + 1)) + d) = SS s b (i + 1) (cdw (b i) (s (i + 1))) + _
      unfold SS
      rw [sm_const (a := cdw (b i) (s (i + 1))) (v := s (i + 1)) (Nat.le_add_right _ _) fun k h1 _ => ?_, Nat.add_sub_cancel_left]
      have e : cls b (i + 1) (k * s (i + 1)) = i + 1 := by
        refine cls_eq (Nat.le_refl _) (fun j hj => ?_) (fun z => absurd z (by omega))
        have h3 : ¬ k * s (i + 1) < b i := fun z => by
          have := (lt_cdw p).mpr z
          omega
        have := B.mono c (i := j) (j := i) (by omega) (by omega)
        omega
      rw [e]
    rw [hS]
    have d1 := Nat.div_mul_le_self (M - Lw s b (s (i + 1)) (i + 1)) (s (i + 1))
    have d2 := Nat.lt_div_mul_add (a := M - Lw s b (s (i + 1)) (i + 1)) p
    rw [Nat.mul_comm] at d1 d2
    exact ⟨by omega, by omega, hL⟩
theorem BD.iff {i n : Nat} (h : i < m) : n ≤ b i / s i ↔ SS s b i n ≤ M := by
  obtain ⟨k1, k2, k3⟩ := B.key c h
  constructor
  · intro z
    exact Nat.le_trans (sm_mono z) k1
  · intro z
    rcases Nat.lt_or_ge (b i / s i) n with y | y
    · have h1 : SS s b i (b i / s i + 1) ≤ SS s b i n := sm_mono y
      have h2 : SS s b i (b i / s i + 1) = SS s b i (b i / s i) + s i := by
        show _ + s (cls b i (b i / s i * s i)) = _
        rw [B.num c h, cls_eq (Nat.le_refl i) (fun j hj => B.mono c (by omega) h) (fun z => absurd z (by omega))]
        rfl
      omega
    · exact y
/-- careless rules open at least as many pages -/
theorem BD.careless {i : Nat} (hi : i < m) (h0 : 0 < b i) : ∃ j, j ≤ i ∧ s j ≤ M ∧ (b i / s i - 1) * (s i / s j) + s j ≤ M := by
  have p := c.pos hi
  have hn := B.num c hi
  have n0 : 0 < b i / s i := by
    rcases Nat.eq_zero_or_pos (b i / s i) with z | z
    · rw [z] at hn; omega
    · exact z
  generalize hx : (b i / s i - 1) * s i = x
  have l := cls_le b i x
  have hj : cls b i x < m := by omega
  have pj := c.pos hj
  obtain ⟨r, hr, er⟩ := c.dvd l hi
  have hq : s i / s (cls b i x) = r := by rw [er]; exact Nat.mul_div_cancel_left _ pj
  rw [← hx] at hq er pj hj l
  rw [← hx] at *
  generalize hc : cls b i ((b i / s i - 1) * s i) = j at *
  have ex : (b i / s i - 1) * s i = (b i / s i - 1) * r * s j := by rw [er, Nat.mul_assoc, Nat.mul_comm (s j) r]
  have lo : ∀ j', j' < j → b j' ≤ (b i / s i - 1) * r * s j := fun j' hj' => by
    rw [← ex]
    exact cls_lo (by rw [hc]; exact hj')
  have h1 : (b i / s i - 1) * r + 1 ≤ b j / s j := by
    have h2 : (b i / s i - 1) * r * s j < b j := by
      rcases Nat.lt_or_ge j i with z | z
      · rw [← ex]
        have := cls_hi (b := b) (i := i) (x := (b i / s i - 1) * s i) (by omega)
        rw [hc] at this
        exact this
      · have : j = i := by omega
        rw [← ex, this, ← hn]
        have h3 : b i / s i * s i / s i = b i / s i := Nat.mul_div_cancel _ p
        rw [h3]
        exact Nat.mul_lt_mul_of_pos_right (by omega) p
    rw [← B.num c hj] at h2
    exact Nat.lt_of_mul_lt_mul_right h2
  rw [B.iff c hj] at h1
  have h3 : SS s b j ((b i / s i - 1) * r + 1) = SS s b j ((b i / s i - 1) * r) + s j := by
    show _ + s (cls b j ((b i / s i - 1) * r * s j)) = _
    rw [cls_eq (Nat.le_refl j) lo (fun z => absurd z (by omega))]
    rfl
  have h4 : (b i / s i - 1) * r * 1 ≤ SS s b j ((b i / s i - 1) * r) := sm_ge fun k _ => c.pos (Nat.lt_of_le_of_lt (cls_le _ _ _) hj)
  refine ⟨j, l, by omega, ?_⟩
  rw [hq]
  omega

omit c B in
theorem cls_up {i x y : Nat} (h : x ≤ y) : cls b i x ≤ cls b i y := by
  rcases Nat.lt_or_ge (cls b i y) (cls b i x) with z | z
  · have l := cls_le b i x
    have h1 := cls_hi (b := b) (i := i) (x := y) (by omega)
    have h2 := cls_lo z
    omega
  · exact z
end
end Ph

namespace Ph
open PySem PySem.Spec PyProof.Rows L2
/-! ### set(list of ints): the members, any number of them below the line -/
abbrev sob (w : World) : Obj := { cls := .type "set", dict := none, data := .set #[] 0 (.fresh 0 0 (!w.params.followText "set-order")) }
section
variable {P : Program} {w : World} {A : Around} {E : Value → Shared → Prop} {s : Shared}
end
section
variable {X : Cx}
/-- set(xs), xs a list of ints -/
def rSetI (K : PySem.W.Frag) (w : World) : List V → Hp → VK → Prop := fun vs H Q => ∃ (l : Addr) (ns : List Int), vs = [V.ref l] ∧ SqL K H l (ns.map V.int) ∧ ns.length + 1 < scanBound ∧
  ∀ a c, H a = none → (ns.Nodup → c = ns.length) → Q (.ref a) (upd H a (SetO w a (fun j => decide (j ∈ ns)) c))
end
end Ph

namespace Ph
open PySem PySem.Spec PyProof.Rows L2
section
variable {P : Program} {w : World} {A : Around} {E : Value → Shared → Prop} {s : Shared}
end
section
variable {X : Cx}
def rSortedS2 (w : World) : List V → Hp → VK → Prop := fun vs H Q => ∃ (a : Addr) (S : Int → Bool) (n : Nat), vs = [V.ref a] ∧ H a = some (SetO w a S n) ∧
  ∀ (ns : List Int) (p : Addr), ns.Pairwise (· < ·) → (∀ k : Int, k ∈ ns ↔ S k = true) → H p = none → Q (.ref p) (upd H p (.lst (ns.map V.int)))
/-- len(set of ints) -/
def rLenSet (w : World) : List V → Hp → VK → Prop := fun vs H Q => ∃ (a : Addr) (S : Int → Bool) (n : Nat), vs = [V.ref a] ∧ H a = some (SetO w a S n) ∧ Q (.int n) H
/-- t.index(k), a tuple of ints: the first place -/
theorem flat_ints (ys : List Int) : (ys.map V.int).all flatV = true := by
  rw [List.all_map]
  exact List.all_eq_true.mpr fun _ _ => rfl
theorem mt_tindexI : MtR X "tuple.index" (fun x xs H Q => ∃ p, ∃ ys : List Int, ∃ z j, x = .ref p ∧ xs = [.int z] ∧ SqT X.K H p (ys.map V.int) ∧ ys[j]? = some z ∧ (∀ m, m < j → ys[m]? ≠ some z) ∧ Q (.int (j : Nat)) H) := by
  intro pins s σ H x xs v us Q I rx rs h
  obtain ⟨p, ys, z, j, rfl, rfl, hq, hy, hno, q⟩ := h
  cases rx
  obtain ⟨u, rfl, t, rfl⟩ := vals1 rs
  obtain ⟨its, r, ⟨⟨cls, dd, dt, sl⟩, ho, hc, n, hd⟩, hz⟩ := I.tuple hq
  cases hc
  cases hd
  have len : its.toArray.size = ys.length := by rw [List.size_toArray, ← r.length, List.length_map]
  have at' : ∀ (m : Nat) (hm : m < its.toArray.size), ∃ y t', ys[m]? = some y ∧ its.toArray[m] = Value.int y t' := fun m hm => by
    have hm' : m < ys.length := len ▸ hm
    obtain ⟨w, hw, t', hw'⟩ := r.get (i := m) (x := .int ys[m]) (by simp [hm'])
    refine ⟨ys[m], t', List.getElem?_eq_getElem hm', ?_⟩
    rw [← hw', ← (List.getElem?_eq_some_iff.mp hw).2]
    simp
  have hj : j < its.toArray.size := by rw [len]; exact (List.getElem?_eq_some_iff.mp hy).1
  refine call_meets PySem.F.slot_tuple_index ⟨_, ho, rfl⟩ PySem.F.entry_tuple_index (PySem.F.args_tuple_index_2 _ _) (TI.tuple_indexAt p its.toArray n dd sl (.int z t) (eqU (.int z)) j hj ?_ ?_)
    ⟨ho, fun w hw => mem_eqAt (x := .int z) ⟨t, rfl⟩ rfl r (flat_ints ys) w (by simpa using hw), ⟨.int (j : Nat), H, I.tok _, ⟨_, rfl⟩, q⟩⟩
  · obtain ⟨y, t', h1, h2⟩ := at' j hj
    rw [hy] at h1
    cases h1
    rw [h2]
    show decide (z = z) = true
    exact decide_eq_true rfl
  · intro m hm hmj
    obtain ⟨y, t', h1, h2⟩ := at' m hm
    rw [h2]
    show decide (y = z) = false
    exact decide_eq_false fun e => hno m hmj (e ▸ h1)
end
end Ph

namespace Ph
open PySem PySem.Spec PyProof.Rows L2
/-! ### a tuple whose object is known: it has no dict of its own, so its methods can be called -/
def ChAt (H : Hp) (c : Addr) (C : List Int) : Prop := ∃ o : Obj, o.dict = none ∧ H c = some (.frz o (.tup (C.map V.int)))
theorem ChAt.sq {K : PySem.W.Frag} {H : Hp} {c : Addr} {C : List Int} (h : ChAt H c C) : SqT K H c (C.map V.int) := let ⟨o, _, e⟩ := h; .inl (.inr ⟨o, e⟩)
theorem ChAt.keep {H H' : Hp} {c : Addr} {C : List Int} (h : ChAt H c C) (s : ∀ b o, H b = some o → H' b = some o) : ChAt H' c C := let ⟨o, d, e⟩ := h; ⟨o, d, s _ _ e⟩
section
variable {X : Cx}
variable {o e : Expr} {es : List Expr} {to : TE} {t : TA} {apos cpos : Pos} {name : Str} {id : String} {r : V → List V → Hp → VK → Prop}
/-- c.m(..), c such a tuple -/
def tBT (r : V → List V → Hp → VK → Prop) (to : TE) (t : TA) : TE := fun σ H Q => to σ H fun x H1 => (∃ c C, x = .ref c ∧ ChAt H1 c C) ∧ t σ H1 fun xs H2 => r x xs H2 Q
theorem pe_bmT (slot : Slot "tuple" name id) (hty : typeOf (.builtin id) = pure (.type "method_descriptor")) (hm : MtR X id r) (ho : PE X o to) (ha : PA X (e :: es) t)
    (hbase : attributeBase o name X.env (eval o X.env) = eval o X.env := by rfl)
    (hfew : ((backTo cpos (starEach (e :: es) X.env)).all (fun x => !x.1) && (backToKw cpos (keywordEach [] X.env)).all (fun x => x.1.isSome) && decide ((e :: es).length + ([] : List Keyword).length + (if ([] : List Keyword).isEmpty then 0 else 1) < 30)) = true := by rfl)
    (hline : (apos.endLine == cpos.line) = true := by rfl) (hse : starEach (e :: es) X.env = (false, eval e X.env) :: starEach es X.env := by rfl) (hpl : (backTo cpos (starEach es X.env)).any (·.1) = false := by rfl) :
    PE X (.Call (.Attribute o name apos) (e :: es) [] cpos) (tBT r to t) := ⟨fun pins s σ H Q I h => by
  refine wpAny_Call_method_late hbase hfew hline rfl (thn (ho.run pins s σ H _ I h) fun v s1 ⟨x, H1, I1, r1, ⟨c, C, ex, oc, od, hc⟩, q1⟩ => ?_)
  subst ex
  cases r1
  obtain ⟨g, _, its, _, ⟨u, hu, hcl, _⟩⟩ := I1.hok c _ hc
  rw [g] at hu
  cases hu
  have hA := ha.run cpos pins s1 σ H1 _ I1 q1
  refine ⟨"tuple", id, PySem.F.plainAttrs_tuple, slot, hty, ⟨oc, g, hcl⟩, fun a z => by cases z; exact ⟨oc, g, od⟩, ?_⟩
  rw [hse] at hA ⊢
  refine Calls.callWith_builtin (by show (false || (backTo cpos (starEach es X.env)).any (·.1)) = false; rw [hpl]; rfl) (Calls.evalArgs_plain (thn hA fun us s2 ⟨vs, H2, I2, r2, q2⟩ => hm pins s2 σ H2 (.ref c) vs (.ref c) us Q I2 rfl r2 q2))⟩
end
end Ph

namespace Ph
open PySem PySem.Spec PyProof.Rows L2
/-- the first m numbers of a row of numbers -/
def tl (s : Nat → Nat) (m : Nat) : List Int := (List.range m).map fun i => ((s i : Nat) : Int)
theorem tl_len (s : Nat → Nat) (m : Nat) : (tl s m).length = m := by unfold tl; simp
theorem tl_get {s : Nat → Nat} {m i : Nat} (h : i < m) : (tl s m)[i]? = some ((s i : Nat) : Int) := by
  unfold tl
  rw [List.getElem?_map, List.getElem?_range h]
  rfl
theorem tl_getV {s : Nat → Nat} {m i : Nat} (h : i < m) : ((tl s m).map V.int)[i]? = some (V.int ((s i : Nat) : Int)) := by
  rw [List.getElem?_map, tl_get h]
  rfl
theorem tl_succ (s : Nat → Nat) (m : Nat) : tl s (m + 1) = tl s m ++ [((s m : Nat) : Int)] := by
  unfold tl
  rw [List.range_succ, List.map_append]
  rfl
theorem tl_mem {s : Nat → Nat} {m : Nat} {x : Int} : x ∈ tl s m ↔ ∃ i, i < m ∧ x = ((s i : Nat) : Int) := by
  unfold tl
  rw [List.mem_map]
  constructor
  · rintro ⟨i, hi, e⟩
    exact ⟨i, List.mem_range.mp hi, e.symm⟩
  · rintro ⟨i, hi, e⟩
    exact ⟨i, List.mem_range.mpr hi, e.symm⟩
/-- the numbers, begun with reaches -/
def bls (s ρ : Nat → Nat) (M : Nat) : Nat → Nat → Nat
  | 0, _ => max M (ρ 0)
  | i + 1, j => if j = i + 1 then max (ρ (i + 1)) (s (i + 1) * (cdw (bls s ρ M i i) (s (i + 1)) + (M - Lw s (bls s ρ M i) (s (i + 1)) (i + 1)) / s (i + 1))) else bls s ρ M i j
def bfn (s ρ : Nat → Nat) (M j : Nat) : Nat := bls s ρ M j j
theorem bls_eq (s ρ : Nat → Nat) (M : Nat) : ∀ {i j : Nat}, j ≤ i → bls s ρ M i j = bfn s ρ M j
  | 0, j, h => by rw [Nat.le_zero.mp h]; rfl
  | i + 1, j, h => by
    rcases Nat.lt_or_ge j (i + 1) with z | z
    · rw [← bls_eq s ρ M (i := i) (j := j) (by omega)]
      show (if j = i + 1 then _ else _) = _
      rw [if_neg (by omega)]
    · rw [Nat.le_antisymm h z]; rfl
theorem pvn_congr {b b' : Nat → Nat} {t j : Nat} (h : ∀ i, i < j → b i = b' i) : pvn b t j = pvn b' t j := by
  cases j with
  | zero => rfl
  | succ j => show cdw _ _ = cdw _ _; rw [h j (Nat.lt_succ_self j)]
theorem lw_congr {s b b' : Nat → Nat} {t i : Nat} (h : ∀ j, j < i → b j = b' j) : Lw s b t i = Lw s b' t i := by
  unfold Lw
  refine sm_congr fun j hj => ?_
  rw [pvn_congr (j := j + 1) fun k hk => h k (by omega), pvn_congr (j := j) fun k hk => h k (by omega)]
theorem bfn_zero (s ρ : Nat → Nat) (M : Nat) : bfn s ρ M 0 = max M (ρ 0) := rfl
theorem bfn_succ (s ρ : Nat → Nat) (M i : Nat) : bfn s ρ M (i + 1) = max (ρ (i + 1)) (s (i + 1) * (cdw (bfn s ρ M i) (s (i + 1)) + (M - Lw s (bfn s ρ M) (s (i + 1)) (i + 1)) / s (i + 1))) := by
  show (if i + 1 = i + 1 then _ else _) = _
  rw [if_pos rfl, lw_congr fun j hj => bls_eq s ρ M (i := i) (j := j) (by omega)]
  rfl
theorem bd_bfn (s : Nat → Nat) (m M : Nat) : BD s (bfn s (fun _ => 0) M) m M := by
  refine ⟨?_, fun i hi => ?_⟩
  · rw [bfn_zero]; exact Nat.max_eq_left (Nat.zero_le _)
  · rw [bfn_succ]; exact Nat.max_eq_right (Nat.zero_le _)
theorem bfn_up {s ρ : Nat → Nat} {M i : Nat} (h : 0 < s (i + 1)) : bfn s ρ M i ≤ bfn s ρ M (i + 1) := by
  rw [bfn_succ]
  have := le_cdw (x := bfn s ρ M i) h
  rw [Nat.mul_comm] at this
  exact Nat.le_trans (Nat.le_trans this (Nat.mul_le_mul_left _ (Nat.le_add_right _ _))) (Nat.le_max_right _ _)
end Ph

namespace Ph
open PySem PySem.Spec PyProof.Rows L2
/-! ### max(ints, default=d) -/
def mxd (d : Int) : List Int → Int
  | [] => d
  | n :: r => r.foldl max n
section
variable {X : Cx}
def rMaxDf (K : PySem.W.Frag) : List V → List V → Hp → VK → Prop := fun xs zs H Q => ∃ (l : Addr) (ns : List Int) (d : Int), xs = [.ref l] ∧ zs = [.int d] ∧ SqL K H l (ns.map V.int) ∧ Q (.int (mxd d ns)) H
/-! ### list(range(a, b, c)) -/
def rg3 (i c : Int) (n : Nat) : List Int := (List.range n).map fun (t : Nat) => i + (t : Int) * c
def tLst3 (ta : TA) : TE := fun σ H Q => ta σ H fun vs H1 => ∃ (i j c : Int) (n : Nat), vs = [.int i, .int j, .int c] ∧ RgC i j c n ∧ n ≤ 2 ^ 24 ∧ ∀ q, H1 q = none → Q (.ref q) (upd H1 q (.lst ((rg3 i c n).map V.int)))
theorem vals_rg3 {i c : Int} {n : Nat} {acc : Array Value} (h : ItemsOf (fun j v => ∃ t, v = .int (i + j * c) t) acc n) : Vals ((rg3 i c n).map V.int) acc.toList := by
  have e : acc.toList.length = n := by rw [Array.length_toList]; exact h.1
  unfold rg3
  rw [List.map_map, ← e]
  refine vals_of_get acc.toList _ fun j u hj => ?_
  obtain ⟨t, rfl⟩ := h.2 j u (by rw [← hj, Array.getElem?_toList])
  exact ⟨t, rfl⟩
theorem pe_listRg3 {a b c : Expr} {ta : TA} {p p2 pos pos2 : Pos} (hc : X.calm = true) (hg : Gl X "list") (hm : X.mg "list" = none) (hg2 : Gl X "range") (hm2 : X.mg "range" = none) (ha : PA X [a, b, c] ta)
    (na : starEach [Expr.Call (.Name "range" p2) [a, b, c] [] pos2] X.env = (false, eval (Expr.Call (.Name "range" p2) [a, b, c] [] pos2) X.env) :: starEach [] X.env := by rfl)
    (hs : starEach [a, b, c] X.env = (false, eval a X.env) :: starEach [b, c] X.env := by rfl) (hpl : (backTo pos2 (starEach [b, c] X.env)).any (·.1) = false := by rfl) :
    PE X (.Call (.Name "list" p) [.Call (.Name "range" p2) [a, b, c] [] pos2] [] pos) (tLst3 ta) := by
  refine ⟨fun pins s σ H Q I h => ?_⟩
  refine Call_ (ld_blt I hg hm boot_list (PyProof.Rows.callWith_type1 (args_cons ?_ na) na))
  refine Call_ (ld_blt I hg2 hm2 boot_range (PyProof.Rows.callWith_type1 (thn (ha.run pos2 pins s σ H _ I h) fun us s1 ⟨vs, H1, I1, r1, i, j, k, n, e, ⟨c0, c1, c2, c3⟩, hn, q⟩ => ?_) hs hpl))
  subst e
  obtain ⟨t1, t2, t3, rfl⟩ : ∃ t1 t2 t3, us = [Value.int i t1, .int j t2, .int k t3] := by
    cases r1 with
    | cons ra rr =>
      cases rr with
      | cons rb rr =>
        cases rr with
        | cons rd rr =>
          cases rr
          obtain ⟨t1, rfl⟩ := ra
          obtain ⟨t2, rfl⟩ := rb
          obtain ⟨t3, rfl⟩ := rd
          exact ⟨t1, t2, t3, rfl⟩
  · skip
    refine call_range_3 c0 (args_nil ?_) (.inl (PyProof.noPylong_small c1))
    have I2 : Inv X pins σ H1 { s1 with heap := s1.heap.push { cls := .type "range", data := .fields #[.int i t1, .int j t2, .int k t3] } } := I1.kept (t' := s1.toks) fun b o e => Heap.get?_push_of_some _ e
    refine call_list_range (n := n) (I2.ok.hd hc) (IsRange.new ..) c2 c3 hn fun g tk acc cc keep at' it => ?_
    refine ⟨.ref _, upd H1 _ (.lst ((rg3 i k n).map V.int)), I2.laid (t' := tk) keep (Nat.le_refl _) ⟨?_, acc.toList, cc, vals_rg3 it, ?_⟩, rfl, q _ (I2.hok.fresh (Nat.le_refl _))⟩
    · unfold rg3
      rw [List.length_map, List.length_map, List.length_range, sizeLine_eq]
      omega
    · rw [Array.toArray_toList]; exact at'
end
end Ph

namespace Ph
open PySem PySem.Spec PyProof.Rows L2
/-! ### numbers begun with reaches: more reach, more words, never less -/
theorem ov_iff {s b : Nat → Nat} {i n M : Nat} (ht : 0 < s (i + 1)) (hm : ∀ j, j + 1 < i + 1 → b j ≤ b (j + 1)) :
    n ≤ cdw (b i) (s (i + 1)) + (M - Lw s b (s (i + 1)) (i + 1)) / s (i + 1) ↔ n ≤ cdw (b i) (s (i + 1)) ∨ sm (fun k => s (cls b (i + 1) (k * s (i + 1)))) n ≤ M := by
  have lw : Lw s b (s (i + 1)) (i + 1) = sm (fun k => s (cls b (i + 1) (k * s (i + 1)))) (cdw (b i) (s (i + 1))) := lw_sum (s := s) (b := b) ht hm (i + 1) (Nat.le_refl _)
  have mono : ∀ d j, j + d = i → b j ≤ b i := by
    intro d
    induction d with
    | zero => intro j e; have : j = i := by omega
              rw [this]; exact Nat.le_refl _
    | succ d ih => intro j e; exact Nat.le_trans (hm j (by omega)) (ih (j + 1) (by omega))
  have tail : ∀ n, cdw (b i) (s (i + 1)) ≤ n → sm (fun k => s (cls b (i + 1) (k * s (i + 1)))) n = Lw s b (s (i + 1)) (i + 1) + s (i + 1) * (n - cdw (b i) (s (i + 1))) := fun n hn => by
    rw [lw]
    refine sm_const hn fun k h1 _ => ?_
    have e : cls b (i + 1) (k * s (i + 1)) = i + 1 := by
      refine cls_eq (Nat.le_refl _) (fun j hj => ?_) (fun z => absurd z (by omega))
      have h3 : ¬ k * s (i + 1) < b i := fun z => by
        have := (lt_cdw ht).mpr z
        omega
      have := mono (i - j) j (by omega)
      omega
    rw [e]
  generalize cdw (b i) (s (i + 1)) = C at lw tail ⊢
  generalize Lw s b (s (i + 1)) (i + 1) = L at lw tail ⊢
  constructor
  · intro h
    rcases Nat.lt_or_ge C n with z | z
    · right
      rw [tail n (by omega)]
      have h1 : n - C ≤ (M - L) / s (i + 1) := by omega
      rw [Nat.le_div_iff_mul_le ht, Nat.mul_comm] at h1
      have h2 : s (i + 1) * 1 ≤ s (i + 1) * (n - C) := Nat.mul_le_mul_left _ (by omega)
      omega
    · exact .inl z
  · intro h
    rcases Nat.lt_or_ge C n with z | z
    · rcases h with h | h
      · omega
      · rw [tail n (by omega)] at h
        have h1 : n - C ≤ (M - L) / s (i + 1) := by
          rw [Nat.le_div_iff_mul_le ht, Nat.mul_comm]
          omega
        omega
    · exact Nat.le_trans z (Nat.le_add_right _ _)
theorem bfn_mono {s ρ ρ' : Nat → Nat} {m M M' : Nat} (c : CH s m) (hρ : ∀ i, i < m → ρ' i ≤ ρ i) (hM : M' ≤ M) : ∀ i, i < m → bfn s ρ' M' i ≤ bfn s ρ M i := by
  intro i
  induction i using Nat.strongRecOn with
  | ind i ih =>
    intro hi
    cases i with
    | zero =>
      rw [bfn_zero, bfn_zero]
      have := hρ 0 hi
      omega
    | succ i =>
      have ht := c.pos hi
      have up : ∀ (ρ : Nat → Nat) (M : Nat) j, j + 1 < i + 1 → bfn s ρ M j ≤ bfn s ρ M (j + 1) := fun ρ M j hj => bfn_up (c.pos (by omega))
      rw [bfn_succ, bfn_succ]
      have h1 : cdw (bfn s ρ' M' i) (s (i + 1)) + (M' - Lw s (bfn s ρ' M') (s (i + 1)) (i + 1)) / s (i + 1) ≤ cdw (bfn s ρ M i) (s (i + 1)) + (M - Lw s (bfn s ρ M) (s (i + 1)) (i + 1)) / s (i + 1) := by
        rw [ov_iff ht (up ρ M)]
        rcases (ov_iff (n := cdw (bfn s ρ' M' i) (s (i + 1)) + (M' - Lw s (bfn s ρ' M') (s (i + 1)) (i + 1)) / s (i + 1)) ht (up ρ' M')).mp (Nat.le_refl _) with z | z
        · exact .inl (Nat.le_trans z (cdw_mono (ih i (by omega) (by omega))))
        · refine .inr (Nat.le_trans (sm_le fun k _ => ?_) (Nat.le_trans z hM))
          refine c.mono (cls_anti fun j hj => ih j (by omega) (by omega)) ?_
          have := cls_le (bfn s ρ' M') (i + 1) (k * s (i + 1))
          omega
      have h2 := Nat.mul_le_mul_left (s (i + 1)) h1
      have h3 := hρ (i + 1) hi
      omega
theorem bfn_ge {s ρ : Nat → Nat} {M i : Nat} : ρ i ≤ bfn s ρ M i := by
  cases i with
  | zero => rw [bfn_zero]; exact Nat.le_max_right _ _
  | succ i => rw [bfn_succ]; exact Nat.le_max_left _ _
end Ph

namespace Ph
open PySem PySem.Spec PyProof.Rows L2 PySem.NumText PySem.Calls
/-! ### the limit on digits stands as it was at the beginning -/
/-! ### int(text) of more than 640 digits -/
def big9 : PySem.Str := (Str.ofString "1") ++ Txt.mul (Str.ofString "0") 900
theorem reps_list (c : Nat) : ∀ (k : Nat) (acc : Array Nat), ((List.replicate k (#[c] : Array Nat)).foldl (· ++ ·) acc).toList = acc.toList ++ List.replicate k c
  | 0, acc => by simp
  | k + 1, acc => by
    rw [List.replicate_succ, List.foldl_cons, reps_list c k, List.replicate_succ]
    simp
theorem zeros_list : (Txt.mul (Str.ofString "0") 900).cps.toList = List.replicate 900 48 := by
  have e : Txt.mul (Str.ofString "0") 900 = ⟨(List.replicate 900 (#[48] : Array Nat)).foldl (· ++ ·) #[]⟩ := by
    unfold Txt.mul
    rw [if_neg (by decide), if_neg (by decide +kernel)]
    rfl
  rw [e]
  exact reps_list 48 900 #[]
theorem big9_list : big9.cps.toList = 49 :: List.replicate 900 48 := by
  have e : big9.cps.toList = (Str.ofString "1").cps.toList ++ (Txt.mul (Str.ofString "0") 900).cps.toList := Array.toList_append
  rw [e, zeros_list]
  rfl
theorem big9_digits : AllDigits big9.cps.toList := by
  rw [big9_list]
  intro d hd
  rcases List.mem_cons.mp hd with e | e
  · subst e; decide
  · rw [(List.mem_replicate.mp e).2]; decide
theorem digits_zeros : ∀ (k a : Nat), (List.replicate k 48).foldl (fun acc c => acc * 10 + (c - 48)) a = a * 10 ^ k
  | 0, a => by simp
  | k + 1, a => by
    rw [List.replicate_succ, List.foldl_cons, digits_zeros k, Nat.pow_succ]
    show (a * 10 + 0) * 10 ^ k = a * (10 ^ k * 10)
    rw [Nat.add_zero, Nat.mul_assoc, Nat.mul_comm 10 (10 ^ k)]
theorem big9_val : digitsVal big9.cps.toList = 10 ^ 900 := by
  rw [big9_list]
  unfold digitsVal
  rw [List.foldl_cons, digits_zeros]
  show (0 * 10 + 1) * 10 ^ 900 = 10 ^ 900
  rw [Nat.zero_mul, Nat.zero_add, Nat.one_mul]
theorem big9_length : big9.length = 901 := by
  have e : big9.cps.toList.length = big9.length := Array.length_toList
  rw [← e, big9_list, List.length_cons, List.length_replicate]
theorem ten_ex : ∃ t : Int, intText? big9 = some t ∧ 0 < t ∧ t.natAbs < 2 ^ 3000 := by
  refine ⟨_, intText_digits big9_digits (by rw [big9_list]; exact List.cons_ne_nil _ _) (by rw [big9_length]; decide), ?_, ?_⟩
  · rw [big9_val]
    exact Int.natCast_pos.mpr (Nat.pow_pos (by decide))
  · rw [big9_val, Int.natAbs_natCast]
    decide +kernel
noncomputable def ten9 : Int := Classical.choose ten_ex
section
variable {X : Cx}
theorem ip_mulW : PIp X .Mult (fun x y H Q => ∃ i j, x = .int i ∧ y = .int j ∧ CMulW i j ∧ Q (.int (i * j)) H) := by
  intro pins s σ H x y v u Q I r1 r2 h
  obtain ⟨i, j, e1, e2, hc, q⟩ := h
  subst e1; subst e2
  obtain ⟨t, rfl⟩ := r1
  obtain ⟨t', rfl⟩ := r2
  exact imul_int ⟨.int _, H, I.tok _, ⟨_, rfl⟩, q⟩ hc.ok
end
end Ph

namespace Ph
open PySem PySem.Spec PyProof.Rows L2 PySem.Calls
section
variable {X : Cx}
/-- d.update(e), both tracked dicts -/
def rDUp : V → List V → Hp → VK → Prop := fun x vs H Q => ∃ (a b : Addr) (ks ls : List (Key × V)), x = .ref a ∧ vs = [.ref b] ∧ a ≠ b ∧ H a = some (.dK ks) ∧ H b = some (.dK ls) ∧ ks.length + ls.length ≤ sizeLine ∧ Q .non (upd H a (.dK (mergeK ks ls)))
end
/-- which ints are keys -/
def hasI (kvs : List (Key × V)) (i : Int) : Bool := (valV kvs (Sum.inl i)).isSome
end Ph

set_option maxHeartbeats 2000000
namespace Ph
open PySem PySem.Spec PyProof.Rows L2
/-! ### {e for x in xs}, e an int -/
abbrev TurnI (w : World) (D : Addr) (te : TE) (σ2 : L2.St) (H3 : Hp) (Nx : Hp → Prop) : Prop :=
  te σ2 H3 fun y H4 => ∃ (c : Int) (S : Int → Bool) (n : Nat), y = .int c ∧ H4 D = some (SetO w D S n) ∧ n + 1 < scanBound ∧ Nx (upd H4 D (SetO w D (fun j => S j || decide (j = c)) (if S c = true then n else n + 1)))
def tScI (w : World) (wi : TI) (g : TG) (tt : TT) (te : TE) (vs : List Nat) : TE := fun σ H Q => wi σ H fun J H1 => ∀ D, H1 D = none → ∃ W : Nat → Nat → Hp → Prop, (∃ m, W 0 m (upd H1 D (SetO w D (fun _ => false) 0))) ∧ ∀ i m H, W i m H →
  (J.stop i H ∧ Q (.ref D) H) ∨ (J.go i H ∧ ∃ Nx : Hp → Prop, (∀ H', Nx H' → ∃ m', m' < m ∧ W (i + 1) m' H') ∧ ∀ x H', J.yld i H x H' → g x (wipe σ vs) H' fun σ2 H2 => wipe σ2 vs = wipe σ vs ∧ tt σ2 H2 fun b H3 => if b = true then TurnI w D te σ2 H3 Nx else Nx H3)
section
variable {X : Cx}
abbrev BlkG (X : Cx) (scope : Scope) (F : Cx → Prop) : Prop := ∀ (s : Shared) (H : Hp) (C : Addr) (cl : List (PySem.Str × Addr)) (fp : List Addr), F (X.blk s H scope (compEnvC scope cl C X.env) fp)
end
end Ph

namespace Ph
open PySem PySem.Spec PyProof.Rows L2
/-! ### comprehensions whose steps leave the heap as it is -/
section
variable {K : PySem.W.Frag} {a : Addr} {xs : List V} {g : TG} {tt : TT} {te : TE} {vs : List Nat} {σ : L2.St} {H1 : Hp} {D : Addr} {Qd : Hp → Prop}
abbrev Stp (g : TG) (tt : TT) (te : TE) (vs : List Nat) (σ : L2.St) (H1 : Hp) (f : V → Option V) (x : V) : Prop :=
  ∀ H, (∀ b o, H1 b = some o → H b = some o) → ∀ (Y : V → Hp → Prop) (N : Hp → Prop), (∀ y, f x = some y → Y y H) → (f x = none → N H) →
    g x (wipe σ vs) H fun σ2 H2 => wipe σ2 vs = wipe σ vs ∧ tt σ2 H2 fun b H3 => if b = true then te σ2 H3 Y else N H3
theorem take_filterMap {α β : Type} (f : α → Option β) {l : List α} {i : Nat} {x : α} (h : l[i]? = some x) : (l.take (i + 1)).filterMap f = (l.take i).filterMap f ++ (f x).toList := by
  rw [List.take_add_one, h, List.filterMap_append]
  congr 1
theorem fm_len {α β : Type} (f : α → Option β) (l : List α) (i : Nat) : ((l.take i).filterMap f).length ≤ l.length := by
  refine Nat.le_trans (List.length_filterMap_le _ _) ?_
  rw [List.length_take]
  omega
theorem lc_tupF (f : V → Option V) (ht : SqT K H1 a xs) (nD : H1 D = none) (hlen : xs.length < sizeLine) (hs : ∀ x ∈ xs, Stp g tt te vs σ H1 f x) (hd : ∀ H, (∀ b o, H1 b = some o → H b = some o) → H D = some (.lst (xs.filterMap f)) → Qd H) :
    ∃ W : Nat → Nat → Hp → Prop, (∃ m, W 0 m (upd H1 D (.lst []))) ∧ ∀ i m H, W i m H →
      ((Itt K a).stop i H ∧ Qd H) ∨ ((Itt K a).go i H ∧ ∃ Nx : Hp → Prop, (∀ H', Nx H' → ∃ m', m' < m ∧ W (i + 1) m' H') ∧ ∀ x H', (Itt K a).yld i H x H' → g x (wipe σ vs) H' fun σ2 H2 => wipe σ2 vs = wipe σ vs ∧ tt σ2 H2 fun b H3 =>
        if b = true then te σ2 H3 fun y H4 => ∃ acc, H4 D = some (.lst acc) ∧ acc.length < sizeLine ∧ Nx (upd H4 D (.lst (acc ++ [y]))) else Nx H3) := by
  refine lc_tup (K := K) (a := a) (xs := xs) (fun i H => (∀ b o, H1 b = some o → H b = some o) ∧ H D = some (.lst ((xs.take i).filterMap f))) ⟨fun b o e => ?_, ?_⟩ (fun i H _ p => ?_) (fun i x H hx p => ?_) (fun H p => ?_)
  · rw [upd_ne (ne_of_none e nD)]; exact e
  · rw [upd_same]; rfl
  · rcases ht with (h | ⟨o, h⟩) | h
    · exact .inl (.inl (p.1 _ _ h))
    · exact .inl (.inr ⟨o, p.1 _ _ h⟩)
    · exact .inr h
  · refine hs x (List.mem_of_getElem? hx) H p.1 _ _ (fun y ey => ⟨_, p.2, Nat.lt_of_le_of_lt (fm_len f xs i) hlen, fun b o e => ?_, ?_⟩) fun en => ⟨p.1, ?_⟩
    · rw [upd_ne (ne_of_none e nD)]; exact p.1 _ _ e
    · rw [upd_same, take_filterMap f hx, ey]; rfl
    · rw [take_filterMap f hx, en]; simpa using p.2
  · refine hd H p.1 ?_
    have := p.2
    rwa [List.take_of_length_le (Nat.le_refl _)] at this
end
end Ph

namespace Ph
open PySem PySem.Spec PyProof.Rows L2
/-! ### zip of a tuple and a list, in any mix (true: a tuple) -/
def SqK (k : Bool) (K : PySem.W.Frag) (H : Hp) (a : Addr) (xs : List V) : Prop := if k = true then SqT K H a xs else SqL K H a xs
def ItrK (k : Bool) (g : Heap) (j l : Addr) (n : Nat) : Prop := if k = true then g.IsTupleIter j l n else g.IsListIter j l n
def SeqK (k : Bool) (g : Heap) (l : Addr) (vs : Array Value) : Prop := if k = true then g.IsTuple l vs else g.IsList l vs
def itoK (k : Bool) (l : Addr) : Obj := if k = true then { cls := .type "tuple_iterator", data := .fields #[.ref l, .int 0 0] } else { cls := .type "list_iterator", data := .fields #[.ref l, .int 0 0] }
theorem ItrK.obj {k : Bool} {g : Heap} {j l : Addr} {n : Nat} (h : ItrK k g j l n) : ∃ o, g.get? j = some o ∧ ∀ v, o.data ≠ .cell v := by
  cases k <;> (obtain ⟨o, e, _, d⟩ := h; exact ⟨o, e, fun v q => by rw [d] at q; cases q⟩)
theorem ItrK.on {k : Bool} {g g' : Heap} {j l : Addr} {n : Nat} (h : ItrK k g j l n) (e : ∀ o, g.get? j = some o → g'.get? j = some o) : ItrK k g' j l n := by
  cases k
  · exact Heap.IsListIter.at h e
  · exact Heap.IsTupleIter.at h e
theorem drawK {P : Program} {w : World} {A : Around} (k : Bool) (hh : A.handled = none) (j l : Addr) (ne : l ≠ j) (vs : Array Value) :
    Draws P w A j [j, l] vs.size (fun i v => vs[i]? = some v) (fun i g => ItrK k g j l i ∧ SeqK k g l vs) := by
  cases k
  · exact Draws.list hh j l ne vs
  · exact Draws.tuple hh j l ne vs
theorem beginK (k : Bool) (l : Addr) (vs : Array Value) : Begins (.ref l) (itoK k l) fun g => SeqK k g l vs := by
  cases k
  · exact begins_list l vs
  · exact begins_tuple l vs
theorem itoK_it {k : Bool} {g : Heap} {j l : Addr} (h : g.get? j = some (itoK k l)) : ItrK k g j l 0 := by
  cases k <;> exact ⟨_, h, rfl, rfl⟩
theorem Inv.seqK {X : Cx} {pins : List (Addr × Obj)} {σ : L2.St} {H : Hp} {s : Shared} {k : Bool} {a : Addr} {xs : List V} (I : Inv X pins σ H s) (h : SqK k X.K H a xs) : ∃ vs : List Value, Vals xs vs ∧ SeqK k s.heap a vs.toArray ∧ a < s.heap.objs.size := by
  cases k
  · obtain ⟨vs, r, p, _⟩ := I.list h
    exact ⟨vs, r, p.isList, p.lt⟩
  · obtain ⟨vs, r, p, _⟩ := I.tuple h
    obtain ⟨o, e, _⟩ := id p
    exact ⟨vs, r, p, Heap.lt_size e⟩
theorem Inv.seqK_inj {X : Cx} {pins : List (Addr × Obj)} {σ : L2.St} {H : Hp} {s : Shared} {k : Bool} {a : Addr} {xs ys : List V} (I : Inv X pins σ H s) (h : SqK k X.K H a xs) (h2 : SqK k X.K H a ys) : xs = ys := by
  cases k
  · exact I.list_inj h h2
  · exact I.tuple_inj h h2
def ItzK (k1 k2 : Bool) (K : PySem.W.Frag) (a b : Addr) : It :=
  ⟨fun i H => ∃ (xs ys : List V) (x y : V), SqK k1 K H a xs ∧ SqK k2 K H b ys ∧ xs[i]? = some x ∧ ys[i]? = some y,
    fun i H v H2 => ∃ T x y, v = .ref T ∧ H T = none ∧ H2 = upd H T (.tup [x, y]) ∧ (∀ xs, SqK k1 K H a xs → xs[i]? = some x) ∧ ∀ ys, SqK k2 K H b ys → ys[i]? = some y,
    fun i H => ∃ xs ys : List V, SqK k1 K H a xs ∧ SqK k2 K H b ys ∧ i ≤ xs.length ∧ i ≤ ys.length ∧ (i = xs.length ∨ i = ys.length)⟩
theorem mem5 {c z t u j1 j2 : Addr} (h : c ∈ [z, t, u, j1, j2]) : c = z ∨ c = t ∨ c = u ∨ c = j1 ∨ c = j2 := by simpa using h
theorem turn_zipK {P : Program} {w : World} {K : PySem.W.Frag} {es : List Expr} {kk : Nat} {tp : Pos} {k1 k2 : Bool} {a b z t u j1 j2 : Addr} (D : ZipSep2 z t u j1 j2 [j1, a] [j2, b]) (n1 : a ≠ j1) (n2 : b ≠ j2) :
    Turn P w K (.Tuple es kk tp) (ItzK k1 k2 K a b) [z, t, u, j1, j2] z (fun i g => IsZip g z t u .none ∧ IsTupOf2 g t (.ref j1) (.ref j2) ∧ (∃ x y, IsTupOf2 g u x y) ∧ ItrK k1 g j1 a i ∧ ItrK k2 g j2 b i) where
  mem := List.mem_cons_self ..
  obj := fun i g st c hc => by
    obtain ⟨hz, ht, ⟨x, y, hu⟩, h1, h2⟩ := st
    rcases mem5 hc with rfl | rfl | rfl | rfl | rfl
    · exact ⟨_, hz, fun v q => nomatch q⟩
    · exact ⟨_, ht, fun v q => nomatch q⟩
    · exact ⟨_, hu, fun v q => nomatch q⟩
    · exact h1.obj
    · exact h2.obj
  keep := fun i g g2 st kp => by
    obtain ⟨hz, ht, ⟨x, y, hu⟩, h1, h2⟩ := st
    exact ⟨kp z (by simp) _ hz, kp t (by simp) _ ht, ⟨x, y, kp u (by simp) _ hu⟩, h1.on fun o => kp j1 (by simp) o, h2.on fun o => kp j2 (by simp) o⟩
  item := by
    intro X eP ew eK hc i pins s σ H E I hf st hg
    subst eP ew eK
    obtain ⟨hz, ht, ⟨x0, y0, hu⟩, h1, h2⟩ := st
    obtain ⟨xs, ys, x, y, qx, qy, gx, gy⟩ := hg
    obtain ⟨vs, r1, p1, _⟩ := Inv.seqK I qx
    obtain ⟨vt, r2, p2, _⟩ := Inv.seqK I qy
    obtain ⟨v1, gv1, rv1⟩ := r1.get gx
    obtain ⟨v2, gv2, rv2⟩ := r2.get gy
    have zl : z < s.heap.objs.size := Heap.lt_size hz
    have l1 : i < vs.toArray.size := by
      have := (List.getElem?_eq_some_iff.mp gv1).1
      simpa using this
    have l2 : i < vt.toArray.size := by
      have := (List.getElem?_eq_some_iff.mp gv2).1
      simpa using this
    have hh : X.A.in1.handled = none := I.ok.hd hc
    refine wpAny_pyNext_zipD2_item D (drawK k1 hh j1 a n1 vs.toArray) (drawK k2 hh j2 b n2 vt.toArray) hz ht hu ⟨h1, p1⟩ ⟨h2, p2⟩ l1 l2 fun y1 y2 g tk e1 e2 hz1 hu1 st1 st2 hT hsz hk => ?_
    have f1 : y1 = v1 := by
      have q : vs.toArray[i]? = some v1 := by simpa using gv1
      rw [q] at e1
      exact (Option.some.inj e1).symm
    have f2 : y2 = v2 := by
      have q : vt.toArray[i]? = some v2 := by simpa using gv2
      rw [q] at e2
      exact (Option.some.inj e2).symm
    subst f1 f2
    refine ⟨_, rfl, wpAny_letOwnedTupleGo_zip (s := { s with heap := g, toks := tk }) hz1 fun g2 hz2 sb => ?_⟩
    have hT2 : g2.get? s.heap.objs.size = some { cls := .type "tuple", data := .seq #[y1, y2] } := (sb.2 _ (Nat.ne_of_gt zl)).trans hT
    have new : ObjOk X.prog X.w (upd H s.heap.objs.size (.tup [x, y])) g2 s.heap.objs.size (.tup [x, y]) :=
      ⟨(by show 2 ≤ sizeLine; decide), [y1, y2], .cons rv1 (.cons rv2 .nil), ⟨_, hT2, rfl, _, rfl⟩⟩
    have I1 : Inv X pins σ (upd H s.heap.objs.size (.tup [x, y])) { s with heap := g2, toks := tk } :=
      I.turnedNew (t' := tk) (ch := [z, t, u, j1, j2]) (fun c o nb q => (sb.2 c (fun e => nb (by simp [e]))).trans (hk c o (fun e => nb (by simp [e])) (fun e => nb (by simp [e])) (fun e => nb (by simp [e])) (fun e => nb (by simp [e])) q)) hf (Nat.le_refl _) new
    refine ⟨.ref s.heap.objs.size, _, I1, rfl, ⟨_, x, y, rfl, I.hok.fresh (Nat.le_refl _), rfl, fun l hl => by rw [Inv.seqK_inj I hl qx]; exact gx, fun l hl => by rw [Inv.seqK_inj I hl qy]; exact gy⟩, ⟨hz2, ?_, ⟨y1, y2, ?_⟩, ?_, ?_⟩, fun c hm => ?_⟩
    · exact (sb.2 _ D.TIz).trans (hk _ _ D.TIz D.TITO D.TIi1 D.TIi2 ht)
    · exact (sb.2 _ D.TOz).trans hu1
    · exact st1.1.on fun o q => (sb.2 _ D.zi1.symm).trans q
    · exact st2.1.on fun o q => (sb.2 _ D.zi2.symm).trans q
    · have lt : c < s.heap.objs.size := by
        rcases mem5 hm with rfl | rfl | rfl | rfl | rfl
        · exact zl
        · exact Heap.lt_size ht
        · exact Heap.lt_size hu
        · obtain ⟨_, e, _⟩ := h1.obj
          exact Heap.lt_size e
        · obtain ⟨_, e, _⟩ := h2.obj
          exact Heap.lt_size e
      rw [upd_ne (Nat.ne_of_lt lt)]
      exact (hf c hm).1
  done := by
    intro X eP ew eK hc i pins s σ H E I hf st hg
    subst eP ew eK
    obtain ⟨hz, ht, ⟨x0, y0, hu⟩, h1, h2⟩ := st
    obtain ⟨xs, ys, qx, qy, le1, le2, hend⟩ := hg
    obtain ⟨vs, r1, p1, _⟩ := Inv.seqK I qx
    obtain ⟨vt, r2, p2, _⟩ := Inv.seqK I qy
    have m1 := r1.length
    have m2 := r2.length
    have hh : X.A.in1.handled = none := I.ok.hd hc
    have s1 : vs.toArray.size = xs.length := by simp [m1]
    have s2 : vt.toArray.size = ys.length := by simp [m2]
    exact wpAny_pyNext_zipD2_end D (drawK k1 hh j1 a n1 vs.toArray) (drawK k2 hh j2 b n2 vt.toArray) hz ht hu ⟨h1, p1⟩ ⟨h2, p2⟩ (by rw [s1]; exact le1) (by rw [s2]; exact le2) (by rw [s1, s2]; exact hend) fun g tk hk =>
      ⟨rfl, I.turnedL (t' := tk) (ch := [z, t, u, j1, j2]) (fun c o nb q => hk c o (fun e => nb (by simp [e])) (fun e => nb (by simp [e])) (fun e => nb (by simp [e])) (fun e => nb (by simp [e])) q) hf⟩
  self := fun A i s Q E st h => wpAny_pyIter_zip st.1 h
def iZipK (k1 k2 : Bool) (K : PySem.W.Frag) (ta : TA) : TI := fun σ H R => ta σ H fun us H1 => ∃ a b xs ys, us = [.ref a, .ref b] ∧ SqK k1 K H1 a xs ∧ SqK k2 K H1 b ys ∧ R (ItzK k1 k2 K a b) H1
theorem pi_zipK {k1 k2 : Bool} {X : Cx} {e e2 : Expr} {ta : TA} {p pos tp : Pos} {es : List Expr} {kk : Nat} (hg : Gl X "zip") (hm : X.mg "zip" = none) (ha : PA X [e, e2] ta)
    (hs : starEach [e, e2] X.env = (false, eval e X.env) :: starEach [e2] X.env := by rfl) (hp : (backTo pos (starEach [e2] X.env)).any (·.1) = false := by rfl) :
    L2.PI X (.Tuple es kk tp) (.Call (.Name "zip" p) [e, e2] [] pos) (iZipK k1 k2 X.K ta) := by
  refine ⟨fun pins s σ H R I h => ?_⟩
  refine Call_ (ld_blt I hg hm PyProof.Rows.boot_zip (PyProof.Rows.callWith_type1 (thn (ha.run pos pins s σ H _ I h) fun us s1 ⟨vs, H1, I1, rs, q1⟩ => ?_) hs hp))
  obtain ⟨a, b, xs, ys, rfl, qx, qy, q⟩ := q1
  cases rs with
  | cons r rr =>
    cases rr with
    | cons r2 rr =>
      cases rr
      cases r
      cases r2
      obtain ⟨va, _, p1, la⟩ := Inv.seqK I1 qx
      obtain ⟨vb, _, p2, lb⟩ := Inv.seqK I1 qy
      refine zip_begins2 (beginK k1 a va.toArray) (beginK k2 b vb.toArray) p1 p2 fun g hz ht hu g1 g2 hsz hk => wpAny_pyIter_zip hz ?_
      have I2 : Inv X pins σ H1 { s1 with heap := g } := I1.kept (t' := s1.toks) hk
      refine ⟨s1.heap.objs.size + 4, [s1.heap.objs.size + 4, s1.heap.objs.size + 2, s1.heap.objs.size + 3, s1.heap.objs.size, s1.heap.objs.size + 1], _, _, H1, rfl, I2, turn_zipK (k1 := k1) (k2 := k2) (zip_sep2 (fp1 := [a]) (fp2 := [b]) ?_ ?_) ?_ ?_, ⟨hz, ht, ⟨_, _, hu⟩, itoK_it g1, itoK_it g2⟩, fun c hm => ?_, q⟩
      · intro c hcm
        rw [List.mem_singleton.mp hcm]
        exact la
      · intro c hcm
        rw [List.mem_singleton.mp hcm]
        exact lb
      · exact Nat.ne_of_lt la
      · exact Nat.ne_of_lt (Nat.lt_succ_of_lt lb)
      · have le : s1.heap.objs.size ≤ c := by
          rcases mem5 hm with rfl | rfl | rfl | rfl | rfl <;> first | exact Nat.le_add_right _ _ | exact Nat.le_refl _
        exact I1.fpOk le (I1.hok.fresh le)
end Ph

namespace Ph
open PySem PySem.Spec PyProof.Rows L2
/-! ### the pot -/
def But (p : Addr) (H H' : Hp) : Prop := ∀ b o, b ≠ p → H b = some o → H' b = some o
theorem But.refl (p : Addr) (H : Hp) : But p H H := fun _ _ _ h => h
theorem But.trans {p : Addr} {H H1 H2 : Hp} (a : But p H H1) (b : But p H1 H2) : But p H H2 := fun c o n h => b c o n (a c o n h)
theorem same_upd {H : Hp} {p : Addr} {o : HO} (h : H p = none) : Same H (upd H p o) := fun b x e => by
  rw [upd_ne (ne_of_none e h)]
  exact e
theorem but_upd {H : Hp} {p : Addr} {o : HO} : But p H (upd H p o) := fun b x n e => by
  rw [upd_ne n]
  exact e
def mM : Int := 2305843009213693951
structure PotV (g r : Int) : Prop where
  g0 : 0 ≤ g
  g1 : g.natAbs < 2 ^ 3000
  r0 : 0 ≤ r
  r1 : r < 2305843009213693951
def Pot (H : Hp) (p : Addr) : Prop := ∃ g r : Int, H p = some (.lst [.int g, .int r]) ∧ PotV g r
theorem But.seq {K : PySem.W.Frag} {p a : Addr} {H H' : Hp} {xs : List V} (b : But p H H') (n : a ≠ p) (h : SqL K H a xs) : SqL K H' a xs := by
  rcases h with (h | ⟨o, h⟩) | h
  · exact .inl (.inl (b _ _ n h))
  · exact .inl (.inr ⟨o, b _ _ n h⟩)
  · exact .inr h
inductive Lnk (m : Int) : List Int → Int → Prop
  | one : Lnk m [1] 1
  | step {ns : List Int} {x r : Int} : Lnk m ns x → 2 ≤ r → r ≤ 6 → x * r ≤ m → ns.length < 12 → Lnk m (ns ++ [x * r]) (x * r)
structure Nm5 (K : PySem.W.Frag) (mg : Str → Option Value) : Prop where
  len : mg "len" = none
  abs : mg "abs" = none
  int : mg "int" = none
  range : mg "range" = none
  tuple : mg "tuple" = none
  max : mg "max" = none
  min : mg "min" = none
  repr : mg "repr" = none
  isinstance : mg "isinstance" = none
  bool : mg "bool" = none
  all : mg "all" = none
  any : mg "any" = none
  list : mg "list" = none
  dict : mg "dict" = none
  sorted : mg "sorted" = none
  set : mg "set" = none
  sum : mg "sum" = none
  zip : mg "zip" = none
  dig : PySem.W.nsIn K cStatics "sys.int_max_str_digits" = some none
theorem _root_.L2.Same.tup {K : PySem.W.Frag} {H H' : Hp} {a : Addr} {xs : List V} (e : Same H H') (h : SqT K H a xs) : SqT K H' a xs := by
  rcases h with (h | ⟨o, h⟩) | h
  · exact .inl (.inl (e _ _ h))
  · exact .inl (.inr ⟨o, e _ _ h⟩)
  · exact .inr h
theorem But.tup {K : PySem.W.Frag} {p a : Addr} {H H' : Hp} {xs : List V} (b : But p H H') (n : a ≠ p) (h : SqT K H a xs) : SqT K H' a xs := by
  rcases h with (h | ⟨o, h⟩) | h
  · exact .inl (.inl (b _ _ n h))
  · exact .inl (.inr ⟨o, b _ _ n h⟩)
  · exact .inr h
theorem paired_imp {α β : Type} {F G : α → β → Prop} (h : ∀ a b, F a b → G a b) : ∀ {l : List α} {m : List β}, Paired F l m → Paired G l m
  | _, _, .nil => .nil
  | _, _, .cons x r => .cons (h _ _ x) (paired_imp h r)
/-! ### blocks in the heap -/
def BkAt (H : Hp) (x : V) (b : Int × Int) : Prop := ∃ t, x = .ref t ∧ H t = some (.tup [.int b.1, .int b.2])
def BL (H : Hp) (xs : List V) (bs : List (Int × Int)) : Prop := Paired (BkAt H) xs bs
theorem BL.mono {H H' : Hp} (h : ∀ t ys, H t = some (.tup ys) → H' t = some (.tup ys)) : ∀ {xs : List V} {bs : List (Int × Int)}, BL H xs bs → BL H' xs bs
  | _, _, .nil => .nil
  | _, _, .cons ⟨t, e1, e2⟩ r => .cons ⟨t, e1, h _ _ e2⟩ (BL.mono h r)
theorem BL.len {H : Hp} : ∀ {xs : List V} {bs : List (Int × Int)}, BL H xs bs → xs.length = bs.length
  | _, _, .nil => rfl
  | _, _, .cons _ r => by rw [List.length_cons, List.length_cons, BL.len r]
def kH (H : Hp) : V → Int × Int
  | .ref t => match H t with
    | some (.tup [.int a, .int s]) => (a, s)
    | _ => (0, 0)
  | _ => (0, 0)
theorem BkAt.k {H : Hp} {x : V} {b : Int × Int} (h : BkAt H x b) : kH H x = b := by
  obtain ⟨t, rfl, e⟩ := h
  show (match H t with
    | some (.tup [.int a, .int s]) => (a, s)
    | _ => (0, 0)) = b
  rw [e]
theorem BL.map {H : Hp} : ∀ {xs : List V} {bs : List (Int × Int)}, BL H xs bs → xs.map (kH H) = bs
  | _, _, .nil => rfl
  | _, _, .cons h r => by rw [List.map_cons, h.k, BL.map r]
theorem BL.all {H : Hp} : ∀ {xs : List V} {bs : List (Int × Int)}, BL H xs bs → ∀ x ∈ xs, ∃ b, BkAt H x b
  | _, _, .nil => fun x hx => by cases hx
  | _, _, .cons h r => fun x hx => by
    rcases List.mem_cons.mp hx with e | e
    · rw [e]; exact ⟨_, h⟩
    · exact BL.all r x e
theorem BL.of {H : Hp} : ∀ {xs : List V}, (∀ x ∈ xs, ∃ b, BkAt H x b) → BL H xs (xs.map (kH H))
  | [], _ => .nil
  | x :: r, h => by
    obtain ⟨b, hb⟩ := h x (List.mem_cons_self ..)
    rw [List.map_cons, hb.k]
    exact .cons hb (BL.of fun y hy => h y (List.mem_cons_of_mem _ hy))
def StAt (H : Hp) (t : Addr) (bs : List (Int × Int)) : Prop := ∃ xs, H t = some (.tup xs) ∧ BL H xs bs
theorem StAt.same {H H' : Hp} {t : Addr} {bs : List (Int × Int)} (h : StAt H t bs) (s : Same H H') : StAt H' t bs := by
  obtain ⟨xs, e, b⟩ := h
  exact ⟨xs, s _ _ e, b.mono fun t ys e => s _ _ e⟩
/-! ### states -/
def okB (C : List Int) (W : Int) (b : Int × Int) : Prop := b.2 ∈ C ∧ 1 ≤ b.2 ∧ 0 ≤ b.1 ∧ b.1 % b.2 = 0 ∧ b.1 + b.2 ≤ W
def apart (b c : Int × Int) : Prop := b.1 + b.2 ≤ c.1 ∨ c.1 + c.2 ≤ b.1
structure St (C : List Int) (W : Int) (bs : List (Int × Int)) : Prop where
  ok : ∀ b ∈ bs, okB C W b
  asc : bs.Pairwise fun b c => b.1 + b.2 ≤ c.1
theorem sorted_st {C : List Int} {W : Int} {bs cs : List (Int × Int)} (h1 : ∀ b ∈ bs, okB C W b) (h2 : bs.Pairwise apart) (hp : cs.Perm bs) (hs : cs.Pairwise fun x y => SrtO.lexB y x = false) : St C W cs := by
  have ok : ∀ b ∈ cs, okB C W b := fun b hb => h1 b (hp.mem_iff.mp hb)
  refine ⟨ok, ?_⟩
  have ap : cs.Pairwise apart := (hp.pairwise_iff (R := apart) (fun {x y} h => h.symm)).mpr h2
  refine (List.pairwise_and_iff.mpr ⟨ap, hs⟩).imp_of_mem fun {b c} hb hc h => ?_
  obtain ⟨h3, h4⟩ := h
  rcases h3 with h5 | h5
  · exact h5
  · exfalso
    obtain ⟨_, k1, _⟩ := ok c hc
    have : SrtO.lexB c b = true := by
      unfold SrtO.lexB
      simp
      rw [if_neg (by omega)]
      omega
    rw [this] at h4
    cases h4
abbrev Bk := Int × Int
def rch (l : Int) (bs : List Bk) : Int := mxd 0 ((bs.filter fun b => decide (b.2 ≤ l)).map fun b => b.1 + b.2)
theorem foldl_max : ∀ (l : List Int) (n : Int), (∀ x ∈ l, x ≤ l.foldl max n) ∧ n ≤ l.foldl max n ∧ (l.foldl max n = n ∨ l.foldl max n ∈ l)
  | [], n => ⟨(fun x hx => nomatch hx), Int.le_refl _, .inl rfl⟩
  | a :: r, n => by
    obtain ⟨h1, h2, h3⟩ := foldl_max r (max n a)
    rw [List.foldl_cons]
    refine ⟨fun x hx => ?_, by omega, ?_⟩
    · rcases List.mem_cons.mp hx with e | e
      · rw [e]; omega
      · exact h1 x e
    · rcases h3 with e | e
      · rcases (by omega : max n a = n ∨ max n a = a) with z | z
        · left; omega
        · right; rw [e, z]; exact List.mem_cons_self ..
      · right; exact List.mem_cons_of_mem _ e
theorem mxd_spec {l : List Int} (h : ∀ x ∈ l, 0 < x) : (l = [] ∧ mxd 0 l = 0) ∨ (mxd 0 l ∈ l ∧ ∀ x ∈ l, x ≤ mxd 0 l) := by
  cases l with
  | nil => exact .inl ⟨rfl, rfl⟩
  | cons n r =>
    right
    obtain ⟨h1, h2, h3⟩ := foldl_max r n
    show r.foldl max n ∈ n :: r ∧ ∀ x ∈ n :: r, x ≤ r.foldl max n
    refine ⟨?_, fun x hx => ?_⟩
    · rcases h3 with e | e
      · rw [e]; exact List.mem_cons_self ..
      · exact List.mem_cons_of_mem _ e
    · rcases List.mem_cons.mp hx with e | e
      · rw [e]; exact h2
      · exact h1 x e
/-! ### comprehensions whose steps lay new things -/
def iV : V → Int
  | .int i => i
  | _ => 0
end Ph

namespace Ph
open PySem PySem.Spec PyProof.Rows L2
end Ph

namespace Ph
open PySem PySem.Spec PyProof.Rows L2
/-! ### comprehensions whose items are known, whose steps may lay new things -/
theorem keepD {H1 H4 : Hp} {D : Addr} {o : HO} (nD : H1 D = none) (s : Same H1 H4) : Same H1 (upd H4 D o) := fun b u e => by
  rw [upd_ne (ne_of_none e nD)]
  exact s _ _ e
theorem lc_tpF {K : PySem.W.Frag} {a : Addr} {xs : List V} {g : TG} {te : TE} {vs : List Nat} {σ : L2.St} {H1 : Hp} {D : Addr} {Qd : Hp → Prop} (f : V → V) (ha : SqT K H1 a xs) (nD : H1 D = none) (hlen : xs.length < sizeLine)
    (hs : ∀ x ∈ xs, ∀ H, Same H1 H → ∀ Y : V → Hp → Prop, (∀ H', Same H H' → Y (f x) H') → g x (wipe σ vs) H fun σ2 H2 => wipe σ2 vs = wipe σ vs ∧ te σ2 H2 Y)
    (hd : ∀ H, Same H1 H → H D = some (.lst (xs.map f)) → Qd H) :
    ∃ W : Nat → Nat → Hp → Prop, (∃ m, W 0 m (upd H1 D (.lst []))) ∧ ∀ i m H, W i m H →
      ((Itt K a).stop i H ∧ Qd H) ∨ ((Itt K a).go i H ∧ ∃ Nx : Hp → Prop, (∀ H', Nx H' → ∃ m', m' < m ∧ W (i + 1) m' H') ∧ ∀ x H', (Itt K a).yld i H x H' → g x (wipe σ vs) H' fun σ2 H2 => wipe σ2 vs = wipe σ vs ∧ tYes σ2 H2 fun b H3 =>
        if b = true then te σ2 H3 fun y H4 => ∃ acc, H4 D = some (.lst acc) ∧ acc.length < sizeLine ∧ Nx (upd H4 D (.lst (acc ++ [y]))) else Nx H3) := by
  refine lc_tup (fun i H => Same H1 H ∧ H D = some (.lst ((xs.take i).map f))) ⟨same_upd nD, upd_same⟩ (fun i H _ p => p.1.tup ha) (fun i x H hx p => ?_) (fun H p => hd H p.1 (by rw [p.2, List.take_of_length_le (Nat.le_refl _)]))
  obtain ⟨sm, hD⟩ := p
  refine hs x (List.mem_of_getElem? hx) H sm _ fun H4 s4 => ?_
  refine ⟨_, s4 _ _ hD, by rw [List.length_map, List.length_take]; omega, keepD nD (sm.trans s4), ?_⟩
  rw [upd_same, List.take_add_one, hx, List.map_append]
  rfl
end Ph

namespace Ph
open PySem PySem.Spec PyProof.Rows L2
section
variable {X : Cx}
def rSlK (K : PySem.W.Frag) : V → Option Int → Option Int → Hp → VK → Prop := fun x lo hi H Q => ∃ a xs, x = .ref a ∧ SqT K H a xs ∧ ∀ q H', Same H H' → SqT K H' q (cutV xs lo hi) → Q (.ref q) H'
theorem cutv_whole {xs : List V} {lo hi : Option Int} (hw : HT.sIx xs.length 0 lo = 0 ∧ HT.sIx xs.length xs.length hi = xs.length) : cutV xs lo hi = xs := by
  unfold cutV
  rw [hw.1, hw.2]
  simp
theorem sl_tupK : SlR X (rSlK X.K) := by
  intro pins s σ H x v vl vu lo hi sl Q I rx hs pl pu h
  obtain ⟨a, xs, rfl, hx, q⟩ := h
  exact sl_tupA pins s σ H _ v vl vu lo hi sl Q I rx hs pl pu ⟨a, xs, rfl, hx, fun hw => q a H (Same.refl H) (by rw [cutv_whole hw]; exact hx), fun _ p np => q p _ (same_upd np) (.inl (.inl upd_same))⟩
def rCatK (K : PySem.W.Frag) : V → V → Hp → VK → Prop := fun x y H Q => ∃ a b xs ys, x = .ref a ∧ y = .ref b ∧ SqT K H a xs ∧ SqT K H b ys ∧ xs.length + ys.length ≤ sizeLine ∧ ∀ q H', Same H H' → SqT K H' q (xs ++ ys) → Q (.ref q) H'
end
end Ph

namespace Ph
open PySem PySem.Spec PyProof.Rows L2
section
variable {X : Cx}
/-- x in t, t a tuple of data -/
def rInT (K : PySem.W.Frag) : R2 := fun x y H Q => ∃ d ds, Dp K H x d ∧ Dp K H y (.tuple ds) ∧ SeqAt.shaped d = true ∧ SeqAt.shaped (.tuple ds) = true ∧ Q (.bl (ds.any fun z => PyData.eqv z d)) H
/-- a thing that is only read from now on -/
def tFrz (t : TE) : TE := fun σ H Q => t σ H fun v H1 => ∃ d u, v = .ref d ∧ H1 d = some u ∧ Mut (some u) ∧ ∀ od, Q v (upd H1 d (.frz od u))
theorem pe_frz {e : Expr} {t : TE} (h : PE X e t) : PE X e (tFrz t) := by
  refine ⟨fun pins s σ H Q I hw => ?_⟩
  refine thn (h.run pins s σ _ _ I hw) fun v s1 ⟨x, H1, I1, r, d, u, ex, hd, mu, q⟩ => ?_
  obtain ⟨od, I2⟩ := I1.lock hd mu
  exact ⟨x, _, I2, r, q od⟩
end
/-! ### blocks and states as data -/
def bD (b : Int × Int) : PyData := .tuple [.int b.1, .int b.2]
theorem bD_depth (b : Int × Int) : (bD b).depth = 1 := by simp [bD, PyData.depth, PyData.depthAll]
theorem bDs_depth : ∀ zs : List (Int × Int), PyData.depthAll (zs.map bD) ≤ 1
  | [] => by simp [PyData.depthAll]
  | z :: zs => by
    have h1 := bDs_depth zs
    have h2 := bD_depth z
    simp only [List.map_cons, PyData.depthAll, h2]
    omega
end Ph

namespace Ph
open PySem PySem.Spec PyProof.Rows L2
/-! ### a def's promise where no repr is under way (the guards are known to be empty) -/
structure FnG (P : Program) (w : World) (K : PySem.W.Frag) (mg : Str → Option Value) (base : Heap) (CX : CXT) (k : Nat) (f : Addr) (fd : FuncData) (ps : List Str) (sp : Sp) : Prop where
  cnt : ∀ vs H Q E, sp vs H Q E → vs.length = ps.length
  go : ∀ (A : Around) (outer : List Env) (s : Shared) (H : Hp) (args : Args) (us : List Value) (vs : List V) (Q : VK) (E : XK), A.guards = some [] → Room k A →
    Env0 P w K mg base A outer s H → BindsTo s fd args (ps.zip us) → Vals vs us → sp vs H Q E → codeAny (model P w) A (.call (.ref f) args) (CR CX outer P w H s Q E) s
theorem guards_deeper (A : Around) (env : Env) : (A.deeper env).guards = A.guards := by
  first
    | rfl
    | (cases A; rfl)
section
variable {P : Program} {w : World} {K : PySem.W.Frag} {mg : Str → Option Value} {base : Heap}
theorem okG {x qual : Str} {st : Stmt} {f : Addr} {fd : FuncData} {N ps : List Str} {k : Nat} {sp : Sp} (F : Fun K x qual st f fd) (S : FnScope N ps (defScope st)) (cnt : ∀ vs H Q E, sp vs H Q E → vs.length = ps.length)
    (body : ∀ (cdv : Value) (A : Around) (outer : List Env) (s : Shared) (H : Hp) (vs : List V) (Q : VK) (E : XK), (A.deeper (envOfC qual (defScope st) s.heap.objs.size f cdv)).guards = some [] → Room k (A.deeper (envOfC qual (defScope st) s.heap.objs.size f cdv)) → sp vs H Q E →
      ∃ t, PSs (cxOf CX0 P w K mg base N qual (defScope st) f cdv A outer s H E).nox (defBody st) t ∧ t { nx := fun _ H' => Q .non H', rt := Q } (start N vs) H) : FnG P w K mg base CX0 (k + 1) f fd ps sp := by
  obtain ⟨oc, od, kV, doc, pm, an, cdv, ct, osl, rfl, lk, hcd⟩ := F.ex
  refine ⟨cnt, fun A outer s H args us vs Q E hgu room env bnd vals want => ?_⟩
  have old : ∀ b o, base.get? b = some o → s.heap.get? b = some o := fun b o z => (env.bs b o z).1
  refine Att.call_fn (env.mod.kin.keeps old) (env.mod.nolimit.keeps old) lk hcd room.depth bnd ?_ (fun s1 inside => ?_) S.co S.gen S.kind
  · rw [List.all_eq_true]
    rintro ⟨n, v⟩ hy
    rcases S.par n (List.of_mem_zip hy).1 with z | z <;> simp [z]
  · obtain ⟨t, ht, hq⟩ := body cdv A outer s H vs Q E ((guards_deeper A _).trans hgu) (room.deeper _) want
    have I0 : Inv (cxOf CX0 P w K mg base N qual (defScope st) f cdv A outer s H E) [] (start N vs) H s1 := inv_start S room.hd env (cnt _ _ _ _ want) vals inside
    refine wpAny_mono (ht.nox.run [] s1 (start N vs) H _ I0 hq) (fun flow s2 done => ?_) fun e s2 bad => bad
    have fin : ∀ {σ' : L2.St} {H' : Hp} {v : V} {u : Value}, Inv (cxOf CX0 P w K mg base N qual (defScope st) f cdv A outer s H E) [] σ' H' s2 → RelV v u → Q v H' → CE outer P w H s Q u s2 :=
      fun J rel good => ⟨_, _, J.os, J.bare, J.base, J.hok, rel, good⟩
    match flow, done with
    | .ret u, ⟨v, σ', H', J, rel, good⟩ => exact fin J rel good
    | .next, ⟨σ', H', J, good⟩ => exact fin (v := V.non) (u := Value.none) J rfl good
    | .brk, ⟨_, _, _, z⟩ => exact z.elim
    | .cont, ⟨_, _, _, z⟩ => exact z.elim
end
section
variable {X : Cx} {k : Nat} {f : Addr} {fd : FuncData} {ps : List Str} {sp : Sp} {x : Str} {p pos : Pos} {e : Expr} {es : List Expr} {t : TA}
end
end Ph

namespace Ph
open PySem PySem.Spec PyProof.Rows L2
/-! ### data that repr can show -/
structure Rp (d : PyData) : Prop where
  sh : d.showable = true
  nd : d.hasDict = false
  dp : d.depth ≤ 60
  ln : d.shown.length ≤ sizeLine
/-- short leaves, no dict -/
structure Sho (d : PyData) (n k : Nat) : Prop where
  sh : d.showable = true
  nd : d.hasDict = false
  dp : d.depth ≤ n
  lv : d.leavesShort 24 = true
  wt : d.weight ≤ k
structure ShoAll (ds : List PyData) (n k : Nat) : Prop where
  sh : PyData.showableAll ds = true
  nd : PyData.hasDictAll ds = false
  dp : PyData.depthAll ds ≤ n
  lv : PyData.leavesShortAll 24 ds = true
  wt : PyData.weightAll ds ≤ k
section
variable {X : Cx}
/-- repr(e) of such data -/
def rRp (K : PySem.W.Frag) : List V → Hp → VK → Prop := fun xs H Q => ∃ (a : Addr) (d : PyData), xs = [.ref a] ∧ Dp K H (.ref a) d ∧ Rp d ∧ Q (.str d.shown) H
end
end Ph

namespace Ph
open PySem PySem.Spec PyProof.Rows L2
/-! ### tuples of ints and states as data -/
theorem BL.dp {K : PySem.W.Frag} {H : Hp} : ∀ {xs : List V} {bs : List Bk}, BL H xs bs → DpAll K H xs (bs.map bD)
  | _, _, .nil => .nil
  | _, _, .cons ⟨t, e1, e2⟩ r => by
    rw [List.map_cons]
    refine .cons ?_ (BL.dp r)
    rw [e1]
    exact .tup (.inl (.inl e2)) (.cons (.int _) (.cons (.int _) .nil))
theorem StAt.dp {K : PySem.W.Frag} {H : Hp} {t : Addr} {bs : List Bk} (h : StAt H t bs) : Dp K H (.ref t) (.tuple (bs.map bD)) := by
  obtain ⟨xs, e, bl⟩ := h
  exact .tup (.inl (.inl e)) bl.dp
theorem BL.app {H : Hp} : ∀ {xs ys : List V} {bs cs : List Bk}, BL H xs bs → BL H ys cs → BL H (xs ++ ys) (bs ++ cs)
  | _, _, _, _, .nil, h => h
  | _, _, _, _, .cons h r, k => .cons h (BL.app r k)
theorem u64_of {A : Around} {k : Nat} (hr : Room k A) : A.units + 64 < cLine := by have := hr.un; omega
end Ph

namespace Ph
open PySem PySem.Spec PyProof.Rows L2
section
variable {P : Program} {w : World} {A : Around} {E : Value → Shared → Prop} {s : Shared}
end
section
variable {X : Cx}
def rSortedTI (K : PySem.W.Frag) : List V → Hp → VK → Prop := fun vs H Q => ∃ (a : Addr) (ns : List Int), vs = [V.ref a] ∧ SqT K H a (ns.map V.int) ∧ ∀ (ms : List Int) (p : Addr), ms.Perm ns → ms.Pairwise (· ≤ ·) → H p = none → Q (.ref p) (upd H p (.lst (ms.map V.int)))
end
end Ph

namespace Ph
open PySem PySem.Spec PyProof.Rows L2
/-! ### the end of a law whose promise asks for empty guards -/
section
variable {P : Program} {w : World} {K : PySem.W.Frag} {mg mb : Str → Option Value} {k : Nat} {fa a : Addr} {fd : FuncData} {x : Str} {sp : Sp} {s₁ : Shared} {vs : List Value} {ns : List Int}
abbrev LawEnd (s₁ : Shared) : Result → Shared → Prop := fun r s' => r = .ok (.ret (.bool true)) ∧ OldK s₁.heap s'.heap ∧ s'.os = s₁.os ∧ AllBare s'.gens
end
end Ph

namespace Ph
open PySem PySem.Spec PyProof.Rows L2
section
variable {X : Cx}
/-! ### powers of wide numbers; an item of a list or a tuple -/
def CPowW (i j : Int) : Prop := 0 ≤ j ∧ (Builtin.Int.intBits i : Int) * j ≤ 2 ^ 27
theorem op_powW : OpR X (binaryOp .Pow) (rI CPowW fun i j => .int (i ^ j.toNat)) := opI fun _ _ _ _ _ _ _ hc q => pow_int hc.1 hc.2 q
def rIxA (K : PySem.W.Frag) : V → V → Hp → VK → Prop := fun x y H Q => rIxL K x y H Q ∨ rIxT K x y H Q
theorem ix_any : IxR X (rIxA X.K) := by
  intro ea eb pins s σ H x y v u Q I rx ry h hs
  rcases h with h | h
  · exact ix_list ea eb pins s σ H x y v u Q I rx ry h hs
  · exact ix_tup ea eb pins s σ H x y v u Q I rx ry h hs
end
/-! ### draws: digits, a mixed number, a count -/
structure DrV (c : Nat) (g r n : Int) : Prop where
  g0 : 0 ≤ g
  g1 : g.natAbs < 2 ^ 3000
  r0 : 0 ≤ r
  r1 : r < 2305843009213693921
  n0 : 0 ≤ n
  n1 : n ≤ c
def Dr (c : Nat) (H : Hp) (p : Addr) : Prop := ∃ g r n : Int, H p = some (.lst [.int g, .int r, .int n]) ∧ DrV c g r n
def TAt (H : Hp) (c : Addr) (C : List Int) : Prop := H c = some (.tup (C.map V.int)) ∨ ChAt H c C
/-- a chain of p + 1 sizes, each one at least twice the one before, none above m -/
structure Cn (s : Nat → Nat) (p m : Nat) : Prop where
  ch : CH s (p + 1)
  two : ∀ i, i < p → ∃ r, 2 ≤ r ∧ r ≤ 1000 ∧ s (i + 1) = s i * r
  top : s p ≤ m
inductive Gnk (m : Int) : List Int → Int → Prop
  | one : Gnk m [1] 1
  | step {ns : List Int} {x r : Int} : Gnk m ns x → 2 ≤ r → r ≤ 1000 → x * r ≤ m → Gnk m (ns ++ [x * r]) (x * r)
section
variable {X : Cx}
def rSlJ : V → Option Int → Option Int → Hp → VK → Prop := fun x lo hi H Q => ∃ a C, x = .ref a ∧ TAt H a C ∧ ∀ q H' D, Same H H' → D.map V.int = cutV (C.map V.int) lo hi → TAt H' q D → Q (.ref q) H'
def rCatJ : V → V → Hp → VK → Prop := fun x y H Q => ∃ a b C D, x = .ref a ∧ y = .ref b ∧ TAt H a C ∧ TAt H b D ∧ C.length + D.length ≤ sizeLine ∧ ∀ q H', Same H H' → TAt H' q (C ++ D) → Q (.ref q) H'
end
end Ph

namespace Ph
open PySem PySem.Spec PyProof.Rows L2
/-! ### the third pot: digits, a mixed number, a count -/
structure PoV (g r n : Int) : Prop where
  g0 : 0 ≤ g
  g1 : g.natAbs < 2 ^ 3000
  r0 : 0 ≤ r
  r1 : r < 2305843009213693951
  n0 : 0 ≤ n
def Po (H : Hp) (p : Addr) : Prop := ∃ g r n : Int, H p = some (.lst [.int g, .int r, .int n]) ∧ PoV g r n
theorem Po.ne_none {H : Hp} {p q : Addr} (P : Po H p) (h : H q = none) : p ≠ q := by
  obtain ⟨g, r, n, e, v⟩ := P
  exact ne_of_none e h
theorem Po.nefrz {H : Hp} {p t : Addr} {ob : Obj} {u : HO} (P : Po H p) (e : H t = some (.frz ob u)) : t ≠ p := fun z => by
  obtain ⟨g, r, n, e0, _⟩ := P
  rw [z, e0] at e
  cases e
/-! ### max of a list of pairs of ints -/
section
variable {X : Cx}
def rMaxP (K : PySem.W.Frag) : List V → Hp → VK → Prop := fun vs H Q => ∃ (a : Addr) (xs : List V) (k : V → Int × Int), vs = [V.ref a] ∧ SqL K H a xs ∧ (∀ x ∈ xs, ∃ t, x = V.ref t ∧ H t = some (.tup [.int (k x).1, .int (k x).2])) ∧ 0 < xs.length ∧
  ∀ x ∈ xs, (∀ y ∈ xs, SrtO.lexB (k x) (k y) = false) → Q x H
end
end Ph

namespace Ph
open PySem PySem.Spec PyProof.Rows L2
/-! ### min of a list of pairs of ints -/
section
variable {X : Cx}
def rMinP (K : PySem.W.Frag) : List V → Hp → VK → Prop := fun vs H Q => ∃ (a : Addr) (xs : List V) (k : V → Int × Int), vs = [V.ref a] ∧ SqL K H a xs ∧ (∀ x ∈ xs, ∃ t, x = V.ref t ∧ H t = some (.tup [.int (k x).1, .int (k x).2])) ∧ 0 < xs.length ∧
  ∀ x ∈ xs, (∀ y ∈ xs, SrtO.lexB (k y) (k x) = false) → Q x H
/-! ### sorted of data of any kind that compare: the same items -/
theorem each_of {α : Type} {R : Value → α → Prop} : ∀ {vs : List Value} {bs : List α}, Paired (fun b v => R v b) bs vs → PySem.W.EachIs R vs bs
  | _, _, .nil => .nil
  | _, _, .cons h t => .cons h (each_of t)
theorem of_each {α : Type} {R : Value → α → Prop} : ∀ {vs : List Value} {bs : List α}, PySem.W.EachIs R vs bs → Paired (fun b v => R v b) bs vs
  | _, _, .nil => .nil
  | _, _, .cons h t => .cons h (of_each t)
def rSortedD (K : PySem.W.Frag) : List V → Hp → VK → Prop := fun vs H Q => ∃ (a : Addr) (xs : List V) (D : V → PyData), vs = [V.ref a] ∧ SqL K H a xs ∧ (∀ x ∈ xs, Dp K H x (D x)) ∧ PySem.W.AllAlike (xs.map D) ∧ PySem.W.Sortable (xs.map D) ∧ (∀ x ∈ xs, (D x).depth ≤ 40) ∧
  ∀ (ys : List V) (p : Addr), ys.Perm xs → ys = xs.mergeSort (PySem.W.dataLe false D) → H p = none → Q (.ref p) (upd H p (.lst ys))
/-! ### min of data of any kind that compare: one of the items -/
def rMinW (K : PySem.W.Frag) : List V → Hp → VK → Prop := fun vs H Q => ∃ (a : Addr) (xs : List V) (D : V → PyData), vs = [V.ref a] ∧ SqL K H a xs ∧ (∀ x ∈ xs, Dp K H x (D x)) ∧ PySem.W.AlikeAll (xs.map D) ∧ PyData.depthAll (xs.map D) ≤ 40 ∧ 0 < xs.length ∧ ∀ x ∈ xs, Q x H
end
end Ph

namespace Ph
open PySem PySem.Spec PyProof.Rows L2
end Ph

namespace Ph
open PySem PySem.Spec PyProof.Rows L2
/-! ### walks: zip of tuples and lists; comprehensions whose items are laid anew -/
theorem walk_zipK {k1 k2 : Bool} {K : PySem.W.Frag} {a b : Addr} {xs ys : List V} {n : Nat} (hn : n = min xs.length ys.length) : Walk (ItzK k1 k2 K a b) n (fun H => SqK k1 K H a xs ∧ SqK k2 K H b ys) (YPair (fun i => xs[i]?) (fun i => ys[i]?)) := by
  subst hn
  refine ⟨fun i _ hi q => ?_, fun _ q => ⟨xs, ys, q.1, q.2, by omega, by omega, by omega⟩, fun i H v H' _ q y => ?_⟩
  · have h1 : i < xs.length := by omega
    have h2 : i < ys.length := by omega
    exact ⟨xs, ys, xs[i], ys[i], q.1, q.2, by simp [h1], by simp [h2]⟩
  · obtain ⟨T, x, z, h1, h2, h3, h4, h5⟩ := y
    exact ⟨T, x, z, h1, h2, h3, h4 xs q.1, h5 ys q.2⟩
theorem YPair.same {xs ys : Nat → Option V} {i : Nat} {H H' : Hp} {v : V} (h : YPair xs ys i H v H') : Same H H' := by
  obtain ⟨T, x, y, _, nT, e, _⟩ := h
  rw [e]
  exact same_upd nT
theorem YAt.same {xs : List V} {i : Nat} {H H' : Hp} {v : V} (h : YAt xs i H v H') : Same H H' := by
  rw [h.1]; exact Same.refl _
theorem none_of_same {H H' : Hp} {D : Addr} (s : Same H H') (n : H' D = none) : H D = none := by
  cases e : H D with
  | none => rfl
  | some o => rw [s _ _ e] at n; cases n
abbrev KpT (H H' : Hp) : Prop := ∀ v zs, H v = some (.tup zs) → H' v = some (.tup zs)
/-- a comprehension with a test; R tells of each item that stays, by its turn -/
theorem lc_RF {J : It} {n : Nat} {G : Hp → Prop} {Y : Nat → Hp → V → Hp → Prop} (w : Walk J n G Y) (hY : ∀ i H x H', Y i H x H' → Same H H') {g : TG} {tt : TT} {te : TE} {vs : List Nat} {σ : L2.St} {H1 : Hp} {D : Addr} {Qd : Hp → Prop}
    (p : Nat → Bool) (R : Hp → Nat → V → Prop) (mono : ∀ H H' i y, KpT H H' → R H i y → R H' i y) (nD : H1 D = none) (hlen : n < sizeLine) (hG : ∀ H, Same H1 H → G H)
    (hs : ∀ i x H H', i < n → Same H1 H → Y i H x H' → ∀ (Z : V → Hp → Prop) (N : Hp → Prop), (∀ y H4, Same H' H4 → p i = true → R H4 i y → Z y H4) → (∀ H4, Same H' H4 → p i = false → N H4) →
      g x (wipe σ vs) H' fun σ2 H2 => wipe σ2 vs = wipe σ vs ∧ tt σ2 H2 fun b H3 => if b = true then te σ2 H3 Z else N H3)
    (hd : ∀ H ys, Same H1 H → H D = some (.lst ys) → Paired (R H) ((List.range n).filter p) ys → Qd H) :
    ∃ W : Nat → Nat → Hp → Prop, (∃ m, W 0 m (upd H1 D (.lst []))) ∧ ∀ i m H, W i m H →
      (J.stop i H ∧ Qd H) ∨ (J.go i H ∧ ∃ Nx : Hp → Prop, (∀ H', Nx H' → ∃ m', m' < m ∧ W (i + 1) m' H') ∧ ∀ x H', J.yld i H x H' → g x (wipe σ vs) H' fun σ2 H2 => wipe σ2 vs = wipe σ vs ∧ tt σ2 H2 fun b H3 =>
        if b = true then te σ2 H3 fun y H4 => ∃ acc, H4 D = some (.lst acc) ∧ acc.length < sizeLine ∧ Nx (upd H4 D (.lst (acc ++ [y]))) else Nx H3) := by
  refine lc_it w (fun i H => Same H1 H ∧ ∃ ys, H D = some (.lst ys) ∧ Paired (R H) ((List.range i).filter p) ys) ⟨same_upd nD, [], upd_same, .nil⟩ (fun i H _ q => hG H q.1) (fun i x H H' hi q y => ?_) (fun H q => ?_)
  · obtain ⟨sm, ys, hD, pr⟩ := q
    have s' := hY _ _ _ _ y
    have hlen2 : ys.length < sizeLine := by
      have h1 := pr.length
      have h2 := List.length_filter_le p (List.range i)
      rw [List.length_range] at h2
      omega
    refine hs i x H H' hi sm y _ _ (fun y H4 s4 pi r4 => ?_) (fun H4 s4 pi => ?_)
    · have hD4 := s4 _ _ (s' _ _ hD)
      have tk : KpT H4 (upd H4 D (.lst (ys ++ [y]))) := fun v zs e => by
        rw [upd_ne (ne_of e hD4 (by intro z; cases z))]
        exact e
      refine ⟨ys, hD4, hlen2, fun b o e => ?_, ys ++ [y], upd_same, ?_⟩
      · rw [upd_ne (ne_of_none e nD)]
        exact s4 _ _ (s' _ _ (sm _ _ e))
      · rw [List.range_succ, List.filter_append, List.filter_cons_of_pos (by simpa using pi)]
        exact Paired.snoc (paired_imp (fun a b h => mono _ _ _ _ (fun v zs e => tk v zs (s4 _ _ (s' _ _ e))) h) pr) (mono _ _ _ _ tk r4)
    · refine ⟨(sm.trans s').trans s4, ys, s4 _ _ (s' _ _ hD), ?_⟩
      rw [List.range_succ, List.filter_append, List.filter_cons_of_neg (by simp [pi]), List.filter_nil, List.append_nil]
      exact paired_imp (fun a b h => mono _ _ _ _ (fun v zs e => s4 _ _ (s' _ _ e)) h) pr
  · obtain ⟨sm, ys, hD, pr⟩ := q
    exact hd H ys sm hD pr
theorem lc_R {J : It} {n : Nat} {G : Hp → Prop} {Y : Nat → Hp → V → Hp → Prop} (w : Walk J n G Y) (hY : ∀ i H x H', Y i H x H' → Same H H') {g : TG} {te : TE} {vs : List Nat} {σ : L2.St} {H1 : Hp} {D : Addr} {Qd : Hp → Prop}
    (R : Hp → Nat → V → Prop) (mono : ∀ H H' i y, KpT H H' → R H i y → R H' i y) (nD : H1 D = none) (hlen : n < sizeLine) (hG : ∀ H, Same H1 H → G H)
    (hs : ∀ i x H H', i < n → Same H1 H → Y i H x H' → ∀ (Z : V → Hp → Prop), (∀ y H4, Same H' H4 → R H4 i y → Z y H4) →
      g x (wipe σ vs) H' fun σ2 H2 => wipe σ2 vs = wipe σ vs ∧ te σ2 H2 Z)
    (hd : ∀ H ys, Same H1 H → H D = some (.lst ys) → Paired (R H) (List.range n) ys → Qd H) :
    ∃ W : Nat → Nat → Hp → Prop, (∃ m, W 0 m (upd H1 D (.lst []))) ∧ ∀ i m H, W i m H →
      (J.stop i H ∧ Qd H) ∨ (J.go i H ∧ ∃ Nx : Hp → Prop, (∀ H', Nx H' → ∃ m', m' < m ∧ W (i + 1) m' H') ∧ ∀ x H', J.yld i H x H' → g x (wipe σ vs) H' fun σ2 H2 => wipe σ2 vs = wipe σ vs ∧ tYes σ2 H2 fun b H3 =>
        if b = true then te σ2 H3 fun y H4 => ∃ acc, H4 D = some (.lst acc) ∧ acc.length < sizeLine ∧ Nx (upd H4 D (.lst (acc ++ [y]))) else Nx H3) :=
  lc_RF w hY (fun _ => true) R mono nD hlen hG (fun i x H H' hi sm y Z N hZ hN => hs i x H H' hi sm y Z fun y H4 s4 r => hZ y H4 s4 rfl r)
    (fun H ys sm hD pr => hd H ys sm hD (by
      have e : (List.range n).filter (fun _ => true) = List.range n := List.filter_eq_self.mpr fun _ _ => rfl
      rw [e] at pr
      exact pr))
theorem Paired.get {α β : Type} {F : α → β → Prop} : ∀ {l : List α} {m : List β} {i : Nat} {a : α}, Paired F l m → l[i]? = some a → ∃ b, m[i]? = some b ∧ F a b
  | _, _, _, _, .nil, h => by simp at h
  | _, _, 0, _, .cons x _, h => by simp at h; subst h; exact ⟨_, rfl, x⟩
  | _, _, i + 1, _, .cons _ r, h => by
    obtain ⟨b, e, f⟩ := Paired.get (i := i) r (by simpa using h)
    exact ⟨b, by simpa using e, f⟩
theorem Paired.get2 {α β : Type} {F : α → β → Prop} : ∀ {l : List α} {m : List β} {i : Nat} {b : β}, Paired F l m → m[i]? = some b → ∃ a, l[i]? = some a ∧ F a b
  | _, _, _, _, .nil, h => by simp at h
  | _, _, 0, _, .cons x _, h => by simp at h; subst h; exact ⟨_, rfl, x⟩
  | _, _, i + 1, _, .cons _ r, h => by
    obtain ⟨b, e, f⟩ := Paired.get2 (i := i) r (by simpa using h)
    exact ⟨b, by simpa using e, f⟩
/-- the items are a function of the turn -/
theorem paired_eq {α β : Type} {f : α → β} : ∀ {l : List α} {m : List β}, Paired (fun a b => b = f a) l m → m = l.map f
  | _, _, .nil => rfl
  | _, _, .cons h r => by rw [h, paired_eq r]; rfl
/-- names of built-ins -/
structure Nm6 (K : PySem.W.Frag) (mg : Str → Option Value) : Prop where
  len : mg "len" = none
  abs : mg "abs" = none
  int : mg "int" = none
  range : mg "range" = none
  tuple : mg "tuple" = none
  max : mg "max" = none
  min : mg "min" = none
  repr : mg "repr" = none
  isinstance : mg "isinstance" = none
  bool : mg "bool" = none
  all : mg "all" = none
  any : mg "any" = none
  list : mg "list" = none
  dict : mg "dict" = none
  sorted : mg "sorted" = none
  set : mg "set" = none
  sum : mg "sum" = none
  zip : mg "zip" = none
  enumerate : mg "enumerate" = none
  reversed : mg "reversed" = none
  str : mg "str" = none
  dig : PySem.W.nsIn K cStatics "sys.int_max_str_digits" = some none
end Ph

namespace Ph
open PySem PySem.Spec PyProof.Rows L2
/-! ### loops that count up; any(ints) -/
section
variable {X : Cx}
def rAnyI (K : PySem.W.Frag) : List V → Hp → VK → Prop := fun vs H Q => ∃ (a : Addr) (ns : List Int), vs = [V.ref a] ∧ SqL K H a (ns.map V.int) ∧ Q (.bl ((List.range ns.length).any fun i => (ns.getD i 0 != 0))) H
end
end Ph

namespace Ph
open PySem PySem.Spec PyProof.Rows L2
section
variable {X : Cx}
/-! ### sum of a tuple of ints -/
def rSumT (K : PySem.W.Frag) : List V → Hp → VK → Prop := fun vs H Q => ∃ (a : Addr) (ns : List Int), vs = [V.ref a] ∧ SqT K H a (ns.map V.int) ∧ Q (.int ns.sum) H
end
end Ph

namespace Ph
open PySem PySem.Spec PyProof.Rows L2
section
variable {P : Program} {w : World} {A : Around} {E : Value → Shared → Prop} {s : Shared}
end
section
variable {X : Cx}
def rSortedPT (K : PySem.W.Frag) : List V → Hp → VK → Prop := fun vs H Q => ∃ (a : Addr) (xs : List V) (k : V → Int × Int), vs = [V.ref a] ∧ SqT K H a xs ∧ (∀ x ∈ xs, ∃ t, x = V.ref t ∧ H t = some (.tup [.int (k x).1, .int (k x).2])) ∧
  ∀ ys p, SrtO.Srtd (ltP k) ys → SrtO.Stb (ltP k) ys xs → H p = none → Q (.ref p) (upd H p (.lst ys))
end
end Ph

namespace Ph
open PySem PySem.Spec PyProof.Rows L2
section
variable {P : Program} {w : World} {A : Around} {E : Value → Shared → Prop} {s : Shared} {T : String} {r d : Addr} {n : Nat} {Pv : Nat → Value → Prop} {OK : Heap → Prop}
end
section
variable {X : Cx} {o : Expr} {p pos apos mpos : Pos} {td : TE}
/-- tuple(d.values()) -/
def tTupVals (td : TE) : TE := fun σ H Q => td σ H fun x H1 => ∃ a kvs, x = V.ref a ∧ H1 a = some (.dK kvs) ∧ ∀ q, H1 q = none → Q (.ref q) (upd H1 q (.tup (kvs.map (·.2))))
end
end Ph

namespace Ph
open PySem PySem.Spec PyProof.Rows L2
theorem BL.get {H : Hp} : ∀ {xs : List V} {bs : List (Int × Int)} {i : Nat} {x : V}, BL H xs bs → xs[i]? = some x → ∃ b, bs[i]? = some b ∧ BkAt H x b
  | _, _, _, _, .nil, h => by simp at h
  | _, _, 0, _, .cons hb r, h => by
    have e := Option.some.inj h
    rw [← e]
    exact ⟨_, rfl, hb⟩
  | _ :: l1, _ :: l2, i + 1, x, .cons hb r, h => by
    have h' : l1[i]? = some x := h
    obtain ⟨b, e1, e2⟩ := BL.get (H := H) (xs := l1) (bs := l2) r h'
    exact ⟨b, e1, e2⟩
def ent (s : Int) (E : List Bk) (ys : List V) : List (Key × V) := List.zipWith (fun b y => (Sum.inl (b.1 / s), y)) E ys
section
variable {X : Cx} {o : Expr} {p pos apos mpos : Pos} {td : TE}
/-- list(d.values()) -/
def tLstVals (td : TE) : TE := fun σ H Q => td σ H fun x H1 => ∃ a kvs, x = V.ref a ∧ H1 a = some (.dK kvs) ∧ ∀ q, H1 q = none → Q (.ref q) (upd H1 q (.lst (kvs.map (·.2))))

end
end Ph

namespace Ph
open PySem PySem.Spec PyProof.Rows L2
theorem BL.kp {H H' : Hp} {xs : List V} {bs : List Bk} (h : BL H xs bs) (kp : KpT H H') : BL H' xs bs := BL.mono kp h
theorem perm_lex {l m : List Bk} (p : l.Perm m) (h1 : l.Pairwise fun x y => SrtO.lexB y x = false) (h2 : m.Pairwise fun x y => SrtO.lexB y x = false) : l = m :=
  p.eq_of_pairwise (fun a b _ _ x y => by
    have h3 := SrtO.lexB_no.mp x
    have h4 := SrtO.lexB_no.mp y
    exact Prod.ext (by omega) (by omega)) h1 h2
/-- blocks at 0, t, 2 t ..; the k-th has f k words -/
def bkl (t : Nat) (f : Nat → Nat) (n : Nat) : List Bk := (List.range n).map fun k => (((k * t : Nat) : Int), ((f k : Nat) : Int))
section
variable {X : Cx}
def rSetJ (K : PySem.W.Frag) (w : World) : List V → Hp → VK → Prop := fun vs H Q => ∃ (l : Addr) (ns : List Int), vs = [V.ref l] ∧ SqL K H l (ns.map V.int) ∧ ns.length + 1 < scanBound ∧ ∀ H' a c, Same H H' → H' a = some (SetO w a (fun j => decide (j ∈ ns)) c) → (ns.Nodup → c = ns.length) → Q (.ref a) H'
end
theorem paired_mapL {α β γ : Type} {F : γ → β → Prop} {f : α → β} : ∀ {l : List α} {m : List γ}, Paired (fun a c => F c (f a)) l m → Paired F m (l.map f)
  | _, _, .nil => .nil
  | _, _, .cons h r => .cons h (paired_mapL r)
theorem inc_ext : ∀ {l m : List Int}, l.Pairwise (· < ·) → m.Pairwise (· < ·) → (∀ k, k ∈ l ↔ k ∈ m) → l = m
  | [], [], _, _, _ => rfl
  | [], y :: m, _, _, h => by have := (h y).mpr (List.mem_cons_self ..); cases this
  | x :: l, [], _, _, h => by have := (h x).mp (List.mem_cons_self ..); cases this
  | x :: l, y :: m, hl, hm, h => by
    obtain ⟨l1, l2⟩ := List.pairwise_cons.mp hl
    obtain ⟨m1, m2⟩ := List.pairwise_cons.mp hm
    have e : x = y := by
      have a := List.mem_cons.mp ((h x).mp (List.mem_cons_self ..))
      have b := List.mem_cons.mp ((h y).mpr (List.mem_cons_self ..))
      rcases a with a | a
      · exact a
      · rcases b with b | b
        · exact b.symm
        · have := m1 x a
          have := l1 y b
          omega
    subst e
    rw [inc_ext l2 m2 fun k => ?_]
    constructor
    · intro hk
      have := l1 k hk
      rcases List.mem_cons.mp ((h k).mp (List.mem_cons_of_mem _ hk)) with z | z
      · omega
      · exact z
    · intro hk
      have := m1 k hk
      rcases List.mem_cons.mp ((h k).mpr (List.mem_cons_of_mem _ hk)) with z | z
      · omega
      · exact z
end Ph

namespace Ph
open PySem PySem.Spec PyProof.Rows L2
/-! ### ranges with a step -/
def upS (x s : Int) : Int := -(-x / s) * s
theorem upS_ge {x s : Int} (hs : 0 < s) : x ≤ upS x s := by
  unfold upS
  have := Int.ediv_mul_le (-x) (b := s) (by omega)
  rw [Int.neg_mul]
  omega
theorem upS_lt {x s : Int} (hs : 0 < s) : upS x s < x + s := by
  unfold upS
  have := Int.lt_ediv_add_one_mul_self (-x) hs
  rw [Int.add_mul, Int.one_mul] at this
  rw [Int.neg_mul]
  omega
theorem upS_mod {x s : Int} : upS x s % s = 0 := by
  unfold upS
  exact Int.mul_emod_left _ _
/-- how many numbers a range gives -/
def rgN (i j c : Int) : Nat := (Builtin.Range.rangeSize i j c).toNat
theorem rgN_nonneg {i j c : Int} (hc : 0 < c) : 0 ≤ Builtin.Range.rangeSize i j c := by
  unfold Builtin.Range.rangeSize
  rw [if_pos hc]
  split
  · have : 0 ≤ (j - i - 1) / c := Int.ediv_nonneg (by omega) (by omega)
    omega
  · exact Int.le_refl _
theorem rgN_le {i j c : Int} (hc : 0 < c) : rgN i j c ≤ (j - i).toNat := by
  unfold rgN Builtin.Range.rangeSize
  rw [if_pos hc]
  split
  · have : (j - i - 1) / c ≤ j - i - 1 := Int.ediv_le_self _ (by omega)
    omega
  · simp
theorem rg3_inc {i c : Int} (hc : 0 < c) (n : Nat) : (rg3 i c n).Pairwise (· < ·) := by
  unfold rg3
  rw [List.pairwise_map]
  refine List.pairwise_lt_range.imp fun {a b} h => ?_
  have : (a : Int) * c < b * c := Int.mul_lt_mul_of_pos_right (by omega) hc
  omega
theorem mem_rg3 {i j c k : Int} (hc : 0 < c) : k ∈ rg3 i c (rgN i j c) ↔ i ≤ k ∧ k < j ∧ (k - i) % c = 0 := by
  have hn := rgN_nonneg (i := i) (j := j) hc
  unfold rg3
  rw [List.mem_map]
  constructor
  · rintro ⟨t, ht, rfl⟩
    have ht := List.mem_range.mp ht
    have t0 : 0 ≤ (t : Int) * c := Int.mul_nonneg (by omega) (by omega)
    have hl : (t : Int) < Builtin.Range.rangeSize i j c := by unfold rgN at ht; omega
    unfold Builtin.Range.rangeSize at hl
    rw [if_pos hc] at hl
    refine ⟨by omega, ?_, ?_⟩
    · split at hl
      · have h1 : (t : Int) * c ≤ (j - i - 1) / c * c := Int.mul_le_mul_of_nonneg_right (by omega) (by omega)
        have h2 := Int.ediv_mul_le (j - i - 1) (b := c) (by omega)
        omega
      · omega
    · rw [show i + (t : Int) * c - i = t * c by omega]
      exact Int.mul_emod_left _ _
  · rintro ⟨h1, h2, h3⟩
    obtain ⟨t, ht⟩ := Int.dvd_of_emod_eq_zero h3
    have t0 : 0 ≤ t := by
      by_cases z : 0 ≤ t
      · exact z
      · have : c * t < 0 := Int.mul_neg_of_pos_of_neg hc (by omega)
        omega
    refine ⟨t.toNat, List.mem_range.mpr ?_, ?_⟩
    · have hl : t < Builtin.Range.rangeSize i j c := by
        unfold Builtin.Range.rangeSize
        rw [if_pos hc, if_pos (by omega)]
        have : t ≤ (j - i - 1) / c := by
          rw [Int.le_ediv_iff_mul_le hc]
          rw [Int.mul_comm]
          omega
        omega
      unfold rgN
      omega
    · rw [Int.toNat_of_nonneg t0, Int.mul_comm]
      omega
theorem inc_append {l m : List Int} (hl : l.Pairwise (· < ·)) (hm : m.Pairwise (· < ·)) (h : ∀ a ∈ l, ∀ b ∈ m, a < b) : (l ++ m).Pairwise (· < ·) := List.pairwise_append.mpr ⟨hl, hm, h⟩
/-! ### places -/
def plf (s : Int) : Int → List Bk → List Int
  | _, [] => []
  | ff, b :: r => rg3 (upS ff s) s (rgN (upS ff s) (b.1 - s + 1) s) ++ plf s (b.1 + b.2) r
def free (s : Int) (bs : List Bk) (W k : Int) : Prop := k % s = 0 ∧ 0 ≤ k ∧ k + s ≤ W ∧ ∀ b ∈ bs, k + s ≤ b.1 ∨ b.1 + b.2 ≤ k
theorem up_mod {s ff k : Int} (hs : 0 < s) : upS ff s ≤ k ∧ (k - upS ff s) % s = 0 ↔ ff ≤ k ∧ k % s = 0 := by
  have h1 := upS_ge (x := ff) hs
  have h2 := upS_lt (x := ff) hs
  have h3 := upS_mod (x := ff) (s := s)
  obtain ⟨q, hq⟩ := Int.dvd_of_emod_eq_zero h3
  constructor
  · rintro ⟨a, b⟩
    refine ⟨by omega, ?_⟩
    obtain ⟨r, hr⟩ := Int.dvd_of_emod_eq_zero b
    have : k = s * (q + r) := by rw [Int.mul_add]; omega
    rw [this]
    exact Int.mul_emod_right _ _
  · rintro ⟨a, b⟩
    obtain ⟨r, hr⟩ := Int.dvd_of_emod_eq_zero b
    have e : k - upS ff s = s * (r - q) := by rw [Int.mul_sub]; omega
    refine ⟨?_, by rw [e]; exact Int.mul_emod_right _ _⟩
    by_cases z : upS ff s ≤ k
    · exact z
    · exfalso
      have : r - q < 0 := by
        by_cases z2 : r - q < 0
        · exact z2
        · have : 0 ≤ s * (r - q) := Int.mul_nonneg (by omega) (by omega)
          omega
      have h5 : s * (r - q) ≤ s * (-1) := Int.mul_le_mul_of_nonneg_left (by omega) (by omega)
      omega
theorem plf_mem {s W : Int} (hs : 0 < s) : ∀ (bs : List Bk) (ff : Int), (∀ b ∈ bs, ff ≤ b.1 ∧ 1 ≤ b.2 ∧ b.1 + b.2 ≤ W) → bs.Pairwise (fun b c => b.1 + b.2 ≤ c.1) → ff ≤ W → ∀ k, k ∈ plf s ff (bs ++ [(W, 0)]) ↔ k % s = 0 ∧ ff ≤ k ∧ k + s ≤ W ∧ ∀ b ∈ bs, k + s ≤ b.1 ∨ b.1 + b.2 ≤ k
  | [], ff, _, _, _, k => by
    show k ∈ rg3 (upS ff s) s (rgN (upS ff s) (W - s + 1) s) ++ [] ↔ _
    rw [List.append_nil, mem_rg3 hs]
    have h := up_mod (ff := ff) (k := k) hs
    constructor
    · rintro ⟨a, b, c⟩
      obtain ⟨d, e⟩ := h.mp ⟨a, c⟩
      exact ⟨e, d, by omega, fun b hb => by cases hb⟩
    · rintro ⟨a, b, c, _⟩
      obtain ⟨d, e⟩ := h.mpr ⟨b, a⟩
      exact ⟨d, by omega, e⟩
  | b :: r, ff, hb, hp, hW, k => by
    obtain ⟨p1, p2⟩ := List.pairwise_cons.mp hp
    obtain ⟨b1, b2, b3⟩ := hb b (List.mem_cons_self ..)
    have ih := plf_mem hs r (b.1 + b.2) (fun c hc => ⟨p1 c hc, (hb c (List.mem_cons_of_mem _ hc)).2⟩) p2 b3 k
    show k ∈ rg3 (upS ff s) s (rgN (upS ff s) (b.1 - s + 1) s) ++ plf s (b.1 + b.2) (r ++ [(W, 0)]) ↔ _
    rw [List.mem_append, mem_rg3 hs, ih]
    have h := up_mod (ff := ff) (k := k) hs
    constructor
    · rintro (⟨a, c, d⟩ | ⟨a, c, d, e⟩)
      · obtain ⟨f, g⟩ := h.mp ⟨a, d⟩
        refine ⟨g, f, by omega, fun x hx => ?_⟩
        rcases List.mem_cons.mp hx with z | z
        · rw [z]; left; omega
        · have := p1 x z
          left; omega
      · refine ⟨a, by omega, d, fun x hx => ?_⟩
        rcases List.mem_cons.mp hx with z | z
        · rw [z]; right; exact c
        · exact e x z
    · rintro ⟨a, c, d, e⟩
      rcases e b (List.mem_cons_self ..) with z | z
      · obtain ⟨f, g⟩ := h.mpr ⟨c, a⟩
        exact .inl ⟨f, by omega, g⟩
      · exact .inr ⟨a, z, d, fun x hx => e x (List.mem_cons_of_mem _ hx)⟩
theorem plf_inc {s W : Int} (hs : 0 < s) : ∀ (bs : List Bk) (ff : Int), (∀ b ∈ bs, ff ≤ b.1 ∧ 1 ≤ b.2 ∧ b.1 + b.2 ≤ W) → bs.Pairwise (fun b c => b.1 + b.2 ≤ c.1) → ff ≤ W → (plf s ff (bs ++ [(W, 0)])).Pairwise (· < ·)
  | [], ff, _, _, _ => by
    show (rg3 (upS ff s) s (rgN (upS ff s) (W - s + 1) s) ++ []).Pairwise (· < ·)
    rw [List.append_nil]
    exact rg3_inc hs _
  | b :: r, ff, hb, hp, hW => by
    obtain ⟨p1, p2⟩ := List.pairwise_cons.mp hp
    obtain ⟨b1, b2, b3⟩ := hb b (List.mem_cons_self ..)
    have hb' : ∀ c ∈ r, b.1 + b.2 ≤ c.1 ∧ 1 ≤ c.2 ∧ c.1 + c.2 ≤ W := fun c hc => ⟨p1 c hc, (hb c (List.mem_cons_of_mem _ hc)).2⟩
    refine inc_append (rg3_inc hs _) (plf_inc hs r (b.1 + b.2) hb' p2 b3) fun x hx y hy => ?_
    have h1 := ((mem_rg3 hs).mp hx).2.1
    have h2 := ((plf_mem hs r (b.1 + b.2) hb' p2 b3 y).mp hy).2.1
    omega
theorem St.bnd {C : List Int} {W : Int} {bs : List Bk} (st : St C W bs) : ∀ b ∈ bs, 0 ≤ b.1 ∧ 1 ≤ b.2 ∧ b.1 + b.2 ≤ W := fun b hb => let ⟨_, h1, h2, _, h3⟩ := st.ok b hb; ⟨h2, h1, h3⟩
/-! ### a state behind another one -/
def fin : Int → List Bk → Int
  | ff, [] => ff
  | _, b :: r => fin (b.1 + b.2) r
theorem fin_snoc : ∀ (l : List Bk) (ff : Int) (b : Bk), fin ff (l ++ [b]) = b.1 + b.2
  | [], _, _ => rfl
  | _ :: r, _, b => fin_snoc r _ b
theorem rg3_len (i c : Int) (n : Nat) : (rg3 i c n).length = n := by unfold rg3; simp
theorem plf_len {s : Int} (hs : 0 < s) : ∀ (l : List Bk) (ff e : Int), (∀ b ∈ l, ff ≤ b.1 ∧ 0 ≤ b.2 ∧ b.1 + b.2 ≤ e) → l.Pairwise (fun b c => b.1 + b.2 ≤ c.1) → ff ≤ e → (plf s ff l).length ≤ (e - ff).toNat
  | [], ff, e, _, _, _ => by show 0 ≤ _; omega
  | b :: r, ff, e, hb, hp, he => by
    obtain ⟨p1, p2⟩ := List.pairwise_cons.mp hp
    obtain ⟨b1, b2, b3⟩ := hb b (List.mem_cons_self ..)
    have ih := plf_len hs r (b.1 + b.2) e (fun c hc => ⟨p1 c hc, (hb c (List.mem_cons_of_mem _ hc)).2⟩) p2 b3
    show (rg3 _ _ _ ++ plf s (b.1 + b.2) r).length ≤ _
    rw [List.length_append, rg3_len]
    have h1 := rgN_le (i := upS ff s) (j := b.1 - s + 1) hs
    have h2 := upS_ge (x := ff) hs
    omega
theorem fin_bnd : ∀ (l : List Bk) (ff e : Int), (∀ b ∈ l, ff ≤ b.1 ∧ 0 ≤ b.2 ∧ b.1 + b.2 ≤ e) → ff ≤ e → l.Pairwise (fun b c => b.1 + b.2 ≤ c.1) → ff ≤ fin ff l ∧ fin ff l ≤ e
  | [], ff, e, _, he, _ => ⟨Int.le_refl _, he⟩
  | b :: r, ff, e, hb, he, hp => by
    obtain ⟨p1, p2⟩ := List.pairwise_cons.mp hp
    obtain ⟨b1, b2, b3⟩ := hb b (List.mem_cons_self ..)
    have ih := fin_bnd r (b.1 + b.2) e (fun c hc => ⟨p1 c hc, (hb c (List.mem_cons_of_mem _ hc)).2⟩) b3 p2
    show ff ≤ fin (b.1 + b.2) r ∧ _
    exact ⟨by omega, ih.2⟩
theorem RgC.up {i j c : Int} (hc : 0 < c) (hc2 : c < 1073741824) (hi : -(2 ^ 61) ≤ i ∧ i < 2 ^ 61) (hj : -(2 ^ 61) ≤ j ∧ j < 2 ^ 61) : RgC i j c (rgN i j c) := by
  have h1 := rgN_le (i := i) (j := j) hc
  have h0 := rgN_nonneg (i := i) (j := j) hc
  have h2 : Builtin.Range.rangeSize i j c = ((rgN i j c : Nat) : Int) := by unfold rgN; omega
  refine ⟨by omega, by omega, ?_, h2⟩
  unfold Builtin.Range.small
  rw [h2]
  simp only [Builtin.Range.rangeFitsLong, Bool.and_eq_true, Bool.or_eq_true, decide_eq_true_eq, beq_iff_eq, if_pos hc]
  omega
theorem St.asc0 {C : List Int} {W : Int} {bs : List Bk} (st : St C W bs) (h0 : 0 ≤ W) : (∀ b ∈ bs ++ [(W, 0)], 0 ≤ b.1 ∧ 0 ≤ b.2 ∧ b.1 + b.2 ≤ W) ∧ (bs ++ [(W, 0)]).Pairwise (fun b c : Bk => b.1 + b.2 ≤ c.1) := by
  refine ⟨fun b hb => ?_, List.pairwise_append.mpr ⟨st.asc, by simp, fun b hb c hc => ?_⟩⟩
  · rcases List.mem_append.mp hb with z | z
    · have := st.bnd b z
      omega
    · rw [List.mem_singleton.mp z]
      dsimp only
      omega
  · rw [List.mem_singleton.mp hc]
    exact (st.bnd b hb).2.2
theorem plf_gap {s x : Int} (hs : 0 < s) (ff a : Int) : rg3 (upS ff s) s (rgN (upS ff s) (a - s + 1) s) = if upS ff s ≤ (a - s) / s * s then rg3 (upS ff s) s (rgN (upS ff s) ((a - s) / s * s + 1) s) else [] := by
  have key : ∀ k, k % s = 0 → (k ≤ a - s ↔ k ≤ (a - s) / s * s) := fun k hk => by
    have e : k = k / s * s := by
      have := Int.mul_ediv_add_emod k s
      rw [hk, Int.mul_comm] at this
      omega
    constructor
    · intro h
      have h1 : k / s ≤ (a - s) / s := Int.ediv_le_ediv hs h
      have := Int.mul_le_mul_of_nonneg_right h1 (Int.le_of_lt hs)
      omega
    · intro h
      have := Int.ediv_mul_le (a - s) (b := s) (by omega)
      omega
  have um : upS ff s % s = 0 := upS_mod
  have mm : ∀ k, (k - upS ff s) % s = 0 → k % s = 0 := fun k h => by
    have e : k = (k - upS ff s) + upS ff s := by omega
    rw [e, Int.add_emod, h, um]
    simp
  split
  · refine inc_ext (rg3_inc hs _) (rg3_inc hs _) fun k => ?_
    rw [mem_rg3 hs, mem_rg3 hs]
    constructor
    · rintro ⟨h1, h2, h3⟩
      have := (key k (mm k h3)).mp (by omega)
      exact ⟨h1, by omega, h3⟩
    · rintro ⟨h1, h2, h3⟩
      have := (key k (mm k h3)).mpr (by omega)
      exact ⟨h1, by omega, h3⟩
  · rename_i h
    cases e : rg3 (upS ff s) s (rgN (upS ff s) (a - s + 1) s) with
    | nil => rfl
    | cons k r =>
      have hk : k ∈ rg3 (upS ff s) s (rgN (upS ff s) (a - s + 1) s) := by rw [e]; exact List.mem_cons_self ..
      rw [mem_rg3 hs] at hk
      have := (key (upS ff s) um).mp (by omega)
      omega
def gp1 (s ff : Int) (b : Bk) : List Bk := if upS ff s ≤ (b.1 - s) / s * s then [(upS ff s, (b.1 - s) / s * s)] else []
def gpf (s : Int) : Int → List Bk → List Bk
  | _, [] => []
  | ff, b :: r => gp1 s ff b ++ gpf s (b.1 + b.2) r
theorem gpf_snoc (s : Int) : ∀ (l : List Bk) (ff : Int) (b : Bk), gpf s ff (l ++ [b]) = gpf s ff l ++ gp1 s (fin ff l) b
  | [], ff, b => by show gp1 s ff b ++ [] = [] ++ _; rw [List.append_nil]; rfl
  | c :: r, ff, b => by
    show gp1 s ff c ++ gpf s (c.1 + c.2) (r ++ [b]) = gp1 s ff c ++ gpf s (c.1 + c.2) r ++ _
    rw [gpf_snoc s r, List.append_assoc]
    rfl
def gpr (s : Int) (g : Bk) : List Int := rg3 g.1 s (rgN g.1 (g.2 + 1) s)
theorem plf_gpf {s : Int} (hs : 0 < s) : ∀ (l : List Bk) (ff : Int), plf s ff l = (gpf s ff l).flatMap (gpr s)
  | [], _ => rfl
  | b :: r, ff => by
    show rg3 (upS ff s) s (rgN (upS ff s) (b.1 - s + 1) s) ++ plf s (b.1 + b.2) r = (gp1 s ff b ++ gpf s (b.1 + b.2) r).flatMap (gpr s)
    rw [plf_gpf hs r, plf_gap (x := 0) hs, List.flatMap_append]
    congr 1
    unfold gp1
    split
    · rw [List.flatMap_cons, List.flatMap_nil, List.append_nil]
      rfl
    · rfl
theorem gpf_bnd {s W : Int} (hs : 0 < s) : ∀ (l : List Bk) (ff : Int), (∀ b ∈ l, 0 ≤ b.1 ∧ 0 ≤ b.2 ∧ b.1 + b.2 ≤ W) → 0 ≤ ff → ∀ g ∈ gpf s ff l, 0 ≤ g.1 ∧ g.1 ≤ g.2 ∧ g.2 ≤ W
  | [], _, _, _, g, hg => by cases hg
  | b :: r, ff, h, hf, g, hg => by
    obtain ⟨b1, b2, b3⟩ := h b (List.mem_cons_self ..)
    rcases List.mem_append.mp hg with z | z
    · unfold gp1 at z
      split at z
      · rename_i c
        rw [List.mem_singleton.mp z]
        have := upS_ge (x := ff) hs
        have := Int.ediv_mul_le (b.1 - s) (b := s) (by omega)
        exact ⟨by show 0 ≤ upS ff s; omega, c, by show (b.1 - s) / s * s ≤ W; omega⟩
      · cases z
    · exact gpf_bnd hs r (b.1 + b.2) (fun c hc => h c (List.mem_cons_of_mem _ hc)) (by omega) g z
theorem gpf_len (s : Int) : ∀ (l : List Bk) (ff : Int), (gpf s ff l).length ≤ l.length
  | [], _ => Nat.le_refl _
  | b :: r, ff => by
    show (gp1 s ff b ++ _).length ≤ _
    have h1 := gpf_len s r (b.1 + b.2)
    have h2 : (gp1 s ff b).length ≤ 1 := by unfold gp1; split <;> simp
    rw [List.length_append, List.length_cons]
    omega
end Ph

namespace Ph
open PySem PySem.Spec PyProof.Rows L2
/-! ### the lowest place: guarantees (a) and (c) -/
theorem sm_addR (f : Nat → Nat) (a : Nat) : ∀ c, sm f (a + c) = sm f a + sm (fun x => f (a + x)) c
  | 0 => rfl
  | c + 1 => by
    show sm f (a + c) + f (a + c) = sm f a + (sm (fun x => f (a + x)) c + f (a + c))
    rw [sm_addR f a c]
    omega
theorem sm_chunks (f : Nat → Nat) (S : Nat) : ∀ n, sm f (n * S) = sm (fun k => sm (fun x => f (k * S + x)) S) n
  | 0 => by rw [Nat.zero_mul]; rfl
  | n + 1 => by
    rw [Nat.add_mul, Nat.one_mul, sm_addR, sm_chunks f S n]
    rfl
theorem sm_plus (f g : Nat → Nat) : ∀ n, sm (fun x => f x + g x) n = sm f n + sm g n
  | 0 => rfl
  | n + 1 => by
    show sm (fun x => f x + g x) n + (f n + g n) = sm f n + f n + (sm g n + g n)
    rw [sm_plus f g n]
    omega
def ind (a l x : Nat) : Nat := if a ≤ x ∧ x < a + l then 1 else 0
theorem sm_ind (a l : Nat) : ∀ n, sm (ind a l) n = min n (a + l) - min n a
  | 0 => by show 0 = _; omega
  | n + 1 => by
    show sm (ind a l) n + ind a l n = _
    rw [sm_ind a l n]
    unfold ind
    split <;> omega
def ocB (b : Bk) (x : Nat) : Nat := ind b.1.toNat b.2.toNat x
def occ (bs : List Bk) (x : Nat) : Nat := if bs.any (fun b => decide (ocB b x = 1)) = true then 1 else 0
theorem ocB_le (b : Bk) (x : Nat) : ocB b x ≤ 1 := by unfold ocB ind; split <;> omega
theorem occ_cons (b : Bk) (r : List Bk) (x : Nat) : occ (b :: r) x ≤ ocB b x + occ r x := by
  unfold occ
  rw [List.any_cons]
  have := ocB_le b x
  by_cases h : ocB b x = 1
  · rw [h]; split <;> split <;> omega
  · have e : decide (ocB b x = 1) = false := decide_eq_false h
    rw [e, Bool.false_or]
    omega
theorem occ_ge {b : Bk} {bs : List Bk} (h : b ∈ bs) (x : Nat) : ocB b x ≤ occ bs x := by
  unfold occ
  by_cases e : ocB b x = 1
  · rw [if_pos (List.any_eq_true.mpr ⟨b, h, decide_eq_true e⟩)]
    omega
  · have := ocB_le b x
    omega
def totN (bs : List Bk) : Nat := (bs.map fun b => b.2.toNat).sum
theorem occ_sum (N : Nat) : ∀ bs : List Bk, sm (occ bs) N ≤ totN bs
  | [] => by
    have : sm (occ []) N ≤ sm (fun _ => 0) N := sm_le fun k _ => by unfold occ; simp
    have z : ∀ n, sm (fun _ => 0) n = 0 := fun n => by
      induction n with
      | zero => rfl
      | succ n ih => show sm (fun _ => 0) n + 0 = 0; omega
    rw [z] at this
    exact Nat.le_trans this (Nat.zero_le _)
  | b :: r => by
    have h1 : sm (occ (b :: r)) N ≤ sm (fun x => ocB b x + occ r x) N := sm_le fun k _ => occ_cons b r k
    rw [sm_plus] at h1
    have h2 := occ_sum N r
    have h3 : sm (ocB b) N ≤ b.2.toNat := by
      show sm (ind b.1.toNat b.2.toNat) N ≤ _
      rw [sm_ind]
      omega
    unfold totN at *
    rw [List.map_cons, List.sum_cons]
    omega
/-- blocks of a chain, at their multiples -/
def Bok (s : Nat → Nat) (p : Nat) (bs : List Bk) : Prop := ∀ b ∈ bs, ∃ (a j : Nat), j ≤ p ∧ b = (((a * s j : Nat) : Int), ((s j : Nat) : Int))
/-- a chunk with a block has at least as many words as the block, or all -/
theorem chunk_ge {s : Nat → Nat} {p i j k a : Nat} {bs : List Bk} (c : CH s (p + 1)) (hi : i ≤ p) (hj : j ≤ p) (hb : (((a * s j : Nat) : Int), ((s j : Nat) : Int)) ∈ bs) (o1 : a * s j < (k + 1) * s i) (o2 : k * s i < a * s j + s j) :
    (j ≤ i ∧ k * s i ≤ a * s j ∧ s j ≤ sm (fun x => occ bs (k * s i + x)) (s i)) ∨ (i ≤ j ∧ s i ≤ sm (fun x => occ bs (k * s i + x)) (s i)) := by
  have pi := c.pos (i := i) (by omega)
  have pj := c.pos (i := j) (by omega)
  have low : sm (fun x => ind (a * s j) (s j) (k * s i + x)) (s i) ≤ sm (fun x => occ bs (k * s i + x)) (s i) := sm_le fun x _ => by
    have := occ_ge hb (k * s i + x)
    unfold ocB at this
    simp only [Int.toNat_natCast] at this
    exact this
  have val : sm (fun x => ind (a * s j) (s j) (k * s i + x)) (s i) = (min (k * s i + s i) (a * s j + s j) - min (k * s i + s i) (a * s j)) - (min (k * s i) (a * s j + s j) - min (k * s i) (a * s j)) := by
    have h := sm_addR (ind (a * s j) (s j)) (k * s i) (s i)
    rw [sm_ind, sm_ind] at h
    omega
  rw [val] at low
  rw [Nat.add_mul, Nat.one_mul] at o1
  rcases Nat.le_total j i with h | h
  · obtain ⟨r, r1, er⟩ := c.dvd h (by omega)
    left
    have e1 : k * s i = k * r * s j := by rw [er, Nat.mul_comm (s j) r, Nat.mul_assoc]
    have e2 : k * s i + s i = (k * r + r) * s j := by rw [Nat.add_mul, ← e1, er, Nat.mul_comm (s j) r]
    have l1 : k * r ≤ a := by
      rw [e1] at o2
      have : k * r * s j < (a + 1) * s j := by rw [Nat.add_mul, Nat.one_mul]; exact o2
      exact Nat.le_of_lt_succ (Nat.lt_of_mul_lt_mul_right this)
    have l2 : a + 1 ≤ k * r + r := by
      rw [e2] at o1
      exact Nat.lt_of_mul_lt_mul_right o1
    have m1 : k * s i ≤ a * s j := by rw [e1]; exact Nat.mul_le_mul_right _ l1
    have m2 : a * s j + s j ≤ k * s i + s i := by
      rw [e2]
      have := Nat.mul_le_mul_right (s j) l2
      rw [Nat.add_mul, Nat.one_mul] at this
      exact this
    refine ⟨h, m1, ?_⟩
    omega
  · obtain ⟨r, r1, er⟩ := c.dvd h (by omega)
    right
    have e1 : a * s j = a * r * s i := by rw [er, Nat.mul_comm (s i) r, Nat.mul_assoc]
    have e2 : a * s j + s j = (a * r + r) * s i := by rw [Nat.add_mul, ← e1, er, Nat.mul_comm (s i) r]
    have l1 : a * r ≤ k := by
      rw [e1] at o1
      have : a * r * s i < (k + 1) * s i := by rw [Nat.add_mul, Nat.one_mul]; exact o1
      exact Nat.le_of_lt_succ (Nat.lt_of_mul_lt_mul_right this)
    have l2 : k + 1 ≤ a * r + r := by
      rw [e2] at o2
      exact Nat.lt_of_mul_lt_mul_right o2
    have m1 : a * s j ≤ k * s i := by rw [e1]; exact Nat.mul_le_mul_right _ l1
    have m2 : k * s i + s i ≤ a * s j + s j := by
      rw [e2]
      have := Nat.mul_le_mul_right (s i) l2
      rw [Nat.add_mul, Nat.one_mul] at this
      exact this
    refine ⟨h, ?_⟩
    omega
theorem bfn_mono1 {s ρ : Nat → Nat} {M p : Nat} (c : CH s (p + 1)) {i : Nat} : ∀ {j}, i ≤ j → j ≤ p → bfn s ρ M i ≤ bfn s ρ M j
  | 0, h, _ => by rw [Nat.le_zero.mp h]; exact Nat.le_refl _
  | j + 1, h, h2 => by
    rcases Nat.lt_or_ge i (j + 1) with z | z
    · exact Nat.le_trans (bfn_mono1 c (by omega) (by omega)) (bfn_up (c.pos (by omega)))
    · have : i = j + 1 := by omega
      rw [this]; exact Nat.le_refl _
/-- all chunks below are taken and the limit allows one more block: it ends within the outlook -/
theorem low_end {s ρ : Nat → Nat} {p i n M : Nat} {bs : List Bk} (c : CH s (p + 1)) (hi : i ≤ p) (ok : Bok s p bs) (rc : ∀ (a j : Nat), j ≤ p → (((a * s j : Nat) : Int), ((s j : Nat) : Int)) ∈ bs → a * s j + s j ≤ ρ j)
    (full : ∀ k, k < n → ∃ b ∈ bs, b.1 < (((k + 1) * s i : Nat) : Int) ∧ ((k * s i : Nat) : Int) < b.1 + b.2) (lim : totN bs + s i ≤ M) : (n + 1) * s i ≤ bfn s ρ M i := by
  have sum1 : sm (fun k => s (cls (bfn s ρ M) i (k * s i))) n ≤ totN bs := by
    refine Nat.le_trans ?_ (occ_sum (n * s i) bs)
    rw [sm_chunks]
    refine sm_le fun k hk => ?_
    obtain ⟨b, hb, o1, o2⟩ := full k hk
    obtain ⟨a, j, hj, rfl⟩ := ok b hb
    dsimp only at o1 o2
    rcases chunk_ge (k := k) c hi hj hb (by omega) (by omega) with ⟨h1, h2, h3⟩ | ⟨h1, h2⟩
    · refine Nat.le_trans ?_ h3
      have r := rc a j hj hb
      have g : ρ j ≤ bfn s ρ M j := bfn_ge
      have pj := c.pos (i := j) (by omega)
      have : cls (bfn s ρ M) i (k * s i) ≤ j := by
        rcases Nat.lt_or_ge j (cls (bfn s ρ M) i (k * s i)) with z | z
        · have := cls_lo z
          omega
        · exact z
      exact c.mono this (by omega)
    · exact Nat.le_trans (c.mono (cls_le _ _ _) (by omega)) h2
  have last : s (cls (bfn s ρ M) i (n * s i)) ≤ s i := c.mono (cls_le _ _ _) (by omega)
  have sum2 : sm (fun k => s (cls (bfn s ρ M) i (k * s i))) (n + 1) ≤ M := by
    show sm (fun k => s (cls (bfn s ρ M) i (k * s i))) n + s (cls (bfn s ρ M) i (n * s i)) ≤ M
    omega
  cases i with
  | zero =>
    rw [bfn_zero, c.s0, Nat.mul_one]
    have : (n + 1) * 1 ≤ sm (fun k => s (cls (bfn s ρ M) 0 (k * s 0))) (n + 1) := sm_ge fun k _ => by
      show 1 ≤ s 0
      rw [c.s0]; exact Nat.le_refl _
    have := Nat.le_max_left M (ρ 0)
    omega
  | succ i =>
    have S0 := c.pos (i := i + 1) (by omega)
    have h := (ov_iff (s := s) (b := bfn s ρ M) (i := i) (n := n + 1) (M := M) S0 (fun j hj => bfn_up (c.pos (by omega)))).mpr (.inr sum2)
    rw [bfn_succ]
    refine Nat.le_trans ?_ (Nat.le_max_right _ _)
    rw [Nat.mul_comm]
    exact Nat.mul_le_mul_left _ h
/-- reaches within an outlook do not raise it -/
theorem bfn_idem {s ρ : Nat → Nat} {M : Nat} : ∀ i, bfn s (bfn s ρ M) M i = bfn s ρ M i := by
  have key : ∀ n i, i ≤ n → bfn s (bfn s ρ M) M i = bfn s ρ M i := by
    intro n
    induction n with
    | zero =>
      intro i h
      rw [Nat.le_zero.mp h, bfn_zero, bfn_zero]
      omega
    | succ n ih =>
      intro i h
      rcases Nat.lt_or_ge i (n + 1) with z | z
      · exact ih i (by omega)
      · have e : i = n + 1 := by omega
        subst e
        rw [bfn_succ s (bfn s ρ M), ih n (by omega), lw_congr (b' := bfn s ρ M) (fun j hj => ih j (by omega)), bfn_succ s ρ]
        omega
  exact fun i => key i i (Nat.le_refl _)
theorem bfn_within {s ρ ρ' : Nat → Nat} {m M : Nat} (c : CH s m) (h : ∀ i, i < m → ρ' i ≤ bfn s ρ M i) : ∀ i, i < m → bfn s ρ' M i ≤ bfn s ρ M i := fun i hi => by
  have := bfn_mono (s := s) (ρ := bfn s ρ M) (ρ' := ρ') (M := M) (M' := M) c h (Nat.le_refl _) i hi
  rw [bfn_idem] at this
  exact this
theorem cut_oneL {s : Nat → Nat} {p : Nat} : cutV ((tl s (p + 1)).map V.int) (some 1) none = (tl (fun i => s (i + 1)) p).map V.int := by
  have e : (tl s (p + 1)).map V.int = V.int ((s 0 : Nat) : Int) :: (tl (fun i => s (i + 1)) p).map V.int := by
    unfold tl
    rw [List.range_succ_eq_map, List.map_cons, List.map_cons, List.map_map, List.map_map, List.map_map]
    rfl
  rw [e]
  unfold cutV HT.sIx
  simp [tl_len]
  exact List.take_of_length_le (by rw [List.length_map, tl_len]; exact Nat.le_refl _)
theorem BL.at0 {H : Hp} {xs : List V} {b : Bk} {bs : List Bk} (h : BL H xs (b :: bs)) : ∃ x, xs[0]? = some x ∧ BkAt H x b := Paired.get2 h (i := 0) rfl
end Ph

namespace Ph
open PySem PySem.Spec PyProof.Rows L2
/-! ### heaps as objects -/
def hf (c : Addr) (pg M : Int) (t l : Addr) : List (Str × V) := [("chain", .ref c), ("pages", .int pg), ("limit", .int M), ("rule", .str "lowest"), ("blocks", .ref t), ("steps", .ref l)]
/-- what changes at h and at l alone -/
def Fr (h l : Addr) (H H' : Hp) : Prop := ∀ b o, b ≠ h → b ≠ l → H b = some o → H' b = some o
theorem Fr.trans {h l : Addr} {H H1 H2 : Hp} (a : Fr h l H H1) (b : Fr h l H1 H2) : Fr h l H H2 := fun c o n1 n2 e => b c o n1 n2 (a c o n1 n2 e)
theorem _root_.L2.Same.fr {h l : Addr} {H H' : Hp} (s : Same H H') : Fr h l H H' := fun _ _ _ _ e => s _ _ e
/-- a heap object at h, its steps at l -/
structure HpA (C : Addr) (H : Hp) (h l c : Addr) (s : Nat → Nat) (p pg M : Nat) (bs : List Bk) (n : Nat) (dx t : Addr) (xs : List V) : Prop where
  ob : H h = some (.ins C dx (hf c pg M t l))
  ch : ChAt H c (tl s (p + 1))
  st : StAt H t bs
  ls : H l = some (.lst xs)
  ln : xs.length ≤ n
def HpAt (C : Addr) (H : Hp) (h l c : Addr) (s : Nat → Nat) (p pg M : Nat) (bs : List Bk) (n : Nat) : Prop := ∃ dx t xs, HpA C H h l c s p pg M bs n dx t xs
theorem StAt.mono {H H' : Hp} {t : Addr} {bs : List Bk} (h : StAt H t bs) (kp : KpT H H') : StAt H' t bs := by
  obtain ⟨xs, e, b⟩ := h
  exact ⟨xs, kp _ _ e, BL.kp b kp⟩
theorem ChAt.frz {H H' : Hp} {c : Addr} {C : List Int} (h : ChAt H c C) (kp : ∀ o u, H c = some (.frz o u) → H' c = some (.frz o u)) : ChAt H' c C := let ⟨o, d, e⟩ := h; ⟨o, d, kp _ _ e⟩
theorem But.kpT {p : Addr} {H H' : Hp} {xs : List V} (b : But p H H') (e : H p = some (.lst xs)) : KpT H H' := fun v zs h => b _ _ (ne_of h e (by intro z; cases z)) h
end Ph

namespace Ph
open PySem PySem.Spec PyProof.Rows L2
/-! ### a get by the lowest place, a free: what becomes of the state and of the outlook -/
theorem totN_int : ∀ {bs : List Bk}, (∀ b ∈ bs, 0 ≤ b.2) → (bs.map fun b => b.2).sum = ((totN bs : Nat) : Int)
  | [], _ => rfl
  | b :: r, h => by
    have h1 := h b (List.mem_cons_self ..)
    have ih := totN_int (bs := r) fun c hc => h c (List.mem_cons_of_mem _ hc)
    unfold totN at *
    rw [List.map_cons, List.map_cons, List.sum_cons, List.sum_cons, ih]
    omega
theorem St.bok {s : Nat → Nat} {p : Nat} {W : Int} {bs : List Bk} (st : St (tl s (p + 1)) W bs) : Bok s p bs := fun b hb => by
  obtain ⟨h1, h2, h3, h4, h5⟩ := st.ok b hb
  obtain ⟨j, hj, e⟩ := tl_mem.mp h1
  obtain ⟨b1, b2⟩ := b
  dsimp only at *
  subst e
  refine ⟨(b1 / ((s j : Nat) : Int)).toNat, j, by omega, ?_⟩
  have q : 0 ≤ b1 / ((s j : Nat) : Int) := Int.ediv_nonneg h3 (by omega)
  have e2 := Int.mul_ediv_add_emod b1 ((s j : Nat) : Int)
  rw [h4] at e2
  congr 1
  rw [Int.natCast_mul, Int.toNat_of_nonneg q, Int.mul_comm]
  omega
theorem rch_ge {l : Int} {bs : List Bk} {b : Bk} (pos : ∀ b ∈ bs, 0 < b.1 + b.2) (hb : b ∈ bs) (h : b.2 ≤ l) : b.1 + b.2 ≤ rch l bs := by
  unfold rch
  have m : b.1 + b.2 ∈ (bs.filter fun b => decide (b.2 ≤ l)).map fun b => b.1 + b.2 := List.mem_map.mpr ⟨b, List.mem_filter.mpr ⟨hb, decide_eq_true h⟩, rfl⟩
  rcases mxd_spec (l := (bs.filter fun b => decide (b.2 ≤ l)).map fun b => b.1 + b.2) (fun x hx => by
    obtain ⟨c, hc, rfl⟩ := List.mem_map.mp hx
    exact pos c (List.mem_filter.mp hc).1) with ⟨e, _⟩ | ⟨_, e⟩
  · rw [e] at m; cases m
  · exact e _ m
theorem rch_le {l u : Int} {bs : List Bk} (pos : ∀ b ∈ bs, 0 < b.1 + b.2) (u0 : 0 ≤ u) (h : ∀ b ∈ bs, b.2 ≤ l → b.1 + b.2 ≤ u) : 0 ≤ rch l bs ∧ rch l bs ≤ u := by
  unfold rch
  rcases mxd_spec (l := (bs.filter fun b => decide (b.2 ≤ l)).map fun b => b.1 + b.2) (fun x hx => by
    obtain ⟨c, hc, rfl⟩ := List.mem_map.mp hx
    exact pos c (List.mem_filter.mp hc).1) with ⟨_, e⟩ | ⟨m, _⟩
  · rw [e]; exact ⟨Int.le_refl _, u0⟩
  · obtain ⟨c, hc, e⟩ := List.mem_map.mp m
    obtain ⟨h1, h2⟩ := List.mem_filter.mp hc
    have hh := h c h1 (of_decide_eq_true h2)
    have pp := pos c h1
    rw [← e]
    exact ⟨by omega, hh⟩
/-- the reaches, as numbers -/
def Rho (s : Nat → Nat) (p : Nat) (bs : List Bk) (ρ : Nat → Nat) : Prop := ((tl s (p + 1)).map fun l => rch l bs) = tl ρ (p + 1)
theorem Rho.at_ {s ρ : Nat → Nat} {p j : Nat} {bs : List Bk} (h : Rho s p bs ρ) (hj : j ≤ p) : rch ((s j : Nat) : Int) bs = ((ρ j : Nat) : Int) := by
  have e : ((tl s (p + 1)).map fun l => rch l bs)[j]? = (tl ρ (p + 1))[j]? := by rw [h]
  rw [List.getElem?_map, tl_get (by omega), tl_get (by omega)] at e
  exact Option.some.inj e
theorem St.posE {C : List Int} {W : Int} {bs : List Bk} (st : St C W bs) : ∀ b ∈ bs, 0 < b.1 + b.2 := fun b hb => by
  obtain ⟨_, h2, h3, _⟩ := st.ok b hb
  omega
theorem Rho.ex {s : Nat → Nat} {p : Nat} {W : Int} {bs : List Bk} (st : St (tl s (p + 1)) W bs) : ∃ ρ, Rho s p bs ρ := by
  refine ⟨fun j => (rch ((s j : Nat) : Int) bs).toNat, ?_⟩
  unfold Rho tl
  rw [List.map_map]
  refine List.map_congr_left fun j _ => ?_
  show rch ((s j : Nat) : Int) bs = (((rch ((s j : Nat) : Int) bs).toNat : Nat) : Int)
  have h0 : 0 ≤ rch ((s j : Nat) : Int) bs := by
    unfold rch
    rcases mxd_spec (l := (bs.filter fun b => decide (b.2 ≤ ((s j : Nat) : Int))).map fun b => b.1 + b.2) (fun x hx => by
      obtain ⟨c, hc, rfl⟩ := List.mem_map.mp hx
      exact st.posE c (List.mem_filter.mp hc).1) with ⟨_, e⟩ | ⟨m, _⟩
    · rw [e]; exact Int.le_refl _
    · obtain ⟨c, hc, e⟩ := List.mem_map.mp m
      have := st.posE c (List.mem_filter.mp hc).1
      omega
  omega
theorem Rho.nil (s : Nat → Nat) (p : Nat) : Rho s p [] (fun _ => 0) := by
  unfold Rho tl
  rw [List.map_map]
  rfl
/-- where the lowest place lies, and why -/
structure LowP (z : Int) (bs : List Bk) (W x : Int) : Prop where
  mod : x % z = 0
  pos : 0 ≤ x
  fit : x + z ≤ W
  free : ∀ b ∈ bs, x + z ≤ b.1 ∨ b.1 + b.2 ≤ x
  full : ∀ k : Int, 0 ≤ k → k % z = 0 → k < x → ∃ b ∈ bs, b.1 < k + z ∧ k < b.1 + b.2
theorem lowp_of {C : List Int} {z W x : Int} {bs : List Bk} {r : List Int} (hz : 0 < z) (hW : 0 ≤ W) (st : St C W bs) (e : plf z 0 (bs ++ [(W, 0)]) = x :: r) : LowP z bs W x := by
  have mem := plf_mem (s := z) (W := W) hz bs 0 (fun b hb => st.bnd b hb) st.asc hW
  have inc := plf_inc (s := z) (W := W) hz bs 0 (fun b hb => st.bnd b hb) st.asc hW
  rw [e] at mem inc
  obtain ⟨m1, m2, m3, m4⟩ := (mem x).mp (List.mem_cons_self ..)
  refine ⟨m1, m2, m3, m4, fun k k0 km kx => ?_⟩
  have nin : ¬ k ∈ x :: r := fun h => by
    rcases List.mem_cons.mp h with z | z
    · omega
    · have := (List.pairwise_cons.mp inc).1 k z
      omega
  have nf : ¬ ∀ b ∈ bs, k + z ≤ b.1 ∨ b.1 + b.2 ≤ k := fun h => nin ((mem k).mpr ⟨km, k0, by omega, h⟩)
  exact Classical.byContradiction fun no => nf fun b hb => Classical.byContradiction fun h2 => no ⟨b, hb, by omega, by omega⟩
section
variable {s ρ : Nat → Nat} {p M : Nat} {W : Int} {bs : List Bk}
theorem St.rc (c : CH s (p + 1)) (st : St (tl s (p + 1)) W bs) (hρ : Rho s p bs ρ) : ∀ (a j : Nat), j ≤ p → (((a * s j : Nat) : Int), ((s j : Nat) : Int)) ∈ bs → a * s j + s j ≤ ρ j := fun a j hj hb => by
  have h := rch_ge st.posE hb (l := ((s j : Nat) : Int)) (Int.le_refl _)
  rw [hρ.at_ hj] at h
  dsimp only at h
  omega
/-- guarantee (c), one get: it ends within the outlook -/
theorem LowP.ends {i : Nat} {x : Int} (c : CH s (p + 1)) (hi : i ≤ p) (st : St (tl s (p + 1)) W bs) (hρ : Rho s p bs ρ) (lim : (bs.map fun b => b.2).sum + ((s i : Nat) : Int) ≤ M) (lp : LowP ((s i : Nat) : Int) bs W x) :
    ∃ n : Nat, x = ((n * s i : Nat) : Int) ∧ (n + 1) * s i ≤ bfn s ρ M i := by
  have S0 := c.pos (i := i) (by omega)
  have q : 0 ≤ x / ((s i : Nat) : Int) := Int.ediv_nonneg lp.pos (by omega)
  have e2 := Int.mul_ediv_add_emod x ((s i : Nat) : Int)
  rw [lp.mod] at e2
  have ex : x = (((x / ((s i : Nat) : Int)).toNat * s i : Nat) : Int) := by
    rw [Int.natCast_mul, Int.toNat_of_nonneg q, Int.mul_comm]
    omega
  refine ⟨_, ex, ?_⟩
  generalize (x / ((s i : Nat) : Int)).toNat = n at ex
  subst ex
  refine low_end c hi st.bok (st.rc c hρ) (fun k hk => ?_) ?_
  · have kn : k * s i < n * s i := Nat.mul_lt_mul_of_pos_right hk S0
    obtain ⟨b, hb, o1, o2⟩ := lp.full ((k * s i : Nat) : Int) (by omega) (by rw [Int.natCast_mul]; exact Int.mul_emod_left _ _) (by omega)
    refine ⟨b, hb, ?_, o2⟩
    rw [Nat.add_mul, Nat.one_mul]
    omega
  · rw [totN_int fun b hb => by have := (st.ok b hb).2.1; omega] at lim
    omega
/-- guarantee (a), one get: a heap as far as the outlook has a place -/
theorem has_place {i : Nat} (c : CH s (p + 1)) (hi : i ≤ p) (W0 : 0 ≤ W) (st : St (tl s (p + 1)) W bs) (hρ : Rho s p bs ρ) (lim : (bs.map fun b => b.2).sum + ((s i : Nat) : Int) ≤ M) (room : ((bfn s ρ M p : Nat) : Int) ≤ W) :
    ∃ x r, plf ((s i : Nat) : Int) 0 (bs ++ [(W, 0)]) = x :: r := by
  have S0 := c.pos (i := i) (by omega)
  have hz : (0 : Int) < ((s i : Nat) : Int) := by omega
  cases e : plf ((s i : Nat) : Int) 0 (bs ++ [(W, 0)]) with
  | cons x r => exact ⟨x, r, rfl⟩
  | nil =>
    exfalso
    have mem := plf_mem (s := ((s i : Nat) : Int)) (W := W) hz bs 0 (fun b hb => st.bnd b hb) st.asc W0
    rw [e] at mem
    have h := low_end (n := (W / ((s i : Nat) : Int)).toNat) (M := M) c hi st.bok (st.rc c hρ) (fun k hk => ?_) ?_
    · have h2 := bfn_mono1 (s := s) (ρ := ρ) (M := M) c hi (Nat.le_refl p)
      have q : 0 ≤ W / ((s i : Nat) : Int) := Int.ediv_nonneg W0 (by omega)
      have l1 := Int.lt_ediv_add_one_mul_self W hz
      have e1 : (((W / ((s i : Nat) : Int)).toNat + 1) * s i : Nat) ≤ bfn s ρ M p := Nat.le_trans h h2
      have e2 : ((((W / ((s i : Nat) : Int)).toNat + 1) * s i : Nat) : Int) = (W / ((s i : Nat) : Int) + 1) * ((s i : Nat) : Int) := by
        rw [Int.natCast_mul, Int.natCast_add, Int.toNat_of_nonneg q]
        rfl
      have e3 : ((((W / ((s i : Nat) : Int)).toNat + 1) * s i : Nat) : Int) ≤ ((bfn s ρ M p : Nat) : Int) := Int.ofNat_le.mpr e1
      rw [e2] at e3
      omega
    · have q : 0 ≤ W / ((s i : Nat) : Int) := Int.ediv_nonneg W0 (by omega)
      have l1 := Int.ediv_mul_le W (b := ((s i : Nat) : Int)) (by omega)
      have k1 : (((k + 1) * s i : Nat) : Int) ≤ W := by
        have : (((k + 1 : Nat) : Int)) ≤ W / ((s i : Nat) : Int) := by omega
        have := Int.mul_le_mul_of_nonneg_right this (Int.le_of_lt hz)
        rw [Int.natCast_mul]
        omega
      have nf : ¬ ∀ b ∈ bs, ((k * s i : Nat) : Int) + ((s i : Nat) : Int) ≤ b.1 ∨ b.1 + b.2 ≤ ((k * s i : Nat) : Int) := fun h => by
        have := (mem ((k * s i : Nat) : Int)).mpr ⟨by rw [Int.natCast_mul]; exact Int.mul_emod_left _ _, by omega, by rw [Nat.add_mul, Nat.one_mul] at k1; omega, h⟩
        cases this
      exact Classical.byContradiction fun no => nf fun b hb => Classical.byContradiction fun h2 => no ⟨b, hb, by rw [Nat.add_mul, Nat.one_mul]; omega, by omega⟩
    · rw [totN_int fun b hb => by have := (st.ok b hb).2.1; omega] at lim
      omega
theorem get_st {i : Nat} {x : Int} {cs : List Bk} (c : CH s (p + 1)) (hi : i ≤ p) (st : St (tl s (p + 1)) W bs) (lp : LowP ((s i : Nat) : Int) bs W x) (pm : cs.Perm (bs ++ [(x, ((s i : Nat) : Int))])) (srt : cs.Pairwise fun x y => SrtO.lexB y x = false) : St (tl s (p + 1)) W cs := by
  have S0 := c.pos (i := i) (by omega)
  refine sorted_st (fun b hb => ?_) ?_ pm srt
  · rcases List.mem_append.mp hb with z | z
    · exact st.ok b z
    · rw [List.mem_singleton.mp z]
      exact ⟨tl_mem.mpr ⟨i, by omega, rfl⟩, by dsimp only; omega, lp.pos, lp.mod, lp.fit⟩
  · refine List.pairwise_append.mpr ⟨st.asc.imp fun h => .inl h, List.pairwise_singleton _ _, fun b hb d hd => ?_⟩
    rw [List.mem_singleton.mp hd]
    rcases lp.free b hb with h | h
    · exact .inr h
    · exact .inl h
/-- guarantee (c): no number of the outlook rises by a get -/
theorem get_outlook {m i n : Nat} {x : Int} {cs : List Bk} {ρ' : Nat → Nat} (cn : Cn s p m) (hi : i ≤ p) (st : St (tl s (p + 1)) W bs) (hρ : Rho s p bs ρ) (st' : St (tl s (p + 1)) W cs) (hρ' : Rho s p cs ρ') (ex : x = ((n * s i : Nat) : Int)) (en : (n + 1) * s i ≤ bfn s ρ M i) (pm : cs.Perm (bs ++ [(x, ((s i : Nat) : Int))])) :
    ∀ j, j ≤ p → bfn s ρ' M j ≤ bfn s ρ M j := fun j hj => by
  refine bfn_within (m := p + 1) cn.ch (fun j hj => ?_) j (by omega)
  have h := rch_le (l := ((s j : Nat) : Int)) (u := ((bfn s ρ M j : Nat) : Int)) st'.posE (by omega) (fun b hb hl => ?_)
  · rw [hρ'.at_ (by omega)] at h
    omega
  · rcases List.mem_append.mp (pm.mem_iff.mp hb) with z | z
    · have h1 := rch_ge st.posE z hl
      rw [hρ.at_ (by omega)] at h1
      have : ρ j ≤ bfn s ρ M j := bfn_ge
      omega
    · rw [List.mem_singleton.mp z] at hl ⊢
      dsimp only at hl ⊢
      have ij : i ≤ j := by
        rcases Nat.lt_or_ge j i with z2 | z2
        · have : s j < s i := by
            have mono := cn.ch.mono (i := j) (j := i - 1) (by omega) (by omega)
            obtain ⟨r, r2, _, er⟩ := cn.two (i - 1) (by omega)
            have e1 : i - 1 + 1 = i := by omega
            rw [e1] at er
            have pz := cn.ch.pos (i := i - 1) (by omega)
            have : s (i - 1) * 2 ≤ s (i - 1) * r := Nat.mul_le_mul_left _ r2
            omega
          omega
        · exact z2
      have h2 := bfn_mono1 (s := s) (ρ := ρ) (M := M) cn.ch ij (show j ≤ p by omega)
      rw [ex]
      rw [Nat.add_mul, Nat.one_mul] at en
      omega
theorem St.filter {C : List Int} (q : Bk → Bool) (st : St C W bs) : St C W (bs.filter q) := ⟨fun b hb => st.ok b (List.mem_filter.mp hb).1, st.asc.sublist List.filter_sublist⟩
theorem free_outlook {q : Bk → Bool} {ρ' : Nat → Nat} (c : CH s (p + 1)) (st : St (tl s (p + 1)) W bs) (hρ : Rho s p bs ρ) (hρ' : Rho s p (bs.filter q) ρ') : ∀ j, j ≤ p → bfn s ρ' M j ≤ bfn s ρ M j := fun j hj => by
  refine bfn_mono (m := p + 1) c (fun j hj => ?_) (Nat.le_refl _) j (by omega)
  have h := rch_le (l := ((s j : Nat) : Int)) (u := ((ρ j : Nat) : Int)) (st.filter q).posE (by omega) (fun b hb hl => ?_)
  · rw [hρ'.at_ (by omega)] at h
    omega
  · have h1 := rch_ge st.posE (List.mem_filter.mp hb).1 hl
    rw [hρ.at_ (by omega)] at h1
    exact h1
theorem sum_filter {C : List Int} (q : Bk → Bool) (st : St C W bs) : ((bs.filter q).map fun b => b.2).sum ≤ (bs.map fun b => b.2).sum := by
  have h : ∀ b ∈ bs, 0 ≤ b.2 := fun b hb => by have := (st.ok b hb).2.1; omega
  clear st
  induction bs with
  | nil => exact Int.le_refl _
  | cons b r ih =>
    have ih := ih fun c hc => h c (List.mem_cons_of_mem _ hc)
    have := h b (List.mem_cons_self ..)
    by_cases e : q b = true
    · rw [List.filter_cons_of_pos e, List.map_cons, List.map_cons, List.sum_cons, List.sum_cons]
      omega
    · rw [List.filter_cons_of_neg e, List.map_cons, List.sum_cons]
      omega
theorem sum_perm {l m : List Bk} (h : l.Perm m) : (l.map fun b => b.2).sum = (m.map fun b => b.2).sum := by
  have := h.map (fun b : Bk => b.2)
  generalize l.map (fun b : Bk => b.2) = a at this
  generalize m.map (fun b : Bk => b.2) = b at this
  induction this with
  | nil => rfl
  | cons x _ ih => rw [List.sum_cons, List.sum_cons, ih]
  | swap x y l => rw [List.sum_cons, List.sum_cons, List.sum_cons, List.sum_cons]; omega
  | trans _ _ a b => rw [a, b]
end
end Ph

namespace Ph
open PySem PySem.Spec PyProof.Rows L2
section
variable {X : Cx}
/-! ### block not in blocks -/
def rNotInL (K : PySem.W.Frag) : R2 := fun x y H Q => ∃ (b : Bk) (a : Addr) (ys : List V) (cs : List Bk), BkAt H x b ∧ y = .ref a ∧ SqL K H a ys ∧ BL H ys cs ∧ Q (.bl (!decide (b ∈ cs))) H
end
theorem putK_len {kvs : List (Key × V)} {k : Key} {v : V} : (putK kvs k v).length ≤ kvs.length + 1 := by
  unfold putK
  split
  · rw [List.length_map]; omega
  · rw [List.length_append]; exact Nat.le_refl _
end Ph

namespace Ph
open PySem PySem.Spec PyProof.Rows L2
/-! ### a written tuple, known to have no dict of its own -/
def tTupF (t : TA) : TE := fun σ H Q => t σ H fun xs H1 => xs.length ≤ sizeLine ∧ ∀ (p : Addr) (o : Obj), H1 p = none → o.dict = none → Q (.ref p) (upd H1 p (.frz o (.tup xs)))
theorem pe_tupF {X : Cx} {es : List Expr} {t : TA} {x1 : Nat} {pos : Pos} (h : PA X es t) : PE X (.Tuple es x1 pos) (tTupF t) := by
  refine ⟨fun pins s σ H Q I hq => ?_⟩
  refine wpAny_Tuple_spliced (thn (h.run pos pins s σ H _ I hq) fun us s1 ⟨xs, H1, I1, r, z, q⟩ => ⟨by rw [← r.length]; exact z, ?_⟩)
  have hf : H1 s1.heap.objs.size = none := I1.hok.fresh (Nat.le_refl _)
  refine ⟨.ref s1.heap.objs.size, _, I1.laid (t' := s1.toks) (o := .frz { cls := .type "tuple", data := .seq us.toArray } (.tup xs)) (fun b u e => Heap.get?_push_of_some _ e) (Nat.le_refl _) ⟨Heap.get?_push_size _ rfl, z, us, r, IsTup.new _ _⟩, rfl, q _ _ hf rfl⟩
end Ph

/-! PhDr2: repr of data with dicts; only the dicts themselves must not be sys.modules. -/
namespace Ph
open PySem PySem.Spec PyProof.Rows L2
section
variable (P : Program) (w : World) (h : Heap)
/-- u holds d, and shows it within other data -/
def Sh1 (u : Value) (d : PyData) : Prop := (∃ as, Reads h u d as) ∧ (d.showable = true → d.shown.length ≤ sizeLine → ∃ bs, ReadAtMost h d.depth bs ∧ ReprK P w bs h d.depth u d.shown)
def ShA (us : List Value) (ds : List PyData) : Prop := (∃ as, ReadsAll h us ds as) ∧
  (PyData.showableAll ds = true → (∀ t ∈ PyData.shownAll ds, t.length ≤ sizeLine) → ∃ bs, ReadAtMost h (PyData.depthAll ds) bs ∧ ReprAllK P w bs h (PyData.depthAll ds) us (PyData.shownAll ds))
/-- repr(u) -/
def Top (u : Value) (d : PyData) : Prop := ∀ (A : Around) (E : Value → Shared → Prop) (s : Shared) (Q : Value → Shared → Prop), A.guards = some [] → A.units + (d.depth + 1) < cLine → (∀ b o, h.get? b = some o → s.heap.get? b = some o) →
  (∀ h' t k, (∀ b o, s.heap.get? b = some o → h'.get? b = some o) → Q (.str d.shown t) { s with heap := h', toks := k }) → wpAny (model P w) A (call (.builtin "repr") [u]) Q E s
end
section
variable {P : Program} {w : World} {h : Heap}
end
end Ph

/-! PhDk: data with dicts (keys: ints and texts): read off the heap, and repr of it. -/
namespace Ph
open PySem PySem.Spec PyProof.Rows L2
def keyD : Key → PyData
  | .inl i => .int i
  | .inr x => .str x
mutual
inductive Dq (K : PySem.W.Frag) (H : Hp) : V → PyData → Prop
  | non : Dq K H .non .none
  | bl (b : Bool) : Dq K H (.bl b) (.bool b)
  | int (i : Int) : Dq K H (.int i) (.int i)
  | str (x : Str) : Dq K H (.str x) (.str x)
  | lst {a : Addr} {xs : List V} {ds : List PyData} (hs : SqL K H a xs) (ha : DqAll K H xs ds) : Dq K H (.ref a) (.list ds)
  | tup {a : Addr} {xs : List V} {ds : List PyData} (hs : SqT K H a xs) (ha : DqAll K H xs ds) : Dq K H (.ref a) (.tuple ds)
  | dct {a : Addr} {kvs : List (Key × V)} {ds : List (PyData × PyData)} (hs : Rd H a (.dK kvs)) (ha : DqKvs K H kvs ds) : Dq K H (.ref a) (.dict ds)
inductive DqAll (K : PySem.W.Frag) (H : Hp) : List V → List PyData → Prop
  | nil : DqAll K H [] []
  | cons {v : V} {vs : List V} {d : PyData} {ds : List PyData} (h : Dq K H v d) (r : DqAll K H vs ds) : DqAll K H (v :: vs) (d :: ds)
inductive DqKvs (K : PySem.W.Frag) (H : Hp) : List (Key × V) → List (PyData × PyData) → Prop
  | nil : DqKvs K H [] []
  | cons {k : Key} {v : V} {r : List (Key × V)} {d : PyData} {ds : List (PyData × PyData)} (h : Dq K H v d) (t : DqKvs K H r ds) : DqKvs K H ((k, v) :: r) ((keyD k, d) :: ds)
end
section
variable {X : Cx} {pins : List (Addr × Obj)} {σ : L2.St} {H : Hp} {s : Shared}
end
section
variable {X : Cx}
/-- repr(x), x any data -/
def rRqA (K : PySem.W.Frag) : List V → Hp → VK → Prop := fun xs H Q => ∃ (x : V) (d : PyData), xs = [x] ∧ Dq K H x d ∧ d.showable = true ∧ d.depth ≤ 60 ∧ d.shown.length ≤ sizeLine ∧ Q (.str d.shown) H
end
end Ph

set_option maxHeartbeats 4000000
/-! PhKd: dicts whose keys are tuples of tuples (KD): {}, {k: v}, k in d, k not in d, d[k], d[k] = v. -/
namespace Ph
open PySem PySem.Spec PyProof.Rows L2
/-- a tuple, plain or frozen -/
def TuH (H : Hp) (a : Addr) (xs : List V) : Prop := H a = some (.tup xs) ∨ ∃ o, H a = some (.frz o (.tup xs))
theorem TuH.same {H H' : Hp} {a : Addr} {xs : List V} (h : TuH H a xs) (s : Same H H') : TuH H' a xs := h.imp (s _ _) fun ⟨o, e⟩ => ⟨o, s _ _ e⟩
mutual
/-- a value as a key -/
inductive Nk (H : Hp) : V → NestedKey → Prop
  | non : Nk H .non .none
  | int (i : Int) : Nk H (.int i) (.num i)
  | str (x : Str) : Nk H (.str x) (.text x)
  | tup {a : Addr} {xs : List V} {ks : List NestedKey} : TuH H a xs → NkAll H xs ks → Nk H (.ref a) (.tup ks)
inductive NkAll (H : Hp) : List V → List NestedKey → Prop
  | nil : NkAll H [] []
  | cons {x : V} {xs : List V} {k : NestedKey} {ks : List NestedKey} : Nk H x k → NkAll H xs ks → NkAll H (x :: xs) (k :: ks)
end
theorem Nk.keeps {H H' : Hp} (s : ∀ a xs, TuH H a xs → TuH H' a xs) {v : V} {k : NestedKey} (h : Nk H v k) : Nk H' v k := by
  refine @Nk.rec H (fun v k _ => Nk H' v k) (fun vs ks _ => NkAll H' vs ks) ?_ ?_ ?_ ?_ ?_ ?_ v k h
  · exact .non
  · exact .int
  · exact .str
  · exact fun e _ ih => .tup (s _ _ e) ih
  · exact .nil
  · exact fun _ _ i1 i2 => .cons i1 i2
theorem tuH_is {P : Program} {w : World} {H : Hp} {h : Heap} (ok : HOk P w H h) {a : Addr} {xs : List V} (e : TuH H a xs) : ∃ o its n, h.get? a = some o ∧ o.cls = .type "tuple" ∧ o.data = .seq its n ∧ Vals xs its.toList := by
  have x : ObjOk P w H h a (.tup xs) := by
    rcases e with e | ⟨o, e⟩
    · exact ok a _ e
    · exact (show ObjOk P w H h a (.frz o (.tup xs)) from ok a _ e).2
  obtain ⟨_, its, rv, o, ho, hc, n, hdat⟩ := x
  exact ⟨o, its.toArray, n, ho, hc, hdat, by simpa using rv⟩
theorem Nk.is {P : Program} {w : World} {H : Hp} {h : Heap} (ok : HOk P w H h) {v : V} {k : NestedKey} (n : Nk H v k) : ∀ u, RelV v u → NestedIs h k u := by
  refine @Nk.rec H (fun v k _ => ∀ u, RelV v u → NestedIs h k u) (fun vs ks _ => ∀ us, Vals vs us → NestedAll h ks us) ?_ ?_ ?_ ?_ ?_ ?_ v k n
  · intro u r
    cases (show u = Value.none from r)
    exact .none
  · intro i u r
    obtain ⟨t, rfl⟩ := (show ∃ t, u = Value.int i t from r)
    exact .int i t
  · intro x u r
    obtain ⟨t, rfl⟩ := (show ∃ t, u = Value.str x t from r)
    exact .text x t
  · intro a xs ks e _ ih u r
    cases (show u = Value.ref a from r)
    obtain ⟨o, its, m, ho, hc, hd, rv⟩ := tuH_is ok e
    exact .tup ho hc hd (ih _ rv)
  · intro us r
    cases r
    exact .nil
  · intro x xs k ks _ _ i1 i2 us r
    cases r with
    | cons r1 r2 => exact .cons (i1 _ r1) (i2 _ r2)
/-! ### the dict as an object -/
abbrev KAV := NestedKey × Addr × V
abbrev NR : List KAV → List (NestedKey × Addr × Value) → Prop := Paired fun p q => p.1 = q.1 ∧ p.2.1 = q.2.1 ∧ RelV p.2.2 q.2.2
def kv2 (x : KAV) : NestedKey × V := (x.1, x.2.2)
def enK (w : World) (x : NestedKey × Addr × Value) : DictEntry := ⟨x.1.hash w, .ref x.2.1, x.2.2⟩
def dkO (w : World) (d : Addr) (xs : List KAV) : HO := .ext fun h => ∃ o es ep, h.get? d = some o ∧ o.ExactDict ∧ o.data = .dict es ep ∧ ∃ ys, es.toList = ys.map (enK w) ∧ NR xs ys
/-- a dict with the keys and values kvs, in this order -/
def KD (w : World) (H : Hp) (d : Addr) (kvs : List (NestedKey × V)) : Prop := ∃ xs, H d = some (dkO w d xs) ∧ (d == sysModules) = false ∧ xs.map kv2 = kvs ∧ (∀ x ∈ xs, Nk H (.ref x.2.1) x.1 ∧ x.1.depth ≤ 8) ∧ (xs.map (·.1)).Nodup ∧ xs.length ≤ sizeLine
/-- what keeps d and all tuples keeps the dict -/
theorem KD.keeps {w : World} {H H' : Hp} {d : Addr} {kvs : List (NestedKey × V)} (k : KD w H d kvs) (s : ∀ a xs, TuH H a xs → TuH H' a xs) (e : ∀ u, H d = some u → H' d = some u) : KD w H' d kvs := by
  obtain ⟨xs, hd, hs, he, hk, hn, hl⟩ := k
  exact ⟨xs, e _ hd, hs, he, fun x hx => ⟨(hk x hx).1.keeps s, (hk x hx).2⟩, hn, hl⟩
theorem KD.same {w : World} {H H' : Hp} {d : Addr} {kvs : List (NestedKey × V)} (k : KD w H d kvs) (s : Same H H') : KD w H' d kvs := k.keeps (fun _ _ e => e.same s) fun _ e => s _ _ e
theorem KD.ext {w : World} {H : Hp} {d : Addr} {kvs : List (NestedKey × V)} (k : KD w H d kvs) : ∃ φ, H d = some (.ext φ) := by
  obtain ⟨xs, hd, _⟩ := k
  exact ⟨_, hd⟩
theorem NR.keys {xs : List KAV} {ys : List (NestedKey × Addr × Value)} (r : NR xs ys) : xs.map (·.1) = ys.map (·.1) := by
  induction r with
  | nil => rfl
  | cons h _ ih => rw [List.map_cons, List.map_cons, ih, h.1]
theorem NR.mem {xs : List KAV} {ys : List (NestedKey × Addr × Value)} (r : NR xs ys) {y : NestedKey × Addr × Value} (hy : y ∈ ys) : ∃ x ∈ xs, x.1 = y.1 ∧ x.2.1 = y.2.1 ∧ RelV x.2.2 y.2.2 := by
  induction r with
  | nil => exact nomatch hy
  | cons q _ ih =>
    rcases List.mem_cons.mp hy with e | hy
    · rw [e]
      exact ⟨_, List.mem_cons_self, q⟩
    · obtain ⟨x, hx, z⟩ := ih hy
      exact ⟨x, List.mem_cons_of_mem _ hx, z⟩
theorem kd_of {P : Program} {w : World} {H : Hp} {h : Heap} {d : Addr} {xs : List KAV} (ok : HOk P w H h) (hd : H d = some (dkO w d xs)) (hk : ∀ x ∈ xs, Nk H (.ref x.2.1) x.1 ∧ x.1.depth ≤ 8) (hn : (xs.map (·.1)).Nodup) :
    ∃ ys, NR xs ys ∧ h.DictOfH (nestedKind P w) d ys := by
  obtain ⟨⟨o, es, ep, ho, hc, hdat, ys, he, r⟩, _⟩ := (show ObjOk P w H h d (dkO w d xs) from ok d _ hd)
  refine ⟨ys, r, o, es, ep, ho, hc, hdat, he, fun y hy => ?_, by rw [← r.keys]; exact hn⟩
  obtain ⟨x, hx, e1, e2, _⟩ := r.mem hy
  have := hk x hx
  rw [e1, e2] at this
  exact ⟨this.1.is ok _ rfl, this.2⟩
theorem NR.val {xs : List KAV} {ys : List (NestedKey × Addr × Value)} (r : NR xs ys) (k : NestedKey) : RelO (valV (xs.map kv2) k) ((atKey ys k).map (·.2)) := by
  induction r with
  | nil => exact True.intro
  | @cons p q ps qs z t ih =>
    obtain ⟨z1, _, z3⟩ := z
    rw [List.map_cons]
    by_cases e : p.1 = k
    · have e' : q.1 = k := z1.symm.trans e
      have b : atKey (q :: qs) k = some q.2 := by simp [atKey, List.find?_cons, e']
      rw [valV_pos (show (kv2 p).1 = k from e), b]
      exact z3
    · have e' : ¬ q.1 = k := fun y => e (z1.trans y)
      have b : atKey (q :: qs) k = atKey qs k := by simp [atKey, List.find?_cons, e']
      rw [valV_neg (show ¬ (kv2 p).1 = k from e), b]
      exact ih
/-- the table behind d[k] = v -/
def putX (xs : List KAV) (k : NestedKey) (b : Addr) (v : V) : List KAV := if (valV (xs.map kv2) k).isSome then xs.map (fun x => if x.1 = k then (x.1, x.2.1, v) else x) else xs ++ [(k, b, v)]
theorem NR.put {xs : List KAV} {ys : List (NestedKey × Addr × Value)} (r : NR xs ys) {k : NestedKey} {b : Addr} {v : V} {u : Value} (rv : RelV v u) : NR (putX xs k b v) (storedH ys k b u) := by
  have e : (valV (xs.map kv2) k).isSome = (atKey ys k).isSome := by rw [(r.val k).isSome_eq, Option.isSome_map]
  unfold putX storedH
  rw [e]
  by_cases c : (atKey ys k).isSome = true
  · rw [if_pos c, if_pos c]
    clear e c
    induction r with
    | nil => exact .nil
    | @cons p q ps qs z t ih =>
      rw [List.map_cons, List.map_cons]
      refine .cons ?_ ih
      obtain ⟨z1, z2, z3⟩ := z
      unfold putAt
      by_cases e : p.1 = k
      · rw [if_pos e, if_pos (z1.symm.trans e)]
        exact ⟨z1, z2, rv⟩
      · rw [if_neg e, if_neg (fun y => e (z1.trans y))]
        exact ⟨z1, z2, z3⟩
  · rw [if_neg c, if_neg c]
    exact Paired.snoc r ⟨rfl, rfl, rv⟩
theorem putX_map (xs : List KAV) (k : NestedKey) (b : Addr) (v : V) : (putX xs k b v).map kv2 = putK (xs.map kv2) k v := by
  unfold putX putK
  rw [valV_any]
  by_cases c : (valV (xs.map kv2) k).isSome = true
  · rw [if_pos c, if_pos c, List.map_map, List.map_map]
    refine List.map_congr_left fun x _ => ?_
    show kv2 (if x.1 = k then (x.1, x.2.1, v) else x) = if (kv2 x).1 = k then ((kv2 x).1, v) else kv2 x
    by_cases e : x.1 = k
    · rw [if_pos e, if_pos (show (kv2 x).1 = k from e)]
      rfl
    · rw [if_neg e, if_neg (show ¬ (kv2 x).1 = k from e)]
  · rw [if_neg c, if_neg c, List.map_append]
    rfl
theorem putX_mem {xs : List KAV} {k : NestedKey} {b : Addr} {v : V} {x : KAV} (h : x ∈ putX xs k b v) : (x.1 = k ∧ x.2.1 = b) ∨ ∃ y ∈ xs, x.1 = y.1 ∧ x.2.1 = y.2.1 := by
  unfold putX at h
  split at h
  · obtain ⟨y, hy, rfl⟩ := List.mem_map.mp h
    refine .inr ⟨y, hy, ?_⟩
    split <;> exact ⟨rfl, rfl⟩
  · rcases List.mem_append.mp h with h | h
    · exact .inr ⟨x, h, rfl, rfl⟩
    · rw [List.mem_singleton.mp h]
      exact .inl ⟨rfl, rfl⟩
theorem putX_len (xs : List KAV) (k : NestedKey) (b : Addr) (v : V) : (putX xs k b v).length ≤ xs.length + 1 := by
  unfold putX
  split
  · rw [List.length_map]
    omega
  · rw [List.length_append]
    exact Nat.le_refl _
theorem dkO_ok {P : Program} {w : World} {H : Hp} {h : Heap} {d : Addr} {xs : List KAV} {ys : List (NestedKey × Addr × Value)} (r : NR xs ys) (x : h.DictOfH (nestedKind P w) d ys) : ObjOk P w H h d (dkO w d xs) := by
  obtain ⟨o, es, ep, ho, hc, hdat, he, _, _⟩ := x
  refine ⟨⟨o, es, ep, ho, hc, hdat, ys, he, r⟩, ⟨o, ho⟩, fun h1 h2 z k => ?_⟩
  obtain ⟨o2, es2, ep2, ho2, z2⟩ := z
  exact ⟨o2, es2, ep2, k _ ho2, z2⟩
section
variable {X : Cx} {pins : List (Addr × Obj)} {σ : L2.St} {H : Hp} {s : Shared} {d b : Addr} {v : V} {kvs : List (NestedKey × V)} {k : NestedKey} {A : Around} {E : Value → Shared → Prop}
theorem nk_room {P : Program} {w : World} {A : Around} (hu : A.units + 64 < cLine) : (nestedKind P w).room A.in1 := by
  show A.units + 1 + 8 < cLine
  omega
theorem nk_roomD {P : Program} {w : World} {A : Around} (hu : A.units + 64 < cLine) : (nestedKind P w).room A := by
  show A.units + 8 < cLine
  omega
theorem nk_key (I : Inv X pins σ H s) (n : Nk H (.ref b) k) (dp : k.depth ≤ 8) : (nestedKind X.prog X.w).is s.heap k b := ⟨n.is I.hok _ rfl, dp⟩
theorem kd_get {Q : Value → Shared → Prop} (hu : A.units + 64 < cLine) (I : Inv X pins σ H s) (D : KD X.w H d kvs) (n : Nk H (.ref b) k) (dp : k.depth ≤ 8) (hv : valV kvs k = some v) (h : ∀ w' s', Inv X pins σ H s' → RelV v w' → Q w' s') :
    s.TypeIs (.ref d) "dict" ∧ wpAny (model X.prog X.w) A (getItem (.ref d) (.ref b)) Q E s := by
  obtain ⟨xs, hd, hs, rfl, hk, hn, hl⟩ := D
  obtain ⟨ys, r, dd⟩ := kd_of I.hok hd hk hn
  obtain ⟨w', hw, rw'⟩ := RelO.some_of (v := v) (o := (atKey ys k).map (·.2)) (by rw [← hv]; exact r.val k)
  obtain ⟨p, hp, hp2⟩ := Option.map_eq_some_iff.mp hw
  refine ⟨dd.typeIs, wpAny_getItem_heap (nk_room hu) (nk_key I n dp) dd hp ?_⟩
  rw [hp2]
  exact h w' _ (I.tok _) rw'
/-- the dict written: what the heap is then -/
theorem kd_new {w : World} {H : Hp} {xs : List KAV} {k : NestedKey} {b : Addr} {v : V} (hs : (d == sysModules) = false) (hk : ∀ x ∈ xs, Nk H (.ref x.2.1) x.1 ∧ x.1.depth ≤ 8) (n : Nk H (.ref b) k) (dp : k.depth ≤ 8) (hd : ∀ a zs, TuH H a zs → a ≠ d) (nd : ((putX xs k b v).map (·.1)).Nodup) (hl : xs.length < sizeLine) :
    KD w (upd H d (dkO w d (putX xs k b v))) d (putK (xs.map kv2) k v) := by
  have st : ∀ a zs, TuH H a zs → TuH (upd H d (dkO w d (putX xs k b v))) a zs := fun a zs e => by
    have ne := hd a zs e
    rcases e with e | ⟨o, e⟩
    · exact .inl ((upd_ne ne).trans e)
    · exact .inr ⟨o, (upd_ne ne).trans e⟩
  refine ⟨putX xs k b v, upd_same, hs, putX_map xs k b v, fun x hx => ?_, nd, Nat.le_trans (putX_len xs k b v) hl⟩
  rcases putX_mem hx with ⟨e1, e2⟩ | ⟨y, hy, e1, e2⟩
  · rw [e1, e2]
    exact ⟨n.keeps st, dp⟩
  · rw [e1, e2]
    exact ⟨(hk y hy).1.keeps st, (hk y hy).2⟩
theorem kd_set {Q : Unit → Shared → Prop} {r : Value} (hu : A.units + 64 < cLine) (I : Inv X pins σ H s) (D : KD X.w H d kvs) (n : Nk H (.ref b) k) (dp : k.depth ≤ 8) (hl : kvs.length < sizeLine) (rv : RelV v r)
    (h : ∀ H' s', But d H H' → KD X.w H' d (putK kvs k v) → Inv X pins σ H' s' → Q () s') : wpAny (model X.prog X.w) A (setItem (.ref d) (.ref b) r) Q E s := by
  obtain ⟨xs, hd, hs, rfl, hk, hn, hl0⟩ := D
  rw [List.length_map] at hl
  obtain ⟨ys, rr, dd⟩ := kd_of I.hok hd hk hn
  have yl : ys.length ≤ sizeLine := by rw [← Paired.length rr]; exact hl0
  refine wpAny_setItem_heap (hsz := yl) (nk_room hu) (nk_key I n dp) dd fun h' dd' hsb => ?_
  have r2 := rr.put (k := k) (b := b) rv
  have nd : ((putX xs k b v).map (·.1)).Nodup := by
    obtain ⟨_, _, _, _, _, _, _, _, q⟩ := id dd'
    rw [r2.keys]
    exact q
  have tn : ∀ a zs, TuH H a zs → a ≠ d := fun a zs e z => by
    rw [z] at e
    rcases e with e | ⟨o, e⟩ <;> rw [hd] at e <;> cases e
  refine h _ _ (fun c o nc e => (upd_ne nc).trans e) (kd_new hs hk n dp tn nd hl) (I.write (x := d) (e := d) (by rw [hd]; exact True.intro) (.inl rfl) (fun c q hc z => (hsb.2 c hc).trans z) ?_ (dkO_ok r2 dd'))
  obtain ⟨q, _, _, hq, _⟩ := dd'
  exact ⟨q, hq⟩
end
/-! ### rules -/
/-- d[k] -/
def rKGet (w : World) : R2 := fun x y H Q => ∃ d b kvs k v, x = .ref d ∧ y = .ref b ∧ KD w H d kvs ∧ Nk H (.ref b) k ∧ k.depth ≤ 8 ∧ valV kvs k = some v ∧ Q v H
def tKGet (w : World) (td ty : TE) : TE := fun σ H Q => td σ H fun x H1 => ty σ H1 fun y H2 => rKGet w x y H2 Q
def rKIn (w : World) : R2 := fun y x H Q => ∃ d b kvs k, x = .ref d ∧ y = .ref b ∧ KD w H d kvs ∧ Nk H (.ref b) k ∧ k.depth ≤ 8 ∧ Q (.bl (valV kvs k).isSome) H
def rKNotIn (w : World) : R2 := fun y x H Q => ∃ d b kvs k, x = .ref d ∧ y = .ref b ∧ KD w H d kvs ∧ Nk H (.ref b) k ∧ k.depth ≤ 8 ∧ Q (.bl (!(valV kvs k).isSome)) H
def sKPut (w : World) (td ty tv : TE) : TS := fun D σ H => tv σ H fun v H1 => td σ H1 fun x H2 => ty σ H2 fun y H3 => ∃ d b kvs k, x = .ref d ∧ y = .ref b ∧ KD w H3 d kvs ∧ Nk H3 (.ref b) k ∧ k.depth ≤ 8 ∧ kvs.length < sizeLine ∧
  ∀ H4, But d H3 H4 → KD w H4 d (putK kvs k v) → D.nx σ H4
section
variable {X : Cx} {o i value : Expr} {pos pos' : Pos} {td ty tv : TE}
theorem pe_kget (hu : X.A.units + 64 < cLine) (ho : PE X o td) (hi : PE X i ty) (hs : NoSl i) : PE X (.Subscript o i pos) (tKGet X.w td ty) := by
  refine ⟨fun pins s σ H Q I h => ?_⟩
  refine subD_of PySem.F.slot_dict_getitem.lookup hs (thn (ho.run pins s σ H _ I h) fun u s1 ⟨x, H1, I1, rx, q1⟩ => thn (hi.run pins s1 σ H1 _ I1 q1) fun iv s2 w2 => ?_)
  obtain ⟨y, H2, I2, ry, d, b, kvs, k, v, rfl, rfl, D, n, dp, hv, q⟩ := w2
  obtain rfl : u = Value.ref d := rx
  obtain rfl : iv = Value.ref b := ry
  exact kd_get hu I2 D n dp hv fun w' s3 I3 rw' => ⟨v, H2, I3, rw', q⟩
theorem ps_kput (hu : X.A.units + 64 < cLine) (ho : PE X o td) (hi : PE X i ty) (hv : PE X value tv) (hs : swapsWith value (some (.Subscript o i pos')) pos.line X.env = pure false) : PS X (.Assign [.Subscript o i pos'] value pos) (sKPut X.w td ty tv) := by
  refine ⟨fun pins s σ H D I h => ?_⟩
  refine wpAny_Assign_Subscript (thn (hv.run pins s σ H _ I h) fun r s1 ⟨v, H1, I1, rv, q1⟩ => thn (ho.run pins s1 σ H1 _ I1 q1) fun u s2 ⟨x, H2, I2, rx, q2⟩ => thn (hi.run pins s2 σ H2 _ I2 q2) fun iv s3 w3 => ?_) hs
  obtain ⟨y, H3, I3, ry, d, b, kvs, k, rfl, rfl, K, n, dp, hl, q⟩ := w3
  obtain rfl : u = Value.ref d := rx
  obtain rfl : iv = Value.ref b := ry
  exact kd_set hu I3 K n dp hl rv fun H4 s4 b4 k4 I4 => ⟨σ, H4, I4, q H4 b4 k4⟩
/-- {}, to be such a dict -/
def tKNew (w : World) : TE := fun _ H Q => ∀ d H', H d = none → Same H H' → KD w H' d [] → Q (.ref d) H'
theorem kd_laid {pins : List (Addr × Obj)} {σ : L2.St} {H : Hp} {s : Shared} (I : Inv X pins σ H s) : (s.heap.objs.size == sysModules) = false ∧ Inv X pins σ (upd H s.heap.objs.size (dkO X.w s.heap.objs.size [])) { s with heap := s.heap.push { cls := .type "dict", data := .dict #[] } } := by
  have hd : (s.heap.objs.size == sysModules) = false := beq_eq_false_iff_ne.mpr (Ne.symm (Nat.ne_of_lt I.big))
  exact ⟨hd, I.laid (t' := s.toks) (fun _ _ q => Heap.get?_push_of_some _ q) (Nat.le_refl _) (dkO_ok (P := X.prog) .nil (Heap.DictOfH.new (knd := nestedKind X.prog X.w) s.heap))⟩
/-- {k: v}; the new dict stands empty while the pair is made -/
def tKOne (w : World) (tk tv : TE) : TE := fun σ H Q => ∀ d H0, H d = none → Same H H0 → KD w H0 d [] → tk σ H0 fun y H1 => tv σ H1 fun v H2 => ∃ b k, y = .ref b ∧ KD w H2 d [] ∧ Nk H2 (.ref b) k ∧ k.depth ≤ 8 ∧ ∀ H3, But d H2 H3 → KD w H3 d [(k, v)] → Q (.ref d) H3
end
end Ph

namespace Ph
open PySem PySem.Spec PyProof.Rows L2 PySem.Calls
section
variable {X : Cx}
/-- d.pop(k), there -/
def rDPop : V → List V → Hp → VK → Prop := fun x vs H Q => ∃ (a : Addr) (kvs : List (Key × V)) (k : Key) (v : V), x = .ref a ∧ vs = [kV k] ∧ H a = some (.dK kvs) ∧ valV kvs k = some v ∧ Q v (upd H a (.dK (dropK kvs k)))
end
/-! ### keys without doubles, and how many there are -/
def KNd (kvs : List (Key × V)) : Prop := (kvs.map (·.1)).Nodup
end Ph

/-! PhSk: states as keys of dicts and as elements of lists -/
namespace Ph
open PySem PySem.Spec PyProof.Rows L2
/-! ### states as keys -/
def bkey (b : Bk) : NestedKey := .tup [.num b.1, .num b.2]
def skey (bs : List Bk) : NestedKey := .tup (bs.map bkey)
theorem bkey_inj {a b : Bk} (h : bkey a = bkey b) : a = b := by
  obtain ⟨a1, a2⟩ := a
  obtain ⟨b1, b2⟩ := b
  unfold bkey at h
  injection h with h
  injection h with h1 h
  injection h with h2 _
  injection h1 with h1
  injection h2 with h2
  dsimp only at h1 h2
  rw [h1, h2]
theorem skey_inj {a b : List Bk} (h : skey a = skey b) : a = b := by
  unfold skey at h
  injection h with h
  have : ∀ x y : List Bk, x.map bkey = y.map bkey → x = y := fun x => by
    induction x with
    | nil =>
      intro y e
      cases y with
      | nil => rfl
      | cons b r => cases e
    | cons a r ih =>
      intro y e
      cases y with
      | nil => cases e
      | cons b t =>
        rw [List.map_cons, List.map_cons] at e
        injection e with e1 e2
        rw [bkey_inj e1, ih t e2]
  exact this _ _ h
theorem bkeys_depth : ∀ bs : List Bk, NestedKey.depthAll (bs.map bkey) ≤ 1
  | [] => by simp [NestedKey.depthAll]
  | b :: r => by
    have h := bkeys_depth r
    have e : NestedKey.depth (bkey b) = 1 := by simp [bkey, NestedKey.depth, NestedKey.depthAll]
    rw [List.map_cons, NestedKey.depthAll, e]
    omega
theorem skey_depth (bs : List Bk) : (skey bs).depth ≤ 8 := by
  have h := bkeys_depth bs
  unfold skey
  rw [NestedKey.depth]
  omega
theorem bk_nk {H : Hp} {x : V} {b : Bk} (h : BkAt H x b) : Nk H x (bkey b) := by
  obtain ⟨t, rfl, e⟩ := h
  exact .tup (.inl e) (.cons (.int _) (.cons (.int _) .nil))
theorem bl_nk {H : Hp} : ∀ {xs : List V} {bs : List Bk}, BL H xs bs → NkAll H xs (bs.map bkey)
  | _, _, .nil => .nil
  | _, _, .cons h r => .cons (bk_nk h) (bl_nk r)
theorem StAt.nk {H : Hp} {t : Addr} {bs : List Bk} (h : StAt H t bs) : Nk H (.ref t) (skey bs) := by
  obtain ⟨xs, e, bl⟩ := h
  exact .tup (.inl e) (bl_nk bl)
/-! ### there are not many states -/
def allL (L : List Bk) : Nat → List (List Bk)
  | 0 => [[]]
  | n + 1 => [] :: L.flatMap fun x => (allL L n).map (x :: ·)
theorem nodup_le {α : Type} [DecidableEq α] : ∀ {l m : List α}, l.Nodup → (∀ x ∈ l, x ∈ m) → l.length ≤ m.length
  | [], _, _, _ => Nat.zero_le _
  | a :: r, m, h, s => by
    obtain ⟨h1, h2⟩ := List.nodup_cons.mp h
    have ha := s a List.mem_cons_self
    have := nodup_le (l := r) (m := m.erase a) h2 fun x hx => by
      have ne : x ≠ a := fun e => h1 (by rw [← e]; exact hx)
      exact (List.mem_erase_of_ne ne).mpr (s x (List.mem_cons_of_mem _ hx))
    rw [List.length_erase_of_mem ha] at this
    have := List.length_pos_of_mem ha
    rw [List.length_cons]
    omega
/-! ### what keeps everything but lists and tables -/
def Kt (H H' : Hp) : Prop := ∀ a o, H a = some o → (∀ φ, o ≠ .ext φ) → (∀ xs, o ≠ .lst xs) → H' a = some o
theorem Kt.refl (H : Hp) : Kt H H := fun _ _ e _ _ => e
theorem Kt.trans {H H1 H2 : Hp} (a : Kt H H1) (b : Kt H1 H2) : Kt H H2 := fun c o e n1 n2 => b c o (a c o e n1 n2) n1 n2
theorem Same.kt {H H' : Hp} (s : Same H H') : Kt H H' := fun a o e _ _ => s a o e
theorem But.ktD {H H' : Hp} {d : Addr} {w : World} {kvs : List (NestedKey × V)} (b : But d H H') (k : KD w H d kvs) : Kt H H' := fun a o e n1 _ => b a o (fun z => by
  obtain ⟨ψ, e2⟩ := k.ext
  rw [z, e2] at e
  exact n1 _ (Option.some.inj e).symm) e
theorem kt_upd {H : Hp} {l : Addr} {xs ys : List V} (e : H l = some (.lst xs)) : Kt H (upd H l (.lst ys)) := fun a o h _ n => by
  rw [upd_ne (fun z => by rw [z, e] at h; exact n _ (Option.some.inj h).symm)]
  exact h
theorem Kt.kpT {H H' : Hp} (k : Kt H H') : KpT H H' := fun a xs e => k a _ e (fun _ z => by cases z) (fun _ z => by cases z)
theorem Kt.tuH {H H' : Hp} (k : Kt H H') {a : Addr} {xs : List V} (e : TuH H a xs) : TuH H' a xs := by
  rcases e with e | ⟨o, e⟩
  · exact .inl (k a _ e (fun _ z => by cases z) (fun _ z => by cases z))
  · exact .inr ⟨o, k a _ e (fun _ z => by cases z) (fun _ z => by cases z)⟩
theorem Kt.st {H H' : Hp} (k : Kt H H') {t : Addr} {bs : List Bk} (h : StAt H t bs) : StAt H' t bs := by
  obtain ⟨xs, e, b⟩ := h
  exact ⟨xs, k.kpT _ _ e, BL.kp b k.kpT⟩
theorem pairedG {α β : Type} {F : α → β → Prop} : ∀ {l : List α} {m : List β}, l.length = m.length → (∀ (i : Nat) (a : α) (b : β), l[i]? = some a → m[i]? = some b → F a b) → Paired F l m
  | [], [], _, _ => .nil
  | [], _ :: _, e, _ => by cases e
  | _ :: _, [], e, _ => by cases e
  | a :: l, b :: m, e, h => .cons (h 0 a b rfl rfl) (pairedG (Nat.succ.inj e) fun i x y hx hy => h (i + 1) x y hx hy)
theorem pairedApp {α β : Type} {F : α → β → Prop} : ∀ {l l' : List α} {m m' : List β}, Paired F l m → Paired F l' m' → Paired F (l ++ l') (m ++ m')
  | _, _, _, _, .nil, h => h
  | _, _, _, _, .cons h r, k => .cons h (pairedApp r k)
/-! ### lists of states -/
/-- a value that is a state -/
def StV (H : Hp) (x : V) (bs : List Bk) : Prop := ∃ t, x = .ref t ∧ StAt H t bs
theorem StV.kt {H H' : Hp} {x : V} {bs : List Bk} (h : StV H x bs) (k : Kt H H') : StV H' x bs := by
  obtain ⟨t, rfl, h⟩ := h
  exact ⟨t, rfl, k.st h⟩
/-- the values that are these states, one by one -/
abbrev StVs (H : Hp) : List V → List (List Bk) → Prop := Paired (StV H)
theorem StVs.kt {H H' : Hp} {xs : List V} {bss : List (List Bk)} (h : StVs H xs bss) (k : Kt H H') : StVs H' xs bss := Paired.mono (fun _ _ z => z.kt k) h
theorem StVs.snoc {H : Hp} {xs : List V} {bss : List (List Bk)} {x : V} {bs : List Bk} (h : StVs H xs bss) (z : StV H x bs) : StVs H (xs ++ [x]) (bss ++ [bs]) := Paired.snoc h z
def stD (bs : List Bk) : PyData := .tuple (bs.map bD)
theorem stD_depth (bs : List Bk) : (stD bs).depth ≤ 2 := by
  have h1 := bDs_depth bs
  unfold stD
  simp only [PyData.depth]
  omega
/-! ### settings: pairs of a tuple of ints and an int, from a written list -/
def SetV (S : List (List Int × Int)) (H : Hp) (x : V) : Prop := ∃ T c L z, x = .ref T ∧ H T = some (.tup [.ref c, .int z]) ∧ H c = some (.tup (L.map V.int)) ∧ (L, z) ∈ S
/-- *xs in a comprehension -/
theorem pa_starK {X : Cx} {K : PySem.W.Frag} {e : Expr} {es : List Expr} {te : TE} {t : TA} {p : Pos} (ek : X.K = K) (he : PE X e te) (hr : PA X es t) (hs : starEach (.Starred e p :: es) X.env = (true, eval e X.env) :: starEach es X.env := by rfl) : PA X (.Starred e p :: es) (StX.tStar K te t) := by
  subst ek
  exact StX.pa_star he hr hs
theorem sqT_butO {K : PySem.W.Frag} {H H' : Hp} {a d : Addr} {xs : List V} {o : HO} (h : SqT K H a xs) (b : But d H H') (e : H d = some o) (n1 : ∀ ys, o ≠ .tup ys) (n2 : ∀ u ys, o ≠ .frz u (.tup ys)) : SqT K H' a xs := by
  rcases h with (h | ⟨u, h⟩) | h
  · exact .inl (.inl (b a _ (fun z => by rw [z, e] at h; exact n1 _ (Option.some.inj h)) h))
  · exact .inl (.inr ⟨u, b a _ (fun z => by rw [z, e] at h; exact n2 _ _ (Option.some.inj h)) h⟩)
  · exact .inr h
end Ph

set_option maxHeartbeats 4000000
/-! PhKx: dicts keyed by tuples of tuples, told with the keys' own tuples (KDx); read only, also when locked (KDr); walked. -/
namespace Ph
open PySem PySem.Spec PyProof.Rows L2
structure KDx (w : World) (H : Hp) (d : Addr) (xs : List KAV) : Prop where
  ob : H d = some (dkO w d xs)
  sm : (d == sysModules) = false
  ks : ∀ x ∈ xs, Nk H (.ref x.2.1) x.1 ∧ x.1.depth ≤ 8
  nd : (xs.map (·.1)).Nodup
  ln : xs.length ≤ sizeLine
structure KDr (w : World) (H : Hp) (d : Addr) (xs : List KAV) : Prop where
  ob : H d = some (dkO w d xs) ∨ ∃ o, H d = some (.frz o (dkO w d xs))
  sm : (d == sysModules) = false
  ks : ∀ x ∈ xs, Nk H (.ref x.2.1) x.1 ∧ x.1.depth ≤ 8
  nd : (xs.map (·.1)).Nodup
  ln : xs.length ≤ sizeLine
section
variable {w : World} {H H' : Hp} {d : Addr} {xs : List KAV}
theorem KDx.r (k : KDx w H d xs) : KDr w H d xs := ⟨.inl k.ob, k.sm, k.ks, k.nd, k.ln⟩
theorem KDx.keeps (k : KDx w H d xs) (s : ∀ a ys, TuH H a ys → TuH H' a ys) (e : ∀ u, H d = some u → H' d = some u) : KDx w H' d xs :=
  ⟨e _ k.ob, k.sm, fun x hx => ⟨(k.ks x hx).1.keeps s, (k.ks x hx).2⟩, k.nd, k.ln⟩
theorem KDr.keeps (k : KDr w H d xs) (s : ∀ a ys, TuH H a ys → TuH H' a ys) (e : ∀ u, H d = some u → H' d = some u) : KDr w H' d xs :=
  ⟨k.ob.imp (e _) fun ⟨o, h⟩ => ⟨o, e _ h⟩, k.sm, fun x hx => ⟨(k.ks x hx).1.keeps s, (k.ks x hx).2⟩, k.nd, k.ln⟩
theorem KDx.same (k : KDx w H d xs) (s : Same H H') : KDx w H' d xs := k.keeps (fun _ _ e => e.same s) fun _ e => s _ _ e
theorem KDr.same (k : KDr w H d xs) (s : Same H H') : KDr w H' d xs := k.keeps (fun _ _ e => e.same s) fun _ e => s _ _ e
theorem KDx.tu (k : KDx w H d xs) {a : Addr} {zs : List V} (e : TuH H a zs) : a ≠ d := fun z => by
  rw [z] at e
  rcases e with e | ⟨o, e⟩ <;> rw [k.ob] at e <;> cases e
/-- the dict is locked from now on -/
theorem KDx.frz (k : KDx w H d xs) (o : Obj) : KDr w (upd H d (.frz o (dkO w d xs))) d xs :=
  ⟨.inr ⟨o, upd_same⟩, k.sm, fun x hx => ⟨(k.ks x hx).1.keeps fun a zs e => by
    have ne := k.tu e
    rcases e with e | ⟨o, e⟩
    · exact .inl ((upd_ne ne).trans e)
    · exact .inr ⟨o, (upd_ne ne).trans e⟩, (k.ks x hx).2⟩, k.nd, k.ln⟩
theorem But.ktX (b : But d H H') (k : KDx w H d xs) : Kt H H' := fun a o e n1 _ => b a o (fun z => by
  rw [z, k.ob] at e
  exact n1 _ (Option.some.inj e).symm) e
theorem valV_kv2 {k : NestedKey} {x : KAV} (nd : (xs.map (·.1)).Nodup) (hx : x ∈ xs) (e : x.1 = k) : valV (xs.map kv2) k = some x.2.2 := by
  induction xs with
  | nil => cases hx
  | cons y r ih =>
    rw [List.map_cons] at nd
    obtain ⟨n1, n2⟩ := List.nodup_cons.mp nd
    rcases List.mem_cons.mp hx with z | z
    · rw [← z, List.map_cons]
      exact valV_pos (show (kv2 x).1 = k from e)
    · rw [List.map_cons, valV_neg (show ¬ (kv2 y).1 = k from fun q => n1 (by
        rw [show y.1 = k from q, ← e]
        exact List.mem_map.mpr ⟨x, z, rfl⟩))]
      exact ih n2 z
theorem valV_mem2 {k : NestedKey} {v : V} (h : valV (xs.map kv2) k = some v) : ∃ x ∈ xs, x.1 = k ∧ x.2.2 = v := by
  unfold valV at h
  obtain ⟨kv, h1, h2⟩ := Option.map_eq_some_iff.mp h
  have e := List.find?_some h1
  obtain ⟨x, hx, rfl⟩ := List.mem_map.mp (List.mem_of_find?_eq_some h1)
  exact ⟨x, hx, of_decide_eq_true e, h2⟩
theorem putX_new {k : NestedKey} {b : Addr} {v : V} (h : valV (xs.map kv2) k = none) : putX xs k b v = xs ++ [(k, b, v)] := by
  unfold putX
  rw [h]
  rfl
theorem valV_putX {k j : NestedKey} {b : Addr} {v : V} : valV ((putX xs k b v).map kv2) j = if j = k then some v else valV (xs.map kv2) j := by
  rw [putX_map, valV_put]
end
section
variable {X : Cx} {pins : List (Addr × Obj)} {σ : L2.St} {H : Hp} {s : Shared} {d b : Addr} {v : V} {xs : List KAV} {k : NestedKey} {A : Around} {E : Value → Shared → Prop}
theorem kdr_of {P : Program} {w : World} {H : Hp} {h : Heap} {d : Addr} {xs : List KAV} (ok : HOk P w H h) (D : KDr w H d xs) : ∃ ys, NR xs ys ∧ h.DictOfH (nestedKind P w) d ys := by
  have x : ObjOk P w H h d (dkO w d xs) := by
    rcases D.ob with e | ⟨o, e⟩
    · exact ok d _ e
    · exact (show ObjOk P w H h d (.frz o (dkO w d xs)) from ok d _ e).2
  obtain ⟨⟨o, es, ep, ho, hc, hdat, ys, he, r⟩, _⟩ := x
  refine ⟨ys, r, o, es, ep, ho, hc, hdat, he, fun y hy => ?_, by rw [← r.keys]; exact D.nd⟩
  obtain ⟨x, hx, e1, e2, _⟩ := r.mem hy
  have := D.ks x hx
  rw [e1, e2] at this
  exact ⟨this.1.is ok _ rfl, this.2⟩
theorem kdr_get {Q : Value → Shared → Prop} (hu : A.units + 64 < cLine) (I : Inv X pins σ H s) (D : KDr X.w H d xs) (n : Nk H (.ref b) k) (dp : k.depth ≤ 8) (hv : valV (xs.map kv2) k = some v) (h : ∀ w' s', Inv X pins σ H s' → RelV v w' → Q w' s') :
    s.TypeIs (.ref d) "dict" ∧ wpAny (model X.prog X.w) A (getItem (.ref d) (.ref b)) Q E s := by
  obtain ⟨ys, r, dd⟩ := kdr_of I.hok D
  obtain ⟨w', hw, rw'⟩ := RelO.some_of (v := v) (o := (atKey ys k).map (·.2)) (by rw [← hv]; exact r.val k)
  obtain ⟨p, hp, hp2⟩ := Option.map_eq_some_iff.mp hw
  refine ⟨dd.typeIs, wpAny_getItem_heap (nk_room hu) (nk_key I n dp) dd hp ?_⟩
  rw [hp2]
  exact h w' _ (I.tok _) rw'
theorem kdr_notIn {Q : Value → Shared → Prop} (hu : A.units + 64 < cLine) (I : Inv X pins σ H s) (D : KDr X.w H d xs) (n : Nk H (.ref b) k) (dp : k.depth ≤ 8) (h : ∀ s', Inv X pins σ H s' → Q (.bool (!(valV (xs.map kv2) k).isSome)) s') :
    wpAny (model X.prog X.w) A (compareOp .NotIn (.ref b) (.ref d)) Q E s := by
  obtain ⟨ys, r, dd⟩ := kdr_of I.hok D
  refine wpAny_notIn_heap (nk_room hu) (nk_key I n dp) D.sm dd ?_
  have e := (r.val k).isSome_eq
  rw [Option.isSome_map] at e
  rw [← e]
  exact h _ (I.tok _)
theorem kdx_new {w : World} {H : Hp} {xs : List KAV} {k : NestedKey} {b : Addr} {v : V} (hs : (d == sysModules) = false) (hk : ∀ x ∈ xs, Nk H (.ref x.2.1) x.1 ∧ x.1.depth ≤ 8) (n : Nk H (.ref b) k) (dp : k.depth ≤ 8) (hd : ∀ a zs, TuH H a zs → a ≠ d) (nd : ((putX xs k b v).map (·.1)).Nodup) (hl : xs.length < sizeLine) :
    KDx w (upd H d (dkO w d (putX xs k b v))) d (putX xs k b v) := by
  have st : ∀ a zs, TuH H a zs → TuH (upd H d (dkO w d (putX xs k b v))) a zs := fun a zs e => by
    have ne := hd a zs e
    rcases e with e | ⟨o, e⟩
    · exact .inl ((upd_ne ne).trans e)
    · exact .inr ⟨o, (upd_ne ne).trans e⟩
  refine ⟨upd_same, hs, fun x hx => ?_, nd, Nat.le_trans (putX_len xs k b v) hl⟩
  rcases putX_mem hx with ⟨e1, e2⟩ | ⟨y, hy, e1, e2⟩
  · rw [e1, e2]
    exact ⟨n.keeps st, dp⟩
  · rw [e1, e2]
    exact ⟨(hk y hy).1.keeps st, (hk y hy).2⟩
theorem kdx_set {Q : Unit → Shared → Prop} {r : Value} (hu : A.units + 64 < cLine) (I : Inv X pins σ H s) (D : KDx X.w H d xs) (n : Nk H (.ref b) k) (dp : k.depth ≤ 8) (hl : xs.length < sizeLine) (rv : RelV v r)
    (h : ∀ H' s', But d H H' → KDx X.w H' d (putX xs k b v) → Inv X pins σ H' s' → Q () s') : wpAny (model X.prog X.w) A (setItem (.ref d) (.ref b) r) Q E s := by
  obtain ⟨ys, rr, dd⟩ := kdr_of I.hok D.r
  have yl : ys.length ≤ sizeLine := by rw [← Paired.length rr]; exact D.ln
  refine wpAny_setItem_heap (hsz := yl) (nk_room hu) (nk_key I n dp) dd fun h' dd' hsb => ?_
  have r2 := rr.put (k := k) (b := b) rv
  have nd : ((putX xs k b v).map (·.1)).Nodup := by
    obtain ⟨_, _, _, _, _, _, _, _, q⟩ := id dd'
    rw [r2.keys]
    exact q
  refine h _ _ (fun c o nc e => (upd_ne nc).trans e) (kdx_new D.sm D.ks n dp (fun a zs e => D.tu e) nd hl) (I.write (x := d) (e := d) (by rw [D.ob]; exact True.intro) (.inl rfl) (fun c q hc z => (hsb.2 c hc).trans z) ?_ (dkO_ok r2 dd'))
  obtain ⟨q, _, _, hq, _⟩ := dd'
  exact ⟨q, hq⟩
end
/-! ### rules -/
def rXGet (w : World) : R2 := fun x y H Q => ∃ d b xs k v, x = .ref d ∧ y = .ref b ∧ KDr w H d xs ∧ Nk H (.ref b) k ∧ k.depth ≤ 8 ∧ valV (xs.map kv2) k = some v ∧ Q v H
def tXGet (w : World) (td ty : TE) : TE := fun σ H Q => td σ H fun x H1 => ty σ H1 fun y H2 => rXGet w x y H2 Q
def rXIn (w : World) : R2 := fun y x H Q => ∃ d b xs k, x = .ref d ∧ y = .ref b ∧ KDr w H d xs ∧ Nk H (.ref b) k ∧ k.depth ≤ 8 ∧ Q (.bl (valV (xs.map kv2) k).isSome) H
def rXNotIn (w : World) : R2 := fun y x H Q => ∃ d b xs k, x = .ref d ∧ y = .ref b ∧ KDr w H d xs ∧ Nk H (.ref b) k ∧ k.depth ≤ 8 ∧ Q (.bl (!(valV (xs.map kv2) k).isSome)) H
def sXPut (w : World) (td ty tv : TE) : TS := fun D σ H => tv σ H fun v H1 => td σ H1 fun x H2 => ty σ H2 fun y H3 => ∃ d b xs k, x = .ref d ∧ y = .ref b ∧ KDx w H3 d xs ∧ Nk H3 (.ref b) k ∧ k.depth ≤ 8 ∧ xs.length < sizeLine ∧
  ∀ H4, But d H3 H4 → KDx w H4 d (putX xs k b v) → D.nx σ H4
section
variable {X : Cx} {o i value : Expr} {pos pos' : Pos} {td ty tv : TE}
theorem pe_xget (hu : X.A.units + 64 < cLine) (ho : PE X o td) (hi : PE X i ty) (hs : NoSl i) : PE X (.Subscript o i pos) (tXGet X.w td ty) := by
  refine ⟨fun pins s σ H Q I h => ?_⟩
  refine subD_of PySem.F.slot_dict_getitem.lookup hs (thn (ho.run pins s σ H _ I h) fun u s1 ⟨x, H1, I1, rx, q1⟩ => thn (hi.run pins s1 σ H1 _ I1 q1) fun iv s2 w2 => ?_)
  obtain ⟨y, H2, I2, ry, d, b, xs, k, v, rfl, rfl, D, n, dp, hv, q⟩ := w2
  obtain rfl : u = Value.ref d := rx
  obtain rfl : iv = Value.ref b := ry
  exact kdr_get hu I2 D n dp hv fun w' s3 I3 rw' => ⟨v, H2, I3, rw', q⟩
theorem op_xNotIn (hu : X.A.units + 64 < cLine) : OpR X (compareOp .NotIn) (rXNotIn X.w) := by
  intro pins s σ H x y v u Q I rx ry h
  obtain ⟨d, b, xs, k, rfl, rfl, D, n, dp, q⟩ := h
  obtain rfl : v = Value.ref b := rx
  obtain rfl : u = Value.ref d := ry
  exact kdr_notIn hu I D n dp fun s3 I3 => ⟨.bl _, H, I3, rfl, q⟩
theorem ps_xput (hu : X.A.units + 64 < cLine) (ho : PE X o td) (hi : PE X i ty) (hv : PE X value tv) (hs : swapsWith value (some (.Subscript o i pos')) pos.line X.env = pure false) : PS X (.Assign [.Subscript o i pos'] value pos) (sXPut X.w td ty tv) := by
  refine ⟨fun pins s σ H D I h => ?_⟩
  refine wpAny_Assign_Subscript (thn (hv.run pins s σ H _ I h) fun r s1 ⟨v, H1, I1, rv, q1⟩ => thn (ho.run pins s1 σ H1 _ I1 q1) fun u s2 ⟨x, H2, I2, rx, q2⟩ => thn (hi.run pins s2 σ H2 _ I2 q2) fun iv s3 w3 => ?_) hs
  obtain ⟨y, H3, I3, ry, d, b, xs, k, rfl, rfl, K, n, dp, hl, q⟩ := w3
  obtain rfl : u = Value.ref d := rx
  obtain rfl : iv = Value.ref b := ry
  exact kdx_set hu I3 K n dp hl rv fun H4 s4 b4 k4 I4 => ⟨σ, H4, I4, q H4 b4 k4⟩
def tXNew (w : World) : TE := fun _ H Q => ∀ d H', H d = none → Same H H' → KDx w H' d [] → Q (.ref d) H'
theorem kdx_nil {w : World} {H : Hp} {d : Addr} (hs : (d == sysModules) = false) : KDx w (upd H d (dkO w d [])) d [] := ⟨upd_same, hs, (fun _ z => nomatch z), List.nodup_nil, Nat.zero_le _⟩
theorem pe_xnew : PE X (.Dict [] [] pos) (tXNew X.w) := ⟨fun pins s σ H Q I h => by
  obtain ⟨hd, I1⟩ := kd_laid I
  exact wpAny_Dict_empty ⟨.ref s.heap.objs.size, _, I1, rfl, h _ _ (I.hok.fresh (Nat.le_refl _)) (same_upd (I.hok.fresh (Nat.le_refl _))) (kdx_nil hd)⟩⟩
/-- {k: v} -/
def tXOne (w : World) (tk tv : TE) : TE := fun σ H Q => ∀ d H0, H d = none → Same H H0 → KDx w H0 d [] → tk σ H0 fun y H1 => tv σ H1 fun v H2 => ∃ b k, y = .ref b ∧ KDx w H2 d [] ∧ Nk H2 (.ref b) k ∧ k.depth ≤ 8 ∧ ∀ H3, But d H2 H3 → KDx w H3 d [(k, b, v)] → Q (.ref d) H3
theorem pe_xone {ke ve : Expr} {tk tv : TE} (hu : X.A.units + 64 < cLine) (hk : PE X ke tk) (hv : PE X ve tv) : PE X (.Dict [some ke] [ve] pos) (tXOne X.w tk tv) := by
  refine ⟨fun pins s σ H Q I h => ?_⟩
  obtain ⟨hd, I1⟩ := kd_laid I
  have fresh := I.hok.fresh (Nat.le_refl s.heap.objs.size)
  have wish := h _ _ fresh (same_upd fresh) (kdx_nil hd)
  rw [arm_eval_Dict, zip_pairTrees [some ke] [ve] X.env pos rfl rfl, dictDisplay_pairs _ (by intro z; cases z) (by show 1 < _; decide)]
  refine wpAny_bind (wpAny_standAt (wpAny_bind (wpAny_subDictH (knd := nestedKind X.prog X.w) (nk_roomD hu) (by show 1 ≤ 15; decide) ?_)))
  refine pairTrees_cons_walk (thn (hk.run pins _ σ _ _ I1 wish) fun u s1 w1 => ?_)
  obtain ⟨y, H1, J1, ry, q1⟩ := w1
  refine thn (hv.run pins s1 σ H1 _ J1 q1) fun r s2 w2 => ?_
  obtain ⟨v, H2, J2, rv, b, k, rfl, D, n, dp, q⟩ := w2
  obtain rfl : u = Value.ref b := ry
  refine pairTrees_nil_walk ⟨[(k, b, r)], ⟨rfl, rfl, nk_key J2 n dp, trivial⟩, ?_⟩
  obtain ⟨ys, rr, dd⟩ := kdr_of J2.hok D.r
  cases rr
  refine ⟨dd, fun h' tk dd' hsb => wpAny_pure ?_⟩
  have r2 := NR.put (xs := []) (ys := []) .nil (k := k) (b := b) rv
  have nd : ((putX [] k b v).map (·.1)).Nodup := by
    show [k].Nodup
    exact List.nodup_cons.mpr ⟨(fun z => nomatch z), List.nodup_nil⟩
  obtain ⟨o, ho⟩ : ∃ o, h'.get? s.heap.objs.size = some o := by
    obtain ⟨o, _, _, ho, _⟩ := id dd'
    exact ⟨o, ho⟩
  have J3 := J2.write (t' := tk) (x := s.heap.objs.size) (e := s.heap.objs.size) (by rw [D.ob]; exact True.intro) (.inl rfl) (fun c o hc z => (hsb.2 c hc).trans z) ⟨o, ho⟩ (dkO_ok r2 dd')
  exact ⟨.ref s.heap.objs.size, _, J3, rfl, q _ (fun c o nc e => (upd_ne nc).trans e) (kdx_new D.sm D.ks n dp (fun a zs e => D.tu e) nd (by show 0 < sizeLine; decide))⟩
end
/-! ### for k in d -/
/-- the keys of the locked dict at d, in their order -/
def Itx (w : World) (d : Addr) (o : Obj) (xs : List KAV) : It :=
  ⟨fun i H => H d = some (.frz o (dkO w d xs)) ∧ i < xs.length, fun i H x H' => H' = H ∧ ∃ e, xs[i]? = some e ∧ x = .ref e.2.1, fun i H => H d = some (.frz o (dkO w d xs)) ∧ xs.length ≤ i⟩
theorem nr_get {xs : List KAV} {ys : List (NestedKey × Addr × Value)} {i : Nat} {e : KAV} (r : NR xs ys) (h : xs[i]? = some e) : ∃ y, ys[i]? = some y ∧ e.2.1 = y.2.1 := by
  obtain ⟨y, hy, z⟩ := Paired.get r h
  exact ⟨y, hy, z.2.1⟩
section
variable {P : Program} {w : World} {K : PySem.W.Frag} {tg : Expr} {d : Addr} {o : Obj} {es : Array DictEntry} {ep : Nat}
theorem inv_frzX {X : Cx} {pins : List (Addr × Obj)} {σ : L2.St} {H : Hp} {s : Shared} {xs : List KAV} (I : Inv X pins σ H s) (h : H d = some (.frz o (dkO w d xs))) :
    s.heap.get? d = some o ∧ o.ExactDict ∧ ∃ (es : Array DictEntry) (ep : Nat), o.data = .dict es ep ∧ es.size = xs.length ∧ ∀ (i : Nat) (e : KAV), xs[i]? = some e → ∃ en : DictEntry, es[i]? = some en ∧ en.key = .ref e.2.1 := by
  obtain ⟨hd, ⟨⟨o', es, ep, ho, hx, hdt, ys, he, r⟩, _⟩⟩ := (show ObjOk X.prog X.w H s.heap d (.frz o (dkO w d xs)) from I.hok d _ h)
  rw [hd] at ho
  cases ho
  have l1 : es.size = ys.length := by
    have := congrArg List.length he
    rw [List.length_map] at this
    simpa using this
  have l2 := Paired.length r
  refine ⟨hd, hx, es, ep, hdt, by omega, fun i e z => ?_⟩
  obtain ⟨y, hy, ey⟩ := nr_get r z
  have q : es.toList[i]? = some (enK w y) := by rw [he, List.getElem?_map, hy]; rfl
  rw [Array.getElem?_toList] at q
  exact ⟨_, q, by rw [ey]; rfl⟩
theorem turn_keysX {xs : List KAV} (it : Addr) (hod : o.data = .dict es ep) : Turn P w K tg (Itx w d o xs) [it] it (fun i h => h.IsKeyIter it d i xs.length ep) where
  mem := by simp
  obj := fun i h st b hb => by
    have e : b = it := by simpa using hb
    subst e
    obtain ⟨oi, e, c, dd⟩ := st
    exact ⟨oi, e, fun v z => by rw [dd] at z; cases z⟩
  keep := fun i h h' st k => st.at fun oi e => k it (by simp) oi e
  item := by
    intro X hP hw hK hc i pins s σ H E I hf st hg
    subst hP hw hK
    obtain ⟨hd, hi⟩ := hg
    obtain ⟨f0, f1, f2, f3, f4, f5⟩ := hf it (by simp)
    obtain ⟨hgd, hx, es', ep', hdt, hsz, ent⟩ := inv_frzX I hd
    obtain ⟨rfl, rfl⟩ := dict_ep hod hdt
    obtain ⟨e0, he0⟩ : ∃ p, xs[i]? = some p := ⟨xs[i], List.getElem?_eq_getElem hi⟩
    obtain ⟨en, hen, hkey⟩ := ent i e0 he0
    refine next_key_item st hgd hdt hsz hen fun h' st' sb => ?_
    have I1 : Inv X pins σ H { s with heap := h' } := I.turned (t' := s.toks) (fun b ob hb e => (sb.2 b hb).trans e) f0 f1 f3 f4 f5
    obtain ⟨oi, e, c, dd⟩ := id st'
    exact ⟨en.key, rfl, go_of (s := { s with heap := h' }) e c dd (by decide) ⟨.ref e0.2.1, H, I1, hkey, ⟨rfl, e0, he0, rfl⟩, st', fun b hb => (hf b hb).1⟩⟩
  done := by
    intro X hP hw hK hc i pins s σ H E I hf st hg
    subst hP hw hK
    obtain ⟨hd, hi⟩ := hg
    obtain ⟨f0, f1, f2, f3, f4, f5⟩ := hf it (by simp)
    obtain ⟨hgd, hx, es', ep', hdt, hsz, ent⟩ := inv_frzX I hd
    obtain ⟨rfl, rfl⟩ := dict_ep hod hdt
    exact next_key_end (I.ok.hd hc) st hgd hdt hsz hi fun h' eb => ⟨rfl, I.turned (t' := s.toks) (fun b ob hb e => eb b ob hb e) f0 f1 f3 f4 f5⟩
  self := fun A i s Q E st h => by
    refine wpAny_pyIter_slot st.typeIs F.slot_dict_keyiterator_iter (wpAny_call_entry F.slot_dict_keyiterator_iter st.typeIs F.entry_dict_keyiterator_iter ?_ (F.args_dict_keyiterator_iter_1 _))
    show wpAny _ _ (ret (.ref it)) _ _ s
    exact wpAny_pure ⟨_, rfl, "dict_keyiterator", _, st.typeIs, F.slot_dict_keyiterator_next.lookup, h⟩
end
def iXKeys (w : World) (td : TE) : TI := fun σ H R => td σ H fun x H1 => ∃ d o xs, x = .ref d ∧ (d == sysModules) = false ∧ H1 d = some (.frz o (dkO w d xs)) ∧ R (Itx w d o xs) H1
theorem pi_xkeys {X : Cx} {tg e : Expr} {td : TE} (he : PE X e td) : L2.PI X tg e (iXKeys X.w td) := by
  refine ⟨fun pins s σ H R I h => ?_⟩
  refine thn (he.run pins s σ H _ I h) fun u s1 ⟨x, H1, I1, rx, d, o, xs, ex, sm, hd, q⟩ => ?_
  subst ex
  obtain rfl : u = Value.ref d := rx
  obtain ⟨hgd, hx, es, ep, hdt, hsz, ent⟩ := inv_frzX I1 hd
  refine iter_keys sm hgd hx hdt (pi_one (tk := s1.toks) I1 _ (turn_keysX _ hdt) ⟨_, Heap.get?_push_size _ rfl, rfl, ?_⟩ q)
  rw [hsz] <;> rfl
theorem walk_xkeys {w : World} {d : Addr} {o : Obj} {xs : List KAV} : Walk (Itx w d o xs) xs.length (fun H => H d = some (.frz o (dkO w d xs))) (fun i H x H' => H' = H ∧ ∃ e, xs[i]? = some e ∧ x = .ref e.2.1) :=
  ⟨fun i _ hi q => ⟨q, hi⟩, fun _ q => ⟨q, Nat.le_refl _⟩, fun _ _ _ _ _ q y => y⟩
end Ph

set_option maxHeartbeats 4000000
/-! PhSt: sorted of tuples that compare, empty ones too. -/
namespace Ph
open PySem PySem.Spec PyProof.Rows L2 PySem.W SeqAt
section
variable {prog : Program} {w : World} {A : Around} {E : Value → Shared → Prop} {s : Shared}
/-- a tuple's own < -/
theorem call_tuple_ltT {Q : Value → Shared → Prop} {l b : Addr} {us vs : Array Value} {e r : Nat → Bool} (hl : s.heap.IsTuple l us) (hb : s.heap.IsTuple b vs)
    (he : ∀ j (j1 : j < us.size) (j2 : j < vs.size), EqAt A.in1 s us[j] vs[j] (e j)) (hr : ∀ j (j1 : j < us.size) (j2 : j < vs.size), e j = false → RcLt A.in1 s us[j] vs[j] (r j))
    (h : Q (.bool (firstLt e r (decide (us.size < vs.size)) (List.range (min us.size vs.size)))) s) : wpAny (model prog w) A (call (.builtin "tuple.__lt__") [.ref l, .ref b]) Q E s := by
  obtain ⟨⟨k1, d1, t1, s1⟩, o1, c1, n1, e1⟩ := id hl
  obtain ⟨⟨k2, d2, t2, s2⟩, o2, c2, n2, e2⟩ := id hb
  dsimp only at c1 e1 c2 e2
  subst c1 e1 c2 e2
  refine call_meets F.slot_tuple_lt ⟨_, o1, rfl⟩ F.entry_tuple_lt (F.args_tuple_lt_2 _ _) (tuple_ltAt l b us vs n1 n2 d1 d2 s1 s2 e r) ?_
  exact ⟨o1, o2, he, hr, h⟩
theorem oneLt_alikeT {f : Bool} {xs ys : List PyData} {a b : Value} {as bs : List Addr} {Q : Bool → Shared → Prop} (ra : Reads s.heap a (.tuple xs) as) (rb : Reads s.heap b (.tuple ys) bs) (h : alike (.tuple xs) (.tuple ys) = true)
    (hu : A.units + min (PyData.tuple xs).depth (PyData.tuple ys).depth < cLine) (hq : Q (dataLt (.tuple xs) (.tuple ys)) s) : wpAny (model prog w) A (oneLt' f a b) Q E s := by
  cases f with
  | false => exact oneLt_alike (fun z => by cases z) ra rb h (fun z => by cases z) hu hq
  | true =>
    have hal : alikeAll xs ys = true := by simpa [alike] using h
    cases ra with
    | @tuple l o vs n _ as₁ h1 h2 h3 h4 =>
      cases rb with
      | @tuple l' o' vs' n' _ bs₁ k1 k2 k3 k4 =>
        have n1 : vs.size = xs.length := by simpa using ReadsAll.length _ _ _ h4
        have n2 : vs'.size = ys.length := by simpa using ReadsAll.length _ _ _ k4
        rw [dataLt_tuple, ← firstLt_toks xs ys hal, ← n1, ← n2] at hq
        rw [oneLt'_eq]
        simp only [if_true]
        refine wpAny_bind (wpAny_cRoomFor (room_here hu) ?_)
        refine wpAny_bind (wpAny_callSpecialIfBound?_slot (T := "tuple") ⟨_, h1, h2⟩ F.slot_tuple_lt (call_tuple_ltT (e := pairEq xs ys) (r := fun j => dataLt (xs.getD j .none) (ys.getD j .none)) ⟨_, h1, h2, _, h3⟩ ⟨_, k1, k2, _, k3⟩ (fun j j1 j2 => ?_) (fun j j1 j2 hj => ?_) ?_))
        · have := eqAt_alikeAll xs ys A.in1 s vs.toList vs'.toList _ _ h4 k4 hal (room_in hu) j (by simpa using j1) (by simpa using j2)
          simpa using this
        · have := rcLt_alikeAll xs ys A.in1 s vs.toList vs'.toList _ _ h4 k4 hal (room_in hu) j (by simpa using j1) (by simpa using j2) hj
          simpa using this
        · exact wpAny_truthy_bool hq
def noItem : PyData → Bool
  | .tuple [] => true
  | _ => false
theorem firsts_any {M : Model} : ∀ (vs : List Value) (ds : List PyData) {Q : List (Option Value) → Shared → Prop}, EachIs (fun v d => ∃ as, Reads s.heap v d as) vs ds → (∀ d ∈ ds, ∃ xs, d = .tuple xs) →
    (∀ fs, Paired (fun f d => Option.isSome f = !noItem d) fs ds → Q fs s) → wpAny M A (vs.mapM firstOfTuple') Q E s
  | [], _, _, .nil, _, h => by rw [List.mapM_nil]; exact wpAny_pure (h _ .nil)
  | v :: vs, d :: ds, Q, .cons ⟨as, r⟩ t, ht, h => by
    obtain ⟨xs, rfl⟩ := ht d (List.mem_cons_self ..)
    cases r with
    | @tuple a o ys n _ _ ho hc hd hr =>
      rw [List.mapM_cons]
      refine wpAny_bind ?_
      rw [kas_first_eq]
      refine wpAny_bind (Looks.here (show Looks M s.heap (typeOf (.ref a)) o.cls from (Looks.ld ho).andThen .now) ?_)
      rw [hc, if_neg (by first | decide | simp)]
      refine wpAny_bind (listItems_at ho hd (wpAny_pure ?_))
      refine wpAny_bind (firsts_any vs ds (Q := fun bs s' => wpAny M A (pure (ys[0]? :: bs)) Q E s') t (fun d hd => ht d (List.mem_cons_of_mem _ hd)) fun fs hf => wpAny_pure (h _ (.cons ?_ hf)))
      have l := ReadsAll.length _ _ _ hr
      cases xs with
      | nil =>
        have : ys.size = 0 := by simpa using l
        rw [Array.getElem?_eq_none (by omega)]
        rfl
      | cons x r =>
        have : ys.size = r.length + 1 := by simpa using l
        rw [Array.getElem?_eq_getElem (by omega)]
        rfl
theorem SortsAt.dataT {vs : List Value} {ds : List PyData} (e : EachIs (fun v d => ∃ as, Reads s.heap v d as) vs ds) (hal : AllAlike ds) (ht : ∀ d ∈ ds, ∃ xs, d = .tuple xs) (hu : ∀ d, d ∈ ds → A.units + d.depth < cLine) : SortsAt prog w A s (dataKind s.heap ds) vs := by
  by_cases all : ∀ d ∈ ds, noItem d = false
  · refine SortsAt.data e hal (.inl fun d hd => ?_) hu
    obtain ⟨xs, rfl⟩ := ht d hd
    have := all _ hd
    cases xs with
    | nil => cases this
    | cons x r => exact ⟨x, r, rfl⟩
  · have room : ∀ {d d' : PyData}, d ∈ ds → A.units + min d.depth d'.depth < cLine := fun {d d'} hd => Nat.lt_of_le_of_lt (Nat.add_le_add_left (Nat.min_le_left _ _) _) (hu d hd)
    have lt : ∀ f, ∀ (E : Value → Shared → Prop) (x y : Value) (a b : List (Int ⊕ List Nat)) (Q : Bool → Shared → Prop), (dataKind s.heap ds).keyOf x = some a → (dataKind s.heap ds).keyOf y = some b → Q (PyProof.Rows.lexLt itemOrd a b) s → wpAny (model prog w) A (oneLt' f x y) Q E s := by
      intro f E x y a b Q ha hb hq
      obtain ⟨d, as, hd, ra, rfl⟩ := dataKind_inv ha
      obtain ⟨d', as', hd', rb, rfl⟩ := dataKind_inv hb
      obtain ⟨xs, rfl⟩ := ht d hd
      obtain ⟨ys, rfl⟩ := ht d' hd'
      exact oneLt_alikeT ra rb (hal _ hd _ hd') (room hd) hq
    have types : ∀ v ∈ vs, Looks (model prog w) s.heap (typeOf v) (Value.type "tuple") := fun v hv => by
      obtain ⟨d, hd, as, r⟩ := e.left v hv
      obtain ⟨xs, rfl⟩ := ht d hd
      exact looks_reads r
    have some_no : ∀ {fs : List (Option Value)}, Paired (fun f d => Option.isSome f = !noItem d) fs ds → ¬ (fs.toArray.all fun x => x.isSome) = true := fun {fs} hf z => all fun d hd => by
      obtain ⟨f, hfm, e2⟩ : ∃ f ∈ fs, Option.isSome f = !noItem d := by
        clear e hal ht hu all room lt types z
        induction hf with
        | nil => cases hd
        | @cons f' d' fs' ds' h t ih =>
          rcases List.mem_cons.mp hd with q | q
          · subst q; exact ⟨f', List.mem_cons_self .., h⟩
          · obtain ⟨f, h1, h2⟩ := ih q
            exact ⟨f, List.mem_cons_of_mem _ h1, h2⟩
      have z2 : ∀ x ∈ fs, x.isSome = true := by simpa using z
      rw [z2 f hfm] at e2
      simpa using e2.symm
    refine ⟨fun v hv => ?_, ?_⟩
    · obtain ⟨d, hd, as, r⟩ := e.left v hv
      exact ⟨_, dataKind_some hal hd r⟩
    · cases ds with
      | nil => exact absurd (fun d hd => nomatch hd) all
      | cons d₀ ds₀ =>
        by_cases f0 : noItem d₀ = true
        · refine ⟨oneType', fun E x y a b Q ha hb hq => ?_, fun h2 E Q hq => ?_⟩
          · rw [keyLt'_oneType]
            exact lt true E x y a b Q ha hb hq
          · rw [keyKind'_eq, List.mapM_toArray, map_eq_pure_bind]
            refine wpAny_bind (wpAny_bind (firsts_any vs _ e ht fun fs hf => wpAny_pure ?_))
            rw [if_neg (some_no hf)]
            cases hf with
            | @cons f' _ fs' _ h t =>
              rw [f0] at h
              have e0 : f' = none := by cases f' with | none => rfl | some x => cases h
              subst e0
              rw [if_neg (by simp)]
              rw [oneTypeOnly'_eq, List.mapM_toArray, map_eq_pure_bind]
              refine wpAny_bind (wpAny_bind (wpAny_bind (kas_mapM (r := Value.type "tuple") _ (fun v hv Q' hq => (types v hv).here hq) (wpAny_pure ?_))))
              obtain ⟨v₁, rest, rfl⟩ : ∃ v₁ rest, vs = v₁ :: rest := by
                cases vs with
                | nil => simp at h2
                | cons v r => exact ⟨v, r, rfl⟩
              have hall : ((List.map (fun _ => Value.type "tuple") (v₁ :: rest)).toArray.all fun x => x == Value.type "tuple") = true := by
                simp only [List.all_toArray, List.all_map, List.all_eq_true]
                intro _ _
                exact beq_self_eq_true _
              have h0 : (List.map (fun _ => Value.type "tuple") (v₁ :: rest)).toArray[0]? = some (Value.type "tuple") := by simp
              rw [h0]
              simp only [hall, if_true]
              exact wpAny_pure (wpAny_pure hq)
        · refine ⟨general', fun E x y a b Q ha hb hq => lt false E x y a b Q ha hb hq, fun h2 E Q hq => ?_⟩
          rw [keyKind'_eq, List.mapM_toArray, map_eq_pure_bind]
          refine wpAny_bind (wpAny_bind (firsts_any vs _ e ht fun fs hf => wpAny_pure ?_))
          rw [if_neg (some_no hf)]
          cases hf with
          | @cons f' _ fs' _ h t =>
            have f0 : noItem d₀ = false := by simpa using f0
            rw [f0] at h
            rw [if_pos (by simpa using h)]
            exact wpAny_pure hq
end
/-! ### sorted of tuples -/
def rSortedT (K : PySem.W.Frag) : List V → Hp → VK → Prop := fun vs H Q => ∃ (a : Addr) (xs : List V) (D : V → PyData), vs = [V.ref a] ∧ SqL K H a xs ∧ (∀ x ∈ xs, Dp K H x (D x)) ∧ AllAlike (xs.map D) ∧ (∀ x ∈ xs, ∃ ds, D x = .tuple ds) ∧ (∀ x ∈ xs, (D x).depth ≤ 40) ∧
  ∀ (ys : List V) (p : Addr), ys.Perm xs → ys = xs.mergeSort (dataLe false D) → H p = none → Q (.ref p) (upd H p (.lst ys))
theorem reads_each {X : Cx} {pins : List (Addr × Obj)} {σ : L2.St} {H : Hp} {s : Shared} (I : Inv X pins σ H s) {D : V → PyData} {xs : List V} {its : List Value} (rv : Vals xs its) (hd : ∀ x ∈ xs, Dp X.K H x (D x)) : EachIs (fun v x => ∃ as, Reads s.heap v (D x) as) its xs := by
  induction rv with
  | nil => exact .nil
  | cons r t ih => exact .cons (Dp.reads I _ _ _ (hd _ (List.mem_cons_self ..)) r) (ih fun x hx => hd x (List.mem_cons_of_mem _ hx))
theorem cr_sortedT' {X : Cx} (hu : X.A.units + 64 < cLine) : CallR X (.builtin "sorted") (rSortedT X.K) := by
  intro pins s σ H vs us Q I r h
  obtain ⟨a, xs, D, rfl, hs, hd, al, tp, dp, q⟩ := h
  obtain ⟨its, rv, pl, hz⟩ := I.list hs
  rw [Vals.ref1 r]
  have ln := rv.length
  have er := reads_each I rv hd
  have er2 : EachIs (fun v x => ∃ as, Reads (sortingHeap (copyHeap s.heap its) (s.heap.objs.size + 1) its) v (D x) as) its xs := er.mono fun _ _ ⟨as, z⟩ => ⟨as, PyProof.Rows.Reads.keeps (fun _ _ => sorting_copy_old) z⟩
  have tps : ∀ d ∈ xs.map D, ∃ ds, d = PyData.tuple ds := fun d hd => by
    obtain ⟨x, hx, rfl⟩ := List.mem_map.mp hd
    exact tp x hx
  have room : ∀ d, d ∈ xs.map D → X.A.in1.in1.units + d.depth < cLine := fun d hd => by
    obtain ⟨x, hx, rfl⟩ := List.mem_map.mp hd
    have := dp x hx
    show X.A.units + 1 + 1 + _ < cLine
    omega
  have rel : EachIs (fun v x => RelV x v) its xs := each_of rv
  refine sorted_vals (prog := X.prog) (w := X.w) (A := X.A) (κ := dataKind _ (xs.map D)) pl.isList (SortsAt.dataT (s := { s with heap := sortingHeap (copyHeap s.heap its) (s.heap.objs.size + 1) its }) (each_map (R := fun v d => ∃ as, Reads (sortingHeap (copyHeap s.heap its) (s.heap.objs.size + 1) its) v d as) D er2) al tps room) (by rw [← ln]; exact hz) ?_
  have rv2 : Vals (xs.mergeSort (dataLe false D)) (sortVals (dataKind (sortingHeap (copyHeap s.heap its) (s.heap.objs.size + 1) its) (xs.map D)) false its its) := of_each (sortVals_data false rel er2 al)
  generalize sortVals (dataKind (sortingHeap (copyHeap s.heap its) (s.heap.objs.size + 1) its) (xs.map D)) false its its = out at *
  obtain ⟨c, hc⟩ := PyProof.Rows.sortedAll_at s.heap its out.toArray
  have hz2 : s.heap.objs.size ≤ s.heap.objs.size + 1 := Nat.le_succ _
  have hl2 : (xs.mergeSort (dataLe false D)).length ≤ sizeLine := by rw [List.length_mergeSort, ln]; omega
  exact ⟨.ref (s.heap.objs.size + 1), _, I.laid (t' := s.toks) (o := .lst (xs.mergeSort (dataLe false D))) (fun _ _ => PyProof.Rows.sortedAll_old) hz2 ⟨hl2, out, c, rv2, hc⟩, rfl, q _ _ (List.mergeSort_perm ..) rfl (I.hok.fresh hz2)⟩
/-! ### states sorted -/
theorem bD_alike (a b : Int × Int) : alike (bD a) (bD b) = true := by simp [bD, alike, alikeAll]
theorem bDs_alike : ∀ (l m : List (Int × Int)), alikeAll (l.map bD) (m.map bD) = true
  | [], _ => by simp [alikeAll]
  | _ :: _, [] => by simp [alikeAll]
  | a :: l, b :: m => by
    rw [List.map_cons, List.map_cons]
    simp only [alikeAll, bD_alike, bDs_alike l m, Bool.and_self]
theorem paired_perm {α β : Type} {R : α → β → Prop} {xs ys : List α} (p : ys.Perm xs) : ∀ {bs : List β}, Paired R xs bs → ∃ cs, Paired R ys cs ∧ cs.Perm bs := by
  induction p with
  | nil => exact fun h => ⟨_, h, .refl _⟩
  | cons x _ ih =>
    intro bs h
    cases h with
    | cons h t =>
      obtain ⟨cs, h1, h2⟩ := ih t
      exact ⟨_, .cons h h1, h2.cons _⟩
  | swap x y l =>
    intro bs h
    cases h with
    | cons h t =>
      cases t with
      | cons h' t => exact ⟨_, .cons h' (.cons h t), .swap ..⟩
  | trans _ _ i1 i2 =>
    intro bs h
    obtain ⟨cs, h1, h2⟩ := i2 h
    obtain ⟨ds, h3, h4⟩ := i1 h1
    exact ⟨ds, h3, h4.trans h2⟩
end Ph

set_option maxHeartbeats 4000000
/-! PhKy: list(d) of such a dict; d[k] op= e. -/
namespace Ph
open PySem PySem.Spec PyProof.Rows L2
theorem kdr_raw {P : Program} {w : World} {H : Hp} {h : Heap} {d : Addr} {xs : List KAV} (ok : HOk P w H h) (D : KDr w H d xs) :
    ∃ (o : Obj) (es : Array DictEntry) (ep : Nat), h.get? d = some o ∧ o.ExactDict ∧ o.data = .dict es ep ∧ es.size = xs.length ∧ ∀ (i : Nat) (en : DictEntry), es[i]? = some en → ∃ e, xs[i]? = some e ∧ en.key = .ref e.2.1 ∧ RelV e.2.2 en.val := by
  have x : ObjOk P w H h d (dkO w d xs) := by
    rcases D.ob with e | ⟨o, e⟩
    · exact ok d _ e
    · exact (show ObjOk P w H h d (.frz o (dkO w d xs)) from ok d _ e).2
  obtain ⟨⟨o, es, ep, ho, hc, hdat, ys, he, r⟩, _⟩ := x
  have l1 : es.size = ys.length := by
    have := congrArg List.length he
    rw [List.length_map] at this
    simpa using this
  have l2 := Paired.length r
  refine ⟨o, es, ep, ho, hc, hdat, by omega, fun i en h => ?_⟩
  have q : es.toList[i]? = some en := by rw [Array.getElem?_toList]; exact h
  rw [he, List.getElem?_map] at q
  obtain ⟨y, hy, e2⟩ := Option.map_eq_some_iff.mp q
  obtain ⟨e, h1, _, h3, h4⟩ := Paired.get2 r hy
  exact ⟨e, h1, by rw [← e2, h3]; rfl, by rw [← e2]; exact h4⟩
section
variable {X : Cx}
theorem call_listX (hc : X.calm = true) : CallR X (.type "list") (fun vs H Q => ∃ d xs, vs = [V.ref d] ∧ KDr X.w H d xs ∧ ∀ p, H p = none → Q (.ref p) (upd H p (.lst (xs.map fun x => V.ref x.2.1)))) := by
  intro pins s σ H vs us Q I r h
  obtain ⟨d, xs, rfl, D, q⟩ := h
  obtain ⟨u, rfl, rx⟩ := r.one
  cases rx
  obtain ⟨o, es, ep, ho, hx, hdt, hsz, ent⟩ := kdr_raw I.hok D
  have ln := D.ln
  refine PySem.W.kdl_call (kdl_raw D.sm hx hdt) (I.ok.hd hc) ho (by omega) fun h' tk acc' c' kp e it => ?_
  have rv : Vals (xs.map fun x => V.ref x.2.1) acc'.toList := vals_of_at (by rw [List.length_map, Array.length_toList]; exact hsz.symm.trans it.1.symm) fun j x u h1 h2 => by
    obtain ⟨en, hen, hv⟩ := it.2 j u (by rw [← Array.getElem?_toList]; exact h2)
    obtain ⟨e0, h3, h4, _⟩ := ent j en hen
    rw [List.getElem?_map, h3] at h1
    cases h1
    rw [hv, h4]
    rfl
  have hz : (xs.map fun x => V.ref x.2.1).length ≤ sizeLine := by rw [List.length_map]; exact ln
  refine ⟨.ref s.heap.objs.size, _, I.laid (t' := tk) (o := .lst (xs.map fun x => V.ref x.2.1)) kp (Nat.le_refl _) ?_, rfl, q _ (I.hok.fresh (Nat.le_refl _))⟩
  exact ⟨hz, acc'.toList, c', rv, by rw [Array.toArray_toList]; exact e⟩
end
/-- d[k] op= e -/
def sKAug (w : World) (td ty tv : TE) (rd : V → V → Hp → VK → Prop) : TS := fun D σ H => td σ H fun x H1 => ty σ H1 fun y H2 => ∃ d b kvs k v, x = .ref d ∧ y = .ref b ∧ KD w H2 d kvs ∧ Nk H2 (.ref b) k ∧ k.depth ≤ 8 ∧ valV kvs k = some v ∧
  tv σ H2 fun y2 H3 => rd v y2 H3 fun z H4 => KD w H4 d kvs ∧ Nk H4 (.ref b) k ∧ kvs.length < sizeLine ∧ ∀ H5, But d H4 H5 → KD w H5 d (putK kvs k z) → D.nx σ H5
section
variable {X : Cx} {o i value : Expr} {pos tpos : Pos} {td ty tv : TE}
theorem ps_kaug {op : Operator} {rd : V → V → Hp → VK → Prop} (hu : X.A.units + 64 < cLine) (ho : PE X o td) (hi : PE X i ty) (hv : PE X value tv) (hop : InOp X op rd)
    (ha : ∀ ov iv new, augStore i ov iv new = (do holding [new, ov, iv] (setItem ov iv new); release [new, ov, iv] []; pure .next) := by intros; rfl) : PS X (.AugAssign (.Subscript o i tpos) op value pos) (sKAug X.w td ty tv rd) := by
  refine ⟨fun pins s σ H D I h => ?_⟩
  refine wpAny_AugAssign_SubscriptAny (thn (ho.run pins s σ H _ I h) fun u s1 ⟨x, H1, I1, rx, q1⟩ => thn (hi.run pins s1 σ H1 _ I1 q1) fun iv s2 ⟨y, H2, I2, ry, d, b, kvs, k, v, ex, ey, K, n, dp, hk, q2⟩ => ?_) ha
  subst ex ey
  obtain rfl : u = Value.ref d := rx
  obtain rfl : iv = Value.ref b := ry
  refine (kd_get hu I2 K n dp hk fun w' s3 I3 rw' => thn (hv.run pins s3 σ H2 _ I3 q2) fun w2 s4 ⟨y2, H3, I4, ry2, q3⟩ => thn (hop pins s4 σ H3 v y2 w' w2 _ I4 rw' ry2 q3) fun w3 s5 ⟨z, H4, I5, rz, K4, n4, hl, q4⟩ => ?_).2
  exact kd_set hu I5 K4 n4 dp hl rz fun H5 s6 b5 k5 I6 => ⟨σ, H5, I6, q4 H5 b5 k5⟩
end
/-! ### sorted of a list of states -/
open Classical in
noncomputable def stOf (H : Hp) (x : V) : List Bk := if h : ∃ bs, StV H x bs then h.choose else []
theorem stOf_eq {H : Hp} {x : V} {bs : List Bk} (h : StV H x bs) : stOf H x = bs := by
  have ex : ∃ bs, StV H x bs := ⟨bs, h⟩
  unfold stOf
  rw [dif_pos ex]
  obtain ⟨t, e1, st1⟩ := ex.choose_spec
  obtain ⟨u, e2, st2⟩ := h
  rw [e1] at e2
  cases e2
  obtain ⟨xs, h1, b1⟩ := st1
  obtain ⟨ys, h2, b2⟩ := st2
  rw [h1] at h2
  cases h2
  rw [← b1.map, ← b2.map]
def rSortedS (K : PySem.W.Frag) : List V → Hp → VK → Prop := fun vs H Q => ∃ (a : Addr) (xs : List V) (bss : List (List Bk)), vs = [V.ref a] ∧ SqL K H a xs ∧ StVs H xs bss ∧ ∀ ys css p, css.Perm bss → StVs H ys css → H p = none → Q (.ref p) (upd H p (.lst ys))
theorem cr_sortedS {X : Cx} (hu : X.A.units + 64 < cLine) : CallR X (.builtin "sorted") (rSortedS X.K) := by
  intro pins s σ H vs us Q I r h
  obtain ⟨a, xs, bss, rfl, hs, hb, q⟩ := h
  have key : ∀ x ∈ xs, ∃ bs, StV H x bs := fun x hx => by
    obtain ⟨i, hi, e⟩ := List.getElem_of_mem hx
    obtain ⟨b, _, st⟩ := Paired.get hb (i := i) (by rw [List.getElem?_eq_getElem hi, e])
    exact ⟨b, st⟩
  refine cr_sortedT' hu pins s σ H _ us Q I r ⟨a, xs, fun x => stD (stOf H x), rfl, hs, fun x hx => ?_, fun d hd d' hd' => ?_, fun x _ => ⟨_, rfl⟩, fun x _ => Nat.le_trans (stD_depth _) (by decide), fun ys p pm _ np => ?_⟩
  · obtain ⟨bs, t, rfl, st⟩ := key x hx
    show Dp X.K H (.ref t) (stD (stOf H (.ref t)))
    rw [stOf_eq ⟨t, rfl, st⟩]
    exact st.dp
  · obtain ⟨x, _, rfl⟩ := List.mem_map.mp hd
    obtain ⟨y, _, rfl⟩ := List.mem_map.mp hd'
    unfold stD
    simp only [PySem.W.alike]
    exact bDs_alike _ _
  · obtain ⟨css, h1, h2⟩ := paired_perm pm hb
    exact q ys css p h2 h1 np
/-! ### what keeps everything but a table and a list -/
structure KG (N L : Addr) (H H' : Hp) : Prop where
  kt : Kt H H'
  fr : ∀ a o, a ≠ N → a ≠ L → H a = some o → H' a = some o
section
variable {N L : Addr} {H H1 H2 : Hp}
theorem KG.refl (H : Hp) : KG N L H H := ⟨Kt.refl H, fun _ _ _ _ e => e⟩
theorem KG.trans (a : KG N L H H1) (b : KG N L H1 H2) : KG N L H H2 := ⟨a.kt.trans b.kt, fun c o n1 n2 e => b.fr c o n1 n2 (a.fr c o n1 n2 e)⟩
theorem KG.same (s : Same H H1) : KG N L H H1 := ⟨Same.kt s, fun c o _ _ e => s c o e⟩
theorem KG.putD {w : World} {kvs : List (NestedKey × V)} (b : But N H H1) (k : KD w H N kvs) : KG N L H H1 := ⟨b.ktD k, fun c o n _ e => b c o n e⟩
theorem KG.putX {w : World} {xs : List KAV} (b : But N H H1) (k : KDx w H N xs) : KG N L H H1 := ⟨b.ktX k, fun c o n _ e => b c o n e⟩
theorem KG.list {xs ys : List V} (e : H L = some (.lst xs)) : KG N L H (upd H L (.lst ys)) := ⟨kt_upd e, fun c o _ n h => by rw [upd_ne n]; exact h⟩
theorem KG.kpT (k : KG N L H H1) : KpT H H1 := k.kt.kpT
theorem KG.st (k : KG N L H H1) {t : Addr} {bs : List Bk} (h : StAt H t bs) : StAt H1 t bs := k.kt.st h
end
theorem KD.kt {w : World} {H H' : Hp} {d : Addr} {kvs : List (NestedKey × V)} (k : KD w H d kvs) (t : Kt H H') (e : ∀ u, H d = some u → H' d = some u) : KD w H' d kvs := k.keeps (fun _ _ h => t.tuH h) e
theorem KDx.kt {w : World} {H H' : Hp} {d : Addr} {xs : List KAV} (k : KDx w H d xs) (t : Kt H H') (e : ∀ u, H d = some u → H' d = some u) : KDx w H' d xs := k.keeps (fun _ _ h => t.tuH h) e
/-! ### a state with a size as a key -/
def ekey (bs : List Bk) (z : Int) : NestedKey := .tup [skey bs, .num z]
theorem ekey_inj {a b : List Bk} {x y : Int} (h : ekey a x = ekey b y) : a = b ∧ x = y := by
  unfold ekey at h
  injection h with h
  injection h with h1 h
  injection h with h2 _
  injection h2 with h2
  exact ⟨skey_inj h1, h2⟩
theorem ekey_depth (bs : List Bk) (z : Int) : (ekey bs z).depth ≤ 8 := by
  have h := bkeys_depth bs
  unfold ekey skey
  simp only [NestedKey.depth, NestedKey.depthAll]
  omega
theorem ekey_nk {H : Hp} {T u : Addr} {bs : List Bk} {z : Int} (hT : H T = some (.tup [.ref u, .int z])) (hu : StAt H u bs) : Nk H (.ref T) (ekey bs z) := .tup (.inl hT) (.cons hu.nk (.cons (.int z) .nil))
theorem Kt.ch {H H' : Hp} (k : Kt H H') {c : Addr} {C : List Int} (h : ChAt H c C) : ChAt H' c C := by
  obtain ⟨o, d, e⟩ := h
  exact ⟨o, d, k c _ e (fun _ z => by cases z) (fun _ z => by cases z)⟩
theorem but_ktE {H H' : Hp} {d : Addr} {φ : Heap → Prop} (b : But d H H') (e : H d = some (.ext φ)) : Kt H H' := fun a o h n1 _ => b a o (fun z => by
  rw [z, e] at h
  exact n1 _ (Option.some.inj h).symm) h
/-- the state stands in the table -/
def InK (xs : List KAV) (bs : List Bk) : Prop := (valV (xs.map kv2) (skey bs)).isSome = true
section
variable {xs : List KAV} {bs cs : List Bk} {k : NestedKey} {b : Addr} {v : V}
theorem InK.put (h : InK xs bs) : InK (putX xs k b v) bs := by
  unfold InK at h ⊢
  rw [valV_putX]
  split
  · rfl
  · exact h
theorem InK.new : InK (putX xs (skey bs) b v) bs := by
  unfold InK
  rw [valV_putX, if_pos rfl]
  rfl
theorem InK.inv (h : InK (putX xs (skey cs) b v) bs) : bs = cs ∨ InK xs bs := by
  unfold InK at h
  rw [valV_putX] at h
  split at h
  · rename_i e
    exact .inl (skey_inj e)
  · exact .inr h
theorem InK.mem (h : InK xs bs) : ∃ x ∈ xs, x.1 = skey bs := by
  obtain ⟨v, e⟩ := Option.isSome_iff_exists.mp h
  obtain ⟨x, hx, e1, _⟩ := valV_mem2 e
  exact ⟨x, hx, e1⟩
theorem InK.of {x : KAV} (nd : (xs.map (·.1)).Nodup) (hx : x ∈ xs) (e : x.1 = skey bs) : InK xs bs := by
  unfold InK
  rw [valV_kv2 nd hx e]
  rfl
theorem InK.not (h : (!(valV (xs.map kv2) (skey bs)).isSome) = true) : valV (xs.map kv2) (skey bs) = none ∧ ¬ InK xs bs := by
  unfold InK
  cases e : valV (xs.map kv2) (skey bs) with
  | none => exact ⟨rfl, fun z => by cases z⟩
  | some x => rw [e] at h; cases h
theorem InK.yes (h : ¬ (!(valV (xs.map kv2) (skey bs)).isSome) = true) : InK xs bs := by
  unfold InK
  cases e : valV (xs.map kv2) (skey bs) with
  | none => rw [e] at h; exact absurd rfl h
  | some x => rfl
end
/-- tables of states of a list are not longer than the list -/
theorem keys_few {xs : List KAV} {bss : List (List Bk)} (nd : (xs.map (·.1)).Nodup) (h : ∀ x ∈ xs, ∃ bs ∈ bss, x.1 = skey bs) : xs.length ≤ bss.length := by
  have := nodup_le (l := xs.map (·.1)) (m := bss.map skey) nd fun k hk => by
    obtain ⟨x, hx, rfl⟩ := List.mem_map.mp hk
    obtain ⟨bs, hb, e⟩ := h x hx
    rw [e]
    exact List.mem_map.mpr ⟨bs, hb, rfl⟩
  rw [List.length_map, List.length_map] at this
  exact this
end Ph

set_option maxHeartbeats 4000000
/-! PhKz: sorted(d) of a dict whose keys are states. -/
namespace Ph
open PySem PySem.Calls PyProof.V PySem.Spec PyProof.Rows L2 PySem.W SeqAt
end Ph

set_option maxHeartbeats 4000000
/-! PhIx: d.items() and sorted(d.items()) of dicts keyed by states. -/
namespace Ph
open PySem PySem.Calls PyProof.V PySem.Spec PyProof.Rows L2 PySem.W SeqAt
def rItemsX (w : World) : V → List V → Hp → VK → Prop := fun x xs H Q => ∃ (a : Addr) (es : List KAV), x = .ref a ∧ xs = [] ∧ KDr w H a es ∧ ∀ p, H p = none → Q (.ref p) (upd H p (DX.itemsO p a))
def tXItems (w : World) (td : TE) : TE := fun σ H Q => td σ H fun x H1 => ∃ (a : Addr) (es : List KAV), x = .ref a ∧ KDr w H1 a es ∧ ∀ p, H1 p = none → Q (.ref p) (upd H1 p (DX.itemsO p a))
/-- the pairs of such a dict, sorted as data -/
def rSortIX (w : World) (K : PySem.W.Frag) : List V → Hp → VK → Prop := fun vs H Q => ∃ (p d : Addr) (xs : List KAV) (kd vd : KAV → PyData), vs = [.ref p] ∧ H p = some (DX.itemsO p d) ∧ KDr w H d xs ∧
  (∀ e ∈ xs, Dp K H (.ref e.2.1) (kd e) ∧ Dp K H e.2.2 (vd e)) ∧ AllAlike (xs.map fun e => PyData.tuple [kd e, vd e]) ∧ (∀ e ∈ xs, (PyData.tuple [kd e, vd e]).depth ≤ 40) ∧
  ∀ H' l (zs : List (Addr × KAV)), Same H H' → (zs.map (·.2)).Perm xs → H' l = some (.lst (zs.map fun z => V.ref z.1)) → (∀ z ∈ zs, H' z.1 = some (.tup [.ref z.2.2.1, z.2.2.2])) → Q (.ref l) H'
open Classical in
noncomputable def dOf (L : List (Addr × PyData)) (x : V) : PyData := match x with
  | .ref a => ((L.find? fun p => p.1 == a).map (·.2)).getD .none
  | _ => .none
end Ph

set_option maxHeartbeats 4000000
/-! PhKv: dict(list of pairs) whose keys are tuples of tuples. -/
namespace Ph
open PySem PySem.Calls PyProof.V PySem.Spec PyProof.Rows L2 PySem.W
def putAllX (xs es : List KAV) : List KAV := es.foldl (fun acc e => putX acc e.1 e.2.1 e.2.2) xs
section
variable {X : Cx}
end
end Ph

set_option maxHeartbeats 4000000
/-! PhKw2: d.get(k), d.update(e) of dicts keyed by tuples of tuples. -/
namespace Ph
open PySem PySem.Calls PyProof.V PySem.Spec PyProof.Rows L2 PySem.W
def tXGet1 (w : World) (td ty : TE) : TE := fun σ H Q => td σ H fun x H1 => ∃ d xs, x = .ref d ∧ KDr w H1 d xs ∧ ty σ H1 fun y H2 => ∃ b k, y = .ref b ∧ KDr w H2 d xs ∧ Nk H2 (.ref b) k ∧ k.depth ≤ 8 ∧ Q ((valV (xs.map kv2) k).getD .non) H2
def tXUpd (w : World) (td ty : TE) : TE := fun σ H Q => td σ H fun x H1 => ∃ d xs, x = .ref d ∧ KDr w H1 d xs ∧ ty σ H1 fun y H2 => ∃ b es, y = .ref b ∧ d ≠ b ∧ KDx w H2 d xs ∧ KDr w H2 b es ∧ (xs ≠ [] ∨ (es.map fun e => e.1.hash w).Nodup) ∧ xs.length + es.length ≤ sizeLine ∧
  ∀ H3, But d H2 H3 → KDx w H3 d (putAllX xs es) → Q .non H3
section
variable {X : Cx} {o e : Expr} {apos cpos : Pos} {td ty : TE}
end
/-! ### the same inside a comprehension (the program's world named from outside) -/
theorem pe_xgetV {X : Cx} {w : World} {o i : Expr} {pos : Pos} {td ty : TE} (e : X.w = w) (hu : X.A.units + 64 < cLine) (ho : PE X o td) (hi : PE X i ty) (hs : NoSl i) : PE X (.Subscript o i pos) (tXGet w td ty) := by
  subst e
  exact pe_xget hu ho hi hs
end Ph

namespace Ph
open PySem PySem.Spec PyProof.Rows L2
/-! ### keepers: the smallest block of each chunk, then the lowest one -/
def btr (b c : Bk) : Prop := b.2 < c.2 ∨ (b.2 = c.2 ∧ b.1 ≤ c.1)
instance (b c : Bk) : Decidable (btr b c) := inferInstanceAs (Decidable (_ ∨ _))
def best (s : Int) (bs : List Bk) (b : Bk) : Prop := ∀ c ∈ bs, c.1 / s = b.1 / s → btr b c
instance (s : Int) (bs : List Bk) (b : Bk) : Decidable (best s bs b) := inferInstanceAs (Decidable (∀ c ∈ bs, _))
def kp (s : Int) (bs : List Bk) : List Bk := bs.filter fun b => decide (best s bs b)
theorem btr.refl (b : Bk) : btr b b := .inr ⟨rfl, Int.le_refl _⟩
theorem btr.anti {b c : Bk} (h : btr b c) (k : btr c b) : b = c := by
  unfold btr at h k
  exact Prod.ext (by omega) (by omega)
theorem btr.trans {b c d : Bk} (h : btr b c) (k : btr c d) : btr b d := by
  unfold btr at *
  omega
theorem btr.total (b c : Bk) : btr b c ∨ btr c b := by
  unfold btr
  omega
theorem mem_kp {s : Int} {bs : List Bk} {b : Bk} : b ∈ kp s bs ↔ b ∈ bs ∧ best s bs b := by
  unfold kp
  rw [List.mem_filter, decide_eq_true_iff]
/-- the best one of a chunk -/
theorem best_ex (s : Int) (q : Int) : ∀ bs : List Bk, (∃ c ∈ bs, c.1 / s = q) → ∃ b ∈ bs, b.1 / s = q ∧ ∀ c ∈ bs, c.1 / s = q → btr b c
  | [], h => by obtain ⟨c, hc, _⟩ := h; cases hc
  | x :: r, h => by
    by_cases hr : ∃ c ∈ r, c.1 / s = q
    · obtain ⟨b, hb, hq, hbest⟩ := best_ex s q r hr
      by_cases hx : x.1 / s = q
      · rcases btr.total b x with t | t
        · refine ⟨b, List.mem_cons_of_mem _ hb, hq, fun c hc e => ?_⟩
          rcases List.mem_cons.mp hc with z | z
          · rw [z]; exact t
          · exact hbest c z e
        · refine ⟨x, List.mem_cons_self .., hx, fun c hc e => ?_⟩
          rcases List.mem_cons.mp hc with z | z
          · rw [z]; exact btr.refl _
          · exact t.trans (hbest c z e)
      · refine ⟨b, List.mem_cons_of_mem _ hb, hq, fun c hc e => ?_⟩
        rcases List.mem_cons.mp hc with z | z
        · rw [z] at e; exact absurd e hx
        · exact hbest c z e
    · obtain ⟨c, hc, e⟩ := h
      rcases List.mem_cons.mp hc with z | z
      · rw [z] at e
        refine ⟨x, List.mem_cons_self .., e, fun d hd ed => ?_⟩
        rcases List.mem_cons.mp hd with z | z
        · rw [z]; exact btr.refl _
        · exact absurd ⟨d, z, ed⟩ hr
      · exact absurd ⟨c, z, e⟩ hr
theorem kp_ex {s : Int} {bs : List Bk} {c : Bk} (hc : c ∈ bs) : ∃ b ∈ kp s bs, b.1 / s = c.1 / s ∧ btr b c := by
  obtain ⟨b, hb, hq, hbest⟩ := best_ex s (c.1 / s) bs ⟨c, hc, rfl⟩
  exact ⟨b, mem_kp.mpr ⟨hb, fun d hd e => hbest d hd (e.trans hq)⟩, hq, hbest c hc rfl⟩
theorem kp_uniq {s : Int} {bs : List Bk} {b c : Bk} (hb : b ∈ kp s bs) (hc : c ∈ kp s bs) (e : b.1 / s = c.1 / s) : b = c := by
  obtain ⟨b1, b2⟩ := mem_kp.mp hb
  obtain ⟨c1, c2⟩ := mem_kp.mp hc
  exact (b2 c c1 e.symm).anti (c2 b b1 e)
abbrev Asc (bs : List Bk) : Prop := bs.Pairwise fun b c => b.1 < c.1
/-- one step of the program's dict -/
def stp (s : Int) (E : List Bk) (b : Bk) : List Bk := match E.getLast? with
  | none => [b]
  | some m => if m.1 / s = b.1 / s then (if b.2 < m.2 then E.dropLast ++ [b] else E) else E ++ [b]
structure Chn (C : List Int) : Prop where
  pos : ∀ c ∈ C, 1 ≤ c
  dvd : ∀ c ∈ C, ∀ d ∈ C, c ≤ d → d % c = 0
theorem ediv_same {s t a b : Int} (hs : 0 < s) (ht : t % s = 0) (e : a / s = b / s) (h0 : 0 < t) : a / t = b / t := by
  obtain ⟨k, hk⟩ := Int.dvd_of_emod_eq_zero ht
  rw [hk, ← Int.ediv_ediv_of_nonneg (Int.le_of_lt hs), ← Int.ediv_ediv_of_nonneg (Int.le_of_lt hs), e]
theorem St.ascL {C : List Int} {W : Int} {bs : List Bk} (h : St C W bs) : Asc bs := h.asc.imp_of_mem fun {b c} hb hc z => by
  obtain ⟨_, h1, _⟩ := h.ok b hb
  omega
theorem St.sub {C : List Int} {W : Int} {bs cs : List Bk} (h : St C W bs) (k : cs.Sublist bs) : St C W cs := ⟨fun b hb => h.ok b (k.subset hb), h.asc.sublist k⟩
/-- a block at most as large as the size lies within one chunk -/
theorem small_in {C : List Int} {W s : Int} {bs : List Bk} (hC : Chn C) (hs : s ∈ C) (h : St C W bs) {b : Bk} (hb : b ∈ bs) (hbs : b.2 ≤ s) {w : Int} (h1 : b.1 ≤ w) (h2 : w < b.1 + b.2) : w / s = b.1 / s := by
  obtain ⟨hbC, b1, b0, bm, _⟩ := h.ok b hb
  have e : w / b.2 = b.1 / b.2 := by
    obtain ⟨k, hk⟩ := Int.dvd_of_emod_eq_zero bm
    rw [hk, Int.mul_ediv_cancel_left _ (by omega)]
    rw [Int.ediv_eq_iff_of_pos (by omega)]
    rw [hk] at h1 h2
    rw [Int.mul_comm] at h1 h2
    constructor
    · exact h1
    · exact h2
  exact ediv_same (by omega) (hC.dvd _ hbC s hs hbs) e (by have := hC.pos s hs; omega)
theorem pair_or {α : Type} {R : α → α → Prop} : ∀ {l : List α}, l.Pairwise R → ∀ b ∈ l, ∀ c ∈ l, b = c ∨ R b c ∨ R c b
  | [], _, b, hb, _, _ => by cases hb
  | x :: r, h, b, hb, c, hc => by
    obtain ⟨h1, h2⟩ := List.pairwise_cons.mp h
    rcases List.mem_cons.mp hb with e | e <;> rcases List.mem_cons.mp hc with e2 | e2
    · exact .inl (e.trans e2.symm)
    · rw [e]; exact .inr (.inl (h1 c e2))
    · rw [e2]; exact .inr (.inr (h1 b e))
    · exact pair_or h2 b e c e2
/-- the starts of the chunks that are not empty -/
def chk0 (s : Int) (bs : List Bk) (k : Int) : Prop := ∃ b ∈ bs, ∃ w, b.1 ≤ w ∧ w < b.1 + b.2 ∧ k = w / s * s
end Ph

namespace Ph
open PySem PySem.Spec PyProof.Rows L2
/-! ### the request program: its phases in numbers -/
def totB (bs : List Bk) : Int := (bs.map fun b => b.2).sum
/-- the blocks that a phase frees -/
def nkB (z : Int) (bs : List Bk) : List Bk := bs.filter fun b => !decide (b ∈ kp z bs)
theorem mem_nkB {z : Int} {bs : List Bk} {b : Bk} : b ∈ nkB z bs ↔ b ∈ bs ∧ b ∉ kp z bs := by
  unfold nkB
  rw [List.mem_filter]
  simp
theorem nkB_nil {z : Int} {bs : List Bk} : nkB z bs = [] ↔ ∀ b ∈ bs, b ∈ kp z bs := by
  constructor
  · intro h b hb
    rcases Classical.em (b ∈ kp z bs) with c | c
    · exact c
    · have : b ∈ nkB z bs := mem_nkB.mpr ⟨hb, c⟩
      rw [h] at this
      cases this
  · intro h
    cases e : nkB z bs with
    | nil => rfl
    | cons b r =>
      have : b ∈ nkB z bs := by rw [e]; exact List.mem_cons_self ..
      obtain ⟨h1, h2⟩ := mem_nkB.mp this
      exact absurd (h b h1) h2
/-- n chunks of t words with a block of at most x words -/
def Wt (bs : List Bk) (x t : Int) (n : Nat) : Prop := ∃ L : List Int, L.Nodup ∧ n ≤ L.length ∧ ∀ q ∈ L, ∃ b ∈ bs, b.2 ≤ x ∧ b.1 / t = q
theorem Wt.sub {bs cs : List Bk} {x t : Int} {n : Nat} (w : Wt bs x t n) (h : ∀ b ∈ bs, b.2 ≤ x → ∃ c ∈ cs, c.2 ≤ x ∧ c.1 / t = b.1 / t) : Wt cs x t n := by
  obtain ⟨L, nd, hn, hq⟩ := w
  refine ⟨L, nd, hn, fun q hq' => ?_⟩
  obtain ⟨b, hb, h1, h2⟩ := hq q hq'
  obtain ⟨c, hc, h3, h4⟩ := h b hb h1
  exact ⟨c, hc, h3, h4.trans h2⟩
theorem set_of (l : List Int) : ∃ l' : List Int, l'.Nodup ∧ ∀ x, x ∈ l' ↔ x ∈ l := by
  induction l with
  | nil => exact ⟨[], List.nodup_nil, fun x => Iff.rfl⟩
  | cons a l ih =>
    obtain ⟨l', nd, h⟩ := ih
    by_cases c : a ∈ l'
    · exact ⟨l', nd, fun x => by
        rw [h x, List.mem_cons]
        constructor
        · exact fun z => .inr z
        · rintro (z | z)
          · rw [z]; exact (h a).mp c
          · exact z⟩
    · exact ⟨a :: l', List.nodup_cons.mpr ⟨c, nd⟩, fun x => by rw [List.mem_cons, List.mem_cons, h x]⟩
theorem nd_le {l m : List Int} (nd : l.Nodup) (h : ∀ x ∈ l, x ∈ m) : l.length ≤ m.length := nd.length_le_of_subset fun x hx => h x hx
theorem flat_len {α : Type} {r : Nat} (f : α → List Int) (h : ∀ q, (f q).length = r) : ∀ l : List α, (l.flatMap f).length = l.length * r
  | [] => by simp
  | a :: l => by
    have := flat_len f h l
    rw [List.flatMap_cons, List.length_append, h, this, List.length_cons, Nat.add_mul]
    omega
/-- chunks taken together, r at a time -/
theorem grp {L : List Int} {r : Nat} (hr : 1 ≤ r) (nd : L.Nodup) : ∃ L' : List Int, L'.Nodup ∧ L.length ≤ L'.length * r ∧ ∀ q ∈ L', ∃ k ∈ L, k / (r : Int) = q := by
  obtain ⟨L', nd', h⟩ := set_of (L.map fun k => k / (r : Int))
  refine ⟨L', nd', ?_, fun q hq => ?_⟩
  · have hl := flat_len (r := r) (fun q : Int => (List.range r).map fun (j : Nat) => q * r + (j : Int)) (fun q => by simp) L'
    rw [← hl]
    refine nd_le nd fun x hx => ?_
    refine List.mem_flatMap.mpr ⟨x / (r : Int), (h _).mpr (List.mem_map.mpr ⟨x, hx, rfl⟩), List.mem_map.mpr ⟨(x % (r : Int)).toNat, List.mem_range.mpr ?_, ?_⟩⟩
    · have := Int.emod_lt_of_pos x (show (0 : Int) < r by omega)
      omega
    · have h0 := Int.emod_nonneg x (show (r : Int) ≠ 0 by omega)
      have h1 := Int.mul_ediv_add_emod x r
      rw [Int.mul_comm] at h1
      omega
  · obtain ⟨k, hk, e⟩ := List.mem_map.mp ((h q).mp hq)
    exact ⟨k, hk, e⟩
/-- numbers whose counts are known add up to no more -/
theorem sum_le_of : ∀ (n : Nat) (l : List Nat) (f : Nat → Nat), l.length = n → (∀ i j, i ≤ j → f i ≤ f j) → (∀ k, k < n → k < (l.filter fun x => decide (x ≤ f k)).length) → l.sum ≤ sm f n
  | 0, l, f, hl, _, _ => by rw [List.length_eq_zero_iff.mp hl]; exact Nat.zero_le _
  | n + 1, l, f, hl, mo, hc => by
    obtain ⟨x, hx, mx⟩ : ∃ x ∈ l, ∀ y ∈ l, y ≤ x := by
      have : ∀ l : List Nat, l ≠ [] → ∃ x ∈ l, ∀ y ∈ l, y ≤ x := by
        intro l
        induction l with
        | nil => exact fun z => absurd rfl z
        | cons a l ih =>
          intro _
          by_cases c : l = []
          · rw [c]
            exact ⟨a, List.mem_singleton.mpr rfl, fun y hy => by rw [List.mem_singleton.mp hy]; exact Nat.le_refl _⟩
          · obtain ⟨x, hx, mx⟩ := ih c
            rcases Nat.le_total a x with h | h
            · exact ⟨x, List.mem_cons_of_mem _ hx, fun y hy => (List.mem_cons.mp hy).elim (fun z => by rw [z]; exact h) (mx y)⟩
            · exact ⟨a, List.mem_cons_self .., fun y hy => (List.mem_cons.mp hy).elim (fun z => by rw [z]; exact Nat.le_refl _) fun z => Nat.le_trans (mx y z) h⟩
      exact this l (fun z => by rw [z] at hl; simp at hl)
    have pm := List.perm_cons_erase hx
    have xle : x ≤ f n := by
      have h1 := hc n (by omega)
      rcases Nat.lt_or_ge (f n) x with c | c
      · exfalso
        have h2 : (l.filter fun y => decide (y ≤ f n)).length ≤ ((l.erase x).filter fun y => decide (y ≤ f n)).length := by
          have := (pm.filter fun y => decide (y ≤ f n)).length_eq
          rw [List.filter_cons_of_neg (by simpa using c)] at this
          omega
        have h3 := List.length_filter_le (fun y => decide (y ≤ f n)) (l.erase x)
        have h4 := pm.length_eq
        rw [List.length_cons] at h4
        omega
      · exact c
    have ih := sum_le_of n (l.erase x) f (by have := pm.length_eq; rw [List.length_cons] at this; omega) mo fun k hk => by
      have h1 := hc k (by omega)
      have h2 := (pm.filter fun y => decide (y ≤ f k)).length_eq
      by_cases c : x ≤ f k
      · have : (l.erase x).filter (fun y => decide (y ≤ f k)) = l.erase x := List.filter_eq_self.mpr fun y hy => decide_eq_true (Nat.le_trans (mx y (List.mem_of_mem_erase hy)) c)
        rw [this]
        have h4 := pm.length_eq
        rw [List.length_cons] at h4
        omega
      · rw [List.filter_cons_of_neg (by simpa using c)] at h2
        omega
    have e := pm.sum_nat
    rw [List.sum_cons] at e
    show l.sum ≤ sm f n + f n
    omega
/-- the request program in phase i, its live blocks bs -/
structure PI (s : Nat → Nat) (p M : Nat) (W : Int) (B : Nat → Nat) (i : Nat) (bs : List Bk) : Prop where
  st : St (tl s (i + 1)) W bs
  le : totB bs ≤ M
  wt : ∀ j, j < i → ∀ k, i ≤ k → k ≤ p → Wt bs ((s j : Nat) : Int) ((s k : Nat) : Int) (cdw (B j) (s k))
theorem CH.chn {s : Nat → Nat} {p i : Nat} (c : CH s (p + 1)) (hi : i ≤ p) : Chn (tl s (i + 1)) := by
  refine ⟨fun x hx => ?_, fun x hx y hy hxy => ?_⟩
  · obtain ⟨j, hj, rfl⟩ := tl_mem.mp hx
    have := c.pos (i := j) (by omega)
    omega
  · obtain ⟨j, hj, rfl⟩ := tl_mem.mp hx
    obtain ⟨l, hl, rfl⟩ := tl_mem.mp hy
    rcases Nat.le_total j l with h | h
    · obtain ⟨r, _, e⟩ := c.dvd (i := j) (j := l) h (by omega)
      rw [e, Int.natCast_mul]
      exact Int.mul_emod_right _ _
    · have := c.mono (i := l) (j := j) h (by omega)
      have e : s l = s j := by omega
      rw [e]
      exact Int.emod_self
def OneB (z : Int) (bs : List Bk) : Prop := ∀ b ∈ bs, ∀ c ∈ bs, b.1 / z = c.1 / z → b = c
theorem one_iff {z : Int} {bs : List Bk} : nkB z bs = [] ↔ OneB z bs := by
  rw [nkB_nil]
  constructor
  · exact fun h b hb c hc e => kp_uniq (h b hb) (h c hc) e
  · exact fun h b hb => mem_kp.mpr ⟨hb, fun c hc e => by rw [h c hc b hb e]; exact btr.refl _⟩
theorem Asc.addr {bs : List Bk} (h : Asc bs) {b c : Bk} (hb : b ∈ bs) (hc : c ∈ bs) (e : b.1 = c.1) : b = c := by
  rcases pair_or h b hb c hc with z | z | z
  · exact z
  · exact absurd z (by have : b.1 < c.1 := z; omega)
  · exact absurd z (by have : c.1 < b.1 := z; omega)
theorem totB_cons (b : Bk) (bs : List Bk) : totB (b :: bs) = b.2 + totB bs := by
  unfold totB
  rw [List.map_cons, List.sum_cons]
theorem totB_perm {bs cs : List Bk} (h : bs.Perm cs) : totB bs = totB cs := by
  induction h with
  | nil => rfl
  | cons b _ ih => rw [totB_cons, totB_cons, ih]
  | swap a b l => rw [totB_cons, totB_cons, totB_cons, totB_cons]; omega
  | trans _ _ h1 h2 => exact h1.trans h2
theorem totB_snoc (bs : List Bk) (b : Bk) : totB (bs ++ [b]) = totB bs + b.2 := by
  unfold totB
  rw [List.map_append, List.sum_append]
  simp
theorem totB_out : ∀ {bs : List Bk} {b : Bk}, Asc bs → b ∈ bs → totB (bs.filter fun c => decide (c.1 ≠ b.1)) + b.2 = totB bs
  | [], _, _, h => by cases h
  | a :: l, b, asc, h => by
    obtain ⟨h1, h2⟩ := List.pairwise_cons.mp asc
    rcases List.mem_cons.mp h with z | z
    · subst z
      have e : (b :: l).filter (fun c => decide (c.1 ≠ b.1)) = l := by
        rw [List.filter_cons_of_neg (by simp)]
        exact List.filter_eq_self.mpr fun c hc => decide_eq_true (by have := h1 c hc; omega)
      rw [e, totB_cons]
      omega
    · have := h1 b z
      rw [List.filter_cons_of_pos (by simp; omega), totB_cons, totB_cons]
      have := totB_out h2 z
      omega
section
variable {s B : Nat → Nat} {p M i : Nat} {W : Int} {bs : List Bk} (c : CH s (p + 1)) (hi : i ≤ p)
include c hi
theorem PI.free {b : Bk} {r : List Bk} (h : PI s p M W B i bs) (e : nkB ((s i : Nat) : Int) bs = b :: r) :
    b ∈ bs ∧ PI s p M W B i (bs.filter fun c => decide (c.1 ≠ b.1)) ∧ nkB ((s i : Nat) : Int) (bs.filter fun c => decide (c.1 ≠ b.1)) = r ∧ totB (bs.filter fun c => decide (c.1 ≠ b.1)) + b.2 = totB bs := by
  have zp := c.pos (i := i) (by omega)
  have asc := h.st.ascL
  obtain ⟨hb, nb⟩ := mem_nkB.mp (show b ∈ nkB ((s i : Nat) : Int) bs by rw [e]; exact List.mem_cons_self ..)
  obtain ⟨k, hk, k1, k2⟩ := kp_ex (s := ((s i : Nat) : Int)) hb
  have hkb := (mem_kp.mp hk).1
  have nkb : k.1 ≠ b.1 := fun z => nb (by rw [← asc.addr hkb hb z]; exact hk)
  have inC : ∀ d ∈ bs, d.1 ≠ b.1 → d ∈ bs.filter fun c => decide (c.1 ≠ b.1) := fun d hd n => List.mem_filter.mpr ⟨hd, decide_eq_true n⟩
  have tb := totB_out asc hb
  have b1 := (h.st.bnd b hb).2.1
  have kpE : ∀ d ∈ bs.filter (fun c => decide (c.1 ≠ b.1)), (d ∈ kp ((s i : Nat) : Int) (bs.filter fun c => decide (c.1 ≠ b.1)) ↔ d ∈ kp ((s i : Nat) : Int) bs) := fun d hd => by
    have hd' := (List.mem_filter.mp hd).1
    rw [mem_kp, mem_kp]
    constructor
    · rintro ⟨_, bst⟩
      refine ⟨hd', fun f hf ef => ?_⟩
      by_cases n : f.1 = b.1
      · obtain rfl := asc.addr hf hb n
        exact (bst k (inC k hkb nkb) (k1.trans ef)).trans k2
      · exact bst f (inC f hf n) ef
    · rintro ⟨_, bst⟩
      exact ⟨hd, fun f hf ef => bst f (List.mem_filter.mp hf).1 ef⟩
  refine ⟨hb, ⟨h.st.sub List.filter_sublist, ?_, fun j hj l hl1 hl2 => ?_⟩, ?_, tb⟩
  · have := h.le
    omega
  · refine (h.wt j hj l hl1 hl2).sub fun d hd hx => ?_
    by_cases n : d.1 = b.1
    · obtain rfl := asc.addr hd hb n
      refine ⟨k, inC k hkb nkb, ?_, ?_⟩
      · unfold btr at k2
        omega
      · obtain ⟨rr, hr, er⟩ := c.dvd (i := i) (j := l) hl1 (by omega)
        have lp := c.pos (i := l) (by omega)
        exact ediv_same (s := ((s i : Nat) : Int)) (by omega) (by rw [er, Int.natCast_mul]; exact Int.mul_emod_right _ _) k1 (by omega)
    · exact ⟨d, inC d hd n, hx, rfl⟩
  · have e1 : nkB ((s i : Nat) : Int) (bs.filter fun c => decide (c.1 ≠ b.1)) = (nkB ((s i : Nat) : Int) bs).filter fun c => decide (c.1 ≠ b.1) := by
      unfold nkB
      rw [List.filter_filter, List.filter_filter]
      refine List.filter_congr fun d hd => ?_
      by_cases n : d.1 = b.1
      · simp [n]
      · have := kpE d (inC d hd n)
        have e2 : decide (d ∈ kp ((s i : Nat) : Int) (bs.filter fun c => decide (c.1 ≠ b.1))) = decide (d ∈ kp ((s i : Nat) : Int) bs) := by
          by_cases q : d ∈ kp ((s i : Nat) : Int) bs
          · rw [decide_eq_true q, decide_eq_true (this.mpr q)]
          · rw [decide_eq_false q, decide_eq_false fun z => q (this.mp z)]
        rw [e2, Bool.and_comm]
    rw [e1, e, List.filter_cons_of_neg (by simp)]
    have asc2 : Asc (b :: r) := by rw [← e]; exact asc.sublist List.filter_sublist
    exact List.filter_eq_self.mpr fun d hd => decide_eq_true (by have := (List.pairwise_cons.mp asc2).1 d hd; omega)
theorem PI.get {a : Int} {cs : List Bk} (h : PI s p M W B i bs) (e : nkB ((s i : Nat) : Int) bs = []) (a0 : 0 ≤ a) (am : a % ((s i : Nat) : Int) = 0) (aW : a + ((s i : Nat) : Int) ≤ W) (ap : ∀ b ∈ bs, b.1 + b.2 ≤ a ∨ a + ((s i : Nat) : Int) ≤ b.1) (hM : totB bs + ((s i : Nat) : Int) ≤ M)
    (pm : cs.Perm (bs ++ [(a, ((s i : Nat) : Int))])) (so : cs.Pairwise fun x y => SrtO.lexB y x = false) : PI s p M W B i cs ∧ nkB ((s i : Nat) : Int) cs = [] ∧ totB cs = totB bs + ((s i : Nat) : Int) := by
  have zp := c.pos (i := i) (by omega)
  have zin : ((s i : Nat) : Int) ∈ tl s (i + 1) := tl_mem.mpr ⟨i, by omega, rfl⟩
  have et : totB cs = totB bs + ((s i : Nat) : Int) := by rw [totB_perm pm, totB_snoc]
  have sub : ∀ b ∈ bs, b ∈ cs := fun b hb => pm.mem_iff.mpr (List.mem_append_left _ hb)
  have inv : ∀ b ∈ cs, b ∈ bs ∨ b = (a, ((s i : Nat) : Int)) := fun b hb => (List.mem_append.mp (pm.mem_iff.mp hb)).imp id List.mem_singleton.mp
  have st2 : St (tl s (i + 1)) W cs := sorted_st (bs := bs ++ [(a, ((s i : Nat) : Int))]) (fun b hb => by
      rcases List.mem_append.mp hb with z | z
      · exact h.st.ok b z
      · rw [List.mem_singleton.mp z]
        exact ⟨zin, by dsimp only; omega, a0, am, aW⟩) (List.pairwise_append.mpr ⟨h.st.asc.imp fun z => .inl z, List.pairwise_singleton _ _, fun b hb d hd => by
      rw [List.mem_singleton.mp hd]
      exact ap b hb⟩) pm so
  have one := one_iff.mp e
  have far : ∀ b ∈ bs, b.1 / ((s i : Nat) : Int) ≠ a / ((s i : Nat) : Int) := fun b hb z => by
    have bb := h.st.bnd b hb
    obtain ⟨hC, _⟩ := h.st.ok b hb
    obtain ⟨j, hj, ej⟩ := tl_mem.mp hC
    have := c.mono (i := j) (j := i) (by omega) (by omega)
    have w := small_in (c.chn hi) zin h.st hb (by omega) (w := b.1 + b.2 - 1) (by omega) (by omega)
    have l1 := Int.ediv_mul_cancel (Int.dvd_of_emod_eq_zero am)
    have l2 := Int.ediv_mul_le b.1 (show ((s i : Nat) : Int) ≠ 0 by omega)
    have l3 := Int.lt_ediv_add_one_mul_self (b.1 + b.2 - 1) (show (0 : Int) < ((s i : Nat) : Int) by omega)
    rw [w, z, Int.add_mul, l1, Int.one_mul] at l3
    rw [z, l1] at l2
    have := ap b hb
    omega
  refine ⟨⟨st2, by rw [et]; exact hM, fun j hj l h1 h2 => (h.wt j hj l h1 h2).sub fun b hb hx => ⟨b, sub b hb, hx, rfl⟩⟩, one_iff.mpr fun b hb d hd z => ?_, et⟩
  rcases inv b hb with u | u <;> rcases inv d hd with v | v
  · exact one b u d v z
  · rw [v] at z
    exact absurd z (far b u)
  · rw [u] at z
    exact absurd z.symm (far d v)
  · rw [u, v]
theorem PI.fin (BB : BD s B (p + 1) M) (h : PI s p M W B i bs) (e : nkB ((s i : Nat) : Int) bs = []) (hM : (M : Int) < totB bs + ((s i : Nat) : Int)) : B i ≤ bs.length * s i := by
  have zp := c.pos (i := i) (by omega)
  have cnt : ∀ j, j < i → cdw (B j) (s i) ≤ (bs.filter fun b => decide (b.2 ≤ ((s j : Nat) : Int))).length := fun j hj => by
    obtain ⟨L, nd, hn, hq⟩ := h.wt j hj i (Nat.le_refl _) hi
    refine Nat.le_trans hn ?_
    rw [← List.length_map (f := fun b : Bk => b.1 / ((s i : Nat) : Int))]
    refine nd_le nd fun q hq' => ?_
    obtain ⟨b, hb, h1, h2⟩ := hq q hq'
    exact List.mem_map.mpr ⟨b, List.mem_filter.mpr ⟨hb, decide_eq_true h1⟩, h2⟩
  have num := BB.num c (i := i) (by omega)
  rcases Nat.lt_or_ge bs.length (B i / s i) with q | q
  · exfalso
    have h1 := (BB.iff c (i := i) (n := bs.length + 1) (by omega)).mp q
    have ecl : cls B i (bs.length * s i) = i := cls_eq (Nat.le_refl _) (fun j hj => by
      have h2 := cnt j hj
      have h3 := List.length_filter_le (fun b : Bk => decide (b.2 ≤ ((s j : Nat) : Int))) bs
      have h4 := le_cdw (x := B j) (s := s i) (by omega)
      exact Nat.le_trans h4 (Nat.mul_le_mul_right _ (by omega))) (fun z => absurd z (Nat.lt_irrefl _))
    have h2 : SS s B i (bs.length + 1) = SS s B i bs.length + s i := by
      show sm _ _ + _ = _
      unfold SS
      dsimp only
      rw [ecl]
    have h3 : (bs.map fun b => b.2.toNat).sum ≤ SS s B i bs.length := by
      refine sum_le_of bs.length _ _ (List.length_map _) (fun x y hxy => ?_) fun k hk => ?_
      · exact c.mono (cls_up (Nat.mul_le_mul_right _ hxy)) (by have := cls_le B i (y * s i); omega)
      · have hcl := cls_le B i (k * s i)
        have pos : ∀ b ∈ bs, 1 ≤ b.2 := fun b hb => (h.st.bnd b hb).2.1
        have ef : ((bs.map fun b => b.2.toNat).filter fun x => decide (x ≤ s (cls B i (k * s i)))).length = (bs.filter fun b => decide (b.2 ≤ ((s (cls B i (k * s i)) : Nat) : Int))).length := by
          rw [List.filter_map, List.length_map]
          refine congrArg List.length (List.filter_congr fun b hb => ?_)
          have := pos b hb
          show decide (b.2.toNat ≤ _) = decide (b.2 ≤ _)
          exact decide_eq_decide.mpr (by omega)
        rw [ef]
        rcases Nat.lt_or_ge (cls B i (k * s i)) i with z | z
        · have h4 := cls_hi z
          have h5 := (lt_cdw (x := B (cls B i (k * s i))) (s := s i) (k := k) (by omega)).mpr h4
          have h6 := cnt _ z
          omega
        · have ec : cls B i (k * s i) = i := by omega
          rw [ec, List.filter_eq_self.mpr fun b hb => ?_]
          · exact hk
          · obtain ⟨hC, _⟩ := h.st.ok b hb
            obtain ⟨j, hj, ej⟩ := tl_mem.mp hC
            have := c.mono (i := j) (j := i) (by omega) (by omega)
            exact decide_eq_true (by omega)
    have h4 : totB bs = (((bs.map fun b => b.2.toNat).sum : Nat) : Int) := by
      have pos : ∀ b ∈ bs, 1 ≤ b.2 := fun b hb => (h.st.bnd b hb).2.1
      clear h3 h2 ecl h1 q num cnt hM e h
      unfold totB
      induction bs with
      | nil => rfl
      | cons b l ih =>
        have h1 := ih fun d hd => pos d (List.mem_cons_of_mem _ hd)
        have h2 := pos b (List.mem_cons_self ..)
        rw [List.map_cons, List.sum_cons, List.map_cons, List.sum_cons, h1]
        omega
    omega
  · have := Nat.mul_le_mul_right (s i) q
    omega
theorem PI.next (BB : BD s B (p + 1) M) (h : PI s p M W B i bs) (e : nkB ((s i : Nat) : Int) bs = []) (hM : (M : Int) < totB bs + ((s i : Nat) : Int)) (hp : i < p) : PI s p M W B (i + 1) bs := by
  have zp := c.pos (i := i) (by omega)
  have fin := PI.fin c hi BB h e hM
  have one := one_iff.mp e
  refine ⟨⟨fun b hb => ?_, h.st.asc⟩, h.le, fun j hj k h1 h2 => ?_⟩
  · obtain ⟨q1, q2⟩ := h.st.ok b hb
    obtain ⟨l, hl, el⟩ := tl_mem.mp q1
    exact ⟨tl_mem.mpr ⟨l, by omega, el⟩, q2⟩
  · rcases Nat.lt_or_ge j i with z | z
    · exact h.wt j z k (by omega) h2
    · obtain rfl : j = i := by omega
      obtain ⟨r, hr, er⟩ := c.dvd (i := j) (j := k) (by omega) (by omega)
      have nd : (bs.map fun b => b.1 / ((s j : Nat) : Int)).Nodup := by
        refine List.pairwise_map.mpr (h.st.ascL.imp_of_mem fun {b d} hb hd hlt q => ?_)
        have := one b hb d hd q
        rw [this] at hlt
        exact absurd hlt (by have : ¬ d.1 < d.1 := by omega
                             exact this)
      obtain ⟨L', nd', len, hq⟩ := grp hr nd
      refine ⟨L', nd', ?_, fun q hq' => ?_⟩
      · rw [List.length_map] at len
        have h3 : B j ≤ L'.length * s k := by
          rw [er]
          have := Nat.mul_le_mul_right (s j) len
          rw [Nat.mul_assoc, Nat.mul_comm r (s j)] at this
          omega
        have h4 := cdw_mono (s := s k) h3
        rw [cdw_mul (c.pos (by omega))] at h4
        exact h4
      · obtain ⟨k0, hk0, ek⟩ := hq q hq'
        obtain ⟨b, hb, eb⟩ := List.mem_map.mp hk0
        obtain ⟨hC, _⟩ := h.st.ok b hb
        obtain ⟨l, hl, el⟩ := tl_mem.mp hC
        have := c.mono (i := l) (j := j) (by omega) (by omega)
        refine ⟨b, hb, by omega, ?_⟩
        rw [er, Int.natCast_mul, ← Int.ediv_ediv_of_nonneg (by omega), eb, ek]
end
theorem PI.start {s B : Nat → Nat} {p M : Nat} {W : Int} : PI s p M W B 0 [] := ⟨⟨(fun b h => nomatch h), List.Pairwise.nil⟩, by unfold totB; simp, fun j h => absurd h (by omega)⟩
theorem nkB_empty {z : Int} : nkB z [] = [] := rfl
end Ph

/-! PhPg: the request program against any set of states that the requester cannot leave -/
namespace Ph
open PySem PySem.Spec PyProof.Rows L2
/-- every free stays within, and every get that the limit allows has an answer that stays within -/
structure Stays (s : Nat → Nat) (p M : Nat) (W : Int) (F : List Bk → Prop) : Prop where
  free : ∀ bs, F bs → ∀ b ∈ bs, F (bs.filter fun c => decide (c.1 ≠ b.1))
  get : ∀ bs, F bs → ∀ j, j ≤ p → totB bs + ((s j : Nat) : Int) ≤ M → ∃ a cs, 0 ≤ a ∧ a % ((s j : Nat) : Int) = 0 ∧ a + ((s j : Nat) : Int) ≤ W ∧ (∀ b ∈ bs, b.1 + b.2 ≤ a ∨ a + ((s j : Nat) : Int) ≤ b.1) ∧
    cs.Perm (bs ++ [(a, ((s j : Nat) : Int))]) ∧ (cs.Pairwise fun x y => SrtO.lexB y x = false) ∧ F cs
section
variable {s B : Nat → Nat} {p M : Nat} {W : Int} {F : List Bk → Prop}
theorem Stays.frees (S : Stays s p M W F) (c : CH s (p + 1)) {i : Nat} (hi : i ≤ p) : ∀ (n : Nat) (bs : List Bk), (nkB ((s i : Nat) : Int) bs).length = n → F bs → PI s p M W B i bs → ∃ cs, F cs ∧ PI s p M W B i cs ∧ nkB ((s i : Nat) : Int) cs = [] := by
  intro n
  induction n with
  | zero => exact fun bs h f q => ⟨bs, f, q, List.length_eq_zero_iff.mp h⟩
  | succ n ih =>
    intro bs h f q
    cases e : nkB ((s i : Nat) : Int) bs with
    | nil => rw [e] at h; cases h
    | cons b r =>
      obtain ⟨hb, q', e', _⟩ := PI.free c hi q e
      refine ih _ ?_ (S.free bs f b hb) q'
      rw [e']
      rw [e] at h
      exact Nat.succ.inj h
theorem Stays.gets (S : Stays s p M W F) (c : CH s (p + 1)) {i : Nat} (hi : i ≤ p) : ∀ (n : Nat) (bs : List Bk), ((M : Int) - totB bs).toNat ≤ n → F bs → PI s p M W B i bs → nkB ((s i : Nat) : Int) bs = [] → ∃ cs, F cs ∧ PI s p M W B i cs ∧ nkB ((s i : Nat) : Int) cs = [] ∧ (M : Int) < totB cs + ((s i : Nat) : Int) := by
  have zp := c.pos (i := i) (by omega)
  intro n
  induction n with
  | zero =>
    intro bs h f q e
    exact ⟨bs, f, q, e, by omega⟩
  | succ n ih =>
    intro bs h f q e
    by_cases l : totB bs + ((s i : Nat) : Int) ≤ M
    · obtain ⟨a, cs, a0, am, aW, ap, pm, so, fc⟩ := S.get bs f i hi l
      obtain ⟨q', e', t'⟩ := PI.get c hi q e a0 am aW ap l pm so
      exact ih cs (by omega) fc q' e'
    · exact ⟨bs, f, q, e, by omega⟩
theorem Stays.phase (S : Stays s p M W F) (c : CH s (p + 1)) (BB : BD s B (p + 1) M) (f0 : F []) : ∀ i, i ≤ p → ∃ cs, F cs ∧ PI s p M W B i cs ∧ nkB ((s i : Nat) : Int) cs = [] ∧ (M : Int) < totB cs + ((s i : Nat) : Int)
  | 0, h => S.gets c h _ [] (Nat.le_refl _) f0 PI.start nkB_empty
  | i + 1, h => by
    obtain ⟨bs, f, q, e, l⟩ := S.phase c BB f0 i (by omega)
    obtain ⟨cs, f', q', e'⟩ := S.frees c h _ bs rfl f (PI.next c (by omega) BB q e l (by omega))
    exact S.gets c h _ cs (Nat.le_refl _) f' q' e'
/-- blocks of different chunks within n chunks are at most n -/
theorem one_len {C : List Int} {z : Int} {n : Nat} {bs : List Bk} (hz : 0 < z) (st : St C (n * z) bs) (one : OneB z bs) : bs.length ≤ n := by
  have nd : (bs.map fun b => b.1 / z).Nodup := by
    refine List.pairwise_map.mpr (st.ascL.imp_of_mem fun {b d} hb hd hlt q => ?_)
    have := one b hb d hd q
    rw [this] at hlt
    exact absurd hlt (Int.lt_irrefl _)
  have := nd_le (m := (List.range n).map fun i : Nat => (i : Int)) nd fun q hq => by
    obtain ⟨b, hb, rfl⟩ := List.mem_map.mp hq
    obtain ⟨_, h1, h2, _, h3⟩ := st.ok b hb
    have q0 : 0 ≤ b.1 / z := Int.ediv_nonneg h2 (by omega)
    have q1 : b.1 / z < n := Int.ediv_lt_of_lt_mul hz (by omega)
    exact List.mem_map.mpr ⟨(b.1 / z).toNat, List.mem_range.mpr (by omega), by omega⟩
  rw [List.length_map, List.length_map, List.length_range] at this
  exact this
/-- guarantee (b): where the requester cannot be stopped there are as many pages as needed -/
theorem Stays.pages {n : Nat} (S : Stays s p M (n * ((s p : Nat) : Int)) F) (c : CH s (p + 1)) (f0 : F []) : bfn s (fun _ => 0) M p ≤ n * s p := by
  have zp := c.pos (i := p) (by omega)
  have BB := bd_bfn s (p + 1) M
  obtain ⟨cs, f, q, e, l⟩ := S.phase c BB f0 p (Nat.le_refl _)
  have h1 := PI.fin c (Nat.le_refl _) BB q e l
  have h2 := one_len (n := n) (by omega) q.st (one_iff.mp e)
  exact Nat.le_trans h1 (Nat.mul_le_mul_right _ h2)
end
end Ph

/-! PhGm: games: which states are lost, within how many moves; how many answers are left -/
namespace Ph
open PySem PySem.Spec PyProof.Rows L2
/-! ### a block put, a block taken away -/
def ins (b : Bk) : List Bk → List Bk
  | [] => [b]
  | c :: r => if SrtO.lexB c b then c :: ins b r else b :: c :: r
/-- the state with one more block -/
def wb (bs : List Bk) (a z : Int) : List Bk := ins (a, z) bs
/-- the state without the block at a -/
def ct (bs : List Bk) (a : Int) : List Bk := bs.filter fun c => decide (c.1 ≠ a)
theorem ins_perm (b : Bk) : ∀ l : List Bk, (ins b l).Perm (l ++ [b])
  | [] => .refl _
  | c :: r => by
    unfold ins
    split
    · exact (ins_perm b r).cons c
    · exact (List.perm_append_comm (l₁ := [b]) (l₂ := c :: r))
abbrev Srt (l : List Bk) : Prop := l.Pairwise fun x y => SrtO.lexB y x = false
theorem ins_srt {b : Bk} : ∀ {l : List Bk}, Srt l → Srt (ins b l)
  | [], _ => List.pairwise_singleton _ _
  | c :: r, h => by
    obtain ⟨h1, h2⟩ := List.pairwise_cons.mp h
    unfold ins
    split
    · rename_i lt
      refine List.pairwise_cons.mpr ⟨fun x hx => ?_, ins_srt h2⟩
      rcases List.mem_append.mp ((ins_perm b r).mem_iff.mp hx) with z | z
      · exact h1 x z
      · rw [List.mem_singleton.mp z]
        have := SrtO.lexB_iff.mp lt
        exact SrtO.lexB_no.mpr (by omega)
    · rename_i nl
      have nl : SrtO.lexB c b = false := by simpa using nl
      refine List.pairwise_cons.mpr ⟨fun x hx => ?_, h⟩
      rcases List.mem_cons.mp hx with z | z
      · rw [z]; exact nl
      · have e1 := SrtO.lexB_no.mp nl
        have e2 := SrtO.lexB_no.mp (h1 x z)
        exact SrtO.lexB_no.mpr (by omega)
theorem St.srt {C : List Int} {W : Int} {bs : List Bk} (st : St C W bs) : Srt bs := st.asc.imp_of_mem fun {b c} hb hc h => by
  have := (st.ok b hb).2.1
  exact SrtO.lexB_no.mpr (by omega)
theorem wb_of {C : List Int} {W : Int} {bs cs : List Bk} {a z : Int} (st : St C W bs) (pm : cs.Perm (bs ++ [(a, z)])) (so : Srt cs) : cs = wb bs a z :=
  perm_lex (pm.trans (ins_perm (a, z) bs).symm) so (ins_srt st.srt)
/-- a is a place for a size -/
def Plc (W : Int) (bs : List Bk) (z a : Int) : Prop := 0 ≤ a ∧ a % z = 0 ∧ a + z ≤ W ∧ ∀ b ∈ bs, b.1 + b.2 ≤ a ∨ a + z ≤ b.1
/-- all places for a size, ascending -/
def plcs (W : Int) (bs : List Bk) (z : Int) : List Int := plf z 0 (bs ++ [(W, 0)])
theorem mem_plcs {C : List Int} {W z a : Int} {bs : List Bk} (hz : 0 < z) (hW : 0 ≤ W) (st : St C W bs) : a ∈ plcs W bs z ↔ Plc W bs z a := by
  have := plf_mem (s := z) (W := W) hz bs 0 (fun b hb => st.bnd b hb) st.asc hW a
  unfold plcs Plc
  rw [this]
  constructor
  · rintro ⟨h1, h2, h3, h4⟩
    exact ⟨h2, h1, h3, fun b hb => (h4 b hb).symm⟩
  · rintro ⟨h1, h2, h3, h4⟩
    exact ⟨h2, h1, h3, fun b hb => (h4 b hb).symm⟩
theorem plcs_nodup {C : List Int} {W z : Int} {bs : List Bk} (hz : 0 < z) (hW : 0 ≤ W) (st : St C W bs) : (plcs W bs z).Nodup :=
  (plf_inc (s := z) (W := W) hz bs 0 (fun b hb => st.bnd b hb) st.asc hW).imp fun h => Int.ne_of_lt h
theorem plcs_len {C : List Int} {W z : Int} {bs : List Bk} (hz : 0 < z) (hW : 0 ≤ W) (st : St C W bs) : (plcs W bs z).length ≤ W.toNat := by
  have := plf_len hz (bs ++ [(W, 0)]) 0 W (fun b hb => by
    rcases List.mem_append.mp hb with h | h
    · obtain ⟨_, h2, h3, _, h5⟩ := st.ok b h
      omega
    · rw [List.mem_singleton.mp h]
      exact ⟨hW, Int.le_refl _, by show W + 0 ≤ W; omega⟩) (List.pairwise_append.mpr ⟨st.asc, List.pairwise_singleton _ _, fun b hb c hc => by
    rw [List.mem_singleton.mp hc]
    exact (st.ok b hb).2.2.2.2⟩) hW
  unfold plcs
  omega
/-- a state within the limit -/
structure Gst (s : Nat → Nat) (p M : Nat) (W : Int) (bs : List Bk) : Prop where
  st : St (tl s (p + 1)) W bs
  lim : totB bs ≤ M
section
variable {s : Nat → Nat} {p M : Nat} {W : Int} {bs cs : List Bk} {a z : Int} {j : Nat}
theorem totB_wb : totB (wb bs a z) = totB bs + z := by
  show totB (ins (a, z) bs) = _
  rw [totB_perm (ins_perm (a, z) bs), totB_snoc]
theorem mem_wb {b : Bk} : b ∈ wb bs a z ↔ b ∈ bs ∨ b = (a, z) := by
  unfold wb
  rw [(ins_perm (a, z) bs).mem_iff, List.mem_append, List.mem_singleton]
theorem Gst.put (c : CH s (p + 1)) (g : Gst s p M W bs) (hj : j ≤ p) (l : totB bs + ((s j : Nat) : Int) ≤ M) (h : Plc W bs ((s j : Nat) : Int) a) : Gst s p M W (wb bs a ((s j : Nat) : Int)) := by
  have zp := c.pos (i := j) (by omega)
  refine ⟨sorted_st (bs := bs ++ [(a, ((s j : Nat) : Int))]) (fun b hb => ?_) ?_ (ins_perm _ _) (ins_srt g.st.srt), by rw [totB_wb]; exact l⟩
  · rcases List.mem_append.mp hb with h' | h'
    · exact g.st.ok b h'
    · rw [List.mem_singleton.mp h']
      exact ⟨tl_mem.mpr ⟨j, by omega, rfl⟩, by dsimp only; omega, h.1, h.2.1, h.2.2.1⟩
  · refine List.pairwise_append.mpr ⟨g.st.asc.imp fun h => .inl h, List.pairwise_singleton _ _, fun b hb d hd => ?_⟩
    rw [List.mem_singleton.mp hd]
    exact h.2.2.2 b hb
theorem totB_filter {C : List Int} (q : Bk → Bool) (st : St C W bs) : totB (bs.filter q) ≤ totB bs := sum_filter q st
theorem Gst.cut (g : Gst s p M W bs) : Gst s p M W (ct bs a) := ⟨g.st.filter _, Int.le_trans (totB_filter _ g.st) g.lim⟩
theorem Gst.nil : Gst s p M W [] := ⟨⟨(fun _ h => nomatch h), .nil⟩, by show (0 : Int) ≤ M; omega⟩
/-- no block of the state begins at a place -/
theorem Plc.ne {C : List Int} (st : St C W bs) (hz : 0 < z) (h : Plc W bs z a) : ∀ b ∈ bs, b.1 ≠ a := fun b hb e => by
  have := h.2.2.2 b hb
  have := (st.ok b hb).2.1
  omega
theorem ct_wb {C : List Int} (st : St C W bs) (hz : 0 < z) (h : Plc W bs z a) : ct (wb bs a z) a = bs := by
  have ne := h.ne st hz
  refine perm_lex (l := ct (wb bs a z) a) ?_ ((ins_srt st.srt).sublist List.filter_sublist) st.srt
  unfold ct
  refine ((ins_perm (a, z) bs).filter _).trans ?_
  rw [List.filter_append, List.filter_eq_self.mpr fun b hb => decide_eq_true (ne b hb), List.filter_cons_of_neg (by simp), List.filter_nil, List.append_nil]
theorem wb_ct {C : List Int} {b : Bk} (st : St C W bs) (hb : b ∈ bs) : wb (ct bs b.1) b.1 b.2 = bs := by
  have asc := st.ascL
  refine (wb_of (bs := ct bs b.1) (st.filter _) ?_ st.srt).symm
  have key : ∀ l : List Bk, Asc l → b ∈ l → l.Perm (ct l b.1 ++ [b]) := fun l => by
    induction l with
    | nil => intro _ h; cases h
    | cons d r ih =>
      intro asc h
      obtain ⟨h1, h2⟩ := List.pairwise_cons.mp asc
      rcases List.mem_cons.mp h with e | e
      · subst e
        have : ct (b :: r) b.1 = r := by
          unfold ct
          rw [List.filter_cons_of_neg (by simp)]
          exact List.filter_eq_self.mpr fun c hc => decide_eq_true (by have := h1 c hc; omega)
        rw [this]
        exact List.perm_append_comm (l₁ := [b]) (l₂ := r)
      · have := h1 b e
        have e2 : ct (d :: r) b.1 = d :: ct r b.1 := by
          unfold ct
          rw [List.filter_cons_of_pos (by simp; omega)]
        rw [e2]
        exact (ih h2 e).cons d
  exact key bs asc hb
theorem ct_plc {C : List Int} {b : Bk} (st : St C W bs) (hb : b ∈ bs) : Plc W (ct bs b.1) b.2 b.1 := by
  obtain ⟨_, h2, h3, h4, h5⟩ := st.ok b hb
  refine ⟨h3, h4, h5, fun c hc => ?_⟩
  obtain ⟨hc, ne⟩ := List.mem_filter.mp hc
  have ne := of_decide_eq_true ne
  have : b = c ∨ b.1 + b.2 ≤ c.1 ∨ c.1 + c.2 ≤ b.1 := pair_or (R := fun b c => b.1 + b.2 ≤ c.1) st.asc b hb c hc
  rcases this with e | e | e
  · rw [e] at ne; exact absurd rfl ne
  · exact .inr e
  · exact .inl e
theorem totB_ct {C : List Int} {b : Bk} (st : St C W bs) (hb : b ∈ bs) : totB (ct bs b.1) + b.2 = totB bs := totB_out st.ascL hb
/-! ### lost states -/
/-- the requester makes every allocator fail within so many moves -/
def Lst (s : Nat → Nat) (p M : Nat) (W : Int) : Nat → List Bk → Prop
  | 0, _ => False
  | n + 1, bs => (∃ j, j ≤ p ∧ totB bs + ((s j : Nat) : Int) ≤ M ∧ ∀ a, Plc W bs ((s j : Nat) : Int) a → Lst s p M W n (wb bs a ((s j : Nat) : Int))) ∨ ∃ b ∈ bs, Lst s p M W n (ct bs b.1)
theorem Lst.up : ∀ {n : Nat} {bs : List Bk}, Lst s p M W n bs → Lst s p M W (n + 1) bs
  | 0, _, h => h.elim
  | n + 1, bs, h => by
    rcases h with ⟨j, hj, l, h⟩ | ⟨b, hb, h⟩
    · exact .inl ⟨j, hj, l, fun a ha => (h a ha).up⟩
    · exact .inr ⟨b, hb, h.up⟩
theorem Lst.mono {n m : Nat} (h : Lst s p M W n bs) (le : n ≤ m) : Lst s p M W m bs := by
  induction le with
  | refl => exact h
  | step _ ih => exact ih.up
/-- nothing new in one round, nothing new for ever -/
theorem Lst.stop (c : CH s (p + 1)) {m : Nat} (h : ∀ bs, Gst s p M W bs → Lst s p M W (m + 1) bs → Lst s p M W m bs) : ∀ {n : Nat} {bs : List Bk}, m ≤ n → Gst s p M W bs → Lst s p M W n bs → Lst s p M W m bs := by
  intro n
  induction n with
  | zero =>
    intro bs le _ l
    exact l.elim
  | succ n ih =>
    intro bs le g l
    rcases Nat.lt_or_ge n m with z | z
    · have : m = n + 1 := by omega
      rw [this]; exact l
    · refine h bs g ?_
      rcases l with ⟨j, hj, lim, l⟩ | ⟨b, hb, l⟩
      · exact .inl ⟨j, hj, lim, fun a ha => ih z (g.put c hj lim ha) (l a ha)⟩
      · exact .inr ⟨b, hb, ih z g.cut l⟩
/-- where the requester cannot leave a set of states none of them is lost -/
theorem Stays.safe {F : List Bk → Prop} (S : Stays s p M W F) (gF : ∀ bs, F bs → Gst s p M W bs) : ∀ (n : Nat) (bs : List Bk), F bs → ¬ Lst s p M W n bs := by
  intro n
  induction n with
  | zero => exact fun _ _ h => h
  | succ n ih =>
    rintro bs f (⟨j, hj, l, h⟩ | ⟨b, hb, h⟩)
    · obtain ⟨a, cs, a0, am, aW, ap, pm, so, fc⟩ := S.get bs f j hj l
      have e := wb_of (gF bs f).st pm so
      subst e
      exact ih _ fc (h a ⟨a0, am, aW, ap⟩)
    · exact ih _ (S.free bs f b hb) h
/-- the states that are never lost cannot be left -/
theorem safe_stays (c : CH s (p + 1)) (hW : 0 ≤ W) : Stays s p M W (fun bs => Gst s p M W bs ∧ ∀ n, ¬ Lst s p M W n bs) := by
  refine ⟨fun bs ⟨g, h⟩ b hb => ⟨g.cut, fun n l => h (n + 1) (.inr ⟨b, hb, l⟩)⟩, fun bs ⟨g, h⟩ j hj l => ?_⟩
  have zp := c.pos (i := j) (by omega)
  have : ∃ a, Plc W bs ((s j : Nat) : Int) a ∧ ∀ n, ¬ Lst s p M W n (wb bs a ((s j : Nat) : Int)) := Classical.byContradiction fun no => by
    have all : ∀ a, Plc W bs ((s j : Nat) : Int) a → ∃ n, Lst s p M W n (wb bs a ((s j : Nat) : Int)) := fun a ha => Classical.byContradiction fun q => no ⟨a, ha, fun n ln => q ⟨n, ln⟩⟩
    have bound : ∀ L : List Int, (∀ a ∈ L, Plc W bs ((s j : Nat) : Int) a) → ∃ n, ∀ a ∈ L, Lst s p M W n (wb bs a ((s j : Nat) : Int)) := fun L => by
      induction L with
      | nil => exact fun _ => ⟨0, fun _ h => nomatch h⟩
      | cons a r ih =>
        intro hL
        obtain ⟨n1, h1⟩ := ih fun x hx => hL x (List.mem_cons_of_mem _ hx)
        obtain ⟨n2, h2⟩ := all a (hL a List.mem_cons_self)
        refine ⟨max n1 n2, fun x hx => ?_⟩
        rcases List.mem_cons.mp hx with e | e
        · rw [e]; exact h2.mono (Nat.le_max_right _ _)
        · exact (h1 x e).mono (Nat.le_max_left _ _)
    obtain ⟨n, hn⟩ := bound (plcs W bs ((s j : Nat) : Int)) fun a ha => (mem_plcs (by omega) hW g.st).mp ha
    exact h (n + 1) (.inl ⟨j, hj, l, fun a ha => hn a ((mem_plcs (by omega) hW g.st).mpr ha)⟩)
  obtain ⟨a, ha, hn⟩ := this
  exact ⟨a, _, ha.1, ha.2.1, ha.2.2.1, ha.2.2.2, ins_perm _ _, ins_srt g.st.srt, g.put c hj l ha, hn⟩
/-- guarantee (b) of games: with fewer pages than needed the empty state is lost -/
theorem few_lost {n : Nat} (c : CH s (p + 1)) (h : n * s p < bfn s (fun _ => 0) M p) : ∃ k, Lst s p M (n * ((s p : Nat) : Int)) k [] := Classical.byContradiction fun no => by
  have := (safe_stays (M := M) (W := n * ((s p : Nat) : Int)) c (by rw [← Int.natCast_mul]; omega)).pages c ⟨Gst.nil, fun k l => no ⟨k, l⟩⟩
  omega
/-- the states whose outlook ends within the heap -/
def Out (s : Nat → Nat) (p M : Nat) (W : Int) (bs : List Bk) : Prop := Gst s p M W bs ∧ ∀ ρ, Rho s p bs ρ → ((bfn s ρ M p : Nat) : Int) ≤ W
/-- guarantee (c) of games: they cannot be left -/
theorem out_stays {m : Nat} (cn : Cn s p m) (hW : 0 ≤ W) : Stays s p M W (Out s p M W) := by
  refine ⟨fun bs ⟨g, h⟩ b hb => ⟨g.cut, fun ρ' h' => ?_⟩, fun bs ⟨g, h⟩ j hj l => ?_⟩
  · obtain ⟨ρ, hρ⟩ := Rho.ex g.st
    have := free_outlook (M := M) cn.ch g.st hρ h' p (Nat.le_refl _)
    have := h ρ hρ
    omega
  · have zp := cn.ch.pos (i := j) (by omega)
    obtain ⟨ρ, hρ⟩ := Rho.ex g.st
    obtain ⟨x, r, ex⟩ := has_place (W := W) cn.ch (i := j) (by omega) hW g.st hρ l (h ρ hρ)
    have lp := lowp_of (by omega) hW g.st ex
    have pl : Plc W bs ((s j : Nat) : Int) x := ⟨lp.pos, lp.mod, lp.fit, fun b hb => (lp.free b hb).symm⟩
    have gp := g.put cn.ch hj l pl
    refine ⟨x, _, pl.1, pl.2.1, pl.2.2.1, pl.2.2.2, ins_perm _ _, ins_srt g.st.srt, gp, fun ρ' h' => ?_⟩
    obtain ⟨n, ex, en⟩ := lp.ends cn.ch hj g.st hρ l
    have := get_outlook cn hj g.st hρ gp.st h' ex en (ins_perm _ _) p (Nat.le_refl _)
    have := h ρ hρ
    omega
theorem Out.safe {m : Nat} (cn : Cn s p m) (hW : 0 ≤ W) (h : Out s p M W bs) (n : Nat) : ¬ Lst s p M W n bs := (out_stays cn hW).safe (fun _ h => h.1) n bs h
/-- with as many pages as needed the empty state is not lost -/
theorem enough_safe {m n : Nat} (cn : Cn s p m) (h : bfn s (fun _ => 0) M p ≤ n * s p) (k : Nat) : ¬ Lst s p M (n * ((s p : Nat) : Int)) k [] := by
  refine Out.safe cn (by rw [← Int.natCast_mul]; omega) ⟨Gst.nil, fun ρ hρ => ?_⟩ k
  have := bfn_mono (M := M) (M' := M) cn.ch (ρ := fun _ => 0) (ρ' := ρ) (fun i hi => by
    have h1 := hρ.at_ (show i ≤ p by omega)
    have h2 := (Rho.nil s p).at_ (show i ≤ p by omega)
    rw [h1] at h2
    omega) (Nat.le_refl _) p (by omega)
  rw [← Int.natCast_mul]
  omega
/-! ### how many answers are left -/
/-- how many answers to a get lead to none of the states ps -/
def cnt (W : Int) (ps : List (List Bk)) (bs : List Bk) (z : Int) : Nat := ((plcs W bs z).filter fun a => decide (wb bs a z ∉ ps)).length
theorem cnt_zero {C : List Int} {ps : List (List Bk)} (hz : 0 < z) (hW : 0 ≤ W) (st : St C W bs) : cnt W ps bs z = 0 ↔ ∀ a, Plc W bs z a → wb bs a z ∈ ps := by
  unfold cnt
  rw [List.length_eq_zero_iff, List.filter_eq_nil_iff]
  constructor
  · intro h a ha
    have := h a ((mem_plcs hz hW st).mpr ha)
    exact Classical.byContradiction fun n => this (decide_eq_true n)
  · intro h a ha
    simpa using h a ((mem_plcs hz hW st).mp ha)
theorem cnt_nil : cnt W [] bs z = (plcs W bs z).length := by
  unfold cnt
  rw [List.filter_eq_self.mpr fun a _ => by simp]
theorem filter_one {α : Type} [DecidableEq α] {x : α} {f g : α → Bool} : ∀ {l : List α}, l.Nodup → x ∈ l → f x = true → g x = false → (∀ y ∈ l, y ≠ x → f y = g y) → (l.filter g).length + 1 = (l.filter f).length
  | [], _, h, _, _, _ => by cases h
  | y :: r, nd, h, fx, gx, e => by
    obtain ⟨n1, n2⟩ := List.nodup_cons.mp nd
    rcases List.mem_cons.mp h with q | q
    · subst q
      have : r.filter f = r.filter g := List.filter_congr fun z hz => e z (List.mem_cons_of_mem _ hz) fun w => n1 (by rw [← w]; exact hz)
      rw [List.filter_cons_of_pos fx, List.filter_cons_of_neg (by rw [gx]; decide), this, List.length_cons]
    · have ne : y ≠ x := fun w => n1 (by rw [w]; exact q)
      have ih := filter_one n2 q fx gx fun z hz => e z (List.mem_cons_of_mem _ hz)
      have ey := e y List.mem_cons_self ne
      by_cases fy : f y = true
      · rw [List.filter_cons_of_pos fy, List.filter_cons_of_pos (by rw [← ey]; exact fy), List.length_cons, List.length_cons, ih]
      · rw [List.filter_cons_of_neg fy, List.filter_cons_of_neg (by rw [← ey]; exact fy)]
        exact ih
/-- one more state looked at: one answer less for the gets that lead to it -/
theorem cnt_hit {C : List Int} {ps : List (List Bk)} {b : Bk} (hW : 0 ≤ W) (st : St C W cs) (hb : b ∈ cs) (n : cs ∉ ps) : cnt W (ps ++ [cs]) (ct cs b.1) b.2 + 1 = cnt W ps (ct cs b.1) b.2 := by
  have stc : St C W (ct cs b.1) := st.filter _
  have b1 := (st.ok b hb).2.1
  have back := wb_ct st hb
  refine filter_one (x := b.1) (plcs_nodup (by omega) hW stc) ((mem_plcs (by omega) hW stc).mpr (ct_plc st hb)) (decide_eq_true (by rw [back]; exact n)) (decide_eq_false (by rw [back]; simp)) fun y hy ne => ?_
  have hy := (mem_plcs (by omega) hW stc).mp hy
  refine decide_eq_decide.mpr ?_
  rw [List.mem_append, List.mem_singleton]
  constructor
  · rintro h (q | q)
    · exact h q
    · have h1 : (y, b.2) ∈ cs := by rw [← q]; exact mem_wb.mpr (.inr rfl)
      have h2 := ct_wb stc (by omega) hy
      rw [q] at h2
      have h3 : b ∈ ct cs y := List.mem_filter.mpr ⟨hb, decide_eq_true (Ne.symm ne)⟩
      rw [h2] at h3
      exact absurd rfl (of_decide_eq_true (List.mem_filter.mp h3).2)
  · exact fun h q => h (.inl q)
/-- the others have as many as before -/
theorem cnt_miss {C : List Int} {ps : List (List Bk)} (hz : 0 < z) (hW : 0 ≤ W) (stb : St C W bs) (st : St C W cs) (n : ∀ b ∈ cs, (ct cs b.1, b.2) ≠ (bs, z)) : cnt W (ps ++ [cs]) bs z = cnt W ps bs z := by
  unfold cnt
  congr 1
  refine List.filter_congr fun a ha => decide_eq_decide.mpr ?_
  have ha := (mem_plcs hz hW stb).mp ha
  rw [List.mem_append, List.mem_singleton]
  constructor
  · exact fun h q => h (.inl q)
  · rintro h (q | q)
    · exact h q
    · refine n (a, z) (by rw [← q]; exact mem_wb.mpr (.inr rfl)) ?_
      rw [← q]
      show (ct (wb bs a z) a, z) = (bs, z)
      rw [ct_wb stb hz ha]
end
end Ph

/-! PhGn: how many states there are: the numbers that the program counts; the states from a word on -/
namespace Ph
open PySem PySem.Spec PyProof.Rows L2
/-- the states of one page -/
def cst (s : Nat → Nat) : Nat → Nat
  | 0 => 2
  | i + 1 => cst s i ^ (s (i + 1) / s i) + 1
/-- a small heap: so few states that the program goes through all of them -/
structure Sml (s : Nat → Nat) (p n : Nat) : Prop where
  w : n * s p ≤ 12
  k : ∀ i, i ≤ p → cst s i ≤ 20000
  c : cst s p ^ n ≤ 20000
  q : p ≤ 5
  z : s p ≤ 12
  n : n ≤ 12
theorem mulB_ok {b i n : Nat} (h : b ≤ 20000) (hi : i ≤ n) (hn : n ≤ 1000) : CMulW ((b ^ i : Nat) : Int) (b : Nat) := by
  have hb : b < 2 ^ 15 := Nat.lt_of_le_of_lt h (by decide)
  refine wide_mul (a := 15 * i + 1) (b := 15) ?_ ?_ (by omega) (by omega) (by omega)
  · rw [Int.natAbs_natCast]
    have h1 : b ^ i ≤ (2 ^ 15) ^ i := Nat.pow_le_pow_left (Nat.le_of_lt hb) i
    rw [← Nat.pow_mul] at h1
    exact Nat.lt_of_le_of_lt h1 (Nat.pow_lt_pow_right (by decide) (Nat.lt_succ_self _))
  · rw [Int.natAbs_natCast]
    exact hb
/-! ### the states whose blocks begin at a or later -/
def From (C : List Int) (W a : Int) (bs : List Bk) : Prop := St C W bs ∧ ∀ b ∈ bs, a ≤ b.1
theorem from_end {C : List Int} {W : Int} {bs : List Bk} : From C W W bs ↔ bs = [] := by
  constructor
  · rintro ⟨st, h⟩
    cases bs with
    | nil => rfl
    | cons b r =>
      have := h b List.mem_cons_self
      obtain ⟨_, h2, _, _, h5⟩ := st.ok b List.mem_cons_self
      omega
  · rintro rfl
    exact ⟨⟨(fun _ h => nomatch h), .nil⟩, fun _ h => nomatch h⟩
theorem from_step {C : List Int} {W a : Int} {bs : List Bk} (h0 : 0 ≤ a) : From C W a bs ↔ From C W (a + 1) bs ∨ ∃ z r, z ∈ C ∧ 1 ≤ z ∧ a % z = 0 ∧ a + z ≤ W ∧ From C W (a + z) r ∧ bs = (a, z) :: r := by
  constructor
  · rintro ⟨st, h⟩
    cases bs with
    | nil => exact .inl ⟨st, fun _ h => nomatch h⟩
    | cons b r =>
      have hb := h b List.mem_cons_self
      obtain ⟨h1, h2, h3, h4, h5⟩ := st.ok b List.mem_cons_self
      obtain ⟨p1, p2⟩ := List.pairwise_cons.mp st.asc
      rcases Int.lt_or_le a b.1 with lt | ge
      · refine .inl ⟨st, fun c hc => ?_⟩
        rcases List.mem_cons.mp hc with e | e
        · rw [e]; omega
        · have := p1 c e
          omega
      · have e : b.1 = a := by omega
        refine .inr ⟨b.2, r, h1, h2, by rw [← e]; exact h4, by omega, ⟨⟨fun c hc => st.ok c (List.mem_cons_of_mem _ hc), p2⟩, fun c hc => by have := p1 c hc; omega⟩, by rw [← e]⟩
  · rintro (⟨st, h⟩ | ⟨z, r, h1, h2, h3, h4, ⟨st, h⟩, rfl⟩)
    · exact ⟨st, fun b hb => by have := h b hb; omega⟩
    · refine ⟨⟨fun b hb => ?_, List.pairwise_cons.mpr ⟨fun c hc => by have := h c hc; exact this, st.asc⟩⟩, fun b hb => ?_⟩
      · rcases List.mem_cons.mp hb with e | e
        · rw [e]; exact ⟨h1, h2, h0, h3, h4⟩
        · exact st.ok b e
      · rcases List.mem_cons.mp hb with e | e
        · rw [e]; exact Int.le_refl _
        · have := h b e
          omega
/-- how long the list may get on the way -/
def bsm (n : Nat) : Nat → Nat
  | 0 => 3 ^ (n - 1)
  | i + 1 => bsm n i + (if i < n then 3 ^ (n - 1 - i) else 0)
theorem bsm_le {n : Nat} (hn : 1 ≤ n) : ∀ i, bsm n i ≤ 3 ^ n := by
  have key : ∀ i, i ≤ n → 2 * bsm n i + 3 ^ (n - i) ≤ 2 * 3 ^ (n - 1) + 3 ^ n := fun i => by
    induction i with
    | zero => intro _; show 2 * 3 ^ (n - 1) + 3 ^ (n - 0) ≤ _; rw [Nat.sub_zero]; exact Nat.le_refl _
    | succ i ih =>
      intro hi
      have h1 := ih (by omega)
      have e : bsm n (i + 1) = bsm n i + 3 ^ (n - 1 - i) := by show bsm n i + (if i < n then _ else 0) = _; rw [if_pos (by omega)]
      have e2 : 3 ^ (n - i) = 3 * 3 ^ (n - 1 - i) := by rw [show n - i = (n - 1 - i) + 1 by omega, Nat.pow_succ, Nat.mul_comm]
      rw [e, show n - (i + 1) = n - 1 - i by omega]
      omega
  have e3 : 3 ^ n = 3 * 3 ^ (n - 1) := by rw [show n = (n - 1) + 1 by omega, Nat.pow_succ, Nat.mul_comm]; simp
  have top : ∀ i, i ≤ n → bsm n i ≤ 3 ^ n := fun i hi => by
    have := key i hi
    rw [e3] at this ⊢
    generalize 3 ^ (n - i) = e at *
    generalize 3 ^ (n - 1) = d at *
    omega
  intro i
  rcases Nat.le_total i n with h | h
  · exact top i h
  · have : ∀ d, bsm n (n + d) = bsm n n := fun d => by
      induction d with
      | zero => rfl
      | succ d ih =>
        show bsm n (n + d) + (if n + d < n then _ else 0) = _
        rw [if_neg (by omega), ih]
        rfl
    rw [show i = n + (i - n) by omega, this]
    exact top n (Nat.le_refl _)
theorem bsm_up {n i : Nat} : bsm n i ≤ bsm n (i + 1) := Nat.le_add_right _ _
theorem CH.ge {s : Nat → Nat} {p m : Nat} (cn : Cn s p m) : ∀ {i}, i ≤ p → i + 1 ≤ s i
  | 0, _ => by rw [cn.ch.s0]; exact Nat.le_refl _
  | i + 1, h => by
    obtain ⟨r, r2, _, e⟩ := cn.two i (by omega)
    have ih := CH.ge cn (i := i) (by omega)
    rw [e]
    have := Nat.mul_le_mul ih r2
    omega
theorem st_lenA {C : List Int} {W : Int} : ∀ (bs : List Bk) (a : Int), St C W bs → (∀ b ∈ bs, a ≤ b.1) → a ≤ W → a + (bs.length : Int) ≤ W
  | [], a, _, _, h => by show a + ((0 : Nat) : Int) ≤ W; omega
  | b :: r, a, st, h, _ => by
    obtain ⟨p1, p2⟩ := List.pairwise_cons.mp st.asc
    obtain ⟨_, h2, _, _, h5⟩ := st.ok b List.mem_cons_self
    have hb := h b List.mem_cons_self
    have := st_lenA r (b.1 + b.2) ⟨fun c hc => st.ok c (List.mem_cons_of_mem _ hc), p2⟩ p1 h5
    rw [List.length_cons]
    omega
theorem st_len {C : List Int} {W : Int} {bs : List Bk} (st : St C W bs) (hW : 0 ≤ W) : (bs.length : Int) ≤ W := by
  have := st_lenA bs 0 st (fun b hb => (st.ok b hb).2.2.1) hW
  omega
end Ph

/-! PhGo: the rounds in which the lost states are found -/
namespace Ph
open PySem PySem.Spec PyProof.Rows L2
/-- a request: the block at an address is freed, a size is asked for -/
inductive Rqt where
  | fr (a : Int)
  | gt (z : Int)
section
variable (s : Nat → Nat) (p M : Nat) (W : Int)
/-- the fewest moves -/
def Rnk (r : Nat) (bs : List Bk) : Prop := Lst s p M W r bs ∧ ∀ k, k < r → ¬ Lst s p M W k bs
/-- the request can be made, and leads to states that are lost in fewer moves -/
def Goes (r : Nat) (bs : List Bk) : Rqt → Prop
  | .fr a => ∃ b ∈ bs, b.1 = a ∧ ∃ k, k + 1 = r ∧ Lst s p M W k (ct bs a)
  | .gt z => ∃ j, j ≤ p ∧ z = ((s j : Nat) : Int) ∧ totB bs + ((s j : Nat) : Int) ≤ M ∧ ∃ k, k + 1 = r ∧ ∀ a, Plc W bs z a → Lst s p M W k (wb bs a z)
/-- a request from bs that may lead to cs, all whose answers lead to states of ps -/
def Into (ps : List (List Bk)) (cs bs : List Bk) : Rqt → Prop
  | .fr a => ∃ b ∈ bs, b.1 = a ∧ ct bs a = cs
  | .gt z => ∃ j, j ≤ p ∧ z = ((s j : Nat) : Int) ∧ totB bs + ((s j : Nat) : Int) ≤ M ∧ (∀ a, Plc W bs z a → wb bs a z ∈ ps) ∧ ∃ a, Plc W bs z a ∧ wb bs a z = cs
end
section
variable {s : Nat → Nat} {p M : Nat} {W : Int}
theorem Rnk.uniq {r t : Nat} {bs : List Bk} (h : Rnk s p M W r bs) (k : Rnk s p M W t bs) : r = t := by
  rcases Nat.lt_trichotomy r t with z | z | z
  · exact absurd h.1 (k.2 r z)
  · exact z
  · exact absurd k.1 (h.2 t z)
/-- at the first round: just where some get that the limit allows has no place -/
theorem lst_one {bs : List Bk} : Lst s p M W 1 bs ↔ ∃ j, j ≤ p ∧ totB bs + ((s j : Nat) : Int) ≤ M ∧ ∀ a, ¬ Plc W bs ((s j : Nat) : Int) a := by
  constructor
  · rintro (⟨j, hj, l, h⟩ | ⟨b, _, h⟩)
    · exact ⟨j, hj, l, fun a ha => h a ha⟩
    · exact h.elim
  · rintro ⟨j, hj, l, h⟩
    exact .inl ⟨j, hj, l, fun a ha => (h a ha).elim⟩
theorem rnk_one {bs : List Bk} (h : Lst s p M W 1 bs) : Rnk s p M W 1 bs := ⟨h, fun k hk l => by
  obtain rfl : k = 0 := by omega
  exact l⟩
/-- what leads into states lost within m moves is lost within one more -/
theorem Into.lst {m : Nat} {ps : List (List Bk)} {cs bs : List Bk} {q : Rqt} (h : Into s p M W ps cs bs q) (hp : ∀ x ∈ ps, Lst s p M W m x) (hc : Lst s p M W m cs) : Lst s p M W (m + 1) bs ∧ Goes s p M W (m + 1) bs q := by
  cases q with
  | fr a =>
    obtain ⟨b, hb, rfl, e⟩ := h
    exact ⟨.inr ⟨b, hb, by rw [e]; exact hc⟩, b, hb, rfl, m, rfl, by rw [e]; exact hc⟩
  | gt z =>
    obtain ⟨j, hj, rfl, l, h1, _⟩ := h
    exact ⟨.inl ⟨j, hj, l, fun a ha => hp _ (h1 a ha)⟩, j, hj, rfl, l, m, rfl, fun a ha => hp _ (h1 a ha)⟩
/-- all states of the next round lead into the newest ones, one after another -/
theorem into_all {m : Nat} (c : CH s (p + 1)) (hW : 0 ≤ W) {ps ns : List (List Bk)} (hm : 1 ≤ m) (hp : ∀ x, x ∈ ps ↔ Gst s p M W x ∧ Lst s p M W (m - 1) x) (hn : ∀ x, x ∈ ns ↔ Gst s p M W x ∧ Rnk s p M W m x) {bs : List Bk} (g : Gst s p M W bs) (l : Lst s p M W (m + 1) bs) (nl : ¬ Lst s p M W m bs) :
    ∃ i cs q, ns[i]? = some cs ∧ Into s p M W (ps ++ ns.take (i + 1)) cs bs q := by
  obtain ⟨k, rfl⟩ : ∃ k, m = k + 1 := ⟨m - 1, by omega⟩
  rw [Nat.add_sub_cancel] at hp
  have new : ∀ x, Gst s p M W x → Lst s p M W (k + 1) x → x ∉ ps → x ∈ ns := fun x gx lx nx => (hn x).mpr ⟨gx, lx, fun t ht lt => nx ((hp x).mpr ⟨gx, lt.mono (by omega)⟩)⟩
  rcases l with ⟨j, hj, lim, h⟩ | ⟨b, hb, h⟩
  · have zp := c.pos (i := j) (by omega)
    -- an answer that is new
    have ex : ∃ a, Plc W bs ((s j : Nat) : Int) a ∧ wb bs a ((s j : Nat) : Int) ∉ ps := Classical.byContradiction fun no => nl (.inl ⟨j, hj, lim, fun a ha => ((hp _).mp (Classical.byContradiction fun q => no ⟨a, ha, q⟩)).2⟩)
    -- how many of the newest must be looked at for all answers
    have key : ∀ n, (∀ a, Plc W bs ((s j : Nat) : Int) a → wb bs a ((s j : Nat) : Int) ∈ ps ++ ns.take n) → ∃ i cs, ns[i]? = some cs ∧ (∀ a, Plc W bs ((s j : Nat) : Int) a → wb bs a ((s j : Nat) : Int) ∈ ps ++ ns.take (i + 1)) ∧ ∃ a, Plc W bs ((s j : Nat) : Int) a ∧ wb bs a ((s j : Nat) : Int) = cs := fun n => by
      induction n with
      | zero =>
        intro h
        obtain ⟨a, ha, na⟩ := ex
        have := h a ha
        rw [List.take_zero, List.append_nil] at this
        exact absurd this na
      | succ n ih =>
        intro h
        rcases Classical.em (∀ a, Plc W bs ((s j : Nat) : Int) a → wb bs a ((s j : Nat) : Int) ∈ ps ++ ns.take n) with z | z
        · exact ih z
        · have : ∃ a, Plc W bs ((s j : Nat) : Int) a ∧ wb bs a ((s j : Nat) : Int) ∉ ps ++ ns.take n := Classical.byContradiction fun no => z fun a ha => Classical.byContradiction fun q => no ⟨a, ha, q⟩
          obtain ⟨a, ha, na⟩ := this
          have ina := h a ha
          rw [List.take_add_one, ← List.append_assoc] at ina
          rcases List.mem_append.mp ina with q | q
          · exact absurd q na
          · cases e : ns[n]? with
            | none => rw [e] at q; cases q
            | some cs =>
              rw [e] at q
              exact ⟨n, cs, e, h, a, ha, List.mem_singleton.mp q⟩
    obtain ⟨i, cs, e, h1, h2⟩ := key ns.length fun a ha => by
      rw [List.take_length]
      rcases Classical.em (wb bs a ((s j : Nat) : Int) ∈ ps) with z | z
      · exact List.mem_append_left _ z
      · exact List.mem_append_right _ (new _ (g.put c hj lim ha) (h a ha) z)
    exact ⟨i, cs, .gt ((s j : Nat) : Int), e, j, hj, rfl, lim, h1, h2⟩
  · have hn2 : ct bs b.1 ∈ ns := new _ g.cut h fun q => nl (.inr ⟨b, hb, ((hp _).mp q).2⟩)
    obtain ⟨i, hi, e⟩ := List.getElem_of_mem hn2
    exact ⟨i, ct bs b.1, .fr b.1, by rw [List.getElem?_eq_getElem hi, e], b, hb, rfl, rfl⟩
end
/-! ### keys of states with a size -/
theorem putK_old_len {κ : Type} [DecidableEq κ] {kvs : List (κ × V)} {k : κ} {v : V} (h : (valV kvs k).isSome = true) : (putK kvs k v).length = kvs.length := by
  unfold putK
  rw [valV_any, if_pos h, List.length_map]
end Ph

set_option maxHeartbeats 4000000
/-! PhGs: the settings of the games' laws: written chains with numbers; what has to be checked of them. -/
namespace Ph
open PySem PySem.Spec PyProof.Rows L2
def sqL (L : List Nat) (i : Nat) : Nat := L.getD i 0
def okSet (L : List Nat) (n : Nat) : Bool :=
  decide (1 ≤ L.length) && decide (sqL L 0 = 1) && (List.range (L.length - 1)).all (fun i => decide (2 ≤ sqL L (i + 1) / sqL L i ∧ sqL L (i + 1) / sqL L i ≤ 1000 ∧ sqL L (i + 1) = sqL L i * (sqL L (i + 1) / sqL L i))) &&
  decide (sqL L (L.length - 1) ≤ 12 ∧ L.length ≤ 6 ∧ n * sqL L (L.length - 1) ≤ 12 ∧ n ≤ 12) && (List.range L.length).all (fun i => decide (cst (sqL L) i ≤ 20000)) && decide (cst (sqL L) (L.length - 1) ^ n ≤ 20000)
theorem sqL_tl (L : List Nat) : L.map (fun i : Nat => (i : Int)) = tl (sqL L) L.length := by
  unfold tl
  refine List.ext_getElem (by simp) fun i h1 h2 => ?_
  rw [List.length_map] at h1
  rw [List.getElem_map, List.getElem_map, List.getElem_range]
  unfold sqL
  rw [List.getD_eq_getElem?_getD, List.getElem?_eq_getElem h1]
  rfl
def SetF (S : List (List Nat × List Nat)) (H : Hp) (x : V) : Prop := ∃ T c L zs, x = .ref T ∧ H T = some (.tup (.ref c :: zs.map fun z : Nat => V.int (z : Int))) ∧ ChAt H c (L.map fun i : Nat => (i : Int)) ∧ (L, zs) ∈ S
theorem SetF.kt {S : List (List Nat × List Nat)} {H H' : Hp} {x : V} (h : SetF S H x) (k : Kt H H') : SetF S H' x := by
  obtain ⟨T, c, L, z, e, hT, hc, d⟩ := h
  exact ⟨T, c, L, z, e, k.kpT _ _ hT, k.ch hc, d⟩
theorem setF_new {H : Hp} {a b : Addr} {o : Obj} {xs ys : List V} (n : H a = none) (od : o.dict = none) (m : upd H a (.frz o (.tup xs)) b = none) (S : List (List Nat × List Nat)) (L zs : List Nat) (d : (L, zs) ∈ S) (ex : xs = (L.map fun i : Nat => (i : Int)).map V.int) (ey : ys = .ref a :: zs.map fun z : Nat => V.int (z : Int)) :
    Same H (upd (upd H a (.frz o (.tup xs))) b (.tup ys)) ∧ SetF S (upd (upd H a (.frz o (.tup xs))) b (.tup ys)) (.ref b) := by
  subst ex
  subst ey
  exact ⟨Same.trans (same_upd n) (same_upd m), b, a, L, zs, rfl, upd_same, ⟨o, od, same_upd m _ _ upd_same⟩, d⟩
end Ph

set_option maxHeartbeats 4000000
/-! PhSpt: places as the laws name them (Spot), the lowest place within the outlook (Out.low), frames of draws. -/
namespace Ph
open PySem PySem.Spec PyProof.Rows L2
structure Spot (z : Int) (bs : List Bk) (W x : Int) : Prop where
  mod : x % z = 0
  pos : 0 ≤ x
  fit : x + z ≤ W
  free : ∀ b ∈ bs, x + z ≤ b.1 ∨ b.1 + b.2 ≤ x
def TqF (H : Hp) (a : Addr) (xs : List V) : Prop := H a = some (.tup xs) ∨ ∃ o, H a = some (.frz o (.tup xs))
section
variable {X : Cx}
def rSlF : V → Option Int → Option Int → Hp → VK → Prop := fun x lo hi H Q => ∃ a xs, x = .ref a ∧ TqF H a xs ∧ ∀ p H', Same H H' → TqF H' p (cutV xs lo hi) → Q (.ref p) H'
def rCatG : R2 := fun x y H Q => ∃ a b xs ys, x = .ref a ∧ y = .ref b ∧ TqF H a xs ∧ TqF H b ys ∧ xs.length + ys.length ≤ 1000 ∧ ∀ p H', Same H H' → TqF H' p (xs ++ ys) → Q (.ref p) H'
end
/-! ### so few states -/
end Ph

set_option maxHeartbeats 4000000
/-! PhHs: all states of a small heap as a list that can be computed; their hashes. -/
namespace Ph
open PySem PySem.Spec PyProof.Rows L2
/-- Python's hash of a state -/
def hashB (b : Bk) : Int := PySem.reduceHash (PySem.Builtin.Tuple.tupleHashOf [PySem.hashInt b.1, PySem.hashInt b.2])
def hashS (bs : List Bk) : Int := PySem.reduceHash (PySem.Builtin.Tuple.tupleHashOf (bs.map hashB))
def nextL (C : List Int) (W : Int) (n : Nat) (t : List (List (List Bk))) : List (List Bk) :=
  t.headD [] ++ C.flatMap fun z => if 1 ≤ z ∧ z ≤ ((n + 1 : Nat) : Int) ∧ (W - ((n + 1 : Nat) : Int)) % z = 0 then (t.getD (z.toNat - 1) []).map fun r => (W - ((n + 1 : Nat) : Int), z) :: r else []
def tabL (C : List Int) (W : Int) : Nat → List (List (List Bk))
  | 0 => [[[]]]
  | n + 1 => nextL C W n (tabL C W n) :: tabL C W n
def stL (C : List Int) (W : Nat) : List (List Bk) := (tabL C W W).headD []
theorem tab_mem {C : List Int} {W : Int} : ∀ (n k : Nat), k ≤ n → 0 ≤ W - n → ∀ bs, From C W (W - k) bs → bs ∈ (tabL C W n).getD (n - k) []
  | 0, k, hk, hW, bs, h => by
    obtain rfl : k = 0 := by omega
    have e : W - ((0 : Nat) : Int) = W := by omega
    rw [e] at h
    rw [from_end.mp h]
    exact List.mem_singleton.mpr rfl
  | n + 1, k, hk, hW, bs, h => by
    rcases Nat.lt_or_ge k (n + 1) with w | w
    · have ih := tab_mem (C := C) (W := W) n k (by omega) (by omega) bs h
      have e : n + 1 - k = (n - k) + 1 := by omega
      rw [e]
      exact ih
    · obtain rfl : k = n + 1 := by omega
      rw [Nat.sub_self]
      show bs ∈ nextL C W n (tabL C W n)
      unfold nextL
      rw [List.mem_append]
      rcases (from_step hW).mp h with h | ⟨z, r, hz, z1, hm, hz2, hr, rfl⟩
      · left
        have ih := tab_mem (C := C) (W := W) n n (Nat.le_refl _) (by omega) bs (by
          have e : W - ((n : Nat) : Int) = W - ((n + 1 : Nat) : Int) + 1 := by omega
          rw [e]
          exact h)
        rw [Nat.sub_self] at ih
        cases ht : tabL C W n with
        | nil => rw [ht] at ih; cases ih
        | cons a t => rw [ht] at ih; exact ih
      · right
        refine List.mem_flatMap.mpr ⟨z, hz, ?_⟩
        rw [if_pos ⟨z1, by omega, hm⟩]
        refine List.mem_map.mpr ⟨r, ?_, rfl⟩
        have ih := tab_mem (C := C) (W := W) n (n + 1 - z.toNat) (by omega) (by omega) r (by
          have e : W - ((n + 1 - z.toNat : Nat) : Int) = W - ((n + 1 : Nat) : Int) + z := by omega
          rw [e]
          exact hr)
        have e : n - (n + 1 - z.toNat) = z.toNat - 1 := by omega
        rw [e] at ih
        exact ih
theorem st_all {C : List Int} {W : Nat} {bs : List Bk} (st : St C (W : Int) bs) : bs ∈ stL C W := by
  have := tab_mem W W (Nat.le_refl _) (by omega) bs ⟨st, fun b hb => by have := (st.ok b hb).2.2.1; omega⟩
  rw [Nat.sub_self] at this
  unfold stL
  cases ht : tabL C (W : Int) W with
  | nil => rw [ht] at this; cases this
  | cons a t => rw [ht] at this; exact this
/-- no two states of these settings have one hash -/
def okHash (L : List Nat) (n : Nat) : Bool := decide ((stL (L.map fun i : Nat => (i : Int)) (n * sqL L (L.length - 1))).map hashS).Nodup
end Ph

set_option maxHeartbeats 4000000
/-! PhRb: comprehensions whose items hold lists; tables of states put together without a key twice; lists of lists of states. -/
namespace Ph
open PySem PySem.Spec PyProof.Rows L2
/-! ### new keys alone -/
/-! ### data of lists of states -/
def lotD (l : List (List Bk)) : PyData := .list (l.map stD)
end Ph

set_option maxHeartbeats 4000000
/-! PhLt: the order of states; sorted with its order; `<` of data. -/
namespace Ph
open PySem PySem.Calls PyProof.V PySem.Spec PyProof.Rows L2 PySem.W SeqAt
/-- the order of states -/
def stLt (a b : List Bk) : Bool := PySem.W.dataLt (stD a) (stD b)
def rLtD (K : PySem.W.Frag) : R2 := fun x y H Q => ∃ d e, Dp K H x d ∧ Dp K H y e ∧ PySem.W.alike d e = true ∧ d ≠ .none ∧ d.depth ≤ 64 ∧ Q (.bl (PySem.W.dataLt d e)) H
def rSortIXo (w : World) (K : PySem.W.Frag) : List V → Hp → VK → Prop := fun vs H Q => ∃ (p d : Addr) (xs : List KAV) (kd vd : KAV → PyData), vs = [.ref p] ∧ H p = some (DX.itemsO p d) ∧ KDr w H d xs ∧
  (∀ e ∈ xs, Dp K H (.ref e.2.1) (kd e) ∧ Dp K H e.2.2 (vd e)) ∧ AllAlike (xs.map fun e => PyData.tuple [kd e, vd e]) ∧ (∀ e ∈ xs, (PyData.tuple [kd e, vd e]).depth ≤ 40) ∧
  ∀ H' l (zs : List (Addr × KAV)), Same H H' → (zs.map (·.2)).Perm xs → (zs.Pairwise fun z1 z2 => PySem.W.dataLt (.tuple [kd z2.2, vd z2.2]) (.tuple [kd z1.2, vd z1.2]) = false) → H' l = some (.lst (zs.map fun z => V.ref z.1)) → (∀ z ∈ zs, H' z.1 = some (.tup [.ref z.2.2.1, z.2.2.2])) → Q (.ref l) H'
end Ph

set_option maxHeartbeats 4000000
/-! PhDcX: {t: v for .. in ..}, keys tuples. -/
namespace Ph
open PySem PySem.Spec PyProof.Rows L2
section
variable {X : Cx}
/-- {k: v for target in iter if ..}, keys ints or texts: D the new dict -/
def tDcX (w : World) (wi : TI) (g : TG) (tt : TT) (tk tv : TE) (vs : List Nat) : TE := fun σ H Q => wi σ H fun J H1 => ∀ D, H1 D = none → (D == sysModules) = false → ∃ W : Nat → Nat → Hp → Prop, (∃ m, W 0 m (upd H1 D (dkO w D []))) ∧ ∀ i m H, W i m H →
  (J.stop i H ∧ Q (.ref D) H) ∨ (J.go i H ∧ ∃ Nx : Hp → Prop, (∀ H', Nx H' → ∃ m', m' < m ∧ W (i + 1) m' H') ∧ ∀ x H', J.yld i H x H' → g x (wipe σ vs) H' fun σ2 H2 => wipe σ2 vs = wipe σ vs ∧ tt σ2 H2 fun b H3 =>
    if b = true then tk σ2 H3 fun y H4 => tv σ2 H4 fun z H5 => ∃ b xs' k, y = .ref b ∧ KDx w H5 D xs' ∧ Nk H5 (.ref b) k ∧ k.depth ≤ 8 ∧ xs'.length < sizeLine ∧ ∀ H6, But D H5 H6 → KDx w H6 D (putX xs' k b z) → Nx H6 else Nx H3)
end
end Ph

namespace Ph
open PySem PySem.Spec PyProof.Rows L2
section
variable {X : Cx}
/-- a dict != {} -/
def rNeE : R2 := fun x y H Q => ∃ a b ks, x = .ref a ∧ y = .ref b ∧ H a = some (.dK ks) ∧ H b = some (.dK []) ∧ Q (.bl (decide (ks ≠ []))) H
end
/-! ### blocks held in a dict: start, size -/
def kvh (ls : List Bk) : List (Key × V) := ls.map fun e => (Sum.inl e.1, V.int e.2)
end Ph

namespace PySem
open Sem (wp)
set_option maxHeartbeats 1000000 in
theorem ph_enum1 {v : Value} {o : Obj} {H : Heap → Prop} (B : Begins v o H) :
    Meets (Builtin.«enumerate.__new__» ⟨[.type "enumerate", v], []⟩) (fun _ R s => H s.heap ∧
      R (.ok (.ret (.ref (s.heap.push o).objs.size))) { s with heap := (s.heap.push o).push { cls := .type "enumerate", data := .fields #[.none, .bool false, .ref s.heap.objs.size, rawInt 0, .none, .none] } }) :=
  .of_wp fun prog w A R s h => by
    obtain ⟨hp, g, d, tk, os⟩ := s; obtain ⟨h1, h⟩ := h
    have hsub := sub_enumerate
    have q1 : ∀ {A' : Around} {E : Value → Shared → Prop} {Q : Value → Shared → Prop}, Q (.ref hp.objs.size) ⟨hp.push o, g, d, tk, os⟩ → wpAny (model prog w) A' (pyIter v) Q E ⟨hp, g, d, tk, os⟩ :=
      fun q => B.iter prog w _ _ ⟨hp, g, d, tk, os⟩ _ h1 q
    wp_walk using q1
    refine wpAny_stack_any fun st => wpAny_pure ?_
    split
    · rename_i c _ _ _ _ _
      cases (c == Value.type "enumerate")
      · wp_walk using q1
        exact ⟨_, rfl, h⟩
      · wp_walk using q1
        exact ⟨_, rfl, h⟩
    · wp_walk using q1
      exact ⟨_, rfl, h⟩
theorem ph_enum {prog : Program} {w : World} {A : Around} {E : Value → Shared → Prop} {s : Shared} {v : Value} {o : Obj} {H : Heap → Prop} {Q : Value → Shared → Prop} (B : Begins v o H) (h1 : H s.heap)
    (h : ∀ h', IsEnum h' (s.heap.objs.size + 1) s.heap.objs.size 0 .none → h'.get? s.heap.objs.size = some o → h'.objs.size = s.heap.objs.size + 2 →
      (∀ b o, s.heap.get? b = some o → h'.get? b = some o) → Q (.ref (s.heap.objs.size + 1)) { s with heap := h' }) :
    wpAny (model prog w) A (call (.type "enumerate") [v]) Q E s := by
  refine callType_new F.called_enumerate (by decide) (F.typeCall_enumerate_1 _) (F.newCall_enumerate_1 _) (fun obj => F.args_object_init_2 obj _) F.entry_enumerate_new
    (ph_enum1 B) ⟨h1, ?_⟩
  have hz : (s.heap.push o).objs.size = s.heap.objs.size + 1 := Heap.size_push ..
  show _ ∧ _
  rw [hz]
  have he : IsEnum ((s.heap.push o).push { cls := .type "enumerate", data := .fields #[.none, .bool false, .ref s.heap.objs.size, rawInt 0, .none, .none] }) (s.heap.objs.size + 1) s.heap.objs.size 0 .none := by
    have := Heap.get?_push_size (s.heap.push o) (o := { cls := .type "enumerate", data := .fields #[.none, .bool false, .ref s.heap.objs.size, rawInt 0, .none, .none] }) rfl
    rw [hz] at this; exact this
  refine ⟨⟨_, he, rfl⟩, h _ he (Heap.get?_push_of_some _ (Heap.get?_push_size _ B.free)) (by rw [Heap.size_push, hz]) fun b o x => Heap.get?_push_of_some _ (Heap.get?_push_of_some _ x)⟩
end PySem
namespace Ph
open PySem PySem.Spec PyProof.Rows L2
/-! ### enumerate of a tuple or a list (true: a tuple) -/
def IteK (k : Bool) (K : PySem.W.Frag) (a : Addr) : It :=
  ⟨fun i H => ∃ (xs : List V) (x : V), SqK k K H a xs ∧ xs[i]? = some x, fun i H v H' => ∃ T x, v = .ref T ∧ H T = none ∧ H' = upd H T (.tup [.int (i : Nat), x]) ∧ ∀ xs, SqK k K H a xs → xs[i]? = some x, fun i H => ∃ xs : List V, SqK k K H a xs ∧ i = xs.length⟩
theorem turn_enumK {P : Program} {w : World} {K : PySem.W.Frag} {elts : List Expr} {kk : Nat} {tpos : Pos} {k : Bool} (a e it : Addr) (na : a ≠ it) (ne : e ≠ it) (nea : e ≠ a) :
    Turn P w K (.Tuple elts kk tpos) (IteK k K a) [e, it] e (fun i h => (∃ old, IsEnum h e it ((i : Nat) : Int) old) ∧ ItrK k h it a i) where
  mem := by simp
  obj := fun i h st b hb => by
    obtain ⟨⟨old, he⟩, h1⟩ := st
    have e' : b = e ∨ b = it := by simpa using hb
    rcases e' with z | z
    · rw [z]; exact ⟨_, he, fun v q => nomatch q⟩
    · rw [z]; exact h1.obj
  keep := fun i h h' st k => let ⟨⟨old, he⟩, hi⟩ := st; ⟨⟨old, k e (by simp) _ he⟩, hi.on fun o q => k it (by simp) o q⟩
  item := by
    intro X hP hw hK hc i pins s σ H E I hf st hg
    subst hP hw hK
    obtain ⟨⟨old, he⟩, hit⟩ := st
    obtain ⟨xs, x, hq, hx⟩ := hg
    obtain ⟨its, rv, p, _⟩ := Inv.seqK I hq
    obtain ⟨u, hu, ru⟩ := rv.get hx
    have hel : e < s.heap.objs.size := Heap.lt_size he
    have hil : it < s.heap.objs.size := by obtain ⟨_, q, _⟩ := hit.obj; exact Heap.lt_size q
    have l1 : i < its.toArray.size := by
      have := (List.getElem?_eq_some_iff.mp hu).1
      simpa using this
    have hh : X.A.in1.handled = none := I.ok.hd hc
    refine wpAny_pyNext_enum_itemD (drawK k hh it a na its.toArray) he ⟨hit, p⟩ l1 ne (by simp [ne, nea]) fun y h' tk hy ho hst hT hsz hk => ?_
    have ey : y = u := by
      have q : its.toArray[i]? = some u := by simpa using hu
      rw [hy] at q
      exact Option.some.inj q
    subst ey
    refine ⟨_, rfl, wpAny_letOwnedTupleGo_enum (s := { s with heap := h', toks := tk + 1 }) ho fun h'' he' sb => ?_⟩
    have hT2 : h''.get? s.heap.objs.size = some { cls := .type "tuple", data := .seq #[.int i tk, y] } := (sb.2 _ (Nat.ne_of_gt hel)).trans hT
    have new : ObjOk X.prog X.w (upd H s.heap.objs.size (.tup [.int (i : Nat), x])) h'' s.heap.objs.size (.tup [.int (i : Nat), x]) :=
      ⟨by show 2 ≤ sizeLine; decide, [.int i tk, y], .cons ⟨_, rfl⟩ (.cons ru .nil), ⟨_, hT2, rfl, _, rfl⟩⟩
    have I1 : Inv X pins σ (upd H s.heap.objs.size (.tup [.int (i : Nat), x])) { s with heap := h'', toks := tk + 1 } :=
      I.turnedNew (ch := [e, it]) (fun b ob hb q => (sb.2 b (fun z => hb (by simp [z]))).trans (hk b ob (fun z => hb (by simp [z])) (fun z => hb (by simp [z])) q)) hf (Nat.le_refl _) new
    refine ⟨.ref s.heap.objs.size, _, I1, rfl, ⟨_, x, rfl, I.hok.fresh (Nat.le_refl _), rfl, fun ys hy => by rw [Inv.seqK_inj I hy hq]; exact hx⟩, ⟨⟨y, ?_⟩, hst.1.on fun o q => (sb.2 it (Ne.symm ne)).trans q⟩, fun b hb => ?_⟩
    · have e1 : ((i + 1 : Nat) : Int) = (i : Int) + 1 := by omega
      rw [e1]; exact he'
    · have hb' : b < s.heap.objs.size := by
        have e' : b = e ∨ b = it := by simpa using hb
        rcases e' with z | z
        · rw [z]; exact hel
        · rw [z]; exact hil
      rw [upd_ne (Nat.ne_of_lt hb')]
      exact (hf b hb).1
  done := by
    intro X hP hw hK hc i pins s σ H E I hf st hg
    subst hP hw hK
    obtain ⟨⟨old, he⟩, hit⟩ := st
    obtain ⟨xs, hq, hx⟩ := hg
    obtain ⟨its, rv, p, _⟩ := Inv.seqK I hq
    obtain ⟨f0, f1, f2, f3, f4, f5⟩ := hf it (by simp)
    have hh : X.A.in1.handled = none := I.ok.hd hc
    have en : i = its.toArray.size := by rw [hx, rv.length]; simp
    exact wpAny_pyNext_enum_endD (drawK k hh it a na its.toArray) he (by rw [← en]; exact ⟨hit, p⟩) fun h' eb => ⟨rfl, I.turned (t' := s.toks) (fun b o hb q => eb b o hb q) f0 f1 f3 f4 f5⟩
  self := fun A i s Q E st h => let ⟨⟨_, he⟩, _⟩ := st; wpAny_pyIter_enum he h
def iEnumK (k : Bool) (K : PySem.W.Frag) (ta : TA) : TI := fun σ H R => ta σ H fun vs H1 => ∃ a xs, vs = [.ref a] ∧ SqK k K H1 a xs ∧ R (IteK k K a) H1
theorem pi_enumK {k : Bool} {X : Cx} {e : Expr} {ta : TA} {p pos tpos : Pos} {elts : List Expr} {kk : Nat} (hg : Gl X "enumerate") (hm : X.mg "enumerate" = none) (ha : PA X [e] ta) (hs : starEach [e] X.env = [(false, eval e X.env)] := by rfl) :
    L2.PI X (.Tuple elts kk tpos) (.Call (.Name "enumerate" p) [e] [] pos) (iEnumK k X.K ta) := by
  refine ⟨fun pins s σ H R I h => ?_⟩
  refine Call_ (ld_blt I hg hm boot_enumerate (PyProof.Rows.callWith_type1 (thn (ha.run pos pins s σ H _ I h) fun us s1 ⟨vs, H1, I1, r1, q1⟩ => ?_) hs rfl))
  obtain ⟨a, xs, ex, hq, q⟩ := q1
  subst ex
  cases r1 with
  | cons r rr =>
    cases rr
    cases r
    obtain ⟨its, rv, p', la⟩ := Inv.seqK I1 hq
    refine ph_enum (beginK k a its.toArray) p' fun h' he hit hsz hk => wpAny_pyIter_enum he ?_
    have I2 : Inv X pins σ H1 { s1 with heap := h' } := I1.kept (t' := s1.toks) hk
    refine ⟨s1.heap.objs.size + 1, [s1.heap.objs.size + 1, s1.heap.objs.size], _, _, H1, rfl, I2, turn_enumK a (s1.heap.objs.size + 1) s1.heap.objs.size (Nat.ne_of_lt la) (Nat.succ_ne_self _) (Nat.ne_of_gt (Nat.lt_succ_of_lt la)), ⟨⟨.none, he⟩, itoK_it hit⟩, fun b hb => ?_, q⟩
    have e' : b = s1.heap.objs.size + 1 ∨ b = s1.heap.objs.size := by simpa using hb
    have hle : s1.heap.objs.size ≤ b := by
      rcases e' with z | z
      · rw [z]; exact Nat.le_add_right _ _
      · rw [z]; exact Nat.le_refl _
    exact I1.fpOk hle (I1.hok.fresh hle)
theorem walk_enumK {k : Bool} {K : PySem.W.Frag} {a : Addr} {xs : List V} : Walk (IteK k K a) xs.length (fun H => SqK k K H a xs) (YPair (fun i => some (.int (i : Nat))) (fun i => xs[i]?)) := by
  refine ⟨fun i _ hi q => ⟨xs, xs[i], q, by simp [hi]⟩, fun _ q => ⟨xs, q, rfl⟩, fun i H v H' _ q y => ?_⟩
  obtain ⟨T, x, h1, h2, h3, h4⟩ := y
  exact ⟨T, _, x, h1, h2, h3, rfl, h4 xs q⟩
end Ph

set_option maxHeartbeats 4000000
/-! PhErr: own errors: isinstance of a caught error that may have a dict, by one class or a tuple of classes; a class called without arguments. -/
namespace Ph
open PySem PySem.Spec PyProof.Rows L2
/-- the dict of a caught error: none, or one that is told -/
def DictK (H : Hp) (d : Option Addr) : Prop := d = none ∨ ∃ dd fs, d = some dd ∧ H dd = some (.xd fs)
section
variable {X : Cx}
/-- isinstance(e, c): e at a, of the class cls, with the dict d -/
def rIsX (K : PySem.W.Frag) (a : Addr) (cls : Value) (d : Option Addr) : List V → Hp → VK → Prop := fun xs H Q => ∃ (D : Addr) (c : V) (cv : Value) (b : Bool), xs = [.ref a, c] ∧ cls = .ref D ∧ ExcC K D ∧ DictK H d ∧ (∀ u, RelV c u → u = cv) ∧ PySem.W.kitOne K (.ref D) cv = some b ∧ Q (.bl b) H
/-- isinstance(e, (c, ..)) -/
def rIsXt (K : PySem.W.Frag) (a : Addr) (cls : Value) (d : Option Addr) : List V → Hp → VK → Prop := fun xs H Q => ∃ (D t : Addr) (cs : List V) (cvs : List Value) (b : Bool), xs = [.ref a, .ref t] ∧ cls = .ref D ∧ ExcC K D ∧ DictK H d ∧ H t = some (.tup cs) ∧
  (∀ us, Vals cs us → us = cvs) ∧ PySem.W.kitAny K (.ref D) cvs = some b ∧ Q (.bl b) H
/-! ### C(), C's own __init__ doing nothing -/
def spIni0 : Sp := fun vs H Q _ => ∃ a : Addr, vs = [.ref a] ∧ Q .non H
/-- the way out: class C, no dict -/
def tMk0 (C : Addr) : L2.St → Hp → XK → Prop := fun _ H Q => Q (.ref C) none H
end
end Ph

/-! PhErm: a method called where its errors are caught: what leaves may speak of the slots. -/
namespace Ph
open PySem PySem.Spec PyProof.Rows L2
def tMethE (C : Addr) (m : Str) (sp : Sp) (E : L2.St → XK) (ta : TE) (t : TA) : TE := fun σ H Q => ta σ H fun x H1 => ∃ a dx fs, x = .ref a ∧ H1 a = some (.ins C dx fs) ∧ fs.lookup m = none ∧ t σ H1 fun vs H2 => sp (.ref a :: vs) H2 Q (E σ)
section
variable {X : Cx} {CX : CXT} {k : Nat} {f C : Addr} {fd : FuncData} {ps : List Str} {sp : Sp} {E : L2.St → XK} {m : Str} {pos apos : Pos} {e o : Expr} {es : List Expr} {ta : TE} {t : TA}
end
end Ph

namespace Ph
open PySem PySem.Spec PyProof.Rows L2 PySem.Calls HT
section
variable {prog : Program} {w : World} {A : Around} {E : Value → Shared → Prop} {s : Shared}
end
section
variable {X : Cx}
/-- t[::-1] of a tuple -/
def tRevT (K : PySem.W.Frag) (te : TE) : TE := fun σ H Q => te σ H fun x H1 => ∃ a xs, x = .ref a ∧ SqT K H1 a xs ∧ ∀ p, H1 p = none → Q (.ref p) (upd H1 p (.tup xs.reverse))
/-- repr(True), repr(False) -/
def tx (b : Bool) : Str := if b then "True" else "False"
end
end Ph

/-! PhEv2: t[::2] of a tuple: every second item. -/
namespace Ph
open PySem PySem.Spec PyProof.Rows L2 PySem.Calls HT
section
variable {prog : Program} {w : World} {A : Around} {E : Value → Shared → Prop} {s : Shared}
def half (n : Nat) : Nat := Builtin.Slice.slicePlaces 0 (n : Int) 2
def evens {α : Type} (xs : List α) : List α := (List.range (half xs.length)).filterMap fun (k : Nat) => xs[((0 : Int) + (k : Int) * 2).toNat]?
end
section
variable {X : Cx}
/-- t[::2] of a tuple -/
def tEvT (K : PySem.W.Frag) (te : TE) : TE := fun σ H Q => te σ H fun x H1 => ∃ a xs, x = .ref a ∧ SqT K H1 a xs ∧ ∀ p, H1 p = none → Q (.ref p) (upd H1 p (.tup (evens xs)))
end
end Ph

set_option maxHeartbeats 4000000
/-! PhTab: the end of a law whose defs make lambdas or defs (their code objects' tables are tracked), the guards known. -/
namespace Ph
open PySem PySem.Spec PyProof.Rows L2 LamX
/-- code objects and their tables: empty at the start, no part of the written part -/
structure TabsE (K : PySem.W.Frag) (h : Heap) (cs : List (Addr × Addr)) : Prop where
  em : ∀ p ∈ cs, h.get? p.2 = some { cls := .none, data := .fields #[] }
  out : ∀ p ∈ cs, K.lookup p.2 = none
  cd : ∀ p ∈ cs, PySem.W.CodeHd h p.1 p.2
theorem TabsE.at {K : PySem.W.Frag} {h : Heap} {cs : List (Addr × Addr)} (T : TabsE K h cs) {b : Addr} (hb : b ∈ cs.map (·.2)) : h.get? b = some { cls := .none, data := .fields #[] } ∧ K.lookup b = none ∧ ∃ c, PySem.W.CodeHd h c b := by
  obtain ⟨p, hp, rfl⟩ := List.mem_map.mp hb
  exact ⟨T.em p hp, T.out p hp, p.1, T.cd p hp⟩
section
variable {P : Program} {w : World} {K : PySem.W.Frag} {mg mb : Str → Option Value} {k : Nat} {fa a : Addr} {fd : FuncData} {x : Str} {sp : Sp} {s₁ : Shared} {vs : List Value} {ns : List Int} {cs : List (Addr × Addr)}
theorem end_coreT (T : TabsE K s₁.heap cs) (KX : K.In s₁.heap) (hns : s₁.heap.Ns mainGlobals mg) (hb : s₁.heap.Ns builtinsNs mb) (hbb : ∀ z : Str, z ≠ "__name__" → mb z = bootBuiltins z) (lim : s₁.heap.NoLimit) (gens : s₁.gens = #[])
    (hbm : ∃ (bm : Addr) (ob : Obj), mg "__builtins__" = some (.ref bm) ∧ bm ≠ builtinsNs ∧ s₁.heap.get? bm = some ob ∧ ob.cls = .type "module" ∧ ob.dict = some builtinsNs ∧ ob.data = .plain)
    (isList : ∃ (vz : Array Value) (nz : Nat), s₁.heap.get? a = some { cls := .type "list", data := .seq vz nz }) (room : Room k callerA) (F : ∀ base : Heap, K.In base → base.Ns mainGlobals mg → (∀ p ∈ cs, TabB base mg p.1 p.2) → FnG P w K mg base CX0 k fa fd [x] sp) (bnd : ∀ (s : Shared) (u : Value), BindsTo s fd ⟨[u], []⟩ [(x, u)])
    (H : Hp) (alone : ∀ b o, H b = some o → (b = a ∧ ∃ ob zs, o = .frz ob (.lst zs)) ∨ (b ∈ cs.map (·.2) ∧ o = .tbl #[])) (tabs : ∀ p ∈ cs, H p.2 = some (.tbl #[])) (ok : HOk P w H s₁.heap) (free : H a ≠ none → K.lookup a = none) (want : sp [.ref a] H (fun v _ => v = .bl true) fun _ _ _ => False) :
    codeAny (model P w) callerA (.call (.ref fa) ⟨[.ref a], []⟩) (LawEnd s₁) s₁ := by
  obtain ⟨vz, nz, ha⟩ := isList
  -- what is neither a list nor an empty table is not tracked
  have plain : ∀ {b : Addr} {o : Obj}, s₁.heap.get? b = some o → (∀ v m, o.data ≠ .seq v m) → o.data ≠ .fields #[] → H b = none := fun {b o} g n1 n2 => by
    cases z : H b with
    | none => rfl
    | some u =>
      rcases alone b u z with ⟨e, _⟩ | ⟨e, _⟩
      · rw [e, ha] at g
        cases g
        exact absurd rfl (n1 vz nz)
      · rw [(T.at e).1] at g
        cases g
        exact absurd rfl n2
  have dictFree : ∀ {b : Addr} {o : Obj} {es : Array DictEntry} {ep : Nat}, s₁.heap.get? b = some o → o.data = .dict es ep → H b = none := fun g d => plain g (fun v m z => by rw [d] at z; cases z) fun z => by rw [d] at z; cases z
  have ns2 : ∀ {b : Addr} {m : Str → Option Value}, s₁.heap.Ns b m → (hidT s₁.heap H).Ns b m := fun ⟨o, es, ep, g, d, rest⟩ => ⟨o, es, ep, hidT_get g (dictFree g d), d, rest⟩
  have kin : K.In (hidT s₁.heap H) := fun b o g => hidT_get (KX b o g) (by
    cases z : H b with
    | none => rfl
    | some u =>
      rcases alone b u z with ⟨e, _⟩ | ⟨e, _⟩
      · subst e
        rw [free (by rw [z]; exact fun q => nomatch q)] at g
        cases g
      · rw [(T.at e).2.1] at g
        cases g)
  have modu : L2.Mod K mg (hidT s₁.heap H) := ⟨kin, ns2 hns, ⟨mb, ns2 hb, hbb⟩, let ⟨mc, z1, z2⟩ := lim; ⟨mc, ns2 z1, z2⟩⟩
  have made : ∀ p ∈ cs, TabB (hidT s₁.heap H) mg p.1 p.2 := fun p hp => by
    constructor
    · obtain ⟨o, us, file, tf, flags, tg, inF, text, tt, e1, r1, r2, r3, rest⟩ := T.cd p hp
      refine ⟨o, us, file, tf, flags, tg, inF, text, tt, hidT_get e1 (plain e1 (fun v m z => by rw [r2] at z; cases z) fun z => ?_), r1, r2, r3, rest⟩
      rw [r2] at z
      cases z
      simp at r3
    · obtain ⟨bm, ob, b1, b2, b3, b4, b5, b6⟩ := hbm
      refine ⟨bm, ob, b1, b2, fun q => ?_, fun q => ?_, hidT_get b3 (plain b3 (fun v m z => by rw [b6] at z; cases z) fun z => by rw [b6] at z; cases z), b4, b5, b6⟩
      · obtain ⟨o, es, ep, e, hd, _⟩ := hns
        rw [q, e] at b3
        cases b3
        rw [hd] at b6
        cases b6
      · rw [q, T.em p hp] at b3
        cases b3
        cases b6
    · intro z
      obtain ⟨o, es, ep, e, hd, _⟩ := hns
      rw [z, T.em p hp] at e
      cases e
      cases hd
  have env : Env0 P w K mg (hidT s₁.heap H) callerA [] s₁ H := ⟨rfl, modu, fun b o g => of_hidT g, Nat.le_of_eq (hidT_size _ _), trivial, fun b hb => (List.not_mem_nil hb).elim, ok, .of_eq gens⟩
  refine codeAny_mono ((F _ kin (ns2 hns) made).go callerA [] s₁ H ⟨[.ref a], []⟩ [.ref a] [.ref a] _ _ rfl room env (bnd s₁ (.ref a)) (.cons rfl .nil) want) fun r s2 out => ?_
  match r, out with
  | .error _, out => exact out.elim
  | .ok (.ret u), ⟨v, H', os, bare, un, ok2, rel, good⟩ =>
    have good' : v = .bl true := good
    subst good'
    obtain rfl : u = Value.bool true := rel
    have fixed : ∀ {b : Addr} {o : Obj}, b ∉ cs.map (·.2) → s₁.heap.get? b = some o → s2.heap.get? b = some o := fun {b o} nb g => by
      cases z : H b with
      | none => exact un.keep b o g z (fun q => (List.not_mem_nil q).elim) (by simp)
      | some u =>
        rcases alone b u z with ⟨_, ob, zs, rfl⟩ | ⟨e, _⟩
        · obtain ⟨e1, _⟩ := ok b _ z
          obtain ⟨e2, _⟩ := ok2 b _ (un.frzs b ob _ z)
          rw [g] at e1
          cases e1
          exact e2
        · exact absurd e nb
    have more : ∀ {b : Addr}, b ∈ cs.map (·.2) → ∃ vs2 : Array Value, s2.heap.get? b = some { cls := .none, data := .fields vs2 } := fun {b} hb => by
      obtain ⟨p, hp, rfl⟩ := List.mem_map.mp hb
      obtain ⟨m2, z⟩ := un.tbls p.2 #[] (tabs p hp)
      exact ⟨_, ok2 p.2 _ z⟩
    refine ⟨rfl, ⟨fun b o g => ?_, fun b o g => ?_⟩, os, bare⟩
    · by_cases hb : b ∈ cs.map (·.2)
      · obtain ⟨em, _, c, cd⟩ := T.at hb
        obtain ⟨vs2, g2⟩ := more hb
        rw [em] at g
        cases g
        exact .inr (.inl ⟨(cd.tab em).isCodeTable, rfl, #[], vs2, rfl, by rw [Array.empty_append]; exact g2⟩)
      · exact .inl (fixed hb g)
    · by_cases hb : b ∈ cs.map (·.2)
      · exact (more hb).elim fun vs2 g2 => ⟨_, g2⟩
      · exact ⟨o, fixed hb g⟩
theorem end_callT (T : TabsE K s₁.heap cs) (KX : K.In s₁.heap) (hns : s₁.heap.Ns mainGlobals mg) (hb : s₁.heap.Ns builtinsNs mb) (hbb : ∀ z : Str, z ≠ "__name__" → mb z = bootBuiltins z) (lim : s₁.heap.NoLimit) (gens : s₁.gens = #[])
    (hbm : ∃ (bm : Addr) (ob : Obj), mg "__builtins__" = some (.ref bm) ∧ bm ≠ builtinsNs ∧ s₁.heap.get? bm = some ob ∧ ob.cls = .type "module" ∧ ob.dict = some builtinsNs ∧ ob.data = .plain)
    (ha : s₁.heap.get? a = some { cls := .type "list", data := .seq vs.toArray }) (hi : IntsAre vs ns) (hl : ns.length ≤ sizeLine) (room : Room k callerA) (F : ∀ base : Heap, K.In base → base.Ns mainGlobals mg → (∀ p ∈ cs, TabB base mg p.1 p.2) → FnG P w K mg base CX0 k fa fd [x] sp) (bnd : ∀ (s : Shared) (u : Value), BindsTo s fd ⟨[u], []⟩ [(x, u)])
    (want : ∀ H : Hp, (∀ p ∈ cs, H p.2 = some (.tbl #[])) → SqL K H a (ns.map V.int) → sp [.ref a] H (fun v _ => v = .bl true) fun _ _ _ => False) :
    codeAny (model P w) callerA (.call (.ref fa) ⟨[.ref a], []⟩) (LawEnd s₁) s₁ := by
  have notT : a ∉ cs.map (·.2) := fun z => by
    have g := (T.at z).1
    rw [ha] at g
    cases g
  have memT : ∀ p ∈ cs, p.2 ∈ cs.map (·.2) := fun p hp => List.mem_map_of_mem hp
  let HT : Hp := fun b => if b ∈ cs.map (·.2) then some (.tbl #[]) else none
  have HTy : ∀ {b}, b ∈ cs.map (·.2) → HT b = some (.tbl #[]) := fun h => if_pos h
  have HTn : ∀ {b}, b ∉ cs.map (·.2) → HT b = none := fun h => if_neg h
  cases lk : K.lookup a with
  | some o =>
    have g := KX a o lk
    rw [ha] at g
    cases g
    refine end_coreT T KX hns hb hbb lim gens hbm ⟨_, _, ha⟩ room F bnd HT (fun b o z => ?_) (fun p hp => HTy (memT p hp)) (fun b u z => ?_) (fun z => absurd (HTn notT) z) (want _ (fun p hp => HTy (memT p hp)) (.inr ⟨_, vs.toArray, _, lk, rfl, rfl, rfl, by rw [List.size_toArray, hi.length]; exact hl, by simpa using vals_ints hi⟩))
    · by_cases h : b ∈ cs.map (·.2)
      · exact .inr ⟨h, (Option.some.inj ((HTy h).symm.trans z)).symm⟩
      · rw [HTn h] at z
        cases z
    · by_cases h : b ∈ cs.map (·.2)
      · have e := Option.some.inj ((HTy h).symm.trans z)
        subst e
        exact (T.at h).1
      · rw [HTn h] at z
        cases z
  | none =>
    let HS : Hp := upd HT a (.frz { cls := .type "list", data := .seq vs.toArray } (.lst (ns.map V.int)))
    have onT : ∀ p ∈ cs, HS p.2 = some (.tbl #[]) := fun p hp => (upd_ne (fun z => notT (by rw [← z]; exact memT p hp))).trans (HTy (memT p hp))
    refine end_coreT T KX hns hb hbb lim gens hbm ⟨_, _, ha⟩ room F bnd HS (fun b o z => ?_) onT (fun b u z => ?_) (fun _ => lk) (want _ onT (.inl (.inr ⟨_, upd_same⟩)))
    · by_cases e : b = a
      · subst e
        have z' := Option.some.inj (upd_same.symm.trans z)
        exact .inl ⟨rfl, _, _, z'.symm⟩
      · have z1 : HT b = some o := (upd_ne e).symm.trans z
        by_cases h : b ∈ cs.map (·.2)
        · exact .inr ⟨h, (Option.some.inj ((HTy h).symm.trans z1)).symm⟩
        · rw [HTn h] at z1
          cases z1
    · by_cases e : b = a
      · subst e
        have z' := Option.some.inj (upd_same.symm.trans z)
        subst z'
        exact ⟨ha, by rw [List.length_map]; exact hl, vs, _, vals_ints hi, ha⟩
      · have z1 : HT b = some u := (upd_ne e).symm.trans z
        by_cases h : b ∈ cs.map (·.2)
        · have e2 := Option.some.inj ((HTy h).symm.trans z1)
          subst e2
          exact (T.at h).1
        · rw [HTn h] at z1
          cases z1
end
/-- what the head tells of the tables of the defs that are named -/
def TabsTold (q : Program) (K : PySem.W.Frag) (h : Heap) : Prop := ∀ (x : Str) (c P : Addr), ((recsOf q).find? fun e => e.name == x).isSome = true → PySem.W.tabIn K x = some (c, P) → PySem.W.CodeHd h c P ∧ h.get? P = some { cls := .none, data := .fields #[] }
theorem walkTG {l : PySem.W.OpenLaw} {n k : Nat} {q : Program} {loose : List Str} {XP : (Str → Option Value) → Heap → Prop} {YP : World → Heap → Prop} {d : DefRec} {K : Params → PySem.W.Frag} {sp : PySem.W.Frag → List (Addr × Addr) → Sp} {x : Str}
    (hn : l.most = some n) (hn2 : n ≤ sizeLine) (hdf : d.params.defaults = []) (room : Room k callerA) (hY : ∀ (w : World) (h : Heap), YP w h → (K w.params).In h)
    (F : ∀ (w : World) (mg : Str → Option Value) (fa : Addr) (h : Heap), (K w.params).In h → h.Ns mainGlobals mg → mg d.name = some (.ref fa) → TabsTold q (K w.params) h →
      ∃ (fd : FuncData) (cs : List (Addr × Addr)), TabsE (K w.params) h cs ∧ (∀ (s : Shared) (u : Value), BindsTo s fd ⟨[u], []⟩ [(x, u)]) ∧
        (∀ (H : Hp) (a : Addr) (ns : List Int), ns.length ≤ n → (∀ p ∈ cs, H p.2 = some (.tbl #[])) → SqL (K w.params) H a (ns.map V.int) → sp (K w.params) cs [.ref a] H (fun v _ => v = .bl true) fun _ _ _ => False) ∧
        ∀ base : Heap, (K w.params).In base → base.Ns mainGlobals mg → (∀ p ∈ cs, TabB base mg p.1 p.2) → FnG l.prog w (K w.params) mg base CX0 k fa fd [x] (sp (K w.params) cs)) :
    PySem.W.WalkO q loose XP YP l.row.toRowW d [] (fun f vs => PySem.call f vs) := by
  refine Att.attach_call hn hdf fun w s₀ s₁ mg mb fa o pm cd doc a vs ns G Y ho hd hcd hmg hobj hints hlen hg => ?_
  obtain ⟨fd, cs, T, bnd, want, hF⟩ := F w mg fa _ (hY w _ Y) G.T.g hmg fun y c P hr ht => by
    obtain ⟨d2, hd2⟩ := Option.isSome_iff_exists.mp hr
    exact PySem.W.tab_of G.T (hY w _ Y) hd2 ht
  exact end_callT T (hY w _ Y) G.T.g G.T.b G.T.builtins G.T.nolimit hg G.T.bmain hobj hints (Nat.le_trans hlen hn2) room hF bnd fun H hT hS => want H a ns hlen hT hS
end Ph

set_option maxHeartbeats 4000000
/-! PhTry: try .. except X as e: the error kept as a value behind the suite; isinstance and fields of it there. -/
namespace Ph
open PySem PySem.Spec PyProof.Rows L2
/-- a caught error that a name still holds: its class, its dict -/
def ExK (cls : Value) (d : Option Addr) (a : Addr) : HO := .ext fun g => ∃ (ob : Obj) (fs : Array Value), g.get? a = some ob ∧ Zc cls d ob ∧ ob.data = .fields fs
section
variable {X : Cx} {pins : List (Addr × Obj)} {σ : L2.St} {H : Hp} {s : Shared}
end
/-- the wish of 'except X as n' (slot i), the error still known behind the suite -/
def wKept (K : PySem.W.Frag) (c : Value) (i : Nat) (ts : Addr → Value → Option Addr → TS) (D : Ends) : WX := fun cls d σ H =>
  PySem.W.exmOne K cls c = some true ∧ ∀ a, H a = none → ts a cls d ⟨fun σ' H' => H' a = none → D.nx (σ'.set i none) (upd H' a (ExK cls d a)), D.rt, fun σ' H' => D.bk (σ'.set i none) H', fun σ' H' => D.ct (σ'.set i none) H'⟩ (σ.set i (some (.ref a))) H
section
variable {X : Cx} {x n : Str} {c : Value} {i : Nat} {body suite : List Stmt} {st₀ : Stmt} {np pos pos' : Pos} {tb : WX → TS} {ts : Addr → Value → Option Addr → TS}
end
/-! ### isinstance and fields of a kept error -/
section
variable {X : Cx}
/-- isinstance(e, c), e a kept error -/
def rIsK (K : PySem.W.Frag) : List V → Hp → VK → Prop := fun xs H Q => ∃ (a D : Addr) (d : Option Addr) (c : V) (cv : Value) (b : Bool), xs = [.ref a, c] ∧ H a = some (ExK (.ref D) d a) ∧ ExcC K D ∧ DictK H d ∧ (∀ u, RelV c u → u = cv) ∧ PySem.W.kitOne K (.ref D) cv = some b ∧ Q (.bl b) H
/-- e.f, e a kept error of the class C -/
def tXk (C : Addr) (f : Str) (te : TE) : TE := fun σ H Q => te σ H fun x H1 => ∃ (a dd : Addr) (fs : List (Str × V)) (v : V), x = .ref a ∧ H1 a = some (ExK (.ref C) (some dd) a) ∧ H1 dd = some (.xd fs) ∧ fs.lookup f = some v ∧ Q v H1
end
end Ph

/-! PhCp: the text that repr gives holds code points only. -/
namespace Ph
open PySem PySem.Spec PyProof.Rows L2
/-- all signs are code points -/
def Cp (x : Str) : Prop := ∀ c ∈ x.cps.toList, c < 0x110000
mutual
/-- all texts within hold code points only -/
def cpD : PyData → Bool
  | .none | .bool _ | .int _ => true
  | .str x => PyData.strOk x
  | .list xs | .tuple xs => cpAll xs
  | .dict kvs => cpKv kvs
def cpAll : List PyData → Bool
  | [] => true
  | x :: xs => cpD x && cpAll xs
def cpKv : List (PyData × PyData) → Bool
  | [] => true
  | (k, v) :: r => cpD k && cpD v && cpKv r
end
end Ph

/-! PhOdd: data with dicts: kept where what it reaches is kept; bounds of its text. -/
namespace Ph
open PySem PySem.Spec PyProof.Rows L2
structure Shd (d : PyData) (n k : Nat) : Prop where
  sh : d.showable = true
  dp : d.depth ≤ n
  lv : d.leavesShort 40 = true
  wt : d.weight ≤ k
  cp : cpD d = true
end Ph

/-! PhOd: odd values: nested data, kept whatever becomes of the addresses S (draws, tables). -/
namespace Ph
open PySem PySem.Spec PyProof.Rows L2
/-- a value that is no integer -/
inductive NoInt (K : PySem.W.Frag) (H : Hp) : V → Prop
  | bl (b : Bool) : NoInt K H (.bl b)
  | ty {x : V} {t : String} (h : TyX K H x (.type t)) (n : kitB t "int" = some false) : NoInt K H x
/-- the heap without the addresses S -/
def hid (S : List Addr) (H : Hp) : Hp := fun b => if b ∈ S then none else H b
/-- all but S is kept -/
def ButS (S : List Addr) (H H' : Hp) : Prop := ∀ b o, b ∉ S → H b = some o → H' b = some o
structure OdV (K : PySem.W.Frag) (S : List Addr) (H : Hp) (n : Nat) (x : V) (d : PyData) : Prop where
  dq : Dq K (hid S H) x d
  sd : Shd d (n + 2) (2000 + 200 * n)
  ty : NoInt K (hid S H) x ∨ ∃ i : Int, x = .int i
section
variable {K : PySem.W.Frag} {S : List Addr} {H H' : Hp} {n : Nat} {x : V} {d : PyData}
end
/-- the list of what is drawn from -/
def OdL (K : PySem.W.Frag) (S : List Addr) (H : Hp) (xs : List V) : Prop := ∀ x ∈ xs, ∃ d, OdV K S H 0 x d
end Ph

/-! PhEi: own errors of one field: their __init__, raising them. -/
namespace Ph
open PySem PySem.Spec PyProof.Rows L2
/-- E(x): the field f is x -/
def spEi (C : Addr) (f : Str) : Sp := fun vs H Q _ => ∃ (a : Addr) (x : V), vs = [.ref a, x] ∧ H a = some (exo a C none) ∧ ∀ dx, H dx = none → dx ≠ a → Q .non (upd (upd H dx (exd dx [(f, x)])) a (exo a C (some dx)))
/-- what a raised error is to who catches it -/
def ErrX (C : Addr) (f : Str) (x : V) (H : Hp) (E : XK) : Prop := ∀ H' d, Same H H' → H' d = some (.xd [(f, x)]) → E (.ref C) (some d) H'
/-- is_integer of any value -/
def spI2 (K : PySem.W.Frag) : Sp := fun vs H Q _ => ∃ x : V, vs = [x] ∧ ((∃ i : Int, x = .int i ∧ Q (.bl true) H) ∨ (NoInt K H x ∧ Q (.bl false) H))
/-- an argument that is no size; one that is no address -/
def BadZ (K : PySem.W.Frag) (H : Hp) (C : List Int) (x : V) : Prop := NoInt K H x ∨ ∃ i : Int, x = .int i ∧ i ∉ C
def BadA (K : PySem.W.Frag) (H : Hp) (z : Int) (y : V) : Prop := NoInt K H y ∨ ∃ A : Int, y = .int A ∧ (A < 0 ∨ A % z ≠ 0)
/-- what check_address raises -/
def BadC (K : PySem.W.Frag) (CB CP : Addr) (H : Hp) (c : Addr) (x y : V) (E : XK) : Prop := ∃ C, ChAt H c C ∧ ((BadZ K H C x ∧ ErrX CB "size" x H E) ∨ ∃ z : Int, x = .int z ∧ z ∈ C ∧ 0 < z ∧ BadA K H z y ∧ ErrX CP "address" y H E)
end Ph

/-! PhLam: defs that make lambdas: the heap without the tables, the tables kept, the code object known. -/
namespace Ph
open PySem PySem.Spec PyProof.Rows L2 LamX
/-- the heap without the tables of code objects -/
def ntb (H : Hp) : Hp := fun b => match H b with
  | some (.tbl _) => none
  | x => x
section
variable {T : List (Addr × Str)} {H H' : Hp}
theorem tabs_but {q : Addr} {xs : List V} (t : Tabs T H) (b : But q H H') (e : H q = some (.lst xs)) : Tabs T H' := fun p hp => by
  obtain ⟨ps, h1, h2, h3⟩ := t p hp
  refine ⟨ps, b _ _ (fun z => ?_) h1, h2, fun pos cv hc => ?_⟩
  · rw [z, e] at h1
    cases h1
  · obtain ⟨c, e1, e2⟩ := h3 pos cv hc
    refine ⟨c, e1, b _ _ (fun z => ?_) e2⟩
    rw [z, e] at e2
    unfold CodeO at e2
    cases e2
theorem tabs_same (t : Tabs T H) (s : Same H H') : Tabs T H' := t.ext s
theorem ext_tup {t : Addr} {xs : List V} (x : ExtN H H') (e : H t = some (.tup xs)) : H' t = some (.tup xs) := x _ _ e fun _ z => nomatch z
theorem ext_lst {t : Addr} {xs : List V} (x : ExtN H H') (e : H t = some (.lst xs)) : H' t = some (.lst xs) := x _ _ e fun _ z => nomatch z
theorem ext_frz {t : Addr} {o : Obj} {u : HO} (x : ExtN H H') (e : H t = some (.frz o u)) : H' t = some (.frz o u) := x _ _ e fun _ z => nomatch z
theorem ext_seq {K : PySem.W.Frag} {t : Addr} {xs : List V} (x : ExtN H H') (e : SqL K H t xs) : SqL K H' t xs := by
  rcases e with (e | ⟨o, e⟩) | e
  · exact .inl (.inl (ext_lst x e))
  · exact .inl (.inr ⟨o, ext_frz x e⟩)
  · exact .inr e
end
/-- tabIn's code object is the def's -/
theorem tab_code {K : PySem.W.Frag} {x : Str} {c P f : Addr} {oc : Value} {od : Option Addr} {fd : FuncData} {sl : Array (Option Value)} (t : PySem.W.tabIn K x = some (c, P)) (n : PySem.W.nsIn K mainGlobals x = some (some (.ref f))) (l : K.lookup f = some ⟨oc, od, .func fd, sl⟩) : fd.code = .ref c := by
  unfold PySem.W.tabIn at t
  rw [n] at t
  simp only [l] at t
  split at t
  · rename_i c' e
    split at t
    · split at t
      · cases t
        exact e
      · cases t
    · cases t
  · cases t
end Ph

/-! PhOkc: a def whose code object is known (it makes defs or lambdas), as FnOk: no guards asked. -/
namespace Ph
open PySem PySem.Spec PyProof.Rows L2
theorem okC {P : Program} {w : World} {K : PySem.W.Frag} {mg : Str → Option Value} {base : Heap} {x qual : Str} {st : Stmt} {f : Addr} {fd : FuncData} {N ps : List Str} {k : Nat} {sp : Sp} {c : Addr} (F : Fun K x qual st f fd) (hc : fd.code = .ref c) (S : FnScope N ps (defScope st)) (len : ∀ vs H Q E, sp vs H Q E → vs.length = ps.length)
    (hbody : ∀ (A : Around) (outer : List Env) (s : Shared) (H : Hp) (vs : List V) (Q : VK) (E : XK), Room k (A.deeper (envOfC qual (defScope st) s.heap.objs.size f (.ref c))) → sp vs H Q E →
      ∃ t, PSs (cxOf CX0 P w K mg base N qual (defScope st) f (.ref c) A outer s H E).nox (defBody st) t ∧ t { nx := fun _ H' => Q .non H', rt := Q } (start N vs) H) : FnOk P w K mg base CX0 (k + 1) f fd ps sp := by
  obtain ⟨oc, od, kV, doc, pm, an, cdv, ct, osl, rfl, lk, hcd⟩ := F.ex
  obtain rfl : cdv = Value.ref c := hc
  refine fn_of lk hcd S len fun A outer s H vs Q E hr hsp => ?_
  obtain ⟨t, h, q⟩ := hbody A outer s H vs Q E hr hsp
  exact ⟨t, h.nox, q⟩
/-- the heap may grow, tables aside: what an ExtN leaves -/
theorem ext_st {H H' : Hp} {t : Addr} {bs : List Bk} (x : LamX.ExtN H H') (h : StAt H t bs) : StAt H' t bs := by
  obtain ⟨xs, e, bl⟩ := h
  exact ⟨xs, ext_tup x e, BL.kp bl fun v us e => ext_tup x e⟩
theorem ext_ch {H H' : Hp} {c : Addr} {C : List Int} (x : LamX.ExtN H H') (h : ChAt H c C) : ChAt H' c C := h.frz fun o u e => ext_frz x e
end Ph

/-! PhHr: a heap of any rule, as an object, with its steps. -/
namespace Ph
open PySem PySem.Spec PyProof.Rows L2
def hfr (r : Str) (c : Addr) (pg M : Int) (t l : Addr) : List (Str × V) := [("chain", .ref c), ("pages", .int pg), ("limit", .int M), ("rule", .str r), ("blocks", .ref t), ("steps", .ref l)]
section
variable {r : Str} {c t l u : Addr} {pg M : Int}
theorem hr_chain : (hfr r c pg M t l).lookup ("chain" : Str) = some (.ref c) := rfl
theorem hr_pages : (hfr r c pg M t l).lookup ("pages" : Str) = some (.int pg) := rfl
theorem hr_limit : (hfr r c pg M t l).lookup ("limit" : Str) = some (.int M) := rfl
theorem hr_blocks : (hfr r c pg M t l).lookup ("blocks" : Str) = some (.ref t) := rfl
theorem hr_steps : (hfr r c pg M t l).lookup ("steps" : Str) = some (.ref l) := rfl
theorem hr_put : putF "blocks" (.ref u) (hfr r c pg M t l) = hfr r c pg M u l := rfl
end
abbrev Tri := Str × Int × Int
def StL (H : Hp) (xs : List V) (ss : List Tri) : Prop := Paired (fun x (t : Tri) => ∃ T, x = V.ref T ∧ H T = some (.tup [.str t.1, .int t.2.1, .int t.2.2])) xs ss
theorem paired_impL {α β : Type} {R S : α → β → Prop} (h : ∀ a b, R a b → S a b) : ∀ {l : List α} {m : List β}, Paired R l m → Paired S l m
  | _, _, .nil => .nil
  | _, _, .cons x r => .cons (h _ _ x) (paired_impL h r)
theorem StL.kp {H H' : Hp} {xs : List V} {ss : List Tri} (h : StL H xs ss) (k : KpT H H') : StL H' xs ss := paired_impL (fun x t ⟨T, e1, e2⟩ => ⟨T, e1, k _ _ e2⟩) h
theorem StL.len {H : Hp} {xs : List V} {ss : List Tri} (h : StL H xs ss) : xs.length = ss.length := h.length
structure HrA (C : Addr) (H : Hp) (h l c : Addr) (r : Str) (s : Nat → Nat) (p pg M : Nat) (bs : List Bk) (ss : List Tri) (dx t : Addr) (xs : List V) : Prop where
  ob : H h = some (.ins C dx (hfr r c pg M t l))
  ch : ChAt H c (tl s (p + 1))
  st : StAt H t bs
  ls : H l = some (.lst xs)
  sl : StL H xs ss
def HrS (C : Addr) (H : Hp) (h l c : Addr) (r : Str) (s : Nat → Nat) (p pg M : Nat) (bs : List Bk) (ss : List Tri) : Prop := ∃ dx t xs, HrA C H h l c r s p pg M bs ss dx t xs
section
variable {C : Addr} {H H' : Hp} {h l c : Addr} {r : Str} {s : Nat → Nat} {p pg M : Nat} {bs : List Bk} {ss : List Tri}
theorem HrA.kp {dx t : Addr} {xs : List V} (a : HrA C H h l c r s p pg M bs ss dx t xs) (k1 : ∀ C' dx' fs, H h = some (.ins C' dx' fs) → H' h = some (.ins C' dx' fs)) (k2 : ∀ ys, H l = some (.lst ys) → H' l = some (.lst ys)) (k3 : KpT H H') (k4 : ∀ o u, H c = some (.frz o u) → H' c = some (.frz o u)) : HrA C H' h l c r s p pg M bs ss dx t xs :=
  ⟨k1 _ _ _ a.ob, a.ch.frz k4, a.st.mono k3, k2 _ a.ls, a.sl.kp k3⟩
theorem HrS.same (a : HrS C H h l c r s p pg M bs ss) (sm : Same H H') : HrS C H' h l c r s p pg M bs ss := by
  obtain ⟨dx, t, xs, a⟩ := a
  exact ⟨dx, t, xs, a.kp (fun _ _ _ e => sm _ _ e) (fun _ e => sm _ _ e) (fun _ _ e => sm _ _ e) fun _ _ e => sm _ _ e⟩
end
end Ph

/-! PhHw: histories of a heap, whatever places its blocks were put at; the newest step first. -/
namespace Ph
open PySem PySem.Spec PyProof.Rows L2
namespace HW
theorem perm_filt {e : Bk} : ∀ {cs : List Bk}, cs.Pairwise (fun x y => x.1 ≠ y.1) → e ∈ cs → cs.Perm (e :: cs.filter fun b => decide (b.1 ≠ e.1))
  | c :: r, pw, h => by
    obtain ⟨p1, p2⟩ := List.pairwise_cons.mp pw
    rcases List.mem_cons.mp h with z | z
    · subst z
      have : (r.filter fun b => decide (b.1 ≠ e.1)) = r := List.filter_eq_self.mpr fun b hb => decide_eq_true fun z => p1 b hb z.symm
      rw [List.filter_cons_of_neg (by simp), this]
    · have ne := p1 e z
      rw [List.filter_cons_of_pos (by simpa using ne)]
      exact ((perm_filt p2 z).cons c).trans (List.Perm.swap ..)
theorem st_app {C : List Int} {W : Int} {bs : List Bk} (st : St C W bs) : bs.Pairwise apart := st.asc.imp fun h => .inl h
theorem St_nes {C : List Int} {W : Int} {bs : List Bk} (st : St C W bs) : bs.Pairwise fun x y => x.1 ≠ y.1 :=  st.asc.imp_of_mem fun {b c} hb hc h z => by
  have := (st.ok b hb).2.1
  omega
theorem St_lex {C : List Int} {W : Int} {bs : List Bk} (st : St C W bs) : bs.Pairwise fun x y => SrtO.lexB y x = false :=  st.asc.imp_of_mem fun {b c} hb hc h => SrtO.lexB_no.mpr (by
  have := (st.ok b hb).2.1
  omega)
theorem add_st {C : List Int} {W a z : Int} {bs cs : List Bk} (st : St C W bs) (ok : okB C W (a, z)) (ap : ∀ b ∈ bs, a + z ≤ b.1 ∨ b.1 + b.2 ≤ a) (p : cs.Perm (bs ++ [(a, z)])) (srt : cs.Pairwise fun x y => SrtO.lexB y x = false) : St C W cs := by
  refine sorted_st (fun b hb => ?_) (List.pairwise_append.mpr ⟨st_app st, List.pairwise_singleton _ _, fun b hb c hc => ?_⟩) p srt
  · rcases List.mem_append.mp hb with h | h
    · exact st.ok b h
    · rw [List.mem_singleton.mp h]
      exact ok
  · rw [List.mem_singleton.mp hc]
    rcases ap b hb with h | h
    · exact .inr h
    · exact .inl h
theorem len_sum : ∀ {bs : List Bk}, (∀ b ∈ bs, 1 ≤ b.2) → (bs.length : Int) ≤ (bs.map fun b => b.2).sum
  | [], _ => Int.le_refl _
  | b :: r, h => by
    have h1 := h b (List.mem_cons_self ..)
    have ih := len_sum (bs := r) fun c hc => h c (List.mem_cons_of_mem _ hc)
    rw [List.length_cons, List.map_cons, List.sum_cons]
    omega
abbrev tt (bs : List Bk) : Int := (bs.map fun b => b.2).sum
theorem tt_perm {bs cs : List Bk} (pm : cs.Perm bs) : tt cs = tt bs := sum_perm pm
theorem tt_snoc (bs : List Bk) (b : Bk) : tt (bs ++ [b]) = tt bs + b.2 := by
  unfold tt
  rw [List.map_append, List.sum_append]
  simp
theorem tt_filt {C : List Int} {W : Int} {bs : List Bk} {e : Bk} (st : St C W bs) (he : e ∈ bs) : tt bs - tt (bs.filter fun b => decide (b.1 ≠ e.1)) = e.2 := by
  have h1 : tt bs = e.2 + tt (bs.filter fun b => decide (b.1 ≠ e.1)) := by
    rw [tt_perm (perm_filt (St_nes st) he)]
    rfl
  omega
end HW
/-- a place for a block: within the heap, beside its blocks -/
structure Spt (z : Int) (bs : List Bk) (W x : Int) : Prop where
  mod : x % z = 0
  pos : 0 ≤ x
  fit : x + z ≤ W
  free : ∀ b ∈ bs, x + z ≤ b.1 ∨ b.1 + b.2 ≤ x
inductive Hw (s : Nat → Nat) (p : Nat) (W : Int) (M : Nat) : List Tri → List Bk → Prop
  | nil : Hw s p W M [] []
  | get {rs : List Tri} {bs cs : List Bk} {x : Int} {i : Nat} : Hw s p W M rs bs → i ≤ p → (bs.map fun b => b.2).sum + ((s i : Nat) : Int) ≤ M → Spt ((s i : Nat) : Int) bs W x → cs.Perm (bs ++ [(x, ((s i : Nat) : Int))]) → (cs.Pairwise fun x y => SrtO.lexB y x = false) → Hw s p W M ((("get" : Str), x, ((s i : Nat) : Int)) :: rs) cs
  | free {rs : List Tri} {bs : List Bk} {e : Bk} : Hw s p W M rs bs → e ∈ bs → Hw s p W M ((("free" : Str), e.1, e.2) :: rs) (bs.filter fun b => decide (b.1 ≠ e.1))
section
variable {s : Nat → Nat} {p M : Nat} {W : Int}
theorem Hw.st {rs : List Tri} {bs : List Bk} (c : CH s (p + 1)) (h : Hw s p W M rs bs) : St (tl s (p + 1)) W bs := by
  induction h with
  | nil => exact ⟨(fun b hb => nomatch hb), List.Pairwise.nil⟩
  | @get rs bs cs x i _ hi _ sp pm srt ih =>
    have := c.pos (i := i) (by omega)
    exact HW.add_st ih ⟨tl_mem.mpr ⟨i, by omega, rfl⟩, by show 1 ≤ ((s i : Nat) : Int); omega, sp.pos, sp.mod, sp.fit⟩ sp.free pm srt
  | free _ _ ih => exact ih.filter _
theorem Hw.tot {rs : List Tri} {bs : List Bk} (c : CH s (p + 1)) (h : Hw s p W M rs bs) : HW.tt bs ≤ M := by
  induction h with
  | nil => exact Int.natCast_nonneg _
  | @get rs bs cs x i _ hi hM sp pm srt ih =>
    rw [HW.tt_perm pm, HW.tt_snoc]
    exact hM
  | @free _ bs e h he ih =>
    have h1 := HW.tt_filt (h.st c) he
    have h2 := ((h.st c).ok e he).2.1
    omega
theorem Hw.len {rs : List Tri} {bs : List Bk} (c : CH s (p + 1)) (h : Hw s p W M rs bs) : bs.length ≤ M := by
  have h1 := HW.len_sum (bs := bs) fun b hb => ((h.st c).ok b hb).2.1
  have h2 := h.tot c
  unfold HW.tt at h2
  omega
theorem Hw.uniq {rs : List Tri} {bs cs : List Bk} (c : CH s (p + 1)) (h : Hw s p W M rs bs) (h' : Hw s p W M rs cs) : bs = cs := by
  induction h generalizing cs with
  | nil => cases h'; rfl
  | @get rs bs1 cs1 x i h1 hi hM sp pm srt ih =>
    generalize ez : ((s i : Nat) : Int) = z at h'
    cases h' with
    | @get _ bs2 _ _ i2 h2 hi2 hM2 sp2 pm2 srt2 =>
      have e1 := ih h2
      subst e1
      rw [ez] at pm
      exact perm_lex (pm.trans pm2.symm) srt srt2
  | @free rs bs1 e h1 he ih =>
    obtain ⟨e1, e2⟩ := e
    dsimp only at h'
    cases h' with
    | @free _ bs2 e' h2 he' =>
      have f1 := ih h2
      subst f1
      rfl
theorem Hw.tail {t : Tri} {rs : List Tri} {cs : List Bk} (h : Hw s p W M (t :: rs) cs) : ∃ bs, Hw s p W M rs bs := by
  cases h with
  | get h1 => exact ⟨_, h1⟩
  | free h1 _ => exact ⟨_, h1⟩
theorem Hw.pre {ss : List Tri} {bs : List Bk} (h : Hw s p W M ss.reverse bs) : ∀ n i, i + n = ss.length → ∃ cs, Hw s p W M (ss.take i).reverse cs
  | 0, i, e => ⟨bs, by rw [List.take_of_length_le (by omega)]; exact h⟩
  | n + 1, i, e => by
    obtain ⟨cs, h'⟩ := Hw.pre h n (i + 1) (by omega)
    have hlt : i < ss.length := by omega
    rw [List.take_add_one, List.getElem?_eq_getElem hlt, List.reverse_append] at h'
    exact h'.tail
/-- the next step of a history -/
theorem Hw.step {ss : List Tri} {bs bi : List Bk} {i : Nat} {t : Tri} (c : CH s (p + 1)) (h : Hw s p W M ss.reverse bs) (hi : ss[i]? = some t) (hm : Hw s p W M (ss.take i).reverse bi) :
    (∃ j x cs, j ≤ p ∧ t = (("get" : Str), x, ((s j : Nat) : Int)) ∧ HW.tt bi + ((s j : Nat) : Int) ≤ M ∧ Spt ((s j : Nat) : Int) bi W x ∧ cs.Perm (bi ++ [(x, ((s j : Nat) : Int))]) ∧ (cs.Pairwise fun x y => SrtO.lexB y x = false) ∧ Hw s p W M (ss.take (i + 1)).reverse cs) ∨
    ∃ e ∈ bi, t = (("free" : Str), e.1, e.2) ∧ Hw s p W M (ss.take (i + 1)).reverse (bi.filter fun b => decide (b.1 ≠ e.1)) := by
  have hlt := (List.getElem?_eq_some_iff.mp hi).1
  have etk : (ss.take (i + 1)).reverse = t :: (ss.take i).reverse := by
    rw [List.take_add_one, hi, List.reverse_append]
    rfl
  obtain ⟨cs, h'⟩ := h.pre (ss.length - (i + 1)) (i + 1) (by omega)
  rw [etk] at h' ⊢
  cases h' with
  | @get _ b2 _ x j h1 hj hM sp pm srt =>
    have e1 := hm.uniq c h1
    subst e1
    exact .inl ⟨j, x, cs, hj, rfl, hM, sp, pm, srt, .get h1 hj hM sp pm srt⟩
  | @free _ b2 e h1 he =>
    have e1 := hm.uniq c h1
    subst e1
    exact .inr ⟨e, he, rfl, .free h1 he⟩
end
/-! ### events and histories -/
def evV (t : Tri) : List V := if t.1 = "get" then [.str "get", .int t.2.2, .int t.2.1] else [.str "free", .int t.2.1]
theorem evV_get (x z : Int) : evV (("get" : Str), x, z) = [.str "get", .int z, .int x] := if_pos rfl
theorem evV_free (x z : Int) : evV (("free" : Str), x, z) = [.str "free", .int x] := if_neg (show ¬ (("free" : Str) = "get") by decide +kernel)
def GF (t : Tri) : Prop := t.1 = "get" ∨ t.1 = "free"
def EvL (H : Hp) (ys : List V) (ss : List Tri) : Prop := Paired (fun y (t : Tri) => ∃ T, y = V.ref T ∧ H T = some (.tup (evV t))) ys ss
def HisAt (H : Hp) (u : Addr) (ss : List Tri) : Prop := ∃ ys, H u = some (.tup ys) ∧ EvL H ys ss
end Ph

namespace Ph
open PySem PySem.Spec PyProof.Rows L2
section
variable {X : Cx}
/-! ### repr of data or of None -/
def rRpN (K : PySem.W.Frag) : List V → Hp → VK → Prop := fun xs H Q => (xs = [.non] ∧ Q (.str "None") H) ∨ rRp K xs H Q
end
/-! ### lists of blocks, and lists of such -/
def lD (bs : List (Int × Int)) : PyData := .list (bs.map bD)
end Ph

namespace Ph
open PySem PySem.Spec PyProof.Rows L2
end Ph

set_option maxHeartbeats 2000000
namespace Ph
open PySem PySem.Spec PyProof.Rows L2 LamX NdefX
set_option autoImplicit false
/-! ### max(xs, key=f), f a def made within the def -/
section
variable {X : Cx} {pins : List (Addr × Obj)} {σ : L2.St} {H : Hp} {s : Shared} {F : NF} {f l : Addr} {ps fr : List Str} {js : List Nat} {k : Nat} {sp : List (Option V) → Sp}
/-- what stands beside the loop: the iterator, its scratch list -/
structure Bes (X : Cx) (pins : List (Addr × Obj)) (H : Hp) (I S : Addr) : Prop where
  i : FpOk X pins H I
  s : FpOk X pins H S
/-- calls of the function f in the heap H -/
def RunsF (X : Cx) (k : Nat) (H : Hp) (f : Addr) (F : NF) (fr : List Str) (sp : List (Option V) → Sp) : Prop := ∀ (A : Around) (outer : List Env) (s : Shared) (us : List Value) (vs : List V) (ws : List (Option V)) (Q : VK), Room k A → Env0 X.prog X.w X.K X.mg X.base A outer s H → CellsAt F.cl fr ws s.heap H → Vals vs us → sp ws vs H Q E0 → codeAny (model X.prog X.w) A (.call (.ref f) ⟨us, []⟩) (CR CX0 outer X.prog X.w H s Q E0) s
theorem runsN (hf : H f = some (FnO f F)) (hcd : H F.c = some (CodeO F.c F.qual)) (Fn : NOk X.prog X.w X.K X.mg X.base CX0 k f F ps fr sp) : RunsF X k H f F fr sp := fun A outer s us vs ws Q hr e0 C r q => Fn.run A outer s H us vs ws Q E0 hr e0 hf hcd C r q
theorem key_run {ns : List Int} {its : List Value} {kf : Int → Int} {I S : Addr} {op : CmpOp} {bt : Nat → Nat → Bool} (hr : Room (k + 1) X.A) (Fn : RunsF X k H f F fr sp) (cp : X.Ok → Caps X F.cl fr js) (B : Bes X pins H I S) (hf : H f = some (FnO f F)) (rv : Vals (ns.map V.int) its)
    (hls : ∀ s', Inv X pins σ H s' → s'.heap.IsList l its.toArray)
    (hk : ∀ n ∈ ns, ∀ Q : VK, Q (.int (kf n)) H → sp (js.map (slotAt σ)) [.int n] H Q E0)
    (hcmp : CmpOf X.prog X.w X.A.in1 op (fun i v => ∃ t, v = .int (kf (ns.getD i 0)) t) bt) :
    KeyRun X.prog X.w X.A.in1 (.ref f) op S [I] (fun a b => b = a) its.toArray.size (fun i v => its.toArray[i]? = some v) (fun i s' => s'.heap.IsListIter I l i ∧ s'.heap.IsList l its.toArray) (fun s' => Inv X pins σ H s') (fun i v _ => ∃ t, v = .int (kf (ns.getD i 0)) t) bt where
  keep := fun s1 s2 I1 m => by
    obtain ⟨h2, g2, d2, t2, o2⟩ := s2
    have e1 : g2 = s1.gens := m.gens
    have e2 : d2 = s1.drawn := m.drawn
    have e3 : o2 = s1.os := m.os
    subst e1 e2 e3
    exact I1.turnedL (ch := S :: [I]) (fun b o hb e => m.heap b o hb e) fun b hb => by
      rcases List.mem_cons.mp hb with z | z
      · rw [z]; exact B.s
      · rw [List.mem_singleton.mp z]; exact B.i
  keepV := fun _ _ _ _ h _ => h
  turn := fun i v s1 o Q E hi hP I1 hst hS hQ => by
    obtain ⟨⟨oI, hoI, hoc, hod⟩, hli⟩ := hst
    have hi' : i < its.length := by simpa using hi
    have hv : its[i]? = some v := by simpa using hP
    have ln := rv.length
    rw [List.length_map] at ln
    have hn : ns.getD i 0 ∈ ns := by
      rw [List.getD_eq_getElem?_getD, List.getElem?_eq_getElem (by omega)]
      exact List.getElem_mem _
    obtain ⟨t, rfl⟩ : ∃ t, v = .int (ns.getD i 0) t := by
      obtain ⟨u, hu, ru⟩ := Vals.get rv (i := i) (x := V.int (ns.getD i 0)) (by rw [List.getElem?_map, List.getD_eq_getElem?_getD, List.getElem?_eq_getElem (by omega)]; rfl)
      rw [hv] at hu
      cases hu
      exact ru
    refine wpAny_call (codeAny_mono (Fn X.A.in1 X.stack s1 [.int (ns.getD i 0) t] [.int (ns.getD i 0)] _ (fun x H' => x = .int (kf (ns.getD i 0)) ∧ H' = H) hr.in1 I1.env0.in1 (cells_of I1 (cp I1.ok)) (.cons ⟨t, rfl⟩ .nil) (hk _ hn _ ⟨rfl, rfl⟩)) fun r s2 out => ?_)
    match r, out with
    | .error _, out => exact False.elim out
    | .ok (.ret u), out =>
      obtain ⟨x, H', os, bare, un, hok, rx, ex, eH⟩ := id out
      subst ex eH
      obtain ⟨t2, rfl⟩ := rx
      have ns1 : ∀ b, FpOk X pins H' b → b ∉ frs X.stack := fun b fp z => (List.mem_cons.mp (I1.stkSub b z)).elim fp.2.1 fp.2.2.1
      have kS := un.keep S o hS B.s.1 (ns1 S B.s) (by simp)
      have kI := un.keep I oI hoI B.i.1 (ns1 I B.i) (by simp)
      obtain ⟨x, H2, I2, rx, ex, eH⟩ := I1.after out
      subst eH
      exact hQ _ s2 I2 ⟨⟨oI, kI, hoc, hod⟩, hls _ I2⟩ kS ⟨t2, rfl⟩ fun _ _ h => h
  cmp := fun i j ki kj s1 Q E _ hi hj q => hcmp i j ki kj s1 Q E hi hj q
theorem best_gt (num : Nat → Int) : ∀ k, argBest (fun i j => decide (num i > num j)) k ≤ k ∧ ∀ j, j ≤ k → num j ≤ num (argBest (fun i j => decide (num i > num j)) k) ∧ (j < argBest (fun i j => decide (num i > num j)) k → num j < num (argBest (fun i j => decide (num i > num j)) k))
  | 0 => ⟨Nat.le_refl _, fun j hj => by
      have : j = 0 := by omega
      subst this
      exact ⟨Int.le_refl _, fun h => absurd h (Nat.not_lt_zero _)⟩⟩
  | k + 1 => by
    obtain ⟨h1, h2⟩ := best_gt num k
    simp only [argBest]
    by_cases hc : num (k + 1) > num (argBest (fun i j => decide (num i > num j)) k)
    · rw [if_pos (by simpa using hc)]
      refine ⟨Nat.le_refl _, fun j hj => ?_⟩
      by_cases e : j = k + 1
      · subst e
        exact ⟨Int.le_refl _, fun h => absurd h (Nat.lt_irrefl _)⟩
      · have := (h2 j (by omega)).1
        exact ⟨by omega, fun _ => by omega⟩
    · rw [if_neg (by simpa using hc)]
      refine ⟨by omega, fun j hj => ?_⟩
      by_cases e : j = k + 1
      · subst e
        exact ⟨by omega, fun h => by omega⟩
      · exact h2 j (by omega)
theorem run_maxKey {ol : Obj} {ns : List Int} {kf : Int → Int} {Q : VK} (hc : X.calm = true) (hr : Room (k + 1) X.A) (Fn : RunsF X k H f F fr sp) (cp : X.Ok → Caps X F.cl fr js) (I : Inv X pins σ H s) (hf : H f = some (FnO f F)) (hl : H l = some (.frz ol (.lst (ns.map V.int)))) (hne : ns ≠ [])
    (hk : ∀ n ∈ ns, ∀ Q : VK, Q (.int (kf n)) H → sp (js.map (slotAt σ)) [.int n] H Q E0)
    (q : ∀ (i : Nat) (m : Int), ns[i]? = some m → (∀ (j : Nat) (n : Int), ns[j]? = some n → kf n ≤ kf m ∧ (j < i → kf n < kf m)) → Q (.int m) H) :
    wpAny (model X.prog X.w) X.A (call (.builtin "max") [.ref l] [(Str.ofString "key", .ref f)]) (EP X pins σ Q) X.xe s := by
  have hname : (toString "max" ++ toString ".loop" : String) = "max.loop" := by decide
  have hq : SqL X.K H l (ns.map V.int) := .inl (.inr ⟨ol, hl⟩)
  obtain ⟨its, rv, pl, hz⟩ := I.list hq
  have hls := pl.isList
  have hlsA : ∀ s', Inv X pins σ H s' → s'.heap.IsList l its.toArray := fun s' I' => by
    obtain ⟨o, ho, hrest⟩ := id hls
    have e1 := (I.hok l _ hl).1
    have e2 := (I'.hok l _ hl).1
    rw [ho] at e1
    cases e1
    exact ⟨_, e2, hrest⟩
  have ln := rv.length
  rw [List.length_map] at ln
  have hn0 : 0 < ns.length := List.length_pos_iff.mpr hne
  obtain ⟨ol, hol, _⟩ := id hls
  have hll : l < s.heap.objs.size := Heap.lt_size hol
  refine kmk_tree PySem.F.kind_max PySem.F.plain_max PySem.F.entry_max (kmk_max_key _ _) ?_
  show wpAny _ X.A.in1 (Builtin.Builtins.bindParams "max" ["key", "default"] 0 ⟨[], [(Str.ofString "key", .ref f)]⟩ >>= _) _ _ s
  refine wpAny_bind (wpAny_of_eq (show Builtin.Builtins.bindParams "max" ["key", "default"] 0 ⟨[], [(Str.ofString "key", .ref f)]⟩ = pure [some (.ref f), none] from rfl) ?_)
  refine wpAny_bind (wpAny_pure ?_)
  refine wpAny_bind (wpAny_pyIter_list hls ?_)
  refine wpAny_bind (wpAny_newList ?_ (Nat.zero_le _))
  rw [hname]
  have hS : (s.heap.push { cls := .type "list_iterator", data := .fields #[.ref l, .int 0 0] }).objs.size = s.heap.objs.size + 1 := size_push' ..
  have hlI : l ≠ s.heap.objs.size := Nat.ne_of_lt hll
  refine wpAny_pure ⟨plainId_quiet PySem.F.plain_max_loop _, ?_⟩
  have gI : ((s.heap.push { cls := .type "list_iterator", data := .fields #[.ref l, .int 0 0] }).push (seqObj "list" #[] 0)).get? s.heap.objs.size = some { cls := .type "list_iterator", data := .fields #[.ref l, .int 0 0] } :=
    Heap.get?_push_of_some _ (Heap.get?_push_size _ rfl)
  have gS : ((s.heap.push { cls := .type "list_iterator", data := .fields #[.ref l, .int 0 0] }).push (seqObj "list" #[] 0)).get? (s.heap.push { cls := .type "list_iterator", data := .fields #[.ref l, .int 0 0] }).objs.size = some (seqObj "list" #[] 0) := Heap.get?_push_size _ rfl
  have W := (Walks.list (prog := X.prog) (w := X.w) (A := X.A.in1) (I.ok.hd hc) s.heap.objs.size l hlI its.toArray).toS
  have fI : H s.heap.objs.size = none := I.hok.fresh (Nat.le_refl _)
  have fS : H (s.heap.push { cls := .type "list_iterator", data := .fields #[.ref l, .int 0 0] }).objs.size = none := I.hok.fresh (by rw [hS]; omega)
  have B : Bes X pins H s.heap.objs.size (s.heap.push { cls := .type "list_iterator", data := .fields #[.ref l, .int 0 0] }).objs.size := ⟨I.fpOk (Nat.le_refl _) fI, I.fpOk (by rw [hS]; omega) fS⟩
  have KR := key_run (op := .Gt) (l := l) hr Fn cp B hf rv hlsA hk (CmpOf.ints_gt (P := fun i v => ∃ t, v = .int (kf (ns.getD i 0)) t) (fun i => kf (ns.getD i 0)) fun i v h => h)
  have I1 : Inv X pins σ H { s with heap := (s.heap.push { cls := .type "list_iterator", data := .fields #[.ref l, .int 0 0] }).push (seqObj "list" #[] 0), toks := s.toks } := I.kept (t' := s.toks) fun b o e => Heap.get?_push_of_some _ (Heap.get?_push_of_some _ e)
  refine codeAny_max_loop_firstK W _ ?_ KR [] ?_ (I.kept (t' := s.toks) fun b o e => Heap.get?_push_of_some _ (Heap.get?_push_of_some _ e)) ?_ gS fun v s' hv I' => ?_
  · intro hm
    rcases List.mem_cons.mp hm with z | z
    · rw [hS] at z
      exact absurd z (Nat.ne_of_gt (Nat.lt_succ_self _))
    · have z := List.mem_singleton.mp z
      rw [hS] at z
      exact absurd z (Nat.ne_of_gt (Nat.lt_succ_of_lt hll))
  · rw [List.size_toArray]
    omega
  · exact ⟨⟨_, gI, rfl, rfl⟩, hlsA _ I1⟩
  · obtain ⟨b1, b2⟩ := best_gt (fun i => kf (ns.getD i 0)) (its.toArray.size - 1)
    rw [List.size_toArray] at b1 b2 hv
    generalize argBest (fun i j => decide (kf (ns.getD i 0) > kf (ns.getD j 0))) (its.length - 1) = bi at *
    have hbi : bi < ns.length := by omega
    have gt : ∀ (j : Nat) (n : Int), ns[j]? = some n → ns.getD j 0 = n := fun j n e => by rw [List.getD_eq_getElem?_getD, e]; rfl
    obtain ⟨u, hu, ru⟩ := Vals.get rv (i := bi) (x := V.int ns[bi]) (by rw [List.getElem?_map, List.getElem?_eq_getElem hbi]; rfl)
    have hv' : its[bi]? = some v := by simpa using hv
    rw [hv'] at hu
    cases hu
    refine ⟨.int ns[bi], H, I', ru, q bi _ (List.getElem?_eq_getElem hbi) fun j n e => ?_⟩
    have hj := (List.getElem?_eq_some_iff.mp e).1
    have := b2 j (by omega)
    rw [gt j n e, gt bi _ (List.getElem?_eq_getElem hbi)] at this
    exact this
theorem best_lt (num : Nat → Int) : ∀ k, argBest (fun i j => decide (num i < num j)) k ≤ k ∧ ∀ j, j ≤ k → num (argBest (fun i j => decide (num i < num j)) k) ≤ num j ∧ (j < argBest (fun i j => decide (num i < num j)) k → num (argBest (fun i j => decide (num i < num j)) k) < num j)
  | 0 => ⟨Nat.le_refl _, fun j hj => by
      have : j = 0 := by omega
      subst this
      exact ⟨Int.le_refl _, fun h => absurd h (Nat.not_lt_zero _)⟩⟩
  | k + 1 => by
    obtain ⟨h1, h2⟩ := best_lt num k
    simp only [argBest]
    by_cases hc : num (k + 1) < num (argBest (fun i j => decide (num i < num j)) k)
    · rw [if_pos (by simpa using hc)]
      refine ⟨Nat.le_refl _, fun j hj => ?_⟩
      by_cases e : j = k + 1
      · subst e
        exact ⟨Int.le_refl _, fun h => absurd h (Nat.lt_irrefl _)⟩
      · have := (h2 j (by omega)).1
        exact ⟨by omega, fun _ => by omega⟩
    · rw [if_neg (by simpa using hc)]
      refine ⟨by omega, fun j hj => ?_⟩
      by_cases e : j = k + 1
      · subst e
        exact ⟨by omega, fun h => by omega⟩
      · exact h2 j (by omega)
theorem run_minKey {ol : Obj} {ns : List Int} {kf : Int → Int} {Q : VK} (hc : X.calm = true) (hr : Room (k + 1) X.A) (Fn : RunsF X k H f F fr sp) (cp : X.Ok → Caps X F.cl fr js) (I : Inv X pins σ H s) (hf : H f = some (FnO f F)) (hl : H l = some (.frz ol (.lst (ns.map V.int)))) (hne : ns ≠ [])
    (hk : ∀ n ∈ ns, ∀ Q : VK, Q (.int (kf n)) H → sp (js.map (slotAt σ)) [.int n] H Q E0)
    (q : ∀ (i : Nat) (m : Int), ns[i]? = some m → (∀ (j : Nat) (n : Int), ns[j]? = some n → kf m ≤ kf n ∧ (j < i → kf m < kf n)) → Q (.int m) H) :
    wpAny (model X.prog X.w) X.A (call (.builtin "min") [.ref l] [(Str.ofString "key", .ref f)]) (EP X pins σ Q) X.xe s := by
  have hname : (toString "min" ++ toString ".loop" : String) = "min.loop" := by decide
  have hq : SqL X.K H l (ns.map V.int) := .inl (.inr ⟨ol, hl⟩)
  obtain ⟨its, rv, pl, hz⟩ := I.list hq
  have hls := pl.isList
  have hlsA : ∀ s', Inv X pins σ H s' → s'.heap.IsList l its.toArray := fun s' I' => by
    obtain ⟨o, ho, hrest⟩ := id hls
    have e1 := (I.hok l _ hl).1
    have e2 := (I'.hok l _ hl).1
    rw [ho] at e1
    cases e1
    exact ⟨_, e2, hrest⟩
  have ln := rv.length
  rw [List.length_map] at ln
  have hn0 : 0 < ns.length := List.length_pos_iff.mpr hne
  obtain ⟨ol, hol, _⟩ := id hls
  have hll : l < s.heap.objs.size := Heap.lt_size hol
  refine kmk_tree PySem.F.kind_min PySem.F.plain_min PySem.F.entry_min (kmk_min_key _ _) ?_
  show wpAny _ X.A.in1 (Builtin.Builtins.bindParams "min" ["key", "default"] 0 ⟨[], [(Str.ofString "key", .ref f)]⟩ >>= _) _ _ s
  refine wpAny_bind (wpAny_of_eq (show Builtin.Builtins.bindParams "min" ["key", "default"] 0 ⟨[], [(Str.ofString "key", .ref f)]⟩ = pure [some (.ref f), none] from rfl) ?_)
  refine wpAny_bind (wpAny_pure ?_)
  refine wpAny_bind (wpAny_pyIter_list hls ?_)
  refine wpAny_bind (wpAny_newList ?_ (Nat.zero_le _))
  rw [hname]
  have hS : (s.heap.push { cls := .type "list_iterator", data := .fields #[.ref l, .int 0 0] }).objs.size = s.heap.objs.size + 1 := size_push' ..
  have hlI : l ≠ s.heap.objs.size := Nat.ne_of_lt hll
  refine wpAny_pure ⟨plainId_quiet PySem.F.plain_min_loop _, ?_⟩
  have gI : ((s.heap.push { cls := .type "list_iterator", data := .fields #[.ref l, .int 0 0] }).push (seqObj "list" #[] 0)).get? s.heap.objs.size = some { cls := .type "list_iterator", data := .fields #[.ref l, .int 0 0] } :=
    Heap.get?_push_of_some _ (Heap.get?_push_size _ rfl)
  have gS : ((s.heap.push { cls := .type "list_iterator", data := .fields #[.ref l, .int 0 0] }).push (seqObj "list" #[] 0)).get? (s.heap.push { cls := .type "list_iterator", data := .fields #[.ref l, .int 0 0] }).objs.size = some (seqObj "list" #[] 0) := Heap.get?_push_size _ rfl
  have W := (Walks.list (prog := X.prog) (w := X.w) (A := X.A.in1) (I.ok.hd hc) s.heap.objs.size l hlI its.toArray).toS
  have fI : H s.heap.objs.size = none := I.hok.fresh (Nat.le_refl _)
  have fS : H (s.heap.push { cls := .type "list_iterator", data := .fields #[.ref l, .int 0 0] }).objs.size = none := I.hok.fresh (by rw [hS]; omega)
  have B : Bes X pins H s.heap.objs.size (s.heap.push { cls := .type "list_iterator", data := .fields #[.ref l, .int 0 0] }).objs.size := ⟨I.fpOk (Nat.le_refl _) fI, I.fpOk (by rw [hS]; omega) fS⟩
  have KR := key_run (op := .Lt) (l := l) hr Fn cp B hf rv hlsA hk (CmpOf.ints_lt (P := fun i v => ∃ t, v = .int (kf (ns.getD i 0)) t) (fun i => kf (ns.getD i 0)) fun i v h => h)
  have I1 : Inv X pins σ H { s with heap := (s.heap.push { cls := .type "list_iterator", data := .fields #[.ref l, .int 0 0] }).push (seqObj "list" #[] 0), toks := s.toks } := I.kept (t' := s.toks) fun b o e => Heap.get?_push_of_some _ (Heap.get?_push_of_some _ e)
  refine codeAny_min_loop_firstK W _ ?_ KR [] ?_ (I.kept (t' := s.toks) fun b o e => Heap.get?_push_of_some _ (Heap.get?_push_of_some _ e)) ?_ gS fun v s' hv I' => ?_
  · intro hm
    rcases List.mem_cons.mp hm with z | z
    · rw [hS] at z
      exact absurd z (Nat.ne_of_gt (Nat.lt_succ_self _))
    · have z := List.mem_singleton.mp z
      rw [hS] at z
      exact absurd z (Nat.ne_of_gt (Nat.lt_succ_of_lt hll))
  · rw [List.size_toArray]
    omega
  · exact ⟨⟨_, gI, rfl, rfl⟩, hlsA _ I1⟩
  · obtain ⟨b1, b2⟩ := best_lt (fun i => kf (ns.getD i 0)) (its.toArray.size - 1)
    rw [List.size_toArray] at b1 b2 hv
    generalize argBest (fun i j => decide (kf (ns.getD i 0) < kf (ns.getD j 0))) (its.length - 1) = bi at *
    have hbi : bi < ns.length := by omega
    have gt : ∀ (j : Nat) (n : Int), ns[j]? = some n → ns.getD j 0 = n := fun j n e => by rw [List.getD_eq_getElem?_getD, e]; rfl
    obtain ⟨u, hu, ru⟩ := Vals.get rv (i := bi) (x := V.int ns[bi]) (by rw [List.getElem?_map, List.getElem?_eq_getElem hbi]; rfl)
    have hv' : its[bi]? = some v := by simpa using hv
    rw [hv'] at hu
    cases hu
    refine ⟨.int ns[bi], H, I', ru, q bi _ (List.getElem?_eq_getElem hbi) fun j n e => ?_⟩
    have hj := (List.getElem?_eq_some_iff.mp e).1
    have := b2 j (by omega)
    rw [gt j n e, gt bi _ (List.getElem?_eq_getElem hbi)] at this
    exact this
/-- the expressions, the list locked -/
def rKeyM (F : NF) (js : List Nat) (sp : List (Option V) → Sp) (le : Int → Int → Prop) (lt : Int → Int → Prop) : L2.St → List V → List V → Hp → VK → Prop := fun σ vs zs H Q => ∃ (l f : Addr) (ol : Obj) (ns : List Int) (kf : Int → Int), vs = [.ref l] ∧ zs = [.ref f] ∧ H f = some (FnO f F) ∧ H l = some (.frz ol (.lst (ns.map V.int))) ∧ ns ≠ [] ∧
  (∀ n ∈ ns, ∀ Q : VK, Q (.int (kf n)) H → sp (js.map (slotAt σ)) [.int n] H Q E0) ∧ ∀ (i : Nat) (m : Int), ns[i]? = some m → (∀ (j : Nat) (n : Int), ns[j]? = some n → le (kf n) (kf m) ∧ (j < i → lt (kf n) (kf m))) → Q (.int m) H
def tKeyM (r : L2.St → List V → List V → Hp → VK → Prop) (t tk : TA) : TE := fun σ H Q => t σ H fun vs H1 => tk σ H1 fun zs H2 => r σ vs zs H2 Q
section
variable {x : Str} {p pos : Pos} {e : Expr} {es : List Expr} {kws : List Keyword} {t tk : TA}
def rKeyN (mk : Addr → NF) (js : List Nat) (sp : List (Option V) → Sp) (le : Int → Int → Prop) (lt : Int → Int → Prop) : L2.St → List V → List V → Hp → VK → Prop := fun σ vs zs H Q => ∃ (l f c' : Addr) (ol : Obj) (ns : List Int) (kf : Int → Int), vs = [.ref l] ∧ zs = [.ref f] ∧ H f = some (FnO f (mk c')) ∧ H c' = some (CodeO c' (mk c').qual) ∧ H l = some (.frz ol (.lst (ns.map V.int))) ∧ ns ≠ [] ∧
  (∀ n ∈ ns, ∀ Q : VK, Q (.int (kf n)) H → sp (js.map (slotAt σ)) [.int n] H Q E0) ∧ ∀ (i : Nat) (m : Int), ns[i]? = some m → (∀ (j : Nat) (n : Int), ns[j]? = some n → le (kf n) (kf m) ∧ (j < i → lt (kf n) (kf m))) → Q (.int m) H
variable {mk : Addr → NF}
theorem pe_maxKeyN (hc : X.calm = true) (hr : Room (k + 1) X.A) (Fn : ∀ f c', NOk X.prog X.w X.K X.mg X.base CX0 k f (mk c') ps fr sp) (cp : ∀ c', X.Ok → Caps X (mk c').cl fr js) (hmc : ∀ c', (mk c').c = c') (hg : Gl X x) (hm : X.mg x = none) (hv : bootBuiltins x = some (.builtin "max")) (ha : PA X (e :: es) t) (hk : PK X kws tk) (hn : x ≠ "__name__" := by decide) (hdb : (x == ("__debug__" : Str)) = false := by decide)
    (he : backTo pos (starEach (e :: es) X.env) = (false, eval e X.env) :: backTo pos (starEach es X.env) := by rfl) (hpl : (backTo pos (starEach (e :: es) X.env)).any (·.1) = false := by rfl)
    (hall : (backToKw pos (keywordEach kws X.env)).all (·.1.isSome) = true := by rfl) (hnone : (backToKw pos (keywordEach kws X.env)).any (·.1.isNone) = false := by rfl) (hks : (backToKw pos (keywordEach kws X.env)).filterMap (·.1) = [Str.ofString "key"] := by rfl) :
    PE X (.Call (.Name x p) (e :: es) kws pos) (tKeyM (rKeyN mk js sp (· ≤ ·) (· < ·)) t tk) := by
  refine ⟨fun pins s σ H Q I h => ?_⟩
  refine wpAny_Call_Name_kw (ld_blt I hg hm hv ?_ hn hdb)
  refine PyProof.Rows.callWith_kw (thn (ha.run pos pins s σ H _ I h) fun us s1 ⟨vs, H1, I1, r1, q1⟩ => thn (hk.run pos pins s1 σ H1 _ I1 q1) fun ws s2 ⟨zs, H2, I2, r2, q2⟩ => ?_) he hpl hall hnone
  rw [hks]
  obtain ⟨l, f, c', ol, ns, kf, rfl, rfl, hf, hcd, hl, hne, hh, q⟩ := q2
  rw [Vals.ref1 r1, Vals.ref1 r2]
  exact run_maxKey hc hr (runsN hf (by rw [hmc]; exact hcd) (Fn f c')) (cp c') I2 hf hl hne hh q
theorem pe_minKeyN (hc : X.calm = true) (hr : Room (k + 1) X.A) (Fn : ∀ f c', NOk X.prog X.w X.K X.mg X.base CX0 k f (mk c') ps fr sp) (cp : ∀ c', X.Ok → Caps X (mk c').cl fr js) (hmc : ∀ c', (mk c').c = c') (hg : Gl X x) (hm : X.mg x = none) (hv : bootBuiltins x = some (.builtin "min")) (ha : PA X (e :: es) t) (hk : PK X kws tk) (hn : x ≠ "__name__" := by decide) (hdb : (x == ("__debug__" : Str)) = false := by decide)
    (he : backTo pos (starEach (e :: es) X.env) = (false, eval e X.env) :: backTo pos (starEach es X.env) := by rfl) (hpl : (backTo pos (starEach (e :: es) X.env)).any (·.1) = false := by rfl)
    (hall : (backToKw pos (keywordEach kws X.env)).all (·.1.isSome) = true := by rfl) (hnone : (backToKw pos (keywordEach kws X.env)).any (·.1.isNone) = false := by rfl) (hks : (backToKw pos (keywordEach kws X.env)).filterMap (·.1) = [Str.ofString "key"] := by rfl) :
    PE X (.Call (.Name x p) (e :: es) kws pos) (tKeyM (rKeyN mk js sp (· ≥ ·) (· > ·)) t tk) := by
  refine ⟨fun pins s σ H Q I h => ?_⟩
  refine wpAny_Call_Name_kw (ld_blt I hg hm hv ?_ hn hdb)
  refine PyProof.Rows.callWith_kw (thn (ha.run pos pins s σ H _ I h) fun us s1 ⟨vs, H1, I1, r1, q1⟩ => thn (hk.run pos pins s1 σ H1 _ I1 q1) fun ws s2 ⟨zs, H2, I2, r2, q2⟩ => ?_) he hpl hall hnone
  rw [hks]
  obtain ⟨l, f, c', ol, ns, kf, rfl, rfl, hf, hcd, hl, hne, hh, q⟩ := q2
  rw [Vals.ref1 r1, Vals.ref1 r2]
  exact run_minKey hc hr (runsN hf (by rw [hmc]; exact hcd) (Fn f c')) (cp c') I2 hf hl hne hh q
end
end
end Ph

namespace Ph
open PySem PySem.Spec PyProof.Rows L2
section
variable {prog : Program} {w : World} {A : Around} {E : Value → Shared → Prop} {s : Shared} {K : PySem.W.Frag} {x C f : Addr} {ox : Obj} {odd : Option Obj}
end
section
variable {X : Cx} {C f : Addr} {fd : FuncData} {sp : Sp} {CX : List Env → Hp → Shared → XK → Value → Shared → Prop} {E : XK} {k : Nat} {ps : List Str}
def rLenOwn (C : Addr) (sp : Sp) (E : XK) : List V → Hp → VK → Prop := fun xs H Q => ∃ a dx fs, xs = [V.ref a] ∧ H a = some (.ins C dx fs) ∧ sp [.ref a] H (fun z H' => ∃ n : Nat, z = .int (n : Int) ∧ n ≤ 1000000000 ∧ Q (.int (n : Int)) H') E
end
end Ph

set_option maxHeartbeats 4000000
/-! PhLnX: len of a dict keyed by tuples. -/
namespace Ph
open PySem PySem.Calls PyProof.V PySem.Spec PyProof.Rows L2 PySem.W SeqAt
section
variable {X : Cx}
def rLenX (w : World) : List V → Hp → VK → Prop := fun vs H Q => ∃ d xs, vs = [V.ref d] ∧ KDr w H d xs ∧ Q (.int ((xs.length : Nat) : Int)) H
theorem call_lenX {w : World} (e : X.w = w) : CallR X (.builtin "len") (rLenX w) := by
  subst e
  intro pins s σ H vs us Q I r h
  obtain ⟨d, xs, rfl, K, q⟩ := h
  obtain rfl := Vals.ref1 r
  obtain ⟨o, es, ep, ho, hx, hdt, hsz, _⟩ := kdr_raw I.hok K
  have ln := K.ln
  have ta : s.TypeIs (.ref d) "dict" := ⟨o, ho, hx.1⟩
  have big : ((es.size : Nat) : Int) < 2 ^ 63 := by
    have : sizeLine < 2 ^ 63 := by decide
    omega
  refine PyProof.Rows.call_len_slot (n := ((es.size : Nat) : Int)) ta PySem.F.slot_dict_len (fun Q' q' => PySem.call_len_raw K.sm ⟨o, ho, hx, hdt⟩ q') (by omega) (by omega) ?_
  rw [hsz]
  exact ⟨.int _, H, I.tok _, ⟨_, rfl⟩, q⟩
end
end Ph

set_option maxHeartbeats 4000000
/-! PhLot: what the laws' own searches of the games keep: requests with the states they lead to, tables of lost states. -/
namespace Ph
open PySem PySem.Spec PyProof.Rows L2
/-- a written list of states -/
def LotV (H : Hp) (y : V) (lot : List (List Bk)) : Prop := ∃ E xs, y = .ref E ∧ H E = some (.lst xs) ∧ StVs H xs lot
def LotN (D : Addr) (H : Hp) (y : V) (lot : List (List Bk)) : Prop := ∃ E xs, y = .ref E ∧ E ≠ D ∧ H E = some (.lst xs) ∧ StVs H xs lot
/-- a list that was not there in the heap H0 -/
def LotO (H0 : Hp) (D : Addr) (H : Hp) (y : V) (lot : List (List Bk)) : Prop := ∃ E xs, y = .ref E ∧ (H0 E = none ∧ E ≠ D) ∧ H E = some (.lst xs) ∧ StVs H xs lot
def LotH (H0 H : Hp) (y : V) (lot : List (List Bk)) : Prop := ∃ E xs, y = .ref E ∧ H0 E = none ∧ H E = some (.lst xs) ∧ StVs H xs lot
/-- the requests of a state: each with the states to which its answers lead -/
def Lots (s : Nat → Nat) (p M : Nat) (W : Int) (bs : List Bk) (lots : List (List (List Bk))) : Prop := ∀ F : List Bk → Prop, (∃ lot ∈ lots, ∀ cs ∈ lot, F cs) ↔ ((∃ j, j ≤ p ∧ totB bs + ((s j : Nat) : Int) ≤ M ∧ ∀ a, Plc W bs ((s j : Nat) : Int) a → F (wb bs a ((s j : Nat) : Int))) ∨ ∃ b ∈ bs, F (ct bs b.1))
/-- what the law's table tells of a state: its requests, with the states they lead to -/
def TabV (s : Nat → Nat) (p M : Nat) (W : Int) (H : Hp) (u : Addr) (v : V) (bs : List Bk) : Prop := StAt H u bs ∧ ∃ Q qs lots, v = .ref Q ∧ H Q = some (.lst qs) ∧ Paired (LotV H) qs lots ∧ Lots s p M W bs lots ∧ (∀ lot ∈ lots, lot.length ≤ 1000 ∧ ∀ cs ∈ lot, Gst s p M W cs) ∧ qs.length ≤ 30
def TabN (F : Addr) (s : Nat → Nat) (p M : Nat) (W : Int) (H : Hp) (u : Addr) (v : V) (bs : List Bk) : Prop := StAt H u bs ∧ ∃ Q qs lots, v = .ref Q ∧ Q ≠ F ∧ H Q = some (.lst qs) ∧ Paired (LotN F H) qs lots ∧ Lots s p M W bs lots ∧ (∀ lot ∈ lots, lot.length ≤ 1000 ∧ ∀ cs ∈ lot, Gst s p M W cs) ∧ qs.length ≤ 30
/-- the law's table of the lost states, each with its rank -/
structure RkT (w : World) (s : Nat → Nat) (p M : Nat) (W : Int) (H : Hp) (N : Addr) (xs : List KAV) : Prop where
  kd : KDx w H N xs
  en : ∀ x ∈ xs, ∃ bs r, x.1 = skey bs ∧ x.2.2 = .int ((r : Nat) : Int) ∧ Gst s p M W bs ∧ Rnk s p M W r bs
  al : ∀ bs k, Gst s p M W bs → Lst s p M W k bs → InK xs bs
section
variable {w : World} {s : Nat → Nat} {p M : Nat} {W : Int} {H H' : Hp} {N : Addr} {xs : List KAV} {bs : List Bk}
end
end Ph

/-! PhMn3: min of a list of triples of ints. -/
namespace Ph
open PySem PySem.Spec PyProof.Rows L2
abbrev T3I := PySem.W.T3 Int Int Int
def l3 (p q : T3I) : Prop := p.a < q.a ∨ (p.a = q.a ∧ (p.b < q.b ∨ (p.b = q.b ∧ p.c < q.c)))
def tD (p : T3I) : PyData := .tuple [.int p.a, .int p.b, .int p.c]
section
variable {X : Cx}
def rMin3 (K : PySem.W.Frag) : List V → Hp → VK → Prop := fun vs H Q => ∃ (a : Addr) (xs : List V) (k : V → T3I), vs = [V.ref a] ∧ SqL K H a xs ∧ (∀ x ∈ xs, ∃ t, x = V.ref t ∧ H t = some (.tup [.int (k x).a, .int (k x).b, .int (k x).c])) ∧ 0 < xs.length ∧
  ∀ x ∈ xs, (∀ y ∈ xs, ¬ l3 (k y) (k x)) → Q x H
end
end Ph

namespace Ph
open PySem PySem.Spec PyProof.Rows L2
section
variable {X : Cx}
/-! ### block not in a tuple of blocks -/
def rNotInT (K : PySem.W.Frag) : R2 := fun x y H Q => ∃ (b : Bk) (a : Addr) (ys : List V) (cs : List Bk), BkAt H x b ∧ y = .ref a ∧ SqT K H a ys ∧ BL H ys cs ∧ Q (.bl (!decide (b ∈ cs))) H
end
end Ph

namespace Ph
open PySem PySem.Spec PyProof.Rows L2
section
variable {X : Cx} {o : Expr} {p pos apos mpos : Pos} {td : TE}
/-- tuple(d.values()), known to be a plain tuple -/
def tTupValsF (td : TE) : TE := fun σ H Q => td σ H fun x H1 => ∃ a kvs, x = V.ref a ∧ H1 a = some (.dK kvs) ∧ ∀ (q : Addr) (o : Obj), H1 q = none → o.dict = none → Q (.ref q) (upd H1 q (.frz o (.tup (kvs.map (·.2)))))
end
section
variable {X : Cx}
end
end Ph

/-! PhAnE: values of any kind (dicts too) with a bound on their text, kept whatever becomes of q; tuples of such, cut and joined. -/
namespace Ph
open PySem PySem.Spec PyProof.Rows L2
structure ShdAll (ds : List PyData) (n k : Nat) : Prop where
  sh : PyData.showableAll ds = true
  dp : PyData.depthAll ds ≤ n
  lv : PyData.leavesShortAll 40 ds = true
  wt : PyData.weightAll ds ≤ k
  cp : cpAll ds = true
def AnyE (K : PySem.W.Frag) (q : Addr) (H : Hp) (n k : Nat) (x : V) : Prop := ∃ d, Dq K (hid [q] H) x d ∧ Shd d n k
section
variable {K : PySem.W.Frag} {q : Addr} {H H' : Hp} {n k m l : Nat} {x : V}
end
section
variable {X : Cx}
def rSlS : V → Option Int → Option Int → Hp → VK → Prop := fun x lo hi H Q => ∃ a xs, x = .ref a ∧ H a = some (.tup xs) ∧ ∀ p H', Same H H' → H' p = some (.tup (cutV xs lo hi)) → Q (.ref p) H'
def rCatS : R2 := fun x y H Q => ∃ a b xs ys, x = .ref a ∧ y = .ref b ∧ H a = some (.tup xs) ∧ H b = some (.tup ys) ∧ xs.length + ys.length ≤ 1000 ∧ ∀ p H', Same H H' → H' p = some (.tup (xs ++ ys)) → Q (.ref p) H'
end
end Ph
namespace Ph
open PySem PySem.Spec PyProof.Rows L2
/-- the members of a tuple, told with their weight together -/
def AllE (K : PySem.W.Frag) (q : Addr) (H : Hp) (n k : Nat) (xs : List V) : Prop := ∃ ds, DqAll K (hid [q] H) xs ds ∧ ShdAll ds n k
section
variable {K : PySem.W.Frag} {q : Addr} {H H' : Hp} {n k m l : Nat} {xs ys : List V}
end
end Ph

set_option maxHeartbeats 4000000
/-! PhPut: tuple(sorted(blocks + ((start, size),))) as one rule, for variables; t[:i], t[i + 1:] of plain tuples. -/
namespace Ph
open PySem PySem.Spec PyProof.Rows L2
def rTupOf (K : PySem.W.Frag) : List V → Hp → VK → Prop := fun xs H Q => ∃ p ys, xs = [.ref p] ∧ ((SqL K H p ys ∧ ∀ l, H l = none → Q (.ref l) (upd H l (.tup ys))) ∨ (SqT K H p ys ∧ Q (.ref p) H))
def tPut (i j l : Nat) : TE := fun σ H Q => ∃ (t : Addr) (bs : List Bk) (a z : Int), σ[i]? = some (some (.ref t)) ∧ σ[j]? = some (some (.int a)) ∧ σ[l]? = some (some (.int z)) ∧ StAt H t bs ∧ bs.length ≤ 5000 ∧ ∀ H' u cs, Same H H' → StAt H' u cs → cs.Perm (bs ++ [(a, z)]) → (cs.Pairwise fun x y => SrtO.lexB y x = false) → Q (.ref u) H'
end Ph

set_option maxHeartbeats 4000000
namespace Ph
open PySem PySem.Spec PyProof.Rows L2
/-! ### set(xs) of tuples of ints, many of them equal: fewer than 63 different ones -/
section
variable {P : Program} {w : World} {A : Around} {E : Value → Shared → Prop} {s : Shared}
abbrev set0 (w : World) : Obj := { cls := .type "set", dict := none, data := .set #[] 0 (.fresh 0 0 (!w.params.followText "set-order")) }
end
section
variable {X : Cx}
/-- set(xs), xs a list of tuples of ints of fewer than 63 kinds -/
def rSetM (K : PySem.W.Frag) (P : Program) (w : World) : List V → Hp → VK → Prop := fun xs H Q => ∃ (l : Addr) (ks : List (Addr × List Int)) (D : List (List Int)), xs = [V.ref l] ∧ SqL K H l (ks.map fun p => V.ref p.1) ∧ (∀ p ∈ ks, SqT K H p.1 (p.2.map V.int)) ∧ (∀ p ∈ ks, p.2 ∈ D) ∧ D.length < 63 ∧
  ∀ a L, H a = none → (∀ p ∈ L, p ∈ ks) → (∀ p ∈ ks, p.2 ∈ L.map (·.2)) → Q (.ref a) (upd H a (SetTO P w a L))
end
end Ph

namespace Ph
open PySem PySem.Spec PyProof.Rows L2
section
variable {X : Cx}
/-- len(set of ints), with what it counts -/
def rLenSetC (w : World) : List V → Hp → VK → Prop := fun vs H Q => ∃ (a : Addr) (S : Int → Bool) (n : Nat), vs = [V.ref a] ∧ H a = some (SetO w a S n) ∧ ((∃ ks : List Int, ks.Nodup ∧ ks.length = n ∧ ∀ k, S k = true ↔ k ∈ ks) → Q (.int n) H)
end
end Ph

namespace Ph
open PySem PySem.Spec PyProof.Rows L2
section
variable {X : Cx}
/-! ### t + u of two that are not empty: a new one whose object is known -/
def rCatF (K : PySem.W.Frag) : R2 := fun x y H Q => ∃ a b xs ys, x = .ref a ∧ y = .ref b ∧ SqT K H a xs ∧ SqT K H b ys ∧ xs ≠ [] ∧ ys ≠ [] ∧ xs.length + ys.length ≤ sizeLine ∧
  ∀ p (o : Obj), H p = none → o.dict = none → Q (.ref p) (upd H p (.frz o (.tup (xs ++ ys))))
end
/-! ### the fourth pot: digits, a seed, a count that is bounded -/
def So (N : Nat) (H : Hp) (p : Addr) : Prop := ∃ g r n : Int, H p = some (.lst [.int g, .int r, .int n]) ∧ PoV g r n ∧ n ≤ N
theorem So.po {N : Nat} {H : Hp} {p : Addr} (s : So N H p) : Po H p := let ⟨g, r, n, e, v, _⟩ := s; ⟨g, r, n, e, v⟩
theorem So.same {N : Nat} {H H' : Hp} {p : Addr} (P : So N H p) (s : Same H H') : So N H' p := by
  obtain ⟨g, r, n, h, v⟩ := P
  exact ⟨g, r, n, s _ _ h, v⟩
theorem gm_mod {T x : Int} (h : 0 < T) (hT : T.natAbs < 2 ^ 3000) : 0 ≤ x % T ∧ (x % T).natAbs < 2 ^ 3000 := by
  have h0 : 0 ≤ x % T := Int.emod_nonneg _ (by omega)
  exact ⟨h0, wide_le h0 (Int.le_of_lt (Int.emod_lt_of_pos _ h)) hT⟩
theorem gm_mul {T x : Int} (h : 0 < T) (hT : T.natAbs < 2 ^ 3000) (b : Bool) : CMulW (x % T) (if b = true then 1 else 0) :=
  wide_mul (b := 2) (gm_mod h hT).2 (by cases b <;> decide) (by decide) (by decide) (by decide)
theorem gm_pot {T x : Int} (h : 0 < T) (hT : T.natAbs < 2 ^ 3000) (b : Bool) : 0 ≤ x % T * (if b = true then 1 else 0) ∧ (x % T * (if b = true then 1 else 0)).natAbs < 2 ^ 3000 := by
  cases b
  · rw [if_neg (by decide), Int.mul_zero]
    exact ⟨Int.le_refl _, Nat.pow_pos (by decide)⟩
  · rw [if_pos rfl, Int.mul_one]
    exact gm_mod h hT
def ten300 : Int := (10 ^ (60 : Int).toNat) ^ (5 : Int).toNat
theorem ten300_pos : 0 < ten300 := by unfold ten300; decide +kernel
theorem ten300_lt : ten300.natAbs < 2 ^ 3000 := by unfold ten300; decide +kernel
theorem pow_ok60 : CPowW (10 ^ (60 : Int).toNat) 5 := ⟨by decide, by decide +kernel⟩
end Ph

namespace Ph
open PySem PySem.Spec PyProof.Rows L2
/-! ### sum(d.values()) -/
section
variable {X : Cx} {o : Expr} {p pos apos mpos : Pos} {td : TE}
/-- sum(o.values()), a dict with int values -/
def tSumVals (td : TE) : TE := fun σ H Q => td σ H fun x H1 => ∃ (a : Addr) (kvs : List (Key × V)) (is : List Int), x = V.ref a ∧ H1 a = some (.dK kvs) ∧ kvs.map (·.2) = is.map V.int ∧ Q (.int is.sum) H1
end
end Ph

/-! PhTT: several tables of code objects side by side (lambdas, nested defs): Tabs T, each table with one name. -/
namespace Ph
open PySem PySem.Spec PyProof.Rows L2
def nT (T : List (Addr × Str)) : List NdefX.NTab := T.map fun p => (p.1, fun _ _ => p.2)
theorem nT_iff {T : List (Addr × Str)} {H : Hp} : NdefX.TabsN (nT T) H ↔ LamX.Tabs T H := by
  constructor
  · intro h p hp
    exact NdefX.TabN.to (h (p.1, fun _ _ => p.2) (List.mem_map.mpr ⟨p, hp, rfl⟩))
  · intro h q hq
    obtain ⟨p, hp, rfl⟩ := List.mem_map.mp hq
    exact NdefX.TabN.of (h p hp)
/-- the table at P is tracked, under this one name -/
def InT (T : List (Addr × Str)) (P : Addr) (q : Str) : Prop := (P, q) ∈ T ∧ ∀ p ∈ T, p.1 = P → p.2 = q
theorem InT.n {T : List (Addr × Str)} {P : Addr} {q : Str} (h : InT T P q) : (P, fun _ _ => q) ∈ nT T ∧ ∀ p ∈ nT T, p.1 = P → p.2 = fun _ _ => q := by
  refine ⟨List.mem_map.mpr ⟨(P, q), h.1, rfl⟩, fun p hp e => ?_⟩
  obtain ⟨r, hr, rfl⟩ := List.mem_map.mp hp
  have := h.2 r hr e
  funext _ _
  exact this
section
variable {T : List (Addr × Str)} {H H' : Hp}
theorem tabsT_but {q : Addr} {xs : List V} (t : LamX.Tabs T H) (b : But q H H') (e : H q = some (.lst xs)) : LamX.Tabs T H' := fun p hp => by
  obtain ⟨ps, h1, h2, h3⟩ := t p hp
  refine ⟨ps, b _ _ (ne_of h1 e (by intro z; cases z)) h1, h2, fun pos cv hc => ?_⟩
  obtain ⟨c, e1, e2⟩ := h3 pos cv hc
  exact ⟨c, e1, b _ _ (ne_of e2 e (by intro z; unfold LamX.CodeO at z; cases z)) e2⟩
theorem tabsT_nil (h : ∀ p ∈ T, H p.1 = some (.tbl #[])) : LamX.Tabs T H := fun p hp => LamX.TabS.nil (h p hp)
end
end Ph

/-! PhUp: ascending chains of ints as lists; comprehensions that filter them. -/
namespace Ph
open PySem PySem.Spec PyProof.Rows L2
structure UpC (ns : List Int) (x : Int) : Prop where
  asc : ns.Pairwise (· < ·)
  pos : ∀ n ∈ ns, 1 ≤ n
  last : ∃ r, ns = r ++ [x]
end Ph

namespace Ph
open PySem PySem.Spec PyProof.Rows L2
/-! ### zip of three tuples or lists, in any mix (true: a tuple) -/
def ItzK3 (k1 k2 k3 : Bool) (K : PySem.W.Frag) (a b c : Addr) : It :=
  ⟨fun i H => ∃ (xs ys zs : List V) (x y z : V), SqK k1 K H a xs ∧ SqK k2 K H b ys ∧ SqK k3 K H c zs ∧ xs[i]? = some x ∧ ys[i]? = some y ∧ zs[i]? = some z,
    fun i H v H2 => ∃ T x y z, v = .ref T ∧ H T = none ∧ H2 = upd H T (.tup [x, y, z]) ∧ (∀ xs, SqK k1 K H a xs → xs[i]? = some x) ∧ (∀ ys, SqK k2 K H b ys → ys[i]? = some y) ∧ ∀ zs, SqK k3 K H c zs → zs[i]? = some z,
    fun i H => ∃ xs ys zs : List V, SqK k1 K H a xs ∧ SqK k2 K H b ys ∧ SqK k3 K H c zs ∧ i ≤ xs.length ∧ i ≤ ys.length ∧ i ≤ zs.length ∧ (i = xs.length ∨ i = ys.length ∨ i = zs.length)⟩
def iZip3 (k1 k2 k3 : Bool) (K : PySem.W.Frag) (ta : TA) : TI := fun σ H R => ta σ H fun us H1 => ∃ a b c xs ys zs, us = [.ref a, .ref b, .ref c] ∧ SqK k1 K H1 a xs ∧ SqK k2 K H1 b ys ∧ SqK k3 K H1 c zs ∧ R (ItzK3 k1 k2 k3 K a b c) H1
end Ph

set_option maxHeartbeats 8000000
namespace Ph
open PySem PySem.Spec PyProof.Rows L2
def topS (i : Nat) : Stmt := PySem.Challenge.pw_pinnedheap_k69_whole_games_and_growing_h.main.body.getD i (.Pass ⟨0, 0, 0, 0⟩)
structure Fns (K : PySem.W.Frag) (mg : Str → Option Value) where
  N : Nm6 K mg
  CHeap : Addr
  clHeap : Cls K CHeap
  gcHeap : mg "Heap" = some (.ref CHeap)
  naHeap_chain : NoAttr K CHeap "chain"
  naHeap_pages : NoAttr K CHeap "pages"
  naHeap_limit : NoAttr K CHeap "limit"
  naHeap_rule : NoAttr K CHeap "rule"
  naHeap_blocks : NoAttr K CHeap "blocks"
  naHeap_steps : NoAttr K CHeap "steps"
  nve : mg "ValueError" = none
  CHeapError : Addr
  gcHeapError : mg "HeapError" = some (.ref CHeapError)
  k_MOST_SIZES : ∃ t : Tok, mg "MOST_SIZES" = some (.int 12 t)
  k_LARGEST_SIZE : ∃ t : Tok, mg "LARGEST_SIZE" = some (.int 1000000000 t)
  k_MOST_STATES : ∃ t : Tok, mg "MOST_STATES" = some (.int 20000 t)
  k_MOST_WORDS : ∃ t : Tok, mg "MOST_WORDS" = some (.int 14 t)
  a_RULES : Addr
  k_RULES : mg "RULES" = some (.ref a_RULES)
  t_RULES : ∀ H : Hp, SqT K H a_RULES [V.str "lowest", V.str "highest", V.str "tight", V.str "loose"]
  fI : Addr
  fdI : FuncData
  FI : Fun K "is_integer" "is_integer" (topS 16) fI fdI
  bI : Binds K fdI ["value"] []
  gI : mg "is_integer" = some (.ref fI)
  fDu : Addr
  fdDu : FuncData
  FDu : Fun K "divided_up" "divided_up" (topS 17) fDu fdDu
  bDu : Binds K fdDu ["number", "divisor"] []
  gDu : mg "divided_up" = some (.ref fDu)
  fCi : Addr
  fdCi : FuncData
  FCi : Fun K "is_chain" "is_chain" (topS 21) fCi fdCi
  bCi : Binds K fdCi ["value"] []
  gCi : mg "is_chain" = some (.ref fCi)
  fMf : Addr
  fdMf : FuncData
  FMf : Fun K "may_follow" "may_follow" (topS 22) fMf fdMf
  bMf : Binds K fdMf ["larger", "size"] []
  gMf : mg "may_follow" = some (.ref fMf)
  fZ : Addr
  fdZ : FuncData
  FZ : Fun K "is_size" "is_size" (topS 23) fZ fdZ
  bZ : Binds K fdZ ["chain", "value"] []
  gZ : mg "is_size" = some (.ref fZ)
  fC : Addr
  fdC : FuncData
  FC : Fun K "class_of" "class_of" (topS 24) fC fdC
  bC : Binds K fdC ["chain", "size"] []
  gC : mg "class_of" = some (.ref fC)
  fS : Addr
  fdS : FuncData
  FS : Fun K "is_state" "is_state" (topS 28) fS fdS
  bS : Binds K fdS ["chain", "pages", "value"] []
  gS : mg "is_state" = some (.ref fS)
  fBl : Addr
  fdBl : FuncData
  FBl : Fun K "is_block" "is_block" (topS 29) fBl fdBl
  bBl : Binds K fdBl ["chain", "value"] []
  gBl : mg "is_block" = some (.ref fBl)
  fV : Addr
  fdV : FuncData
  FV : Fun K "live_words" "live_words" (topS 30) fV fdV
  bV : Binds K fdV ["state"] []
  gV : mg "live_words" = some (.ref fV)
  fPl : Addr
  fdPl : FuncData
  FPl : Fun K "places" "places" (topS 31) fPl fdPl
  bPl : Binds K fdPl ["chain", "pages", "state", "size"] []
  gPl : mg "places" = some (.ref fPl)
  fGp : Addr
  fdGp : FuncData
  FGp : Fun K "gaps" "gaps" (topS 32) fGp fdGp
  bGp : Binds K fdGp ["chain", "pages", "state", "size"] []
  gGp : mg "gaps" = some (.ref fGp)
  fIp : Addr
  fdIp : FuncData
  FIp : Fun K "is_place" "is_place" (topS 33) fIp fdIp
  bIp : Binds K fdIp ["chain", "pages", "state", "address", "size"] []
  gIp : mg "is_place" = some (.ref fIp)
  fMh : Addr
  fdMh : FuncData
  FMh : Fun K "may_hold" "may_hold" (topS 34) fMh fdMh
  bMh : Binds K fdMh ["state", "address", "size"] []
  gMh : mg "may_hold" = some (.ref fMh)
  fWb : Addr
  fdWb : FuncData
  FWb : Fun K "with_block" "with_block" (topS 35) fWb fdWb
  bWb : Binds K fdWb ["state", "address", "size"] []
  gWb : mg "with_block" = some (.ref fWb)
  fOb : Addr
  fdOb : FuncData
  FOb : Fun K "without_block" "without_block" (topS 36) fOb fdOb
  bOb : Binds K fdOb ["state", "address"] []
  gOb : mg "without_block" = some (.ref fOb)
  fHb : Addr
  fdHb : FuncData
  FHb : Fun K "has_block" "has_block" (topS 37) fHb fdHb
  bHb : Binds K fdHb ["state", "value"] []
  gHb : mg "has_block" = some (.ref fHb)
  fCs : Addr
  fdCs : FuncData
  FCs : Fun K "count_states" "count_states" (topS 38) fCs fdCs
  bCs : Binds K fdCs ["chain", "pages"] []
  gCs : mg "count_states" = some (.ref fCs)
  fPw : Addr
  fdPw : FuncData
  FPw : Fun K "power" "power" (topS 39) fPw fdPw
  bPw : Binds K fdPw ["base", "times"] []
  gPw : mg "power" = some (.ref fPw)
  fCm : Addr
  fdCm : FuncData
  FCm : Fun K "check_many" "check_many" (topS 40) fCm fdCm
  bCm : Binds K fdCm ["many"] []
  gCm : mg "check_many" = some (.ref fCm)
  fCh : Addr
  fdCh : FuncData
  FCh : Fun K "check_heap" "check_heap" (topS 41) fCh fdCh
  bCh : Binds K fdCh ["chain", "pages"] []
  gCh : mg "check_heap" = some (.ref fCh)
  fAs : Addr
  fdAs : FuncData
  FAs : Fun K "all_states" "all_states" (topS 42) fAs fdAs
  bAs : Binds K fdAs ["chain", "pages", "limit"] []
  gAs : mg "all_states" = some (.ref fAs)
  fSw : Addr
  fdSw : FuncData
  FSw : Fun K "states_of_words" "states_of_words" (topS 43) fSw fdSw
  bSw : Binds K fdSw ["chain", "words"] []
  gSw : mg "states_of_words" = some (.ref fSw)
  fIr : Addr
  fdIr : FuncData
  FIr : Fun K "is_rule" "is_rule" (topS 46) fIr fdIr
  bIr : Binds K fdIr ["value"] []
  gIr : mg "is_rule" = some (.ref fIr)
  fPc : Addr
  fdPc : FuncData
  FPc : Fun K "place" "place" (topS 47) fPc fdPc
  bPc : Binds K fdPc ["rule", "chain", "pages", "state", "size"] []
  gPc : mg "place" = some (.ref fPc)
  fPp : Addr
  fdPp : FuncData
  FPp : Fun K "place_by_page" "place_by_page" (topS 48) fPp fdPp
  bPp : Binds K fdPp ["rule", "chain", "state", "found"] []
  gPp : mg "place_by_page" = some (.ref fPp)
  fLb : Addr
  fdLb : FuncData
  FLb : Fun K "lowest_by_page" "lowest_by_page" (topS 49) fLb fdLb
  bLb : Binds K fdLb ["first", "last", "page"] []
  gLb : mg "lowest_by_page" = some (.ref fLb)
  fTw : Addr
  fdTw : FuncData
  FTw : Fun K "taken_words" "taken_words" (topS 50) fTw fdTw
  bTw : Binds K fdTw ["chain", "state"] []
  gTw : mg "taken_words" = some (.ref fTw)
  fHi : Addr
  fdHi : FuncData
  FHi : FunD K "__init__" "Heap.__init__" (defArgs (inClass (topS 52) 0)) (defBody (inClass (topS 52) 0)) (defScope (inClass (topS 52) 0)) [] [("rule", V.str "lowest")] fHi fdHi
  MHi : Mk K CHeap fHi
  bHi : ∃ ds, Vals [V.str "lowest"] ds ∧ Binds K fdHi ["self", "chain", "pages", "limit", "rule"] ds
  fPt : Addr
  fdPt : FuncData
  FPt : Fun K "put" "Heap.put" (inClass (topS 52) 2) fPt fdPt
  bPt : Binds K fdPt ["self", "address", "size"] []
  mPt : Meth K CHeap "put" fPt
  fHk : Addr
  fdHk : FuncData
  FHk : Fun K "check" "Heap.check" (inClass (topS 52) 3) fHk fdHk
  bHk : Binds K fdHk ["self", "size"] []
  mHk : Meth K CHeap "check" fHk
  fHe : Addr
  fdHe : FuncData
  FHe : Fun K "enter" "Heap.enter" (inClass (topS 52) 4) fHe fdHe
  bHe : Binds K fdHe ["self", "address", "size"] []
  mHe : Meth K CHeap "enter" fHe
  fHf : Addr
  fdHf : FuncData
  FHf : Fun K "free" "Heap.free" (inClass (topS 52) 5) fHf fdHf
  bHf : Binds K fdHf ["self", "address"] []
  mHf : Meth K CHeap "free" fHf
  fHs : Addr
  fdHs : FuncData
  FHs : Fun K "state" "Heap.state" (inClass (topS 52) 7) fHs fdHs
  bHs : Binds K fdHs ["self"] []
  mHs : Meth K CHeap "state" fHs
  fHl : Addr
  fdHl : FuncData
  FHl : Fun K "live" "Heap.live" (inClass (topS 52) 8) fHl fdHl
  bHl : Binds K fdHl ["self"] []
  mHl : Meth K CHeap "live" fHl
  fRy : Addr
  fdRy : FuncData
  FRy : Fun K "replay" "replay" (topS 54) fRy fdRy
  bRy : Binds K fdRy ["chain", "pages", "limit", "history"] []
  gRy : mg "replay" = some (.ref fRy)
  fFe : Addr
  fdFe : FuncData
  FFe : Fun K "has_form_of_event" "has_form_of_event" (topS 55) fFe fdFe
  bFe : Binds K fdFe ["value"] []
  gFe : mg "has_form_of_event" = some (.ref fFe)
  fRe : Addr
  fdRe : FuncData
  FRe : Fun K "repeat" "repeat" (topS 56) fRe fdRe
  bRe : Binds K fdRe ["heap", "event"] []
  gRe : mg "repeat" = some (.ref fRe)
  fHa : Addr
  fdHa : FuncData
  FHa : Fun K "heap_after" "heap_after" (topS 58) fHa fdHa
  bHa : Binds K fdHa ["chain", "heap", "event"] []
  gHa : mg "heap_after" = some (.ref fHa)
  fPo : Addr
  fdPo : FuncData
  FPo : Fun K "place_or_next" "place_or_next" (topS 59) fPo fdPo
  bPo : Binds K fdPo ["chain", "rule", "heap", "size"] []
  gPo : mg "place_or_next" = some (.ref fPo)
  fWp : Addr
  fdWp : FuncData
  FWp : Fun K "worst_pages" "worst_pages" (topS 60) fWp fdWp
  bWp : Binds K fdWp ["chain", "limit", "rule"] []
  gWp : mg "worst_pages" = some (.ref fWp)
  fWh : Addr
  fdWh : FuncData
  FWh : Fun K "worst_history" "worst_history" (topS 61) fWh fdWh
  bWh : Binds K fdWh ["chain", "limit", "rule"] []
  gWh : mg "worst_history" = some (.ref fWh)
  fCu : Addr
  fdCu : FuncData
  FCu : Fun K "check_rule" "check_rule" (topS 62) fCu fdCu
  bCu : Binds K fdCu ["rule"] []
  gCu : mg "check_rule" = some (.ref fCu)
  fRr : Addr
  fdRr : FuncData
  FRr : Fun K "reached_heaps" "reached_heaps" (topS 63) fRr fdRr
  bRr : Binds K fdRr ["chain", "limit", "rule"] []
  gRr : mg "reached_heaps" = some (.ref fRr)
  fNe : Addr
  fdNe : FuncData
  FNe : Fun K "next_events" "next_events" (topS 64) fNe fdNe
  bNe : Binds K fdNe ["chain", "limit", "rule", "heap"] []
  gNe : mg "next_events" = some (.ref fNe)
  fSf : Addr
  fdSf : FuncData
  FSf : Fun K "is_safe" "is_safe" (topS 66) fSf fdSf
  bSf : Binds K fdSf ["chain", "limit", "pages", "state"] []
  gSf : mg "is_safe" = some (.ref fSf)
  fMv : Addr
  fdMv : FuncData
  FMv : Fun K "moves_to_fail" "moves_to_fail" (topS 67) fMv fdMv
  bMv : Binds K fdMv ["chain", "limit", "pages", "state"] []
  gMv : mg "moves_to_fail" = some (.ref fMv)
  fCk : Addr
  fdCk : FuncData
  FCk : Fun K "check_state" "check_state" (topS 68) fCk fdCk
  bCk : Binds K fdCk ["chain", "limit", "pages", "state"] []
  gCk : mg "check_state" = some (.ref fCk)
  fAl : Addr
  fdAl : FuncData
  FAl : Fun K "allowed_sizes" "allowed_sizes" (topS 69) fAl fdAl
  bAl : Binds K fdAl ["chain", "limit", "state"] []
  gAl : mg "allowed_sizes" = some (.ref fAl)
  fUs : Addr
  fdUs : FuncData
  FUs : Fun K "unsafe_states" "unsafe_states" (topS 70) fUs fdUs
  bUs : Binds K fdUs ["chain", "limit", "pages"] []
  gUs : mg "unsafe_states" = some (.ref fUs)
  fSb : Addr
  fdSb : FuncData
  FSb : Fun K "states_before" "states_before" (topS 71) fSb fdSb
  bSb : Binds K fdSb ["chain", "limit", "pages", "newest", "moves", "unsafe", "escapes"] []
  gSb : mg "states_before" = some (.ref fSb)
  fRq : Addr
  fdRq : FuncData
  FRq : Fun K "requests_into" "requests_into" (topS 72) fRq fdRq
  bRq : Binds K fdRq ["chain", "limit", "pages", "state", "escapes"] []
  gRq : mg "requests_into" = some (.ref fRq)
  fSc : Addr
  fdSc : FuncData
  FSc : Fun K "_law_source" "_law_source" (topS 74) fSc fdSc
  bSc : Binds K fdSc ["_law_script", "_law_k"] []
  gSc : mg "_law_source" = some (.ref fSc)
  fNu : Addr
  fdNu : FuncData
  FNu : Fun K "_law_number" "_law_number" (topS 75) fNu fdNu
  bNu : Binds K fdNu ["_law_source_here", "_law_below"] []
  gNu : mg "_law_number" = some (.ref fNu)
  fCo : Addr
  fdCo : FuncData
  FCo : Fun K "_law_choice" "_law_choice" (topS 76) fCo fdCo
  bCo : Binds K fdCo ["_law_source_here", "_law_some"] []
  gCo : mg "_law_choice" = some (.ref fCo)
  fLaw : Addr
  fdLaw : FuncData
  FLaw : Fun K "law" "law" (topS 77) fLaw fdLaw
  bLaw : Binds K fdLaw ["_law_script"] []
  gLaw : mg "law" = some (.ref fLaw)
  cPp : Addr
  pPp : Addr
  ePp : fdPp.code = .ref cPp
abbrev sI : Stmt := (topS 16)
abbrev scIS : Stmt := sI
abbrev scIN : List Str := ["value"]
theorem scI : FnScope ["value"] ["value"] (defScope sI) := ⟨rfl, rfl, rfl, by decide +kernel, rfl, by decide +kernel, by decide +kernel⟩
abbrev sDu : Stmt := (topS 17)
abbrev scDuS : Stmt := sDu
abbrev scDuN : List Str := ["number", "divisor"]
theorem scDu : FnScope ["number", "divisor"] ["number", "divisor"] (defScope sDu) := ⟨rfl, rfl, rfl, by decide +kernel, rfl, by decide +kernel, by decide +kernel⟩
abbrev sCi : Stmt := (topS 21)
abbrev scCiS : Stmt := sCi
abbrev scCiN : List Str := ["value", "size", "larger"]
theorem scCi : FnScope ["value", "size", "larger"] ["value"] (defScope sCi) := ⟨rfl, rfl, rfl, by decide +kernel, rfl, by decide +kernel, by decide +kernel⟩
abbrev sMf : Stmt := (topS 22)
abbrev scMfS : Stmt := sMf
abbrev scMfN : List Str := ["larger", "size"]
theorem scMf : FnScope ["larger", "size"] ["larger", "size"] (defScope sMf) := ⟨rfl, rfl, rfl, by decide +kernel, rfl, by decide +kernel, by decide +kernel⟩
abbrev sZ : Stmt := (topS 23)
abbrev scZS : Stmt := sZ
abbrev scZN : List Str := ["chain", "value"]
theorem scZ : FnScope ["chain", "value"] ["chain", "value"] (defScope sZ) := ⟨rfl, rfl, rfl, by decide +kernel, rfl, by decide +kernel, by decide +kernel⟩
abbrev sC : Stmt := (topS 24)
abbrev scCS : Stmt := sC
abbrev scCN : List Str := ["chain", "size"]
theorem scC : FnScope ["chain", "size"] ["chain", "size"] (defScope sC) := ⟨rfl, rfl, rfl, by decide +kernel, rfl, by decide +kernel, by decide +kernel⟩
abbrev sS : Stmt := (topS 28)
abbrev scSS : Stmt := sS
abbrev scSN : List Str := ["chain", "pages", "value", "end", "address", "size", "item"]
theorem scS : FnScope ["chain", "pages", "value", "end", "address", "size", "item"] ["chain", "pages", "value"] (defScope sS) := ⟨rfl, rfl, rfl, by decide +kernel, rfl, by decide +kernel, by decide +kernel⟩
abbrev sBl : Stmt := (topS 29)
abbrev scBlS : Stmt := sBl
abbrev scBlN : List Str := ["chain", "value", "address", "size"]
theorem scBl : FnScope ["chain", "value", "address", "size"] ["chain", "value"] (defScope sBl) := ⟨rfl, rfl, rfl, by decide +kernel, rfl, by decide +kernel, by decide +kernel⟩
abbrev sV : Stmt := (topS 30)
abbrev scVS : Stmt := sV
abbrev scVN : List Str := ["state", "address", "size"]
theorem scV : FnScope ["state", "address", "size"] ["state"] (defScope sV) := ⟨rfl, rfl, rfl, by decide +kernel, rfl, by decide +kernel, by decide +kernel⟩
abbrev sPl : Stmt := (topS 31)
abbrev scPlS : Stmt := sPl
abbrev scPlN : List Str := ["chain", "pages", "state", "size", "found", "first", "last"]
theorem scPl : FnScope ["chain", "pages", "state", "size", "found", "first", "last"] ["chain", "pages", "state", "size"] (defScope sPl) := ⟨rfl, rfl, rfl, by decide +kernel, rfl, by decide +kernel, by decide +kernel⟩
abbrev sGp : Stmt := (topS 32)
abbrev scGpS : Stmt := sGp
abbrev scGpN : List Str := ["chain", "pages", "state", "size", "found", "free_from", "address", "taken", "first", "last"]
theorem scGp : FnScope ["chain", "pages", "state", "size", "found", "free_from", "address", "taken", "first", "last"] ["chain", "pages", "state", "size"] (defScope sGp) := ⟨rfl, rfl, rfl, by decide +kernel, rfl, by decide +kernel, by decide +kernel⟩
abbrev sIp : Stmt := (topS 33)
abbrev scIpS : Stmt := sIp
abbrev scIpN : List Str := ["chain", "pages", "state", "address", "size"]
theorem scIp : FnScope ["chain", "pages", "state", "address", "size"] ["chain", "pages", "state", "address", "size"] (defScope sIp) := ⟨rfl, rfl, rfl, by decide +kernel, rfl, by decide +kernel, by decide +kernel⟩
abbrev sMh : Stmt := (topS 34)
abbrev scMhS : Stmt := sMh
abbrev scMhN : List Str := ["state", "address", "size", "start", "taken"]
theorem scMh : FnScope ["state", "address", "size", "start", "taken"] ["state", "address", "size"] (defScope sMh) := ⟨rfl, rfl, rfl, by decide +kernel, rfl, by decide +kernel, by decide +kernel⟩
abbrev sWb : Stmt := (topS 35)
abbrev scWbS : Stmt := sWb
abbrev scWbN : List Str := ["state", "address", "size"]
theorem scWb : FnScope ["state", "address", "size"] ["state", "address", "size"] (defScope sWb) := ⟨rfl, rfl, rfl, by decide +kernel, rfl, by decide +kernel, by decide +kernel⟩
abbrev sOb : Stmt := (topS 36)
abbrev scObS : Stmt := sOb
abbrev scObN : List Str := ["state", "address", "block"]
theorem scOb : FnScope ["state", "address", "block"] ["state", "address"] (defScope sOb) := ⟨rfl, rfl, rfl, by decide +kernel, rfl, by decide +kernel, by decide +kernel⟩
abbrev sHb : Stmt := (topS 37)
abbrev scHbS : Stmt := sHb
abbrev scHbN : List Str := ["state", "value", "address", "size"]
theorem scHb : FnScope ["state", "value", "address", "size"] ["state", "value"] (defScope sHb) := ⟨rfl, rfl, rfl, by decide +kernel, rfl, by decide +kernel, by decide +kernel⟩
abbrev sCs : Stmt := (topS 38)
abbrev scCsS : Stmt := sCs
abbrev scCsN : List Str := ["chain", "pages", "counted", "size", "larger"]
theorem scCs : FnScope ["chain", "pages", "counted", "size", "larger"] ["chain", "pages"] (defScope sCs) := ⟨rfl, rfl, rfl, by decide +kernel, rfl, by decide +kernel, by decide +kernel⟩
abbrev sPw : Stmt := (topS 39)
abbrev scPwS : Stmt := sPw
abbrev scPwN : List Str := ["base", "times", "product", "turn"]
theorem scPw : FnScope ["base", "times", "product", "turn"] ["base", "times"] (defScope sPw) := ⟨rfl, rfl, rfl, by decide +kernel, rfl, by decide +kernel, by decide +kernel⟩
abbrev sCm : Stmt := (topS 40)
abbrev scCmS : Stmt := sCm
abbrev scCmN : List Str := ["many"]
theorem scCm : FnScope ["many"] ["many"] (defScope sCm) := ⟨rfl, rfl, rfl, by decide +kernel, rfl, by decide +kernel, by decide +kernel⟩
abbrev sCh : Stmt := (topS 41)
abbrev scChS : Stmt := sCh
abbrev scChN : List Str := ["chain", "pages"]
theorem scCh : FnScope ["chain", "pages"] ["chain", "pages"] (defScope sCh) := ⟨rfl, rfl, rfl, by decide +kernel, rfl, by decide +kernel, by decide +kernel⟩
abbrev sAs : Stmt := (topS 42)
abbrev scAsS : Stmt := sAs
abbrev scAsN : List Str := ["chain", "pages", "limit", "found", "state"]
theorem scAs : FnScope ["chain", "pages", "limit", "found", "state"] ["chain", "pages", "limit"] (defScope sAs) := ⟨rfl, rfl, rfl, by decide +kernel, rfl, by decide +kernel, by decide +kernel⟩
abbrev sSw : Stmt := (topS 43)
abbrev scSwS : Stmt := sSw
abbrev scSwN : List Str := ["chain", "words", "behind", "start", "found", "size", "rest"]
theorem scSw : FnScope ["chain", "words", "behind", "start", "found", "size", "rest"] ["chain", "words"] (defScope sSw) := ⟨rfl, rfl, rfl, by decide +kernel, rfl, by decide +kernel, by decide +kernel⟩
abbrev sIr : Stmt := (topS 46)
abbrev scIrS : Stmt := sIr
abbrev scIrN : List Str := ["value"]
theorem scIr : FnScope ["value"] ["value"] (defScope sIr) := ⟨rfl, rfl, rfl, by decide +kernel, rfl, by decide +kernel, by decide +kernel⟩
abbrev sPc : Stmt := (topS 47)
abbrev scPcS : Stmt := sPc
abbrev scPcN : List Str := ["rule", "chain", "pages", "state", "size", "found"]
theorem scPc : FnScope ["rule", "chain", "pages", "state", "size", "found"] ["rule", "chain", "pages", "state", "size"] (defScope sPc) := ⟨rfl, rfl, rfl, by decide +kernel, rfl, by decide +kernel, by decide +kernel⟩
abbrev sPp : Stmt := (topS 48)
abbrev scPpS : Stmt := sPp
abbrev scPpN : List Str := ["rule", "chain", "state", "found", "candidates", "first", "last", "taken_around", "page", "taken", "address"]
theorem scPp : FnScope ["rule", "chain", "state", "found", "candidates", "first", "last", "taken_around", "page", "taken", "address"] ["rule", "chain", "state", "found"] (defScope sPp) := ⟨rfl, rfl, rfl, by decide +kernel, rfl, by decide +kernel, by decide +kernel⟩
abbrev sLb : Stmt := (topS 49)
abbrev scLbS : Stmt := sLb
abbrev scLbN : List Str := ["first", "last", "page", "starts", "start"]
theorem scLb : FnScope ["first", "last", "page", "starts", "start"] ["first", "last", "page"] (defScope sLb) := ⟨rfl, rfl, rfl, by decide +kernel, rfl, by decide +kernel, by decide +kernel⟩
abbrev sTw : Stmt := (topS 50)
abbrev scTwS : Stmt := sTw
abbrev scTwN : List Str := ["chain", "state", "taken", "address", "size", "number"]
theorem scTw : FnScope ["chain", "state", "taken", "address", "size", "number"] ["chain", "state"] (defScope sTw) := ⟨rfl, rfl, rfl, by decide +kernel, rfl, by decide +kernel, by decide +kernel⟩
abbrev sHi : Stmt := (inClass (topS 52) 0)
abbrev scHiS : Stmt := sHi
abbrev scHiN : List Str := ["self", "chain", "pages", "limit", "rule"]
theorem scHi : FnScope ["self", "chain", "pages", "limit", "rule"] ["self", "chain", "pages", "limit", "rule"] (defScope sHi) := ⟨rfl, rfl, rfl, by decide +kernel, rfl, by decide +kernel, by decide +kernel⟩
abbrev sPt : Stmt := (inClass (topS 52) 2)
abbrev scPtS : Stmt := sPt
abbrev scPtN : List Str := ["self", "address", "size"]
theorem scPt : FnScope ["self", "address", "size"] ["self", "address", "size"] (defScope sPt) := ⟨rfl, rfl, rfl, by decide +kernel, rfl, by decide +kernel, by decide +kernel⟩
abbrev sHk : Stmt := (inClass (topS 52) 3)
abbrev scHkS : Stmt := sHk
abbrev scHkN : List Str := ["self", "size"]
theorem scHk : FnScope ["self", "size"] ["self", "size"] (defScope sHk) := ⟨rfl, rfl, rfl, by decide +kernel, rfl, by decide +kernel, by decide +kernel⟩
abbrev sHe : Stmt := (inClass (topS 52) 4)
abbrev scHeS : Stmt := sHe
abbrev scHeN : List Str := ["self", "address", "size"]
theorem scHe : FnScope ["self", "address", "size"] ["self", "address", "size"] (defScope sHe) := ⟨rfl, rfl, rfl, by decide +kernel, rfl, by decide +kernel, by decide +kernel⟩
abbrev sHf : Stmt := (inClass (topS 52) 5)
abbrev scHfS : Stmt := sHf
abbrev scHfN : List Str := ["self", "address", "kept"]
theorem scHf : FnScope ["self", "address", "kept"] ["self", "address"] (defScope sHf) := ⟨rfl, rfl, rfl, by decide +kernel, rfl, by decide +kernel, by decide +kernel⟩
abbrev sHs : Stmt := (inClass (topS 52) 7)
abbrev scHsS : Stmt := sHs
abbrev scHsN : List Str := ["self"]
theorem scHs : FnScope ["self"] ["self"] (defScope sHs) := ⟨rfl, rfl, rfl, by decide +kernel, rfl, by decide +kernel, by decide +kernel⟩
abbrev sHl : Stmt := (inClass (topS 52) 8)
abbrev scHlS : Stmt := sHl
abbrev scHlN : List Str := ["self"]
abbrev sRy : Stmt := (topS 54)
abbrev scRyS : Stmt := sRy
abbrev scRyN : List Str := ["chain", "pages", "limit", "history", "heap", "number", "item"]
theorem scRy : FnScope ["chain", "pages", "limit", "history", "heap", "number", "item"] ["chain", "pages", "limit", "history"] (defScope sRy) := ⟨rfl, rfl, rfl, by decide +kernel, rfl, by decide +kernel, by decide +kernel⟩
abbrev sFe : Stmt := (topS 55)
abbrev scFeS : Stmt := sFe
abbrev scFeN : List Str := ["value"]
theorem scFe : FnScope ["value"] ["value"] (defScope sFe) := ⟨rfl, rfl, rfl, by decide +kernel, rfl, by decide +kernel, by decide +kernel⟩
abbrev sRe : Stmt := (topS 56)
abbrev scReS : Stmt := sRe
abbrev scReN : List Str := ["heap", "event"]
theorem scRe : FnScope ["heap", "event"] ["heap", "event"] (defScope sRe) := ⟨rfl, rfl, rfl, by decide +kernel, rfl, by decide +kernel, by decide +kernel⟩
abbrev sHa : Stmt := (topS 58)
abbrev scHaS : Stmt := sHa
abbrev scHaN : List Str := ["chain", "heap", "event", "pages", "state", "word", "size", "address"]
theorem scHa : FnScope ["chain", "heap", "event", "pages", "state", "word", "size", "address"] ["chain", "heap", "event"] (defScope sHa) := ⟨rfl, rfl, rfl, by decide +kernel, rfl, by decide +kernel, by decide +kernel⟩
abbrev sPo : Stmt := (topS 59)
abbrev scPoS : Stmt := sPo
abbrev scPoN : List Str := ["chain", "rule", "heap", "size", "pages", "state", "address"]
theorem scPo : FnScope ["chain", "rule", "heap", "size", "pages", "state", "address"] ["chain", "rule", "heap", "size"] (defScope sPo) := ⟨rfl, rfl, rfl, by decide +kernel, rfl, by decide +kernel, by decide +kernel⟩
abbrev sWp : Stmt := (topS 60)
abbrev scWpS : Stmt := sWp
abbrev scWpN : List Str := ["chain", "limit", "rule", "pages", "state"]
theorem scWp : FnScope ["chain", "limit", "rule", "pages", "state"] ["chain", "limit", "rule"] (defScope sWp) := ⟨rfl, rfl, rfl, by decide +kernel, rfl, by decide +kernel, by decide +kernel⟩
abbrev sWh : Stmt := (topS 61)
abbrev scWhS : Stmt := sWh
abbrev scWhN : List Str := ["chain", "limit", "rule", "reached", "most", "heap", "events", "event", "pages", "state", "other"]
theorem scWh : FnScope ["chain", "limit", "rule", "reached", "most", "heap", "events", "event", "pages", "state", "other"] ["chain", "limit", "rule"] (defScope sWh) := ⟨rfl, rfl, rfl, by decide +kernel, rfl, by decide +kernel, by decide +kernel⟩
abbrev sCu : Stmt := (topS 62)
abbrev scCuS : Stmt := sCu
abbrev scCuN : List Str := ["rule"]
theorem scCu : FnScope ["rule"] ["rule"] (defScope sCu) := ⟨rfl, rfl, rfl, by decide +kernel, rfl, by decide +kernel, by decide +kernel⟩
abbrev sRr : Stmt := (topS 63)
abbrev scRrS : Stmt := sRr
abbrev scRrN : List Str := ["chain", "limit", "rule", "reached", "newest", "found", "heap", "event", "after"]
theorem scRr : FnScope ["chain", "limit", "rule", "reached", "newest", "found", "heap", "event", "after"] ["chain", "limit", "rule"] (defScope sRr) := ⟨rfl, rfl, rfl, by decide +kernel, rfl, by decide +kernel, by decide +kernel⟩
abbrev sNe : Stmt := (topS 64)
abbrev scNeS : Stmt := sNe
abbrev scNeN : List Str := ["chain", "limit", "rule", "heap", "left", "frees", "address", "size"]
theorem scNe : FnScope ["chain", "limit", "rule", "heap", "left", "frees", "address", "size"] ["chain", "limit", "rule", "heap"] (defScope sNe) := ⟨rfl, rfl, rfl, by decide +kernel, rfl, by decide +kernel, by decide +kernel⟩
abbrev sSf : Stmt := (topS 66)
abbrev scSfS : Stmt := sSf
abbrev scSfN : List Str := ["chain", "limit", "pages", "state"]
theorem scSf : FnScope ["chain", "limit", "pages", "state"] ["chain", "limit", "pages", "state"] (defScope sSf) := ⟨rfl, rfl, rfl, by decide +kernel, rfl, by decide +kernel, by decide +kernel⟩
abbrev sMv : Stmt := (topS 67)
abbrev scMvS : Stmt := sMv
abbrev scMvN : List Str := ["chain", "limit", "pages", "state", "unsafe"]
theorem scMv : FnScope ["chain", "limit", "pages", "state", "unsafe"] ["chain", "limit", "pages", "state"] (defScope sMv) := ⟨rfl, rfl, rfl, by decide +kernel, rfl, by decide +kernel, by decide +kernel⟩
abbrev sCk : Stmt := (topS 68)
abbrev scCkS : Stmt := sCk
abbrev scCkN : List Str := ["chain", "limit", "pages", "state"]
theorem scCk : FnScope ["chain", "limit", "pages", "state"] ["chain", "limit", "pages", "state"] (defScope sCk) := ⟨rfl, rfl, rfl, by decide +kernel, rfl, by decide +kernel, by decide +kernel⟩
abbrev sAl : Stmt := (topS 69)
abbrev scAlS : Stmt := sAl
abbrev scAlN : List Str := ["chain", "limit", "state", "left", "size"]
theorem scAl : FnScope ["chain", "limit", "state", "left", "size"] ["chain", "limit", "state"] (defScope sAl) := ⟨rfl, rfl, rfl, by decide +kernel, rfl, by decide +kernel, by decide +kernel⟩
abbrev sUs : Stmt := (topS 70)
abbrev scUsS : Stmt := sUs
abbrev scUsN : List Str := ["chain", "limit", "pages", "unsafe", "escapes", "state", "size", "moves", "newest"]
theorem scUs : FnScope ["chain", "limit", "pages", "unsafe", "escapes", "state", "size", "moves", "newest"] ["chain", "limit", "pages"] (defScope sUs) := ⟨rfl, rfl, rfl, by decide +kernel, rfl, by decide +kernel, by decide +kernel⟩
abbrev sSb : Stmt := (topS 71)
abbrev scSbS : Stmt := sSb
abbrev scSbN : List Str := ["chain", "limit", "pages", "newest", "moves", "unsafe", "escapes", "found", "state", "before", "request"]
theorem scSb : FnScope ["chain", "limit", "pages", "newest", "moves", "unsafe", "escapes", "found", "state", "before", "request"] ["chain", "limit", "pages", "newest", "moves", "unsafe", "escapes"] (defScope sSb) := ⟨rfl, rfl, rfl, by decide +kernel, rfl, by decide +kernel, by decide +kernel⟩
abbrev sRq : Stmt := (topS 72)
abbrev scRqS : Stmt := sRq
abbrev scRqN : List Str := ["chain", "limit", "pages", "state", "escapes", "found", "size", "place", "address", "before"]
theorem scRq : FnScope ["chain", "limit", "pages", "state", "escapes", "found", "size", "place", "address", "before"] ["chain", "limit", "pages", "state", "escapes"] (defScope sRq) := ⟨rfl, rfl, rfl, by decide +kernel, rfl, by decide +kernel, by decide +kernel⟩
abbrev sSc : Stmt := (topS 74)
abbrev scScS : Stmt := sSc
abbrev scScN : List Str := ["_law_script", "_law_k", "_law_cell", "_law_own"]
theorem scSc : FnScope ["_law_script", "_law_k", "_law_cell", "_law_own"] ["_law_script", "_law_k"] (defScope sSc) := ⟨rfl, rfl, rfl, by decide +kernel, rfl, by decide +kernel, by decide +kernel⟩
abbrev sNu : Stmt := (topS 75)
abbrev scNuS : Stmt := sNu
abbrev scNuN : List Str := ["_law_source_here", "_law_below", "_law_digit", "_law_turn", "_law_mixed"]
theorem scNu : FnScope ["_law_source_here", "_law_below", "_law_digit", "_law_turn", "_law_mixed"] ["_law_source_here", "_law_below"] (defScope sNu) := ⟨rfl, rfl, rfl, by decide +kernel, rfl, by decide +kernel, by decide +kernel⟩
abbrev sCo : Stmt := (topS 76)
abbrev scCoS : Stmt := sCo
abbrev scCoN : List Str := ["_law_source_here", "_law_some"]
theorem scCo : FnScope ["_law_source_here", "_law_some"] ["_law_source_here", "_law_some"] (defScope sCo) := ⟨rfl, rfl, rfl, by decide +kernel, rfl, by decide +kernel, by decide +kernel⟩
abbrev sLaw : Stmt := (topS 77)
abbrev scLawS : Stmt := sLaw
abbrev scLawN : List Str := ["_law_script", "_law_k", "_law_source_here", "_law_some", "_law_sizes", "_law_most", "_law_rule_here", "_law_least", "_law_its", "_law_pages_here", "_law_events", "_law_last"]
theorem scLaw : FnScope ["_law_script", "_law_k", "_law_source_here", "_law_some", "_law_sizes", "_law_most", "_law_rule_here", "_law_least", "_law_its", "_law_pages_here", "_law_events", "_law_last"] ["_law_script"] (defScope sLaw) := ⟨rfl, rfl, rfl, by decide +kernel, rfl, by decide +kernel, by decide +kernel⟩
end Ph

set_option maxHeartbeats 8000000
namespace Ph
open PySem PySem.Spec PyProof.Rows L2
/-! ### the program's bounds -/
theorem tl_atL {s : Nat → Nat} {m : Nat} : atI ((tl s (m + 1)).map V.int) (-1) = some (.int (s m)) := by
  rw [tl_succ, List.map_append]
  exact atI_last _ _
section
variable {P : Program} {w : World} {K : PySem.W.Frag} {mg : Str → Option Value} {base : Heap}
def spDu : Sp := fun vs H Q _ => ∃ n d : Int, vs = [.int n, .int d] ∧ 0 < d ∧ d < 1073741824 ∧ Q (.int (-(-n / d))) H
theorem ok_Du {k : Nat} (Z : Fns K mg) : FnOk P w K mg base CX0 (k + 1) Z.fDu Z.fdDu ["number", "divisor"] spDu := by
  refine Z.FDu.ok scDu (fun vs H Q E h => ?_) (fun cdv A outer s H vs Q E hr h => ?_)
  · obtain ⟨n, d, rfl, _⟩ := h
    rfl
  · obtain ⟨n, d, rfl, d0, d1, q⟩ := h
    refine ⟨_, (pss_one (ps_ret (pe_un un_neg (pe_op op_fdiv (pe_un un_neg (pv 0)) (pv 1))))), ?_⟩
    exact ⟨.int n, rfl, n, rfl, .int d, rfl, -n, d, rfl, rfl, ⟨d0, d1⟩, _, rfl, q⟩
abbrev bb (s : Nat → Nat) (M : Nat) : Nat → Nat := bfn s (fun _ => 0) M
def Szs (s : Nat → Nat) (m : Nat) : Prop := 1 ≤ m ∧ m ≤ 1000 ∧ ∀ j, j < m → 0 < s j ∧ s j < 1073741824
def cpl (s : Nat → Nat) (p M : Nat) : List Int := ((tl s (p + 1)).filter fun x => decide (x ≤ (M : Int))).map fun x => 1 + ((M : Int) - x) / ((s p : Int) / x)
end
section
variable {P : Program} {w : World} {K : PySem.W.Frag} {mg : Str → Option Value} {base : Heap}
end
end Ph

set_option maxHeartbeats 8000000
namespace Ph
open PySem PySem.Spec PyProof.Rows L2
/-! ### the program: sizes, gaps, the lowest place, states with and without a block -/
theorem in_intsL (x : Int) : ∀ C : List Int, inV (.int x) (C.map V.int) = decide (x ∈ C)
  | [] => by simp [inV]
  | c :: r => by
    have ih := in_intsL x r
    unfold inV at *
    rw [List.map_cons, List.any_cons, ih]
    have e : eqV (.int c) (.int x) = decide (c = x) := rfl
    rw [e]
    by_cases h : c = x
    · subst h; simp
    · have h2 : ¬ x = c := fun z => h z.symm
      simp [h, h2]
theorem first_atL {x : Int} : ∀ {C : List Int}, x ∈ C → ∃ j : Nat, C[j]? = some x ∧ ∀ m, m < j → C[m]? ≠ some x
  | c :: r, h => by
    by_cases e : c = x
    · subst e
      exact ⟨0, rfl, fun m hm => absurd hm (by omega)⟩
    · rcases List.mem_cons.mp h with z | z
      · exact absurd z.symm e
      · obtain ⟨j, h1, h2⟩ := first_atL z
        refine ⟨j + 1, by simpa using h1, fun m hm => ?_⟩
        cases m with
        | zero => simp [e]
        | succ m => simpa using h2 m (by omega)
section
variable {P : Program} {w : World} {K : PySem.W.Frag} {mg : Str → Option Value} {base : Heap}
def spI : Sp := fun vs H Q _ => ∃ i : Int, vs = [.int i] ∧ Q (.bl true) H
theorem ok_I {k : Nat} (Z : Fns K mg) : FnOk P w K mg base CX0 (k + 1) Z.fI Z.fdI ["value"] spI := by
  refine Z.FI.ok scI (fun vs H Q E h => ?_) (fun cdv A outer s H vs Q E hr h => ?_)
  · obtain ⟨m, rfl, _⟩ := h
    rfl
  · obtain ⟨m, rfl, q⟩ := h
    refine ⟨_, (pss_one (ps_ret (pe_and (pe_callB call_isi (by rfl) Z.N.isinstance (by decide +kernel) (pa_cons (pv 0) (pa_cons (pe_bltn (v := .ty "int") (by rfl) Z.N.int (by decide +kernel) rfl) pa_nil))) (pe_one (pe_not (pe_callB call_isi (by rfl) Z.N.isinstance (by decide +kernel) (pa_cons (pv 0) (pa_cons (pe_bltn (v := .ty "bool") (by rfl) Z.N.bool (by decide +kernel) rfl) pa_nil)))))))), ?_⟩
    refine ⟨.int m, rfl, .int m, .ty "int", .type "int", .type "int", true, rfl, .ty _, .base (.int _), kit_ty (by decide +kernel), _, rfl, ite2 (fun _ => ?_) (fun c => absurd rfl c)⟩
    exact ⟨.int m, rfl, .int m, .ty "bool", .type "int", .type "bool", false, rfl, .ty _, .base (.int _), kit_ty (by decide +kernel), _, rfl, q⟩
def spZ (K : PySem.W.Frag) : Sp := fun vs H Q _ => ∃ (c : Addr) (C : List Int) (s : Int), vs = [.ref c, .int s] ∧ SqT K H c (C.map V.int) ∧ s ∈ C ∧ Q (.bl true) H
theorem ok_Z {k : Nat} (Z : Fns K mg) : FnOk P w K mg base CX0 (k + 1 + 1) Z.fZ Z.fdZ ["chain", "value"] (spZ K) := by
  have GI : FnOk P w K mg base CX0 (k + 1) Z.fI Z.fdI ["value"] spI := ok_I Z
  refine Z.FZ.ok scZ (fun vs H Q E h => ?_) (fun cdv A outer s H vs Q E hr h => ?_)
  · obtain ⟨c, C, s, rfl, _⟩ := h
    rfl
  · obtain ⟨c, C, z, rfl, hc, hs, q⟩ := h
    refine ⟨_, (pss_one (ps_ret (pe_and (pe_call GI (hr.mono (by omega)) (by rfl) Z.gI Z.FI.kp Z.bI .nil pass0 (pa_cons (pv 1) pa_nil)) (pe_one (pe_cmpR op_in_seq (pv 1) (pv 0) (by rfl)))))), ?_⟩
    refine ⟨.int z, rfl, z, rfl, _, rfl, ite2 (fun _ => ?_) (fun c => absurd rfl c)⟩
    refine ⟨.int z, rfl, .ref c, rfl, c, _, rfl, .inr hc, rfl, flat_ints C, ?_⟩
    have e : (if false = true then !inV (.int z) (C.map V.int) else inV (.int z) (C.map V.int)) = true := by
      rw [if_neg Bool.false_ne_true, in_intsL]
      exact decide_eq_true hs
    rw [e]
    exact q
def spC : Sp := fun vs H Q _ => ∃ (c : Addr) (C : List Int) (s : Int), vs = [.ref c, .int s] ∧ ChAt H c C ∧ s ∈ C ∧ ∀ v, Q v H
theorem ok_C {k : Nat} (Z : Fns K mg) : FnOk P w K mg base CX0 (k + 1 + 1 + 1) Z.fC Z.fdC ["chain", "size"] spC := by
  have GZ : FnOk P w K mg base CX0 (k + 1 + 1) Z.fZ Z.fdZ ["chain", "value"] (spZ K) := ok_Z Z
  refine Z.FC.ok scC (fun vs H Q E h => ?_) (fun cdv A outer s H vs Q E hr h => ?_)
  · obtain ⟨c, C, s, rfl, _⟩ := h
    rfl
  · obtain ⟨c, C, sz, rfl, hc, hs, q⟩ := h
    refine ⟨_, (pss_cons (ps_if (pt_not (pt_val (pe_call GZ (hr.mono (by omega)) (by rfl) Z.gZ Z.FZ.kp Z.bZ .nil pass0 (pa_cons (pv 0) (pa_cons (pv 1) pa_nil)))))
 (pss_one ps_never) pss_nil)
 (pss_one (ps_ret (pe_bmT PySem.F.slot_tuple_index PySem.F.type_tuple_index mt_tindexI (pv 0) (pa_cons (pv 1) pa_nil))))), ?_⟩
    refine ⟨.ref c, rfl, .int sz, rfl, c, C, sz, rfl, hc.sq, hs, _, rfl, ite2 (fun c => absurd c (by decide)) (fun _ => ?_)⟩
    obtain ⟨j, h1, h2⟩ := first_atL hs
    exact ⟨.ref c, rfl, ⟨c, C, rfl, hc⟩, .int sz, rfl, c, C, sz, j, rfl, rfl, hc.sq, h1, h2, q _⟩
def tot (bs : List Bk) : Int := (bs.map fun b => b.2).sum
def spV : Sp := fun vs H Q _ => ∃ (t : Addr) (bs : List Bk), vs = [.ref t] ∧ StAt H t bs ∧ bs.length ≤ 5000 ∧ ∀ H', Same H H' → Q (.int (tot bs)) H'
theorem ok_V {k : Nat} (Z : Fns K mg) : FnOk P w K mg base CX0 (k + 1) Z.fV Z.fdV ["state"] spV := by
  refine Z.FV.ok scV (fun vs H Q E h => ?_) (fun cdv A outer s H vs Q E hr h => ?_)
  · obtain ⟨t, bs, rfl, _⟩ := h
    rfl
  · obtain ⟨t, bs, rfl, ⟨xs, ht, bl⟩, hl, q⟩ := h
    refine ⟨_, (pss_one (ps_ret (pe_callB (cr_sum rfl) (by rfl) Z.N.sum (by decide +kernel) (pa_cons (pe_lc (own := [("address", 1), ("size", 2)]) (g := (gTup K 2 (gCons (gName 1) (gCons (gName 2) gNil)))) (tt := tYes) (by rfl) scV.nd (pi_tup (pv 0)) (blkOk_by (N := scVN) (sc := defScope scVS) (by decide +kernel)) (fun _ _ _ _ _ => (pg_tup (by rfl) (pgs_cons (pg_name (i := 1) scV.nd rfl (.inl rfl)) (pgs_cons (pg_name (i := 2) scV.nd rfl (.inl rfl)) pgs_nil)))) (fun _ _ _ _ _ => pts_nil) (fun _ _ _ _ _ => (pv 2))) pa_nil)))), ?_⟩
    refine ⟨.ref t, rfl, t, rfl, ⟨_, .inl (.inl ht)⟩, fun D nD => ?_⟩
    refine lc_tpF (K := K) (fun x => V.int (kH H x).2) (.inl (.inl ht)) nD (by rw [bl.len]; exact Nat.lt_of_le_of_lt hl (by decide)) (fun x hx H2 sm Y hY => ?_) (fun H2 sm hD => ?_)
    · obtain ⟨b, hb⟩ := bl.all x hx
      have e := hb.k
      obtain ⟨u, rfl, hu⟩ := hb
      rw [e] at hY
      exact ⟨u, _, rfl, .inl (.inl (sm _ _ hu)), rfl, _, _, rfl, _, _, rfl, rfl, rfl, .int b.2, rfl, hY _ (Same.refl _)⟩
    · refine ⟨D, bs.map fun (b : Bk) => b.2, rfl, .inl (.inl ?_), q _ sm⟩
      rw [hD, ← bl.map, List.map_map, List.map_map]
      rfl
def spGp : Sp := fun vs H Q _ => ∃ (c t : Addr) (C : List Int) (L m s : Int) (bs : List Bk), vs = [.ref c, .int m, .ref t, .int s] ∧ ChAt H c (C ++ [L]) ∧ s ∈ C ++ [L] ∧ 0 < s ∧ s ≤ 2000 ∧ 0 ≤ L ∧ L ≤ 2000 ∧ 0 ≤ m ∧ m ≤ 2000 ∧ StAt H t bs ∧ St (C ++ [L]) (m * L) bs ∧ bs.length ≤ 5000 ∧
  ∀ H' D ys, Same H H' → H D = none → H' D = some (.lst ys) → BL H' ys (gpf s 0 (bs ++ [(m * L, 0)])) → Q (.ref D) H'
theorem ok_Gp {k : Nat} (Z : Fns K mg) : FnOk P w K mg base CX0 (k + 1 + 1 + 1 + 1) Z.fGp Z.fdGp ["chain", "pages", "state", "size"] spGp := by
  have GC : FnOk P w K mg base CX0 (k + 1 + 1 + 1) Z.fC Z.fdC ["chain", "size"] spC := ok_C Z
  have GDu : FnOk P w K mg base CX0 (k + 1) Z.fDu Z.fdDu ["number", "divisor"] spDu := ok_Du Z
  refine Z.FGp.ok scGp (fun vs H Q E h => ?_) (fun cdv A outer s H vs Q E hr h => ?_)
  · obtain ⟨c, t, C, L, m, s, bs, rfl, _⟩ := h
    rfl
  · obtain ⟨c, t, C, L, m, sz, bs, rfl, hc, hs, s0, s1, L0, L1, m0, m1, ⟨xs, ht, bl⟩, st, hl, q⟩ := h
    refine ⟨_, (pss_cons (ps_expr (pe_call GC (hr.mono (by omega)) (by rfl) Z.gC Z.FC.kp Z.bC .nil pass0 (pa_cons (pv 0) (pa_cons (pv 3) pa_nil))))
 (pss_cons (ps_set (i := 4) scGp.nd rfl (.inl rfl) (pe_lst pa_nil))
 (pss_cons (ps_set (i := 5) scGp.nd rfl (.inl rfl) pe_int)
 (pss_cons (ps_for PassesOwn.never rfl (pi_tup (pe_tup (StX.pa_star (pv 2) (pa_cons (pe_tup (pa_cons (pe_op op_mul (pv 1) (pe_ix ix_tup (pv 0) (pe_un un_neg pe_int) (fun _ _ => rfl))) (pa_cons pe_int pa_nil))) pa_nil)))) (pg_tup (by rfl) (pgs_cons (pg_name (i := 6) scGp.nd rfl (.inl rfl)) (pgs_cons (pg_name (i := 7) scGp.nd rfl (.inl rfl)) pgs_nil)))
 (pss_cons (ps_set (i := 8) scGp.nd rfl (.inl rfl) (pe_op op_mul (pe_call GDu (hr.mono (by omega)) (by rfl) Z.gDu Z.FDu.kp Z.bDu .nil pass0 (pa_cons (pv 5) (pa_cons (pv 3) pa_nil))) (pv 3)))
 (pss_cons (ps_set (i := 9) scGp.nd rfl (.inl rfl) (pe_op op_mul (pe_op op_fdiv (pe_op op_sub (pv 6) (pv 3)) (pv 3)) (pv 3)))
 (pss_cons (ps_if (pt_cmpR op_le (pv 8) (pv 9) (nomark _))
 (pss_one (ps_expr (pe_bm PySem.F.plainAttrs_list PySem.F.slot_list_append PySem.F.type_list_append mt_append (pv 4) (pa_cons (pe_tup (pa_cons (pv 8) (pa_cons (pv 9) pa_nil))) pa_nil)))) pss_nil)
 (pss_one (ps_set (i := 5) scGp.nd rfl (.inl rfl) (pe_op op_add (pv 6) (pv 7))))))))
 (pss_one (ps_ret (pv 4))))))), ?_⟩
    have mL0 : 0 ≤ m * L := Int.mul_nonneg m0 L0
    have mL1 : m * L ≤ 4000000 := Int.le_trans (Int.mul_le_mul m1 L1 L0 (by omega)) (by decide)
    have gl : atI ((C ++ [L]).map V.int) (-1) = some (.int L) := by
      rw [List.map_append]
      exact atI_last _ _
    refine ⟨.ref c, rfl, .int sz, rfl, c, C ++ [L], sz, rfl, hc, hs, fun _ => ?_⟩
    refine ⟨by decide, fun d nd => ?_⟩
    have sd := same_upd (o := .lst []) nd
    have hc1 := hc.keep sd
    refine ⟨.ref t, rfl, t, xs, rfl, .inl (.inl (.inl (sd _ _ ht))), .int m, rfl, .ref c, rfl, _, rfl, c, _, -1, _, rfl, rfl, hc1.sq, gl, m, L, rfl, rfl, .inl ⟨by omega, by omega⟩, ?_⟩
    refine ⟨(by show 2 ≤ sizeLine; decide), fun T nT => ?_⟩
    have sT := same_upd (o := .tup [.int (m * L), .int 0]) nT
    refine ⟨?_, fun T2 nT2 => ?_⟩
    · show (xs ++ [V.ref T]).length ≤ sizeLine
      rw [List.length_append, bl.len]
      exact Nat.le_trans (Nat.add_le_add_right hl 1) (by decide)
    have sT2 := same_upd (o := .tup (xs ++ [V.ref T])) nT2
    have hd2 := sT2 _ _ (sT _ _ (upd_same (H := H) (a := d) (o := .lst [])))
    have bl2 : BL (upd (upd (upd H d (.lst [])) T (.tup [.int (m * L), .int 0])) T2 (.tup (xs ++ [V.ref T]))) (xs ++ [V.ref T]) (bs ++ [(m * L, 0)]) := by
      refine Paired.snoc (bl.mono fun v zs e => sT2 _ _ (sT _ _ (sd _ _ e))) ⟨T, rfl, sT2 _ _ upd_same⟩
    obtain ⟨asc1, asc2⟩ := st.asc0 mL0
    have eC : ∀ i, ∀ b ∈ (bs ++ [(m * L, 0)]).take i, 0 ≤ b.1 ∧ 0 ≤ b.2 ∧ b.1 + b.2 ≤ m * L := fun i b hb => asc1 b (List.mem_of_mem_take hb)
    have eP : ∀ i, ((bs ++ [(m * L, 0)]).take i).Pairwise (fun b c : Bk => b.1 + b.2 ≤ c.1) := fun i => asc2.sublist (List.take_sublist ..)
    have s02 : Same H (upd (upd (upd H d (.lst [])) T (.tup [.int (m * L), .int 0])) T2 (.tup (xs ++ [V.ref T]))) := (sd.trans sT).trans sT2
    have hT2 : upd (upd (upd H d (.lst [])) T (.tup [.int (m * L), .int 0])) T2 (.tup (xs ++ [V.ref T])) T2 = some (.tup (xs ++ [V.ref T])) := upd_same
    generalize upd (upd (upd H d (.lst [])) T (.tup [.int (m * L), .int 0])) T2 (.tup (xs ++ [V.ref T])) = H0 at hd2 bl2 s02 hT2 ⊢
    refine ⟨T2, rfl, ⟨_, .inl (.inl hT2)⟩, ?_⟩
    generalize el : bs ++ [(m * L, 0)] = l at bl2 asc1 asc2 eC eP q
    have nT2d : T2 ≠ d := ne_of hT2 hd2 (by intro z; cases z)
    refine for_tup (K := K) (a := T2) (xs := xs ++ [V.ref T]) (fun i σ H2 => ∃ y6 y7 y8 y9 ys, σ = [some (.ref c), some (.int m), some (.ref t), some (.int sz), some (.ref d), some (.int (fin 0 (l.take i))), y6, y7, y8, y9] ∧ But d H0 H2 ∧ H2 d = some (.lst ys) ∧ BL H2 ys (gpf sz 0 (l.take i)))
      ⟨none, none, none, none, [], rfl, But.refl _ _, hd2, .nil⟩ (fun i σ H2 _ p => ?_) ?_ ?_
    · obtain ⟨_, _, _, _, _, _, bt, _⟩ := p
      exact .inl (.inl (bt _ _ nT2d hT2))
    · rintro i x σ H2 hx ⟨y6, y7, y8, y9, ys, rfl, bt, hd3, bl3⟩
      obtain ⟨b, hb, ⟨u, rfl, hu⟩⟩ := bl2.get hx
      have hu2 := bt _ _ (ne_of hu hd2 (by intro z; cases z)) hu
      have etk : l.take (i + 1) = l.take i ++ [b] := by rw [List.take_add_one, hb]; rfl
      obtain ⟨fb1, fb2⟩ := fin_bnd (l.take i) 0 (m * L) (eC i) mL0 (eP i)
      obtain ⟨b1, b2, b3⟩ := asc1 b (List.mem_of_getElem? hb)
      have u1 := upS_ge (x := fin 0 (l.take i)) s0
      have u2 := upS_lt (x := fin 0 (l.take i)) s0
      have d1 := Int.ediv_mul_le (b.1 - sz) (b := sz) (by omega)
      have d2 := Int.lt_ediv_add_one_mul_self (b.1 - sz) s0
      refine ⟨u, _, rfl, .inl (.inl hu2), rfl, _, _, rfl, _, _, rfl, rfl, ?_⟩
      refine ⟨.int (fin 0 (l.take i)), rfl, .int sz, rfl, _, sz, rfl, s0, by omega, .int sz, rfl, _, sz, rfl, rfl, .inr ⟨by omega, by omega⟩, ?_⟩
      refine ⟨.int b.1, rfl, .int sz, rfl, _, _, rfl, rfl, .int sz, rfl, _, _, rfl, rfl, ⟨s0, by omega⟩, .int sz, rfl, _, _, rfl, rfl, .inr ⟨by omega, by omega⟩, ?_⟩
      have lenb : ys.length < sizeLine := by
        have h1 := bl3.len
        have h2 := gpf_len sz (l.take i) 0
        have h3 : (l.take i).length ≤ l.length := by rw [List.length_take]; exact Nat.min_le_right _ _
        have h4 : l.length = bs.length + 1 := by rw [← el, List.length_append]; rfl
        exact Nat.lt_of_le_of_lt (show ys.length ≤ 5001 by omega) (by decide)
      refine ⟨.int (upS (fin 0 (l.take i)) sz), rfl, .int ((b.1 - sz) / sz * sz), rfl, _, _, rfl, rfl, _, rfl, ite2 (fun c0 => ?_) (fun c0 => ?_)⟩
      · have c1 : upS (fin 0 (l.take i)) sz ≤ (b.1 - sz) / sz * sz := of_decide_eq_true c0
        refine ⟨.ref d, rfl, .inl ⟨rfl, _, .inl (.inl hd3)⟩, .int _, rfl, .int _, rfl, (by show 2 ≤ sizeLine; decide), fun p np => ?_⟩
        have sp := same_upd (o := .tup [.int (upS (fin 0 (l.take i)) sz), .int ((b.1 - sz) / sz * sz)]) np
        have hd4 := sp _ _ hd3
        refine ⟨d, _, _, rfl, rfl, hd4, lenb, ?_⟩
        refine ⟨.int b.1, rfl, .int b.2, rfl, _, _, rfl, rfl, some (.int b.1), some (.int b.2), some (.int (upS (fin 0 (l.take i)) sz)), some (.int ((b.1 - sz) / sz * sz)), ys ++ [.ref p], ?_, fun v o nv hv => ?_, upd_same, ?_⟩
        · rw [etk, fin_snoc]
          rfl
        · rw [upd_ne nv]
          exact sp _ _ (bt _ _ nv hv)
        · rw [etk, gpf_snoc]
          have kp : ∀ v us, upd H2 p (.tup [.int (upS (fin 0 (l.take i)) sz), .int ((b.1 - sz) / sz * sz)]) v = some (.tup us) → upd (upd H2 p (.tup [.int (upS (fin 0 (l.take i)) sz), .int ((b.1 - sz) / sz * sz)])) d (.lst (ys ++ [.ref p])) v = some (.tup us) := fun v us e => by
            rw [upd_ne (ne_of e hd4 (by intro z; cases z))]
            exact e
          have e1 : gp1 sz (fin 0 (l.take i)) b = [(upS (fin 0 (l.take i)) sz, (b.1 - sz) / sz * sz)] := if_pos c1
          rw [e1]
          exact Paired.snoc (bl3.mono fun v us e => kp v us (sp _ _ e)) ⟨p, rfl, kp _ _ upd_same⟩
      · have c1 : ¬ upS (fin 0 (l.take i)) sz ≤ (b.1 - sz) / sz * sz := of_decide_eq_false (by simpa using c0)
        refine ⟨.int b.1, rfl, .int b.2, rfl, _, _, rfl, rfl, some (.int b.1), some (.int b.2), some (.int (upS (fin 0 (l.take i)) sz)), some (.int ((b.1 - sz) / sz * sz)), ys, ?_, bt, hd3, ?_⟩
        · rw [etk, fin_snoc]
          rfl
        · rw [etk, gpf_snoc]
          have e1 : gp1 sz (fin 0 (l.take i)) b = [] := if_neg c1
          rw [e1, List.append_nil]
          exact bl3
    · rintro σ H2 ⟨y6, y7, y8, y9, ys, rfl, bt, hd3, bl3⟩
      have e : l.take (xs ++ [V.ref T]).length = l := List.take_of_length_le (by rw [bl2.len]; exact Nat.le_refl _)
      rw [e] at bl3
      exact ⟨.ref d, rfl, q _ d ys (fun a o ha => bt _ _ (ne_of_none ha nd) (s02 _ _ ha)) nd hd3 bl3⟩
def spWb : Sp := fun vs H Q _ => ∃ (t : Addr) (bs : List Bk) (a z : Int), vs = [.ref t, .int a, .int z] ∧ StAt H t bs ∧ bs.length ≤ 5000 ∧ ∀ H' u cs, Same H H' → StAt H' u cs → cs.Perm (bs ++ [(a, z)]) → (cs.Pairwise fun x y => SrtO.lexB y x = false) → Q (.ref u) H'
theorem ok_Wb {k : Nat} (Z : Fns K mg) : FnOk P w K mg base CX0 (k + 1) Z.fWb Z.fdWb ["state", "address", "size"] spWb := by
  refine Z.FWb.ok scWb (fun vs H Q E h => ?_) (fun cdv A outer s H vs Q E hr h => ?_)
  · obtain ⟨t, bs, a, z, rfl, _⟩ := h
    rfl
  · obtain ⟨t, bs, a, z, rfl, ⟨xs, ht, bl⟩, hl, q⟩ := h
    refine ⟨_, (pss_one (ps_ret (pe_callTy call_tuple_of (by rfl) Z.N.tuple (by decide +kernel) (pa_cons (pe_callB cr_sortedPO (by rfl) Z.N.sorted (by decide +kernel) (pa_cons (pe_lst (StX.pa_star (pv 0) (pa_cons (pe_tup (pa_cons (pv 1) (pa_cons (pv 2) pa_nil))) pa_nil))) pa_nil)) pa_nil)))), ?_⟩
    refine ⟨.ref t, rfl, t, xs, rfl, .inl (.inl (.inl ht)), .int a, rfl, .int z, rfl, (by show 2 ≤ sizeLine; decide), fun T nT => ?_⟩
    have sT := same_upd (o := .tup [.int a, .int z]) nT
    have hT : upd H T (.tup [.int a, .int z]) T = some (.tup [.int a, .int z]) := upd_same
    have bl1 := BL.kp bl fun v us e => sT _ _ e
    generalize upd H T (.tup [.int a, .int z]) = H1 at *
    refine ⟨?_, fun D nD => ?_⟩
    · simp [bl.len]
      exact Nat.le_trans (show bs.length + 1 ≤ 5001 by omega) (by decide)
    have sD := same_upd (o := .lst (xs ++ [V.ref T])) nD
    have hD : upd H1 D (.lst (xs ++ [V.ref T])) D = some (.lst (xs ++ [V.ref T])) := upd_same
    have bl2 : BL (upd H1 D (.lst (xs ++ [V.ref T]))) (xs ++ [V.ref T]) (bs ++ [(a, z)]) := BL.app (BL.kp bl1 fun v us e => sD _ _ e) (.cons ⟨T, rfl, sD _ _ hT⟩ .nil)
    generalize upd H1 D (.lst (xs ++ [V.ref T])) = H2 at *
    refine ⟨D, xs ++ [V.ref T], kH H2, rfl, .inl (.inl hD), fun x hx => ?_, fun zs p srt stb np => ?_⟩
    · obtain ⟨b, hb⟩ := bl2.all x hx
      rw [hb.k]
      exact hb
    · have pm : zs.Perm (xs ++ [V.ref T]) := stb.perm
      have ally : ∀ x ∈ zs, ∃ b, BkAt H2 x b := fun x hx => bl2.all x (pm.mem_iff.mp hx)
      have blz := BL.of ally
      have sp := same_upd (o := .lst zs) np
      refine ⟨p, zs, rfl, .inl ⟨.inl (.inl upd_same), fun u nu => ?_⟩⟩
      have su := same_upd (o := .tup zs) nu
      refine q _ u (zs.map (kH H2)) (sT.trans (sD.trans (sp.trans su))) ⟨zs, upd_same, BL.kp blz fun v us e => su _ _ (sp _ _ e)⟩ ?_ (List.pairwise_map.mpr srt)
      rw [← bl2.map]
      exact pm.map _
def spHb (K : PySem.W.Frag) : Sp := fun vs H Q _ => ∃ (t : Addr) (bs : List Bk) (a : Int), vs = [.ref t, .int a] ∧ StAt H t bs ∧ bs.length ≤ 5000 ∧ (∃ b ∈ bs, b.1 = a) ∧ ∀ H', Same H H' → Q (.bl true) H'
theorem ok_Hb {k : Nat} (Z : Fns K mg) : FnOk P w K mg base CX0 (k + 1 + 1) Z.fHb Z.fdHb ["state", "value"] (spHb K) := by
  have GI : FnOk P w K mg base CX0 (k + 1) Z.fI Z.fdI ["value"] spI := ok_I Z
  refine Z.FHb.ok scHb (fun vs H Q E h => ?_) (fun cdv A outer s H vs Q E hr h => ?_)
  · obtain ⟨t, bs, a, rfl, _⟩ := h
    rfl
  · obtain ⟨t, bs, a, rfl, ⟨xs, ht, bl⟩, hl, ⟨b, hb, eb⟩, q⟩ := h
    refine ⟨_, (pss_one (ps_ret (pe_and (pe_call GI (hr.mono (by omega)) (by rfl) Z.gI Z.FI.kp Z.bI .nil pass0 (pa_cons (pv 1) pa_nil)) (pe_one (pe_cmpR op_in_seq (pv 1) (pe_lc (own := [("address", 2), ("size", 3)]) (g := (gTup K 2 (gCons (gName 2) (gCons (gName 3) gNil)))) (tt := tYes) (by rfl) scHb.nd (pi_tup (pv 0)) (blkOk_by (N := scHbN) (sc := defScope scHbS) (by decide +kernel)) (fun _ _ _ _ _ => (pg_tup (by rfl) (pgs_cons (pg_name (i := 2) scHb.nd rfl (.inl rfl)) (pgs_cons (pg_name (i := 3) scHb.nd rfl (.inl rfl)) pgs_nil)))) (fun _ _ _ _ _ => pts_nil) (fun _ _ _ _ _ => (pv 2))) (by rfl)))))), ?_⟩
    refine ⟨.int a, rfl, a, rfl, _, rfl, ite2 (fun _ => ?_) (fun c => absurd rfl c)⟩
    refine ⟨.int a, rfl, .ref t, rfl, t, rfl, ⟨_, .inl (.inl ht)⟩, fun D nD => ?_⟩
    refine lc_tpF (K := K) (fun x => V.int (kH H x).1) (.inl (.inl ht)) nD (by rw [bl.len]; exact Nat.lt_of_le_of_lt hl (by decide)) (fun x hx H2 sm Y hY => ?_) (fun H2 sm hD => ?_)
    · obtain ⟨b, hb⟩ := bl.all x hx
      have e := hb.k
      obtain ⟨u, rfl, hu⟩ := hb
      rw [e] at hY
      exact ⟨u, _, rfl, .inl (.inl (sm _ _ hu)), rfl, _, _, rfl, _, _, rfl, rfl, rfl, .int b.1, rfl, hY _ (Same.refl _)⟩
    · have e1 : xs.map (fun x => V.int (kH H x).1) = (bs.map fun b => b.1).map V.int := by
        rw [← bl.map, List.map_map, List.map_map]
        rfl
      rw [e1] at hD
      refine ⟨D, _, rfl, .inl (.inl (.inl hD)), rfl, flat_ints _, ?_⟩
      have e : (if false = true then !inV (.int a) ((bs.map fun b => b.1).map V.int) else inV (.int a) ((bs.map fun b => b.1).map V.int)) = true := by
        rw [if_neg Bool.false_ne_true, in_intsL]
        exact decide_eq_true (List.mem_map.mpr ⟨b, hb, eb⟩)
      rw [e]
      exact q _ sm
def spOb (K : PySem.W.Frag) : Sp := fun vs H Q _ => ∃ (t : Addr) (bs : List Bk) (a : Int), vs = [.ref t, .int a] ∧ StAt H t bs ∧ bs.length ≤ 5000 ∧ (∃ b ∈ bs, b.1 = a) ∧ ∀ H' u, Same H H' → StAt H' u (bs.filter fun b => decide (b.1 ≠ a)) → Q (.ref u) H'
theorem ok_Ob {k : Nat} (Z : Fns K mg) : FnOk P w K mg base CX0 (k + 1 + 1 + 1) Z.fOb Z.fdOb ["state", "address"] (spOb K) := by
  have GHb : FnOk P w K mg base CX0 (k + 1 + 1) Z.fHb Z.fdHb ["state", "value"] (spHb K) := ok_Hb Z
  refine Z.FOb.ok scOb (fun vs H Q E h => ?_) (fun cdv A outer s H vs Q E hr h => ?_)
  · obtain ⟨t, bs, a, rfl, _⟩ := h
    rfl
  · obtain ⟨t, bs, a, rfl, st, hl, ex, q⟩ := h
    refine ⟨_, (pss_cons (ps_if (pt_not (pt_val (pe_call GHb (hr.mono (by omega)) (by rfl) Z.gHb Z.FHb.kp Z.bHb .nil pass0 (pa_cons (pv 0) (pa_cons (pv 1) pa_nil)))))
 (pss_one ps_never) pss_nil)
 (pss_one (ps_ret (pe_callTy call_tuple_of (by rfl) Z.N.tuple (by decide +kernel) (pa_cons (pe_lc (own := [("block", 2)]) (g := (gName 2)) (by rfl) scOb.nd (pi_tup (pv 0)) (blkOk_by (N := scObN) (sc := defScope scObS) (by decide +kernel)) (fun _ _ _ _ _ => (pg_name (i := 2) scOb.nd rfl (.inl rfl))) (fun _ _ _ _ _ => (pts_one (pt_cmpR op_ne (pe_ix (r := rIxT K) ix_tup (pv 2) pe_int (fun _ _ => rfl)) (pv 1) (nomark _)))) (fun _ _ _ _ _ => (pv 2))) pa_nil))))), ?_⟩
    refine ⟨.ref t, rfl, .int a, rfl, t, bs, a, rfl, st, hl, ex, fun H1 s1 => ⟨_, rfl, ite2 (fun c => absurd c (by decide)) (fun _ => ?_)⟩⟩
    obtain ⟨xs, ht, bl⟩ := st.same s1
    refine ⟨.ref t, rfl, t, rfl, ⟨_, .inl (.inl ht)⟩, fun D nD => ?_⟩
    refine lc_tupF (xs := xs) (fun x => if decide ((kH H1 x).1 ≠ a) = true then some x else none) (.inl (.inl ht)) nD (by rw [bl.len]; exact Nat.lt_of_le_of_lt hl (by decide)) (fun x hx H2 sm Y N hY hN => ?_) (fun H2 sm hD => ?_)
    · obtain ⟨b, hb⟩ := bl.all x hx
      have e := hb.k
      obtain ⟨u, rfl, hu⟩ := hb
      have hY' : ∀ y, (if decide (b.1 ≠ a) = true then some (V.ref u) else none) = some y → Y y H2 := fun y h => hY y (by show (if decide ((kH H1 (V.ref u)).1 ≠ a) = true then _ else _) = _; rw [e]; exact h)
      have hN' : (if decide (b.1 ≠ a) = true then some (V.ref u) else none) = none → N H2 := fun h => hN (by show (if decide ((kH H1 (V.ref u)).1 ≠ a) = true then _ else _) = _; rw [e]; exact h)
      refine ⟨rfl, .ref u, rfl, u, _, 0, _, rfl, rfl, .inl (.inl (sm _ _ hu)), atI_nat (j := 0) rfl, .int a, rfl, rfl, _, rfl, ite2 (fun c0 => ?_) (fun c0 => ?_)⟩
      · have c1 : b.1 ≠ a := fun z => by rw [z] at c0; simp at c0
        exact ⟨.ref u, rfl, hY' _ (if_pos (decide_eq_true c1))⟩
      · have c1 : ¬ b.1 ≠ a := fun z => c0 (by simp [z])
        exact hN' (if_neg (by simpa using c1))
    · have e1 : BL H2 (xs.filterMap fun x => if decide ((kH H1 x).1 ≠ a) = true then some x else none) (bs.filter fun b => decide (b.1 ≠ a)) := by
        have gen : ∀ {ys : List V} {cs : List Bk}, BL H1 ys cs → BL H2 (ys.filterMap fun x => if decide ((kH H1 x).1 ≠ a) = true then some x else none) (cs.filter fun b => decide (b.1 ≠ a)) := by
          intro ys cs h
          induction h with
          | nil => exact .nil
          | @cons x b ys cs hb r ih =>
            have e := BkAt.k hb
            by_cases c : decide (b.1 ≠ a) = true
            · rw [List.filter_cons_of_pos (p := fun b : Bk => decide (b.1 ≠ a)) c, List.filterMap_cons_some (b := x) (by show (if decide ((kH H1 x).1 ≠ a) = true then some x else none) = some x; rw [e]; exact if_pos c)]
              obtain ⟨t2, e1, e2⟩ := hb
              exact .cons ⟨t2, e1, sm _ _ e2⟩ ih
            · rw [List.filter_cons_of_neg (p := fun b : Bk => decide (b.1 ≠ a)) c, List.filterMap_cons_none (by show (if decide ((kH H1 x).1 ≠ a) = true then some x else none) = none; rw [e]; exact if_neg c)]
              exact ih
        exact gen bl
      refine ⟨D, _, rfl, .inl ⟨.inl (.inl hD), fun u nu => ?_⟩⟩
      have su := same_upd (o := .tup (xs.filterMap fun x => if decide ((kH H1 x).1 ≠ a) = true then some x else none)) nu
      exact q _ u (s1.trans (Same.trans sm su)) ⟨_, upd_same, BL.kp e1 fun v us e => su _ _ e⟩
end
theorem ascI : ∀ (bs : List Bk), bs.Pairwise (fun b c : Bk => b.1 + b.2 ≤ c.1) → ∀ i b, bs[i]? = some b → (∀ c ∈ bs, 0 ≤ c.1) → fin 0 (bs.take i) ≤ b.1 := by
  intro bs pw i b hb h0
  cases i with
  | zero => exact h0 b (List.mem_of_getElem? hb)
  | succ i =>
    obtain ⟨c, hc⟩ : ∃ c, bs[i]? = some c := by
      have : i + 1 < bs.length := (List.getElem?_eq_some_iff.mp hb).1
      exact ⟨bs[i]'(by omega), List.getElem?_eq_getElem _⟩
    have e : bs.take (i + 1) = bs.take i ++ [c] := by rw [List.take_add_one, hc]; rfl
    rw [e, fin_snoc]
    obtain ⟨h1, e1⟩ := List.getElem?_eq_some_iff.mp hb
    obtain ⟨h2, e2⟩ := List.getElem?_eq_some_iff.mp hc
    have := List.pairwise_iff_getElem.mp pw i (i + 1) h2 h1 (by omega)
    rw [e1, e2] at this
    exact this

section
variable {P : Program} {w : World} {K : PySem.W.Frag} {mg : Str → Option Value} {base : Heap}
def spBl : Sp := fun vs H Q _ => ∃ (c u : Addr) (C : List Int) (b : Bk), vs = [.ref c, .ref u] ∧ ChAt H c C ∧ BkAt H (.ref u) b ∧ b.2 ∈ C ∧ 0 < b.2 ∧ b.2 ≤ 2000 ∧ b.1 % b.2 = 0 ∧ Q (.bl true) H
theorem ok_Bl {k : Nat} (Z : Fns K mg) : FnOk P w K mg base CX0 (k + 1 + 1 + 1) Z.fBl Z.fdBl ["chain", "value"] spBl := by
  have GI : FnOk P w K mg base CX0 (k + 1) Z.fI Z.fdI ["value"] spI := ok_I Z
  have GZ : FnOk P w K mg base CX0 (k + 1 + 1) Z.fZ Z.fdZ ["chain", "value"] (spZ K) := ok_Z Z
  refine Z.FBl.ok scBl (fun vs H Q E h => ?_) (fun cdv A outer s H vs Q E hr h => ?_)
  · obtain ⟨c, u, C, b, rfl, _⟩ := h
    rfl
  · obtain ⟨c, u, C, b, rfl, hc, ⟨u', e, hu⟩, hz, z0, z1, hm, q⟩ := h
    cases e
    refine ⟨_, (pss_cons (ps_if (PW.pt (pw_or (pt_not (pt_val (pe_callB call_isi (by rfl) Z.N.isinstance (by decide +kernel) (pa_cons (pv 1) (pa_cons (pe_bltn (v := .ty "tuple") (by rfl) Z.N.tuple (by decide +kernel) rfl) pa_nil))))) (pw_or1 (pt_cmpR op_ne (pe_callB call_len_seq (by rfl) Z.N.len (by decide +kernel) (pa_cons (pv 1) pa_nil)) pe_int (nomark _)))))
 (pss_one (ps_ret pe_bl)) pss_nil)
 (pss_cons (ps_asg (pv 1) (pg_tup (by rfl) (pgs_cons (pg_name (i := 2) scBl.nd rfl (.inl rfl)) (pgs_cons (pg_name (i := 3) scBl.nd rfl (.inl rfl)) pgs_nil))))
 (pss_one (ps_ret (pe_and (pe_call GI (hr.mono (by omega)) (by rfl) Z.gI Z.FI.kp Z.bI .nil pass0 (pa_cons (pv 2) pa_nil)) (pe_and (pe_call GZ (hr.mono (by omega)) (by rfl) Z.gZ Z.FZ.kp Z.bZ .nil pass0 (pa_cons (pv 0) (pa_cons (pv 3) pa_nil))) (pe_one (pe_cmpR op_eq (pe_op op_mod (pv 2) (pv 3)) pe_int (nomark _))))))))), ?_⟩
    refine ⟨.ref u, rfl, .ref u, .ty "tuple", .type "tuple", .type "tuple", true, rfl, .ty _, .base (.tup hu), kit_ty (by decide +kernel), _, rfl, ite2 (fun c => absurd c (by decide)) (fun _ => ?_)⟩
    refine ⟨.ref u, rfl, u, _, rfl, .inr (.inl (.inl hu)), rfl, _, rfl, ite2 (fun c => absurd c (by simp)) (fun _ => ?_)⟩
    refine ⟨.ref u, rfl, u, _, rfl, .inl (.inl hu), rfl, _, _, rfl, _, _, rfl, rfl, ?_⟩
    refine ⟨.int b.1, rfl, b.1, rfl, _, rfl, ite2 (fun _ => ?_) (fun c => absurd rfl c)⟩
    refine ⟨.ref c, rfl, .int b.2, rfl, c, C, b.2, rfl, hc.sq, hz, _, rfl, ite2 (fun _ => ?_) (fun c => absurd rfl c)⟩
    refine ⟨.int b.1, rfl, .int b.2, rfl, _, _, rfl, rfl, z0, rfl, ?_⟩
    show Q (V.bl (decide (V.int (b.1 % b.2) = V.int 0))) H
    rw [hm]
    exact q
def spS : Sp := fun vs H Q _ => ∃ (c t : Addr) (C : List Int) (L m : Int) (bs : List Bk), vs = [.ref c, .int m, .ref t] ∧ ChAt H c (C ++ [L]) ∧ (∀ z ∈ C ++ [L], 1 ≤ z ∧ z ≤ 2000) ∧ 0 ≤ m ∧ m ≤ 2000 ∧ StAt H t bs ∧ St (C ++ [L]) (m * L) bs ∧ bs.length ≤ 5000 ∧ ∀ H', Same H H' → Q (.bl true) H'
theorem ok_S {k : Nat} (Z : Fns K mg) : FnOk P w K mg base CX0 (k + 1 + 1 + 1 + 1) Z.fS Z.fdS ["chain", "pages", "value"] spS := by
  have GBl : FnOk P w K mg base CX0 (k + 1 + 1 + 1) Z.fBl Z.fdBl ["chain", "value"] spBl := ok_Bl Z
  refine Z.FS.ok scS (fun vs H Q E h => ?_) (fun cdv A outer s H vs Q E hr h => ?_)
  · obtain ⟨c, t, C, L, m, bs, rfl, _⟩ := h
    rfl
  · obtain ⟨c, t, C, L, m, bs, rfl, hc, hz, m0, m1, ⟨xs, ht, bl⟩, st, hl, q⟩ := h
    refine ⟨_, (pss_cons (ps_if (PW.pt (pw_or (pt_not (pt_val (pe_callB call_isi (by rfl) Z.N.isinstance (by decide +kernel) (pa_cons (pv 2) (pa_cons (pe_bltn (v := .ty "tuple") (by rfl) Z.N.tuple (by decide +kernel) rfl) pa_nil))))) (pw_or1 (pt_not (pt_val (pe_callB (cr_all rfl) (by rfl) Z.N.all (by decide +kernel) (pa_cons (pe_lc (own := [("item", 6)]) (g := (gName 6)) (tt := tYes) (by rfl) scS.nd (pi_tup (pv 2)) (blkOk_by (N := scSN) (sc := defScope scSS) (by decide +kernel)) (fun _ _ _ _ _ => (pg_name (i := 6) scS.nd rfl (.inl rfl))) (fun _ _ _ _ _ => pts_nil) (fun _ _ _ _ _ => (pe_call GBl (hr.mono (by omega)) (by rfl) Z.gBl Z.FBl.kp Z.bBl .nil pass0 (pa_cons (pv 0) (pa_cons (pv 6) pa_nil))))) pa_nil)))))))
 (pss_one (ps_ret pe_bl)) pss_nil)
 (pss_cons (ps_set (i := 3) scS.nd rfl (.inl rfl) pe_int)
 (pss_cons (ps_for PassesOwn.never rfl (pi_tup (pv 2)) (pg_tup (by rfl) (pgs_cons (pg_name (i := 4) scS.nd rfl (.inl rfl)) (pgs_cons (pg_name (i := 5) scS.nd rfl (.inl rfl)) pgs_nil)))
 (pss_cons (ps_if (pt_cmpR op_lt (pv 4) (pv 3) (nomark _))
 (pss_one (ps_ret pe_bl)) pss_nil)
 (pss_one (ps_set (i := 3) scS.nd rfl (.inl rfl) (pe_op op_add (pv 4) (pv 5))))))
 (pss_one (ps_ret (pe_cmpR op_le (pv 3) (pe_op op_mul (pv 1) (pe_ix ix_tup (pv 0) (pe_un un_neg pe_int) (fun _ _ => rfl))) (nomark _))))))), ?_⟩
    have mL0 : 0 ≤ m * L := Int.mul_nonneg m0 (by have := (hz L (by simp)).1; omega)
    have mL1 : m * L ≤ 4000000 := Int.le_trans (Int.mul_le_mul m1 (hz L (by simp)).2 (by have := (hz L (by simp)).1; omega) (by omega)) (by decide)
    have gl : atI ((C ++ [L]).map V.int) (-1) = some (.int L) := by
      rw [List.map_append]
      exact atI_last _ _
    refine ⟨.ref t, rfl, .ref t, .ty "tuple", .type "tuple", .type "tuple", true, rfl, .ty _, .base (.tup ht), kit_ty (by decide +kernel), _, rfl, ite2 (fun c => absurd c (by decide)) (fun _ => ?_)⟩
    refine ⟨.ref t, rfl, t, rfl, ⟨_, .inl (.inl ht)⟩, fun D nD => ?_⟩
    refine lc_tpF (K := K) (fun _ => V.bl true) (.inl (.inl ht)) nD (by rw [bl.len]; exact Nat.lt_of_le_of_lt hl (by decide)) (fun x hx H2 sm Y hY => ?_) (fun H2 sm hD => ?_)
    · obtain ⟨b, hb⟩ := bl.all x hx
      have hb2 := hb.k ▸ hb
      have mem : b ∈ bs := by
        rw [← bl.map, ← hb.k]
        exact List.mem_map.mpr ⟨x, hx, rfl⟩
      obtain ⟨k1, k2, k3, k4, k5⟩ := st.ok b mem
      obtain ⟨u, rfl, hu⟩ := hb
      exact ⟨rfl, .ref c, rfl, .ref u, rfl, c, u, _, b, rfl, hc.keep sm, ⟨u, rfl, sm _ _ hu⟩, k1, by omega, (hz _ k1).2, k4, hY _ (Same.refl _)⟩
    · have e1 : xs.map (fun _ => V.bl true) = (xs.map fun _ => true).map V.bl := by
        rw [List.map_map]
        rfl
      rw [e1] at hD
      have allT : (xs.map fun _ => true).all id = true := by
        rw [List.all_map]
        exact List.all_eq_true.mpr fun _ _ => rfl
      refine ⟨D, xs.map fun _ => true, rfl, .inl (.inl hD), ?_⟩
      rw [allT]
      refine ⟨_, rfl, ite2 (fun c => absurd c (by decide)) (fun _ => ?_)⟩
      have ht2 := sm _ _ ht
      have bl2 := BL.kp bl fun v us e => sm _ _ e
      refine ⟨.ref t, rfl, t, rfl, ⟨_, .inl (.inl ht2)⟩, ?_⟩
      refine for_tup (K := K) (a := t) (xs := xs) (fun i σ H3 => ∃ y4 y5 y6, σ = [some (.ref c), some (.int m), some (.ref t), some (.int (fin 0 (bs.take i))), y4, y5, y6] ∧ Same H2 H3)
        ⟨_, _, _, rfl, .refl _⟩ (fun i σ H3 _ p => ?_) ?_ ?_
      · obtain ⟨_, _, _, _, s3⟩ := p
        exact .inl (.inl (s3 _ _ ht2))
      · rintro i x σ H3 hx ⟨y4, y5, y6, rfl, s3⟩
        obtain ⟨b, hb, ⟨u, rfl, hu⟩⟩ := (BL.kp bl2 fun v us e => s3 _ _ e).get hx
        have lo := ascI bs st.asc i b hb fun c hc => (st.ok c hc).2.2.1
        have etk : bs.take (i + 1) = bs.take i ++ [b] := by rw [List.take_add_one, hb]; rfl
        refine ⟨u, _, rfl, .inl (.inl hu), rfl, _, _, rfl, _, _, rfl, rfl, ?_⟩
        refine ⟨.int b.1, rfl, .int _, rfl, _, _, rfl, rfl, _, rfl, ite2 (fun c => absurd (of_decide_eq_true c) (by omega)) (fun _ => ?_)⟩
        refine ⟨.int b.1, rfl, .int b.2, rfl, _, _, rfl, rfl, some (.int b.1), some (.int b.2), y6, ?_, s3⟩
        rw [etk, fin_snoc]
        rfl
      · rintro σ H3 ⟨y4, y5, y6, rfl, s3⟩
        have e : bs.take xs.length = bs := List.take_of_length_le (by rw [bl.len]; exact Nat.le_refl _)
        obtain ⟨_, f2⟩ := fin_bnd bs 0 (m * L) (fun b hb => by obtain ⟨_, k2, k3, _, k5⟩ := st.ok b hb; exact ⟨k3, by omega, k5⟩) mL0 st.asc
        refine ⟨.int _, rfl, .int m, rfl, .ref c, rfl, _, rfl, c, _, -1, _, rfl, rfl, ((hc.keep sm).keep s3).sq, gl, m, L, rfl, rfl, .inl ⟨by omega, by omega⟩, _, _, rfl, rfl, ?_⟩
        rw [e]
        show Q (V.bl (decide (fin 0 bs ≤ m * L))) H3
        rw [decide_eq_true f2]
        exact q _ (Same.trans sm s3)

end
section
variable {P : Program} {w : World} {K : PySem.W.Frag} {mg : Str → Option Value} {base : Heap}
def spPl : Sp := fun vs H Q _ => ∃ (c t : Addr) (C : List Int) (L m s : Int) (bs : List Bk), vs = [.ref c, .int m, .ref t, .int s] ∧ ChAt H c (C ++ [L]) ∧ s ∈ C ++ [L] ∧ 0 < s ∧ s ≤ 2000 ∧ 0 ≤ L ∧ L ≤ 2000 ∧ 0 ≤ m ∧ m ≤ 2000 ∧ StAt H t bs ∧ St (C ++ [L]) (m * L) bs ∧ bs.length ≤ 5000 ∧
  ∀ H' u, Same H H' → H' u = some (.tup ((plf s 0 (bs ++ [(m * L, 0)])).map V.int)) → Q (.ref u) H'
theorem ok_Pl {k : Nat} (Z : Fns K mg) : FnOk P w K mg base CX0 (k + 1 + 1 + 1 + 1 + 1) Z.fPl Z.fdPl ["chain", "pages", "state", "size"] spPl := by
  have GGp : FnOk P w K mg base CX0 (k + 1 + 1 + 1 + 1) Z.fGp Z.fdGp ["chain", "pages", "state", "size"] spGp := ok_Gp Z
  refine Z.FPl.ok scPl (fun vs H Q E h => ?_) (fun cdv A outer s H vs Q E hr h => ?_)
  · obtain ⟨c, t, C, L, m, s, bs, rfl, _⟩ := h
    rfl
  · obtain ⟨c, t, C, L, m, sz, bs, rfl, hc, hs, s0, s1, L0, L1, m0, m1, hst, st, hl, q⟩ := h
    refine ⟨_, (pss_cons (ps_set (i := 4) scPl.nd rfl (.inl rfl) (pe_lst pa_nil))
 (pss_cons (ps_for PassesOwn.never rfl (pi_list (pe_call GGp (hr.mono (by omega)) (by rfl) Z.gGp Z.FGp.kp Z.bGp .nil pass0 (pa_cons (pv 0) (pa_cons (pv 1) (pa_cons (pv 2) (pa_cons (pv 3) pa_nil)))))) (pg_tup (by rfl) (pgs_cons (pg_name (i := 5) scPl.nd rfl (.inl rfl)) (pgs_cons (pg_name (i := 6) scPl.nd rfl (.inl rfl)) pgs_nil)))
 (pss_one (ps_expr (pe_bm PySem.F.plainAttrs_list PySem.F.slot_list_extend PySem.F.type_list_extend mt_extend (pv 4) (pa_cons (pe_listRg3 rfl (by rfl) Z.N.list (by rfl) Z.N.range (pa_cons (pv 5) (pa_cons (pe_op op_add (pv 6) pe_int) (pa_cons (pv 3) pa_nil)))) pa_nil)))))
 (pss_one (ps_ret (pe_callTy call_tuple_of (by rfl) Z.N.tuple (by decide +kernel) (pa_cons (pv 4) pa_nil)))))), ?_⟩
    have mL0 : 0 ≤ m * L := Int.mul_nonneg m0 L0
    have mL1 : m * L ≤ 4000000 := Int.le_trans (Int.mul_le_mul m1 L1 L0 (by omega)) (by decide)
    obtain ⟨asc1, asc2⟩ := st.asc0 mL0
    refine ⟨by decide, fun d nd => ?_⟩
    have sd := same_upd (o := .lst []) nd
    have hd0 : upd H d (.lst []) d = some (.lst []) := upd_same
    refine ⟨.ref c, rfl, .int m, rfl, .ref t, rfl, .int sz, rfl, c, t, C, L, m, sz, bs, rfl, hc.keep sd, hs, s0, s1, L0, L1, m0, m1, hst.same sd, st, hl, fun H1 D ys s1' nD hD bl => ?_⟩
    have gb := gpf_bnd s0 (bs ++ [(m * L, 0)]) 0 asc1 (Int.le_refl _)
    have pln := plf_len s0 (bs ++ [(m * L, 0)]) 0 (m * L) asc1 asc2 mL0
    rw [plf_gpf s0] at pln q
    generalize gpf sz 0 (bs ++ [(m * L, 0)]) = gs at *
    have hd1 := s1' _ _ hd0
    have nDd : D ≠ d := (ne_of_none hd0 nD).symm
    refine ⟨D, rfl, ⟨_, .inl (.inl hD)⟩, ?_⟩
    refine for_list (K := K) (a := D) (xs := ys) (fun i σ H2 => ∃ y5 y6, σ = [some (.ref c), some (.int m), some (.ref t), some (.int sz), some (.ref d), y5, y6] ∧ But d H1 H2 ∧ H2 d = some (.lst (((gs.take i).flatMap (gpr sz)).map V.int)))
      ⟨none, none, rfl, But.refl _ _, hd1⟩ (fun i σ H2 _ p => ?_) ?_ ?_
    · obtain ⟨_, _, _, bt, _⟩ := p
      exact .inl (.inl (bt _ _ nDd hD))
    · rintro i x σ H2 hx ⟨y5, y6, rfl, bt, hd3⟩
      obtain ⟨b, hb, ⟨u, rfl, hu⟩⟩ := bl.get hx
      have hu2 := bt _ _ (ne_of hu hd1 (by intro z; cases z)) hu
      obtain ⟨g1, g2, g3⟩ := gb b (List.mem_of_getElem? hb)
      have etk : gs.take (i + 1) = gs.take i ++ [b] := by rw [List.take_add_one, hb]; rfl
      have ln : ((gs.take (i + 1)).flatMap (gpr sz)).length ≤ (m * L - 0).toNat := by
        refine Nat.le_trans ?_ pln
        conv => rhs; rw [← List.take_append_drop (i + 1) gs]
        rw [List.flatMap_append, List.length_append]
        omega
      rw [etk, List.flatMap_append, List.length_append, List.flatMap_cons, List.flatMap_nil, List.append_nil] at ln
      have ln2 : (gpr sz b).length = rgN b.1 (b.2 + 1) sz := rg3_len _ _ _
      refine ⟨u, _, rfl, .inl (.inl hu2), rfl, _, _, rfl, _, _, rfl, rfl, ?_⟩
      refine ⟨.ref d, rfl, .inl ⟨rfl, _, .inl (.inl hd3)⟩, .int b.1, rfl, .int b.2, rfl, _, _, rfl, rfl, .int sz, rfl, _, _, sz, _, rfl, RgC.up (i := b.1) (j := b.2 + 1) s0 (by omega) ⟨by omega, by omega⟩ ⟨by omega, by omega⟩, Nat.le_trans (show _ ≤ 4000000 by omega) (by decide), fun p np => ?_⟩
      have sp := same_upd (o := .lst ((rg3 b.1 sz (rgN b.1 (b.2 + 1) sz)).map V.int)) np
      refine ⟨d, p, _, _, rfl, rfl, sp _ _ hd3, upd_same, ?_, ?_⟩
      · rw [List.length_map, List.length_map, rg3_len]
        exact Nat.le_trans (show _ ≤ 4000000 by omega) (by decide)
      refine ⟨_, _, rfl, fun v o nv hv => ?_, ?_⟩
      · rw [upd_ne nv]
        exact sp _ _ (bt _ _ nv hv)
      · rw [upd_same, etk, List.flatMap_append, List.map_append, List.flatMap_cons, List.flatMap_nil, List.append_nil]
        rfl
    · rintro σ H2 ⟨y5, y6, rfl, bt, hd3⟩
      have e : gs.take ys.length = gs := List.take_of_length_le (by rw [bl.len]; exact Nat.le_refl _)
      rw [e] at hd3
      refine ⟨.ref d, rfl, d, _, rfl, .inl ⟨.inl (.inl hd3), fun v nv => q _ v (fun a o ha => ?_) upd_same⟩⟩
      exact same_upd nv _ _ (bt _ _ (ne_of_none ha nd) (s1' _ _ (sd _ _ ha)))
end
end Ph

set_option maxHeartbeats 8000000
namespace Ph
open PySem PySem.Spec PyProof.Rows L2
theorem seq_splitR {t u : TS} {D : Ends} {σ : L2.St} {H : Hp} (R : L2.St → Hp → Prop) (h1 : ∀ D' : Ends, D'.rt = D.rt → (∀ σ' H', R σ' H' → D'.nx σ' H') → t D' σ H) (h2 : ∀ σ' H', R σ' H' → u D σ' H') : tSeq t u D σ H := h1 _ rfl h2
section
variable {P : Program} {w : World} {K : PySem.W.Frag} {mg : Str → Option Value} {base : Heap}
def spPw : Sp := fun vs H Q _ => ∃ b n : Nat, vs = [.int (b : Nat), .int (n : Nat)] ∧ b ≤ 20000 ∧ n ≤ 1000 ∧ Q (.int ((b ^ n : Nat) : Int)) H
theorem ok_Pw {k : Nat} (Z : Fns K mg) : FnOk P w K mg base CX0 (k + 1) Z.fPw Z.fdPw ["base", "times"] spPw := by
  refine Z.FPw.ok scPw (fun vs H Q E h => ?_) (fun cdv A outer s H vs Q E hr h => ?_)
  · obtain ⟨b, n, rfl, _⟩ := h
    rfl
  · obtain ⟨b, n, rfl, hb, hn, q⟩ := h
    refine ⟨_, (pss_cons (ps_set (i := 2) scPw.nd rfl (.inl rfl) pe_int)
 (pss_cons (ps_for PassesOwn.never rfl (pi_range1 (by rfl) Z.N.range (pa_cons (pv 1) pa_nil)) (pg_name (i := 3) scPw.nd rfl (.inl rfl))
 (pss_one (ps_aug (i := 2) scPw.nd rfl (.inl rfl) (pv 0) ip_mulW)))
 (pss_one (ps_ret (pv 2))))), ?_⟩
    refine ⟨.int n, rfl, n, rfl, by omega, by omega, ?_⟩
    refine for_range (lo := 0) (n := ((n : Nat) : Int).toNat) (fun i σ H2 => ∃ y3, σ = [some (.int b), some (.int n), some (.int ((b ^ i : Nat) : Int)), y3] ∧ H2 = H) ⟨none, rfl, rfl⟩ ?_ ?_
    · rintro i σ H2 hi ⟨y3, rfl, rfl⟩
      refine ⟨_, rfl, .int b, rfl, _, _, rfl, rfl, mulB_ok hb (show i ≤ n by omega) hn, some (.int (0 + i)), ?_, rfl⟩
      show [some (V.int b), some (V.int n), some (V.int (((b ^ i : Nat) : Int) * (b : Nat))), _] = _
      rw [← Int.natCast_mul, ← Nat.pow_succ]
    · rintro σ H2 ⟨y3, rfl, rfl⟩
      exact ⟨_, rfl, q⟩
def spCs (K : PySem.W.Frag) : Sp := fun vs H Q _ => ∃ (c : Addr) (s : Nat → Nat) (p n m : Nat), vs = [.ref c, .int n] ∧ SqT K H c ((tl s (p + 1)).map V.int) ∧ Cn s p m ∧ Sml s p n ∧ ∀ H', Same H H' → Q (.int ((cst s p ^ n : Nat) : Int)) H'
theorem ok_Cs {k : Nat} (Z : Fns K mg) : FnOk P w K mg base CX0 (k + 1 + 1) Z.fCs Z.fdCs ["chain", "pages"] (spCs K) := by
  have GPw : FnOk P w K mg base CX0 (k + 1) Z.fPw Z.fdPw ["base", "times"] spPw := ok_Pw Z
  refine Z.FCs.ok scCs (fun vs H Q E h => ?_) (fun cdv A outer s H vs Q E hr h => ?_)
  · obtain ⟨c, s, p, n, m, rfl, _⟩ := h
    rfl
  · obtain ⟨c, sz, p, n, m, rfl, hc, cn, sml, q⟩ := h
    have s1 := sml.z
    have p1 := sml.q
    have n1 := sml.n
    refine ⟨_, (pss_cons (ps_if (pt_cmpR op_eq (pv 1) pe_int (nomark _))
 (pss_one (ps_ret pe_int)) pss_nil)
 (pss_cons (ps_set (i := 2) scCs.nd rfl (.inl rfl) pe_int)
 (pss_cons (ps_for PassesOwn.never rfl (pi_zipK (k1 := true) (k2 := true) (by rfl) Z.N.zip (pa_cons (pv 0) (pa_cons (pe_slice sl_tupK (pv 0) (po_some pe_int) po_none) pa_nil))) (pg_tup (by rfl) (pgs_cons (pg_name (i := 3) scCs.nd rfl (.inl rfl)) (pgs_cons (pg_name (i := 4) scCs.nd rfl (.inl rfl)) pgs_nil)))
 (pss_one (ps_set (i := 2) scCs.nd rfl (.inl rfl) (pe_op op_add (pe_call GPw (hr.mono (by omega)) (by rfl) Z.gPw Z.FPw.kp Z.bPw .nil pass0 (pa_cons (pv 2) (pa_cons (pe_op op_fdiv (pv 4) (pv 3)) pa_nil))) pe_int))))
 (pss_one (ps_ret (pe_call GPw (hr.mono (by omega)) (by rfl) Z.gPw Z.FPw.kp Z.bPw .nil pass0 (pa_cons (pv 2) (pa_cons (pv 1) pa_nil)))))))), ?_⟩
    refine ⟨.int n, rfl, rfl, _, rfl, ite2 (fun e => ?_) (fun e => ?_)⟩
    · have e1 : n = 0 := by
        have := V.int.inj (of_decide_eq_true e)
        omega
      subst e1
      have := q H (Same.refl H)
      rw [Nat.pow_zero] at this
      exact this
    · refine ⟨.ref c, rfl, .ref c, rfl, 1, rfl, c, _, rfl, hc, fun d H1 sd hD => ?_⟩
      rw [cut_oneL] at hD
      refine ⟨c, d, _, _, rfl, sd.tup hc, hD, ?_⟩
      refine for_it (walk_zipK (k1 := true) (k2 := true) (K := K) (a := c) (b := d) (xs := (tl sz (p + 1)).map V.int) (ys := (tl (fun i => sz (i + 1)) p).map V.int) (n := p) (by rw [List.length_map, List.length_map, tl_len, tl_len]; omega))
        (fun i σ H2 => ∃ y3 y4, σ = [some (.ref c), some (.int n), some (.int ((cst sz i : Nat) : Int)), y3, y4] ∧ Same H1 H2) ⟨_, _, rfl, Same.refl _⟩ (fun i σ H2 _ q => ?_) ?_ ?_
      · obtain ⟨_, _, _, s2⟩ := q
        exact ⟨s2.tup (sd.tup hc), s2.tup hD⟩
      · rintro i v σ H2 H3 hi ⟨y3, y4, rfl, s2⟩ ⟨T, x1, x2, rfl, nT, rfl, g1, g2⟩
        have g1 : ((tl sz (p + 1)).map V.int)[i]? = some x1 := g1
        rw [tl_getV (by omega)] at g1
        have g2 : ((tl (fun i => sz (i + 1)) p).map V.int)[i]? = some x2 := g2
        rw [tl_getV hi] at g2
        cases g1
        cases g2
        have z0 := cn.ch.pos (i := i) (by omega)
        have z1 := cn.ch.mono (i := i + 1) (j := p) (by omega) (by omega)
        have z2 := cn.ch.mono (i := i) (j := p) (by omega) (by omega)
        have e1 : ((sz (i + 1) : Nat) : Int) / ((sz i : Nat) : Int) = ((sz (i + 1) / sz i : Nat) : Int) := (Int.natCast_ediv _ _).symm
        have e2 : sz (i + 1) / sz i ≤ 12 := Nat.le_trans (Nat.div_le_self _ _) (by omega)
        refine ⟨T, _, rfl, .inl (.inl upd_same), rfl, _, _, rfl, _, _, rfl, rfl, ?_⟩
        dsimp only [gName]
        refine ⟨.int _, rfl, .int _, rfl, .int _, rfl, _, _, rfl, rfl, ⟨by omega, by omega⟩, ?_⟩
        refine ⟨cst sz i, sz (i + 1) / sz i, ?_, sml.k i (by omega), by omega, _, _, rfl, rfl, _, _, rfl, s2.trans (same_upd nT)⟩
        show [V.int _, V.int (((sz (i + 1) : Nat) : Int) / ((sz i : Nat) : Int))] = _
        rw [e1]
      · rintro σ H2 ⟨y3, y4, rfl, s2⟩
        exact ⟨.int _, rfl, .int _, rfl, cst sz p, n, rfl, sml.k p (Nat.le_refl _), by omega, q _ (sd.trans s2)⟩
def spCm : Sp := fun vs H Q _ => ∃ n : Int, vs = [.int n] ∧ n ≤ 20000 ∧ ∀ v, Q v H
theorem ok_Cm {k : Nat} (Z : Fns K mg) : FnOk P w K mg base CX0 (k + 1) Z.fCm Z.fdCm ["many"] spCm := by
  refine Z.FCm.ok scCm (fun vs H Q E h => ?_) (fun cdv A outer s H vs Q E hr h => ?_)
  · obtain ⟨n, rfl, _⟩ := h
    rfl
  · obtain ⟨n, rfl, hn, q⟩ := h
    refine ⟨_, (pss_one (ps_if (pt_cmpR op_gt (pv 0) (pe_glob (v := .int 20000) (by rfl) Z.k_MOST_STATES.choose_spec ⟨_, rfl⟩) (nomark _))
 (pss_one ps_never) pss_nil)), ?_⟩
    refine ⟨.int n, rfl, _, _, rfl, rfl, _, rfl, ite2 (fun c => absurd c (by simp only [decide_eq_true_eq]; omega)) (fun _ => q _)⟩
def spCh (K : PySem.W.Frag) : Sp := fun vs H Q _ => ∃ (c : Addr) (s : Nat → Nat) (p n m : Nat), vs = [.ref c, .int n] ∧ SqT K H c ((tl s (p + 1)).map V.int) ∧ Cn s p m ∧ Sml s p n ∧ ∀ H' v, Same H H' → Q v H'
theorem ok_Ch {k : Nat} (Z : Fns K mg) : FnOk P w K mg base CX0 (k + 1 + 1 + 1) Z.fCh Z.fdCh ["chain", "pages"] (spCh K) := by
  have GCs : FnOk P w K mg base CX0 (k + 1 + 1) Z.fCs Z.fdCs ["chain", "pages"] (spCs K) := ok_Cs Z
  have GCm : FnOk P w K mg base CX0 (k + 1) Z.fCm Z.fdCm ["many"] spCm := ok_Cm Z
  refine Z.FCh.ok scCh (fun vs H Q E h => ?_) (fun cdv A outer s H vs Q E hr h => ?_)
  · obtain ⟨c, s, p, n, m, rfl, _⟩ := h
    rfl
  · obtain ⟨c, sz, p, n, m, rfl, hc, cn, sml, q⟩ := h
    have s1 := sml.z
    have p1 := sml.q
    have n1 := sml.n
    have w1 := sml.w
    refine ⟨_, (pss_cons (ps_if (pt_cmpR op_gt (pe_op op_mul (pv 1) (pe_ix ix_tup (pv 0) (pe_un un_neg pe_int) (fun _ _ => rfl))) (pe_glob (v := .int 14) (by rfl) Z.k_MOST_WORDS.choose_spec ⟨_, rfl⟩) (nomark _))
 (pss_one ps_never) pss_nil)
 (pss_one (ps_expr (pe_call GCm (hr.mono (by omega)) (by rfl) Z.gCm Z.FCm.kp Z.bCm .nil pass0 (pa_cons (pe_call GCs (hr.mono (by omega)) (by rfl) Z.gCs Z.FCs.kp Z.bCs .nil pass0 (pa_cons (pv 0) (pa_cons (pv 1) pa_nil))) pa_nil))))), ?_⟩
    have e : ((n : Nat) : Int) * ((sz p : Nat) : Int) = ((n * sz p : Nat) : Int) := (Int.natCast_mul _ _).symm
    refine ⟨.int n, rfl, .ref c, rfl, 1, rfl, c, _, -1, _, rfl, rfl, hc, tl_atL, _, _, rfl, rfl, .inl ⟨by omega, by omega⟩, ?_⟩
    refine ⟨_, _, rfl, rfl, _, rfl, ite2 (fun c => absurd c (by simp only [decide_eq_true_eq]; omega)) (fun _ => ?_)⟩
    refine ⟨.ref c, rfl, .int n, rfl, c, sz, p, n, m, rfl, hc, cn, sml, fun H1 s1 => ⟨_, rfl, by have := sml.c; omega, fun v => q _ _ s1⟩⟩
end
end Ph

set_option maxHeartbeats 8000000
namespace Ph
open PySem PySem.Spec PyProof.Rows L2
/-! ### the states from a word on, in the program's table -/
def TabS (H0 H : Hp) (kvs : List (Key × V)) (C : List Int) (W lo : Int) : Prop := ∀ a, lo ≤ a → a ≤ W → ∃ L xs bss, valV kvs (Sum.inl a) = some (.ref L) ∧ H0 L = none ∧ H L = some (.lst xs) ∧ StVs H xs bss ∧ (∀ bs, bs ∈ bss ↔ From C W a bs) ∧ bss.length ≤ 3 ^ (W - a).toNat
section
variable {P : Program} {w : World} {K : PySem.W.Frag} {mg : Str → Option Value} {base : Heap}
def spSw (K : PySem.W.Frag) : Sp := fun vs H Q _ => ∃ (c : Addr) (s : Nat → Nat) (p n m : Nat), vs = [.ref c, .int ((n * s p : Nat) : Int)] ∧ SqT K H c ((tl s (p + 1)).map V.int) ∧ Cn s p m ∧ Sml s p n ∧
  ∀ H' D xs bss, H D = none → Same H H' → H' D = some (.lst xs) → StVs H' xs bss → (∀ bs, bs ∈ bss ↔ St (tl s (p + 1)) ((n * s p : Nat) : Int) bs) → bss.length ≤ 531441 → Q (.ref D) H'
theorem ok_Sw {k : Nat} (Z : Fns K mg) : FnOk P w K mg base CX0 (k + 1) Z.fSw Z.fdSw ["chain", "words"] (spSw K) := by
  refine Z.FSw.ok scSw (fun vs H Q E h => ?_) (fun cdv A outer s H vs Q E hr h => ?_)
  · obtain ⟨c, s, p, n, m, rfl, _⟩ := h
    rfl
  · obtain ⟨c, sz, p, n, m, rfl, hc, cn, sml, q⟩ := h
    refine ⟨_, (pss_cons (ps_set (i := 2) scSw.nd rfl (.inl rfl) (pe_disp (pps_cons (pv 1) (pe_lst (pa_cons (pe_tup pa_nil) pa_nil)) pps_nil) (by rfl) (by rfl) (fun z => by cases z) (by decide)))
 (pss_cons (ps_for PassesOwn.never rfl (pi_range3 (by rfl) Z.N.range (pa_cons (pe_op op_sub (pv 1) pe_int) (pa_cons (pe_un un_neg pe_int) (pa_cons (pe_un un_neg pe_int) pa_nil)))) (pg_name (i := 3) scSw.nd rfl (.inr rfl))
 (pss_cons (ps_set (i := 4) scSw.nd rfl (.inl rfl) (pe_callTy call_list_of (by rfl) Z.N.list (by decide +kernel) (pa_cons (pe_dget (hu_of hr) (pv 2) (pe_op op_add (pv 3) pe_int) (fun _ _ => rfl)) pa_nil)))
 (pss_cons (ps_for PassesOwn.never rfl (pi_tup (pv 0)) (pg_name (i := 5) scSw.nd rfl (.inr rfl))
 (pss_one (ps_if (pt_cmpR op_eq (pe_op op_mod (pv 3) (pv 5)) pe_int (nomark _))
 (pss_one (ps_expr (pe_bm PySem.F.plainAttrs_list PySem.F.slot_list_extend PySem.F.type_list_extend mt_extend (pv 4) (pa_cons (pe_lc (own := [("rest", 6)]) (g := (gName 6)) (tt := tYes) (by rfl) scSw.nd (pi_list (pe_dget (hu_of hr) (pv 2) (pe_op op_add (pv 3) (pv 5)) (fun _ _ => rfl))) (blkOk_by (N := scSwN) (sc := defScope scSwS) (by decide +kernel)) (fun _ _ _ _ _ => (pg_name (i := 6) scSw.nd rfl (.inl rfl))) (fun _ _ _ _ _ => pts_nil) (fun _ _ _ _ _ => (pe_tup (pa_cons (pe_tup (pa_cons (pv 3) (pa_cons (pv 5) pa_nil))) (pa_starK (K := K) rfl (pv 6) pa_nil))))) pa_nil)))) pss_nil)))
 (pss_one (ps_asg (pv 4) (pg_sub (pv 2) (pv 3) (set_dict (hu_of hr))))))))
 (pss_one (ps_ret (pe_dget (hu_of hr) (pv 2) pe_int (fun _ _ => rfl)))))), ?_⟩
    obtain ⟨W, hW⟩ : ∃ W : Nat, n * sz p = W := ⟨_, rfl⟩
    have w12 : W ≤ 12 := by have := sml.w; omega
    rw [hW] at q ⊢
    have szp : ∀ j, j ≤ p → 0 < sz j ∧ sz j ≤ 12 := fun j hj => ⟨cn.ch.pos (by omega), Nat.le_trans (cn.ch.mono (i := j) (j := p) hj (by omega)) sml.z⟩
    have dvW : ∀ j, j ≤ p → ((W : Nat) : Int) % ((sz j : Nat) : Int) = 0 := fun j hj => by
      obtain ⟨r, _, e⟩ := cn.ch.dvd (i := j) (j := p) hj (by omega)
      rw [← hW, e, ← Int.natCast_emod, Nat.mul_comm n, Nat.mul_assoc, Nat.mul_mod_right]
      rfl
    have p5 := sml.q
    refine fun Bd nB => ⟨.int W, rfl, (by show 0 ≤ sizeLine; decide), fun t0 nt0 => ⟨(by show 1 ≤ sizeLine; decide), fun L0 nL0 => ?_⟩⟩
    have sB := same_upd (o := .dK []) nB
    have hB0 : upd H Bd (.dK []) Bd = some (.dK []) := upd_same
    have st0 := same_upd (o := .tup []) nt0
    have ht0 : upd (upd H Bd (.dK [])) t0 (.tup []) t0 = some (.tup []) := upd_same
    have hB1 := st0 _ _ hB0
    have sL0 := same_upd (o := .lst [.ref t0]) nL0
    have hL0 : upd (upd (upd H Bd (.dK [])) t0 (.tup [])) L0 (.lst [.ref t0]) L0 = some (.lst [.ref t0]) := upd_same
    have hB2 := sL0 _ _ hB1
    have ht2 := sL0 _ _ ht0
    have s2 := sB.trans (st0.trans sL0)
    generalize upd (upd (upd H Bd (.dK [])) t0 (.tup [])) L0 (.lst [.ref t0]) = H2 at *
    refine ⟨hB2, [(Sum.inl (W : Int), .ref L0)], rfl, (by show 1 ≤ 15; decide), ?_⟩
    have nLH : H L0 = none := none_of_same sB (none_of_same st0 nL0)
    have nBL : Bd ≠ L0 := fun z => by rw [z, hL0] at hB2; cases hB2
    have nBt : t0 ≠ Bd := fun z => by rw [z, hB2] at ht2; cases ht2
    have tab0 : TabS H (upd H2 Bd (.dK [(Sum.inl (W : Int), .ref L0)])) [(Sum.inl (W : Int), .ref L0)] (tl sz (p + 1)) W W := fun a h1 h2 => by
      obtain rfl : a = W := by omega
      refine ⟨L0, [.ref t0], [[]], valV_pos rfl, nLH, by rw [upd_ne nBL.symm]; exact hL0, .cons ⟨t0, rfl, [], by rw [upd_ne nBt]; exact ht2, .nil⟩ .nil, fun bs => ?_, ?_⟩
      · rw [from_end, List.mem_singleton]
      · rw [Int.sub_self]
        exact Nat.le_refl _
    have hB3 : upd H2 Bd (.dK (mergeK [] [(Sum.inl (W : Int), .ref L0)])) Bd = some (.dK [(Sum.inl (W : Int), .ref L0)]) := upd_same
    have f03 : ∀ a o, H a = some o → upd H2 Bd (.dK (mergeK [] [(Sum.inl (W : Int), .ref L0)])) a = some o := fun a o e => by
      rw [upd_ne (ne_of_none e nB)]
      exact s2 _ _ e
    have tab0 : TabS H (upd H2 Bd (.dK (mergeK [] [(Sum.inl (W : Int), .ref L0)]))) [(Sum.inl (W : Int), .ref L0)] (tl sz (p + 1)) W W := tab0
    generalize upd H2 Bd (.dK (mergeK [] [(Sum.inl (W : Int), .ref L0)])) = H3 at *
    dsimp only [gName]
    have nW : ((W : Nat) : Int) - 1 - -1 = W := by omega
    refine seq_splitR (fun σ' H' => ∃ y3 y4 y5 y6 kvs, σ' = [some (.ref c), some (.int W), some (.ref Bd), y3, y4, y5, y6] ∧ But Bd H3 H' ∧ H' Bd = some (.dK kvs) ∧ TabS H H' kvs (tl sz (p + 1)) W 0) (fun D' rt' hD' => ?_) ?_
    · refine ⟨.int W, rfl, _, _, rfl, rfl, 1, rfl, 1, rfl, _, _, -1, _, rfl, RgC.neg (by omega) (by omega) (by decide) (by decide), ?_⟩
      refine for_it walk_rangeC (fun i σ H' => ∃ y3 y4 y5 y6 kvs, σ = [some (.ref c), some (.int W), some (.ref Bd), y3, y4, y5, y6] ∧ But Bd H3 H' ∧ H' Bd = some (.dK kvs) ∧ kvs.length ≤ i + 1 ∧ TabS H H' kvs (tl sz (p + 1)) W (W - i))
        ⟨_, _, _, _, _, rfl, But.refl _ _, hB3, Nat.le_refl _, by rw [show ((W : Nat) : Int) - ((0 : Nat) : Int) = W by omega]; exact tab0⟩ (fun _ _ _ _ _ => trivial) ?_ ?_
      · rintro i x σ H4a H4 hi ⟨y3, y4, y5, y6, kvs, rfl, b4, hB4, kl4, tab4⟩ ⟨rfl, rfl⟩
        obtain ⟨a, ea, aW⟩ : ∃ a : Nat, ((W : Nat) : Int) - 1 + (i : Nat) * -1 = (a : Int) ∧ a + i + 1 = W := ⟨W - 1 - i, by omega, by omega⟩
        dsimp only [gName]
        rw [ea]
        have lo : ((W : Nat) : Int) - (i : Nat) = (a : Int) + 1 := by omega
        rw [lo] at tab4
        obtain ⟨L1, xs1, bss1, hv1, nL1, hL1, hx1, hm1, hl1⟩ := tab4 (a + 1) (Int.le_refl _) (by omega)
        have nB1 : L1 ≠ Bd := fun z => by rw [z, hB4] at hL1; cases hL1
        refine ⟨.ref Bd, rfl, .int a, rfl, _, _, rfl, rfl, Bd, .ref L1, rfl, .inl ⟨kvs, .inl _, .inl hB4, rfl, hv1.symm⟩, L1, xs1, rfl, .inl (.inl (.inl hL1)), fun D nD => ?_⟩
        have sD := same_upd (o := .lst xs1) nD
        have hD : upd H4 D (.lst xs1) D = some (.lst xs1) := upd_same
        have nDB : D ≠ Bd := (ne_of_none hB4 nD).symm
        have nDH : H D = none := by
          cases e : H D with
          | none => rfl
          | some o => rw [b4 _ _ nDB (f03 _ _ e)] at nD; cases nD
        dsimp only [gName]
        obtain ⟨n1, hn1⟩ : ∃ n1 : Nat, W - a = n1 ∧ 1 ≤ n1 := ⟨W - a, rfl, by omega⟩
        have e3 : (((W : Nat) : Int) - (((a : Nat) : Int) + 1)).toNat = n1 - 1 := by omega
        refine seq_splitR (fun σ' H' => ∃ y5 y6 xs bss, σ' = [some (.ref c), some (.int W), some (.ref Bd), some (.int a), some (.ref D), y5, y6] ∧ But D H4 H' ∧ H' D = some (.lst xs) ∧ StVs H' xs bss ∧ (∀ bs, bs ∈ bss ↔ From (tl sz (p + 1)) W a bs) ∧ bss.length ≤ 3 ^ n1) (fun D2 rt2 hD2 => ?_) ?_
        · have hc3 : SqT K H3 c ((tl sz (p + 1)).map V.int) := (show Same H H3 from f03).tup hc
          have hc4 := sqT_butO hc3 b4 hB3 (fun _ z => by cases z) (fun _ _ z => by cases z)
          have hB5 := sD _ _ hB4
          have s5 := sD
          generalize upd H4 D (.lst xs1) = H5 at *
          refine ⟨.ref c, rfl, c, rfl, ⟨_, sD.tup hc4⟩, ?_⟩
          refine for_tup (K := K) (a := c) (xs := (tl sz (p + 1)).map V.int) (fun i σ H' => ∃ y5 y6 xs bss, σ = [some (.ref c), some (.int W), some (.ref Bd), some (.int a), some (.ref D), y5, y6] ∧ But D H5 H' ∧ H' D = some (.lst xs) ∧ StVs H' xs bss ∧ (∀ bs, bs ∈ bss ↔ From (tl sz (p + 1)) W ((a : Int) + 1) bs ∨ ∃ j r, j < i ∧ (a : Int) % ((sz j : Nat) : Int) = 0 ∧ From (tl sz (p + 1)) W ((a : Int) + ((sz j : Nat) : Int)) r ∧ bs = ((a : Int), ((sz j : Nat) : Int)) :: r) ∧ bss.length ≤ bsm n1 i)
            ⟨_, _, xs1, bss1, rfl, But.refl _ _, hD, hx1.kt (Same.kt sD), fun bs => by
              rw [hm1]
              exact ⟨.inl, fun h => h.elim id fun ⟨_, _, h, _⟩ => absurd h (by omega)⟩, by rw [e3] at hl1; exact hl1⟩ (fun i σ H2 _ pv => ?_) ?_ ?_
          · obtain ⟨_, _, _, _, _, b, _⟩ := pv
            exact sqT_butO (sD.tup hc4) b hD (fun _ z => by cases z) (fun _ _ z => by cases z)
          · rintro i x σ H6 hx' ⟨y5, y6, xs, bss, rfl, b6, hD6, hx6, hm6, hl6⟩
            have hi : i < p + 1 := by
              have := (List.getElem?_eq_some_iff.mp hx').1
              rw [List.length_map, tl_len] at this
              exact this
            rw [tl_getV hi] at hx'
            cases hx'
            dsimp only [gName]
            obtain ⟨z0, z1⟩ := szp i (by omega)
            refine ⟨.int a, rfl, .int _, rfl, _, _, rfl, rfl, (by omega), rfl, _, rfl, ite2 (fun cc => ?_) (fun cc => ?_)⟩
            · have am : (a : Int) % ((sz i : Nat) : Int) = 0 := V.int.inj (of_decide_eq_true cc)
              have fit : a + sz i ≤ W := by
                have w0 := dvW i (by omega)
                obtain ⟨x, hx⟩ := Int.dvd_of_emod_eq_zero am
                obtain ⟨y, hy⟩ := Int.dvd_of_emod_eq_zero w0
                have lt : ((sz i : Nat) : Int) * x < ((sz i : Nat) : Int) * y := by rw [← hx, ← hy]; omega
                have lt2 : x + 1 ≤ y := Int.lt_of_mul_lt_mul_left lt (by omega)
                have := Int.mul_le_mul_of_nonneg_left lt2 (show (0 : Int) ≤ ((sz i : Nat) : Int) by omega)
                rw [Int.mul_add, Int.mul_one, ← hx, ← hy] at this
                omega
              have hB6 := b6 _ _ nDB.symm hB5
              obtain ⟨L2, xs2, bss2, hv2, nL2, hL2, hx2, hm2, hl2⟩ := tab4 ((a : Int) + ((sz i : Nat) : Int)) (by omega) (by omega)
              have nL2D : L2 ≠ D := ne_of_none hL2 nD
              have hL6 := b6 _ _ nL2D (sD _ _ hL2)
              have kt6 : Kt H4 H6 := (Same.kt sD).trans (fun a o e _ n => b6 _ _ (fun z => by rw [z, hD] at e; exact n _ (Option.some.inj e).symm) e)
              have hx26 := hx2.kt kt6
              refine ⟨.ref D, rfl, .inl ⟨rfl, _, .inl (.inl hD6)⟩, .ref Bd, rfl, .int a, rfl, .int _, rfl, _, _, rfl, rfl, Bd, .ref L2, rfl, .inl ⟨kvs, .inl _, .inl hB6, rfl, hv2.symm⟩, L2, rfl, ⟨_, .inl (.inl hL6)⟩, fun E nE => ?_⟩
              have bl2 : bss2.length ≤ 531441 := by
                refine Nat.le_trans hl2 (Nat.le_trans (Nat.pow_le_pow_right (by decide) (show _ ≤ 12 by omega)) (by decide))
              have x2l : xs2.length = bss2.length := Paired.length hx26
              refine lc_R (walk_list (K := K) (a := L2) (xs := xs2)) (fun _ _ _ _ y => YAt.same y) (fun H8 j y => ∃ r, bss2[j]? = some r ∧ StV H8 y (((a : Int), ((sz i : Nat) : Int)) :: r)) (fun H8 H9 _ y kp h => ?_) nE (by rw [x2l]; exact Nat.lt_of_le_of_lt bl2 (by decide)) (fun H4 s4 => .inl (.inl (s4 _ _ hL6))) (fun j y H8 H9 hj s8 yy Z hZ => ?_) (fun H8 ys s8 hE pr => ?_)
              · obtain ⟨r, e, u, rfl, hu⟩ := h
                exact ⟨r, e, u, rfl, hu.mono kp⟩
              · obtain ⟨rfl, hxj⟩ := yy
                obtain ⟨r, hr2, t, rfl, rs, ht, bl⟩ := Paired.get hx26 hxj
                have st := (hm2 r).mp (List.mem_of_getElem? hr2)
                have rl : r.length ≤ 12 := by have := st_len st.1 (by omega); omega
                have ht9 := s8 _ _ ht
                refine ⟨rfl, .int a, rfl, .int _, rfl, (by show 2 ≤ sizeLine; decide), fun U nU => ?_⟩
                have sU := same_upd (o := .tup [.int a, .int ((sz i : Nat) : Int)]) nU
                refine ⟨.ref t, rfl, t, rs, rfl, .inl (.inl (.inl (sU _ _ ht9))), ?_, fun T nT => ?_⟩
                · rw [List.length_cons, List.length_append, bl.len]
                  exact Nat.le_trans (show r.length + 0 + 1 ≤ 13 by omega) (by decide)
                · rw [List.append_nil]
                  have sT := same_upd (o := .tup (.ref U :: rs)) nT
                  refine hZ _ _ (Same.trans sU sT) ⟨r, hr2, T, rfl, .ref U :: rs, upd_same, ?_⟩
                  refine .cons ⟨U, rfl, sT _ _ upd_same⟩ (BL.mono (fun u us e => ?_) bl)
                  exact sT _ _ (sU _ _ (s8 _ _ e))
              · have hD8 := s8 _ _ hD6
                have ye : ys.length = bss2.length := by
                  have := pr.length
                  rw [List.length_range, x2l] at this
                  exact this.symm
                have hys : StVs H8 ys (bss2.map fun r => ((a : Int), ((sz i : Nat) : Int)) :: r) := pairedG (by rw [List.length_map, ye]) fun j y b hj hb => by
                  obtain ⟨j', hj', r, hr2, st⟩ := Paired.get2 pr hj
                  have lt : j < ys.length := (List.getElem?_eq_some_iff.mp hj).1
                  rw [List.getElem?_range (by omega)] at hj'
                  cases hj'
                  rw [List.getElem?_map, hr2] at hb
                  cases hb
                  exact st
                have xl : xs.length = bss.length := Paired.length hx6
                have bn := bsm_le hn1.2 i
                have bn2 := Nat.le_trans bn (Nat.pow_le_pow_right (by decide) (show n1 ≤ 12 by omega))
                have nED : E ≠ D := (ne_of_none hD6 nE).symm
                have b12 : (3 : Nat) ^ 12 = 531441 := by decide
                refine ⟨D, E, xs, ys, rfl, rfl, hD8, hE, Nat.le_trans (show _ ≤ 1100000 by omega) (by decide), ?_⟩
                have kt := kt_upd (ys := xs ++ ys) hD8
                refine ⟨_, _, xs ++ ys, bss ++ bss2.map fun r => ((a : Int), ((sz i : Nat) : Int)) :: r, rfl, fun b o nb e => by rw [upd_ne nb]; exact s8 _ _ (b6 _ _ nb e), upd_same, pairedApp ((hx6.kt (Same.kt s8)).kt kt) (hys.kt kt), fun bs => ?_, ?_⟩
                · rw [List.mem_append, hm6, List.mem_map]
                  constructor
                  · rintro ((h | ⟨j, r, h1, h2⟩) | ⟨r, h1, rfl⟩)
                    · exact .inl h
                    · exact .inr ⟨j, r, by omega, h2⟩
                    · exact .inr ⟨i, r, by omega, am, (hm2 r).mp h1, rfl⟩
                  · rintro (h | ⟨j, r, h1, h2, h3, h4⟩)
                    · exact .inl (.inl h)
                    · rcases Nat.lt_or_ge j i with z | z
                      · exact .inl (.inr ⟨j, r, z, h2, h3, h4⟩)
                      · obtain rfl : j = i := by omega
                        exact .inr ⟨r, (hm2 r).mpr h3, h4.symm⟩
                · rw [List.length_append, List.length_map]
                  have ge := CH.ge cn (i := i) (by omega)
                  have hin : i < n1 := by omega
                  have e1 : bsm n1 (i + 1) = bsm n1 i + 3 ^ (n1 - 1 - i) := by show bsm n1 i + (if i < n1 then _ else 0) = _; rw [if_pos hin]
                  rw [e1]
                  refine Nat.add_le_add hl6 (Nat.le_trans hl2 (Nat.pow_le_pow_right (by decide) ?_))
                  omega
            · refine ⟨_, _, xs, bss, rfl, b6, hD6, hx6, fun bs => ?_, Nat.le_trans hl6 bsm_up⟩
              rw [hm6]
              constructor
              · rintro (h | ⟨j, r, h1, h2⟩)
                · exact .inl h
                · exact .inr ⟨j, r, by omega, h2⟩
              · rintro (h | ⟨j, r, h1, h2, h3, h4⟩)
                · exact .inl h
                · rcases Nat.lt_or_ge j i with z | z
                  · exact .inr ⟨j, r, z, h2, h3, h4⟩
                  · obtain rfl : j = i := by omega
                    exact absurd (decide_eq_true (show V.int _ = V.int 0 by rw [h2])) cc
          · rintro σ H6 ⟨y5, y6, xs, bss, rfl, b6, hD6, hx6, hm6, hl6⟩
            rw [List.length_map, tl_len] at hm6 hl6
            refine hD2 _ _ ⟨_, _, xs, bss, rfl, fun b o nb e => b6 _ _ nb (sD _ _ e), hD6, hx6, fun bs => ?_, Nat.le_trans hl6 (bsm_le hn1.2 _)⟩
            rw [hm6, from_step (a := (a : Int)) (by omega)]
            refine or_congr Iff.rfl ⟨?_, ?_⟩
            · rintro ⟨j, r, h1, h2, h3, h4⟩
              obtain ⟨z0, z1⟩ := szp j (by omega)
              refine ⟨_, r, tl_mem.mpr ⟨j, h1, rfl⟩, by omega, h2, ?_, h3, h4⟩
              have w0 := dvW j (by omega)
              obtain ⟨x, hx⟩ := Int.dvd_of_emod_eq_zero h2
              obtain ⟨y, hy⟩ := Int.dvd_of_emod_eq_zero w0
              have lt : ((sz j : Nat) : Int) * x < ((sz j : Nat) : Int) * y := by rw [← hx, ← hy]; omega
              have lt2 : x + 1 ≤ y := Int.lt_of_mul_lt_mul_left lt (by omega)
              have := Int.mul_le_mul_of_nonneg_left lt2 (show (0 : Int) ≤ ((sz j : Nat) : Int) by omega)
              rw [Int.mul_add, Int.mul_one, ← hx, ← hy] at this
              omega
            · rintro ⟨z, r, h1, h2, h3, h4, h5, h6⟩
              obtain ⟨j, hj, rfl⟩ := tl_mem.mp h1
              exact ⟨j, r, hj, h3, h5, h6⟩
        · rintro σ' H6 ⟨y5, y6, xs, bss, rfl, b6, hD6, hx6, hm6, hl6⟩
          have hB6 : H6 Bd = some (.dK kvs) := b6 _ _ nDB.symm hB4
          refine ⟨.ref D, rfl, .ref Bd, rfl, .int a, rfl, Bd, _, rfl, DPut.k (k := Sum.inl (a : Int)) hB6 (Nat.lt_of_le_of_lt (show kvs.length ≤ 14 by omega) (by decide)), ?_⟩
          have nvD : ∀ L, L ≠ Bd → upd H6 Bd (.dK (putK kvs (Sum.inl (a : Int)) (.ref D))) L = H6 L := fun L h => upd_ne h
          have kp : KpT H6 (upd H6 Bd (.dK (putK kvs (Sum.inl (a : Int)) (.ref D)))) := fun t ys e => by
            rw [upd_ne (fun z => by rw [z, hB6] at e; cases e)]
            exact e
          refine ⟨_, _, _, _, _, rfl, fun b o nb e => ?_, upd_same, ?_, fun a' h1 h2 => ?_⟩
          · rw [upd_ne nb]
            have h4 := b4 _ _ nb e
            exact b6 _ _ (ne_of_none h4 nD) h4
          · exact Nat.le_trans (length_putK kvs _ _) (by omega)
          · by_cases ae : a' = (a : Int)
            · subst ae
              refine ⟨D, xs, bss, by rw [valV_put, if_pos rfl], nDH, by rw [nvD D nDB]; exact hD6, Paired.mono (fun x bs st => ?_) hx6, hm6, ?_⟩
              · obtain ⟨t, e, st⟩ := st
                exact ⟨t, e, st.mono kp⟩
              · rw [show (((W : Nat) : Int) - ((a : Nat) : Int)).toNat = n1 by omega]
                exact hl6
            · obtain ⟨L2, xs2, bss2, hv2, nL2, hL2, hx2, hm2, hl2⟩ := tab4 a' (by omega) h2
              have n2 : L2 ≠ Bd := fun z => by rw [z, hB4] at hL2; cases hL2
              have kt6 : Kt H4 H6 := fun c o e _ n => b6 _ _ (ne_of_none e nD) e
              refine ⟨L2, xs2, bss2, by rw [valV_put, if_neg (fun z => ae (Sum.inl.inj z))]; exact hv2, nL2, by rw [nvD L2 n2]; exact b6 _ _ (ne_of_none hL2 nD) hL2, Paired.mono (fun x bs st => ?_) (hx2.kt kt6), hm2, hl2⟩
              obtain ⟨t, e, st⟩ := st
              exact ⟨t, e, st.mono kp⟩
      · rintro σ H' ⟨y3, y4, y5, y6, kvs, rfl, b, hB, _, tab⟩
        refine hD' _ _ ⟨_, _, _, _, kvs, rfl, b, hB, ?_⟩
        rw [show ((W : Nat) : Int) - ((((W : Nat) : Int) - 1 - -1).toNat : Nat) = 0 by omega] at tab
        exact tab
    · rintro σ' H' ⟨y3, y4, y5, y6, kvs, rfl, b, hB, tab⟩
      obtain ⟨L, xs, bss, hv, nL, hL, hx, hm, hl⟩ := tab 0 (Int.le_refl _) (by omega)
      refine ⟨.ref Bd, rfl, Bd, .ref L, rfl, .inl ⟨kvs, .inl 0, .inl hB, rfl, hv.symm⟩, q H' L xs bss nL (fun a o e => b _ _ (ne_of_none e nB) (f03 _ _ e)) hL hx (fun bs => ?_) ?_⟩
      · rw [hm]
        exact ⟨fun h => h.1, fun h => ⟨h, fun b hb => (h.ok b hb).2.2.1⟩⟩
      · refine Nat.le_trans hl ?_
        rw [show (((W : Nat) : Int) - 0).toNat = W by omega]
        exact Nat.le_trans (Nat.pow_le_pow_right (by decide) w12) (by decide)
end
end Ph

set_option maxHeartbeats 8000000
namespace Ph
open PySem PySem.Spec PyProof.Rows L2
/-- the sizes that the limit allows -/
def alw (s : Nat → Nat) (p M : Nat) (bs : List Bk) : List Int := (tl s (p + 1)).filter fun z => decide (z ≤ (M : Int) - tot bs)
section
variable {P : Program} {w : World} {K : PySem.W.Frag} {mg : Str → Option Value} {base : Heap}
def spAl (K : PySem.W.Frag) : Sp := fun vs H Q _ => ∃ (c t : Addr) (s : Nat → Nat) (p M : Nat) (bs : List Bk), vs = [.ref c, .int M, .ref t] ∧ SqT K H c ((tl s (p + 1)).map V.int) ∧ p ≤ 100 ∧ StAt H t bs ∧ bs.length ≤ 5000 ∧ ∀ H' D, H D = none → Same H H' → H' D = some (.lst ((alw s p M bs).map V.int)) → Q (.ref D) H'
theorem ok_Al {k : Nat} (Z : Fns K mg) : FnOk P w K mg base CX0 (k + 1 + 1) Z.fAl Z.fdAl ["chain", "limit", "state"] (spAl K) := by
  have GV : FnOk P w K mg base CX0 (k + 1) Z.fV Z.fdV ["state"] spV := ok_V Z
  refine Z.FAl.ok scAl (fun vs H Q E h => ?_) (fun cdv A outer s H vs Q E hr h => ?_)
  · obtain ⟨c, t, s, p, M, bs, rfl, _⟩ := h
    rfl
  · obtain ⟨c, t, sz, p, M, bs, rfl, hc, p1, ht, bl, q⟩ := h
    refine ⟨_, (pss_cons (ps_set (i := 3) scAl.nd rfl (.inr rfl) (pe_op op_sub (pv 1) (pe_call GV (hr.mono (by omega)) (by rfl) Z.gV Z.FV.kp Z.bV .nil pass0 (pa_cons (pv 2) pa_nil))))
 (pss_one (ps_ret (pe_lc (own := [("size", 4)]) (g := (gName 4)) (by rfl) scAl.nd (pi_tup (pv 0)) (blkOk_by (N := scAlN) (sc := defScope scAlS) (by decide +kernel)) (fun _ _ _ _ _ => (pg_name (i := 4) scAl.nd rfl (.inl rfl))) (fun _ _ _ _ _ => (pts_one (pt_cmpR op_le (pv 4) (pv 3) (nomark _)))) (fun _ _ _ _ _ => (pv 4)))))), ?_⟩
    refine ⟨.int M, rfl, .ref t, rfl, t, bs, rfl, ht, bl, fun H1 s1 => ⟨_, _, rfl, rfl, ?_⟩⟩
    dsimp only [gName]
    have hc1 := s1.tup hc
    refine ⟨.ref c, rfl, c, rfl, ⟨_, hc1⟩, fun D nD => ?_⟩
    have nDH : H D = none := none_of_same s1 nD
    refine lc_tupF (xs := (tl sz (p + 1)).map V.int) (fun x => if decide (iV x ≤ (M : Int) - tot bs) = true then some x else none) hc1 nD (by rw [List.length_map, tl_len]; exact Nat.lt_of_le_of_lt (show p + 1 ≤ 101 by omega) (by decide)) (fun x hx H2 sm Y N hY hN => ?_) (fun H2 sm hD => ?_)
    · obtain ⟨z, hz, rfl⟩ := List.mem_map.mp hx
      refine ⟨rfl, .int z, rfl, .int _, rfl, _, _, rfl, rfl, _, rfl, ite2 (fun cc => ⟨.int z, rfl, ?_⟩) (fun cc => ?_)⟩
      · exact hY _ (if_pos cc)
      · exact hN (if_neg cc)
    · refine q H2 D nDH (s1.trans sm) ?_
      rw [hD]
      congr 2
      unfold alw
      generalize tl sz (p + 1) = l
      induction l with
      | nil => rfl
      | cons z r ih =>
        rw [List.map_cons, List.filterMap_cons, List.filter_cons]
        have ez : iV (V.int z) = z := rfl
        rw [ez]
        by_cases h : decide (z ≤ (M : Int) - tot bs) = true
        · rw [if_pos h, if_pos h, List.map_cons]
          exact congrArg _ ih
        · rw [if_neg h, if_neg h]
          exact ih
def spAs (K : PySem.W.Frag) : Sp := fun vs H Q _ => ∃ (c : Addr) (s : Nat → Nat) (p n M m : Nat), vs = [.ref c, .int n, .int M] ∧ SqT K H c ((tl s (p + 1)).map V.int) ∧ Cn s p m ∧ Sml s p n ∧
  ∀ H' T xs bss, H T = none → Same H H' → H' T = some (.tup xs) → StVs H' xs bss → (∀ bs, bs ∈ bss ↔ Gst s p M ((n * s p : Nat) : Int) bs) → bss.length ≤ 531441 → Q (.ref T) H'
theorem ok_As {k : Nat} (Z : Fns K mg) : FnOk P w K mg base CX0 (k + 1 + 1 + 1 + 1) Z.fAs Z.fdAs ["chain", "pages", "limit"] (spAs K) := by
  have GCh : FnOk P w K mg base CX0 (k + 1 + 1 + 1) Z.fCh Z.fdCh ["chain", "pages"] (spCh K) := ok_Ch Z
  have GSw : FnOk P w K mg base CX0 (k + 1) Z.fSw Z.fdSw ["chain", "words"] (spSw K) := ok_Sw Z
  have GV : FnOk P w K mg base CX0 (k + 1) Z.fV Z.fdV ["state"] spV := ok_V Z
  refine Z.FAs.ok scAs (fun vs H Q E h => ?_) (fun cdv A outer s H vs Q E hr h => ?_)
  · obtain ⟨c, s, p, n, M, m, rfl, _⟩ := h
    rfl
  · obtain ⟨c, sz, p, n, M, m, rfl, hc, cn, sml, q⟩ := h
    have hu64 := u64_of hr
    refine ⟨_, (pss_cons (ps_expr (pe_call GCh (hr.mono (by omega)) (by rfl) Z.gCh Z.FCh.kp Z.bCh .nil pass0 (pa_cons (pv 0) (pa_cons (pv 1) pa_nil))))
 (pss_cons (ps_set (i := 3) scAs.nd rfl (.inl rfl) (pe_call GSw (hr.mono (by omega)) (by rfl) Z.gSw Z.FSw.kp Z.bSw .nil pass0 (pa_cons (pv 0) (pa_cons (pe_op op_mul (pv 1) (pe_ix ix_tup (pv 0) (pe_un un_neg pe_int) (fun _ _ => rfl))) pa_nil))))
 (pss_one (ps_ret (pe_callTy call_tuple_of (by rfl) Z.N.tuple (by decide +kernel) (pa_cons (pe_callB (cr_sortedS hu64) (by rfl) Z.N.sorted (by decide +kernel) (pa_cons (pe_lc (own := [("state", 4)]) (g := (gName 4)) (by rfl) scAs.nd (pi_list (pv 3)) (blkOk_by (N := scAsN) (sc := defScope scAsS) (by decide +kernel)) (fun _ _ _ _ _ => (pg_name (i := 4) scAs.nd rfl (.inl rfl))) (fun _ _ _ _ _ => (pts_one (pt_cmpR op_le (pe_call GV (hr.mono (by omega)) (by rfl) Z.gV Z.FV.kp Z.bV .nil pass0 (pa_cons (pv 4) pa_nil)) (pv 2) (nomark _)))) (fun _ _ _ _ _ => (pv 4))) pa_nil)) pa_nil)))))), ?_⟩
    have s1 := sml.z
    have n1 := sml.n
    have w1 := sml.w
    have e : ((n : Nat) : Int) * ((sz p : Nat) : Int) = ((n * sz p : Nat) : Int) := (Int.natCast_mul _ _).symm
    refine ⟨.ref c, rfl, .int n, rfl, c, sz, p, n, m, rfl, hc, cn, sml, fun H1 v s1 => ?_⟩
    have hc1 := s1.tup hc
    refine ⟨.ref c, rfl, .int n, rfl, .ref c, rfl, 1, rfl, c, _, -1, _, rfl, rfl, hc1, tl_atL, _, _, rfl, rfl, .inl ⟨by omega, by omega⟩, c, sz, p, n, m, by rw [← e]; rfl, hc1, cn, sml, fun H2 D xs bss nD s2 hD hx hm hl => ?_⟩
    dsimp only [gName]
    refine ⟨.ref D, rfl, D, rfl, ⟨_, .inl (.inl hD)⟩, fun E nE => ?_⟩
    have xl : xs.length = bss.length := Paired.length hx
    have few : ∀ bs ∈ bss, bs.length ≤ 12 := fun bs h => by
      have := st_len ((hm bs).mp h) (by omega)
      omega
    refine lc_RF (walk_list (K := K) (a := D) (xs := xs)) (fun _ _ _ _ y => YAt.same y) (fun j => decide (tot (bss.getD j []) ≤ (M : Int))) (fun H8 j y => StV H8 y (bss.getD j [])) (fun H8 H9 _ y kp h => by obtain ⟨t, e, h⟩ := h; exact ⟨t, e, h.mono kp⟩) nE (by rw [xl]; exact Nat.lt_of_le_of_lt hl (by decide)) (fun H4 s4 => .inl (.inl (s4 _ _ hD))) (fun j y H8 H9 hj s8 yy Z N hZ hN => ?_) (fun H8 ys s8 hE pr => ?_)
    · obtain ⟨rfl, hxj⟩ := yy
      obtain ⟨bs, hbs, t, rfl, ht⟩ := Paired.get hx hxj
      have eg : bss.getD j [] = bs := by rw [List.getD_eq_getElem?_getD, hbs]; rfl
      have ht9 := ht.same s8
      have bl := few bs (List.mem_of_getElem? hbs)
      rw [eg] at hZ hN
      refine ⟨rfl, .ref t, rfl, t, bs, rfl, ht9, by omega, fun H10 s10 => ⟨.int M, rfl, _, _, rfl, rfl, _, rfl, ite2 (fun cc => ⟨.ref t, rfl, hZ _ _ s10 cc ⟨t, rfl, ht9.same s10⟩⟩) (fun cc => hN _ s10 (by simpa using cc))⟩⟩
    · have hys : StVs H8 ys ((((List.range xs.length).filter fun j => decide (tot (bss.getD j []) ≤ (M : Int)))).map fun j => bss.getD j []) := paired_mapL (F := fun y bs => StV H8 y bs) (f := fun j => bss.getD j []) (Paired.mono (fun _ _ h => h) pr)
      have mem : ∀ bs, bs ∈ (((List.range xs.length).filter fun j => decide (tot (bss.getD j []) ≤ (M : Int)))).map (fun j => bss.getD j []) ↔ bs ∈ bss ∧ tot bs ≤ M := fun bs => by
        rw [List.mem_map]
        constructor
        · rintro ⟨j, hj, rfl⟩
          obtain ⟨h1, h2⟩ := List.mem_filter.mp hj
          have lt := List.mem_range.mp h1
          rw [List.getD_eq_getElem?_getD, List.getElem?_eq_getElem (by omega)] at h2 ⊢
          exact ⟨List.getElem_mem _, of_decide_eq_true h2⟩
        · rintro ⟨h1, h2⟩
          obtain ⟨j, hj, e⟩ := List.getElem_of_mem h1
          have eg : bss.getD j [] = bs := by rw [List.getD_eq_getElem?_getD, List.getElem?_eq_getElem hj, e]; rfl
          exact ⟨j, List.mem_filter.mpr ⟨List.mem_range.mpr (by omega), by rw [eg]; exact decide_eq_true h2⟩, eg⟩
      have ylen : ys.length ≤ 531441 := by
        have h1 := Paired.length hys
        have h2 := List.length_filter_le (fun j => decide (tot (bss.getD j []) ≤ (M : Int))) (List.range xs.length)
        rw [List.length_map] at h1
        rw [List.length_range] at h2
        omega
      refine ⟨E, ys, _, rfl, .inl (.inl hE), hys, fun zs css p pm hz np => ⟨p, zs, rfl, .inl ⟨.inl (.inl upd_same), fun T nT => ?_⟩⟩⟩
      have sp := same_upd (o := .lst zs) np
      have sT := same_upd (o := .tup zs) nT
      have s2T := s2.trans (s8.trans (sp.trans sT))
      refine q _ T zs css (none_of_same s1 (none_of_same s2 (none_of_same s8 (none_of_same sp nT)))) (s1.trans s2T) upd_same ((hz.kt (Same.kt sp)).kt (Same.kt sT)) (fun bs => ?_) ?_
      · rw [pm.mem_iff, mem, hm]
        exact ⟨fun h => ⟨h.1, h.2⟩, fun h => ⟨h.1, h.2⟩⟩
      · have := pm.length_eq
        have := Paired.length hys
        omega
end
end Ph

set_option maxHeartbeats 8000000
namespace Ph
open PySem PySem.Spec PyProof.Rows L2
/-! ### the program's tables of a game -/
def reqV : Rqt → List V
  | .fr a => [.str "free", .int a]
  | .gt z => [.str "get", .int z]
def ReqAt (H : Hp) (v : V) (q : Rqt) : Prop := ∃ r, v = .ref r ∧ H r = some (.tup (reqV q))
theorem ReqAt.kt {H H' : Hp} {v : V} {q : Rqt} (h : ReqAt H v q) (k : Kt H H') : ReqAt H' v q := by
  obtain ⟨r, e, hr⟩ := h
  exact ⟨r, e, k.kpT _ _ hr⟩
/-- a state with a request, as a pair -/
def RqV (H : Hp) (y : V) (x : List Bk × Rqt) : Prop := ∃ T u v, y = .ref T ∧ H T = some (.tup [.ref u, v]) ∧ StAt H u x.1 ∧ ReqAt H v x.2
theorem RqV.kt {H H' : Hp} {y : V} {x : List Bk × Rqt} (h : RqV H y x) (k : Kt H H') : RqV H' y x := by
  obtain ⟨T, u, v, e, hT, hu, hv⟩ := h
  exact ⟨T, u, v, e, k.kpT _ _ hT, k.st hu, hv.kt k⟩
/-- how many answers are left, for each state and each size that the limit allows -/
def Esc (w : World) (H : Hp) (e : Addr) (s : Nat → Nat) (p M : Nat) (W : Int) (ps : List (List Bk)) : Prop :=
  ∃ kvs, KD w H e kvs ∧ kvs.length ≤ 8000000 ∧ ∀ bs j, Gst s p M W bs → j ≤ p → totB bs + ((s j : Nat) : Int) ≤ M → valV kvs (ekey bs ((s j : Nat) : Int)) = some (.int ((cnt W ps bs ((s j : Nat) : Int) : Nat) : Int))
theorem Esc.kt {w : World} {H H' : Hp} {e : Addr} {s : Nat → Nat} {p M : Nat} {W : Int} {ps : List (List Bk)} (h : Esc w H e s p M W ps) (k : Kt H H') (x : ∀ u, H e = some u → H' e = some u) : Esc w H' e s p M W ps := by
  obtain ⟨kvs, kd, l, v⟩ := h
  exact ⟨kvs, kd.kt k x, l, v⟩
theorem Esc.ext {w : World} {H : Hp} {e : Addr} {s : Nat → Nat} {p M : Nat} {W : Int} {ps : List (List Bk)} (h : Esc w H e s p M W ps) : ∃ φ, H e = some (.ext φ) := by
  obtain ⟨kvs, kd, _⟩ := h
  exact kd.ext
theorem alw_mem {s : Nat → Nat} {p M : Nat} {bs : List Bk} {z : Int} : z ∈ alw s p M bs ↔ ∃ j, j ≤ p ∧ z = ((s j : Nat) : Int) ∧ totB bs + ((s j : Nat) : Int) ≤ M := by
  unfold alw
  rw [List.mem_filter, tl_mem]
  constructor
  · rintro ⟨⟨j, hj, rfl⟩, h⟩
    have h := of_decide_eq_true h
    have e : tot bs = totB bs := rfl
    exact ⟨j, by omega, rfl, by omega⟩
  · rintro ⟨j, hj, rfl, h⟩
    have e : tot bs = totB bs := rfl
    exact ⟨⟨j, by omega, rfl⟩, decide_eq_true (by omega)⟩
section
variable {P : Program} {w : World} {K : PySem.W.Frag} {mg : Str → Option Value} {base : Heap}
def spRq (w : World) : Sp := fun vs H Q _ => ∃ (c t e : Addr) (s : Nat → Nat) (p n M m : Nat) (ps : List (List Bk)) (cs : List Bk), vs = [.ref c, .int M, .int n, .ref t, .ref e] ∧ ChAt H c (tl s (p + 1)) ∧ Cn s p m ∧ Sml s p n ∧ StAt H t cs ∧ Gst s p M ((n * s p : Nat) : Int) cs ∧ cs ∉ ps ∧ Esc w H e s p M ((n * s p : Nat) : Int) ps ∧
  ∀ H' D ys L, H D = none → But e H H' → Esc w H' e s p M ((n * s p : Nat) : Int) (ps ++ [cs]) → H' D = some (.lst ys) → Paired (RqV H') ys L → (∀ x ∈ L, Gst s p M ((n * s p : Nat) : Int) x.1 ∧ Into s p M ((n * s p : Nat) : Int) (ps ++ [cs]) cs x.1 x.2) →
    (∀ bs q, Gst s p M ((n * s p : Nat) : Int) bs → Into s p M ((n * s p : Nat) : Int) (ps ++ [cs]) cs bs q → ∃ q', (bs, q') ∈ L) → ys.length ≤ 300 → Q (.ref D) H'
theorem ok_Rq {k : Nat} (Z : Fns K mg) : FnOk P w K mg base CX0 (k + 1 + 1 + 1 + 1 + 1 + 1) Z.fRq Z.fdRq ["chain", "limit", "pages", "state", "escapes"] (spRq w) := by
  have GAl : FnOk P w K mg base CX0 (k + 1 + 1) Z.fAl Z.fdAl ["chain", "limit", "state"] (spAl K) := ok_Al Z
  have GPl : FnOk P w K mg base CX0 (k + 1 + 1 + 1 + 1 + 1) Z.fPl Z.fdPl ["chain", "pages", "state", "size"] spPl := ok_Pl Z
  have GWb : FnOk P w K mg base CX0 (k + 1) Z.fWb Z.fdWb ["state", "address", "size"] spWb := ok_Wb Z
  have GOb : FnOk P w K mg base CX0 (k + 1 + 1 + 1) Z.fOb Z.fdOb ["state", "address"] (spOb K) := ok_Ob Z
  refine Z.FRq.ok scRq (fun vs H Q E h => ?_) (fun cdv A outer s H vs Q E hr h => ?_)
  · obtain ⟨c, t, e, s, p, n, M, m, ps, cs, rfl, _⟩ := h
    rfl
  · obtain ⟨c, t, e, sz, p, n, M, m, ps, cs, rfl, hc, cn, sml, ht, g, nps, esc, fin⟩ := h
    have hu64 := u64_of hr
    refine ⟨_, (pss_cons (ps_set (i := 5) scRq.nd rfl (.inl rfl) (pe_lst pa_nil))
 (pss_cons (ps_for PassesOwn.never rfl (pi_list (pe_call GAl (hr.mono (by omega)) (by rfl) Z.gAl Z.FAl.kp Z.bAl .nil pass0 (pa_cons (pv 0) (pa_cons (pv 1) (pa_cons (pv 3) pa_nil))))) (pg_name (i := 6) scRq.nd rfl (.inl rfl))
 (pss_one (ps_for PassesOwn.never rfl (pi_tup (pe_call GPl (hr.mono (by omega)) (by rfl) Z.gPl Z.FPl.kp Z.bPl .nil pass0 (pa_cons (pv 0) (pa_cons (pv 2) (pa_cons (pv 3) (pa_cons (pv 6) pa_nil)))))) (pg_name (i := 7) scRq.nd rfl (.inl rfl))
 (pss_one (ps_expr (pe_bm PySem.F.plainAttrs_list PySem.F.slot_list_append PySem.F.type_list_append mt_append (pv 5) (pa_cons (pe_tup (pa_cons (pe_call GWb (hr.mono (by omega)) (by rfl) Z.gWb Z.FWb.kp Z.bWb .nil pass0 (pa_cons (pv 3) (pa_cons (pv 7) (pa_cons (pv 6) pa_nil)))) (pa_cons (pe_tup (pa_cons pe_str (pa_cons (pv 7) pa_nil))) pa_nil))) pa_nil)))))))
 (pss_cons (ps_for PassesOwn.never rfl (pi_tup (pv 3)) (pg_tup (by rfl) (pgs_cons (pg_name (i := 8) scRq.nd rfl (.inl rfl)) (pgs_cons (pg_name (i := 6) scRq.nd rfl (.inl rfl)) pgs_nil)))
 (pss_cons (ps_set (i := 9) scRq.nd rfl (.inl rfl) (pe_call GOb (hr.mono (by omega)) (by rfl) Z.gOb Z.FOb.kp Z.bOb .nil pass0 (pa_cons (pv 3) (pa_cons (pv 8) pa_nil))))
 (pss_cons (ps_kaug hu64 (pv 4) (pe_tup (pa_cons (pv 9) (pa_cons (pv 6) pa_nil))) pe_int ip_sub (by intros; rfl))
 (pss_one (ps_if (pt_cmpR op_eq (pe_kget hu64 (pv 4) (pe_tup (pa_cons (pv 9) (pa_cons (pv 6) pa_nil))) (fun _ _ => rfl)) pe_int (nomark _))
 (pss_one (ps_expr (pe_bm PySem.F.plainAttrs_list PySem.F.slot_list_append PySem.F.type_list_append mt_append (pv 5) (pa_cons (pe_tup (pa_cons (pv 9) (pa_cons (pe_tup (pa_cons pe_str (pa_cons (pv 6) pa_nil))) pa_nil))) pa_nil)))) pss_nil)))))
 (pss_one (ps_ret (pv 5)))))), ?_⟩
    obtain ⟨W, hW⟩ : ∃ W : Nat, n * sz p = W := ⟨_, rfl⟩
    rw [hW] at g esc fin
    have s1 := sml.z
    have n1 := sml.n
    have p1 := sml.q
    have w1 : W ≤ 12 := by have := sml.w; omega
    have eW : ((n : Nat) : Int) * ((sz p : Nat) : Int) = (W : Int) := by rw [← hW, Int.natCast_mul]
    have szp : ∀ j, j ≤ p → 0 < sz j ∧ sz j ≤ 12 := fun j hj => ⟨cn.ch.pos (by omega), Nat.le_trans (cn.ch.mono (i := j) (j := p) hj (by omega)) sml.z⟩
    have few := st_len g.st (by omega)
    have hc' : ChAt H c (tl sz p ++ [((sz p : Nat) : Int)]) := by rw [← tl_succ]; exact hc
    refine ⟨(by show 0 ≤ sizeLine; decide), fun D nD => ?_⟩
    have sD := same_upd (o := .lst []) nD
    have hD0 : upd H D (.lst []) D = some (.lst []) := upd_same
    have esc1 := esc.kt (Same.kt sD) fun u e => sD _ _ e
    have nDe : e ≠ D := by
      obtain ⟨φ, h⟩ := esc.ext
      exact ne_of_none h nD
    generalize upd H D (.lst []) = H1 at *
    dsimp only [gName]
    have hc1 := hc'.keep sD
    have ht1 := ht.same sD
    refine seq_splitR (fun σ' H' => ∃ y6 y7 y8 y9 ys L, σ' = [some (.ref c), some (.int M), some (.int n), some (.ref t), some (.ref e), some (.ref D), y6, y7, y8, y9] ∧ But D H1 H' ∧ H' D = some (.lst ys) ∧ Paired (RqV H') ys L ∧ (∀ x ∈ L, ∃ j a, j ≤ p ∧ totB cs + ((sz j : Nat) : Int) ≤ M ∧ Plc W cs ((sz j : Nat) : Int) a ∧ x = (wb cs a ((sz j : Nat) : Int), Rqt.fr a)) ∧
      (∀ j a, j ≤ p → totB cs + ((sz j : Nat) : Int) ≤ M → Plc W cs ((sz j : Nat) : Int) a → (wb cs a ((sz j : Nat) : Int), Rqt.fr a) ∈ L) ∧ ys.length ≤ 72) (fun D' rt' hD' => ?_) ?_
    · refine ⟨.ref c, rfl, .int M, rfl, .ref t, rfl, c, t, sz, p, M, cs, rfl, by rw [tl_succ]; exact hc1.sq, by omega, ht1, by omega, fun H2 A nA s2 hA => ?_⟩
      have hD2 := s2 _ _ hD0
      have nAD : A ≠ D := (ne_of_none hD0 nA).symm
      have al : (alw sz p M cs).length ≤ 6 := by
        have := List.length_filter_le (fun z => decide (z ≤ (M : Int) - tot cs)) (tl sz (p + 1))
        unfold alw
        rw [tl_len] at this
        omega
      refine ⟨A, rfl, ⟨_, .inl (.inl hA)⟩, ?_⟩
      refine for_it (walk_list (K := K) (a := A) (xs := (alw sz p M cs).map V.int)) (fun i σ H' => ∃ y6 y7 y8 y9 ys L, σ = [some (.ref c), some (.int M), some (.int n), some (.ref t), some (.ref e), some (.ref D), y6, y7, y8, y9] ∧ But D H2 H' ∧ H' D = some (.lst ys) ∧ Paired (RqV H') ys L ∧ (∀ x ∈ L, ∃ j a, j ≤ p ∧ totB cs + ((sz j : Nat) : Int) ≤ M ∧ Plc W cs ((sz j : Nat) : Int) a ∧ x = (wb cs a ((sz j : Nat) : Int), Rqt.fr a)) ∧
        (∀ i' z a, i' < i → (alw sz p M cs)[i']? = some z → Plc W cs z a → (wb cs a z, Rqt.fr a) ∈ L) ∧ ys.length ≤ 12 * i)
        ⟨_, _, _, _, [], [], rfl, But.refl _ _, hD2, .nil, (fun x h => nomatch h), fun i' z a h => absurd h (by omega), Nat.zero_le _⟩ (fun i σ H' _ q => ?_) ?_ ?_
      · obtain ⟨_, _, _, _, _, _, _, b, _⟩ := q
        exact .inl (.inl (b _ _ nAD hA))
      · rintro i x σ H3a H3 hi ⟨y6, y7, y8, y9, ys, L, rfl, b3, hD3, pr3, so3, co3, ln3⟩ ⟨rfl, hx⟩
        rw [List.length_map] at hi
        obtain ⟨z, hz, rfl⟩ : ∃ z, (alw sz p M cs)[i]? = some z ∧ x = V.int z := by
          rw [List.getElem?_map] at hx
          obtain ⟨z, h1, h2⟩ := Option.map_eq_some_iff.mp hx
          exact ⟨z, h1, h2.symm⟩
        obtain ⟨j, hj, rfl, lim⟩ := alw_mem.mp (List.mem_of_getElem? hz)
        obtain ⟨z0, z1⟩ := szp j hj
        dsimp only [gName]
        have kt3 : Kt H1 H3 := (Same.kt s2).trans fun a o e _ n => b3 _ _ (fun z => by rw [z, hD2] at e; exact n _ (Option.some.inj e).symm) e
        have hc3 := kt3.ch hc1
        have ht3 := kt3.st ht1
        refine ⟨.ref c, rfl, .int n, rfl, .ref t, rfl, .int _, rfl, c, t, tl sz p, ((sz p : Nat) : Int), (n : Int), ((sz j : Nat) : Int), cs, rfl, hc3, by rw [← tl_succ]; exact tl_mem.mpr ⟨j, by omega, rfl⟩, by omega, by omega, by omega, by omega, by omega, by omega, ht3, by rw [← tl_succ, eW]; exact g.st, by omega, fun H4 T s4 hT => ?_⟩
        rw [eW] at hT
        have hT : H4 T = some (.tup ((plcs W cs ((sz j : Nat) : Int)).map V.int)) := hT
        have hD4 := s4 _ _ hD3
        have pl := plcs_len (z := ((sz j : Nat) : Int)) (by omega) (by omega) g.st
        have ht4 := ht3.same s4
        refine ⟨T, rfl, ⟨_, .inl (.inl hT)⟩, ?_⟩
        refine for_it (walk_tup (K := K) (a := T) (xs := (plcs W cs ((sz j : Nat) : Int)).map V.int)) (fun k σ H' => ∃ y7 y8 y9 ys L, σ = [some (.ref c), some (.int M), some (.int n), some (.ref t), some (.ref e), some (.ref D), some (.int ((sz j : Nat) : Int)), y7, y8, y9] ∧ But D H4 H' ∧ H' D = some (.lst ys) ∧ Paired (RqV H') ys L ∧ (∀ x ∈ L, ∃ j a, j ≤ p ∧ totB cs + ((sz j : Nat) : Int) ≤ M ∧ Plc W cs ((sz j : Nat) : Int) a ∧ x = (wb cs a ((sz j : Nat) : Int), Rqt.fr a)) ∧
          (∀ i' z a, i' < i → (alw sz p M cs)[i']? = some z → Plc W cs z a → (wb cs a z, Rqt.fr a) ∈ L) ∧ (∀ k' a, k' < k → (plcs W cs ((sz j : Nat) : Int))[k']? = some a → (wb cs a ((sz j : Nat) : Int), Rqt.fr a) ∈ L) ∧ ys.length ≤ 12 * i + k)
          ⟨_, _, _, ys, L, rfl, But.refl _ _, hD4, Paired.mono (fun _ _ h => h.kt (Same.kt s4)) pr3, so3, co3, fun k' a h => absurd h (by omega), ln3⟩ (fun k σ H' _ q => ?_) ?_ ?_
        · obtain ⟨_, _, _, _, _, _, b, _⟩ := q
          have nTD : T ≠ D := fun z => by rw [z, hD4] at hT; cases hT
          exact .inl (.inl (b _ _ nTD hT))
        · rintro k x σ H5a H5 hk ⟨y7, y8, y9, ys, L, rfl, b5, hD5, pr5, so5, co5, cp5, ln5⟩ ⟨rfl, hx⟩
          rw [List.length_map] at hk
          obtain ⟨a, ha, rfl⟩ : ∃ a, (plcs W cs ((sz j : Nat) : Int))[k]? = some a ∧ x = V.int a := by
            rw [List.getElem?_map] at hx
            obtain ⟨z, h1, h2⟩ := Option.map_eq_some_iff.mp hx
            exact ⟨z, h1, h2.symm⟩
          have pa := (mem_plcs (by omega) (by omega) g.st).mp (List.mem_of_getElem? ha)
          have kt5 : Kt H4 H5 := fun a o e _ n => b5 _ _ (fun z => by rw [z, hD4] at e; exact n _ (Option.some.inj e).symm) e
          have ht5 := kt5.st ht4
          dsimp only [gName]
          refine ⟨.ref D, rfl, .inl ⟨rfl, _, .inl (.inl hD5)⟩, .ref t, rfl, .int a, rfl, .int _, rfl, t, cs, a, _, rfl, ht5, by omega, fun H6 u bs s6 hu pm srt => ?_⟩
          have eb := wb_of g.st pm srt
          subst eb
          refine ⟨.int a, rfl, (by show 2 ≤ sizeLine; decide), fun R nR => ⟨(by show 2 ≤ sizeLine; decide), fun U nU => ?_⟩⟩
          have sR := same_upd (o := .tup [.str "free", .int a]) nR
          have sU := same_upd (o := .tup [.ref u, .ref R]) nU
          have s68 := s6.trans (sR.trans sU)
          have hD8 := s68 _ _ hD5
          have new : RqV (upd (upd H6 R (.tup [.str "free", .int a])) U (.tup [.ref u, .ref R])) (.ref U) (wb cs a ((sz j : Nat) : Int), Rqt.fr a) := ⟨U, u, .ref R, rfl, upd_same, hu.same (sR.trans sU), R, rfl, sU _ _ upd_same⟩
          have pr8 := Paired.mono (fun _ _ h => RqV.kt h (Same.kt s68)) pr5
          generalize upd (upd H6 R (.tup [.str "free", .int a])) U (.tup [.ref u, .ref R]) = H8 at *
          have kt := kt_upd (ys := ys ++ [.ref U]) hD8
          refine ⟨D, ys, _, rfl, rfl, hD8, Nat.lt_of_le_of_lt (show ys.length ≤ 100 by omega) (by decide), ?_⟩
          refine ⟨_, _, _, ys ++ [.ref U], L ++ [(wb cs a ((sz j : Nat) : Int), Rqt.fr a)], rfl, fun b o nb e => by rw [upd_ne nb]; exact s68 _ _ (b5 _ _ nb e), upd_same, Paired.mono (fun _ _ h => RqV.kt h kt) (Paired.snoc pr8 new), fun x h => ?_, fun i' z a' h1 h2 h3 => List.mem_append_left _ (co5 i' z a' h1 h2 h3), fun k' a' h1 h2 => ?_, by rw [List.length_append]; show ys.length + 1 ≤ _; omega⟩
          · rcases List.mem_append.mp h with h | h
            · exact so5 x h
            · exact ⟨j, a, hj, lim, pa, List.mem_singleton.mp h⟩
          · rcases Nat.lt_or_ge k' k with q | q
            · exact List.mem_append_left _ (cp5 k' a' q h2)
            · obtain rfl : k' = k := by omega
              rw [ha] at h2
              cases h2
              exact List.mem_append_right _ (List.mem_singleton.mpr rfl)
        · rintro σ H5 ⟨y7, y8, y9, ys, L, rfl, b5, hD5, pr5, so5, co5, cp5, ln5⟩
          rw [List.length_map] at cp5 ln5
          refine ⟨_, _, _, _, ys, L, rfl, fun b o nb e => b5 _ _ nb (s4 _ _ (b3 _ _ nb e)), hD5, pr5, so5, fun i' z a h1 h2 h3 => ?_, by omega⟩
          rcases Nat.lt_or_ge i' i with q | q
          · exact co5 i' z a q h2 h3
          · obtain rfl : i' = i := by omega
            rw [hz] at h2
            cases h2
            obtain ⟨k', hk', e⟩ := List.getElem_of_mem ((mem_plcs (by omega) (by omega) g.st).mpr h3)
            exact cp5 k' a hk' (by rw [List.getElem?_eq_getElem hk', e])
      · rintro σ H3 ⟨y6, y7, y8, y9, ys, L, rfl, b3, hD3, pr3, so3, co3, ln3⟩
        rw [List.length_map] at co3 ln3
        refine hD' _ _ ⟨_, _, _, _, ys, L, rfl, fun b o nb e => b3 _ _ nb (s2 _ _ e), hD3, pr3, so3, fun j a hj l pa => ?_, by omega⟩
        obtain ⟨i', hi', e⟩ := List.getElem_of_mem (alw_mem.mpr ⟨j, hj, rfl, l⟩)
        exact co3 i' _ a hi' (by rw [List.getElem?_eq_getElem hi', e]) pa
    · rintro σ' H2 ⟨y6, y7, y8, y9, ys, L, rfl, b2, hD2, pr2, so2, co2, ln2⟩
      have kt2 : Kt H1 H2 := fun a o e _ n => b2 _ _ (fun z => by rw [z, hD0] at e; exact n _ (Option.some.inj e).symm) e
      have ht2 := kt2.st ht1
      have esc2 := esc1.kt kt2 fun u e => b2 _ _ nDe e
      obtain ⟨kvs0, kd0, kl0, kv0⟩ := esc2
      obtain ⟨xs, hx, bls⟩ := id ht2
      have asc := g.st.ascL
      -- which counts have been made smaller
      obtain ⟨hit, hhit⟩ : ∃ hit : Nat → List Bk → Int → Bool, hit = fun k bs z => (cs.take k).any fun b => decide ((ct cs b.1, b.2) = (bs, z)) := ⟨_, rfl⟩
      refine ⟨.ref t, rfl, t, rfl, ⟨_, .inl (.inl hx)⟩, ?_⟩
      refine for_it (walk_tup (K := K) (a := t) (xs := xs)) (fun k σ H' => ∃ y6 y7 y8 y9 ys L kvs, σ = [some (.ref c), some (.int M), some (.int n), some (.ref t), some (.ref e), some (.ref D), y6, y7, y8, y9] ∧ KG e D H2 H' ∧ H' D = some (.lst ys) ∧ KD w H' e kvs ∧ kvs.length ≤ 8000000 ∧
        (∀ bs j, Gst sz p M W bs → j ≤ p → totB bs + ((sz j : Nat) : Int) ≤ M → valV kvs (ekey bs ((sz j : Nat) : Int)) = some (.int (((if hit k bs ((sz j : Nat) : Int) then cnt W (ps ++ [cs]) bs ((sz j : Nat) : Int) else cnt W ps bs ((sz j : Nat) : Int)) : Nat) : Int))) ∧
        Paired (RqV H') ys L ∧ (∀ x ∈ L, Gst sz p M W x.1 ∧ Into sz p M W (ps ++ [cs]) cs x.1 x.2) ∧
        (∀ j a, j ≤ p → totB cs + ((sz j : Nat) : Int) ≤ M → Plc W cs ((sz j : Nat) : Int) a → (wb cs a ((sz j : Nat) : Int), Rqt.fr a) ∈ L) ∧ (∀ k' b, k' < k → cs[k']? = some b → cnt W (ps ++ [cs]) (ct cs b.1) b.2 = 0 → (ct cs b.1, Rqt.gt b.2) ∈ L) ∧ ys.length ≤ 72 + k)
        ⟨_, _, _, _, ys, L, kvs0, rfl, KG.refl _, hD2, kd0, kl0, fun bs j gb hj l => ?_, pr2, fun x h => ?_, co2, fun k' b h => absurd h (by omega), ln2⟩ (fun i σ H' _ q => ?_) ?_ ?_
      · rw [kv0 bs j gb hj l, hhit]
        rfl
      · obtain ⟨j, a, hj, l, pa, rfl⟩ := so2 x h
        obtain ⟨z0, _⟩ := szp j hj
        exact ⟨g.put cn.ch hj l pa, (a, ((sz j : Nat) : Int)), mem_wb.mpr (.inr rfl), rfl, ct_wb g.st (by omega) pa⟩
      · obtain ⟨_, _, _, _, _, _, _, _, k, _⟩ := q
        exact .inl (.inl (k.kpT _ _ hx))
      · rintro k x σ H3a H3 hk ⟨y6, y7, y8, y9, ys, L, kvs, rfl, k3, hD3, kd3, kl3, kv3, pr3, so3, co3, cg3, ln3⟩ ⟨rfl, hxk⟩
        obtain ⟨b, hb, u0, rfl, hu0⟩ := BL.get bls hxk
        have hu3 := k3.kpT _ _ hu0
        have kk : k < 13 := by have := bls.len; omega
        have hbm := List.mem_of_getElem? hb
        have ht3 := k3.st ht2
        obtain ⟨jb, hjb, ejb⟩ := tl_mem.mp (g.st.ok b hbm).1
        obtain ⟨z0, z1⟩ := szp jb (by omega)
        have gc : Gst sz p M W (ct cs b.1) := g.cut
        have lim : totB (ct cs b.1) + ((sz jb : Nat) : Int) ≤ M := by
          have := totB_ct g.st hbm
          have := g.lim
          omega
        have noh : hit k (ct cs b.1) ((sz jb : Nat) : Int) = false := by
          rw [hhit]
          refine List.any_eq_false.mpr fun b' hb' q => ?_
          have q := of_decide_eq_true q
          obtain ⟨i', hi', e'⟩ := List.getElem_of_mem hb'
          rw [List.length_take] at hi'
          have hb'm := List.mem_of_mem_take hb'
          have e1 : ct cs b'.1 = ct cs b.1 := (Prod.mk.inj q).1
          have : b'.1 = b.1 := Classical.byContradiction fun ne => by
            have : b' ∈ ct cs b.1 := List.mem_filter.mpr ⟨hb'm, decide_eq_true ne⟩
            rw [← e1] at this
            exact absurd rfl (of_decide_eq_true (List.mem_filter.mp this).2)
          have eb := asc.addr hb'm hbm this
          subst eb
          have h1 : (cs.take k)[i']'(by rw [List.length_take]; omega) = cs[i']'(by omega) := List.getElem_take ..
          rw [h1] at e'
          obtain ⟨h2, h3⟩ := List.getElem?_eq_some_iff.mp hb
          have := List.pairwise_iff_getElem.mp asc i' k (by omega) h2 (by omega)
          rw [e', h3] at this
          exact absurd this (by have : ¬ b'.1 < b'.1 := by omega
                                exact this)
        have v3 := kv3 _ jb gc (by omega) lim
        rw [noh] at v3
        have hitc := cnt_hit (ps := ps) (cs := cs) (b := b) (W := W) (by omega) g.st hbm nps
        rw [ejb] at hitc
        refine ⟨u0, _, rfl, .inl (.inl hu3), rfl, _, _, rfl, _, _, rfl, rfl, ?_⟩
        dsimp only [gName]
        rw [ejb]
        refine ⟨.ref t, rfl, .int b.1, rfl, t, cs, b.1, rfl, ht3, by omega, ⟨b, hbm, rfl⟩, fun H4 u s4 hu => ?_⟩
        have hu : StAt H4 u (ct cs b.1) := hu
        dsimp only [gName]
        have kd4 := kd3.same s4
        refine ⟨.ref e, rfl, .ref u, rfl, .int _, rfl, (by show 2 ≤ sizeLine; decide), fun T nT => ?_⟩
        have sT := same_upd (o := .tup [.ref u, .int ((sz jb : Nat) : Int)]) nT
        have hT : upd H4 T (.tup [.ref u, .int ((sz jb : Nat) : Int)]) T = some (.tup [.ref u, .int ((sz jb : Nat) : Int)]) := upd_same
        have kd5 := kd4.same sT
        have hu5 := hu.same sT
        have s35 := s4.trans sT
        generalize upd H4 T (.tup [.ref u, .int ((sz jb : Nat) : Int)]) = H5 at *
        have nk := ekey_nk hT hu5
        refine ⟨e, T, kvs, ekey (ct cs b.1) ((sz jb : Nat) : Int), _, rfl, rfl, kd5, nk, ekey_depth _ _, v3, _, _, rfl, rfl, kd5, nk, Nat.lt_of_le_of_lt kl3 (by decide), fun H6 b6 kd6 => ?_⟩
        have ev : (((if false = true then cnt W (ps ++ [cs]) (ct cs b.1) ((sz jb : Nat) : Int) else cnt W ps (ct cs b.1) ((sz jb : Nat) : Int)) : Nat) : Int) - 1 = ((cnt W (ps ++ [cs]) (ct cs b.1) ((sz jb : Nat) : Int) : Nat) : Int) := by
          rw [if_neg (by decide)]
          omega
        have kd6 : KD w H6 e (putK kvs (ekey (ct cs b.1) ((sz jb : Nat) : Int)) (.int ((((if false = true then cnt W (ps ++ [cs]) (ct cs b.1) ((sz jb : Nat) : Int) else cnt W ps (ct cs b.1) ((sz jb : Nat) : Int)) : Nat) : Int) - 1))) := kd6
        rw [ev] at kd6
        have hD6 : H6 D = some (.lst ys) := b6 _ _ nDe.symm (s35 _ _ hD3)
        have k36 : KG e D H3 H6 := (KG.same s35).trans (KG.putD b6 kd5)
        have hu6 := (KG.putD (L := D) b6 kd5).st hu5
        have kl6 : (putK kvs (ekey (ct cs b.1) ((sz jb : Nat) : Int)) (.int ((cnt W (ps ++ [cs]) (ct cs b.1) ((sz jb : Nat) : Int) : Nat) : Int))).length ≤ 8000000 := by
          rw [putK_old_len (by rw [v3]; rfl)]
          exact kl3
        have kv6 : ∀ bs j, Gst sz p M W bs → j ≤ p → totB bs + ((sz j : Nat) : Int) ≤ M → valV (putK kvs (ekey (ct cs b.1) ((sz jb : Nat) : Int)) (.int ((cnt W (ps ++ [cs]) (ct cs b.1) ((sz jb : Nat) : Int) : Nat) : Int))) (ekey bs ((sz j : Nat) : Int)) = some (.int (((if hit (k + 1) bs ((sz j : Nat) : Int) then cnt W (ps ++ [cs]) bs ((sz j : Nat) : Int) else cnt W ps bs ((sz j : Nat) : Int)) : Nat) : Int)) := fun bs j gb hj l => by
          have et : cs.take (k + 1) = cs.take k ++ [b] := by rw [List.take_add_one, hb]; rfl
          have eh : hit (k + 1) bs ((sz j : Nat) : Int) = (hit k bs ((sz j : Nat) : Int) || decide ((ct cs b.1, b.2) = (bs, ((sz j : Nat) : Int)))) := by
            rw [hhit]
            dsimp only
            rw [et, List.any_append]
            simp
          rw [valV_put, eh]
          by_cases q : ekey bs ((sz j : Nat) : Int) = ekey (ct cs b.1) ((sz jb : Nat) : Int)
          · obtain ⟨q1, q2⟩ := ekey_inj q
            subst q1
            rw [if_pos q, q2, ejb]
            simp
          · have q3 : ¬ (ct cs b.1, b.2) = (bs, ((sz j : Nat) : Int)) := fun z => q (by
              obtain ⟨z1, z2⟩ := Prod.mk.inj z
              rw [← z1, ← z2, ejb])
            rw [if_neg q, decide_eq_false q3, Bool.or_false]
            exact kv3 bs j gb hj l
        -- the test
        refine ⟨.ref e, rfl, .ref u, rfl, .int _, rfl, (by show 2 ≤ sizeLine; decide), fun T2 nT2 => ?_⟩
        have sT2 := same_upd (o := .tup [.ref u, .int ((sz jb : Nat) : Int)]) nT2
        have hT2 : upd H6 T2 (.tup [.ref u, .int ((sz jb : Nat) : Int)]) T2 = some (.tup [.ref u, .int ((sz jb : Nat) : Int)]) := upd_same
        have kd7 := kd6.same sT2
        have hu7 := hu6.same sT2
        have k37 := k36.trans (KG.same sT2)
        have hD7 := sT2 _ _ hD6
        generalize upd H6 T2 (.tup [.ref u, .int ((sz jb : Nat) : Int)]) = H7 at *
        refine ⟨e, T2, _, ekey (ct cs b.1) ((sz jb : Nat) : Int), .int ((cnt W (ps ++ [cs]) (ct cs b.1) ((sz jb : Nat) : Int) : Nat) : Int), rfl, rfl, kd7, ekey_nk hT2 hu7, ekey_depth _ _, by rw [valV_put, if_pos rfl], rfl, _, rfl, ite2 (fun cc => ?_) (fun cc => ?_)⟩
        · have c0 : cnt W (ps ++ [cs]) (ct cs b.1) ((sz jb : Nat) : Int) = 0 := by
            have := V.int.inj (of_decide_eq_true cc)
            omega
          refine ⟨.ref D, rfl, .inl ⟨rfl, _, .inl (.inl hD7)⟩, .ref u, rfl, .int _, rfl, (by show 2 ≤ sizeLine; decide), fun R nR => ⟨(by show 2 ≤ sizeLine; decide), fun U nU => ?_⟩⟩
          have sR := same_upd (o := .tup [.str "get", .int ((sz jb : Nat) : Int)]) nR
          have sU := same_upd (o := .tup [.ref u, .ref R]) nU
          have s79 := sR.trans sU
          have hD9 := s79 _ _ hD7
          have new : RqV (upd (upd H7 R (.tup [.str "get", .int ((sz jb : Nat) : Int)])) U (.tup [.ref u, .ref R])) (.ref U) (ct cs b.1, Rqt.gt ((sz jb : Nat) : Int)) := ⟨U, u, .ref R, rfl, upd_same, hu7.same s79, R, rfl, sU _ _ upd_same⟩
          have kd9 := kd7.same s79
          have k39 := k37.trans (KG.same s79)
          generalize upd (upd H7 R (.tup [.str "get", .int ((sz jb : Nat) : Int)])) U (.tup [.ref u, .ref R]) = H9 at *
          have kl := KG.list (N := e) (ys := ys ++ [.ref U]) hD9
          refine ⟨D, ys, _, rfl, rfl, hD9, Nat.lt_of_le_of_lt (show ys.length ≤ 100 by omega) (by decide), ?_⟩
          refine ⟨_, _, _, _, ys ++ [.ref U], L ++ [(ct cs b.1, Rqt.gt ((sz jb : Nat) : Int))], _, rfl, (k3.trans k39).trans kl, upd_same, kd9.kt kl.kt (fun o h => by rw [upd_ne nDe]; exact h), kl6, kv6, Paired.mono (fun _ _ h => RqV.kt h kl.kt) (Paired.snoc (Paired.mono (fun _ _ h => RqV.kt h k39.kt) pr3) new), fun x h => ?_, fun j a h1 h2 h3 => List.mem_append_left _ (co3 j a h1 h2 h3), fun k' b' h1 h2 h3 => ?_, by rw [List.length_append]; show ys.length + 1 ≤ _; omega⟩
          · rcases List.mem_append.mp h with h | h
            · exact so3 x h
            · rw [List.mem_singleton.mp h]
              refine ⟨gc, jb, by omega, rfl, lim, (cnt_zero (by omega) (by omega) gc.st).mp c0, b.1, ?_, ?_⟩
              · rw [← ejb]; exact ct_plc g.st hbm
              · rw [← ejb]; exact wb_ct g.st hbm
          · rcases Nat.lt_or_ge k' k with q | q
            · exact List.mem_append_left _ (cg3 k' b' q h2 h3)
            · obtain rfl : k' = k := by omega
              rw [hb] at h2
              cases h2
              rw [ejb]
              exact List.mem_append_right _ (List.mem_singleton.mpr rfl)
        · refine ⟨_, _, _, _, ys, L, _, rfl, k3.trans k37, hD7, kd7, kl6, kv6, Paired.mono (fun _ _ h => RqV.kt h k37.kt) pr3, so3, co3, fun k' b' h1 h2 h3 => ?_, by omega⟩
          rcases Nat.lt_or_ge k' k with q | q
          · exact cg3 k' b' q h2 h3
          · obtain rfl : k' = k := by omega
            rw [hb] at h2
            cases h2
            rw [ejb] at h3
            exact absurd (decide_eq_true (by rw [h3]; rfl)) cc
      · rintro σ H3 ⟨y6, y7, y8, y9, ys, L, kvs, rfl, k3, hD3, kd3, kl3, kv3, pr3, so3, co3, cg3, ln3⟩
        have xl : xs.length = cs.length := bls.len
        rw [xl] at kv3 cg3 ln3
        refine ⟨.ref D, rfl, fin H3 D ys L nD (fun a o ne h => k3.fr _ _ ne (ne_of_none h nD) (b2 _ _ (ne_of_none h nD) (sD _ _ h))) ⟨kvs, kd3, kl3, fun bs j gb hj l => ?_⟩ hD3 pr3 so3 (fun bs q gb h => ?_) (by omega)⟩
        · rw [kv3 bs j gb hj l]
          obtain ⟨z0, _⟩ := szp j hj
          by_cases q : hit cs.length bs ((sz j : Nat) : Int) = true
          · rw [if_pos q]
          · rw [if_neg q, cnt_miss (cs := cs) (by omega) (by omega) gb.st g.st fun b hb z => q (by
              rw [hhit]
              dsimp only
              rw [List.take_length]
              exact List.any_eq_true.mpr ⟨b, hb, decide_eq_true z⟩)]
        · cases q with
          | fr a =>
            obtain ⟨b, hb, rfl, e⟩ := h
            obtain ⟨j, hj, ej⟩ := tl_mem.mp (gb.st.ok b hb).1
            have pl := ct_plc gb.st hb
            have back := wb_ct gb.st hb
            have tt := totB_ct gb.st hb
            rw [e] at pl back tt
            rw [ej] at pl back tt
            exact ⟨_, by rw [← back]; exact co3 j b.1 (by omega) (by have := gb.lim; omega) pl⟩
          | gt z =>
            obtain ⟨j, hj, rfl, l, h1, a, pa, ea⟩ := h
            obtain ⟨z0, _⟩ := szp j hj
            have mem : (a, ((sz j : Nat) : Int)) ∈ cs := by rw [← ea]; exact mem_wb.mpr (.inr rfl)
            have cte : ct cs a = bs := by rw [← ea]; exact ct_wb gb.st (by omega) pa
            obtain ⟨k', hk', e⟩ := List.getElem_of_mem mem
            have := cg3 k' _ hk' (by rw [List.getElem?_eq_getElem hk', e]) (by
              show cnt W (ps ++ [cs]) (ct cs a) ((sz j : Nat) : Int) = 0
              rw [cte]
              exact (cnt_zero (by omega) (by omega) gb.st).mpr h1)
            have this : (ct cs a, Rqt.gt ((sz j : Nat) : Int)) ∈ L := this
            rw [cte] at this
            exact ⟨_, this⟩
end
end Ph

set_option maxHeartbeats 8000000
namespace Ph
open PySem PySem.Spec PyProof.Rows L2
/-! ### the table of the lost states -/
/-- an entry: the fewest moves, and a request that begins them -/
def Uv (s : Nat → Nat) (p M : Nat) (W : Int) (H : Hp) (x : KAV) : Prop := ∃ bs r q u v, x.1 = skey bs ∧ StAt H x.2.1 bs ∧ Gst s p M W bs ∧ x.2.2 = .ref u ∧ H u = some (.tup [.int ((r : Nat) : Int), v]) ∧ ReqAt H v q ∧ Rnk s p M W r bs ∧ Goes s p M W r bs q
theorem Uv.kt {s : Nat → Nat} {p M : Nat} {W : Int} {H H' : Hp} {x : KAV} (h : Uv s p M W H x) (k : Kt H H') : Uv s p M W H' x := by
  obtain ⟨bs, r, q, u, v, e, st, g, ev, hu, rq, rk, gs⟩ := h
  exact ⟨bs, r, q, u, v, e, k.st st, g, ev, k.kpT _ _ hu, rq.kt k, rk, gs⟩
structure Lsd (w : World) (s : Nat → Nat) (p M : Nat) (W : Int) (H : Hp) (N : Addr) (us : List KAV) : Prop where
  kd : KDx w H N us
  en : ∀ x ∈ us, Uv s p M W H x
theorem Lsd.kt {w : World} {s : Nat → Nat} {p M : Nat} {W : Int} {H H' : Hp} {N : Addr} {us : List KAV} (h : Lsd w s p M W H N us) (k : Kt H H') (e : ∀ o, H N = some o → H' N = some o) : Lsd w s p M W H' N us := ⟨h.kd.kt k e, fun x hx => (h.en x hx).kt k⟩
theorem Lsd.gst {w : World} {s : Nat → Nat} {p M : Nat} {W : Int} {H : Hp} {N : Addr} {us : List KAV} (h : Lsd w s p M W H N us) {bs : List Bk} (i : InK us bs) : Gst s p M W bs := by
  obtain ⟨x, hx, e⟩ := i.mem
  obtain ⟨cs, _, _, _, _, e2, _, g, _⟩ := h.en x hx
  rw [skey_inj (e.symm.trans e2)]
  exact g
theorem Lsd.few {w : World} {s : Nat → Nat} {p M : Nat} {W : Int} {H : Hp} {N : Addr} {us : List KAV} (h : Lsd w s p M W H N us) {bss : List (List Bk)} (hb : ∀ bs, Gst s p M W bs → bs ∈ bss) : us.length ≤ bss.length := keys_few h.kd.nd fun x hx => by
  obtain ⟨bs, _, _, _, _, e, _, g, _⟩ := h.en x hx
  exact ⟨bs, hb bs g, e⟩
/-- a state put into the table -/
theorem Lsd.put {w : World} {s : Nat → Nat} {p M : Nat} {W : Int} {H H' : Hp} {N b u : Addr} {v : V} {us : List KAV} {bs : List Bk} {r : Nat} {q : Rqt} (h : Lsd w s p M W H N us) (bt : But N H H') (kd : KDx w H' N (putX us (skey bs) b (.ref u))) (hb : StAt H b bs) (g : Gst s p M W bs) (hu : H u = some (.tup [.int ((r : Nat) : Int), v])) (rq : ReqAt H v q) (rk : Rnk s p M W r bs) (gs : Goes s p M W r bs q) : Lsd w s p M W H' N (putX us (skey bs) b (.ref u)) := by
  have kt := bt.ktX h.kd
  have new : ∀ x : KAV, x.1 = skey bs → StAt H x.2.1 bs → x.2.2 = .ref u → Uv s p M W H' x := fun x e st ev => ⟨bs, r, q, u, v, e, kt.st st, g, ev, kt.kpT _ _ hu, rq.kt kt, rk, gs⟩
  refine ⟨kd, fun x hx => ?_⟩
  unfold putX at hx
  split at hx
  · obtain ⟨y, hy, rfl⟩ := List.mem_map.mp hx
    by_cases e : y.1 = skey bs
    · rw [if_pos e]
      obtain ⟨cs, _, _, _, _, e2, st, _⟩ := h.en y hy
      have : cs = bs := skey_inj (e2.symm.trans e)
      subst this
      exact new _ e st rfl
    · rw [if_neg e]
      exact (h.en y hy).kt kt
  · rcases List.mem_append.mp hx with hx | hx
    · exact (h.en x hx).kt kt
    · rw [List.mem_singleton.mp hx]
      exact new _ rfl hb rfl
section
variable {P : Program} {w : World} {K : PySem.W.Frag} {mg : Str → Option Value} {base : Heap}
def spSb (w : World) : Sp := fun vs H Q _ => ∃ (c nl N e : Addr) (s : Nat → Nat) (p n M m k : Nat) (xs : List V) (ps ns bss : List (List Bk)) (us : List KAV), vs = [.ref c, .int M, .int n, .ref nl, .int ((m + 1 : Nat) : Int), .ref N, .ref e] ∧ ChAt H c (tl s (p + 1)) ∧ Cn s p k ∧ Sml s p n ∧
  H nl = some (.lst xs) ∧ StVs H xs ns ∧ ns.Nodup ∧ 1 ≤ m ∧ (∀ x, x ∈ ns ↔ Gst s p M ((n * s p : Nat) : Int) x ∧ Rnk s p M ((n * s p : Nat) : Int) m x) ∧ (∀ x, x ∈ ps ↔ Gst s p M ((n * s p : Nat) : Int) x ∧ Lst s p M ((n * s p : Nat) : Int) (m - 1) x) ∧
  (∀ bs, Gst s p M ((n * s p : Nat) : Int) bs → bs ∈ bss) ∧ bss.length ≤ 531441 ∧ Esc w H e s p M ((n * s p : Nat) : Int) ps ∧ Lsd w s p M ((n * s p : Nat) : Int) H N us ∧ (∀ bs, InK us bs ↔ Gst s p M ((n * s p : Nat) : Int) bs ∧ Lst s p M ((n * s p : Nat) : Int) m bs) ∧ N ≠ e ∧
  ∀ H' D ys fs us', H D = none → Kt H H' → (∀ a o, a ≠ N → a ≠ e → H a = some o → H' a = some o) → Esc w H' e s p M ((n * s p : Nat) : Int) (ps ++ ns) → Lsd w s p M ((n * s p : Nat) : Int) H' N us' → (∀ bs, InK us' bs ↔ Gst s p M ((n * s p : Nat) : Int) bs ∧ Lst s p M ((n * s p : Nat) : Int) (m + 1) bs) →
    H' D = some (.lst ys) → StVs H' ys fs → fs.Nodup → (∀ x, x ∈ fs ↔ Gst s p M ((n * s p : Nat) : Int) x ∧ Rnk s p M ((n * s p : Nat) : Int) (m + 1) x) → us'.length = us.length + fs.length → Q (.ref D) H'
theorem ok_Sb {k : Nat} (Z : Fns K mg) : FnOk P w K mg base CX0 (k + 1 + 1 + 1 + 1 + 1 + 1 + 1) Z.fSb Z.fdSb ["chain", "limit", "pages", "newest", "moves", "unsafe", "escapes"] (spSb w) := by
  have GRq : FnOk P w K mg base CX0 (k + 1 + 1 + 1 + 1 + 1 + 1) Z.fRq Z.fdRq ["chain", "limit", "pages", "state", "escapes"] (spRq w) := ok_Rq Z
  refine Z.FSb.ok scSb (fun vs H Q E h => ?_) (fun cdv A outer s H vs Q E hr h => ?_)
  · obtain ⟨c, nl, N, e, s, p, n, M, m, _, _, _, _, _, us, rfl, _⟩ := h
    rfl
  · obtain ⟨c, nl, N, e, sz, p, n, M, m, mm, xs, ps, ns, bss, us, rfl, hc, cn, sml, hnl, hxs, nd, m1, hns, hps, hbs, bl, esc, lsd, hus, ne, fin⟩ := h
    have hu64 := u64_of hr
    refine ⟨_, (pss_cons (ps_set (i := 7) scSb.nd rfl (.inl rfl) (pe_lst pa_nil))
 (pss_cons (ps_for PassesOwn.never rfl (pi_list (pv 3)) (pg_name (i := 8) scSb.nd rfl (.inl rfl))
 (pss_one (ps_for PassesOwn.never rfl (pi_list (pe_call GRq (hr.mono (by omega)) (by rfl) Z.gRq Z.FRq.kp Z.bRq .nil pass0 (pa_cons (pv 0) (pa_cons (pv 1) (pa_cons (pv 2) (pa_cons (pv 8) (pa_cons (pv 6) pa_nil))))))) (pg_tup (by rfl) (pgs_cons (pg_name (i := 9) scSb.nd rfl (.inl rfl)) (pgs_cons (pg_name (i := 10) scSb.nd rfl (.inl rfl)) pgs_nil)))
 (pss_one (ps_if (pt_cmpR (op_xNotIn hu64) (pv 9) (pv 5) (by rfl))
 (pss_cons (ps_xput hu64 (pv 5) (pv 9) (pe_tup (pa_cons (pv 4) (pa_cons (pv 10) pa_nil))) rfl)
 (pss_one (ps_expr (pe_bm PySem.F.plainAttrs_list PySem.F.slot_list_append PySem.F.type_list_append mt_append (pv 7) (pa_cons (pv 9) pa_nil))))) pss_nil)))))
 (pss_one (ps_ret (pv 7))))), ?_⟩
    obtain ⟨W, hW⟩ : ∃ W : Nat, n * sz p = W := ⟨_, rfl⟩
    rw [hW] at hns hps hbs esc lsd hus fin
    have w1 : W ≤ 12 := by have := sml.w; omega
    have b12 : (531441 : Nat) < sizeLine := by decide
    refine ⟨(by show 0 ≤ sizeLine; decide), fun D nD => ?_⟩
    have sD := same_upd (o := .lst []) nD
    have hD0 : upd H D (.lst []) D = some (.lst []) := upd_same
    have hN := lsd.kd.ob
    obtain ⟨φe, he⟩ := esc.ext
    have nDN : D ≠ N := (ne_of_none hN nD).symm
    have nDe : D ≠ e := (ne_of_none he nD).symm
    have nlN : nl ≠ N := fun z => by rw [z, hN] at hnl; cases hnl
    have nle : nl ≠ e := fun z => by rw [z, he] at hnl; cases hnl
    have nlD : nl ≠ D := ne_of_none hnl nD
    generalize upd H D (.lst []) = H1 at *
    dsimp only [gName]
    have hnl1 := sD _ _ hnl
    refine ⟨.ref nl, rfl, nl, rfl, ⟨_, .inl (.inl hnl1)⟩, ?_⟩
    refine for_it (walk_list (K := K) (a := nl) (xs := xs)) (fun i σ H' => ∃ y8 y9 y10 us2 ys fs, σ = [some (.ref c), some (.int M), some (.int n), some (.ref nl), some (.int ((m + 1 : Nat) : Int)), some (.ref N), some (.ref e), some (.ref D), y8, y9, y10] ∧ Kt H1 H' ∧ (∀ a o, a ≠ N → a ≠ e → a ≠ D → H1 a = some o → H' a = some o) ∧
      Esc w H' e sz p M W (ps ++ ns.take i) ∧ Lsd w sz p M W H' N us2 ∧ H' D = some (.lst ys) ∧ StVs H' ys fs ∧ fs.Nodup ∧ (∀ bs, bs ∈ fs ↔ InK us2 bs ∧ ¬ Lst sz p M W m bs) ∧ (∀ bs, Gst sz p M W bs → Lst sz p M W m bs → InK us2 bs) ∧ (∀ bs, InK us2 bs → Lst sz p M W (m + 1) bs) ∧
      (∀ i' cs q bs, i' < i → ns[i']? = some cs → Gst sz p M W bs → Into sz p M W (ps ++ ns.take (i' + 1)) cs bs q → InK us2 bs) ∧ us2.length = us.length + fs.length)
      ⟨_, _, _, us, [], [], rfl, Kt.refl _, fun a o _ _ _ h => h, ?_, lsd.kt (Same.kt sD) (fun o h => sD _ _ h), hD0, .nil, List.nodup_nil, fun bs => ⟨(fun h => nomatch h), fun h => absurd ((hus bs).mp h.1).2 h.2⟩, fun bs g l => (hus bs).mpr ⟨g, l⟩, fun bs h => ((hus bs).mp h).2.up, fun i' cs q bs h => absurd h (by omega), rfl⟩ (fun i σ H' _ q => ?_) ?_ ?_
    · rw [List.take_zero, List.append_nil]
      exact esc.kt (Same.kt sD) fun u h => sD _ _ h
    · obtain ⟨_, _, _, _, _, _, _, _, fr, _⟩ := q
      exact .inl (.inl (fr _ _ nlN nle nlD hnl1))
    · rintro i x σ H2a H2 hi ⟨y8, y9, y10, us2, ys, fs, rfl, k2, fr2, esc2, lsd2, hD2, hf2, nd2, mf2, old2, up2, al2, ln2⟩ ⟨rfl, hx⟩
      obtain ⟨cs, hcs, t, rfl, ht⟩ := Paired.get hxs hx
      have xl : xs.length = ns.length := Paired.length hxs
      have hcm := List.mem_of_getElem? hcs
      obtain ⟨gcs, rcs⟩ := (hns cs).mp hcm
      have ht2 := k2.st (ht.same sD)
      have hc2 := k2.ch (hc.keep sD)
      have ncs : cs ∉ ps ++ ns.take i := fun z => by
        rcases List.mem_append.mp z with z | z
        · exact rcs.2 (m - 1) (by omega) ((hps cs).mp z).2
        · obtain ⟨i', hi', e'⟩ := List.getElem_of_mem z
          rw [List.length_take] at hi'
          rw [List.getElem_take] at e'
          obtain ⟨h1, h2⟩ := List.getElem?_eq_some_iff.mp hcs
          have := (List.getElem_inj (i := i') (j := i) (h₀ := by omega) (h₁ := h1) nd).mp (by rw [e', h2])
          omega
      dsimp only [gName]
      refine ⟨.ref c, rfl, .int M, rfl, .int n, rfl, .ref t, rfl, .ref e, rfl, c, t, e, sz, p, n, M, mm, ps ++ ns.take i, cs, rfl, hc2, cn, sml, ht2, by rw [hW]; exact gcs, ncs, by rw [hW]; exact esc2, fun H3 D2 zs L nD2 b3 esc3 hD3 prL soL coL lnL => ?_⟩
      rw [hW] at esc3 soL coL
      have et : ps ++ ns.take i ++ [cs] = ps ++ ns.take (i + 1) := by rw [List.take_add_one, hcs, List.append_assoc]; rfl
      rw [et] at esc3 soL coL
      obtain ⟨φ2, he2⟩ := esc2.ext
      have k3 := but_ktE b3 he2
      have lsd3 := lsd2.kt k3 fun o h => b3 _ _ ne h
      have hDe3 := b3 _ _ nDe hD2
      have hf3 := hf2.kt k3
      have nD2D : D2 ≠ D := (ne_of_none hD2 nD2).symm
      have nD2N : D2 ≠ N := (ne_of_none lsd2.kd.ob nD2).symm
      have all_m : ∀ x ∈ ps ++ ns.take (i + 1), Lst sz p M W m x := fun x h => by
        rcases List.mem_append.mp h with h | h
        · exact ((hps x).mp h).2.mono (by omega)
        · exact ((hns x).mp (List.mem_of_mem_take h)).2.1
      refine ⟨D2, rfl, ⟨_, .inl (.inl hD3)⟩, ?_⟩
      refine for_it (walk_list (K := K) (a := D2) (xs := zs)) (fun j σ H' => ∃ y9 y10 us3 ys fs, σ = [some (.ref c), some (.int M), some (.int n), some (.ref nl), some (.int ((m + 1 : Nat) : Int)), some (.ref N), some (.ref e), some (.ref D), some (.ref t), y9, y10] ∧ KG N D H3 H' ∧
        Lsd w sz p M W H' N us3 ∧ H' D = some (.lst ys) ∧ StVs H' ys fs ∧ fs.Nodup ∧ (∀ bs, bs ∈ fs ↔ InK us3 bs ∧ ¬ Lst sz p M W m bs) ∧ (∀ bs, InK us2 bs → InK us3 bs) ∧ (∀ bs, InK us3 bs → Lst sz p M W (m + 1) bs) ∧ (∀ j' bs q, j' < j → L[j']? = some (bs, q) → InK us3 bs) ∧ us3.length = us.length + fs.length)
        ⟨_, _, us2, ys, fs, rfl, KG.refl _, lsd3, hDe3, hf3, nd2, mf2, fun _ h => h, up2, fun j' bs q h => absurd h (by omega), ln2⟩ (fun j σ H' _ q => ?_) ?_ ?_
      · obtain ⟨_, _, _, _, _, _, k, _⟩ := q
        exact .inl (.inl (k.fr _ _ nD2N nD2D hD3))
      · rintro j x σ H4a H4 hj ⟨y9, y10, us3, ys, fs, rfl, k4, lsd4, hD4, hf4, nd4, mf4, in4, up4, al4, ln4⟩ ⟨rfl, hxj⟩
        obtain ⟨⟨bs, q⟩, hL, T, u, v, rfl, hT, hu, hv⟩ := Paired.get prL hxj
        have hT4 := k4.kpT _ _ hT
        have hu4 : StAt H4 u bs := k4.st hu
        have hv4 : ReqAt H4 v q := hv.kt k4.kt
        obtain ⟨gbs, ibs⟩ := soL _ (List.mem_of_getElem? hL)
        obtain ⟨lbs, gobs⟩ := ibs.lst all_m rcs.1
        refine ⟨T, _, rfl, .inl (.inl hT4), rfl, _, _, rfl, _, _, rfl, rfl, ?_⟩
        dsimp only [gName]
        refine ⟨.ref u, rfl, .ref N, rfl, N, u, us3, skey bs, rfl, rfl, lsd4.kd.r, hu4.nk, skey_depth _, _, rfl, ite2 (fun cc => ?_) (fun cc => ?_)⟩
        · obtain ⟨nw, nin⟩ := InK.not cc
          have nlm : ¬ Lst sz p M W m bs := fun z => nin (in4 _ (old2 _ gbs z))
          have rk : Rnk sz p M W (m + 1) bs := ⟨lbs, fun k hk l => nlm (l.mono (by omega))⟩
          have few := lsd4.few hbs
          refine ⟨.int _, rfl, v, rfl, (by show 2 ≤ sizeLine; decide), fun R nR => ?_⟩
          have sR := same_upd (o := .tup [.int ((m + 1 : Nat) : Int), v]) nR
          have hR : upd H4 R (.tup [.int ((m + 1 : Nat) : Int), v]) R = some (.tup [.int ((m + 1 : Nat) : Int), v]) := upd_same
          have lsd5 := lsd4.kt (Same.kt sR) fun o h => sR _ _ h
          have hu5 := hu4.same sR
          have hv5 := hv4.kt (Same.kt sR)
          have hD5 := sR _ _ hD4
          have k5 := k4.trans (KG.same sR)
          have hf5 := hf4.kt (Same.kt sR)
          generalize upd H4 R (.tup [.int ((m + 1 : Nat) : Int), v]) = H5 at *
          refine ⟨.ref N, rfl, .ref u, rfl, N, u, us3, skey bs, rfl, rfl, lsd5.kd, hu5.nk, skey_depth _, by omega, fun H6 b6 kd6 => ?_⟩
          have lsd6 := lsd5.put b6 kd6 hu5 gbs hR hv5 rk gobs
          have k56 : KG N D H5 H6 := KG.putX b6 lsd5.kd
          have hD6 := b6 _ _ nDN hD5
          have kl := KG.list (N := N) (ys := ys ++ [.ref u]) hD6
          have fl : fs.length ≤ 531441 := by omega
          have yl : ys.length = fs.length := Paired.length hf4
          have nfs : bs ∉ fs := fun z => nin ((mf4 bs).mp z).1
          refine ⟨.ref D, rfl, .inl ⟨rfl, _, .inl (.inl hD6)⟩, .ref u, rfl, D, ys, _, rfl, rfl, hD6, by omega, ?_⟩
          refine ⟨_, _, _, ys ++ [.ref u], fs ++ [bs], rfl, (k5.trans k56).trans kl, lsd6.kt kl.kt (fun o h => by rw [upd_ne nDN.symm]; exact h), upd_same, StVs.snoc ((hf5.kt k56.kt).kt kl.kt) ⟨u, rfl, kl.st (k56.st hu5)⟩, ?_, fun b => ?_, fun b h => (in4 b h).put, fun b h => ?_, fun j' b q' h1 h2 => ?_, ?_⟩
          · exact List.nodup_append.mpr ⟨nd4, List.pairwise_singleton _ _, fun a ha b hb => by rw [List.mem_singleton.mp hb]; intro z; exact nfs (by rw [← z]; exact ha)⟩
          · rw [List.mem_append, List.mem_singleton, mf4]
            constructor
            · rintro (⟨h1, h2⟩ | h)
              · exact ⟨h1.put, h2⟩
              · rw [h]; exact ⟨InK.new, nlm⟩
            · rintro ⟨h1, h2⟩
              rcases h1.inv with h1 | h1
              · exact .inr h1
              · exact .inl ⟨h1, h2⟩
          · rcases h.inv with h | h
            · rw [h]; exact lbs
            · exact up4 b h
          · rcases Nat.lt_or_ge j' j with z | z
            · exact (al4 j' b q' z h2).put
            · obtain rfl : j' = j := by omega
              rw [hL] at h2
              cases h2
              exact InK.new
          · rw [putX_new nw, List.length_append, List.length_append]
            show us3.length + 1 = us.length + (fs.length + 1)
            omega
        · refine ⟨_, _, us3, ys, fs, rfl, k4, lsd4, hD4, hf4, nd4, mf4, in4, up4, fun j' b q' h1 h2 => ?_, ln4⟩
          rcases Nat.lt_or_ge j' j with z | z
          · exact al4 j' b q' z h2
          · obtain rfl : j' = j := by omega
            rw [hL] at h2
            cases h2
            exact InK.yes cc
      · rintro σ H4 ⟨y9, y10, us3, ys, fs, rfl, k4, lsd4, hD4, hf4, nd4, mf4, in4, up4, al4, ln4⟩
        have lz : zs.length = L.length := Paired.length prL
        refine ⟨_, _, _, us3, ys, fs, rfl, k2.trans (k3.trans k4.kt), fun a o n1 n2 n3 h => k4.fr _ _ n1 n3 (b3 _ _ n2 (fr2 a o n1 n2 n3 h)), esc3.kt k4.kt (fun o h => k4.fr _ _ ne.symm nDe.symm h), lsd4, hD4, hf4, nd4, mf4, fun bs g l => in4 _ (old2 bs g l), up4, fun i' cs' q bs h1 h2 h3 h4 => ?_, ln4⟩
        rcases Nat.lt_or_ge i' i with z | z
        · exact in4 _ (al2 i' cs' q bs z h2 h3 h4)
        · obtain rfl : i' = i := by omega
          rw [hcs] at h2
          cases h2
          obtain ⟨q', hq'⟩ := coL bs q h3 h4
          obtain ⟨j', hj', e'⟩ := List.getElem_of_mem hq'
          exact al4 j' bs q' (by omega) (by rw [List.getElem?_eq_getElem hj', e'])
    · rintro σ H2 ⟨y8, y9, y10, us2, ys, fs, rfl, k2, fr2, esc2, lsd2, hD2, hf2, nd2, mf2, old2, up2, al2, ln2⟩
      have xl : xs.length = ns.length := Paired.length hxs
      rw [xl] at esc2 al2
      rw [List.take_length] at esc2
      have key : ∀ bs, InK us2 bs ↔ Gst sz p M W bs ∧ Lst sz p M W (m + 1) bs := fun bs => by
        refine ⟨fun h => ⟨lsd2.gst h, up2 bs h⟩, fun ⟨g, l⟩ => ?_⟩
        rcases Classical.em (Lst sz p M W m bs) with z | z
        · exact old2 bs g z
        · obtain ⟨i, cs, q, h1, h2⟩ := into_all cn.ch (by omega) m1 hps hns g l z
          exact al2 i cs q bs (List.getElem?_eq_some_iff.mp h1).1 h1 g h2
      refine ⟨.ref D, rfl, fin H2 D ys fs us2 nD ((Same.kt sD).trans k2) (fun a o n1 n2 h => fr2 _ _ n1 n2 (ne_of_none h nD) (sD _ _ h)) esc2 lsd2 key hD2 hf2 nd2 (fun x => ?_) ln2⟩
      rw [mf2, key]
      constructor
      · rintro ⟨⟨g, l⟩, nl⟩
        exact ⟨g, l, fun k hk z => nl (z.mono (by omega))⟩
      · rintro ⟨g, l, h⟩
        exact ⟨⟨g, l⟩, h m (by omega)⟩
end
end Ph

set_option maxHeartbeats 8000000
namespace Ph
open PySem PySem.Spec PyProof.Rows L2
theorem Lsd.list {w : World} {s : Nat → Nat} {p M : Nat} {W : Int} {H : Hp} {N : Addr} {us : List KAV} (h : Lsd w s p M W H N us) : ∃ ns, StVs H (us.map fun x => V.ref x.2.1) ns ∧ ns.map skey = us.map (·.1) ∧ ns.Nodup ∧ ∀ bs, bs ∈ ns ↔ InK us bs := by
  have key : ∀ l : List KAV, (∀ x ∈ l, Uv s p M W H x) → ∃ ns, StVs H (l.map fun x => V.ref x.2.1) ns ∧ ns.map skey = l.map (·.1) := fun l => by
    induction l with
    | nil => exact fun _ => ⟨[], .nil, rfl⟩
    | cons x r ih =>
      intro hl
      obtain ⟨ns, h1, h2⟩ := ih fun y hy => hl y (List.mem_cons_of_mem _ hy)
      obtain ⟨bs, _, _, _, _, e, st, _⟩ := hl x List.mem_cons_self
      exact ⟨bs :: ns, .cons ⟨_, rfl, st⟩ h1, by rw [List.map_cons, List.map_cons, h2, e]⟩
  obtain ⟨ns, h1, h2⟩ := key us h.en
  have nd : (ns.map skey).Nodup := by rw [h2]; exact h.kd.nd
  refine ⟨ns, h1, h2, (List.pairwise_map.mp nd).imp fun h e => h (by rw [e]), fun bs => ?_⟩
  constructor
  · intro hb
    have : skey bs ∈ us.map (·.1) := by rw [← h2]; exact List.mem_map.mpr ⟨bs, hb, rfl⟩
    obtain ⟨x, hx, e⟩ := List.mem_map.mp this
    exact InK.of h.kd.nd hx e
  · intro i
    obtain ⟨x, hx, e⟩ := i.mem
    have : skey bs ∈ ns.map skey := by rw [h2, ← e]; exact List.mem_map.mpr ⟨x, hx, rfl⟩
    obtain ⟨cs, hc, e2⟩ := List.mem_map.mp this
    rw [← skey_inj e2]
    exact hc
theorem KD.ndk {w : World} {H : Hp} {d : Addr} {kvs : List (NestedKey × V)} (k : KD w H d kvs) : (kvs.map (·.1)).Nodup := by
  obtain ⟨xs, _, _, rfl, _, nd, _⟩ := k
  rw [List.map_map]
  exact nd
theorem putK_keys {κ : Type} [DecidableEq κ] {kvs : List (κ × V)} {k : κ} {v : V} {x : κ × V} (h : x ∈ putK kvs k v) : x.1 = k ∨ ∃ y ∈ kvs, y.1 = x.1 := by
  unfold putK at h
  split at h
  · obtain ⟨y, hy, rfl⟩ := List.mem_map.mp h
    by_cases e : y.1 = k
    · rw [if_pos e]; exact .inl e
    · rw [if_neg e]; exact .inr ⟨y, hy, rfl⟩
  · rcases List.mem_append.mp h with h | h
    · exact .inr ⟨x, h, rfl⟩
    · rw [List.mem_singleton.mp h]; exact .inl rfl
theorem KDx.kd {w : World} {H : Hp} {d : Addr} {xs : List KAV} (k : KDx w H d xs) : KD w H d (xs.map kv2) := ⟨xs, k.ob, k.sm, rfl, k.ks, k.nd, k.ln⟩
theorem ekeys_few {s : Nat → Nat} {p : Nat} {kvs : List (NestedKey × V)} {bss : List (List Bk)} (nd : (kvs.map (·.1)).Nodup) (h : ∀ kv ∈ kvs, ∃ bs ∈ bss, ∃ j, j ≤ p ∧ kv.1 = ekey bs ((s j : Nat) : Int)) : kvs.length ≤ bss.length * (p + 1) := by
  have := nodup_le (l := kvs.map (·.1)) (m := bss.flatMap fun bs => (List.range (p + 1)).map fun j => ekey bs ((s j : Nat) : Int)) nd fun k hk => by
    obtain ⟨kv, hkv, rfl⟩ := List.mem_map.mp hk
    obtain ⟨bs, hb, j, hj, e⟩ := h kv hkv
    rw [e]
    exact List.mem_flatMap.mpr ⟨bs, hb, List.mem_map.mpr ⟨j, List.mem_range.mpr (by omega), rfl⟩⟩
  rw [List.length_map] at this
  refine Nat.le_trans this (Nat.le_of_eq ?_)
  clear this h nd
  induction bss with
  | nil => simp
  | cons b r ih => rw [List.flatMap_cons, List.length_append, ih, List.length_map, List.length_range, List.length_cons, Nat.add_mul, Nat.one_mul, Nat.add_comm]
section
variable {P : Program} {w : World} {K : PySem.W.Frag} {mg : Str → Option Value} {base : Heap}
def spUs (w : World) : Sp := fun vs H Q _ => ∃ (c : Addr) (s : Nat → Nat) (p n M m : Nat), vs = [.ref c, .int M, .int n] ∧ ChAt H c (tl s (p + 1)) ∧ Cn s p m ∧ Sml s p n ∧
  ∀ H' N us, H N = none → Same H H' → Lsd w s p M ((n * s p : Nat) : Int) H' N us → us.length ≤ 531441 → (∀ bs, InK us bs ↔ Gst s p M ((n * s p : Nat) : Int) bs ∧ ∃ k, Lst s p M ((n * s p : Nat) : Int) k bs) → Q (.ref N) H'
theorem ok_Us {k : Nat} (Z : Fns K mg) : FnOk P w K mg base CX0 (k + 1 + 1 + 1 + 1 + 1 + 1 + 1 + 1) Z.fUs Z.fdUs ["chain", "limit", "pages"] (spUs w) := by
  have GAs : FnOk P w K mg base CX0 (k + 1 + 1 + 1 + 1) Z.fAs Z.fdAs ["chain", "pages", "limit"] (spAs K) := ok_As Z
  have GAl : FnOk P w K mg base CX0 (k + 1 + 1) Z.fAl Z.fdAl ["chain", "limit", "state"] (spAl K) := ok_Al Z
  have GPl : FnOk P w K mg base CX0 (k + 1 + 1 + 1 + 1 + 1) Z.fPl Z.fdPl ["chain", "pages", "state", "size"] spPl := ok_Pl Z
  have GSb : FnOk P w K mg base CX0 (k + 1 + 1 + 1 + 1 + 1 + 1 + 1) Z.fSb Z.fdSb ["chain", "limit", "pages", "newest", "moves", "unsafe", "escapes"] (spSb w) := ok_Sb Z
  refine Z.FUs.ok scUs (fun vs H Q E h => ?_) (fun cdv A outer s H vs Q E hr h => ?_)
  · obtain ⟨c, s, p, n, M, m, rfl, _⟩ := h
    rfl
  · obtain ⟨c, sz, p, n, M, mm, rfl, hc, cn, sml, fin⟩ := h
    have hu64 := u64_of hr
    refine ⟨_, (pss_cons (ps_set (i := 3) scUs.nd rfl (.inl rfl) pe_xnew)
 (pss_cons (ps_set (i := 4) scUs.nd rfl (.inl rfl) pe_xnew)
 (pss_cons (ps_for PassesOwn.never rfl (pi_tup (pe_call GAs (hr.mono (by omega)) (by rfl) Z.gAs Z.FAs.kp Z.bAs .nil pass0 (pa_cons (pv 0) (pa_cons (pv 2) (pa_cons (pv 1) pa_nil))))) (pg_name (i := 5) scUs.nd rfl (.inl rfl))
 (pss_one (ps_for PassesOwn.never rfl (pi_list (pe_call GAl (hr.mono (by omega)) (by rfl) Z.gAl Z.FAl.kp Z.bAl .nil pass0 (pa_cons (pv 0) (pa_cons (pv 1) (pa_cons (pv 5) pa_nil))))) (pg_name (i := 6) scUs.nd rfl (.inl rfl))
 (pss_cons (ps_kput hu64 (pv 4) (pe_tup (pa_cons (pv 5) (pa_cons (pv 6) pa_nil))) (pe_callB call_len_seq (by rfl) Z.N.len (by decide +kernel) (pa_cons (pe_call GPl (hr.mono (by omega)) (by rfl) Z.gPl Z.FPl.kp Z.bPl .nil pass0 (pa_cons (pv 0) (pa_cons (pv 2) (pa_cons (pv 5) (pa_cons (pv 6) pa_nil))))) pa_nil)) rfl)
 (pss_one (ps_if (pt_cmpR op_eq (pe_kget hu64 (pv 4) (pe_tup (pa_cons (pv 5) (pa_cons (pv 6) pa_nil))) (fun _ _ => rfl)) pe_int (nomark _))
 (pss_one (ps_xput hu64 (pv 3) (pv 5) (pe_tup (pa_cons pe_int (pa_cons (pe_tup (pa_cons pe_str (pa_cons (pv 6) pa_nil))) pa_nil))) rfl)) pss_nil))))))
 (pss_cons (ps_set (i := 7) scUs.nd rfl (.inl rfl) pe_int)
 (pss_cons (ps_set (i := 8) scUs.nd rfl (.inl rfl) (pe_callTy (call_listX rfl) (by rfl) Z.N.list (by decide +kernel) (pa_cons (pv 3) pa_nil)))
 (pss_cons (ps_while PassesOwn.never (pt_truth (pv 8) (fun _ => rfl))
 (pss_cons (ps_aug (i := 7) scUs.nd rfl (.inl rfl) pe_int ip_add)
 (pss_one (ps_set (i := 8) scUs.nd rfl (.inl rfl) (pe_call GSb (hr.mono (by omega)) (by rfl) Z.gSb Z.FSb.kp Z.bSb .nil pass0 (pa_cons (pv 0) (pa_cons (pv 1) (pa_cons (pv 2) (pa_cons (pv 8) (pa_cons (pv 7) (pa_cons (pv 3) (pa_cons (pv 4) pa_nil))))))))))))
 (pss_one (ps_ret (pv 3))))))))), ?_⟩
    obtain ⟨W, hW⟩ : ∃ W : Nat, n * sz p = W := ⟨_, rfl⟩
    rw [hW] at fin
    have s1 := sml.z
    have n1 := sml.n
    have p1 := sml.q
    have w1 : W ≤ 12 := by have := sml.w; omega
    have eW : ((n : Nat) : Int) * ((sz p : Nat) : Int) = (W : Int) := by rw [← hW, Int.natCast_mul]
    have szp : ∀ j, j ≤ p → 0 < sz j ∧ sz j ≤ 12 := fun j hj => ⟨cn.ch.pos (by omega), Nat.le_trans (cn.ch.mono (i := j) (j := p) hj (by omega)) sml.z⟩
    refine fun N H1 nN s1' kdN => ?_
    dsimp only [gName]
    refine fun E H2 nE s2 kdE => ?_
    dsimp only [gName]
    have hN2 := s2 _ _ kdN.ob
    have NE : N ≠ E := ne_of_none kdN.ob nE
    have nEH : H E = none := none_of_same s1' nE
    have s02 := s1'.trans s2
    have hc2 := hc.keep s02
    refine seq_splitR (fun σ' H' => ∃ (y5 y6 : Option V) (us : List KAV) (bss : List (List Bk)), σ' = [some (.ref c), some (.int M), some (.int n), some (.ref N), some (.ref E), y5, y6, none, none] ∧ Kt H2 H' ∧ (∀ a o, a ≠ N → a ≠ E → H2 a = some o → H' a = some o) ∧ (∀ bs, bs ∈ bss ↔ Gst sz p M W bs) ∧ bss.length ≤ 531441 ∧ Esc w H' E sz p M W [] ∧ Lsd w sz p M W H' N us ∧ ∀ bs, InK us bs ↔ Gst sz p M W bs ∧ Lst sz p M W 1 bs) (fun D' rt' hD' => ?_) ?_
    · refine ⟨.ref c, rfl, .int n, rfl, .int M, rfl, c, sz, p, n, M, mm, rfl, hc2.sq, cn, sml, fun H3 T xs bss nT s3 hT hxs hbs bl => ?_⟩
      rw [hW] at hbs
      have kd3 := (KDx.kd kdE).same s3
      have hT := hT
      have NT : T ≠ N := ne_of_none hN2 nT |>.symm
      have ET : T ≠ E := ne_of_none kdE.ob nT |>.symm
      have hc3 := hc2.keep s3
      have memb : ∀ {i : Nat} {bs : List Bk}, bss[i]? = some bs → Gst sz p M W bs := fun h => (hbs _).mp (List.mem_of_getElem? h)
      refine ⟨T, rfl, ⟨_, .inl (.inl hT)⟩, ?_⟩
      refine for_it (walk_tup (K := K) (a := T) (xs := xs)) (fun i σ H' => ∃ y5 y6 us kvs, σ = [some (.ref c), some (.int M), some (.int n), some (.ref N), some (.ref E), y5, y6, none, none] ∧ KG N E H3 H' ∧ KD w H' E kvs ∧ (∀ kv ∈ kvs, ∃ bs ∈ bss, ∃ j, j ≤ p ∧ kv.1 = ekey bs ((sz j : Nat) : Int)) ∧
        (∀ i' bs j, i' < i → bss[i']? = some bs → j ≤ p → totB bs + ((sz j : Nat) : Int) ≤ M → valV kvs (ekey bs ((sz j : Nat) : Int)) = some (.int ((cnt W [] bs ((sz j : Nat) : Int) : Nat) : Int))) ∧
        Lsd w sz p M W H' N us ∧ (∀ bs, InK us bs → Lst sz p M W 1 bs) ∧ (∀ i' bs, i' < i → bss[i']? = some bs → Lst sz p M W 1 bs → InK us bs))
        ⟨_, _, [], [], rfl, KG.refl _, kd3, (fun x h => nomatch h), fun i' bs j h => absurd h (by omega), ⟨(kdN.same s2).same s3, (fun x h => nomatch h)⟩, fun bs h => (nomatch h), fun i' bs h => absurd h (by omega)⟩ (fun i σ H' _ q => ?_) ?_ ?_
      · obtain ⟨_, _, _, _, _, g, _⟩ := q
        exact .inl (.inl (g.fr _ _ NT ET hT))
      · rintro i x σ H4a H4 hi ⟨y5, y6, us, kvs, rfl, g4, kd4, ks4, kv4, lsd4, up4, al4⟩ ⟨rfl, hx⟩
        obtain ⟨bs, hbs_i, t, rfl, ht⟩ := Paired.get hxs hx
        have gbs := memb hbs_i
        have bm := List.mem_of_getElem? hbs_i
        have few := st_len gbs.st (by omega)
        have ht4 := g4.st ht
        have hc4 := g4.kt.ch hc3
        dsimp only [gName]
        refine ⟨.ref c, rfl, .int M, rfl, .ref t, rfl, c, t, sz, p, M, bs, rfl, hc4.sq, by omega, ht4, by omega, fun H5 A nA s5 hA => ?_⟩
        have kd5 := kd4.same s5
        have lsd5 := lsd4.kt (Same.kt s5) fun o h => s5 _ _ h
        have g5 := g4.trans (KG.same s5)
        have nAN : A ≠ N := (ne_of_none lsd4.kd.ob nA).symm
        have nAE : A ≠ E := by
          obtain ⟨φ, h⟩ := kd4.ext
          exact (ne_of_none h nA).symm
        refine ⟨A, rfl, ⟨_, .inl (.inl hA)⟩, ?_⟩
        refine for_it (walk_list (K := K) (a := A) (xs := (alw sz p M bs).map V.int)) (fun k σ H' => ∃ y6 us kvs, σ = [some (.ref c), some (.int M), some (.int n), some (.ref N), some (.ref E), some (.ref t), y6, none, none] ∧ KG N E H5 H' ∧ KD w H' E kvs ∧ (∀ kv ∈ kvs, ∃ bs ∈ bss, ∃ j, j ≤ p ∧ kv.1 = ekey bs ((sz j : Nat) : Int)) ∧
          (∀ i' bs j, i' < i → bss[i']? = some bs → j ≤ p → totB bs + ((sz j : Nat) : Int) ≤ M → valV kvs (ekey bs ((sz j : Nat) : Int)) = some (.int ((cnt W [] bs ((sz j : Nat) : Int) : Nat) : Int))) ∧
          (∀ k' z, k' < k → (alw sz p M bs)[k']? = some z → valV kvs (ekey bs z) = some (.int ((cnt W [] bs z : Nat) : Int))) ∧
          Lsd w sz p M W H' N us ∧ (∀ bs, InK us bs → Lst sz p M W 1 bs) ∧ (∀ i' bs, i' < i → bss[i']? = some bs → Lst sz p M W 1 bs → InK us bs) ∧ (∀ k' z, k' < k → (alw sz p M bs)[k']? = some z → plcs W bs z = [] → InK us bs))
          ⟨_, us, kvs, rfl, KG.refl _, kd5, ks4, kv4, fun k' z h => absurd h (by omega), lsd5, up4, al4, fun k' z h => absurd h (by omega)⟩ (fun k σ H' _ q => ?_) ?_ ?_
        · obtain ⟨_, _, _, _, g, _⟩ := q
          exact .inl (.inl (g.fr _ _ nAN nAE hA))
        · rintro k x σ H6a H6 hk ⟨y6, us, kvs, rfl, g6, kd6, ks6, kv6, kw6, lsd6, up6, al6, st6⟩ ⟨rfl, hx⟩
          rw [List.length_map] at hk
          obtain ⟨z, hz, rfl⟩ : ∃ z, (alw sz p M bs)[k]? = some z ∧ x = V.int z := by
            rw [List.getElem?_map] at hx
            obtain ⟨z, h1, h2⟩ := Option.map_eq_some_iff.mp hx
            exact ⟨z, h1, h2.symm⟩
          obtain ⟨j, hj, rfl, lim⟩ := alw_mem.mp (List.mem_of_getElem? hz)
          obtain ⟨z0, z1⟩ := szp j hj
          have hc6 := g6.kt.ch (hc4.keep s5)
          have ht6 := g6.st (ht4.same s5)
          dsimp only [gName]
          refine ⟨.ref c, rfl, .int n, rfl, .ref t, rfl, .int _, rfl, c, t, tl sz p, ((sz p : Nat) : Int), (n : Int), ((sz j : Nat) : Int), bs, rfl, by rw [← tl_succ]; exact hc6, by rw [← tl_succ]; exact tl_mem.mpr ⟨j, by omega, rfl⟩, by omega, by omega, by omega, by omega, by omega, by omega, ht6, by rw [← tl_succ, eW]; exact gbs.st, by omega, fun H7 P7 s7 hP => ?_⟩
          rw [eW] at hP
          have hP : H7 P7 = some (.tup ((plcs W bs ((sz j : Nat) : Int)).map V.int)) := hP
          refine ⟨P7, _, rfl, .inr (.inl (.inl hP)), ?_⟩
          have kd7 := kd6.same s7
          have lsd7 := lsd6.kt (Same.kt s7) fun o h => s7 _ _ h
          have g7 := g6.trans (KG.same s7)
          have ht7 := ht6.same s7
          refine ⟨.ref E, rfl, .ref t, rfl, .int _, rfl, (by show 2 ≤ sizeLine; decide), fun T8 nT8 => ?_⟩
          have sT8 := same_upd (o := .tup [.ref t, .int ((sz j : Nat) : Int)]) nT8
          have hT8 : upd H7 T8 (.tup [.ref t, .int ((sz j : Nat) : Int)]) T8 = some (.tup [.ref t, .int ((sz j : Nat) : Int)]) := upd_same
          have kd8 := kd7.same sT8
          have lsd8 := lsd7.kt (Same.kt sT8) fun o h => sT8 _ _ h
          have g8 := g7.trans (KG.same sT8)
          have ht8 := ht7.same sT8
          generalize upd H7 T8 (.tup [.ref t, .int ((sz j : Nat) : Int)]) = H8 at *
          have kl := ekeys_few (KD.ndk kd8) ks6
          have bl6 : bss.length * (p + 1) ≤ 531441 * 6 := Nat.mul_le_mul bl (by omega)
          rw [List.length_map]
          have cn0 : cnt W [] bs ((sz j : Nat) : Int) = (plcs W bs ((sz j : Nat) : Int)).length := cnt_nil
          rw [← cn0]
          refine ⟨E, T8, kvs, ekey bs ((sz j : Nat) : Int), rfl, rfl, kd8, ekey_nk hT8 ht8, ekey_depth _ _, Nat.lt_of_le_of_lt (Nat.le_trans kl bl6) (by decide), fun H9 b9 kd9 => ?_⟩
          have kt9 := b9.ktD kd8
          have lsd9 := lsd8.kt kt9 fun o h => b9 _ _ NE h
          have g9 := g8.trans (⟨kt9, fun c o n1 n2 e => b9 c o n2 e⟩ : KG N E H8 H9)
          have ht9 := kt9.st ht8
          have ks9 : ∀ kv ∈ putK kvs (ekey bs ((sz j : Nat) : Int)) (.int ((cnt W [] bs ((sz j : Nat) : Int) : Nat) : Int)), ∃ bs ∈ bss, ∃ j, j ≤ p ∧ kv.1 = ekey bs ((sz j : Nat) : Int) := fun kv h => by
            rcases putK_keys h with h | ⟨y, hy, h⟩
            · exact ⟨bs, bm, j, hj, h⟩
            · obtain ⟨b', h1, j', h2, h3⟩ := ks6 y hy
              exact ⟨b', h1, j', h2, by rw [← h, h3]⟩
          have kv9 : ∀ i' bs' j', i' < i → bss[i']? = some bs' → j' ≤ p → totB bs' + ((sz j' : Nat) : Int) ≤ M → valV (putK kvs (ekey bs ((sz j : Nat) : Int)) (.int ((cnt W [] bs ((sz j : Nat) : Int) : Nat) : Int))) (ekey bs' ((sz j' : Nat) : Int)) = some (.int ((cnt W [] bs' ((sz j' : Nat) : Int) : Nat) : Int)) := fun i' bs' j' h1 h2 h3 h4 => by
            rw [valV_put]
            by_cases q : ekey bs' ((sz j' : Nat) : Int) = ekey bs ((sz j : Nat) : Int)
            · rw [if_pos q]
              obtain ⟨q1, q2⟩ := ekey_inj q
              rw [q1, q2]
            · rw [if_neg q]
              exact kv6 i' bs' j' h1 h2 h3 h4
          have kw9 : ∀ k' z, k' < k + 1 → (alw sz p M bs)[k']? = some z → valV (putK kvs (ekey bs ((sz j : Nat) : Int)) (.int ((cnt W [] bs ((sz j : Nat) : Int) : Nat) : Int))) (ekey bs z) = some (.int ((cnt W [] bs z : Nat) : Int)) := fun k' z h1 h2 => by
            rw [valV_put]
            by_cases q : ekey bs z = ekey bs ((sz j : Nat) : Int)
            · rw [if_pos q, (ekey_inj q).2]
            · rw [if_neg q]
              rcases Nat.lt_or_ge k' k with w | w
              · exact kw6 k' z w h2
              · obtain rfl : k' = k := by omega
                rw [hz] at h2
                cases h2
                exact absurd rfl q
          generalize hkv : putK kvs (ekey bs ((sz j : Nat) : Int)) (.int ((cnt W [] bs ((sz j : Nat) : Int) : Nat) : Int)) = kvs9 at *
          -- the test
          refine ⟨.ref E, rfl, .ref t, rfl, .int _, rfl, (by show 2 ≤ sizeLine; decide), fun T2 nT2 => ?_⟩
          have sT2 := same_upd (o := .tup [.ref t, .int ((sz j : Nat) : Int)]) nT2
          have hT2 : upd H9 T2 (.tup [.ref t, .int ((sz j : Nat) : Int)]) T2 = some (.tup [.ref t, .int ((sz j : Nat) : Int)]) := upd_same
          have kd10 := kd9.same sT2
          have lsd10 := lsd9.kt (Same.kt sT2) fun o h => sT2 _ _ h
          have g10 := g9.trans (KG.same sT2)
          have ht10 := ht9.same sT2
          generalize upd H9 T2 (.tup [.ref t, .int ((sz j : Nat) : Int)]) = H10 at *
          refine ⟨E, T2, _, ekey bs ((sz j : Nat) : Int), .int ((cnt W [] bs ((sz j : Nat) : Int) : Nat) : Int), rfl, rfl, kd10, ekey_nk hT2 ht10, ekey_depth _ _, kw9 k _ (by omega) hz, rfl, _, rfl, ite2 (fun cc => ?_) (fun cc => ?_)⟩
          · have c0 : cnt W [] bs ((sz j : Nat) : Int) = 0 := by
              have := V.int.inj (of_decide_eq_true cc)
              omega
            have no : plcs W bs ((sz j : Nat) : Int) = [] := List.length_eq_zero_iff.mp (by rw [← cn0]; exact c0)
            have one : Lst sz p M W 1 bs := lst_one.mpr ⟨j, hj, lim, fun a ha => by
              have := (mem_plcs (by omega) (by omega) gbs.st).mpr ha
              rw [no] at this
              cases this⟩
            refine ⟨.int _, rfl, (by show 2 ≤ sizeLine; decide), fun R nR => ⟨(by show 2 ≤ sizeLine; decide), fun U nU => ?_⟩⟩
            have sR := same_upd (o := .tup [.str "get", .int ((sz j : Nat) : Int)]) nR
            have sU := same_upd (o := .tup [.int 1, .ref R]) nU
            have sRU := sR.trans sU
            have rq : ReqAt (upd (upd H10 R (.tup [.str "get", .int ((sz j : Nat) : Int)])) U (.tup [.int 1, .ref R])) (.ref R) (.gt ((sz j : Nat) : Int)) := ⟨R, rfl, sU _ _ upd_same⟩
            have hU : upd (upd H10 R (.tup [.str "get", .int ((sz j : Nat) : Int)])) U (.tup [.int 1, .ref R]) U = some (.tup [.int ((1 : Nat) : Int), .ref R]) := upd_same
            have kd11 := kd10.same sRU
            have lsd11 := lsd10.kt (Same.kt sRU) fun o h => sRU _ _ h
            have g11 := g10.trans (KG.same sRU)
            have ht11 := ht10.same sRU
            generalize upd (upd H10 R (.tup [.str "get", .int ((sz j : Nat) : Int)])) U (.tup [.int 1, .ref R]) = H11 at *
            have fewu := lsd11.few fun bs g => (hbs bs).mpr g
            refine ⟨.ref N, rfl, .ref t, rfl, N, t, us, skey bs, rfl, rfl, lsd11.kd, ht11.nk, skey_depth _, Nat.lt_of_le_of_lt (Nat.le_trans fewu bl) (by decide), fun H12 b12 kd12 => ?_⟩
            have lsd12 := lsd11.put b12 kd12 ht11 gbs hU rq (rnk_one one) ⟨j, hj, rfl, lim, 0, rfl, fun a ha => by
              have := (mem_plcs (by omega) (by omega) gbs.st).mpr ha
              rw [no] at this
              cases this⟩
            refine ⟨_, _, kvs9, rfl, g11.trans (KG.putX b12 lsd11.kd), kd11.kt (b12.ktX lsd11.kd) (fun u h => b12 _ _ NE.symm h), ks9, kv9, kw9, lsd12, fun b h => ?_, fun i' b h1 h2 h3 => (al6 i' b h1 h2 h3).put, fun k' z h1 h2 h3 => InK.new⟩
            rcases h.inv with h | h
            · rw [h]; exact one
            · exact up6 b h
          · refine ⟨_, us, kvs9, rfl, g10, kd10, ks9, kv9, kw9, lsd10, up6, al6, fun k' z h1 h2 h3 => ?_⟩
            rcases Nat.lt_or_ge k' k with w | w
            · exact st6 k' z w h2 h3
            · obtain rfl : k' = k := by omega
              rw [hz] at h2
              cases h2
              refine absurd (decide_eq_true ?_) cc
              rw [cn0, h3]
              rfl
        · rintro σ H6 ⟨y6, us, kvs, rfl, g6, kd6, ks6, kv6, kw6, lsd6, up6, al6, st6⟩
          rw [List.length_map] at kw6 st6
          refine ⟨_, _, us, kvs, rfl, g5.trans g6, kd6, ks6, fun i' b j h1 h2 h3 h4 => ?_, lsd6, up6, fun i' b h1 h2 h3 => ?_⟩
          · rcases Nat.lt_or_ge i' i with w | w
            · exact kv6 i' b j w h2 h3 h4
            · obtain rfl : i' = i := by omega
              rw [hbs_i] at h2
              cases h2
              obtain ⟨k', hk', e⟩ := List.getElem_of_mem (alw_mem.mpr ⟨j, h3, rfl, h4⟩)
              exact kw6 k' _ hk' (by rw [List.getElem?_eq_getElem hk', e])
          · rcases Nat.lt_or_ge i' i with w | w
            · exact al6 i' b w h2 h3
            · obtain rfl : i' = i := by omega
              rw [hbs_i] at h2
              cases h2
              obtain ⟨j, hj, lim, no⟩ := lst_one.mp h3
              obtain ⟨k', hk', e⟩ := List.getElem_of_mem (alw_mem.mpr ⟨j, hj, rfl, lim⟩)
              refine st6 k' _ hk' (by rw [List.getElem?_eq_getElem hk', e]) (List.eq_nil_iff_forall_not_mem.mpr fun a ha => no a ((mem_plcs (by have := szp j hj; omega) (by omega) gbs.st).mp ha))
      · rintro σ H4 ⟨y5, y6, us, kvs, rfl, g4, kd4, ks4, kv4, lsd4, up4, al4⟩
        have xl : xs.length = bss.length := Paired.length hxs
        have bl6 : bss.length * (p + 1) ≤ 531441 * 6 := Nat.mul_le_mul bl (by omega)
        refine hD' _ _ ⟨y5, y6, us, bss, rfl, (Same.kt s3).trans g4.kt, fun a o n1 n2 h => g4.fr _ _ n1 n2 (s3 _ _ h), hbs, bl, ⟨kvs, kd4, by have := ekeys_few (KD.ndk kd4) ks4; omega, fun b j gb hj l => ?_⟩, lsd4, fun b => ?_⟩
        · obtain ⟨i', hi', e⟩ := List.getElem_of_mem ((hbs b).mpr gb)
          exact kv4 i' b j (by omega) (by rw [List.getElem?_eq_getElem hi', e]) hj l
        · constructor
          · exact fun h => ⟨lsd4.gst h, up4 b h⟩
          · rintro ⟨gb, l⟩
            obtain ⟨i', hi', e⟩ := List.getElem_of_mem ((hbs b).mpr gb)
            exact al4 i' b (by omega) (by rw [List.getElem?_eq_getElem hi', e]) l
    · rintro σ' H3 ⟨y5, y6, us, bss, rfl, k3, fr3, hbs, bl, esc3, lsd3, hus⟩
      have fixH : Same H H3 := fun a o h => fr3 _ _ (ne_of_none h nN) (ne_of_none h nEH) (s02 _ _ h)
      have hc3 := hc.keep fixH
      refine ⟨.ref N, rfl, N, us, rfl, lsd3.kd.r, fun nl nnl => ?_⟩
      have snl := same_upd (o := .lst (us.map fun x => V.ref x.2.1)) nnl
      have hnl : upd H3 nl (.lst (us.map fun x => V.ref x.2.1)) nl = some (.lst (us.map fun x => V.ref x.2.1)) := upd_same
      have lsd4 := lsd3.kt (Same.kt snl) fun o h => snl _ _ h
      have esc4 := esc3.kt (Same.kt snl) fun o h => snl _ _ h
      obtain ⟨ns, hns, _, nd, mns⟩ := lsd4.list
      have fix4 : Same H (upd H3 nl (.lst (us.map fun x => V.ref x.2.1))) := Same.trans fixH snl
      generalize upd H3 nl (.lst (us.map fun x => V.ref x.2.1)) = H4 at *
      dsimp only [gName]
      refine seq_splitR (fun σ' H' => ∃ (y5 y6 y7 y8 : Option V) (us : List KAV), σ' = [some (.ref c), some (.int M), some (.int n), some (.ref N), some (.ref E), y5, y6, y7, y8] ∧ Same H H' ∧ Lsd w sz p M W H' N us ∧ ∀ bs, InK us bs ↔ Gst sz p M W bs ∧ ∃ k, Lst sz p M W k bs) (fun D2 rt2 hD2 => ?_) ?_
      rotate_left
      · rintro σ' H5 ⟨y5, y6, y7, y8, us, rfl, s5, lsd5, hus5⟩
        exact ⟨.ref N, rfl, fin H5 N us nN s5 lsd5 (Nat.le_trans (lsd5.few fun bs g => (hbs bs).mpr g) bl) hus5⟩
      refine ⟨fun q σ H' => ∃ (y5 y6 : Option V) (m : Nat) (nl : Addr) (xs : List V) (ps ns : List (List Bk)) (us : List KAV), σ = [some (.ref c), some (.int M), some (.int n), some (.ref N), some (.ref E), y5, y6, some (.int ((m : Nat) : Int)), some (.ref nl)] ∧ Same H H' ∧ 1 ≤ m ∧ H' nl = some (.lst xs) ∧ StVs H' xs ns ∧ ns.Nodup ∧ (∀ x, x ∈ ns ↔ Gst sz p M W x ∧ Rnk sz p M W m x) ∧ (∀ x, x ∈ ps ↔ Gst sz p M W x ∧ Lst sz p M W (m - 1) x) ∧ Esc w H' E sz p M W ps ∧ Lsd w sz p M W H' N us ∧ (∀ bs, InK us bs ↔ Gst sz p M W bs ∧ Lst sz p M W m bs) ∧ q = 2 * (531441 - us.length) + (if ns = [] then 0 else 1),
        ⟨_, y5, y6, 1, nl, _, [], ns, us, rfl, fix4, Nat.le_refl _, hnl, hns, nd, fun x => ?_, fun x => ⟨(fun h => nomatch h), fun h => h.2.elim⟩, esc4, lsd4, hus, rfl⟩, ?_⟩
      · rw [mns, hus]
        exact ⟨fun h => ⟨h.1, rnk_one h.2⟩, fun h => ⟨h.1, h.2.1⟩⟩
      rintro q σ H5 ⟨y5, y6, m, nl5, xs, ps, ns5, us5, rfl, s5, m1, hnl5, hx5, nd5, mn5, mp5, esc5, lsd5, hus5, rfl⟩
      have xl : xs.length = ns5.length := Paired.length hx5
      refine ⟨.ref nl5, rfl, !xs.isEmpty, .inl ⟨xs, .inl (.inl hnl5), by cases xs <;> simp⟩, ite2 (fun cc => ?_) (fun cc => ?_)⟩
      · have ne5 : ns5 ≠ [] := fun z => by
          rw [z] at xl
          have : xs = [] := List.length_eq_zero_iff.mp xl
          rw [this] at cc
          cases cc
        refine ⟨_, fun σ' H' h => h, ?_⟩
        refine ⟨_, rfl, _, _, rfl, rfl, ?_⟩
        dsimp only
        have em : ((m : Nat) : Int) + 1 = ((m + 1 : Nat) : Int) := by omega
        rw [em]
        refine ⟨.ref c, rfl, .int M, rfl, .int n, rfl, .ref nl5, rfl, .int _, rfl, .ref N, rfl, .ref E, rfl, c, nl5, N, E, sz, p, n, M, m, mm, xs, ps, ns5, bss, us5, rfl, hc.keep s5, cn, sml, hnl5, hx5, nd5, m1, by rw [hW]; exact mn5, by rw [hW]; exact mp5, by rw [hW]; exact fun bs g => (hbs bs).mpr g, bl, by rw [hW]; exact esc5, by rw [hW]; exact lsd5, by rw [hW]; exact hus5, NE, fun H6 D ys fs us6 nD k6 fr6 esc6 lsd6 hus6 hD6 hf6 nd6 mf6 ln6 => ?_⟩
        rw [hW] at esc6 lsd6 hus6 mf6
        have few := lsd6.few fun bs g => (hbs bs).mpr g
        refine ⟨2 * (531441 - us6.length) + (if fs = [] then 0 else 1), ?_, y5, y6, m + 1, D, ys, ps ++ ns5, fs, us6, rfl, fun a o h => fr6 _ _ (ne_of_none h nN) (ne_of_none h nEH) (s5 _ _ h), by omega, hD6, hf6, nd6, mf6, fun x => ?_, esc6, lsd6, hus6, rfl⟩
        · rw [if_neg ne5]
          split
          · rename_i z
            rw [z] at ln6
            rw [ln6]
            show 2 * (531441 - (us5.length + 0)) + 0 < _
            omega
          · rename_i z
            have : 1 ≤ fs.length := by
              cases fs with
              | nil => exact absurd rfl z
              | cons a r => rw [List.length_cons]; omega
            omega
        · rw [List.mem_append, mp5, mn5, Nat.add_sub_cancel]
          constructor
          · rintro (⟨g, l⟩ | ⟨g, l⟩)
            · exact ⟨g, l.mono (by omega)⟩
            · exact ⟨g, l.1⟩
          · rintro ⟨g, l⟩
            rcases Classical.em (Lst sz p M W (m - 1) x) with z | z
            · exact .inl ⟨g, z⟩
            · exact .inr ⟨g, l, fun k hk lk => z (lk.mono (by omega))⟩
      · refine hD2 _ _ ⟨y5, y6, _, _, us5, rfl, s5, lsd5, fun bs => ?_⟩
        have e5 : ns5 = [] := by
          cases xs with
          | nil => exact List.length_eq_zero_iff.mp xl.symm
          | cons a r => exact absurd rfl cc
        rw [hus5]
        refine ⟨fun h => ⟨h.1, m, h.2⟩, fun ⟨g, k, l⟩ => ⟨g, ?_⟩⟩
        have stop : ∀ bs, Gst sz p M W bs → Lst sz p M W (m - 1 + 1) bs → Lst sz p M W (m - 1) bs := fun b gb lb => Classical.byContradiction fun z => by
          rw [Nat.sub_add_cancel m1] at lb
          have : b ∈ ns5 := (mn5 b).mpr ⟨gb, lb, fun k hk lk => z (lk.mono (by omega))⟩
          rw [e5] at this
          cases this
        rcases Nat.lt_or_ge k m with z | z
        · exact l.mono (by omega)
        · exact (Lst.stop cn.ch stop (by omega) g l).mono (by omega)
end
end Ph

set_option maxHeartbeats 8000000
namespace Ph
open PySem PySem.Spec PyProof.Rows L2
/-- every number of moves up to the greatest is some state's -/
theorem rnk_down {s : Nat → Nat} {p M : Nat} {W : Int} (c : CH s (p + 1)) {r k : Nat} {bs : List Bk} (g : Gst s p M W bs) (rk : Rnk s p M W r bs) (k1 : 1 ≤ k) (kr : k ≤ r) : ∃ b, Gst s p M W b ∧ Rnk s p M W k b := by
  refine Classical.byContradiction fun no => ?_
  have stop : ∀ b, Gst s p M W b → Lst s p M W (k - 1 + 1) b → Lst s p M W (k - 1) b := fun b gb lb => Classical.byContradiction fun z => by
    rw [Nat.sub_add_cancel k1] at lb
    exact no ⟨b, gb, lb, fun j hj l => z (l.mono (by omega))⟩
  exact rk.2 (k - 1) (by omega) (Lst.stop c stop (by omega) g rk.1)
theorem rnk_le {s : Nat → Nat} {p M : Nat} {W : Int} (c : CH s (p + 1)) {us : List KAV} (hus : ∀ bs, InK us bs ↔ Gst s p M W bs ∧ ∃ k, Lst s p M W k bs) {r : Nat} {bs : List Bk} (g : Gst s p M W bs) (rk : Rnk s p M W r bs) : r ≤ us.length := by
  have ex : ∀ i : Nat, ∃ b, i < r → Gst s p M W b ∧ Rnk s p M W (i + 1) b := fun i => by
    rcases Nat.lt_or_ge i r with h | h
    · obtain ⟨b, h1, h2⟩ := rnk_down c g rk (k := i + 1) (by omega) (by omega)
      exact ⟨b, fun _ => ⟨h1, h2⟩⟩
    · exact ⟨[], fun z => absurd z (by omega)⟩
  obtain ⟨f, hf⟩ := Classical.axiomOfChoice ex
  have := nodup_le (l := (List.range r).map fun i => skey (f i)) (m := us.map (·.1)) (List.pairwise_map.mpr (List.pairwise_lt_range.imp_of_mem fun {i j} hi hj h e => by
    have e := skey_inj e
    have h1 := (hf i (List.mem_range.mp hi)).2
    have h2 := (hf j (List.mem_range.mp hj)).2
    rw [e] at h1
    have := h1.uniq h2
    omega)) fun k hk => by
    obtain ⟨i, hi, rfl⟩ := List.mem_map.mp hk
    obtain ⟨h1, h2⟩ := hf i (List.mem_range.mp hi)
    obtain ⟨x, hx, e⟩ := ((hus (f i)).mpr ⟨h1, _, h2.1⟩).mem
    exact List.mem_map.mpr ⟨x, hx, e⟩
  rw [List.length_map, List.length_map, List.length_range] at this
  exact this
section
variable {P : Program} {w : World} {K : PySem.W.Frag} {mg : Str → Option Value} {base : Heap}
def GmAt (H : Hp) (c t : Addr) (s : Nat → Nat) (p n M m : Nat) (bs : List Bk) : Prop := ChAt H c (tl s (p + 1)) ∧ Cn s p m ∧ Sml s p n ∧ StAt H t bs ∧ Gst s p M ((n * s p : Nat) : Int) bs
def spCk : Sp := fun vs H Q _ => ∃ (c t : Addr) (s : Nat → Nat) (p n M m : Nat) (bs : List Bk), vs = [.ref c, .int M, .int n, .ref t] ∧ GmAt H c t s p n M m bs ∧ ∀ H' v, Same H H' → Q v H'
theorem ok_Ck {k : Nat} (Z : Fns K mg) : FnOk P w K mg base CX0 (k + 1 + 1 + 1 + 1 + 1) Z.fCk Z.fdCk ["chain", "limit", "pages", "state"] spCk := by
  have GS : FnOk P w K mg base CX0 (k + 1 + 1 + 1 + 1) Z.fS Z.fdS ["chain", "pages", "value"] spS := ok_S Z
  have GV : FnOk P w K mg base CX0 (k + 1) Z.fV Z.fdV ["state"] spV := ok_V Z
  have GCh : FnOk P w K mg base CX0 (k + 1 + 1 + 1) Z.fCh Z.fdCh ["chain", "pages"] (spCh K) := ok_Ch Z
  refine Z.FCk.ok scCk (fun vs H Q E h => ?_) (fun cdv A outer s H vs Q E hr h => ?_)
  · obtain ⟨c, t, s, p, n, M, m, bs, rfl, _⟩ := h
    rfl
  · obtain ⟨c, t, sz, p, n, M, m, bs, rfl, ⟨hc, cn, sml, ht, g⟩, fin⟩ := h
    refine ⟨_, (pss_cons (ps_if (PW.pt (pw_or (pt_not (pt_val (pe_call GS (hr.mono (by omega)) (by rfl) Z.gS Z.FS.kp Z.bS .nil pass0 (pa_cons (pv 0) (pa_cons (pv 2) (pa_cons (pv 3) pa_nil)))))) (pw_or1 (pt_cmpR op_gt (pe_call GV (hr.mono (by omega)) (by rfl) Z.gV Z.FV.kp Z.bV .nil pass0 (pa_cons (pv 3) pa_nil)) (pv 1) (nomark _)))))
 (pss_one ps_never) pss_nil)
 (pss_one (ps_expr (pe_call GCh (hr.mono (by omega)) (by rfl) Z.gCh Z.FCh.kp Z.bCh .nil pass0 (pa_cons (pv 0) (pa_cons (pv 2) pa_nil)))))), ?_⟩
    have n1 := sml.n
    have w1 := sml.w
    have z1 := sml.z
    have few := st_len g.st (by omega)
    have fw : ((n * sz p : Nat) : Int) ≤ 12 := by omega
    have hc' : ChAt H c (tl sz p ++ [((sz p : Nat) : Int)]) := by rw [← tl_succ]; exact hc
    have eW : ((n : Nat) : Int) * ((sz p : Nat) : Int) = ((n * sz p : Nat) : Int) := (Int.natCast_mul _ _).symm
    refine ⟨.ref c, rfl, .int n, rfl, .ref t, rfl, c, t, tl sz p, ((sz p : Nat) : Int), n, bs, rfl, hc', fun z hz => ?_, by omega, by omega, ht, by rw [← tl_succ, eW]; exact g.st, by omega, fun H1 s1 => ⟨true, rfl, ite2 (fun c => absurd c (by decide)) (fun _ => ?_)⟩⟩
    · rw [← tl_succ] at hz
      obtain ⟨j, hj, rfl⟩ := tl_mem.mp hz
      have := cn.ch.pos hj
      have := cn.ch.mono (i := j) (j := p) (by omega) (by omega)
      omega
    refine ⟨.ref t, rfl, t, bs, rfl, ht.same s1, by omega, fun H2 s2 => ⟨.int M, rfl, tot bs, (M : Int), rfl, rfl, _, rfl, ite2 (fun c => absurd (of_decide_eq_true c) (by have := g.lim; have e : tot bs = totB bs := rfl; omega)) (fun _ => ?_)⟩⟩
    exact ⟨.ref c, rfl, .int n, rfl, c, sz, p, n, m, rfl, (hc.keep (s1.trans s2)).sq, cn, sml, fun H3 v s3 => fin _ _ (s1.trans (s2.trans s3))⟩
def spMv : Sp := fun vs H Q _ => ∃ (c t : Addr) (s : Nat → Nat) (p n M m : Nat) (bs : List Bk), vs = [.ref c, .int M, .int n, .ref t] ∧ GmAt H c t s p n M m bs ∧ ∀ H' v, Same H H' → ((v = .non ∧ ∀ k, ¬ Lst s p M ((n * s p : Nat) : Int) k bs) ∨ ∃ r : Nat, v = .int (r : Int) ∧ r ≤ 531441 ∧ Rnk s p M ((n * s p : Nat) : Int) r bs) → Q v H'
theorem ok_Mv {k : Nat} (Z : Fns K mg) : FnOk P w K mg base CX0 (k + 1 + 1 + 1 + 1 + 1 + 1 + 1 + 1 + 1) Z.fMv Z.fdMv ["chain", "limit", "pages", "state"] spMv := by
  have GCk : FnOk P w K mg base CX0 (k + 1 + 1 + 1 + 1 + 1) Z.fCk Z.fdCk ["chain", "limit", "pages", "state"] spCk := ok_Ck Z
  have GUs : FnOk P w K mg base CX0 (k + 1 + 1 + 1 + 1 + 1 + 1 + 1 + 1) Z.fUs Z.fdUs ["chain", "limit", "pages"] (spUs w) := ok_Us Z
  refine Z.FMv.ok scMv (fun vs H Q E h => ?_) (fun cdv A outer s H vs Q E hr h => ?_)
  · obtain ⟨c, t, s, p, n, M, m, bs, rfl, _⟩ := h
    rfl
  · obtain ⟨c, t, sz, p, n, M, m, bs, rfl, gm, fin⟩ := h
    have hu64 := u64_of hr
    refine ⟨_, (pss_cons (ps_expr (pe_call GCk (hr.mono (by omega)) (by rfl) Z.gCk Z.FCk.kp Z.bCk .nil pass0 (pa_cons (pv 0) (pa_cons (pv 1) (pa_cons (pv 2) (pa_cons (pv 3) pa_nil))))))
 (pss_cons (ps_set (i := 4) scMv.nd rfl (.inl rfl) (pe_call GUs (hr.mono (by omega)) (by rfl) Z.gUs Z.FUs.kp Z.bUs .nil pass0 (pa_cons (pv 0) (pa_cons (pv 1) (pa_cons (pv 2) pa_nil)))))
 (pss_cons (ps_if (pt_cmpR (op_xNotIn hu64) (pv 3) (pv 4) (by rfl))
 (pss_one (ps_ret pe_non)) pss_nil)
 (pss_one (ps_ret (pe_ix ix_tup (pe_xget hu64 (pv 4) (pv 3) (fun _ _ => rfl)) pe_int (fun _ _ => rfl))))))), ?_⟩
    obtain ⟨hc, cn, sml, ht, g⟩ := id gm
    refine ⟨.ref c, rfl, .int M, rfl, .int n, rfl, .ref t, rfl, c, t, sz, p, n, M, m, bs, rfl, gm, fun H1 v1 s1 => ?_⟩
    refine ⟨.ref c, rfl, .int M, rfl, .int n, rfl, c, sz, p, n, M, m, rfl, hc.keep s1, cn, sml, fun H2 N us nN s2 lsd ul hus => ?_⟩
    have ht2 := ht.same (s1.trans s2)
    dsimp only [gName]
    refine ⟨.ref t, rfl, .ref N, rfl, N, t, us, skey bs, rfl, rfl, lsd.kd.r, ht2.nk, skey_depth _, _, rfl, ite2 (fun cc => ?_) (fun cc => ?_)⟩
    · obtain ⟨_, nin⟩ := InK.not cc
      exact fin _ _ (s1.trans s2) (.inl ⟨rfl, fun k l => nin ((hus bs).mpr ⟨g, k, l⟩)⟩)
    · obtain ⟨x, hx, ex⟩ := (InK.yes cc).mem
      obtain ⟨bs', r, q, u, v, e, st, _, ev, hu, rq, rk, gs⟩ := lsd.en x hx
      have := skey_inj (ex.symm.trans e)
      subst this
      refine ⟨.ref N, rfl, .ref t, rfl, N, t, us, skey bs, _, rfl, rfl, lsd.kd.r, ht2.nk, skey_depth _, valV_kv2 lsd.kd.nd hx ex, ?_⟩
      rw [ev]
      exact ⟨u, _, 0, _, rfl, rfl, .inl (.inl hu), rfl, fin _ _ (s1.trans s2) (.inr ⟨r, rfl, Nat.le_trans (rnk_le cn.ch hus g rk) ul, rk⟩)⟩
def spSf : Sp := fun vs H Q _ => ∃ (c t : Addr) (s : Nat → Nat) (p n M m : Nat) (bs : List Bk), vs = [.ref c, .int M, .int n, .ref t] ∧ GmAt H c t s p n M m bs ∧ ∀ H' b, Same H H' → (b = true ↔ ∀ k, ¬ Lst s p M ((n * s p : Nat) : Int) k bs) → Q (.bl b) H'
theorem ok_Sf {k : Nat} (Z : Fns K mg) : FnOk P w K mg base CX0 (k + 1 + 1 + 1 + 1 + 1 + 1 + 1 + 1 + 1 + 1) Z.fSf Z.fdSf ["chain", "limit", "pages", "state"] spSf := by
  have GMv : FnOk P w K mg base CX0 (k + 1 + 1 + 1 + 1 + 1 + 1 + 1 + 1 + 1) Z.fMv Z.fdMv ["chain", "limit", "pages", "state"] spMv := ok_Mv Z
  refine Z.FSf.ok scSf (fun vs H Q E h => ?_) (fun cdv A outer s H vs Q E hr h => ?_)
  · obtain ⟨c, t, s, p, n, M, m, bs, rfl, _⟩ := h
    rfl
  · obtain ⟨c, t, sz, p, n, M, m, bs, rfl, gm, fin⟩ := h
    refine ⟨_, (pss_one (ps_ret (pe_cmpR op_isN (pe_call GMv (hr.mono (by omega)) (by rfl) Z.gMv Z.FMv.kp Z.bMv .nil pass0 (pa_cons (pv 0) (pa_cons (pv 1) (pa_cons (pv 2) (pa_cons (pv 3) pa_nil))))) pe_non (nomark _)))), ?_⟩
    refine ⟨.ref c, rfl, .int M, rfl, .int n, rfl, .ref t, rfl, c, t, sz, p, n, M, m, bs, rfl, gm, fun H1 v1 s1 hv => ?_⟩
    refine ⟨rfl, fin _ _ s1 ?_⟩
    rcases hv with ⟨rfl, h⟩ | ⟨r, rfl, _, h⟩
    · exact ⟨fun _ => h, fun _ => rfl⟩
    · exact ⟨fun q => (nomatch of_decide_eq_true q), fun q => absurd h.1 (q r)⟩
end
end Ph

set_option maxHeartbeats 8000000
namespace Ph
open PySem PySem.Spec PyProof.Rows L2
section
variable {P : Program} {w : World} {K : PySem.W.Frag} {mg : Str → Option Value} {base : Heap}
def spSc (K : PySem.W.Frag) : Sp := fun vs H Q _ => ∃ (a : Addr) (ns : List Int) (k : Nat), vs = [.ref a, .int k] ∧ SqL K H a (ns.map V.int) ∧ k ≤ 1000 ∧ ∀ H' p, Same H H' → H p = none → So 0 H' p → Q (.ref p) H'
theorem ok_Sc {k : Nat} (Z : Fns K mg) : FnOk P w K mg base CX0 (k + 1) Z.fSc Z.fdSc ["_law_script", "_law_k"] (spSc K) := by
  refine Z.FSc.ok scSc (fun vs H Q E h => ?_) (fun cdv A outer s H vs Q E hr h => ?_)
  · obtain ⟨a, ns, k, rfl, _⟩ := h
    rfl
  · obtain ⟨a, ns, n, rfl, hS, hn, q⟩ := h
    refine ⟨_, (pss_cons (ps_set (i := 2) scSc.nd rfl (.inl rfl) (pe_ifExp (pt_cmpR op_lt (pv 1) (pe_callB call_len_seq (by rfl) Z.N.len (by decide +kernel) (pa_cons (pv 0) pa_nil)) (nomark _)) (pe_ix ix_list (pv 0) (pv 1) (fun _ _ => rfl)) (pe_op op_add (pe_op op_mul pe_int (pv 1)) pe_int)))
 (pss_cons (ps_set (i := 3) scSc.nd rfl (.inl rfl) (pe_op op_mulW (pe_op op_mod (pe_callB call_abs (by rfl) Z.N.abs (by decide +kernel) (pa_cons (pv 2) pa_nil)) (pe_op op_powW (pe_op op_pow pe_int pe_int) pe_int)) (pe_callTy call_int1 (by rfl) Z.N.int (by decide +kernel) (pa_cons (pe_cmpR op_ge (pe_callB call_abs (by rfl) Z.N.abs (by decide +kernel) (pa_cons (pv 2) pa_nil)) (pe_op op_pow pe_int pe_int) (nomark _)) pa_nil))))
 (pss_one (ps_ret (pe_lst (pa_cons (pv 3) (pa_cons (pe_op op_mod (pe_op op_add (pe_op op_add (pe_op op_mul (pe_op op_mod (pv 2) pe_int) pe_int) (pe_op op_mul pe_int (pv 1))) pe_int) pe_int) (pa_cons pe_int pa_nil)))))))), ?_⟩
    refine ⟨.int n, rfl, .ref a, rfl, a, ns.map V.int, rfl, .inl hS, _, _, rfl, rfl, _, rfl, ite2 (fun e => ?z1) (fun e => ?z2)⟩
    case z1 =>
      have e1 : (n : Int) < ((ns.map V.int).length : Nat) := of_decide_eq_true e
      have e2 : n < ns.length := by
        rw [List.length_map] at e1
        omega
      refine ⟨.ref a, rfl, .int n, rfl, a, ns.map V.int, n, .int ns[n], rfl, rfl, hS, atI_nat (j := n) (by rw [List.getElem?_map, List.getElem?_eq_getElem e2]; rfl), ?_⟩
      refine ⟨.int _, rfl, _, rfl, _, _, rfl, rfl, ⟨by decide, by decide, by decide⟩, _, _, rfl, rfl, pow_ok60, _, _, rfl, rfl, ten300_pos, .int _, rfl, _, rfl, _, _, rfl, rfl, ⟨by decide, by decide, by decide⟩, _, _, rfl, rfl, .inr ⟨_, rfl, _, _, rfl, rfl, gm_mul ten300_pos ten300_lt _, ?_⟩⟩
      refine ⟨_, rfl, .int _, rfl, _, _, rfl, rfl, (by decide : (0 : Int) < 2305843009213693951), _, _, rfl, rfl, .inr ⟨by decide, by decide⟩, .int n, rfl, _, _, rfl, rfl, .inl ⟨by decide, by decide⟩, _, _, rfl, rfl, _, _, rfl, rfl, _, _, rfl, rfl, (by decide : (0 : Int) < 2305843009213693921), (by show 3 ≤ sizeLine; decide), fun p np => ?_⟩
      exact q _ p (same_upd np) np ⟨_, _, _, upd_same, ⟨(gm_pot ten300_pos ten300_lt _).1, (gm_pot ten300_pos ten300_lt _).2, Int.emod_nonneg _ (by decide), Int.lt_trans (Int.emod_lt_of_pos _ (by decide)) (by decide), by decide⟩, by decide⟩
    case z2 =>
      refine ⟨.int n, rfl, _, _, rfl, rfl, .inl ⟨by decide, by decide⟩, _, _, rfl, rfl, ?_⟩
      refine ⟨.int _, rfl, _, rfl, _, _, rfl, rfl, ⟨by decide, by decide, by decide⟩, _, _, rfl, rfl, pow_ok60, _, _, rfl, rfl, ten300_pos, .int _, rfl, _, rfl, _, _, rfl, rfl, ⟨by decide, by decide, by decide⟩, _, _, rfl, rfl, .inr ⟨_, rfl, _, _, rfl, rfl, gm_mul ten300_pos ten300_lt _, ?_⟩⟩
      refine ⟨_, rfl, .int _, rfl, _, _, rfl, rfl, (by decide : (0 : Int) < 2305843009213693951), _, _, rfl, rfl, .inr ⟨by decide, by decide⟩, .int n, rfl, _, _, rfl, rfl, .inl ⟨by decide, by decide⟩, _, _, rfl, rfl, _, _, rfl, rfl, _, _, rfl, rfl, (by decide : (0 : Int) < 2305843009213693921), (by show 3 ≤ sizeLine; decide), fun p np => ?_⟩
      exact q _ p (same_upd np) np ⟨_, _, _, upd_same, ⟨(gm_pot ten300_pos ten300_lt _).1, (gm_pot ten300_pos ten300_lt _).2, Int.emod_nonneg _ (by decide), Int.lt_trans (Int.emod_lt_of_pos _ (by decide)) (by decide), by decide⟩, by decide⟩
def spNu : Sp := fun vs H Q _ => ∃ (p : Addr) (b : Int) (N : Nat), vs = [.ref p, .int b] ∧ So N H p ∧ N ≤ 1000000 ∧ 0 < b ∧ b < 4611686018427387904 ∧ ∀ H' d, But p H H' → So (N + 1) H' p → 0 ≤ d → d < b → Q (.int d) H'
theorem ok_Nu {k : Nat} (Z : Fns K mg) : FnOk P w K mg base CX0 (k + 1) Z.fNu Z.fdNu ["_law_source_here", "_law_below"] spNu := by
  refine Z.FNu.ok scNu (fun vs H Q E h => ?_) (fun cdv A outer s H vs Q E hr h => ?_)
  · obtain ⟨p, n, N, rfl, _⟩ := h
    rfl
  · obtain ⟨p, n, N, rfl, ⟨g, r, m, hp, hv, hN⟩, N1, hn0, hn1, q⟩ := h
    refine ⟨_, (pss_cons (ps_if (pt_cmpR op_gt (pe_ix ix_list (pv 0) pe_int (fun _ _ => rfl)) pe_int (nomark _))
 (pss_cons (ps_set (i := 2) scNu.nd rfl (.inl rfl) (pe_op op_mod (pe_ix ix_list (pv 0) pe_int (fun _ _ => rfl)) (pv 1)))
 (pss_cons (ps_asg (pe_op op_fdivW (pe_ix ix_list (pv 0) pe_int (fun _ _ => rfl)) (pv 1)) (pg_sub (pv 0) pe_int set_list))
 (pss_one (ps_ret (pv 2))))) pss_nil)
 (pss_cons (ps_asg (pe_op op_add (pe_ix ix_list (pv 0) pe_int (fun _ _ => rfl)) pe_int) (pg_sub (pv 0) pe_int set_list))
 (pss_cons (ps_set (i := 3) scNu.nd rfl (.inl rfl) (pe_ix ix_list (pv 0) pe_int (fun _ _ => rfl)))
 (pss_cons (ps_set (i := 4) scNu.nd rfl (.inl rfl) (pe_op op_mod (pe_op op_pow (pe_op op_add (pe_op op_add (pe_ix ix_list (pv 0) pe_int (fun _ _ => rfl)) (pe_op op_mul (pe_op op_mul pe_int (pv 3)) (pv 3))) pe_int) pe_int) pe_int))
 (pss_cons (ps_set (i := 4) scNu.nd rfl (.inl rfl) (pe_op op_mod (pe_op op_mul (pv 4) (pe_op op_add (pe_op op_mod (pv 4) pe_int) (pe_op op_mul pe_int (pe_ix ix_list (pv 0) pe_int (fun _ _ => rfl))))) pe_int))
 (pss_one (ps_ret (pe_op op_mod (pe_op op_fdiv (pv 4) pe_int) (pv 1))))))))), ?_⟩
    have hL : SqL K H p [.int g, .int r, .int m] := .inl (.inl hp)
    refine ⟨.ref p, rfl, p, _, 0, .int g, rfl, rfl, hL, atI_nat (j := 0) rfl, g, 0, rfl, rfl, _, rfl, ite2 (fun e => ?_) (fun e => ?_)⟩
    · refine ⟨.ref p, rfl, p, _, 0, .int g, rfl, rfl, hL, atI_nat (j := 0) rfl, .int n, rfl, g, n, rfl, rfl, hn0, ?_⟩
      refine ⟨.ref p, rfl, p, _, 0, .int g, rfl, rfl, hL, atI_nat (j := 0) rfl, .int n, rfl, g, n, rfl, rfl, wide_div (b := 62) hn0 ?_ (by decide) (by decide), .ref p, rfl, p, _, 0, 0, rfl, rfl, hp, rfl, _, rfl, ?_⟩
      · have : (2 : Nat) ^ 62 = 4611686018427387904 := by decide
        rw [this]
        omega
      · have d0 : 0 ≤ g / n := Int.ediv_nonneg hv.g0 (by omega)
        have d1 : g / n ≤ g := Int.ediv_le_self _ hv.g0
        refine q _ _ but_upd ⟨_, _, _, upd_same, ⟨d0, wide_le d0 d1 hv.g1, hv.r0, hv.r1, hv.n0⟩, by omega⟩ (Int.emod_nonneg _ (by omega)) (Int.emod_lt_of_pos _ hn0)
    · have n0 := hv.n0
      have r0 := hv.r0
      have r1 := hv.r1
      refine ⟨.ref p, rfl, p, _, 2, .int m, rfl, rfl, hL, atI_nat (j := 2) rfl, _, _, rfl, rfl, .ref p, rfl, p, _, 2, 2, rfl, rfl, hp, rfl, ?_⟩
      have hp2 : upd H p (.lst [.int g, .int r, .int (m + 1)]) p = some (.lst [.int g, .int r, .int (m + 1)]) := upd_same
      have hL2 : SqL K (upd H p (.lst [.int g, .int r, .int (m + 1)])) p [.int g, .int r, .int (m + 1)] := .inl (.inl hp2)
      refine ⟨.ref p, rfl, p, _, 2, .int (m + 1), rfl, rfl, hL2, atI_nat (j := 2) rfl, ?_⟩
      have tt0 : 0 ≤ 104729 * (m + 1) * (m + 1) := Int.mul_nonneg (by omega) (by omega)
      have tt1 : 104729 * (m + 1) * (m + 1) ≤ 104729 * 1000001 * 1000001 := Int.mul_le_mul (by omega) (by omega) (by omega) (by decide)
      refine ⟨.ref p, rfl, p, _, 1, .int r, rfl, rfl, hL2, atI_nat (j := 1) rfl, .int (m + 1), rfl, _, _, rfl, rfl, .inl ⟨by decide, by decide⟩, .int (m + 1), rfl, _, _, rfl, rfl, .inr ⟨by omega, by omega⟩, _, _, rfl, rfl, _, _, rfl, rfl, _, _, rfl, rfl, ⟨by decide, by decide, ?_⟩, _, _, rfl, rfl, (by decide : (0 : Int) < 2305843009213693907), ?_⟩
      · generalize 104729 * (m + 1) * (m + 1) = y at *
        have : (2 : Nat) ^ 64 = 18446744073709551616 := by decide
        rw [this]
        omega
      dsimp only
      generalize (r + 104729 * (m + 1) * (m + 1) + 31) ^ (3 : Int).toNat = y
      have m0 : 0 ≤ y % 2305843009213693907 := Int.emod_nonneg _ (by decide)
      have m1 : y % 2305843009213693907 < 2305843009213693907 := Int.emod_lt_of_pos _ (by decide)
      generalize y % 2305843009213693907 = x at *
      refine ⟨.int x, rfl, .int x, rfl, _, _, rfl, rfl, (by decide : (0 : Int) < 999983), .ref p, rfl, p, _, 2, .int (m + 1), rfl, rfl, hL2, atI_nat (j := 2) rfl, _, _, rfl, rfl, .inl ⟨by decide, by decide⟩, _, _, rfl, rfl, _, _, rfl, rfl, .inl ⟨by omega, by omega⟩, _, _, rfl, rfl, (by decide : (0 : Int) < 2305843009213693723), ?_⟩
      refine ⟨.int _, rfl, _, _, rfl, rfl, ⟨by decide, by decide⟩, .int n, rfl, _, _, rfl, rfl, hn0, ?_⟩
      exact q _ _ but_upd ⟨_, _, _, hp2, ⟨hv.g0, hv.g1, r0, r1, by omega⟩, by omega⟩ (Int.emod_nonneg _ (by omega)) (Int.emod_lt_of_pos _ hn0)
def spCo (K : PySem.W.Frag) : Sp := fun vs H Q _ => ∃ (p l : Addr) (xs : List V) (N : Nat), vs = [.ref p, .ref l] ∧ So N H p ∧ N ≤ 1000000 ∧ (SqL K H l xs ∨ SqT K H l xs) ∧ l ≠ p ∧ xs ≠ [] ∧ xs.length ≤ 100000 ∧ ∀ H' x, But p H H' → So (N + 1) H' p → x ∈ xs → Q x H'
theorem ok_Co {k : Nat} (Z : Fns K mg) : FnOk P w K mg base CX0 (k + 1 + 1) Z.fCo Z.fdCo ["_law_source_here", "_law_some"] (spCo K) := by
  have GNu : FnOk P w K mg base CX0 (k + 1) Z.fNu Z.fdNu ["_law_source_here", "_law_below"] spNu := ok_Nu Z
  refine Z.FCo.ok scCo (fun vs H Q E h => ?_) (fun cdv A outer s H vs Q E hr h => ?_)
  · obtain ⟨p, l, xs, N, rfl, _⟩ := h
    rfl
  · obtain ⟨p, l, xs, N, rfl, hp, hN, hl, hne, hx, hlen, q⟩ := h
    refine ⟨_, (pss_one (ps_ret (pe_ix ix_any (pv 1) (pe_call GNu (hr.mono (by omega)) (by rfl) Z.gNu Z.FNu.kp Z.bNu .nil pass0 (pa_cons (pv 0) (pa_cons (pe_callB call_len_seq (by rfl) Z.N.len (by decide +kernel) (pa_cons (pv 1) pa_nil)) pa_nil))) (fun _ _ => rfl)))), ?_⟩
    have hx0 : 0 < xs.length := List.length_pos_iff.mpr hx
    refine ⟨.ref l, rfl, .ref p, rfl, .ref l, rfl, l, xs, rfl, hl, p, _, N, rfl, hp, hN, ?_, ?_, fun H' d hb hp' d0 d1 => ?_⟩
    · omega
    · omega
    · obtain ⟨j, rfl⟩ : ∃ j : Nat, d = j := ⟨d.toNat, by omega⟩
      have hd : j < xs.length := by omega
      rcases hl with hl | hl
      · exact .inl ⟨l, xs, j, xs[j], rfl, rfl, hb.seq hne hl, atI_nat (List.getElem?_eq_getElem hd), q _ _ hb hp' (List.getElem_mem hd)⟩
      · exact .inr ⟨l, xs, j, xs[j], rfl, rfl, hb.tup hne hl, atI_nat (List.getElem?_eq_getElem hd), q _ _ hb hp' (List.getElem_mem hd)⟩
end
end Ph

set_option maxHeartbeats 8000000
namespace Ph
open PySem PySem.Spec PyProof.Rows L2
section
variable {P : Program} {w : World} {K : PySem.W.Frag} {mg : Str → Option Value} {base : Heap}
end
end Ph

set_option maxHeartbeats 8000000
namespace Ph
open PySem PySem.Spec PyProof.Rows L2
/-! ### the law's own search for all states -/
def DoneV (s : Nat → Nat) (p M : Nat) (W : Int) (xs : List KAV) (bs : List Bk) : Prop := ∀ j, j ≤ p → totB bs + ((s j : Nat) : Int) ≤ M → ∀ a, Plc W bs ((s j : Nat) : Int) a → InK xs (wb bs a ((s j : Nat) : Int))
/-- the table N and the list L of those that wait; E: those that are being looked at -/
structure Sv (w : World) (s : Nat → Nat) (p M : Nat) (W : Int) (N L : Addr) (H : Hp) (xs : List KAV) (ws : List V) (bss : List (List Bk)) (E : List Bk → Prop) : Prop where
  kd : KDx w H N xs
  en : ∀ x ∈ xs, ∃ bs, x.1 = skey bs ∧ StAt H x.2.1 bs ∧ Gst s p M W bs
  wl : H L = some (.lst ws)
  wv : StVs H ws bss
  wg : ∀ bs ∈ bss, Gst s p M W bs ∧ InK xs bs
  ln : ws.length ≤ xs.length
  cl : ∀ bs, InK xs bs → bs ∈ bss ∨ E bs ∨ DoneV s p M W xs bs
  z : InK xs []
section
variable {w : World} {s : Nat → Nat} {p M : Nat} {W : Int} {N L : Addr} {H H' : Hp} {xs : List KAV} {ws : List V} {bss : List (List Bk)} {E : List Bk → Prop}
end
section
variable {P : Program} {w : World} {K : PySem.W.Frag} {mg : Str → Option Value} {base : Heap}
end
end Ph

set_option maxHeartbeats 8000000
namespace Ph
open PySem PySem.Spec PyProof.Rows L2
/-! ### the settings of the small games -/
def sets : List (List Nat × List Nat) := [([1], [3]), ([1, 2], [1]), ([1, 3], [1]), ([1, 2], [2]), ([1, 2, 4], [1]), ([1, 4], [1]), ([1, 5], [1]), ([1, 2], [3]), ([1, 3], [2]), ([1, 3, 6], [1]), ([1, 2, 6], [1])]
section
variable {P : Program} {w : World} {K : PySem.W.Frag} {mg : Str → Option Value} {base : Heap}
/-- a small game: its chain at c, the limit M, the pages n -/
def GmT (H : Hp) (T c : Addr) (s : Nat → Nat) (p n M : Nat) : Prop := H T = some (.tup [.ref c, .int M, .int n]) ∧ ChAt H c (tl s (p + 1)) ∧ Cn s p 12 ∧ Sml s p n ∧ 1 ≤ n ∧ (s p < 4 → Sml s p (n + 1)) ∧ n * s p ≤ 9 ∧ M ≤ n * s p + 2
end
end Ph

set_option maxHeartbeats 8000000
namespace Ph
open PySem PySem.Spec PyProof.Rows L2
section
variable {P : Program} {w : World} {K : PySem.W.Frag} {mg : Str → Option Value} {base : Heap}
end
section
variable {P : Program} {w : World} {K : PySem.W.Frag} {mg : Str → Option Value} {base : Heap}
end
end Ph

set_option maxHeartbeats 8000000
namespace Ph
open PySem PySem.Spec PyProof.Rows L2
section
variable {P : Program} {w : World} {K : PySem.W.Frag} {mg : Str → Option Value} {base : Heap}
end
/-! ### words taken by page; the lowest places of the pages of a gap -/
def twf (L : Int) (bs : List Bk) (n : Int) : Int := ((bs.filter fun b => decide (b.1 / L = n)).map fun b => b.2).sum
theorem twf_snoc {L : Int} {bs : List Bk} {b : Bk} {n : Int} : twf L (bs ++ [b]) n = twf L bs n + (if b.1 / L = n then b.2 else 0) := by
  unfold twf
  rw [List.filter_append, List.map_append, List.sum_append]
  by_cases e : b.1 / L = n
  · rw [if_pos e, List.filter_cons_of_pos (by simp [e])]
    simp
  · rw [if_neg e, List.filter_cons_of_neg (by simp [e])]
    rfl
/-- a dict that tells of each page the words taken there -/
def Twd (kvs : List (Key × V)) (L : Int) (bs : List Bk) : Prop := ∀ n : Int, (valV kvs (Sum.inl n) = none ∧ twf L bs n = 0) ∨ valV kvs (Sum.inl n) = some (.int (twf L bs n))
theorem Twd.put {kvs : List (Key × V)} {L : Int} {bs : List Bk} {b : Bk} (h : Twd kvs L bs) : Twd (putK kvs (Sum.inl (b.1 / L)) (.int (twf L bs (b.1 / L) + b.2))) L (bs ++ [b]) := fun n => by
  rw [valV_put, twf_snoc]
  by_cases e : n = b.1 / L
  · subst e
    rw [if_pos rfl, if_pos rfl]
    exact .inr rfl
  · rw [if_neg (fun z => e (Sum.inl.inj z)), if_neg (fun z => e z.symm), Int.add_zero]
    exact h n
def lbf (a b L : Int) : List Int := a :: ([(a / L + 1) * L, b / L * L].filter fun s => decide (a < s) && decide (s ≤ b))
section
variable {P : Program} {w : World} {K : PySem.W.Frag} {mg : Str → Option Value} {base : Heap}
def spTw : Sp := fun vs H Q _ => ∃ (c t : Addr) (C : List Int) (L : Int) (bs : List Bk), vs = [.ref c, .ref t] ∧ ChAt H c (C ++ [L]) ∧ 0 < L ∧ L ≤ 1000000000 ∧ StAt H t bs ∧ bs.length ≤ 5000 ∧ ∀ H' d kvs, Same H H' → H d = none → H' d = some (.dK kvs) → Twd kvs L bs → Q (.ref d) H'
theorem ok_Tw {k : Nat} (Z : Fns K mg) : FnOk P w K mg base CX0 (k + 1) Z.fTw Z.fdTw ["chain", "state"] spTw := by
  refine Z.FTw.ok scTw (fun vs H Q E h => ?_) (fun cdv A outer s H vs Q E hr h => ?_)
  · obtain ⟨c, t, C, L, bs, rfl, _⟩ := h
    rfl
  · obtain ⟨c, t, C, L, bs, rfl, hc, L0, L1, ⟨xs, ht, bl⟩, hl, q⟩ := h
    refine ⟨_, (pss_cons (ps_set (i := 2) scTw.nd rfl (.inl rfl) pe_dnewK)
 (pss_cons (ps_for PassesOwn.never rfl (pi_tup (pv 1)) (pg_tup (by rfl) (pgs_cons (pg_name (i := 3) scTw.nd rfl (.inl rfl)) (pgs_cons (pg_name (i := 4) scTw.nd rfl (.inl rfl)) pgs_nil)))
 (pss_cons (ps_set (i := 5) scTw.nd rfl (.inl rfl) (pe_op op_fdiv (pv 3) (pe_ix ix_tup (pv 0) (pe_un un_neg pe_int) (fun _ _ => rfl))))
 (pss_one (ps_asg (pe_op op_add (pe_dget2 (hu_of hr) (pv 2) (pv 5) pe_int ⟨rfl, rfl, rfl, rfl⟩) (pv 4)) (pg_sub (pv 2) (pv 5) (set_dict (hu_of hr)))))))
 (pss_one (ps_ret (pv 2))))), ?_⟩
    have gl : atI ((C ++ [L]).map V.int) (-1) = some (.int L) := by
      rw [List.map_append]
      exact atI_last _ _
    refine fun d nd => ?_
    have sd := same_upd (o := .dK []) nd
    have hd : upd H d (.dK []) d = some (.dK []) := upd_same
    generalize upd H d (.dK []) = H2 at *
    have ht2 := sd _ _ ht
    have bl2 := BL.kp bl fun v us e => sd _ _ e
    refine ⟨.ref t, rfl, t, rfl, ⟨_, .inl (.inl ht2)⟩, ?_⟩
    refine for_it (walk_tup (K := K) (a := t) (xs := xs)) (fun i σ H3 => ∃ y3 y4 y5 kvs, σ = [some (.ref c), some (.ref t), some (.ref d), y3, y4, y5] ∧ But d H2 H3 ∧ H3 d = some (.dK kvs) ∧ Twd kvs L (bs.take i) ∧ kvs.length ≤ i)
      ⟨none, none, none, [], rfl, But.refl _ _, hd, fun n => .inl ⟨rfl, rfl⟩, Nat.le_refl _⟩ (fun i σ H3 _ p => ?_) ?_ ?_
    · obtain ⟨_, _, _, _, _, b3, _⟩ := p
      exact .inl (.inl (b3 _ _ (ne_of ht2 hd (by intro z; cases z)) ht2))
    · rintro i x1 σ H0 H3 hi ⟨y3, y4, y5, kvs, rfl, b3, hd3, tw, lk⟩ ⟨rfl, hx⟩
      obtain ⟨b, hb, u, rfl, hu⟩ := BL.get bl2 hx
      have hu3 := b3 _ _ (ne_of hu hd (by intro z; cases z)) hu
      have etk : bs.take (i + 1) = bs.take i ++ [b] := by rw [List.take_add_one, hb]; rfl
      have hc3 : ChAt H3 c (C ++ [L]) := (hc.keep sd).frz fun o u e => b3 _ _ (ne_of e hd (by intro z; cases z)) e
      refine ⟨u, _, rfl, .inl (.inl hu3), rfl, _, _, rfl, _, _, rfl, rfl, ?_⟩
      refine ⟨.int b.1, rfl, .ref c, rfl, 1, rfl, c, _, -1, _, rfl, rfl, hc3.sq, gl, _, _, rfl, rfl, ⟨L0, by omega⟩, ?_⟩
      have dg := DGet.k (k := Sum.inl (b.1 / L)) hd3
      have e5 : ((valV kvs (Sum.inl (b.1 / L) : Key)).getD (.int 0)) = .int (twf L (bs.take i) (b.1 / L)) := by
        rcases tw (b.1 / L) with ⟨h1, h2⟩ | h1
        · rw [h1, h2]; rfl
        · rw [h1]; rfl
      refine ⟨.ref d, rfl, d, rfl, .inl ⟨_, .inl hd3⟩, .int (b.1 / L), rfl, _, dg, ?_⟩
      rw [e5]
      have lkz : kvs.length < sizeLine := by
        rw [bl.len] at hi
        exact Nat.lt_of_lt_of_le (show kvs.length < 5001 by omega) (by decide)
      refine ⟨.int b.2, rfl, _, _, rfl, rfl, .ref d, rfl, .int (b.1 / L), rfl, d, _, rfl, DPut.k (k := Sum.inl (b.1 / L)) hd3 lkz, ?_⟩
      refine ⟨_, _, _, _, rfl, b3.trans but_upd, upd_same, ?_, ?_⟩
      · rw [etk]
        exact tw.put
      · exact Nat.le_trans putK_len (by omega)
    · rintro σ H3 ⟨y3, y4, y5, kvs, rfl, b3, hd3, tw, lk⟩
      rw [List.take_of_length_le (by rw [bl.len]; exact Nat.le_refl _)] at tw
      exact ⟨.ref d, rfl, q _ d kvs (fun a o e => b3 _ _ (ne_of_none e nd) (sd _ _ e)) nd hd3 tw⟩
def spLb : Sp := fun vs H Q _ => ∃ (a b L : Int), vs = [.int a, .int b, .int L] ∧ 0 < L ∧ L ≤ 1000000000 ∧ ∀ H' l, Same H H' → H l = none → H' l = some (.lst ((lbf a b L).map V.int)) → Q (.ref l) H'
theorem ok_Lb {k : Nat} (Z : Fns K mg) : FnOk P w K mg base CX0 (k + 1) Z.fLb Z.fdLb ["first", "last", "page"] spLb := by
  refine Z.FLb.ok scLb (fun vs H Q E h => ?_) (fun cdv A outer s H vs Q E hr h => ?_)
  · obtain ⟨a, b, L, rfl, _⟩ := h
    rfl
  · obtain ⟨a, b, L, rfl, L0, L1, q⟩ := h
    refine ⟨_, (pss_cons (ps_set (i := 3) scLb.nd rfl (.inl rfl) (pe_lst (pa_cons (pe_op op_mul (pe_op op_add (pe_op op_fdiv (pv 0) (pv 2)) pe_int) (pv 2)) (pa_cons (pe_op op_mul (pe_op op_fdiv (pv 1) (pv 2)) (pv 2)) pa_nil))))
 (pss_one (ps_ret (pe_op op_cat (pe_lst (pa_cons (pv 0) pa_nil)) (pe_lc (own := [("start", 4)]) (g := (gName 4)) (by rfl) scLb.nd (pi_list (pv 3)) (blkOk_by (N := scLbN) (sc := defScope scLbS) (by decide +kernel)) (fun _ _ _ _ _ => (pg_name (i := 4) scLb.nd rfl (.inl rfl))) (fun _ _ _ _ _ => (pts_one (pt_chain op_lt op_le (pv 0) (pv 4) (pv 1)))) (fun _ _ _ _ _ => (pv 4))))))), ?_⟩
    refine ⟨.int a, rfl, .int L, rfl, _, _, rfl, rfl, ⟨L0, by omega⟩, _, _, rfl, rfl, .int L, rfl, _, _, rfl, rfl, .inr ⟨by omega, by omega⟩, .int b, rfl, .int L, rfl, _, _, rfl, rfl, ⟨L0, by omega⟩, .int L, rfl, _, _, rfl, rfl, .inr ⟨by omega, by omega⟩, (by show 2 ≤ sizeLine; decide), fun l1 n1 => ?_⟩
    have s1 := same_upd (o := .lst [.int ((a / L + 1) * L), .int (b / L * L)]) n1
    have h1 : upd H l1 (.lst [.int ((a / L + 1) * L), .int (b / L * L)]) l1 = some (.lst ([(a / L + 1) * L, b / L * L].map V.int)) := upd_same
    dsimp only
    generalize upd H l1 (.lst [.int ((a / L + 1) * L), .int (b / L * L)]) = H1 at *
    refine ⟨.int a, rfl, (by show 1 ≤ sizeLine; decide), fun l2 n2 => ?_⟩
    have s2 := same_upd (o := .lst [.int a]) n2
    have h2 : upd H1 l2 (.lst [.int a]) l2 = some (.lst [.int a]) := upd_same
    have h1' := s2 _ _ h1
    have s02 := s1.trans s2
    generalize upd H1 l2 (.lst [.int a]) = H2 at *
    refine ⟨.ref l1, rfl, l1, rfl, ⟨_, .inl (.inl h1')⟩, fun D nD => ?_⟩
    refine lc_RF (walk_list (K := K) (a := l1) (xs := [(a / L + 1) * L, b / L * L].map V.int)) (fun _ _ _ _ y => YAt.same y) (fun j => decide (a < [(a / L + 1) * L, b / L * L].getD j 0) && decide ([(a / L + 1) * L, b / L * L].getD j 0 ≤ b)) (fun _ j y => y = .int ([(a / L + 1) * L, b / L * L].getD j 0)) (fun _ _ _ _ _ h => h) nD (by show 2 < sizeLine; decide) (fun H4 s4 => .inl (.inl (s4 _ _ h1'))) (fun j x H4 H5 hj s4 y Z1 N1 hZ hN => ?_) (fun H4 zs s4 hD pr => ?_)
    · obtain ⟨rfl, hx⟩ := y
      obtain ⟨v, rfl, ev⟩ : ∃ v : Int, x = .int v ∧ [(a / L + 1) * L, b / L * L].getD j 0 = v := by
        rw [List.getElem?_map] at hx
        obtain ⟨v, h3, h4⟩ := Option.map_eq_some_iff.mp hx
        exact ⟨v, h4.symm, by rw [List.getD_eq_getElem?_getD, h3]; rfl⟩
      rw [ev] at hZ hN
      refine ⟨rfl, .int a, rfl, .int v, rfl, _, _, rfl, rfl, _, rfl, ite2 (fun c1 => ?_) (fun c1 => ?_)⟩
      · refine ⟨.int b, rfl, _, _, rfl, rfl, _, rfl, ite2 (fun c2 => ?_) (fun c2 => ?_)⟩
        · exact ⟨.int v, rfl, hZ _ _ (Same.refl _) (by rw [c1, c2]; rfl) rfl⟩
        · exact hN _ (Same.refl _) (by rw [Bool.eq_false_iff.mpr c2, Bool.and_false])
      · exact ⟨_, rfl, iteF (hN _ (Same.refl _) (by rw [Bool.eq_false_iff.mpr c1, Bool.false_and]))⟩
    · have ezs : zs = ([(a / L + 1) * L, b / L * L].filter fun s => decide (a < s) && decide (s ≤ b)).map V.int := by
        rw [paired_eq pr]
        have er : [(a / L + 1) * L, b / L * L] = (List.range 2).map fun j => [(a / L + 1) * L, b / L * L].getD j 0 := rfl
        conv => rhs; rw [er, List.filter_map, List.map_map]
        rfl
      subst ezs
      have zl : (([(a / L + 1) * L, b / L * L].filter fun s => decide (a < s) && decide (s ≤ b)).map V.int).length ≤ 2 := by
        rw [List.length_map]
        exact Nat.le_trans (List.length_filter_le _ _) (Nat.le_refl _)
      refine ⟨l2, D, _, _, rfl, rfl, s4 _ _ h2, hD, Nat.le_trans (show _ ≤ 3 by simp only [List.length_cons, List.length_nil]; omega) (by decide), fun g ng => ?_⟩
      have sg := same_upd (o := .lst ([V.int a] ++ (([(a / L + 1) * L, b / L * L].filter fun s => decide (a < s) && decide (s ≤ b)).map V.int))) ng
      exact q _ g (s02.trans (s4.trans sg)) (none_of_same (s02.trans s4) ng) upd_same
end

/-! ### the key within place_by_page: the taken words of an address's page -/
def stTa : Stmt := (defBody sPp).getD 4 (.Pass ⟨0, 0, 0, 0⟩)
def nfTa (q : Str) (cl : List (Str × Addr)) (c : Addr) : NdefX.NF := NdefX.NF.of stTa "taken_around" q cl c
theorem nscTa (q : Str) (cl : List (Str × Addr)) (c : Addr) : NdefX.NScope ["address", "page", "taken"] ["address"] ["page", "taken"] (nfTa q cl c).scope := NdefX.nscope_by (show NdefX.nscB ["address", "page", "taken"] ["address"] ["page", "taken"] (C8.fnScope stTa) = true from by decide +kernel)
section
variable {P : Program} {w : World} {K : PySem.W.Frag} {mg : Str → Option Value} {base : Heap}
def spTa : List (Option V) → Sp := fun ws vs H Q _ => ∃ (L a : Int) (d : Addr) (kvs : List (Key × V)) (bs : List Bk), ws = [some (.int L), some (.ref d)] ∧ vs = [.int a] ∧ 0 < L ∧ L ≤ 1000000000 ∧ H d = some (.dK kvs) ∧ Twd kvs L bs ∧ Q (.int (twf L bs (a / L))) H
theorem ok_Ta {k : Nat} (f : Addr) (q : Str) (cl : List (Str × Addr)) (c : Addr) : NdefX.NOk P w K mg base CX0 (k + 1) f (nfTa q cl c) ["address"] ["page", "taken"] spTa := by
  refine NdefX.nok_of (nscTa q cl c) (fun doc pm ctv us h => ?_) (fun ws vs H Q E h => ?_) (fun A outer s H vs ws Q E hr hf hc hlen h => ?_)
  · match us, h with
    | [u], _ => rfl
  · obtain ⟨L, a, d, kvs, bs, _, rfl, _⟩ := h
    rfl
  · obtain ⟨L, a, d, kvs, bs, rfl, rfl, L0, L1, hd, tw, qq⟩ := h
    refine ⟨_, (pss_one (ps_ret (pe_dget2 (hu_of hr) (pv 2) (pe_op op_fdiv (pv 0) (pv 1)) pe_int ⟨rfl, rfl, rfl, rfl⟩))), ?_⟩
    have dg := DGet.k (k := Sum.inl (a / L)) hd
    have e5 : ((valV kvs (Sum.inl (a / L) : Key)).getD (.int 0)) = .int (twf L bs (a / L)) := by
      rcases tw (a / L) with ⟨h1, h2⟩ | h1
      · rw [h1, h2]; rfl
      · rw [h1]; rfl
    refine ⟨.ref d, rfl, d, rfl, .inl ⟨_, .inl hd⟩, .int a, rfl, .int L, rfl, _, _, rfl, rfl, ⟨L0, by omega⟩, _, dg, ?_⟩
    rw [e5]
    exact qq
end

theorem frTa : ∀ y ∈ (C8.fnScope stTa).names, y.2 = .free → (defScope sPp).names.lookup y.1 = some .cell ∨ (defScope sPp).names.lookup y.1 = some .free := by decide +kernel
theorem frTa2 : ∀ y ∈ (["page", "taken"] : List Str), (y, NameKind.free) ∈ (C8.fnScope stTa).names := by decide +kernel
abbrev tkN : Str := (envOfC "place_by_page" (defScope sPp) 0 0 (.ref 0)).qual ++ "taken_around"
abbrev mkTa (n : Nat) (f c : Addr) (c' : Addr) : NdefX.NF := nfTa ((envOfC "place_by_page" (defScope sPp) n f (.ref c)).qual ++ "taken_around") (L2.cloFrom (envOfC "place_by_page" (defScope sPp) n f (.ref c)).cells (C8.fnScope stTa).names []) c'
/-- the lowest places of the pages of all gaps -/
def cnd (L : Int) (gs : List Bk) : List Int := gs.flatMap fun g => lbf g.1 g.2 L
theorem lock_same {H H' : Hp} {d : Addr} {u : HO} {od : Obj} (e : H d = some u) (s : Same (upd H d (.frz od u)) H') : Same H (upd H' d u) := fun b o h => by
  by_cases z : b = d
  · subst z
    rw [upd_same, ← h, e]
  · rw [upd_ne z]
    exact s _ _ (by rw [upd_ne z]; exact h)
theorem lbf_len (a b L : Int) : (lbf a b L).length ≤ 3 := by
  unfold lbf
  rw [List.length_cons]
  have := List.length_filter_le (fun s => decide (a < s) && decide (s ≤ b)) [(a / L + 1) * L, b / L * L]
  have e : [(a / L + 1) * L, b / L * L].length = 2 := rfl
  omega
theorem cnd_len (L : Int) : ∀ gs : List Bk, (cnd L gs).length ≤ 3 * gs.length
  | [] => Nat.le_refl _
  | g :: r => by
    have ih := cnd_len L r
    have h := lbf_len g.1 g.2 L
    unfold cnd at *
    rw [List.flatMap_cons, List.length_append, List.length_cons]
    omega
theorem cnd_snoc (L : Int) (gs : List Bk) (g : Bk) : cnd L (gs ++ [g]) = cnd L gs ++ lbf g.1 g.2 L := by
  unfold cnd
  rw [List.flatMap_append, List.flatMap_cons, List.flatMap_nil, List.append_nil]
/-- the place that the rule asks for: the first best -/
def Cho (r : Str) (L : Int) (bs gs : List Bk) (a : Int) : Prop := ∃ i : Nat, (cnd L gs)[i]? = some a ∧ ∀ (j : Nat) (n : Int), (cnd L gs)[j]? = some n →
  if r = "tight" then twf L bs (n / L) ≤ twf L bs (a / L) ∧ (j < i → twf L bs (n / L) < twf L bs (a / L)) else twf L bs (n / L) ≥ twf L bs (a / L) ∧ (j < i → twf L bs (n / L) > twf L bs (a / L))
section
variable {P : Program} {w : World} {K : PySem.W.Frag} {mg : Str → Option Value} {base : Heap}
def spPp (T : List (Addr × Str)) : Sp := fun vs H Q _ => ∃ (r : Str) (c t l : Addr) (C : List Int) (L : Int) (bs gs : List Bk) (xs : List V), vs = [.str r, .ref c, .ref t, .ref l] ∧ ChAt H c (C ++ [L]) ∧ 0 < L ∧ L ≤ 1000000 ∧ StAt H t bs ∧ bs.length ≤ 5000 ∧ H l = some (.lst xs) ∧ BL H xs gs ∧ gs ≠ [] ∧ gs.length ≤ 5001 ∧ (∀ g ∈ gs, 0 ≤ g.1 ∧ g.1 ≤ g.2 ∧ g.2 ≤ 1000000000) ∧ LamX.Tabs T H ∧
  ∀ H' a, LamX.ExtN H H' → LamX.Tabs T H' → Cho r L bs gs a → Q (.int a) H'
theorem ok_Pp {k : Nat} (Z : Fns K mg) (TB : LamX.TabB base mg Z.cPp Z.pPp) {T : List (Addr × Str)} (hT : InT T Z.pPp tkN) : FnOk P w K mg base CX0 (k + 1 + 1 + 1 + 1) Z.fPp Z.fdPp ["rule", "chain", "state", "found"] (spPp T) := by
  have GTw : FnOk P w K mg base CX0 (k + 1) Z.fTw Z.fdTw ["chain", "state"] spTw := ok_Tw Z
  have GLb : FnOk P w K mg base CX0 (k + 1) Z.fLb Z.fdLb ["first", "last", "page"] spLb := ok_Lb Z
  refine okC Z.FPp Z.ePp scPp (fun vs H Q E h => ?_) (fun A outer s H vs Q E hr h => ?_)
  · obtain ⟨r, c, t, l, C, L, bs, gs, xs, rfl, _⟩ := h
    rfl
  · obtain ⟨r, c, t, l, C, L, bs, gs, xs, rfl, hc, L0, L1, hst, hl, hx, bl, ne, gl, gb, tabs, fin⟩ := h
    refine ⟨_, (pss_cons (ps_set (i := 8) scPp.nd rfl (.inr rfl) (pe_ix ix_tup (pv 1) (pe_un un_neg pe_int) (fun _ _ => rfl)))
 (pss_cons (ps_set (i := 9) scPp.nd rfl (.inr rfl) (pe_call GTw (hr.mono (by omega)) (by rfl) Z.gTw Z.FTw.kp Z.bTw .nil pass0 (pa_cons (pv 1) (pa_cons (pv 2) pa_nil))))
 (pss_cons (ps_set (i := 4) scPp.nd rfl (.inl rfl) (pe_lst pa_nil))
 (pss_cons (ps_for PassesOwn.never rfl (pi_list (pv 3)) (pg_tup (by rfl) (pgs_cons (pg_name (i := 5) scPp.nd rfl (.inl rfl)) (pgs_cons (pg_name (i := 6) scPp.nd rfl (.inl rfl)) pgs_nil)))
 (pss_one (ps_expr (pe_bm PySem.F.plainAttrs_list PySem.F.slot_list_extend PySem.F.type_list_extend mt_extend (pv 4) (pa_cons (pe_call GLb (hr.mono (by omega)) (by rfl) Z.gLb Z.FLb.kp Z.bLb .nil pass0 (pa_cons (pv 5) (pa_cons (pv 6) (pa_cons (pv 8) pa_nil)))) pa_nil)))))
 (pss_cons (NdefX.ps_ndefMS (T := nT T) (st := stTa) (i := 7) (by rfl) TB rfl hT.n.1 (by rfl) hT.n.2 frTa (by rfl) (by rfl) (by rfl) scPp.nd rfl (.inl rfl) (.inr rfl))
 (pss_cons (ps_if (pt_cmpR op_eq (pv 0) pe_str (nomark _))
 (pss_one (ps_ret (pe_lock (pe_maxKeyN (mk := mkTa s.heap.objs.size Z.fPp Z.cPp) (js := [8, 9]) rfl (hr.mono (by omega)) (fun f c' => ok_Ta (k := k) f _ _ c') (fun c' ok => NdefX.Caps.made ok frTa frTa2 (by rfl)) (fun _ => rfl) (by rfl) Z.N.max (by decide +kernel) (pa_cons (pv 4) pa_nil) (pk_cons (pv 7) pk_nil))))) pss_nil)
 (pss_one (ps_ret (pe_lock (pe_minKeyN (mk := mkTa s.heap.objs.size Z.fPp Z.cPp) (js := [8, 9]) rfl (hr.mono (by omega)) (fun f c' => ok_Ta (k := k) f _ _ c') (fun c' ok => NdefX.Caps.made ok frTa frTa2 (by rfl)) (fun _ => rfl) (by rfl) Z.N.min (by decide +kernel) (pa_cons (pv 4) pa_nil) (pk_cons (pv 7) pk_nil))))))))))), ?_⟩
    have gl1 : atI ((C ++ [L]).map V.int) (-1) = some (.int L) := by
      rw [List.map_append]
      exact atI_last _ _
    refine ⟨.ref c, rfl, 1, rfl, c, _, -1, _, rfl, rfl, hc.sq, gl1, ?_⟩
    refine ⟨.ref c, rfl, .ref t, rfl, c, t, C, L, bs, rfl, hc, L0, by omega, hst, hl, fun H1 d kvs s1 nd hd tw => ⟨Nat.zero_le _, fun D nD => ?_⟩⟩
    have sD := same_upd (o := .lst []) nD
    have hD : upd H1 D (.lst []) D = some (.lst []) := upd_same
    have s2 := s1.trans sD
    have hd2 := sD _ _ hd
    have ndD : d ≠ D := ne_of_none hd nD
    have nD0 : H D = none := none_of_same s1 nD
    generalize upd H1 D (.lst []) = H2 at *
    have hx2 := s2 _ _ hx
    have bl2 := BL.kp bl fun v us e => s2 _ _ e
    refine ⟨.ref l, rfl, l, rfl, ⟨_, .inl (.inl hx2)⟩, ?_⟩
    refine for_it (walk_list (K := K) (a := l) (xs := xs)) (fun j σ H3 => ∃ y5 y6, σ = [some (.str r), some (.ref c), some (.ref t), some (.ref l), some (.ref D), y5, y6, none, some (.int L), some (.ref d), none] ∧ But D H2 H3 ∧ H3 D = some (.lst ((cnd L (gs.take j)).map V.int)))
      ⟨_, _, rfl, But.refl _ _, hD⟩ (fun j σ H3 _ p => ?_) ?_ ?_
    · obtain ⟨_, _, _, b3, _⟩ := p
      exact .inl (.inl (b3 _ _ (fun z => by rw [z] at hx; rw [hx] at nD0; cases nD0) hx2))
    · rintro j x σ H0 H3 hj ⟨y5, y6, rfl, b3, hD3⟩ ⟨rfl, hxx⟩
      obtain ⟨g, hg, u, rfl, hu⟩ := BL.get bl2 hxx
      have hu3 := b3 _ _ (ne_of hu hD (by intro z; cases z)) hu
      obtain ⟨g1, g2, g3⟩ := gb g (List.mem_of_getElem? hg)
      have etk : gs.take (j + 1) = gs.take j ++ [g] := by rw [List.take_add_one, hg]; rfl
      refine ⟨u, _, rfl, .inl (.inl hu3), rfl, _, _, rfl, _, _, rfl, rfl, ?_⟩
      refine ⟨.ref D, rfl, .inl ⟨rfl, _, .inl (.inl hD3)⟩, .int g.1, rfl, .int g.2, rfl, .int L, rfl, g.1, g.2, L, rfl, L0, by omega, fun H4 p s4 np hp => ?_⟩
      refine ⟨D, p, _, _, rfl, rfl, s4 _ _ hD3, hp, ?_, ?_⟩
      · rw [List.length_map, List.length_map]
        have h1 := cnd_len L (gs.take j)
        have h2 := lbf_len g.1 g.2 L
        have h3 : (gs.take j).length ≤ gs.length := by rw [List.length_take]; exact Nat.min_le_right _ _
        exact Nat.le_trans (show _ ≤ 100000 by omega) (by decide)
      refine ⟨_, _, rfl, fun v o nv hv => ?_, ?_⟩
      · rw [upd_ne nv]
        exact s4 _ _ (b3 _ _ nv hv)
      · rw [upd_same, etk, cnd_snoc, List.map_append]
    · rintro σ H3 ⟨y5, y6, rfl, b3, hD3⟩
      rw [List.take_of_length_le (by rw [bl.len]; exact Nat.le_refl _)] at hD3
      have s03 : Same H H3 := fun a o e => b3 _ _ (ne_of_none e nD0) (s2 _ _ e)
      have hd3 := b3 _ _ ndD hd2
      have cne : cnd L gs ≠ [] := by
        obtain ⟨g, gr, rfl⟩ := List.exists_cons_of_ne_nil ne
        exact List.cons_ne_nil _ _
      refine ⟨nT_iff.mpr (tabs.ext s03), fun f c' H4 x4 n4 tb4' nf hf hcd => ?_⟩
      have tb4 := nT_iff.mp tb4'
      have hd4 := x4 _ _ hd3 (fun _ z => nomatch z)
      have hD4 := x4 _ _ hD3 (fun _ z => nomatch z)
      have x04 : LamX.ExtN H H4 := LamX.ExtN.trans (.of s03) x4
      have fD : f ≠ D := fun z => by rw [z, hD3] at nf; cases nf
      have cD : c' ≠ D := fun z => by
        have h : H4 c' = some (LamX.CodeO c' (mkTa s.heap.objs.size Z.fPp Z.cPp c').qual) := hcd
        rw [z, hD4] at h
        unfold LamX.CodeO at h
        cases h
      have fin2 : ∀ {od : Obj} {a : Int}, Cho r L bs gs a → Q (.int a) (upd (upd H4 D (.frz od (.lst ((cnd L gs).map V.int)))) D (.lst ((cnd L gs).map V.int))) := fun {od a} ch => by
        have sm := lock_same (od := od) hD4 (Same.refl _)
        exact fin _ a (x04.trans (.of sm)) (tb4.ext sm) ch
      have at1 : ∀ {od : Obj} {b : Addr} {o : HO}, b ≠ D → H4 b = some o → upd H4 D (.frz od (.lst ((cnd L gs).map V.int))) b = some o := fun {od b o} n e => (upd_ne n).trans e
      refine ⟨.str r, rfl, rfl, _, rfl, ite2 (fun c0 => ?_) (fun c0 => ?_)⟩
      · have er : r = "tight" := by simpa using c0
        refine ⟨D, .lst _, hD4, trivial, fun od => ?_⟩
        refine ⟨.ref D, rfl, .ref f, rfl, D, f, c', od, cnd L gs, fun n => twf L bs (n / L), rfl, rfl, at1 fD hf, at1 cD hcd, upd_same, cne, fun n hn Q' q' => ⟨L, n, d, kvs, bs, rfl, rfl, L0, by omega, at1 ndD hd4, tw, q'⟩, fun i m hm best => ⟨upd_same, fin2 ⟨i, hm, fun j n hn => ?_⟩⟩⟩
        rw [if_pos er]
        exact best j n hn
      · have er : r ≠ "tight" := by simpa using c0
        refine ⟨D, .lst _, hD4, trivial, fun od => ?_⟩
        refine ⟨.ref D, rfl, .ref f, rfl, D, f, c', od, cnd L gs, fun n => twf L bs (n / L), rfl, rfl, at1 fD hf, at1 cD hcd, upd_same, cne, fun n hn Q' q' => ⟨L, n, d, kvs, bs, rfl, rfl, L0, by omega, at1 ndD hd4, tw, q'⟩, fun i m hm best => ⟨upd_same, fin2 ⟨i, hm, fun j n hn => ?_⟩⟩⟩
        rw [if_neg er]
        exact best j n hn
end

/-- what place answers: none, or by the rule -/
def PlcR (r : Str) (L : Int) (bs gs : List Bk) (v : V) : Prop :=
  (gs = [] ∧ v = .non) ∨ ∃ (a : Int) (g : Bk) (rest : List Bk), gs = g :: rest ∧ v = .int a ∧ ((r = "lowest" ∧ a = g.1) ∨ (r = "highest" ∧ ∃ g' pre, gs = pre ++ [g'] ∧ a = g'.2) ∨ (r ≠ "lowest" ∧ r ≠ "highest" ∧ Cho r L bs gs a))
def IsRule (r : Str) : Prop := r = "lowest" ∨ r = "highest" ∨ r = "tight" ∨ r = "loose"
section
variable {P : Program} {w : World} {K : PySem.W.Frag} {mg : Str → Option Value} {base : Heap}
def spIr4 : Sp := fun vs H Q _ => ∃ r : Str, vs = [.str r] ∧ IsRule r ∧ Q (.bl true) H
theorem ok_Ir4 {k : Nat} (Z : Fns K mg) : FnOk P w K mg base CX0 (k + 1) Z.fIr Z.fdIr ["value"] spIr4 := by
  refine Z.FIr.ok scIr (fun vs H Q E h => ?_) (fun cdv A outer s H vs Q E hr h => ?_)
  · obtain ⟨r, rfl, _⟩ := h
    rfl
  · obtain ⟨r, rfl, hr4, q⟩ := h
    refine ⟨_, (pss_one (ps_ret (pe_cmpR op_in_seq (pv 0) (pe_glob (v := .ref Z.a_RULES) (by rfl) Z.k_RULES rfl) (by rfl)))), ?_⟩
    rcases hr4 with rfl | rfl | rfl | rfl
    · exact ⟨.str _, rfl, Z.a_RULES, _, rfl, .inr (Z.t_RULES _), rfl, by decide +kernel, q⟩
    · exact ⟨.str _, rfl, Z.a_RULES, _, rfl, .inr (Z.t_RULES _), rfl, by decide +kernel, q⟩
    · exact ⟨.str _, rfl, Z.a_RULES, _, rfl, .inr (Z.t_RULES _), rfl, by decide +kernel, q⟩
    · exact ⟨.str _, rfl, Z.a_RULES, _, rfl, .inr (Z.t_RULES _), rfl, by decide +kernel, q⟩
def spPc4 (T : List (Addr × Str)) : Sp := fun vs H Q _ => ∃ (r : Str) (c t : Addr) (C : List Int) (L m s : Int) (bs : List Bk), vs = [.str r, .ref c, .int m, .ref t, .int s] ∧ IsRule r ∧ ChAt H c (C ++ [L]) ∧ s ∈ C ++ [L] ∧ 0 < s ∧ s ≤ 2000 ∧ 1 ≤ L ∧ L ≤ 2000 ∧ 0 ≤ m ∧ m ≤ 2000 ∧ StAt H t bs ∧ St (C ++ [L]) (m * L) bs ∧ bs.length ≤ 5000 ∧ LamX.Tabs T H ∧
  ∀ H' v, LamX.ExtN H H' → LamX.Tabs T H' → PlcR r L bs (gpf s 0 (bs ++ [(m * L, 0)])) v → Q v H'
theorem ok_Pc4 {k : Nat} (Z : Fns K mg) (TB : LamX.TabB base mg Z.cPp Z.pPp) {T : List (Addr × Str)} (hT : InT T Z.pPp tkN) : FnOk P w K mg base CX0 (k + 1 + 1 + 1 + 1 + 1) Z.fPc Z.fdPc ["rule", "chain", "pages", "state", "size"] (spPc4 T) := by
  have GIr : FnOk P w K mg base CX0 (k + 1) Z.fIr Z.fdIr ["value"] spIr4 := ok_Ir4 Z
  have GGp : FnOk P w K mg base CX0 (k + 1 + 1 + 1 + 1) Z.fGp Z.fdGp ["chain", "pages", "state", "size"] spGp := ok_Gp Z
  have GPp : FnOk P w K mg base CX0 (k + 1 + 1 + 1 + 1) Z.fPp Z.fdPp ["rule", "chain", "state", "found"] (spPp T) := ok_Pp Z TB hT
  refine Z.FPc.ok scPc (fun vs H Q E h => ?_) (fun cdv A outer s H vs Q E hr h => ?_)
  · obtain ⟨r, c, t, C, L, m, s, bs, rfl, _⟩ := h
    rfl
  · obtain ⟨r, c, t, C, L, m, sz, bs, rfl, hr4, hc, hs, s0, s1, L0, L1, m0, m1, hst, st, hl, tabs, q⟩ := h
    refine ⟨_, (pss_cons (ps_if (pt_not (pt_val (pe_call GIr (hr.mono (by omega)) (by rfl) Z.gIr Z.FIr.kp Z.bIr .nil pass0 (pa_cons (pv 0) pa_nil))))
 (pss_one ps_never) pss_nil)
 (pss_cons (ps_set (i := 5) scPc.nd rfl (.inl rfl) (pe_call GGp (hr.mono (by omega)) (by rfl) Z.gGp Z.FGp.kp Z.bGp .nil pass0 (pa_cons (pv 1) (pa_cons (pv 2) (pa_cons (pv 3) (pa_cons (pv 4) pa_nil))))))
 (pss_cons (ps_if (pt_not (pt_truth (pv 5) (fun _ => rfl)))
 (pss_one (ps_ret pe_non)) pss_nil)
 (pss_cons (ps_if (pt_cmpR op_eq (pv 0) pe_str (nomark _))
 (pss_one (ps_ret (pe_ix ix_tup (pe_ix ix_list (pv 5) pe_int (fun _ _ => rfl)) pe_int (fun _ _ => rfl)))) pss_nil)
 (pss_cons (ps_if (pt_cmpR op_eq (pv 0) pe_str (nomark _))
 (pss_one (ps_ret (pe_ix ix_tup (pe_ix ix_list (pv 5) (pe_un un_neg pe_int) (fun _ _ => rfl)) pe_int (fun _ _ => rfl)))) pss_nil)
 (pss_one (ps_ret (pe_call GPp (hr.mono (by omega)) (by rfl) Z.gPp Z.FPp.kp Z.bPp .nil pass0 (pa_cons (pv 0) (pa_cons (pv 1) (pa_cons (pv 3) (pa_cons (pv 5) pa_nil)))))))))))), ?_⟩
    have mL0 : 0 ≤ m * L := Int.mul_nonneg m0 (by omega)
    have mL1 : m * L ≤ 4000000 := Int.le_trans (Int.mul_le_mul m1 L1 (by omega) (by omega)) (by decide)
    refine ⟨.str r, rfl, r, rfl, hr4, _, rfl, ite2 (fun c => absurd c (by decide)) (fun _ => ?_)⟩
    refine ⟨.ref c, rfl, .int m, rfl, .ref t, rfl, .int sz, rfl, c, t, C, L, m, sz, bs, rfl, hc, hs, s0, s1, by omega, L1, m0, m1, hst, st, hl, fun H1 D ys s1' nD hD bl => ?_⟩
    obtain ⟨asc1, asc2⟩ := st.asc0 mL0
    have gb := gpf_bnd s0 (bs ++ [(m * L, 0)]) 0 asc1 (Int.le_refl _)
    have gln := gpf_len sz (bs ++ [(m * L, 0)]) 0
    rw [List.length_append] at gln
    have tb1 : LamX.Tabs T H1 := tabs.ext s1'
    generalize gpf sz 0 (bs ++ [(m * L, 0)]) = gs at *
    cases gs with
    | nil =>
      have ey : ys = [] := List.length_eq_zero_iff.mp (by rw [bl.len]; rfl)
      subst ey
      exact ⟨.ref D, rfl, false, .inl ⟨[], .inl (.inl hD), rfl⟩, ite2 (fun _ => q _ _ (.of s1') tb1 (.inl ⟨rfl, rfl⟩)) (fun c => absurd rfl c)⟩
    | cons g gs =>
      obtain ⟨x, hx, U, rfl, hU⟩ := BL.at0 bl
      refine ⟨.ref D, rfl, true, .inl ⟨ys, .inl (.inl hD), ?_⟩, ite2 (fun c => absurd c (by decide)) (fun _ => ?_)⟩
      · cases ys with
        | nil => simp at hx
        | cons y r => rfl
      refine ⟨.str r, rfl, rfl, _, rfl, ite2 (fun c0 => ?_) (fun c0 => ?_)⟩
      · have er : r = "lowest" := by simpa using c0
        exact ⟨.ref D, rfl, D, ys, 0, _, rfl, rfl, .inl (.inl hD), atI_nat (j := 0) hx, U, _, 0, _, rfl, rfl, .inl (.inl hU), atI_nat (j := 0) rfl, q _ _ (.of s1') tb1 (.inr ⟨_, g, gs, rfl, rfl, .inl ⟨er, rfl⟩⟩)⟩
      have n1 : r ≠ "lowest" := by simpa using c0
      refine ⟨.str r, rfl, rfl, _, rfl, ite2 (fun c1 => ?_) (fun c1 => ?_)⟩
      · have er : r = "highest" := by simpa using c1
        obtain ⟨pre, g', eg⟩ : ∃ pre g', g :: gs = pre ++ [g'] := ⟨_, _, (List.dropLast_concat_getLast (l := g :: gs) (List.cons_ne_nil _ _)).symm⟩
        have hg' : (g :: gs)[pre.length]? = some g' := by rw [eg]; simp
        obtain ⟨y, hy, U', rfl, hU'⟩ := Paired.get2 bl hg'
        have ly : ys.length = pre.length + 1 := by
          rw [bl.len, eg, List.length_append]
          rfl
        have ey : ys = ys.take pre.length ++ [V.ref U'] := by
          have h := List.take_add_one (l := ys) (i := pre.length)
          rw [hy, List.take_of_length_le (by omega)] at h
          exact h
        have lst : atI ys (-1) = some (.ref U') := by
          rw [ey]
          exact atI_last _ _
        exact ⟨.ref D, rfl, 1, rfl, D, ys, -1, _, rfl, rfl, .inl (.inl hD), lst, U', _, 1, _, rfl, rfl, .inl (.inl hU'), atI_nat (j := 1) rfl, q _ _ (.of s1') tb1 (.inr ⟨_, g, gs, rfl, rfl, .inr (.inl ⟨er, g', pre, eg, rfl⟩)⟩)⟩
      have n2 : r ≠ "highest" := by simpa using c1
      refine ⟨.str r, rfl, .ref c, rfl, .ref t, rfl, .ref D, rfl, r, c, t, D, C, L, bs, g :: gs, ys, rfl, hc.keep s1', by omega, by omega, hst.same s1', hl, hD, bl, List.cons_ne_nil _ _, ?_, fun g' hg => ?_, tb1, fun H2 a x2 tb2 ch => q _ _ (LamX.ExtN.trans (.of s1') x2) tb2 (.inr ⟨a, g, gs, rfl, rfl, .inr (.inr ⟨n1, n2, ch⟩)⟩)⟩
      · have : [(m * L, (0 : Int))].length = 1 := rfl
        omega
      · have := gb g' hg
        omega
end

/-! ### the place chosen among the candidates is the first best of all places -/
section
variable {s L W : Int} {bs : List Bk}
theorem gpr_mem (hs : 0 < s) {g : Bk} {n : Int} : n ∈ gpr s g ↔ g.1 ≤ n ∧ n ≤ g.2 ∧ (n - g.1) % s = 0 := by
  unfold gpr
  rw [mem_rg3 hs]
  constructor <;> rintro ⟨h1, h2, h3⟩ <;> exact ⟨h1, by omega, h3⟩
theorem gap_in (hs : 0 < s) {g : Bk} (hg : g ∈ gpf s 0 (bs ++ [(W, 0)])) {n : Int} (hn : n ∈ gpr s g) : n ∈ plf s 0 (bs ++ [(W, 0)]) := by
  rw [plf_gpf hs]
  exact List.mem_flatMap.mpr ⟨g, hg, hn⟩
theorem page_free (hs : 0 < s) (L0 : 0 < L) (hL : L % s = 0) (h : ∀ b ∈ bs, 0 ≤ b.1 ∧ 1 ≤ b.2 ∧ b.1 + b.2 ≤ W) (asc : bs.Pairwise fun b c => b.1 + b.2 ≤ c.1) (W0 : 0 ≤ W) {g : Bk} (hg : g ∈ gpf s 0 (bs ++ [(W, 0)])) (g1 : g.1 % s = 0) {p : Int} (p1 : g.1 / L < p) (p2 : p < g.2 / L) : twf L bs p = 0 := by
  unfold twf
  have e : (bs.filter fun b => decide (b.1 / L = p)) = [] := by
    rw [List.filter_eq_nil_iff]
    intro b hb z
    have z := of_decide_eq_true z
    have b0 := h b hb
    have q1 := Int.ediv_mul_le b.1 (b := L) (by omega)
    have q2 := Int.lt_ediv_add_one_mul_self b.1 L0
    have q3 := Int.lt_ediv_add_one_mul_self g.1 L0
    have q4 := Int.ediv_mul_le g.2 (b := L) (by omega)
    have m1 : (g.1 / L + 1) * L ≤ p * L := Int.mul_le_mul_of_nonneg_right (by omega) (by omega)
    have m2 : (p + 1) * L ≤ g.2 / L * L := Int.mul_le_mul_of_nonneg_right (by omega) (by omega)
    rw [z] at q1 q2
    have r1 := Int.emod_nonneg b.1 (b := s) (by omega)
    have r2 := Int.emod_lt_of_pos b.1 hs
    have hx : (b.1 - b.1 % s) % s = 0 := Int.emod_eq_emod_iff_emod_sub_eq_zero.mp (Int.emod_emod_of_dvd b.1 (Int.dvd_refl s)).symm
    have dp : s ∣ p * L := Int.dvd_trans (Int.dvd_of_emod_eq_zero hL) (Int.dvd_mul_left ..)
    have lo : p * L ≤ b.1 - b.1 % s := by
      obtain ⟨k, hk⟩ := dp
      obtain ⟨j, hj⟩ := Int.dvd_of_emod_eq_zero hx
      rw [hk] at q1 ⊢
      rw [hj]
      refine Int.mul_le_mul_of_nonneg_left ?_ (by omega)
      have : s * k < s * (j + 1) := by rw [Int.mul_add, Int.mul_one]; omega
      have := Int.lt_of_mul_lt_mul_left this (by omega)
      omega
    have hm : b.1 - b.1 % s ∈ plf s 0 (bs ++ [(W, 0)]) := gap_in hs hg ((gpr_mem hs).mpr ⟨by omega, by omega, by
      exact Int.emod_eq_zero_of_dvd (Int.dvd_sub (Int.dvd_of_emod_eq_zero hx) (Int.dvd_of_emod_eq_zero g1))⟩)
    have := ((plf_mem hs bs 0 h asc W0 _).mp hm).2.2.2 b hb
    omega
  rw [e]
  rfl
theorem cnd_le (L0 : 0 < L) {g : Bk} {n : Int} (h : g.1 ≤ g.2) (hn : n ∈ lbf g.1 g.2 L) : g.1 ≤ n ∧ n ≤ g.2 := by
  unfold lbf at hn
  rcases List.mem_cons.mp hn with z | z
  · omega
  · have := (List.mem_filter.mp z).2
    rw [Bool.and_eq_true, decide_eq_true_eq, decide_eq_true_eq] at this
    omega
theorem cnd_in (hs : 0 < s) (L0 : 0 < L) (hL : L % s = 0) {g : Bk} {n : Int} (g1 : g.1 % s = 0) (h : g.1 ≤ g.2) (hn : n ∈ lbf g.1 g.2 L) : n ∈ gpr s g := by
  have b := cnd_le L0 h hn
  refine (gpr_mem hs).mpr ⟨b.1, b.2, ?_⟩
  unfold lbf at hn
  have dL := Int.dvd_of_emod_eq_zero hL
  rcases List.mem_cons.mp hn with z | z
  · rw [z, Int.sub_self]
    exact Int.zero_emod _
  · have z := (List.mem_filter.mp z).1
    simp only [List.mem_cons, List.not_mem_nil, or_false] at z
    rcases z with z | z
    · rw [z]
      exact Int.emod_eq_zero_of_dvd (Int.dvd_sub (Int.dvd_trans dL (Int.dvd_mul_left ..)) (Int.dvd_of_emod_eq_zero g1))
    · rw [z]
      exact Int.emod_eq_zero_of_dvd (Int.dvd_sub (Int.dvd_trans dL (Int.dvd_mul_left ..)) (Int.dvd_of_emod_eq_zero g1))
theorem cnd_rep (hs : 0 < s) (L0 : 0 < L) (hL : L % s = 0) (h : ∀ b ∈ bs, 0 ≤ b.1 ∧ 1 ≤ b.2 ∧ b.1 + b.2 ≤ W) (asc : bs.Pairwise fun b c => b.1 + b.2 ≤ c.1) (W0 : 0 ≤ W) {g : Bk} (hg : g ∈ gpf s 0 (bs ++ [(W, 0)])) (g1 : g.1 % s = 0) {n : Int} (hn : n ∈ gpr s g) : ∃ c ∈ lbf g.1 g.2 L, c ≤ n ∧ twf L bs (c / L) = twf L bs (n / L) := by
  obtain ⟨n1, n2, n3⟩ := (gpr_mem hs).mp hn
  have d1 : g.1 / L ≤ n / L := Int.ediv_le_ediv L0 n1
  have d2 : n / L ≤ g.2 / L := Int.ediv_le_ediv L0 n2
  have q3 := Int.lt_ediv_add_one_mul_self g.1 L0
  have q4 := Int.ediv_mul_le g.2 (b := L) (by omega)
  have q5 := Int.ediv_mul_le n (b := L) (by omega)
  have inl : ∀ c, (c = (g.1 / L + 1) * L ∨ c = g.2 / L * L) → g.1 < c → c ≤ g.2 → c ∈ lbf g.1 g.2 L := fun c e h1 h2 => by
    unfold lbf
    refine List.mem_cons_of_mem _ (List.mem_filter.mpr ⟨?_, ?_⟩)
    · simpa using e
    · rw [Bool.and_eq_true, decide_eq_true_eq, decide_eq_true_eq]
      exact ⟨h1, h2⟩
  by_cases e1 : n / L = g.1 / L
  · exact ⟨g.1, List.mem_cons_self .., n1, by rw [e1]⟩
  · by_cases e2 : n / L = g.2 / L
    · have m1 : (g.1 / L + 1) * L ≤ g.2 / L * L := Int.mul_le_mul_of_nonneg_right (by omega) (by omega)
      refine ⟨g.2 / L * L, inl _ (.inr rfl) (by omega) q4, by rw [← e2]; exact q5, ?_⟩
      rw [Int.mul_ediv_cancel _ (by omega), e2]
    · have m1 : (g.1 / L + 1) * L ≤ n / L * L := Int.mul_le_mul_of_nonneg_right (by omega) (by omega)
      refine ⟨(g.1 / L + 1) * L, inl _ (.inl rfl) (by omega) (by omega), by omega, ?_⟩
      rw [Int.mul_ediv_cancel _ (by omega), page_free hs L0 hL h asc W0 hg g1 (by omega) (by omega), page_free hs L0 hL h asc W0 hg g1 (by omega) (by omega)]
theorem lbf_asc (L0 : 0 < L) {a b : Int} : (lbf a b L).Pairwise (· ≤ ·) := by
  unfold lbf
  refine List.pairwise_cons.mpr ⟨fun x hx => ?_, ?_⟩
  · have := (List.mem_filter.mp hx).2
    rw [Bool.and_eq_true, decide_eq_true_eq, decide_eq_true_eq] at this
    omega
  · by_cases c : a < b / L * L
    · refine List.Pairwise.filter _ (List.pairwise_cons.mpr ⟨fun x hx => ?_, List.pairwise_singleton _ _⟩)
      rw [List.mem_singleton.mp hx]
      have : a / L < b / L := Int.ediv_lt_of_lt_mul L0 c
      exact Int.mul_le_mul_of_nonneg_right (by omega) (by omega)
    · rw [List.filter_cons, List.filter_cons_of_neg (a := b / L * L) (by simp; omega), List.filter_nil]
      split
      · exact List.pairwise_singleton _ _
      · exact List.Pairwise.nil
/-- the gaps lie one behind the other -/
theorem gps_asc (hs : 0 < s) (gs : List Bk) (gb : ∀ g ∈ gs, g.1 ≤ g.2 ∧ (g.2 - g.1) % s = 0) (p : (gs.flatMap (gpr s)).Pairwise (· < ·)) : gs.Pairwise fun g g' => g.2 < g'.1 := by
  induction gs with
  | nil => exact .nil
  | cons g r ih =>
    rw [List.flatMap_cons] at p
    obtain ⟨_, p2, p3⟩ := List.pairwise_append.mp p
    refine List.pairwise_cons.mpr ⟨fun g' hg' => ?_, ih (fun x hx => gb x (List.mem_cons_of_mem _ hx)) p2⟩
    have b1 := gb g (List.mem_cons_self ..)
    have b2 := gb g' (List.mem_cons_of_mem _ hg')
    exact p3 g.2 ((gpr_mem hs).mpr ⟨b1.1, Int.le_refl _, b1.2⟩) g'.1 (List.mem_flatMap.mpr ⟨g', hg', (gpr_mem hs).mpr ⟨Int.le_refl _, b2.1, by rw [Int.sub_self]; exact Int.zero_emod _⟩⟩)
theorem cnd_asc (L0 : 0 < L) : ∀ {gs : List Bk}, (∀ g ∈ gs, g.1 ≤ g.2) → gs.Pairwise (fun g g' => g.2 < g'.1) → (cnd L gs).Pairwise (· ≤ ·)
  | [], _, _ => List.Pairwise.nil
  | g :: r, b, p => by
    obtain ⟨p1, p2⟩ := List.pairwise_cons.mp p
    have ih := cnd_asc L0 (gs := r) (fun x hx => b x (List.mem_cons_of_mem _ hx)) p2
    unfold cnd at *
    rw [List.flatMap_cons]
    refine List.pairwise_append.mpr ⟨lbf_asc L0, ih, fun x hx y hy => ?_⟩
    obtain ⟨g', hg', hy⟩ := List.mem_flatMap.mp hy
    have h1 := cnd_le L0 (b g (List.mem_cons_self ..)) hx
    have h2 := cnd_le L0 (b g' (List.mem_cons_of_mem _ hg')) hy
    have := p1 g' hg'
    omega
theorem gpf_mod (s : Int) : ∀ (l : List Bk) (ff : Int), ∀ g ∈ gpf s ff l, g.1 % s = 0 ∧ g.2 % s = 0
  | [], _, g, hg => nomatch hg
  | b :: r, ff, g, hg => by
    have hg : g ∈ gp1 s ff b ++ gpf s (b.1 + b.2) r := hg
    rcases List.mem_append.mp hg with z | z
    · unfold gp1 at z
      split at z
      · rw [List.mem_singleton.mp z]
        exact ⟨Int.mul_emod_left _ _, Int.mul_emod_left _ _⟩
      · cases z
    · exact gpf_mod s r _ g z
/-- the rule's place is the first best of all places -/
theorem cho_best {r : Str} {a : Int} (hs : 0 < s) (L0 : 0 < L) (hL : L % s = 0) (h : ∀ b ∈ bs, 0 ≤ b.1 ∧ 1 ≤ b.2 ∧ b.1 + b.2 ≤ W) (asc : bs.Pairwise fun b c => b.1 + b.2 ≤ c.1) (W0 : 0 ≤ W) (ch : Cho r L bs (gpf s 0 (bs ++ [(W, 0)])) a) :
    a ∈ plf s 0 (bs ++ [(W, 0)]) ∧ ∀ n ∈ plf s 0 (bs ++ [(W, 0)]), if r = "tight" then twf L bs (n / L) ≤ twf L bs (a / L) ∧ (n < a → twf L bs (n / L) < twf L bs (a / L)) else twf L bs (n / L) ≥ twf L bs (a / L) ∧ (n < a → twf L bs (n / L) > twf L bs (a / L)) := by
  obtain ⟨i, hi, best⟩ := ch
  have pinc := plf_inc hs bs 0 h asc W0
  have hb0 : ∀ b ∈ bs ++ [(W, (0 : Int))], 0 ≤ b.1 ∧ 0 ≤ b.2 ∧ b.1 + b.2 ≤ W := fun b hb => by
    rcases List.mem_append.mp hb with z | z
    · have := h b z
      omega
    · rw [List.mem_singleton.mp z]
      exact ⟨W0, Int.le_refl _, by show W + 0 ≤ W; omega⟩
  have gb := gpf_bnd hs (bs ++ [(W, 0)]) 0 hb0 (Int.le_refl _)
  have gm := gpf_mod s (bs ++ [(W, 0)]) 0
  have gd : ∀ g ∈ gpf s 0 (bs ++ [(W, 0)]), g.1 ≤ g.2 ∧ (g.2 - g.1) % s = 0 := fun g hg => ⟨(gb g hg).2.1, Int.emod_eq_zero_of_dvd (Int.dvd_sub (Int.dvd_of_emod_eq_zero (gm g hg).2) (Int.dvd_of_emod_eq_zero (gm g hg).1))⟩
  have gasc := gps_asc hs _ gd (by rw [← plf_gpf hs]; exact pinc)
  have casc := cnd_asc L0 (fun g hg => (gd g hg).1) gasc
  have am : a ∈ cnd L (gpf s 0 (bs ++ [(W, 0)])) := List.mem_of_getElem? hi
  obtain ⟨g, hg, ha⟩ := List.mem_flatMap.mp am
  refine ⟨gap_in hs hg (cnd_in hs L0 hL (gm g hg).1 (gd g hg).1 ha), fun n hn => ?_⟩
  rw [plf_gpf hs] at hn
  obtain ⟨g', hg', hn⟩ := List.mem_flatMap.mp hn
  obtain ⟨c, hc, cn, ec⟩ := cnd_rep hs L0 hL h asc W0 hg' (gm g' hg').1 hn
  obtain ⟨j, hj⟩ := List.mem_iff_getElem?.mp (List.mem_flatMap.mpr ⟨g', hg', hc⟩ : c ∈ cnd L (gpf s 0 (bs ++ [(W, 0)])))
  have hj : (cnd L (gpf s 0 (bs ++ [(W, 0)])))[j]? = some c := hj
  have bj := best j c hj
  rw [ec] at bj
  have ji : n < a → j < i := fun na => Nat.lt_of_not_le fun ij => by
    obtain ⟨li, ei⟩ := List.getElem?_eq_some_iff.mp hi
    obtain ⟨lj, ej⟩ := List.getElem?_eq_some_iff.mp hj
    rcases Nat.eq_or_lt_of_le ij with z | z
    · rw [← z, hi] at hj
      have := Option.some.inj hj
      omega
    · have := List.pairwise_iff_getElem.mp casc i j li lj z
      rw [ei, ej] at this
      omega
  split
  · rename_i e
    rw [if_pos e] at bj
    exact ⟨bj.1, fun na => bj.2 (ji na)⟩
  · rename_i e
    rw [if_neg e] at bj
    exact ⟨bj.1, fun na => bj.2 (ji na)⟩
end

end Ph

set_option maxHeartbeats 8000000
namespace Ph
open PySem PySem.Spec PyProof.Rows L2
/-! ### no place of a size: every chunk of that size holds a word in use -/
theorem len_sub : ∀ {l m : List Int}, l.Nodup → (∀ x ∈ l, x ∈ m) → l.length ≤ m.length
  | [], _, _, _ => Nat.zero_le _
  | x :: r, m, nd, h => by
    obtain ⟨n1, n2⟩ := List.nodup_cons.mp nd
    have hx := h x (List.mem_cons_self ..)
    have ih := len_sub (l := r) (m := m.erase x) n2 fun y hy => (List.mem_erase_of_ne (fun (z : y = x) => n1 (z ▸ hy))).mpr (h y (List.mem_cons_of_mem _ hy))
    rw [List.length_erase_of_mem hx] at ih
    have := List.length_pos_of_mem hx
    rw [List.length_cons]
    omega
def wdl (s : Int) (bs : List Bk) : List Int := bs.flatMap fun b => (List.range b.2.toNat).map fun (t : Nat) => (b.1 + (t : Int)) / s
theorem wdl_len (s : Int) : ∀ bs : List Bk, (∀ b ∈ bs, 0 ≤ b.2) → ((wdl s bs).length : Int) = tot bs
  | [], _ => rfl
  | b :: r, h => by
    have ih := wdl_len s r fun c hc => h c (List.mem_cons_of_mem _ hc)
    have hb := h b (List.mem_cons_self ..)
    unfold wdl tot at *
    rw [List.flatMap_cons, List.length_append, List.length_map, List.length_range, List.map_cons, List.sum_cons, Int.natCast_add, ih]
    omega
theorem slots_le {s W : Int} {bs : List Bk} (hs : 0 < s) (hW : W % s = 0) (h : ∀ b ∈ bs, 0 ≤ b.1 ∧ 1 ≤ b.2 ∧ b.1 + b.2 ≤ W) (asc : bs.Pairwise fun b c => b.1 + b.2 ≤ c.1) (W0 : 0 ≤ W) (np : plf s 0 (bs ++ [(W, 0)]) = []) : W / s ≤ tot bs := by
  have memF := plf_mem hs bs 0 h asc W0
  rw [np] at memF
  have q0 : 0 ≤ W / s := Int.ediv_nonneg W0 (by omega)
  have qW : W / s * s = W := Int.ediv_mul_cancel (Int.dvd_of_emod_eq_zero hW)
  have key : ((List.range (W / s).toNat).map fun (j : Nat) => (j : Int)).length ≤ (wdl s bs).length := by
    refine len_sub ?_ fun x hx => ?_
    · exact List.pairwise_map.mpr (List.Pairwise.imp (fun {a b} h z => h (by omega)) (List.nodup_range (n := (W / s).toNat)))
    · obtain ⟨j, hj, rfl⟩ := List.mem_map.mp hx
      have hj := List.mem_range.mp hj
      have fit : (j : Int) * s + s ≤ W := by
        have : ((j : Int) + 1) * s ≤ W / s * s := Int.mul_le_mul_of_nonneg_right (by omega) (by omega)
        rw [Int.add_mul, Int.one_mul, qW] at this
        exact this
      have p0 : 0 ≤ (j : Int) * s := Int.mul_nonneg (by omega) (by omega)
      obtain ⟨b, hb, h1, h2⟩ : ∃ b ∈ bs, ¬ (j : Int) * s + s ≤ b.1 ∧ ¬ b.1 + b.2 ≤ (j : Int) * s := Classical.byContradiction fun no => by
        have := (memF ((j : Int) * s)).mpr ⟨Int.mul_emod_left _ _, p0, fit, fun b hb => Classical.byContradiction fun nn => no ⟨b, hb, fun z => nn (.inl z), fun z => nn (.inr z)⟩⟩
        cases this
      have dv : ∀ w : Int, (j : Int) * s ≤ w → w < (j : Int) * s + s → w / s = (j : Int) := fun w w1 w2 =>
        Int.le_antisymm (Int.lt_add_one_iff.mp (Int.ediv_lt_of_lt_mul hs (by rw [Int.add_mul, Int.one_mul]; exact w2))) (Int.le_ediv_of_mul_le hs w1)
      refine List.mem_flatMap.mpr ⟨b, hb, ?_⟩
      rcases Int.le_total ((j : Int) * s) b.1 with z | z
      · exact List.mem_map.mpr ⟨0, List.mem_range.mpr (by have := h b hb; omega), by rw [show b.1 + ((0 : Nat) : Int) = b.1 by omega]; exact dv _ z (by omega)⟩
      · refine List.mem_map.mpr ⟨((j : Int) * s - b.1).toNat, List.mem_range.mpr (by omega), ?_⟩
        have : b.1 + ((((j : Int) * s - b.1).toNat : Nat) : Int) = (j : Int) * s := by omega
        rw [this]
        exact dv _ (Int.le_refl _) (by omega)
  have e1 := wdl_len s bs fun b hb => by have := h b hb; omega
  rw [List.length_map, List.length_range] at key
  omega
/-- a page is opened only where the careless bound allows it -/
theorem open_careless {s L m cap : Int} {bs : List Bk} (hs : 0 < s) (L1 : 1 ≤ L) (hL : L % s = 0) (m0 : 0 ≤ m) (h : ∀ b ∈ bs, 0 ≤ b.1 ∧ 1 ≤ b.2 ∧ b.1 + b.2 ≤ m * L) (asc : bs.Pairwise fun b c => b.1 + b.2 ≤ c.1) (np : plf s 0 (bs ++ [(m * L, 0)]) = []) (hc : tot bs + s ≤ cap) : m + 1 ≤ 1 + (cap - s) / (L / s) := by
  obtain ⟨q, rfl⟩ := Int.dvd_of_emod_eq_zero hL
  have q1 : 0 < q := Int.lt_of_mul_lt_mul_left (a := s) (by rw [Int.mul_zero]; omega) (by omega)
  have sl := slots_le hs (by rw [← Int.mul_assoc, Int.mul_comm m s, Int.mul_assoc]; exact Int.mul_emod_right _ _) h asc (Int.mul_nonneg m0 (by omega)) np
  have e : m * (s * q) / s = m * q := by rw [← Int.mul_assoc, Int.mul_comm m s, Int.mul_assoc]; exact Int.mul_ediv_cancel_left _ (by omega)
  rw [e] at sl
  rw [Int.mul_ediv_cancel_left _ (by omega)]
  have : m ≤ (cap - s) / q := Int.le_ediv_of_mul_le q1 (by omega)
  omega
/-! ### runs under the lowest rule that open pages -/
section
variable {s ρ : Nat → Nat} {p M m i : Nat} {bs cs : List Bk}
theorem bfn0_dvd (h0 : s 0 = 1) : ∀ p : Nat, s p ∣ bfn s (fun _ => 0) M p
  | 0 => by rw [h0]; exact Nat.one_dvd _
  | p + 1 => by
    rw [bfn_succ, Nat.max_eq_right (Nat.zero_le _)]
    exact Nat.dvd_mul_right ..
/-- what the lowest rule keeps -/
structure Run (s : Nat → Nat) (p M m : Nat) (bs : List Bk) : Prop where
  st : St (tl s (p + 1)) ((m * s p : Nat) : Int) bs
  lo : ∃ ρ, Rho s p bs ρ ∧ ∀ j, j ≤ p → bfn s ρ M j ≤ bfn s (fun _ => 0) M j
theorem Run.nil (s : Nat → Nat) (p M : Nat) : Run s p M 0 [] := ⟨⟨(fun b hb => nomatch hb), List.Pairwise.nil⟩, _, Rho.nil s p, fun _ _ => Nat.le_refl _⟩
theorem St.wider {C : List Int} {W W' : Int} (st : St C W bs) (h : W ≤ W') : St C W' bs := ⟨fun b hb => by
  obtain ⟨h1, h2, h3, h4, h5⟩ := st.ok b hb
  exact ⟨h1, h2, h3, h4, by omega⟩, st.asc⟩
/-- a block at a lowest place -/
theorem Run.put {k m' : Nat} {x : Int} (cn : Cn s p k) (hi : i ≤ p) (r : Run s p M m bs) (hm : m ≤ m') (lim : (bs.map fun b => b.2).sum + ((s i : Nat) : Int) ≤ M) (lp : LowP ((s i : Nat) : Int) bs ((m' * s p : Nat) : Int) x) (pm : cs.Perm (bs ++ [(x, ((s i : Nat) : Int))])) (srt : cs.Pairwise fun x y => SrtO.lexB y x = false) :
    Run s p M m' cs ∧ x + ((s i : Nat) : Int) ≤ ((bfn s (fun _ => 0) M p : Nat) : Int) := by
  obtain ⟨ρ, hρ, le⟩ := r.lo
  have st := r.st.wider (W' := ((m' * s p : Nat) : Int)) (by have := Nat.mul_le_mul_right (s p) hm; omega)
  obtain ⟨n, ex, en⟩ := lp.ends cn.ch hi st hρ lim
  have st' := get_st cn.ch hi st lp pm srt
  obtain ⟨ρ', hρ'⟩ := Rho.ex st'
  have go := get_outlook cn hi st hρ st' hρ' ex en pm
  refine ⟨⟨st', ρ', hρ', fun j hj => Nat.le_trans (go j hj) (le j hj)⟩, ?_⟩
  have h1 := le i hi
  have h2 : bfn s (fun _ => 0) M i ≤ bfn s (fun _ => 0) M p := bfn_mono1 cn.ch hi (Nat.le_refl _)
  rw [ex]
  rw [Nat.add_mul, Nat.one_mul] at en
  omega
/-- no place: the next page's start is a lowest place -/
theorem Run.next (cn : CH s (p + 1)) (hi : i ≤ p) (r : Run s p M m bs) (np : plf ((s i : Nat) : Int) 0 (bs ++ [(((m * s p : Nat) : Int), 0)]) = []) : LowP ((s i : Nat) : Int) bs (((m + 1) * s p : Nat) : Int) ((m * s p : Nat) : Int) := by
  have S0 := cn.pos (i := i) (by omega)
  have Sp := cn.mono (i := i) (j := p) hi (by omega)
  obtain ⟨q, q1, eq⟩ := cn.dvd (i := i) (j := p) hi (by omega)
  have mem := plf_mem (s := ((s i : Nat) : Int)) (W := ((m * s p : Nat) : Int)) (by omega) bs 0 (fun b hb => r.st.bnd b hb) r.st.asc (by omega)
  rw [np] at mem
  have hW : ((m * s p : Nat) : Int) % ((s i : Nat) : Int) = 0 := by
    rw [eq, ← Nat.mul_assoc, Nat.mul_comm m, Nat.mul_assoc, Int.natCast_mul]
    exact Int.mul_emod_right _ _
  refine ⟨hW, by omega, by rw [Nat.add_mul, Nat.one_mul]; omega, fun b hb => ?_, fun k k0 km kx => Classical.byContradiction fun no => ?_⟩
  · have := r.st.bnd b hb
    omega
  · have fit : k + ((s i : Nat) : Int) ≤ ((m * s p : Nat) : Int) := by
      obtain ⟨x, hx⟩ := Int.dvd_of_emod_eq_zero km
      obtain ⟨y, hy⟩ := Int.dvd_of_emod_eq_zero hW
      rw [hx, hy] at kx ⊢
      have := Int.lt_of_mul_lt_mul_left kx (by omega)
      have h2 : ((s i : Nat) : Int) * (x + 1) ≤ ((s i : Nat) : Int) * y := Int.mul_le_mul_of_nonneg_left (by omega) (by omega)
      rw [Int.mul_add, Int.mul_one] at h2
      exact h2
    have := (mem k).mpr ⟨km, k0, fit, fun b hb => Classical.byContradiction fun nn => no ⟨b, hb, by omega, by omega⟩⟩
    cases this
/-- a block gone -/
theorem Run.drop (c : CH s (p + 1)) (q : Bk → Bool) (r : Run s p M m bs) : Run s p M m (bs.filter q) := by
  obtain ⟨ρ, hρ, le⟩ := r.lo
  have st' := r.st.filter q
  obtain ⟨ρ', hρ'⟩ := Rho.ex st'
  exact ⟨st', ρ', hρ', fun j hj => Nat.le_trans (free_outlook c r.st hρ hρ' j hj) (le j hj)⟩
/-- a page opened lies within the pages needed -/
theorem Run.opened {k : Nat} (cn : Cn s p k) (hi : i ≤ p) (r : Run s p M m bs) (lim : (bs.map fun b => b.2).sum + ((s i : Nat) : Int) ≤ M) (np : plf ((s i : Nat) : Int) 0 (bs ++ [(((m * s p : Nat) : Int), 0)]) = []) (pm : cs.Perm (bs ++ [(((m * s p : Nat) : Int), ((s i : Nat) : Int))])) (srt : cs.Pairwise fun x y => SrtO.lexB y x = false) :
    Run s p M (m + 1) cs ∧ m + 1 ≤ bfn s (fun _ => 0) M p / s p := by
  have ⟨h1, h2⟩ := r.put cn hi (Nat.le_succ m) lim (r.next cn.ch hi np) pm srt
  have S0 := cn.ch.pos (i := i) (by omega)
  have P0 := cn.ch.pos (i := p) (by omega)
  refine ⟨h1, ?_⟩
  obtain ⟨q, eq⟩ := bfn0_dvd (M := M) cn.ch.s0 p
  rw [eq] at h2 ⊢
  rw [Nat.mul_div_cancel_left _ (by omega)]
  have : s p * m < s p * q := by rw [Nat.mul_comm (s p) m]; omega
  exact Nat.lt_of_mul_lt_mul_left this
end
theorem st_app {C : List Int} {W : Int} {bs : List Bk} (st : St C W bs) : bs.Pairwise apart := st.asc.imp fun h => .inl h
theorem add_st {C : List Int} {W a z : Int} {bs cs : List Bk} (st : St C W bs) (ok : okB C W (a, z)) (ap : ∀ b ∈ bs, a + z ≤ b.1 ∨ b.1 + b.2 ≤ a) (p : cs.Perm (bs ++ [(a, z)])) (srt : cs.Pairwise fun x y => SrtO.lexB y x = false) : St C W cs := by
  refine sorted_st (fun b hb => ?_) (List.pairwise_append.mpr ⟨st_app st, List.pairwise_singleton _ _, fun b hb c hc => ?_⟩) p srt
  · rcases List.mem_append.mp hb with h | h
    · exact st.ok b h
    · rw [List.mem_singleton.mp h]
      exact ok
  · rw [List.mem_singleton.mp hc]
    rcases ap b hb with h | h
    · exact .inr h
    · exact .inl h
theorem gpr_head {s : Int} {g : Bk} (hs : 0 < s) (h : g.1 ≤ g.2) : ∃ r, gpr s g = g.1 :: r := by
  have m : g.1 ∈ gpr s g := (gpr_mem hs).mpr ⟨Int.le_refl _, h, by rw [Int.sub_self]; exact Int.zero_emod _⟩
  unfold gpr at *
  generalize rgN g.1 (g.2 + 1) s = n at *
  cases n with
  | zero => exact absurd m (List.not_mem_nil)
  | succ n =>
    refine ⟨((List.range n).map Nat.succ).map fun (t : Nat) => g.1 + (t : Int) * s, ?_⟩
    unfold rg3
    rw [List.range_succ_eq_map, List.map_cons]
    simp
theorem tot_nonneg : ∀ {bs : List Bk}, (∀ b ∈ bs, 0 ≤ b.2) → 0 ≤ tot bs
  | [], _ => Int.le_refl _
  | b :: r, h => by
    have h1 := h b (List.mem_cons_self ..)
    have ih := tot_nonneg (bs := r) fun c hc => h c (List.mem_cons_of_mem _ hc)
    unfold tot at *
    rw [List.map_cons, List.sum_cons]
    omega
theorem plc_mem {r : Str} {s L W a : Int} {bs : List Bk} (hs : 0 < s) (L0 : 0 < L) (hL : L % s = 0) (h : ∀ b ∈ bs, 0 ≤ b.1 ∧ 1 ≤ b.2 ∧ b.1 + b.2 ≤ W) (asc : bs.Pairwise fun b c => b.1 + b.2 ≤ c.1) (W0 : 0 ≤ W) (pl : PlcR r L bs (gpf s 0 (bs ++ [(W, 0)])) (.int a)) : a ∈ plf s 0 (bs ++ [(W, 0)]) := by
  obtain ⟨a', g, rest, eg, ea, ch⟩ := pl.resolve_left fun z => by cases z.2
  cases ea
  have hb0 : ∀ b ∈ bs ++ [(W, (0 : Int))], 0 ≤ b.1 ∧ 0 ≤ b.2 ∧ b.1 + b.2 ≤ W := fun b hb => by
    rcases List.mem_append.mp hb with z | z
    · have := h b z
      omega
    · rw [List.mem_singleton.mp z]
      exact ⟨W0, Int.le_refl _, by show W + 0 ≤ W; omega⟩
  have gb := gpf_bnd hs (bs ++ [(W, 0)]) 0 hb0 (Int.le_refl _)
  have gm := gpf_mod s (bs ++ [(W, 0)]) 0
  rcases ch with ⟨_, e⟩ | ⟨_, g', pre, eg', e⟩ | ⟨_, _, c⟩
  · have mg : g ∈ gpf s 0 (bs ++ [(W, 0)]) := by rw [eg]; exact List.mem_cons_self ..
    have := gb g mg
    exact gap_in hs mg ((gpr_mem hs).mpr ⟨by omega, by omega, by rw [e, Int.sub_self]; exact Int.zero_emod _⟩)
  · have mg : g' ∈ gpf s 0 (bs ++ [(W, 0)]) := by rw [eg']; exact List.mem_append_right _ (List.mem_singleton.mpr rfl)
    have := gb g' mg
    have m2 := gm g' mg
    refine gap_in hs mg ((gpr_mem hs).mpr ⟨by omega, by omega, ?_⟩)
    rw [e]
    exact Int.emod_eq_zero_of_dvd (Int.dvd_sub (Int.dvd_of_emod_eq_zero m2.2) (Int.dvd_of_emod_eq_zero m2.1))
  · exact (cho_best hs L0 hL h asc W0 c).1
/-! ### what a run under any rule keeps -/
section
variable {r : Str} {s : Nat → Nat} {p M m i k : Nat} {bs cs : List Bk}
def mstR (r : Str) (s : Nat → Nat) (p M : Nat) : Int := if r = "lowest" then ((bb s M p / s p : Nat) : Int) else mxd 0 (cpl s p M)
structure Rv (r : Str) (s : Nat → Nat) (p M m : Nat) (bs : List Bk) : Prop where
  st : St (tl s (p + 1)) ((m : Int) * ((s p : Nat) : Int)) bs
  sum : tot bs ≤ M
  low : r = "lowest" → Run s p M m bs
  most : (m : Int) ≤ mstR r s p M
theorem cpl_pos (c : CH s (p + 1)) : ∀ x ∈ cpl s p M, 0 < x := fun x hx => by
  unfold cpl at hx
  obtain ⟨y, hy, rfl⟩ := List.mem_map.mp hx
  obtain ⟨h1, h2⟩ := List.mem_filter.mp hy
  obtain ⟨j, hj, rfl⟩ := tl_mem.mp h1
  have h2 := of_decide_eq_true h2
  have := Int.ediv_nonneg (a := (M : Int) - ((s j : Nat) : Int)) (b := ((s p : Nat) : Int) / ((s j : Nat) : Int)) (by omega) (Int.ediv_nonneg (by omega) (by omega))
  omega
theorem Rv.nil (c : CH s (p + 1)) : Rv r s p M 0 [] := ⟨⟨(fun b hb => nomatch hb), List.Pairwise.nil⟩, by show (0 : Int) ≤ M; omega, fun _ => Run.nil s p M, by
  unfold mstR
  split
  · exact Int.natCast_nonneg _
  · rcases mxd_spec (cpl_pos (M := M) c) with ⟨_, h⟩ | ⟨h, _⟩
    · rw [h]; exact Int.le_refl _
    · have := cpl_pos c _ h
      show ((0 : Nat) : Int) ≤ _
      omega⟩
/-- a block more -/
theorem Rv.get {a : Int} {m' : Nat} (cn : Cn s p k) (hi : i ≤ p) (v : Rv r s p M m bs) (lim : tot bs + ((s i : Nat) : Int) ≤ M) (pm : cs.Perm (bs ++ [(a, ((s i : Nat) : Int))])) (srt : cs.Pairwise fun x y => SrtO.lexB y x = false)
    (h : (gpf ((s i : Nat) : Int) 0 (bs ++ [((m : Int) * ((s p : Nat) : Int), 0)]) = [] ∧ a = (m : Int) * ((s p : Nat) : Int) ∧ m' = m + 1) ∨ (PlcR r ((s p : Nat) : Int) bs (gpf ((s i : Nat) : Int) 0 (bs ++ [((m : Int) * ((s p : Nat) : Int), 0)])) (.int a) ∧ m' = m)) : Rv r s p M m' cs := by
  have S0 := cn.ch.pos (i := i) (by omega)
  have P0 := cn.ch.pos (i := p) (by omega)
  obtain ⟨q, q1, eq⟩ := cn.ch.dvd (i := i) (j := p) hi (by omega)
  have W0 : 0 ≤ (m : Int) * ((s p : Nat) : Int) := Int.mul_nonneg (by omega) (by omega)
  have mem := plf_mem (s := ((s i : Nat) : Int)) (W := (m : Int) * ((s p : Nat) : Int)) (by omega) bs 0 (fun b hb => v.st.bnd b hb) v.st.asc W0
  have esum : tot cs ≤ M := by
    have e1 : tot cs = tot (bs ++ [(a, ((s i : Nat) : Int))]) := sum_perm pm
    have e2 : tot (bs ++ [(a, ((s i : Nat) : Int))]) = tot bs + ((s i : Nat) : Int) := by
      unfold tot
      rw [List.map_append, List.sum_append]
      simp
    omega
  have hL : ((s p : Nat) : Int) % ((s i : Nat) : Int) = 0 := by
    rw [eq, Int.natCast_mul]
    exact Int.mul_emod_right _ _
  have em : ((m * s p : Nat) : Int) = (m : Int) * ((s p : Nat) : Int) := Int.natCast_mul ..
  have szm : ((s i : Nat) : Int) ∈ tl s (p + 1) := tl_mem.mpr ⟨i, by omega, rfl⟩
  rcases h with ⟨e, rfl, rfl⟩ | ⟨pl, em1⟩
  · have np : plf ((s i : Nat) : Int) 0 (bs ++ [((m : Int) * ((s p : Nat) : Int), 0)]) = [] := by
      rw [plf_gpf (by omega), e]
      rfl
    have opn := fun e : r = "lowest" => (v.low e).opened (i := i) (k := k) (cs := cs) cn hi lim (by rw [em]; exact np) (by rw [em]; exact pm) srt
    have wid : St (tl s (p + 1)) (((m + 1 : Nat) : Int) * ((s p : Nat) : Int)) bs := v.st.wider (by
      have : (m : Int) * ((s p : Nat) : Int) ≤ ((m + 1 : Nat) : Int) * ((s p : Nat) : Int) := Int.mul_le_mul_of_nonneg_right (by omega) (by omega)
      exact this)
    refine ⟨?_, esum, fun e => (opn e).1, ?_⟩
    · refine add_st wid ⟨szm, by show 1 ≤ ((s i : Nat) : Int); omega, W0, ?_, ?_⟩ (fun b hb => .inr (by have := v.st.bnd b hb; omega)) pm srt
      · show ((m : Int) * ((s p : Nat) : Int)) % ((s i : Nat) : Int) = 0
        exact Int.emod_eq_zero_of_dvd (Int.dvd_trans (Int.dvd_of_emod_eq_zero hL) (Int.dvd_mul_left ..))
      · show (m : Int) * ((s p : Nat) : Int) + ((s i : Nat) : Int) ≤ ((m + 1 : Nat) : Int) * ((s p : Nat) : Int)
        have : s i ≤ s p := cn.ch.mono (i := i) (j := p) hi (by omega)
        rw [Int.natCast_add, Int.add_mul]
        omega
    · unfold mstR
      split
      · rename_i el
        have := (opn el).2
        show ((m + 1 : Nat) : Int) ≤ ((bfn s (fun _ => 0) M p / s p : Nat) : Int)
        omega
      · have oc := open_careless (s := ((s i : Nat) : Int)) (L := ((s p : Nat) : Int)) (m := (m : Int)) (cap := (M : Int)) (bs := bs) (by omega) (by omega) hL (by omega) (fun b hb => v.st.bnd b hb) v.st.asc np lim
        have ht : 0 ≤ tot bs := tot_nonneg fun b hb => by have := v.st.bnd b hb; omega
        have mm : 1 + ((M : Int) - ((s i : Nat) : Int)) / (((s p : Nat) : Int) / ((s i : Nat) : Int)) ∈ cpl s p M := by
          unfold cpl
          exact List.mem_map.mpr ⟨_, List.mem_filter.mpr ⟨szm, decide_eq_true (by omega)⟩, rfl⟩
        rcases mxd_spec (cpl_pos (M := M) cn.ch) with ⟨h, _⟩ | ⟨_, h⟩
        · rw [h] at mm; cases mm
        · have := h _ mm
          omega
  · obtain rfl := em1.symm
    have am : a ∈ plf ((s i : Nat) : Int) 0 (bs ++ [((m : Int) * ((s p : Nat) : Int), 0)]) := plc_mem (by omega) (by omega) hL (fun b hb => v.st.bnd b hb) v.st.asc W0 pl
    obtain ⟨a1, a2, a3, a4⟩ := (mem a).mp am
    refine ⟨add_st v.st ⟨szm, by show 1 ≤ ((s i : Nat) : Int); omega, a2, a1, a3⟩ a4 pm srt, esum, fun e => ?_, v.most⟩
    subst e
    have lp : LowP ((s i : Nat) : Int) bs ((m : Int) * ((s p : Nat) : Int)) a := by
      obtain ⟨a', g, rest, eg, ea, ch⟩ := pl.resolve_left fun z => by cases z.2
      cases ea
      have ea : a = g.1 := by
        rcases ch with h | h | h
        · exact h.2
        · exact absurd h.1 (by decide)
        · exact absurd rfl h.1
      have hg : 0 ≤ g.1 ∧ g.1 ≤ g.2 ∧ g.2 ≤ (m : Int) * ((s p : Nat) : Int) := gpf_bnd (s := ((s i : Nat) : Int)) (by omega) (bs ++ [((m : Int) * ((s p : Nat) : Int), 0)]) 0 (v.st.asc0 W0).1 (Int.le_refl _) g (by rw [eg]; exact List.mem_cons_self ..)
      have e2 : ∃ r, plf ((s i : Nat) : Int) 0 (bs ++ [((m : Int) * ((s p : Nat) : Int), 0)]) = a :: r := by
        rw [plf_gpf (by omega), eg, List.flatMap_cons, ea]
        obtain ⟨r1, e1⟩ := gpr_head (s := ((s i : Nat) : Int)) (g := g) (by omega) hg.2.1
        exact ⟨_, by rw [e1]; rfl⟩
      obtain ⟨r1, e2⟩ := e2
      exact lowp_of (by omega) W0 v.st e2
    exact ((v.low rfl).put cn hi (Nat.le_refl _) lim (by rw [em]; exact lp) pm srt).1
end
end Ph

set_option maxHeartbeats 8000000
namespace Ph
open PySem PySem.Spec PyProof.Rows L2
/-- all that a place is, but for the smaller ones -/
structure SpotG (z : Int) (bs : List Bk) (W x : Int) : Prop where
  mod : x % z = 0
  pos : 0 ≤ x
  fit : x + z ≤ W
  free : ∀ b ∈ bs, x + z ≤ b.1 ∨ b.1 + b.2 ≤ x
def Bst (r : Str) (L : Int) (bs : List Bk) (n a : Int) : Prop := if r = "tight" then twf L bs (n / L) ≤ twf L bs (a / L) ∧ (n < a → twf L bs (n / L) < twf L bs (a / L)) else twf L bs (n / L) ≥ twf L bs (a / L) ∧ (n < a → twf L bs (n / L) > twf L bs (a / L))
def Own (r : Str) (L : Int) (bs : List Bk) (S : Int → Prop) (v : V) : Prop := (v = .non ∧ ∀ x, ¬ S x) ∨ ∃ a : Int, v = .int a ∧ S a ∧ ((r = "lowest" ∧ ∀ n, S n → a ≤ n) ∨ (r = "highest" ∧ ∀ n, S n → n ≤ a) ∨ (r ≠ "lowest" ∧ r ≠ "highest" ∧ ∀ n, S n → Bst r L bs n a))
theorem own_uniq {r : Str} {L : Int} {bs : List Bk} {S : Int → Prop} {v v' : V} (h : Own r L bs S v) (h' : Own r L bs S v') : v = v' := by
  rcases h with ⟨e, no⟩ | ⟨a, e, sa, c⟩
  · rcases h' with ⟨e', _⟩ | ⟨a', _, sa', _⟩
    · rw [e, e']
    · exact absurd sa' (no a')
  · rcases h' with ⟨_, no'⟩ | ⟨a', e', sa', c'⟩
    · exact absurd sa (no' a)
    · rw [e, e']
      congr 1
      rcases c with ⟨q, c⟩ | ⟨q, c⟩ | ⟨q1, q2, c⟩
      · rcases c' with ⟨q', c'⟩ | ⟨q', c'⟩ | ⟨q1', q2', c'⟩
        · have := c a' sa'; have := c' a sa; omega
        · rw [q] at q'; exact absurd q' (by decide)
        · exact absurd q q1'
      · rcases c' with ⟨q', c'⟩ | ⟨q', c'⟩ | ⟨q1', q2', c'⟩
        · rw [q] at q'; exact absurd q' (by decide)
        · have := c a' sa'; have := c' a sa; omega
        · exact absurd q q2'
      · rcases c' with ⟨q', c'⟩ | ⟨q', c'⟩ | ⟨q1', q2', c'⟩
        · exact absurd q' q1
        · exact absurd q' q2
        · have h1 := c a' sa'
          have h2 := c' a sa
          unfold Bst at h1 h2
          split at h1
          · rename_i z
            rw [if_pos z] at h2
            omega
          · rename_i z
            rw [if_neg z] at h2
            omega
theorem plc_own {r : Str} {s L W : Int} {bs : List Bk} {v : V} (hr : IsRule r) (hs : 0 < s) (L0 : 0 < L) (hL : L % s = 0) (h : ∀ b ∈ bs, 0 ≤ b.1 ∧ 1 ≤ b.2 ∧ b.1 + b.2 ≤ W) (asc : bs.Pairwise fun b c => b.1 + b.2 ≤ c.1) (W0 : 0 ≤ W) (pl : PlcR r L bs (gpf s 0 (bs ++ [(W, 0)])) v) : Own r L bs (SpotG s bs W) v := by
  have spt : ∀ x, SpotG s bs W x ↔ x ∈ plf s 0 (bs ++ [(W, 0)]) := fun x => by
    rw [plf_mem hs bs 0 h asc W0]
    exact ⟨fun z => ⟨z.mod, z.pos, z.fit, z.free⟩, fun z => ⟨z.1, z.2.1, z.2.2.1, z.2.2.2⟩⟩
  have hb0 : ∀ b ∈ bs ++ [(W, (0 : Int))], 0 ≤ b.1 ∧ 0 ≤ b.2 ∧ b.1 + b.2 ≤ W := fun b hb => by
    rcases List.mem_append.mp hb with z | z
    · have := h b z
      omega
    · rw [List.mem_singleton.mp z]
      exact ⟨W0, Int.le_refl _, by show W + 0 ≤ W; omega⟩
  have gb := gpf_bnd hs (bs ++ [(W, 0)]) 0 hb0 (Int.le_refl _)
  have gm := gpf_mod s (bs ++ [(W, 0)]) 0
  have gd : ∀ g ∈ gpf s 0 (bs ++ [(W, 0)]), g.1 ≤ g.2 ∧ (g.2 - g.1) % s = 0 := fun g hg => ⟨(gb g hg).2.1, Int.emod_eq_zero_of_dvd (Int.dvd_sub (Int.dvd_of_emod_eq_zero (gm g hg).2) (Int.dvd_of_emod_eq_zero (gm g hg).1))⟩
  have gasc := gps_asc hs _ gd (by rw [← plf_gpf hs]; exact plf_inc hs bs 0 h asc W0)
  have inG : ∀ x, SpotG s bs W x → ∃ g ∈ gpf s 0 (bs ++ [(W, 0)]), g.1 ≤ x ∧ x ≤ g.2 := fun x hx => by
    have := (spt x).mp hx
    rw [plf_gpf hs] at this
    obtain ⟨g, hg, z⟩ := List.mem_flatMap.mp this
    have := (gpr_mem hs).mp z
    exact ⟨g, hg, this.1, this.2.1⟩
  rcases id pl with ⟨e, ev⟩ | ⟨a, g, rest, eg, ev, ch⟩
  · refine .inl ⟨ev, fun x hx => ?_⟩
    obtain ⟨g, hg, _⟩ := inG x hx
    rw [e] at hg
    cases hg
  · subst ev
    refine .inr ⟨a, rfl, (spt a).mpr (plc_mem hs L0 hL h asc W0 pl), ?_⟩
    rcases ch with ⟨q, e⟩ | ⟨q, g', pre, eg', e⟩ | ⟨q1, q2, c⟩
    · refine .inl ⟨q, fun n hn => ?_⟩
      obtain ⟨g2, hg, z1, z2⟩ := inG n hn
      have d := (gd g (by rw [eg]; exact List.mem_cons_self ..)).1
      rw [eg] at hg gasc
      rcases List.mem_cons.mp hg with z | z
      · rw [e, ← z]; exact z1
      · have := (List.pairwise_cons.mp gasc).1 g2 z
        omega
    · refine .inr (.inl ⟨q, fun n hn => ?_⟩)
      obtain ⟨g2, hg, z1, z2⟩ := inG n hn
      have d := (gd g' (by rw [eg']; exact List.mem_append_right _ (List.mem_singleton.mpr rfl))).1
      rw [eg'] at hg gasc
      rcases List.mem_append.mp hg with z | z
      · have := (List.pairwise_append.mp gasc).2.2 g2 z g' (List.mem_singleton.mpr rfl)
        omega
      · rw [e, ← List.mem_singleton.mp z]; exact z2
    · refine .inr (.inr ⟨q1, q2, fun n hn => ?_⟩)
      exact (cho_best hs L0 hL h asc W0 c).2 n ((spt n).mp hn)
/-! ### histories of a growing heap under any rule, the newest step first -/
def Nxt (r : Str) (L z : Int) (bs : List Bk) (m : Nat) (a : Int) (m' : Nat) : Prop := (a = (m : Int) * L ∧ (∀ x, ¬ SpotG z bs ((m : Int) * L) x) ∧ m' = m + 1) ∨ (Own r L bs (SpotG z bs ((m : Int) * L)) (.int a) ∧ m' = m)
theorem nxt_uniq {r : Str} {L z : Int} {bs : List Bk} {m m1 m2 : Nat} {a b : Int} (h1 : Nxt r L z bs m a m1) (h2 : Nxt r L z bs m b m2) : a = b ∧ m1 = m2 := by
  rcases h1 with ⟨e1, n1, k1⟩ | ⟨o1, k1⟩
  · rcases h2 with ⟨e2, n2, k2⟩ | ⟨o2, k2⟩
    · exact ⟨by rw [e1, e2], by rw [k1, k2]⟩
    · have := own_uniq (.inl ⟨rfl, n1⟩) o2
      cases this
  · rcases h2 with ⟨e2, n2, k2⟩ | ⟨o2, k2⟩
    · have := own_uniq (.inl ⟨rfl, n2⟩) o1
      cases this
    · have := own_uniq o1 o2
      cases this
      exact ⟨rfl, by rw [k1, k2]⟩
inductive Gw (r : Str) (s : Nat → Nat) (p M : Nat) : List Tri → List Bk → Nat → Prop
  | nil : Gw r s p M [] [] 0
  | get {rs : List Tri} {bs cs : List Bk} {m m' i : Nat} {a : Int} : Gw r s p M rs bs m → i ≤ p → tot bs + ((s i : Nat) : Int) ≤ M → cs.Perm (bs ++ [(a, ((s i : Nat) : Int))]) → (cs.Pairwise fun x y => SrtO.lexB y x = false) → Nxt r ((s p : Nat) : Int) ((s i : Nat) : Int) bs m a m' → Gw r s p M ((("get" : Str), a, ((s i : Nat) : Int)) :: rs) cs m'
  | free {rs : List Tri} {bs : List Bk} {m : Nat} {e : Bk} : Gw r s p M rs bs m → e ∈ bs → Gw r s p M ((("free" : Str), e.1, e.2) :: rs) (bs.filter fun b => decide (b.1 ≠ e.1)) m
section
variable {r : Str} {s : Nat → Nat} {p M m i k : Nat} {bs cs : List Bk}
theorem Rv.got {a : Int} {m' : Nat} (cn : Cn s p k) (hi : i ≤ p) (v : Rv r s p M m bs) (lim : tot bs + ((s i : Nat) : Int) ≤ M) (pm : cs.Perm (bs ++ [(a, ((s i : Nat) : Int))])) (srt : cs.Pairwise fun x y => SrtO.lexB y x = false)
    (h : Nxt r ((s p : Nat) : Int) ((s i : Nat) : Int) bs m a m') : Rv r s p M m' cs := by
  have S0 := cn.ch.pos (i := i) (by omega)
  have P0 := cn.ch.pos (i := p) (by omega)
  have W0 : 0 ≤ (m : Int) * ((s p : Nat) : Int) := Int.mul_nonneg (by omega) (by omega)
  have spt : ∀ x, SpotG ((s i : Nat) : Int) bs ((m : Int) * ((s p : Nat) : Int)) x ↔ x ∈ plf ((s i : Nat) : Int) 0 (bs ++ [((m : Int) * ((s p : Nat) : Int), 0)]) := fun x => by
    rw [plf_mem (by omega) bs 0 (fun b hb => v.st.bnd b hb) v.st.asc W0]
    exact ⟨fun z => ⟨z.mod, z.pos, z.fit, z.free⟩, fun z => ⟨z.1, z.2.1, z.2.2.1, z.2.2.2⟩⟩
  have egp := plf_gpf (s := ((s i : Nat) : Int)) (by omega) (bs ++ [((m : Int) * ((s p : Nat) : Int), 0)]) 0
  rcases h with ⟨e, no, em⟩ | ⟨own, em⟩
  · refine Rv.get cn hi v lim pm srt (.inl ⟨?_, e, em⟩)
    have hg0 := gpf_bnd (s := ((s i : Nat) : Int)) (by omega) (bs ++ [((m : Int) * ((s p : Nat) : Int), 0)]) 0 (v.st.asc0 W0).1 (Int.le_refl _)
    cases eg : gpf ((s i : Nat) : Int) 0 (bs ++ [((m : Int) * ((s p : Nat) : Int), 0)]) with
    | nil => rfl
    | cons g rest =>
      have hg := hg0 g (by rw [eg]; exact List.mem_cons_self ..)
      obtain ⟨r1, e1⟩ := gpr_head (s := ((s i : Nat) : Int)) (g := g) (by omega) hg.2.1
      refine absurd ((spt g.1).mpr ?_) (no g.1)
      rw [egp, eg, List.flatMap_cons, e1]
      exact List.mem_cons_self ..
  · rcases own with ⟨e, _⟩ | ⟨a', e, sp, ch⟩
    · cases e
    · cases e
      obtain rfl := em.symm
      have mem := plf_mem (s := ((s i : Nat) : Int)) (W := (m : Int) * ((s p : Nat) : Int)) (by omega) bs 0 (fun b hb => v.st.bnd b hb) v.st.asc W0
      have inc := plf_inc (s := ((s i : Nat) : Int)) (W := (m : Int) * ((s p : Nat) : Int)) (by omega) bs 0 (fun b hb => v.st.bnd b hb) v.st.asc W0
      have em : ((m * s p : Nat) : Int) = (m : Int) * ((s p : Nat) : Int) := Int.natCast_mul ..
      have szm : ((s i : Nat) : Int) ∈ tl s (p + 1) := tl_mem.mpr ⟨i, by omega, rfl⟩
      have esum : tot cs ≤ M := by
        have e1 : tot cs = tot (bs ++ [(a, ((s i : Nat) : Int))]) := sum_perm pm
        have e2 : tot (bs ++ [(a, ((s i : Nat) : Int))]) = tot bs + ((s i : Nat) : Int) := by
          unfold tot
          rw [List.map_append, List.sum_append]
          simp
        omega
      refine ⟨add_st v.st ⟨szm, by show 1 ≤ ((s i : Nat) : Int); omega, sp.pos, sp.mod, sp.fit⟩ sp.free pm srt, esum, fun e => ?_, v.most⟩
      have low : ∀ n, SpotG ((s i : Nat) : Int) bs ((m : Int) * ((s p : Nat) : Int)) n → a ≤ n := by
        rcases ch with h | h | h
        · exact h.2
        · rw [e] at h; exact absurd h.1 (by decide)
        · exact absurd e h.1
      have e2 : ∃ r1, plf ((s i : Nat) : Int) 0 (bs ++ [((m : Int) * ((s p : Nat) : Int), 0)]) = a :: r1 := by
        have am := (spt a).mp sp
        cases ep : plf ((s i : Nat) : Int) 0 (bs ++ [((m : Int) * ((s p : Nat) : Int), 0)]) with
        | nil => rw [ep] at am; cases am
        | cons x rest =>
          have xs := low x ((spt x).mpr (by rw [ep]; exact List.mem_cons_self ..))
          rw [ep] at am inc
          rcases List.mem_cons.mp am with z | z
          · exact ⟨rest, by rw [z]⟩
          · have := (List.pairwise_cons.mp inc).1 a z
            omega
      obtain ⟨r1, e2⟩ := e2
      have lp : LowP ((s i : Nat) : Int) bs ((m : Int) * ((s p : Nat) : Int)) a := lowp_of (by omega) W0 v.st e2
      exact ((v.low e).put cn hi (Nat.le_refl _) lim (by rw [em]; exact lp) pm srt).1
theorem Gw.rv {rs : List Tri} (cn : Cn s p k) (h : Gw r s p M rs bs m) : Rv r s p M m bs := by
  induction h with
  | nil => exact Rv.nil cn.ch
  | get _ hi lim pm srt nx ih => exact ih.got cn hi lim pm srt nx
  | free _ _ ih => exact ⟨ih.st.filter _, Int.le_trans (sum_filter _ ih.st) ih.sum, fun e => (ih.low e).drop cn.ch _, ih.most⟩
theorem mst_le (c : CH s (p + 1)) : mxd 0 (cpl s p M) ≤ 1 + M := by
  rcases mxd_spec (cpl_pos (M := M) c) with ⟨_, e⟩ | ⟨e, _⟩
  · omega
  · have e' := e
    unfold cpl at e'
    obtain ⟨y, hy, ey⟩ := List.mem_map.mp e'
    obtain ⟨hy1, hy2⟩ := List.mem_filter.mp hy
    have h1 := of_decide_eq_true hy2
    obtain ⟨j, hj, rfl⟩ := tl_mem.mp hy1
    have := Int.ediv_le_self (a := (M : Int) - (s j : Int)) ((s p : Int) / (s j : Int)) (by omega)
    unfold cpl
    omega
/-- how an event changes the pages: the program's words -/
theorem nxt_max {L z a : Int} {m' : Nat} (L0 : 0 < L) (z0 : 0 < z) (zL : z ≤ L) (h : Nxt r L z bs m a m') : ((m' : Nat) : Int) = if a / L + 1 > (m : Int) then a / L + 1 else (m : Int) := by
  rcases h with ⟨e, _, em⟩ | ⟨o, em⟩
  · rw [e, Int.mul_ediv_cancel _ (by omega), if_pos (by omega), em]
    rfl
  · rcases o with ⟨z, _⟩ | ⟨b, eb, sp, _⟩
    · cases z
    · cases eb
      have : a / L < (m : Int) := Int.ediv_lt_of_lt_mul L0 (by have := sp.fit; omega)
      rw [if_neg (by omega), em]
end
end Ph

set_option maxHeartbeats 8000000
namespace Ph
open PySem PySem.Spec PyProof.Rows L2
theorem len_sum : ∀ {bs : List Bk}, (∀ b ∈ bs, 1 ≤ b.2) → (bs.length : Int) ≤ (bs.map fun b => b.2).sum
  | [], _ => Int.le_refl _
  | b :: r, h => by
    have h1 := h b (List.mem_cons_self ..)
    have ih := len_sum (bs := r) fun c hc => h c (List.mem_cons_of_mem _ hc)
    rw [List.length_cons, List.map_cons, List.sum_cons]
    omega
theorem careless_ge {s : Nat → Nat} {n M : Nat} (c : CH s (n + 1)) : ((bb s M n / s n : Nat) : Int) ≤ mxd 0 (cpl s n M) := by
  have B : BD s (bb s M) (n + 1) M := bd_bfn s (n + 1) M
  have el : ∀ j, j ≤ n → s j ≤ M → ((1 + (M - s j) / (s n / s j) : Nat) : Int) ∈ cpl s n M := fun j hj hM => by
    unfold cpl
    refine List.mem_map.mpr ⟨(s j : Int), List.mem_filter.mpr ⟨tl_mem.mpr ⟨j, by omega, rfl⟩, decide_eq_true (by omega)⟩, ?_⟩
    rw [Int.natCast_add, Int.natCast_ediv, Int.natCast_ediv, Int.natCast_sub hM]
    rfl
  have pos : ∀ x ∈ cpl s n M, 0 < x := fun x hx => by
    unfold cpl at hx
    obtain ⟨y, hy, rfl⟩ := List.mem_map.mp hx
    obtain ⟨hy1, hy2⟩ := List.mem_filter.mp hy
    have h1 := of_decide_eq_true hy2
    obtain ⟨j, hj, rfl⟩ := tl_mem.mp hy1
    have : (0 : Int) ≤ ((M : Int) - (s j : Int)) / ((s n : Int) / (s j : Int)) := Int.ediv_nonneg (by omega) (Int.ediv_nonneg (by omega) (by omega))
    omega
  have sp := mxd_spec pos
  rcases Nat.eq_zero_or_pos (bb s M n) with z | z
  · rw [z, Nat.zero_div]
    rcases sp with ⟨_, e⟩ | ⟨e, _⟩
    · rw [e]; decide
    · have := pos _ e
      omega
  · obtain ⟨j, h1, h2, h3⟩ := B.careless c (i := n) (by omega) z
    have m1 := el j h1 h2
    have d0 : 0 < s n / s j := Nat.div_pos (c.mono h1 (by omega)) (c.pos (by omega))
    have h4 : bb s M n / s n - 1 ≤ (M - s j) / (s n / s j) := by
      rw [Nat.le_div_iff_mul_le d0]
      omega
    rcases sp with ⟨e, _⟩ | ⟨_, e⟩
    · rw [e] at m1; cases m1
    · have := e _ m1
      omega
section
variable {r : Str} {s : Nat → Nat} {p M m i k : Nat} {bs cs : List Bk}
theorem Rv.car (c : CH s (p + 1)) (v : Rv r s p M m bs) : (m : Int) ≤ mxd 0 (cpl s p M) := by
  have h := v.most
  unfold mstR at h
  split at h
  · exact Int.le_trans h (careless_ge c)
  · exact h
theorem Rv.many (c : CH s (p + 1)) (v : Rv r s p M m bs) : m ≤ 1 + M := by
  have h1 := v.car c
  have h2 := mst_le (M := M) c
  omega
theorem Rv.len (v : Rv r s p M m bs) : bs.length ≤ M := by
  have h1 := len_sum (bs := bs) fun b hb => (v.st.ok b hb).2.1
  have h2 := v.sum
  unfold tot at h2
  omega
end
def HeAt (H : Hp) (T : Addr) (o : Int) (bs : List Bk) : Prop := ∃ t, H T = some (.tup [.int o, .ref t]) ∧ StAt H t bs
theorem HeAt.ext {H H' : Hp} {T : Addr} {o : Int} {bs : List Bk} (h : HeAt H T o bs) (x : LamX.ExtN H H') : HeAt H' T o bs := let ⟨t, e, st⟩ := h; ⟨t, ext_tup x e, ext_st x st⟩
section
variable {P : Program} {w : World} {K : PySem.W.Frag} {mg : Str → Option Value} {base : Heap}
def spFe : Sp := fun vs H Q _ => ∃ (T : Addr) (t : Tri), vs = [.ref T] ∧ H T = some (.tup (evV t)) ∧ GF t ∧ Q (.bl true) H
theorem ok_Fe {k : Nat} (Z : Fns K mg) : FnOk P w K mg base CX0 (k + 1) Z.fFe Z.fdFe ["value"] spFe := by
  refine Z.FFe.ok scFe (fun vs H Q E h => ?_) (fun cdv A outer s H vs Q E hr h => ?_)
  · obtain ⟨T, t, rfl, _⟩ := h
    rfl
  · obtain ⟨T, ⟨w, x, z⟩, rfl, hT, gf, q⟩ := h
    refine ⟨_, (pss_cons (ps_if (pt_not (pt_val (pe_callB call_isi (by rfl) Z.N.isinstance (by decide +kernel) (pa_cons (pv 0) (pa_cons (pe_bltn (v := .ty "tuple") (by rfl) Z.N.tuple (by decide +kernel) rfl) pa_nil)))))
 (pss_one (ps_ret pe_bl)) pss_nil)
 (pss_one (ps_ret (pe_or (pe_and (pe_cmpR op_eq (pe_callB call_len_seq (by rfl) Z.N.len (by decide +kernel) (pa_cons (pv 0) pa_nil)) pe_int (nomark _)) (pe_one (pe_cmpR op_eq (pe_ix ix_tup (pv 0) pe_int (fun _ _ => rfl)) pe_str (nomark _)))) (pe_one (pe_and (pe_cmpR op_eq (pe_callB call_len_seq (by rfl) Z.N.len (by decide +kernel) (pa_cons (pv 0) pa_nil)) pe_int (nomark _)) (pe_one (pe_cmpR op_eq (pe_ix ix_tup (pv 0) pe_int (fun _ _ => rfl)) pe_str (nomark _))))))))), ?_⟩
    refine ⟨.ref T, rfl, .ref T, .ty "tuple", .type "tuple", .type "tuple", true, rfl, .ty _, .base (.tup hT), kit_ty (by decide +kernel), _, rfl, ite2 (fun c => absurd c (by decide)) (fun _ => ?_)⟩
    rcases gf with rfl | rfl
    · rw [evV_get] at hT
      refine ⟨.ref T, rfl, T, _, rfl, .inr (.inl (.inl hT)), rfl, _, rfl, ite2 (fun _ => ?_) (fun c => absurd (decide_eq_true rfl) c)⟩
      exact ⟨.ref T, rfl, T, _, 0, _, rfl, rfl, .inl (.inl hT), atI_nat (j := 0) rfl, rfl, _, rfl, ite2 (fun _ => q) (fun c => absurd (by decide +kernel) c)⟩
    · rw [evV_free] at hT
      refine ⟨.ref T, rfl, T, _, rfl, .inr (.inl (.inl hT)), rfl, _, rfl, ite2 (fun c => absurd c (by simp)) (fun _ => ⟨_, rfl, ite2 (fun c => absurd c (by decide)) (fun _ => ?_)⟩)⟩
      refine ⟨.ref T, rfl, T, _, rfl, .inr (.inl (.inl hT)), rfl, _, rfl, ite2 (fun _ => ?_) (fun c => absurd (decide_eq_true rfl) c)⟩
      refine ⟨.ref T, rfl, T, _, 0, _, rfl, rfl, .inl (.inl hT), atI_nat (j := 0) rfl, rfl, ?_⟩
      have e : (decide ((V.str ("free" : Str)) = V.str "free")) = true := by decide +kernel
      rw [e]
      exact q
def spCu : Sp := fun vs H Q _ => ∃ r : Str, vs = [.str r] ∧ IsRule r ∧ Q .non H
theorem ok_Cu {k : Nat} (Z : Fns K mg) : FnOk P w K mg base CX0 (k + 1 + 1) Z.fCu Z.fdCu ["rule"] spCu := by
  have GIr : FnOk P w K mg base CX0 (k + 1) Z.fIr Z.fdIr ["value"] spIr4 := ok_Ir4 Z
  refine Z.FCu.ok scCu (fun vs H Q E h => ?_) (fun cdv A outer s H vs Q E hr h => ?_)
  · obtain ⟨r, rfl, _⟩ := h
    rfl
  · obtain ⟨r, rfl, hr4, q⟩ := h
    refine ⟨_, (pss_one (ps_if (pt_not (pt_val (pe_call GIr (hr.mono (by omega)) (by rfl) Z.gIr Z.FIr.kp Z.bIr .nil pass0 (pa_cons (pv 0) pa_nil))))
 (pss_one ps_never) pss_nil)), ?_⟩
    exact ⟨.str r, rfl, r, rfl, hr4, _, rfl, ite2 (fun c => absurd c (by decide)) (fun _ => q)⟩
/-- numbers of a growing heap -/
def SmlG (s : Nat → Nat) (p M : Nat) : Prop := Cn s p 24 ∧ p ≤ 11 ∧ M ≤ 500
def spPo (T : List (Addr × Str)) : Sp := fun vs H Q _ => ∃ (r : Str) (c D : Addr) (s : Nat → Nat) (p M i m m' : Nat) (bs : List Bk) (a : Int), vs = [.ref c, .str r, .ref D, .int ((s i : Nat) : Int)] ∧ IsRule r ∧ ChAt H c (tl s (p + 1)) ∧ SmlG s p M ∧ HeAt H D (m : Int) bs ∧ Rv r s p M m bs ∧ i ≤ p ∧ Nxt r ((s p : Nat) : Int) ((s i : Nat) : Int) bs m a m' ∧ LamX.Tabs T H ∧ ∀ H', LamX.ExtN H H' → LamX.Tabs T H' → Q (.int a) H'
theorem ok_Po {k : Nat} (Z : Fns K mg) (TB : LamX.TabB base mg Z.cPp Z.pPp) {T : List (Addr × Str)} (hT : InT T Z.pPp tkN) : FnOk P w K mg base CX0 (k + 1 + 1 + 1 + 1 + 1 + 1) Z.fPo Z.fdPo ["chain", "rule", "heap", "size"] (spPo T) := by
  have GPc : FnOk P w K mg base CX0 (k + 1 + 1 + 1 + 1 + 1) Z.fPc Z.fdPc ["rule", "chain", "pages", "state", "size"] (spPc4 T) := ok_Pc4 Z TB hT
  refine Z.FPo.ok scPo (fun vs H Q E h => ?_) (fun cdv A outer s H vs Q E hr h => ?_)
  · obtain ⟨r, c, D, s, p, M, i, m, m', bs, a, rfl, _⟩ := h
    rfl
  · obtain ⟨r, c, D, sz, p, M, i, m, m', bs, a, rfl, hr4, hc, ⟨cn, p11, M5⟩, ⟨t, hD, ht⟩, rv, hi, nx, tabs, q⟩ := h
    refine ⟨_, (pss_cons (ps_asg (pv 2) (pg_tup (by rfl) (pgs_cons (pg_name (i := 4) scPo.nd rfl (.inl rfl)) (pgs_cons (pg_name (i := 5) scPo.nd rfl (.inl rfl)) pgs_nil))))
 (pss_cons (ps_set (i := 6) scPo.nd rfl (.inl rfl) (pe_call GPc (hr.mono (by omega)) (by rfl) Z.gPc Z.FPc.kp Z.bPc .nil pass0 (pa_cons (pv 1) (pa_cons (pv 0) (pa_cons (pv 4) (pa_cons (pv 5) (pa_cons (pv 3) pa_nil)))))))
 (pss_cons (ps_if (pt_cmpR op_isN (pv 6) pe_non (nomark _))
 (pss_one (ps_ret (pe_op op_mul (pv 4) (pe_ix ix_tup (pv 0) (pe_un un_neg pe_int) (fun _ _ => rfl))))) pss_nil)
 (pss_one (ps_ret (pv 6)))))), ?_⟩
    refine ⟨.ref D, rfl, D, _, rfl, .inl (.inl hD), rfl, _, _, rfl, _, _, rfl, rfl, ?_⟩
    have et : tl sz (p + 1) = tl sz p ++ [((sz p : Nat) : Int)] := tl_succ _ _
    have zin : ((sz i : Nat) : Int) ∈ tl sz p ++ [((sz p : Nat) : Int)] := by rw [← et]; exact tl_mem.mpr ⟨i, by omega, rfl⟩
    have z0 := cn.ch.pos (i := i) (by omega)
    have zp := cn.ch.mono (i := i) (j := p) hi (by omega)
    have top : sz p ≤ 24 := cn.top
    have many := rv.many cn.ch
    have len := rv.len
    have W0 : 0 ≤ (m : Int) * ((sz p : Nat) : Int) := Int.mul_nonneg (by omega) (by omega)
    have hL : ((sz p : Nat) : Int) % ((sz i : Nat) : Int) = 0 := by
      obtain ⟨q, _, e⟩ := cn.ch.dvd (i := i) (j := p) hi (by omega)
      rw [e, Int.natCast_mul]
      exact Int.mul_emod_right _ _
    refine ⟨.str r, rfl, .ref c, rfl, .int m, rfl, .ref t, rfl, .int _, rfl, r, c, t, tl sz p, ((sz p : Nat) : Int), m, _, bs, rfl, hr4, by rw [← et]; exact hc, zin, by omega, by omega, by omega, by omega, by omega, by omega, ht, by rw [← et]; exact rv.st, by omega, tabs, fun H1 v x1 tb1 pl => ?_⟩
    have own := plc_own hr4 (by omega) (by omega) hL (fun b hb => rv.st.bnd b hb) rv.st.asc W0 pl
    rcases nx with ⟨e, no, em⟩ | ⟨o, em⟩
    · obtain rfl := own_uniq own (.inl ⟨rfl, no⟩)
      refine ⟨.non, rfl, rfl, _, rfl, ite2 (fun _ => ?_) (fun c => absurd (by decide) c)⟩
      refine ⟨.int m, rfl, .ref c, rfl, 1, rfl, c, _, -1, _, rfl, rfl, (ext_ch x1 hc).sq, tl_atL, _, _, rfl, rfl, .inl ⟨by omega, by omega⟩, ?_⟩
      dsimp only
      rw [← e]
      exact q _ x1 tb1
    · obtain rfl := own_uniq own o
      exact ⟨.int a, rfl, rfl, _, rfl, ite2 (fun c => absurd c (by simp)) (fun _ => ⟨.int a, rfl, q _ x1 tb1⟩)⟩
end
end Ph

set_option maxHeartbeats 8000000
namespace Ph
open PySem PySem.Spec PyProof.Rows L2
section
variable {P : Program} {w : World} {K : PySem.W.Frag} {mg : Str → Option Value} {base : Heap}
def spHa : Sp := fun vs H Q _ => ∃ (c T E : Addr) (s : Nat → Nat) (p : Nat) (t : Tri) (bs : List Bk) (o : Int), vs = [.ref c, .ref T, .ref E] ∧ ChAt H c (tl s (p + 1)) ∧ 0 < s p ∧ s p ≤ 2000 ∧ HeAt H T o bs ∧ bs.length ≤ 5000 ∧ H E = some (.tup (evV t)) ∧
  ((t.1 = "get" ∧ ∀ H' T' cs, Same H H' → HeAt H' T' (if t.2.1 / ((s p : Nat) : Int) + 1 > o then t.2.1 / ((s p : Nat) : Int) + 1 else o) cs → cs.Perm (bs ++ [(t.2.1, t.2.2)]) → (cs.Pairwise fun x y => SrtO.lexB y x = false) → Q (.ref T') H') ∨
   (t.1 = "free" ∧ (∃ b ∈ bs, b.1 = t.2.1) ∧ ∀ H' T', Same H H' → HeAt H' T' o (bs.filter fun b => decide (b.1 ≠ t.2.1)) → Q (.ref T') H'))
theorem ok_Ha {k : Nat} (Z : Fns K mg) : FnOk P w K mg base CX0 (k + 1 + 1 + 1 + 1) Z.fHa Z.fdHa ["chain", "heap", "event"] spHa := by
  have GOb : FnOk P w K mg base CX0 (k + 1 + 1 + 1) Z.fOb Z.fdOb ["state", "address"] (spOb K) := ok_Ob Z
  have GWb : FnOk P w K mg base CX0 (k + 1) Z.fWb Z.fdWb ["state", "address", "size"] spWb := ok_Wb Z
  refine Z.FHa.ok scHa (fun vs H Q E h => ?_) (fun cdv A outer s H vs Q E hr h => ?_)
  · obtain ⟨c, T, E, s, p, t, bs, o, rfl, _⟩ := h
    rfl
  · obtain ⟨c, T, E, sz, p, ⟨w, x, z⟩, bs, o, rfl, hc, L0, L1, ⟨t, hT, ht⟩, hl, hE, q⟩ := h
    refine ⟨_, (pss_cons (ps_asg (pv 1) (pg_tup (by rfl) (pgs_cons (pg_name (i := 3) scHa.nd rfl (.inl rfl)) (pgs_cons (pg_name (i := 4) scHa.nd rfl (.inl rfl)) pgs_nil))))
 (pss_cons (ps_if (pt_cmpR op_eq (pe_ix ix_tup (pv 2) pe_int (fun _ _ => rfl)) pe_str (nomark _))
 (pss_one (ps_ret (pe_tup (pa_cons (pv 3) (pa_cons (pe_call GOb (hr.mono (by omega)) (by rfl) Z.gOb Z.FOb.kp Z.bOb .nil pass0 (pa_cons (pv 4) (pa_cons (pe_ix ix_tup (pv 2) pe_int (fun _ _ => rfl)) pa_nil))) pa_nil))))) pss_nil)
 (pss_cons (ps_asg (pv 2) (pg_tup (by rfl) (pgs_cons (pg_name (i := 5) scHa.nd rfl (.inl rfl)) (pgs_cons (pg_name (i := 6) scHa.nd rfl (.inl rfl)) (pgs_cons (pg_name (i := 7) scHa.nd rfl (.inl rfl)) pgs_nil)))))
 (pss_one (ps_ret (pe_tup (pa_cons (pe_callB (call_max2 rfl) (by rfl) Z.N.max (by decide +kernel) (pa_cons (pv 3) (pa_cons (pe_op op_add (pe_op op_fdiv (pv 7) (pe_ix ix_tup (pv 0) (pe_un un_neg pe_int) (fun _ _ => rfl))) pe_int) pa_nil))) (pa_cons (pe_call GWb (hr.mono (by omega)) (by rfl) Z.gWb Z.FWb.kp Z.bWb .nil pass0 (pa_cons (pv 4) (pa_cons (pv 7) (pa_cons (pv 6) pa_nil)))) pa_nil)))))))), ?_⟩
    refine ⟨.ref T, rfl, T, _, rfl, .inl (.inl hT), rfl, _, _, rfl, _, _, rfl, rfl, ?_⟩
    rcases q with ⟨rfl, q⟩ | ⟨rfl, hb, q⟩
    · rw [evV_get] at hE
      refine ⟨.ref E, rfl, E, _, 0, _, rfl, rfl, .inl (.inl hE), atI_nat (j := 0) rfl, rfl, _, rfl, ite2 (fun c => absurd c (by decide +kernel)) (fun _ => ?_)⟩
      refine ⟨.ref E, rfl, E, _, rfl, .inl (.inl hE), rfl, _, _, rfl, _, _, rfl, _, _, rfl, rfl, ?_⟩
      refine ⟨.int o, rfl, .int x, rfl, .ref c, rfl, 1, rfl, c, _, -1, _, rfl, rfl, hc.sq, tl_atL, _, _, rfl, rfl, ⟨by omega, by omega⟩, _, _, rfl, rfl, _, _, rfl, .ref t, rfl, .int x, rfl, .int z, rfl, t, bs, x, z, rfl, ht, hl, fun H1 u cs s1 hu pm srt => ⟨(by show 2 ≤ sizeLine; decide), fun T' nT => ?_⟩⟩
      have sT := same_upd (o := .tup [.int (if x / ((sz p : Nat) : Int) + 1 > o then x / ((sz p : Nat) : Int) + 1 else o), .ref u]) nT
      exact q _ T' cs (s1.trans sT) ⟨u, upd_same, hu.same sT⟩ pm srt
    · rw [evV_free] at hE
      refine ⟨.ref E, rfl, E, _, 0, _, rfl, rfl, .inl (.inl hE), atI_nat (j := 0) rfl, rfl, _, rfl, ite2 (fun _ => ?_) (fun c => absurd (by decide +kernel) c)⟩
      refine ⟨.int o, rfl, .ref t, rfl, .ref E, rfl, E, _, 1, _, rfl, rfl, .inl (.inl hE), atI_nat (j := 1) rfl, t, bs, x, rfl, ht, hl, hb, fun H1 u s1 hu => ⟨(by show 2 ≤ sizeLine; decide), fun T' nT => ?_⟩⟩
      have sT := same_upd (o := .tup [.int o, .ref u]) nT
      exact q _ T' (s1.trans sT) ⟨u, upd_same, hu.same sT⟩
/-- what an event does -/
def Does (r : Str) (s : Nat → Nat) (p M m : Nat) (t : Tri) (bs : List Bk) : Prop := (∃ i a m', i ≤ p ∧ t = (("get" : Str), a, ((s i : Nat) : Int)) ∧ tot bs + ((s i : Nat) : Int) ≤ M ∧ Nxt r ((s p : Nat) : Int) ((s i : Nat) : Int) bs m a m') ∨ ∃ e ∈ bs, t = (("free" : Str), e.1, e.2)
def spOa (T : List (Addr × Str)) : Sp := fun vs H Q _ => ∃ (r : Str) (c u : Addr) (s : Nat → Nat) (p M m : Nat) (ss : List Tri) (bs : List Bk), vs = [.ref c, .int M, .str r, .ref u] ∧ IsRule r ∧ ChAt H c (tl s (p + 1)) ∧ SmlG s p M ∧ HisAt H u ss ∧ ss.length ≤ 100000 ∧ Gw r s p M ss.reverse bs m ∧ LamX.Tabs T H ∧ ∀ H', LamX.ExtN H H' → LamX.Tabs T H' → Q (.int (m : Int)) H'
end
end Ph

set_option maxHeartbeats 8000000
namespace Ph
open PySem PySem.Spec PyProof.Rows L2
/-- a stage: how many pages are open, and the state -/
def StgV (H : Hp) (y : V) (x : Nat × List Bk) : Prop := ∃ T u, y = .ref T ∧ H T = some (.tup [.int ((x.1 : Nat) : Int), .ref u]) ∧ StAt H u x.2
theorem StgV.kp {H H' : Hp} {y : V} {x : Nat × List Bk} (h : StgV H y x) (k : KpT H H') : StgV H' y x := by
  obtain ⟨T, u, e, hT, hu⟩ := h
  exact ⟨T, u, e, k _ _ hT, hu.mono k⟩
abbrev StgVs (H : Hp) : List V → List (Nat × List Bk) → Prop := Paired (StgV H)
abbrev Stg := Nat × List Bk
def gkey (x : Stg) : NestedKey := .tup [.num ((x.1 : Nat) : Int), skey x.2]
theorem gkey_inj {a b : Stg} (h : gkey a = gkey b) : a = b := by
  unfold gkey at h
  injection h with h
  injection h with h1 h
  injection h with h2 _
  injection h1 with h1
  have := skey_inj h2
  obtain ⟨m, bs⟩ := a
  obtain ⟨m', bs'⟩ := b
  have e : m = m' := by
    have h1 : ((m : Nat) : Int) = ((m' : Nat) : Int) := h1
    omega
  have this : bs = bs' := this
  rw [e, this]
theorem gkey_depth (x : Stg) : (gkey x).depth ≤ 8 := by
  have h := bkeys_depth x.2
  unfold gkey skey
  simp only [NestedKey.depth, NestedKey.depthAll]
  omega
theorem StgV.nk {H : Hp} {T : Addr} {x : Stg} (h : StgV H (.ref T) x) : Nk H (.ref T) (gkey x) := by
  obtain ⟨T', u, e, hT, hu⟩ := h
  cases e
  exact .tup (.inl hT) (.cons (.int _) (.cons hu.nk .nil))
def InG (xs : List KAV) (x : Stg) : Prop := (valV (xs.map kv2) (gkey x)).isSome = true
section
variable {xs : List KAV} {x y : Stg} {k : NestedKey} {b : Addr} {v : V}
theorem InG.put (h : InG xs x) : InG (putX xs k b v) x := by
  unfold InG at h ⊢
  rw [valV_putX]
  split
  · rfl
  · exact h
theorem InG.new : InG (putX xs (gkey x) b v) x := by
  unfold InG
  rw [valV_putX, if_pos rfl]
  rfl
theorem InG.inv (h : InG (putX xs (gkey y) b v) x) : x = y ∨ InG xs x := by
  unfold InG at h
  rw [valV_putX] at h
  split at h
  · rename_i e
    exact .inl (gkey_inj e)
  · exact .inr h
theorem InG.not (h : (!(valV (xs.map kv2) (gkey x)).isSome) = true) : valV (xs.map kv2) (gkey x) = none := by
  cases e : valV (xs.map kv2) (gkey x) with
  | none => rfl
  | some x => rw [e] at h; cases h
theorem InG.yes (h : ¬ (!(valV (xs.map kv2) (gkey x)).isSome) = true) : InG xs x := by
  unfold InG
  cases e : valV (xs.map kv2) (gkey x) with
  | none => rw [e] at h; exact absurd rfl h
  | some x => rfl
end
theorem gkeys_few {xs : List KAV} {gs : List Stg} (nd : (xs.map (·.1)).Nodup) (h : ∀ x ∈ xs, ∃ g ∈ gs, x.1 = gkey g) : xs.length ≤ gs.length := by
  have := nodup_le (l := xs.map (·.1)) (m := gs.map gkey) nd fun k hk => by
    obtain ⟨x, hx, rfl⟩ := List.mem_map.mp hk
    obtain ⟨g, hg, e⟩ := h x hx
    rw [e]
    exact List.mem_map.mpr ⟨g, hg, rfl⟩
  rw [List.length_map, List.length_map] at this
  exact this
def stgD (x : Stg) : PyData := .tuple [.int ((x.1 : Nat) : Int), stD x.2]
theorem StgVs.kp {H H' : Hp} {xs : List V} {gs : List Stg} (h : StgVs H xs gs) (k : KpT H H') : StgVs H' xs gs := Paired.mono (fun _ _ z => z.kp k) h
/-! ### a place by the rule is there -/
theorem min_ex : ∀ (l : List Int), l ≠ [] → ∃ a ∈ l, ∀ n ∈ l, a ≤ n
  | [], h => absurd rfl h
  | [x], _ => ⟨x, List.mem_singleton.mpr rfl, fun n hn => by rw [List.mem_singleton.mp hn]; exact Int.le_refl _⟩
  | x :: y :: r, _ => by
    obtain ⟨a, ha, h⟩ := min_ex (y :: r) (List.cons_ne_nil _ _)
    rcases Int.le_total x a with z | z
    · exact ⟨x, List.mem_cons_self, fun n hn => by
        rcases List.mem_cons.mp hn with q | q
        · rw [q]; exact Int.le_refl _
        · exact Int.le_trans z (h n q)⟩
    · exact ⟨a, List.mem_cons_of_mem _ ha, fun n hn => by
        rcases List.mem_cons.mp hn with q | q
        · rw [q]; exact z
        · exact h n q⟩
theorem max_ex : ∀ (l : List Int), l ≠ [] → ∃ a ∈ l, ∀ n ∈ l, n ≤ a
  | [], h => absurd rfl h
  | [x], _ => ⟨x, List.mem_singleton.mpr rfl, fun n hn => by rw [List.mem_singleton.mp hn]; exact Int.le_refl _⟩
  | x :: y :: r, _ => by
    obtain ⟨a, ha, h⟩ := max_ex (y :: r) (List.cons_ne_nil _ _)
    rcases Int.le_total a x with z | z
    · exact ⟨x, List.mem_cons_self, fun n hn => by
        rcases List.mem_cons.mp hn with q | q
        · rw [q]; exact Int.le_refl _
        · exact Int.le_trans (h n q) z⟩
    · exact ⟨a, List.mem_cons_of_mem _ ha, fun n hn => by
        rcases List.mem_cons.mp hn with q | q
        · rw [q]; exact z
        · exact h n q⟩
theorem bst_refl {r : Str} {L : Int} {bs : List Bk} (x : Int) : Bst r L bs x x := by
  unfold Bst
  split
  · exact ⟨Int.le_refl _, fun h => by omega⟩
  · exact ⟨Int.le_refl _, fun h => by omega⟩
theorem bst_trans {r : Str} {L : Int} {bs : List Bk} {x y z : Int} (h1 : Bst r L bs x y) (h2 : Bst r L bs y z) : Bst r L bs x z := by
  unfold Bst at h1 h2 ⊢
  split
  · rename_i e
    rw [if_pos e] at h1 h2
    exact ⟨by omega, fun h => by rcases Int.lt_or_le x y with q | q <;> omega⟩
  · rename_i e
    rw [if_neg e] at h1 h2
    exact ⟨by omega, fun h => by rcases Int.lt_or_le x y with q | q <;> omega⟩
theorem bst_tot {r : Str} {L : Int} {bs : List Bk} (x y : Int) : Bst r L bs x y ∨ Bst r L bs y x := by
  unfold Bst
  split
  · rcases Int.lt_trichotomy (twf L bs (x / L)) (twf L bs (y / L)) with h | h | h
    · exact .inl ⟨by omega, fun _ => h⟩
    · rcases Int.le_total x y with q | q
      · exact .inr ⟨by omega, fun z => by omega⟩
      · exact .inl ⟨by omega, fun z => by omega⟩
    · exact .inr ⟨by omega, fun _ => h⟩
  · rcases Int.lt_trichotomy (twf L bs (x / L)) (twf L bs (y / L)) with h | h | h
    · exact .inr ⟨by omega, fun _ => h⟩
    · rcases Int.le_total x y with q | q
      · exact .inr ⟨by omega, fun z => by omega⟩
      · exact .inl ⟨by omega, fun z => by omega⟩
    · exact .inl ⟨by omega, fun _ => h⟩
theorem bst_ex {r : Str} {L : Int} {bs : List Bk} : ∀ (l : List Int), l ≠ [] → ∃ a ∈ l, ∀ n ∈ l, Bst r L bs n a
  | [], h => absurd rfl h
  | [x], _ => ⟨x, List.mem_singleton.mpr rfl, fun n hn => by rw [List.mem_singleton.mp hn]; exact bst_refl _⟩
  | x :: y :: t, _ => by
    obtain ⟨a, ha, h⟩ := bst_ex (y :: t) (List.cons_ne_nil _ _)
    rcases bst_tot (r := r) (L := L) (bs := bs) a x with z | z
    · exact ⟨x, List.mem_cons_self, fun n hn => by
        rcases List.mem_cons.mp hn with q | q
        · rw [q]; exact bst_refl _
        · exact bst_trans (h n q) z⟩
    · exact ⟨a, List.mem_cons_of_mem _ ha, fun n hn => by
        rcases List.mem_cons.mp hn with q | q
        · rw [q]; exact z
        · exact h n q⟩
theorem nxt_ex {r : Str} {L z : Int} {bs : List Bk} {m : Nat} (hr : IsRule r) (hz : 0 < z) : ∃ a m', Nxt r L z bs m a m' := by
  rcases Classical.em (∀ x, ¬ SpotG z bs ((m : Int) * L) x) with no | ex
  · exact ⟨_, _, .inl ⟨rfl, no, rfl⟩⟩
  · obtain ⟨x0, hx0⟩ : ∃ x, SpotG z bs ((m : Int) * L) x := Classical.byContradiction fun no => ex fun x hx => no ⟨x, hx⟩
    have dec : ∀ x : Int, Decidable (SpotG z bs ((m : Int) * L) x) := fun x => Classical.propDecidable _
    obtain ⟨l, hl⟩ : ∃ l : List Int, ∀ x, x ∈ l ↔ SpotG z bs ((m : Int) * L) x := by
      refine ⟨((List.range ((m : Int) * L).toNat).map fun (n : Nat) => (n : Int)).filter fun x => @decide _ (dec x), fun x => ?_⟩
      rw [List.mem_filter]
      constructor
      · exact fun h => @of_decide_eq_true _ (dec x) h.2
      · intro h
        have h1 := h.pos
        have h2 := h.fit
        exact ⟨List.mem_map.mpr ⟨x.toNat, List.mem_range.mpr (by omega), by omega⟩, @decide_eq_true _ (dec x) h⟩
    have ne : l ≠ [] := fun e => by
      have := (hl x0).mpr hx0
      rw [e] at this
      cases this
    rcases hr with rfl | rfl | rfl | rfl
    · obtain ⟨a, ha, h⟩ := min_ex l ne
      exact ⟨a, m, .inr ⟨.inr ⟨a, rfl, (hl a).mp ha, .inl ⟨rfl, fun n hn => h n ((hl n).mpr hn)⟩⟩, rfl⟩⟩
    · obtain ⟨a, ha, h⟩ := max_ex l ne
      exact ⟨a, m, .inr ⟨.inr ⟨a, rfl, (hl a).mp ha, .inr (.inl ⟨rfl, fun n hn => h n ((hl n).mpr hn)⟩)⟩, rfl⟩⟩
    · obtain ⟨a, ha, h⟩ := bst_ex (r := "tight") (L := L) (bs := bs) l ne
      exact ⟨a, m, .inr ⟨.inr ⟨a, rfl, (hl a).mp ha, .inr (.inr ⟨by decide, by decide, fun n hn => h n ((hl n).mpr hn)⟩)⟩, rfl⟩⟩
    · obtain ⟨a, ha, h⟩ := bst_ex (r := "loose") (L := L) (bs := bs) l ne
      exact ⟨a, m, .inr ⟨.inr ⟨a, rfl, (hl a).mp ha, .inr (.inr ⟨by decide, by decide, fun n hn => h n ((hl n).mpr hn)⟩)⟩, rfl⟩⟩
/-! ### steps and stages of a growing heap -/
def Grw (r : Str) (s : Nat → Nat) (p M : Nat) (x y : Stg) (t : Tri) : Prop :=
  (∃ b ∈ x.2, t = (("free" : Str), b.1, b.2) ∧ y = (x.1, x.2.filter fun c => decide (c.1 ≠ b.1))) ∨
  ∃ i a m' cs, i ≤ p ∧ tot x.2 + ((s i : Nat) : Int) ≤ M ∧ cs.Perm (x.2 ++ [(a, ((s i : Nat) : Int))]) ∧ (cs.Pairwise fun x y => SrtO.lexB y x = false) ∧ Nxt r ((s p : Nat) : Int) ((s i : Nat) : Int) x.2 x.1 a m' ∧ t = (("get" : Str), a, ((s i : Nat) : Int)) ∧ y = (m', cs)
def Rn (r : Str) (s : Nat → Nat) (p M : Nat) (n : Nat) (x : Stg) : Prop := ∃ rs : List Tri, rs.length = n ∧ Gw r s p M rs x.2 x.1
def Dst (r : Str) (s : Nat → Nat) (p M : Nat) (n : Nat) (x : Stg) : Prop := Rn r s p M n x ∧ ∀ m, m < n → ¬ Rn r s p M m x
section
variable {r : Str} {s : Nat → Nat} {p M n : Nat} {x y : Stg} {t : Tri}
theorem Rn.zero : Rn r s p M 0 (0, []) := ⟨[], rfl, .nil⟩
theorem Rn.zero_eq (h : Rn r s p M 0 x) : x = (0, []) := by
  obtain ⟨rs, e, g⟩ := h
  obtain rfl := List.length_eq_zero_iff.mp e
  obtain ⟨m, bs⟩ := x
  cases g
  rfl
theorem Rn.step (h : Rn r s p M n x) (g : Grw r s p M x y t) : Rn r s p M (n + 1) y := by
  obtain ⟨rs, e, gw⟩ := h
  rcases g with ⟨b, hb, rfl, rfl⟩ | ⟨i, a, m', cs, hi, lim, pm, srt, nx, rfl, rfl⟩
  · exact ⟨_, by rw [List.length_cons, e], .free gw hb⟩
  · exact ⟨_, by rw [List.length_cons, e], .get gw hi lim pm srt nx⟩
theorem Rn.pre (h : Rn r s p M (n + 1) y) : ∃ x t, Rn r s p M n x ∧ Grw r s p M x y t := by
  obtain ⟨rs, e, gw⟩ := h
  obtain ⟨m, bs⟩ := y
  cases gw with
  | nil => cases e
  | @get rs bs0 _ m0 _ i a g hi lim pm srt nx => exact ⟨(m0, bs0), _, ⟨rs, by simpa using e, g⟩, .inr ⟨i, a, m, bs, hi, lim, pm, srt, nx, rfl, rfl⟩⟩
  | @free rs bs0 _ e0 g hb => exact ⟨(m, bs0), _, ⟨rs, by simpa using e, g⟩, .inl ⟨e0, hb, rfl, rfl⟩⟩
theorem Rn.rv {k : Nat} (cn : Cn s p k) (h : Rn r s p M n x) : Rv r s p M x.1 x.2 := by
  obtain ⟨rs, _, g⟩ := h
  exact g.rv cn
theorem Dst.uniq {m : Nat} (h : Dst r s p M n x) (h' : Dst r s p M m x) : n = m := by
  rcases Nat.lt_trichotomy n m with z | z | z
  · exact absurd h.1 (h'.2 n z)
  · exact z
  · exact absurd h'.1 (h.2 m z)
theorem Dst.of (h : Rn r s p M n x) : ∃ m, m ≤ n ∧ Dst r s p M m x := by
  induction n using Nat.strongRecOn with
  | ind n ih =>
    rcases Classical.em (∃ m, m < n ∧ Rn r s p M m x) with ⟨m, lt, hm⟩ | no
    · obtain ⟨d, le, hd⟩ := ih m lt hm
      exact ⟨d, by omega, hd⟩
    · exact ⟨n, Nat.le_refl _, h, fun m lt hm => no ⟨m, lt, hm⟩⟩
theorem Dst.pre (h : Dst r s p M (n + 1) y) : ∃ x t, Dst r s p M n x ∧ Grw r s p M x y t := by
  obtain ⟨x, t, rx, g⟩ := h.1.pre
  exact ⟨x, t, ⟨rx, fun m lt rm => h.2 (m + 1) (by omega) (rm.step g)⟩, g⟩
theorem Dst.down (h : Dst r s p M n y) : ∀ k, k ≤ n → ∃ x, Dst r s p M k x := by
  induction n generalizing y with
  | zero => exact fun k hk => ⟨y, by obtain rfl : k = 0 := by omega
                                     exact h⟩
  | succ n ih =>
    intro k hk
    rcases Nat.lt_or_ge k (n + 1) with z | z
    · obtain ⟨x, _, hx, _⟩ := h.pre
      exact ih hx k (by omega)
    · obtain rfl : k = n + 1 := by omega
      exact ⟨y, h⟩
end
end Ph

set_option maxHeartbeats 8000000
namespace Ph
open PySem PySem.Spec PyProof.Rows L2
/-- an event -/
def EvR (H : Hp) (y : V) (t : Tri) : Prop := ∃ e, y = .ref e ∧ H e = some (.tup (evV t))
theorem EvR.kp {H H' : Hp} {y : V} {t : Tri} (h : EvR H y t) (k : KpT H H') : EvR H' y t := by
  obtain ⟨e, e1, h⟩ := h
  exact ⟨e, e1, k _ _ h⟩
theorem ext_but {L : Addr} {H0 H H' : Hp} (x : LamX.ExtN H0 H) (n : H0 L = none) (b : But L H H') : LamX.ExtN H0 H' := fun a o e t => b _ _ (ne_of_none e n) (x _ _ e t)
/-- nothing but a table stood there -/
def Nw (H : Hp) (E : Addr) : Prop := ∀ o, H E = some o → ∃ ps, o = HO.tbl ps
theorem Nw.ne {H : Hp} {E a : Addr} {o : HO} (n : Nw H E) (e : H a = some o) (t : ∀ ps, o ≠ .tbl ps) : a ≠ E := fun z => by
  rw [z] at e
  obtain ⟨ps, h⟩ := n _ e
  exact t ps h
theorem Nw.of {H H' : Hp} {E : Addr} (x : LamX.ExtN H H') (n : H' E = none) : Nw H E := fun o e => Classical.byContradiction fun no => by
  rw [x _ _ e fun ps h => no ⟨ps, h⟩] at n
  cases n
section
variable {P : Program} {w : World} {K : PySem.W.Frag} {mg : Str → Option Value} {base : Heap}
def spNe (T : List (Addr × Str)) : Sp := fun vs H Q _ => ∃ (r : Str) (c D : Addr) (s : Nat → Nat) (p M : Nat) (x : Stg), vs = [.ref c, .int M, .str r, .ref D] ∧ IsRule r ∧ ChAt H c (tl s (p + 1)) ∧ SmlG s p M ∧ StgV H (.ref D) x ∧ Rv r s p M x.1 x.2 ∧ LamX.Tabs T H ∧
  ∀ H' E zs ts, LamX.ExtN H H' → LamX.Tabs T H' → Nw H E → H' E = some (.lst zs) → Paired (EvR H') zs ts → (∀ t ∈ ts, ∃ y, Grw r s p M x y t) → (∀ y t, Grw r s p M x y t → t ∈ ts) → zs.length ≤ 600 → Q (.ref E) H'
theorem ok_Ne {k : Nat} (Z : Fns K mg) (TB : LamX.TabB base mg Z.cPp Z.pPp) {T : List (Addr × Str)} (hT : InT T Z.pPp tkN) : FnOk P w K mg base CX0 (k + 1 + 1 + 1 + 1 + 1 + 1 + 1) Z.fNe Z.fdNe ["chain", "limit", "rule", "heap"] (spNe T) := by
  have GV : FnOk P w K mg base CX0 (k + 1) Z.fV Z.fdV ["state"] spV := ok_V Z
  have GPo : FnOk P w K mg base CX0 (k + 1 + 1 + 1 + 1 + 1 + 1) Z.fPo Z.fdPo ["chain", "rule", "heap", "size"] (spPo T) := ok_Po Z TB hT
  refine Z.FNe.ok scNe (fun vs H Q E h => ?_) (fun cdv A outer s H vs Q E hr h => ?_)
  · obtain ⟨r, c, D, s, p, M, x, rfl, _⟩ := h
    rfl
  · obtain ⟨r, c, D, sz, p, M, ⟨m, bs⟩, rfl, hr4, hc, sml, ⟨D', u, eD, hD, hu⟩, rv, tabs, fin⟩ := h
    cases eD
    obtain ⟨cn, p11, M5⟩ := id sml
    refine ⟨_, (pss_cons (ps_set (i := 4) scNe.nd rfl (.inr rfl) (pe_op op_sub (pv 1) (pe_call GV (hr.mono (by omega)) (by rfl) Z.gV Z.FV.kp Z.bV .nil pass0 (pa_cons (pe_ix ix_tup (pv 3) pe_int (fun _ _ => rfl)) pa_nil))))
 (pss_cons (ps_setLc (i := 5) (own := [("address", 6), ("size", 7)]) (g := (gTup K 2 (gCons (gName 6) (gCons (gName 7) gNil)))) (tt := tYes) (by rfl) scNe.nd rfl rfl (sw_true rfl rfl rfl (by decide +kernel)) (pi_tup (pe_ix ix_tup (pv 3) pe_int (fun _ _ => rfl))) (blkOk_by (N := scNeN) (sc := defScope scNeS) (by decide +kernel)) (fun _ _ _ _ _ => (pg_tup (by rfl) (pgs_cons (pg_name (i := 6) scNe.nd rfl (.inl rfl)) (pgs_cons (pg_name (i := 7) scNe.nd rfl (.inl rfl)) pgs_nil)))) (fun _ _ _ _ _ => pts_nil) (fun _ _ _ _ _ => (pe_tup (pa_cons pe_str (pa_cons (pv 6) pa_nil)))))
 (pss_one (ps_ret (pe_op op_cat (pv 5) (pe_lc (own := [("size", 7)]) (g := (gName 7)) (by rfl) scNe.nd (pi_tup (pv 0)) (blkOk_by (N := scNeN) (sc := defScope scNeS) (by decide +kernel)) (fun _ _ _ _ _ => (pg_name (i := 7) scNe.nd rfl (.inl rfl))) (fun _ _ _ _ _ => (pts_one (pt_cmpR op_le (pv 7) (pv 4) (nomark _)))) (fun _ _ _ _ _ => (pe_tup (pa_cons pe_str (pa_cons (pv 7) (pa_cons (pe_call GPo (hr.mono (by omega)) (by rfl) Z.gPo Z.FPo.kp Z.bPo .nil pass0 (pa_cons (pv 0) (pa_cons (pv 2) (pa_cons (pv 3) (pa_cons (pv 7) pa_nil))))) pa_nil))))))))))), ?_⟩
    have hu : StAt H u bs := hu
    have hD : H D = some (.tup [.int ((m : Nat) : Int), .ref u]) := hD
    have bl := rv.len
    have ch := cn.ch
    have top : ∀ j, j ≤ p → 0 < sz j ∧ sz j ≤ 24 := fun j hj => ⟨ch.pos (by omega), Nat.le_trans (ch.mono (i := j) (j := p) hj (by omega)) cn.top⟩
    have cap6 : (600 : Nat) < sizeLine := by decide
    refine ⟨.int M, rfl, .ref D, rfl, D, _, 1, _, rfl, rfl, .inl (.inl hD), atI_nat (j := 1) rfl, u, bs, rfl, hu, by dsimp only at bl; omega, fun H1 s1 => ⟨_, _, rfl, rfl, ?_⟩⟩
    have hu1 := hu.same s1
    have hD1 := s1 _ _ hD
    obtain ⟨us, hus, blu⟩ := id hu1
    dsimp only [gName]
    refine ⟨.ref D, rfl, D, _, 1, _, rfl, rfl, .inl (.inl hD1), atI_nat (j := 1) rfl, u, rfl, ⟨_, .inl (.inl hus)⟩, fun F nF => ?_⟩
    refine lc_R (walk_tup (K := K) (a := u) (xs := us)) (fun _ _ _ _ y => YAt.same y) (fun H8 j y => ∃ b, bs[j]? = some b ∧ EvR H8 y (("free" : Str), b.1, b.2)) (fun H8 H9 _ y kp h => by obtain ⟨b, h1, h2⟩ := h; exact ⟨b, h1, h2.kp kp⟩) nF (by rw [blu.len]; dsimp only at bl; omega) (fun H11 s11 => .inl (.inl (s11 _ _ hus))) (fun j y H11 H12 hj s11 yy Z2 hZ => ?_) (fun H2 fs s2 hF pr => ?_)
    · obtain ⟨rfl, hx⟩ := yy
      obtain ⟨e, he, u0, rfl, hu0⟩ := BL.get blu hx
      refine ⟨u0, _, rfl, .inl (.inl (s11 _ _ hu0)), rfl, _, _, rfl, _, _, rfl, rfl, rfl, ?_⟩
      refine ⟨.int e.1, rfl, (by show 2 ≤ sizeLine; decide), fun T1 nT1 => ?_⟩
      exact hZ _ _ (same_upd nT1) ⟨e, he, T1, rfl, by rw [upd_same, evV_free]⟩
    have prF : Paired (EvR H2) fs (bs.map fun b => (("free" : Str), b.1, b.2)) := by
      have l := Paired.length pr
      rw [List.length_range, blu.len] at l
      refine pairedG (by rw [List.length_map]; omega) fun i y t hy ht => ?_
      obtain ⟨i', hi', b, hb, e⟩ := Paired.get2 pr hy
      have hi : i < us.length := by
        have := (List.getElem?_eq_some_iff.mp hy).1
        rw [blu.len]
        omega
      rw [List.getElem?_range hi] at hi'
      cases hi'
      rw [List.getElem?_map, hb] at ht
      cases ht
      exact e
    have fl := Paired.length prF
    rw [List.length_map] at fl
    clear pr
    dsimp only [gName]
    obtain ⟨L0, hL0⟩ : ∃ L0, tl sz (p + 1) = L0 := ⟨_, rfl⟩
    have hc2 := hc.keep (s1.trans s2)
    have tb2 := tabs_same tabs (s1.trans s2)
    have stg2 : HeAt H2 D ((m : Nat) : Int) bs := ⟨u, (s1.trans s2) _ _ hD, hu.same (s1.trans s2)⟩
    refine ⟨.ref F, rfl, .ref c, rfl, c, rfl, ⟨_, hc2.sq⟩, fun G nG => ?_⟩
    have nFG : F ≠ G := ne_of_none hF nG
    refine lc_tup (K := K) (a := c) (xs := (tl sz (p + 1)).map V.int) (fun i H' => LamX.ExtN H2 H' ∧ LamX.Tabs T H' ∧ ∃ zs ts, H' G = some (.lst zs) ∧ Paired (EvR H') zs ts ∧ (∀ t ∈ ts, ∃ y, Grw r sz p M (m, bs) y t) ∧ (∀ j a m' , j < i → j ≤ p → tot bs + ((sz j : Nat) : Int) ≤ M → Nxt r ((sz p : Nat) : Int) ((sz j : Nat) : Int) bs m a m' → (("get" : Str), a, ((sz j : Nat) : Int)) ∈ ts) ∧ zs.length ≤ i) ⟨.of (same_upd nG), tabs_same tb2 (same_upd nG), [], [], upd_same, .nil, (fun _ h => nomatch h), (fun j _ _ h => absurd h (by omega)), Nat.le_refl _⟩ (fun i H' _ q => (ext_ch q.1 hc2).sq) (fun i x H3 hx q => ?_) (fun H3 q => ?_)
    · obtain ⟨x3, tb3, zs, ts, hG, pz, gz, az, zl⟩ := q
      have hi : i ≤ p := by
        have := (List.getElem?_eq_some_iff.mp hx).1
        rw [List.length_map, tl_len] at this
        omega
      rw [tl_getV (by omega)] at hx
      cases hx
      refine ⟨rfl, .int _, rfl, .int _, rfl, _, _, rfl, rfl, _, rfl, ite2 (fun c1 => ?_) (fun c1 => ?_)⟩
      · have lim : tot bs + ((sz i : Nat) : Int) ≤ M := by have := of_decide_eq_true c1; omega
        obtain ⟨a, m', nx⟩ := nxt_ex (r := r) (L := ((sz p : Nat) : Int)) (z := ((sz i : Nat) : Int)) (bs := bs) (m := m) hr4 (by have := (top i hi).1; omega)
        have stg3 := stg2.ext x3
        refine ⟨.int _, rfl, .ref c, rfl, .str r, rfl, .ref D, rfl, .int _, rfl, r, c, D, sz, p, M, i, m, m', bs, a, rfl, hr4, ext_ch x3 hc2, sml, stg3, rv, hi, nx, tb3, fun H4 x4 tb4 => ⟨(by show 3 ≤ sizeLine; decide), fun T1 nT1 => ?_⟩⟩
        have sT := same_upd (o := .tup [.str "get", .int ((sz i : Nat) : Int), .int a]) nT1
        have hG4 := sT _ _ (ext_lst x4 hG)
        have x5 := x3.trans (x4.trans (.of sT))
        have kp4 : KpT H3 (upd H4 T1 (.tup [.str "get", .int ((sz i : Nat) : Int), .int a])) := fun b ys e => ext_tup (x4.trans (.of sT)) e
        have hT1 : upd H4 T1 (.tup [.str "get", .int ((sz i : Nat) : Int), .int a]) T1 = some (.tup (evV (("get" : Str), a, ((sz i : Nat) : Int)))) := by rw [upd_same, evV_get]
        have tb5 := tabs_same tb4 sT
        generalize upd H4 T1 (.tup [.str "get", .int ((sz i : Nat) : Int), .int a]) = H5 at *
        have bu : But G H5 (upd H5 G (.lst (zs ++ [.ref T1]))) := fun b o n e => by rw [upd_ne n]; exact e
        refine ⟨zs, hG4, by omega, ext_but x5 nG bu, tabsT_but tb5 bu hG4, zs ++ [.ref T1], ts ++ [(("get" : Str), a, ((sz i : Nat) : Int))], upd_same, Paired.snoc (Paired.mono (fun _ _ h => (h.kp kp4).kp (bu.kpT hG4)) pz) ⟨T1, rfl, bu.kpT hG4 _ _ hT1⟩, fun t ht => ?_, fun j a' m2 hj hjp lj nj => ?_, by rw [List.length_append]; show zs.length + 1 ≤ _; omega⟩
        · rcases List.mem_append.mp ht with h | h
          · exact gz t h
          · rw [List.mem_singleton.mp h]
            have stb : St (tl sz (p + 1)) ((m : Int) * ((sz p : Nat) : Int)) bs := rv.st
            exact ⟨(m', ins (a, ((sz i : Nat) : Int)) bs), .inr ⟨i, a, m', ins (a, ((sz i : Nat) : Int)) bs, hi, lim, ins_perm _ _, ins_srt (HW.St_lex stb), nx, rfl, rfl⟩⟩
        · rcases Nat.lt_or_ge j i with z | z
          · exact List.mem_append_left _ (az j a' m2 z hjp lj nj)
          · obtain rfl : j = i := by omega
            obtain ⟨e1, _⟩ := nxt_uniq nx nj
            rw [← e1]
            exact List.mem_append_right _ (List.mem_singleton.mpr rfl)
      · refine ⟨x3, tb3, zs, ts, hG, pz, gz, fun j a' m2 hj hjp lj nj => ?_, by omega⟩
        rcases Nat.lt_or_ge j i with z | z
        · exact az j a' m2 z hjp lj nj
        · obtain rfl : j = i := by omega
          exact absurd (decide_eq_true (by omega)) c1
    · obtain ⟨x3, tb3, zs, ts, hG, pz, gz, az, zl⟩ := q
      rw [List.length_map, tl_len] at az zl
      have hF3 := ext_lst x3 hF
      have prF3 : Paired (EvR H3) fs (bs.map fun b => (("free" : Str), b.1, b.2)) := Paired.mono (fun _ _ h => h.kp fun b ys e => ext_tup x3 e) prF
      refine ⟨F, G, fs, zs, rfl, rfl, hF3, hG, by dsimp only at bl; omega, fun E nE => ?_⟩
      have sE := same_upd (o := .lst (fs ++ zs)) nE
      have x03 : LamX.ExtN H H3 := (LamX.ExtN.of (s1.trans s2)).trans x3
      have nEH : Nw H E := .of x03 nE
      refine fin _ E (fs ++ zs) ((bs.map fun b => (("free" : Str), b.1, b.2)) ++ ts) (x03.trans (.of sE)) (tabs_same tb3 sE) nEH upd_same (Paired.mono (fun _ _ h => h.kp fun b ys e => sE _ _ e) (pairedApp prF3 pz)) (fun t ht => ?_) (fun y t g => ?_) (by rw [List.length_append]; dsimp only at bl; omega)
      · rcases List.mem_append.mp ht with h | h
        · obtain ⟨b, hb, rfl⟩ := List.mem_map.mp h
          exact ⟨_, .inl ⟨b, hb, rfl, rfl⟩⟩
        · exact gz t h
      · rcases g with ⟨b, hb, rfl, rfl⟩ | ⟨i, a, m', cs, hi, lim, pm, srt, nx, rfl, rfl⟩
        · exact List.mem_append_left _ (List.mem_map.mpr ⟨b, hb, rfl⟩)
        · exact List.mem_append_right _ (az i a m' (by omega) hi lim nx)
end
end Ph

set_option maxHeartbeats 8000000
namespace Ph
open PySem PySem.Spec PyProof.Rows L2
/-! ### all stages that can be reached, round by round -/
/-- tuples stand, frozen ones too -/
structure Kx (H H' : Hp) : Prop where
  kp : KpT H H'
  fz : ∀ a o u, H a = some (.frz o u) → H' a = some (.frz o u)
theorem Kx.tu {H H' : Hp} (k : Kx H H') : ∀ a ys, TuH H a ys → TuH H' a ys := fun a ys e => e.imp (k.kp _ _) fun ⟨o, e⟩ => ⟨o, k.fz _ _ _ e⟩
theorem Kx.ext {H H' : Hp} (x : LamX.ExtN H H') : Kx H H' := ⟨fun _ _ e => ext_tup x e, fun _ _ _ e => ext_frz x e⟩
theorem Kx.same {H H' : Hp} (s : Same H H') : Kx H H' := .ext (.of s)
theorem Kx.trans {H H1 H2 : Hp} (a : Kx H H1) (b : Kx H1 H2) : Kx H H2 := ⟨fun v ys e => b.kp v ys (a.kp v ys e), fun v o u e => b.fz v o u (a.fz v o u e)⟩
theorem Kx.lst {H H' : Hp} {F : Addr} {xs : List V} (b : But F H H') (e : H F = some (.lst xs)) : Kx H H' := ⟨fun v ys h => b _ _ (ne_of h e (by intro z; cases z)) h, fun v o u h => b _ _ (ne_of h e (by intro z; cases z)) h⟩
theorem Kx.dct {w : World} {H H' : Hp} {N : Addr} {xs : List KAV} (b : But N H H') (k : KDx w H N xs) : Kx H H' := ⟨fun v ys h => b _ _ (ne_of h k.ob (by intro z; cases z)) h, fun v o u h => b _ _ (ne_of h k.ob (by intro z; cases z)) h⟩
theorem code_ne_dk {w : World} {c : Addr} {q : Str} {xs : List KAV} : LamX.CodeO c q ≠ dkO w c xs := fun z => by
  unfold LamX.CodeO dkO at z
  injection z with z
  have g : ∀ o : Obj, o.data ≠ .freed → ({ objs := Array.replicate (c + 1) o } : Heap).get? c = some o := fun o n => by
    unfold Heap.get?
    have e : (Array.replicate (c + 1) o)[c]? = some o := by
      rw [Array.getElem?_replicate, if_pos (Nat.lt_succ_self c)]
    obtain ⟨a, b, d, f⟩ := o
    dsimp only
    rw [e]
    cases d <;> first | rfl | exact absurd rfl (n : _ ≠ _)
  have h1 : ∃ (oc : Obj) (vs : Array Value) (t : Tok), ({ objs := Array.replicate (c + 1) { cls := .none, data := .fields #[.none, .str q 0] } } : Heap).get? c = some oc ∧ oc.data = .fields vs ∧ vs[1]? = some (.str q t) :=
    ⟨_, _, 0, g _ (by intro z; cases z), rfl, rfl⟩
  rw [congrFun z] at h1
  obtain ⟨o, es, ep, h2, _, h3, _⟩ := h1
  rw [g _ (by intro z; cases z)] at h2
  cases h2
  cases h3
theorem tabs_dct {w : World} {T : List (Addr × Str)} {H H' : Hp} {N : Addr} {xs : List KAV} (t : LamX.Tabs T H) (b : But N H H') (k : KDx w H N xs) : LamX.Tabs T H' := fun q hq => by
  obtain ⟨ps, h1, h2, h3⟩ := t q hq
  refine ⟨ps, b _ _ (ne_of h1 k.ob (by intro z; cases z)) h1, h2, fun pos cv hc => ?_⟩
  obtain ⟨c, e1, e2⟩ := h3 pos cv hc
  refine ⟨c, e1, b _ _ (fun z => ?_) e2⟩
  have := k.ob
  rw [← z, e2] at this
  injection this with this
  exact code_ne_dk this
/-- what stands but for a dict and a list, and the tables -/
structure Gf (T : List (Addr × Str)) (N F : Addr) (H H' : Hp) : Prop where
  fr : ∀ a o, a ≠ N → a ≠ F → H a = some o → (∀ ps, o ≠ .tbl ps) → H' a = some o
  tb : LamX.Tabs T H'
/-- what is told beside a stage: nothing, or the stage before and the event -/
def VrV (r : Str) (s : Nat → Nat) (p M : Nat) (H : Hp) (n : Nat) (x : Stg) (v : V) : Prop := (n = 0 ∧ v = .non) ∨ ∃ m y t T h e, n = m + 1 ∧ Dst r s p M m y ∧ Grw r s p M y x t ∧ v = .ref T ∧ H T = some (.tup [.ref h, .ref e]) ∧ StgV H (.ref h) y ∧ H e = some (.tup (evV t))
theorem VrV.kp {r : Str} {s : Nat → Nat} {p M : Nat} {H H' : Hp} {n : Nat} {x : Stg} {v : V} (h : VrV r s p M H n x v) (k : KpT H H') : VrV r s p M H' n x v := by
  rcases h with h | ⟨m, y, t, T, h, e, e1, d, g, e2, hT, hh, he⟩
  · exact .inl h
  · exact .inr ⟨m, y, t, T, h, e, e1, d, g, e2, k _ _ hT, hh.kp k, k _ _ he⟩
structure TbS (w : World) (r : Str) (s : Nat → Nat) (p M : Nat) (N : Addr) (H : Hp) (xs : List KAV) (n : Nat) : Prop where
  kd : KDx w H N xs
  en : ∀ x ∈ xs, ∃ g d, x.1 = gkey g ∧ StgV H (.ref x.2.1) g ∧ Dst r s p M d g ∧ d ≤ n ∧ VrV r s p M H d g x.2.2
  od : xs.Pairwise fun x y => ∀ gx gy dx dy, x.1 = gkey gx → y.1 = gkey gy → Dst r s p M dx gx → Dst r s p M dy gy → dx ≤ dy
section
variable {w : World} {r : Str} {s : Nat → Nat} {p M n : Nat} {N : Addr} {H H' : Hp} {xs : List KAV}
theorem TbS.keep (q : TbS w r s p M N H xs n) (k : Kx H H') (e : ∀ u, H N = some u → H' N = some u) : TbS w r s p M N H' xs n :=
  ⟨q.kd.keeps k.tu e, fun x hx => by
    obtain ⟨g, d, h1, h2, h3, h4, h5⟩ := q.en x hx
    exact ⟨g, d, h1, h2.kp k.kp, h3, h4, h5.kp k.kp⟩, q.od⟩
theorem TbS.extN (q : TbS w r s p M N H xs n) (x : LamX.ExtN H H') : TbS w r s p M N H' xs n := q.keep (.ext x) fun u e => by
  have ob := q.kd.ob
  rw [e] at ob
  cases ob
  exact x _ _ e (fun _ z => nomatch z)
theorem TbS.up (q : TbS w r s p M N H xs n) : TbS w r s p M N H xs (n + 1) := ⟨q.kd, fun x hx => by
    obtain ⟨g, d, h1, h2, h3, h4, h5⟩ := q.en x hx
    exact ⟨g, d, h1, h2, h3, by omega, h5⟩, q.od⟩
theorem TbS.inv (q : TbS w r s p M N H xs n) {g : Stg} (h : InG xs g) : ∃ d, d ≤ n ∧ Dst r s p M d g := by
  unfold InG at h
  obtain ⟨v, hv⟩ := Option.isSome_iff_exists.mp h
  obtain ⟨x, hx, e, _⟩ := valV_mem2 hv
  obtain ⟨g', d, h1, _, h3, h4, _⟩ := q.en x hx
  rw [gkey_inj (e.symm.trans h1)]
  exact ⟨d, h4, h3⟩
theorem TbS.few (q : TbS w r s p M N H xs n) {as : List Stg} (h : ∀ g n, Rn r s p M n g → g ∈ as) : xs.length ≤ as.length := gkeys_few q.kd.nd fun x hx => by
  obtain ⟨g, d, h1, _, h3, _⟩ := q.en x hx
  exact ⟨g, h g d h3.1, h1⟩
/-- a new stage -/
theorem TbS.add {u : Addr} {g : Stg} {v : V} (q : TbS w r s p M N H xs (n + 1)) (b : But N H H') (kd : KDx w H' N (putX xs (gkey g) u v)) (nw : valV (xs.map kv2) (gkey g) = none) (hu : StgV H (.ref u) g) (d : Dst r s p M (n + 1) g) (vr : VrV r s p M H (n + 1) g v) : TbS w r s p M N H' (putX xs (gkey g) u v) (n + 1) := by
  have k := Kx.dct b q.kd
  rw [putX_new nw] at kd ⊢
  refine ⟨kd, fun x hx => ?_, List.pairwise_append.mpr ⟨q.od, List.pairwise_singleton _ _, fun x hx y hy gx gy dx dy ex ey hx' hy' => ?_⟩⟩
  · rcases List.mem_append.mp hx with h | h
    · obtain ⟨g, d, h1, h2, h3, h4, h5⟩ := q.en x h
      exact ⟨g, d, h1, h2.kp k.kp, h3, h4, h5.kp k.kp⟩
    · rw [List.mem_singleton.mp h]
      exact ⟨g, n + 1, rfl, hu.kp k.kp, d, Nat.le_refl _, vr.kp k.kp⟩
  · rw [List.mem_singleton.mp hy] at ey
    have e2 : gy = g := gkey_inj ey.symm
    rw [e2] at hy'
    obtain ⟨g', d', h1, _, h3, h4, _⟩ := q.en x hx
    have e1 : gx = g' := gkey_inj (ex.symm.trans h1)
    rw [e1] at hx'
    have := hx'.uniq h3
    have := hy'.uniq d
    omega
end
theorem Grw.uniq {r : Str} {s : Nat → Nat} {p M : Nat} {x y y' : Stg} {t : Tri} (h : Grw r s p M x y t) (h' : Grw r s p M x y' t) : y = y' := by
  rcases h with ⟨b, hb, rfl, rfl⟩ | ⟨i, a, m', cs, hi, lim, pm, srt, nx, rfl, rfl⟩
  · rcases h' with ⟨b', hb', e, rfl⟩ | ⟨i, a, m', cs, hi, lim, pm, srt, nx, e, rfl⟩
    · injection e with _ e
      injection e with e _
      rw [e]
    · injection e with e
      exact absurd e (by decide)
  · rcases h' with ⟨b', hb', e, rfl⟩ | ⟨i', a', m2, cs', hi', lim', pm', srt', nx', e, rfl⟩
    · injection e with e
      exact absurd e (by decide)
    · injection e with _ e
      injection e with e1 e2
      subst e1
      rw [← e2] at nx' pm'
      obtain ⟨_, e3⟩ := nxt_uniq nx nx'
      have e4 : cs = cs' := (pm.trans pm'.symm).eq_of_pairwise (le := fun x y : Bk => SrtO.lexB y x = false) (fun a b _ _ x y => by
        have h1 := SrtO.lexB_no.mp x
        have h2 := SrtO.lexB_no.mp y
        exact Prod.ext (by omega) (by omega)) srt srt'
      rw [e3, e4]
theorem ext_butN {L : Addr} {H0 H H' : Hp} (x : LamX.ExtN H0 H) (n : Nw H0 L) (b : But L H H') : LamX.ExtN H0 H' := fun a o e t => b _ _ (n.ne e t) (x _ _ e t)
/-- the search's table, behind a heap -/
structure Rd (w : World) (T : List (Addr × Str)) (r : Str) (s : Nat → Nat) (p M : Nat) (N : Addr) (H H' : Hp) (xs : List KAV) (n : Nat) : Prop where
  x : LamX.ExtN H H'
  tb : LamX.Tabs T H'
  ts : TbS w r s p M N H' xs n
section
variable {w : World} {T : List (Addr × Str)} {r : Str} {s : Nat → Nat} {p M n : Nat} {N : Addr} {H H1 H2 : Hp} {xs : List KAV}
theorem Rd.ext (q : Rd w T r s p M N H H1 xs n) (x : LamX.ExtN H1 H2) (tb : LamX.Tabs T H2) : Rd w T r s p M N H H2 xs n := ⟨q.x.trans x, tb, q.ts.extN x⟩
theorem Rd.same (q : Rd w T r s p M N H H1 xs n) (sm : Same H1 H2) : Rd w T r s p M N H H2 xs n := q.ext (.of sm) (tabs_same q.tb sm)
theorem Rd.up (q : Rd w T r s p M N H H1 xs n) : Rd w T r s p M N H H1 xs (n + 1) := ⟨q.x, q.tb, q.ts.up⟩
theorem Rd.list {F : Addr} {ys : List V} (q : Rd w T r s p M N H H1 xs n) (nF : Nw H F) (b : But F H1 H2) (e : H1 F = some (.lst ys)) : Rd w T r s p M N H H2 xs n :=
  ⟨ext_butN q.x nF b, tabsT_but q.tb b e, q.ts.keep (Kx.lst b e) fun u hu => b _ _ (fun z => by
    have ob := q.ts.kd.ob
    rw [z, e] at ob
    cases ob) hu⟩
theorem Rd.ne {F : Addr} {ys : List V} (q : Rd w T r s p M N H H1 xs n) (e : H1 F = some (.lst ys)) : F ≠ N := fun z => by
  have ob := q.ts.kd.ob
  rw [← z, e] at ob
  cases ob
end
/-- one round's table, the list of those that were newest and the list of those found -/
structure Mid (w : World) (T : List (Addr × Str)) (r : Str) (s : Nat → Nat) (p M : Nat) (N : Addr) (H : Hp) (L F : Addr) (ws : List V) (gs : List Stg) (xs : List KAV) (n : Nat) (H' : Hp) (xs2 : List KAV) (fs : List V) (hs : List Stg) : Prop where
  rd : Rd w T r s p M N H H' xs2 (n + 1)
  wl : H' L = some (.lst ws)
  wv : StgVs H' ws gs
  fl : H' F = some (.lst fs)
  fv : StgVs H' fs hs
  up : ∀ g, InG xs g → InG xs2 g
  mo : ∀ g, g ∈ hs ↔ InG xs2 g ∧ ¬ InG xs g
  ln : xs2.length = xs.length + hs.length
section
variable {w : World} {T : List (Addr × Str)} {r : Str} {s : Nat → Nat} {p M n : Nat} {N L F : Addr} {H H1 H2 : Hp} {xs xs2 : List KAV} {ws fs : List V} {gs hs : List Stg}
theorem Mid.ext (q : Mid w T r s p M N H L F ws gs xs n H1 xs2 fs hs) (x : LamX.ExtN H1 H2) (tb : LamX.Tabs T H2) : Mid w T r s p M N H L F ws gs xs n H2 xs2 fs hs :=
  ⟨q.rd.ext x tb, ext_lst x q.wl, q.wv.kp fun _ _ e => ext_tup x e, ext_lst x q.fl, q.fv.kp fun _ _ e => ext_tup x e, q.up, q.mo, q.ln⟩
theorem Mid.same (q : Mid w T r s p M N H L F ws gs xs n H1 xs2 fs hs) (sm : Same H1 H2) : Mid w T r s p M N H L F ws gs xs n H2 xs2 fs hs := q.ext (.of sm) (tabs_same q.rd.tb sm)
theorem Mid.add {u : Addr} {y : Stg} {v : V} (q : Mid w T r s p M N H L F ws gs xs n H1 xs2 fs hs) (nN : Nw H N) (nF : Nw H F) (LF : L ≠ F) (b : But N H1 H2) (kd : KDx w H2 N (putX xs2 (gkey y) u v)) (nw : valV (xs2.map kv2) (gkey y) = none) (hu : StgV H1 (.ref u) y) (d : Dst r s p M (n + 1) y) (vr : VrV r s p M H1 (n + 1) y v) :
    H2 F = some (.lst fs) ∧ Mid w T r s p M N H L F ws gs xs n (upd H2 F (.lst (fs ++ [.ref u]))) (putX xs2 (gkey y) u v) (fs ++ [.ref u]) (hs ++ [y]) := by
  have k := Kx.dct b q.rd.ts.kd
  have FN := q.rd.ne q.fl
  have LN := q.rd.ne q.wl
  have fl := b _ _ FN q.fl
  have bu : But F H2 (upd H2 F (.lst (fs ++ [.ref u]))) := fun c o n e => by rw [upd_ne n]; exact e
  have k2 := k.trans (Kx.lst bu fl)
  have rd2 : Rd w T r s p M N H H2 (putX xs2 (gkey y) u v) (n + 1) := ⟨ext_butN q.rd.x nN b, tabs_dct q.rd.tb b q.rd.ts.kd, q.rd.ts.add b kd nw hu d vr⟩
  refine ⟨fl, rd2.list nF bu fl, bu _ _ LF (b _ _ LN q.wl), q.wv.kp k2.kp, upd_same, Paired.snoc (q.fv.kp k2.kp) (hu.kp k2.kp), fun g h => (q.up g h).put, fun g => ?_, ?_⟩
  · rw [List.mem_append, List.mem_singleton, q.mo]
    constructor
    · rintro (⟨h1, h2⟩ | rfl)
      · exact ⟨h1.put, h2⟩
      · exact ⟨InG.new, fun h => by
          have := q.up _ h
          unfold InG at this
          rw [nw] at this
          cases this⟩
    · rintro ⟨h1, h2⟩
      rcases h1.inv with e | e
      · exact .inr e
      · exact .inl ⟨e, h2⟩
  · rw [putX_new nw, List.length_append, List.length_append, q.ln]
    show xs.length + hs.length + 1 = xs.length + (hs.length + 1)
    omega
end
section
variable {P : Program} {w : World} {K : PySem.W.Frag} {mg : Str → Option Value} {base : Heap}
/-- few stages can be reached -/
def FewR (r : Str) (s : Nat → Nat) (p M : Nat) : Prop := ∃ as : List Stg, as.length ≤ 20000 ∧ ∀ g n, Rn r s p M n g → g ∈ as
def spRr (w : World) (T : List (Addr × Str)) : Sp := fun vs H Q _ => ∃ (r : Str) (c : Addr) (s : Nat → Nat) (p M : Nat), vs = [.ref c, .int M, .str r] ∧ IsRule r ∧ ChAt H c (tl s (p + 1)) ∧ SmlG s p M ∧ FewR r s p M ∧ LamX.Tabs T H ∧
  ∀ H' N xs n, LamX.ExtN H H' → LamX.Tabs T H' → Nw H N → TbS w r s p M N H' xs n → (∀ g m, Rn r s p M m g → InG xs g) → xs.length ≤ 20000 → Q (.ref N) H'
theorem ok_Rr {k : Nat} (Z : Fns K mg) (TB : LamX.TabB base mg Z.cPp Z.pPp) {T : List (Addr × Str)} (hT : InT T Z.pPp tkN) : FnOk P w K mg base CX0 (k + 1 + 1 + 1 + 1 + 1 + 1 + 1 + 1) Z.fRr Z.fdRr ["chain", "limit", "rule"] (spRr w T) := by
  have GHa : FnOk P w K mg base CX0 (k + 1 + 1 + 1 + 1) Z.fHa Z.fdHa ["chain", "heap", "event"] spHa := ok_Ha Z
  have GCm : FnOk P w K mg base CX0 (k + 1) Z.fCm Z.fdCm ["many"] spCm := ok_Cm Z
  have GNe : FnOk P w K mg base CX0 (k + 1 + 1 + 1 + 1 + 1 + 1 + 1) Z.fNe Z.fdNe ["chain", "limit", "rule", "heap"] (spNe T) := ok_Ne Z TB hT
  refine Z.FRr.ok scRr (fun vs H Q E h => ?_) (fun cdv A outer s H vs Q E hr h => ?_)
  · obtain ⟨r, c, s, p, M, rfl, _⟩ := h
    rfl
  · obtain ⟨r, c, sz, p, M, rfl, hr4, hc, sml, ⟨as, al, has⟩, tabs, fin⟩ := h
    have hu64 := u64_of hr
    obtain ⟨cn, p11, M5⟩ := id sml
    refine ⟨_, (pss_cons (ps_set (i := 3) scRr.nd rfl (.inl rfl) (pe_xone hu64 (pe_tup (pa_cons pe_int (pa_cons (pe_tup pa_nil) pa_nil))) pe_non))
 (pss_cons (ps_set (i := 4) scRr.nd rfl (.inl rfl) (pe_lst (pa_cons (pe_tup (pa_cons pe_int (pa_cons (pe_tup pa_nil) pa_nil))) pa_nil)))
 (pss_cons (ps_while PassesOwn.never (pt_truth (pv 4) (fun _ => rfl))
 (pss_cons (ps_set (i := 5) scRr.nd rfl (.inl rfl) (pe_lst pa_nil))
 (pss_cons (ps_for PassesOwn.never rfl (pi_list (pv 4)) (pg_name (i := 6) scRr.nd rfl (.inl rfl))
 (pss_one (ps_for PassesOwn.never rfl (pi_list (pe_call GNe (hr.mono (by omega)) (by rfl) Z.gNe Z.FNe.kp Z.bNe .nil pass0 (pa_cons (pv 0) (pa_cons (pv 1) (pa_cons (pv 2) (pa_cons (pv 6) pa_nil)))))) (pg_name (i := 7) scRr.nd rfl (.inl rfl))
 (pss_cons (ps_set (i := 8) scRr.nd rfl (.inl rfl) (pe_call GHa (hr.mono (by omega)) (by rfl) Z.gHa Z.FHa.kp Z.bHa .nil pass0 (pa_cons (pv 0) (pa_cons (pv 6) (pa_cons (pv 7) pa_nil)))))
 (pss_one (ps_if (pt_cmpR (op_xNotIn hu64) (pv 8) (pv 3) (by rfl))
 (pss_cons (ps_xput hu64 (pv 3) (pv 8) (pe_tup (pa_cons (pv 6) (pa_cons (pv 7) pa_nil))) rfl)
 (pss_cons (ps_expr (pe_bm PySem.F.plainAttrs_list PySem.F.slot_list_append PySem.F.type_list_append mt_append (pv 5) (pa_cons (pv 8) pa_nil)))
 (pss_one (ps_expr (pe_call GCm (hr.mono (by omega)) (by rfl) Z.gCm Z.FCm.kp Z.bCm .nil pass0 (pa_cons (pe_callB (call_lenX (w := w) rfl) (by rfl) Z.N.len (by decide +kernel) (pa_cons (pv 3) pa_nil)) pa_nil)))))) pss_nil))))))
 (pss_one (ps_set (i := 4) scRr.nd rfl (.inl rfl) (pv 5))))))
 (pss_one (ps_ret (pv 3)))))), ?_⟩
    have ch := cn.ch
    have L1 := ch.pos (i := p) (by omega)
    have cap2 : (20000 : Nat) < sizeLine := by decide
    refine fun N H1 nN s1 kd1 => ⟨(by show 0 ≤ sizeLine; decide), fun b0 nb0 => ⟨(by show 2 ≤ sizeLine; decide), fun T0 nT0 => ⟨T0, gkey (0, []), rfl, (kd1.same (same_upd nb0)).same (same_upd nT0), ?_⟩⟩⟩
    have sb0 := same_upd (o := .tup []) nb0
    have sT0 := same_upd (o := .tup [.int 0, .ref b0]) nT0
    have kd2 := (kd1.same sb0).same sT0
    have hb0 : StAt (upd H1 b0 (.tup [])) b0 [] := ⟨[], upd_same, .nil⟩
    have st0 : StgV (upd (upd H1 b0 (.tup [])) T0 (.tup [.int 0, .ref b0])) (.ref T0) (0, []) := ⟨T0, b0, rfl, upd_same, hb0.same sT0⟩
    have s2 := s1.trans (sb0.trans sT0)
    generalize upd (upd H1 b0 (.tup [])) T0 (.tup [.int 0, .ref b0]) = H2 at *
    refine ⟨st0.nk, gkey_depth _, fun H3 b3 kd3 => ?_⟩
    have k3 := Kx.dct b3 kd2
    have nwN : Nw H N := fun o e => by rw [nN] at e; cases e
    have rd3 : Rd w T r sz p M N H H3 [(gkey (0, []), T0, .non)] 0 := ⟨ext_butN (.of s2) nwN b3, tabs_dct (tabs_same tabs s2) b3 kd2, kd3, fun x hx => by
      rw [List.mem_singleton.mp hx]
      exact ⟨(0, []), 0, rfl, st0.kp k3.kp, ⟨.zero, fun m h => absurd h (by omega)⟩, Nat.le_refl _, .inl ⟨rfl, rfl⟩⟩, List.pairwise_singleton _ _⟩
    have old0 : ∀ g, InG [(gkey (0, []), T0, V.non)] g → g = (0, []) := fun g h => by
      have h : InG (putX [] (gkey (0, [])) T0 .non) g := h
      rcases h.inv with e | e
      · exact e
      · cases e
    refine ⟨(by show 0 ≤ sizeLine; decide), fun b1 nb1 => ⟨(by show 2 ≤ sizeLine; decide), fun T1 nT1 => ⟨(by show 1 ≤ sizeLine; decide), fun L nL => ?_⟩⟩⟩
    have sb1 := same_upd (o := .tup []) nb1
    have sT1 := same_upd (o := .tup [.int 0, .ref b1]) nT1
    have sL := same_upd (o := .lst [.ref T1]) nL
    have hb1 : StAt (upd H3 b1 (.tup [])) b1 [] := ⟨[], upd_same, .nil⟩
    have st1 : StgV (upd (upd H3 b1 (.tup [])) T1 (.tup [.int 0, .ref b1])) (.ref T1) (0, []) := ⟨T1, b1, rfl, upd_same, hb1.same sT1⟩
    have hL : upd (upd (upd H3 b1 (.tup [])) T1 (.tup [.int 0, .ref b1])) L (.lst [.ref T1]) L = some (.lst [.ref T1]) := upd_same
    have st2 := st1.kp fun b ys e => sL _ _ e
    have rd4 := rd3.same ((sb1.trans sT1).trans sL)
    generalize upd (upd (upd H3 b1 (.tup [])) T1 (.tup [.int 0, .ref b1])) L (.lst [.ref T1]) = H4 at *
    dsimp only [gName]
    refine seq_splitR (fun σ' H' => ∃ (y4 y5 y6 y7 y8 : Option V) (xs : List KAV) (n : Nat), σ' = [some (.ref c), some (.int M), some (.str r), some (.ref N), y4, y5, y6, y7, y8] ∧ Rd w T r sz p M N H H' xs n ∧ ∀ g m, Rn r sz p M m g → InG xs g) (fun D' rt' hD' => ?_) ?_
    rotate_left
    · rintro σ' H' ⟨_, _, _, _, _, xs, n, rfl, q, al'⟩
      exact ⟨.ref N, rfl, fin _ _ _ _ q.x q.tb nwN q.ts al' (Nat.le_trans (q.ts.few has) al)⟩
    refine ⟨fun q σ H' => ∃ (L : Addr) (y5 y6 y7 y8 : Option V) (n : Nat) (xs : List KAV) (ws : List V) (gs : List Stg), σ = [some (.ref c), some (.int M), some (.str r), some (.ref N), some (.ref L), y5, y6, y7, y8] ∧ Rd w T r sz p M N H H' xs n ∧ H' L = some (.lst ws) ∧ StgVs H' ws gs ∧ (∀ g m, m ≤ n → Rn r sz p M m g → InG xs g) ∧ (∀ g, g ∈ gs ↔ Dst r sz p M n g) ∧ q = 2 * (20000 - xs.length) + (if gs = [] then 0 else 1),
      ⟨_, L, none, none, none, none, 0, _, _, [(0, [])], rfl, rd4, hL, .cons st2 .nil, fun g m hm h => ?_, fun g => ?_, rfl⟩, ?_⟩
    · obtain rfl : m = 0 := by omega
      rw [h.zero_eq]
      exact InG.new (xs := [])
    · rw [List.mem_singleton]
      exact ⟨fun e => by rw [e]; exact ⟨.zero, fun m h => absurd h (by omega)⟩, fun d => d.1.zero_eq⟩
    clear hL st2 rd4 old0 rd3 st1 hb1 sb1 sT1 sL nb1 nT1 nL k3 b3 kd3 st0 kd2 kd1 s1 s2 sb0 sT0 hb0 nb0 nT0
    rintro q σ H5 ⟨L, y5, y6, y7, y8, n, xs, ws, gs, rfl, rd5, hL5, wv5, in5, gs5, rfl⟩
    have few5 := Nat.le_trans (rd5.ts.few has) al
    have old : ∀ g, InG xs g → ∃ d, d ≤ n ∧ Dst r sz p M d g := fun g h => rd5.ts.inv h
    refine ⟨.ref L, rfl, !ws.isEmpty, .inl ⟨ws, .inl (.inl hL5), by cases ws <;> simp⟩, ite2 (fun c0 => ?_) (fun c0 => hD' _ _ ⟨_, _, _, _, _, xs, n, rfl, rd5, fun g m h => ?_⟩)⟩
    rotate_left
    · have ew : ws = [] := by cases ws with
        | nil => rfl
        | cons a b => exact absurd rfl c0
      subst ew
      obtain rfl : gs = [] := by cases wv5; rfl
      obtain ⟨d, le, dg⟩ := Dst.of h
      rcases Nat.lt_or_ge n d with z | z
      · obtain ⟨x, hx⟩ := dg.down n (by omega)
        have := (gs5 x).mpr hx
        cases this
      · exact in5 g d z dg.1
    have gne : gs ≠ [] := fun e => by
      subst e
      cases wv5
      exact absurd c0 (by decide)
    refine ⟨_, fun σ' H' h => h, ?_⟩
    refine ⟨(by show 0 ≤ sizeLine; decide), fun F nF => ?_⟩
    have sF := same_upd (o := .lst []) nF
    have hF6 : upd H5 F (.lst []) F = some (.lst []) := upd_same
    have LF : L ≠ F := ne_of_none hL5 nF
    have nwF : Nw H F := .of rd5.x nF
    have md6 : Mid w T r sz p M N H L F ws gs xs n (upd H5 F (.lst [])) xs [] [] := ⟨(rd5.same sF).up, sF _ _ hL5, wv5.kp fun b ys e => sF _ _ e, hF6, .nil, fun _ h => h, fun g => ⟨fun h => (nomatch h), fun h => absurd h.1 h.2⟩, rfl⟩
    clear rd5 hL5 wv5
    generalize upd H5 F (.lst []) = H6 at *
    dsimp only [gName]
    refine ⟨.ref L, rfl, L, rfl, ⟨_, .inl (.inl md6.wl)⟩, ?_⟩
    refine for_it (walk_list (K := K) (a := L) (xs := ws)) (fun i σ H' => ∃ y6 y7 y8 xs2 fs hs, σ = [some (.ref c), some (.int M), some (.str r), some (.ref N), some (.ref L), some (.ref F), y6, y7, y8] ∧ Mid w T r sz p M N H L F ws gs xs n H' xs2 fs hs ∧ ∀ k g, k < i → gs[k]? = some g → ∀ y t, Grw r sz p M g y t → InG xs2 y)
      ⟨_, _, _, xs, _, _, rfl, md6, fun k g hk => absurd hk (by omega)⟩ (fun i σ H' _ q => ?_) ?_ ?_
    · obtain ⟨_, _, _, _, _, _, _, q, _⟩ := q
      exact .inl (.inl q.wl)
    · rintro i x σ H7a H7 hi ⟨y6, y7, y8, xs2, fs, hs, rfl, md7, do7⟩ ⟨rfl, hx⟩
      obtain ⟨g, hg, sg7⟩ := Paired.get md7.wv hx
      have dg := (gs5 g).mp (List.mem_of_getElem? hg)
      have rv := dg.1.rv cn
      obtain ⟨D, u, rfl, hD7, hu7⟩ := id sg7
      obtain ⟨m, bs⟩ := g
      have bl := rv.len
      dsimp only [gName]
      dsimp only at bl
      refine ⟨.ref c, rfl, .int M, rfl, .str r, rfl, .ref D, rfl, r, c, D, sz, p, M, (m, bs), rfl, hr4, ext_ch md7.rd.x hc, sml, sg7, rv, md7.rd.tb, fun H8 G zs ts x8 tb8 nG hG8 pz8 gz8 az8 zl8 => ⟨G, rfl, ⟨_, .inl (.inl hG8)⟩, ?_⟩⟩
      have md8 := md7.ext x8 tb8
      have GN := nG.ne md7.rd.ts.kd.ob
      have NG : N ≠ G := GN fun _ z => nomatch z
      have FG : F ≠ G := nG.ne md7.fl fun _ z => nomatch z
      clear GN
      have kp78 : KpT H7 H8 := fun _ _ e => ext_tup x8 e
      have sg8 := sg7.kp kp78
      clear hD7 hu7 sg7
      refine for_it (walk_list (K := K) (a := G) (xs := zs)) (fun j σ H' => ∃ y7 y8 xs3 fs3 hs3, σ = [some (.ref c), some (.int M), some (.str r), some (.ref N), some (.ref L), some (.ref F), some (.ref D), y7, y8] ∧ Mid w T r sz p M N H L F ws gs xs n H' xs3 fs3 hs3 ∧ H' G = some (.lst zs) ∧ Paired (EvR H') zs ts ∧ StgV H' (.ref D) (m, bs) ∧ (∀ g, InG xs2 g → InG xs3 g) ∧ ∀ k t, k < j → ts[k]? = some t → ∀ y, Grw r sz p M (m, bs) y t → InG xs3 y)
        ⟨_, _, xs2, fs, hs, rfl, md8, hG8, pz8, sg8, fun _ h => h, fun k t hk => absurd hk (by omega)⟩ (fun i σ H' _ q => ?_) ?_ ?_
      · obtain ⟨_, _, _, _, _, _, _, q, _⟩ := q
        exact .inl (.inl q)
      · rintro j x σ H9a H9 hj ⟨y7, y8, xs3, fs3, hs3, rfl, md9, hG9, pz9, sg9, up9, do9⟩ ⟨rfl, hx⟩
        obtain ⟨t, ht, e, rfl, he⟩ := Paired.get pz9 hx
        obtain ⟨y0, gz⟩ := gz8 t (List.mem_of_getElem? ht)
        obtain ⟨D', u', eD, hD, hu⟩ := id sg9
        cases eD
        dsimp only [gName]
        refine seq_splitR (fun σ' H' => ∃ (T' : Addr) (y : Stg), σ' = [some (.ref c), some (.int M), some (.str r), some (.ref N), some (.ref L), some (.ref F), some (.ref D), some (.ref e), some (.ref T')] ∧ Same H9 H' ∧ StgV H' (.ref T') y ∧ Grw r sz p M (m, bs) y t) (fun D2 rt2 hD2 => ?_) ?_
        · refine ⟨.ref c, rfl, .ref D, rfl, .ref e, rfl, c, D, e, sz, p, t, bs, (m : Int), rfl, ext_ch md9.rd.x hc, by omega, by have := cn.top; omega, ⟨u', hD, hu⟩, by omega, he, ?_⟩
          rcases gz with ⟨b, hb, rfl, _⟩ | ⟨k, a, m', cs, hk, lim, pm, srt, nx, rfl, _⟩
          · exact .inr ⟨rfl, ⟨b, hb, rfl⟩, fun H' T' sm ⟨v, h1, h2⟩ => hD2 _ _ ⟨T', (m, _), rfl, sm, ⟨T', v, rfl, h1, h2⟩, .inl ⟨b, hb, rfl, rfl⟩⟩⟩
          · refine .inl ⟨rfl, fun H' T' cs2 sm hv pm2 srt2 => hD2 _ _ ?_⟩
            have z0 := ch.pos (i := k) (by omega)
            have zL := ch.mono (i := k) (j := p) hk (by omega)
            have mx := nxt_max (by omega) (by omega) (by omega) nx
            dsimp only at hv pm2
            rw [← mx] at hv
            obtain ⟨v, h1, h2⟩ := hv
            exact ⟨T', (m', cs2), rfl, sm, ⟨T', v, rfl, h1, h2⟩, .inr ⟨k, a, m', cs2, hk, lim, pm2, srt2, nx, rfl, rfl⟩⟩
        rintro σ' H10 ⟨T', y, rfl, s10, st10, gy⟩
        have md10 := md9.same s10
        have nx2 : ∀ {xs4 : List KAV}, (∀ x, InG xs3 x → InG xs4 x) → InG xs4 y → (∀ k t, k < j + 1 → ts[k]? = some t → ∀ y, Grw r sz p M (m, bs) y t → InG xs4 y) := fun h1 h2 k t' hk hh y' gy' => by
          rcases Nat.lt_or_ge k j with z | z
          · exact h1 _ (do9 k t' z hh y' gy')
          · obtain rfl : k = j := by omega
            rw [ht] at hh
            cases hh
            rw [gy'.uniq gy]
            exact h2
        refine ⟨.ref T', rfl, .ref N, rfl, N, T', xs3, gkey y, rfl, rfl, md10.rd.ts.kd.r, st10.nk, gkey_depth _, _, rfl, ite2 (fun cc => ?_) (fun cc => ?_)⟩
        rotate_left
        · exact ⟨_, _, xs3, fs3, hs3, rfl, md10, s10 _ _ hG9, Paired.mono (fun _ _ h => h.kp fun b ys e => s10 _ _ e) pz9, sg9.kp fun b ys e => s10 _ _ e, up9, nx2 (fun _ h => h) (InG.yes cc)⟩
        have nw := InG.not cc
        have ny : ¬ InG xs y := fun h => by
          have := md10.up _ h
          unfold InG at this
          rw [nw] at this
          cases this
        have dy : Dst r sz p M (n + 1) y := ⟨dg.1.step gy, fun k hk h => ny (in5 y k (by omega) h)⟩
        refine ⟨.ref D, rfl, .ref e, rfl, (by show 2 ≤ sizeLine; decide), fun T2 nT2 => ⟨.ref N, rfl, .ref T', rfl, ?_⟩⟩
        have sT2 := same_upd (o := .tup [.ref D, .ref e]) nT2
        have hT2 : upd H10 T2 (.tup [.ref D, .ref e]) T2 = some (.tup [.ref D, .ref e]) := upd_same
        have md11 := md10.same sT2
        have s911 := s10.trans sT2
        have st11 := st10.kp fun b ys e => sT2 _ _ e
        generalize upd H10 T2 (.tup [.ref D, .ref e]) = H11 at *
        have kp11 : KpT H9 H11 := fun b ys e => s911 _ _ e
        have vr : VrV r sz p M H11 (n + 1) y (.ref T2) := .inr ⟨n, (m, bs), t, T2, D, e, rfl, dg, gy, rfl, hT2, sg9.kp kp11, kp11 _ _ he⟩
        refine ⟨N, T', xs3, gkey y, rfl, rfl, md11.rd.ts.kd, st11.nk, gkey_depth _, Nat.lt_of_le_of_lt (Nat.le_trans (md11.rd.ts.few has) al) cap2, fun H12 b12 kd12 => ?_⟩
        obtain ⟨hF12, md13⟩ := md11.add nwN nwF LF b12 kd12 nw st11 dy vr
        have k12 := Kx.dct b12 md11.rd.ts.kd
        have hG12 := b12 _ _ NG.symm (s911 _ _ hG9)
        have bu : But F H12 (upd H12 F (.lst (fs3 ++ [.ref T']))) := fun c o n e => by rw [upd_ne n]; exact e
        have k13 := (Kx.same s911).trans (k12.trans (Kx.lst bu hF12))
        have few13 := Nat.le_trans (md13.rd.ts.few has) al
        have fl3 : fs3.length < sizeLine := Nat.lt_of_le_of_lt (show fs3.length ≤ 20000 by
          have h1 := Paired.length md9.fv
          have h2 := md9.ln
          have h3 := Nat.le_trans (md9.rd.ts.few has) al
          omega) cap2
        refine ⟨.ref F, rfl, .inl ⟨rfl, _, .inl (.inl hF12)⟩, .ref T', rfl, F, fs3, _, rfl, rfl, hF12, fl3, ?_⟩
        refine ⟨.ref N, rfl, N, _, rfl, md13.rd.ts.kd.r, _, rfl, by omega, fun v => ?_⟩
        exact ⟨_, _, _, _, _, rfl, md13, bu _ _ FG.symm hG12, Paired.mono (fun _ _ h => h.kp k13.kp) pz9, sg9.kp k13.kp, fun g h => (up9 g h).put, nx2 (fun b h => h.put) InG.new⟩
      · rintro σ H9 ⟨y7, y8, xs3, fs3, hs3, rfl, md9, hG9, pz9, sg9, up9, do9⟩
        refine ⟨_, _, _, xs3, fs3, hs3, rfl, md9, fun k g hk hh y t gr => ?_⟩
        rcases Nat.lt_or_ge k i with z | z
        · exact up9 _ (do7 k g z hh y t gr)
        · obtain rfl : k = i := by omega
          rw [hg] at hh
          cases hh
          obtain ⟨k2, hk2, e⟩ := List.getElem_of_mem (az8 y t gr)
          have pl := Paired.length pz8
          exact do9 k2 t (by omega) (by rw [List.getElem?_eq_getElem hk2, e]) y gr
    · rintro σ H7 ⟨y6, y7, y8, xs2, fs, hs, rfl, md7, do7⟩
      have gl := Paired.length md7.wv
      have few7 := Nat.le_trans (md7.rd.ts.few has) al
      have all : ∀ x y t, Dst r sz p M n x → Grw r sz p M x y t → InG xs2 y := fun x y t dx gr => by
        obtain ⟨k, hk, e⟩ := List.getElem_of_mem ((gs5 x).mpr dx)
        exact do7 k x (by omega) (by rw [List.getElem?_eq_getElem hk, e]) y t gr
      have in7 : ∀ g m, m ≤ n + 1 → Rn r sz p M m g → InG xs2 g := fun g m hm h => by
        obtain ⟨d, le, dg⟩ := Dst.of h
        rcases Nat.lt_or_ge n d with z | z
        · obtain rfl : d = n + 1 := by omega
          obtain ⟨x, t, dx, gr⟩ := dg.pre
          exact all x g t dx gr
        · exact md7.up _ (in5 g d z dg.1)
      refine ⟨.ref F, rfl, _, ?_, F, _, _, _, _, n + 1, xs2, fs, hs, rfl, md7.rd, md7.fl, md7.fv, in7, fun g => ?_, rfl⟩
      · rw [if_neg gne]
        have ln := md7.ln
        cases hs with
        | nil => rw [if_pos rfl]; simp only [List.length_nil] at ln; omega
        | cons a b => rw [if_neg (List.cons_ne_nil _ _)]; simp only [List.length_cons] at ln; omega
      · rw [md7.mo]
        constructor
        · rintro ⟨h1, h2⟩
          obtain ⟨d, le, dg⟩ := md7.rd.ts.inv h1
          rcases Nat.lt_or_ge n d with z | z
          · obtain rfl : d = n + 1 := by omega
            exact dg
          · exact absurd (in5 g d z dg.1) h2
        · exact fun dg => ⟨in7 g _ (Nat.le_refl _) dg.1, fun h => by
            obtain ⟨d, le, d'⟩ := old g h
            have := dg.uniq d'
            omega⟩
end
end Ph

set_option maxHeartbeats 8000000
namespace Ph
open PySem PySem.Spec PyProof.Rows L2
/-! ### the worst number of pages -/
theorem tabs_frz {w : World} {T : List (Addr × Str)} {H : Hp} {N : Addr} {xs : List KAV} {o : Obj} (t : LamX.Tabs T H) (k : KDx w H N xs) : LamX.Tabs T (upd H N (.frz o (dkO w N xs))) := tabs_dct t (fun a u n e => by rw [upd_ne n]; exact e) k
theorem paired_ex {α β : Type} {R : α → β → Prop} : ∀ (xs : List α), (∀ x ∈ xs, ∃ y, R x y) → ∃ ys, Paired R xs ys
  | [], _ => ⟨[], .nil⟩
  | x :: r, h => by
    obtain ⟨y, hy⟩ := h x List.mem_cons_self
    obtain ⟨ys, hs⟩ := paired_ex r fun z hz => h z (List.mem_cons_of_mem _ hz)
    exact ⟨y :: ys, .cons hy hs⟩
section
variable {P : Program} {w : World} {K : PySem.W.Frag} {mg : Str → Option Value} {base : Heap}
def spWp (T : List (Addr × Str)) : Sp := fun vs H Q _ => ∃ (r : Str) (c : Addr) (s : Nat → Nat) (p M : Nat), vs = [.ref c, .int M, .str r] ∧ IsRule r ∧ ChAt H c (tl s (p + 1)) ∧ SmlG s p M ∧ FewR r s p M ∧ LamX.Tabs T H ∧
  ∀ H' (x : Nat), LamX.ExtN H H' → LamX.Tabs T H' → (∃ n bs, Rn r s p M n (x, bs)) → (∀ g n, Rn r s p M n g → g.1 ≤ x) → Q (.int ((x : Nat) : Int)) H'
theorem ok_Wp {k : Nat} (Z : Fns K mg) (TB : LamX.TabB base mg Z.cPp Z.pPp) {T : List (Addr × Str)} (hT : InT T Z.pPp tkN) : FnOk P w K mg base CX0 (k + 1 + 1 + 1 + 1 + 1 + 1 + 1 + 1 + 1) Z.fWp Z.fdWp ["chain", "limit", "rule"] (spWp T) := by
  have GCu : FnOk P w K mg base CX0 (k + 1 + 1) Z.fCu Z.fdCu ["rule"] spCu := ok_Cu Z
  have GRr : FnOk P w K mg base CX0 (k + 1 + 1 + 1 + 1 + 1 + 1 + 1 + 1) Z.fRr Z.fdRr ["chain", "limit", "rule"] (spRr w T) := ok_Rr Z TB hT
  refine Z.FWp.ok scWp (fun vs H Q E h => ?_) (fun cdv A outer s H vs Q E hr h => ?_)
  · obtain ⟨r, c, s, p, M, rfl, _⟩ := h
    rfl
  · obtain ⟨r, c, sz, p, M, rfl, hr4, hc, sml, few, tabs, fin⟩ := h
    have hu64 := u64_of hr
    obtain ⟨cn, p11, M5⟩ := id sml
    refine ⟨_, (pss_cons (ps_expr (pe_call GCu (hr.mono (by omega)) (by rfl) Z.gCu Z.FCu.kp Z.bCu .nil pass0 (pa_cons (pv 2) pa_nil)))
 (pss_one (ps_ret (pe_callB (cr_max rfl) (by rfl) Z.N.max (by decide +kernel) (pa_cons (pe_lc (own := [("pages", 3), ("state", 4)]) (g := (gTup K 2 (gCons (gName 3) (gCons (gName 4) gNil)))) (tt := tYes) (by rfl) scWp.nd (Ph.pi_xkeys (pe_frz (pe_call GRr (hr.mono (by omega)) (by rfl) Z.gRr Z.FRr.kp Z.bRr .nil pass0 (pa_cons (pv 0) (pa_cons (pv 1) (pa_cons (pv 2) pa_nil)))))) (blkOk_by (N := scWpN) (sc := defScope scWpS) (by decide +kernel)) (fun _ _ _ _ _ => (pg_tup (by rfl) (pgs_cons (pg_name (i := 3) scWp.nd rfl (.inl rfl)) (pgs_cons (pg_name (i := 4) scWp.nd rfl (.inl rfl)) pgs_nil)))) (fun _ _ _ _ _ => pts_nil) (fun _ _ _ _ _ => (pv 3))) pa_nil))))), ?_⟩
    have cap2 : (20000 : Nat) < sizeLine := by decide
    refine ⟨.str r, rfl, r, rfl, hr4, ?_⟩
    refine ⟨.ref c, rfl, .int M, rfl, .str r, rfl, r, c, sz, p, M, rfl, hr4, hc, sml, few, tabs, fun H1 N xs n x1 tb1 nN ts al fw => ⟨N, dkO w N xs, rfl, ts.kd.ob, True.intro, fun od => ?_⟩⟩
    have b2 : But N H1 (upd H1 N (.frz od (dkO w N xs))) := fun a u n e => by rw [upd_ne n]; exact e
    have x2 := ext_butN x1 nN b2
    have tb2 := tabs_frz (o := od) tb1 ts.kd
    have k2 := Kx.dct b2 ts.kd
    have hd2 : upd H1 N (.frz od (dkO w N xs)) N = some (.frz od (dkO w N xs)) := upd_same
    have dsm := ts.kd.sm
    obtain ⟨gs, pg⟩ := paired_ex (R := fun (e : KAV) (g : Stg) => e.1 = gkey g ∧ StgV H1 (.ref e.2.1) g ∧ ∃ d, Rn r sz p M d g) xs fun e he => by
      obtain ⟨g, d, h1, h2, h3, _⟩ := ts.en e he
      exact ⟨g, h1, h2, d, h3.1⟩
    have gl := Paired.length pg
    have all1 : ∀ g n, Rn r sz p M n g → g ∈ gs := fun g n h => by
      have h := al g n h
      unfold InG at h
      obtain ⟨v, hv⟩ := Option.isSome_iff_exists.mp h
      obtain ⟨e, he, e1, _⟩ := valV_mem2 hv
      obtain ⟨i, hi, ei⟩ := List.getElem_of_mem he
      obtain ⟨g', hg', h1, _⟩ := Paired.get pg (i := i) (by rw [List.getElem?_eq_getElem hi, ei])
      rw [gkey_inj (e1.symm.trans h1)]
      exact List.mem_of_getElem? hg'
    have z1 := all1 (0, []) 0 .zero
    have gl0 : 0 < gs.length := List.length_pos_of_mem z1
    generalize upd H1 N (.frz od (dkO w N xs)) = H2 at *
    refine ⟨N, od, xs, rfl, dsm, hd2, fun L nL => ?_⟩
    refine lc_R walk_xkeys (fun _ _ _ _ y => by obtain ⟨rfl, _⟩ := y; exact Same.refl _) (fun _ i y => y = .int (((gs.getD i (0, [])).1 : Nat) : Int)) (fun _ _ _ _ _ h => h) nL (by omega) (fun H6 s6 => s6 _ _ hd2) (fun i y H6 H7 hi s6 yy Z hZ => ?_) (fun H6 zs s6 hL pr => ?_)
    · obtain ⟨rfl, e, he, rfl⟩ := yy
      obtain ⟨g, hg, _, ⟨T', u, eT, hT, hu⟩, _⟩ := Paired.get pg he
      have hT6 := s6 _ _ (k2.kp _ _ hT)
      rw [eT]
      refine ⟨T', _, rfl, .inl (.inl hT6), rfl, _, _, rfl, _, _, rfl, rfl, rfl, ?_⟩
      exact ⟨_, rfl, hZ _ _ (Same.refl _) (by rw [List.getD_eq_getElem?_getD, hg]; rfl)⟩
    · rw [paired_eq pr] at hL
      have en : (List.range xs.length).map (fun i => V.int (((gs.getD i (0, [])).1 : Nat) : Int)) = (gs.map fun g => ((g.1 : Nat) : Int)).map V.int := by
        refine List.ext_getElem (by simp [gl]) fun i h1 h2 => ?_
        rw [List.length_map, List.length_map] at h2
        simp only [List.getElem_map, List.getElem_range, List.getD_eq_getElem?_getD, List.getElem?_eq_getElem h2, Option.getD_some]
      rw [en] at hL
      refine ⟨L, gs.map fun g => ((g.1 : Nat) : Int), rfl, .inl (.inl hL), by rw [List.length_map]; exact gl0, fun x hx hm => ?_⟩
      obtain ⟨g, hg, rfl⟩ := List.mem_map.mp hx
      obtain ⟨i, hi, ei⟩ := List.getElem_of_mem hg
      obtain ⟨e, he, _, _, d, hd⟩ := Paired.get2 pg (b := g) (i := i) (by rw [List.getElem?_eq_getElem hi, ei])
      refine fin H6 g.1 (x2.trans (.of s6)) (tabs_same tb2 s6) ⟨d, g.2, hd⟩ fun g' n h => ?_
      have := hm _ (List.mem_map.mpr ⟨g', all1 g' n h, rfl⟩)
      omega
end
end Ph

set_option maxHeartbeats 8000000
namespace Ph
open PySem PySem.Spec PyProof.Rows L2
/-! ### the bounds -/
/-- states reached within so many pages -/
def FxS (r : Str) (s : Nat → Nat) (p M x : Nat) (bs : List Bk) : Prop := ∃ m n, Rn r s p M n (m, bs) ∧ m ≤ x
theorem fx_stays {r : Str} {s : Nat → Nat} {p M x k : Nat} (cn : Cn s p k) (hr : IsRule r) (all : ∀ g n, Rn r s p M n g → g.1 ≤ x) : Stays s p M ((x : Int) * ((s p : Nat) : Int)) (FxS r s p M x) where
  free := fun bs ⟨m, n, h, _⟩ b hb => by
    have h' := h.step (y := (m, bs.filter fun c => decide (c.1 ≠ b.1))) (.inl ⟨b, hb, rfl, rfl⟩)
    exact ⟨m, _, h', all _ _ h'⟩
  get := fun bs ⟨m, n, h, _⟩ j hj lim => by
    have ch := cn.ch
    have z0 := ch.pos (i := j) (by omega)
    have rv := h.rv cn
    have stb : St (tl s (p + 1)) ((m : Int) * ((s p : Nat) : Int)) bs := rv.st
    obtain ⟨a, m', nx⟩ := nxt_ex (r := r) (L := ((s p : Nat) : Int)) (z := ((s j : Nat) : Int)) (bs := bs) (m := m) hr (by omega)
    have pm := ins_perm (a, ((s j : Nat) : Int)) bs
    have srt := ins_srt (b := (a, ((s j : Nat) : Int))) (HW.St_lex stb)
    have h' := h.step (y := (m', ins (a, ((s j : Nat) : Int)) bs)) (.inr ⟨j, a, m', _, hj, lim, pm, srt, nx, rfl, rfl⟩)
    have rv' := h'.rv cn
    have le := all _ _ h'
    have st' : St (tl s (p + 1)) ((m' : Int) * ((s p : Nat) : Int)) (ins (a, ((s j : Nat) : Int)) bs) := rv'.st
    have hm : (a, ((s j : Nat) : Int)) ∈ ins (a, ((s j : Nat) : Int)) bs := pm.mem_iff.mpr (List.mem_append_right _ (List.mem_singleton.mpr rfl))
    obtain ⟨_, h1, h2, h3, h4⟩ := st'.ok _ hm
    have ap : (bs ++ [(a, ((s j : Nat) : Int))]).Pairwise apart := (pm.pairwise_iff (R := apart) (fun {x y} h => h.symm)).mp (st'.asc.imp fun h => .inl h)
    have le2 : (m' : Int) * ((s p : Nat) : Int) ≤ (x : Int) * ((s p : Nat) : Int) := by
      have := Nat.mul_le_mul_right (s p) le
      rw [← Int.natCast_mul, ← Int.natCast_mul]
      exact Int.ofNat_le.mpr this
    refine ⟨a, _, h2, h3, by dsimp only at h4; omega, fun b hb => (List.pairwise_append.mp ap).2.2 b hb _ (List.mem_singleton.mpr rfl), pm, srt, m', _, h', le⟩
theorem need_le {r : Str} {s : Nat → Nat} {p M x k : Nat} (cn : Cn s p k) (hr : IsRule r) (all : ∀ g n, Rn r s p M n g → g.1 ≤ x) : bfn s (fun _ => 0) M p / s p ≤ x := by
  have h := (fx_stays (x := x) cn hr all).pages (n := x) cn.ch ⟨0, 0, .zero, Nat.zero_le _⟩
  exact Nat.div_le_of_le_mul (by rw [Nat.mul_comm]; exact h)
theorem low_ge {s : Nat → Nat} {p M x n k : Nat} {bs : List Bk} (cn : Cn s p k) (h : Rn "lowest" s p M n (x, bs)) : x ≤ bfn s (fun _ => 0) M p / s p := by
  have rv := h.rv cn
  have m := rv.most
  unfold mstR at m
  rw [if_pos rfl] at m
  exact Int.ofNat_le.mp m
/-- few stages, by all states of so many pages -/
theorem few_of {r : Str} {s : Nat → Nat} {p M C k : Nat} (cn : Cn s p k) (hC : mxd 0 (cpl s p M) ≤ (C : Int)) (h : (C + 1) * (stL (tl s (p + 1)) (C * s p)).length ≤ 20000) : FewR r s p M := by
  refine ⟨(List.range (C + 1)).flatMap fun m => (stL (tl s (p + 1)) (C * s p)).map fun b => (m, b), ?_, fun g n hg => ?_⟩
  · have key : ∀ n, ((List.range n).flatMap (fun m => (stL (tl s (p + 1)) (C * s p)).map fun b => (m, b))).length = n * (stL (tl s (p + 1)) (C * s p)).length := fun n => by
      induction n with
      | zero => simp
      | succ n ih => rw [List.range_succ, List.flatMap_append, List.length_append, ih, List.flatMap_cons, List.flatMap_nil, List.append_nil, List.length_map, Nat.add_mul, Nat.one_mul]
    rw [key]
    exact h
  · obtain ⟨m, bs⟩ := g
    have rv := hg.rv cn
    have le : m ≤ C := by
      have h1 : (m : Int) ≤ _ := rv.car cn.ch
      omega
    have st : St (tl s (p + 1)) ((m : Int) * ((s p : Nat) : Int)) bs := rv.st
    have st2 : St (tl s (p + 1)) ((C * s p : Nat) : Int) bs := by
      have := Nat.mul_le_mul_right (s p) le
      exact st.wider (by omega)
    exact List.mem_flatMap.mpr ⟨m, List.mem_range.mpr (by omega), List.mem_map.mpr ⟨bs, st_all st2, rfl⟩⟩
end Ph

set_option maxHeartbeats 8000000
namespace Ph
open PySem PySem.Spec PyProof.Rows L2
/-! ### a worst history -/
theorem filt_head {n i0 : Nat} {p : Nat → Bool} {l : List Nat} (h : (List.range n).filter p = i0 :: l) : i0 < n ∧ p i0 = true ∧ ∀ j, j < n → p j = true → i0 ≤ j := by
  have m0 : i0 ∈ (List.range n).filter p := by rw [h]; exact List.mem_cons_self
  have pw : ((List.range n).filter p).Pairwise (· < ·) := List.Pairwise.filter _ List.pairwise_lt_range
  rw [h] at pw
  obtain ⟨h1, h2⟩ := List.mem_filter.mp m0
  refine ⟨List.mem_range.mp h1, h2, fun j hj pj => ?_⟩
  have mj : j ∈ (List.range n).filter p := List.mem_filter.mpr ⟨List.mem_range.mpr hj, pj⟩
  rw [h] at mj
  rcases List.mem_cons.mp mj with e | e
  · omega
  · have := (List.pairwise_cons.mp pw).1 j e
    omega
theorem pairedRev {α β : Type} {R : α → β → Prop} : ∀ {xs : List α} {ys : List β}, Paired R xs ys → Paired R xs.reverse ys.reverse
  | _, _, .nil => .nil
  | _, _, .cons h r => by
    rw [List.reverse_cons, List.reverse_cons]
    exact Paired.snoc (pairedRev r) h
theorem dst_few {r : Str} {s : Nat → Nat} {p M d : Nat} {g : Stg} {as : List Stg} (h : Dst r s p M d g) (has : ∀ g n, Rn r s p M n g → g ∈ as) : d < as.length := by
  obtain ⟨ys, py⟩ := paired_ex (R := fun (k : Nat) (y : Stg) => Dst r s p M k y) (List.range (d + 1)) fun k hk => h.down k (by have := List.mem_range.mp hk; omega)
  have yl := Paired.length py
  rw [List.length_range] at yl
  have at2 : ∀ i (hi : i < ys.length), Dst r s p M i ys[i] := fun i hi => by
    obtain ⟨k, hk, hd⟩ := Paired.get2 py (b := ys[i]) (i := i) (List.getElem?_eq_getElem hi)
    rw [List.getElem?_range (by omega)] at hk
    cases hk
    exact hd
  have nd : ys.Nodup := List.pairwise_iff_getElem.mpr fun i j hi hj lt e => by
    have h1 := at2 i hi
    rw [e] at h1
    have := h1.uniq (at2 j hj)
    omega
  have := nodup_le nd (m := as) fun y hy => by
    obtain ⟨i, hi, rfl⟩ := List.getElem_of_mem hy
    exact has _ _ (at2 i hi).1
  omega
section
variable {P : Program} {w : World} {K : PySem.W.Frag} {mg : Str → Option Value} {base : Heap}
/-- events one behind the other, told as a tuple -/
def EvsT (H : Hp) (u : Addr) (ts : List Tri) : Prop := ∃ ys, H u = some (.tup ys) ∧ Paired (EvR H) ys ts
def spWh (T : List (Addr × Str)) : Sp := fun vs H Q _ => ∃ (r : Str) (c : Addr) (s : Nat → Nat) (p M : Nat), vs = [.ref c, .int M, .str r] ∧ IsRule r ∧ ChAt H c (tl s (p + 1)) ∧ SmlG s p M ∧ FewR r s p M ∧ LamX.Tabs T H ∧
  ∀ H' u ts x bs, LamX.ExtN H H' → LamX.Tabs T H' → EvsT H' u ts → ts.length ≤ 20000 → Gw r s p M ts.reverse bs x → (∀ g n, Rn r s p M n g → g.1 ≤ x) → (∀ g n, Rn r s p M n g → g.1 = x → ts.length ≤ n) → Q (.ref u) H'
theorem ok_Wh {k : Nat} (Z : Fns K mg) (TB : LamX.TabB base mg Z.cPp Z.pPp) {T : List (Addr × Str)} (hT : InT T Z.pPp tkN) : FnOk P w K mg base CX0 (k + 1 + 1 + 1 + 1 + 1 + 1 + 1 + 1 + 1) Z.fWh Z.fdWh ["chain", "limit", "rule"] (spWh T) := by
  have GCu : FnOk P w K mg base CX0 (k + 1 + 1) Z.fCu Z.fdCu ["rule"] spCu := ok_Cu Z
  have GRr : FnOk P w K mg base CX0 (k + 1 + 1 + 1 + 1 + 1 + 1 + 1 + 1) Z.fRr Z.fdRr ["chain", "limit", "rule"] (spRr w T) := ok_Rr Z TB hT
  refine Z.FWh.ok scWh (fun vs H Q E h => ?_) (fun cdv A outer s H vs Q E hr h => ?_)
  · obtain ⟨r, c, s, p, M, rfl, _⟩ := h
    rfl
  · obtain ⟨r, c, sz, p, M, rfl, hr4, hc, sml, few, tabs, fin⟩ := h
    have hu64 := u64_of hr
    obtain ⟨cn, p11, M5⟩ := id sml
    refine ⟨_, (pss_cons (ps_expr (pe_call GCu (hr.mono (by omega)) (by rfl) Z.gCu Z.FCu.kp Z.bCu .nil pass0 (pa_cons (pv 2) pa_nil)))
 (pss_cons (ps_set (i := 3) scWh.nd rfl (.inl rfl) (pe_frz (pe_call GRr (hr.mono (by omega)) (by rfl) Z.gRr Z.FRr.kp Z.bRr .nil pass0 (pa_cons (pv 0) (pa_cons (pv 1) (pa_cons (pv 2) pa_nil))))))
 (pss_cons (ps_set (i := 4) scWh.nd rfl (.inr rfl) (pe_callB (cr_max rfl) (by rfl) Z.N.max (by decide +kernel) (pa_cons (pe_lc (own := [("pages", 8), ("state", 9)]) (g := (gTup K 2 (gCons (gName 8) (gCons (gName 9) gNil)))) (tt := tYes) (by rfl) scWh.nd (Ph.pi_xkeys (pv 3)) (blkOk_by (N := scWhN) (sc := defScope scWhS) (by decide +kernel)) (fun _ _ _ _ _ => (pg_tup (by rfl) (pgs_cons (pg_name (i := 8) scWh.nd rfl (.inl rfl)) (pgs_cons (pg_name (i := 9) scWh.nd rfl (.inl rfl)) pgs_nil)))) (fun _ _ _ _ _ => pts_nil) (fun _ _ _ _ _ => (pv 8))) pa_nil)))
 (pss_cons (ps_set (i := 5) scWh.nd rfl (.inl rfl) (pe_ix ix_list (pe_lc (own := [("other", 10)]) (g := (gName 10)) (by rfl) scWh.nd (Ph.pi_xkeys (pv 3)) (blkOk_by (N := scWhN) (sc := defScope scWhS) (by decide +kernel)) (fun _ _ _ _ _ => (pg_name (i := 10) scWh.nd rfl (.inl rfl))) (fun _ _ _ _ _ => (pts_one (pt_cmpR op_eq (pe_ix (r := rIxT K) ix_tup (pv 10) pe_int (fun _ _ => rfl)) (pv 4) (nomark _)))) (fun _ _ _ _ _ => (pv 10))) pe_int (fun _ _ => rfl)))
 (pss_cons (ps_set (i := 6) scWh.nd rfl (.inl rfl) (pe_lst pa_nil))
 (pss_cons (ps_while PassesOwn.never (pt_cmpR op_notN (pe_xgetV (w := w) rfl (by exact hu64) (pv 3) (pv 5) (fun _ _ => rfl)) pe_non (nomark _))
 (pss_cons (ps_asg (pe_xgetV (w := w) rfl (by exact hu64) (pv 3) (pv 5) (fun _ _ => rfl)) (pg_tup (by rfl) (pgs_cons (pg_name (i := 5) scWh.nd rfl (.inl rfl)) (pgs_cons (pg_name (i := 7) scWh.nd rfl (.inl rfl)) pgs_nil))))
 (pss_one (ps_expr (pe_bm PySem.F.plainAttrs_list PySem.F.slot_list_append PySem.F.type_list_append mt_append (pv 6) (pa_cons (pv 7) pa_nil))))))
 (pss_one (ps_ret (RT.pe_tupRev rfl (by rfl) Z.N.tuple (by rfl) Z.N.reversed (pv 6)))))))))), ?_⟩
    have cap2 : (20000 : Nat) < sizeLine := by decide
    refine ⟨.str r, rfl, r, rfl, hr4, ?_⟩
    refine ⟨.ref c, rfl, .int M, rfl, .str r, rfl, r, c, sz, p, M, rfl, hr4, hc, sml, few, tabs, fun H1 N xs n x1 tb1 nN ts al fw => ⟨N, dkO w N xs, rfl, ts.kd.ob, True.intro, fun od => ?_⟩⟩
    have b2 : But N H1 (upd H1 N (.frz od (dkO w N xs))) := fun a u n e => by rw [upd_ne n]; exact e
    have x2 := ext_butN x1 nN b2
    have tb2 := tabs_frz (o := od) tb1 ts.kd
    have k2 := Kx.dct b2 ts.kd
    have hd2 : upd H1 N (.frz od (dkO w N xs)) N = some (.frz od (dkO w N xs)) := upd_same
    have kr2 : KDr w (upd H1 N (.frz od (dkO w N xs))) N xs := KDx.frz (w := w) ts.kd od
    have dsm := ts.kd.sm
    obtain ⟨gs, pg1⟩ := paired_ex (R := fun (e : KAV) (g : Stg) => e.1 = gkey g ∧ StgV H1 (.ref e.2.1) g ∧ ∃ d, Dst r sz p M d g ∧ VrV r sz p M H1 d g e.2.2) xs fun e he => by
      obtain ⟨g, d, h1, h2, h3, h4, h5⟩ := ts.en e he
      exact ⟨g, h1, h2, d, h3, h5⟩
    have gl := Paired.length pg1
    have od1 := ts.od
    have at1 : ∀ g n, Rn r sz p M n g → ∃ i e, xs[i]? = some e ∧ gs[i]? = some g := fun g n h => by
      have h := al g n h
      unfold InG at h
      obtain ⟨v, hv⟩ := Option.isSome_iff_exists.mp h
      obtain ⟨e, he, e1, _⟩ := valV_mem2 hv
      obtain ⟨i, hi, ei⟩ := List.getElem_of_mem he
      obtain ⟨g', hg', h1, _⟩ := Paired.get pg1 (i := i) (by rw [List.getElem?_eq_getElem hi, ei])
      rw [gkey_inj (e1.symm.trans h1)]
      exact ⟨i, e, by rw [List.getElem?_eq_getElem hi, ei], hg'⟩
    have pg : Paired (fun (e : KAV) (g : Stg) => e.1 = gkey g ∧ StgV (upd H1 N (.frz od (dkO w N xs))) (.ref e.2.1) g ∧ ∃ d, Dst r sz p M d g ∧ VrV r sz p M (upd H1 N (.frz od (dkO w N xs))) d g e.2.2) xs gs := Paired.mono (fun _ _ ⟨h1, h2, d, h3, h4⟩ => ⟨h1, h2.kp k2.kp, d, h3, h4.kp k2.kp⟩) pg1
    have gl0 : 0 < gs.length := by
      obtain ⟨i, _, _, h⟩ := at1 (0, []) 0 .zero
      have := (List.getElem?_eq_some_iff.mp h).1
      omega
    clear pg1 ts al
    generalize upd H1 N (.frz od (dkO w N xs)) = H2 at *
    dsimp only [gName]
    refine ⟨.ref N, rfl, N, od, xs, rfl, dsm, hd2, fun L nL => ?_⟩
    refine lc_R walk_xkeys (fun _ _ _ _ y => by obtain ⟨rfl, _⟩ := y; exact Same.refl _) (fun _ i y => y = .int (((gs.getD i (0, [])).1 : Nat) : Int)) (fun _ _ _ _ _ h => h) nL (by omega) (fun H6 s6 => s6 _ _ hd2) (fun i y H6 H7 hi s6 yy Z hZ => ?_) (fun H6 zs s6 hL pr => ?_)
    · obtain ⟨rfl, e, he, rfl⟩ := yy
      obtain ⟨g, hg, _, ⟨T', u, eT, hT, hu⟩, _⟩ := Paired.get pg he
      have hT6 := s6 _ _ hT
      rw [eT]
      refine ⟨T', _, rfl, .inl (.inl hT6), rfl, _, _, rfl, _, _, rfl, rfl, rfl, ?_⟩
      exact ⟨_, rfl, hZ _ _ (Same.refl _) (by rw [List.getD_eq_getElem?_getD, hg]; rfl)⟩
    rw [paired_eq pr] at hL
    have en : (List.range xs.length).map (fun i => V.int (((gs.getD i (0, [])).1 : Nat) : Int)) = (gs.map fun g => ((g.1 : Nat) : Int)).map V.int := by
      refine List.ext_getElem (by simp [gl]) fun i h1 h2 => ?_
      rw [List.length_map, List.length_map] at h2
      simp only [List.getElem_map, List.getElem_range, List.getD_eq_getElem?_getD, List.getElem?_eq_getElem h2, Option.getD_some]
    rw [en] at hL
    refine ⟨L, gs.map fun g => ((g.1 : Nat) : Int), rfl, .inl (.inl hL), by rw [List.length_map]; exact gl0, fun x hx hm => ?_⟩
    obtain ⟨gx, hgx, rfl⟩ := List.mem_map.mp hx
    obtain ⟨x, ex⟩ : ∃ x, x = gx.1 := ⟨_, rfl⟩
    rw [← ex] at hm ⊢
    have top : ∀ g n, Rn r sz p M n g → g.1 ≤ x := fun g n h => by
      obtain ⟨i, e, _, hg⟩ := at1 g n h
      have := hm _ (List.mem_map.mpr ⟨g, List.mem_of_getElem? hg, rfl⟩)
      omega
    have pg6 : Paired (fun (e : KAV) (g : Stg) => e.1 = gkey g ∧ StgV H6 (.ref e.2.1) g ∧ ∃ d, Dst r sz p M d g ∧ VrV r sz p M H6 d g e.2.2) xs gs := Paired.mono (fun _ _ ⟨h1, h2, d, h3, h4⟩ => ⟨h1, h2.kp fun b ys e => s6 _ _ e, d, h3, h4.kp fun b ys e => s6 _ _ e⟩) pg
    have x6 := x2.trans (.of s6)
    have tb6 := tabs_same tb2 s6
    have kr6 := kr2.same s6
    have hd6 := s6 _ _ hd2
    clear pg hL pr en hx hm x2 tb2 kr2 hd2
    dsimp only [gName]
    refine ⟨.ref N, rfl, N, od, xs, rfl, dsm, hd6, fun L2 nL2 => ?_⟩
    refine lc_RF walk_xkeys (fun _ _ _ _ y => by obtain ⟨rfl, _⟩ := y; exact Same.refl _) (fun i => decide ((gs.getD i (0, [])).1 = x)) (fun _ i y => ∃ e, xs[i]? = some e ∧ y = .ref e.2.1) (fun _ _ _ _ _ h => h) nL2 (by omega) (fun H7 s7 => s7 _ _ hd6) (fun i y H7 H8 hi s7 yy Z1 N1 hZ hN => ?_) (fun H7 zs s7 hL2 pr => ?_)
    · obtain ⟨rfl, e, he, rfl⟩ := yy
      obtain ⟨g, hg, _, ⟨T', u, eT, hT, hu⟩, _⟩ := Paired.get pg6 he
      have hT7 := s7 _ _ hT
      have eg : gs.getD i (0, []) = g := by rw [List.getD_eq_getElem?_getD, hg]; rfl
      rw [eg] at hZ hN
      refine ⟨rfl, .ref e.2.1, rfl, T', _, 0, .int ((g.1 : Nat) : Int), eT, rfl, .inl (.inl hT7), atI_nat (j := 0) rfl, .int _, rfl, rfl, _, rfl, ite2 (fun c1 => ?_) (fun c1 => ?_)⟩
      · have h1 : V.int ((g.1 : Nat) : Int) = V.int ((x : Nat) : Int) := of_decide_eq_true c1
        injection h1 with h1
        exact ⟨_, rfl, hZ _ _ (Same.refl _) (decide_eq_true (by omega)) ⟨e, he, rfl⟩⟩
      · exact hN _ (Same.refl _) (decide_eq_false fun h => c1 (by rw [h]; exact decide_eq_true rfl))
    obtain ⟨ix, _, hix⟩ := List.getElem_of_mem hgx
    have lx : (List.range xs.length).filter (fun i => decide ((gs.getD i (0, [])).1 = x)) ≠ [] := fun z => by
      have h1 : ix ∈ (List.range xs.length).filter (fun i => decide ((gs.getD i (0, [])).1 = x)) := List.mem_filter.mpr ⟨List.mem_range.mpr (by omega), decide_eq_true (by rw [List.getD_eq_getElem?_getD, List.getElem?_eq_getElem (by omega), Option.getD_some, hix, ex])⟩
      rw [z] at h1
      cases h1
    obtain ⟨i0, il, ei⟩ := List.exists_cons_of_ne_nil lx
    obtain ⟨i0l, pi0, mn⟩ := filt_head ei
    rw [ei] at pr
    obtain ⟨y0, ys, rfl⟩ : ∃ y0 ys, zs = y0 :: ys := by
      cases zs with
      | nil => cases pr
      | cons a b => exact ⟨a, b, rfl⟩
    obtain ⟨e0, he0, rfl⟩ : ∃ e, xs[i0]? = some e ∧ y0 = .ref e.2.1 := by
      cases pr with
      | cons h _ => exact h
    obtain ⟨g0, hg0, eg0, st0, d0, dg0, vr0⟩ := Paired.get pg6 he0
    have g0x : g0.1 = x := by
      have := of_decide_eq_true pi0
      rw [List.getD_eq_getElem?_getD, hg0] at this
      exact this
    have least : ∀ g n, Rn r sz p M n g → g.1 = x → d0 ≤ n := fun g n h hx => by
      obtain ⟨d, le, dg⟩ := Dst.of h
      obtain ⟨j, ej, hej, hgj⟩ := at1 g n h
      obtain ⟨jl, _⟩ := List.getElem?_eq_some_iff.mp hej
      have := mn j jl (decide_eq_true (by rw [List.getD_eq_getElem?_getD, hgj]; exact hx))
      rcases Nat.lt_or_ge i0 j with z | z
      · obtain ⟨gj, hgj', egj, _, dj, ddj, _⟩ := Paired.get pg6 hej
        rw [hgj] at hgj'
        cases hgj'
        have h1 := (List.pairwise_iff_getElem.mp od1) i0 j i0l jl z
        rw [(List.getElem?_eq_some_iff.mp he0).2, (List.getElem?_eq_some_iff.mp hej).2] at h1
        have := h1 g0 g d0 d eg0 egj dg0 dg
        omega
      · obtain rfl : j = i0 := by omega
        rw [hg0] at hgj
        cases hgj
        have := dg0.uniq dg
        omega
    have pg7 : Paired (fun (e : KAV) (g : Stg) => e.1 = gkey g ∧ StgV H7 (.ref e.2.1) g ∧ ∃ d, Dst r sz p M d g ∧ VrV r sz p M H7 d g e.2.2) xs gs := Paired.mono (fun _ _ ⟨h1, h2, d, h3, h4⟩ => ⟨h1, h2.kp fun b ys e => s7 _ _ e, d, h3, h4.kp fun b ys e => s7 _ _ e⟩) pg6
    have st7 := st0.kp fun b ys e => s7 _ _ e
    have x7 := x6.trans (.of s7)
    have tb7 := tabs_same tb6 s7
    have kr7 := kr6.same s7
    clear pg6 st0 vr0 x6 tb6 kr6 lx ei mn pr
    refine ⟨L2, _, 0, .ref e0.2.1, rfl, rfl, .inl (.inl hL2), atI_nat (j := 0) rfl, ?_⟩
    dsimp only [gName]
    refine ⟨(by show 0 ≤ sizeLine; decide), fun W nW => ?_⟩
    have sW := same_upd (o := .lst []) nW
    have hW : upd H7 W (.lst []) W = some (.lst []) := upd_same
    have pg8 : Paired (fun (e : KAV) (g : Stg) => e.1 = gkey g ∧ StgV (upd H7 W (.lst [])) (.ref e.2.1) g ∧ ∃ d, Dst r sz p M d g ∧ VrV r sz p M (upd H7 W (.lst [])) d g e.2.2) xs gs := Paired.mono (fun _ _ ⟨h1, h2, d, h3, h4⟩ => ⟨h1, h2.kp fun b ys e => sW _ _ e, d, h3, h4.kp fun b ys e => sW _ _ e⟩) pg7
    have st8 := st7.kp fun b ys e => sW _ _ e
    have x8 := x7.trans (.of sW)
    have tb8 := tabs_same tb7 sW
    have kr8 := kr7.same sW
    have nwW : Nw H W := .of x7 nW
    generalize upd H7 W (.lst []) = H8 at *
    clear pg7 st7 x7 tb7 kr7 sW nW hL2
    dsimp only [gName]
    obtain ⟨as, asl, has⟩ := id few
    have d0l := dst_few dg0 has
    have kpW : ∀ {H' : Hp}, But W H8 H' → KpT H8 H' := fun b => b.kpT hW
    refine seq_splitR (fun σ' H' => ∃ (y5 y7 : Option V) (es : List V) (E : List Tri), σ' = [some (.ref c), some (.int M), some (.str r), some (.ref N), some (.int ((x : Nat) : Int)), y5, some (.ref W), y7, none, none, none] ∧ But W H8 H' ∧ H' W = some (.lst es) ∧ Paired (EvR H') es E ∧ E.length = d0 ∧ Gw r sz p M E g0.2 g0.1) (fun D' rt' hD' => ?_) ?_
    rotate_left
    · rintro σ' H' ⟨y5, y7, es, E, rfl, b9, hW9, pe, el, gw⟩
      refine ⟨.ref W, rfl, W, es, rfl, .inl (.inl hW9), fun u nu => ?_⟩
      have su := same_upd (o := .tup es.reverse) nu
      refine fin _ u E.reverse x g0.2 ((ext_butN x8 nwW b9).trans (.of su)) (tabs_same (tabsT_but tb8 b9 hW) su) ⟨es.reverse, upd_same, Paired.mono (fun _ _ h => h.kp fun b ys e => su _ _ e) (pairedRev pe)⟩ (by rw [List.length_reverse]; omega) (by rw [List.reverse_reverse, ← g0x]; exact gw) top (by rw [List.length_reverse, el]; exact least)
    refine ⟨fun q σ H' => ∃ (y7 : Option V) (h : Addr) (g : Stg) (d : Nat) (es : List V) (E : List Tri), σ = [some (.ref c), some (.int M), some (.str r), some (.ref N), some (.int ((x : Nat) : Int)), some (.ref h), some (.ref W), y7, none, none, none] ∧ But W H8 H' ∧ H' W = some (.lst es) ∧ Paired (EvR H') es E ∧ StgV H' (.ref h) g ∧ Dst r sz p M d g ∧ E.length + d = d0 ∧ (∀ rs, Gw r sz p M rs g.2 g.1 → Gw r sz p M (E ++ rs) g0.2 g0.1) ∧ d = q,
      ⟨_, none, e0.2.1, g0, d0, [], [], rfl, But.refl _ _, hW, .nil, st8, dg0, by simp, fun rs h => h, rfl⟩, ?_⟩
    rintro q σ H9 ⟨y7, h, g, d, es, E, rfl, b9, hW9, pe9, st9, dg, el, gw, rfl⟩
    obtain ⟨i, e, he, hg⟩ := at1 g d dg.1
    obtain ⟨g', hg', eg, _, d', dg', vr'⟩ := Paired.get pg8 he
    rw [hg] at hg'
    cases hg'
    have vr := vr'.kp (kpW b9)
    rw [← dg.uniq dg'] at vr
    clear vr' dg'
    have NW : N ≠ W := fun z => by
      rcases kr8.ob with h | ⟨o, h⟩
      · rw [z, hW] at h; cases h
      · rw [z, hW] at h; cases h
    have kr9 : KDr w H9 N xs := kr8.keeps (fun a ys h => h.imp (kpW b9 _ _) fun ⟨o, e⟩ => ⟨o, b9 _ _ (ne_of e hW (by intro z; cases z)) e⟩) fun u e => b9 _ _ NW e
    have hv : valV (xs.map kv2) (gkey g) = some e.2.2 := valV_kv2 kr9.nd (List.mem_of_getElem? he) eg
    refine ⟨.ref N, rfl, .ref h, rfl, N, h, xs, gkey g, e.2.2, rfl, rfl, kr9, st9.nk, gkey_depth _, hv, rfl, _, rfl, ite2 (fun c0 => ?_) (fun c0 => ?_)⟩
    · rcases vr with ⟨_, z⟩ | ⟨m, y, t, T2, h2, e2, rfl, dy, gr, ev, hT2, sh2, he2⟩
      · rw [z] at c0
        exact absurd c0 (by decide)
      refine ⟨_, fun σ' H' h => h, ?_⟩
      refine ⟨.ref N, rfl, .ref h, rfl, N, h, xs, gkey g, e.2.2, rfl, rfl, kr9, st9.nk, gkey_depth _, hv, ?_⟩
      refine ⟨T2, _, ev, .inl (.inl hT2), rfl, _, _, rfl, _, _, rfl, rfl, ?_⟩
      have esl : es.length < sizeLine := by
        have := Paired.length pe9
        omega
      have bu : But W H9 (upd H9 W (.lst (es ++ [.ref e2]))) := fun c o n e => by rw [upd_ne n]; exact e
      have k10 := bu.kpT hW9
      refine ⟨.ref W, rfl, .inl ⟨rfl, _, .inl (.inl hW9)⟩, .ref e2, rfl, W, es, _, rfl, rfl, hW9, esl, ?_⟩
      refine ⟨m, by omega, _, h2, y, m, es ++ [.ref e2], E ++ [t], rfl, b9.trans bu, upd_same, Paired.snoc (Paired.mono (fun _ _ h => h.kp k10) pe9) ⟨e2, rfl, k10 _ _ he2⟩, sh2.kp k10, dy, by rw [List.length_append]; show E.length + 1 + m = _; omega, fun rs hrs => ?_, rfl⟩
      rw [List.append_assoc]
      refine gw _ ?_
      rcases gr with ⟨b, hb, rfl, rfl⟩ | ⟨i, a, m', cs, hi, lim, pm, srt, nx, rfl, rfl⟩
      · exact .free hrs hb
      · exact .get hrs hi lim pm srt nx
    · rcases vr with ⟨z, _⟩ | ⟨m, y, t, T2, h2, e2, _, _, _, ev, _⟩
      · subst z
        have := dg.1.zero_eq
        subst this
        exact hD' _ _ ⟨_, _, es, E, rfl, b9, hW9, pe9, by omega, by have := gw [] .nil; rw [List.append_nil] at this; exact this⟩
      · rw [ev] at c0
        exact absurd rfl c0
end
end Ph

set_option maxHeartbeats 8000000
namespace Ph
open PySem PySem.Spec PyProof.Rows L2
section
variable {P : Program} {w : World} {K : PySem.W.Frag} {mg : Str → Option Value} {base : Heap}
def spMf : Sp := fun vs H Q _ => ∃ a r : Nat, vs = [.int ((a * r : Nat) : Int), .int (a : Int)] ∧ 0 < a ∧ 2 ≤ r ∧ Q (.bl true) H
theorem ok_Mf {k : Nat} (Z : Fns K mg) : FnOk P w K mg base CX0 (k + 1) Z.fMf Z.fdMf ["larger", "size"] spMf := by
  refine Z.FMf.ok scMf (fun vs H Q E h => ?_) (fun cdv A outer s H vs Q E hr h => ?_)
  · obtain ⟨a, r, rfl, _⟩ := h
    rfl
  · obtain ⟨a, r, rfl, a0, r2, q⟩ := h
    refine ⟨_, (pss_one (ps_ret (pe_and (pe_chain op_lt op_lt pe_int (pv 1) (pv 0)) (pe_one (pe_cmpR op_eq (pe_op op_mod (pv 0) (pv 1)) pe_int (nomark _)))))), ?_⟩
    have lt : a < a * r := by
      have : a * 2 ≤ a * r := Nat.mul_le_mul_left a r2
      omega
    refine ⟨.int _, rfl, _, _, rfl, rfl, _, rfl, ite2 (fun _ => ?_) (fun c => absurd (decide_eq_true (show (0 : Int) < (a : Int) by omega)) c)⟩
    refine ⟨.int _, rfl, _, _, rfl, rfl, _, rfl, ite2 (fun _ => ?_) (fun c => absurd (decide_eq_true (show (a : Int) < ((a * r : Nat) : Int) by omega)) c)⟩
    refine ⟨.int _, rfl, .int _, rfl, _, _, rfl, rfl, (by omega : (0 : Int) < (a : Int)), rfl, ?_⟩
    have e : ((a * r : Nat) : Int) % (a : Int) = 0 := by
      rw [Int.natCast_mul]
      exact Int.mul_emod_right _ _
    show Q (.bl (decide (V.int (((a * r : Nat) : Int) % (a : Int)) = V.int 0))) H
    rw [e, decide_eq_true rfl]
    exact q
def spCi : Sp := fun vs H Q _ => ∃ (c : Addr) (s : Nat → Nat) (p m : Nat), vs = [.ref c] ∧ ChAt H c (tl s (p + 1)) ∧ Cn s p m ∧ m ≤ 1000000000 ∧ p + 1 ≤ 12 ∧ ∀ H', Same H H' → Q (.bl true) H'
theorem ok_Ci {k : Nat} (Z : Fns K mg) : FnOk P w K mg base CX0 (k + 1 + 1) Z.fCi Z.fdCi ["value"] spCi := by
  have GI : FnOk P w K mg base CX0 (k + 1) Z.fI Z.fdI ["value"] spI := ok_I Z
  have GMf : FnOk P w K mg base CX0 (k + 1) Z.fMf Z.fdMf ["larger", "size"] spMf := ok_Mf Z
  refine Z.FCi.ok scCi (fun vs H Q E h => ?_) (fun cdv A outer s H vs Q E hr h => ?_)
  · obtain ⟨c, s, p, m, rfl, _⟩ := h
    rfl
  · obtain ⟨c, sz, p, m, rfl, hc, cn, hm, hp, q⟩ := h
    refine ⟨_, (pss_cons (ps_if (PW.pt (pw_or (pt_not (pt_val (pe_callB call_isi (by rfl) Z.N.isinstance (by decide +kernel) (pa_cons (pv 0) (pa_cons (pe_bltn (v := .ty "tuple") (by rfl) Z.N.tuple (by decide +kernel) rfl) pa_nil))))) (pw_or1 (pt_not (pt_chain op_le op_le pe_int (pe_callB call_len_seq (by rfl) Z.N.len (by decide +kernel) (pa_cons (pv 0) pa_nil)) (pe_glob (v := .int 12) (by rfl) Z.k_MOST_SIZES.choose_spec ⟨_, rfl⟩))))))
 (pss_one (ps_ret pe_bl)) pss_nil)
 (pss_cons (ps_if (pt_not (pt_val (pe_callB (cr_all rfl) (by rfl) Z.N.all (by decide +kernel) (pa_cons (pe_lc (own := [("size", 1)]) (g := (gName 1)) (tt := tYes) (by rfl) scCi.nd (pi_tup (pv 0)) (blkOk_by (N := scCiN) (sc := defScope scCiS) (by decide +kernel)) (fun _ _ _ _ _ => (pg_name (i := 1) scCi.nd rfl (.inl rfl))) (fun _ _ _ _ _ => pts_nil) (fun _ _ _ _ _ => (pe_call GI (hr.mono (by omega)) (by rfl) Z.gI Z.FI.kp Z.bI .nil pass0 (pa_cons (pv 1) pa_nil)))) pa_nil))))
 (pss_one (ps_ret pe_bl)) pss_nil)
 (pss_cons (ps_if (PW.pt (pw_or (pt_cmpR op_ne (pe_ix ix_tup (pv 0) pe_int (fun _ _ => rfl)) pe_int (nomark _)) (pw_or1 (pt_cmpR op_gt (pe_ix ix_tup (pv 0) (pe_un un_neg pe_int) (fun _ _ => rfl)) (pe_glob (v := .int 1000000000) (by rfl) Z.k_LARGEST_SIZE.choose_spec ⟨_, rfl⟩) (nomark _)))))
 (pss_one (ps_ret pe_bl)) pss_nil)
 (pss_one (ps_ret (pe_callB (cr_all rfl) (by rfl) Z.N.all (by decide +kernel) (pa_cons (pe_lc (own := [("size", 1), ("larger", 2)]) (g := (gTup K 2 (gCons (gName 1) (gCons (gName 2) gNil)))) (tt := tYes) (by rfl) scCi.nd (pi_zipK (k1 := true) (k2 := true) (by rfl) Z.N.zip (pa_cons (pv 0) (pa_cons (pe_slice sl_tupK (pv 0) (po_some pe_int) po_none) pa_nil))) (blkOk_by (N := scCiN) (sc := defScope scCiS) (by decide +kernel)) (fun _ _ _ _ _ => (pg_tup (by rfl) (pgs_cons (pg_name (i := 1) scCi.nd rfl (.inl rfl)) (pgs_cons (pg_name (i := 2) scCi.nd rfl (.inl rfl)) pgs_nil)))) (fun _ _ _ _ _ => pts_nil) (fun _ _ _ _ _ => (pe_call GMf (hr.mono (by omega)) (by rfl) Z.gMf Z.FMf.kp Z.bMf .nil pass0 (pa_cons (pv 2) (pa_cons (pv 1) pa_nil))))) pa_nil))))))), ?_⟩
    obtain ⟨oc, od, ec⟩ := id hc
    refine ⟨.ref c, rfl, .ref c, .ty "tuple", .type "tuple", .type "tuple", true, rfl, .ty _, .fTuple ec, kit_ty (by decide +kernel), _, rfl, ite2 (fun c => absurd c (by decide)) (fun _ => ?_)⟩
    refine ⟨.ref c, rfl, c, _, rfl, .inr hc.sq, ?_⟩
    rw [List.length_map, tl_len]
    refine ⟨_, _, rfl, rfl, _, rfl, ite2 (fun _ => ?_) (fun c => absurd (decide_eq_true (show (1 : Int) ≤ ((p + 1 : Nat) : Int) by omega)) c)⟩
    refine ⟨_, _, rfl, rfl, _, rfl, ite2 (fun c => absurd c (by rw [decide_eq_true (show ((p + 1 : Nat) : Int) ≤ 12 by omega)]; decide)) (fun _ => ?_)⟩
    refine ⟨.ref c, rfl, c, rfl, ⟨_, hc.sq⟩, fun D nD => ?_⟩
    refine lc_R (walk_tup (K := K) (a := c) (xs := (tl sz (p + 1)).map V.int)) (fun _ _ _ _ y => YAt.same y) (fun _ _ y => y = .bl true) (fun _ _ _ _ _ h => h) nD (by rw [List.length_map, tl_len]; exact Nat.lt_of_le_of_lt hp (by decide)) (fun H2 s2 => s2.tup hc.sq) (fun j x H2 H3 hj s2 y Z hZ => ?_) (fun H2 zs s2 hD pr => ?_)
    · rw [List.length_map, tl_len] at hj
      obtain ⟨rfl, hx⟩ := y
      rw [tl_getV hj] at hx
      cases hx
      exact ⟨rfl, .int _, rfl, _, rfl, hZ _ _ (Same.refl _) rfl⟩
    have allT : ∀ n : Nat, ((List.range n).map fun _ => true).all id = true := fun n => by
      rw [List.all_map]
      exact List.all_eq_true.mpr fun _ _ => rfl
    rw [paired_eq pr, List.length_map, tl_len] at hD
    refine ⟨D, (List.range (p + 1)).map fun _ => true, rfl, by rw [List.map_map]; exact .inl (.inl hD), _, rfl, ite2 (fun c => absurd c (by rw [allT]; decide)) (fun _ => ?_)⟩
    have hc2 := hc.keep s2
    have top : sz p ≤ 1000000000 := Nat.le_trans cn.top hm
    refine ⟨.ref c, rfl, c, _, 0, _, rfl, rfl, hc2.sq, atI_nat (j := 0) (tl_getV (Nat.succ_pos p)), rfl, _, rfl, ite2 (fun c => absurd c (by rw [cn.ch.s0]; decide)) (fun _ => ?_)⟩
    refine ⟨.ref c, rfl, 1, rfl, c, _, -1, _, rfl, rfl, hc2.sq, tl_atL, _, _, rfl, rfl, _, rfl, ite2 (fun c => absurd (of_decide_eq_true c) (by omega)) (fun _ => ?_)⟩
    refine ⟨.ref c, rfl, .ref c, rfl, 1, rfl, c, _, rfl, hc2.sq, fun u H4 s4 hu => ?_⟩
    have cut : cutV ((tl sz (p + 1)).map V.int) (some 1) none = (tl (fun i => sz (i + 1)) p).map V.int := cut_oneL
    rw [cut] at hu
    refine ⟨c, u, _, _, rfl, (hc2.keep s4).sq, hu, fun D2 nD2 => ?_⟩
    refine lc_R (walk_zipK (k1 := true) (k2 := true) (K := K) (a := c) (b := u) (xs := (tl sz (p + 1)).map V.int) (ys := (tl (fun i => sz (i + 1)) p).map V.int) (n := p) (by rw [List.length_map, List.length_map, tl_len, tl_len]; omega)) (fun _ _ _ _ y => YPair.same y) (fun _ _ y => y = .bl true) (fun _ _ _ _ _ h => h) nD2 (Nat.lt_of_le_of_lt (show p ≤ 12 by omega) (by decide)) (fun H5 s5 => ⟨s5.tup (hc2.keep s4).sq, s5.tup hu⟩) (fun j x H5 H6 hj s5 y Z hZ => ?_) (fun H5 zs s5 hD2 pr2 => ?_)
    · obtain ⟨T, x1, x2, rfl, nT, rfl, e1, e2⟩ := y
      have e1' : ((tl sz (p + 1)).map V.int)[j]? = some x1 := e1
      rw [tl_getV (by omega)] at e1'
      have e2' : ((tl (fun i => sz (i + 1)) p).map V.int)[j]? = some x2 := e2
      rw [tl_getV hj] at e2'
      cases e1'
      cases e2'
      obtain ⟨r, r2, _, er⟩ := cn.two j hj
      refine ⟨T, _, rfl, .inl (.inl upd_same), rfl, _, _, rfl, _, _, rfl, rfl, rfl, .int _, rfl, .int _, rfl, sz j, r, by rw [er]; rfl, cn.ch.pos (by omega), r2, hZ _ _ (Same.refl _) rfl⟩
    · rw [paired_eq pr2] at hD2
      refine ⟨D2, (List.range p).map fun _ => true, rfl, by rw [List.map_map]; exact .inl (.inl hD2), ?_⟩
      rw [allT]
      exact q _ (s2.trans (s4.trans s5))
end
section
variable {P : Program} {w : World} {K : PySem.W.Frag} {mg : Str → Option Value} {base : Heap}
def spHk (C : Addr) : Sp := fun vs H Q _ => ∃ (h l c : Addr) (r : Str) (s : Nat → Nat) (p pg M : Nat) (bs : List Bk) (ss : List Tri) (z : Int), vs = [.ref h, .int z] ∧ HrS C H h l c r s p pg M bs ss ∧ z ∈ tl s (p + 1) ∧ tot bs + z ≤ M ∧ bs.length ≤ 5000 ∧ ∀ H', Same H H' → Q .non H'
theorem ok_Hk {k : Nat} (Z : Fns K mg) : FnOk P w K mg base CX0 (k + 1 + 1 + 1 + 1) Z.fHk Z.fdHk ["self", "size"] (spHk Z.CHeap) := by
  have GC : FnOk P w K mg base CX0 (k + 1 + 1 + 1) Z.fC Z.fdC ["chain", "size"] spC := ok_C Z
  have GV : FnOk P w K mg base CX0 (k + 1) Z.fV Z.fdV ["state"] spV := ok_V Z
  refine Z.FHk.ok scHk (fun vs H Q E h => ?_) (fun cdv A outer s H vs Q E hr h => ?_)
  · obtain ⟨h, l, c, r, s, p, pg, M, bs, ss, z, rfl, _⟩ := h
    rfl
  · obtain ⟨h, l, c, r, sz, p, pg, M, bs, ss, z, rfl, ⟨dx, t, xs, a⟩, hz, hM, hl, q⟩ := h
    refine ⟨_, (pss_cons (ps_expr (pe_call GC (hr.mono (by omega)) (by rfl) Z.gC Z.FC.kp Z.bC .nil pass0 (pa_cons (pe_fld (pv 0) rfl) (pa_cons (pv 1) pa_nil))))
 (pss_one (ps_if (pt_cmpR op_gt (pe_op op_add (pe_call GV (hr.mono (by omega)) (by rfl) Z.gV Z.FV.kp Z.bV .nil pass0 (pa_cons (pe_fld (pv 0) rfl) pa_nil)) (pv 1)) (pe_fld (pv 0) rfl) (nomark _))
 (pss_one ps_never) pss_nil))), ?_⟩
    refine ⟨.ref h, rfl, h, Z.CHeap, dx, _, _, rfl, a.ob, Z.clHeap, Z.naHeap_chain, hr_chain, .int z, rfl, c, _, z, rfl, a.ch, hz, fun _ => ?_⟩
    refine ⟨.ref h, rfl, h, Z.CHeap, dx, _, _, rfl, a.ob, Z.clHeap, Z.naHeap_blocks, hr_blocks, t, bs, rfl, a.st, hl, fun H1 s1 => ?_⟩
    refine ⟨.int z, rfl, _, _, rfl, rfl, .ref h, rfl, h, Z.CHeap, dx, _, _, rfl, s1 _ _ a.ob, Z.clHeap, Z.naHeap_limit, hr_limit, _, _, rfl, rfl, _, rfl, ite2 (fun c => absurd (of_decide_eq_true c) (by omega)) (fun _ => ?_)⟩
    exact q _ s1
def spHs (C : Addr) : Sp := fun vs H Q _ => ∃ (h l c : Addr) (r : Str) (s : Nat → Nat) (p pg M : Nat) (bs : List Bk) (ss : List Tri), vs = [.ref h] ∧ HrS C H h l c r s p pg M bs ss ∧ ∀ t, StAt H t bs → Q (.ref t) H
theorem ok_Hs {k : Nat} (Z : Fns K mg) : FnOk P w K mg base CX0 (k + 1) Z.fHs Z.fdHs ["self"] (spHs Z.CHeap) := by
  refine Z.FHs.ok scHs (fun vs H Q E h => ?_) (fun cdv A outer s H vs Q E hr h => ?_)
  · obtain ⟨h, l, c, r, s, p, pg, M, bs, ss, rfl, _⟩ := h
    rfl
  · obtain ⟨h, l, c, r, sz, p, pg, M, bs, ss, rfl, ⟨dx, t, xs, a⟩, q⟩ := h
    refine ⟨_, (pss_one (ps_ret (pe_fld (pv 0) rfl))), ?_⟩
    exact ⟨.ref h, rfl, h, Z.CHeap, dx, _, _, rfl, a.ob, Z.clHeap, Z.naHeap_blocks, hr_blocks, q _ a.st⟩
end
section
variable {P : Program} {w : World} {K : PySem.W.Frag} {mg : Str → Option Value} {base : Heap}
def spHi (C : Addr) : Sp := fun vs H Q _ => ∃ (h c dx : Addr) (r : Str) (s : Nat → Nat) (p m pg M : Nat), vs = [.ref h, .ref c, .int pg, .int M, .str r] ∧ IsRule r ∧ H h = some (.ins C dx []) ∧ ChAt H c (tl s (p + 1)) ∧ Cn s p m ∧ m ≤ 1000000000 ∧ p + 1 ≤ 12 ∧ ∀ H' l, Fr h l H H' → H l = none → HrS C H' h l c r s p pg M [] [] → Q .non H'
theorem ok_Hi {k : Nat} (Z : Fns K mg) : FnOk P w K mg base CX0 (k + 1 + 1 + 1) Z.fHi Z.fdHi ["self", "chain", "pages", "limit", "rule"] (spHi Z.CHeap) := by
  have GCi : FnOk P w K mg base CX0 (k + 1 + 1) Z.fCi Z.fdCi ["value"] spCi := ok_Ci Z
  have GI : FnOk P w K mg base CX0 (k + 1) Z.fI Z.fdI ["value"] spI := ok_I Z
  have GIr : FnOk P w K mg base CX0 (k + 1) Z.fIr Z.fdIr ["value"] spIr4 := ok_Ir4 Z
  refine Z.FHi.ok scHi (fun vs H Q E h => ?_) (fun cdv A outer s H vs Q E hr h => ?_)
  · obtain ⟨h, c, dx, r, s, p, m, pg, M, rfl, _⟩ := h
    rfl
  · obtain ⟨h, c, dx, r, sz, p, m, pg, M, rfl, hr4, hh, hc, cn, hm, hp, q⟩ := h
    refine ⟨_, (pss_cons (ps_if (pt_not (pt_val (pe_call GCi (hr.mono (by omega)) (by rfl) Z.gCi Z.FCi.kp Z.bCi .nil pass0 (pa_cons (pv 1) pa_nil))))
 (pss_one ps_never) pss_nil)
 (pss_cons (ps_if (PW.pt (pw_or (pt_not (pt_val (pe_call GI (hr.mono (by omega)) (by rfl) Z.gI Z.FI.kp Z.bI .nil pass0 (pa_cons (pv 2) pa_nil)))) (pw_or1 (pt_cmpR op_lt (pv 2) pe_int (nomark _)))))
 (pss_one ps_never) pss_nil)
 (pss_cons (ps_if (PW.pt (pw_or (pt_not (pt_val (pe_call GI (hr.mono (by omega)) (by rfl) Z.gI Z.FI.kp Z.bI .nil pass0 (pa_cons (pv 3) pa_nil)))) (pw_or1 (pt_cmpR op_lt (pv 3) pe_int (nomark _)))))
 (pss_one ps_never) pss_nil)
 (pss_cons (ps_if (pt_not (pt_val (pe_call GIr (hr.mono (by omega)) (by rfl) Z.gIr Z.FIr.kp Z.bIr .nil pass0 (pa_cons (pv 4) pa_nil))))
 (pss_one ps_never) pss_nil)
 (pss_cons (ps_fld (pv 0) (pv 1) rfl)
 (pss_cons (ps_fld (pv 0) (pv 2) rfl)
 (pss_cons (ps_fld (pv 0) (pv 3) rfl)
 (pss_cons (ps_fld (pv 0) (pv 4) rfl)
 (pss_cons (ps_fld (pv 0) (pe_tup pa_nil) rfl)
 (pss_one (ps_fld (pv 0) (pe_lst pa_nil) rfl))))))))))), ?_⟩
    refine ⟨.ref c, rfl, c, sz, p, m, rfl, hc, cn, hm, hp, fun H1 s1 => ⟨_, rfl, ite2 (fun c => absurd c (by decide)) (fun _ => ?_)⟩⟩
    refine ⟨.int _, rfl, _, rfl, _, rfl, ite2 (fun c => absurd c (by decide)) (fun _ => ?_)⟩
    refine ⟨.int _, rfl, _, _, rfl, rfl, _, rfl, ite2 (fun c => absurd (of_decide_eq_true c) (by omega)) (fun _ => ?_)⟩
    refine ⟨.int _, rfl, _, rfl, _, rfl, ite2 (fun c => absurd c (by decide)) (fun _ => ?_)⟩
    refine ⟨.int _, rfl, _, _, rfl, rfl, _, rfl, ite2 (fun c => absurd (of_decide_eq_true c) (by omega)) (fun _ => ?_)⟩
    refine ⟨.str r, rfl, r, rfl, hr4, _, rfl, ite2 (fun c => absurd c (by decide)) (fun _ => ?_)⟩
    have hh1 := s1 _ _ hh
    refine ⟨.ref c, rfl, .ref h, rfl, h, Z.CHeap, dx, [], rfl, hh1, Z.clHeap, Z.naHeap_chain, (by show 0 < 1000; decide), ?_⟩
    refine ⟨.int pg, rfl, .ref h, rfl, h, Z.CHeap, dx, _, rfl, upd_same, Z.clHeap, Z.naHeap_pages, (by show 1 < 1000; decide), ?_⟩
    refine ⟨.int M, rfl, .ref h, rfl, h, Z.CHeap, dx, _, rfl, upd_same, Z.clHeap, Z.naHeap_limit, (by show 2 < 1000; decide), ?_⟩
    refine ⟨.str r, rfl, .ref h, rfl, h, Z.CHeap, dx, _, rfl, upd_same, Z.clHeap, Z.naHeap_rule, (by show 3 < 1000; decide), ?_⟩
    have hh2 : upd (upd (upd (upd H1 h (HO.ins Z.CHeap dx (putF "chain" (V.ref c) []))) h (HO.ins Z.CHeap dx (putF "pages" (V.int ↑pg) (putF "chain" (V.ref c) [])))) h (HO.ins Z.CHeap dx (putF "limit" (V.int ↑M) (putF "pages" (V.int ↑pg) (putF "chain" (V.ref c) []))))) h (HO.ins Z.CHeap dx (putF "rule" (V.str r) (putF "limit" (V.int ↑M) (putF "pages" (V.int ↑pg) (putF "chain" (V.ref c) []))))) h = some (HO.ins Z.CHeap dx (putF "rule" (V.str r) (putF "limit" (V.int ↑M) (putF "pages" (V.int ↑pg) (putF "chain" (V.ref c) []))))) := upd_same
    have b12 : But h H1 (upd (upd (upd (upd H1 h (HO.ins Z.CHeap dx (putF "chain" (V.ref c) []))) h (HO.ins Z.CHeap dx (putF "pages" (V.int ↑pg) (putF "chain" (V.ref c) [])))) h (HO.ins Z.CHeap dx (putF "limit" (V.int ↑M) (putF "pages" (V.int ↑pg) (putF "chain" (V.ref c) []))))) h (HO.ins Z.CHeap dx (putF "rule" (V.str r) (putF "limit" (V.int ↑M) (putF "pages" (V.int ↑pg) (putF "chain" (V.ref c) [])))))) := but_upd.trans (but_upd.trans (but_upd.trans but_upd))
    generalize upd (upd (upd (upd H1 h (HO.ins Z.CHeap dx (putF "chain" (V.ref c) []))) h (HO.ins Z.CHeap dx (putF "pages" (V.int ↑pg) (putF "chain" (V.ref c) [])))) h (HO.ins Z.CHeap dx (putF "limit" (V.int ↑M) (putF "pages" (V.int ↑pg) (putF "chain" (V.ref c) []))))) h (HO.ins Z.CHeap dx (putF "rule" (V.str r) (putF "limit" (V.int ↑M) (putF "pages" (V.int ↑pg) (putF "chain" (V.ref c) []))))) = H2 at *
    refine ⟨(by show 0 ≤ sizeLine; decide), fun T nT => ?_⟩
    have nhT : h ≠ T := ne_of_none hh2 nT
    refine ⟨.ref h, rfl, h, Z.CHeap, dx, _, rfl, (by rw [upd_ne nhT]; exact hh2), Z.clHeap, Z.naHeap_blocks, (by show 4 < 1000; decide), ?_⟩
    refine ⟨(by show 0 ≤ sizeLine; decide), fun l nl => ?_⟩
    have nhl : h ≠ l := fun z => by
      rw [← z, upd_same] at nl
      cases nl
    have nTl : T ≠ l := fun z => by
      rw [← z, upd_ne nhT.symm, upd_same] at nl
      cases nl
    refine ⟨.ref h, rfl, h, Z.CHeap, dx, _, rfl, (by rw [upd_ne nhl]; exact upd_same), Z.clHeap, Z.naHeap_steps, (by show 5 < 1000; decide), ?_⟩
    have nl2 : H2 l = none := by
      rw [upd_ne nhl.symm, upd_ne nTl.symm] at nl
      exact nl
    have kp : ∀ b o, b ≠ h → b ≠ l → H1 b = some o → upd (upd (upd (upd H2 T (.tup [])) h (.ins Z.CHeap dx (putF "blocks" (V.ref T) (putF "rule" (V.str r) (putF "limit" (V.int ↑M) (putF "pages" (V.int ↑pg) (putF "chain" (V.ref c) []))))))) l (.lst [])) h (.ins Z.CHeap dx (putF "steps" (V.ref l) (putF "blocks" (V.ref T) (putF "rule" (V.str r) (putF "limit" (V.int ↑M) (putF "pages" (V.int ↑pg) (putF "chain" (V.ref c) []))))))) b = some o := fun b o n1 n2 e => by
      have e2 := b12 _ _ n1 e
      rw [upd_ne n1, upd_ne n2, upd_ne n1, upd_ne (ne_of_none e2 nT)]
      exact e2
    have nl0 : H l = none := by
      cases e : H l with
      | none => rfl
      | some o =>
        have := b12 _ _ nhl.symm (s1 _ _ e)
        rw [nl2] at this
        cases this
    refine q _ l (fun b o n1 n2 e => kp b o n1 n2 (s1 _ _ e)) nl0 ⟨dx, T, [], ?_, ?_, ⟨[], ?_, .nil⟩, ?_, .nil⟩
    · rw [upd_same]
      rfl
    · refine (hc.keep s1).frz fun o u e => kp _ _ (ne_of e hh1 (by intro z; cases z)) (fun z => ?_) e
      have e3 := b12 _ _ (ne_of e hh1 (by intro z; cases z)) e
      rw [z, nl2] at e3
      cases e3
    · rw [upd_ne nhT.symm, upd_ne nTl, upd_ne nhT.symm, upd_same]
    · rw [upd_ne nhl.symm, upd_same]
def spHe (C : Addr) : Sp := fun vs H Q _ => ∃ (h l c : Addr) (r : Str) (s : Nat → Nat) (p pg M : Nat) (bs : List Bk) (ss : List Tri) (x z : Int), vs = [.ref h, .int x, .int z] ∧ HrS C H h l c r s p pg M bs ss ∧ bs.length ≤ 5000 ∧ ss.length ≤ 1000000 ∧ ∀ H' cs, Fr h l H H' → HrS C H' h l c r s p pg M cs (ss ++ [(("get" : Str), x, z)]) → cs.Perm (bs ++ [(x, z)]) → (cs.Pairwise fun x y => SrtO.lexB y x = false) → Q .non H'
theorem ok_He {k : Nat} (Z : Fns K mg) : FnOk P w K mg base CX0 (k + 1 + 1) Z.fHe Z.fdHe ["self", "address", "size"] (spHe Z.CHeap) := by
  have GWb : FnOk P w K mg base CX0 (k + 1) Z.fWb Z.fdWb ["state", "address", "size"] spWb := ok_Wb Z
  refine Z.FHe.ok scHe (fun vs H Q E h => ?_) (fun cdv A outer s H vs Q E hr h => ?_)
  · obtain ⟨h, l, c, r, s, p, pg, M, bs, ss, x, z, rfl, _⟩ := h
    rfl
  · obtain ⟨h, l, c, r, sz, p, pg, M, bs, ss, x, z, rfl, ⟨dx, t, xs, a⟩, hl, hn, q⟩ := h
    refine ⟨_, (pss_cons (ps_fld (pv 0) (pe_call GWb (hr.mono (by omega)) (by rfl) Z.gWb Z.FWb.kp Z.bWb .nil pass0 (pa_cons (pe_fld (pv 0) rfl) (pa_cons (pv 1) (pa_cons (pv 2) pa_nil)))) rfl)
 (pss_one (ps_expr (pe_bm PySem.F.plainAttrs_list PySem.F.slot_list_append PySem.F.type_list_append mt_append (pe_fld (pv 0) rfl) (pa_cons (pe_tup (pa_cons pe_str (pa_cons (pv 1) (pa_cons (pv 2) pa_nil)))) pa_nil))))), ?_⟩
    refine ⟨.ref h, rfl, h, Z.CHeap, dx, _, _, rfl, a.ob, Z.clHeap, Z.naHeap_blocks, hr_blocks, .int x, rfl, .int z, rfl, t, bs, x, z, rfl, a.st, hl, fun H1 u cs s1 st1 pm srt => ?_⟩
    have ob1 := s1 _ _ a.ob
    have ls1 := s1 _ _ a.ls
    have nlh : l ≠ h := ne_of ls1 ob1 (by intro z; cases z)
    refine ⟨.ref h, rfl, h, Z.CHeap, dx, _, rfl, ob1, Z.clHeap, Z.naHeap_blocks, (by show 6 < 1000; decide), ?_⟩
    rw [hr_put]
    have hl2 : upd H1 h (.ins Z.CHeap dx (hfr r c pg M u l)) l = some (.lst xs) := by rw [upd_ne nlh]; exact ls1
    refine ⟨.ref h, rfl, h, Z.CHeap, dx, _, _, rfl, upd_same, Z.clHeap, Z.naHeap_steps, hr_steps, .inl ⟨rfl, _, .inl (.inl hl2)⟩, .int x, rfl, .int z, rfl, (by show 3 ≤ sizeLine; decide), fun T nT => ?_⟩
    have sT := same_upd (o := .tup [.str "get", .int x, .int z]) nT
    have hl3 := sT _ _ hl2
    refine ⟨l, _, _, rfl, rfl, hl3, Nat.lt_of_le_of_lt ((by rw [a.sl.len]; exact hn)) (by decide), ?_⟩
    have ob2 := sT _ _ (upd_same (H := H1) (a := h) (o := .ins Z.CHeap dx (hfr r c pg M u l)))
    have kp : ∀ b o, b ≠ h → b ≠ l → H1 b = some o → upd (upd (upd H1 h (.ins Z.CHeap dx (hfr r c pg M u l))) T (.tup [.str "get", .int x, .int z])) l (.lst (xs ++ [.ref T])) b = some o := fun b o n1 n2 e => by
      rw [upd_ne n2]
      exact sT _ _ (by rw [upd_ne n1]; exact e)
    refine q _ cs (fun b o n1 n2 e => kp b o n1 n2 (s1 _ _ e)) ⟨dx, u, xs ++ [.ref T], ⟨?_, ?_, ?_, upd_same, ?_⟩⟩ pm srt
    · rw [upd_ne nlh.symm]
      exact ob2
    · exact (a.ch.keep s1).frz fun o u e => kp _ _ (ne_of e ob1 (by intro z; cases z)) (ne_of e ls1 (by intro z; cases z)) e
    · exact st1.mono fun v us e => kp _ _ (ne_of e ob1 (by intro z; cases z)) (ne_of e ls1 (by intro z; cases z)) e
    · refine Paired.snoc (a.sl.kp fun v us e => kp _ _ (ne_of (s1 _ _ e) ob1 (by intro z; cases z)) (ne_of (s1 _ _ e) ls1 (by intro z; cases z)) (s1 _ _ e)) ⟨T, rfl, ?_⟩
      rw [upd_ne (ne_of_none hl2 nT).symm]
      exact upd_same
def spHf (C : Addr) : Sp := fun vs H Q _ => ∃ (h l c : Addr) (r : Str) (s : Nat → Nat) (p pg M : Nat) (bs : List Bk) (ss : List Tri) (x : Int), vs = [.ref h, .int x] ∧ HrS C H h l c r s p pg M bs ss ∧ bs.length ≤ 5000 ∧ ss.length ≤ 1000000 ∧ (∃ b ∈ bs, b.1 = x) ∧ ∀ H', Fr h l H H' → HrS C H' h l c r s p pg M (bs.filter fun b => decide (b.1 ≠ x)) (ss ++ [(("free" : Str), x, tot bs - tot (bs.filter fun b => decide (b.1 ≠ x)))]) → Q .non H'
theorem ok_Hf {k : Nat} (Z : Fns K mg) : FnOk P w K mg base CX0 (k + 1 + 1 + 1 + 1) Z.fHf Z.fdHf ["self", "address"] (spHf Z.CHeap) := by
  have GOb : FnOk P w K mg base CX0 (k + 1 + 1 + 1) Z.fOb Z.fdOb ["state", "address"] (spOb K) := ok_Ob Z
  have GV : FnOk P w K mg base CX0 (k + 1) Z.fV Z.fdV ["state"] spV := ok_V Z
  refine Z.FHf.ok scHf (fun vs H Q E h => ?_) (fun cdv A outer s H vs Q E hr h => ?_)
  · obtain ⟨h, l, c, r, s, p, pg, M, bs, ss, x, rfl, _⟩ := h
    rfl
  · obtain ⟨h, l, c, r, sz, p, pg, M, bs, ss, x, rfl, hp, hl, hn, ex, q⟩ := h
    refine ⟨_, (pss_cons (ps_set (i := 2) scHf.nd rfl (.inl rfl) (pe_call GOb (hr.mono (by omega)) (by rfl) Z.gOb Z.FOb.kp Z.bOb .nil pass0 (pa_cons (pe_fld (pv 0) rfl) (pa_cons (pv 1) pa_nil))))
 (pss_cons (ps_expr (pe_bm PySem.F.plainAttrs_list PySem.F.slot_list_append PySem.F.type_list_append mt_append (pe_fld (pv 0) rfl) (pa_cons (pe_tup (pa_cons pe_str (pa_cons (pv 1) (pa_cons (pe_op op_sub (pe_call GV (hr.mono (by omega)) (by rfl) Z.gV Z.FV.kp Z.bV .nil pass0 (pa_cons (pe_fld (pv 0) rfl) pa_nil)) (pe_call GV (hr.mono (by omega)) (by rfl) Z.gV Z.FV.kp Z.bV .nil pass0 (pa_cons (pv 2) pa_nil))) pa_nil)))) pa_nil)))
 (pss_one (ps_fld (pv 0) (pv 2) rfl)))), ?_⟩
    obtain ⟨dx, t, xs, a⟩ := id hp
    refine ⟨.ref h, rfl, h, Z.CHeap, dx, _, _, rfl, a.ob, Z.clHeap, Z.naHeap_blocks, hr_blocks, .int x, rfl, t, bs, x, rfl, a.st, hl, ex, fun H1 u s1 st1 => ?_⟩
    have ob1 := s1 _ _ a.ob
    have ls1 := s1 _ _ a.ls
    have nlh : l ≠ h := ne_of ls1 ob1 (by intro z; cases z)
    have fl : (bs.filter fun b => decide (b.1 ≠ x)).length ≤ 5000 := Nat.le_trans (List.length_filter_le _ _) hl
    refine ⟨.ref h, rfl, h, Z.CHeap, dx, _, _, rfl, ob1, Z.clHeap, Z.naHeap_steps, hr_steps, .inl ⟨rfl, _, .inl (.inl ls1)⟩, .int x, rfl, .ref h, rfl, h, Z.CHeap, dx, _, _, rfl, ob1, Z.clHeap, Z.naHeap_blocks, hr_blocks, t, bs, rfl, a.st.same s1, hl, fun H2 s2 => ?_⟩
    refine ⟨.ref u, rfl, u, _, rfl, st1.same s2, fl, fun H3 s3 => ⟨_, _, rfl, rfl, (by show 3 ≤ sizeLine; decide), fun T nT => ?_⟩⟩
    have s13 := s2.trans s3
    have sT := same_upd (o := .tup [.str "free", .int x, .int (tot bs - tot (bs.filter fun b => decide (b.1 ≠ x)))]) nT
    have s14 := s13.trans sT
    have hl4 := s14 _ _ ls1
    have ob4 := s14 _ _ ob1
    have st4 := st1.same s14
    have ch4 := (a.ch.keep s1).keep s14
    have hT4 : upd H3 T (.tup [.str "free", .int x, .int (tot bs - tot (bs.filter fun b => decide (b.1 ≠ x)))]) T = some (.tup [.str "free", .int x, .int (tot bs - tot (bs.filter fun b => decide (b.1 ≠ x)))]) := upd_same
    have stl4 := a.sl.kp fun v us e => s14 _ _ (s1 _ _ e)
    generalize upd H3 T (.tup [.str "free", .int x, .int (tot bs - tot (bs.filter fun b => decide (b.1 ≠ x)))]) = H4 at *
    refine ⟨l, _, _, rfl, rfl, hl4, Nat.lt_of_le_of_lt ((by rw [a.sl.len]; exact hn)) (by decide), ?_⟩
    refine ⟨.ref u, rfl, .ref h, rfl, h, Z.CHeap, dx, _, rfl, (by rw [upd_ne nlh.symm]; exact ob4), Z.clHeap, Z.naHeap_blocks, (by show 6 < 1000; decide), ?_⟩
    rw [hr_put]
    have kp : ∀ b o, b ≠ h → b ≠ l → H4 b = some o → upd (upd H4 l (.lst (xs ++ [.ref T]))) h (.ins Z.CHeap dx (hfr r c pg M u l)) b = some o := fun b o n1 n2 e => by
      rw [upd_ne n1, upd_ne n2]
      exact e
    refine q _ (fun b o n1 n2 e => kp b o n1 n2 (s14 _ _ (s1 _ _ e))) ⟨dx, u, xs ++ [.ref T], ⟨upd_same, ?_, ?_, ?_, ?_⟩⟩
    · exact ch4.frz fun o u e => kp _ _ (ne_of e ob4 (by intro z; cases z)) (ne_of e hl4 (by intro z; cases z)) e
    · exact st4.mono fun v us e => kp _ _ (ne_of e ob4 (by intro z; cases z)) (ne_of e hl4 (by intro z; cases z)) e
    · rw [upd_ne nlh, upd_same]
    · refine Paired.snoc (stl4.kp fun v us e => kp _ _ (ne_of e ob4 (by intro z; cases z)) (ne_of e hl4 (by intro z; cases z)) e) ⟨T, rfl, kp _ _ (ne_of hT4 ob4 (by intro z; cases z)) (ne_of hT4 hl4 (by intro z; cases z)) hT4⟩
end
/-- what changes at h, at l and in tables alone -/
def FrN (h l : Addr) (H H' : Hp) : Prop := ∀ b o, b ≠ h → b ≠ l → H b = some o → (∀ ps, o ≠ .tbl ps) → H' b = some o
section
variable {P : Program} {w : World} {K : PySem.W.Frag} {mg : Str → Option Value} {base : Heap}
end
section
variable {P : Program} {w : World} {K : PySem.W.Frag} {mg : Str → Option Value} {base : Heap}
end
section
variable {P : Program} {w : World} {K : PySem.W.Frag} {mg : Str → Option Value} {base : Heap}
def spHl (C : Addr) : Sp := fun vs H Q _ => ∃ (h l c : Addr) (r : Str) (s : Nat → Nat) (p pg M : Nat) (bs : List Bk) (ss : List Tri), vs = [.ref h] ∧ HrS C H h l c r s p pg M bs ss ∧ bs.length ≤ 5000 ∧ ∀ H', Same H H' → Q (.int (tot bs)) H'
end
end Ph

set_option maxHeartbeats 8000000
namespace Ph
open PySem PySem.Spec PyProof.Rows L2
section
variable {P : Program} {w : World} {K : PySem.W.Frag} {mg : Str → Option Value} {base : Heap}
def spMh : Sp := fun vs H Q _ => ∃ (t : Addr) (bs : List Bk) (x z : Int), vs = [.ref t, .int x, .int z] ∧ StAt H t bs ∧ bs.length ≤ 5000 ∧ 0 < z ∧ 0 ≤ x ∧ x % z = 0 ∧ (∀ b ∈ bs, b.1 + b.2 ≤ x ∨ x + z ≤ b.1) ∧ ∀ H', Same H H' → Q (.bl true) H'
theorem ok_Mh {k : Nat} (Z : Fns K mg) : FnOk P w K mg base CX0 (k + 1 + 1) Z.fMh Z.fdMh ["state", "address", "size"] spMh := by
  have GI : FnOk P w K mg base CX0 (k + 1) Z.fI Z.fdI ["value"] spI := ok_I Z
  refine Z.FMh.ok scMh (fun vs H Q E h => ?_) (fun cdv A outer s H vs Q E hr h => ?_)
  · obtain ⟨t, bs, x, z, rfl, _⟩ := h
    rfl
  · obtain ⟨t, bs, x, z, rfl, ⟨xs, ht, bl⟩, hl, z0, x0, xm, ap, q⟩ := h
    refine ⟨_, (pss_cons (ps_if (PW.pt (pw_or (pt_not (pt_val (pe_call GI (hr.mono (by omega)) (by rfl) Z.gI Z.FI.kp Z.bI .nil pass0 (pa_cons (pv 1) pa_nil)))) (pw_or (pt_cmpR op_lt (pv 1) pe_int (nomark _)) (pw_or1 (pt_cmpR op_ne (pe_op op_mod (pv 1) (pv 2)) pe_int (nomark _))))))
 (pss_one (ps_ret pe_bl)) pss_nil)
 (pss_one (ps_ret (pe_callB (cr_all rfl) (by rfl) Z.N.all (by decide +kernel) (pa_cons (pe_lc (own := [("start", 3), ("taken", 4)]) (g := (gTup K 2 (gCons (gName 3) (gCons (gName 4) gNil)))) (tt := tYes) (by rfl) scMh.nd (pi_tup (pv 0)) (blkOk_by (N := scMhN) (sc := defScope scMhS) (by decide +kernel)) (fun _ _ _ _ _ => (pg_tup (by rfl) (pgs_cons (pg_name (i := 3) scMh.nd rfl (.inl rfl)) (pgs_cons (pg_name (i := 4) scMh.nd rfl (.inl rfl)) pgs_nil)))) (fun _ _ _ _ _ => pts_nil) (fun _ _ _ _ _ => (pe_or (pe_cmpR op_le (pe_op op_add (pv 3) (pv 4)) (pv 1) (nomark _)) (pe_one (pe_cmpR op_le (pe_op op_add (pv 1) (pv 2)) (pv 3) (nomark _)))))) pa_nil))))), ?_⟩
    refine ⟨.int x, rfl, x, rfl, _, rfl, ite2 (fun c => absurd c (by decide)) (fun _ => ?_)⟩
    refine ⟨.int x, rfl, _, _, rfl, rfl, _, rfl, ite2 (fun c => absurd (of_decide_eq_true c) (by omega)) (fun _ => ?_)⟩
    refine ⟨.int x, rfl, .int z, rfl, _, _, rfl, rfl, z0, rfl, _, rfl, ite2 (fun c => absurd c (by simp [xm])) (fun _ => ?_)⟩
    refine ⟨.ref t, rfl, t, rfl, ⟨_, .inl (.inl ht)⟩, fun D nD => ?_⟩
    refine lc_R (walk_tup (K := K) (a := t) (xs := xs)) (fun _ _ _ _ y => YAt.same y) (fun _ _ y => y = .bl true) (fun _ _ _ _ _ h => h) nD (by rw [bl.len]; exact Nat.lt_of_le_of_lt hl (by decide)) (fun H4 s4 => .inl (.inl (s4 _ _ ht))) (fun j y H4 H5 hj s4 yy Z hZ => ?_) (fun H4 zs s4 hE pr => ?_)
    · obtain ⟨rfl, hx⟩ := yy
      obtain ⟨b, hb, u, rfl, hu⟩ := BL.get bl hx
      refine ⟨u, _, rfl, .inl (.inl (s4 _ _ hu)), rfl, _, _, rfl, _, _, rfl, rfl, rfl, ?_⟩
      have ab := ap b (List.mem_of_getElem? hb)
      refine ⟨.int b.1, rfl, .int b.2, rfl, _, _, rfl, rfl, .int x, rfl, _, _, rfl, rfl, _, rfl, ite2 (fun _ => hZ _ _ (Same.refl _) rfl) (fun c => ?_)⟩
      have c' : ¬ (b.1 + b.2 ≤ x) := fun h => c (decide_eq_true h)
      refine ⟨.int x, rfl, .int z, rfl, _, _, rfl, rfl, .int b.1, rfl, _, _, rfl, rfl, hZ _ _ (Same.refl _) ?_⟩
      dsimp only
      rw [decide_eq_true (by omega)]
    · rw [paired_eq pr] at hE
      have allT : ((List.range xs.length).map fun _ => true).all id = true := by
        rw [List.all_map]
        exact List.all_eq_true.mpr fun _ _ => rfl
      refine ⟨D, (List.range xs.length).map fun _ => true, rfl, by rw [List.map_map]; exact .inl (.inl hE), ?_⟩
      rw [allT]
      exact q _ s4
def spIp : Sp := fun vs H Q _ => ∃ (c t : Addr) (C : List Int) (L m : Int) (bs : List Bk) (x z : Int), vs = [.ref c, .int m, .ref t, .int x, .int z] ∧ ChAt H c (C ++ [L]) ∧ 0 ≤ m ∧ m ≤ 100000 ∧ StAt H t bs ∧ bs.length ≤ 5000 ∧ 0 < z ∧ 0 ≤ x ∧ x % z = 0 ∧ (∀ b ∈ bs, b.1 + b.2 ≤ x ∨ x + z ≤ b.1) ∧ x + z ≤ m * L ∧ ∀ H', Same H H' → Q (.bl true) H'
theorem ok_Ip {k : Nat} (Z : Fns K mg) : FnOk P w K mg base CX0 (k + 1 + 1 + 1) Z.fIp Z.fdIp ["chain", "pages", "state", "address", "size"] spIp := by
  have GMh : FnOk P w K mg base CX0 (k + 1 + 1) Z.fMh Z.fdMh ["state", "address", "size"] spMh := ok_Mh Z
  refine Z.FIp.ok scIp (fun vs H Q E h => ?_) (fun cdv A outer s H vs Q E hr h => ?_)
  · obtain ⟨c, t, C, L, m, bs, x, z, rfl, _⟩ := h
    rfl
  · obtain ⟨c, t, C, L, m, bs, x, z, rfl, hc, m0, m1, ht, hl, z0, x0, xm, ap, xW, q⟩ := h
    refine ⟨_, (pss_one (ps_ret (pe_and (pe_call GMh (hr.mono (by omega)) (by rfl) Z.gMh Z.FMh.kp Z.bMh .nil pass0 (pa_cons (pv 2) (pa_cons (pv 3) (pa_cons (pv 4) pa_nil)))) (pe_one (pe_cmpR op_le (pe_op op_add (pv 3) (pv 4)) (pe_op op_mul (pv 1) (pe_ix ix_tup (pv 0) (pe_un un_neg pe_int) (fun _ _ => rfl))) (nomark _)))))), ?_⟩
    have gl : atI ((C ++ [L]).map V.int) (-1) = some (.int L) := by
      rw [List.map_append]
      exact atI_last _ _
    refine ⟨.ref t, rfl, .int x, rfl, .int z, rfl, t, bs, x, z, rfl, ht, hl, z0, x0, xm, ap, fun H1 s1 => ⟨_, rfl, ite2 (fun _ => ?_) (fun c => absurd rfl c)⟩⟩
    refine ⟨.int x, rfl, .int z, rfl, _, _, rfl, rfl, .int m, rfl, .ref c, rfl, 1, rfl, c, _, -1, _, rfl, rfl, (hc.keep s1).sq, gl, m, L, rfl, rfl, .inl ⟨by omega, by omega⟩, _, _, rfl, rfl, ?_⟩
    dsimp only
    rw [decide_eq_true xW]
    exact q _ s1
def spPt (C : Addr) : Sp := fun vs H Q _ => ∃ (h l c : Addr) (r : Str) (s : Nat → Nat) (p pg M : Nat) (bs : List Bk) (ss : List Tri) (x z : Int), vs = [.ref h, .int x, .int z] ∧ HrS C H h l c r s p pg M bs ss ∧ z ∈ tl s (p + 1) ∧ tot bs + z ≤ M ∧ bs.length ≤ 5000 ∧ ss.length ≤ 1000000 ∧ 0 < z ∧ pg ≤ 2000 ∧ 0 ≤ x ∧ x % z = 0 ∧ (∀ b ∈ bs, b.1 + b.2 ≤ x ∨ x + z ≤ b.1) ∧ x + z ≤ (pg : Int) * ((s p : Nat) : Int) ∧
  ∀ H' cs, Fr h l H H' → HrS C H' h l c r s p pg M cs (ss ++ [(("get" : Str), x, z)]) → cs.Perm (bs ++ [(x, z)]) → (cs.Pairwise fun x y => SrtO.lexB y x = false) → Q .non H'
theorem ok_Pt {k : Nat} (Z : Fns K mg) : FnOk P w K mg base CX0 (k + 1 + 1 + 1 + 1 + 1) Z.fPt Z.fdPt ["self", "address", "size"] (spPt Z.CHeap) := by
  have GHk : FnOk P w K mg base CX0 (k + 1 + 1 + 1 + 1) Z.fHk Z.fdHk ["self", "size"] (spHk Z.CHeap) := ok_Hk Z
  have GHe : FnOk P w K mg base CX0 (k + 1 + 1) Z.fHe Z.fdHe ["self", "address", "size"] (spHe Z.CHeap) := ok_He Z
  have GIp : FnOk P w K mg base CX0 (k + 1 + 1 + 1) Z.fIp Z.fdIp ["chain", "pages", "state", "address", "size"] spIp := ok_Ip Z
  refine Z.FPt.ok scPt (fun vs H Q E h => ?_) (fun cdv A outer s H vs Q E hr h => ?_)
  · obtain ⟨h, l, c, r, s, p, pg, M, bs, ss, x, z, rfl, _⟩ := h
    rfl
  · obtain ⟨h, l, c, r, sz, p, pg, M, bs, ss, x, z, rfl, hp, hz, hM, hl, hn, z0, g1, x0, xm, ap, xW, q⟩ := h
    refine ⟨_, (pss_cons (ps_expr (pe_meth (pv 0) Z.clHeap Z.mHk GHk (hr.mono (by omega)) Z.bHk .nil pass0 (pa_cons (pv 2) pa_nil)))
 (pss_cons (ps_if (pt_not (pt_val (pe_call GIp (hr.mono (by omega)) (by rfl) Z.gIp Z.FIp.kp Z.bIp .nil pass0 (pa_cons (pe_fld (pv 0) rfl) (pa_cons (pe_fld (pv 0) rfl) (pa_cons (pe_fld (pv 0) rfl) (pa_cons (pv 1) (pa_cons (pv 2) pa_nil))))))))
 (pss_one ps_never) pss_nil)
 (pss_one (ps_expr (pe_meth (pv 0) Z.clHeap Z.mHe GHe (hr.mono (by omega)) Z.bHe .nil pass0 (pa_cons (pv 1) (pa_cons (pv 2) pa_nil))))))), ?_⟩
    obtain ⟨dx, t, xs, a⟩ := id hp
    refine ⟨.ref h, rfl, h, dx, _, rfl, a.ob, rfl, .int z, rfl, h, l, c, r, sz, p, pg, M, bs, ss, z, rfl, hp, hz, hM, hl, fun H1 s1 => ?_⟩
    have hp1 := hp.same s1
    have ob1 := s1 _ _ a.ob
    have et : tl sz (p + 1) = tl sz p ++ [((sz p : Nat) : Int)] := tl_succ _ _
    have ch1 := a.ch.keep s1
    rw [et] at ch1
    refine ⟨.ref h, rfl, h, Z.CHeap, dx, _, _, rfl, ob1, Z.clHeap, Z.naHeap_chain, hr_chain, .ref h, rfl, h, Z.CHeap, dx, _, _, rfl, ob1, Z.clHeap, Z.naHeap_pages, hr_pages, .ref h, rfl, h, Z.CHeap, dx, _, _, rfl, ob1, Z.clHeap, Z.naHeap_blocks, hr_blocks, .int x, rfl, .int z, rfl, c, t, tl sz p, ((sz p : Nat) : Int), pg, bs, x, z, rfl, ch1, by omega, by omega, a.st.same s1, hl, z0, x0, xm, ap, xW, fun H2 s2 => ⟨_, rfl, ite2 (fun c => absurd c (by decide)) (fun _ => ?_)⟩⟩
    refine ⟨.ref h, rfl, h, dx, _, rfl, s2 _ _ ob1, rfl, .int x, rfl, .int z, rfl, h, l, c, r, sz, p, pg, M, bs, ss, x, z, rfl, hp1.same s2, hl, hn, fun H3 cs fr hp3 pm srt => ?_⟩
    exact q _ cs ((s1.trans s2).fr.trans fr) hp3 pm srt
def spRe (C : Addr) : Sp := fun vs H Q _ => ∃ (h T l c : Addr) (r : Str) (s : Nat → Nat) (p pg M : Nat) (bs : List Bk) (ss : List Tri) (t : Tri), vs = [.ref h, .ref T] ∧ H T = some (.tup (evV t)) ∧ HrS C H h l c r s p pg M bs ss ∧ bs.length ≤ 5000 ∧ ss.length ≤ 1000000 ∧ pg ≤ 2000 ∧
  ((t.1 = "get" ∧ t.2.2 ∈ tl s (p + 1) ∧ tot bs + t.2.2 ≤ M ∧ 0 < t.2.2 ∧ 0 ≤ t.2.1 ∧ t.2.1 % t.2.2 = 0 ∧ (∀ b ∈ bs, b.1 + b.2 ≤ t.2.1 ∨ t.2.1 + t.2.2 ≤ b.1) ∧ t.2.1 + t.2.2 ≤ (pg : Int) * ((s p : Nat) : Int) ∧
    ∀ H' cs, Fr h l H H' → HrS C H' h l c r s p pg M cs (ss ++ [t]) → cs.Perm (bs ++ [(t.2.1, t.2.2)]) → (cs.Pairwise fun x y => SrtO.lexB y x = false) → Q .non H') ∨
   (t.1 = "free" ∧ (∃ b ∈ bs, b.1 = t.2.1) ∧ ∀ H', Fr h l H H' → HrS C H' h l c r s p pg M (bs.filter fun b => decide (b.1 ≠ t.2.1)) (ss ++ [(("free" : Str), t.2.1, tot bs - tot (bs.filter fun b => decide (b.1 ≠ t.2.1)))]) → Q .non H'))
theorem ok_Re {k : Nat} (Z : Fns K mg) : FnOk P w K mg base CX0 (k + 1 + 1 + 1 + 1 + 1 + 1) Z.fRe Z.fdRe ["heap", "event"] (spRe Z.CHeap) := by
  have GPt : FnOk P w K mg base CX0 (k + 1 + 1 + 1 + 1 + 1) Z.fPt Z.fdPt ["self", "address", "size"] (spPt Z.CHeap) := ok_Pt Z
  have GHf : FnOk P w K mg base CX0 (k + 1 + 1 + 1 + 1) Z.fHf Z.fdHf ["self", "address"] (spHf Z.CHeap) := ok_Hf Z
  refine Z.FRe.ok scRe (fun vs H Q E h => ?_) (fun cdv A outer s H vs Q E hr h => ?_)
  · obtain ⟨h, T, l, c, r, s, p, pg, M, bs, ss, t, rfl, _⟩ := h
    rfl
  · obtain ⟨h, T, l, c, r, sz, p, pg, M, bs, ss, ⟨w, x, z⟩, rfl, hT, hp, hl, hn, g1, q⟩ := h
    refine ⟨_, (pss_one (ps_if (pt_cmpR op_eq (pe_ix ix_tup (pv 1) pe_int (fun _ _ => rfl)) pe_str (nomark _))
 (pss_one (ps_expr (pe_meth (pv 0) Z.clHeap Z.mPt GPt (hr.mono (by omega)) Z.bPt .nil pass0 (pa_cons (pe_ix ix_tup (pv 1) pe_int (fun _ _ => rfl)) (pa_cons (pe_ix ix_tup (pv 1) pe_int (fun _ _ => rfl)) pa_nil))))) (pss_one (ps_expr (pe_meth (pv 0) Z.clHeap Z.mHf GHf (hr.mono (by omega)) Z.bHf .nil pass0 (pa_cons (pe_ix ix_tup (pv 1) pe_int (fun _ _ => rfl)) pa_nil)))))), ?_⟩
    obtain ⟨dx, t, xs, a⟩ := id hp
    rcases q with ⟨rfl, hz, hM, z0, x0, xm, ap, xW, q⟩ | ⟨rfl, hb, q⟩
    · rw [evV_get] at hT
      refine ⟨.ref T, rfl, T, _, 0, _, rfl, rfl, .inl (.inl hT), atI_nat (j := 0) rfl, rfl, _, rfl, ite2 (fun _ => ?_) (fun c => absurd (by decide +kernel) c)⟩
      refine ⟨.ref h, rfl, h, dx, _, rfl, a.ob, rfl, .ref T, rfl, T, _, 2, _, rfl, rfl, .inl (.inl hT), atI_nat (j := 2) rfl, .ref T, rfl, T, _, 1, _, rfl, rfl, .inl (.inl hT), atI_nat (j := 1) rfl, h, l, c, r, sz, p, pg, M, bs, ss, x, z, rfl, hp, hz, hM, hl, hn, z0, g1, x0, xm, ap, xW, fun H' cs fr hp' pm srt => q H' cs fr hp' pm srt⟩
    · rw [evV_free] at hT
      refine ⟨.ref T, rfl, T, _, 0, _, rfl, rfl, .inl (.inl hT), atI_nat (j := 0) rfl, rfl, _, rfl, ite2 (fun c => absurd c (by decide +kernel)) (fun _ => ?_)⟩
      refine ⟨.ref h, rfl, h, dx, _, rfl, a.ob, rfl, .ref T, rfl, T, _, 1, _, rfl, rfl, .inl (.inl hT), atI_nat (j := 1) rfl, h, l, c, r, sz, p, pg, M, bs, ss, x, rfl, hp, hl, hn, hb, fun H' fr hp' => q H' fr hp'⟩
end

section
variable {P : Program} {w : World} {K : PySem.W.Frag} {mg : Str → Option Value} {base : Heap}
def spRy (C : Addr) : Sp := fun vs H Q _ => ∃ (c u : Addr) (s : Nat → Nat) (p pg M m : Nat) (ss : List Tri) (bs : List Bk), vs = [.ref c, .int pg, .int M, .ref u] ∧ ChAt H c (tl s (p + 1)) ∧ Cn s p m ∧ m ≤ 1000000000 ∧ p ≤ 11 ∧ pg ≤ 2000 ∧ M ≤ 5000 ∧ HisAt H u ss ∧ ss.length ≤ 100000 ∧ Hw s p ((pg : Int) * ((s p : Nat) : Int)) M ss.reverse bs ∧
  ∀ H' h l, Same H H' → H h = none → H l = none → HrS C H' h l c "lowest" s p pg M bs ss → Q (.ref h) H'
theorem ok_Ry {k : Nat} (Z : Fns K mg) : FnOk P w K mg base CX0 (k + 1 + 1 + 1 + 1 + 1 + 1 + 1) Z.fRy Z.fdRy ["chain", "pages", "limit", "history"] (spRy Z.CHeap) := by
  have GHi : FnOk P w K mg base CX0 (k + 1 + 1 + 1) Z.fHi Z.fdHi ["self", "chain", "pages", "limit", "rule"] (spHi Z.CHeap) := ok_Hi Z
  have GFe : FnOk P w K mg base CX0 (k + 1) Z.fFe Z.fdFe ["value"] spFe := ok_Fe Z
  have GRe : FnOk P w K mg base CX0 (k + 1 + 1 + 1 + 1 + 1 + 1) Z.fRe Z.fdRe ["heap", "event"] (spRe Z.CHeap) := ok_Re Z
  obtain ⟨dsHi, vHi, bHi⟩ := Z.bHi
  refine Z.FRy.ok scRy (fun vs H Q E h => ?_) (fun cdv A outer s H vs Q E hr h => ?_)
  · obtain ⟨c, u, s, p, pg, M, m, ss, bs, rfl, _⟩ := h
    rfl
  · obtain ⟨c, u, sz, p, pg, M, m, ss, bs, rfl, hc, cn, m9, p4, g1, M1, ⟨ys, hu, ev⟩, sl, hm, q⟩ := h
    refine ⟨_, (pss_cons (ps_if (pt_not (pt_val (pe_callB call_isi (by rfl) Z.N.isinstance (by decide +kernel) (pa_cons (pv 3) (pa_cons (pe_bltn (v := .ty "tuple") (by rfl) Z.N.tuple (by decide +kernel) rfl) pa_nil)))))
 (pss_one ps_never) pss_nil)
 (pss_cons (ps_set (i := 4) scRy.nd rfl (.inl rfl) (pe_make Z.MHi GHi (hr.mono (by omega)) (by rfl) Z.gcHeap bHi vHi pass0 (pa_cons (pv 0) (pa_cons (pv 1) (pa_cons (pv 2) pa_nil)))))
 (pss_cons (ps_for PassesOwn.never rfl (pi_enumK (k := true) (by rfl) Z.N.enumerate (pa_cons (pv 3) pa_nil)) (pg_tup (by rfl) (pgs_cons (pg_name (i := 5) scRy.nd rfl (.inl rfl)) (pgs_cons (pg_name (i := 6) scRy.nd rfl (.inl rfl)) pgs_nil)))
 (pss_cons (ps_if (pt_not (pt_val (pe_call GFe (hr.mono (by omega)) (by rfl) Z.gFe Z.FFe.kp Z.bFe .nil pass0 (pa_cons (pv 6) pa_nil))))
 (pss_one ps_never) pss_nil)
 (pss_one (ps_try_thru0 (pss_one (ps_expr (pe_call GRe (hr.mono (by omega)) (by rfl) Z.gRe Z.FRe.kp Z.bRe .nil pass0 (pa_cons (pv 4) (pa_cons (pv 6) pa_nil)))))))))
 (pss_one (ps_ret (pv 4)))))), ?_⟩
    have ch := cn.ch
    refine ⟨.ref u, rfl, .ref u, .ty "tuple", .type "tuple", .type "tuple", true, rfl, .ty _, .base (.tup hu), kit_ty (by decide +kernel), _, rfl, ite2 (fun c => absurd c (by decide)) (fun _ => ?_)⟩
    refine ⟨.ref c, rfl, .int pg, rfl, .int M, rfl, fun h dx nh ndx nex => ?_⟩
    have s1 : Same H (upd (upd H dx (.own h)) h (.ins Z.CHeap dx [])) := fun b o e => by
      rw [upd_ne (ne_of_none e nh), upd_ne (ne_of_none e ndx)]
      exact e
    refine ⟨h, c, dx, "lowest", sz, p, m, pg, M, rfl, .inl rfl, upd_same, hc.keep s1, cn, m9, by omega, fun H2 l fr2 nl2 hp2 => ⟨rfl, ?_⟩⟩
    have nl : H l = none := none_of_same s1 nl2
    have s2 : Same H H2 := fun b o e => fr2 _ _ (ne_of_none e nh) (ne_of_none e nl) (s1 _ _ e)
    have yl : ys.length = ss.length := ev.length
    refine ⟨.ref u, rfl, u, _, rfl, .inl (.inl (s2 _ _ hu)), ?_⟩
    refine for_it (walk_enumK (k := true) (K := K) (a := u) (xs := ys)) (fun i σ H3 => ∃ y5 y6 bi, σ = [some (.ref c), some (.int pg), some (.int M), some (.ref u), some (.ref h), y5, y6] ∧ Same H H3 ∧ HrS Z.CHeap H3 h l c "lowest" sz p pg M bi (ss.take i) ∧ Hw sz p ((pg : Int) * ((sz p : Nat) : Int)) M (ss.take i).reverse bi)
      ⟨none, none, [], rfl, s2, hp2, .nil⟩ (fun i σ H3 _ p => ?_) ?_ ?_
    · obtain ⟨_, _, _, _, s3, _⟩ := p
      exact .inl (.inl (s3 _ _ hu))
    · rintro i x σ H0 H3 hi ⟨y5, y6, bi, rfl, s3, hp3, hm3⟩ y
      obtain ⟨R, x1, x2, rfl, nR, rfl, e1, e2⟩ := y
      cases e1
      have e2' : ys[i]? = some x2 := e2
      obtain ⟨t, ht, E, rfl, hE⟩ := Paired.get ev e2'
      have sR := same_upd (o := .tup [.int (i : Nat), .ref E]) nR
      have hR : upd H0 R (.tup [.int (i : Nat), .ref E]) R = some (.tup [.int (i : Nat), .ref E]) := upd_same
      have s4 := s3.trans sR
      have hp4 := hp3.same sR
      generalize upd H0 R (.tup [.int (i : Nat), .ref E]) = H4 at *
      refine ⟨R, _, rfl, .inl (.inl hR), rfl, _, _, rfl, _, _, rfl, rfl, ?_⟩
      have hE4 := s4 _ _ hE
      have len := hm3.len ch
      have tkl : (ss.take i).length ≤ 1000000 := by rw [List.length_take]; omega
      have etk : ss.take (i + 1) = ss.take i ++ [t] := by rw [List.take_add_one, ht]; rfl
      have kp : ∀ {H5 : Hp}, Fr h l H4 H5 → Same H H5 := fun fr b o e => fr _ _ (ne_of_none e nh) (ne_of_none e nl) (s4 _ _ e)
      rcases hm.step ch ht hm3 with ⟨j, x, cs, hj, rfl, hM, sp, pm, srt, hm4⟩ | ⟨e, he, rfl, hm4⟩
      · have z0 := ch.pos (i := j) (by omega)
        refine ⟨.ref E, rfl, E, _, rfl, hE4, .inl rfl, _, rfl, ite2 (fun c => absurd c (by decide)) (fun _ => ?_)⟩
        refine ⟨.ref h, rfl, .ref E, rfl, h, E, l, c, "lowest", sz, p, pg, M, bi, _, _, rfl, hE4, hp4, by omega, tkl, g1, .inl ⟨rfl, tl_mem.mpr ⟨j, by omega, rfl⟩, hM, by dsimp only; omega, sp.pos, sp.mod, fun b hb => (sp.free b hb).symm, sp.fit, fun H5 cs' fr5 hp5 pm5 srt5 => ?_⟩⟩
        have ec : cs' = cs := perm_lex (pm5.trans pm.symm) srt5 srt
        subst ec
        rw [← etk] at hp5
        exact ⟨_, _, cs', rfl, kp fr5, hp5, hm4⟩
      · refine ⟨.ref E, rfl, E, _, rfl, hE4, .inr rfl, _, rfl, ite2 (fun c => absurd c (by decide)) (fun _ => ?_)⟩
        refine ⟨.ref h, rfl, .ref E, rfl, h, E, l, c, "lowest", sz, p, pg, M, bi, _, _, rfl, hE4, hp4, by omega, tkl, g1, .inr ⟨rfl, ⟨e, he, rfl⟩, fun H5 fr5 hp5 => ?_⟩⟩
        have tf : tot bi - tot (bi.filter fun b => decide (b.1 ≠ e.1)) = e.2 := HW.tt_filt (hm3.st ch) he
        dsimp only at hp5
        rw [tf, ← etk] at hp5
        exact ⟨_, _, _, rfl, kp fr5, hp5, hm4⟩
    · rintro σ H3 ⟨y5, y6, bi, rfl, s3, hp3, hm3⟩
      rw [List.take_of_length_le (by omega)] at hm3 hp3
      obtain rfl := hm3.uniq ch hm
      exact ⟨.ref h, rfl, q _ h l s3 nh nl hp3⟩
end
end Ph

set_option maxHeartbeats 8000000
namespace Ph
open PySem PySem.Spec PyProof.Rows L2
/-! ### the settings -/
def carL (L : List Nat) (M : Nat) : Int := mxd 0 (((L.map fun i : Nat => (i : Int)).filter fun x => decide (x ≤ (M : Int))).map fun x => 1 + ((M : Int) - x) / (((sqL L (L.length - 1) : Nat) : Int) / x))
def setsG : List (List Nat × List Nat) := [([1], [3]), ([1, 2], [0]), ([1, 2], [1]), ([1, 2], [2]), ([1, 2], [3]), ([1, 2], [4]), ([1, 3], [2]), ([1, 3], [3]), ([1, 3], [4]), ([1, 4], [3]), ([1, 4], [4]), ([1, 2, 4], [3]), ([1, 2, 4], [4])]
def bnd (z : Nat) : Nat := if z = 1 then 6 else if z = 2 then 4 else if z = 3 then 3 else 2
theorem sq_at {L : List Nat} {n : Nat} (h : okSet L n = true) : L.map (fun i : Nat => (i : Int)) = tl (sqL L) (L.length - 1 + 1) ∧ Cn (sqL L) (L.length - 1) 12 ∧ Sml (sqL L) (L.length - 1) n := by
  unfold okSet at h
  simp only [Bool.and_eq_true, List.all_eq_true, List.mem_range, decide_eq_true_eq] at h
  obtain ⟨⟨⟨⟨⟨h1, h2⟩, h3⟩, h4, h5, h6, h7⟩, h8⟩, h9⟩ := h
  have e : L.length - 1 + 1 = L.length := by omega
  refine ⟨by rw [e]; exact sqL_tl L, ⟨⟨h2, fun i hi => ?_⟩, fun i hi => ?_, h4⟩, ⟨h6, fun i hi => h8 i (by omega), h9, by omega, h4, h7⟩⟩
  · obtain ⟨a, b, c⟩ := h3 i (by omega)
    exact ⟨_, by omega, c⟩
  · obtain ⟨a, b, c⟩ := h3 i hi
    exact ⟨_, a, b, c⟩
def smallL (L : List Nat) (M : Nat) : Bool := decide (0 ≤ carL L M) && decide (((carL L M).toNat + 1) * (stL (L.map fun i : Nat => (i : Int)) ((carL L M).toNat * sqL L (L.length - 1))).length ≤ 20000)
theorem cnG_of {L zs : List Nat} (h : (L, zs) ∈ setsG) : ∃ s p M, L.map (fun i : Nat => (i : Int)) = tl s (p + 1) ∧ zs = [M] ∧ Cn s p 12 ∧ p ≤ 5 ∧ M ≤ 6 ∧ (∀ r, FewR r s p M) ∧ 1 ≤ s p ∧ s p ≤ 4 ∧ ∀ n, n < bnd (s p) → Sml s p n := by
  have key : ∀ x ∈ setsG, x.2 = [x.2.headD 0] ∧ okSet x.1 0 = true ∧ x.2.headD 0 ≤ 6 ∧ smallL x.1 (x.2.headD 0) = true ∧ 1 ≤ sqL x.1 (x.1.length - 1) ∧ sqL x.1 (x.1.length - 1) ≤ 4 ∧ ∀ n, n < bnd (sqL x.1 (x.1.length - 1)) → okSet x.1 n = true := by decide +kernel
  obtain ⟨e, ok, n1, sm, g1, g4, oks⟩ := key _ h
  obtain ⟨h1, h2, h3⟩ := sq_at ok
  dsimp only at h1 h2 h3 sm n1 e g1 g4 oks
  refine ⟨_, _, _, h1, e, h2, by have := h3.q; omega, n1, fun r => ?_, g1, g4, fun n hn => (sq_at (oks n hn)).2.2⟩
  unfold smallL at sm
  simp only [Bool.and_eq_true, decide_eq_true_eq] at sm
  obtain ⟨c0, cl⟩ := sm
  refine few_of (C := (carL L (zs.headD 0)).toNat) h2 ?_ (by rw [← h1]; exact cl)
  have e2 : mxd 0 (cpl (sqL L) (L.length - 1) (zs.headD 0)) = carL L (zs.headD 0) := by
    unfold cpl carL
    rw [h1]
  rw [e2]
  omega
theorem Hw.widen {s : Nat → Nat} {p M : Nat} {W W' : Int} (hW : W ≤ W') {rs : List Tri} {bs : List Bk} (h : Hw s p W M rs bs) : Hw s p W' M rs bs := by
  induction h with
  | nil => exact .nil
  | get _ hi lim sp pm srt ih => exact .get ih hi lim ⟨sp.mod, sp.pos, Int.le_trans sp.fit hW, sp.free⟩ pm srt
  | free _ he ih => exact .free ih he
theorem Gw.hw {r : Str} {s : Nat → Nat} {p M m k : Nat} {rs : List Tri} {bs : List Bk} (cn : Cn s p k) (h : Gw r s p M rs bs m) : Hw s p ((m : Int) * ((s p : Nat) : Int)) M rs bs := by
  induction h with
  | nil => exact .nil
  | @free rs bs m e g he ih => exact .free ih he
  | @get rs bs cs m m' i a g hi lim pm srt nx ih =>
    have zi := cn.ch.pos (i := i) (by omega)
    have zL := cn.ch.mono (i := i) (j := p) hi (by omega)
    have Lz : ((s p : Nat) : Int) % ((s i : Nat) : Int) = 0 := by
      obtain ⟨r, _, er⟩ := cn.ch.dvd (i := i) (j := p) hi (by omega)
      rw [er, Int.natCast_mul]
      exact Int.mul_emod_right _ _
    have st := (g.rv cn).st
    rcases nx with ⟨rfl, no, rfl⟩ | ⟨o, rfl⟩
    · refine .get (ih.widen (W' := ((m + 1 : Nat) : Int) * ((s p : Nat) : Int)) ?_) hi lim ⟨?_, Int.mul_nonneg (by omega) (by omega), ?_, fun b hb => .inr ?_⟩ pm srt
      · rw [Int.natCast_add, Int.add_mul]
        omega
      · exact Int.emod_eq_zero_of_dvd (Int.dvd_trans (Int.dvd_of_emod_eq_zero Lz) (Int.dvd_mul_left ..))
      · rw [Int.natCast_add, Int.add_mul]
        omega
      · exact (st.bnd b hb).2.2
    · rcases o with ⟨z, _⟩ | ⟨b, eb, sp, _⟩
      · cases z
      · cases eb
        exact .get ih hi lim ⟨sp.mod, sp.pos, sp.fit, sp.free⟩ pm srt
theorem tabsAt {H : Hp} {c1 p1 : Addr} (h : ∀ q ∈ [(c1, p1)], H q.2 = some (.tbl #[])) : LamX.Tabs [(p1, tkN)] H := tabsT_nil fun p hp => by
  rw [List.mem_singleton.mp hp]
  exact h (c1, p1) (by simp)
theorem inT1 {p1 : Addr} {a : Str} : InT [(p1, a)] p1 a := ⟨by simp, fun p hp e => by
  rw [List.mem_singleton.mp hp]⟩
theorem so_but {T : List (Addr × Str)} {H H' : Hp} {q : Addr} {N : Nat} (p : So N H q) (t : LamX.Tabs T H) (b : But q H H') : LamX.Tabs T H' := by
  obtain ⟨_, _, _, e, _⟩ := p
  exact tabs_but t b e
def ButN (q : Addr) (H H' : Hp) : Prop := ∀ b o, b ≠ q → H b = some o → (∀ ps, o ≠ .tbl ps) → H' b = some o
theorem ext_butS {q : Addr} {H H1 H2 : Hp} (x : LamX.ExtN H H1) (n : H q = none) (b : ButN q H1 H2) : LamX.ExtN H H2 := fun c o e t => b c o (ne_of_none e n) (x c o e t) t
theorem so_frz {N : Nat} {H : Hp} {p t : Addr} {ob : Obj} {u : HO} (P : So N H p) (e : H t = some (.frz ob u)) : t ≠ p := P.po.nefrz e
theorem so_ktN {H H' : Hp} {q : Addr} {N : Nat} (hq : So N H q) (b : But q H H') : Kt H H' := fun a o e _ n => b a o (fun z => by
  obtain ⟨g, r, l, h, _⟩ := hq
  rw [z, h] at e
  exact n _ (Option.some.inj e).symm) e
theorem so_ext {N : Nat} {H H' : Hp} {q : Addr} (h : So N H q) (x : LamX.ExtN H H') : So N H' q := by
  obtain ⟨g, r, n, e, v, z⟩ := h
  exact ⟨g, r, n, ext_lst x e, v, z⟩
theorem bnd_val {z : Nat} (h1 : 1 ≤ z) (h4 : z ≤ 4) : valV (mergeK [] ([(Sum.inl 1, V.int 6), (Sum.inl 2, V.int 4), (Sum.inl 3, V.int 3), (Sum.inl 4, V.int 2)] : List (Key × V))) (Sum.inl (z : Int)) = some (V.int ((bnd z : Nat) : Int)) := by
  have : z = 1 ∨ z = 2 ∨ z = 3 ∨ z = 4 := by omega
  rcases this with rfl | rfl | rfl | rfl <;> rfl
theorem bnd_pos (z : Nat) : 2 ≤ bnd z ∧ bnd z ≤ 6 := by
  unfold bnd
  split
  · decide
  · split
    · decide
    · split <;> decide
theorem safe_iff {s : Nat → Nat} {p M n k : Nat} (cn : Cn s p k) : (∀ j, ¬ Lst s p M ((n * s p : Nat) : Int) j []) ↔ bfn s (fun _ => 0) M p / s p ≤ n := by
  have zp := cn.ch.pos (i := p) (by omega)
  have num := (bd_bfn s (p + 1) M).num cn.ch (i := p) (by omega)
  have eW : ((n * s p : Nat) : Int) = (n : Int) * ((s p : Nat) : Int) := Int.natCast_mul _ _
  constructor
  · intro h
    refine Classical.byContradiction fun no => ?_
    obtain ⟨j, l⟩ := few_lost (n := n) cn.ch (M := M) (Nat.lt_of_not_le fun z => no (Nat.div_le_of_le_mul (by rw [Nat.mul_comm]; exact z)))
    rw [← eW] at l
    exact h j l
  · intro h j
    rw [eW]
    refine enough_safe cn ?_ j
    have h1 := Nat.mul_le_mul_right (s p) h
    have h2 : bfn s (fun _ => 0) M p / s p * s p = bfn s (fun _ => 0) M p := num
    omega
theorem fx_safe {r : Str} {s : Nat → Nat} {p M x k : Nat} (cn : Cn s p k) (hr : IsRule r) (all : ∀ g n, Rn r s p M n g → g.1 ≤ x) {n m : Nat} {bs : List Bk} (h : Rn r s p M n (m, bs)) (j : Nat) : ¬ Lst s p M ((x * s p : Nat) : Int) j bs := by
  rw [Int.natCast_mul]
  refine (fx_stays (x := x) cn hr all).safe (fun cs ⟨m', n', h', le⟩ => ?_) j bs ⟨m, n, h, all _ _ h⟩
  have rv := h'.rv cn
  have st : St (tl s (p + 1)) ((m' : Int) * ((s p : Nat) : Int)) cs := rv.st
  have le2 : (m' : Int) * ((s p : Nat) : Int) ≤ (x : Int) * ((s p : Nat) : Int) := by
    rw [← Int.natCast_mul, ← Int.natCast_mul]
    exact Int.ofNat_le.mpr (Nat.mul_le_mul_right (s p) le)
  exact ⟨st.wider le2, rv.sum⟩
section
variable {P : Program} {w : World} {K : PySem.W.Frag} {mg : Str → Option Value} {base : Heap}
def spLaw (K : PySem.W.Frag) (P1 : Addr) : Sp := fun vs H Q _ => ∃ (a : Addr) (ns : List Int), vs = [.ref a] ∧ SqL K H a (ns.map V.int) ∧ ns.length ≤ 63 ∧ LamX.Tabs [(P1, tkN)] H ∧ ∀ H', Q (.bl true) H'
theorem ok_Law {k : Nat} (Z : Fns K mg) (TB : LamX.TabB base mg Z.cPp Z.pPp) : FnG P w K mg base CX0 (k + 1 + 1 + 1 + 1 + 1 + 1 + 1 + 1 + 1 + 1 + 1) Z.fLaw Z.fdLaw ["_law_script"] (spLaw K Z.pPp) := by
  have hT : InT [(Z.pPp, tkN)] Z.pPp tkN := inT1
  have GSc : FnOk P w K mg base CX0 (k + 1) Z.fSc Z.fdSc ["_law_script", "_law_k"] (spSc K) := ok_Sc Z
  have GNu : FnOk P w K mg base CX0 (k + 1) Z.fNu Z.fdNu ["_law_source_here", "_law_below"] spNu := ok_Nu Z
  have GCo : FnOk P w K mg base CX0 (k + 1 + 1) Z.fCo Z.fdCo ["_law_source_here", "_law_some"] (spCo K) := ok_Co Z
  have GSf : FnOk P w K mg base CX0 (k + 1 + 1 + 1 + 1 + 1 + 1 + 1 + 1 + 1 + 1) Z.fSf Z.fdSf ["chain", "limit", "pages", "state"] spSf := ok_Sf Z
  have GRy : FnOk P w K mg base CX0 (k + 1 + 1 + 1 + 1 + 1 + 1 + 1) Z.fRy Z.fdRy ["chain", "pages", "limit", "history"] (spRy Z.CHeap) := ok_Ry Z
  have GHs : FnOk P w K mg base CX0 (k + 1) Z.fHs Z.fdHs ["self"] (spHs Z.CHeap) := ok_Hs Z
  have GWp : FnOk P w K mg base CX0 (k + 1 + 1 + 1 + 1 + 1 + 1 + 1 + 1 + 1) Z.fWp Z.fdWp ["chain", "limit", "rule"] (spWp [(Z.pPp, tkN)]) := ok_Wp Z TB hT
  have GWh : FnOk P w K mg base CX0 (k + 1 + 1 + 1 + 1 + 1 + 1 + 1 + 1 + 1) Z.fWh Z.fdWh ["chain", "limit", "rule"] (spWh [(Z.pPp, tkN)]) := ok_Wh Z TB hT
  refine okG Z.FLaw scLaw (fun vs H Q E h => ?_) (fun cdv A outer s H vs Q E hgu hr h => ?_)
  · obtain ⟨a, ns, rfl, _⟩ := h
    rfl
  · obtain ⟨a, ns, rfl, hS, hl, tabs, fin⟩ := h
    have hu64 := u64_of hr
    refine ⟨_, (pss_cons (ps_for PassesOwn.never rfl (pi_range1 (by rfl) Z.N.range (pa_cons (pe_callB (call_max2 rfl) (by rfl) Z.N.max (by decide +kernel) (pa_cons pe_int (pa_cons (pe_callB (call_min2 rfl) (by rfl) Z.N.min (by decide +kernel) (pa_cons pe_int (pa_cons (pe_callB call_len_seq (by rfl) Z.N.len (by decide +kernel) (pa_cons (pv 0) pa_nil)) pa_nil))) pa_nil))) pa_nil)) (pg_name (i := 1) scLaw.nd rfl (.inl rfl))
 (pss_cons (ps_set (i := 2) scLaw.nd rfl (.inl rfl) (pe_call GSc (hr.mono (by omega)) (by rfl) Z.gSc Z.FSc.kp Z.bSc .nil pass0 (pa_cons (pv 0) (pa_cons (pv 1) pa_nil))))
 (pss_cons (ps_set (i := 3) scLaw.nd rfl (.inl rfl) (pe_lst (pa_cons (pe_tup (pa_cons (pe_tupF (pa_cons pe_int pa_nil)) (pa_cons pe_int pa_nil))) (pa_cons (pe_tup (pa_cons (pe_tupF (pa_cons pe_int (pa_cons pe_int pa_nil))) (pa_cons pe_int pa_nil))) (pa_cons (pe_tup (pa_cons (pe_tupF (pa_cons pe_int (pa_cons pe_int pa_nil))) (pa_cons pe_int pa_nil))) (pa_cons (pe_tup (pa_cons (pe_tupF (pa_cons pe_int (pa_cons pe_int pa_nil))) (pa_cons pe_int pa_nil))) (pa_cons (pe_tup (pa_cons (pe_tupF (pa_cons pe_int (pa_cons pe_int pa_nil))) (pa_cons pe_int pa_nil))) (pa_cons (pe_tup (pa_cons (pe_tupF (pa_cons pe_int (pa_cons pe_int pa_nil))) (pa_cons pe_int pa_nil))) (pa_cons (pe_tup (pa_cons (pe_tupF (pa_cons pe_int (pa_cons pe_int pa_nil))) (pa_cons pe_int pa_nil))) (pa_cons (pe_tup (pa_cons (pe_tupF (pa_cons pe_int (pa_cons pe_int pa_nil))) (pa_cons pe_int pa_nil))) pa_nil))))))))))
 (pss_cons (ps_set (i := 3) scLaw.nd rfl (.inl rfl) (pe_op op_cat (pv 3) (pe_lst (pa_cons (pe_tup (pa_cons (pe_tupF (pa_cons pe_int (pa_cons pe_int pa_nil))) (pa_cons pe_int pa_nil))) (pa_cons (pe_tup (pa_cons (pe_tupF (pa_cons pe_int (pa_cons pe_int pa_nil))) (pa_cons pe_int pa_nil))) (pa_cons (pe_tup (pa_cons (pe_tupF (pa_cons pe_int (pa_cons pe_int pa_nil))) (pa_cons pe_int pa_nil))) (pa_cons (pe_tup (pa_cons (pe_tupF (pa_cons pe_int (pa_cons pe_int (pa_cons pe_int pa_nil)))) (pa_cons pe_int pa_nil))) (pa_cons (pe_tup (pa_cons (pe_tupF (pa_cons pe_int (pa_cons pe_int (pa_cons pe_int pa_nil)))) (pa_cons pe_int pa_nil))) pa_nil))))))))
 (pss_cons (ps_asg (pe_call GCo (hr.mono (by omega)) (by rfl) Z.gCo Z.FCo.kp Z.bCo .nil pass0 (pa_cons (pv 2) (pa_cons (pv 3) pa_nil))) (pg_tup (by rfl) (pgs_cons (pg_name (i := 4) scLaw.nd rfl (.inl rfl)) (pgs_cons (pg_name (i := 5) scLaw.nd rfl (.inl rfl)) pgs_nil))))
 (pss_cons (ps_set (i := 6) scLaw.nd rfl (.inl rfl) (pe_call GCo (hr.mono (by omega)) (by rfl) Z.gCo Z.FCo.kp Z.bCo .nil pass0 (pa_cons (pv 2) (pa_cons (pe_lst (pa_cons pe_str (pa_cons pe_str (pa_cons pe_str pa_nil)))) pa_nil))))
 (pss_cons (ps_par (i := 7) (j := 8) (by rfl) scLaw.nd rfl rfl (by decide) rfl rfl (pa_cons (pe_call GWp (hr.mono (by omega)) (by rfl) Z.gWp Z.FWp.kp Z.bWp .nil pass0 (pa_cons (pv 4) (pa_cons (pv 5) (pa_cons pe_str pa_nil)))) (pa_cons (pe_call GWp (hr.mono (by omega)) (by rfl) Z.gWp Z.FWp.kp Z.bWp .nil pass0 (pa_cons (pv 4) (pa_cons (pv 5) (pa_cons (pv 6) pa_nil)))) pa_nil)) (by rfl))
 (pss_cons (ps_set (i := 9) scLaw.nd rfl (.inl rfl) (pe_call GNu (hr.mono (by omega)) (by rfl) Z.gNu Z.FNu.kp Z.bNu .nil pass0 (pa_cons (pv 2) (pa_cons (pe_dget (by exact Nat.lt_of_le_of_lt (Nat.add_le_add_left (by decide) _) hu64) (pe_disp (pps_cons pe_int pe_int (pps_cons pe_int pe_int (pps_cons pe_int pe_int (pps_cons pe_int pe_int pps_nil)))) (by rfl) (by rfl) (fun z => by cases z) (by decide)) (pe_ix ix_tup (pv 4) (pe_un un_neg pe_int) (fun _ _ => rfl)) (fun _ _ => rfl)) pa_nil))))
 (pss_cons (ps_if (pt_cmpR op_ne (pe_call GSf (hr.mono (by omega)) (by rfl) Z.gSf Z.FSf.kp Z.bSf .nil pass0 (pa_cons (pv 4) (pa_cons (pv 5) (pa_cons (pv 9) (pa_cons (pe_tup pa_nil) pa_nil))))) (pe_cmpR op_ge (pv 9) (pv 7) (nomark _)) (nomark _))
 (pss_one (ps_ret pe_bl)) pss_nil)
 (pss_cons (ps_if (PW.pt (pw_and (pt_cmpR op_ge (pv 9) (pv 8) (nomark _)) (pw_and1 (pt_cmpR op_isnot_bl (pe_call GSf (hr.mono (by omega)) (by rfl) Z.gSf Z.FSf.kp Z.bSf .nil pass0 (pa_cons (pv 4) (pa_cons (pv 5) (pa_cons (pv 9) (pa_cons (pe_tup pa_nil) pa_nil))))) pe_bl (nomark _)))))
 (pss_one (ps_ret pe_bl)) pss_nil)
 (pss_one (ps_if (pt_cmpR op_lt (pv 7) (pe_dget (by exact Nat.lt_of_le_of_lt (Nat.add_le_add_left (by decide) _) hu64) (pe_disp (pps_cons pe_int pe_int (pps_cons pe_int pe_int (pps_cons pe_int pe_int (pps_cons pe_int pe_int pps_nil)))) (by rfl) (by rfl) (fun z => by cases z) (by decide)) (pe_ix ix_tup (pv 4) (pe_un un_neg pe_int) (fun _ _ => rfl)) (fun _ _ => rfl)) (nomark _))
 (pss_cons (ps_set (i := 10) scLaw.nd rfl (.inl rfl) (pe_call GWh (hr.mono (by omega)) (by rfl) Z.gWh Z.FWh.kp Z.bWh .nil pass0 (pa_cons (pv 4) (pa_cons (pv 5) (pa_cons pe_str pa_nil)))))
 (pss_cons (ps_set (i := 11) scLaw.nd rfl (.inl rfl) (pe_meth0 (pe_call GRy (hr.mono (by omega)) (by rfl) Z.gRy Z.FRy.kp Z.bRy .nil pass0 (pa_cons (pv 4) (pa_cons (pv 7) (pa_cons (pv 5) (pa_cons (pv 10) pa_nil))))) Z.clHeap Z.mHs GHs (hr.mono (by omega)) Z.bHs .nil pass0))
 (pss_one (ps_if (pt_cmpR op_isnot_bl (pe_call GSf (hr.mono (by omega)) (by rfl) Z.gSf Z.FSf.kp Z.bSf .nil pass0 (pa_cons (pv 4) (pa_cons (pv 5) (pa_cons (pv 7) (pa_cons (pv 11) pa_nil))))) pe_bl (nomark _))
 (pss_one (ps_ret pe_bl)) pss_nil)))) pss_nil))))))))))))
 (pss_one (ps_ret pe_bl))), ?_⟩
    refine ⟨.ref a, rfl, a, _, rfl, .inl hS, _, _, rfl, _, _, rfl, ?_⟩
    rw [List.length_map]
    generalize hz : (if (if (ns.length : Int) < 2 then (ns.length : Int) else 2) > 1 then (if (ns.length : Int) < 2 then (ns.length : Int) else 2) else (1 : Int)) = z
    have z3 : 0 ≤ z ∧ z ≤ 2 := by
      rw [← hz]
      split <;> split <;> omega
    refine ⟨z, rfl, by omega, by omega, ?_⟩
    refine for_range (lo := 0) (n := z.toNat) (fun i σ H2 => ∃ y1 y2 y3 y4 y5 y6 y7 y8 y9 y10 y11, σ = [some (.ref a), y1, y2, y3, y4, y5, y6, y7, y8, y9, y10, y11] ∧ LamX.ExtN H H2 ∧ LamX.Tabs [(Z.pPp, tkN)] H2) ⟨_, _, _, _, _, _, _, _, _, _, _, rfl, .refl _, tabs⟩ ?_ ?_
    · rintro i σ H2 hi ⟨y1, y2, y3, y4, y5, y6, y7, y8, y9, y10, y11, rfl, x2, tb2⟩
      have e : (0 : Int) + (i : Int) = ((i : Nat) : Int) := by omega
      refine ⟨.ref a, rfl, .int (0 + (i : Int)), rfl, a, ns, i, by rw [e]; rfl, ext_seq x2 hS, by omega, fun HS q s3 nq hq3 => ?_⟩
      have tb3 := tabs_same tb2 s3
      dsimp only [gName]
      refine ⟨(by show 1 ≤ sizeLine; decide), fun a1 o1 n1 d1 => ⟨(by show 2 ≤ sizeLine; decide), fun b1 m1 => ?_⟩⟩
      obtain ⟨s1, v1⟩ := setF_new (ys := [.ref a1, .int 3]) n1 d1 m1 setsG [1] [3] (by simp [setsG]) rfl rfl
      generalize upd (upd HS a1 _) b1 _ = H1 at *
      refine ⟨(by show 2 ≤ sizeLine; decide), fun a2 o2 n2 d2 => ⟨(by show 2 ≤ sizeLine; decide), fun b2 m2 => ?_⟩⟩
      obtain ⟨s2, v2⟩ := setF_new (ys := [.ref a2, .int 0]) n2 d2 m2 setsG [1, 2] [0] (by simp [setsG]) rfl rfl
      replace v1 := v1.kt (Same.kt s2)
      replace s2 := s1.trans s2
      generalize upd (upd H1 a2 _) b2 _ = H2 at *
      refine ⟨(by show 2 ≤ sizeLine; decide), fun a3 o3 n3 d3 => ⟨(by show 2 ≤ sizeLine; decide), fun b3 m3 => ?_⟩⟩
      obtain ⟨s3, v3⟩ := setF_new (ys := [.ref a3, .int 1]) n3 d3 m3 setsG [1, 2] [1] (by simp [setsG]) rfl rfl
      replace v1 := v1.kt (Same.kt s3)
      replace v2 := v2.kt (Same.kt s3)
      replace s3 := s2.trans s3
      generalize upd (upd H2 a3 _) b3 _ = H3 at *
      refine ⟨(by show 2 ≤ sizeLine; decide), fun a4 o4 n4 d4 => ⟨(by show 2 ≤ sizeLine; decide), fun b4 m4 => ?_⟩⟩
      obtain ⟨s4, v4⟩ := setF_new (ys := [.ref a4, .int 2]) n4 d4 m4 setsG [1, 2] [2] (by simp [setsG]) rfl rfl
      replace v1 := v1.kt (Same.kt s4)
      replace v2 := v2.kt (Same.kt s4)
      replace v3 := v3.kt (Same.kt s4)
      replace s4 := s3.trans s4
      generalize upd (upd H3 a4 _) b4 _ = H4 at *
      refine ⟨(by show 2 ≤ sizeLine; decide), fun a5 o5 n5 d5 => ⟨(by show 2 ≤ sizeLine; decide), fun b5 m5 => ?_⟩⟩
      obtain ⟨s5, v5⟩ := setF_new (ys := [.ref a5, .int 3]) n5 d5 m5 setsG [1, 2] [3] (by simp [setsG]) rfl rfl
      replace v1 := v1.kt (Same.kt s5)
      replace v2 := v2.kt (Same.kt s5)
      replace v3 := v3.kt (Same.kt s5)
      replace v4 := v4.kt (Same.kt s5)
      replace s5 := s4.trans s5
      generalize upd (upd H4 a5 _) b5 _ = H5 at *
      refine ⟨(by show 2 ≤ sizeLine; decide), fun a6 o6 n6 d6 => ⟨(by show 2 ≤ sizeLine; decide), fun b6 m6 => ?_⟩⟩
      obtain ⟨s6, v6⟩ := setF_new (ys := [.ref a6, .int 4]) n6 d6 m6 setsG [1, 2] [4] (by simp [setsG]) rfl rfl
      replace v1 := v1.kt (Same.kt s6)
      replace v2 := v2.kt (Same.kt s6)
      replace v3 := v3.kt (Same.kt s6)
      replace v4 := v4.kt (Same.kt s6)
      replace v5 := v5.kt (Same.kt s6)
      replace s6 := s5.trans s6
      generalize upd (upd H5 a6 _) b6 _ = H6 at *
      refine ⟨(by show 2 ≤ sizeLine; decide), fun a7 o7 n7 d7 => ⟨(by show 2 ≤ sizeLine; decide), fun b7 m7 => ?_⟩⟩
      obtain ⟨s7, v7⟩ := setF_new (ys := [.ref a7, .int 2]) n7 d7 m7 setsG [1, 3] [2] (by simp [setsG]) rfl rfl
      replace v1 := v1.kt (Same.kt s7)
      replace v2 := v2.kt (Same.kt s7)
      replace v3 := v3.kt (Same.kt s7)
      replace v4 := v4.kt (Same.kt s7)
      replace v5 := v5.kt (Same.kt s7)
      replace v6 := v6.kt (Same.kt s7)
      replace s7 := s6.trans s7
      generalize upd (upd H6 a7 _) b7 _ = H7 at *
      refine ⟨(by show 2 ≤ sizeLine; decide), fun a8 o8 n8 d8 => ⟨(by show 2 ≤ sizeLine; decide), fun b8 m8 => ?_⟩⟩
      obtain ⟨s8, v8⟩ := setF_new (ys := [.ref a8, .int 3]) n8 d8 m8 setsG [1, 3] [3] (by simp [setsG]) rfl rfl
      replace v1 := v1.kt (Same.kt s8)
      replace v2 := v2.kt (Same.kt s8)
      replace v3 := v3.kt (Same.kt s8)
      replace v4 := v4.kt (Same.kt s8)
      replace v5 := v5.kt (Same.kt s8)
      replace v6 := v6.kt (Same.kt s8)
      replace v7 := v7.kt (Same.kt s8)
      replace s8 := s7.trans s8
      generalize upd (upd H7 a8 _) b8 _ = H8 at *
      refine ⟨(by show 8 ≤ sizeLine; decide), fun D nD => ?_⟩
      have sD := same_upd (o := .lst [V.ref b1, V.ref b2, V.ref b3, V.ref b4, V.ref b5, V.ref b6, V.ref b7, V.ref b8]) nD
      have allD : ∀ x ∈ [V.ref b1, V.ref b2, V.ref b3, V.ref b4, V.ref b5, V.ref b6, V.ref b7, V.ref b8], SetF setsG (upd H8 D (.lst [V.ref b1, V.ref b2, V.ref b3, V.ref b4, V.ref b5, V.ref b6, V.ref b7, V.ref b8])) x := fun x hx => by
        have : SetF setsG H8 x := by
          simp only [List.mem_cons, List.not_mem_nil, or_false] at hx
          rcases hx with rfl | rfl | rfl | rfl | rfl | rfl | rfl | rfl <;> assumption
        exact this.kt (Same.kt sD)
      have hD : upd H8 D (.lst [V.ref b1, V.ref b2, V.ref b3, V.ref b4, V.ref b5, V.ref b6, V.ref b7, V.ref b8]) D = some (.lst [V.ref b1, V.ref b2, V.ref b3, V.ref b4, V.ref b5, V.ref b6, V.ref b7, V.ref b8]) := upd_same
      replace sD := s8.trans sD
      generalize upd H8 D (.lst [V.ref b1, V.ref b2, V.ref b3, V.ref b4, V.ref b5, V.ref b6, V.ref b7, V.ref b8]) = HD at *
      have lenD : ([V.ref b1, V.ref b2, V.ref b3, V.ref b4, V.ref b5, V.ref b6, V.ref b7, V.ref b8] : List V).length = 8 := rfl
      have neD : ([V.ref b1, V.ref b2, V.ref b3, V.ref b4, V.ref b5, V.ref b6, V.ref b7, V.ref b8] : List V) ≠ [] := List.cons_ne_nil _ _
      clear v1 v2 v3 v4 v5 v6 v7 v8 d1 d2 d3 d4 d5 d6 d7 d8 n1 n2 n3 n4 n5 n6 n7 n8 m1 m2 m3 m4 m5 m6 m7 m8 s1 s2 s3 s4 s5 s6 s7 s8
      dsimp only [gName]
      refine ⟨.ref D, rfl, ?_⟩
      refine ⟨(by show 2 ≤ sizeLine; decide), fun a11 o11 n11 d11 => ⟨(by show 2 ≤ sizeLine; decide), fun b11 m11 => ?_⟩⟩
      obtain ⟨s11, v11⟩ := setF_new (ys := [.ref a11, .int 4]) n11 d11 m11 setsG [1, 3] [4] (by simp [setsG]) rfl rfl
      generalize upd (upd HD a11 _) b11 _ = H11 at *
      refine ⟨(by show 2 ≤ sizeLine; decide), fun a12 o12 n12 d12 => ⟨(by show 2 ≤ sizeLine; decide), fun b12 m12 => ?_⟩⟩
      obtain ⟨s12, v12⟩ := setF_new (ys := [.ref a12, .int 3]) n12 d12 m12 setsG [1, 4] [3] (by simp [setsG]) rfl rfl
      replace v11 := v11.kt (Same.kt s12)
      replace s12 := s11.trans s12
      generalize upd (upd H11 a12 _) b12 _ = H12 at *
      refine ⟨(by show 2 ≤ sizeLine; decide), fun a13 o13 n13 d13 => ⟨(by show 2 ≤ sizeLine; decide), fun b13 m13 => ?_⟩⟩
      obtain ⟨s13, v13⟩ := setF_new (ys := [.ref a13, .int 4]) n13 d13 m13 setsG [1, 4] [4] (by simp [setsG]) rfl rfl
      replace v11 := v11.kt (Same.kt s13)
      replace v12 := v12.kt (Same.kt s13)
      replace s13 := s12.trans s13
      generalize upd (upd H12 a13 _) b13 _ = H13 at *
      refine ⟨(by show 3 ≤ sizeLine; decide), fun a14 o14 n14 d14 => ⟨(by show 2 ≤ sizeLine; decide), fun b14 m14 => ?_⟩⟩
      obtain ⟨s14, v14⟩ := setF_new (ys := [.ref a14, .int 3]) n14 d14 m14 setsG [1, 2, 4] [3] (by simp [setsG]) rfl rfl
      replace v11 := v11.kt (Same.kt s14)
      replace v12 := v12.kt (Same.kt s14)
      replace v13 := v13.kt (Same.kt s14)
      replace s14 := s13.trans s14
      generalize upd (upd H13 a14 _) b14 _ = H14 at *
      refine ⟨(by show 3 ≤ sizeLine; decide), fun a15 o15 n15 d15 => ⟨(by show 2 ≤ sizeLine; decide), fun b15 m15 => ?_⟩⟩
      obtain ⟨s15, v15⟩ := setF_new (ys := [.ref a15, .int 4]) n15 d15 m15 setsG [1, 2, 4] [4] (by simp [setsG]) rfl rfl
      replace v11 := v11.kt (Same.kt s15)
      replace v12 := v12.kt (Same.kt s15)
      replace v13 := v13.kt (Same.kt s15)
      replace v14 := v14.kt (Same.kt s15)
      replace s15 := s14.trans s15
      generalize upd (upd H14 a15 _) b15 _ = H15 at *
      refine ⟨(by show 5 ≤ sizeLine; decide), fun F nF => ?_⟩
      have sF := same_upd (o := .lst [V.ref b11, V.ref b12, V.ref b13, V.ref b14, V.ref b15]) nF
      have allF : ∀ x ∈ [V.ref b11, V.ref b12, V.ref b13, V.ref b14, V.ref b15], SetF setsG (upd H15 F (.lst [V.ref b11, V.ref b12, V.ref b13, V.ref b14, V.ref b15])) x := fun x hx => by
        have : SetF setsG H15 x := by
          simp only [List.mem_cons, List.not_mem_nil, or_false] at hx
          rcases hx with rfl | rfl | rfl | rfl | rfl <;> assumption
        exact this.kt (Same.kt sF)
      have hF : upd H15 F (.lst [V.ref b11, V.ref b12, V.ref b13, V.ref b14, V.ref b15]) F = some (.lst [V.ref b11, V.ref b12, V.ref b13, V.ref b14, V.ref b15]) := upd_same
      replace sF := s15.trans sF
      generalize upd H15 F (.lst [V.ref b11, V.ref b12, V.ref b13, V.ref b14, V.ref b15]) = HF at *
      have lenF : ([V.ref b11, V.ref b12, V.ref b13, V.ref b14, V.ref b15] : List V).length = 5 := rfl
      have neF : ([V.ref b11, V.ref b12, V.ref b13, V.ref b14, V.ref b15] : List V) ≠ [] := List.cons_ne_nil _ _
      clear v11 v12 v13 v14 v15 d11 d12 d13 d14 d15 n11 n12 n13 n14 n15 m11 m12 m13 m14 m15 s11 s12 s13 s14 s15
      have hDF := sF _ _ hD
      generalize hxs : [V.ref b1, V.ref b2, V.ref b3, V.ref b4, V.ref b5, V.ref b6, V.ref b7, V.ref b8] = xs at *
      generalize hzs : [V.ref b11, V.ref b12, V.ref b13, V.ref b14, V.ref b15] = zs at *
      refine ⟨D, F, xs, zs, rfl, rfl, hDF, hF, by rw [lenD, lenF]; decide, fun X nX => ?_⟩
      have s3F : Same HS HF := sD.trans sF
      have nXq : X ≠ q := ((hq3.same s3F).po.ne_none nX).symm
      have sX := same_upd (o := .lst (xs ++ zs)) nX
      have hX : upd HF X (.lst (xs ++ zs)) X = some (.lst (xs ++ zs)) := upd_same
      have allX : ∀ x ∈ xs ++ zs, SetF setsG (upd HF X (.lst (xs ++ zs))) x := fun x hx => by
        rcases List.mem_append.mp hx with h | h
        · exact ((allD x h).kt (Same.kt sF)).kt (Same.kt sX)
        · exact (allF x h).kt (Same.kt sX)
      have s3X : Same HS (upd HF X (.lst (xs ++ zs))) := s3F.trans sX
      have lenX : (xs ++ zs).length = 13 := by rw [List.length_append, lenD, lenF]
      generalize upd HF X (.lst (xs ++ zs)) = HX at *
      generalize xs ++ zs = us at *
      clear hxs hzs allD allF lenD lenF neD neF hDF hD hF sD sF sX s3F
      have neX : us ≠ [] := fun e => by rw [e] at lenX; cases lenX
      have hqX := hq3.same s3X
      dsimp only [gName]
      refine ⟨.ref q, rfl, .ref X, rfl, q, X, us, _, rfl, hqX, by omega, .inl (.inl (.inl hX)), nXq, neX, by omega, fun HA x bA hqA hx => ?_⟩
      obtain ⟨T, c, L, zs2, rfl, hT, hc, hLz⟩ := (allX x hx).kt (so_ktN hqX bA)
      obtain ⟨sz, p, M, eL, rfl, cn, p5, M6, few, sp1, sp4, smls⟩ := cnG_of hLz
      rw [eL] at hc
      have tbA := so_but hqX (tabs_same tb3 s3X) bA
      have b3A : ButN q HS HA := fun b o n e t => bA _ _ n (s3X _ _ e)
      have nwq : Nw H q := .of x2 nq
      have xA : LamX.ExtN H HA := x2.trans (ext_butS (.of s3) nq b3A)
      clear hX allX hqX nXq neX lenX s3X bA b3A s3 nq hq3 tb3 hLz eL hx x2 tb2
      refine ⟨T, _, rfl, .inl (.inl hT), rfl, _, _, rfl, _, _, rfl, rfl, ?_⟩
      clear hT
      have ch := cn.ch
      have cn24 : Cn sz p 24 := ⟨cn.ch, cn.two, by have := cn.top; omega⟩
      dsimp only [gName]
      refine ⟨.ref q, rfl, (by show 3 ≤ sizeLine; decide), fun l nl => ?_⟩
      have sl := same_upd (o := .lst [.str "highest", .str "tight", .str "loose"]) nl
      have hl5 : upd HA l (.lst [.str "highest", .str "tight", .str "loose"]) l = some (.lst [.str "highest", .str "tight", .str "loose"]) := upd_same
      have nlq : l ≠ q := (hqA.po.ne_none nl).symm
      have hqM := hqA.same sl
      have tbM := tabs_same tbA sl
      have xM := xA.trans (.of sl)
      have hcM := hc.keep sl
      generalize upd HA l _ = HM at *
      clear hqA tbA xA hc sl
      refine ⟨q, l, _, _, rfl, hqM, by omega, .inl (.inl (.inl hl5)), nlq, List.cons_ne_nil _ _, by simp, fun HN x bN hqN hx => ?_⟩
      obtain ⟨r, rfl, hr4⟩ : ∃ r, x = .str r ∧ IsRule r := by
        simp only [List.mem_cons, List.not_mem_nil, or_false] at hx
        rcases hx with e | e | e
        · exact ⟨_, e, .inr (.inl rfl)⟩
        · exact ⟨_, e, .inr (.inr (.inl rfl))⟩
        · exact ⟨_, e, .inr (.inr (.inr rfl))⟩
      have tbN := so_but hqM tbM bN
      have xN := ext_butN xM nwq bN
      have hcN : ChAt HN c (tl sz (p + 1)) := hcM.frz fun o u e => bN _ _ (so_frz hqM e) e
      clear hqM tbM xM hcM bN hl5 hx
      refine ⟨.ref c, rfl, .int M, rfl, "lowest", c, sz, p, M, rfl, .inl rfl, hcN, ⟨cn24, by omega, by omega⟩, few _, tbN, fun HP x xP tbP ⟨n1, bs1, rn1⟩ all1 => ?_⟩
      have ex : x = bfn sz (fun _ => 0) M p / sz p := Nat.le_antisymm (low_ge cn rn1) (need_le cn (.inl rfl) all1)
      have hcP : ChAt HP c (tl sz (p + 1)) := ext_ch xP hcN
      refine ⟨.ref c, rfl, .int M, rfl, .str r, rfl, r, c, sz, p, M, rfl, hr4, hcP, ⟨cn24, by omega, by omega⟩, few _, tbP, fun HQ y xQ tbQ ⟨n2, bs2, rn2⟩ all2 => ?_⟩
      have g1 := need_le cn hr4 all2
      have hcQ : ChAt HQ c (tl sz (p + 1)) := ext_ch xQ hcP
      have xQ' := (xN.trans xP).trans xQ
      refine ⟨_, _, rfl, ?_⟩
      subst ex
      have hqQ := so_ext (so_ext hqN xP) xQ
      have nwQ : Nw H q := nwq
      dsimp only
      obtain ⟨bp2, bp6⟩ := bnd_pos (sz p)
      refine ⟨.ref q, rfl, fun I nI => ⟨upd_same, [(Sum.inl 1, V.int 6), (Sum.inl 2, V.int 4), (Sum.inl 3, V.int 3), (Sum.inl 4, V.int 2)], rfl, by decide, ?_⟩⟩
      have sI : Same HQ (upd (upd HQ I (.dK [])) I (.dK (mergeK [] ([(Sum.inl 1, V.int 6), (Sum.inl 2, V.int 4), (Sum.inl 3, V.int 3), (Sum.inl 4, V.int 2)] : List (Key × V))))) := fun a o e => by rw [upd_ne (ne_of_none e nI), upd_ne (ne_of_none e nI)]; exact e
      have hI : upd (upd HQ I (.dK [])) I (.dK (mergeK [] ([(Sum.inl 1, V.int 6), (Sum.inl 2, V.int 4), (Sum.inl 3, V.int 3), (Sum.inl 4, V.int 2)] : List (Key × V)))) I = some (.dK (mergeK [] ([(Sum.inl 1, V.int 6), (Sum.inl 2, V.int 4), (Sum.inl 3, V.int 3), (Sum.inl 4, V.int 2)] : List (Key × V)))) := upd_same
      have dg := DGet.k (k := (Sum.inl ((sz p : Nat) : Int) : Key)) hI
      rw [bnd_val sp1 sp4] at dg
      have hcI := hcQ.keep sI
      have hqI := hqQ.same sI
      have tbI := tabs_same tbQ sI
      have xI := xQ'.trans (.of sI)
      refine ⟨.ref c, rfl, 1, rfl, c, _, -1, _, rfl, rfl, hcI.sq, tl_atL, I, _, rfl, dg, q, ((bnd (sz p) : Nat) : Int), _, rfl, hqI, by omega, by omega, by omega, fun HR d bR hqR d0 d1 => ?_⟩
      obtain ⟨n, rfl, hn⟩ : ∃ n : Nat, d = (n : Int) ∧ n < bnd (sz p) := ⟨d.toNat, by omega, by omega⟩
      have hcR : ChAt HR c (tl sz (p + 1)) := hcI.frz fun o u e => bR _ _ (so_frz hqI e) e
      have tbR := so_but hqI tbI bR
      have xR := ext_butN xI nwq bR
      clear dg hI sI hcQ hqQ tbQ xQ' hcI hqI tbI xI bR
      dsimp only [gName]
      refine ⟨.ref c, rfl, .int M, rfl, .int n, rfl, (by show 0 ≤ sizeLine; decide), fun A1 nA1 => ?_⟩
      have sA1 := same_upd (o := .tup []) nA1
      have tA1 : StAt (upd HR A1 (.tup [])) A1 [] := ⟨[], upd_same, .nil⟩
      refine ⟨c, A1, sz, p, n, M, 12, [], rfl, ⟨hcR.keep sA1, cn, smls n hn, tA1, Gst.nil⟩, fun HS1 b1 s1 hb1 => ?_⟩
      have eb1 : b1 = decide (((bfn sz (fun _ => 0) M p / sz p : Nat) : Int) ≤ (n : Int)) := Bool.eq_iff_iff.mpr (hb1.trans ((safe_iff cn).trans ⟨fun h => decide_eq_true (Int.ofNat_le.mpr h), fun h => Int.ofNat_le.mp (of_decide_eq_true h)⟩))
      have hcS := (hcR.keep sA1).keep s1
      have tbS := tabs_same (tabs_same tbR sA1) s1
      have xS := (xR.trans (.of sA1)).trans (.of s1)
      clear hcR tbR xR tA1 sA1 s1 nA1 hb1
      subst eb1
      refine ⟨.int n, rfl, .int _, rfl, _, _, rfl, rfl, rfl, _, rfl, ite2 (fun c0 => absurd c0 (by simp)) (fun _ => ?_)⟩
      dsimp only [tNext]
      refine seq_splitR (fun σ' H' => σ' = [some (.ref a), some (.int (0 + (i : Int))), some (.ref q), some (.ref X), some (.ref c), some (.int M), some (.str r), some (.int ((bfn sz (fun _ => 0) M p / sz p : Nat) : Int)), some (.int ((y : Nat) : Int)), some (.int (n : Int)), y10, y11] ∧ Same HS1 H') (fun D' rt' hD' => ?_) ?_
      · refine ⟨.int _, rfl, .int _, rfl, _, _, rfl, rfl, _, rfl, ite2 (fun c1 => ?_) (fun _ => hD' _ _ ⟨rfl, Same.refl _⟩)⟩
        have le1 : y ≤ n := Int.ofNat_le.mp (of_decide_eq_true c1)
        refine ⟨.ref c, rfl, .int M, rfl, .int n, rfl, (by show 0 ≤ sizeLine; decide), fun A2 nA2 => ?_⟩
        have sA2 := same_upd (o := .tup []) nA2
        have tA2 : StAt (upd HS1 A2 (.tup [])) A2 [] := ⟨[], upd_same, .nil⟩
        refine ⟨c, A2, sz, p, n, M, 12, [], rfl, ⟨hcS.keep sA2, cn, smls n hn, tA2, Gst.nil⟩, fun HS2 b2 s2 hb2 => ?_⟩
        obtain rfl : b2 = true := hb2.mpr ((safe_iff cn).mpr (Nat.le_trans g1 le1))
        exact ⟨true, true, rfl, rfl, _, rfl, ite2 (fun c2 => absurd c2 (by decide)) (fun _ => hD' _ _ ⟨rfl, sA2.trans s2⟩)⟩
      rintro σ' HS2 ⟨rfl, s2⟩
      have hcT := hcS.keep s2
      have tbT := tabs_same tbS s2
      have xT := xS.trans (.of s2)
      clear hcS tbS xS s2
      refine ⟨.int _, rfl, fun J nJ => ⟨upd_same, [(Sum.inl 1, V.int 6), (Sum.inl 2, V.int 4), (Sum.inl 3, V.int 3), (Sum.inl 4, V.int 2)], rfl, by decide, ?_⟩⟩
      have sJ : Same HS2 (upd (upd HS2 J (.dK [])) J (.dK (mergeK [] ([(Sum.inl 1, V.int 6), (Sum.inl 2, V.int 4), (Sum.inl 3, V.int 3), (Sum.inl 4, V.int 2)] : List (Key × V))))) := fun a o e => by rw [upd_ne (ne_of_none e nJ), upd_ne (ne_of_none e nJ)]; exact e
      have hJ : upd (upd HS2 J (.dK [])) J (.dK (mergeK [] ([(Sum.inl 1, V.int 6), (Sum.inl 2, V.int 4), (Sum.inl 3, V.int 3), (Sum.inl 4, V.int 2)] : List (Key × V)))) J = some (.dK (mergeK [] ([(Sum.inl 1, V.int 6), (Sum.inl 2, V.int 4), (Sum.inl 3, V.int 3), (Sum.inl 4, V.int 2)] : List (Key × V)))) := upd_same
      have dg := DGet.k (k := (Sum.inl ((sz p : Nat) : Int) : Key)) hJ
      rw [bnd_val sp1 sp4] at dg
      have hcU := hcT.keep sJ
      have tbU := tabs_same tbT sJ
      have xU := xT.trans (.of sJ)
      refine ⟨.ref c, rfl, 1, rfl, c, _, -1, _, rfl, rfl, hcU.sq, tl_atL, J, _, rfl, dg, _, _, rfl, rfl, _, rfl, ite2 (fun c3 => ?_) (fun _ => ⟨_, _, _, _, _, _, _, _, _, _, _, rfl, xU, tbU⟩)⟩
      have lb : bfn sz (fun _ => 0) M p / sz p < bnd (sz p) := Int.ofNat_lt.mp (of_decide_eq_true c3)
      clear dg hJ sJ hcT tbT xT
      generalize upd (upd HS2 J (.dK [])) J _ = HU at *
      refine ⟨.ref c, rfl, .int M, rfl, "lowest", c, sz, p, M, rfl, .inl rfl, hcU, ⟨cn24, by omega, by omega⟩, few _, tbU, fun HV u ts xl bsl xV tbV ev tsl gw top _ => ?_⟩
      have rnl : Rn "lowest" sz p M ts.reverse.length (xl, bsl) := ⟨_, rfl, gw⟩
      obtain rfl : xl = bfn sz (fun _ => 0) M p / sz p := Nat.le_antisymm (low_ge cn rnl) (need_le cn (.inl rfl) top)
      have hcV : ChAt HV c (tl sz (p + 1)) := ext_ch xV hcU
      have his : HisAt HV u ts := ev
      dsimp only [gName]
      refine ⟨.ref c, rfl, .int _, rfl, .int M, rfl, .ref u, rfl, c, u, sz, p, _, M, 24, ts, bsl, rfl, hcV, cn24, by omega, by omega, by omega, by omega, his, by omega, gw.hw cn24, fun HX2 h l2 sX2 nh nl2 hp => ?_⟩
      obtain ⟨dx, t9, xs9, a9⟩ := id hp
      have hcX := hcV.keep sX2
      have tbX := tabs_same tbV sX2
      have xX := (xU.trans xV).trans (.of sX2)
      refine ⟨h, dx, _, rfl, a9.ob, rfl, h, l2, c, "lowest", sz, p, _, M, bsl, ts, rfl, hp, fun t2 ht2 => ?_⟩
      have rvl := rnl.rv cn
      have gstl : Gst sz p M ((bfn sz (fun _ => 0) M p / sz p * sz p : Nat) : Int) bsl := by
        rw [Int.natCast_mul]
        exact ⟨rvl.st, rvl.sum⟩
      dsimp only [gName]
      refine ⟨.ref c, rfl, .int M, rfl, .int _, rfl, .ref t2, rfl, c, t2, sz, p, _, M, 12, bsl, rfl, ⟨hcX, cn, smls _ lb, ht2, gstl⟩, fun HZ b3 s3 hb3 => ?_⟩
      obtain rfl : b3 = true := hb3.mpr (fun j => fx_safe cn (.inl rfl) top rnl j)
      exact ⟨true, true, rfl, rfl, _, rfl, ite2 (fun c2 => absurd c2 (by decide)) (fun _ => ⟨_, _, _, _, _, _, _, _, _, _, _, rfl, xX.trans (.of s3), tabs_same tbX s3⟩)⟩
    · rintro σ H2 ⟨y1, y2, y3, y4, y5, y6, y7, y8, y9, y10, y11, rfl, _⟩
      exact fin _
end
end Ph

set_option maxHeartbeats 8000000
namespace Ph
open PySem PySem.Spec PyProof.Rows L2
theorem all_mk {l : PySem.W.OpenLaw} {w : World} {K : PySem.W.Frag} {h : Heap} {mg : Str → Option Value} {fa : Addr} (X : K.In h) (G : h.Ns mainGlobals mg) (hfa : mg "law" = some (.ref fa)) {q : Program} (TT : TabsTold q K h)
    {CHeap : Addr} (aCHeap : PySem.W.nsIn K mainGlobals "Heap" = some (some (.ref CHeap))) (pgHeap : PySem.W.plainGet K CHeap Str.empty = true) (hdHeap : PySem.W.hasDictIn K CHeap = true) (poHeap : PySem.W.plainOver K CHeap = true) (saHeap : PySem.W.findIn K (.ref CHeap) "__setattr__" = some (some (.builtin "object.__setattr__"))) (mkHeap : PySem.W.makesIn K CHeap = true) (kcHeap : PySem.W.keepIn K (.ref CHeap) = true)
    (naHeap_chain : PySem.W.findIn K (.ref CHeap) "chain" = some none)
    (naHeap_pages : PySem.W.findIn K (.ref CHeap) "pages" = some none)
    (naHeap_limit : PySem.W.findIn K (.ref CHeap) "limit" = some none)
    (naHeap_rule : PySem.W.findIn K (.ref CHeap) "rule" = some none)
    (naHeap_blocks : PySem.W.findIn K (.ref CHeap) "blocks" = some none)
    (naHeap_steps : PySem.W.findIn K (.ref CHeap) "steps" = some none)
    {CHeapError : Addr} (aCHeapError : PySem.W.nsIn K mainGlobals "HeapError" = some (some (.ref CHeapError)))
    (bxH : PySem.W.subIn K (.ref CHeapError) (.type "BaseException") = some true) (hdH : PySem.W.hasDictIn K CHeapError = true) (tyH : PySem.W.typeIn K (.ref CHeapError) = some (.type "type"))
    (zve : PySem.W.nsIn K mainGlobals "ValueError" = some none)
    (cgX : PySem.W.specialIn K (.builtin "object.__class__") "__get__" = some (some (.builtin "getset_descriptor.__get__"))) (ctX : PySem.W.takesIn K (.builtin "object.__class__") = some true)
    {t_MOST_SIZES : Tok} (v_MOST_SIZES : PySem.W.nsIn K mainGlobals "MOST_SIZES" = some (some (.int 12 t_MOST_SIZES)))
    {t_LARGEST_SIZE : Tok} (v_LARGEST_SIZE : PySem.W.nsIn K mainGlobals "LARGEST_SIZE" = some (some (.int 1000000000 t_LARGEST_SIZE)))
    {t_MOST_STATES : Tok} (v_MOST_STATES : PySem.W.nsIn K mainGlobals "MOST_STATES" = some (some (.int 20000 t_MOST_STATES)))
    {t_MOST_WORDS : Tok} (v_MOST_WORDS : PySem.W.nsIn K mainGlobals "MOST_WORDS" = some (some (.int 14 t_MOST_WORDS)))
    {a_RULES : Addr} {t_RULES0 t_RULES1 t_RULES2 t_RULES3 : Tok} {od_RULES : Option Addr} {nn_RULES : Nat} {sl_RULES : Array (Option Value)} (v_RULES : PySem.W.nsIn K mainGlobals "RULES" = some (some (.ref a_RULES))) (l_RULES : K.lookup a_RULES = some ⟨.type "tuple", od_RULES, .seq #[.str "lowest" t_RULES0, .str "highest" t_RULES1, .str "tight" t_RULES2, .str "loose" t_RULES3] nn_RULES, sl_RULES⟩)
    {f1 : Addr} {od1 an1 : Option Addr} {sl1 : Array (Option Value)} {oc1 kV1 dc1 pm1 cd1 ct1 : Value} (a1 : PySem.W.nsIn K mainGlobals "is_integer" = some (some (.ref f1))) (l1 : K.lookup f1 = some ⟨oc1, od1, .func (PySem.W.fnOf "is_integer" "is_integer" (defArgs (topS 16)) (defBody (topS 16)) (defScope (topS 16)) .none kV1 dc1 pm1 an1 cd1 ct1), sl1⟩) (c1 : PySem.W.codeIn K cd1 "is_integer" = true) (k1 : PySem.W.keepIn K (.ref f1) = true)
    {f2 : Addr} {od2 an2 : Option Addr} {sl2 : Array (Option Value)} {oc2 kV2 dc2 pm2 cd2 ct2 : Value} (a2 : PySem.W.nsIn K mainGlobals "divided_up" = some (some (.ref f2))) (l2 : K.lookup f2 = some ⟨oc2, od2, .func (PySem.W.fnOf "divided_up" "divided_up" (defArgs (topS 17)) (defBody (topS 17)) (defScope (topS 17)) .none kV2 dc2 pm2 an2 cd2 ct2), sl2⟩) (c2 : PySem.W.codeIn K cd2 "divided_up" = true) (k2 : PySem.W.keepIn K (.ref f2) = true)
    {f3 : Addr} {od3 an3 : Option Addr} {sl3 : Array (Option Value)} {oc3 kV3 dc3 pm3 cd3 ct3 : Value} (a3 : PySem.W.nsIn K mainGlobals "is_chain" = some (some (.ref f3))) (l3 : K.lookup f3 = some ⟨oc3, od3, .func (PySem.W.fnOf "is_chain" "is_chain" (defArgs (topS 21)) (defBody (topS 21)) (defScope (topS 21)) .none kV3 dc3 pm3 an3 cd3 ct3), sl3⟩) (c3 : PySem.W.codeIn K cd3 "is_chain" = true) (k3 : PySem.W.keepIn K (.ref f3) = true)
    {f4 : Addr} {od4 an4 : Option Addr} {sl4 : Array (Option Value)} {oc4 kV4 dc4 pm4 cd4 ct4 : Value} (a4 : PySem.W.nsIn K mainGlobals "may_follow" = some (some (.ref f4))) (l4 : K.lookup f4 = some ⟨oc4, od4, .func (PySem.W.fnOf "may_follow" "may_follow" (defArgs (topS 22)) (defBody (topS 22)) (defScope (topS 22)) .none kV4 dc4 pm4 an4 cd4 ct4), sl4⟩) (c4 : PySem.W.codeIn K cd4 "may_follow" = true) (k4 : PySem.W.keepIn K (.ref f4) = true)
    {f5 : Addr} {od5 an5 : Option Addr} {sl5 : Array (Option Value)} {oc5 kV5 dc5 pm5 cd5 ct5 : Value} (a5 : PySem.W.nsIn K mainGlobals "is_size" = some (some (.ref f5))) (l5 : K.lookup f5 = some ⟨oc5, od5, .func (PySem.W.fnOf "is_size" "is_size" (defArgs (topS 23)) (defBody (topS 23)) (defScope (topS 23)) .none kV5 dc5 pm5 an5 cd5 ct5), sl5⟩) (c5 : PySem.W.codeIn K cd5 "is_size" = true) (k5 : PySem.W.keepIn K (.ref f5) = true)
    {f6 : Addr} {od6 an6 : Option Addr} {sl6 : Array (Option Value)} {oc6 kV6 dc6 pm6 cd6 ct6 : Value} (a6 : PySem.W.nsIn K mainGlobals "class_of" = some (some (.ref f6))) (l6 : K.lookup f6 = some ⟨oc6, od6, .func (PySem.W.fnOf "class_of" "class_of" (defArgs (topS 24)) (defBody (topS 24)) (defScope (topS 24)) .none kV6 dc6 pm6 an6 cd6 ct6), sl6⟩) (c6 : PySem.W.codeIn K cd6 "class_of" = true) (k6 : PySem.W.keepIn K (.ref f6) = true)
    {f7 : Addr} {od7 an7 : Option Addr} {sl7 : Array (Option Value)} {oc7 kV7 dc7 pm7 cd7 ct7 : Value} (a7 : PySem.W.nsIn K mainGlobals "is_state" = some (some (.ref f7))) (l7 : K.lookup f7 = some ⟨oc7, od7, .func (PySem.W.fnOf "is_state" "is_state" (defArgs (topS 28)) (defBody (topS 28)) (defScope (topS 28)) .none kV7 dc7 pm7 an7 cd7 ct7), sl7⟩) (c7 : PySem.W.codeIn K cd7 "is_state" = true) (k7 : PySem.W.keepIn K (.ref f7) = true)
    {f8 : Addr} {od8 an8 : Option Addr} {sl8 : Array (Option Value)} {oc8 kV8 dc8 pm8 cd8 ct8 : Value} (a8 : PySem.W.nsIn K mainGlobals "is_block" = some (some (.ref f8))) (l8 : K.lookup f8 = some ⟨oc8, od8, .func (PySem.W.fnOf "is_block" "is_block" (defArgs (topS 29)) (defBody (topS 29)) (defScope (topS 29)) .none kV8 dc8 pm8 an8 cd8 ct8), sl8⟩) (c8 : PySem.W.codeIn K cd8 "is_block" = true) (k8 : PySem.W.keepIn K (.ref f8) = true)
    {f9 : Addr} {od9 an9 : Option Addr} {sl9 : Array (Option Value)} {oc9 kV9 dc9 pm9 cd9 ct9 : Value} (a9 : PySem.W.nsIn K mainGlobals "live_words" = some (some (.ref f9))) (l9 : K.lookup f9 = some ⟨oc9, od9, .func (PySem.W.fnOf "live_words" "live_words" (defArgs (topS 30)) (defBody (topS 30)) (defScope (topS 30)) .none kV9 dc9 pm9 an9 cd9 ct9), sl9⟩) (c9 : PySem.W.codeIn K cd9 "live_words" = true) (k9 : PySem.W.keepIn K (.ref f9) = true)
    {f10 : Addr} {od10 an10 : Option Addr} {sl10 : Array (Option Value)} {oc10 kV10 dc10 pm10 cd10 ct10 : Value} (a10 : PySem.W.nsIn K mainGlobals "places" = some (some (.ref f10))) (l10 : K.lookup f10 = some ⟨oc10, od10, .func (PySem.W.fnOf "places" "places" (defArgs (topS 31)) (defBody (topS 31)) (defScope (topS 31)) .none kV10 dc10 pm10 an10 cd10 ct10), sl10⟩) (c10 : PySem.W.codeIn K cd10 "places" = true) (k10 : PySem.W.keepIn K (.ref f10) = true)
    {f11 : Addr} {od11 an11 : Option Addr} {sl11 : Array (Option Value)} {oc11 kV11 dc11 pm11 cd11 ct11 : Value} (a11 : PySem.W.nsIn K mainGlobals "gaps" = some (some (.ref f11))) (l11 : K.lookup f11 = some ⟨oc11, od11, .func (PySem.W.fnOf "gaps" "gaps" (defArgs (topS 32)) (defBody (topS 32)) (defScope (topS 32)) .none kV11 dc11 pm11 an11 cd11 ct11), sl11⟩) (c11 : PySem.W.codeIn K cd11 "gaps" = true) (k11 : PySem.W.keepIn K (.ref f11) = true)
    {f12 : Addr} {od12 an12 : Option Addr} {sl12 : Array (Option Value)} {oc12 kV12 dc12 pm12 cd12 ct12 : Value} (a12 : PySem.W.nsIn K mainGlobals "is_place" = some (some (.ref f12))) (l12 : K.lookup f12 = some ⟨oc12, od12, .func (PySem.W.fnOf "is_place" "is_place" (defArgs (topS 33)) (defBody (topS 33)) (defScope (topS 33)) .none kV12 dc12 pm12 an12 cd12 ct12), sl12⟩) (c12 : PySem.W.codeIn K cd12 "is_place" = true) (k12 : PySem.W.keepIn K (.ref f12) = true)
    {f13 : Addr} {od13 an13 : Option Addr} {sl13 : Array (Option Value)} {oc13 kV13 dc13 pm13 cd13 ct13 : Value} (a13 : PySem.W.nsIn K mainGlobals "may_hold" = some (some (.ref f13))) (l13 : K.lookup f13 = some ⟨oc13, od13, .func (PySem.W.fnOf "may_hold" "may_hold" (defArgs (topS 34)) (defBody (topS 34)) (defScope (topS 34)) .none kV13 dc13 pm13 an13 cd13 ct13), sl13⟩) (c13 : PySem.W.codeIn K cd13 "may_hold" = true) (k13 : PySem.W.keepIn K (.ref f13) = true)
    {f14 : Addr} {od14 an14 : Option Addr} {sl14 : Array (Option Value)} {oc14 kV14 dc14 pm14 cd14 ct14 : Value} (a14 : PySem.W.nsIn K mainGlobals "with_block" = some (some (.ref f14))) (l14 : K.lookup f14 = some ⟨oc14, od14, .func (PySem.W.fnOf "with_block" "with_block" (defArgs (topS 35)) (defBody (topS 35)) (defScope (topS 35)) .none kV14 dc14 pm14 an14 cd14 ct14), sl14⟩) (c14 : PySem.W.codeIn K cd14 "with_block" = true) (k14 : PySem.W.keepIn K (.ref f14) = true)
    {f15 : Addr} {od15 an15 : Option Addr} {sl15 : Array (Option Value)} {oc15 kV15 dc15 pm15 cd15 ct15 : Value} (a15 : PySem.W.nsIn K mainGlobals "without_block" = some (some (.ref f15))) (l15 : K.lookup f15 = some ⟨oc15, od15, .func (PySem.W.fnOf "without_block" "without_block" (defArgs (topS 36)) (defBody (topS 36)) (defScope (topS 36)) .none kV15 dc15 pm15 an15 cd15 ct15), sl15⟩) (c15 : PySem.W.codeIn K cd15 "without_block" = true) (k15 : PySem.W.keepIn K (.ref f15) = true)
    {f16 : Addr} {od16 an16 : Option Addr} {sl16 : Array (Option Value)} {oc16 kV16 dc16 pm16 cd16 ct16 : Value} (a16 : PySem.W.nsIn K mainGlobals "has_block" = some (some (.ref f16))) (l16 : K.lookup f16 = some ⟨oc16, od16, .func (PySem.W.fnOf "has_block" "has_block" (defArgs (topS 37)) (defBody (topS 37)) (defScope (topS 37)) .none kV16 dc16 pm16 an16 cd16 ct16), sl16⟩) (c16 : PySem.W.codeIn K cd16 "has_block" = true) (k16 : PySem.W.keepIn K (.ref f16) = true)
    {f17 : Addr} {od17 an17 : Option Addr} {sl17 : Array (Option Value)} {oc17 kV17 dc17 pm17 cd17 ct17 : Value} (a17 : PySem.W.nsIn K mainGlobals "count_states" = some (some (.ref f17))) (l17 : K.lookup f17 = some ⟨oc17, od17, .func (PySem.W.fnOf "count_states" "count_states" (defArgs (topS 38)) (defBody (topS 38)) (defScope (topS 38)) .none kV17 dc17 pm17 an17 cd17 ct17), sl17⟩) (c17 : PySem.W.codeIn K cd17 "count_states" = true) (k17 : PySem.W.keepIn K (.ref f17) = true)
    {f18 : Addr} {od18 an18 : Option Addr} {sl18 : Array (Option Value)} {oc18 kV18 dc18 pm18 cd18 ct18 : Value} (a18 : PySem.W.nsIn K mainGlobals "power" = some (some (.ref f18))) (l18 : K.lookup f18 = some ⟨oc18, od18, .func (PySem.W.fnOf "power" "power" (defArgs (topS 39)) (defBody (topS 39)) (defScope (topS 39)) .none kV18 dc18 pm18 an18 cd18 ct18), sl18⟩) (c18 : PySem.W.codeIn K cd18 "power" = true) (k18 : PySem.W.keepIn K (.ref f18) = true)
    {f19 : Addr} {od19 an19 : Option Addr} {sl19 : Array (Option Value)} {oc19 kV19 dc19 pm19 cd19 ct19 : Value} (a19 : PySem.W.nsIn K mainGlobals "check_many" = some (some (.ref f19))) (l19 : K.lookup f19 = some ⟨oc19, od19, .func (PySem.W.fnOf "check_many" "check_many" (defArgs (topS 40)) (defBody (topS 40)) (defScope (topS 40)) .none kV19 dc19 pm19 an19 cd19 ct19), sl19⟩) (c19 : PySem.W.codeIn K cd19 "check_many" = true) (k19 : PySem.W.keepIn K (.ref f19) = true)
    {f20 : Addr} {od20 an20 : Option Addr} {sl20 : Array (Option Value)} {oc20 kV20 dc20 pm20 cd20 ct20 : Value} (a20 : PySem.W.nsIn K mainGlobals "check_heap" = some (some (.ref f20))) (l20 : K.lookup f20 = some ⟨oc20, od20, .func (PySem.W.fnOf "check_heap" "check_heap" (defArgs (topS 41)) (defBody (topS 41)) (defScope (topS 41)) .none kV20 dc20 pm20 an20 cd20 ct20), sl20⟩) (c20 : PySem.W.codeIn K cd20 "check_heap" = true) (k20 : PySem.W.keepIn K (.ref f20) = true)
    {f21 : Addr} {od21 an21 : Option Addr} {sl21 : Array (Option Value)} {oc21 kV21 dc21 pm21 cd21 ct21 : Value} (a21 : PySem.W.nsIn K mainGlobals "all_states" = some (some (.ref f21))) (l21 : K.lookup f21 = some ⟨oc21, od21, .func (PySem.W.fnOf "all_states" "all_states" (defArgs (topS 42)) (defBody (topS 42)) (defScope (topS 42)) .none kV21 dc21 pm21 an21 cd21 ct21), sl21⟩) (c21 : PySem.W.codeIn K cd21 "all_states" = true) (k21 : PySem.W.keepIn K (.ref f21) = true)
    {f22 : Addr} {od22 an22 : Option Addr} {sl22 : Array (Option Value)} {oc22 kV22 dc22 pm22 cd22 ct22 : Value} (a22 : PySem.W.nsIn K mainGlobals "states_of_words" = some (some (.ref f22))) (l22 : K.lookup f22 = some ⟨oc22, od22, .func (PySem.W.fnOf "states_of_words" "states_of_words" (defArgs (topS 43)) (defBody (topS 43)) (defScope (topS 43)) .none kV22 dc22 pm22 an22 cd22 ct22), sl22⟩) (c22 : PySem.W.codeIn K cd22 "states_of_words" = true) (k22 : PySem.W.keepIn K (.ref f22) = true)
    {f23 : Addr} {od23 an23 : Option Addr} {sl23 : Array (Option Value)} {oc23 kV23 dc23 pm23 cd23 ct23 : Value} (a23 : PySem.W.nsIn K mainGlobals "is_rule" = some (some (.ref f23))) (l23 : K.lookup f23 = some ⟨oc23, od23, .func (PySem.W.fnOf "is_rule" "is_rule" (defArgs (topS 46)) (defBody (topS 46)) (defScope (topS 46)) .none kV23 dc23 pm23 an23 cd23 ct23), sl23⟩) (c23 : PySem.W.codeIn K cd23 "is_rule" = true) (k23 : PySem.W.keepIn K (.ref f23) = true)
    {f24 : Addr} {od24 an24 : Option Addr} {sl24 : Array (Option Value)} {oc24 kV24 dc24 pm24 cd24 ct24 : Value} (a24 : PySem.W.nsIn K mainGlobals "place" = some (some (.ref f24))) (l24 : K.lookup f24 = some ⟨oc24, od24, .func (PySem.W.fnOf "place" "place" (defArgs (topS 47)) (defBody (topS 47)) (defScope (topS 47)) .none kV24 dc24 pm24 an24 cd24 ct24), sl24⟩) (c24 : PySem.W.codeIn K cd24 "place" = true) (k24 : PySem.W.keepIn K (.ref f24) = true)
    {f25 : Addr} {od25 an25 : Option Addr} {sl25 : Array (Option Value)} {oc25 kV25 dc25 pm25 cd25 ct25 : Value} (a25 : PySem.W.nsIn K mainGlobals "place_by_page" = some (some (.ref f25))) (l25 : K.lookup f25 = some ⟨oc25, od25, .func (PySem.W.fnOf "place_by_page" "place_by_page" (defArgs (topS 48)) (defBody (topS 48)) (defScope (topS 48)) .none kV25 dc25 pm25 an25 cd25 ct25), sl25⟩) (c25 : PySem.W.codeIn K cd25 "place_by_page" = true) (k25 : PySem.W.keepIn K (.ref f25) = true)
    {f26 : Addr} {od26 an26 : Option Addr} {sl26 : Array (Option Value)} {oc26 kV26 dc26 pm26 cd26 ct26 : Value} (a26 : PySem.W.nsIn K mainGlobals "lowest_by_page" = some (some (.ref f26))) (l26 : K.lookup f26 = some ⟨oc26, od26, .func (PySem.W.fnOf "lowest_by_page" "lowest_by_page" (defArgs (topS 49)) (defBody (topS 49)) (defScope (topS 49)) .none kV26 dc26 pm26 an26 cd26 ct26), sl26⟩) (c26 : PySem.W.codeIn K cd26 "lowest_by_page" = true) (k26 : PySem.W.keepIn K (.ref f26) = true)
    {f27 : Addr} {od27 an27 : Option Addr} {sl27 : Array (Option Value)} {oc27 kV27 dc27 pm27 cd27 ct27 : Value} (a27 : PySem.W.nsIn K mainGlobals "taken_words" = some (some (.ref f27))) (l27 : K.lookup f27 = some ⟨oc27, od27, .func (PySem.W.fnOf "taken_words" "taken_words" (defArgs (topS 50)) (defBody (topS 50)) (defScope (topS 50)) .none kV27 dc27 pm27 an27 cd27 ct27), sl27⟩) (c27 : PySem.W.codeIn K cd27 "taken_words" = true) (k27 : PySem.W.keepIn K (.ref f27) = true)
    {f28 : Addr} {od28 an28 : Option Addr} {sl28 : Array (Option Value)} {oc28 dc28 pm28 cd28 ct28 : Value} {dd28 : Addr} {td28_rule : Tok} (a28 : PySem.W.findIn K (.ref CHeap) "__init__" = some (some (.ref f28))) (i28 : PySem.W.isFn K (.ref f28) = true) (l28 : K.lookup f28 = some ⟨oc28, od28, .func (PySem.W.fnOf "__init__" "Heap.__init__" (defArgs (inClass (topS 52) 0)) (defBody (inClass (topS 52) 0)) (defScope (inClass (topS 52) 0)) .none (.ref dd28) dc28 pm28 an28 cd28 ct28), sl28⟩) (c28 : PySem.W.codeIn K cd28 "Heap.__init__" = true) (k28 : PySem.W.keepIn K (.ref f28) = true)
    (d28_rule : PySem.W.nsIn K dd28 "rule" = some (some (.str "lowest" td28_rule)))
    {f29 : Addr} {od29 an29 : Option Addr} {sl29 : Array (Option Value)} {oc29 kV29 dc29 pm29 cd29 ct29 : Value} (a29 : PySem.W.findIn K (.ref CHeap) "put" = some (some (.ref f29))) (i29 : PySem.W.isFn K (.ref f29) = true) (l29 : K.lookup f29 = some ⟨oc29, od29, .func (PySem.W.fnOf "put" "Heap.put" (defArgs (inClass (topS 52) 2)) (defBody (inClass (topS 52) 2)) (defScope (inClass (topS 52) 2)) .none kV29 dc29 pm29 an29 cd29 ct29), sl29⟩) (c29 : PySem.W.codeIn K cd29 "Heap.put" = true) (k29 : PySem.W.keepIn K (.ref f29) = true)
    {f30 : Addr} {od30 an30 : Option Addr} {sl30 : Array (Option Value)} {oc30 kV30 dc30 pm30 cd30 ct30 : Value} (a30 : PySem.W.findIn K (.ref CHeap) "check" = some (some (.ref f30))) (i30 : PySem.W.isFn K (.ref f30) = true) (l30 : K.lookup f30 = some ⟨oc30, od30, .func (PySem.W.fnOf "check" "Heap.check" (defArgs (inClass (topS 52) 3)) (defBody (inClass (topS 52) 3)) (defScope (inClass (topS 52) 3)) .none kV30 dc30 pm30 an30 cd30 ct30), sl30⟩) (c30 : PySem.W.codeIn K cd30 "Heap.check" = true) (k30 : PySem.W.keepIn K (.ref f30) = true)
    {f31 : Addr} {od31 an31 : Option Addr} {sl31 : Array (Option Value)} {oc31 kV31 dc31 pm31 cd31 ct31 : Value} (a31 : PySem.W.findIn K (.ref CHeap) "enter" = some (some (.ref f31))) (i31 : PySem.W.isFn K (.ref f31) = true) (l31 : K.lookup f31 = some ⟨oc31, od31, .func (PySem.W.fnOf "enter" "Heap.enter" (defArgs (inClass (topS 52) 4)) (defBody (inClass (topS 52) 4)) (defScope (inClass (topS 52) 4)) .none kV31 dc31 pm31 an31 cd31 ct31), sl31⟩) (c31 : PySem.W.codeIn K cd31 "Heap.enter" = true) (k31 : PySem.W.keepIn K (.ref f31) = true)
    {f32 : Addr} {od32 an32 : Option Addr} {sl32 : Array (Option Value)} {oc32 kV32 dc32 pm32 cd32 ct32 : Value} (a32 : PySem.W.findIn K (.ref CHeap) "free" = some (some (.ref f32))) (i32 : PySem.W.isFn K (.ref f32) = true) (l32 : K.lookup f32 = some ⟨oc32, od32, .func (PySem.W.fnOf "free" "Heap.free" (defArgs (inClass (topS 52) 5)) (defBody (inClass (topS 52) 5)) (defScope (inClass (topS 52) 5)) .none kV32 dc32 pm32 an32 cd32 ct32), sl32⟩) (c32 : PySem.W.codeIn K cd32 "Heap.free" = true) (k32 : PySem.W.keepIn K (.ref f32) = true)
    {f33 : Addr} {od33 an33 : Option Addr} {sl33 : Array (Option Value)} {oc33 kV33 dc33 pm33 cd33 ct33 : Value} (a33 : PySem.W.findIn K (.ref CHeap) "state" = some (some (.ref f33))) (i33 : PySem.W.isFn K (.ref f33) = true) (l33 : K.lookup f33 = some ⟨oc33, od33, .func (PySem.W.fnOf "state" "Heap.state" (defArgs (inClass (topS 52) 7)) (defBody (inClass (topS 52) 7)) (defScope (inClass (topS 52) 7)) .none kV33 dc33 pm33 an33 cd33 ct33), sl33⟩) (c33 : PySem.W.codeIn K cd33 "Heap.state" = true) (k33 : PySem.W.keepIn K (.ref f33) = true)
    {f34 : Addr} {od34 an34 : Option Addr} {sl34 : Array (Option Value)} {oc34 kV34 dc34 pm34 cd34 ct34 : Value} (a34 : PySem.W.findIn K (.ref CHeap) "live" = some (some (.ref f34))) (i34 : PySem.W.isFn K (.ref f34) = true) (l34 : K.lookup f34 = some ⟨oc34, od34, .func (PySem.W.fnOf "live" "Heap.live" (defArgs (inClass (topS 52) 8)) (defBody (inClass (topS 52) 8)) (defScope (inClass (topS 52) 8)) .none kV34 dc34 pm34 an34 cd34 ct34), sl34⟩) (c34 : PySem.W.codeIn K cd34 "Heap.live" = true) (k34 : PySem.W.keepIn K (.ref f34) = true)
    {f35 : Addr} {od35 an35 : Option Addr} {sl35 : Array (Option Value)} {oc35 kV35 dc35 pm35 cd35 ct35 : Value} (a35 : PySem.W.nsIn K mainGlobals "replay" = some (some (.ref f35))) (l35 : K.lookup f35 = some ⟨oc35, od35, .func (PySem.W.fnOf "replay" "replay" (defArgs (topS 54)) (defBody (topS 54)) (defScope (topS 54)) .none kV35 dc35 pm35 an35 cd35 ct35), sl35⟩) (c35 : PySem.W.codeIn K cd35 "replay" = true) (k35 : PySem.W.keepIn K (.ref f35) = true)
    {f36 : Addr} {od36 an36 : Option Addr} {sl36 : Array (Option Value)} {oc36 kV36 dc36 pm36 cd36 ct36 : Value} (a36 : PySem.W.nsIn K mainGlobals "has_form_of_event" = some (some (.ref f36))) (l36 : K.lookup f36 = some ⟨oc36, od36, .func (PySem.W.fnOf "has_form_of_event" "has_form_of_event" (defArgs (topS 55)) (defBody (topS 55)) (defScope (topS 55)) .none kV36 dc36 pm36 an36 cd36 ct36), sl36⟩) (c36 : PySem.W.codeIn K cd36 "has_form_of_event" = true) (k36 : PySem.W.keepIn K (.ref f36) = true)
    {f37 : Addr} {od37 an37 : Option Addr} {sl37 : Array (Option Value)} {oc37 kV37 dc37 pm37 cd37 ct37 : Value} (a37 : PySem.W.nsIn K mainGlobals "repeat" = some (some (.ref f37))) (l37 : K.lookup f37 = some ⟨oc37, od37, .func (PySem.W.fnOf "repeat" "repeat" (defArgs (topS 56)) (defBody (topS 56)) (defScope (topS 56)) .none kV37 dc37 pm37 an37 cd37 ct37), sl37⟩) (c37 : PySem.W.codeIn K cd37 "repeat" = true) (k37 : PySem.W.keepIn K (.ref f37) = true)
    {f38 : Addr} {od38 an38 : Option Addr} {sl38 : Array (Option Value)} {oc38 kV38 dc38 pm38 cd38 ct38 : Value} (a38 : PySem.W.nsIn K mainGlobals "heap_after" = some (some (.ref f38))) (l38 : K.lookup f38 = some ⟨oc38, od38, .func (PySem.W.fnOf "heap_after" "heap_after" (defArgs (topS 58)) (defBody (topS 58)) (defScope (topS 58)) .none kV38 dc38 pm38 an38 cd38 ct38), sl38⟩) (c38 : PySem.W.codeIn K cd38 "heap_after" = true) (k38 : PySem.W.keepIn K (.ref f38) = true)
    {f39 : Addr} {od39 an39 : Option Addr} {sl39 : Array (Option Value)} {oc39 kV39 dc39 pm39 cd39 ct39 : Value} (a39 : PySem.W.nsIn K mainGlobals "place_or_next" = some (some (.ref f39))) (l39 : K.lookup f39 = some ⟨oc39, od39, .func (PySem.W.fnOf "place_or_next" "place_or_next" (defArgs (topS 59)) (defBody (topS 59)) (defScope (topS 59)) .none kV39 dc39 pm39 an39 cd39 ct39), sl39⟩) (c39 : PySem.W.codeIn K cd39 "place_or_next" = true) (k39 : PySem.W.keepIn K (.ref f39) = true)
    {f40 : Addr} {od40 an40 : Option Addr} {sl40 : Array (Option Value)} {oc40 kV40 dc40 pm40 cd40 ct40 : Value} (a40 : PySem.W.nsIn K mainGlobals "worst_pages" = some (some (.ref f40))) (l40 : K.lookup f40 = some ⟨oc40, od40, .func (PySem.W.fnOf "worst_pages" "worst_pages" (defArgs (topS 60)) (defBody (topS 60)) (defScope (topS 60)) .none kV40 dc40 pm40 an40 cd40 ct40), sl40⟩) (c40 : PySem.W.codeIn K cd40 "worst_pages" = true) (k40 : PySem.W.keepIn K (.ref f40) = true)
    {f41 : Addr} {od41 an41 : Option Addr} {sl41 : Array (Option Value)} {oc41 kV41 dc41 pm41 cd41 ct41 : Value} (a41 : PySem.W.nsIn K mainGlobals "worst_history" = some (some (.ref f41))) (l41 : K.lookup f41 = some ⟨oc41, od41, .func (PySem.W.fnOf "worst_history" "worst_history" (defArgs (topS 61)) (defBody (topS 61)) (defScope (topS 61)) .none kV41 dc41 pm41 an41 cd41 ct41), sl41⟩) (c41 : PySem.W.codeIn K cd41 "worst_history" = true) (k41 : PySem.W.keepIn K (.ref f41) = true)
    {f42 : Addr} {od42 an42 : Option Addr} {sl42 : Array (Option Value)} {oc42 kV42 dc42 pm42 cd42 ct42 : Value} (a42 : PySem.W.nsIn K mainGlobals "check_rule" = some (some (.ref f42))) (l42 : K.lookup f42 = some ⟨oc42, od42, .func (PySem.W.fnOf "check_rule" "check_rule" (defArgs (topS 62)) (defBody (topS 62)) (defScope (topS 62)) .none kV42 dc42 pm42 an42 cd42 ct42), sl42⟩) (c42 : PySem.W.codeIn K cd42 "check_rule" = true) (k42 : PySem.W.keepIn K (.ref f42) = true)
    {f43 : Addr} {od43 an43 : Option Addr} {sl43 : Array (Option Value)} {oc43 kV43 dc43 pm43 cd43 ct43 : Value} (a43 : PySem.W.nsIn K mainGlobals "reached_heaps" = some (some (.ref f43))) (l43 : K.lookup f43 = some ⟨oc43, od43, .func (PySem.W.fnOf "reached_heaps" "reached_heaps" (defArgs (topS 63)) (defBody (topS 63)) (defScope (topS 63)) .none kV43 dc43 pm43 an43 cd43 ct43), sl43⟩) (c43 : PySem.W.codeIn K cd43 "reached_heaps" = true) (k43 : PySem.W.keepIn K (.ref f43) = true)
    {f44 : Addr} {od44 an44 : Option Addr} {sl44 : Array (Option Value)} {oc44 kV44 dc44 pm44 cd44 ct44 : Value} (a44 : PySem.W.nsIn K mainGlobals "next_events" = some (some (.ref f44))) (l44 : K.lookup f44 = some ⟨oc44, od44, .func (PySem.W.fnOf "next_events" "next_events" (defArgs (topS 64)) (defBody (topS 64)) (defScope (topS 64)) .none kV44 dc44 pm44 an44 cd44 ct44), sl44⟩) (c44 : PySem.W.codeIn K cd44 "next_events" = true) (k44 : PySem.W.keepIn K (.ref f44) = true)
    {f45 : Addr} {od45 an45 : Option Addr} {sl45 : Array (Option Value)} {oc45 kV45 dc45 pm45 cd45 ct45 : Value} (a45 : PySem.W.nsIn K mainGlobals "is_safe" = some (some (.ref f45))) (l45 : K.lookup f45 = some ⟨oc45, od45, .func (PySem.W.fnOf "is_safe" "is_safe" (defArgs (topS 66)) (defBody (topS 66)) (defScope (topS 66)) .none kV45 dc45 pm45 an45 cd45 ct45), sl45⟩) (c45 : PySem.W.codeIn K cd45 "is_safe" = true) (k45 : PySem.W.keepIn K (.ref f45) = true)
    {f46 : Addr} {od46 an46 : Option Addr} {sl46 : Array (Option Value)} {oc46 kV46 dc46 pm46 cd46 ct46 : Value} (a46 : PySem.W.nsIn K mainGlobals "moves_to_fail" = some (some (.ref f46))) (l46 : K.lookup f46 = some ⟨oc46, od46, .func (PySem.W.fnOf "moves_to_fail" "moves_to_fail" (defArgs (topS 67)) (defBody (topS 67)) (defScope (topS 67)) .none kV46 dc46 pm46 an46 cd46 ct46), sl46⟩) (c46 : PySem.W.codeIn K cd46 "moves_to_fail" = true) (k46 : PySem.W.keepIn K (.ref f46) = true)
    {f47 : Addr} {od47 an47 : Option Addr} {sl47 : Array (Option Value)} {oc47 kV47 dc47 pm47 cd47 ct47 : Value} (a47 : PySem.W.nsIn K mainGlobals "check_state" = some (some (.ref f47))) (l47 : K.lookup f47 = some ⟨oc47, od47, .func (PySem.W.fnOf "check_state" "check_state" (defArgs (topS 68)) (defBody (topS 68)) (defScope (topS 68)) .none kV47 dc47 pm47 an47 cd47 ct47), sl47⟩) (c47 : PySem.W.codeIn K cd47 "check_state" = true) (k47 : PySem.W.keepIn K (.ref f47) = true)
    {f48 : Addr} {od48 an48 : Option Addr} {sl48 : Array (Option Value)} {oc48 kV48 dc48 pm48 cd48 ct48 : Value} (a48 : PySem.W.nsIn K mainGlobals "allowed_sizes" = some (some (.ref f48))) (l48 : K.lookup f48 = some ⟨oc48, od48, .func (PySem.W.fnOf "allowed_sizes" "allowed_sizes" (defArgs (topS 69)) (defBody (topS 69)) (defScope (topS 69)) .none kV48 dc48 pm48 an48 cd48 ct48), sl48⟩) (c48 : PySem.W.codeIn K cd48 "allowed_sizes" = true) (k48 : PySem.W.keepIn K (.ref f48) = true)
    {f49 : Addr} {od49 an49 : Option Addr} {sl49 : Array (Option Value)} {oc49 kV49 dc49 pm49 cd49 ct49 : Value} (a49 : PySem.W.nsIn K mainGlobals "unsafe_states" = some (some (.ref f49))) (l49 : K.lookup f49 = some ⟨oc49, od49, .func (PySem.W.fnOf "unsafe_states" "unsafe_states" (defArgs (topS 70)) (defBody (topS 70)) (defScope (topS 70)) .none kV49 dc49 pm49 an49 cd49 ct49), sl49⟩) (c49 : PySem.W.codeIn K cd49 "unsafe_states" = true) (k49 : PySem.W.keepIn K (.ref f49) = true)
    {f50 : Addr} {od50 an50 : Option Addr} {sl50 : Array (Option Value)} {oc50 kV50 dc50 pm50 cd50 ct50 : Value} (a50 : PySem.W.nsIn K mainGlobals "states_before" = some (some (.ref f50))) (l50 : K.lookup f50 = some ⟨oc50, od50, .func (PySem.W.fnOf "states_before" "states_before" (defArgs (topS 71)) (defBody (topS 71)) (defScope (topS 71)) .none kV50 dc50 pm50 an50 cd50 ct50), sl50⟩) (c50 : PySem.W.codeIn K cd50 "states_before" = true) (k50 : PySem.W.keepIn K (.ref f50) = true)
    {f51 : Addr} {od51 an51 : Option Addr} {sl51 : Array (Option Value)} {oc51 kV51 dc51 pm51 cd51 ct51 : Value} (a51 : PySem.W.nsIn K mainGlobals "requests_into" = some (some (.ref f51))) (l51 : K.lookup f51 = some ⟨oc51, od51, .func (PySem.W.fnOf "requests_into" "requests_into" (defArgs (topS 72)) (defBody (topS 72)) (defScope (topS 72)) .none kV51 dc51 pm51 an51 cd51 ct51), sl51⟩) (c51 : PySem.W.codeIn K cd51 "requests_into" = true) (k51 : PySem.W.keepIn K (.ref f51) = true)
    {f52 : Addr} {od52 an52 : Option Addr} {sl52 : Array (Option Value)} {oc52 kV52 dc52 pm52 cd52 ct52 : Value} (a52 : PySem.W.nsIn K mainGlobals "_law_source" = some (some (.ref f52))) (l52 : K.lookup f52 = some ⟨oc52, od52, .func (PySem.W.fnOf "_law_source" "_law_source" (defArgs (topS 74)) (defBody (topS 74)) (defScope (topS 74)) .none kV52 dc52 pm52 an52 cd52 ct52), sl52⟩) (c52 : PySem.W.codeIn K cd52 "_law_source" = true) (k52 : PySem.W.keepIn K (.ref f52) = true)
    {f53 : Addr} {od53 an53 : Option Addr} {sl53 : Array (Option Value)} {oc53 kV53 dc53 pm53 cd53 ct53 : Value} (a53 : PySem.W.nsIn K mainGlobals "_law_number" = some (some (.ref f53))) (l53 : K.lookup f53 = some ⟨oc53, od53, .func (PySem.W.fnOf "_law_number" "_law_number" (defArgs (topS 75)) (defBody (topS 75)) (defScope (topS 75)) .none kV53 dc53 pm53 an53 cd53 ct53), sl53⟩) (c53 : PySem.W.codeIn K cd53 "_law_number" = true) (k53 : PySem.W.keepIn K (.ref f53) = true)
    {f54 : Addr} {od54 an54 : Option Addr} {sl54 : Array (Option Value)} {oc54 kV54 dc54 pm54 cd54 ct54 : Value} (a54 : PySem.W.nsIn K mainGlobals "_law_choice" = some (some (.ref f54))) (l54 : K.lookup f54 = some ⟨oc54, od54, .func (PySem.W.fnOf "_law_choice" "_law_choice" (defArgs (topS 76)) (defBody (topS 76)) (defScope (topS 76)) .none kV54 dc54 pm54 an54 cd54 ct54), sl54⟩) (c54 : PySem.W.codeIn K cd54 "_law_choice" = true) (k54 : PySem.W.keepIn K (.ref f54) = true)
    {f55 : Addr} {od55 an55 : Option Addr} {sl55 : Array (Option Value)} {oc55 kV55 dc55 pm55 cd55 ct55 : Value} (a55 : PySem.W.nsIn K mainGlobals "law" = some (some (.ref f55))) (l55 : K.lookup f55 = some ⟨oc55, od55, .func (PySem.W.fnOf "law" "law" (defArgs (topS 77)) (defBody (topS 77)) (defScope (topS 77)) .none kV55 dc55 pm55 an55 cd55 ct55), sl55⟩) (c55 : PySem.W.codeIn K cd55 "law" = true) (k55 : PySem.W.keepIn K (.ref f55) = true)
    {tcPp tpPp : Addr} (ttPp : PySem.W.tabIn K "place_by_page" = some (tcPp, tpPp)) (toPp : K.lookup tpPp = none) (rqPp : ((recsOf q).find? fun e => e.name == ("place_by_page" : Str)).isSome = true)
    (z1 : PySem.W.nsIn K mainGlobals "len" = some none)
    (z2 : PySem.W.nsIn K mainGlobals "abs" = some none)
    (z3 : PySem.W.nsIn K mainGlobals "int" = some none)
    (z4 : PySem.W.nsIn K mainGlobals "range" = some none)
    (z5 : PySem.W.nsIn K mainGlobals "tuple" = some none)
    (z6 : PySem.W.nsIn K mainGlobals "max" = some none)
    (z7 : PySem.W.nsIn K mainGlobals "min" = some none)
    (z8 : PySem.W.nsIn K mainGlobals "repr" = some none)
    (z9 : PySem.W.nsIn K mainGlobals "isinstance" = some none)
    (z10 : PySem.W.nsIn K mainGlobals "bool" = some none)
    (z11 : PySem.W.nsIn K mainGlobals "all" = some none)
    (z12 : PySem.W.nsIn K mainGlobals "any" = some none)
    (z13 : PySem.W.nsIn K mainGlobals "list" = some none)
    (z14 : PySem.W.nsIn K mainGlobals "dict" = some none)
    (z15 : PySem.W.nsIn K mainGlobals "sorted" = some none)
    (z16 : PySem.W.nsIn K mainGlobals "set" = some none)
    (z17 : PySem.W.nsIn K mainGlobals "sum" = some none)
    (z18 : PySem.W.nsIn K mainGlobals "zip" = some none)
    (z19 : PySem.W.nsIn K mainGlobals "enumerate" = some none)
    (z20 : PySem.W.nsIn K mainGlobals "reversed" = some none)
    (z21 : PySem.W.nsIn K mainGlobals "str" = some none)
    (zd : PySem.W.nsIn K cStatics "sys.int_max_str_digits" = some none) :
    ∃ (fd : FuncData) (cs : List (Addr × Addr)), TabsE K h cs ∧ (∀ (s : Shared) (v : Value), BindsTo s fd ⟨[v], []⟩ [("_law_script", v)]) ∧ (∀ (H : Hp) (a : Addr) (ns : List Int), ns.length ≤ 63 → (∀ p ∈ cs, H p.2 = some (.tbl #[])) → SqL K H a (ns.map V.int) → spLaw K (cs.getD 0 (0, 0)).2 [.ref a] H (fun v _ => v = .bl true) fun _ _ _ => False) ∧ ∀ base : Heap, K.In base → base.Ns mainGlobals mg → (∀ p ∈ cs, LamX.TabB base mg p.1 p.2) → FnG l.prog w K mg base CX0 (0 + 1 + 1 + 1 + 1 + 1 + 1 + 1 + 1 + 1 + 1 + 1) fa fd ["_law_script"] (spLaw K (cs.getD 0 (0, 0)).2) := by
  have e := hfa.symm.trans (PySem.W.mg_of X G a55)
  cases e
  have F1 := fun_mk (x := "is_integer") (qual := "is_integer") (st := (topS 16)) l1 c1 k1
  have F2 := fun_mk (x := "divided_up") (qual := "divided_up") (st := (topS 17)) l2 c2 k2
  have F3 := fun_mk (x := "is_chain") (qual := "is_chain") (st := (topS 21)) l3 c3 k3
  have F4 := fun_mk (x := "may_follow") (qual := "may_follow") (st := (topS 22)) l4 c4 k4
  have F5 := fun_mk (x := "is_size") (qual := "is_size") (st := (topS 23)) l5 c5 k5
  have F6 := fun_mk (x := "class_of") (qual := "class_of") (st := (topS 24)) l6 c6 k6
  have F7 := fun_mk (x := "is_state") (qual := "is_state") (st := (topS 28)) l7 c7 k7
  have F8 := fun_mk (x := "is_block") (qual := "is_block") (st := (topS 29)) l8 c8 k8
  have F9 := fun_mk (x := "live_words") (qual := "live_words") (st := (topS 30)) l9 c9 k9
  have F10 := fun_mk (x := "places") (qual := "places") (st := (topS 31)) l10 c10 k10
  have F11 := fun_mk (x := "gaps") (qual := "gaps") (st := (topS 32)) l11 c11 k11
  have F12 := fun_mk (x := "is_place") (qual := "is_place") (st := (topS 33)) l12 c12 k12
  have F13 := fun_mk (x := "may_hold") (qual := "may_hold") (st := (topS 34)) l13 c13 k13
  have F14 := fun_mk (x := "with_block") (qual := "with_block") (st := (topS 35)) l14 c14 k14
  have F15 := fun_mk (x := "without_block") (qual := "without_block") (st := (topS 36)) l15 c15 k15
  have F16 := fun_mk (x := "has_block") (qual := "has_block") (st := (topS 37)) l16 c16 k16
  have F17 := fun_mk (x := "count_states") (qual := "count_states") (st := (topS 38)) l17 c17 k17
  have F18 := fun_mk (x := "power") (qual := "power") (st := (topS 39)) l18 c18 k18
  have F19 := fun_mk (x := "check_many") (qual := "check_many") (st := (topS 40)) l19 c19 k19
  have F20 := fun_mk (x := "check_heap") (qual := "check_heap") (st := (topS 41)) l20 c20 k20
  have F21 := fun_mk (x := "all_states") (qual := "all_states") (st := (topS 42)) l21 c21 k21
  have F22 := fun_mk (x := "states_of_words") (qual := "states_of_words") (st := (topS 43)) l22 c22 k22
  have F23 := fun_mk (x := "is_rule") (qual := "is_rule") (st := (topS 46)) l23 c23 k23
  have F24 := fun_mk (x := "place") (qual := "place") (st := (topS 47)) l24 c24 k24
  have F25 := fun_mk (x := "place_by_page") (qual := "place_by_page") (st := (topS 48)) l25 c25 k25
  have F26 := fun_mk (x := "lowest_by_page") (qual := "lowest_by_page") (st := (topS 49)) l26 c26 k26
  have F27 := fun_mk (x := "taken_words") (qual := "taken_words") (st := (topS 50)) l27 c27 k27
  have F28 : FunD K "__init__" "Heap.__init__" (defArgs (inClass (topS 52) 0)) (defBody (inClass (topS 52) 0)) (defScope (inClass (topS 52) 0)) [] [("rule", V.str "lowest")] f28 (PySem.W.fnOf "__init__" "Heap.__init__" (defArgs (inClass (topS 52) 0)) (defBody (inClass (topS 52) 0)) (defScope (inClass (topS 52) 0)) .none (.ref dd28) dc28 pm28 an28 cd28 ct28) := ⟨⟨_, _, _, _, _, _, _, _, _, _, rfl, l28, c28, .inl ⟨rfl, rfl⟩, .inr ⟨dd28, rfl, fun q hq => by
    rw [List.mem_singleton.mp hq]
    exact ⟨_, d28_rule, ⟨_, rfl⟩⟩⟩⟩, k28⟩
  have B28 := F28.binds0 (ps := ["self", "chain", "pages", "limit", "rule"]) 4 (by intro z; cases z) rfl (fun _ _ _ _ _ _ us ks h1 h2 => match us, ks, h1, h2 with | [_, _, _, _], [_], _, _ => ⟨_, _, _, _, _, _, rfl, rfl, rfl⟩)
  have F29 := fun_mk (x := "put") (qual := "Heap.put") (st := (inClass (topS 52) 2)) l29 c29 k29
  have F30 := fun_mk (x := "check") (qual := "Heap.check") (st := (inClass (topS 52) 3)) l30 c30 k30
  have F31 := fun_mk (x := "enter") (qual := "Heap.enter") (st := (inClass (topS 52) 4)) l31 c31 k31
  have F32 := fun_mk (x := "free") (qual := "Heap.free") (st := (inClass (topS 52) 5)) l32 c32 k32
  have F33 := fun_mk (x := "state") (qual := "Heap.state") (st := (inClass (topS 52) 7)) l33 c33 k33
  have F34 := fun_mk (x := "live") (qual := "Heap.live") (st := (inClass (topS 52) 8)) l34 c34 k34
  have F35 := fun_mk (x := "replay") (qual := "replay") (st := (topS 54)) l35 c35 k35
  have F36 := fun_mk (x := "has_form_of_event") (qual := "has_form_of_event") (st := (topS 55)) l36 c36 k36
  have F37 := fun_mk (x := "repeat") (qual := "repeat") (st := (topS 56)) l37 c37 k37
  have F38 := fun_mk (x := "heap_after") (qual := "heap_after") (st := (topS 58)) l38 c38 k38
  have F39 := fun_mk (x := "place_or_next") (qual := "place_or_next") (st := (topS 59)) l39 c39 k39
  have F40 := fun_mk (x := "worst_pages") (qual := "worst_pages") (st := (topS 60)) l40 c40 k40
  have F41 := fun_mk (x := "worst_history") (qual := "worst_history") (st := (topS 61)) l41 c41 k41
  have F42 := fun_mk (x := "check_rule") (qual := "check_rule") (st := (topS 62)) l42 c42 k42
  have F43 := fun_mk (x := "reached_heaps") (qual := "reached_heaps") (st := (topS 63)) l43 c43 k43
  have F44 := fun_mk (x := "next_events") (qual := "next_events") (st := (topS 64)) l44 c44 k44
  have F45 := fun_mk (x := "is_safe") (qual := "is_safe") (st := (topS 66)) l45 c45 k45
  have F46 := fun_mk (x := "moves_to_fail") (qual := "moves_to_fail") (st := (topS 67)) l46 c46 k46
  have F47 := fun_mk (x := "check_state") (qual := "check_state") (st := (topS 68)) l47 c47 k47
  have F48 := fun_mk (x := "allowed_sizes") (qual := "allowed_sizes") (st := (topS 69)) l48 c48 k48
  have F49 := fun_mk (x := "unsafe_states") (qual := "unsafe_states") (st := (topS 70)) l49 c49 k49
  have F50 := fun_mk (x := "states_before") (qual := "states_before") (st := (topS 71)) l50 c50 k50
  have F51 := fun_mk (x := "requests_into") (qual := "requests_into") (st := (topS 72)) l51 c51 k51
  have F52 := fun_mk (x := "_law_source") (qual := "_law_source") (st := (topS 74)) l52 c52 k52
  have F53 := fun_mk (x := "_law_number") (qual := "_law_number") (st := (topS 75)) l53 c53 k53
  have F54 := fun_mk (x := "_law_choice") (qual := "_law_choice") (st := (topS 76)) l54 c54 k54
  have F55 := fun_mk (x := "law") (qual := "law") (st := (topS 77)) l55 c55 k55
  let Z : Fns K mg := {
    N := ⟨PySem.W.mg_none_of X G z1, PySem.W.mg_none_of X G z2, PySem.W.mg_none_of X G z3, PySem.W.mg_none_of X G z4, PySem.W.mg_none_of X G z5, PySem.W.mg_none_of X G z6, PySem.W.mg_none_of X G z7, PySem.W.mg_none_of X G z8, PySem.W.mg_none_of X G z9, PySem.W.mg_none_of X G z10, PySem.W.mg_none_of X G z11, PySem.W.mg_none_of X G z12, PySem.W.mg_none_of X G z13, PySem.W.mg_none_of X G z14, PySem.W.mg_none_of X G z15, PySem.W.mg_none_of X G z16, PySem.W.mg_none_of X G z17, PySem.W.mg_none_of X G z18, PySem.W.mg_none_of X G z19, PySem.W.mg_none_of X G z20, PySem.W.mg_none_of X G z21, zd⟩,
    CHeap := CHeap,
    clHeap := ⟨pgHeap, hdHeap, poHeap, saHeap⟩,
    gcHeap := PySem.W.mg_of X G aCHeap,
    naHeap_chain := naHeap_chain,
    naHeap_pages := naHeap_pages,
    naHeap_limit := naHeap_limit,
    naHeap_rule := naHeap_rule,
    naHeap_blocks := naHeap_blocks,
    naHeap_steps := naHeap_steps,
    CHeapError := CHeapError,
    gcHeapError := PySem.W.mg_of X G aCHeapError,
    nve := PySem.W.mg_none_of X G zve,
    k_MOST_SIZES := ⟨t_MOST_SIZES, PySem.W.mg_of X G v_MOST_SIZES⟩,
    k_LARGEST_SIZE := ⟨t_LARGEST_SIZE, PySem.W.mg_of X G v_LARGEST_SIZE⟩,
    k_MOST_STATES := ⟨t_MOST_STATES, PySem.W.mg_of X G v_MOST_STATES⟩,
    k_MOST_WORDS := ⟨t_MOST_WORDS, PySem.W.mg_of X G v_MOST_WORDS⟩,
    a_RULES := a_RULES,
    k_RULES := PySem.W.mg_of X G v_RULES,
    t_RULES := fun _ => .inr ⟨_, _, _, l_RULES, rfl, rfl, (by show 4 ≤ sizeLine; decide), (.cons ⟨_, rfl⟩ (.cons ⟨_, rfl⟩ (.cons ⟨_, rfl⟩ (.cons ⟨_, rfl⟩ .nil))))⟩,
    fI := f1, fdI := _, FI := F1, bI := (F1.binds (ps := ["value"]) fun _ _ _ _ _ _ us hl => match us, hl with | [_], _ => rfl), gI := PySem.W.mg_of X G a1,
    fDu := f2, fdDu := _, FDu := F2, bDu := (F2.binds (ps := ["number", "divisor"]) fun _ _ _ _ _ _ us hl => match us, hl with | [_, _], _ => rfl), gDu := PySem.W.mg_of X G a2,
    fCi := f3, fdCi := _, FCi := F3, bCi := (F3.binds (ps := ["value"]) fun _ _ _ _ _ _ us hl => match us, hl with | [_], _ => rfl), gCi := PySem.W.mg_of X G a3,
    fMf := f4, fdMf := _, FMf := F4, bMf := (F4.binds (ps := ["larger", "size"]) fun _ _ _ _ _ _ us hl => match us, hl with | [_, _], _ => rfl), gMf := PySem.W.mg_of X G a4,
    fZ := f5, fdZ := _, FZ := F5, bZ := (F5.binds (ps := ["chain", "value"]) fun _ _ _ _ _ _ us hl => match us, hl with | [_, _], _ => rfl), gZ := PySem.W.mg_of X G a5,
    fC := f6, fdC := _, FC := F6, bC := (F6.binds (ps := ["chain", "size"]) fun _ _ _ _ _ _ us hl => match us, hl with | [_, _], _ => rfl), gC := PySem.W.mg_of X G a6,
    fS := f7, fdS := _, FS := F7, bS := (F7.binds (ps := ["chain", "pages", "value"]) fun _ _ _ _ _ _ us hl => match us, hl with | [_, _, _], _ => rfl), gS := PySem.W.mg_of X G a7,
    fBl := f8, fdBl := _, FBl := F8, bBl := (F8.binds (ps := ["chain", "value"]) fun _ _ _ _ _ _ us hl => match us, hl with | [_, _], _ => rfl), gBl := PySem.W.mg_of X G a8,
    fV := f9, fdV := _, FV := F9, bV := (F9.binds (ps := ["state"]) fun _ _ _ _ _ _ us hl => match us, hl with | [_], _ => rfl), gV := PySem.W.mg_of X G a9,
    fPl := f10, fdPl := _, FPl := F10, bPl := (F10.binds (ps := ["chain", "pages", "state", "size"]) fun _ _ _ _ _ _ us hl => match us, hl with | [_, _, _, _], _ => rfl), gPl := PySem.W.mg_of X G a10,
    fGp := f11, fdGp := _, FGp := F11, bGp := (F11.binds (ps := ["chain", "pages", "state", "size"]) fun _ _ _ _ _ _ us hl => match us, hl with | [_, _, _, _], _ => rfl), gGp := PySem.W.mg_of X G a11,
    fIp := f12, fdIp := _, FIp := F12, bIp := (F12.binds (ps := ["chain", "pages", "state", "address", "size"]) fun _ _ _ _ _ _ us hl => match us, hl with | [_, _, _, _, _], _ => rfl), gIp := PySem.W.mg_of X G a12,
    fMh := f13, fdMh := _, FMh := F13, bMh := (F13.binds (ps := ["state", "address", "size"]) fun _ _ _ _ _ _ us hl => match us, hl with | [_, _, _], _ => rfl), gMh := PySem.W.mg_of X G a13,
    fWb := f14, fdWb := _, FWb := F14, bWb := (F14.binds (ps := ["state", "address", "size"]) fun _ _ _ _ _ _ us hl => match us, hl with | [_, _, _], _ => rfl), gWb := PySem.W.mg_of X G a14,
    fOb := f15, fdOb := _, FOb := F15, bOb := (F15.binds (ps := ["state", "address"]) fun _ _ _ _ _ _ us hl => match us, hl with | [_, _], _ => rfl), gOb := PySem.W.mg_of X G a15,
    fHb := f16, fdHb := _, FHb := F16, bHb := (F16.binds (ps := ["state", "value"]) fun _ _ _ _ _ _ us hl => match us, hl with | [_, _], _ => rfl), gHb := PySem.W.mg_of X G a16,
    fCs := f17, fdCs := _, FCs := F17, bCs := (F17.binds (ps := ["chain", "pages"]) fun _ _ _ _ _ _ us hl => match us, hl with | [_, _], _ => rfl), gCs := PySem.W.mg_of X G a17,
    fPw := f18, fdPw := _, FPw := F18, bPw := (F18.binds (ps := ["base", "times"]) fun _ _ _ _ _ _ us hl => match us, hl with | [_, _], _ => rfl), gPw := PySem.W.mg_of X G a18,
    fCm := f19, fdCm := _, FCm := F19, bCm := (F19.binds (ps := ["many"]) fun _ _ _ _ _ _ us hl => match us, hl with | [_], _ => rfl), gCm := PySem.W.mg_of X G a19,
    fCh := f20, fdCh := _, FCh := F20, bCh := (F20.binds (ps := ["chain", "pages"]) fun _ _ _ _ _ _ us hl => match us, hl with | [_, _], _ => rfl), gCh := PySem.W.mg_of X G a20,
    fAs := f21, fdAs := _, FAs := F21, bAs := (F21.binds (ps := ["chain", "pages", "limit"]) fun _ _ _ _ _ _ us hl => match us, hl with | [_, _, _], _ => rfl), gAs := PySem.W.mg_of X G a21,
    fSw := f22, fdSw := _, FSw := F22, bSw := (F22.binds (ps := ["chain", "words"]) fun _ _ _ _ _ _ us hl => match us, hl with | [_, _], _ => rfl), gSw := PySem.W.mg_of X G a22,
    fIr := f23, fdIr := _, FIr := F23, bIr := (F23.binds (ps := ["value"]) fun _ _ _ _ _ _ us hl => match us, hl with | [_], _ => rfl), gIr := PySem.W.mg_of X G a23,
    fPc := f24, fdPc := _, FPc := F24, bPc := (F24.binds (ps := ["rule", "chain", "pages", "state", "size"]) fun _ _ _ _ _ _ us hl => match us, hl with | [_, _, _, _, _], _ => rfl), gPc := PySem.W.mg_of X G a24,
    fPp := f25, fdPp := _, FPp := F25, bPp := (F25.binds (ps := ["rule", "chain", "state", "found"]) fun _ _ _ _ _ _ us hl => match us, hl with | [_, _, _, _], _ => rfl), gPp := PySem.W.mg_of X G a25,
    fLb := f26, fdLb := _, FLb := F26, bLb := (F26.binds (ps := ["first", "last", "page"]) fun _ _ _ _ _ _ us hl => match us, hl with | [_, _, _], _ => rfl), gLb := PySem.W.mg_of X G a26,
    fTw := f27, fdTw := _, FTw := F27, bTw := (F27.binds (ps := ["chain", "state"]) fun _ _ _ _ _ _ us hl => match us, hl with | [_, _], _ => rfl), gTw := PySem.W.mg_of X G a27,
    fHi := f28, fdHi := _, FHi := F28, MHi := ⟨mkHeap, a28, i28, kcHeap⟩, bHi := B28,
    fPt := f29, fdPt := _, FPt := F29, bPt := (F29.binds (ps := ["self", "address", "size"]) fun _ _ _ _ _ _ us hl => match us, hl with | [_, _, _], _ => rfl), mPt := ⟨a29, i29, k29⟩,
    fHk := f30, fdHk := _, FHk := F30, bHk := (F30.binds (ps := ["self", "size"]) fun _ _ _ _ _ _ us hl => match us, hl with | [_, _], _ => rfl), mHk := ⟨a30, i30, k30⟩,
    fHe := f31, fdHe := _, FHe := F31, bHe := (F31.binds (ps := ["self", "address", "size"]) fun _ _ _ _ _ _ us hl => match us, hl with | [_, _, _], _ => rfl), mHe := ⟨a31, i31, k31⟩,
    fHf := f32, fdHf := _, FHf := F32, bHf := (F32.binds (ps := ["self", "address"]) fun _ _ _ _ _ _ us hl => match us, hl with | [_, _], _ => rfl), mHf := ⟨a32, i32, k32⟩,
    fHs := f33, fdHs := _, FHs := F33, bHs := (F33.binds (ps := ["self"]) fun _ _ _ _ _ _ us hl => match us, hl with | [_], _ => rfl), mHs := ⟨a33, i33, k33⟩,
    fHl := f34, fdHl := _, FHl := F34, bHl := (F34.binds (ps := ["self"]) fun _ _ _ _ _ _ us hl => match us, hl with | [_], _ => rfl), mHl := ⟨a34, i34, k34⟩,
    fRy := f35, fdRy := _, FRy := F35, bRy := (F35.binds (ps := ["chain", "pages", "limit", "history"]) fun _ _ _ _ _ _ us hl => match us, hl with | [_, _, _, _], _ => rfl), gRy := PySem.W.mg_of X G a35,
    fFe := f36, fdFe := _, FFe := F36, bFe := (F36.binds (ps := ["value"]) fun _ _ _ _ _ _ us hl => match us, hl with | [_], _ => rfl), gFe := PySem.W.mg_of X G a36,
    fRe := f37, fdRe := _, FRe := F37, bRe := (F37.binds (ps := ["heap", "event"]) fun _ _ _ _ _ _ us hl => match us, hl with | [_, _], _ => rfl), gRe := PySem.W.mg_of X G a37,
    fHa := f38, fdHa := _, FHa := F38, bHa := (F38.binds (ps := ["chain", "heap", "event"]) fun _ _ _ _ _ _ us hl => match us, hl with | [_, _, _], _ => rfl), gHa := PySem.W.mg_of X G a38,
    fPo := f39, fdPo := _, FPo := F39, bPo := (F39.binds (ps := ["chain", "rule", "heap", "size"]) fun _ _ _ _ _ _ us hl => match us, hl with | [_, _, _, _], _ => rfl), gPo := PySem.W.mg_of X G a39,
    fWp := f40, fdWp := _, FWp := F40, bWp := (F40.binds (ps := ["chain", "limit", "rule"]) fun _ _ _ _ _ _ us hl => match us, hl with | [_, _, _], _ => rfl), gWp := PySem.W.mg_of X G a40,
    fWh := f41, fdWh := _, FWh := F41, bWh := (F41.binds (ps := ["chain", "limit", "rule"]) fun _ _ _ _ _ _ us hl => match us, hl with | [_, _, _], _ => rfl), gWh := PySem.W.mg_of X G a41,
    fCu := f42, fdCu := _, FCu := F42, bCu := (F42.binds (ps := ["rule"]) fun _ _ _ _ _ _ us hl => match us, hl with | [_], _ => rfl), gCu := PySem.W.mg_of X G a42,
    fRr := f43, fdRr := _, FRr := F43, bRr := (F43.binds (ps := ["chain", "limit", "rule"]) fun _ _ _ _ _ _ us hl => match us, hl with | [_, _, _], _ => rfl), gRr := PySem.W.mg_of X G a43,
    fNe := f44, fdNe := _, FNe := F44, bNe := (F44.binds (ps := ["chain", "limit", "rule", "heap"]) fun _ _ _ _ _ _ us hl => match us, hl with | [_, _, _, _], _ => rfl), gNe := PySem.W.mg_of X G a44,
    fSf := f45, fdSf := _, FSf := F45, bSf := (F45.binds (ps := ["chain", "limit", "pages", "state"]) fun _ _ _ _ _ _ us hl => match us, hl with | [_, _, _, _], _ => rfl), gSf := PySem.W.mg_of X G a45,
    fMv := f46, fdMv := _, FMv := F46, bMv := (F46.binds (ps := ["chain", "limit", "pages", "state"]) fun _ _ _ _ _ _ us hl => match us, hl with | [_, _, _, _], _ => rfl), gMv := PySem.W.mg_of X G a46,
    fCk := f47, fdCk := _, FCk := F47, bCk := (F47.binds (ps := ["chain", "limit", "pages", "state"]) fun _ _ _ _ _ _ us hl => match us, hl with | [_, _, _, _], _ => rfl), gCk := PySem.W.mg_of X G a47,
    fAl := f48, fdAl := _, FAl := F48, bAl := (F48.binds (ps := ["chain", "limit", "state"]) fun _ _ _ _ _ _ us hl => match us, hl with | [_, _, _], _ => rfl), gAl := PySem.W.mg_of X G a48,
    fUs := f49, fdUs := _, FUs := F49, bUs := (F49.binds (ps := ["chain", "limit", "pages"]) fun _ _ _ _ _ _ us hl => match us, hl with | [_, _, _], _ => rfl), gUs := PySem.W.mg_of X G a49,
    fSb := f50, fdSb := _, FSb := F50, bSb := (F50.binds (ps := ["chain", "limit", "pages", "newest", "moves", "unsafe", "escapes"]) fun _ _ _ _ _ _ us hl => match us, hl with | [_, _, _, _, _, _, _], _ => rfl), gSb := PySem.W.mg_of X G a50,
    fRq := f51, fdRq := _, FRq := F51, bRq := (F51.binds (ps := ["chain", "limit", "pages", "state", "escapes"]) fun _ _ _ _ _ _ us hl => match us, hl with | [_, _, _, _, _], _ => rfl), gRq := PySem.W.mg_of X G a51,
    fSc := f52, fdSc := _, FSc := F52, bSc := (F52.binds (ps := ["_law_script", "_law_k"]) fun _ _ _ _ _ _ us hl => match us, hl with | [_, _], _ => rfl), gSc := PySem.W.mg_of X G a52,
    fNu := f53, fdNu := _, FNu := F53, bNu := (F53.binds (ps := ["_law_source_here", "_law_below"]) fun _ _ _ _ _ _ us hl => match us, hl with | [_, _], _ => rfl), gNu := PySem.W.mg_of X G a53,
    fCo := f54, fdCo := _, FCo := F54, bCo := (F54.binds (ps := ["_law_source_here", "_law_some"]) fun _ _ _ _ _ _ us hl => match us, hl with | [_, _], _ => rfl), gCo := PySem.W.mg_of X G a54,
    fLaw := fa, fdLaw := _, FLaw := F55, bLaw := (F55.binds (ps := ["_law_script"]) fun _ _ _ _ _ _ us hl => match us, hl with | [_], _ => rfl), gLaw := PySem.W.mg_of X G a55,
    cPp := tcPp, pPp := tpPp, ePp := tab_code ttPp a25 l25 }
  have te : TabsE K h [(tcPp, tpPp)] := ⟨fun p hp => ?_, fun p hp => ?_, fun p hp => ?_⟩
  refine ⟨PySem.W.fnOf "law" "law" (defArgs (topS 77)) (defBody (topS 77)) (defScope (topS 77)) .none kV55 dc55 pm55 an55 cd55 ct55, [(tcPp, tpPp)], te, fun s v => .of_eq rfl, fun H a ns hl hT hS => ?_, fun base _ _ hB => ok_Law (k := 0) Z (hB (tcPp, tpPp) (by simp))⟩
  · exact ⟨a, ns, rfl, hS, hl, tabsAt hT, fun _ => rfl⟩
  · simp only [List.mem_cons, List.not_mem_nil, or_false] at hp
    rcases hp with rfl
    · exact (TT _ _ _ rqPp ttPp).2
  · simp only [List.mem_cons, List.not_mem_nil, or_false] at hp
    rcases hp with rfl
    · exact toPp
  · simp only [List.mem_cons, List.not_mem_nil, or_false] at hp
    rcases hp with rfl
    · exact (TT _ _ _ rqPp ttPp).1
end Ph
open PySem PySem.W PyProof.Rows
set_option maxHeartbeats 0 in
theorem PySem.Challenge.cw_pinnedheap_k69_whole_games_and_growing_h_holds : PySem.Challenge.rw_pinnedheap_k69_whole_games_and_growing_h.Holds := by
  w_on; o_law; k_head; (case hw => w_witness2)
  k_fill
  refine Ph.walkTG (l := PySem.Challenge.rw_pinnedheap_k69_whole_games_and_growing_h) (n := 63) (k := (0 + 1 + 1 + 1 + 1 + 1 + 1 + 1 + 1 + 1 + 1 + 1)) (x := "_law_script") (sp := fun K cs => Ph.spLaw K (cs.getD 0 (0, 0)).2) rfl (by decide) rfl ⟨rfl, by decide, by decide⟩ (fun w h Y => by first | exact PySem.W.kIn_of Y | exact PySem.W.km_in_of Y) ?F
  case F =>
    intro w mg fa h KX G hmg TT
    refine' Ph.all_mk KX G hmg TT ?aCHeap ?pgHeap ?hdHeap ?poHeap ?saHeap ?mkHeap ?kcHeap ?naHeap_chain ?naHeap_pages ?naHeap_limit ?naHeap_rule ?naHeap_blocks ?naHeap_steps ?aCHeapError ?bxH ?hdH ?tyH ?zve ?cgX ?ctX ?v_MOST_SIZES ?v_LARGEST_SIZE ?v_MOST_STATES ?v_MOST_WORDS ?v_RULES ?l_RULES ?a1 ?l1 ?c1 ?k1 ?a2 ?l2 ?c2 ?k2 ?a3 ?l3 ?c3 ?k3 ?a4 ?l4 ?c4 ?k4 ?a5 ?l5 ?c5 ?k5 ?a6 ?l6 ?c6 ?k6 ?a7 ?l7 ?c7 ?k7 ?a8 ?l8 ?c8 ?k8 ?a9 ?l9 ?c9 ?k9 ?a10 ?l10 ?c10 ?k10 ?a11 ?l11 ?c11 ?k11 ?a12 ?l12 ?c12 ?k12 ?a13 ?l13 ?c13 ?k13 ?a14 ?l14 ?c14 ?k14 ?a15 ?l15 ?c15 ?k15 ?a16 ?l16 ?c16 ?k16 ?a17 ?l17 ?c17 ?k17 ?a18 ?l18 ?c18 ?k18 ?a19 ?l19 ?c19 ?k19 ?a20 ?l20 ?c20 ?k20 ?a21 ?l21 ?c21 ?k21 ?a22 ?l22 ?c22 ?k22 ?a23 ?l23 ?c23 ?k23 ?a24 ?l24 ?c24 ?k24 ?a25 ?l25 ?c25 ?k25 ?a26 ?l26 ?c26 ?k26 ?a27 ?l27 ?c27 ?k27 ?a28 ?i28 ?l28 ?c28 ?k28 ?d28_rule ?a29 ?i29 ?l29 ?c29 ?k29 ?a30 ?i30 ?l30 ?c30 ?k30 ?a31 ?i31 ?l31 ?c31 ?k31 ?a32 ?i32 ?l32 ?c32 ?k32 ?a33 ?i33 ?l33 ?c33 ?k33 ?a34 ?i34 ?l34 ?c34 ?k34 ?a35 ?l35 ?c35 ?k35 ?a36 ?l36 ?c36 ?k36 ?a37 ?l37 ?c37 ?k37 ?a38 ?l38 ?c38 ?k38 ?a39 ?l39 ?c39 ?k39 ?a40 ?l40 ?c40 ?k40 ?a41 ?l41 ?c41 ?k41 ?a42 ?l42 ?c42 ?k42 ?a43 ?l43 ?c43 ?k43 ?a44 ?l44 ?c44 ?k44 ?a45 ?l45 ?c45 ?k45 ?a46 ?l46 ?c46 ?k46 ?a47 ?l47 ?c47 ?k47 ?a48 ?l48 ?c48 ?k48 ?a49 ?l49 ?c49 ?k49 ?a50 ?l50 ?c50 ?k50 ?a51 ?l51 ?c51 ?k51 ?a52 ?l52 ?c52 ?k52 ?a53 ?l53 ?c53 ?k53 ?a54 ?l54 ?c54 ?k54 ?a55 ?l55 ?c55 ?k55 ?ttPp ?toPp ?rqPp ?z1 ?z2 ?z3 ?z4 ?z5 ?z6 ?z7 ?z8 ?z9 ?z10 ?z11 ?z12 ?z13 ?z14 ?z15 ?z16 ?z17 ?z18 ?z19 ?z20 ?z21 ?zd
    (case aCHeap => first | k_is | kit_is | rfl | decide +kernel); (case pgHeap => first | k_is | kit_is | rfl | decide +kernel); (case hdHeap => first | k_is | kit_is | rfl | decide +kernel); (case poHeap => first | k_is | kit_is | rfl | decide +kernel); (case saHeap => first | k_is | kit_is | rfl | decide +kernel); (case mkHeap => first | k_is | kit_is | rfl | decide +kernel); (case kcHeap => first | k_is | kit_is | rfl | decide +kernel); (case naHeap_chain => first | k_is | kit_is | rfl | decide +kernel); (case naHeap_pages => first | k_is | kit_is | rfl | decide +kernel); (case naHeap_limit => first | k_is | kit_is | rfl | decide +kernel); (case naHeap_rule => first | k_is | kit_is | rfl | decide +kernel); (case naHeap_blocks => first | k_is | kit_is | rfl | decide +kernel); (case naHeap_steps => first | k_is | kit_is | rfl | decide +kernel); (case aCHeapError => first | k_is | kit_is | rfl | decide +kernel); (case bxH => first | k_is | kit_is | rfl | decide +kernel); (case hdH => first | k_is | kit_is | rfl | decide +kernel); (case tyH => first | k_is | kit_is | rfl | decide +kernel); (case zve => first | k_is | kit_is | rfl | decide +kernel); (case cgX => first | k_is | kit_is | rfl | decide +kernel); (case ctX => first | k_is | kit_is | rfl | decide +kernel); (case v_MOST_SIZES => first | k_is | kit_is | rfl | decide +kernel); (case v_LARGEST_SIZE => first | k_is | kit_is | rfl | decide +kernel); (case v_MOST_STATES => first | k_is | kit_is | rfl | decide +kernel); (case v_MOST_WORDS => first | k_is | kit_is | rfl | decide +kernel); (case v_RULES => first | k_is | kit_is | rfl | decide +kernel); (case l_RULES => first | k_is | kit_is | rfl | decide +kernel); (case a1 => first | k_is | kit_is | rfl | decide +kernel); (case l1 => first | k_is | kit_is | rfl | decide +kernel); (case c1 => first | k_is | kit_is | rfl | decide +kernel); (case k1 => first | k_is | kit_is | rfl | decide +kernel); (case a2 => first | k_is | kit_is | rfl | decide +kernel); (case l2 => first | k_is | kit_is | rfl | decide +kernel); (case c2 => first | k_is | kit_is | rfl | decide +kernel); (case k2 => first | k_is | kit_is | rfl | decide +kernel); (case a3 => first | k_is | kit_is | rfl | decide +kernel); (case l3 => first | k_is | kit_is | rfl | decide +kernel); (case c3 => first | k_is | kit_is | rfl | decide +kernel); (case k3 => first | k_is | kit_is | rfl | decide +kernel); (case a4 => first | k_is | kit_is | rfl | decide +kernel); (case l4 => first | k_is | kit_is | rfl | decide +kernel); (case c4 => first | k_is | kit_is | rfl | decide +kernel); (case k4 => first | k_is | kit_is | rfl | decide +kernel); (case a5 => first | k_is | kit_is | rfl | decide +kernel); (case l5 => first | k_is | kit_is | rfl | decide +kernel); (case c5 => first | k_is | kit_is | rfl | decide +kernel); (case k5 => first | k_is | kit_is | rfl | decide +kernel); (case a6 => first | k_is | kit_is | rfl | decide +kernel); (case l6 => first | k_is | kit_is | rfl | decide +kernel); (case c6 => first | k_is | kit_is | rfl | decide +kernel); (case k6 => first | k_is | kit_is | rfl | decide +kernel); (case a7 => first | k_is | kit_is | rfl | decide +kernel); (case l7 => first | k_is | kit_is | rfl | decide +kernel); (case c7 => first | k_is | kit_is | rfl | decide +kernel); (case k7 => first | k_is | kit_is | rfl | decide +kernel); (case a8 => first | k_is | kit_is | rfl | decide +kernel); (case l8 => first | k_is | kit_is | rfl | decide +kernel); (case c8 => first | k_is | kit_is | rfl | decide +kernel); (case k8 => first | k_is | kit_is | rfl | decide +kernel); (case a9 => first | k_is | kit_is | rfl | decide +kernel); (case l9 => first | k_is | kit_is | rfl | decide +kernel); (case c9 => first | k_is | kit_is | rfl | decide +kernel); (case k9 => first | k_is | kit_is | rfl | decide +kernel); (case a10 => first | k_is | kit_is | rfl | decide +kernel); (case l10 => first | k_is | kit_is | rfl | decide +kernel); (case c10 => first | k_is | kit_is | rfl | decide +kernel); (case k10 => first | k_is | kit_is | rfl | decide +kernel); (case a11 => first | k_is | kit_is | rfl | decide +kernel); (case l11 => first | k_is | kit_is | rfl | decide +kernel); (case c11 => first | k_is | kit_is | rfl | decide +kernel); (case k11 => first | k_is | kit_is | rfl | decide +kernel); (case a12 => first | k_is | kit_is | rfl | decide +kernel); (case l12 => first | k_is | kit_is | rfl | decide +kernel); (case c12 => first | k_is | kit_is | rfl | decide +kernel); (case k12 => first | k_is | kit_is | rfl | decide +kernel); (case a13 => first | k_is | kit_is | rfl | decide +kernel); (case l13 => first | k_is | kit_is | rfl | decide +kernel); (case c13 => first | k_is | kit_is | rfl | decide +kernel); (case k13 => first | k_is | kit_is | rfl | decide +kernel); (case a14 => first | k_is | kit_is | rfl | decide +kernel); (case l14 => first | k_is | kit_is | rfl | decide +kernel); (case c14 => first | k_is | kit_is | rfl | decide +kernel); (case k14 => first | k_is | kit_is | rfl | decide +kernel); (case a15 => first | k_is | kit_is | rfl | decide +kernel); (case l15 => first | k_is | kit_is | rfl | decide +kernel); (case c15 => first | k_is | kit_is | rfl | decide +kernel); (case k15 => first | k_is | kit_is | rfl | decide +kernel); (case a16 => first | k_is | kit_is | rfl | decide +kernel); (case l16 => first | k_is | kit_is | rfl | decide +kernel); (case c16 => first | k_is | kit_is | rfl | decide +kernel); (case k16 => first | k_is | kit_is | rfl | decide +kernel); (case a17 => first | k_is | kit_is | rfl | decide +kernel); (case l17 => first | k_is | kit_is | rfl | decide +kernel); (case c17 => first | k_is | kit_is | rfl | decide +kernel); (case k17 => first | k_is | kit_is | rfl | decide +kernel); (case a18 => first | k_is | kit_is | rfl | decide +kernel); (case l18 => first | k_is | kit_is | rfl | decide +kernel); (case c18 => first | k_is | kit_is | rfl | decide +kernel); (case k18 => first | k_is | kit_is | rfl | decide +kernel); (case a19 => first | k_is | kit_is | rfl | decide +kernel); (case l19 => first | k_is | kit_is | rfl | decide +kernel); (case c19 => first | k_is | kit_is | rfl | decide +kernel); (case k19 => first | k_is | kit_is | rfl | decide +kernel); (case a20 => first | k_is | kit_is | rfl | decide +kernel); (case l20 => first | k_is | kit_is | rfl | decide +kernel); (case c20 => first | k_is | kit_is | rfl | decide +kernel); (case k20 => first | k_is | kit_is | rfl | decide +kernel); (case a21 => first | k_is | kit_is | rfl | decide +kernel); (case l21 => first | k_is | kit_is | rfl | decide +kernel); (case c21 => first | k_is | kit_is | rfl | decide +kernel); (case k21 => first | k_is | kit_is | rfl | decide +kernel); (case a22 => first | k_is | kit_is | rfl | decide +kernel); (case l22 => first | k_is | kit_is | rfl | decide +kernel); (case c22 => first | k_is | kit_is | rfl | decide +kernel); (case k22 => first | k_is | kit_is | rfl | decide +kernel); (case a23 => first | k_is | kit_is | rfl | decide +kernel); (case l23 => first | k_is | kit_is | rfl | decide +kernel); (case c23 => first | k_is | kit_is | rfl | decide +kernel); (case k23 => first | k_is | kit_is | rfl | decide +kernel); (case a24 => first | k_is | kit_is | rfl | decide +kernel); (case l24 => first | k_is | kit_is | rfl | decide +kernel); (case c24 => first | k_is | kit_is | rfl | decide +kernel); (case k24 => first | k_is | kit_is | rfl | decide +kernel); (case a25 => first | k_is | kit_is | rfl | decide +kernel); (case l25 => first | k_is | kit_is | rfl | decide +kernel); (case c25 => first | k_is | kit_is | rfl | decide +kernel); (case k25 => first | k_is | kit_is | rfl | decide +kernel); (case a26 => first | k_is | kit_is | rfl | decide +kernel); (case l26 => first | k_is | kit_is | rfl | decide +kernel); (case c26 => first | k_is | kit_is | rfl | decide +kernel); (case k26 => first | k_is | kit_is | rfl | decide +kernel); (case a27 => first | k_is | kit_is | rfl | decide +kernel); (case l27 => first | k_is | kit_is | rfl | decide +kernel); (case c27 => first | k_is | kit_is | rfl | decide +kernel); (case k27 => first | k_is | kit_is | rfl | decide +kernel); (case a28 => first | k_is | kit_is | rfl | decide +kernel); (case i28 => first | k_is | kit_is | rfl | decide +kernel); (case l28 => first | k_is | kit_is | rfl | decide +kernel); (case c28 => first | k_is | kit_is | rfl | decide +kernel); (case k28 => first | k_is | kit_is | rfl | decide +kernel); (case d28_rule => first | k_is | kit_is | rfl | decide +kernel); (case a29 => first | k_is | kit_is | rfl | decide +kernel); (case i29 => first | k_is | kit_is | rfl | decide +kernel); (case l29 => first | k_is | kit_is | rfl | decide +kernel); (case c29 => first | k_is | kit_is | rfl | decide +kernel); (case k29 => first | k_is | kit_is | rfl | decide +kernel); (case a30 => first | k_is | kit_is | rfl | decide +kernel); (case i30 => first | k_is | kit_is | rfl | decide +kernel); (case l30 => first | k_is | kit_is | rfl | decide +kernel); (case c30 => first | k_is | kit_is | rfl | decide +kernel); (case k30 => first | k_is | kit_is | rfl | decide +kernel); (case a31 => first | k_is | kit_is | rfl | decide +kernel); (case i31 => first | k_is | kit_is | rfl | decide +kernel); (case l31 => first | k_is | kit_is | rfl | decide +kernel); (case c31 => first | k_is | kit_is | rfl | decide +kernel); (case k31 => first | k_is | kit_is | rfl | decide +kernel); (case a32 => first | k_is | kit_is | rfl | decide +kernel); (case i32 => first | k_is | kit_is | rfl | decide +kernel); (case l32 => first | k_is | kit_is | rfl | decide +kernel); (case c32 => first | k_is | kit_is | rfl | decide +kernel); (case k32 => first | k_is | kit_is | rfl | decide +kernel); (case a33 => first | k_is | kit_is | rfl | decide +kernel); (case i33 => first | k_is | kit_is | rfl | decide +kernel); (case l33 => first | k_is | kit_is | rfl | decide +kernel); (case c33 => first | k_is | kit_is | rfl | decide +kernel); (case k33 => first | k_is | kit_is | rfl | decide +kernel); (case a34 => first | k_is | kit_is | rfl | decide +kernel); (case i34 => first | k_is | kit_is | rfl | decide +kernel); (case l34 => first | k_is | kit_is | rfl | decide +kernel); (case c34 => first | k_is | kit_is | rfl | decide +kernel); (case k34 => first | k_is | kit_is | rfl | decide +kernel); (case a35 => first | k_is | kit_is | rfl | decide +kernel); (case l35 => first | k_is | kit_is | rfl | decide +kernel); (case c35 => first | k_is | kit_is | rfl | decide +kernel); (case k35 => first | k_is | kit_is | rfl | decide +kernel); (case a36 => first | k_is | kit_is | rfl | decide +kernel); (case l36 => first | k_is | kit_is | rfl | decide +kernel); (case c36 => first | k_is | kit_is | rfl | decide +kernel); (case k36 => first | k_is | kit_is | rfl | decide +kernel); (case a37 => first | k_is | kit_is | rfl | decide +kernel); (case l37 => first | k_is | kit_is | rfl | decide +kernel); (case c37 => first | k_is | kit_is | rfl | decide +kernel); (case k37 => first | k_is | kit_is | rfl | decide +kernel); (case a38 => first | k_is | kit_is | rfl | decide +kernel); (case l38 => first | k_is | kit_is | rfl | decide +kernel); (case c38 => first | k_is | kit_is | rfl | decide +kernel); (case k38 => first | k_is | kit_is | rfl | decide +kernel); (case a39 => first | k_is | kit_is | rfl | decide +kernel); (case l39 => first | k_is | kit_is | rfl | decide +kernel); (case c39 => first | k_is | kit_is | rfl | decide +kernel); (case k39 => first | k_is | kit_is | rfl | decide +kernel); (case a40 => first | k_is | kit_is | rfl | decide +kernel); (case l40 => first | k_is | kit_is | rfl | decide +kernel); (case c40 => first | k_is | kit_is | rfl | decide +kernel); (case k40 => first | k_is | kit_is | rfl | decide +kernel); (case a41 => first | k_is | kit_is | rfl | decide +kernel); (case l41 => first | k_is | kit_is | rfl | decide +kernel); (case c41 => first | k_is | kit_is | rfl | decide +kernel); (case k41 => first | k_is | kit_is | rfl | decide +kernel); (case a42 => first | k_is | kit_is | rfl | decide +kernel); (case l42 => first | k_is | kit_is | rfl | decide +kernel); (case c42 => first | k_is | kit_is | rfl | decide +kernel); (case k42 => first | k_is | kit_is | rfl | decide +kernel); (case a43 => first | k_is | kit_is | rfl | decide +kernel); (case l43 => first | k_is | kit_is | rfl | decide +kernel); (case c43 => first | k_is | kit_is | rfl | decide +kernel); (case k43 => first | k_is | kit_is | rfl | decide +kernel); (case a44 => first | k_is | kit_is | rfl | decide +kernel); (case l44 => first | k_is | kit_is | rfl | decide +kernel); (case c44 => first | k_is | kit_is | rfl | decide +kernel); (case k44 => first | k_is | kit_is | rfl | decide +kernel); (case a45 => first | k_is | kit_is | rfl | decide +kernel); (case l45 => first | k_is | kit_is | rfl | decide +kernel); (case c45 => first | k_is | kit_is | rfl | decide +kernel); (case k45 => first | k_is | kit_is | rfl | decide +kernel); (case a46 => first | k_is | kit_is | rfl | decide +kernel); (case l46 => first | k_is | kit_is | rfl | decide +kernel); (case c46 => first | k_is | kit_is | rfl | decide +kernel); (case k46 => first | k_is | kit_is | rfl | decide +kernel); (case a47 => first | k_is | kit_is | rfl | decide +kernel); (case l47 => first | k_is | kit_is | rfl | decide +kernel); (case c47 => first | k_is | kit_is | rfl | decide +kernel); (case k47 => first | k_is | kit_is | rfl | decide +kernel); (case a48 => first | k_is | kit_is | rfl | decide +kernel); (case l48 => first | k_is | kit_is | rfl | decide +kernel); (case c48 => first | k_is | kit_is | rfl | decide +kernel); (case k48 => first | k_is | kit_is | rfl | decide +kernel); (case a49 => first | k_is | kit_is | rfl | decide +kernel); (case l49 => first | k_is | kit_is | rfl | decide +kernel); (case c49 => first | k_is | kit_is | rfl | decide +kernel); (case k49 => first | k_is | kit_is | rfl | decide +kernel); (case a50 => first | k_is | kit_is | rfl | decide +kernel); (case l50 => first | k_is | kit_is | rfl | decide +kernel); (case c50 => first | k_is | kit_is | rfl | decide +kernel); (case k50 => first | k_is | kit_is | rfl | decide +kernel); (case a51 => first | k_is | kit_is | rfl | decide +kernel); (case l51 => first | k_is | kit_is | rfl | decide +kernel); (case c51 => first | k_is | kit_is | rfl | decide +kernel); (case k51 => first | k_is | kit_is | rfl | decide +kernel); (case a52 => first | k_is | kit_is | rfl | decide +kernel); (case l52 => first | k_is | kit_is | rfl | decide +kernel); (case c52 => first | k_is | kit_is | rfl | decide +kernel); (case k52 => first | k_is | kit_is | rfl | decide +kernel); (case a53 => first | k_is | kit_is | rfl | decide +kernel); (case l53 => first | k_is | kit_is | rfl | decide +kernel); (case c53 => first | k_is | kit_is | rfl | decide +kernel); (case k53 => first | k_is | kit_is | rfl | decide +kernel); (case a54 => first | k_is | kit_is | rfl | decide +kernel); (case l54 => first | k_is | kit_is | rfl | decide +kernel); (case c54 => first | k_is | kit_is | rfl | decide +kernel); (case k54 => first | k_is | kit_is | rfl | decide +kernel); (case a55 => first | k_is | kit_is | rfl | decide +kernel); (case l55 => first | k_is | kit_is | rfl | decide +kernel); (case c55 => first | k_is | kit_is | rfl | decide +kernel); (case k55 => first | k_is | kit_is | rfl | decide +kernel); (case ttPp => first | k_is | kit_is | rfl | decide +kernel); (case toPp => first | k_is | kit_is | rfl | decide +kernel); (case rqPp => first | k_is | kit_is | rfl | decide +kernel); (case z1 => first | k_is | kit_is | rfl | decide +kernel); (case z2 => first | k_is | kit_is | rfl | decide +kernel); (case z3 => first | k_is | kit_is | rfl | decide +kernel); (case z4 => first | k_is | kit_is | rfl | decide +kernel); (case z5 => first | k_is | kit_is | rfl | decide +kernel); (case z6 => first | k_is | kit_is | rfl | decide +kernel); (case z7 => first | k_is | kit_is | rfl | decide +kernel); (case z8 => first | k_is | kit_is | rfl | decide +kernel); (case z9 => first | k_is | kit_is | rfl | decide +kernel); (case z10 => first | k_is | kit_is | rfl | decide +kernel); (case z11 => first | k_is | kit_is | rfl | decide +kernel); (case z12 => first | k_is | kit_is | rfl | decide +kernel); (case z13 => first | k_is | kit_is | rfl | decide +kernel); (case z14 => first | k_is | kit_is | rfl | decide +kernel); (case z15 => first | k_is | kit_is | rfl | decide +kernel); (case z16 => first | k_is | kit_is | rfl | decide +kernel); (case z17 => first | k_is | kit_is | rfl | decide +kernel); (case z18 => first | k_is | kit_is | rfl | decide +kernel); (case z19 => first | k_is | kit_is | rfl | decide +kernel); (case z20 => first | k_is | kit_is | rfl | decide +kernel); (case z21 => first | k_is | kit_is | rfl | decide +kernel); (case zd => first | k_is | kit_is | rfl | decide +kernel)
