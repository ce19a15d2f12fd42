import PyProof.Rows.All
import Wide.All
import OpenK.AllK
import Wide.FinOn
import HandS.ForMost
import HandS.IsInst
import HandS.Style
import HandS.Gcd
import HandS.Wide
import HandS.EndBits
import HandS.Sort
import HandS.Rev
import PyProof.MinMaxWalk
import PyProof.WalkInts
import PyProof.WalksMore
import Flt.RightSqrt
import PyProof.Rows.MatchSeqLen
import HandS.Iter
import HandS.Walk
import PyProof.RangeFor
import PyProof.Rows.CountFlat
import HandS.HotCalls
import HandS.ExcCtx
import HandS.ExcIs
import HandS.CallLocal
import HandS.WordsExc
import HandS.TryMany
import PySem.Challenge.RW_oneapart_k05_refused
set_option Elab.async false
set_option linter.all false
set_option maxRecDepth 100000
namespace OA
/-! The mathematics of the chain, in plain Lean. -/
/-- one step of the states (m, d) -/
def pt (r : Int) (s : Int × Int) : Int := (r + s.1) / s.2
def nm (r : Int) (s : Int × Int) : Int := pt r s * s.2 - s.1
def nx (N r : Int) (s : Int × Int) : Int × Int := (nm r s, (N - nm r s * nm r s) / s.2)
def st (N r : Int) : Nat → Int × Int
  | 0 => (r, N - r * r)
  | k + 1 => nx N r (st N r k)
/-- a number that is no square, and the whole part of its root -/
structure Nsq (N r : Int) : Prop where
  r0 : 0 < r
  lo : r * r < N
  hi : N < (r + 1) * (r + 1)
structure Red (N r : Int) (s : Int × Int) : Prop where
  m1 : 0 < s.1
  m2 : s.1 ≤ r
  d0 : 0 < s.2
  lo : r < s.1 + s.2
  hi : s.2 ≤ r + s.1
  dv : s.2 ∣ N - s.1 * s.1
section
variable {N r : Int}
theorem Nsq.two (h : Nsq N r) : 2 ≤ N := by
  have := h.lo
  have := Int.mul_le_mul (show 1 ≤ r from h.r0) (show 1 ≤ r from h.r0) (by decide) (Int.le_of_lt h.r0)
  omega
theorem red0 (h : Nsq N r) : Red N r (r, N - r * r) := by
  have h1 := h.r0
  have h2 := h.lo
  have h3 := h.hi
  have e : (r + 1) * (r + 1) = r * r + 2 * r + 1 := by grind
  refine ⟨h1, Int.le_refl r, ?_, ?_, ?_, ?_⟩ <;> dsimp only
  · omega
  · omega
  · omega
  · exact Int.dvd_refl _
theorem div_lo {x d : Int} (hd : 0 < d) : x / d * d ≤ x := Int.ediv_mul_le x (by omega)
theorem div_hi {x d : Int} (hd : 0 < d) : x < x / d * d + d := by
  have := Int.lt_ediv_add_one_mul_self x hd
  have e : (x / d + 1) * d = x / d * d + d := by grind
  omega
theorem div_is {x d q : Int} (hd : 0 < d) (h1 : q * d ≤ x) (h2 : x < q * d + d) : x / d = q := by
  apply Int.le_antisymm
  · have : x < (q + 1) * d := by have e : (q + 1) * d = q * d + d := by grind
                                 omega
    exact Int.le_of_lt_add_one (Int.ediv_lt_of_lt_mul hd this)
  · exact Int.le_ediv_of_mul_le hd h1
/-- what a step makes of a state that is reduced -/
structure Step (N r : Int) (s : Int × Int) : Prop where
  a1 : 1 ≤ pt r s
  red : Red N r (nx N r s)
  ex : s.2 * (nx N r s).2 = N - (nx N r s).1 * (nx N r s).1
  m : (nx N r s).1 = pt r s * s.2 - s.1
  back : (r + (nx N r s).1) / s.2 = pt r s
theorem step (h : Nsq N r) {s : Int × Int} (R : Red N r s) : Step N r s := by
  obtain ⟨m, d⟩ := s
  obtain ⟨m1, m2, d0, lo, hi, dv⟩ := R
  dsimp only at m1 m2 d0 lo hi dv
  have k1 : pt r (m, d) * d ≤ r + m := div_lo d0
  have k2 : r + m < pt r (m, d) * d + d := div_hi d0
  have a1 : 1 ≤ pt r (m, d) := Int.le_ediv_of_mul_le d0 (by dsimp only; omega)
  have ea : nm r (m, d) = pt r (m, d) * d - m := rfl
  have en : nx N r (m, d) = (nm r (m, d), (N - nm r (m, d) * nm r (m, d)) / d) := rfl
  generalize ha : pt r (m, d) = a at *
  generalize nm r (m, d) = m' at *
  have had : d ≤ a * d := by
    have := Int.mul_le_mul_of_nonneg_right a1 (Int.le_of_lt d0)
    omega
  have n1 : r < m' + d := by omega
  have n2 : m' ≤ r := by omega
  have n3 : 0 < m' := by
    rcases Int.lt_or_le r d with c | c
    · omega
    · omega
  have n4 : d ≤ r + m' := by omega
  obtain ⟨e, he⟩ := dv
  have hex : N - m' * m' = d * (e + 2 * a * m - a * a * d) := by
    have : N = m * m + d * e := by omega
    rw [ea, this]
    grind
  have hd' : (N - m' * m') / d = e + 2 * a * m - a * a * d := by rw [hex]; exact Int.mul_ediv_cancel_left _ (by omega)
  rw [hd'] at en
  generalize e + 2 * a * m - a * a * d = d' at *
  have rr := h.lo
  have hh := h.hi
  have hrm : m' * m' ≤ r * r := Int.mul_le_mul n2 n2 (by omega) (by omega)
  have p1 : 0 < d * d' := by omega
  have d'0 : 0 < d' := by
    rcases Int.lt_or_le 0 d' with c | c
    · exact c
    · have := Int.mul_nonneg_of_nonpos_of_nonpos (a := -d) (b := d') (by omega) c
      have e2 : -d * d' = -(d * d') := by grind
      omega
  have lo' : r < m' + d' := by
    rcases Int.lt_or_le r (m' + d') with c | c
    · exact c
    · have q : d * d' ≤ (r + m') * (r - m') := Int.mul_le_mul n4 (by omega) (by omega) (by omega)
      have e2 : (r + m') * (r - m') = r * r - m' * m' := by grind
      omega
  have hi' : d' ≤ r + m' := by
    rcases Int.lt_or_le (r + m') d' with c | c
    · have q : (r - m' + 1) * (r + m' + 1) ≤ d * d' := Int.mul_le_mul (by omega) (by omega) (by omega) (by omega)
      have e2 : (r - m' + 1) * (r + m' + 1) = (r + 1) * (r + 1) - m' * m' := by grind
      omega
    · exact c
  refine ⟨by rw [ha]; exact a1, ?_, ?_, ?_, ?_⟩
  · rw [en]
    exact ⟨n3, n2, d'0, lo', hi', ⟨d, by dsimp only; rw [hex, Int.mul_comm]⟩⟩
  · rw [en]; exact hex.symm
  · rw [en, ha]; exact ea
  · rw [en, ha]
    exact div_is d0 (by dsimp only; omega) (by dsimp only; omega)
theorem red (h : Nsq N r) : ∀ k, Red N r (st N r k)
  | 0 => red0 h
  | k + 1 => (step h (red h k)).red
/-- a step can be taken back -/
theorem nx_inj (h : Nsq N r) {s t : Int × Int} (hs : Red N r s) (ht : Red N r t) (e : nx N r s = nx N r t) : s = t := by
  have S := step h hs
  have T := step h ht
  have R := S.red
  have e1 := S.ex
  have e2 := T.ex
  rw [← e] at e2
  have ed : s.2 = t.2 := by
    have : s.2 * (nx N r s).2 = t.2 * (nx N r s).2 := by omega
    exact Int.eq_of_mul_eq_mul_right (by have := R.d0; omega) this
  have ea : pt r s = pt r t := by rw [← S.back, ← T.back, e, ed]
  have em : s.1 = t.1 := by
    have q1 := S.m
    have q2 := T.m
    rw [← e, ← ea, ← ed] at q2
    omega
  exact Prod.ext em ed
theorem one_iff (h : Nsq N r) {s : Int × Int} (R : Red N r s) : pt r s = 2 * r ↔ s.2 = 1 := by
  obtain ⟨m, d⟩ := s
  obtain ⟨m1, m2, d0, lo, hi, dv⟩ := R
  dsimp only at *
  have r0 := h.r0
  constructor
  · intro e
    have k : pt r (m, d) * d ≤ r + m := div_lo d0
    rw [e] at k
    rcases Int.lt_or_le d 2 with c | c
    · omega
    · have := Int.mul_le_mul_of_nonneg_left c (show 0 ≤ 2 * r by omega)
      omega
  · intro e
    subst e
    show (r + m) / 1 = 2 * r
    rw [Int.ediv_one]
    omega
/-- the denominator ahead of a state -/
def dp (N r : Int) : Nat → Int
  | 0 => 1
  | k + 1 => (st N r k).2
theorem dp_ex (h : Nsq N r) : ∀ k, dp N r k * (st N r k).2 = N - (st N r k).1 * (st N r k).1
  | 0 => by show 1 * (N - r * r) = N - r * r; omega
  | k + 1 => (step h (red h k)).ex
theorem dp0 (h : Nsq N r) : ∀ k, 0 < dp N r k
  | 0 => by show (0 : Int) < 1; decide
  | k + 1 => (red h k).d0
/-- where two states are one, an earlier one has denominator 1 -/
theorem st_back (h : Nsq N r) : ∀ i j, st N r i = st N r (i + (j + 1)) → (st N r j).2 = 1
  | 0, j, e => by
    have S := (step h (red h j)).ex
    have e' : nx N r (st N r j) = (r, N - r * r) := by
      have : st N r (0 + (j + 1)) = nx N r (st N r j) := by rw [Nat.zero_add]; rfl
      rw [← this, ← e]; rfl
    rw [e'] at S
    dsimp only at S
    have : 0 < N - r * r := by have := h.lo; omega
    exact Int.eq_of_mul_eq_mul_right (show N - r * r ≠ 0 by omega) (by omega)
  | i + 1, j, e => by
    refine st_back h i j (nx_inj h (red h _) (red h _) ?_)
    have : i + 1 + (j + 1) = i + (j + 1) + 1 := by omega
    rw [this] at e
    exact e
theorem st_ne (h : Nsq N r) {K : Nat} (hK : ∀ k, k < K → (st N r k).2 ≠ 1) {i j : Nat} (hij : i < j) (hj : j ≤ K) : st N r i ≠ st N r j := fun e => by
  have : j = i + ((j - i - 1) + 1) := by omega
  rw [this] at e
  exact hK _ (by omega) (st_back h i _ e)
end
end OA
namespace OA
section
variable {N r : Int}
/-! ### the parts, forward and backward -/
def pre (N r : Int) (k : Nat) : List Int := (List.range k).map fun i => pt r (st N r i)
theorem pre_succ (k : Nat) : pre N r (k + 1) = pre N r k ++ [pt r (st N r k)] := by
  unfold pre
  rw [List.range_succ, List.map_append]
  rfl
theorem pre_len (k : Nat) : (pre N r k).length = k := by simp [pre]
theorem pre_get {k i : Nat} (h : i < k) : (pre N r k)[i]? = some (pt r (st N r i)) := by
  unfold pre
  rw [List.getElem?_map, List.getElem?_range h]
  rfl
def fwS (c : (Int × Int) × (Int × Int)) (a : Int) : (Int × Int) × (Int × Int) := (c.2, (a * c.2.1 + c.1.1, a * c.2.2 + c.1.2))
def bkS (a : Int) (c : Int × Int) : Int × Int := (a * c.1 + c.2, c.1)
def back (l : List Int) : Int × Int := l.foldr bkS (1, 0)
def cv (N r : Int) (k : Nat) : (Int × Int) × (Int × Int) := (pre N r k).foldl fwS ((1, 0), (r, 1))
theorem cv_succ (k : Nat) : cv N r (k + 1) = fwS (cv N r k) (pt r (st N r k)) := by
  unfold cv
  rw [pre_succ, List.foldl_append]
  rfl
theorem fw_back (l : List Int) : ∀ c : (Int × Int) × (Int × Int), (l.foldl fwS c).2 = (c.2.1 * (back l).1 + c.1.1 * (back l).2, c.2.2 * (back l).1 + c.1.2 * (back l).2) := by
  induction l with
  | nil =>
    intro c
    show c.2 = (c.2.1 * 1 + c.1.1 * 0, c.2.2 * 1 + c.1.2 * 0)
    ext <;> dsimp only <;> omega
  | cons a t ih =>
    intro c
    show (t.foldl fwS (fwS c a)).2 = _
    rw [ih]
    show ((a * c.2.1 + c.1.1) * (back t).1 + c.2.1 * (back t).2, (a * c.2.2 + c.1.2) * (back t).1 + c.2.2 * (back t).2) = (c.2.1 * (a * (back t).1 + (back t).2) + c.1.1 * (back t).1, c.2.2 * (a * (back t).1 + (back t).2) + c.1.2 * (back t).1)
    ext <;> dsimp only <;> grind
theorem cv_back (k : Nat) : (cv N r k).2 = (r * (back (pre N r k)).1 + (back (pre N r k)).2, (back (pre N r k)).1) := by
  unfold cv
  rw [fw_back]
  ext <;> dsimp only <;> omega
/-! ### the norm -/
def sg : Nat → Int
  | 0 => 1
  | k + 1 => - sg k
theorem sg_or : ∀ k, sg k = 1 ∨ sg k = -1
  | 0 => .inl rfl
  | k + 1 => by
    show - sg k = 1 ∨ - sg k = -1
    rcases sg_or k with e | e <;> omega
theorem sg_par : ∀ k, sg k = if k % 2 = 0 then 1 else -1
  | 0 => rfl
  | k + 1 => by
    show - sg k = _
    rw [sg_par k]
    by_cases c : k % 2 = 0
    · rw [if_pos c, if_neg (by omega)]
    · rw [if_neg c, if_pos (by omega)]; rfl
structure Norm (N r : Int) (k : Nat) : Prop where
  a : (cv N r k).2.1 * (cv N r k).2.1 - N * (cv N r k).2.2 * (cv N r k).2.2 = sg (k + 1) * (st N r k).2
  b : (cv N r k).2.1 * (cv N r k).1.1 - N * (cv N r k).2.2 * (cv N r k).1.2 = sg k * (st N r k).1
  c : (cv N r k).1.1 * (cv N r k).1.1 - N * (cv N r k).1.2 * (cv N r k).1.2 = sg k * dp N r k
theorem norm (h : Nsq N r) : ∀ k, Norm N r k
  | 0 => ⟨by show r * r - N * 1 * 1 = -1 * (N - r * r); omega, by show r * 1 - N * 1 * 0 = 1 * r; omega, by show 1 * 1 - N * 0 * 0 = 1 * 1; omega⟩
  | k + 1 => by
    obtain ⟨na, nb, nc⟩ := norm h k
    have S := step h (red h k)
    have hm := S.m
    have hx := S.ex
    have hd := (red h k).d0
    have he := dp_ex h k
    have es : st N r (k + 1) = nx N r (st N r k) := rfl
    have ed : dp N r (k + 1) = (st N r k).2 := rfl
    have eg : sg (k + 1) = - sg k := rfl
    have eg2 : sg (k + 1 + 1) = sg k := by show - - sg k = sg k; omega
    rw [eg] at na
    refine ⟨?_, ?_, ?_⟩
    · rw [cv_succ, es, eg2]
      unfold fwS
      dsimp only
      generalize pt r (st N r k) = a at *
      generalize (nx N r (st N r k)).1 = m' at *
      generalize (nx N r (st N r k)).2 = d' at *
      generalize (st N r k).1 = m at *
      generalize (st N r k).2 = d at *
      generalize dp N r k = e at *
      generalize (cv N r k).2.1 = P at *
      generalize (cv N r k).2.2 = Q at *
      generalize (cv N r k).1.1 = P' at *
      generalize (cv N r k).1.2 = Q' at *
      generalize sg k = g at *
      have key : d' = e + 2 * a * m - a * a * d := by
        refine Int.eq_of_mul_eq_mul_left (show d ≠ 0 by omega) ?_
        rw [hx, hm]
        have : N = e * d + m * m := by omega
        rw [this]
        grind
      rw [key]
      have : (a * P + P') * (a * P + P') - N * (a * Q + Q') * (a * Q + Q') = a * a * (P * P - N * Q * Q) + 2 * a * (P * P' - N * Q * Q') + (P' * P' - N * Q' * Q') := by grind
      rw [this, na, nb, nc]
      grind
    · rw [cv_succ, es, eg]
      unfold fwS
      dsimp only
      rw [hm]
      generalize pt r (st N r k) = a at *
      generalize (st N r k).1 = m at *
      generalize (st N r k).2 = d at *
      generalize (cv N r k).2.1 = P at *
      generalize (cv N r k).2.2 = Q at *
      generalize (cv N r k).1.1 = P' at *
      generalize (cv N r k).1.2 = Q' at *
      generalize sg k = g at *
      have : (a * P + P') * P - N * (a * Q + Q') * Q = a * (P * P - N * Q * Q) + (P * P' - N * Q * Q') := by grind
      rw [this, na, nb]
      grind
    · rw [cv_succ, ed, eg]
      exact na
/-! ### the first end of the round -/
def stop (N r : Int) : Nat → Int × Int → Nat
  | 0, _ => 0
  | f + 1, s => if s.2 = 1 then 0 else stop N r f (nx N r s) + 1
theorem stop_is : ∀ (f j : Nat), (∃ k, k < f ∧ (st N r (j + k)).2 = 1) → (st N r (j + stop N r f (st N r j))).2 = 1 ∧ ∀ k, k < stop N r f (st N r j) → (st N r (j + k)).2 ≠ 1
  | 0, j, ⟨k, hk, _⟩ => absurd hk (Nat.not_lt_zero k)
  | f + 1, j, ⟨k, hk, e⟩ => by
    show (st N r (j + (if (st N r j).2 = 1 then 0 else stop N r f (nx N r (st N r j)) + 1))).2 = 1 ∧ ∀ k, k < (if (st N r j).2 = 1 then 0 else stop N r f (nx N r (st N r j)) + 1) → _
    by_cases c : (st N r j).2 = 1
    · rw [if_pos c]
      exact ⟨c, fun k hk => absurd hk (Nat.not_lt_zero k)⟩
    · rw [if_neg c]
      have ih := stop_is f (j + 1) (by
        cases k with
        | zero => exact absurd e c
        | succ k => exact ⟨k, by omega, by rw [show j + 1 + k = j + (k + 1) by omega]; exact e⟩)
      have es : st N r (j + 1) = nx N r (st N r j) := rfl
      rw [es] at ih
      obtain ⟨i1, i2⟩ := ih
      refine ⟨by rw [show j + (stop N r f (nx N r (st N r j)) + 1) = j + 1 + stop N r f (nx N r (st N r j)) by omega]; exact i1, fun k hk => ?_⟩
      cases k with
      | zero => exact c
      | succ k => rw [show j + (k + 1) = j + 1 + k by omega]; exact i2 k (by omega)
/-- T is the first place where the round ends -/
structure Ends (N r : Int) (T : Nat) : Prop where
  one : (st N r T).2 = 1
  ne : ∀ k, k < T → (st N r k).2 ≠ 1
theorem Ends.inj {T : Nat} (h : Nsq N r) (E : Ends N r T) {i j : Nat} (hij : i < j) (hj : j ≤ T) : st N r i ≠ st N r j := st_ne h E.ne hij hj
theorem Ends.last {T : Nat} (h : Nsq N r) (E : Ends N r T) : pt r (st N r T) = 2 * r := (one_iff h (red h T)).mpr E.one
theorem Ends.not {T k : Nat} (h : Nsq N r) (E : Ends N r T) (hk : k < T) : pt r (st N r k) ≠ 2 * r := fun e => E.ne k hk ((one_iff h (red h k)).mp e)
/-! ### the same from both ends -/
theorem mirror {T : Nat} (h : Nsq N r) (E : Ends N r T) : ∀ j, j ≤ T → st N r j = ((st N r (T - j)).1, dp N r (T - j))
  | 0, _ => by
    have R := red h T
    have e1 := R.m2
    have e2 := R.lo
    have e3 := E.one
    have e4 := dp_ex h T
    rw [e3] at e2 e4
    have e5 : (st N r T).1 = r := by omega
    rw [e5] at e4
    show (r, N - r * r) = ((st N r T).1, dp N r T)
    rw [e5]
    ext <;> dsimp only
    omega
  | j + 1, hj => by
    have ih := mirror h E j (by omega)
    obtain ⟨k, ek⟩ : ∃ k, T - j = k + 1 := ⟨T - j - 1, by omega⟩
    have ek2 : T - (j + 1) = k := by omega
    rw [ek] at ih
    rw [ek2]
    have S := step h (red h k)
    have es : st N r (k + 1) = nx N r (st N r k) := rfl
    have hm := S.m
    have hx := S.ex
    have hd := (red h k).d0
    have hb := S.back
    have he := dp_ex h k
    show nx N r (st N r j) = _
    rw [ih]
    have ep : pt r ((st N r (k + 1)).1, dp N r (k + 1)) = pt r (st N r k) := hb
    have en : nm r ((st N r (k + 1)).1, dp N r (k + 1)) = (st N r k).1 := by
      show pt r ((st N r (k + 1)).1, dp N r (k + 1)) * (st N r k).2 - (st N r (k + 1)).1 = _
      rw [ep, es, hm]
      omega
    unfold nx
    rw [en]
    ext
    · rfl
    · show (N - (st N r k).1 * (st N r k).1) / (st N r k).2 = dp N r k
      rw [← he]
      exact Int.mul_ediv_cancel _ (by omega)
theorem same_part {T : Nat} (h : Nsq N r) (E : Ends N r T) {j : Nat} (hj : j < T) : pt r (st N r j) = pt r (st N r (T - 1 - j)) := by
  rw [mirror h E j (by omega)]
  obtain ⟨k, ek⟩ : ∃ k, T - j = k + 1 := ⟨T - j - 1, by omega⟩
  have ek2 : T - 1 - j = k := by omega
  rw [ek, ek2]
  exact (step h (red h k)).back
theorem pre_rev {T : Nat} (h : Nsq N r) (E : Ends N r T) : (pre N r T).reverse = pre N r T := by
  refine List.ext_getElem? fun i => ?_
  by_cases c : i < T
  · rw [List.getElem?_reverse (by rw [pre_len]; exact c), pre_len, pre_get (by omega), pre_get c, same_part h E c]
  · rw [List.getElem?_eq_none (by rw [List.length_reverse, pre_len]; omega), List.getElem?_eq_none (by rw [pre_len]; omega)]
theorem norm_end {T : Nat} (h : Nsq N r) (E : Ends N r T) : (cv N r T).2.1 * (cv N r T).2.1 - N * (cv N r T).2.2 * (cv N r T).2.2 = sg (T + 1) := by
  rw [(norm h T).a, E.one]; omega
end
end OA
namespace OA
section
variable {N r : Int}
/-! ### how many states there can be, and how large the numbers grow -/
theorem sum_sub {W : Nat × Nat → Nat} : ∀ {l box : List (Nat × Nat)}, l.Nodup → (∀ x ∈ l, x ∈ box) → (l.map W).sum ≤ (box.map W).sum
  | [], _, _, _ => Nat.zero_le _
  | a :: l, box, nd, hs => by
    have ha : a ∈ box := hs a List.mem_cons_self
    have hp := List.perm_cons_erase ha
    have e : (box.map W).sum = ((a :: box.erase a).map W).sum := (hp.map W).sum_nat
    rw [e]
    have nd' := List.nodup_cons.mp nd
    have := sum_sub (W := W) (l := l) (box := box.erase a) nd'.2 (fun x hx => by
      have hne : x ≠ a := fun q => nd'.1 (q ▸ hx)
      exact (List.mem_erase_of_ne hne).mpr (hs x (List.mem_cons_of_mem _ hx)))
    simp only [List.map_cons, List.sum_cons]
    omega
def row (R e : Nat) : List (Nat × Nat) := (List.range (min (e + 1) (2 * R - e))).map fun u => (u, e + 1)
def box (R : Nat) : List (Nat × Nat) := (List.range (2 * R)).flatMap (row R)
def bsum (W : Nat → Nat) (R : Nat) : Nat := ((List.range (2 * R)).map fun e => min (e + 1) (2 * R - e) * W (e + 1)).sum
theorem sum_const (f : Nat → Nat × Nat) (W : Nat × Nat → Nat) (c : Nat) (hc : ∀ u, W (f u) = c) (n : Nat) : (((List.range n).map f).map W).sum = n * c := by
  induction n with
  | zero => simp
  | succ n ih =>
    rw [List.range_succ, List.map_append, List.map_append, List.sum_append, ih]
    simp only [List.map_cons, List.map_nil, List.sum_cons, List.sum_nil, hc]
    rw [Nat.succ_mul]
    omega
theorem box_sum (W : Nat → Nat) (R : Nat) : ((box R).map fun p => W p.2).sum = bsum W R := by
  unfold box bsum
  generalize List.range (2 * R) = l
  induction l with
  | nil => rfl
  | cons e t ih =>
    rw [List.flatMap_cons, List.map_append, List.sum_append, ih]
    simp only [List.map_cons, List.sum_cons]
    have : ((row R e).map fun p => W p.2).sum = min (e + 1) (2 * R - e) * W (e + 1) := sum_const (fun u => (u, e + 1)) (fun p => W p.2) (W (e + 1)) (fun _ => rfl) _
    rw [this]
theorem mem_box {R u d : Nat} (h1 : u < d) (h2 : d + u ≤ 2 * R) : (u, d) ∈ box R := by
  unfold box
  refine List.mem_flatMap.mpr ⟨d - 1, List.mem_range.mpr (by omega), ?_⟩
  unfold row
  refine List.mem_map.mpr ⟨u, List.mem_range.mpr (by omega), ?_⟩
  ext <;> dsimp only
  omega
def key (r : Int) (s : Int × Int) : Nat × Nat := ((r - s.1).toNat, s.2.toNat)
theorem key_box {R : Nat} (hR : r ≤ R) {s : Int × Int} (S : Red N r s) : key r s ∈ box R := by
  obtain ⟨m1, m2, d0, lo, hi, _⟩ := S
  refine mem_box ?_ ?_ <;> omega
theorem key_inj {s t : Int × Int} (S : Red N r s) (T : Red N r t) (e : key r s = key r t) : s = t := by
  have e1 := congrArg Prod.fst e
  have e2 := congrArg Prod.snd e
  have := S.m2
  have := T.m2
  have := S.d0
  have := T.d0
  unfold key at e1 e2
  dsimp only at e1 e2
  refine Prod.ext ?_ ?_ <;> omega
/-- the weights of the first k states together -/
def wsum (N r : Int) (W : Nat → Nat) (k : Nat) : Nat := ((List.range k).map fun i => W (st N r i).2.toNat).sum
theorem wsum_le (h : Nsq N r) {R : Nat} (hR : r ≤ R) (W : Nat → Nat) {k : Nat} (hk : ∀ j, j + 1 < k → (st N r j).2 ≠ 1) : wsum N r W k ≤ bsum W R := by
  have nd : ((List.range k).map fun i => key r (st N r i)).Nodup := by
    unfold List.Nodup
    rw [List.pairwise_map]
    refine List.Pairwise.imp_of_mem (R := fun i j => i < j) (fun {i j} hi hj hij => ?_) List.pairwise_lt_range
    intro e
    have hj' := List.mem_range.mp hj
    exact st_ne h (K := k - 1) (fun q hq => hk q (by omega)) hij (by omega) (key_inj (red h i) (red h j) e)
  have := sum_sub (W := fun p => W p.2) nd (fun x hx => by
    obtain ⟨i, _, rfl⟩ := List.mem_map.mp hx
    exact key_box hR (red h i))
  rw [box_sum, List.map_map] at this
  exact this
theorem wsum_ge (N r : Int) {W : Nat → Nat} (hW : ∀ d, 1 ≤ W d) : ∀ k, k ≤ wsum N r W k
  | 0 => Nat.zero_le _
  | k + 1 => by
    unfold wsum
    rw [List.range_succ, List.map_append, List.sum_append]
    have ih := wsum_ge N r hW k
    have := hW (st N r k).2.toNat
    unfold wsum at ih
    simp only [List.map_cons, List.map_nil, List.sum_cons, List.sum_nil]
    omega
def wt (R d : Nat) : Nat := (2 * R / d).log2 + 1
theorem exists_end (h : Nsq N r) {R : Nat} (hR : r ≤ R) : ∃ k, k < bsum (wt R) R ∧ (st N r (0 + k)).2 = 1 := by
  refine Classical.byContradiction fun no => ?_
  have no' : ∀ k, k < bsum (wt R) R → (st N r k).2 ≠ 1 := fun k hk e => no ⟨k, hk, by rw [Nat.zero_add]; exact e⟩
  have h1 := wsum_le h hR (wt R) (k := bsum (wt R) R + 1) (fun j hj => no' j (by omega))
  have h2 := wsum_ge N r (W := wt R) (fun d => Nat.le_add_left 1 _) (bsum (wt R) R + 1)
  omega
theorem pt_wt {R : Nat} (hR : r ≤ R) {s : Int × Int} (S : Red N r s) : pt r s + 1 ≤ ((2 ^ wt R s.2.toNat : Nat) : Int) := by
  have h1 : 2 * R / s.2.toNat < 2 ^ wt R s.2.toNat := Nat.lt_log2_self
  have h2 : pt r s ≤ ((2 * R / s.2.toNat : Nat) : Int) := by
    have d0 := S.d0
    have m2 := S.m2
    have e : ((s.2.toNat : Nat) : Int) = s.2 := Int.toNat_of_nonneg (by omega)
    rw [Int.natCast_ediv, e]
    exact Int.ediv_le_ediv d0 (by omega)
  omega
theorem back_le (f : Nat → Int) (w : Nat → Nat) : ∀ ks : List Nat, (∀ k ∈ ks, 1 ≤ f k ∧ f k + 1 ≤ ((2 ^ w k : Nat) : Int)) →
    1 ≤ (back (ks.map f)).1 ∧ 0 ≤ (back (ks.map f)).2 ∧ (back (ks.map f)).2 ≤ (back (ks.map f)).1 ∧ (back (ks.map f)).1 ≤ ((2 ^ (ks.map w).sum : Nat) : Int)
  | [], _ => by
    show (1 : Int) ≤ 1 ∧ (0 : Int) ≤ 0 ∧ (0 : Int) ≤ 1 ∧ (1 : Int) ≤ ((2 ^ 0 : Nat) : Int)
    decide
  | k :: t, hk => by
    obtain ⟨i1, i2, i3, i4⟩ := back_le f w t fun x hx => hk x (List.mem_cons_of_mem _ hx)
    obtain ⟨h1, h2⟩ := hk k List.mem_cons_self
    have eb : back ((k :: t).map f) = (f k * (back (t.map f)).1 + (back (t.map f)).2, (back (t.map f)).1) := rfl
    have es : ((k :: t).map w).sum = w k + (t.map w).sum := by simp
    rw [eb, es, Nat.pow_add]
    dsimp only
    generalize (back (t.map f)).1 = U at *
    generalize (back (t.map f)).2 = V at *
    have p1 : 1 * U ≤ f k * U := Int.mul_le_mul_of_nonneg_right h1 (by omega)
    have p2 : (f k + 1) * U ≤ ((2 ^ w k : Nat) : Int) * ((2 ^ (t.map w).sum : Nat) : Int) := Int.mul_le_mul h2 i4 (by omega) (by omega)
    have e3 : (f k + 1) * U = f k * U + U := by grind
    rw [Int.natCast_mul]
    exact ⟨by omega, by omega, by omega, by omega⟩
end
theorem bsum_1000 : bsum (wt 1000) 1000 ≤ 2000000 := by decide +kernel
theorem bsum_55 : bsum (wt 55) 55 ≤ 6000 := by decide +kernel
end OA
namespace OA
section
variable {N r : Int}
/-! ### no pair one apart below the end of the round -/
/-- if the value of the form at (x, y) is one apart from 0, the whole part of x by y is not below the chain's part -/
theorem desc {m d e a m' d' x y g : Int} (hd : 0 < d) (he : 0 < e) (hm : 0 ≤ m) (hde : e * d = N - m * m) (hm' : m' = a * d - m) (hm0 : 0 < m') (hd' : 0 < d') (hex : d * d' = N - m' * m')
    (hx : 1 ≤ x) (hy : 1 ≤ y) (hg : g = 1 ∨ g = -1) (hv : x * x * d - 2 * x * y * m - y * y * e = g) : a * y ≤ x := by
  rcases Int.lt_or_le x (a * y) with c | c
  · exfalso
    -- (x d - y m)² = N y² + g d
    have sq : (x * d - y * m) * (x * d - y * m) = N * (y * y) + g * d := by
      have : N = e * d + m * m := by omega
      rw [this, ← hv]
      grind
    have gd : - d ≤ g * d := by rcases hg with q | q <;> subst q <;> omega
    have yy : 1 ≤ y * y := Int.mul_le_mul hy hy (by decide) (by omega)
    obtain ⟨z, hz⟩ : ∃ z, z = a * y - x := ⟨_, rfl⟩
    have e1 : x * d - y * m = y * m' - z * d := by rw [hm', hz]; grind
    have zd : 1 * d ≤ z * d := Int.mul_le_mul_of_nonneg_right (by omega) (by omega)
    rcases Int.lt_or_le (y * m' - z * d) 0 with c2 | c2
    · -- x d < y m
      have xd : 1 * d ≤ x * d := Int.mul_le_mul_of_nonneg_right hx (by omega)
      have k1 : 0 ≤ y * m - x * d := by omega
      have k2 : y * m - x * d ≤ y * m - d := by omega
      have k3 : (y * m - x * d) * (y * m - x * d) ≤ (y * m - d) * (y * m - d) := Int.mul_le_mul k2 k2 k1 (by omega)
      have k4 : (x * d - y * m) * (x * d - y * m) = (y * m - x * d) * (y * m - x * d) := by grind
      have k5 : N * (y * y) - (y * m - d) * (y * m - d) = d * (y * y * e + (2 * (y * m) - d)) := by
        have : N = e * d + m * m := by omega
        rw [this]; grind
      have ye : 1 * 1 ≤ y * y * e := Int.mul_le_mul yy (by omega) (by decide) (by omega)
      have k6 : d * 2 ≤ d * (y * y * e + (2 * (y * m) - d)) := Int.mul_le_mul_of_nonneg_left (by omega) (by omega)
      omega
    · have k3 : (y * m' - z * d) * (y * m' - z * d) ≤ (y * m' - d) * (y * m' - d) := Int.mul_le_mul (by omega) (by omega) c2 (by omega)
      have k5 : N * (y * y) - (y * m' - d) * (y * m' - d) = d * (y * y * d' + (2 * (y * m') - d)) := by
        have : N = d * d' + m' * m' := by omega
        rw [this]; grind
      have ye : 1 * 1 ≤ y * y * d' := Int.mul_le_mul yy (by omega) (by decide) (by omega)
      have k6 : d * 2 ≤ d * (y * y * d' + (2 * (y * m') - d)) := Int.mul_le_mul_of_nonneg_left (by omega) (by omega)
      rw [e1] at sq
      omega
  · exact c
/-- by turns of the chain: a pair one apart, told by two neighbours of the chain, is one of the chain's own -/
theorem found (h : Nsq N r) : ∀ (n j : Nat) (x y g : Int), x + y ≤ n → 1 ≤ x → 0 ≤ y → (g = 1 ∨ g = -1) →
    x * x * (st N r j).2 - 2 * x * y * (st N r j).1 - y * y * dp N r j = g →
    ∃ i, (st N r i).2 = 1 ∧ x * (cv N r j).2.2 + y * (cv N r j).1.2 = (cv N r i).2.2
  | 0, j, x, y, g, hn, hx, hy, hg, hv => by omega
  | n + 1, j, x, y, g, hn, hx, hy, hg, hv => by
    have R := red h j
    have S := step h R
    have d0 := R.d0
    rcases Int.lt_or_le 0 y with c | c
    · have hm' := S.m
      have ex := S.ex
      have RS := S.red
      have ay := desc (N := N) d0 (dp0 h j) (Int.le_of_lt R.m1) (dp_ex h j) hm' RS.m1 RS.d0 ex hx c hg hv
      have es : st N r (j + 1) = nx N r (st N r j) := rfl
      have ed : dp N r (j + 1) = (st N r j).2 := rfl
      have a1 := S.a1
      have pe := dp_ex h j
      have y1 : 1 * y ≤ pt r (st N r j) * y := Int.mul_le_mul_of_nonneg_right a1 (by omega)
      obtain ⟨i, i1, i2⟩ := found h n (j + 1) y (x - pt r (st N r j) * y) (-g) (by omega) c (by omega) (by omega) (by
        rw [es, ed]
        generalize pt r (st N r j) = a at *
        generalize (nx N r (st N r j)).1 = m' at *
        generalize (nx N r (st N r j)).2 = d' at *
        generalize (st N r j).1 = m at *
        generalize (st N r j).2 = d at *
        generalize dp N r j = e at *
        have key : d' = e + 2 * a * m - a * a * d := by
          refine Int.eq_of_mul_eq_mul_left (show d ≠ 0 by omega) ?_
          rw [ex, hm']
          have : N = e * d + m * m := by omega
          rw [this]
          grind
        rw [key, hm', ← hv]
        grind)
      refine ⟨i, i1, ?_⟩
      rw [← i2, cv_succ]
      unfold fwS
      dsimp only
      grind
    · have y0 : y = 0 := by omega
      subst y0
      have e1 : x * x * (st N r j).2 = g := by rw [← hv]; grind
      have xx : 1 ≤ x * x := Int.mul_le_mul hx hx (by decide) (by omega)
      have q1 : 1 * (st N r j).2 ≤ x * x * (st N r j).2 := Int.mul_le_mul_of_nonneg_right xx (by omega)
      have d1 : (st N r j).2 = 1 := by omega
      rw [d1] at e1
      have x1 : x = 1 := by
        rcases Int.lt_or_le x 2 with c | c
        · omega
        · have : 2 * 2 ≤ x * x := Int.mul_le_mul c c (by decide) (by omega)
          omega
      refine ⟨j, d1, ?_⟩
      rw [x1]
      omega
theorem cv_pos (h : Nsq N r) : ∀ k, 0 ≤ (cv N r k).1.2 ∧ 1 ≤ (cv N r k).2.2 ∧ 0 < (cv N r k).2.1 ∧ 0 < (cv N r k).1.1
  | 0 => ⟨by show (0 : Int) ≤ 0; decide, by show (1 : Int) ≤ 1; decide, h.r0, by show (0 : Int) < 1; decide⟩
  | k + 1 => by
    obtain ⟨i1, i2, i3, i4⟩ := cv_pos h k
    have a1 := (step h (red h k)).a1
    rw [cv_succ]
    unfold fwS
    dsimp only
    have q1 : 1 * (cv N r k).2.2 ≤ pt r (st N r k) * (cv N r k).2.2 := Int.mul_le_mul_of_nonneg_right a1 (by omega)
    have q2 : 1 * (cv N r k).2.1 ≤ pt r (st N r k) * (cv N r k).2.1 := Int.mul_le_mul_of_nonneg_right a1 (by omega)
    exact ⟨by omega, by omega, by omega, i3⟩
theorem cv_mono (h : Nsq N r) {j : Nat} : ∀ k, (cv N r j).2.2 ≤ (cv N r (j + k)).2.2
  | 0 => Int.le_refl _
  | k + 1 => by
    have ih := cv_mono h (j := j) k
    obtain ⟨i1, i2, i3, i4⟩ := cv_pos h (j + k)
    have a1 := (step h (red h (j + k))).a1
    have q1 : 1 * (cv N r (j + k)).2.2 ≤ pt r (st N r (j + k)) * (cv N r (j + k)).2.2 := Int.mul_le_mul_of_nonneg_right a1 (by omega)
    show _ ≤ (cv N r (j + k + 1)).2.2
    rw [cv_succ]
    unfold fwS
    dsimp only
    omega
/-- a pair above 0 that is one apart either way is none below that of the round's end -/
theorem no_less {T : Nat} (h : Nsq N r) (E : Ends N r T) {p q g : Int} (hp : 0 < p) (hq : 0 < q) (hg : g = 1 ∨ g = -1) (e : p * p - N * q * q = g) : (cv N r T).2.2 ≤ q := by
  have rr := h.lo
  have r0 := h.r0
  have y0 : 0 ≤ p - r * q := by
    rcases Int.lt_or_le (p - r * q) 0 with c | c
    · exfalso
      have k1 : p * p ≤ (r * q - 1) * (r * q - 1) := Int.mul_le_mul (by omega) (by omega) (by omega) (by omega)
      have k2 : (r * r + 1) * (q * q) ≤ N * (q * q) := Int.mul_le_mul_of_nonneg_right (by omega) (Int.mul_nonneg (by omega) (by omega))
      have k3 : (r * q - 1) * (r * q - 1) = r * r * (q * q) - 2 * (r * q) + 1 := by grind
      have k4 : (r * r + 1) * (q * q) = r * r * (q * q) + q * q := by grind
      have k5 : N * (q * q) = N * q * q := by grind
      have k6 : 1 * 1 ≤ q * q := Int.mul_le_mul (by omega) (by omega) (by decide) (by omega)
      have k7 : 1 * 1 ≤ r * q := Int.mul_le_mul (by omega) (by omega) (by decide) (by omega)
      omega
    · exact c
  obtain ⟨i, i1, i2⟩ := found h (q + (p - r * q)).toNat 0 q (p - r * q) (-g) (by omega) (by omega) y0 (by omega) (by
    show q * q * (N - r * r) - 2 * q * (p - r * q) * r - (p - r * q) * (p - r * q) * 1 = -g
    rw [← e]
    grind)
  have i2' : q * 1 + (p - r * q) * 0 = (cv N r i).2.2 := i2
  have hi : T ≤ i := by
    rcases Nat.lt_or_ge i T with c | c
    · exact absurd i1 (E.ne i c)
    · exact c
  have := cv_mono h (j := T) (i - T)
  rw [show T + (i - T) = i by omega] at this
  omega
end
end OA
namespace OA
open PySem
/-! ### a number's own: its root, the round's length less one, the pair next to 0, the least answer -/
def rt (N : Int) : Int := ((Float64.isqrt N.toNat : Nat) : Int)
def IsSq (N : Int) : Prop := rt N * rt N = N
instance (N : Int) : Decidable (IsSq N) := inferInstanceAs (Decidable (_ = _))
theorem rt_spec {N : Int} (h : 0 ≤ N) : 0 ≤ rt N ∧ rt N * rt N ≤ N ∧ N < (rt N + 1) * (rt N + 1) := by
  obtain ⟨a, b⟩ := PySem.Float64.isqrt_spec N.toNat
  unfold rt
  generalize Float64.isqrt N.toNat = q at *
  have e : ((N.toNat : Nat) : Int) = N := Int.toNat_of_nonneg h
  have a' : ((q * q : Nat) : Int) ≤ ((N.toNat : Nat) : Int) := Int.ofNat_le.mpr a
  have b' : ((N.toNat : Nat) : Int) < (((q + 1) * (q + 1) : Nat) : Int) := Int.ofNat_lt.mpr b
  rw [e, Int.natCast_mul] at *
  exact ⟨Int.natCast_nonneg q, a', by simpa using b'⟩
theorem sq_lt {a b : Int} (ha : 0 ≤ a) (h : a * a < (b + 1) * (b + 1)) (hb : 0 ≤ b) : a ≤ b := by
  rcases Int.lt_or_le b a with c | c
  · have := Int.mul_le_mul (show b + 1 ≤ a by omega) (show b + 1 ≤ a by omega) (by omega) ha
    omega
  · exact c
theorem rt_is {N q : Int} (h0 : 0 ≤ q) (h1 : q * q ≤ N) (h2 : N < (q + 1) * (q + 1)) : rt N = q := by
  have hN : 0 ≤ N := Int.le_trans (Int.mul_nonneg h0 h0) h1
  obtain ⟨a, b, c⟩ := rt_spec hN
  exact Int.le_antisymm (sq_lt a (by omega) h0) (sq_lt h0 (by omega) a)
theorem rt_sq {q : Int} (h : 0 ≤ q) : rt (q * q) = q := by
  have e : (q + 1) * (q + 1) = q * q + 2 * q + 1 := by grind
  exact rt_is h (Int.le_refl _) (by omega)
theorem isSq_iff {N : Int} : IsSq N ↔ ∃ q, 0 ≤ q ∧ q * q = N := by
  constructor
  · intro h
    exact ⟨rt N, Int.natCast_nonneg _, h⟩
  · rintro ⟨q, h, rfl⟩
    unfold IsSq
    rw [rt_sq h]
theorem nsq {N : Int} (h2 : 2 ≤ N) (h : ¬ IsSq N) : Nsq N (rt N) := by
  obtain ⟨a, b, c⟩ := rt_spec (N := N) (by omega)
  have hne : rt N * rt N ≠ N := h
  refine ⟨?_, by omega, c⟩
  rcases Int.lt_or_le 0 (rt N) with d | d
  · exact d
  · have : rt N = 0 := by omega
    rw [this] at c
    omega
def FU : Nat := 2000000
def stp (N : Int) : Nat := stop N (rt N) FU (rt N, N - rt N * rt N)
/-- the part of a number's round -/
def part (N : Int) (k : Nat) : Int := pt (rt N) (st N (rt N) k)
def parts (N : Int) : List Int := pre N (rt N) (stp N + 1)
def near (N : Int) : Int × Int := (cv N (rt N) (stp N)).2
def put (N : Int) (a b : Int × Int) : Int × Int := (a.1 * b.1 + N * a.2 * b.2, a.1 * b.2 + a.2 * b.1)
def apart (N : Int) : Int := (near N).1 * (near N).1 - N * (near N).2 * (near N).2
def least (N : Int) : Int × Int := if apart N = 1 then near N else put N (near N) (near N)
/-- N is a number (2 .. 1000000) and no square -/
structure Num (N : Int) : Prop where
  lo : 2 ≤ N
  hi : N ≤ 1000000
structure Ok (N : Int) : Prop where
  lo : 2 ≤ N
  hi : N ≤ 1000000
  ns : ¬ IsSq N
section
variable {N : Int}
theorem Ok.nsq (h : Ok N) : Nsq N (rt N) := OA.nsq h.lo h.ns
theorem rt_le {N B : Int} (h0 : 0 ≤ N) (hB : 0 ≤ B) (h : N < (B + 1) * (B + 1)) : rt N ≤ B := by
  obtain ⟨a, b, c⟩ := rt_spec h0
  exact sq_lt a (by omega) hB
theorem Ok.r1000 (h : Ok N) : rt N ≤ ((1000 : Nat) : Int) := rt_le (by have := h.lo; omega) (by decide) (by have := h.hi; omega)
theorem Ok.r1 (h : Ok N) : 1 ≤ rt N := h.nsq.r0
theorem Ok.ends (h : Ok N) : Ends N (rt N) (stp N) := by
  obtain ⟨k, hk, e⟩ := exists_end h.nsq h.r1000
  have hk' : k < FU := by have := bsum_1000; unfold FU; omega
  obtain ⟨a, b⟩ := stop_is (N := N) (r := rt N) FU 0 ⟨k, hk', e⟩
  have e0 : stop N (rt N) FU (st N (rt N) 0) = stp N := rfl
  rw [e0] at a b
  rw [Nat.zero_add] at a
  exact ⟨a, fun k hk => by have := b k hk; rw [Nat.zero_add] at this; exact this⟩
theorem Ok.stp_le (h : Ok N) : stp N < 2000000 := by
  rcases Nat.lt_or_ge (stp N) 2000000 with c | c
  · exact c
  · obtain ⟨k, hk, e⟩ := exists_end h.nsq h.r1000
    rw [Nat.zero_add] at e
    have := bsum_1000
    exact absurd e (h.ends.ne k (by omega))
theorem Ok.wsum (h : Ok N) {R : Nat} (hR : rt N ≤ R) : wsum N (rt N) (wt R) (stp N) ≤ bsum (wt R) R :=
  wsum_le h.nsq hR _ fun j hj => h.ends.ne j (by omega)
/-- the pair next to 0 -/
structure Near (N : Int) (p q : Int) (B : Nat) : Prop where
  p1 : 1 ≤ p
  q1 : 1 ≤ q
  qp : q ≤ p
  pb : p ≤ ((2 ^ B : Nat) : Int)
theorem Ok.nearR (h : Ok N) {R : Nat} (hR : rt N ≤ R) (hR2 : R < 1024) : Near N (near N).1 (near N).2 (bsum (wt R) R + 10) := by
  have e : near N = (rt N * (back (pre N (rt N) (stp N))).1 + (back (pre N (rt N) (stp N))).2, (back (pre N (rt N) (stp N))).1) := cv_back _
  obtain ⟨i1, i2, i3, i4⟩ := back_le (fun i => pt (rt N) (st N (rt N) i)) (fun i => wt R (st N (rt N) i).2.toNat) (List.range (stp N)) (fun k _ => ⟨(step h.nsq (red h.nsq k)).a1, pt_wt hR (red h.nsq k)⟩)
  have es : ((List.range (stp N)).map fun i => wt R (st N (rt N) i).2.toNat).sum = OA.wsum N (rt N) (wt R) (stp N) := rfl
  rw [es] at i4
  have hw := h.wsum hR
  have i5 : ((2 ^ OA.wsum N (rt N) (wt R) (stp N) : Nat) : Int) ≤ ((2 ^ bsum (wt R) R : Nat) : Int) := Int.ofNat_le.mpr (Nat.pow_le_pow_right (by decide) hw)
  have r1 := h.r1
  have e10 : ((2 ^ (bsum (wt R) R + 10) : Nat) : Int) = 1024 * ((2 ^ bsum (wt R) R : Nat) : Int) := by rw [Nat.pow_add, Int.natCast_mul, Int.mul_comm]; rfl
  rw [e]
  unfold pre
  refine ⟨?_, ?_, ?_, Int.le_trans ?_ (Int.le_of_eq e10.symm)⟩
  all_goals
    dsimp only
    generalize (back (List.map (fun i => pt (rt N) (st N (rt N) i)) (List.range (stp N)))).1 = U at *
    generalize (back (List.map (fun i => pt (rt N) (st N (rt N) i)) (List.range (stp N)))).2 = V at *
    generalize ((2 ^ bsum (wt R) R : Nat) : Int) = W at *
    generalize rt N = r at *
    have k1 : 1 * U ≤ r * U := Int.mul_le_mul_of_nonneg_right r1 (by omega)
    have k2 : (r + 1) * U ≤ 1024 * W := Int.mul_le_mul (by omega) (by omega) (by omega) (by omega)
    have k3 : (r + 1) * U = r * U + U := by grind
    omega
end
end OA
namespace OA
/-- Newton's step from above -/
theorem newton {n x : Int} (h0 : 0 ≤ n) (hx : 0 < x) (h : n < x * x) : 0 ≤ (x + n / x) / 2 ∧ (x + n / x) / 2 < x ∧ n < ((x + n / x) / 2 + 1) * ((x + n / x) / 2 + 1) := by
  have q0 : 0 ≤ n / x := Int.ediv_nonneg h0 (by omega)
  have q1 : n / x < x := Int.ediv_lt_of_lt_mul hx h
  have q2 : n < (n / x + 1) * x := Int.lt_ediv_add_one_mul_self n hx
  generalize n / x = q at *
  generalize hy : (x + q) / 2 = y
  have y1 : 2 * y ≤ x + q := by omega
  have y2 : x + q < 2 * y + 2 := by omega
  refine ⟨by omega, by omega, ?_⟩
  -- 4 n < 4 (q + 1) x ≤ (x + q + 1)^2 ≤ (2 y + 2)^2
  have a1 : (x + q + 1) * (x + q + 1) ≤ (2 * y + 2) * (2 * y + 2) := Int.mul_le_mul (by omega) (by omega) (by omega) (by omega)
  have a2 : (x + q + 1) * (x + q + 1) = 4 * ((q + 1) * x) + (x - (q + 1)) * (x - (q + 1)) := by grind
  have a3 : 0 ≤ (x - (q + 1)) * (x - (q + 1)) := by
    rcases Int.le_total 0 (x - (q + 1)) with c | c
    · exact Int.mul_nonneg c c
    · have := Int.mul_nonneg_of_nonpos_of_nonpos c c
      exact this
  have a4 : (2 * y + 2) * (2 * y + 2) = 4 * ((y + 1) * (y + 1)) := by grind
  omega
theorem le_sq {x : Int} (h : 1 ≤ x) : x ≤ x * x := by
  have : 1 * x ≤ x * x := Int.mul_le_mul_of_nonneg_right h (by omega)
  omega
end OA
namespace OA
open PySem
/-! ### the answers by their numbers -/
def pw (N : Int) : Nat → Int × Int
  | 0 => (1, 0)
  | n + 1 => put N (pw N n) (least N)
section
variable {N : Int}
theorem put_assoc (x y z : Int × Int) : put N (put N x y) z = put N x (put N y z) := by
  unfold put
  ext <;> dsimp only <;> grind
theorem put_one (x : Int × Int) : put N x (1, 0) = x := by
  unfold put
  ext <;> dsimp only <;> omega
theorem pw_add (m : Nat) : ∀ n, pw N (m + n) = put N (pw N m) (pw N n)
  | 0 => (put_one _).symm
  | n + 1 => by
    show put N (pw N (m + n)) (least N) = put N (pw N m) (put N (pw N n) (least N))
    rw [pw_add m n, put_assoc]
def nrm (N : Int) (x : Int × Int) : Int := x.1 * x.1 - N * x.2 * x.2
theorem nrm_put (x y : Int × Int) : nrm N (put N x y) = nrm N x * nrm N y := by
  unfold nrm put
  dsimp only
  grind
structure Ans (N : Int) (x : Int × Int) : Prop where
  p : 1 ≤ x.1
  q : 0 ≤ x.2
  n : nrm N x = 1
theorem Ans.put (hN : 2 ≤ N) {x y : Int × Int} (a : Ans N x) (b : Ans N y) : Ans N (put N x y) := by
  have h1 := Int.mul_le_mul a.p b.p (by decide) (by have := a.p; omega)
  have h2 : 0 ≤ N * x.2 * y.2 := Int.mul_nonneg (Int.mul_nonneg (by omega) a.q) b.q
  have h3 : 0 ≤ x.1 * y.2 := Int.mul_nonneg (by have := a.p; omega) b.q
  have h4 : 0 ≤ x.2 * y.1 := Int.mul_nonneg a.q (by have := b.p; omega)
  refine ⟨?_, ?_, ?_⟩
  · show 1 ≤ x.1 * y.1 + N * x.2 * y.2
    omega
  · show 0 ≤ x.1 * y.2 + x.2 * y.1
    omega
  · rw [nrm_put, a.n, b.n]; rfl
theorem Ok.nearN (h : Ok N) : 1 ≤ (near N).1 ∧ 1 ≤ (near N).2 := by
  have n := h.nearR h.r1000 (by decide)
  exact ⟨n.p1, n.q1⟩
theorem Ok.apart_or (h : Ok N) : apart N = 1 ∨ apart N = -1 := by
  have e : apart N = sg (stp N + 1) := norm_end h.nsq h.ends
  rw [e]
  exact sg_or _
/-- the least answer: above (1, 0) -/
theorem Ok.leastA (h : Ok N) : Ans N (least N) ∧ 2 ≤ (least N).1 ∧ 1 ≤ (least N).2 := by
  obtain ⟨p, q⟩ := h.nearN
  have lo := h.lo
  have qq : 1 * 1 ≤ (near N).2 * (near N).2 := Int.mul_le_mul q q (by decide) (by omega)
  have nq : 2 * 1 ≤ N * ((near N).2 * (near N).2) := Int.mul_le_mul lo qq (by decide) (by omega)
  have e0 : N * ((near N).2 * (near N).2) = N * (near N).2 * (near N).2 := by grind
  have pp : 1 * 1 ≤ (near N).1 * (near N).1 := Int.mul_le_mul p p (by decide) (by omega)
  unfold least
  rcases h.apart_or with c | c
  · rw [if_pos c]
    refine ⟨⟨p, by omega, c⟩, ?_, q⟩
    rcases Int.lt_or_le (near N).1 2 with d | d
    · have : (near N).1 = 1 := by omega
      unfold apart at c
      rw [this] at c
      omega
    · exact d
  · rw [if_neg (by omega)]
    have a1 : (put N (near N) (near N)).1 = (near N).1 * (near N).1 + N * (near N).2 * (near N).2 := rfl
    have a2 : (put N (near N) (near N)).2 = (near N).1 * (near N).2 + (near N).2 * (near N).1 := rfl
    have pq : 1 * 1 ≤ (near N).1 * (near N).2 := Int.mul_le_mul p q (by decide) (by omega)
    have qp : 1 * 1 ≤ (near N).2 * (near N).1 := Int.mul_le_mul q p (by decide) (by omega)
    refine ⟨⟨by omega, by omega, ?_⟩, by omega, by omega⟩
    rw [nrm_put, show nrm N (near N) = -1 from c]
    rfl
theorem Ok.pwA (h : Ok N) : ∀ n, Ans N (pw N n)
  | 0 => ⟨by show (1 : Int) ≤ 1; decide, by show (0 : Int) ≤ 0; decide, by show 1 * 1 - N * 0 * 0 = (1 : Int); omega⟩
  | n + 1 => (h.pwA n).put h.lo h.leastA.1
theorem Ok.pw_lt (h : Ok N) (n : Nat) : (pw N n).1 < (pw N (n + 1)).1 := by
  obtain ⟨p, q, _⟩ := h.pwA n
  obtain ⟨la, l2, l1⟩ := h.leastA
  have h1 : (pw N n).1 * 2 ≤ (pw N n).1 * (least N).1 := Int.mul_le_mul_of_nonneg_left l2 (by omega)
  have h2 : 0 ≤ N * (pw N n).2 * (least N).2 := Int.mul_nonneg (Int.mul_nonneg (by have := h.lo; omega) q) (by omega)
  show _ < (pw N n).1 * (least N).1 + N * (pw N n).2 * (least N).2
  omega
theorem Ok.pw_mono (h : Ok N) (m : Nat) : ∀ k, (pw N m).1 ≤ (pw N (m + k)).1
  | 0 => Int.le_refl _
  | k + 1 => Int.le_trans (h.pw_mono m k) (Int.le_of_lt (h.pw_lt (m + k)))
theorem Ok.pw_le_iff (h : Ok N) {m n : Nat} : (pw N m).1 ≤ (pw N n).1 ↔ m ≤ n := by
  constructor
  · intro q
    rcases Nat.lt_or_ge n m with c | c
    · have h1 := h.pw_lt n
      have h2 := h.pw_mono (n + 1) (m - (n + 1))
      rw [show n + 1 + (m - (n + 1)) = m by omega] at h2
      omega
    · exact c
  · intro q
    have := h.pw_mono m (n - m)
    rw [show m + (n - m) = n by omega] at this
    exact this
theorem ans_eq {x : Int × Int} (a : nrm N x = 1) : x.1 * x.1 = N * x.2 * x.2 + 1 := by
  unfold nrm at a
  omega
end
end OA

/-! Rules of our own over the hand layer. -/
namespace OA
open PySem L2 PyProof.Rows
section
variable {X : Cx}
/-- math.isqrt of a number below 2 ^ 64 -/
def rIsq : List V → Hp → VK → Prop := fun vs H Q => ∃ a : Int, vs = [.int a] ∧ 0 ≤ a ∧ a < 2 ^ 64 ∧ Q (.int (rt a)) H
theorem cr_isq : CallR X (.builtin "math.isqrt") rIsq := by
  intro pins s σ H vs us Q I r h
  obtain ⟨a, rfl, h0, h1, q⟩ := h
  obtain ⟨u, rfl, t, rfl⟩ := vals1 r
  exact PySem.W.mg_isqrt h0 h1 ⟨.int _, H, I.tok _, ⟨_, rfl⟩, q⟩
/-- i not in range(lo, hi) -/
def rNotRng : R2 := fun x y H Q => ∃ i a lo hi, x = V.int i ∧ y = V.ref a ∧ H a = some (.rng lo hi) ∧ Q (.bl (!decide (lo ≤ i ∧ i < hi))) H
theorem op_notin_rng : OpR X (compareOp .NotIn) rNotRng := by
  intro pins s σ H x y v u Q I rx ry h
  obtain ⟨i, a, lo, hi, rfl, rfl, ha, q⟩ := h
  obtain ⟨k, rfl⟩ := rx
  cases (show u = Value.ref a from ry)
  obtain ⟨t1, t2, t3, ho⟩ := I.hok a _ ha
  show wpAny _ _ (contains (Value.ref a) (Value.int i k) >>= fun z => pure (Value.bool (!z))) _ _ s
  refine wpAny_bind (wpAny_contains_slot (T := "range") ⟨_, ho, rfl⟩ F.slot_range_contains
    (call_meets F.slot_range_contains ⟨_, ho, rfl⟩ F.entry_range_contains (F.args_range_contains_2 _ _) (q_contains a lo hi i t1 t2 t3 k)
      ⟨ho, wpAny_truthy_bool (wpAny_pure ⟨.bl _, H, I, rfl, ?_⟩)⟩))
  rw [place1]
  exact q
/-- any two whole numbers multiplied, as the model lets it -/
theorem op_mulI : OpR X (binaryOp .Mult) (rI IntMulOk fun i j => .int (i * j)) := opI fun _ _ _ _ _ _ _ hc q => mul_int q hc
/-- min of a tuple of two whole numbers -/
def rMinT2 (K : PySem.W.Frag) : List V → Hp → VK → Prop := fun vs H Q => ∃ (a : Addr) (i j : Int), vs = [V.ref a] ∧ SqT K H a [.int i, .int j] ∧ Q (.int (if j < i then j else i)) H
theorem cr_minT2 (hc : X.calm = true) : CallR X (.builtin "min") (rMinT2 X.K) := by
  intro pins s σ H vs us Q I r h
  obtain ⟨a, i, j, rfl, hs, q⟩ := h
  obtain ⟨its, rv, ht, _⟩ := I.tuple hs
  rw [Vals.ref1 r]
  obtain ⟨u1, u2, rfl, ⟨t1, rfl⟩, ⟨t2, rfl⟩⟩ := vals2 rv
  have hT : s.heap.IsTuple a #[Value.int i t1, Value.int j t2] := ht
  have hlt : a < s.heap.objs.size := ht.lt
  refine call_min_walk (wpAny_pyIter_tuple hT ?_)
  refine ⟨_, _, _, _, _, _, _, rfl, Walks.tuple (A := X.A.in1) (I.ok.hd hc) s.heap.objs.size a (Nat.ne_of_lt hlt) #[Value.int i t1, Value.int j t2], ⟨⟨_, Heap.get?_push_size _ rfl, rfl, rfl⟩, hT.push _⟩, fun d hd => ?_, (by decide : 0 < 2), CmpOf.ints_lt (fun k => if k = 0 then i else j) (fun k v hv => ?_), fun v h' tk hP hk => ?_⟩
  · show d < (s.heap.push _).objs.size
    rw [Heap.size_push]
    rcases List.mem_cons.mp hd with rfl | hd
    · exact Nat.lt_succ_self _
    · rcases List.mem_cons.mp hd with rfl | hd
      · exact Nat.lt_succ_of_lt hlt
      · cases hd
  · match k, hv with
    | 0, hv => exact ⟨t1, (Option.some.inj hv).symm⟩
    | 1, hv => exact ⟨t2, (Option.some.inj hv).symm⟩
    | k + 2, hv => cases hv
  · have old : ∀ b o, s.heap.get? b = some o → h'.get? b = some o := fun b o e => by
      refine hk b o (fun hm => ?_) (Heap.get?_push_of_some _ e)
      rcases List.mem_cons.mp hm with e1 | hm
      · exact Nat.lt_irrefl _ (e1 ▸ Heap.lt_size e)
      · cases hm
    have hv : ∃ t, v = Value.int (if j < i then j else i) t := by
      by_cases c : j < i
      · rw [if_pos c]
        have hP' : #[Value.int i t1, Value.int j t2][1]? = some v := by simpa [argBest, c] using hP
        exact ⟨t2, (Option.some.inj hP').symm⟩
      · rw [if_neg c]
        have hP' : #[Value.int i t1, Value.int j t2][0]? = some v := by simpa [argBest, c] using hP
        exact ⟨t1, (Option.some.inj hP').symm⟩
    obtain ⟨t, rfl⟩ := hv
    exact ⟨.int _, H, I.kept (t' := tk) old, ⟨t, rfl⟩, q⟩
end
end OA

/-! A def of the text, proved once, and its call. -/
namespace OA
open PySem L2 PyProof.Rows
/-- the def st stands behind the name x -/
def Df (K : PySem.W.Frag) (mg : Str → Option Value) (x : Str) (st : Stmt) : Prop := ∃ (f : Addr) (fd : FuncData), Fun K x x st f fd ∧ mg x = some (.ref f)
/-- .. and keeps the promise sp -/
def Okd (P : Program) (w : World) (K : PySem.W.Frag) (mg : Str → Option Value) (base : Heap) (k : Nat) (x : Str) (ps : List Str) (sp : Sp) : Prop :=
  ∃ (f : Addr) (fd : FuncData), mg x = some (.ref f) ∧ PySem.W.keepIn K (.ref f) = true ∧ Binds K fd ps [] ∧ FnOk P w K mg base CX0 k f fd ps sp
section
variable {P : Program} {w : World} {K : PySem.W.Frag} {mg : Str → Option Value} {base : Heap}
theorem okd {x : Str} {st : Stmt} {N ps : List Str} {k : Nat} {sp : Sp} (D : Df K mg x st) (S : FnScope N ps (defScope st))
    (hb : ∀ (kV doc pm : Value) (an : Option Addr) (cdv ct : Value) (us : List Value), us.length = ps.length → bindArgs (PySem.W.fnOf x x (defArgs st) (defBody st) (defScope st) .none kV doc pm an cdv ct) ⟨us, []⟩ = pure (ps.zip us))
    (len : ∀ vs H Q E, sp vs H Q E → vs.length = ps.length)
    (hbody : ∀ (f : Addr) (cdv : Value) (A : Around) (outer : List Env) (s : Shared) (H : Hp) (vs : List V) (Q : VK) (E : XK), Room k (A.deeper (envOfC x (defScope st) s.heap.objs.size f cdv)) → sp vs H Q E →
      ∃ t, PSs (cxOf CX0 P w K mg base N x (defScope st) f cdv A outer s H E).nox (defBody st) t ∧ t { nx := fun _ H' => Q .non H', rt := Q } (start N vs) H) :
    Okd P w K mg base (k + 1) x ps sp := by
  obtain ⟨f, fd, F, g⟩ := D
  exact ⟨f, fd, g, F.kp, F.binds hb, F.ok S len (hbody f)⟩
end
section
variable {X : Cx}
theorem pe_do {k j : Nat} {x : Str} {ps : List Str} {sp : Sp} {p pos : Pos} {e : Expr} {es : List Expr} {t : TA} (D : Okd X.prog X.w X.K X.mg X.base k x ps sp) (hr : Room j X.A) (ha : PA X (e :: es) t) (hk : k ≤ j := by decide) (hg : Gl X x := by rfl)
    (hd : (x == ("__debug__" : Str)) = false := by decide) (he : starEach (e :: es) X.env = (false, eval e X.env) :: starEach es X.env := by rfl) (hpl : (backTo pos (starEach es X.env)).any (·.1) = false := by rfl) :
    PE X (.Call (.Name x p) (e :: es) [] pos) (tCall sp [] E0 t) := by
  obtain ⟨f, fd, g, kp, b, F⟩ := D
  exact pe_call F (hr.mono hk) hg g kp b .nil pass0 ha hd he hpl
end
/-- a value of a known kind is handed back, nothing that was tracked is changed -/
def Back (H : Hp) (Q : VK) (v : V) : Prop := ∀ H', Same H H' → Q v H'
/-- a new object is handed back -/
def New (H : Hp) (Q : VK) (o : HO) : Prop := ∀ H' p, Same H H' → H p = none → H' p = some o → Q (.ref p) H'
theorem same_upd {H : Hp} {p : Addr} {o : HO} (h : H p = none) : Same H (upd H p o) := fun b u e => by
  rw [upd_ne (ne_of_none e h)]
  exact e
theorem sm {H H' : Hp} {p : Addr} {o : HO} (s : Same H H') (h : H' p = none) : Same H (upd H' p o) := s.trans (same_upd h)
theorem sm0 {H H' : Hp} {p : Addr} {o : HO} (s : Same H H') (h : H p = none) : Same H (L2.upd H' p o) := fun b u e => by
  rw [upd_ne (ne_of_none e h)]
  exact s b u e
theorem sqT_same {K : PySem.W.Frag} {H H' : Hp} {a : Addr} {xs : List V} (e : Same H H') (h : SqT K H a xs) : SqT K H' a xs := by
  rcases h with (h | ⟨o, h⟩) | h
  · exact .inl (.inl (e _ _ h))
  · exact .inl (.inr ⟨o, e _ _ h⟩)
  · exact .inr h
end OA
namespace OA
open PySem L2 PyProof.Rows
theorem bt_int : bootBuiltins "int" = some (.type "int") := by decide +kernel
theorem bt_bool : bootBuiltins "bool" = some (.type "bool") := by decide +kernel
theorem bt_tuple : bootBuiltins "tuple" = some (.type "tuple") := by decide +kernel
theorem bt_list : bootBuiltins "list" = some (.type "list") := by decide +kernel
theorem bt_range : bootBuiltins "range" = some (.type "range") := by decide +kernel
theorem bt_isi : bootBuiltins "isinstance" = some (.builtin "isinstance") := by decide +kernel
theorem bt_min : bootBuiltins "min" = some (.builtin "min") := by decide +kernel
theorem bt_all : bootBuiltins "all" = some (.builtin "all") := by decide +kernel
theorem bt_any : bootBuiltins "any" = some (.builtin "any") := by decide +kernel
theorem bt_len : bootBuiltins "len" = some (.builtin "len") := by decide +kernel
theorem bt_enum : bootBuiltins "enumerate" = some (.type "enumerate") := by decide +kernel
theorem bt_rev : bootBuiltins "reversed" = some (.type "reversed") := by decide +kernel
theorem bt_zip : bootBuiltins "zip" = some (.type "zip") := by decide +kernel
/-! ### sizes of whole numbers -/
structure Sz (x : Int) (b : Nat) : Prop where
  lt : x.natAbs < 2 ^ b
theorem Sz.mono {x : Int} {a b : Nat} (h : Sz x a) (hab : a ≤ b) : Sz x b := ⟨Nat.lt_of_lt_of_le h.lt (Nat.pow_le_pow_right (by decide) hab)⟩
theorem Sz.mul {x y : Int} {a b : Nat} (h : Sz x a) (k : Sz y b) : Sz (x * y) (a + b) := ⟨wide_lt h.lt k.lt⟩
theorem Sz.add {x y : Int} {a : Nat} (h : Sz x a) (k : Sz y a) : Sz (x + y) (a + 1) := ⟨by
  have h1 := h.lt
  have h2 := k.lt
  have := Int.natAbs_add_le x y
  rw [Nat.pow_succ]
  omega⟩
theorem Sz.neg {x : Int} {a : Nat} (h : Sz x a) : Sz (-x) a := ⟨by rw [Int.natAbs_neg]; exact h.lt⟩
theorem Sz.sub {x y : Int} {a : Nat} (h : Sz x a) (k : Sz y a) : Sz (x - y) (a + 1) := by
  rw [Int.sub_eq_add_neg]
  exact h.add k.neg
theorem Sz.le {x y : Int} {a : Nat} (h : Sz y a) (h0 : 0 ≤ x) (hxy : x ≤ y) : Sz x a := ⟨wide_le h0 hxy h.lt⟩
theorem Sz.bits {x : Int} {a : Nat} (h : Sz x a) : Builtin.Int.intBits x ≤ a := by
  unfold Builtin.Int.intBits
  split
  · exact Nat.zero_le _
  · rename_i hx
    have hx0 : x ≠ 0 := by simpa using hx
    have h0 : x.natAbs ≠ 0 := by omega
    have := (Nat.log2_lt h0).mpr h.lt
    omega
theorem Sz.ok {x y : Int} {a b : Nat} (h : Sz x a) (k : Sz y b) (hab : a + b < 134217728) : IntMulOk x y := by
  have h1 := h.bits
  have h2 := k.bits
  have e : bitsLine = 134217728 := by decide
  unfold IntMulOk
  intro z
  rw [Bool.and_eq_true] at z
  have z2 := z.2
  unfold Builtin.Int.intTooBig at z2
  have z3 := of_decide_eq_true z2
  rw [e] at z3
  omega
theorem Sz.small {x : Int} {a : Nat} (h1 : -(2 ^ a : Int) < x) (h2 : x < 2 ^ a) : Sz x a := ⟨by
  have e : ((2 ^ a : Nat) : Int) = (2 : Int) ^ a := by simp
  rw [← e] at h1 h2
  omega⟩
theorem Sz.of_bits {x : Int} {a : Nat} (h : Builtin.Int.intBits x ≤ a) : Sz x a := ⟨by
  unfold Builtin.Int.intBits at h
  split at h
  · rename_i hx
    have hx0 : x = 0 := by simpa using hx
    rw [hx0]
    exact Nat.two_pow_pos a
  · rename_i hx
    have hx0 : x ≠ 0 := by simpa using hx
    have h0 : x.natAbs ≠ 0 := by omega
    exact (Nat.log2_lt h0).mp (by omega)⟩
/-! ### bounds of the chain of a number -/
structure Bd (s : Int × Int) (a : Int) : Prop where
  m0 : 0 < s.1
  m1 : s.1 ≤ 1000
  d0 : 0 < s.2
  d1 : s.2 ≤ 2000
  a0 : 1 ≤ a
  a1 : a ≤ 2000
theorem Ok.bd {N : Int} (h : Ok N) (k : Nat) : Bd (st N (rt N) k) (pt (rt N) (st N (rt N) k)) := by
  have R := red h.nsq k
  have S := step h.nsq R
  have r1 : rt N ≤ 1000 := h.r1000
  have e : pt (rt N) (st N (rt N) k) ≤ rt N + (st N (rt N) k).1 := by
    unfold pt
    have d0 := R.d0
    have m1 := R.m1
    have r0 := h.r1
    exact Int.ediv_le_self _ (by omega)
  have := R.m2
  have := R.hi
  exact ⟨R.m1, by omega, R.d0, by omega, S.a1, by omega⟩
theorem rt_lt {N : Int} (h0 : 0 ≤ N) (h1 : N < 2 ^ 60) : rt N < 2 ^ 30 := by
  obtain ⟨a, b, c⟩ := rt_spec h0
  rcases Int.lt_or_le (rt N) (2 ^ 30) with d | d
  · exact d
  · have : (2 : Int) ^ 30 * 2 ^ 30 ≤ rt N * rt N := Int.mul_le_mul d d (by decide) a
    omega
theorem line_eq : sizeLine = 16777216 := sizeLine_eq
/-- bits of the pair next to 0 -/
theorem Ok.nearSz {N : Int} (h : Ok N) : Sz (near N).1 2000011 ∧ Sz (near N).2 2000011 := by
  have n := h.nearR h.r1000 (by decide)
  have hb : bsum (wt 1000) 1000 + 10 < 2000011 := by have := bsum_1000; omega
  have p : Sz (near N).1 2000011 := ⟨by
    have h1 := n.pb
    have h2 := n.p1
    have h3 : (near N).1.natAbs ≤ 2 ^ (bsum (wt 1000) 1000 + 10) := by omega
    exact Nat.lt_of_le_of_lt h3 (Nat.pow_lt_pow_right (by decide) hb)⟩
  exact ⟨p, p.le (by have := n.q1; omega) n.qp⟩
end OA
namespace OA
open PySem L2 PyProof.Rows
/-- an own class as the top has left it -/
structure Ck (K : PySem.W.Frag) (mg : Str → Option Value) (x : Str) (C : Addr) : Prop where
  g : mg x = some (.ref C)
  cl : Cls K C
  cc : PySem.W.findIn K (.ref C) "__class__" = some (some (.builtin "object.__class__"))
  sp : PySem.W.specialIn K (.builtin "object.__class__") "__get__" = some (some (.builtin "getset_descriptor.__get__"))
  tk : PySem.W.takesIn K (.builtin "object.__class__") = some true
  mr : PySem.W.mroIn K C (.type "object") = some true
  made : PySem.W.makesIn K C = true
  kp : PySem.W.keepIn K (.ref C) = true
/-- a method of the class at C -/
def Dm (K : PySem.W.Frag) (C : Addr) (m qual : Str) (st : Stmt) : Prop := ∃ (f : Addr) (fd : FuncData), Fun K m qual st f fd ∧ PySem.W.findIn K (.ref C) m = some (some (.ref f)) ∧ PySem.W.isFn K (.ref f) = true
def Okm (P : Program) (w : World) (K : PySem.W.Frag) (mg : Str → Option Value) (base : Heap) (C : Addr) (k : Nat) (m : Str) (ps : List Str) (sp : Sp) : Prop :=
  ∃ (f : Addr) (fd : FuncData), PySem.W.findIn K (.ref C) m = some (some (.ref f)) ∧ PySem.W.isFn K (.ref f) = true ∧ PySem.W.keepIn K (.ref f) = true ∧ Binds K fd ps [] ∧ FnOk P w K mg base CX0 k f fd ps sp
section
variable {P : Program} {w : World} {K : PySem.W.Frag} {mg : Str → Option Value} {base : Heap}
theorem Ck.ty {x : Str} {C a dx : Addr} {fs : List (Str × V)} {H : Hp} (k : Ck K mg x C) (e : H a = some (.ins C dx fs)) : TyX K H (.ref a) (.ref C) := .base (.ins e k.cl k.cc k.sp k.tk k.mr)
theorem okm {C : Addr} {m qual : Str} {st : Stmt} {N ps : List Str} {k : Nat} {sp : Sp} (D : Dm K C m qual st) (S : FnScope N ps (defScope st))
    (hb : ∀ (kV doc pm : Value) (an : Option Addr) (cdv ct : Value) (us : List Value), us.length = ps.length → bindArgs (PySem.W.fnOf m qual (defArgs st) (defBody st) (defScope st) .none kV doc pm an cdv ct) ⟨us, []⟩ = pure (ps.zip us))
    (len : ∀ vs H Q E, sp vs H Q E → vs.length = ps.length)
    (hbody : ∀ (f : Addr) (cdv : Value) (A : Around) (outer : List Env) (s : Shared) (H : Hp) (vs : List V) (Q : VK) (E : XK), Room k (A.deeper (envOfC qual (defScope st) s.heap.objs.size f cdv)) → sp vs H Q E →
      ∃ t, PSs (cxOf CX0 P w K mg base N qual (defScope st) f cdv A outer s H E).nox (defBody st) t ∧ t { nx := fun _ H' => Q .non H', rt := Q } (start N vs) H) :
    Okm P w K mg base C (k + 1) m ps sp := by
  obtain ⟨f, fd, F, g, i⟩ := D
  exact ⟨f, fd, g, i, F.kp, F.binds hb, F.ok S len (hbody f)⟩
end
section
variable {X : Cx}
theorem pe_mdo {C : Addr} {k j : Nat} {m : Str} {ps : List Str} {sp : Sp} {o e : Expr} {es : List Expr} {ta : TE} {t : TA} {apos pos : Pos} {pl : Sem Bool} (D : Okm X.prog X.w X.K X.mg X.base C k m ps sp) (c : Cls X.K C) (hr : Room j X.A) (he : PE X o ta) (ha : PA X (e :: es) t) (hk : k ≤ j := by decide)
    (hst : starEach (e :: es) X.env = (false, eval e X.env) :: starEach es X.env := by rfl) (hpl : (backTo pos (starEach es X.env)).any (·.1) = false := by rfl)
    (ht : eval (.Call (.Attribute o m apos) (e :: es) [] pos) X.env = (do
      let ov ← eval o X.env
      standAt apos.atName
      let (f, first) ← holding [ov] (getMethod ov m pl)
      callWith pos f first (backTo pos (starEach (e :: es) X.env)) (backToKw pos (keywordEach [] X.env))) := by rfl) :
    PE X (.Call (.Attribute o m apos) (e :: es) [] pos) (tMeth C m sp [] E0 ta t) := by
  obtain ⟨f, fd, g, i, kp, b, F⟩ := D
  exact pe_meth he c ⟨g, i, kp⟩ F (hr.mono hk) b .nil pass0 ha hst hpl ht
theorem pe_mkdo {C : Addr} {k j : Nat} {x : Str} {ps : List Str} {sp : Sp} {e : Expr} {es : List Expr} {t : TA} {p pos : Pos} (D : Okm X.prog X.w X.K X.mg X.base C k "__init__" ps sp) (c : Ck X.K X.mg x C) (hr : Room j X.A) (ha : PA X (e :: es) t) (hk : k + 1 ≤ j := by decide) (hg : Gl X x := by rfl)
    (hdb : (x == ("__debug__" : Str)) = false := by decide) (he : starEach (e :: es) X.env = (false, eval e X.env) :: starEach es X.env := by rfl) (hpl : (backTo pos (starEach es X.env)).any (·.1) = false := by rfl) :
    PE X (.Call (.Name x p) (e :: es) [] pos) (tMake C sp [] E0 t) := by
  obtain ⟨f, fd, g, i, kp, b, F⟩ := D
  exact pe_make ⟨c.made, g, i, c.kp⟩ F (hr.mono hk) hg c.g b .nil pass0 ha hdb he hpl
end
/-! ### fields -/
theorem n_oo : ¬ (("one" : Str) = "other") := by decide +kernel
def fl1 (a : Int) : List (Str × V) := putF "root" (.int a) []
def fl2 (a b : Int) : List (Str × V) := putF "other" (.int b) (putF "one" (.int a) [])
theorem fl1_root (a : Int) : (fl1 a).lookup ("root" : Str) = some (.int a) := by
  unfold fl1
  rw [lookup_putF, if_pos rfl]
theorem fl1_no (a : Int) {m : Str} (h : ¬ m = "root") : (fl1 a).lookup m = none := by
  unfold fl1
  rw [lookup_putF, if_neg h]
  rfl
theorem fl2_one (a b : Int) : (fl2 a b).lookup ("one" : Str) = some (.int a) := by
  unfold fl2
  rw [lookup_putF, if_neg n_oo, lookup_putF, if_pos rfl]
theorem fl2_other (a b : Int) : (fl2 a b).lookup ("other" : Str) = some (.int b) := by
  unfold fl2
  rw [lookup_putF, if_pos rfl]
theorem fl2_no (a b : Int) {m : Str} (h1 : ¬ m = "one") (h2 : ¬ m = "other") : (fl2 a b).lookup m = none := by
  unfold fl2
  rw [lookup_putF, if_neg h2, lookup_putF, if_neg h1]
  rfl
/-! ### data of whole numbers -/
def dpr (p : Int × Int) : PyData := .tuple [.int p.1, .int p.2]
theorem dpr_eqv (p q : Int × Int) : PyData.eqv (dpr p) (dpr q) = decide (p = q) := by
  show (p.1 == q.1 && (p.2 == q.2 && true)) = decide (p = q)
  by_cases h1 : p.1 = q.1
  · by_cases h2 : p.2 = q.2
    · rw [decide_eq_true (Prod.ext h1 h2)]
      simp [h1, h2]
    · rw [decide_eq_false fun z => h2 (congrArg Prod.snd z)]
      simp [h2]
  · rw [decide_eq_false fun z => h1 (congrArg Prod.fst z)]
    simp [h1]
theorem dpr_sh (p : Int × Int) : SeqAt.shaped (dpr p) = true := by rfl
theorem Dp.pr {K : PySem.W.Frag} {H : Hp} {a : Addr} {p : Int × Int} (h : H a = some (.tup [.int p.1, .int p.2])) : Dp K H (.ref a) (dpr p) := .tup (SqT.of h) (.cons (.int _) (.cons (.int _) .nil))
end OA

/-! match of a tuple against two names, else anything. -/
namespace OA
open PySem L2 PyProof.Rows
section
variable {X : Cx}
def tMatch2 (K : PySem.W.Frag) (te : TE) (i j : Nat) (t u : TS) : TS := fun D σ H => te σ H fun v H1 => ∃ a xs, v = .ref a ∧ SqT K H1 a xs ∧
  ((∃ x y, xs = [x, y] ∧ t D ((σ.set i (some x)).set j (some y)) H1) ∨ (xs.length ≠ 2 ∧ u D σ H1))
theorem ps_match2 {i j : Nat} {x y : Str} {e : Expr} {te : TE} {b1 b2 : List Stmt} {t u : TS} {p1 p2 p3 p4 pos : Pos} (hc : X.calm = true) (hN : X.N.Nodup) (hi : X.N[i]? = some x) (hj : X.N[j]? = some y)
    (hx : X.env.scope.names.lookup x = some .local) (hy : X.env.scope.names.lookup y = some .local) (he : PE X e te) (h1 : PSs X b1 t) (h2 : PSs X b2 u) :
    PS X (.Match e [⟨.MatchSequence [.MatchAs none (some x) p1, .MatchAs none (some y) p2] p3, none, b1⟩, ⟨.MatchAs none none p4, none, b2⟩] pos) (tMatch2 X.K te i j t u) := by
  refine ⟨fun pins s σ H D I h => ?_⟩
  refine wpAny_Match (thn (he.run pins s σ H _ I h) fun v s1 hh => ?_)
  obtain ⟨vv, H1, I1, r1, a, xs, ev, hT, q⟩ := hh
  subst ev
  cases (show v = Value.ref a from r1)
  obtain ⟨its, rv, ht, hz⟩ := I1.tuple hT
  have hfit : (its.toArray.size : Int) < 2 ^ 63 := by
    rw [List.size_toArray, ← rv.length]
    have := line_eq
    omega
  refine wpAny_matchCases_cons ?_
  rcases q with ⟨u1, u2, rfl, q⟩ | ⟨hl, q⟩
  · obtain ⟨w1, w2, rfl, r1', r2'⟩ := vals2 rv
    refine matchSeq_tuple_hit ht hfit rfl ?_
    refine unpackItems_tuple (items := #[w1, w2]) (I.ok.hd hc) ht fun h' hx' => ?_
    have I2 : Inv X pins σ H1 { s1 with heap := h', toks := s1.toks + 1 + 1 } := I1.kept (h' := h') (t' := s1.toks + 1 + 1) fun b o eb => hx' b o (Nat.ne_of_lt (Heap.lt_size eb)) eb
    refine wpAny_matchEach_cons (wpAny_matchPattern_Capture ?_)
    refine wpAny_matchEach_cons (wpAny_matchPattern_Capture ?_)
    refine wpAny_matchEach_nil ?_
    show wpAny _ _ (assignInOrder [fun v => bindName X.env x v, fun v => bindName X.env y v] [w1, w2]) _ _ _
    refine assignInOrder_cons (wpAny_bindName (store_ok I2 hN hi (.inl hx) r1' (fun s3 I3 => ?_) (.inr hx)))
    refine assignInOrder_cons (wpAny_bindName (store_ok I3 hN hj (.inl hy) r2' (fun s4 I4 => assignInOrder_nil ?_) (.inr hy)))
    exact h1.run pins s4 _ H1 D I4 q
  · refine matchSeq_tuple_miss ht hfit (by rw [List.size_toArray, ← rv.length]; exact hl) ?_
    have I2 : Inv X pins σ H1 { s1 with toks := s1.toks + 1 + 1 } := I1.tok _
    refine wpAny_matchCases_cons (wpAny_matchPattern_Capture ?_)
    show wpAny _ _ (assignInOrder [] []) _ _ _
    exact assignInOrder_nil (h2.run pins _ _ H1 D I2 q)
/-- range(n) as a value -/
def rRng1 : List V → Hp → VK → Prop := fun vs H Q => ∃ j, vs = [V.int j] ∧ ∀ p, H p = none → Q (.ref p) (upd H p (.rng 0 j))
theorem cr_range1 : CallR X (.type "range") rRng1 := by
  intro pins s σ H vs us Q I r h
  obtain ⟨j, rfl, q⟩ := h
  obtain ⟨u1, rfl, t, rfl⟩ := vals1 r
  refine call_range_1 ⟨.ref s.heap.objs.size, upd H s.heap.objs.size (.rng 0 j), I.laid (t' := s.toks + 1 + 1) (fun b o e => Heap.get?_push_of_some _ e) (Nat.le_refl _) ?_, rfl, q _ (I.hok.fresh (Nat.le_refl _))⟩
  exact ⟨s.toks, t, s.toks + 1, Heap.get?_push_size _ rfl⟩
end
/-! ### how large the answers by their numbers are -/
theorem pw_sz {N : Int} (h : Ok N) {B : Nat} (z1 : Sz (least N).1 B) (z2 : Sz (least N).2 B) : ∀ n, Sz (pw N n).1 (n * (B + 66) + 1) ∧ Sz (pw N n).2 (n * (B + 66) + 1)
  | 0 => ⟨⟨by show (1 : Int).natAbs < 2 ^ (0 * (B + 66) + 1); rw [Nat.zero_mul]; decide⟩, ⟨by show (0 : Int).natAbs < 2 ^ (0 * (B + 66) + 1); rw [Nat.zero_mul]; decide⟩⟩
  | n + 1 => by
    obtain ⟨a, b⟩ := pw_sz h z1 z2 n
    have zN : Sz N 64 := by
      have h1 := h.lo
      have h2 := h.hi
      exact Sz.small (by have : (2 : Int) ^ 64 = 18446744073709551616 := by decide
                         omega) (by have : (2 : Int) ^ 64 = 18446744073709551616 := by decide
                                    omega)
    have e : (n + 1) * (B + 66) + 1 = n * (B + 66) + 1 + (B + 66) := by rw [Nat.succ_mul]; omega
    rw [e]
    generalize n * (B + 66) + 1 = b0 at *
    exact ⟨(Sz.add ((a.mul z1).mono (show b0 + B ≤ b0 + B + 64 by omega)) (((zN.mul b).mul z2).mono (show 64 + b0 + B ≤ b0 + B + 64 by omega))).mono (by omega),
      (Sz.add ((a.mul z2).mono (show b0 + B ≤ b0 + B + 64 by omega)) ((b.mul z1).mono (show b0 + B ≤ b0 + B + 64 by omega))).mono (by omega)⟩
/-- counts to n may be asked of N -/
structure Cap (N : Int) (n : Nat) : Prop where
  ex : ∃ B, Sz (least N).1 B ∧ Sz (least N).2 B ∧ (3 * n + 3) * (B + 66) ≤ 129000000
theorem Cap.two {N : Int} {n m1 m2 : Nat} (c : Cap N n) (h : Ok N) (hm : m1 + m2 ≤ 3 * n + 3) : ∃ i j, Sz (pw N m1).1 i ∧ Sz (pw N m1).2 i ∧ Sz (pw N m2).1 j ∧ Sz (pw N m2).2 j ∧ i + j ≤ 130000000 := by
  obtain ⟨B, z1, z2, hB⟩ := c.ex
  obtain ⟨a, b⟩ := pw_sz h z1 z2 m1
  obtain ⟨a2, b2⟩ := pw_sz h z1 z2 m2
  refine ⟨_, _, a, b, a2, b2, ?_⟩
  have h1 : (m1 + m2) * (B + 66) ≤ (3 * n + 3) * (B + 66) := Nat.mul_le_mul_right _ hm
  rw [Nat.add_mul] at h1
  omega
theorem Cap.one {N : Int} {n m : Nat} (c : Cap N n) (h : Ok N) (hm : m ≤ n) : Sz (pw N m).1 60000000 ∧ Sz (pw N m).2 60000000 := by
  obtain ⟨B, z1, z2, hB⟩ := c.ex
  obtain ⟨a, b⟩ := pw_sz h z1 z2 m
  have h1 : (3 * m) * (B + 66) ≤ (3 * n + 3) * (B + 66) := Nat.mul_le_mul_right _ (by omega)
  rw [Nat.mul_assoc] at h1
  exact ⟨a.mono (by omega), b.mono (by omega)⟩
theorem Cap.mono {N : Int} {n m : Nat} (c : Cap N n) (hm : m ≤ n) : Cap N m := by
  obtain ⟨B, z1, z2, hB⟩ := c.ex
  have h1 : (3 * m + 3) * (B + 66) ≤ (3 * n + 3) * (B + 66) := Nat.mul_le_mul_right _ (by omega)
  exact ⟨B, z1, z2, by omega⟩
theorem lz_of {N : Int} (h : Ok N) {b : Nat} (z1 : Sz (near N).1 b) (z2 : Sz (near N).2 b) : Sz (least N).1 (2 * b + 70) ∧ Sz (least N).2 (2 * b + 70) := by
  have zN : Sz N 64 := by
    have h1 := h.lo
    have h2 := h.hi
    exact Sz.small (by have : (2 : Int) ^ 64 = 18446744073709551616 := by decide
                       omega) (by have : (2 : Int) ^ 64 = 18446744073709551616 := by decide
                                  omega)
  unfold least
  by_cases c : apart N = 1
  · rw [if_pos c]
    exact ⟨z1.mono (by omega), z2.mono (by omega)⟩
  · rw [if_neg c]
    exact ⟨(Sz.add ((z1.mul z1).mono (show b + b ≤ 2 * b + 64 by omega)) (((zN.mul z2).mul z2).mono (show 64 + b + b ≤ 2 * b + 64 by omega))).mono (by omega),
      (Sz.add ((z1.mul z2).mono (show b + b ≤ 2 * b + 64 by omega)) ((z2.mul z1).mono (show b + b ≤ 2 * b + 64 by omega))).mono (by omega)⟩
theorem Cap.all {N : Int} (h : Ok N) : Cap N 9 := by
  obtain ⟨z1, z2⟩ := h.nearSz
  obtain ⟨a, b⟩ := lz_of h z1 z2
  exact ⟨_, a, b, by decide⟩
theorem Cap.low {N : Int} (h : Ok N) (h3 : N < 3000) : Cap N 100 := by
  have hr : rt N ≤ ((55 : Nat) : Int) := rt_le (by have := h.lo; omega) (by decide) (by show N < (55 + 1) * (55 + 1); omega)
  have n := h.nearR hr (by decide)
  have hb : bsum (wt 55) 55 + 10 < 6011 := by have := bsum_55; omega
  have p : Sz (near N).1 6011 := ⟨by
    have h1 := n.pb
    have h2 := n.p1
    have h4 : (near N).1.natAbs ≤ 2 ^ (bsum (wt 55) 55 + 10) := by omega
    exact Nat.lt_of_le_of_lt h4 (Nat.pow_lt_pow_right (by decide) hb)⟩
  obtain ⟨a, b⟩ := lz_of h p (p.le (by have := n.q1; omega) n.qp)
  exact ⟨_, a, b, by decide⟩
end OA

/-! // by a divisor of any size, where the heap is seen by no one. -/
namespace OA
open PySem PySem.Spec L2 PyProof.Rows
section
variable {X : Cx}
theorem op_fdivP (hS : X.base.NoSeer) (hP : X.prog.given.tree = none) (hd : X.A.depth + Builtin.pylongFrames < recursionLimit) (hst : X.stack = X.env :: X.outer := by rfl) (hg : X.env.scope.isGenerator = false := by rfl) (hc : X.env.scope.isCoroutine = false := by rfl) :
    OpR X (binaryOp .FloorDiv) (rI (fun _ j => 0 < j) fun i j => .int (i / j)) := by
  intro pins s σ H x y v u Q I rx ry h
  obtain ⟨i, j, rfl, rfl, hj, q⟩ := h
  obtain ⟨t, rfl⟩ := rx
  obtain ⟨t', rfl⟩ := ry
  have hfr : X.A.frames = some (X.env :: X.outer) := by rw [← hst]; exact I.ok.frames
  refine floordiv_int (show j ≠ 0 by omega) ?_ (.inr (PylongRoom.of I.nolimit hd (SeerAt.of (hS.keeps I.bk) hP hfr hg hc I.ok.blt I.ok.glob)))
  refine ⟨.int (i / j), H, I.tok _, ⟨s.toks, ?_⟩, q⟩
  rw [Int.fdiv_eq_ediv_of_nonneg i (by omega)]
/-- xs.count(True) of a list of truths -/
def rCntB (K : PySem.W.Frag) : V → List V → Hp → VK → Prop := fun x xs H Q => ∃ (p : Addr) (bs : List Bool) (k : Bool), x = .ref p ∧ xs = [.bl k] ∧ SqL K H p (bs.map V.bl) ∧ Q (.int (countIn (.bool k) (bs.map PyData.bool))) H
theorem dpa_bl {K : PySem.W.Frag} {H : Hp} : ∀ l : List Bool, DpAll K H (l.map V.bl) (l.map PyData.bool)
  | [] => .nil
  | a :: t => .cons (.bl a) (dpa_bl t)
theorem has_bl : ∀ l : List Bool, (l.map PyData.bool).all Shape.bool.has = true
  | [] => rfl
  | a :: t => by
    show (Shape.bool.has (.bool a) && (t.map PyData.bool).all Shape.bool.has) = true
    rw [has_bl t]
    rfl
theorem mt_bcount : MtR X "list.count" (rCntB X.K) := by
  intro pins s σ H x xs v us Q I rx rxs h
  obtain ⟨p, bs, k, rfl, rfl, hs, q⟩ := h
  cases rx
  obtain ⟨u, rfl, ru⟩ := rxs.one
  cases (show u = Value.bool k from ru)
  obtain ⟨its, rv, hl, hlen⟩ := I.list hs
  obtain ⟨as, ra⟩ := Dp.readsAll I _ _ _ (dpa_bl bs) rv
  exact count_list_bools hl.isList ra (has_bl bs) ⟨.int _, H, I.tok _, ⟨_, rfl⟩, q⟩
end
theorem room32 {A : Around} {k : Nat} (hr : Room k A) (hk : 32 ≤ k) : A.depth + Builtin.pylongFrames < recursionLimit := by
  have h := hr.dp
  have e : Builtin.pylongFrames = 100 := rfl
  rw [e]
  omega
/-! ### the script's call, the heap seen by no one -/
section
variable {P : Program} {w : World} {K K' : PySem.W.Frag} {mg : Str → Option Value} {base : Heap}
theorem fnok_more {CX : CXT} {k : Nat} {f : Addr} {fd : FuncData} {ps : List Str} {sp : Sp} (hK : ∀ h : Heap, K'.In h → K.In h) (F : FnOk P w K mg base CX k f fd ps sp) : FnOk P w K' mg base CX k f fd ps sp := by
  refine ⟨F.len, fun A outer s H args us vs Q E hr e hb hv hs => F.run A outer s H args us vs Q E hr ?_ hb hv hs⟩
  exact ⟨e.frames, ⟨hK _ e.mod.kin, e.mod.glob, e.mod.blt, e.mod.nolimit⟩, e.bs, e.bsz, e.funs, e.frf, e.hok, e.bare⟩
end
theorem lookup_more {K ex : PySem.W.Frag} {a : Addr} {o : Obj} (h : K.lookup a = some o) : List.lookup a (K ++ ex) = some o := by
  rw [List.lookup_append, h]
  rfl
theorem lookup_less {K ex : PySem.W.Frag} {a : Addr} {o : Obj} (h : List.lookup a (K ++ ex) = some o) : K.lookup a = some o ∨ ex.lookup a = some o := by
  rw [List.lookup_append] at h
  cases e : K.lookup a with
  | some u => rw [e] at h; exact .inl h
  | none => rw [e] at h; exact .inr h
theorem mem_lookup_ex {ex : PySem.W.Frag} {a : Addr} {o : Obj} (h : ex.lookup a = some o) : (a, o) ∈ ex := by
  induction ex with
  | nil => cases h
  | cons p t ih =>
    obtain ⟨b, u⟩ := p
    by_cases c : a = b
    · subst c
      rw [List.lookup_cons_self] at h
      cases h
      exact List.mem_cons_self
    · have : (a == b) = false := by simpa using c
      rw [List.lookup_cons, this] at h
      exact List.mem_cons_of_mem _ (ih h)
theorem lookup_ex {ex : PySem.W.Frag} {a : Addr} {o : Obj} (h : (a, o) ∈ ex) : ∃ u, ex.lookup a = some u := by
  induction ex with
  | nil => cases h
  | cons p t ih =>
    obtain ⟨b, u⟩ := p
    by_cases c : a = b
    · subst c
      exact ⟨u, List.lookup_cons_self⟩
    · have e : (a == b) = false := by simpa using c
      rw [List.lookup_cons, e]
      rcases List.mem_cons.mp h with q | q
      · cases q; exact absurd rfl c
      · exact ih q
theorem walk_ofS {l : PySem.W.OpenLaw} {n k : Nat} {q : Program} {loose : List Str} {XP : (Str → Option Value) → Heap → Prop} {YP : World → Heap → Prop} {d : DefRec} {K : Params → PySem.W.Frag} {CX : World → CXT} {sp : World → Sp} {x : Str}
    (hn : l.most = some n) (hn2 : n ≤ sizeLine) (hdf : d.params.defaults = []) (hr : Room k callerA) (hq : importsNone q = true)
    (hY : ∀ (w : World) (h : Heap), YP w h → (K w.params).In h)
    (F : ∀ (w : World) (mg : Str → Option Value) (fa : Addr) (h : Heap), (K w.params).In h → h.Ns mainGlobals mg → mg d.name = some (.ref fa) →
      ∃ fd : FuncData, (∀ (s : Shared) (u : Value), BindsTo s fd ⟨[u], []⟩ [(x, u)]) ∧
        ∀ base : Heap, (K w.params).In base → base.Ns mainGlobals mg → base.NoSeer → FnOk l.prog w (K w.params) mg base (CX w) k fa fd [x] (sp w))
    (hsp : ∀ (w : World) (H : Hp) (a : Addr) (ns : List Int), ns.length ≤ n → (∀ z ∈ ns, Builtin.Int.intBits z ≤ 1048576) → Only H → SqL (K w.params) H a (ns.map V.int) → sp w [.ref a] H (fun v _ => v = .bl true) fun _ _ _ => False)
    (hCX : ∀ (w : World) (H : Hp) (s : Shared) (e : Value) (s' : Shared), CX w [] H s (fun _ _ _ => False) e s' → False) :
    PySem.W.WalkO q loose XP YP l.row.toRowW d [] (fun f vs => PySem.call f vs) := by
  refine Att.attach_callB hn hdf fun w s_0 s_1 mg mb fa o pm cd doc a vs ns G Y ho hd hcd hmg hobj hints hlen hbits hg => ?_
  have KX := hY w _ Y
  obtain ⟨fd, hb, hF⟩ := F w mg fa _ KX G.T.g hmg
  have S := G.T.seer hq
  obtain ⟨mc, ⟨o1, es1, ep1, g1, t1, r1⟩, c1, c2⟩ := S.statics
  obtain ⟨mm, ⟨o2, es2, ep2, g2, t2, r2⟩, m1⟩ := S.mods
  obtain ⟨mb', ⟨o3, es3, ep3, g3, t3, r3⟩, b1⟩ := S.imp
  obtain ⟨mg', bm, ob, ⟨o4, es4, ep4, g4, t4, r4⟩, d1, d2, d3, d4⟩ := S.main
  generalize hex : ([(cStatics, o1), (sysModules, o2), (builtinsNs, o3), (mainGlobals, o4), (bm, ob)] : PySem.W.Frag) = ex
  have inEx : ∀ b u, (b, u) ∈ ex → s_1.heap.get? b = some u := fun b u hm => by
    rw [← hex] at hm
    simp only [List.mem_cons, List.not_mem_nil, or_false, Prod.mk.injEq] at hm
    rcases hm with ⟨rfl, rfl⟩ | ⟨rfl, rfl⟩ | ⟨rfl, rfl⟩ | ⟨rfl, rfl⟩ | ⟨rfl, rfl⟩ <;> assumption
  have KX' : PySem.W.Frag.In (K w.params ++ ex) s_1.heap := fun b u e => by
    rcases lookup_less e with e | e
    · exact KX b u e
    · exact inEx b u (mem_lookup_ex e)
  have sub : ∀ h : Heap, PySem.W.Frag.In (K w.params ++ ex) h → (K w.params).In h := fun h z b u e => z b u (lookup_more e)
  have getEx : ∀ h : Heap, PySem.W.Frag.In (K w.params ++ ex) h → ∀ b u, (b, u) ∈ ex → h.get? b = some u := fun h z b u hm => by
    obtain ⟨u', e⟩ := lookup_ex (List.mem_append_right (K w.params) hm)
    have e1 := z b u' e
    have e2 := KX' b u' e
    rw [inEx b u hm] at e2
    cases e2
    exact e1
  have seen : ∀ h : Heap, PySem.W.Frag.In (K w.params ++ ex) h → h.NoSeer := fun h z =>
    { statics := ⟨mc, ⟨o1, es1, ep1, getEx h z _ _ (by rw [← hex]; simp), t1, r1⟩, c1, c2⟩
      mods := ⟨mm, ⟨o2, es2, ep2, getEx h z _ _ (by rw [← hex]; simp), t2, r2⟩, m1⟩
      imp := ⟨mb', ⟨o3, es3, ep3, getEx h z _ _ (by rw [← hex]; simp), t3, r3⟩, b1⟩
      main := ⟨mg', bm, ob, ⟨o4, es4, ep4, getEx h z _ _ (by rw [← hex]; simp), t4, r4⟩, d1, getEx h z _ _ (by rw [← hex]; simp), d3, d4⟩ }
  refine law_call (K := K w.params ++ ex) KX' G.T.g G.T.b G.T.builtins G.T.nolimit hg hobj hints (Nat.le_trans hlen hn2) hr (fun base kin hns => fnok_more sub (hF base (sub base kin) hns (seen base kin))) hb (fun H hO hS => hsp w H a ns hlen hbits hO ?_) fun H e s' => hCX w H s_1 e s'
  rcases hS with hS | ⟨u, its, m, e, h1, h2, h3, h4⟩
  · exact .inl hS
  · rcases lookup_less e with e | e
    · exact .inr ⟨u, its, m, e, h1, h2, h3, h4⟩
    · exfalso
      have hm := mem_lookup_ex e
      rw [← hex] at hm
      simp only [List.mem_cons, List.not_mem_nil, or_false, Prod.mk.injEq] at hm
      rcases hm with ⟨_, rfl⟩ | ⟨_, rfl⟩ | ⟨_, rfl⟩ | ⟨_, rfl⟩ | ⟨_, rfl⟩
      · rw [t1] at h3; cases h3
      · rw [t2] at h3; cases h3
      · rw [t3] at h3; cases h3
      · rw [t4] at h3; cases h3
      · rw [d3] at h1
        exact absurd (Value.type.inj h1) (by decide)
end OA

namespace OA
open PySem L2 PyProof.Rows
/-! ### defs that may raise; defs called while an error is handled; a def that is handed over -/
def Okx (P : Program) (w : World) (K : PySem.W.Frag) (mg : Str → Option Value) (base : Heap) (k : Nat) (x : Str) (ps : List Str) (sp : Sp) : Prop :=
  ∃ (f : Addr) (fd : FuncData), mg x = some (.ref f) ∧ PySem.W.keepIn K (.ref f) = true ∧ Binds K fd ps [] ∧ FnOk P w K mg base (L2N.CX P w) k f fd ps sp
def Okh (P : Program) (w : World) (K : PySem.W.Frag) (mg : Str → Option Value) (base : Heap) (k : Nat) (x : Str) (ps : List Str) (sp : Sp) : Prop :=
  ∃ (f : Addr) (fd : FuncData), mg x = some (.ref f) ∧ PySem.W.keepIn K (.ref f) = true ∧ Binds K fd ps [] ∧ L2H.FnH P w K mg base CX0 k f fd ps sp
section
variable {P : Program} {w : World} {K : PySem.W.Frag} {mg : Str → Option Value} {base : Heap}
theorem okx {x : Str} {st : Stmt} {N ps : List Str} {k : Nat} {sp : Sp} (D : Df K mg x st) (S : FnScope N ps (defScope st))
    (hb : ∀ (kV doc pm : Value) (an : Option Addr) (cdv ct : Value) (us : List Value), us.length = ps.length → bindArgs (PySem.W.fnOf x x (defArgs st) (defBody st) (defScope st) .none kV doc pm an cdv ct) ⟨us, []⟩ = pure (ps.zip us))
    (len : ∀ vs H Q E, sp vs H Q E → vs.length = ps.length)
    (hbody : ∀ (f : Addr) (cdv : Value) (A : Around) (outer : List Env) (s : Shared) (H : Hp) (vs : List V) (Q : VK) (E : XK), Room k (A.deeper (envOfC x (defScope st) s.heap.objs.size f cdv)) → sp vs H Q E →
      ∃ t, PSs (cxOf (L2N.CX P w) P w K mg base N x (defScope st) f cdv A outer s H E) (defBody st) t ∧ t { nx := fun _ H' => Q .non H', rt := Q } (start N vs) H) :
    Okx P w K mg base (k + 1) x ps sp := by
  obtain ⟨f, fd, F, g⟩ := D
  refine ⟨f, fd, g, F.kp, F.binds hb, ?_⟩
  obtain ⟨oc, od, kV, doc, pm, an, cdv, ct, osl, rfl, lk, hcd⟩ := F.ex
  exact fn_of lk hcd S len fun A outer s H vs Q E hr hsp => hbody f cdv A outer s H vs Q E hr hsp
theorem okh {x : Str} {st : Stmt} {N ps : List Str} {k : Nat} {sp : Sp} (D : Df K mg x st) (S : FnScope N ps (defScope st))
    (hb : ∀ (kV doc pm : Value) (an : Option Addr) (cdv ct : Value) (us : List Value), us.length = ps.length → bindArgs (PySem.W.fnOf x x (defArgs st) (defBody st) (defScope st) .none kV doc pm an cdv ct) ⟨us, []⟩ = pure (ps.zip us))
    (len : ∀ vs H Q E, sp vs H Q E → vs.length = ps.length)
    (hbody : ∀ (f : Addr) (cdv : Value) (A : Around) (outer : List Env) (s : Shared) (H : Hp) (vs : List V) (Q : VK) (E : XK) (p : Addr × Obj), L2H.Hot1 A p → sp vs H Q E →
      ∃ t, PSs (L2H.cxH CX0 P w K mg base N x (defScope st) f cdv A outer s H E p) (defBody st) t ∧ t { nx := fun _ H' => Q .non H', rt := Q } (start N vs) H) :
    Okh P w K mg base (k + 1) x ps sp := by
  obtain ⟨f, fd, F, g⟩ := D
  refine ⟨f, fd, g, F.kp, F.binds hb, ?_⟩
  obtain ⟨oc, od, kV, doc, pm, an, cdv, ct, osl, rfl, lk, hcd⟩ := F.ex
  exact L2H.fn_ofH lk hcd S len fun A outer s H vs Q E p hot _ hsp => hbody f cdv A outer s H vs Q E p hot hsp
end
section
variable {X : Cx}
theorem pe_dox {k j : Nat} {x : Str} {ps : List Str} {sp : Sp} {p pos : Pos} {e : Expr} {es : List Expr} {t : TA} {W : WX} (D : Okx X.prog X.w X.K X.mg X.base k x ps sp) (tk : L2N.Takes X W) (hr : Room j X.A) (ha : PA X (e :: es) t) (hk : k ≤ j := by decide) (hg : Gl X x := by rfl)
    (hd : (x == ("__debug__" : Str)) = false := by decide) (he : starEach (e :: es) X.env = (false, eval e X.env) :: starEach es X.env := by rfl) (hpl : (backTo pos (starEach es X.env)).any (·.1) = false := by rfl) :
    PE X (.Call (.Name x p) (e :: es) [] pos) (tCallS sp (WE W) t) := by
  obtain ⟨f, fd, g, kp, b, F⟩ := D
  exact pe_callS F (hr.mono hk) hg g kp b (fun σ => L2N.passAt tk σ) ha hd he hpl
theorem pe_doh {k j : Nat} {x : Str} {ps : List Str} {sp : Sp} {p pos : Pos} {e : Expr} {es : List Expr} {t : TA} (D : Okh X.prog X.w X.K X.mg X.base k x ps sp) (hc : L2H.HotC X) (hr : L2H.RoomH j X.A) (ha : PA X (e :: es) t) (hk : k ≤ j := by decide) (hg : Gl X x := by rfl)
    (hd : (x == ("__debug__" : Str)) = false := by decide) (he : starEach (e :: es) X.env = (false, eval e X.env) :: starEach es X.env := by rfl) (hpl : (backTo pos (starEach es X.env)).any (·.1) = false := by rfl) :
    PE X (.Call (.Name x p) (e :: es) [] pos) (tCallS sp (fun _ _ _ _ => False) t) := by
  obtain ⟨f, fd, g, kp, b, F⟩ := D
  exact L2H.pe_callH F (hr.mono hk) hc hg g kp b (fun _ _ _ _ _ _ _ z => z.elim) ha hd he hpl
/-- a call of the def that slot i holds, which may raise -/
def tCallP (i : Nat) (f : Addr) (sp : Sp) (E : L2.St → XK) (t : TA) : TE := fun σ H Q => σ[i]? = some (some (.ref f)) ∧ t σ H fun vs H1 => sp vs H1 Q (E σ)
theorem pe_callP {CX : CXT} {k i : Nat} {f : Addr} {fd : FuncData} {ps : List Str} {sp : Sp} {E : L2.St → XK} {x : Str} {p pos : Pos} {e : Expr} {es : List Expr} {t : TA}
    (F : FnOk X.prog X.w X.K X.mg X.base CX k f fd ps sp) (hr : Room k X.A) (hN : X.N[i]? = some x) (hv : Vis X.env.scope x) (hk : PySem.W.keepIn X.K (.ref f) = true) (hb : Binds X.K fd ps []) (hx : ∀ σ, PassesAt CX X σ (E σ)) (ha : PA X (e :: es) t)
    (hdb : (x == ("__debug__" : Str)) = false := by decide) (hcd : (x == ("__classdict__" : Str)) = false := by decide)
    (he : starEach (e :: es) X.env = (false, eval e X.env) :: starEach es X.env := by rfl) (hpl : (backTo pos (starEach es X.env)).any (·.1) = false := by rfl) : PE X (.Call (.Name x p) (e :: es) [] pos) (tCallP i f sp E t) := by
  refine ⟨fun pins s σ H Q I h => ?_⟩
  obtain ⟨hs, ht⟩ := h
  refine wpAny_Call_Name_kw (thn ((pe_var (pos := p) hN hv hdb hcd).run pins s σ H (fun v H1 => v = .ref f ∧ H1 = H) I ⟨.ref f, hs, rfl, rfl⟩) fun u s1 ⟨v, H1, I1, r1, q1⟩ => ?_)
  obtain ⟨rfl, rfl⟩ := q1
  cases r1
  exact PySem.W.callWith_K (h₀ := X.base) I.ok.mod.kin hk (thn (ha.run pos pins s1 σ _ _ I1 ht) fun us s2 ⟨vs, H2, I2, r, q⟩ => ⟨I2.kIn, run_fnS F hr hb (hx σ) I2 r q⟩) he hpl
/-- isinstance of an error that is pinned -/
theorem call_isP {a D : Addr} {oe : Obj} (C : ExcC X.K D) (hz : Zc (.ref D) none oe) (hf : ∃ vs, oe.data = .fields vs) (hp : (a, oe) ∈ X.pn) : CallR X (.builtin "isinstance") (rIsE X.K D a) := by
  intro pins s σ H xs us Q I r h
  obtain ⟨c, cv, b, rfl, hcv, e, q⟩ := h
  obtain ⟨u1, u2, rfl, r1, r2⟩ := vals2 r
  cases (show u1 = Value.ref a from r1)
  cases hcv _ r2
  have hget := (I.pin (a, oe) (List.mem_append_left _ hp)).1
  obtain ⟨vs, hv⟩ := hf
  have J : PySem.W.InstAt s.heap a oe D none := by
    obtain ⟨oc, od, oda, osl⟩ := oe
    obtain ⟨h1, h2⟩ := hz
    dsimp only at h1 h2 hv
    subst h1 h2 hv
    exact ⟨hget, rfl, rfl, trivial⟩
  exact PySem.W.kia_one (PySem.W.handS_kitx_exc C.hg C.hk C.hs C.hd C.ha C.hn C.ht C.hm) I.kIn J e (fun z => nomatch z) fun tk => ⟨.bl b, H, I.kept (t' := tk) fun _ _ z => z, rfl, q⟩
end
end OA

namespace OA
open PySem L2 PyProof.Rows
/-! ### a def that is called with the handled error, which is pinned: p's address and object -/
def FnP (P : Program) (w : World) (K : PySem.W.Frag) (mg : Str → Option Value) (base : Heap) (k : Nat) (f : Addr) (fd : FuncData) (ps : List Str) (sp : Sp) (p : Addr × Obj) : Prop :=
  (∀ vs H Q E, sp vs H Q E → vs.length = ps.length) ∧
  ∀ (A : Around) (outer : List Env) (s : Shared) (H : Hp) (args : Args) (us : List Value) (vs : List V) (Q : VK) (E : XK), L2H.RoomH k A → L2H.PinOk outer H s p → Env0 P w K mg base A outer s H → BindsTo s fd args (ps.zip us) → Vals vs us → sp vs H Q E →
    codeAny (model P w) A (.call (.ref f) args) (CR CX0 outer P w H s Q E) s
def Okp (P : Program) (w : World) (K : PySem.W.Frag) (mg : Str → Option Value) (base : Heap) (k : Nat) (x : Str) (ps : List Str) (sp : Sp) (p : Addr × Obj) : Prop :=
  ∃ (f : Addr) (fd : FuncData), mg x = some (.ref f) ∧ PySem.W.keepIn K (.ref f) = true ∧ Binds K fd ps [] ∧ FnP P w K mg base k f fd ps sp p
section
variable {P : Program} {w : World} {K : PySem.W.Frag} {mg : Str → Option Value} {base : Heap}
theorem okp {x : Str} {st : Stmt} {N ps : List Str} {k : Nat} {sp : Sp} {p : Addr × Obj} (D : Df K mg x st) (S : FnScope N ps (defScope st))
    (hb : ∀ (kV doc pm : Value) (an : Option Addr) (cdv ct : Value) (us : List Value), us.length = ps.length → bindArgs (PySem.W.fnOf x x (defArgs st) (defBody st) (defScope st) .none kV doc pm an cdv ct) ⟨us, []⟩ = pure (ps.zip us))
    (len : ∀ vs H Q E, sp vs H Q E → vs.length = ps.length)
    (hbody : ∀ (f : Addr) (cdv : Value) (A : Around) (outer : List Env) (s : Shared) (H : Hp) (vs : List V) (Q : VK) (E : XK), L2H.RoomH k (A.deeper (envOfC x (defScope st) s.heap.objs.size f cdv)) → sp vs H Q E →
      ∃ t, PSs (L2H.cxH CX0 P w K mg base N x (defScope st) f cdv A outer s H E p) (defBody st) t ∧ t { nx := fun _ H' => Q .non H', rt := Q } (start N vs) H) :
    Okp P w K mg base (k + 1) x ps sp p := by
  obtain ⟨f, fd, F, g⟩ := D
  refine ⟨f, fd, g, F.kp, F.binds hb, ?_⟩
  obtain ⟨oc, od, kV, doc, pm, an, cdv, ct, osl, rfl, lk, hcd⟩ := F.ex
  refine ⟨len, fun A outer s H args us vs Q E hr hpin e0 hbt r hsp => ?_⟩
  have hl := len _ _ _ _ hsp
  have KX : K.In s.heap := e0.mod.kin.keeps fun b o e => (e0.bs b o e).1
  have lim : s.heap.NoLimit := e0.mod.nolimit.keeps fun b o e => (e0.bs b o e).1
  refine codeAny_call_function hr.depth (KX _ _ lk) rfl S.co S.gen rfl (PySem.W.codeRec_of KX hcd) (hbt _ _ _ _ ?_)
  refine wpAny_newFunctionEnv_cells S.kind (fun y hy => (S.par y.1 (List.of_mem_zip (a := y.1) (b := y.2) hy).1).imp id fun q => ⟨q, PySem.W.cellsFrom_some _ _ _ (.inl q)⟩) fun env he s1 x1 => ?_
  subst he
  refine ⟨lim.keeps x1.toInCall.keep, codeAny_func ?_⟩
  obtain ⟨t, ht, hq⟩ := hbody f cdv A outer s H vs Q E (hr.deeper _) hsp
  have I := L2H.inv_startH (CX := CX0) (P := P) (w := w) (E := E) (cd := cdv) (f := f) (qual := x) S hpin e0 hl r x1
  refine wpAny_mono (ht.run [] s1 _ H _ I hq) (fun fl s' hs => ?_) fun e s' hs => hs
  cases fl with
  | ret u =>
    obtain ⟨v, σ', H', J, rv, q⟩ := hs
    exact ⟨v, H', J.os, J.bare, J.base, J.hok, rv, q⟩
  | next =>
    obtain ⟨σ', H', J, q⟩ := hs
    exact ⟨V.non, H', J.os, J.bare, J.base, J.hok, rfl, q⟩
  | brk =>
    obtain ⟨_, _, _, q⟩ := hs
    exact False.elim q
  | cont =>
    obtain ⟨_, _, _, q⟩ := hs
    exact False.elim q
end
section
variable {X : Cx}
theorem pe_dop {k j : Nat} {x : Str} {ps : List Str} {sp : Sp} {p : Addr × Obj} {q pos : Pos} {e : Expr} {es : List Expr} {t : TA} (D : Okp X.prog X.w X.K X.mg X.base k x ps sp p) (hp : p ∈ X.pn) (hr : L2H.RoomH j X.A) (ha : PA X (e :: es) t) (hk : k ≤ j := by decide) (hg : Gl X x := by rfl)
    (hd : (x == ("__debug__" : Str)) = false := by decide) (he : starEach (e :: es) X.env = (false, eval e X.env) :: starEach es X.env := by rfl) (hpl : (backTo pos (starEach es X.env)).any (·.1) = false := by rfl) :
    PE X (.Call (.Name x q) (e :: es) [] pos) (tCallS sp (fun _ _ _ _ => False) t) := by
  obtain ⟨f, fd, g, kp, hb, len, F⟩ := D
  refine ⟨fun pins s σ H Q I h => ?_⟩
  refine wpAny_Call_Name_kw (ld_glob I hg g ?_ hd)
  refine PySem.W.callWith_K (h₀ := X.base) I.ok.mod.kin kp (thn (ha.run pos pins s σ H _ I h) fun us s1 ⟨vs, H1, I1, r, q1⟩ => ⟨I1.kIn, ?_⟩) he hpl
  have hl : us.length = ps.length := by rw [← r.length]; exact len _ _ _ _ q1
  have b := hb s1 us I1.kIn (by rw [List.append_nil]; exact hl)
  rw [List.append_nil] at b
  have P1 := I1.pin p (List.mem_append_left _ hp)
  have hpin : L2H.PinOk X.stack H1 s1 p := ⟨P1.1, P1.2.1, fun hm => (List.mem_cons.mp (I1.stkSub p.1 hm)).elim P1.2.2.1 P1.2.2.2.1, P1.2.2.2.2⟩
  refine wpAny_call (codeAny_mono (F X.A X.stack s1 H1 ⟨us, []⟩ us vs Q (fun _ _ _ => False) (hr.mono hk) hpin I1.env0 b r q1) fun r s' hq => ?_)
  cases r with
  | error e => exact False.elim hq
  | ok fl =>
    cases fl with
    | ret u => exact I1.after hq
    | next => exact False.elim hq
    | brk => exact False.elim hq
    | cont => exact False.elim hq
end
end OA

namespace OA
open PySem L2 PyProof.Rows
def topS (i : Nat) : Stmt := PySem.Challenge.pw_oneapart_k05_refused.main.body.getD i (.Pass ⟨0, 0, 0, 0⟩)
abbrev s__wall : Stmt := topS 1
abbrev s_is_whole : Stmt := topS 11
abbrev s_is_square : Stmt := topS 12
abbrev s_refuse_no_number : Stmt := topS 13
abbrev s_refuse_square : Stmt := topS 14
abbrev s_round_of : Stmt := topS 15
abbrev s_nearest_pair : Stmt := topS 16
abbrev s_is_one_less : Stmt := topS 17
abbrev s_least_one_less : Stmt := topS 18
abbrev s_least_answer : Stmt := topS 19
abbrev s_put_together : Stmt := topS 20
abbrev s_answer_by : Stmt := topS 23
abbrev s_count_of : Stmt := topS 24
abbrev s_together : Stmt := topS 25
abbrev s__doubled_steps : Stmt := topS 26
abbrev s__refuse_no_count : Stmt := topS 27
abbrev s__refuse_no_answer : Stmt := topS 28
abbrev s__is_answer : Stmt := topS 29
abbrev s__is_from_0 : Stmt := topS 30
abbrev s_Answer_shows : Stmt := inClass (topS 32) 0
abbrev s_Square_init : Stmt := inClass (topS 33) 0
abbrev s_Square_shows : Stmt := inClass (topS 33) 1
abbrev s_Least_init : Stmt := inClass (topS 34) 0
abbrev s_Least_shows : Stmt := inClass (topS 34) 1
abbrev s_Other_init : Stmt := inClass (topS 35) 0
abbrev s_Other_shows : Stmt := inClass (topS 35) 1
abbrev s_Barred_init : Stmt := inClass (topS 36) 0
abbrev s_Barred_shows : Stmt := inClass (topS 36) 1
abbrev s_told : Stmt := topS 38
abbrev s_less : Stmt := topS 39
abbrev s_chain : Stmt := topS 41
abbrev s__law_cell_at : Stmt := topS 43
abbrev s__law_draw : Stmt := topS 44
abbrev s__law_value : Stmt := topS 45
abbrev s__law_root : Stmt := topS 46
abbrev s__law_is_square : Stmt := topS 47
abbrev s__law_numbers : Stmt := topS 48
abbrev s__law_parts : Stmt := topS 49
abbrev s__law_put : Stmt := topS 50
abbrev s__law_first : Stmt := topS 51
abbrev s__law_least : Stmt := topS 52
abbrev s__law_kinds : Stmt := topS 53
abbrev s__law_with_number : Stmt := topS 54
abbrev s__law_with_square : Stmt := topS 55
abbrev s__law_with_count : Stmt := topS 56
abbrev s__law_with_answer : Stmt := topS 57
abbrev s__law_told : Stmt := topS 58
abbrev s__law_answers_right : Stmt := topS 59
abbrev s_law : Stmt := topS 60
end OA
namespace OA
open PySem L2 PyProof.Rows
/-- what the top has written -/
structure Tx (K : PySem.W.Frag) (mg : Str → Option Value) : Prop where
  isq : mg "isqrt" = some (.builtin "math.isqrt")
  b_isinstance : mg "isinstance" = none
  b_int : mg "int" = none
  b_bool : mg "bool" = none
  b_range : mg "range" = none
  b_len : mg "len" = none
  b_min : mg "min" = none
  b_all : mg "all" = none
  b_tuple : mg "tuple" = none
  b_reversed : mg "reversed" = none
  b_ValueError : mg "ValueError" = none
  c_LEAST_NUMBER : ∃ t, mg "LEAST_NUMBER" = some (.int 2 t)
  c_GREATEST_NUMBER : ∃ t, mg "GREATEST_NUMBER" = some (.int 1000000 t)
  c_GREATEST_COUNT : ∃ t, mg "GREATEST_COUNT" = some (.int 100 t)
  d__wall : Df K mg "_wall" s__wall
  d_is_whole : Df K mg "is_whole" s_is_whole
  d_is_square : Df K mg "is_square" s_is_square
  d_refuse_no_number : Df K mg "refuse_no_number" s_refuse_no_number
  d_refuse_square : Df K mg "refuse_square" s_refuse_square
  d_round_of : Df K mg "round_of" s_round_of
  d_nearest_pair : Df K mg "nearest_pair" s_nearest_pair
  d_is_one_less : Df K mg "is_one_less" s_is_one_less
  d_least_one_less : Df K mg "least_one_less" s_least_one_less
  d_least_answer : Df K mg "least_answer" s_least_answer
  d_put_together : Df K mg "put_together" s_put_together
  d_answer_by : Df K mg "answer_by" s_answer_by
  d_count_of : Df K mg "count_of" s_count_of
  d_together : Df K mg "together" s_together
  d__doubled_steps : Df K mg "_doubled_steps" s__doubled_steps
  d__refuse_no_count : Df K mg "_refuse_no_count" s__refuse_no_count
  d__refuse_no_answer : Df K mg "_refuse_no_answer" s__refuse_no_answer
  d__is_answer : Df K mg "_is_answer" s__is_answer
  d__is_from_0 : Df K mg "_is_from_0" s__is_from_0
  d_told : Df K mg "told" s_told
  d_less : Df K mg "less" s_less
  d_chain : Df K mg "chain" s_chain
  d__law_cell_at : Df K mg "_law_cell_at" s__law_cell_at
  d__law_draw : Df K mg "_law_draw" s__law_draw
  d__law_value : Df K mg "_law_value" s__law_value
  d__law_root : Df K mg "_law_root" s__law_root
  d__law_is_square : Df K mg "_law_is_square" s__law_is_square
  d__law_numbers : Df K mg "_law_numbers" s__law_numbers
  d__law_parts : Df K mg "_law_parts" s__law_parts
  d__law_put : Df K mg "_law_put" s__law_put
  d__law_first : Df K mg "_law_first" s__law_first
  d__law_least : Df K mg "_law_least" s__law_least
  d__law_kinds : Df K mg "_law_kinds" s__law_kinds
  d__law_with_number : Df K mg "_law_with_number" s__law_with_number
  d__law_with_square : Df K mg "_law_with_square" s__law_with_square
  d__law_with_count : Df K mg "_law_with_count" s__law_with_count
  d__law_with_answer : Df K mg "_law_with_answer" s__law_with_answer
  d__law_told : Df K mg "_law_told" s__law_told
  d__law_answers_right : Df K mg "_law_answers_right" s__law_answers_right
  d_law : Df K mg "law" s_law
structure Tc (K : PySem.W.Frag) (mg : Str → Option Value) (cA cS cL cO cB : Addr) : Prop where
  kA : Ck K mg "Answer" cA
  kS : Ck K mg "Square" cS
  nS_root : NoAttr K cS "root"
  mS_init : Dm K cS "__init__" "Square.__init__" s_Square_init
  mS_shows : Dm K cS "shows" "Square.shows" s_Square_shows
  iSA : PySem.W.kitOne K (.ref cS) (.ref cA) = some true
  iSS : PySem.W.kitOne K (.ref cS) (.ref cS) = some true
  iSL : PySem.W.kitOne K (.ref cS) (.ref cL) = some false
  iSO : PySem.W.kitOne K (.ref cS) (.ref cO) = some false
  iSB : PySem.W.kitOne K (.ref cS) (.ref cB) = some false
  kL : Ck K mg "Least" cL
  nL_one : NoAttr K cL "one"
  nL_other : NoAttr K cL "other"
  mL_init : Dm K cL "__init__" "Least.__init__" s_Least_init
  mL_shows : Dm K cL "shows" "Least.shows" s_Least_shows
  iLA : PySem.W.kitOne K (.ref cL) (.ref cA) = some true
  iLS : PySem.W.kitOne K (.ref cL) (.ref cS) = some false
  iLL : PySem.W.kitOne K (.ref cL) (.ref cL) = some true
  iLO : PySem.W.kitOne K (.ref cL) (.ref cO) = some false
  iLB : PySem.W.kitOne K (.ref cL) (.ref cB) = some false
  kO : Ck K mg "Other" cO
  nO_one : NoAttr K cO "one"
  nO_other : NoAttr K cO "other"
  mO_init : Dm K cO "__init__" "Other.__init__" s_Other_init
  mO_shows : Dm K cO "shows" "Other.shows" s_Other_shows
  iOA : PySem.W.kitOne K (.ref cO) (.ref cA) = some true
  iOS : PySem.W.kitOne K (.ref cO) (.ref cS) = some false
  iOL : PySem.W.kitOne K (.ref cO) (.ref cL) = some false
  iOO : PySem.W.kitOne K (.ref cO) (.ref cO) = some true
  iOB : PySem.W.kitOne K (.ref cO) (.ref cB) = some false
  kB : Ck K mg "Barred" cB
  nB_one : NoAttr K cB "one"
  nB_other : NoAttr K cB "other"
  mB_init : Dm K cB "__init__" "Barred.__init__" s_Barred_init
  mB_shows : Dm K cB "shows" "Barred.shows" s_Barred_shows
  iBA : PySem.W.kitOne K (.ref cB) (.ref cA) = some true
  iBS : PySem.W.kitOne K (.ref cB) (.ref cS) = some false
  iBL : PySem.W.kitOne K (.ref cB) (.ref cL) = some false
  iBO : PySem.W.kitOne K (.ref cB) (.ref cO) = some false
  iBB : PySem.W.kitOne K (.ref cB) (.ref cB) = some true
structure Te (K : PySem.W.Frag) (mg : Str → Option Value) (eP eN eI eW eC : Addr) : Prop where
  gP : mg "ApartError" = some (.ref eP)
  gN : mg "BadNumber" = some (.ref eN)
  gI : mg "IsSquare" = some (.ref eI)
  gW : mg "BadAnswer" = some (.ref eW)
  gC : mg "BadCount" = some (.ref eC)
  xN : PySem.W.excIn K eN [.type "ValueError", .type "Exception", .type "BaseException", .type "object"] "ValueError.__new__" = true
  pN : PySem.W.keepIn K (.ref eN) = true
  bN : PySem.W.subIn K (.ref eN) (.type "BaseException") = some true
  tN : PySem.W.typeIn K (.ref eN) = some (.type "type")
  aN : PySem.W.exmOne K (.ref eN) (.ref eP) = some true
  cN : ExcC K eN
  jNN : PySem.W.kitOne K (.ref eN) (.ref eN) = some true
  jNI : PySem.W.kitOne K (.ref eN) (.ref eI) = some false
  jNW : PySem.W.kitOne K (.ref eN) (.ref eW) = some false
  jNC : PySem.W.kitOne K (.ref eN) (.ref eC) = some false
  vN : PySem.W.kitOne K (.ref eN) (.type "ValueError") = some true
  xI : PySem.W.excIn K eI [.type "ValueError", .type "Exception", .type "BaseException", .type "object"] "ValueError.__new__" = true
  pI : PySem.W.keepIn K (.ref eI) = true
  bI : PySem.W.subIn K (.ref eI) (.type "BaseException") = some true
  tI : PySem.W.typeIn K (.ref eI) = some (.type "type")
  aI : PySem.W.exmOne K (.ref eI) (.ref eP) = some true
  cI : ExcC K eI
  jIN : PySem.W.kitOne K (.ref eI) (.ref eN) = some false
  jII : PySem.W.kitOne K (.ref eI) (.ref eI) = some true
  jIW : PySem.W.kitOne K (.ref eI) (.ref eW) = some false
  jIC : PySem.W.kitOne K (.ref eI) (.ref eC) = some false
  vI : PySem.W.kitOne K (.ref eI) (.type "ValueError") = some true
  xW : PySem.W.excIn K eW [.type "ValueError", .type "Exception", .type "BaseException", .type "object"] "ValueError.__new__" = true
  pW : PySem.W.keepIn K (.ref eW) = true
  bW : PySem.W.subIn K (.ref eW) (.type "BaseException") = some true
  tW : PySem.W.typeIn K (.ref eW) = some (.type "type")
  aW : PySem.W.exmOne K (.ref eW) (.ref eP) = some true
  cW : ExcC K eW
  jWN : PySem.W.kitOne K (.ref eW) (.ref eN) = some false
  jWI : PySem.W.kitOne K (.ref eW) (.ref eI) = some false
  jWW : PySem.W.kitOne K (.ref eW) (.ref eW) = some true
  jWC : PySem.W.kitOne K (.ref eW) (.ref eC) = some false
  vW : PySem.W.kitOne K (.ref eW) (.type "ValueError") = some true
  xC : PySem.W.excIn K eC [.type "ValueError", .type "Exception", .type "BaseException", .type "object"] "ValueError.__new__" = true
  pC : PySem.W.keepIn K (.ref eC) = true
  bC : PySem.W.subIn K (.ref eC) (.type "BaseException") = some true
  tC : PySem.W.typeIn K (.ref eC) = some (.type "type")
  aC : PySem.W.exmOne K (.ref eC) (.ref eP) = some true
  cC : ExcC K eC
  jCN : PySem.W.kitOne K (.ref eC) (.ref eN) = some false
  jCI : PySem.W.kitOne K (.ref eC) (.ref eI) = some false
  jCW : PySem.W.kitOne K (.ref eC) (.ref eW) = some false
  jCC : PySem.W.kitOne K (.ref eC) (.ref eC) = some true
  vC : PySem.W.kitOne K (.ref eC) (.type "ValueError") = some true
end OA

namespace OA
open PySem L2 PyProof.Rows
section
variable {P : Program} {w : World} {K : PySem.W.Frag} {mg : Str → Option Value} {base : Heap}
/-! ### is_whole -/
def spWhole (K : PySem.W.Frag) : Sp := fun vs H Q _ => ∃ (x : V) (t : Value) (b1 b2 : Bool), vs = [x] ∧ TyX K H x t ∧ PySem.W.kitOne K t (.type "int") = some b1 ∧ (b1 = true → PySem.W.kitOne K t (.type "bool") = some b2) ∧ Q (.bl (b1 && !b2)) H
theorem kInt : PySem.W.kitOne K (.type "int") (.type "int") = some true := kit_ty (by decide +kernel)
theorem kIntB : PySem.W.kitOne K (.type "int") (.type "bool") = some false := kit_ty (by decide +kernel)
theorem ok_whole (T : Tx K mg) : Okd P w K mg base 1 "is_whole" ["value"] (spWhole K) := by
  have S : FnScope ["value"] ["value"] (defScope s_is_whole) := ⟨rfl, rfl, rfl, by decide +kernel, rfl, by decide +kernel, by decide +kernel⟩
  refine okd T.d_is_whole S (fun _ _ _ _ _ _ us hl => match us, hl with | [_], _ => rfl) (fun vs H Q E h => ?_) (fun f cdv A outer s H vs Q E hr h => ?_)
  · obtain ⟨x, t, b1, b2, rfl, _⟩ := h
    rfl
  · obtain ⟨x, t, b1, b2, rfl, ty, h1, h2, k⟩ := h
    refine ⟨_, pss_one (ps_ret (pe_and (pe_callB call_isi (by rfl) T.b_isinstance bt_isi (pa_cons (pv 0) (pa_cons (pe_bltn (v := .ty "int") (by rfl) T.b_int bt_int rfl) pa_nil)))
      (pe_one (pe_not (pe_callB call_isi (by rfl) T.b_isinstance bt_isi (pa_cons (pv 0) (pa_cons (pe_bltn (v := .ty "bool") (by rfl) T.b_bool bt_bool rfl) pa_nil))))))), ?_⟩
    refine ⟨x, rfl, x, _, t, _, b1, rfl, .ty "int", ty, h1, b1, rfl, ?_⟩
    cases b1 with
    | false => exact iteF k
    | true => exact iteT ⟨x, rfl, x, _, t, _, b2, rfl, .ty "bool", ty, h2 rfl, b2, rfl, k⟩
/-! ### is_square, has_chain -/
def spSq : Sp := fun vs H Q _ => ∃ N : Int, vs = [.int N] ∧ 0 ≤ N ∧ N < 2 ^ 60 ∧ Q (.bl (decide (IsSq N))) H
theorem ok_sq (T : Tx K mg) : Okd P w K mg base 1 "is_square" ["number"] spSq := by
  have S : FnScope ["number", "root"] ["number"] (defScope s_is_square) := ⟨rfl, rfl, rfl, by decide +kernel, rfl, by decide +kernel, by decide +kernel⟩
  refine okd T.d_is_square S (fun _ _ _ _ _ _ us hl => match us, hl with | [_], _ => rfl) (fun vs H Q E h => ?_) (fun f cdv A outer s H vs Q E hr h => ?_)
  · obtain ⟨N, rfl, _⟩ := h
    rfl
  · obtain ⟨N, rfl, h0, h1, k⟩ := h
    refine ⟨_, pss_cons (ps_set (i := 1) S.nd rfl (.inl rfl) (pe_callBfun cr_isq (by rfl) T.isq (pa_cons (pv 0) pa_nil)))
      (pss_one (ps_ret (pe_cmpR op_eq (pe_op op_mul (pv 1) (pv 1)) (pv 0) (nomark _)))), ?_⟩
    have hl := rt_lt h0 h1
    have h00 := (rt_spec h0).1
    refine ⟨_, rfl, N, rfl, h0, by omega, ?_⟩
    refine ⟨_, rfl, _, rfl, _, _, rfl, rfl, .inl ⟨by omega, by omega⟩, _, rfl, rfl, ?_⟩
    have e : decide (V.int (rt N * rt N) = V.int N) = decide (IsSq N) := by
      by_cases c : IsSq N
      · rw [decide_eq_true c]
        exact decide_eq_true (congrArg V.int c)
      · rw [decide_eq_false c]
        exact decide_eq_false fun z => c (V.int.inj z)
    show Q (.bl (decide (V.int (rt N * rt N) = V.int N))) H
    rw [e]
    exact k
/-! ### what is refused: never, where the number is one -/
def spRefN : Sp := fun vs H Q _ => ∃ N : Int, vs = [.int N] ∧ 2 ≤ N ∧ N ≤ 1000000 ∧ Back H Q .non
theorem ok_refN (T : Tx K mg) : Okd P w K mg base 2 "refuse_no_number" ["number"] spRefN := by
  have S : FnScope ["number"] ["number"] (defScope s_refuse_no_number) := ⟨rfl, rfl, rfl, by decide +kernel, rfl, by decide +kernel, by decide +kernel⟩
  refine okd T.d_refuse_no_number S (fun _ _ _ _ _ _ us hl => match us, hl with | [_], _ => rfl) (fun vs H Q E h => ?_) (fun f cdv A outer s H vs Q E hr h => ?_)
  · obtain ⟨N, rfl, _⟩ := h
    rfl
  · obtain ⟨N, rfl, h0, h1, k⟩ := h
    obtain ⟨t1, g1⟩ := T.c_LEAST_NUMBER
    obtain ⟨t2, g2⟩ := T.c_GREATEST_NUMBER
    refine ⟨_, pss_one (ps_if (PW.pt (pw_or (pt_not (pt_val (pe_do (ok_whole T) hr (pa_cons (pv 0) pa_nil))))
      (pw_or1 (pt_cmpR op_notin_rng (pv 0) (pe_callTy cr_range2 (by rfl) T.b_range bt_range (pa_cons (pe_glob (v := .int 2) (by rfl) g1 ⟨_, rfl⟩) (pa_cons (pe_op op_add (pe_glob (v := .int 1000000) (by rfl) g2 ⟨_, rfl⟩) pe_int) pa_nil))) (by rfl)))))
      (pss_one ps_never) pss_nil), ?_⟩
    refine ⟨_, rfl, .int N, _, true, false, rfl, .base (.int N), kInt, fun _ => kIntB, true, rfl, ?_⟩
    refine iteF ⟨_, rfl, _, _, rfl, rfl, _, _, rfl, fun p hp => ⟨N, p, 2, 1000001, rfl, rfl, upd_same, _, rfl, ?_⟩⟩
    rw [decide_eq_true (show 2 ≤ N ∧ N < 1000001 from ⟨h0, by omega⟩)]
    exact iteF (k _ (same_upd hp))
def spRefS : Sp := fun vs H Q _ => ∃ N : Int, vs = [.int N] ∧ 0 ≤ N ∧ N < 2 ^ 60 ∧ ¬ IsSq N ∧ Q .non H
theorem ok_refS (T : Tx K mg) : Okd P w K mg base 2 "refuse_square" ["number"] spRefS := by
  have S : FnScope ["number"] ["number"] (defScope s_refuse_square) := ⟨rfl, rfl, rfl, by decide +kernel, rfl, by decide +kernel, by decide +kernel⟩
  refine okd T.d_refuse_square S (fun _ _ _ _ _ _ us hl => match us, hl with | [_], _ => rfl) (fun vs H Q E h => ?_) (fun f cdv A outer s H vs Q E hr h => ?_)
  · obtain ⟨N, rfl, _⟩ := h
    rfl
  · obtain ⟨N, rfl, h0, h1, h2, k⟩ := h
    refine ⟨_, pss_one (ps_if (pt_val (pe_do (ok_sq T) hr (pa_cons (pv 0) pa_nil))) (pss_one ps_never) pss_nil), ?_⟩
    refine ⟨_, rfl, N, rfl, h0, h1, _, rfl, ?_⟩
    rw [decide_eq_false h2]
    exact iteF k
/-! ### the round -/
/-- what round_of holds behind k turns -/
def pst (N : Int) : Nat → Int × Int × Int
  | 0 => (0, 1, rt N)
  | k + 1 => ((st N (rt N) k).1, (st N (rt N) k).2, pt (rt N) (st N (rt N) k))
theorem pst_step {N : Int} (h : Ok N) (k : Nat) : (pst N k).2.2 * (pst N k).2.1 - (pst N k).1 = (st N (rt N) k).1 ∧ (N - (st N (rt N) k).1 * (st N (rt N) k).1) / (pst N k).2.1 = (st N (rt N) k).2 := by
  cases k with
  | zero =>
    show rt N * 1 - 0 = rt N ∧ (N - rt N * rt N) / 1 = N - rt N * rt N
    exact ⟨by omega, Int.ediv_one _⟩
  | succ k => exact ⟨rfl, rfl⟩
structure PBd (s : Int × Int × Int) : Prop where
  m0 : 0 ≤ s.1
  m1 : s.1 ≤ 1000
  d0 : 0 < s.2.1
  d1 : s.2.1 ≤ 2000
  a0 : 1 ≤ s.2.2
  a1 : s.2.2 ≤ 2000
theorem pst_bd {N : Int} (h : Ok N) (k : Nat) : PBd (pst N k) := by
  cases k with
  | zero =>
    have r1 : rt N ≤ 1000 := h.r1000
    have r0 := h.r1
    exact ⟨Int.le_refl 0, (by decide : (0 : Int) ≤ 1000), (by decide : (0 : Int) < 1), (by decide : (1 : Int) ≤ 2000), r0, (by show rt N ≤ 2000; omega)⟩
  | succ k =>
    obtain ⟨a, b, c, d, e, f⟩ := h.bd k
    exact ⟨Int.le_of_lt a, b, c, d, e, f⟩
theorem pst_go {N : Int} (h : Ok N) {k : Nat} : (pst N k).2.2 = 2 * rt N ↔ k = stp N + 1 ∨ (∃ j, k = j + 1 ∧ stp N < j ∧ pt (rt N) (st N (rt N) j) = 2 * rt N) := by
  have E := h.ends
  cases k with
  | zero =>
    show rt N = 2 * rt N ↔ _
    have r0 := h.r1
    constructor
    · intro e; omega
    · rintro (e | ⟨j, e, _⟩) <;> omega
  | succ k =>
    show pt (rt N) (st N (rt N) k) = 2 * rt N ↔ _
    constructor
    · intro e
      rcases Nat.lt_trichotomy k (stp N) with c | c | c
      · exact absurd e (E.not h.nsq c)
      · exact .inl (by omega)
      · exact .inr ⟨k, rfl, c, e⟩
    · rintro (e | ⟨j, e, _, q⟩)
      · have : k = stp N := by omega
        rw [this]
        exact E.last h.nsq
      · have : k = j := by omega
        rw [this]; exact q
def vi (l : List Int) : List V := l.map V.int
def spRound : Sp := fun vs H Q _ => ∃ N : Int, vs = [.int N] ∧ Ok N ∧ New H Q (.lst (vi (parts N)))
theorem ok_round (T : Tx K mg) : Okd P w K mg base 1 "round_of" ["number"] spRound := by
  have S : FnScope ["number", "first", "parts", "added", "below", "part"] ["number"] (defScope s_round_of) := ⟨rfl, rfl, rfl, by decide +kernel, rfl, by decide +kernel, by decide +kernel⟩
  refine okd T.d_round_of S (fun _ _ _ _ _ _ us hl => match us, hl with | [_], _ => rfl) (fun vs H Q E h => ?_) (fun f cdv A outer s H vs Q E hr h => ?_)
  · obtain ⟨N, rfl, _⟩ := h
    rfl
  · obtain ⟨N, rfl, ok, k⟩ := h
    refine ⟨_, pss_cons (ps_set (i := 1) S.nd rfl (.inl rfl) (pe_callBfun cr_isq (by rfl) T.isq (pa_cons (pv 0) pa_nil)))
      (pss_cons (ps_set (i := 2) S.nd rfl (.inl rfl) (pe_lst pa_nil))
      (pss_cons (ps_par3 (i := 3) (j := 4) (l := 5) rfl S.nd rfl rfl rfl (by decide) (by decide) (by decide) rfl rfl rfl (pa_cons pe_int (pa_cons pe_int (pa_cons (pv 1) pa_nil))) (by rfl))
      (pss_cons (ps_while PassesOwn.never (pt_cmpR op_ne (pv 5) (pe_op op_mul pe_int (pv 1)) (nomark _))
        (pss_cons (ps_set (i := 3) S.nd rfl (.inl rfl) (pe_op op_sub (pe_op op_mul (pv 5) (pv 4)) (pv 3)))
        (pss_cons (ps_set (i := 4) S.nd rfl (.inl rfl) (pe_op op_fdiv (pe_op op_sub (pv 0) (pe_op op_mul (pv 3) (pv 3))) (pv 4)))
        (pss_cons (ps_set (i := 5) S.nd rfl (.inl rfl) (pe_op op_fdiv (pe_op op_add (pv 1) (pv 3)) (pv 4)))
        (pss_one (ps_expr (pe_bm PySem.F.plainAttrs_list PySem.F.slot_list_append PySem.F.type_list_append mt_append (pv 2) (pa_cons (pv 5) pa_nil))))))))
      (pss_one (ps_ret (pv 2)))))), ?_⟩
    have lo := ok.lo
    have hi := ok.hi
    refine ⟨_, rfl, N, rfl, by omega, by omega, ?_⟩
    refine ⟨Nat.zero_le _, fun p hp => ?_⟩
    refine ⟨_, rfl, _, _, _, rfl, ?_⟩
    refine while_by (fun σ H' => ∃ i, i ≤ stp N + 1 ∧ σ = [some (.int N), some (.int (rt N)), some (.ref p), some (.int (pst N i).1), some (.int (pst N i).2.1), some (.int (pst N i).2.2)] ∧ Same H H' ∧ H' p = some (.lst (vi (pre N (rt N) i))))
      (fun _ H' => match H' p with | some (.lst xs) => stp N + 1 - xs.length | _ => 0) ⟨0, Nat.zero_le _, rfl, same_upd hp, upd_same⟩ ?_ ?_
    · rintro σ H' ⟨i, hi, rfl, s1, hH⟩
      obtain ⟨m0, m1, d0, d1, a0, a1⟩ := pst_bd ok i
      have r0 := ok.r1
      have r1 : rt N ≤ 1000 := ok.r1000
      refine ⟨_, rfl, _, rfl, _, _, rfl, rfl, .inl (by decide), rfl, _, rfl, ?_⟩
      by_cases c : i = stp N + 1
      · have e : (pst N i).2.2 = 2 * rt N := (pst_go ok).mpr (.inl c)
        have e2 : (!decide (V.int (pst N i).2.2 = V.int (2 * rt N))) = false := by rw [e, decide_eq_true rfl]; rfl
        show if (!decide (V.int (pst N i).2.2 = V.int (2 * rt N))) = true then _ else _
        rw [e2]
        refine iteF ⟨_, rfl, k H' p s1 hp ?_⟩
        rw [hH, c]
        rfl
      · have e : (pst N i).2.2 ≠ 2 * rt N := fun e => by
          rcases (pst_go ok).mp e with q | ⟨j, q, q2, _⟩ <;> omega
        have e2 : (!decide (V.int (pst N i).2.2 = V.int (2 * rt N))) = true := by rw [decide_eq_false fun z => e (V.int.inj z)]; rfl
        show if (!decide (V.int (pst N i).2.2 = V.int (2 * rt N))) = true then _ else _
        rw [e2]
        obtain ⟨q1, q2⟩ := pst_step ok i
        obtain ⟨b1, b2, b3, b4, b5, b6⟩ := ok.bd i
        refine iteT ⟨_, rfl, _, rfl, _, _, rfl, rfl, .inl ⟨by omega, by omega⟩, _, rfl, _, _, rfl, rfl, ?_⟩
        refine ⟨_, rfl, _, rfl, _, rfl, _, _, rfl, rfl, .inl ⟨by omega, by omega⟩, _, _, rfl, rfl, _, rfl, _, _, rfl, rfl, ⟨by omega, by omega⟩, ?_⟩
        refine ⟨_, rfl, _, rfl, _, _, rfl, rfl, _, rfl, _, _, rfl, rfl, ⟨by rw [q1, q2]; omega, by rw [q1, q2]; omega⟩, ?_⟩
        have hlen : (vi (pre N (rt N) i)).length = i := by unfold vi; rw [List.length_map, pre_len]
        have hs := ok.stp_le
        refine ⟨_, rfl, .inl ⟨rfl, _, SqL.of hH⟩, _, rfl, p, _, _, rfl, rfl, hH, by rw [hlen, line_eq]; omega, ?_⟩
        have ep : vi (pre N (rt N) i) ++ [V.int ((rt N + ((pst N i).2.2 * (pst N i).2.1 - (pst N i).1)) / ((N - ((pst N i).2.2 * (pst N i).2.1 - (pst N i).1) * ((pst N i).2.2 * (pst N i).2.1 - (pst N i).1)) / (pst N i).2.1))] = vi (pre N (rt N) (i + 1)) := by
          rw [q1, q2]
          unfold vi
          rw [pre_succ, List.map_append]
          rfl
        refine ⟨⟨i + 1, by omega, ?_, sm0 s1 hp, ?_⟩, ?_⟩
        · show [_, _, _, some (V.int ((pst N i).2.2 * (pst N i).2.1 - (pst N i).1)), some (V.int ((N - ((pst N i).2.2 * (pst N i).2.1 - (pst N i).1) * ((pst N i).2.2 * (pst N i).2.1 - (pst N i).1)) / (pst N i).2.1)), some (V.int ((rt N + ((pst N i).2.2 * (pst N i).2.1 - (pst N i).1)) / ((N - ((pst N i).2.2 * (pst N i).2.1 - (pst N i).1) * ((pst N i).2.2 * (pst N i).2.1 - (pst N i).1)) / (pst N i).2.1)))] = _
          rw [q1, q2]
          rfl
        · rw [upd_same, ep]
        · show (match (L2.upd H' p _) p with | some (.lst xs) => stp N + 1 - xs.length | _ => 0) < (match H' p with | some (.lst xs) => stp N + 1 - xs.length | _ => 0)
          rw [upd_same, hH]
          show stp N + 1 - (vi (pre N (rt N) i) ++ [_]).length < stp N + 1 - (vi (pre N (rt N) i)).length
          rw [List.length_append, hlen, List.length_singleton]
          omega
    · intro σ H' Q1 Q2 hq h
      obtain ⟨x, hx, y, hy, i, j, e1, e2, c, q1, b, q2, q3⟩ := h
      exact ⟨x, hx, y, hy, i, j, e1, e2, c, q1, b, q2, hq _ _ q3⟩
end
end OA

namespace OA
open PySem L2 PyProof.Rows
theorem cut_last (xs : List V) : cutV xs none (some (-1)) = xs.dropLast := by
  unfold cutV
  rw [HT.sIx_none]
  have e : HT.sIx xs.length xs.length (some (-1)) = xs.length - 1 := by
    show (if (-1 : Int) < 0 then ((-1 : Int) + (xs.length : Int)).toNat else min (-1 : Int).toNat xs.length) = _
    rw [if_pos (by decide)]
    omega
  rw [e, List.drop_zero, Nat.sub_zero, List.dropLast_eq_take]
theorem parts_cut (N : Int) : cutV (vi (parts N)) none (some (-1)) = vi (pre N (rt N) (stp N)) := by
  rw [cut_last]
  unfold vi parts
  rw [pre_succ, List.map_append]
  exact List.dropLast_concat
section
variable {P : Program} {w : World} {K : PySem.W.Frag} {mg : Str → Option Value} {base : Heap}
/-- a tuple of two whole numbers -/
def pr (p : Int × Int) : HO := .tup [.int p.1, .int p.2]
def spNear : Sp := fun vs H Q _ => ∃ N : Int, vs = [.int N] ∧ Ok N ∧ New H Q (pr (near N))
theorem ok_near (T : Tx K mg) : Okd P w K mg base 2 "nearest_pair" ["number"] spNear := by
  have S : FnScope ["number", "one_before", "other_before", "one", "other", "part"] ["number"] (defScope s_nearest_pair) := ⟨rfl, rfl, rfl, by decide +kernel, rfl, by decide +kernel, by decide +kernel⟩
  refine okd T.d_nearest_pair S (fun _ _ _ _ _ _ us hl => match us, hl with | [_], _ => rfl) (fun vs H Q E h => ?_) (fun f cdv A outer s H vs Q E hr h => ?_)
  · obtain ⟨N, rfl, _⟩ := h
    rfl
  · obtain ⟨N, rfl, ok, k⟩ := h
    refine ⟨_, pss_cons (ps_asg (pe_tup (pa_cons pe_int (pa_cons pe_int pa_nil))) (pg_tup (by rfl) (pgs_cons (pg_name (i := 1) S.nd rfl (.inl rfl)) (pgs_cons (pg_name (i := 2) S.nd rfl (.inl rfl)) pgs_nil))))
      (pss_cons (ps_par (i := 3) (j := 4) rfl S.nd rfl rfl (by decide) rfl rfl (pa_cons (pe_callBfun cr_isq (by rfl) T.isq (pa_cons (pv 0) pa_nil)) (pa_cons pe_int pa_nil)) (by rfl))
      (pss_cons (ps_for PassesOwn.never rfl (pi_list (pe_slice sl_list (pe_do (ok_round T) hr (pa_cons (pv 0) pa_nil)) po_none (po_some (pe_un un_neg pe_int)))) (pg_name (i := 5) S.nd rfl (.inl rfl))
        (pss_cons (ps_par (i := 1) (j := 3) rfl S.nd rfl rfl (by decide) rfl rfl (pa_cons (pv 3) (pa_cons (pe_op op_add (pe_op op_mul (pv 5) (pv 3)) (pv 1)) pa_nil)) (by rfl))
        (pss_one (ps_par (i := 2) (j := 4) rfl S.nd rfl rfl (by decide) rfl rfl (pa_cons (pv 4) (pa_cons (pe_op op_add (pe_op op_mul (pv 5) (pv 4)) (pv 2)) pa_nil)) (by rfl)))))
      (pss_one (ps_ret (pe_tup (pa_cons (pv 3) (pa_cons (pv 4) pa_nil))))))), ?_⟩
    have lo := ok.lo
    have hi := ok.hi
    refine ⟨(by show 2 ≤ sizeLine; decide), fun t0 ht0 => ⟨t0, _, rfl, SqT.of upd_same, rfl, _, _, rfl, _, _, rfl, rfl, ?_⟩⟩
    refine ⟨_, rfl, N, rfl, by omega, by omega, _, _, rfl, ?_⟩
    refine ⟨_, rfl, N, rfl, ok, fun H1 p s1' hp' h1 => ?_⟩
    have s1 : Same H H1 := (same_upd ht0).trans s1'
    have hp : H p = none := (same_upd ht0).free hp'
    refine ⟨1, rfl, _, rfl, p, _, rfl, SqL.of h1, fun q hq => ?_⟩
    rw [parts_cut]
    have sq : Same H1 (upd H1 q (.lst (vi (pre N (rt N) (stp N))))) := same_upd hq
    refine ⟨q, rfl, ⟨_, SqL.of upd_same⟩, for_list (K := K) (a := q) (xs := vi (pre N (rt N) (stp N))) (fun i σ H' => ∃ v, σ = [some (.int N), some (.int (cv N (rt N) i).1.1), some (.int (cv N (rt N) i).1.2), some (.int (cv N (rt N) i).2.1), some (.int (cv N (rt N) i).2.2), v] ∧ Same (upd H1 q (.lst (vi (pre N (rt N) (stp N))))) H')
      ⟨none, rfl, Same.refl _⟩ (fun i σ H' _ h => ?_) ?_ ?_⟩
    · obtain ⟨_, _, s2⟩ := h
      exact SqL.of (s2 _ _ upd_same)
    · rintro i x σ H' hx ⟨v, rfl, s2⟩
      have hi : i < stp N := by
        have := (List.getElem?_eq_some_iff.mp hx).1
        unfold vi at this
        rw [List.length_map, pre_len] at this
        exact this
      obtain rfl : x = V.int (pt (rt N) (st N (rt N) i)) := by
        unfold vi at hx
        rw [List.getElem?_map, pre_get hi] at hx
        exact (Option.some.inj hx).symm
      obtain ⟨b1, b2, b3, b4, b5, b6⟩ := ok.bd i
      refine ⟨_, rfl, _, rfl, _, rfl, _, _, rfl, rfl, .inl ⟨by omega, by omega⟩, _, rfl, _, _, rfl, rfl, _, _, rfl, ?_⟩
      refine ⟨_, rfl, _, rfl, _, rfl, _, _, rfl, rfl, .inl ⟨by omega, by omega⟩, _, rfl, _, _, rfl, rfl, _, _, rfl, ?_⟩
      refine ⟨some (.int (pt (rt N) (st N (rt N) i))), ?_, s2⟩
      rw [cv_succ]
      rfl
    · rintro σ H' ⟨v, rfl, s2⟩
      have el : (vi (pre N (rt N) (stp N))).length = stp N := by unfold vi; rw [List.length_map, pre_len]
      rw [el]
      refine ⟨_, rfl, _, rfl, (by show 2 ≤ sizeLine; decide), fun t ht => ?_⟩
      have st2 := (s1.trans sq).trans s2
      exact k _ t (sm st2 ht) (st2.free ht) upd_same
/-! ### one less -/
def spOneLess (K : PySem.W.Frag) : Sp := fun vs H Q _ => ∃ (N p q : Int) (t : Addr), vs = [.int N, .ref t] ∧ SqT K H t [.int p, .int q] ∧ Sz N 64 ∧ Sz p 60000000 ∧ Sz q 60000000 ∧ Q (.bl (decide (p * p + 1 = N * q * q))) H
theorem ok_oneless (T : Tx K mg) : Okd P w K mg base 1 "is_one_less" ["number", "pair"] (spOneLess K) := by
  have S : FnScope ["number", "pair", "one", "other"] ["number", "pair"] (defScope s_is_one_less) := ⟨rfl, rfl, rfl, by decide +kernel, rfl, by decide +kernel, by decide +kernel⟩
  refine okd T.d_is_one_less S (fun _ _ _ _ _ _ us hl => match us, hl with | [_, _], _ => rfl) (fun vs H Q E h => ?_) (fun f cdv A outer s H vs Q E hr h => ?_)
  · obtain ⟨N, p, q, t, rfl, _⟩ := h
    rfl
  · obtain ⟨N, p, q, t, rfl, hT, zN, zp, zq, k⟩ := h
    refine ⟨_, pss_cons (ps_asg (pv 1) (pg_tup (by rfl) (pgs_cons (pg_name (i := 2) S.nd rfl (.inl rfl)) (pgs_cons (pg_name (i := 3) S.nd rfl (.inl rfl)) pgs_nil))))
      (pss_one (ps_ret (pe_cmpR op_eq (pe_op op_add (pe_op op_mulI (pv 2) (pv 2)) pe_int) (pe_op op_mulI (pe_op op_mulI (pv 0) (pv 3)) (pv 3)) (nomark _)))), ?_⟩
    refine ⟨_, rfl, t, _, rfl, hT, rfl, _, _, rfl, _, _, rfl, rfl, ?_⟩
    refine ⟨_, rfl, _, rfl, _, _, rfl, rfl, zp.ok zp (by decide), _, _, rfl, rfl, ?_⟩
    refine ⟨_, rfl, _, rfl, _, _, rfl, rfl, zN.ok zq (by decide), _, rfl, _, _, rfl, rfl, (zN.mul zq).ok zq (by decide), rfl, ?_⟩
    have e : decide (V.int (p * p + 1) = V.int (N * q * q)) = decide (p * p + 1 = N * q * q) := decide_eq_decide.mpr ⟨V.int.inj, congrArg V.int⟩
    show Q (.bl (decide (V.int (p * p + 1) = V.int (N * q * q)))) H
    rw [e]
    exact k
/-! ### put together -/
def spPut (K : PySem.W.Frag) : Sp := fun vs H Q _ => ∃ (N : Int) (x y : Int × Int) (s t : Addr) (i j : Nat), vs = [.int N, .ref s, .ref t] ∧ SqT K H s [.int x.1, .int x.2] ∧ SqT K H t [.int y.1, .int y.2] ∧ Sz N 64 ∧ Sz x.1 i ∧ Sz x.2 i ∧ Sz y.1 j ∧ Sz y.2 j ∧ i + j ≤ 130000000 ∧ New H Q (pr (put N x y))
theorem ok_put (T : Tx K mg) : Okd P w K mg base 1 "put_together" ["number", "left", "right"] (spPut K) := by
  have S : FnScope ["number", "left", "right", "one", "other", "by_one", "by_other"] ["number", "left", "right"] (defScope s_put_together) := ⟨rfl, rfl, rfl, by decide +kernel, rfl, by decide +kernel, by decide +kernel⟩
  refine okd T.d_put_together S (fun _ _ _ _ _ _ us hl => match us, hl with | [_, _, _], _ => rfl) (fun vs H Q E h => ?_) (fun f cdv A outer s H vs Q E hr h => ?_)
  · obtain ⟨N, x, y, s, t, i, j, rfl, _⟩ := h
    rfl
  · obtain ⟨N, x, y, a, b, i, j, rfl, hA, hB, zN, z1, z2, z3, z4, hij, k⟩ := h
    refine ⟨_, pss_cons (ps_asg (pv 1) (pg_tup (by rfl) (pgs_cons (pg_name (i := 3) S.nd rfl (.inl rfl)) (pgs_cons (pg_name (i := 4) S.nd rfl (.inl rfl)) pgs_nil))))
      (pss_cons (ps_asg (pv 2) (pg_tup (by rfl) (pgs_cons (pg_name (i := 5) S.nd rfl (.inl rfl)) (pgs_cons (pg_name (i := 6) S.nd rfl (.inl rfl)) pgs_nil))))
      (pss_one (ps_ret (pe_tup (pa_cons (pe_op op_add (pe_op op_mulI (pv 3) (pv 5)) (pe_op op_mulI (pe_op op_mulI (pv 0) (pv 4)) (pv 6)))
        (pa_cons (pe_op op_add (pe_op op_mulI (pv 3) (pv 6)) (pe_op op_mulI (pv 4) (pv 5))) pa_nil)))))), ?_⟩
    refine ⟨_, rfl, a, _, rfl, hA, rfl, _, _, rfl, _, _, rfl, rfl, ?_⟩
    refine ⟨_, rfl, b, _, rfl, hB, rfl, _, _, rfl, _, _, rfl, rfl, ?_⟩
    refine ⟨_, rfl, _, rfl, _, _, rfl, rfl, z1.ok z3 (by omega), ?_⟩
    refine ⟨_, rfl, _, rfl, _, _, rfl, rfl, zN.ok z2 (by omega), _, rfl, _, _, rfl, rfl, (zN.mul z2).ok z4 (by omega), _, _, rfl, rfl, ?_⟩
    refine ⟨_, rfl, _, rfl, _, _, rfl, rfl, z1.ok z4 (by omega), _, rfl, _, rfl, _, _, rfl, rfl, z2.ok z3 (by omega), _, _, rfl, rfl, ?_⟩
    exact ⟨(by show 2 ≤ sizeLine; decide), fun p hp => k _ p (same_upd hp) hp upd_same⟩
/-! ### the least answer -/
theorem zN_of {N : Int} (h : Ok N) : Sz N 64 := by
  have h1 := h.lo
  have h2 := h.hi
  exact Sz.small (by have : (2 : Int) ^ 64 = 18446744073709551616 := by decide
                     omega) (by have : (2 : Int) ^ 64 = 18446744073709551616 := by decide
                                omega)
theorem less_iff {N : Int} (h : Ok N) : ((near N).1 * (near N).1 + 1 = N * (near N).2 * (near N).2) ↔ apart N = -1 := by
  unfold apart
  constructor <;> intro e <;> omega
theorem apart_or {N : Int} (h : Ok N) : apart N = 1 ∨ apart N = -1 := by
  have := norm_end h.nsq h.ends
  show apart N = 1 ∨ _
  rw [show apart N = sg (stp N + 1) from this]
  exact sg_or _
def spLeast : Sp := fun vs H Q _ => ∃ N : Int, vs = [.int N] ∧ Ok N ∧ New H Q (pr (least N))
theorem ok_least (T : Tx K mg) : Okd P w K mg base 3 "least_answer" ["number"] spLeast := by
  have S : FnScope ["number", "pair"] ["number"] (defScope s_least_answer) := ⟨rfl, rfl, rfl, by decide +kernel, rfl, by decide +kernel, by decide +kernel⟩
  refine okd T.d_least_answer S (fun _ _ _ _ _ _ us hl => match us, hl with | [_], _ => rfl) (fun vs H Q E h => ?_) (fun f cdv A outer s H vs Q E hr h => ?_)
  · obtain ⟨N, rfl, _⟩ := h
    rfl
  · obtain ⟨N, rfl, ok, k⟩ := h
    refine ⟨_, pss_cons (ps_set (i := 1) S.nd rfl (.inl rfl) (pe_do (ok_near T) hr (pa_cons (pv 0) pa_nil)))
      (pss_cons (ps_if (pt_val (pe_do (ok_oneless T) hr (pa_cons (pv 0) (pa_cons (pv 1) pa_nil)))) (pss_one (ps_ret (pe_do (ok_put T) hr (pa_cons (pv 0) (pa_cons (pv 1) (pa_cons (pv 1) pa_nil)))))) pss_nil)
      (pss_one (ps_ret (pv 1)))), ?_⟩
    obtain ⟨z1, z2⟩ := ok.nearSz
    refine ⟨_, rfl, N, rfl, ok, fun H1 p s1 hp h1 => ?_⟩
    refine ⟨_, rfl, _, rfl, N, _, _, p, rfl, SqT.of h1, zN_of ok, z1.mono (by decide), z2.mono (by decide), _, rfl, ?_⟩
    by_cases c : (near N).1 * (near N).1 + 1 = N * (near N).2 * (near N).2
    · rw [decide_eq_true c]
      refine iteT ⟨_, rfl, _, rfl, _, rfl, N, near N, near N, p, p, _, _, rfl, SqT.of h1, SqT.of h1, zN_of ok, z1, z2, z1, z2, by decide, fun H2 q s2 hq h2 => ?_⟩
      have e : least N = put N (near N) (near N) := by
        unfold least
        rw [if_neg (by rw [(less_iff ok).mp c]; decide)]
      rw [← e] at h2
      exact k _ q (s1.trans s2) (s1.free hq) h2
    · rw [decide_eq_false c]
      refine iteF ⟨_, rfl, k _ p s1 hp ?_⟩
      have e : least N = near N := by
        unfold least
        rw [if_pos]
        rcases apart_or ok with q | q
        · exact q
        · exact absurd ((less_iff ok).mpr q) c
      rw [e]
      exact h1
def spLessP : Sp := fun vs H Q _ => ∃ N : Int, vs = [.int N] ∧ Ok N ∧ (apart N = -1 → New H Q (pr (near N))) ∧ (apart N = 1 → Back H Q .non)
theorem ok_lessp (T : Tx K mg) : Okd P w K mg base 3 "least_one_less" ["number"] spLessP := by
  have S : FnScope ["number", "pair"] ["number"] (defScope s_least_one_less) := ⟨rfl, rfl, rfl, by decide +kernel, rfl, by decide +kernel, by decide +kernel⟩
  refine okd T.d_least_one_less S (fun _ _ _ _ _ _ us hl => match us, hl with | [_], _ => rfl) (fun vs H Q E h => ?_) (fun f cdv A outer s H vs Q E hr h => ?_)
  · obtain ⟨N, rfl, _⟩ := h
    rfl
  · obtain ⟨N, rfl, ok, k1, k2⟩ := h
    refine ⟨_, pss_cons (ps_set (i := 1) S.nd rfl (.inl rfl) (pe_do (ok_near T) hr (pa_cons (pv 0) pa_nil)))
      (pss_cons (ps_if (pt_val (pe_do (ok_oneless T) hr (pa_cons (pv 0) (pa_cons (pv 1) pa_nil)))) (pss_one (ps_ret (pv 1))) pss_nil)
      (pss_one (ps_ret pe_non))), ?_⟩
    obtain ⟨z1, z2⟩ := ok.nearSz
    refine ⟨_, rfl, N, rfl, ok, fun H1 p s1 hp h1 => ?_⟩
    refine ⟨_, rfl, _, rfl, N, _, _, p, rfl, SqT.of h1, zN_of ok, z1.mono (by decide), z2.mono (by decide), _, rfl, ?_⟩
    by_cases c : (near N).1 * (near N).1 + 1 = N * (near N).2 * (near N).2
    · rw [decide_eq_true c]
      exact iteT ⟨_, rfl, k1 ((less_iff ok).mp c) _ p s1 hp h1⟩
    · rw [decide_eq_false c]
      refine iteF (k2 ?_ _ s1)
      rcases apart_or ok with q | q
      · exact q
      · exact absurd ((less_iff ok).mpr q) c
end
end OA

namespace OA
open PySem L2 PyProof.Rows
section
variable {P : Program} {w : World} {K : PySem.W.Frag} {mg : Str → Option Value} {base : Heap} {cA cS cL cO cB : Addr}
/-! ### the classes: made -/
def spInit1 (C : Addr) : Sp := fun vs H Q _ => ∃ (p dx : Addr) (a : Int), vs = [.ref p, .int a] ∧ H p = some (.ins C dx []) ∧ ∀ H', H' p = some (.ins C dx (fl1 a)) → (∀ b o, H b = some o → b ≠ p → H' b = some o) → Q .non H'
def spInit2 (C : Addr) : Sp := fun vs H Q _ => ∃ (p dx : Addr) (a b : Int), vs = [.ref p, .int a, .int b] ∧ H p = some (.ins C dx []) ∧ ∀ H', H' p = some (.ins C dx (fl2 a b)) → (∀ c o, H c = some o → c ≠ p → H' c = some o) → Q .non H'
theorem made_same {H H1 : Hp} {x dx C : Addr} (nx : H x = none) (nd : H dx = none) (k : ∀ b o, (upd (upd H dx (.own x)) x (.ins C dx [])) b = some o → b ≠ x → H1 b = some o) : Same H H1 := fun b o e =>
  k b o (by rw [upd_ne (ne_of_none e nx), upd_ne (ne_of_none e nd)]; exact e) (ne_of_none e nx)
theorem ok_S_init (T : Tc K mg cA cS cL cO cB) : Okm P w K mg base cS 1 "__init__" ["self", "root"] (spInit1 cS) := by
  have S : FnScope ["self", "root"] ["self", "root"] (defScope s_Square_init) := ⟨rfl, rfl, rfl, by decide +kernel, rfl, by decide +kernel, by decide +kernel⟩
  refine okm T.mS_init S (fun _ _ _ _ _ _ us hl => match us, hl with | [_, _], _ => rfl) (fun vs H Q E h => ?_) (fun f cdv A outer s H vs Q E hr h => ?_)
  · obtain ⟨p, dx, a, rfl, _⟩ := h
    rfl
  · obtain ⟨p, dx, a, rfl, hp, k⟩ := h
    refine ⟨_, pss_one (ps_fld (pv 0) (pv 1) rfl), ?_⟩
    refine ⟨_, rfl, _, rfl, p, cS, dx, [], rfl, hp, T.kS.cl, T.nS_root, (by show 0 < 1000; decide), ?_⟩
    exact k _ upd_same fun b o e ne => by rw [upd_ne ne]; exact e
theorem ok_L_init (T : Tc K mg cA cS cL cO cB) : Okm P w K mg base cL 1 "__init__" ["self", "one", "other"] (spInit2 cL) := by
  have S : FnScope ["self", "one", "other"] ["self", "one", "other"] (defScope s_Least_init) := ⟨rfl, rfl, rfl, by decide +kernel, rfl, by decide +kernel, by decide +kernel⟩
  refine okm T.mL_init S (fun _ _ _ _ _ _ us hl => match us, hl with | [_, _, _], _ => rfl) (fun vs H Q E h => ?_) (fun f cdv A outer s H vs Q E hr h => ?_)
  · obtain ⟨p, dx, a, b, rfl, _⟩ := h
    rfl
  · obtain ⟨p, dx, a, b, rfl, hp, k⟩ := h
    refine ⟨_, pss_cons (ps_fld (pv 0) (pv 1) rfl) (pss_one (ps_fld (pv 0) (pv 2) rfl)), ?_⟩
    refine ⟨_, rfl, _, rfl, p, cL, dx, [], rfl, hp, T.kL.cl, T.nL_one, (by show 0 < 1000; decide), ?_⟩
    refine ⟨_, rfl, _, rfl, p, cL, dx, _, rfl, upd_same, T.kL.cl, T.nL_other, (by show 1 < 1000; decide), ?_⟩
    exact k _ upd_same fun b o e ne => by rw [upd_ne ne, upd_ne ne]; exact e
/-! ### the classes: their own words -/
def spShowS (C : Addr) : Sp := fun vs H Q _ => ∃ (p dx : Addr) (a N : Int), vs = [.ref p, .int N] ∧ H p = some (.ins C dx (fl1 a)) ∧ Sz a 60000000 ∧ Q (.bl (decide (0 < a ∧ a * a = N))) H
def spShow2 (C : Addr) (ans : Int → Int × Int → Prop) [∀ N x, Decidable (ans N x)] : Sp := fun vs H Q _ => ∃ (p dx : Addr) (a b N : Int), vs = [.ref p, .int N] ∧ H p = some (.ins C dx (fl2 a b)) ∧ 2 ≤ N ∧ N ≤ 1000000 ∧ Back H Q (.bl (decide (ans N (a, b))))
def IsLeast (N : Int) (x : Int × Int) : Prop := ¬ IsSq N ∧ x = least N
instance (N : Int) (x : Int × Int) : Decidable (IsLeast N x) := inferInstanceAs (Decidable (_ ∧ _))
theorem has_is {N : Int} (h : 2 ≤ N) : decide (0 < N ∧ ¬ IsSq N) = !decide (IsSq N) := by
  by_cases c : IsSq N
  · rw [decide_eq_true c, decide_eq_false (fun z : 0 < N ∧ ¬ IsSq N => z.2 c)]; rfl
  · rw [decide_eq_false c, decide_eq_true (show 0 < N ∧ ¬ IsSq N from ⟨by omega, c⟩)]; rfl
end
end OA

namespace OA
open PySem L2 PyProof.Rows
section
variable {P : Program} {w : World} {K : PySem.W.Frag} {mg : Str → Option Value} {base : Heap} {cA cS cL cO cB : Addr}
/-! ### told -/
def spTold (cS cL : Addr) : Sp := fun vs H Q _ => ∃ N : Int, vs = [.int N] ∧ 2 ≤ N ∧ N ≤ 1000000 ∧
  (IsSq N → ∀ H' p dx, Same H H' → H p = none → H' p = some (.ins cS dx (fl1 (rt N))) → Q (.ref p) H') ∧
  (¬ IsSq N → ∀ H' p dx, Same H H' → H p = none → H' p = some (.ins cL dx (fl2 (least N).1 (least N).2)) → Q (.ref p) H')
theorem ok_told (T : Tx K mg) (U : Tc K mg cA cS cL cO cB) : Okd P w K mg base 4 "told" ["number"] (spTold cS cL) := by
  have S : FnScope ["number", "one", "other"] ["number"] (defScope s_told) := ⟨rfl, rfl, rfl, by decide +kernel, rfl, by decide +kernel, by decide +kernel⟩
  refine okd T.d_told S (fun _ _ _ _ _ _ us hl => match us, hl with | [_], _ => rfl) (fun vs H Q E h => ?_) (fun f cdv A outer s H vs Q E hr h => ?_)
  · obtain ⟨N, rfl, _⟩ := h
    rfl
  · obtain ⟨N, rfl, h1, h2, k1, k2⟩ := h
    refine ⟨_, pss_cons (ps_expr (pe_do (ok_refN T) hr (pa_cons (pv 0) pa_nil)))
      (pss_cons (ps_if (pt_val (pe_do (ok_sq T) hr (pa_cons (pv 0) pa_nil))) (pss_one (ps_ret (pe_mkdo (ok_S_init U) U.kS hr (pa_cons (pe_callBfun cr_isq (by rfl) T.isq (pa_cons (pv 0) pa_nil)) pa_nil)))) pss_nil)
      (pss_cons (ps_asg (pe_do (ok_least T) hr (pa_cons (pv 0) pa_nil)) (pg_tup (by rfl) (pgs_cons (pg_name (i := 1) S.nd rfl (.inl rfl)) (pgs_cons (pg_name (i := 2) S.nd rfl (.inl rfl)) pgs_nil))))
      (pss_one (ps_ret (pe_mkdo (ok_L_init U) U.kL hr (pa_cons (pv 1) (pa_cons (pv 2) pa_nil))))))), ?_⟩
    refine ⟨_, rfl, N, rfl, h1, h2, fun H1 s1 => ?_⟩
    refine ⟨_, rfl, N, rfl, by omega, by omega, _, rfl, ?_⟩
    by_cases c : IsSq N
    · rw [decide_eq_true c]
      refine iteT ⟨_, rfl, N, rfl, by omega, by omega, fun x dx nx ndx ne => ?_⟩
      refine ⟨x, dx, _, rfl, upd_same, fun H2 e kp => ⟨rfl, ?_⟩⟩
      exact k1 c _ x dx (s1.trans (made_same nx ndx kp)) (s1.free nx) e
    · rw [decide_eq_false c]
      refine iteF ⟨_, rfl, N, rfl, ⟨h1, h2, c⟩, fun H2 q s2 hq hH => ?_⟩
      refine ⟨q, _, rfl, SqT.of hH, rfl, _, _, rfl, _, _, rfl, rfl, ?_⟩
      refine ⟨_, rfl, _, rfl, fun x dx nx ndx ne => ?_⟩
      refine ⟨x, dx, _, _, rfl, upd_same, fun H3 e kp => ⟨rfl, ?_⟩⟩
      exact k2 c _ x dx ((s1.trans s2).trans (made_same nx ndx kp)) ((s1.trans s2).free nx) e
/-! ### chain -/
def spChain : Sp := fun vs H Q _ => ∃ N : Int, vs = [.int N] ∧ Ok N ∧
  ∀ H' p q, Same H H' → H p = none → H q = none → p ≠ q → H' p = some (.tup [.int (rt N), .ref q]) → H' q = some (.lst (vi (parts N))) → Q (.ref p) H'
theorem ok_chain (T : Tx K mg) : Okd P w K mg base 3 "chain" ["number"] spChain := by
  have S : FnScope ["number"] ["number"] (defScope s_chain) := ⟨rfl, rfl, rfl, by decide +kernel, rfl, by decide +kernel, by decide +kernel⟩
  refine okd T.d_chain S (fun _ _ _ _ _ _ us hl => match us, hl with | [_], _ => rfl) (fun vs H Q E h => ?_) (fun f cdv A outer s H vs Q E hr h => ?_)
  · obtain ⟨N, rfl, _⟩ := h
    rfl
  · obtain ⟨N, rfl, ok, k⟩ := h
    have h1 := ok.lo
    have h2 := ok.hi
    refine ⟨_, pss_cons (ps_expr (pe_do (ok_refN T) hr (pa_cons (pv 0) pa_nil)))
      (pss_cons (ps_expr (pe_do (ok_refS T) hr (pa_cons (pv 0) pa_nil)))
      (pss_one (ps_ret (pe_tup (pa_cons (pe_callBfun cr_isq (by rfl) T.isq (pa_cons (pv 0) pa_nil)) (pa_cons (pe_do (ok_round T) hr (pa_cons (pv 0) pa_nil)) pa_nil)))))), ?_⟩
    refine ⟨_, rfl, N, rfl, h1, h2, fun H1 s1 => ?_⟩
    refine ⟨_, rfl, N, rfl, by omega, by omega, ok.ns, ?_⟩
    refine ⟨_, rfl, N, rfl, by omega, by omega, _, rfl, N, rfl, ok, fun H2 q s2 hq hH => ?_⟩
    refine ⟨(by show 2 ≤ sizeLine; decide), fun p hp => ?_⟩
    have npq : p ≠ q := (ne_of_none hH hp).symm
    have s3 := s1.trans s2
    exact k _ p q (sm s3 hp) (s3.free hp) (s1.free hq) npq upd_same (by rw [upd_ne npq.symm]; exact hH)
end
end OA

namespace OA
open PySem L2 PyProof.Rows
section
variable {P : Program} {w : World} {K : PySem.W.Frag} {mg : Str → Option Value} {base : Heap} {cA cS cL cO cB : Addr}
def IsOther (N : Int) (x : Int × Int) : Prop := ¬ IsSq N ∧ apart N = -1 ∧ x = near N
instance (N : Int) (x : Int × Int) : Decidable (IsOther N x) := inferInstanceAs (Decidable (_ ∧ _ ∧ _))
def IsBarred (N : Int) (x : Int × Int) : Prop := ¬ IsSq N ∧ apart N = 1 ∧ x = least N
instance (N : Int) (x : Int × Int) : Decidable (IsBarred N x) := inferInstanceAs (Decidable (_ ∧ _ ∧ _))
theorem ok_O_init (T : Tc K mg cA cS cL cO cB) : Okm P w K mg base cO 1 "__init__" ["self", "one", "other"] (spInit2 cO) := by
  have S : FnScope ["self", "one", "other"] ["self", "one", "other"] (defScope s_Other_init) := ⟨rfl, rfl, rfl, by decide +kernel, rfl, by decide +kernel, by decide +kernel⟩
  refine okm T.mO_init S (fun _ _ _ _ _ _ us hl => match us, hl with | [_, _, _], _ => rfl) (fun vs H Q E h => ?_) (fun f cdv A outer s H vs Q E hr h => ?_)
  · obtain ⟨p, dx, a, b, rfl, _⟩ := h
    rfl
  · obtain ⟨p, dx, a, b, rfl, hp, k⟩ := h
    refine ⟨_, pss_cons (ps_fld (pv 0) (pv 1) rfl) (pss_one (ps_fld (pv 0) (pv 2) rfl)), ?_⟩
    refine ⟨_, rfl, _, rfl, p, cO, dx, [], rfl, hp, T.kO.cl, T.nO_one, (by show 0 < 1000; decide), ?_⟩
    refine ⟨_, rfl, _, rfl, p, cO, dx, _, rfl, upd_same, T.kO.cl, T.nO_other, (by show 1 < 1000; decide), ?_⟩
    exact k _ upd_same fun b o e ne => by rw [upd_ne ne, upd_ne ne]; exact e
theorem ok_B_init (T : Tc K mg cA cS cL cO cB) : Okm P w K mg base cB 1 "__init__" ["self", "one", "other"] (spInit2 cB) := by
  have S : FnScope ["self", "one", "other"] ["self", "one", "other"] (defScope s_Barred_init) := ⟨rfl, rfl, rfl, by decide +kernel, rfl, by decide +kernel, by decide +kernel⟩
  refine okm T.mB_init S (fun _ _ _ _ _ _ us hl => match us, hl with | [_, _, _], _ => rfl) (fun vs H Q E h => ?_) (fun f cdv A outer s H vs Q E hr h => ?_)
  · obtain ⟨p, dx, a, b, rfl, _⟩ := h
    rfl
  · obtain ⟨p, dx, a, b, rfl, hp, k⟩ := h
    refine ⟨_, pss_cons (ps_fld (pv 0) (pv 1) rfl) (pss_one (ps_fld (pv 0) (pv 2) rfl)), ?_⟩
    refine ⟨_, rfl, _, rfl, p, cB, dx, [], rfl, hp, T.kB.cl, T.nB_one, (by show 0 < 1000; decide), ?_⟩
    refine ⟨_, rfl, _, rfl, p, cB, dx, _, rfl, upd_same, T.kB.cl, T.nB_other, (by show 1 < 1000; decide), ?_⟩
    exact k _ upd_same fun b o e ne => by rw [upd_ne ne, upd_ne ne]; exact e
/-! ### less -/
def spLess (cS cO cB : Addr) : Sp := fun vs H Q _ => ∃ N : Int, vs = [.int N] ∧ 2 ≤ N ∧ N ≤ 1000000 ∧
  (IsSq N → ∀ H' p dx, Same H H' → H p = none → H' p = some (.ins cS dx (fl1 (rt N))) → Q (.ref p) H') ∧
  (¬ IsSq N → apart N = -1 → ∀ H' p dx, Same H H' → H p = none → H' p = some (.ins cO dx (fl2 (near N).1 (near N).2)) → Q (.ref p) H') ∧
  (¬ IsSq N → apart N = 1 → ∀ H' p dx, Same H H' → H p = none → H' p = some (.ins cB dx (fl2 (least N).1 (least N).2)) → Q (.ref p) H')
theorem ok_less (T : Tx K mg) (U : Tc K mg cA cS cL cO cB) : Okd P w K mg base 4 "less" ["number"] (spLess cS cO cB) := by
  have S : FnScope ["number", "pair", "one", "other"] ["number"] (defScope s_less) := ⟨rfl, rfl, rfl, by decide +kernel, rfl, by decide +kernel, by decide +kernel⟩
  refine okd T.d_less S (fun _ _ _ _ _ _ us hl => match us, hl with | [_], _ => rfl) (fun vs H Q E h => ?_) (fun f cdv A outer s H vs Q E hr h => ?_)
  · obtain ⟨N, rfl, _⟩ := h
    rfl
  · obtain ⟨N, rfl, h1, h2, k1, k2, k3⟩ := h
    refine ⟨_, pss_cons (ps_expr (pe_do (ok_refN T) hr (pa_cons (pv 0) pa_nil)))
      (pss_cons (ps_if (pt_val (pe_do (ok_sq T) hr (pa_cons (pv 0) pa_nil))) (pss_one (ps_ret (pe_mkdo (ok_S_init U) U.kS hr (pa_cons (pe_callBfun cr_isq (by rfl) T.isq (pa_cons (pv 0) pa_nil)) pa_nil)))) pss_nil)
      (pss_cons (ps_set (i := 1) S.nd rfl (.inl rfl) (pe_do (ok_lessp T) hr (pa_cons (pv 0) pa_nil)))
      (pss_cons (ps_if (pt_cmpR op_isN (pv 1) pe_non (nomark _))
        (pss_cons (ps_asg (pe_do (ok_least T) hr (pa_cons (pv 0) pa_nil)) (pg_tup (by rfl) (pgs_cons (pg_name (i := 2) S.nd rfl (.inl rfl)) (pgs_cons (pg_name (i := 3) S.nd rfl (.inl rfl)) pgs_nil))))
          (pss_one (ps_ret (pe_mkdo (ok_B_init U) U.kB hr (pa_cons (pv 2) (pa_cons (pv 3) pa_nil)))))) pss_nil)
      (pss_cons (ps_asg (pv 1) (pg_tup (by rfl) (pgs_cons (pg_name (i := 2) S.nd rfl (.inl rfl)) (pgs_cons (pg_name (i := 3) S.nd rfl (.inl rfl)) pgs_nil))))
      (pss_one (ps_ret (pe_mkdo (ok_O_init U) U.kO hr (pa_cons (pv 2) (pa_cons (pv 3) pa_nil))))))))), ?_⟩
    refine ⟨_, rfl, N, rfl, h1, h2, fun H1 s1 => ?_⟩
    refine ⟨_, rfl, N, rfl, by omega, by omega, _, rfl, ?_⟩
    by_cases c : IsSq N
    · rw [decide_eq_true c]
      refine iteT ⟨_, rfl, N, rfl, by omega, by omega, fun x dx nx ndx ne => ?_⟩
      refine ⟨x, dx, _, rfl, upd_same, fun H2 e kp => ⟨rfl, ?_⟩⟩
      exact k1 c _ x dx (s1.trans (made_same nx ndx kp)) (s1.free nx) e
    · rw [decide_eq_false c]
      refine iteF ⟨_, rfl, N, rfl, ⟨h1, h2, c⟩, fun ap H2 q s2 hq hH => ?_, fun ap H2 s2 => ?_⟩
      · refine ⟨_, rfl, rfl, _, rfl, iteF ?_⟩
        refine ⟨_, rfl, q, _, rfl, SqT.of hH, rfl, _, _, rfl, _, _, rfl, rfl, ?_⟩
        refine ⟨_, rfl, _, rfl, fun x dx nx ndx ne => ?_⟩
        refine ⟨x, dx, _, _, rfl, upd_same, fun H3 e kp => ⟨rfl, ?_⟩⟩
        exact k2 c ap _ x dx ((s1.trans s2).trans (made_same nx ndx kp)) ((s1.trans s2).free nx) e
      · refine ⟨_, rfl, rfl, _, rfl, iteT ?_⟩
        refine ⟨_, rfl, N, rfl, ⟨h1, h2, c⟩, fun H3 q s3 hq hH => ?_⟩
        refine ⟨q, _, rfl, SqT.of hH, rfl, _, _, rfl, _, _, rfl, rfl, ?_⟩
        refine ⟨_, rfl, _, rfl, fun x dx nx ndx ne => ?_⟩
        refine ⟨x, dx, _, _, rfl, upd_same, fun H4 e kp => ⟨rfl, ?_⟩⟩
        exact k3 c ap _ x dx (((s1.trans s2).trans s3).trans (made_same nx ndx kp)) (((s1.trans s2).trans s3).free nx) e
end
end OA

namespace OA
open PySem L2 PyProof.Rows
theorem pe_or2 {X : Cx} {e : Expr} {t1 t2 : TE} (h1 : PE X e t1) (h2 : PE X e t2) : PE X e (fun σ H Q => t1 σ H Q ∨ t2 σ H Q) :=
  ⟨fun pins s σ H Q I h => h.elim (h1.run pins s σ H Q I) (h2.run pins s σ H Q I)⟩
theorem pss_any {X : Cx} {ss : List Stmt} : PSs X ss (fun _ _ _ => False) := ⟨fun _ _ _ _ _ _ h => h.elim⟩
theorem ps_any {X : Cx} {s : Stmt} : PS X s (fun _ _ _ => False) := ⟨fun _ _ _ _ _ _ h => h.elim⟩
theorem pe_any {X : Cx} {e : Expr} : PE X e (fun _ _ _ => False) := ⟨fun _ _ _ _ _ _ h => h.elim⟩
theorem bt_VE : bootBuiltins "ValueError" = some (.type "ValueError") := by decide +kernel
/-- no whole number -/
inductive Odd (H : Hp) : V → Prop where
  | non : Odd H .non
  | bl (b : Bool) : Odd H (.bl b)
  | str (z : Str) : Odd H (.str z)
  | lst {a : Addr} {xs : List V} (e : H a = some (.lst xs)) : Odd H (.ref a)
  | tup {a : Addr} {xs : List V} (e : H a = some (.tup xs)) : Odd H (.ref a)
  | dct {a : Addr} {kvs : List (Key × V)} (e : H a = some (.dK kvs)) : Odd H (.ref a)
theorem Odd.same {H H' : Hp} {x : V} (s : Same H H') (h : Odd H x) : Odd H' x := by
  cases h with
  | non => exact .non
  | bl b => exact .bl b
  | str z => exact .str z
  | lst e => exact .lst (s _ _ e)
  | tup e => exact .tup (s _ _ e)
  | dct e => exact .dct (s _ _ e)
theorem Odd.ty {K : PySem.W.Frag} {H : Hp} {x : V} (h : Odd H x) : ∃ (t : Value) (b : Bool), TyX K H x t ∧ PySem.W.kitOne K t (.type "int") = some b ∧ (b = true → PySem.W.kitOne K t (.type "bool") = some true) := by
  cases h with
  | non => exact ⟨_, false, .base .non, kit_ty (by decide +kernel), fun z => absurd z (by decide)⟩
  | bl b => exact ⟨_, true, .base (.bl b), kit_ty (by decide +kernel), fun _ => kit_ty (by decide +kernel)⟩
  | str z => exact ⟨_, false, .base (.str z), kit_ty (by decide +kernel), fun z => absurd z (by decide)⟩
  | lst e => exact ⟨_, false, .base (.lst e), kit_ty (by decide +kernel), fun z => absurd z (by decide)⟩
  | tup e => exact ⟨_, false, .base (.tup e), kit_ty (by decide +kernel), fun z => absurd z (by decide)⟩
  | dct e => exact ⟨_, false, .base (.dK e), kit_ty (by decide +kernel), fun z => absurd z (by decide)⟩
def BadN (H : Hp) (x : V) : Prop := Odd H x ∨ ∃ N : Int, x = .int N ∧ ¬ (2 ≤ N ∧ N ≤ 1000000)
def BadC (H : Hp) (x : V) : Prop := Odd H x ∨ ∃ N : Int, x = .int N ∧ ¬ (0 ≤ N ∧ N ≤ 100)
theorem BadN.same {H H' : Hp} {x : V} (s : Same H H') (h : BadN H x) : BadN H' x := h.imp (Odd.same s) id
theorem BadC.same {H H' : Hp} {x : V} (s : Same H H') (h : BadC H x) : BadC H' x := h.imp (Odd.same s) id
/-- it is raised, whatever was made on the way -/
def Out (H : Hp) (E : XK) (C : Addr) : Prop := ∀ H', Same H H' → E (.ref C) none H'
section
variable {P : Program} {w : World} {K : PySem.W.Frag} {mg : Str → Option Value} {base : Heap} {eP eN eI eW eC : Addr}
def spRefNX (eN : Addr) : Sp := fun vs H _ E => ∃ x, vs = [x] ∧ BadN H x ∧ Out H E eN
theorem x_refN (T : Tx K mg) (V : Te K mg eP eN eI eW eC) : Okx P w K mg base 2 "refuse_no_number" ["number"] (spRefNX eN) := by
  have S : FnScope ["number"] ["number"] (defScope s_refuse_no_number) := ⟨rfl, rfl, rfl, by decide +kernel, rfl, by decide +kernel, by decide +kernel⟩
  refine okx T.d_refuse_no_number S (fun _ _ _ _ _ _ us hl => match us, hl with | [_], _ => rfl) (fun vs H Q E h => ?_) (fun f cdv A outer s H vs Q E hr h => ?_)
  · obtain ⟨x, rfl, _⟩ := h
    rfl
  · obtain ⟨x, rfl, hx, k⟩ := h
    obtain ⟨t1, g1⟩ := T.c_LEAST_NUMBER
    obtain ⟨t2, g2⟩ := T.c_GREATEST_NUMBER
    refine ⟨_, pss_one (ps_if (PW.pt (pw_or (pt_not (pt_val (pe_do (ok_whole T) hr (pa_cons (pv 0) pa_nil))))
      (pw_or1 (pt_cmpR op_notin_rng (pv 0) (pe_callTy cr_range2 (by rfl) T.b_range bt_range (pa_cons (pe_glob (v := .int 2) (by rfl) g1 ⟨_, rfl⟩) (pa_cons (pe_op op_add (pe_glob (v := .int 1000000) (by rfl) g2 ⟨_, rfl⟩) pe_int) pa_nil))) (by rfl)))))
      (pss_one (L2N.ps_raise rfl (L2N.takes_of rfl rfl rfl rfl) (L2N.pmk_own PySem.F.excBase_ValueError V.xN V.gN V.pN (raises_own V.bN V.tN) rfl))) pss_nil), ?_⟩
    rcases hx with hx | ⟨N, rfl, hN⟩
    · obtain ⟨t, b, ty, h1, h2⟩ := hx.ty (K := K)
      refine ⟨_, rfl, x, t, b, true, rfl, ty, h1, h2, b && !true, rfl, ?_⟩
      rw [show (b && !true) = false by cases b <;> rfl]
      exact iteT (k _ (Same.refl _))
    · refine ⟨_, rfl, .int N, _, true, false, rfl, .base (.int N), kInt, fun _ => kIntB, true, rfl, ?_⟩
      refine iteF ⟨_, rfl, _, _, rfl, rfl, _, _, rfl, fun p hp => ⟨N, p, 2, 1000001, rfl, rfl, upd_same, _, rfl, ?_⟩⟩
      rw [decide_eq_false (show ¬ (2 ≤ N ∧ N < 1000001) from fun z => hN ⟨z.1, by omega⟩)]
      exact iteT (k _ (same_upd hp))
def spRefSX (eI : Addr) : Sp := fun vs H _ E => ∃ N : Int, vs = [.int N] ∧ 0 ≤ N ∧ N < 2 ^ 60 ∧ IsSq N ∧ Out H E eI
theorem x_refS (T : Tx K mg) (V : Te K mg eP eN eI eW eC) : Okx P w K mg base 2 "refuse_square" ["number"] (spRefSX eI) := by
  have S : FnScope ["number"] ["number"] (defScope s_refuse_square) := ⟨rfl, rfl, rfl, by decide +kernel, rfl, by decide +kernel, by decide +kernel⟩
  refine okx T.d_refuse_square S (fun _ _ _ _ _ _ us hl => match us, hl with | [_], _ => rfl) (fun vs H Q E h => ?_) (fun f cdv A outer s H vs Q E hr h => ?_)
  · obtain ⟨N, rfl, _⟩ := h
    rfl
  · obtain ⟨N, rfl, h0, h1, sq, k⟩ := h
    refine ⟨_, pss_one (ps_if (pt_val (pe_do (ok_sq T) hr (pa_cons (pv 0) pa_nil))) (pss_one (L2N.ps_raise rfl (L2N.takes_of rfl rfl rfl rfl) (L2N.pmk_own PySem.F.excBase_ValueError V.xI V.gI V.pI (raises_own V.bI V.tI) rfl))) pss_nil), ?_⟩
    refine ⟨_, rfl, N, rfl, h0, h1, _, rfl, ?_⟩
    rw [decide_eq_true sq]
    exact iteT (k _ (Same.refl _))
def spRefCX (eC : Addr) : Sp := fun vs H _ E => ∃ x, vs = [x] ∧ BadC H x ∧ Out H E eC
theorem x_refC (T : Tx K mg) (V : Te K mg eP eN eI eW eC) : Okx P w K mg base 2 "_refuse_no_count" ["count"] (spRefCX eC) := by
  have S : FnScope ["count"] ["count"] (defScope s__refuse_no_count) := ⟨rfl, rfl, rfl, by decide +kernel, rfl, by decide +kernel, by decide +kernel⟩
  refine okx T.d__refuse_no_count S (fun _ _ _ _ _ _ us hl => match us, hl with | [_], _ => rfl) (fun vs H Q E h => ?_) (fun f cdv A outer s H vs Q E hr h => ?_)
  · obtain ⟨x, rfl, _⟩ := h
    rfl
  · obtain ⟨x, rfl, hx, k⟩ := h
    obtain ⟨t2, g2⟩ := T.c_GREATEST_COUNT
    refine ⟨_, pss_one (ps_if (PW.pt (pw_or (pt_not (pt_val (pe_do (ok_whole T) hr (pa_cons (pv 0) pa_nil))))
      (pw_or1 (pt_cmpR op_notin_rng (pv 0) (pe_callTy cr_range1 (by rfl) T.b_range bt_range (pa_cons (pe_op op_add (pe_glob (v := .int 100) (by rfl) g2 ⟨_, rfl⟩) pe_int) pa_nil)) (by rfl)))))
      (pss_one (L2N.ps_raise rfl (L2N.takes_of rfl rfl rfl rfl) (L2N.pmk_own PySem.F.excBase_ValueError V.xC V.gC V.pC (raises_own V.bC V.tC) rfl))) pss_nil), ?_⟩
    rcases hx with hx | ⟨N, rfl, hN⟩
    · obtain ⟨t, b, ty, h1, h2⟩ := hx.ty (K := K)
      refine ⟨_, rfl, x, t, b, true, rfl, ty, h1, h2, b && !true, rfl, ?_⟩
      rw [show (b && !true) = false by cases b <;> rfl]
      exact iteT (k _ (Same.refl _))
    · refine ⟨_, rfl, .int N, _, true, false, rfl, .base (.int N), kInt, fun _ => kIntB, true, rfl, ?_⟩
      refine iteF ⟨_, rfl, _, _, rfl, rfl, _, rfl, fun p hp => ⟨N, p, 0, 101, rfl, rfl, upd_same, _, rfl, ?_⟩⟩
      rw [decide_eq_false (show ¬ (0 ≤ N ∧ N < 101) from fun z => hN ⟨z.1, by omega⟩)]
      exact iteT (k _ (same_upd hp))
end
end OA

namespace OA
open PySem L2 PyProof.Rows
theorem pw_one (N : Int) : pw N 1 = least N := by
  show put N (1, 0) (least N) = least N
  unfold put
  ext <;> dsimp only <;> omega
section
variable {P : Program} {w : World} {K : PySem.W.Frag} {mg : Str → Option Value} {base : Heap}
theorem inr_sz {N : Int} (h1 : 2 ≤ N) (h2 : N ≤ 1000000) : Sz N 64 :=
  Sz.small (by have : (2 : Int) ^ 64 = 18446744073709551616 := by decide
               omega) (by have : (2 : Int) ^ 64 = 18446744073709551616 := by decide
                          omega)
/-! ### counts and answers: never refused here -/
def spRefC : Sp := fun vs H Q _ => ∃ c : Int, vs = [.int c] ∧ 0 ≤ c ∧ c ≤ 100 ∧ Back H Q .non
theorem ok_refC (T : Tx K mg) : Okd P w K mg base 2 "_refuse_no_count" ["count"] spRefC := by
  have S : FnScope ["count"] ["count"] (defScope s__refuse_no_count) := ⟨rfl, rfl, rfl, by decide +kernel, rfl, by decide +kernel, by decide +kernel⟩
  refine okd T.d__refuse_no_count S (fun _ _ _ _ _ _ us hl => match us, hl with | [_], _ => rfl) (fun vs H Q E h => ?_) (fun f cdv A outer s H vs Q E hr h => ?_)
  · obtain ⟨c, rfl, _⟩ := h
    rfl
  · obtain ⟨c, rfl, h0, h1, k⟩ := h
    obtain ⟨t2, g2⟩ := T.c_GREATEST_COUNT
    refine ⟨_, pss_one (ps_if (PW.pt (pw_or (pt_not (pt_val (pe_do (ok_whole T) hr (pa_cons (pv 0) pa_nil))))
      (pw_or1 (pt_cmpR op_notin_rng (pv 0) (pe_callTy cr_range1 (by rfl) T.b_range bt_range (pa_cons (pe_op op_add (pe_glob (v := .int 100) (by rfl) g2 ⟨_, rfl⟩) pe_int) pa_nil)) (by rfl)))))
      (pss_one ps_never) pss_nil), ?_⟩
    refine ⟨_, rfl, .int c, _, true, false, rfl, .base (.int c), kInt, fun _ => kIntB, true, rfl, ?_⟩
    refine iteF ⟨_, rfl, _, _, rfl, rfl, _, rfl, fun p hp => ⟨c, p, 0, 101, rfl, rfl, upd_same, _, rfl, ?_⟩⟩
    rw [decide_eq_true (show 0 ≤ c ∧ c < 101 from ⟨h0, by omega⟩)]
    exact iteF (k _ (same_upd hp))
def spFrom : Sp := fun vs H Q _ => ∃ i : Int, vs = [.int i] ∧ Q (.bl (decide (0 ≤ i))) H
theorem ok_from (T : Tx K mg) : Okd P w K mg base 2 "_is_from_0" ["value"] spFrom := by
  have S : FnScope ["value"] ["value"] (defScope s__is_from_0) := ⟨rfl, rfl, rfl, by decide +kernel, rfl, by decide +kernel, by decide +kernel⟩
  refine okd T.d__is_from_0 S (fun _ _ _ _ _ _ us hl => match us, hl with | [_], _ => rfl) (fun vs H Q E h => ?_) (fun f cdv A outer s H vs Q E hr h => ?_)
  · obtain ⟨i, rfl, _⟩ := h
    rfl
  · obtain ⟨i, rfl, k⟩ := h
    refine ⟨_, pss_one (ps_ret (pe_and (pe_do (ok_whole T) hr (pa_cons (pv 0) pa_nil)) (pe_one (pe_cmpR op_ge (pv 0) pe_int (nomark _))))), ?_⟩
    refine ⟨_, rfl, .int i, _, true, false, rfl, .base (.int i), kInt, fun _ => kIntB, true, rfl, ?_⟩
    exact iteT ⟨_, rfl, _, _, rfl, rfl, k⟩
def IsA (N : Int) (x : Int × Int) : Prop := (0 ≤ x.1 ∧ 0 ≤ x.2) ∧ x.1 * x.1 = N * x.2 * x.2 + 1
instance (N : Int) (x : Int × Int) : Decidable (IsA N x) := inferInstanceAs (Decidable (_ ∧ _))
def spIsA (K : PySem.W.Frag) : Sp := fun vs H Q _ => ∃ (N : Int) (x : Int × Int) (t : Addr), vs = [.int N, .ref t] ∧ SqT K H t [.int x.1, .int x.2] ∧ Sz N 64 ∧ Sz x.1 60000000 ∧ Sz x.2 60000000 ∧ Q (.bl (decide (IsA N x))) H
theorem ok_isA (T : Tx K mg) : Okd P w K mg base 3 "_is_answer" ["number", "pair"] (spIsA K) := by
  have S : FnScope ["number", "pair", "one", "other"] ["number", "pair"] (defScope s__is_answer) := ⟨rfl, rfl, rfl, by decide +kernel, rfl, by decide +kernel, by decide +kernel⟩
  refine okd T.d__is_answer S (fun _ _ _ _ _ _ us hl => match us, hl with | [_, _], _ => rfl) (fun vs H Q E h => ?_) (fun f cdv A outer s H vs Q E hr h => ?_)
  · obtain ⟨N, x, t, rfl, _⟩ := h
    rfl
  · obtain ⟨N, x, t, rfl, hT, zN, z1, z2, k⟩ := h
    refine ⟨_, pss_one (ps_match2 (i := 2) (j := 3) rfl S.nd rfl rfl rfl rfl (pv 1)
      (pss_one (ps_ret (pe_and (pe_do (ok_from T) hr (pa_cons (pv 2) pa_nil)) (pe_and (pe_do (ok_from T) hr (pa_cons (pv 3) pa_nil)) (pe_one (pe_cmpR op_eq (pe_op op_mulI (pv 2) (pv 2)) (pe_op op_add (pe_op op_mulI (pe_op op_mulI (pv 0) (pv 3)) (pv 3)) pe_int) (nomark _)))))))
      (pss_one (ps_ret pe_bl))), ?_⟩
    refine ⟨_, rfl, t, _, rfl, hT, .inl ⟨_, _, rfl, ?_⟩⟩
    refine ⟨_, rfl, _, rfl, _, rfl, ?_⟩
    by_cases c1 : 0 ≤ x.1
    · rw [decide_eq_true c1]
      refine iteT ⟨_, rfl, _, rfl, _, rfl, ?_⟩
      by_cases c2 : 0 ≤ x.2
      · rw [decide_eq_true c2]
        refine iteT ⟨_, rfl, _, rfl, _, _, rfl, rfl, z1.ok z1 (by decide), _, rfl, _, rfl, _, _, rfl, rfl, zN.ok z2 (by decide), _, rfl, _, _, rfl, rfl, (zN.mul z2).ok z2 (by decide), _, _, rfl, rfl, rfl, ?_⟩
        have e : decide (V.int (x.1 * x.1) = V.int (N * x.2 * x.2 + 1)) = decide (IsA N x) := decide_eq_decide.mpr ⟨fun z => ⟨⟨c1, c2⟩, V.int.inj z⟩, fun z => congrArg V.int z.2⟩
        show Q (.bl (decide (V.int (x.1 * x.1) = V.int (N * x.2 * x.2 + 1)))) H
        rw [e]
        exact k
      · rw [decide_eq_false c2]
        refine iteF ?_
        rw [decide_eq_false (fun z : IsA N x => c2 z.1.2)] at k
        exact k
    · rw [decide_eq_false c1]
      refine iteF ?_
      rw [decide_eq_false (fun z : IsA N x => c1 z.1.1)] at k
      exact k
def spRefA (K : PySem.W.Frag) : Sp := fun vs H Q _ => ∃ (N : Int) (x : Int × Int) (t : Addr), vs = [.int N, .ref t] ∧ H t = some (.tup [.int x.1, .int x.2]) ∧ Sz N 64 ∧ Sz x.1 60000000 ∧ Sz x.2 60000000 ∧ IsA N x ∧ Q .non H
theorem kTup : PySem.W.kitOne K (.type "tuple") (.type "tuple") = some true := kit_ty (by decide +kernel)
theorem ok_refA (T : Tx K mg) : Okd P w K mg base 4 "_refuse_no_answer" ["number", "answer"] (spRefA K) := by
  have S : FnScope ["number", "answer"] ["number", "answer"] (defScope s__refuse_no_answer) := ⟨rfl, rfl, rfl, by decide +kernel, rfl, by decide +kernel, by decide +kernel⟩
  refine okd T.d__refuse_no_answer S (fun _ _ _ _ _ _ us hl => match us, hl with | [_, _], _ => rfl) (fun vs H Q E h => ?_) (fun f cdv A outer s H vs Q E hr h => ?_)
  · obtain ⟨N, x, t, rfl, _⟩ := h
    rfl
  · obtain ⟨N, x, t, rfl, hT, zN, z1, z2, ha, k⟩ := h
    refine ⟨_, pss_one (ps_if (PW.pt (pw_or (pt_not (pt_val (pe_callB call_isi (by rfl) T.b_isinstance bt_isi (pa_cons (pv 1) (pa_cons (pe_bltn (v := .ty "tuple") (by rfl) T.b_tuple bt_tuple rfl) pa_nil)))))
      (pw_or1 (pt_not (pt_val (pe_do (ok_isA T) hr (pa_cons (pv 0) (pa_cons (pv 1) pa_nil))))))))
      (pss_one ps_never) pss_nil), ?_⟩
    refine ⟨_, rfl, .ref t, _, _, _, true, rfl, .ty "tuple", .base (.tup hT), kTup, _, rfl, iteF ?_⟩
    refine ⟨_, rfl, _, rfl, N, x, t, rfl, SqT.of hT, zN, z1, z2, _, rfl, ?_⟩
    rw [decide_eq_true ha]
    exact iteF k
/-! ### the answers by their counts -/
theorem pw_isA {N : Int} (h : Ok N) (n : Nat) : IsA N (pw N n) := by
  obtain ⟨p, q, e⟩ := h.pwA n
  exact ⟨⟨by omega, q⟩, ans_eq e⟩
def spBy : Sp := fun vs H Q _ => ∃ (N : Int) (c : Nat), vs = [.int N, .int (c : Int)] ∧ Ok N ∧ c ≤ 100 ∧ Cap N c ∧ New H Q (pr (pw N c))
theorem ok_by (T : Tx K mg) : Okd P w K mg base 4 "answer_by" ["number", "count"] spBy := by
  have S : FnScope ["number", "count", "least", "one", "other", "_"] ["number", "count"] (defScope s_answer_by) := ⟨rfl, rfl, rfl, by decide +kernel, rfl, by decide +kernel, by decide +kernel⟩
  refine okd T.d_answer_by S (fun _ _ _ _ _ _ us hl => match us, hl with | [_, _], _ => rfl) (fun vs H Q E h => ?_) (fun f cdv A outer s H vs Q E hr h => ?_)
  · obtain ⟨N, c, rfl, _⟩ := h
    rfl
  · obtain ⟨N, c, rfl, ok, hc, cap, k⟩ := h
    have lo := ok.lo
    have hi := ok.hi
    refine ⟨_, pss_cons (ps_expr (pe_do (ok_refN T) hr (pa_cons (pv 0) pa_nil)))
      (pss_cons (ps_expr (pe_do (ok_refS T) hr (pa_cons (pv 0) pa_nil)))
      (pss_cons (ps_expr (pe_do (ok_refC T) hr (pa_cons (pv 1) pa_nil)))
      (pss_cons (ps_set (i := 2) S.nd rfl (.inl rfl) (pe_do (ok_least T) hr (pa_cons (pv 0) pa_nil)))
      (pss_cons (ps_asg (pe_tup (pa_cons pe_int (pa_cons pe_int pa_nil))) (pg_tup (by rfl) (pgs_cons (pg_name (i := 3) S.nd rfl (.inl rfl)) (pgs_cons (pg_name (i := 4) S.nd rfl (.inl rfl)) pgs_nil))))
      (pss_cons (ps_for PassesOwn.never rfl (pi_range1 (by rfl) T.b_range (pa_cons (pv 1) pa_nil)) (pg_name (i := 5) S.nd rfl (.inl rfl))
        (pss_one (ps_asg (pe_do (ok_put T) hr (pa_cons (pv 0) (pa_cons (pe_tup (pa_cons (pv 3) (pa_cons (pv 4) pa_nil))) (pa_cons (pv 2) pa_nil)))) (pg_tup (by rfl) (pgs_cons (pg_name (i := 3) S.nd rfl (.inl rfl)) (pgs_cons (pg_name (i := 4) S.nd rfl (.inl rfl)) pgs_nil))))))
      (pss_one (ps_ret (pe_tup (pa_cons (pv 3) (pa_cons (pv 4) pa_nil)))))))))), ?_⟩
    refine ⟨_, rfl, N, rfl, lo, hi, fun H1 s1 => ?_⟩
    refine ⟨_, rfl, N, rfl, by omega, by omega, ok.ns, ?_⟩
    refine ⟨_, rfl, _, rfl, by omega, by omega, fun H2 s2 => ?_⟩
    refine ⟨_, rfl, N, rfl, ok, fun H3 l s3 hl h3 => ?_⟩
    refine ⟨(by show 2 ≤ sizeLine; decide), fun t0 ht0 => ⟨t0, _, rfl, SqT.of upd_same, rfl, _, _, rfl, _, _, rfl, rfl, ?_⟩⟩
    have s4 := sm ((s1.trans s2).trans s3) ht0 (o := .tup [.int 1, .int 0])
    have h4 := same_upd ht0 (o := .tup [.int 1, .int 0]) _ _ h3
    refine ⟨_, rfl, _, rfl, by omega, by omega, for_range (lo := 0) (n := ((c : Int)).toNat) (fun i σ H' => ∃ b, σ = [some (.int N), some (.int (c : Int)), some (.ref l), some (.int (pw N i).1), some (.int (pw N i).2), b] ∧ Same H H' ∧ H' l = some (pr (least N))) ⟨none, rfl, s4, h4⟩ ?_ ?_⟩
    · rintro i σ H' hi' ⟨b, rfl, s5, h5⟩
      obtain ⟨a1, a2, y1, y2, y3, y4, hij⟩ := cap.two ok (m1 := i) (m2 := 1) (by omega)
      rw [pw_one] at y3 y4
      refine ⟨_, rfl, _, rfl, _, rfl, (by show 2 ≤ sizeLine; decide), fun t ht => ?_⟩
      refine ⟨_, rfl, N, pw N i, least N, t, l, a1, a2, rfl, SqT.of upd_same, SqT.of (same_upd ht _ _ h5), zN_of ok, y1, y2, y3, y4, hij, fun H6 q s6 hq h6 => ?_⟩
      refine ⟨q, _, rfl, SqT.of h6, rfl, _, _, rfl, _, _, rfl, rfl, ?_⟩
      exact ⟨_, rfl, (sm s5 ht).trans s6, s6 _ _ (same_upd ht _ _ h5)⟩
    · rintro σ H' ⟨b, rfl, s5, h5⟩
      refine ⟨_, rfl, _, rfl, (by show 2 ≤ sizeLine; decide), fun p hp => ?_⟩
      rw [Int.toNat_natCast]
      exact k _ p (sm s5 hp) (s5.free hp) upd_same
/-! ### two put together -/
def spTog : Sp := fun vs H Q _ => ∃ (N : Int) (x y : Int × Int) (s t : Addr) (i j : Nat), vs = [.int N, .ref s, .ref t] ∧ 2 ≤ N ∧ N ≤ 1000000 ∧ H s = some (pr x) ∧ H t = some (pr y) ∧ Sz x.1 60000000 ∧ Sz x.2 60000000 ∧ Sz y.1 60000000 ∧ Sz y.2 60000000 ∧ IsA N x ∧ IsA N y ∧ New H Q (pr (put N x y))
theorem ok_tog (T : Tx K mg) : Okd P w K mg base 5 "together" ["number", "one", "other"] spTog := by
  have S : FnScope ["number", "one", "other"] ["number", "one", "other"] (defScope s_together) := ⟨rfl, rfl, rfl, by decide +kernel, rfl, by decide +kernel, by decide +kernel⟩
  refine okd T.d_together S (fun _ _ _ _ _ _ us hl => match us, hl with | [_, _, _], _ => rfl) (fun vs H Q E h => ?_) (fun f cdv A outer s H vs Q E hr h => ?_)
  · obtain ⟨N, x, y, s, t, i, j, rfl, _⟩ := h
    rfl
  · obtain ⟨N, x, y, a, b, i, j, rfl, lo, hi, hA, hB, z1, z2, z3, z4, a1, a2, k⟩ := h
    refine ⟨_, pss_cons (ps_expr (pe_do (ok_refN T) hr (pa_cons (pv 0) pa_nil)))
      (pss_cons (ps_expr (pe_do (ok_refA T) hr (pa_cons (pv 0) (pa_cons (pv 1) pa_nil))))
      (pss_cons (ps_expr (pe_do (ok_refA T) hr (pa_cons (pv 0) (pa_cons (pv 2) pa_nil))))
      (pss_one (ps_ret (pe_do (ok_put T) hr (pa_cons (pv 0) (pa_cons (pv 1) (pa_cons (pv 2) pa_nil)))))))), ?_⟩
    have zN := inr_sz lo hi
    refine ⟨_, rfl, N, rfl, lo, hi, fun H1 s1 => ?_⟩
    refine ⟨_, rfl, _, rfl, N, x, a, rfl, s1 _ _ hA, zN, z1, z2, a1, ?_⟩
    refine ⟨_, rfl, _, rfl, N, y, b, rfl, s1 _ _ hB, zN, z3, z4, a2, ?_⟩
    refine ⟨_, rfl, _, rfl, _, rfl, N, x, y, a, b, _, _, rfl, SqT.of (s1 _ _ hA), SqT.of (s1 _ _ hB), zN, z1, z2, z3, z4, by decide, fun H2 p s2 hp h2 => ?_⟩
    exact k _ p (s1.trans s2) (s1.free hp) h2
/-! ### the steps of doubled counts -/
structure Steps (N : Int) (H : Hp) (p : Addr) (ts : List Addr) : Prop where
  l : H p = some (.lst (ts.map V.ref))
  e : ∀ i t, ts[i]? = some t → ∃ s, H t = some (.tup [.int ((2 ^ i : Nat) : Int), .ref s]) ∧ H s = some (pr (pw N (2 ^ i)))
theorem Steps.keep {N : Int} {H H' : Hp} {p : Addr} {ts : List Addr} (h : Steps N H p ts) (s : Same H H') : Steps N H' p ts :=
  ⟨s _ _ h.l, fun i t ht => let ⟨q, a, b⟩ := h.e i t ht; ⟨q, s _ _ a, s _ _ b⟩⟩
def spDbl : Sp := fun vs H Q _ => ∃ (N : Int) (n : Nat), vs = [.int N, .int (pw N n).1] ∧ Ok N ∧ Cap N n ∧ n ≤ 1000 ∧
  ∀ H' p ts k, Same H H' → H p = none → Steps N H' p ts → ts.length = k + 1 → n ≤ 2 ^ k → (∀ i, i < k → 2 ^ i < n) → Q (.ref p) H'
theorem ok_dbl (T : Tx K mg) : Okd P w K mg base 4 "_doubled_steps" ["number", "sought"] spDbl := by
  have S : FnScope ["number", "sought", "many", "step", "steps"] ["number", "sought"] (defScope s__doubled_steps) := ⟨rfl, rfl, rfl, by decide +kernel, rfl, by decide +kernel, by decide +kernel⟩
  refine okd T.d__doubled_steps S (fun _ _ _ _ _ _ us hl => match us, hl with | [_, _], _ => rfl) (fun vs H Q E h => ?_) (fun f cdv A outer s H vs Q E hr h => ?_)
  · obtain ⟨N, n, rfl, _⟩ := h
    rfl
  · obtain ⟨N, n, rfl, ok, cap, hn, k⟩ := h
    refine ⟨_, pss_cons (ps_set (i := 2) S.nd rfl (.inl rfl) pe_int)
      (pss_cons (ps_set (i := 3) S.nd rfl (.inl rfl) (pe_do (ok_least T) hr (pa_cons (pv 0) pa_nil)))
      (pss_cons (ps_set (i := 4) S.nd rfl (.inl rfl) (pe_lst (pa_cons (pe_tup (pa_cons (pv 2) (pa_cons (pv 3) pa_nil))) pa_nil)))
      (pss_cons (ps_while PassesOwn.never (pt_cmpR op_lt (pe_ix ix_tup (pv 3) pe_int (fun _ _ => rfl)) (pv 1) (nomark _))
        (pss_cons (ps_set (i := 2) S.nd rfl (.inl rfl) (pe_op op_mul pe_int (pv 2)))
        (pss_cons (ps_set (i := 3) S.nd rfl (.inl rfl) (pe_do (ok_put T) hr (pa_cons (pv 0) (pa_cons (pv 3) (pa_cons (pv 3) pa_nil)))))
        (pss_one (ps_expr (pe_bm PySem.F.plainAttrs_list PySem.F.slot_list_append PySem.F.type_list_append mt_append (pv 4) (pa_cons (pe_tup (pa_cons (pv 2) (pa_cons (pv 3) pa_nil))) pa_nil)))))))
      (pss_one (ps_ret (pv 4)))))), ?_⟩
    refine ⟨_, rfl, N, rfl, ok, fun H1 s s1 hs h1 => ?_⟩
    refine ⟨_, rfl, _, rfl, (by show 2 ≤ sizeLine; decide), fun t ht => ⟨(by show 1 ≤ sizeLine; decide), fun p hp => ?_⟩⟩
    have st := same_upd ht (o := .tup [.int 1, .ref s])
    have sp' := same_upd hp (o := .lst [.ref t])
    have p0 : H p = none := s1.free (st.free hp)
    refine while_by (fun σ H' => ∃ (i : Nat) (ts : List Addr) (s : Addr), σ = [some (.int N), some (.int (pw N n).1), some (.int ((2 ^ i : Nat) : Int)), some (.ref s), some (.ref p)] ∧ Same H H' ∧ Steps N H' p ts ∧ ts.length = i + 1 ∧ H' s = some (pr (pw N (2 ^ i))) ∧ ∀ j, j < i → 2 ^ j < n)
      (fun σ _ => match σ with | [_, _, some (.int m), _, _] => n - m.toNat | _ => 0) ⟨0, [t], s, rfl, (s1.trans st).trans sp', ⟨upd_same, ?_⟩, rfl, ?_, fun j hj => absurd hj (Nat.not_lt_zero j)⟩ ?_ ?_
    · intro i t' h'
      cases i with
      | zero =>
        cases h'
        exact ⟨s, sp' _ _ upd_same, sp' _ _ (st _ _ (by rw [h1, ← pw_one]))⟩
      | succ i => cases h'
    · exact sp' _ _ (st _ _ (by rw [h1, ← pw_one]))
    · rintro σ H' ⟨i, ts, s', rfl, s2, stp, hlen, hs', hlt⟩
      have a0 : atI [V.int (pw N (2 ^ i)).1, V.int (pw N (2 ^ i)).2] 0 = some (.int (pw N (2 ^ i)).1) := rfl
      refine ⟨_, rfl, s', _, _, _, rfl, rfl, SqT.of hs', a0, _, rfl, _, _, rfl, rfl, _, rfl, ?_⟩
      by_cases c : 2 ^ i < n
      · have c' : (pw N (2 ^ i)).1 < (pw N n).1 := by
          rcases Int.lt_or_le (pw N (2 ^ i)).1 (pw N n).1 with d | d
          · exact d
          · have := ok.pw_le_iff.mp d
            omega
        rw [decide_eq_true c']
        obtain ⟨a1, a2, y1, y2, y3, y4, hij⟩ := cap.two ok (m1 := 2 ^ i) (m2 := 2 ^ i) (by omega)
        refine iteT ⟨_, rfl, _, _, rfl, rfl, .inl (by decide), ?_⟩
        refine ⟨_, rfl, _, rfl, _, rfl, N, pw N (2 ^ i), pw N (2 ^ i), s', s', a1, a2, rfl, SqT.of hs', SqT.of hs', zN_of ok, y1, y2, y3, y4, hij, fun H3 q s3 hq h3 => ?_⟩
        have e2 : put N (pw N (2 ^ i)) (pw N (2 ^ i)) = pw N (2 ^ (i + 1)) := by rw [← pw_add, Nat.pow_succ, Nat.mul_two]
        rw [e2] at h3
        have stp3 := stp.keep s3
        refine ⟨_, rfl, .inl ⟨rfl, _, SqL.of stp3.l⟩, _, rfl, _, rfl, (by show 2 ≤ sizeLine; decide), fun u hu => ?_⟩
        have su := same_upd hu (o := .tup [.int (2 * ((2 ^ i : Nat) : Int)), .ref q])
        have stpu := stp3.keep su
        have npu : p ≠ u := ne_of_none stp3.l hu
        have hi10 : i < 1000 := by
          have : i < 2 ^ i := Nat.lt_two_pow_self
          omega
        refine ⟨p, _, _, rfl, rfl, stpu.l, by rw [List.length_map, hlen, line_eq]; omega, ?_⟩
        have em : (2 * ((2 ^ i : Nat) : Int)) = ((2 ^ (i + 1) : Nat) : Int) := by rw [Nat.pow_succ]; omega
        have hpu : ∀ {b : Addr} {o : HO}, b ≠ p → (upd (upd H3 u (.tup [.int (2 * ((2 ^ i : Nat) : Int)), .ref q])) p (.lst (ts.map V.ref ++ [.ref u]))) b = (upd H3 u (.tup [.int (2 * ((2 ^ i : Nat) : Int)), .ref q])) b := fun hb => upd_ne hb
        refine ⟨⟨i + 1, ts ++ [u], q, ?_, sm0 ((s2.trans s3).trans su) p0, ⟨?_, ?_⟩, by rw [List.length_append, hlen]; rfl, ?_, ?_⟩, ?_⟩
        · show [_, _, some (V.int (2 * ((2 ^ i : Nat) : Int))), _, _] = _
          rw [em]
        · rw [upd_same, List.map_append]
          rfl
        · intro j t' ht'
          have ntp : ∀ {b : Addr} {o : List V}, (upd H3 u (.tup [.int (2 * ((2 ^ i : Nat) : Int)), .ref q])) b = some (.tup o) → b ≠ p := fun e => ne_of e stpu.l (by intro z; cases z)
          rcases Nat.lt_or_ge j ts.length with d | d
          · rw [List.getElem?_append_left d] at ht'
            obtain ⟨s5, g1, g2⟩ := stpu.e j t' ht'
            exact ⟨s5, (upd_ne (ntp g1)).trans g1, (upd_ne (ntp g2)).trans g2⟩
          · have ej : j = i + 1 := by
              have := (List.getElem?_eq_some_iff.mp ht').1
              rw [List.length_append, List.length_singleton] at this
              omega
            subst ej
            rw [List.getElem?_append_right (by omega), hlen] at ht'
            obtain rfl : t' = u := by simpa using ht'.symm
            have g1 : (upd H3 t' (.tup [.int (2 * ((2 ^ i : Nat) : Int)), .ref q])) t' = some (.tup [.int (2 * ((2 ^ i : Nat) : Int)), .ref q]) := upd_same
            have g2 := su _ _ h3
            refine ⟨q, (upd_ne (ntp g1)).trans (by rw [g1, em]), (upd_ne (ntp g2)).trans g2⟩
        · have g2 := su _ _ h3
          exact (upd_ne (ne_of g2 stpu.l (by intro z; cases z))).trans g2
        · intro j hj
          rcases Nat.lt_or_ge j i with d | d
          · exact hlt j d
          · have : j = i := by omega
            rw [this]; exact c
        · show n - (2 * ((2 ^ i : Nat) : Int)).toNat < n - (((2 ^ i : Nat) : Int)).toNat
          have p2 : 0 < 2 ^ i := Nat.two_pow_pos i
          omega
      · have c' : ¬ (pw N (2 ^ i)).1 < (pw N n).1 := by
          have := ok.pw_le_iff.mpr (show n ≤ 2 ^ i by omega)
          omega
        rw [decide_eq_false c']
        exact iteF ⟨_, rfl, k _ p ts i s2 p0 stp hlen (by omega) hlt⟩
    · intro σ H' Q1 Q2 hq h
      obtain ⟨a, ha, p1, xs, i, v, e1, e2, e3, e4, b, hb, x1, x2, g1, g2, kk, hk, q3⟩ := h
      exact ⟨a, ha, p1, xs, i, v, e1, e2, e3, e4, b, hb, x1, x2, g1, g2, kk, hk, hq _ _ q3⟩
/-! ### the count of an answer -/
def spCount : Sp := fun vs H Q _ => ∃ (N : Int) (n : Nat) (t : Addr), vs = [.int N, .ref t] ∧ Ok N ∧ Cap N n ∧ n ≤ 1000 ∧ H t = some (pr (pw N n)) ∧ Back H Q (.int (n : Int))
theorem ok_count (T : Tx K mg) : Okd P w K mg base 5 "count_of" ["number", "answer"] spCount := by
  have S : FnScope ["number", "answer", "sought", "_", "count", "reached", "steps", "many", "step", "further"] ["number", "answer"] (defScope s_count_of) := ⟨rfl, rfl, rfl, by decide +kernel, rfl, by decide +kernel, by decide +kernel⟩
  refine okd T.d_count_of S (fun _ _ _ _ _ _ us hl => match us, hl with | [_, _], _ => rfl) (fun vs H Q E h => ?_) (fun f cdv A outer s H vs Q E hr h => ?_)
  · obtain ⟨N, n, t, rfl, _⟩ := h
    rfl
  · obtain ⟨N, n, t, rfl, ok, cap, hn, hT, k⟩ := h
    have lo := ok.lo
    have hi := ok.hi
    refine ⟨_, pss_cons (ps_expr (pe_do (ok_refN T) hr (pa_cons (pv 0) pa_nil)))
      (pss_cons (ps_expr (pe_do (ok_refS T) hr (pa_cons (pv 0) pa_nil)))
      (pss_cons (ps_expr (pe_do (ok_refA T) hr (pa_cons (pv 0) (pa_cons (pv 1) pa_nil))))
      (pss_cons (ps_asg (pv 1) (pg_tup (by rfl) (pgs_cons (pg_name (i := 2) S.nd rfl (.inl rfl)) (pgs_cons (pg_name (i := 3) S.nd rfl (.inl rfl)) pgs_nil))))
      (pss_cons (ps_set (i := 4) S.nd rfl (.inl rfl) pe_int)
      (pss_cons (ps_set (i := 5) S.nd rfl (.inl rfl) (pe_tup (pa_cons pe_int (pa_cons pe_int pa_nil))))
      (pss_cons (ps_set (i := 6) S.nd rfl (.inl rfl) (pe_do (ok_dbl T) hr (pa_cons (pv 0) (pa_cons (pv 2) pa_nil))))
      (pss_cons (ps_for PassesOwn.never rfl (pi_reversed (by rfl) T.b_reversed (pa_cons (pv 6) pa_nil)) (pg_tup (by rfl) (pgs_cons (pg_name (i := 7) S.nd rfl (.inl rfl)) (pgs_cons (pg_name (i := 8) S.nd rfl (.inl rfl)) pgs_nil)))
        (pss_cons (ps_set (i := 9) S.nd rfl (.inl rfl) (pe_do (ok_put T) hr (pa_cons (pv 0) (pa_cons (pv 5) (pa_cons (pv 8) pa_nil)))))
        (pss_one (ps_if (pt_cmpR op_le (pe_ix ix_tup (pv 9) pe_int (fun _ _ => rfl)) (pv 2) (nomark _))
          (pss_cons (ps_aug (i := 4) S.nd rfl (.inl rfl) (pv 7) ip_add) (pss_one (ps_set (i := 5) S.nd rfl (.inl rfl) (pv 9)))) pss_nil))))
      (pss_one (ps_ret (pv 4)))))))))), ?_⟩
    obtain ⟨y1, y2⟩ := cap.one ok (Nat.le_refl n)
    refine ⟨_, rfl, N, rfl, lo, hi, fun H1 s1 => ?_⟩
    refine ⟨_, rfl, N, rfl, by omega, by omega, ok.ns, ?_⟩
    refine ⟨_, rfl, _, rfl, N, pw N n, t, rfl, s1 _ _ hT, zN_of ok, y1, y2, pw_isA ok n, ?_⟩
    refine ⟨_, rfl, t, _, rfl, SqT.of (s1 _ _ hT), rfl, _, _, rfl, _, _, rfl, rfl, ?_⟩
    refine ⟨(by show 2 ≤ sizeLine; decide), fun r hr0 => ?_⟩
    have sr := same_upd hr0 (o := .tup [.int 1, .int 0])
    refine ⟨_, rfl, _, rfl, N, n, rfl, ok, cap, hn, fun H2 p ts kk s2 hp stp hlen hk hlt => ?_⟩
    have sA := (s1.trans sr).trans s2
    have hr2 : H2 r = some (pr (pw N 0)) := s2 _ _ upd_same
    refine ⟨_, rfl, p, ts.map V.ref, rfl, SqL.of stp.l, ?_⟩
    refine RT.for_Itv (K := K) (a := p) (xs := ts.map V.ref) (fun i σ H' => ∃ (c : Nat) (r : Addr) (b1 b2 b3 : Option V), σ = [some (.int N), some (.ref t), some (.int (pw N n).1), some (.int (pw N n).2), some (.int (c : Int)), some (.ref r), some (.ref p), b1, b2, b3] ∧ Same H2 H' ∧ H' r = some (pr (pw N c)) ∧ c ≤ n ∧ i ≤ kk + 1 ∧ n < c + 2 ^ (kk + 1 - i))
      ⟨0, r, _, _, _, rfl, Same.refl _, hr2, Nat.zero_le _, Nat.zero_le _, ?_⟩ (fun i σ H' h => ?_) ?_ ?_
    · rw [Nat.sub_zero, Nat.pow_succ]
      have p2 : 0 < 2 ^ kk := Nat.two_pow_pos kk
      omega
    · obtain ⟨_, _, _, _, _, _, s, _⟩ := h
      exact SqL.of (s _ _ stp.l)
    · rintro i x σ H' hi' hx ⟨c, r', b1, b2, b3, rfl, s3, hr3, hcn, hik, hbd⟩
      rw [List.length_map, hlen] at hi' hx
      rw [List.getElem?_map] at hx
      obtain ⟨t', ht', rfl⟩ : ∃ t', ts[kk + 1 - 1 - i]? = some t' ∧ x = V.ref t' := by
        cases e : ts[kk + 1 - 1 - i]? with
        | none => rw [e] at hx; cases hx
        | some t' =>
          rw [e] at hx
          exact ⟨t', rfl, (Option.some.inj hx).symm⟩
      have ei : kk + 1 - 1 - i = kk - i := by omega
      rw [ei] at ht'
      obtain ⟨s', g1, g2⟩ := stp.e _ t' ht'
      have f1 := s3 _ _ g1
      have f2 := s3 _ _ g2
      have hm2 : 2 ^ (kk - i) ≤ 2 * n + 1 := by
        cases Nat.eq_zero_or_pos (kk - i) with
        | inl z => rw [z]; omega
        | inr z =>
          have := hlt (kk - i - 1) (by omega)
          have e : 2 ^ (kk - i) = 2 ^ (kk - i - 1) * 2 := by rw [← Nat.pow_succ]; congr 1; omega
          omega
      obtain ⟨a1, a2, w1, w2, w3, w4, hij⟩ := cap.two ok (m1 := c) (m2 := 2 ^ (kk - i)) (by omega)
      refine ⟨t', _, rfl, SqT.of f1, rfl, _, _, rfl, _, _, rfl, rfl, ?_⟩
      refine ⟨_, rfl, _, rfl, _, rfl, N, pw N c, pw N (2 ^ (kk - i)), r', s', a1, a2, rfl, SqT.of hr3, SqT.of f2, zN_of ok, w1, w2, w3, w4, hij, fun H4 q s4 hq h4 => ?_⟩
      rw [← pw_add] at h4
      have a0 : atI [V.int (pw N (c + 2 ^ (kk - i))).1, V.int (pw N (c + 2 ^ (kk - i))).2] 0 = some (.int (pw N (c + 2 ^ (kk - i))).1) := rfl
      refine ⟨_, rfl, q, _, _, _, rfl, rfl, SqT.of h4, a0, _, rfl, _, _, rfl, rfl, _, rfl, ?_⟩
      have ek : kk + 1 - i = kk - i + 1 := by omega
      rw [ek, Nat.pow_succ] at hbd
      have ek2 : kk + 1 - (i + 1) = kk - i := by omega
      by_cases d : c + 2 ^ (kk - i) ≤ n
      · rw [decide_eq_true (ok.pw_le_iff.mpr d)]
        refine iteT ⟨_, rfl, _, rfl, _, _, rfl, rfl, _, rfl, ?_⟩
        refine ⟨c + 2 ^ (kk - i), q, some (.int ((2 ^ (kk - i) : Nat) : Int)), some (.ref s'), some (.ref q), ?_, s3.trans s4, h4, d, by omega, by rw [ek2]; omega⟩
        rw [Int.natCast_add]
        rfl
      · rw [decide_eq_false fun z => d (ok.pw_le_iff.mp z)]
        refine iteF ⟨c, r', _, _, _, rfl, s3.trans s4, s4 _ _ hr3, hcn, by omega, by rw [ek2]; omega⟩
    · rintro σ H' ⟨c, r', b1, b2, b3, rfl, s3, hr3, hcn, hik, hbd⟩
      rw [List.length_map, hlen, Nat.sub_self] at hbd
      have : c = n := by omega
      subst this
      exact ⟨_, rfl, k _ (sA.trans s3)⟩
end
end OA

namespace OA
open PySem L2 PyProof.Rows
/-- no whole number from 0 -/
def Neg (H : Hp) (x : V) : Prop := Odd H x ∨ ∃ i : Int, x = .int i ∧ i < 0
theorem Neg.same {H H' : Hp} {x : V} (s : Same H H') (h : Neg H x) : Neg H' x := h.imp (Odd.same s) id
def NotAns (N : Int) (H : Hp) (xs : List V) : Prop := xs.length ≠ 2 ∨ ∃ x y, xs = [x, y] ∧ (Neg H x ∨ ∃ i : Int, x = .int i ∧ 0 ≤ i ∧ (Neg H y ∨ ∃ j : Int, y = .int j ∧ 0 ≤ j ∧ Sz i 30000000 ∧ Sz j 30000000 ∧ i * i ≠ N * j * j + 1))
theorem NotAns.same {N : Int} {H H' : Hp} {xs : List V} (s : Same H H') (h : NotAns N H xs) : NotAns N H' xs := by
  rcases h with h | ⟨x, y, e, h⟩
  · exact .inl h
  · refine .inr ⟨x, y, e, ?_⟩
    rcases h with h | ⟨i, e1, i0, h⟩
    · exact .inl (h.same s)
    · exact .inr ⟨i, e1, i0, h.imp (Neg.same s) id⟩
inductive NoTup (H : Hp) : V → Prop where
  | non : NoTup H .non
  | bl (b : Bool) : NoTup H (.bl b)
  | int (i : Int) : NoTup H (.int i)
  | str (z : Str) : NoTup H (.str z)
  | lst {a : Addr} {xs : List V} (e : H a = some (.lst xs)) : NoTup H (.ref a)
  | dct {a : Addr} {kvs : List (Key × V)} (e : H a = some (.dK kvs)) : NoTup H (.ref a)
theorem NoTup.same {H H' : Hp} {x : V} (s : Same H H') (h : NoTup H x) : NoTup H' x := by
  cases h with
  | non => exact .non
  | bl b => exact .bl b
  | int i => exact .int i
  | str z => exact .str z
  | lst e => exact .lst (s _ _ e)
  | dct e => exact .dct (s _ _ e)
theorem NoTup.ty {K : PySem.W.Frag} {H : Hp} {x : V} (h : NoTup H x) : ∃ t : Value, TyX K H x t ∧ PySem.W.kitOne K t (.type "tuple") = some false := by
  cases h with
  | non => exact ⟨_, .base .non, kit_ty (by decide +kernel)⟩
  | bl b => exact ⟨_, .base (.bl b), kit_ty (by decide +kernel)⟩
  | int i => exact ⟨_, .base (.int i), kit_ty (by decide +kernel)⟩
  | str z => exact ⟨_, .base (.str z), kit_ty (by decide +kernel)⟩
  | lst e => exact ⟨_, .base (.lst e), kit_ty (by decide +kernel)⟩
  | dct e => exact ⟨_, .base (.dK e), kit_ty (by decide +kernel)⟩
def BadA (N : Int) (H : Hp) (x : V) : Prop := NoTup H x ∨ ∃ a xs, x = .ref a ∧ H a = some (.tup xs) ∧ NotAns N H xs
theorem BadA.same {N : Int} {H H' : Hp} {x : V} (s : Same H H') (h : BadA N H x) : BadA N H' x := by
  rcases h with h | ⟨a, xs, e, e1, h⟩
  · exact .inl (h.same s)
  · exact .inr ⟨a, xs, e, s _ _ e1, h.same s⟩
section
variable {P : Program} {w : World} {K : PySem.W.Frag} {mg : Str → Option Value} {base : Heap} {eP eN eI eW eC : Addr}
def spFrom0 : Sp := fun vs H Q _ => ∃ x, vs = [x] ∧ ((Neg H x ∧ Q (.bl false) H) ∨ ∃ i : Int, x = .int i ∧ 0 ≤ i ∧ Q (.bl true) H)
theorem x_from (T : Tx K mg) : Okd P w K mg base 2 "_is_from_0" ["value"] spFrom0 := by
  have S : FnScope ["value"] ["value"] (defScope s__is_from_0) := ⟨rfl, rfl, rfl, by decide +kernel, rfl, by decide +kernel, by decide +kernel⟩
  refine okd T.d__is_from_0 S (fun _ _ _ _ _ _ us hl => match us, hl with | [_], _ => rfl) (fun vs H Q E h => ?_) (fun f cdv A outer s H vs Q E hr h => ?_)
  · obtain ⟨x, rfl, _⟩ := h
    rfl
  · obtain ⟨x, rfl, h⟩ := h
    refine ⟨_, pss_one (ps_ret (pe_and (pe_do (ok_whole T) hr (pa_cons (pv 0) pa_nil)) (pe_one (pe_cmpR op_ge (pv 0) pe_int (nomark _))))), ?_⟩
    have num : ∀ i : Int, Q (.bl (decide (0 ≤ i))) H → (tRet (tAndV (tCall (spWhole K) [] E0 (tCons (tVar 0) tNil)) (tOp (rI0 fun i j => .bl (decide (j ≤ i))) (tVar 0) (tC (.int 0)))) { nx := fun _ H' => Q .non H', rt := Q } (L2.start ["value"] [.int i]) H) := fun i k => by
      refine ⟨_, rfl, .int i, _, true, false, rfl, .base (.int i), kInt, fun _ => kIntB, true, rfl, iteT ⟨_, rfl, _, _, rfl, rfl, ?_⟩⟩
      exact k
    rcases h with ⟨hx, k⟩ | ⟨i, rfl, i0, k⟩
    · rcases hx with hx | ⟨i, rfl, i0⟩
      · obtain ⟨t, b, ty, h1, h2⟩ := hx.ty (K := K)
        refine ⟨_, rfl, x, t, b, true, rfl, ty, h1, h2, b && !true, rfl, ?_⟩
        rw [show (b && !true) = false by cases b <;> rfl]
        exact iteF k
      · refine num i ?_
        rw [decide_eq_false (show ¬ 0 ≤ i by omega)]
        exact k
    · refine num i ?_
      rw [decide_eq_true i0]
      exact k
def spIsAX : Sp := fun vs H Q _ => ∃ (N : Int) (xs : List V) (t : Addr), vs = [.int N, .ref t] ∧ H t = some (.tup xs) ∧ Sz N 64 ∧ NotAns N H xs ∧ Q (.bl false) H
theorem x_isA (T : Tx K mg) : Okd P w K mg base 3 "_is_answer" ["number", "pair"] spIsAX := by
  have S : FnScope ["number", "pair", "one", "other"] ["number", "pair"] (defScope s__is_answer) := ⟨rfl, rfl, rfl, by decide +kernel, rfl, by decide +kernel, by decide +kernel⟩
  refine okd T.d__is_answer S (fun _ _ _ _ _ _ us hl => match us, hl with | [_, _], _ => rfl) (fun vs H Q E h => ?_) (fun f cdv A outer s H vs Q E hr h => ?_)
  · obtain ⟨N, x, t, rfl, _⟩ := h
    rfl
  · obtain ⟨N, xs, t, rfl, hT, zN, h, k⟩ := h
    refine ⟨_, pss_one (ps_match2 (i := 2) (j := 3) rfl S.nd rfl rfl rfl rfl (pv 1)
      (pss_one (ps_ret (pe_and (pe_do (x_from T) hr (pa_cons (pv 2) pa_nil)) (pe_and (pe_do (x_from T) hr (pa_cons (pv 3) pa_nil)) (pe_one (pe_cmpR op_eq (pe_op op_mulI (pv 2) (pv 2)) (pe_op op_add (pe_op op_mulI (pe_op op_mulI (pv 0) (pv 3)) (pv 3)) pe_int) (nomark _)))))))
      (pss_one (ps_ret pe_bl))), ?_⟩
    rcases h with h | ⟨x, y, rfl, h⟩
    · exact ⟨_, rfl, t, _, rfl, SqT.of hT, .inr ⟨h, k⟩⟩
    · refine ⟨_, rfl, t, _, rfl, SqT.of hT, .inl ⟨_, _, rfl, ?_⟩⟩
      rcases h with h | ⟨i, rfl, i0, h⟩
      · exact ⟨_, rfl, x, rfl, .inl ⟨h, _, rfl, iteF k⟩⟩
      · refine ⟨_, rfl, _, rfl, .inr ⟨i, rfl, i0, _, rfl, iteT ?_⟩⟩
        rcases h with h | ⟨j, rfl, j0, zi, zj, ne⟩
        · exact ⟨_, rfl, y, rfl, .inl ⟨h, _, rfl, iteF k⟩⟩
        · refine ⟨_, rfl, _, rfl, .inr ⟨j, rfl, j0, _, rfl, iteT ?_⟩⟩
          refine ⟨_, rfl, _, rfl, _, _, rfl, rfl, zi.ok zi (by decide), _, rfl, _, rfl, _, _, rfl, rfl, zN.ok zj (by decide), _, rfl, _, _, rfl, rfl, (zN.mul zj).ok zj (by decide), _, _, rfl, rfl, rfl, ?_⟩
          show Q (.bl (decide (V.int (i * i) = V.int (N * j * j + 1)))) H
          rw [decide_eq_false (fun z => ne (V.int.inj z))]
          exact k
def spRefAX (eW : Addr) : Sp := fun vs H _ E => ∃ (N : Int) (x : V), vs = [.int N, x] ∧ Sz N 64 ∧ BadA N H x ∧ Out H E eW
theorem x_refA (T : Tx K mg) (V : Te K mg eP eN eI eW eC) : Okx P w K mg base 4 "_refuse_no_answer" ["number", "answer"] (spRefAX eW) := by
  have S : FnScope ["number", "answer"] ["number", "answer"] (defScope s__refuse_no_answer) := ⟨rfl, rfl, rfl, by decide +kernel, rfl, by decide +kernel, by decide +kernel⟩
  refine okx T.d__refuse_no_answer S (fun _ _ _ _ _ _ us hl => match us, hl with | [_, _], _ => rfl) (fun vs H Q E h => ?_) (fun f cdv A outer s H vs Q E hr h => ?_)
  · obtain ⟨N, x, rfl, _⟩ := h
    rfl
  · obtain ⟨N, x, rfl, zN, hx, k⟩ := h
    refine ⟨_, pss_one (ps_if (PW.pt (pw_or (pt_not (pt_val (pe_callB call_isi (by rfl) T.b_isinstance bt_isi (pa_cons (pv 1) (pa_cons (pe_bltn (v := .ty "tuple") (by rfl) T.b_tuple bt_tuple rfl) pa_nil)))))
      (pw_or1 (pt_not (pt_val (pe_do (x_isA T) hr (pa_cons (pv 0) (pa_cons (pv 1) pa_nil))))))))
      (pss_one (L2N.ps_raise rfl (L2N.takes_of rfl rfl rfl rfl) (L2N.pmk_own PySem.F.excBase_ValueError V.xW V.gW V.pW (raises_own V.bW V.tW) rfl))) pss_nil), ?_⟩
    rcases hx with hx | ⟨a, xs, rfl, ha, hx⟩
    · obtain ⟨t, ty, h1⟩ := hx.ty (K := K)
      refine ⟨_, rfl, x, _, t, _, false, rfl, .ty "tuple", ty, h1, _, rfl, iteT ?_⟩
      exact k _ (Same.refl _)
    · refine ⟨_, rfl, .ref a, _, _, _, true, rfl, .ty "tuple", .base (.tup ha), kTup, _, rfl, iteF ?_⟩
      refine ⟨_, rfl, _, rfl, N, xs, a, rfl, ha, zN, hx, _, rfl, iteT ?_⟩
      exact k _ (Same.refl _)
/-! ### the doors -/
def spBad1 (eN : Addr) : Sp := fun vs H _ E => ∃ x, vs = [x] ∧ BadN H x ∧ Out H E eN
theorem x_told (T : Tx K mg) (V : Te K mg eP eN eI eW eC) : Okx P w K mg base 3 "told" ["number"] (spBad1 eN) := by
  have S : FnScope ["number", "one", "other"] ["number"] (defScope s_told) := ⟨rfl, rfl, rfl, by decide +kernel, rfl, by decide +kernel, by decide +kernel⟩
  refine okx T.d_told S (fun _ _ _ _ _ _ us hl => match us, hl with | [_], _ => rfl) (fun vs H Q E h => ?_) (fun f cdv A outer s H vs Q E hr h => ?_)
  · obtain ⟨x, rfl, _⟩ := h
    rfl
  · obtain ⟨x, rfl, hx, k⟩ := h
    exact ⟨_, pss_cons (ps_expr (pe_dox (x_refN T V) (L2N.takes_of rfl rfl rfl rfl) hr (pa_cons (pv 0) pa_nil))) pss_any, _, rfl, x, rfl, hx, k⟩
theorem x_less (T : Tx K mg) (V : Te K mg eP eN eI eW eC) : Okx P w K mg base 3 "less" ["number"] (spBad1 eN) := by
  have S : FnScope ["number", "pair", "one", "other"] ["number"] (defScope s_less) := ⟨rfl, rfl, rfl, by decide +kernel, rfl, by decide +kernel, by decide +kernel⟩
  refine okx T.d_less S (fun _ _ _ _ _ _ us hl => match us, hl with | [_], _ => rfl) (fun vs H Q E h => ?_) (fun f cdv A outer s H vs Q E hr h => ?_)
  · obtain ⟨x, rfl, _⟩ := h
    rfl
  · obtain ⟨x, rfl, hx, k⟩ := h
    exact ⟨_, pss_cons (ps_expr (pe_dox (x_refN T V) (L2N.takes_of rfl rfl rfl rfl) hr (pa_cons (pv 0) pa_nil))) pss_any, _, rfl, x, rfl, hx, k⟩
/-- a number that is none, or a square -/
def BadS (H : Hp) (E : XK) (eN eI : Addr) (x : V) : Prop := (BadN H x ∧ Out H E eN) ∨ ∃ N : Int, x = .int N ∧ 2 ≤ N ∧ N ≤ 1000000 ∧ IsSq N ∧ Out H E eI
theorem x_chain (T : Tx K mg) (V : Te K mg eP eN eI eW eC) : Okx P w K mg base 3 "chain" ["number"] (fun vs H _ E => ∃ x, vs = [x] ∧ BadS H E eN eI x) := by
  have S : FnScope ["number"] ["number"] (defScope s_chain) := ⟨rfl, rfl, rfl, by decide +kernel, rfl, by decide +kernel, by decide +kernel⟩
  refine okx T.d_chain S (fun _ _ _ _ _ _ us hl => match us, hl with | [_], _ => rfl) (fun vs H Q E h => ?_) (fun f cdv A outer s H vs Q E hr h => ?_)
  · obtain ⟨x, rfl, _⟩ := h
    rfl
  · obtain ⟨x, rfl, hx⟩ := h
    refine ⟨_, pss_cons (ps_expr (pe_or2 (pe_dox (x_refN T V) (L2N.takes_of rfl rfl rfl rfl) hr (pa_cons (pv 0) pa_nil)) (pe_do (ok_refN T) hr (pa_cons (pv 0) pa_nil))))
      (pss_cons (ps_expr (pe_dox (x_refS T V) (L2N.takes_of rfl rfl rfl rfl) hr (pa_cons (pv 0) pa_nil))) pss_any), ?_⟩
    rcases hx with ⟨hx, k⟩ | ⟨N, rfl, n1, n2, sq, k⟩
    · exact .inl ⟨_, rfl, x, rfl, hx, k⟩
    · exact .inr ⟨_, rfl, N, rfl, n1, n2, fun H1 s1 => ⟨_, rfl, N, rfl, by omega, by omega, sq, fun H2 s2 => k _ (s1.trans s2)⟩⟩
theorem x_by (T : Tx K mg) (V : Te K mg eP eN eI eW eC) : Okx P w K mg base 3 "answer_by" ["number", "count"] (fun vs H _ E => ∃ x c, vs = [x, c] ∧ (BadS H E eN eI x ∨ ∃ N : Int, x = .int N ∧ Ok N ∧ BadC H c ∧ Out H E eC)) := by
  have S : FnScope ["number", "count", "least", "one", "other", "_"] ["number", "count"] (defScope s_answer_by) := ⟨rfl, rfl, rfl, by decide +kernel, rfl, by decide +kernel, by decide +kernel⟩
  refine okx T.d_answer_by S (fun _ _ _ _ _ _ us hl => match us, hl with | [_, _], _ => rfl) (fun vs H Q E h => ?_) (fun f cdv A outer s H vs Q E hr h => ?_)
  · obtain ⟨x, c, rfl, _⟩ := h
    rfl
  · obtain ⟨x, c, rfl, hx⟩ := h
    refine ⟨_, pss_cons (ps_expr (pe_or2 (pe_dox (x_refN T V) (L2N.takes_of rfl rfl rfl rfl) hr (pa_cons (pv 0) pa_nil)) (pe_do (ok_refN T) hr (pa_cons (pv 0) pa_nil))))
      (pss_cons (ps_expr (pe_or2 (pe_dox (x_refS T V) (L2N.takes_of rfl rfl rfl rfl) hr (pa_cons (pv 0) pa_nil)) (pe_do (ok_refS T) hr (pa_cons (pv 0) pa_nil))))
      (pss_cons (ps_expr (pe_dox (x_refC T V) (L2N.takes_of rfl rfl rfl rfl) hr (pa_cons (pv 1) pa_nil))) pss_any)), ?_⟩
    rcases hx with (⟨hx, k⟩ | ⟨N, rfl, n1, n2, sq, k⟩) | ⟨N, rfl, ok, hc, k⟩
    · exact .inl ⟨_, rfl, x, rfl, hx, k⟩
    · exact .inr ⟨_, rfl, N, rfl, n1, n2, fun H1 s1 => .inl ⟨_, rfl, N, rfl, by omega, by omega, sq, fun H2 s2 => k _ (s1.trans s2)⟩⟩
    · have lo := ok.lo
      have hi := ok.hi
      exact .inr ⟨_, rfl, N, rfl, lo, hi, fun H1 s1 => .inr ⟨_, rfl, N, rfl, by omega, by omega, ok.ns, _, rfl, c, rfl, hc.same s1, fun H2 s2 => k _ (s1.trans s2)⟩⟩
theorem x_count (T : Tx K mg) (V : Te K mg eP eN eI eW eC) : Okx P w K mg base 5 "count_of" ["number", "answer"] (fun vs H _ E => ∃ x c, vs = [x, c] ∧ (BadS H E eN eI x ∨ ∃ N : Int, x = .int N ∧ Ok N ∧ BadA N H c ∧ Out H E eW)) := by
  have S : FnScope ["number", "answer", "sought", "_", "count", "reached", "steps", "many", "step", "further"] ["number", "answer"] (defScope s_count_of) := ⟨rfl, rfl, rfl, by decide +kernel, rfl, by decide +kernel, by decide +kernel⟩
  refine okx T.d_count_of S (fun _ _ _ _ _ _ us hl => match us, hl with | [_, _], _ => rfl) (fun vs H Q E h => ?_) (fun f cdv A outer s H vs Q E hr h => ?_)
  · obtain ⟨x, c, rfl, _⟩ := h
    rfl
  · obtain ⟨x, c, rfl, hx⟩ := h
    refine ⟨_, pss_cons (ps_expr (pe_or2 (pe_dox (x_refN T V) (L2N.takes_of rfl rfl rfl rfl) hr (pa_cons (pv 0) pa_nil)) (pe_do (ok_refN T) hr (pa_cons (pv 0) pa_nil))))
      (pss_cons (ps_expr (pe_or2 (pe_dox (x_refS T V) (L2N.takes_of rfl rfl rfl rfl) hr (pa_cons (pv 0) pa_nil)) (pe_do (ok_refS T) hr (pa_cons (pv 0) pa_nil))))
      (pss_cons (ps_expr (pe_dox (x_refA T V) (L2N.takes_of rfl rfl rfl rfl) hr (pa_cons (pv 0) (pa_cons (pv 1) pa_nil)))) pss_any)), ?_⟩
    rcases hx with (⟨hx, k⟩ | ⟨N, rfl, n1, n2, sq, k⟩) | ⟨N, rfl, ok, hc, k⟩
    · exact .inl ⟨_, rfl, x, rfl, hx, k⟩
    · exact .inr ⟨_, rfl, N, rfl, n1, n2, fun H1 s1 => .inl ⟨_, rfl, N, rfl, by omega, by omega, sq, fun H2 s2 => k _ (s1.trans s2)⟩⟩
    · have lo := ok.lo
      have hi := ok.hi
      exact .inr ⟨_, rfl, N, rfl, lo, hi, fun H1 s1 => .inr ⟨_, rfl, N, rfl, by omega, by omega, ok.ns, _, rfl, _, rfl, N, c, rfl, zN_of ok, hc.same s1, fun H2 s2 => k _ (s1.trans s2)⟩⟩
/-- (1, 0) -/
def one0 (H : Hp) (x : V) : Prop := ∃ a, x = .ref a ∧ H a = some (.tup [.int 1, .int 0])
theorem x_tog (T : Tx K mg) (V : Te K mg eP eN eI eW eC) : Okx P w K mg base 5 "together" ["number", "one", "other"] (fun vs H _ E => ∃ x c d, vs = [x, c, d] ∧ ((BadN H x ∧ Out H E eN) ∨ ∃ N : Int, x = .int N ∧ 2 ≤ N ∧ N ≤ 1000000 ∧ (BadA N H c ∨ (one0 H c ∧ BadA N H d)) ∧ Out H E eW)) := by
  have S : FnScope ["number", "one", "other"] ["number", "one", "other"] (defScope s_together) := ⟨rfl, rfl, rfl, by decide +kernel, rfl, by decide +kernel, by decide +kernel⟩
  refine okx T.d_together S (fun _ _ _ _ _ _ us hl => match us, hl with | [_, _, _], _ => rfl) (fun vs H Q E h => ?_) (fun f cdv A outer s H vs Q E hr h => ?_)
  · obtain ⟨x, c, d, rfl, _⟩ := h
    rfl
  · obtain ⟨x, c, d, rfl, hx⟩ := h
    refine ⟨_, pss_cons (ps_expr (pe_or2 (pe_dox (x_refN T V) (L2N.takes_of rfl rfl rfl rfl) hr (pa_cons (pv 0) pa_nil)) (pe_do (ok_refN T) hr (pa_cons (pv 0) pa_nil))))
      (pss_cons (ps_expr (pe_or2 (pe_dox (x_refA T V) (L2N.takes_of rfl rfl rfl rfl) hr (pa_cons (pv 0) (pa_cons (pv 1) pa_nil))) (pe_do (ok_refA T) hr (pa_cons (pv 0) (pa_cons (pv 1) pa_nil)))))
      (pss_cons (ps_expr (pe_dox (x_refA T V) (L2N.takes_of rfl rfl rfl rfl) hr (pa_cons (pv 0) (pa_cons (pv 2) pa_nil)))) pss_any)), ?_⟩
    rcases hx with ⟨hx, k⟩ | ⟨N, rfl, n1, n2, hc | ⟨⟨a, rfl, ha⟩, hd⟩, k⟩
    · exact .inl ⟨_, rfl, x, rfl, hx, k⟩
    · exact .inr ⟨_, rfl, N, rfl, n1, n2, fun H1 s1 => .inl ⟨_, rfl, _, rfl, N, c, rfl, inr_sz n1 n2, hc.same s1, fun H2 s2 => k _ (s1.trans s2)⟩⟩
    · have z1 : Sz ((1 : Int), (0 : Int)).1 60000000 := (show Sz 1 1 from ⟨by decide⟩).mono (by decide)
      have z0 : Sz ((1 : Int), (0 : Int)).2 60000000 := (show Sz 0 1 from ⟨by decide⟩).mono (by decide)
      have hA : IsA N (1, 0) := ⟨⟨by decide, by decide⟩, by show (1 : Int) * 1 = N * 0 * 0 + 1; omega⟩
      exact .inr ⟨_, rfl, N, rfl, n1, n2, fun H1 s1 => .inr ⟨_, rfl, _, rfl, N, (1, 0), a, rfl, s1 _ _ ha, inr_sz n1 n2, z1, z0, hA, _, rfl, _, rfl, N, d, rfl, inr_sz n1 n2, hd.same s1, fun H2 s2 => k _ (s1.trans s2)⟩⟩
end
end OA

namespace OA
open PySem L2 PyProof.Rows
theorem takesN0 {X : Cx} : L2N.Takes X (fun _ _ _ _ => False) := fun _ _ x => by
  obtain ⟨_, _, _, _, _, _, _, _, _, _, _, _, _, _, _, _, z⟩ := x
  exact z.elim
theorem pss_if {X : Cx} {φ : Prop} {ss : List Stmt} {t : TS} (h : φ → PSs X ss t) : PSs X ss (fun D σ H => φ ∧ t D σ H) := ⟨fun pins s σ H D I hh => (h hh.1).run pins s σ H D I hh.2⟩
/-- of the four kinds and ValueError, which an error of the class C is -/
def Kd (K : PySem.W.Frag) (eP eN eI eW eC C : Addr) (b1 b2 b3 b4 : Bool) : Prop := PySem.W.exmOne K (.ref C) (.ref eP) = some true ∧ ExcC K C ∧ PySem.W.kitOne K (.ref C) (.ref eN) = some b1 ∧ PySem.W.kitOne K (.ref C) (.ref eI) = some b2 ∧
  PySem.W.kitOne K (.ref C) (.ref eW) = some b3 ∧ PySem.W.kitOne K (.ref C) (.ref eC) = some b4 ∧ PySem.W.kitOne K (.ref C) (.type "ValueError") = some true
section
variable {P : Program} {w : World} {K : PySem.W.Frag} {mg : Str → Option Value} {base : Heap} {eP eN eI eW eC : Addr}
theorem kdN (V : Te K mg eP eN eI eW eC) : Kd K eP eN eI eW eC eN true false false false := ⟨V.aN, V.cN, V.jNN, V.jNI, V.jNW, V.jNC, V.vN⟩
theorem kdI (V : Te K mg eP eN eI eW eC) : Kd K eP eN eI eW eC eI false true false false := ⟨V.aI, V.cI, V.jIN, V.jII, V.jIW, V.jIC, V.vI⟩
theorem kdW (V : Te K mg eP eN eI eW eC) : Kd K eP eN eI eW eC eW false false true false := ⟨V.aW, V.cW, V.jWN, V.jWI, V.jWW, V.jWC, V.vW⟩
theorem kdC (V : Te K mg eP eN eI eW eC) : Kd K eP eN eI eW eC eC false false false true := ⟨V.aC, V.cC, V.jCN, V.jCI, V.jCW, V.jCC, V.vC⟩
def bits (b1 b2 b3 b4 : Bool) : List V := [.bl b1, .bl b2, .bl b3, .bl b4, .bl true]
theorem p_kinds {C a : Addr} {oe : Obj} {b1 b2 b3 b4 : Bool} (hz : Zc (.ref C) none oe) (hf : ∃ vs, oe.data = .fields vs) (T : Tx K mg) (V : Te K mg eP eN eI eW eC) (hk : Kd K eP eN eI eW eC C b1 b2 b3 b4) :
    Okp P w K mg base 1 "_law_kinds" ["_law_error"] (fun vs H Q _ => vs = [.ref a] ∧ New H Q (.lst (bits b1 b2 b3 b4))) (a, oe) := by
  have S : FnScope ["_law_error", "_law_found"] ["_law_error"] (defScope s__law_kinds) := ⟨rfl, rfl, rfl, by decide +kernel, rfl, by decide +kernel, by decide +kernel⟩
  refine okp T.d__law_kinds S (fun _ _ _ _ _ _ us hl => match us, hl with | [_], _ => rfl) (fun vs H Q E h => ?_) (fun f cdv A outer s H vs Q E hr h => ?_)
  · obtain ⟨rfl, _⟩ := h
    rfl
  · obtain ⟨rfl, k⟩ := h
    obtain ⟨_, c, k1, k2, k3, k4, k5⟩ := hk
    have hp : (a, oe) ∈ (L2H.cxH CX0 P w K mg base ["_law_error", "_law_found"] "_law_kinds" (defScope s__law_kinds) f cdv A outer s H E (a, oe)).pn := List.mem_cons_self
    refine ⟨_, pss_cons (ps_set (i := 1) S.nd rfl (.inl rfl) (pe_lst (pa_cons (pe_callB (call_isP c hz hf hp) (by rfl) T.b_isinstance bt_isi (pa_cons (pv 0) (pa_cons (pe_glob (v := .ref eN) (by rfl) V.gN rfl) pa_nil)))
        (pa_cons (pe_callB (call_isP c hz hf hp) (by rfl) T.b_isinstance bt_isi (pa_cons (pv 0) (pa_cons (pe_glob (v := .ref eI) (by rfl) V.gI rfl) pa_nil)))
        (pa_cons (pe_callB (call_isP c hz hf hp) (by rfl) T.b_isinstance bt_isi (pa_cons (pv 0) (pa_cons (pe_glob (v := .ref eW) (by rfl) V.gW rfl) pa_nil))) pa_nil)))))
      (pss_one (ps_ret (pe_op op_cat (pv 1) (pe_lst (pa_cons (pe_callB (call_isP c hz hf hp) (by rfl) T.b_isinstance bt_isi (pa_cons (pv 0) (pa_cons (pe_glob (v := .ref eC) (by rfl) V.gC rfl) pa_nil)))
        (pa_cons (pe_callB (call_isP c hz hf hp) (by rfl) T.b_isinstance bt_isi (pa_cons (pv 0) (pa_cons (pe_bltn (v := .ty "ValueError") (by rfl) T.b_ValueError bt_VE rfl) pa_nil))) pa_nil)))))), ?_⟩
    refine ⟨_, rfl, _, _, b1, rfl, fun u h => h, k1, _, rfl, _, _, b2, rfl, fun u h => h, k2, _, rfl, _, _, b3, rfl, fun u h => h, k3, (by show 3 ≤ sizeLine; decide), fun l hl => ?_⟩
    have sl := same_upd hl (o := .lst [.bl b1, .bl b2, .bl b3])
    refine ⟨_, rfl, _, rfl, _, _, b4, rfl, fun u h => h, k4, _, rfl, _, _, true, rfl, fun u h => h, k5, (by show 2 ≤ sizeLine; decide), fun m hm => ?_⟩
    have sm1 := same_upd hm (o := .lst [.bl b4, .bl true])
    refine ⟨l, m, _, _, rfl, rfl, sm1 _ _ upd_same, upd_same, (by show 5 ≤ sizeLine; decide), fun q hq => ?_⟩
    exact k _ _ ((sl.trans sm1).trans (same_upd hq)) (sl.free (sm1.free hq)) upd_same
/-- asked so, it lets out an error of the class C -/
def Lets (sp : Sp) (C : Addr) (vs : List V) (H : Hp) : Prop := ∀ (Q' : VK) (E' : XK), Out H E' C → sp vs H Q' E'
theorem x_ltold {f : Addr} {fd : FuncData} {ps : List Str} {spf : Sp} {C : Addr} {b1 b2 b3 b4 : Bool} (F : FnOk P w K mg base (L2N.CX P w) 6 f fd ps spf) (kp : PySem.W.keepIn K (.ref f) = true) (hb : Binds K fd ps []) (T : Tx K mg) (V : Te K mg eP eN eI eW eC) (hk : Kd K eP eN eI eW eC C b1 b2 b3 b4) :
    Okd P w K mg base 7 "_law_told" ["_law_ask", "_law_one", "_law_other"] (fun vs H Q _ => ∃ x y, vs = [.ref f, x, y] ∧ Lets spf C [x, y] H ∧ New H Q (.lst (bits b1 b2 b3 b4))) := by
  have S : FnScope ["_law_ask", "_law_one", "_law_other", "_law_error"] ["_law_ask", "_law_one", "_law_other"] (defScope s__law_told) := ⟨rfl, rfl, rfl, by decide +kernel, rfl, by decide +kernel, by decide +kernel⟩
  refine okd T.d__law_told S (fun _ _ _ _ _ _ us hl => match us, hl with | [_, _, _], _ => rfl) (fun vs H Q E h => ?_) (fun f cdv A outer s H vs Q E hr h => ?_)
  · obtain ⟨x, y, rfl, _⟩ := h
    rfl
  · obtain ⟨x, y, rfl, hL, k⟩ := h
    refine ⟨_, pss_cons (L2N.ps_try_as (i := 3) (Wout := fun _ _ _ _ => False) (ts := fun a cls d D σ H => (cls = .ref C ∧ d = none) ∧ tRet (tCallS (fun vs H Q _ => vs = [.ref a] ∧ New H Q (.lst (bits b1 b2 b3 b4))) (fun _ _ _ _ => False) (tCons (tVar 3) tNil)) D σ H) rfl rfl S.nd rfl rfl ⟨rfl, by decide, .inl V.gP⟩ takesN0
        (fun W pn xe tk _ => pss_one (ps_expr (pe_callP (i := 0) F hr rfl (.inl rfl) kp hb (fun σ => L2N.passAt tk σ) (pa_cons (pv 1) (pa_cons (pv 2) pa_nil)))))
        (fun a oe cls d pn hz hf => pss_if fun e => pss_one (ps_ret (pe_dop (p_kinds (a := a) (oe := oe) (C := C) (by have := hz.zc; rw [e.1, e.2] at this; exact this) hf T V hk) List.mem_cons_self (L2H.RoomH.mono ⟨hr.dp, hr.un⟩ (show 1 ≤ 6 by decide)) (pa_cons (pv 3) pa_nil)))))
      (pss_one (ps_ret (pe_lst pa_nil))), ?_⟩
    refine ⟨rfl, _, rfl, _, rfl, hL _ _ fun H1 s1 => ?_⟩
    refine ⟨true, hk.1, fun _ a ha => ⟨⟨rfl, rfl⟩, _, rfl, rfl, fun H2 p s2 hp h2 => ?_⟩, fun z => Bool.noConfusion z⟩
    exact k _ _ (s1.trans s2) (s1.free hp) h2
end
end OA

namespace OA
open PySem L2 PyProof.Rows
theorem at_vi {l : List Int} {i : Int} (h0 : 0 ≤ i) (h1 : i < (l.length : Int)) : ∃ z, z ∈ l ∧ atI (vi l) i = some (.int z) := by
  obtain ⟨j, rfl⟩ : ∃ j : Nat, i = (j : Int) := ⟨i.toNat, by omega⟩
  have hj : j < l.length := by omega
  refine ⟨l[j], List.getElem_mem hj, atI_nat ?_⟩
  unfold vi
  rw [List.getElem?_map, List.getElem?_eq_getElem hj]
  rfl
theorem vi_len (l : List Int) : (vi l).length = l.length := List.length_map _
theorem p18 : ((10 : Int) ^ (18 : Int).toNat) = 1000000000000000000 := by decide
section
variable {P : Program} {w : World} {K : PySem.W.Frag} {mg : Str → Option Value} {base : Heap}
def spCell (K : PySem.W.Frag) : Sp := fun vs H Q _ => ∃ (a : Addr) (ns : List Int) (i : Int), vs = [.ref a, .int i] ∧ SqL K H a (vi ns) ∧ 0 ≤ i ∧ ns.length ≤ 1000 ∧ ∀ z, (z = 0 ∨ z ∈ ns) → Q (.int z) H
theorem ok_cell (T : Tx K mg) : Okd P w K mg base 1 "_law_cell_at" ["_law_script", "_law_k"] (spCell K) := by
  have S : FnScope ["_law_script", "_law_k"] ["_law_script", "_law_k"] (defScope s__law_cell_at) := ⟨rfl, rfl, rfl, by decide +kernel, rfl, by decide +kernel, by decide +kernel⟩
  refine okd T.d__law_cell_at S (fun _ _ _ _ _ _ us hl => match us, hl with | [_, _], _ => rfl) (fun vs H Q E h => ?_) (fun f cdv A outer s H vs Q E hr h => ?_)
  · obtain ⟨a, ns, i, rfl, _⟩ := h
    rfl
  · obtain ⟨a, ns, i, rfl, hs, h0, hl, k⟩ := h
    refine ⟨_, pss_cons (ps_if (pt_cmpR op_lt (pv 1) (pe_callB call_len_seq (by rfl) T.b_len bt_len (pa_cons (pv 0) pa_nil)) (nomark _)) (pss_one (ps_ret (pe_ix ix_list (pv 0) (pv 1) (fun _ _ => rfl)))) pss_nil)
      (pss_one (ps_ret pe_int)), ?_⟩
    refine ⟨_, rfl, _, rfl, a, _, rfl, .inl hs, _, _, rfl, rfl, _, rfl, ?_⟩
    by_cases c : i < ((vi ns).length : Int)
    · rw [decide_eq_true c]
      rw [vi_len] at c
      obtain ⟨z, hz, e⟩ := at_vi h0 c
      exact iteT ⟨_, rfl, _, rfl, a, _, _, _, rfl, rfl, hs, e, k z (.inr hz)⟩
    · rw [decide_eq_false c]
      exact iteF (k 0 (.inl rfl))
/-- drawn: some number below many -/
def spDraw : Sp := fun vs H Q _ => ∃ (c i m : Int), vs = [.int c, .int i, .int m] ∧ 0 < m ∧ ∀ v, 0 ≤ v → v < m → Back H Q (.int v)
def primes : List Int := [1000003, 1000033, 1000037, 1000039, 1000081, 1000099, 1000117, 1000121, 1000133, 1000151, 1000159, 1000171, 1000183, 1000187, 1000193, 1000199]
theorem ok_draw (T : Tx K mg) : Okd P w K mg base 1 "_law_draw" ["_law_cell", "_law_k", "_law_many"] spDraw := by
  have S : FnScope ["_law_cell", "_law_k", "_law_many", "_law_primes"] ["_law_cell", "_law_k", "_law_many"] (defScope s__law_draw) := ⟨rfl, rfl, rfl, by decide +kernel, rfl, by decide +kernel, by decide +kernel⟩
  refine okd T.d__law_draw S (fun _ _ _ _ _ _ us hl => match us, hl with | [_, _, _], _ => rfl) (fun vs H Q E h => ?_) (fun f cdv A outer s H vs Q E hr h => ?_)
  · obtain ⟨c, i, m, rfl, _⟩ := h
    rfl
  · obtain ⟨c, i, m, rfl, hm, k⟩ := h
    refine ⟨_, pss_cons (ps_set (i := 3) S.nd rfl (.inl rfl) (pe_tup (pa_cons pe_int (pa_cons pe_int (pa_cons pe_int (pa_cons pe_int (pa_cons pe_int (pa_cons pe_int (pa_cons pe_int (pa_cons pe_int (pa_cons pe_int (pa_cons pe_int (pa_cons pe_int (pa_cons pe_int (pa_cons pe_int (pa_cons pe_int (pa_cons pe_int (pa_cons pe_int pa_nil))))))))))))))))))
      (pss_one (ps_ret (pe_op op_mod (pe_op op_mod (pe_op op_add (pe_op op_mul (pv 0) pe_int) (pe_op op_mul (pv 1) pe_int)) (pe_ix ix_tup (pv 3) (pe_op op_mod (pv 1) pe_int) (fun _ _ => rfl))) (pv 2)))), ?_⟩
    refine ⟨(by show 16 ≤ sizeLine; decide), fun p hp => ?_⟩
    have i0 : 0 ≤ i % 16 := Int.emod_nonneg _ (by decide)
    have i1 : i % 16 < 16 := Int.emod_lt_of_pos _ (by decide)
    obtain ⟨z, hz, e⟩ := at_vi (l := primes) i0 i1
    have z0 : 0 < z := (by decide : ∀ y ∈ primes, (0 : Int) < y) z hz
    refine ⟨_, rfl, _, _, rfl, rfl, .inr (by decide), _, rfl, _, _, rfl, rfl, .inr (by decide), _, _, rfl, rfl, ?_⟩
    refine ⟨_, rfl, _, rfl, _, _, rfl, rfl, (by show (0 : Int) < 16; decide), p, _, _, _, rfl, rfl, SqT.of upd_same, e, _, _, rfl, rfl, z0, _, rfl, _, _, rfl, rfl, hm, ?_⟩
    exact k _ (Int.emod_nonneg _ (by omega)) (Int.emod_lt_of_pos _ hm) _ (same_upd hp)
def spValue : Sp := fun vs H Q _ => ∃ (c i m : Int), vs = [.int c, .int i, .int m] ∧ Sz c 1048600 ∧ Sz i 100 ∧ 0 < m ∧ ∀ v, 0 ≤ v → v < m → Back H Q (.int v)
theorem ok_value (T : Tx K mg) : Okd P w K mg base 2 "_law_value" ["_law_cell", "_law_k", "_law_limit"] spValue := by
  have S : FnScope ["_law_cell", "_law_k", "_law_limit"] ["_law_cell", "_law_k", "_law_limit"] (defScope s__law_value) := ⟨rfl, rfl, rfl, by decide +kernel, rfl, by decide +kernel, by decide +kernel⟩
  refine okd T.d__law_value S (fun _ _ _ _ _ _ us hl => match us, hl with | [_, _, _], _ => rfl) (fun vs H Q E h => ?_) (fun f cdv A outer s H vs Q E hr h => ?_)
  · obtain ⟨c, i, m, rfl, _⟩ := h
    rfl
  · obtain ⟨c, i, m, rfl, zc, zi, hm, k⟩ := h
    refine ⟨_, pss_cons (ps_if (pt_cmpR op_ge (pv 0) (pe_op op_pow pe_int pe_int) (nomark _)) (pss_one (ps_ret (pe_op op_mod (pe_op op_sub (pv 0) (pe_op op_pow pe_int pe_int)) (pv 2)))) pss_nil)
      (pss_one (ps_ret (pe_op op_mod (pe_do (ok_draw T) hr (pa_cons (pe_op op_mulI (pe_op op_add (pv 0) (pe_op op_mul pe_int (pv 1))) (pe_op op_add (pe_op op_add (pv 0) (pe_op op_mul pe_int (pv 1))) pe_int))
        (pa_cons (pe_op op_add (pe_op op_mod (pv 1) pe_int) pe_int) (pa_cons pe_int pa_nil)))) (pv 2)))), ?_⟩
    refine ⟨_, rfl, _, _, rfl, rfl, (by show (0 : Int) ≤ 18 ∧ (18 : Int) ≤ 1000000 ∧ (10 : Int).natAbs < 2 ^ 64; decide), _, _, rfl, rfl, _, rfl, ?_⟩
    by_cases g : (10 : Int) ^ (18 : Int).toNat ≤ c
    · rw [decide_eq_true g]
      refine iteT ⟨_, rfl, _, _, rfl, rfl, (by show (0 : Int) ≤ 18 ∧ (18 : Int) ≤ 1000000 ∧ (10 : Int).natAbs < 2 ^ 64; decide), _, _, rfl, rfl, _, rfl, _, _, rfl, rfl, hm, ?_⟩
      exact k _ (Int.emod_nonneg _ (by omega)) (Int.emod_lt_of_pos _ hm) _ (Same.refl _)
    · rw [decide_eq_false g]
      have s977 : Sz 977 10 := ⟨by decide⟩
      have s31 : Sz 31 10 := ⟨by decide⟩
      have s5 : Sz 5 1048602 := (show Sz 5 3 from ⟨by decide⟩).mono (by decide)
      have z1 : Sz (c + 977 * i) 1048601 := zc.add ((s977.mul zi).mono (by decide))
      have z2 : Sz (c + 31 * i + 5) 1048603 := ((zc.add ((s31.mul zi).mono (by decide))).mono (by decide)).add s5
      refine iteF ⟨_, rfl, _, rfl, _, _, rfl, rfl, .inl (by decide), _, _, rfl, rfl, _, rfl, _, rfl, _, _, rfl, rfl, .inl (by decide), _, _, rfl, rfl, _, _, rfl, rfl, _, _, rfl, rfl, z1.ok z2 (by decide), ?_⟩
      refine ⟨_, rfl, _, _, rfl, rfl, (by show (0 : Int) < 9; decide), _, _, rfl, rfl, _, _, _, rfl, (by decide), fun v v0 v1 H1 s1 => ?_⟩
      exact ⟨_, rfl, _, _, rfl, rfl, hm, k _ (Int.emod_nonneg _ (by omega)) (Int.emod_lt_of_pos _ hm) _ s1⟩
/-! ### the law's own root -/
def spRoot : Sp := fun vs H Q _ => ∃ n : Int, vs = [.int n] ∧ 0 ≤ n ∧ Sz n 8000 ∧ Q (.int (rt n)) H
theorem Sz.log {x : Int} {b : Nat} (h : Sz x b) (h0 : 0 < b) : x.natAbs.log2 < b := PySem.Flt.log2_lt_of h0 h.lt
theorem ok_root (T : Tx K mg) : Okd P w K mg base 1 "_law_root" ["_law_number"] spRoot := by
  have S : FnScope ["_law_number", "_law_now"] ["_law_number"] (defScope s__law_root) := ⟨rfl, rfl, rfl, by decide +kernel, rfl, by decide +kernel, by decide +kernel⟩
  refine okd T.d__law_root S (fun _ _ _ _ _ _ us hl => match us, hl with | [_], _ => rfl) (fun vs H Q E h => ?_) (fun f cdv A outer s H vs Q E hr h => ?_)
  · obtain ⟨n, rfl, _⟩ := h
    rfl
  · obtain ⟨n, rfl, h0, zn, k⟩ := h
    refine ⟨_, pss_cons (ps_set (i := 1) S.nd rfl (.inl rfl) pe_int)
      (pss_cons (ps_while PassesOwn.never (pt_cmpR op_le (pe_op op_mulI (pv 1) (pv 1)) (pv 0) (nomark _)) (pss_one (ps_set (i := 1) S.nd rfl (.inl rfl) (pe_op op_mul pe_int (pv 1)))))
      (pss_cons (ps_while PassesOwn.never (pt_cmpR op_gt (pe_op op_mulI (pv 1) (pv 1)) (pv 0) (nomark _)) (pss_one (ps_set (i := 1) S.nd rfl (.inl rfl) (pe_op op_fdiv (pe_op op_add (pv 1) (pe_op op_fdivW (pv 0) (pv 1))) pe_int))))
      (pss_one (ps_ret (pv 1))))), ?_⟩
    -- from below, by 1024 each
    refine while_by (fun σ H' => ∃ x : Int, σ = [some (.int n), some (.int x)] ∧ 1 ≤ x ∧ Sz x 8011 ∧ H' = H) (fun σ _ => match σ with | [_, some (.int x)] => (n + 1 - x).toNat | _ => 0) ⟨1, rfl, by decide, (show Sz 1 1 from ⟨by decide⟩).mono (by decide), rfl⟩ ?_ ?_
    · rintro σ H' ⟨x, rfl, x1, zx, rfl⟩
      refine ⟨_, rfl, _, rfl, _, _, rfl, rfl, zx.ok zx (by decide), _, rfl, _, _, rfl, rfl, _, rfl, ?_⟩
      by_cases c : x * x ≤ n
      · rw [decide_eq_true c]
        have xn : x ≤ n := Int.le_trans (le_sq x1) c
        have z2 : Sz (1024 * x) 8011 := (show Sz 1024 11 from ⟨by decide⟩).mul (zn.le (by omega) xn)
        refine iteT ⟨_, rfl, _, _, rfl, rfl, .inl (by decide), ⟨_, rfl, by omega, z2, rfl⟩, ?_⟩
        show (n + 1 - 1024 * x).toNat < (n + 1 - x).toNat
        omega
      · rw [decide_eq_false c]
        refine iteF ?_
        -- from above, by halves
        refine while_by (fun σ H'' => ∃ x : Int, σ = [some (.int n), some (.int x)] ∧ 0 ≤ x ∧ Sz x 8011 ∧ n < (x + 1) * (x + 1) ∧ H'' = H') (fun σ _ => match σ with | [_, some (.int x)] => x.toNat | _ => 0) ⟨x, rfl, by omega, zx, ?_, rfl⟩ ?_ ?_
        · have : (x + 1) * (x + 1) = x * x + 2 * x + 1 := by grind
          omega
        · rintro σ H'' ⟨y, rfl, y0, zy, hy, rfl⟩
          refine ⟨_, rfl, _, rfl, _, _, rfl, rfl, zy.ok zy (by decide), _, rfl, _, _, rfl, rfl, _, rfl, ?_⟩
          by_cases d : n < y * y
          · rw [decide_eq_true d]
            have y1 : 0 < y := by
              rcases Int.lt_or_le 0 y with q | q
              · exact q
              · have : y = 0 := by omega
                rw [this] at d
                omega
            obtain ⟨n1, n2, n3⟩ := newton h0 y1 d
            refine iteT ⟨_, rfl, _, rfl, _, rfl, _, _, rfl, rfl, ⟨y1, Nat.lt_of_lt_of_le (zy.log (by decide)) (by decide)⟩, _, _, rfl, rfl, _, _, rfl, rfl, ⟨by decide, by decide⟩, ⟨_, rfl, n1, zy.le n1 (Int.le_of_lt n2), n3, rfl⟩, ?_⟩
            show ((y + n / y) / 2).toNat < y.toNat
            omega
          · rw [decide_eq_false d]
            refine iteF ⟨_, rfl, ?_⟩
            rw [rt_is y0 (by omega) hy] at k
            exact k
        · intro σ H1 Q1 Q2 hq h
          obtain ⟨a, ha, b, hb, i, j, e1, e2, cc, c2, hc2, i2, j2, e3, e4, q, e5, q3⟩ := h
          exact ⟨a, ha, b, hb, i, j, e1, e2, cc, c2, hc2, i2, j2, e3, e4, q, e5, hq _ _ q3⟩
    · intro σ H1 Q1 Q2 hq h
      obtain ⟨a, ha, b, hb, i, j, e1, e2, cc, c2, hc2, i2, j2, e3, e4, q, e5, q3⟩ := h
      exact ⟨a, ha, b, hb, i, j, e1, e2, cc, c2, hc2, i2, j2, e3, e4, q, e5, hq _ _ q3⟩
def spLSq : Sp := fun vs H Q _ => ∃ n : Int, vs = [.int n] ∧ 0 ≤ n ∧ Sz n 8000 ∧ Q (.bl (decide (IsSq n))) H
theorem ok_lsq (T : Tx K mg) : Okd P w K mg base 2 "_law_is_square" ["_law_number"] spLSq := by
  have S : FnScope ["_law_number"] ["_law_number"] (defScope s__law_is_square) := ⟨rfl, rfl, rfl, by decide +kernel, rfl, by decide +kernel, by decide +kernel⟩
  refine okd T.d__law_is_square S (fun _ _ _ _ _ _ us hl => match us, hl with | [_], _ => rfl) (fun vs H Q E h => ?_) (fun f cdv A outer s H vs Q E hr h => ?_)
  · obtain ⟨n, rfl, _⟩ := h
    rfl
  · obtain ⟨n, rfl, h0, zn, k⟩ := h
    refine ⟨_, pss_one (ps_ret (pe_and (pe_cmpR op_ge (pv 0) pe_int (nomark _)) (pe_one (pe_cmpR op_eq (pe_op op_mulI (pe_do (ok_root T) hr (pa_cons (pv 0) pa_nil)) (pe_do (ok_root T) hr (pa_cons (pv 0) pa_nil))) (pv 0) (nomark _))))), ?_⟩
    refine ⟨_, rfl, _, _, rfl, rfl, _, rfl, ?_⟩
    rw [decide_eq_true h0]
    obtain ⟨r0, r1, r2⟩ := rt_spec h0
    have zr : Sz (rt n) 8000 := by
      rcases Int.lt_or_le 0 (rt n) with q | q
      · exact zn.le r0 (Int.le_trans (le_sq q) r1)
      · exact zn.le r0 (by omega)
    refine iteT ⟨_, rfl, n, rfl, h0, zn, _, rfl, n, rfl, h0, zn, _, _, rfl, rfl, zr.ok zr (by decide), _, rfl, rfl, ?_⟩
    have e : decide (V.int (rt n * rt n) = V.int n) = decide (IsSq n) := decide_eq_decide.mpr ⟨fun z => V.int.inj z, fun z => congrArg V.int z⟩
    show Q (.bl (decide (V.int (rt n * rt n) = V.int n))) H
    rw [e]
    exact k
end
end OA

namespace OA
open PySem L2 PyProof.Rows
/-- how many cells are taken -/
def turns (L : Nat) : Nat := (Builtin.Range.rangeSize 0 (L : Int) (1 + (L : Int) / 5)).toNat
theorem rg_all : ∀ L : Fin 64, (Builtin.Range.small 0 ((L : Nat) : Int) (1 + ((L : Nat) : Int) / 5) = true ∧ Builtin.Range.rangeSize 0 ((L : Nat) : Int) (1 + ((L : Nat) : Int) / 5) = (turns L : Int) ∧ turns L ≤ 63) ∧ ∀ i : Fin 64, i.val < turns L → ((i.val : Nat) : Int) * (1 + ((L : Nat) : Int) / 5) < ((L : Nat) : Int) := by decide +kernel
theorem rg_ok {L : Nat} (h : L ≤ 63) : RgC 0 (L : Int) (1 + (L : Int) / 5) (turns L) := by
  obtain ⟨⟨a, b, c⟩, _⟩ := rg_all ⟨L, by omega⟩
  exact ⟨by omega, by omega, a, b⟩
theorem rg_lt {L i : Nat} (h : L ≤ 63) (hi : i < turns L) : (i : Int) * (1 + (L : Int) / 5) < L := by
  obtain ⟨⟨a, b, c⟩, d⟩ := rg_all ⟨L, by omega⟩
  exact d ⟨i, by have : i < turns L := hi
                 have : turns L ≤ 63 := c
                 omega⟩ hi
theorem turns_le {L : Nat} (h : L ≤ 63) : turns L ≤ 63 := (rg_all ⟨L, by omega⟩).1.2.2
theorem cut63 {ns : List Int} (h : ns.length ≤ 63) : cutV (vi ns) none (some 63) = vi ns := by
  unfold cutV
  rw [HT.sIx_none, show (some (63 : Int)) = some ((63 : Nat) : Int) from rfl, HT.sIx_nat, List.drop_zero, Nat.sub_zero]
  exact List.take_of_length_le (by rw [vi_len]; omega)
def InR (m : Int) : Prop := 2 ≤ m ∧ m ≤ 1000000
section
variable {P : Program} {w : World} {K : PySem.W.Frag} {mg : Str → Option Value} {base : Heap}
def spNums (K : PySem.W.Frag) : Sp := fun vs H Q _ => ∃ (a : Addr) (ns : List Int), vs = [.ref a] ∧ SqL K H a (vi ns) ∧ ns.length ≤ 63 ∧ (∀ z ∈ ns, Sz z 1048577) ∧
  ∀ (ms : List Int) (z : Int), (∀ m ∈ ms, InR m) → 2 ≤ z → z ≤ 91 → ms.length ≤ 63 → New H Q (.lst (vi (ms ++ [z])))
theorem at_list {l : List Int} (hl : 0 < l.length) {i : Int} (h0 : 0 ≤ i) (h1 : i < (l.length : Int)) {p : Int → Prop} (hp : ∀ z ∈ l, p z) : ∃ z, p z ∧ atI (vi l) i = some (.int z) := by
  obtain ⟨z, hz, e⟩ := at_vi h0 h1
  exact ⟨z, hp z hz, e⟩
theorem ok_nums (T : Tx K mg) : Okd P w K mg base 3 "_law_numbers" ["_law_script"] (spNums K) := by
  have S : FnScope ["_law_script", "_law_found", "_law_k", "_law_cell", "_law_kind", "_law_number", "_law_root_here"] ["_law_script"] (defScope s__law_numbers) := ⟨rfl, rfl, rfl, by decide +kernel, rfl, by decide +kernel, by decide +kernel⟩
  refine okd T.d__law_numbers S (fun _ _ _ _ _ _ us hl => match us, hl with | [_], _ => rfl) (fun vs H Q E h => ?_) (fun f cdv A outer s H vs Q E hr h => ?_)
  · obtain ⟨a, ns, rfl, _⟩ := h
    rfl
  · obtain ⟨a, ns, rfl, hs, hl, hz, k⟩ := h
    refine ⟨_, pss_cons (ps_par (i := 0) (j := 1) rfl S.nd rfl rfl (by decide) rfl rfl (pa_cons (pe_slice sl_list (pv 0) po_none (po_some pe_int)) (pa_cons (pe_lst pa_nil) pa_nil)) (by rfl))
      (pss_cons (ps_for PassesOwn.never rfl (pi_range3 (by rfl) T.b_range (pa_cons pe_int (pa_cons (pe_callB call_len_seq (by rfl) T.b_len bt_len (pa_cons (pv 0) pa_nil)) (pa_cons (pe_op op_add pe_int (pe_op op_fdiv (pe_callB call_len_seq (by rfl) T.b_len bt_len (pa_cons (pv 0) pa_nil)) pe_int)) pa_nil)))) (pg_name (i := 2) S.nd rfl (.inl rfl))
        (pss_cons (ps_set (i := 3) S.nd rfl (.inl rfl) (pe_ix ix_list (pv 0) (pv 2) (fun _ _ => rfl)))
        (pss_cons (ps_set (i := 4) S.nd rfl (.inl rfl) (pe_do (ok_draw T) hr (pa_cons (pe_op op_add (pe_op op_mod (pv 3) (pe_op op_pow pe_int pe_int)) (pe_op op_mul pe_int (pv 2))) (pa_cons pe_int (pa_cons pe_int pa_nil)))))
        (pss_cons (ps_set (i := 5) S.nd rfl (.inl rfl) (pe_op op_add pe_int (pe_do (ok_value T) hr (pa_cons (pv 3) (pa_cons (pv 2) (pa_cons (pe_ix ix_tup (pe_tup (pa_cons pe_int (pa_cons pe_int (pa_cons pe_int (pa_cons pe_int (pa_cons pe_int pa_nil)))))) (pe_op op_mod (pv 4) pe_int) (fun _ _ => rfl)) pa_nil))))))
        (pss_cons (ps_set (i := 6) S.nd rfl (.inl rfl) (pe_op op_add pe_int (pe_do (ok_value T) hr (pa_cons (pv 3) (pa_cons (pe_op op_add (pv 2) pe_int) (pa_cons pe_int pa_nil))))))
        (pss_cons (ps_if (pt_cmpR op_eq (pv 4) pe_int (nomark _)) (pss_one (ps_set (i := 5) S.nd rfl (.inl rfl) (pe_op op_mul (pv 6) (pv 6)))) pss_nil)
        (pss_cons (ps_if (pt_cmpR op_gt (pv 4) pe_int (nomark _)) (pss_one (ps_set (i := 5) S.nd rfl (.inl rfl) (pe_op op_add (pe_op op_mul (pv 6) (pv 6)) (pe_ix ix_tup (pe_tup (pa_cons pe_int (pa_cons (pe_un un_neg pe_int) (pa_cons pe_int (pa_cons (pe_un un_neg pe_int) pa_nil)))))
            (pe_do (ok_draw T) hr (pa_cons (pe_op op_mod (pv 3) (pe_op op_pow pe_int pe_int)) (pa_cons pe_int (pa_cons pe_int pa_nil)))) (fun _ _ => rfl))))) pss_nil)
        (pss_one (ps_expr (pe_bm PySem.F.plainAttrs_list PySem.F.slot_list_append PySem.F.type_list_append mt_append (pv 1) (pa_cons (pe_callB (call_min2 rfl) (by rfl) T.b_min bt_min (pa_cons (pv 5) (pa_cons pe_int pa_nil))) pa_nil)))))))))))
      (pss_one (ps_ret (pe_op op_cat (pv 1) (pe_lst (pa_cons (pe_op op_add pe_int (pe_do (ok_value T) hr (pa_cons (pe_do (ok_cell T) hr (pa_cons (pv 0) (pa_cons pe_int pa_nil))) (pa_cons pe_int (pa_cons pe_int pa_nil))))) pa_nil)))))), ?_⟩
    refine ⟨_, rfl, 63, rfl, a, _, rfl, hs, fun q hq => ?_⟩
    rw [cut63 hl]
    refine ⟨Nat.zero_le _, fun p hp => ⟨_, _, rfl, ?_⟩⟩
    have npq : p ≠ q := (ne_of_none (H := upd H q _) upd_same hp).symm
    have hp0 : H p = none := by rw [upd_ne npq] at hp; exact hp
    have hq' : ∀ o, upd (upd H q (.lst (vi ns))) p o q = some (.lst (vi ns)) := fun o => by rw [upd_ne npq.symm, upd_same]
    refine ⟨_, rfl, q, _, rfl, .inl (SqL.of (hq' _)), _, rfl, q, _, rfl, .inl (SqL.of (hq' _)), _, _, rfl, rfl, ⟨by decide, by decide⟩, _, _, rfl, rfl, ?_⟩
    rw [vi_len]
    refine ⟨0, (ns.length : Int), 1 + (ns.length : Int) / 5, turns ns.length, rfl, rg_ok hl, ?_⟩
    refine for_rangeC (lo := 0) (c := 1 + (ns.length : Int) / 5) (n := turns ns.length) (fun i σ H' => ∃ (ms : List Int) (b1 b2 b3 b4 b5 : Option V), σ = [some (.ref q), some (.ref p), b1, b2, b3, b4, b5] ∧ (∀ m ∈ ms, InR m) ∧ ms.length = i ∧ Same H H' ∧ H' q = some (.lst (vi ns)) ∧ H' p = some (.lst (vi ms)))
      ⟨[], _, _, _, _, _, rfl, fun m hm => (by cases hm), rfl, sm0 (same_upd hq) hp0, hq' _, upd_same⟩ ?_ ?_
    · rintro i σ H' hi ⟨ms, b1, b2, b3, b4, b5, rfl, hms, hln, s1, h1, h2⟩
      have hlt := rg_lt hl hi
      have hge : (0 : Int) ≤ 0 + (i : Int) * (1 + (ns.length : Int) / 5) := by
        have := Int.mul_nonneg (show (0 : Int) ≤ i by omega) (show (0 : Int) ≤ 1 + (ns.length : Int) / 5 by omega)
        omega
      obtain ⟨cell, hc, ec⟩ := at_vi (l := ns) (i := 0 + (i : Int) * (1 + (ns.length : Int) / 5)) hge (by omega)
      have zc := hz cell hc
      have kb : (0 : Int) + (i : Int) * (1 + (ns.length : Int) / 5) < 63 := by omega
      generalize (0 : Int) + (i : Int) * (1 + (ns.length : Int) / 5) = kk at *
      have zk : Sz kk 100 := Sz.small (by have : (2 : Int) ^ 100 = 1267650600228229401496703205376 := by decide
                                          omega) (by have : (2 : Int) ^ 100 = 1267650600228229401496703205376 := by decide
                                                     omega)
      have zk3 : Sz (kk + 3) 100 := Sz.small (by have : (2 : Int) ^ 100 = 1267650600228229401496703205376 := by decide
                                                 omega) (by have : (2 : Int) ^ 100 = 1267650600228229401496703205376 := by decide
                                                            omega)
      have c18 : (0 : Int) ≤ 18 ∧ (18 : Int) ≤ 1000000 ∧ (10 : Int).natAbs < 2 ^ 64 := by decide
      -- cell
      refine ⟨_, rfl, _, rfl, q, _, _, _, rfl, rfl, SqL.of h1, ec, ?_⟩
      -- kind
      refine ⟨_, rfl, _, _, rfl, rfl, c18, _, _, rfl, rfl, (by show (0 : Int) < 10 ^ (18 : Int).toNat; decide), _, rfl, _, _, rfl, rfl, .inl (by decide), _, _, rfl, rfl, _, _, _, rfl, (by decide), fun kind kd0 kd1 H1 s2 => ?_⟩
      -- number
      refine ⟨_, rfl, _, rfl, (by show 5 ≤ sizeLine; decide), fun t1 ht1 => ⟨_, rfl, _, _, rfl, rfl, (by show (0 : Int) < 5; decide), ?_⟩⟩
      obtain ⟨lim, ⟨lm0, lm1⟩, el⟩ := at_list (l := [60, 2000, 2000, 30000, 999999]) (by decide) (i := kind % 5) (Int.emod_nonneg _ (by decide)) (Int.emod_lt_of_pos _ (by decide)) (p := fun z => 0 < z ∧ z ≤ 999999) (by decide)
      refine ⟨t1, _, _, _, rfl, rfl, SqT.of upd_same, el, _, _, _, rfl, zc.mono (by decide), zk, lm0, fun v v0 v1 H2 s3 => ⟨_, _, rfl, rfl, ?_⟩⟩
      -- root_here
      refine ⟨_, rfl, _, rfl, _, _, rfl, rfl, _, _, _, rfl, zc.mono (by decide), zk3, by decide, fun r r0 r1 H3 s4 => ⟨_, _, rfl, rfl, ?_⟩⟩
      have sA : Same H' H3 := ((s2.trans (same_upd ht1)).trans s3).trans s4
      have rr : (2 + r) * (2 + r) ≤ 1000 * 1000 := Int.mul_le_mul (by omega) (by omega) (by omega) (by decide)
      have rr2 : 2 * 2 ≤ (2 + r) * (2 + r) := Int.mul_le_mul (by omega) (by omega) (by decide) (by omega)
      -- what stands in number behind the two ifs
      have fin : ∀ (num : Int) (H4 : Hp), Same H' H4 → 2 ≤ num → num ≤ 1000002 →
          tDrop (tBM K "list" rAppend (tVar 1) (tCons (tCB (fun xs H Q => ∃ i j, xs = [.int i, .int j] ∧ Q (.int (if j < i then j else i)) H) (tCons (tVar 5) (tCons (tC (.int 1000000)) tNil))) tNil))
            { nx := fun σ2 H2 => ∃ (ms : List Int) (b1 b2 b3 b4 b5 : Option V), σ2 = [some (.ref q), some (.ref p), b1, b2, b3, b4, b5] ∧ (∀ m ∈ ms, InR m) ∧ ms.length = i + 1 ∧ Same H H2 ∧ H2 q = some (.lst (vi ns)) ∧ H2 p = some (.lst (vi ms)), rt := Q }
            [some (.ref q), some (.ref p), some (.int kk), some (.int cell), some (.int kind), some (.int num), some (.int (2 + r))] H4 := by
        intro num H4 s5 n0 n1
        refine ⟨_, rfl, .inl ⟨rfl, _, SqL.of (s5 _ _ h2)⟩, _, rfl, _, _, rfl, ?_⟩
        refine ⟨p, _, _, rfl, rfl, s5 _ _ h2, by rw [vi_len, line_eq]; have := turns_le hl; omega, ?_⟩
        refine ⟨ms ++ [if 1000000 < num then 1000000 else num], _, _, _, _, _, rfl, fun m hm => ?_, by rw [List.length_append, hln]; rfl, sm0 (s1.trans s5) hp0, by rw [upd_ne npq.symm]; exact s5 _ _ h1, ?_⟩
        · rcases List.mem_append.mp hm with hm | hm
          · exact hms m hm
          · rcases List.mem_singleton.mp hm
            unfold InR
            split <;> omega
        · rw [upd_same]
          unfold vi
          rw [List.map_append]
          rfl
      refine ⟨_, rfl, rfl, _, rfl, ?_⟩
      by_cases c5 : kind = 5
      · subst c5
        refine iteT ⟨_, rfl, _, rfl, _, _, rfl, rfl, .inl ⟨by omega, by omega⟩, ?_⟩
        refine ⟨_, rfl, _, _, rfl, rfl, _, rfl, ?_⟩
        exact iteF (fin _ H3 sA (by omega) (by omega))
      · have e5 : decide (V.int kind = V.int 5) = false := decide_eq_false fun z => c5 (V.int.inj z)
        show if decide (V.int kind = V.int 5) = true then _ else _
        rw [e5]
        refine iteF ⟨_, rfl, _, _, rfl, rfl, _, rfl, ?_⟩
        by_cases g5 : 5 < kind
        · rw [decide_eq_true g5]
          refine iteT ⟨_, rfl, _, rfl, _, _, rfl, rfl, .inl ⟨by omega, by omega⟩, _, rfl, _, rfl, (by show 4 ≤ sizeLine; decide), fun t2 ht2 => ?_⟩
          refine ⟨_, rfl, _, _, rfl, rfl, c18, _, _, rfl, rfl, (by show (0 : Int) < 10 ^ (18 : Int).toNat; decide), _, _, _, rfl, (by decide), fun u u0 u1 H5 s6 => ?_⟩
          obtain ⟨off, ⟨of0, of1⟩, eo⟩ := at_list (l := [1, -1, 2, -2]) (by decide) (i := u) u0 (by show u < 4; omega) (p := fun z => -2 ≤ z ∧ z ≤ 2) (by decide)
          refine ⟨t2, _, _, _, rfl, rfl, SqT.of (s6 _ _ upd_same), eo, _, _, rfl, rfl, ?_⟩
          exact fin _ H5 ((sA.trans (same_upd ht2)).trans s6) (by omega) (by omega)
        · rw [decide_eq_false g5]
          exact iteF (fin _ H3 sA (by omega) (by omega))
    · rintro σ H' ⟨ms, b1, b2, b3, b4, b5, rfl, hms, hln, s1, h1, h2⟩
      refine ⟨_, rfl, _, rfl, q, ns, 0, rfl, SqL.of h1, by decide, by omega, fun z hz0 => ?_⟩
      have zz : Sz z 1048600 := by
        rcases hz0 with e | e
        · rw [e]
          exact (show Sz 0 1 from ⟨by decide⟩).mono (by decide)
        · exact (hz z e).mono (by decide)
      refine ⟨_, _, _, rfl, zz, (show Sz 8 4 from ⟨by decide⟩).mono (by decide), by decide, fun v v0 v1 H1 s2 => ⟨_, _, rfl, rfl, ?_⟩⟩
      refine ⟨by show 1 ≤ sizeLine; decide, fun t ht => ?_⟩
      have npt : p ≠ t := ne_of_none (s2 _ _ h2) ht
      refine ⟨p, t, _, _, rfl, rfl, (upd_ne npt).trans (s2 _ _ h2), upd_same, ?_, fun u hu => ?_⟩
      · rw [vi_len, hln]
        have := turns_le hl
        show turns ns.length + 1 ≤ sizeLine
        rw [line_eq]
        omega
      · have s3 : Same H (upd H1 t (.lst [.int (2 + v)])) := sm (s1.trans s2) ht
        have e : vi ms ++ [V.int (2 + v)] = vi (ms ++ [2 + v]) := by
          unfold vi
          rw [List.map_append]
          rfl
        refine k ms (2 + v) hms (by omega) (by omega) (by rw [hln]; exact turns_le hl) _ u (sm s3 hu) (s3.free hu) ?_
        rw [upd_same]
        rw [e]
end
end OA

namespace OA
open PySem L2 PyProof.Rows
/-! ### lists of whole numbers as data -/
def dvi (l : List Int) : List PyData := l.map PyData.int
theorem can_vi : ∀ l : List Int, PyData.canLayAll0 (dvi l) = true
  | [] => rfl
  | a :: t => by
    show (PyData.canLay0 (.int a) && PyData.canLayAll0 (dvi t)) = true
    rw [can_vi t]
    rfl
theorem dep_vi : ∀ l : List Int, PyData.depthAll (dvi l) ≤ 1
  | [] => by show PyData.depthAll [] ≤ 1; decide
  | a :: t => by
    have := dep_vi t
    show PyData.depthAll (.int a :: dvi t) ≤ 1
    unfold PyData.depthAll
    have h0 : PyData.depth (.int a) ≤ 1 := by unfold PyData.depth; omega
    omega
theorem sh_vi (l : List Int) : SeqAt.shaped (.list (dvi l)) = true := by
  unfold SeqAt.shaped
  rw [Bool.and_eq_true]
  refine ⟨?_, ?_⟩
  · show PyData.canLayAll0 (dvi l) = true
    exact can_vi l
  · refine decide_eq_true ?_
    have := dep_vi l
    unfold PyData.depth
    omega
theorem eqv_vi : ∀ a b : List Int, PyData.eqvAll (dvi a) (dvi b) = decide (a = b)
  | [], [] => rfl
  | [], y :: t => by
    show false = _
    exact (decide_eq_false (by intro z; cases z)).symm
  | x :: s, [] => by
    show false = _
    exact (decide_eq_false (by intro z; cases z)).symm
  | x :: s, y :: t => by
    show (x == y && PyData.eqvAll (dvi s) (dvi t)) = _
    rw [eqv_vi s t]
    by_cases h1 : x = y
    · subst h1
      by_cases h2 : s = t
      · subst h2
        simp
      · rw [decide_eq_false h2, decide_eq_false fun z => h2 (List.cons.inj z).2]
        simp
    · rw [decide_eq_false fun z => h1 (List.cons.inj z).1]
      simp [h1]
theorem dpa_vi {K : PySem.W.Frag} {H : Hp} : ∀ l : List Int, DpAll K H (vi l) (dvi l)
  | [] => .nil
  | a :: t => .cons (.int a) (dpa_vi t)
theorem dp_vi {K : PySem.W.Frag} {H : Hp} {a : Addr} {l : List Int} (h : SqL K H a (vi l)) : Dp K H (.ref a) (.list (dvi l)) := .lst h (dpa_vi l)
/-- a tuple of a whole number and a list of such -/
def dch (n : Int) (l : List Int) : PyData := .tuple [.int n, .list (dvi l)]
theorem sh_dch (n : Int) (l : List Int) : SeqAt.shaped (dch n l) = true := by
  have h1 := can_vi l
  have h2 := dep_vi l
  unfold SeqAt.shaped
  rw [Bool.and_eq_true]
  refine ⟨?_, decide_eq_true ?_⟩
  · show (true && (PyData.canLayAll0 (dvi l) && true)) = true
    rw [h1]
    rfl
  · unfold dch
    simp only [PyData.depth, PyData.depthAll]
    omega
theorem eqv_dch (n m : Int) (l k : List Int) : PyData.eqv (dch n l) (dch m k) = decide (n = m ∧ l = k) := by
  show (n == m && (PyData.eqvAll (dvi l) (dvi k) && true)) = _
  rw [eqv_vi]
  by_cases h1 : n = m <;> by_cases h2 : l = k <;> simp [h1, h2]
theorem dp_dch {K : PySem.W.Frag} {H : Hp} {a q : Addr} {n : Int} {l : List Int} (h : H a = some (.tup [.int n, .ref q])) (h2 : SqL K H q (vi l)) : Dp K H (.ref a) (dch n l) := .tup (SqT.of h) (.cons (.int n) (.cons (dp_vi h2) .nil))
section
variable {P : Program} {w : World} {K : PySem.W.Frag} {mg : Str → Option Value} {base : Heap}
/-! ### the law's own walk -/
theorem st_m {N : Int} (k : Nat) : (st N (rt N) (k + 1)).1 = pt (rt N) (st N (rt N) k) * (st N (rt N) k).2 - (st N (rt N) k).1 := rfl
theorem st_d {N : Int} (k : Nat) : (st N (rt N) (k + 1)).2 = (N - (st N (rt N) (k + 1)).1 * (st N (rt N) (k + 1)).1) / (st N (rt N) k).2 := rfl
def spParts : Sp := fun vs H Q _ => ∃ N : Int, vs = [.int N] ∧ Ok N ∧
  ∀ H' p q, Same H H' → H p = none → H q = none → p ≠ q → H' p = some (.tup [.int (rt N), .ref q]) → H' q = some (.lst (vi (parts N))) → Q (.ref p) H'
theorem ok_parts (T : Tx K mg) : Okd P w K mg base 2 "_law_parts" ["_law_number"] spParts := by
  have S : FnScope ["_law_number", "_law_top", "_law_found", "_law_more", "_law_below", "_law_part"] ["_law_number"] (defScope s__law_parts) := ⟨rfl, rfl, rfl, by decide +kernel, rfl, by decide +kernel, by decide +kernel⟩
  refine okd T.d__law_parts S (fun _ _ _ _ _ _ us hl => match us, hl with | [_], _ => rfl) (fun vs H Q E h => ?_) (fun f cdv A outer s H vs Q E hr h => ?_)
  · obtain ⟨N, rfl, _⟩ := h
    rfl
  · obtain ⟨N, rfl, ok, k⟩ := h
    have lo := ok.lo
    have hi := ok.hi
    have zN := zN_of ok
    have r1 := ok.r1
    have r2 : rt N ≤ 1000 := ok.r1000
    refine ⟨_, pss_cons (ps_par (i := 1) (j := 2) rfl S.nd rfl rfl (by decide) rfl rfl (pa_cons (pe_do (ok_root T) hr (pa_cons (pv 0) pa_nil)) (pa_cons (pe_lst pa_nil) pa_nil)) (by rfl))
      (pss_cons (ps_par (i := 3) (j := 4) rfl S.nd rfl rfl (by decide) rfl rfl (pa_cons (pv 1) (pa_cons (pe_op op_sub (pv 0) (pe_op op_mul (pv 1) (pv 1))) pa_nil)) (by rfl))
      (pss_cons (ps_while PassesOwn.never (PW.pt (pw_or (pt_cmpR (op_eqD hr.units) (pv 2) (pe_lst pa_nil) (nomark _)) (pw_or1 (pt_cmpR op_ne (pe_ix ix_list (pv 2) (pe_un un_neg pe_int) (fun _ _ => rfl)) (pe_op op_mul pe_int (pv 1)) (nomark _)))))
        (pss_cons (ps_set (i := 5) S.nd rfl (.inl rfl) (pe_op op_fdiv (pe_op op_add (pv 1) (pv 3)) (pv 4)))
        (pss_cons (ps_expr (pe_bm PySem.F.plainAttrs_list PySem.F.slot_list_append PySem.F.type_list_append mt_append (pv 2) (pa_cons (pv 5) pa_nil)))
        (pss_cons (ps_set (i := 3) S.nd rfl (.inl rfl) (pe_op op_sub (pe_op op_mul (pv 5) (pv 4)) (pv 3)))
        (pss_one (ps_set (i := 4) S.nd rfl (.inl rfl) (pe_op op_fdiv (pe_op op_sub (pv 0) (pe_op op_mul (pv 3) (pv 3))) (pv 4))))))))
      (pss_one (ps_ret (pe_tup (pa_cons (pv 1) (pa_cons (pv 2) pa_nil))))))), ?_⟩
    refine ⟨_, rfl, N, rfl, by omega, zN.mono (by decide), Nat.zero_le _, fun q hq => ⟨_, _, rfl, ?_⟩⟩
    refine ⟨_, rfl, _, rfl, _, rfl, _, rfl, _, _, rfl, rfl, .inl ⟨by omega, by omega⟩, _, _, rfl, rfl, _, _, rfl, ?_⟩
    refine while_by (fun σ H' => ∃ (i : Nat) (v : Option V), i ≤ stp N + 1 ∧ σ = [some (.int N), some (.int (rt N)), some (.ref q), some (.int (st N (rt N) i).1), some (.int (st N (rt N) i).2), v] ∧ Same H H' ∧ H' q = some (.lst (vi (pre N (rt N) i))))
      (fun _ H' => match H' q with | some (.lst xs) => stp N + 1 - xs.length | _ => 0) ⟨0, none, Nat.zero_le _, rfl, same_upd hq, upd_same⟩ ?_ ?_
    · rintro σ H' ⟨i, v, hi, rfl, s1, hH⟩
      obtain ⟨b1, b2, b3, b4, b5, b6⟩ := ok.bd i
      -- one more turn
      have body : ∀ H2, Same H H2 → H2 q = some (.lst (vi (pre N (rt N) i))) → i ≤ stp N →
          tSeq (tAsg (tOp (rI CDiv fun i j => .int (i / j)) (tOp (rI0 fun i j => .int (i + j)) (tVar 1) (tVar 3)) (tVar 4)) (gName 5))
          (tSeq (tDrop (tBM K "list" rAppend (tVar 2) (tCons (tVar 5) tNil)))
          (tSeq (tAsg (tOp (rI0 fun i j => .int (i - j)) (tOp (rI CMul fun i j => .int (i * j)) (tVar 5) (tVar 4)) (tVar 3)) (gName 3))
            (tAsg (tOp (rI CDiv fun i j => .int (i / j)) (tOp (rI0 fun i j => .int (i - j)) (tVar 0) (tOp (rI CMul fun i j => .int (i * j)) (tVar 3) (tVar 3))) (tVar 4)) (gName 4))))
          { nx := fun σ' H'' => (∃ (i : Nat) (v : Option V), i ≤ stp N + 1 ∧ σ' = [some (.int N), some (.int (rt N)), some (.ref q), some (.int (st N (rt N) i).1), some (.int (st N (rt N) i).2), v] ∧ Same H H'' ∧ H'' q = some (.lst (vi (pre N (rt N) i)))) ∧
              (match H'' q with | some (.lst xs) => stp N + 1 - xs.length | _ => 0) < (match H' q with | some (.lst xs) => stp N + 1 - xs.length | _ => 0), rt := Q }
          [some (.int N), some (.int (rt N)), some (.ref q), some (.int (st N (rt N) i).1), some (.int (st N (rt N) i).2), v] H2 := by
        intro H2 s2 h2 hiT
        have hlen : (vi (pre N (rt N) i)).length = i := by rw [vi_len, pre_len]
        have hs := ok.stp_le
        have e1 := st_m (N := N) i
        have e2 := st_d (N := N) i
        unfold pt at e1
        refine ⟨_, rfl, _, rfl, _, _, rfl, rfl, _, rfl, _, _, rfl, rfl, ⟨by omega, by omega⟩, ?_⟩
        refine ⟨_, rfl, .inl ⟨rfl, _, SqL.of h2⟩, _, rfl, q, _, _, rfl, rfl, h2, by rw [hlen, line_eq]; omega, ?_⟩
        refine ⟨_, rfl, _, rfl, _, _, rfl, rfl, .inl (show -(2 ^ 64) < pt (rt N) (st N (rt N) i) ∧ pt (rt N) (st N (rt N) i) < 2 ^ 64 from ⟨by omega, by omega⟩), _, rfl, _, _, rfl, rfl, ?_⟩
        obtain ⟨c1, c2, c3, c4, c5, c6⟩ := ok.bd (i + 1)
        refine ⟨_, rfl, _, rfl, _, rfl, _, _, rfl, rfl, .inl ⟨by rw [← e1]; omega, by rw [← e1]; omega⟩, _, _, rfl, rfl, _, rfl, _, _, rfl, rfl, ⟨by omega, by omega⟩, ?_⟩
        refine ⟨⟨i + 1, some (.int ((rt N + (st N (rt N) i).1) / (st N (rt N) i).2)), by omega, ?_, sm0 s2 hq, ?_⟩, ?_⟩
        · show [_, _, _, some (V.int ((rt N + (st N (rt N) i).1) / (st N (rt N) i).2 * (st N (rt N) i).2 - (st N (rt N) i).1)), some (V.int ((N - ((rt N + (st N (rt N) i).1) / (st N (rt N) i).2 * (st N (rt N) i).2 - (st N (rt N) i).1) * ((rt N + (st N (rt N) i).1) / (st N (rt N) i).2 * (st N (rt N) i).2 - (st N (rt N) i).1)) / (st N (rt N) i).2)), _] = _
          rw [← e1, ← e2]
        · rw [upd_same, pre_succ]
          unfold vi
          rw [List.map_append]
          rfl
        · show (match (L2.upd H2 q _) q with | some (.lst xs) => stp N + 1 - xs.length | _ => 0) < (match H' q with | some (.lst xs) => stp N + 1 - xs.length | _ => 0)
          rw [upd_same, hH]
          show stp N + 1 - (vi (pre N (rt N) i) ++ [_]).length < stp N + 1 - (vi (pre N (rt N) i)).length
          rw [List.length_append, hlen, List.length_singleton]
          omega
      refine ⟨_, rfl, Nat.zero_le _, fun t ht => ⟨_, .list (dvi []), dp_vi (SqL.of (same_upd ht _ _ hH)), dp_vi (SqL.of upd_same), sh_vi _, sh_vi _, ?_⟩⟩
      have s2 : Same H' (upd H' t (.lst (vi []))) := same_upd ht
      show ∃ k, V.bl (PyData.eqvAll (dvi (pre N (rt N) i)) (dvi [])) = V.bl k ∧ _
      rw [eqv_vi]
      refine ⟨_, rfl, ?_⟩
      cases i with
      | zero =>
        rw [show decide (pre N (rt N) 0 = []) = true from rfl]
        exact iteT (iteT (body _ (s1.trans s2) (s2 _ _ hH) (Nat.zero_le _)))
      | succ j =>
        have ne : decide (pre N (rt N) (j + 1) = []) = false := decide_eq_false fun z => by
          have := congrArg List.length z
          rw [pre_len] at this
          cases this
        rw [ne]
        have el : vi (pre N (rt N) (j + 1)) = vi (pre N (rt N) j) ++ [V.int (pt (rt N) (st N (rt N) j))] := by
          unfold vi
          rw [pre_succ, List.map_append]
          rfl
        refine iteF ⟨_, rfl, _, rfl, q, _, _, V.int (pt (rt N) (st N (rt N) j)), rfl, rfl, SqL.of (s2 _ _ hH), by rw [el]; exact atI_last _ _, _, rfl, _, _, rfl, rfl, .inl (by decide), rfl, _, rfl, ?_⟩
        by_cases c : j = stp N
        · have e2 : (!decide (V.int (pt (rt N) (st N (rt N) j)) = V.int (2 * rt N))) = false := by rw [c, decide_eq_true (congrArg V.int (ok.ends.last ok.nsq))]; rfl
          show if (!decide (V.int (pt (rt N) (st N (rt N) j)) = V.int (2 * rt N))) = true then _ else _
          rw [e2]
          refine iteF ⟨_, rfl, _, rfl, (by show 2 ≤ sizeLine; decide), fun p hp => ?_⟩
          have s3 : Same H (upd H' t (.lst (vi []))) := s1.trans s2
          have npq : p ≠ q := (ne_of_none (s2 _ _ hH) hp).symm
          refine k _ p q (sm s3 hp) (s3.free hp) hq npq upd_same ?_
          refine (upd_ne npq.symm).trans ((s2 _ _ hH).trans ?_)
          rw [c]
          rfl
        · have e2 : (!decide (V.int (pt (rt N) (st N (rt N) j)) = V.int (2 * rt N))) = true := by rw [decide_eq_false fun z => ok.ends.not ok.nsq (by omega) (V.int.inj z)]; rfl
          show if (!decide (V.int (pt (rt N) (st N (rt N) j)) = V.int (2 * rt N))) = true then _ else _
          rw [e2]
          exact iteT (body _ (s1.trans s2) (s2 _ _ hH) (by omega))
    · intro σ H' Q1 Q2 hq2 h
      obtain ⟨x, hx, hz, h⟩ := h
      refine ⟨x, hx, hz, fun t ht => ?_⟩
      obtain ⟨d, e, a1, a2, a3, a4, k1, k2, h⟩ := h t ht
      refine ⟨d, e, a1, a2, a3, a4, k1, k2, ?_⟩
      cases k1 with
      | true => exact iteT (hq2 _ _ (by simpa using h))
      | false =>
        have h' := h
        rw [if_neg Bool.false_ne_true] at h'
        obtain ⟨y, hy, i, hi, z, zs, j, u, c1, c2, c3, c4, r, hr2, a, b, d1, d2, d3, d4, kk, hk, q3⟩ := h'
        exact iteF ⟨y, hy, i, hi, z, zs, j, u, c1, c2, c3, c4, r, hr2, a, b, d1, d2, d3, d4, kk, hk, hq2 _ _ q3⟩
/-! ### put, first, least -/
theorem ok_lput (T : Tx K mg) : Okd P w K mg base 1 "_law_put" ["_law_number", "_law_one", "_law_other"] (spPut K) := by
  have S : FnScope ["_law_number", "_law_one", "_law_other", "_law_a", "_law_b", "_law_c", "_law_d"] ["_law_number", "_law_one", "_law_other"] (defScope s__law_put) := ⟨rfl, rfl, rfl, by decide +kernel, rfl, by decide +kernel, by decide +kernel⟩
  refine okd T.d__law_put S (fun _ _ _ _ _ _ us hl => match us, hl with | [_, _, _], _ => rfl) (fun vs H Q E h => ?_) (fun f cdv A outer s H vs Q E hr h => ?_)
  · obtain ⟨N, x, y, s, t, i, j, rfl, _⟩ := h
    rfl
  · obtain ⟨N, x, y, a, b, i, j, rfl, hA, hB, zN, z1, z2, z3, z4, hij, k⟩ := h
    refine ⟨_, pss_cons (ps_asg (pe_tup (pa_cons (pv 1) (pa_cons (pv 2) pa_nil))) (pg_tup (by rfl) (pgs_cons (pg_tup (by rfl) (pgs_cons (pg_name (i := 3) S.nd rfl (.inl rfl)) (pgs_cons (pg_name (i := 4) S.nd rfl (.inl rfl)) pgs_nil))) (pgs_cons (pg_tup (by rfl) (pgs_cons (pg_name (i := 5) S.nd rfl (.inl rfl)) (pgs_cons (pg_name (i := 6) S.nd rfl (.inl rfl)) pgs_nil))) pgs_nil))))
      (pss_one (ps_ret (pe_tup (pa_cons (pe_op op_add (pe_op op_mulI (pv 3) (pv 5)) (pe_op op_mulI (pe_op op_mulI (pv 0) (pv 4)) (pv 6)))
        (pa_cons (pe_op op_add (pe_op op_mulI (pv 3) (pv 6)) (pe_op op_mulI (pv 4) (pv 5))) pa_nil))))), ?_⟩
    refine ⟨_, rfl, _, rfl, (by show 2 ≤ sizeLine; decide), fun t ht => ?_⟩
    have st : Same H (upd H t (.tup [.ref a, .ref b])) := same_upd ht
    refine ⟨t, _, rfl, SqT.of upd_same, rfl, _, _, rfl, ⟨a, _, rfl, sqT_same st hA, rfl, _, _, rfl, _, _, rfl, rfl, ?_⟩⟩
    refine ⟨_, _, rfl, ⟨b, _, rfl, sqT_same st hB, rfl, _, _, rfl, _, _, rfl, rfl, rfl, ?_⟩⟩
    refine ⟨_, rfl, _, rfl, _, _, rfl, rfl, z1.ok z3 (by omega), ?_⟩
    refine ⟨_, rfl, _, rfl, _, _, rfl, rfl, zN.ok z2 (by omega), _, rfl, _, _, rfl, rfl, (zN.mul z2).ok z4 (by omega), _, _, rfl, rfl, ?_⟩
    refine ⟨_, rfl, _, rfl, _, _, rfl, rfl, z1.ok z4 (by omega), _, rfl, _, rfl, _, _, rfl, rfl, z2.ok z3 (by omega), _, _, rfl, rfl, ?_⟩
    exact ⟨(by show 2 ≤ sizeLine; decide), fun p hp => k _ p (sm st hp) (st.free hp) upd_same⟩
def spFirst : Sp := fun vs H Q _ => ∃ N : Int, vs = [.int N] ∧ Ok N ∧
  ∀ H' p q, Same H H' → H p = none → H q = none → p ≠ q → H' p = some (.tup [.ref q, .int (apart N)]) → H' q = some (pr (near N)) → Q (.ref p) H'
theorem ok_first (T : Tx K mg) : Okd P w K mg base 3 "_law_first" ["_law_number"] spFirst := by
  have S : FnScope ["_law_number", "_law_first_here", "_law_found", "_law_above", "_law_beneath", "_law_part", "_law_pair"] ["_law_number"] (defScope s__law_first) := ⟨rfl, rfl, rfl, by decide +kernel, rfl, by decide +kernel, by decide +kernel⟩
  refine okd T.d__law_first S (fun _ _ _ _ _ _ us hl => match us, hl with | [_], _ => rfl) (fun vs H Q E h => ?_) (fun f cdv A outer s H vs Q E hr h => ?_)
  · obtain ⟨N, rfl, _⟩ := h
    rfl
  · obtain ⟨N, rfl, ok, k⟩ := h
    have zN := zN_of ok
    obtain ⟨z1, z2⟩ := ok.nearSz
    refine ⟨_, pss_cons (ps_asg (pe_do (ok_parts T) hr (pa_cons (pv 0) pa_nil)) (pg_tup (by rfl) (pgs_cons (pg_name (i := 1) S.nd rfl (.inl rfl)) (pgs_cons (pg_name (i := 2) S.nd rfl (.inl rfl)) pgs_nil))))
      (pss_cons (ps_asg (pe_tup (pa_cons pe_int (pa_cons pe_int pa_nil))) (pg_tup (by rfl) (pgs_cons (pg_name (i := 3) S.nd rfl (.inl rfl)) (pgs_cons (pg_name (i := 4) S.nd rfl (.inl rfl)) pgs_nil))))
      (pss_cons (ps_for PassesOwn.never rfl (pi_list (pe_revL (pe_slice sl_list (pv 2) po_none (po_some (pe_un un_neg pe_int))))) (pg_name (i := 5) S.nd rfl (.inl rfl))
        (pss_one (ps_par (i := 3) (j := 4) rfl S.nd rfl rfl (by decide) rfl rfl (pa_cons (pe_op op_add (pe_op op_mul (pv 5) (pv 3)) (pv 4)) (pa_cons (pv 3) pa_nil)) (by rfl))))
      (pss_cons (ps_set (i := 6) S.nd rfl (.inl rfl) (pe_tup (pa_cons (pe_op op_add (pe_op op_mul (pv 1) (pv 3)) (pv 4)) (pa_cons (pv 3) pa_nil))))
      (pss_one (ps_ret (pe_tup (pa_cons (pv 6) (pa_cons (pe_op op_sub (pe_op op_mulI (pe_ix ix_tup (pv 6) pe_int (fun _ _ => rfl)) (pe_ix ix_tup (pv 6) pe_int (fun _ _ => rfl)))
        (pe_op op_mulI (pe_op op_mulI (pv 0) (pe_ix ix_tup (pv 6) pe_int (fun _ _ => rfl))) (pe_ix ix_tup (pv 6) pe_int (fun _ _ => rfl)))) pa_nil)))))))), ?_⟩
    refine ⟨_, rfl, N, rfl, ok, fun H1 p0 q0 s1 hp0 hq0 ne0 e1 e2 => ?_⟩
    refine ⟨p0, _, rfl, SqT.of e1, rfl, _, _, rfl, _, _, rfl, rfl, ?_⟩
    refine ⟨(by show 2 ≤ sizeLine; decide), fun t0 ht0 => ⟨t0, _, rfl, SqT.of upd_same, rfl, _, _, rfl, _, _, rfl, rfl, ?_⟩⟩
    have s2 := sm s1 ht0 (o := .tup [.int 1, .int 0])
    refine ⟨_, rfl, 1, rfl, _, rfl, q0, _, rfl, SqL.of (same_upd ht0 _ _ e2), fun u hu => ?_⟩
    rw [parts_cut]
    refine ⟨u, _, rfl, SqL.of upd_same, fun v hv => ?_⟩
    have erev : (vi (pre N (rt N) (stp N))).reverse = vi (pre N (rt N) (stp N)) := by
      unfold vi
      rw [← List.map_reverse, pre_rev ok.nsq ok.ends]
    rw [erev]
    have s3 := sm (sm s2 hu (o := .lst (vi (pre N (rt N) (stp N))))) hv (o := .lst (vi (pre N (rt N) (stp N))))
    refine ⟨v, rfl, ⟨_, SqL.of upd_same⟩, for_list (K := K) (a := v) (xs := vi (pre N (rt N) (stp N))) (fun i σ H' => ∃ b, σ = [some (.int N), some (.int (rt N)), some (.ref q0), some (.int (back (pre N (rt N) i).reverse).1), some (.int (back (pre N (rt N) i).reverse).2), b, none] ∧ Same H H' ∧ H' v = some (.lst (vi (pre N (rt N) (stp N)))))
      ⟨none, rfl, s3, upd_same⟩ (fun i σ H' _ h => ?_) ?_ ?_⟩
    · obtain ⟨_, _, _, e⟩ := h
      exact SqL.of e
    · rintro i x σ H' hx ⟨b, rfl, s4, e4⟩
      have hi : i < stp N := by
        have := (List.getElem?_eq_some_iff.mp hx).1
        rw [vi_len, pre_len] at this
        exact this
      obtain rfl : x = V.int (pt (rt N) (st N (rt N) i)) := by
        unfold vi at hx
        rw [List.getElem?_map, pre_get hi] at hx
        exact (Option.some.inj hx).symm
      obtain ⟨b1, b2, b3, b4, b5, b6⟩ := ok.bd i
      refine ⟨_, rfl, _, rfl, _, _, rfl, rfl, .inl ⟨by omega, by omega⟩, _, rfl, _, _, rfl, rfl, _, rfl, _, _, rfl, ?_⟩
      refine ⟨some (.int (pt (rt N) (st N (rt N) i))), ?_, s4, e4⟩
      rw [pre_succ, List.reverse_append]
      rfl
    · rintro σ H' ⟨b, rfl, s4, e4⟩
      rw [vi_len, pre_len, pre_rev ok.nsq ok.ends]
      have en : near N = (rt N * (back (pre N (rt N) (stp N))).1 + (back (pre N (rt N) (stp N))).2, (back (pre N (rt N) (stp N))).1) := cv_back _
      have en1 : (near N).1 = rt N * (back (pre N (rt N) (stp N))).1 + (back (pre N (rt N) (stp N))).2 := by rw [en]
      have en2 : (near N).2 = (back (pre N (rt N) (stp N))).1 := by rw [en]
      have r1 := ok.r1
      have r2 : rt N ≤ 1000 := ok.r1000
      refine ⟨_, rfl, _, rfl, _, _, rfl, rfl, .inl ⟨by omega, by omega⟩, _, rfl, _, _, rfl, rfl, _, rfl, (by show 2 ≤ sizeLine; decide), fun q hq => ?_⟩
      have hT : (upd H' q (.tup [.int (rt N * (back (pre N (rt N) (stp N))).1 + (back (pre N (rt N) (stp N))).2), .int (back (pre N (rt N) (stp N))).1])) q = some (pr (near N)) := by
        rw [upd_same, ← en1, ← en2]
        rfl
      have a0 : atI [V.int (near N).1, V.int (near N).2] 0 = some (.int (near N).1) := rfl
      have a1 : atI [V.int (near N).1, V.int (near N).2] 1 = some (.int (near N).2) := rfl
      refine ⟨_, rfl, _, rfl, q, _, _, _, rfl, rfl, SqT.of hT, a0, _, rfl, q, _, _, _, rfl, rfl, SqT.of hT, a0, _, _, rfl, rfl, z1.ok z1 (by decide), ?_⟩
      refine ⟨_, rfl, _, rfl, q, _, _, _, rfl, rfl, SqT.of hT, a1, _, _, rfl, rfl, zN.ok z2 (by decide), _, rfl, q, _, _, _, rfl, rfl, SqT.of hT, a1, _, _, rfl, rfl, (zN.mul z2).ok z2 (by decide), _, _, rfl, rfl, ?_⟩
      refine ⟨(by show 2 ≤ sizeLine; decide), fun p hp => ?_⟩
      have npq : p ≠ q := (ne_of_none hT hp).symm
      have s5 := sm s4 hq (o := .tup [.int (rt N * (back (pre N (rt N) (stp N))).1 + (back (pre N (rt N) (stp N))).2), .int (back (pre N (rt N) (stp N))).1])
      exact k _ p q (sm s5 hp) (s5.free hp) (s4.free hq) npq upd_same (by rw [upd_ne npq.symm]; exact hT)
theorem ok_lleast (T : Tx K mg) : Okd P w K mg base 4 "_law_least" ["_law_number"] spLeast := by
  have S : FnScope ["_law_number", "_law_pair", "_law_apart"] ["_law_number"] (defScope s__law_least) := ⟨rfl, rfl, rfl, by decide +kernel, rfl, by decide +kernel, by decide +kernel⟩
  refine okd T.d__law_least S (fun _ _ _ _ _ _ us hl => match us, hl with | [_], _ => rfl) (fun vs H Q E h => ?_) (fun f cdv A outer s H vs Q E hr h => ?_)
  · obtain ⟨N, rfl, _⟩ := h
    rfl
  · obtain ⟨N, rfl, ok, k⟩ := h
    obtain ⟨z1, z2⟩ := ok.nearSz
    refine ⟨_, pss_cons (ps_asg (pe_do (ok_first T) hr (pa_cons (pv 0) pa_nil)) (pg_tup (by rfl) (pgs_cons (pg_name (i := 1) S.nd rfl (.inl rfl)) (pgs_cons (pg_name (i := 2) S.nd rfl (.inl rfl)) pgs_nil))))
      (pss_one (ps_ret (pe_ifExp (pt_cmpR op_eq (pv 2) pe_int (nomark _)) (pv 1) (pe_do (ok_lput T) hr (pa_cons (pv 0) (pa_cons (pv 1) (pa_cons (pv 1) pa_nil))))))), ?_⟩
    refine ⟨_, rfl, N, rfl, ok, fun H1 p q s1 hp hq ne e1 e2 => ?_⟩
    refine ⟨p, _, rfl, SqT.of e1, rfl, _, _, rfl, _, _, rfl, rfl, ?_⟩
    refine ⟨_, rfl, rfl, _, rfl, ?_⟩
    by_cases c : apart N = 1
    · have e : decide (V.int (apart N) = V.int 1) = true := decide_eq_true (congrArg V.int c)
      show if decide (V.int (apart N) = V.int 1) = true then _ else _
      rw [e]
      refine iteT ⟨_, rfl, k _ q s1 hq ?_⟩
      rw [e2]
      unfold least
      rw [if_pos c]
    · have e : decide (V.int (apart N) = V.int 1) = false := decide_eq_false fun z => c (V.int.inj z)
      show if decide (V.int (apart N) = V.int 1) = true then _ else _
      rw [e]
      refine iteF ⟨_, rfl, _, rfl, _, rfl, N, near N, near N, q, q, _, _, rfl, SqT.of e2, SqT.of e2, zN_of ok, z1, z2, z1, z2, by decide, fun H2 u s2 hu h2 => ?_⟩
      refine k _ u (s1.trans s2) (s1.free hu) ?_
      rw [h2]
      unfold least
      rw [if_neg c]
/-! ### is it an answer, a whole number, the word -/
end
end OA

namespace OA
open PySem L2 PyProof.Rows
section
variable {P : Program} {w : World} {K : PySem.W.Frag} {mg : Str → Option Value} {base : Heap} {eP eN eI eW eC : Addr}
def spWN (eN : Addr) : Sp := fun vs H _ E => ∃ (d : Int) (x : V), vs = [.int d, x] ∧ BadN H x ∧ Out H E eN
theorem x_wn (T : Tx K mg) (Z : Te K mg eP eN eI eW eC) : Okx P w K mg base 6 "_law_with_number" ["_law_door", "_law_number"] (spWN eN) := by
  have S : FnScope ["_law_door", "_law_number"] ["_law_door", "_law_number"] (defScope s__law_with_number) := ⟨rfl, rfl, rfl, by decide +kernel, rfl, by decide +kernel, by decide +kernel⟩
  refine okx T.d__law_with_number S (fun _ _ _ _ _ _ us hl => match us, hl with | [_, _], _ => rfl) (fun vs H Q E h => ?_) (fun f cdv A outer s H vs Q E hr h => ?_)
  · obtain ⟨d, x, rfl, _⟩ := h
    rfl
  · obtain ⟨d, x, rfl, hx, k⟩ := h
    refine ⟨_, pss_cons (ps_if (pt_cmpR op_lt (pv 0) pe_int (nomark _)) (pss_one (ps_ret (pe_ifExp (pt_cmpR op_eq (pv 0) pe_int (nomark _)) (pe_dox (x_told T Z) (L2N.takes_of rfl rfl rfl rfl) hr (pa_cons (pv 1) pa_nil))
          (pe_ifExp (pt_cmpR op_eq (pv 0) pe_int (nomark _)) (pe_dox (x_less T Z) (L2N.takes_of rfl rfl rfl rfl) hr (pa_cons (pv 1) pa_nil)) (pe_dox (x_chain T Z) (L2N.takes_of rfl rfl rfl rfl) hr (pa_cons (pv 1) pa_nil)))))) pss_nil)
      (pss_cons (ps_if (pt_cmpR op_lt (pv 0) pe_int (nomark _)) (pss_one (ps_ret (pe_ifExp (pt_cmpR op_eq (pv 0) pe_int (nomark _)) (pe_dox (x_by T Z) (L2N.takes_of rfl rfl rfl rfl) hr (pa_cons (pv 1) (pa_cons (pe_un un_neg pe_int) pa_nil)))
          (pe_dox (x_count T Z) (L2N.takes_of rfl rfl rfl rfl) hr (pa_cons (pv 1) (pa_cons pe_non pa_nil)))))) pss_nil)
      (pss_one (ps_ret (pe_dox (x_tog T Z) (L2N.takes_of rfl rfl rfl rfl) hr (pa_cons (pv 1) (pa_cons pe_non (pa_cons pe_non pa_nil))))))), ?_⟩
    refine ⟨_, rfl, _, _, rfl, rfl, _, rfl, ?_⟩
    by_cases c3 : d < 3
    · rw [decide_eq_true c3]
      refine iteT ⟨_, rfl, rfl, _, rfl, ?_⟩
      by_cases c0 : V.int d = V.int 0
      · rw [decide_eq_true c0]
        exact iteT ⟨_, rfl, x, rfl, hx, k⟩
      · rw [decide_eq_false c0]
        refine iteF ⟨_, rfl, rfl, _, rfl, ?_⟩
        by_cases c1 : V.int d = V.int 1
        · rw [decide_eq_true c1]
          exact iteT ⟨_, rfl, x, rfl, hx, k⟩
        · rw [decide_eq_false c1]
          exact iteF ⟨_, rfl, x, rfl, .inl ⟨hx, k⟩⟩
    · rw [decide_eq_false c3]
      refine iteF ⟨_, rfl, _, _, rfl, rfl, _, rfl, ?_⟩
      by_cases c5 : d < 5
      · rw [decide_eq_true c5]
        refine iteT ⟨_, rfl, rfl, _, rfl, ?_⟩
        by_cases c1 : V.int d = V.int 3
        · rw [decide_eq_true c1]
          exact iteT ⟨_, rfl, _, rfl, x, _, rfl, .inl (.inl ⟨hx, k⟩)⟩
        · rw [decide_eq_false c1]
          exact iteF ⟨_, rfl, x, _, rfl, .inl (.inl ⟨hx, k⟩)⟩
      · rw [decide_eq_false c5]
        exact iteF ⟨_, rfl, x, _, _, rfl, .inl ⟨hx, k⟩⟩
def spWS (eI : Addr) : Sp := fun vs H _ E => ∃ (d N : Int), vs = [.int d, .int N] ∧ 2 ≤ N ∧ N ≤ 1000000 ∧ IsSq N ∧ Out H E eI
theorem x_ws (T : Tx K mg) (Z : Te K mg eP eN eI eW eC) : Okx P w K mg base 6 "_law_with_square" ["_law_door", "_law_number"] (spWS eI) := by
  have S : FnScope ["_law_door", "_law_number"] ["_law_door", "_law_number"] (defScope s__law_with_square) := ⟨rfl, rfl, rfl, by decide +kernel, rfl, by decide +kernel, by decide +kernel⟩
  refine okx T.d__law_with_square S (fun _ _ _ _ _ _ us hl => match us, hl with | [_, _], _ => rfl) (fun vs H Q E h => ?_) (fun f cdv A outer s H vs Q E hr h => ?_)
  · obtain ⟨d, x, rfl, _⟩ := h
    rfl
  · obtain ⟨d, N, rfl, n1, n2, sq, k⟩ := h
    refine ⟨_, pss_one (ps_ret (pe_ifExp (pt_cmpR op_eq (pv 0) pe_int (nomark _)) (pe_dox (x_chain T Z) (L2N.takes_of rfl rfl rfl rfl) hr (pa_cons (pv 1) pa_nil))
          (pe_ifExp (pt_cmpR op_eq (pv 0) pe_int (nomark _)) (pe_dox (x_by T Z) (L2N.takes_of rfl rfl rfl rfl) hr (pa_cons (pv 1) (pa_cons (pe_un un_neg pe_int) pa_nil)))
          (pe_dox (x_count T Z) (L2N.takes_of rfl rfl rfl rfl) hr (pa_cons (pv 1) (pa_cons pe_non pa_nil)))))), ?_⟩
    refine ⟨_, rfl, rfl, _, rfl, ?_⟩
    by_cases c0 : V.int d = V.int 0
    · rw [decide_eq_true c0]
      exact iteT ⟨_, rfl, _, rfl, .inr ⟨N, rfl, n1, n2, sq, k⟩⟩
    · rw [decide_eq_false c0]
      refine iteF ⟨_, rfl, rfl, _, rfl, ?_⟩
      by_cases c1 : V.int d = V.int 1
      · rw [decide_eq_true c1]
        exact iteT ⟨_, rfl, _, rfl, _, _, rfl, .inl (.inr ⟨N, rfl, n1, n2, sq, k⟩)⟩
      · rw [decide_eq_false c1]
        exact iteF ⟨_, rfl, _, _, rfl, .inl (.inr ⟨N, rfl, n1, n2, sq, k⟩)⟩
def spWC (eC : Addr) : Sp := fun vs H _ E => ∃ (N : Int) (c : V), vs = [.int N, c] ∧ Ok N ∧ BadC H c ∧ Out H E eC
theorem x_wc (T : Tx K mg) (Z : Te K mg eP eN eI eW eC) : Okx P w K mg base 6 "_law_with_count" ["_law_number", "_law_count"] (spWC eC) := by
  have S : FnScope ["_law_number", "_law_count"] ["_law_number", "_law_count"] (defScope s__law_with_count) := ⟨rfl, rfl, rfl, by decide +kernel, rfl, by decide +kernel, by decide +kernel⟩
  refine okx T.d__law_with_count S (fun _ _ _ _ _ _ us hl => match us, hl with | [_, _], _ => rfl) (fun vs H Q E h => ?_) (fun f cdv A outer s H vs Q E hr h => ?_)
  · obtain ⟨d, x, rfl, _⟩ := h
    rfl
  · obtain ⟨N, c, rfl, ok, hc, k⟩ := h
    exact ⟨_, pss_one (ps_ret (pe_dox (x_by T Z) (L2N.takes_of rfl rfl rfl rfl) hr (pa_cons (pv 0) (pa_cons (pv 1) pa_nil)))), _, rfl, _, rfl, _, _, rfl, .inr ⟨N, rfl, ok, hc, k⟩⟩
def spWA (K : PySem.W.Frag) (eW : Addr) : Sp := fun vs H _ E => ∃ (N d : Int) (p : Addr) (c : V), vs = [.int N, .ref p] ∧ H p = some (.tup [.int d, c]) ∧ 2 ≤ N ∧ N ≤ 1000000 ∧ (d = 0 → Ok N) ∧ BadA N H c ∧ Out H E eW
theorem x_wa (T : Tx K mg) (Z : Te K mg eP eN eI eW eC) : Okx P w K mg base 6 "_law_with_answer" ["_law_number", "_law_pair"] (spWA K eW) := by
  have S : FnScope ["_law_number", "_law_pair"] ["_law_number", "_law_pair"] (defScope s__law_with_answer) := ⟨rfl, rfl, rfl, by decide +kernel, rfl, by decide +kernel, by decide +kernel⟩
  refine okx T.d__law_with_answer S (fun _ _ _ _ _ _ us hl => match us, hl with | [_, _], _ => rfl) (fun vs H Q E h => ?_) (fun f cdv A outer s H vs Q E hr h => ?_)
  · obtain ⟨N, d, p, c, rfl, _⟩ := h
    rfl
  · obtain ⟨N, d, p, c, rfl, hp, n1, n2, ok, hc, k⟩ := h
    refine ⟨_, pss_cons (ps_if (pt_cmpR op_eq (pe_ix ix_tup (pv 1) pe_int (fun _ _ => rfl)) pe_int (nomark _)) (pss_one (ps_ret (pe_dox (x_count T Z) (L2N.takes_of rfl rfl rfl rfl) hr (pa_cons (pv 0) (pa_cons (pe_ix ix_tup (pv 1) pe_int (fun _ _ => rfl)) pa_nil))))) pss_nil)
      (pss_one (ps_ret (pe_ifExp (pt_cmpR op_eq (pe_ix ix_tup (pv 1) pe_int (fun _ _ => rfl)) pe_int (nomark _)) (pe_dox (x_tog T Z) (L2N.takes_of rfl rfl rfl rfl) hr (pa_cons (pv 0) (pa_cons (pe_ix ix_tup (pv 1) pe_int (fun _ _ => rfl)) (pa_cons (pe_tup (pa_cons pe_int (pa_cons pe_int pa_nil))) pa_nil))))
          (pe_dox (x_tog T Z) (L2N.takes_of rfl rfl rfl rfl) hr (pa_cons (pv 0) (pa_cons (pe_tup (pa_cons pe_int (pa_cons pe_int pa_nil))) (pa_cons (pe_ix ix_tup (pv 1) pe_int (fun _ _ => rfl)) pa_nil))))))), ?_⟩
    refine ⟨_, rfl, p, _, _, _, rfl, rfl, SqT.of hp, rfl, rfl, _, rfl, ?_⟩
    by_cases c0 : V.int d = V.int 0
    · show if decide (V.int d = V.int 0) = true then _ else _
      rw [decide_eq_true c0]
      exact iteT ⟨_, rfl, _, rfl, p, _, _, _, rfl, rfl, SqT.of hp, rfl, _, _, rfl, .inr ⟨N, rfl, ok (V.int.inj c0), hc, k⟩⟩
    · show if decide (V.int d = V.int 0) = true then _ else _
      rw [decide_eq_false c0]
      refine iteF ⟨_, rfl, p, _, _, _, rfl, rfl, SqT.of hp, rfl, rfl, _, rfl, ?_⟩
      by_cases c1 : V.int d = V.int 1
      · show if decide (V.int d = V.int 1) = true then _ else _
        rw [decide_eq_true c1]
        refine iteT ⟨_, rfl, _, rfl, p, _, _, _, rfl, rfl, SqT.of hp, rfl, (by show 2 ≤ sizeLine; decide), fun q hq => ⟨_, _, _, rfl, .inr ⟨N, rfl, n1, n2, .inl (hc.same (same_upd hq)), fun H2 s2 => k _ ((same_upd hq).trans s2)⟩⟩⟩
      · show if decide (V.int d = V.int 1) = true then _ else _
        rw [decide_eq_false c1]
        refine iteF ⟨_, rfl, (by show 2 ≤ sizeLine; decide), fun q hq => ⟨_, rfl, p, _, _, _, rfl, rfl, SqT.of (same_upd hq _ _ hp), rfl, _, _, _, rfl, .inr ⟨N, rfl, n1, n2, .inr ⟨⟨q, rfl, upd_same⟩, hc.same (same_upd hq)⟩, fun H2 s2 => k _ ((same_upd hq).trans s2)⟩⟩⟩
end
end OA

namespace OA
open PySem L2 PyProof.Rows
def Bad2 (K : PySem.W.Frag) (N : Int) (H : Hp) (x : V) : Prop := NoTup H x ∨ ∃ a xs ds, x = .ref a ∧ H a = some (.tup xs) ∧ NotAns N H xs ∧ (∀ H', DpAll K H' xs ds) ∧ SeqAt.shaped (.tuple ds) = true
theorem Bad2.same {K : PySem.W.Frag} {N : Int} {H H' : Hp} {x : V} (s : Same H H') (h : Bad2 K N H x) : Bad2 K N H' x := by
  rcases h with h | ⟨a, xs, ds, e, e1, h, d, g⟩
  · exact .inl (h.same s)
  · exact .inr ⟨a, xs, ds, e, s _ _ e1, h.same s, d, g⟩
theorem Bad2.a {K : PySem.W.Frag} {N : Int} {H : Hp} {x : V} (h : Bad2 K N H x) : BadA N H x := by
  rcases h with h | ⟨a, xs, ds, e, e1, h, d, g⟩
  · exact .inl h
  · exact .inr ⟨a, xs, e, e1, h⟩
def AllB (K : PySem.W.Frag) (N : Int) (H : Hp) (l : List V) : Prop := ∀ x ∈ l, Bad2 K N H x
theorem AllB.nil {K : PySem.W.Frag} {N : Int} {H : Hp} : AllB K N H [] := fun _ h => absurd h (by simp)
theorem AllB.cons {K : PySem.W.Frag} {N : Int} {H : Hp} {x : V} {l : List V} (h : Bad2 K N H x) (t : AllB K N H l) : AllB K N H (x :: l) := fun b hb => by
  rcases List.mem_cons.mp hb with rfl | hb
  · exact h
  · exact t b hb
theorem AllB.app {K : PySem.W.Frag} {N : Int} {H : Hp} {l m : List V} (h : AllB K N H l) (t : AllB K N H m) : AllB K N H (l ++ m) := fun b hb => (List.mem_append.mp hb).elim (h b) (t b)
theorem AllB.same {K : PySem.W.Frag} {N : Int} {H H' : Hp} {l : List V} (s : Same H H') (h : AllB K N H l) : AllB K N H' l := fun b hb => (h b hb).same s
theorem b_ints {K : PySem.W.Frag} {N : Int} {H : Hp} {a : Addr} {i j : Int} (e : H a = some (.tup [.int i, .int j])) (h : i < 0 ∨ j < 0 ∨ (Sz i 30000000 ∧ Sz j 30000000 ∧ i * i ≠ N * j * j + 1)) : Bad2 K N H (.ref a) := by
  refine .inr ⟨a, _, [.int i, .int j], rfl, e, .inr ⟨_, _, rfl, ?_⟩, fun H' => .cons (.int i) (.cons (.int j) .nil), dpr_sh (i, j)⟩
  by_cases c : i < 0
  · exact .inl (.inr ⟨i, rfl, c⟩)
  · refine .inr ⟨i, rfl, by omega, ?_⟩
    by_cases d : j < 0
    · exact .inl (.inr ⟨j, rfl, d⟩)
    · rcases h with h | h | ⟨h1, h2, h3⟩
      · exact absurd h c
      · exact absurd h d
      · exact .inr ⟨j, rfl, by omega, h1, h2, h3⟩
theorem sq0 (x : Int) : 0 ≤ x * x := by
  rcases Int.le_total 0 x with h | h
  · exact Int.mul_nonneg h h
  · exact Int.mul_nonneg_of_nonpos_of_nonpos h h
theorem ne_swap {N p q : Int} (n : 2 ≤ N) (h : p * p = N * q * q + 1) : q * q ≠ N * p * p + 1 := by
  intro z
  rw [Int.mul_assoc] at h z
  have h1 : 0 ≤ (N - 1) * (q * q) := Int.mul_nonneg (by omega) (sq0 q)
  have h2 : 0 ≤ (N - 1) * (p * p) := Int.mul_nonneg (by omega) (sq0 p)
  rw [Int.sub_mul] at h1 h2
  omega
theorem ne_up {N p q : Int} (p0 : 2 ≤ p) (h : p * p = N * q * q + 1) : (p + 1) * (p + 1) ≠ N * q * q + 1 := by
  intro z
  rw [← h, Int.add_mul, Int.mul_add] at z
  omega
theorem ne_far {N p q f : Int} (n : 2 ≤ N) (q0 : 1 ≤ q) (f0 : 0 ≤ f) (h : p * p = N * q * q + 1) : p * p ≠ N * (q + 1 + f) * (q + 1 + f) + 1 := by
  intro z
  rw [Int.mul_assoc] at h z
  have h1 : (q + 1) * (q + 1) ≤ (q + 1 + f) * (q + 1 + f) := Int.mul_le_mul (by omega) (by omega) (by omega) (by omega)
  have h2 : N * ((q + 1) * (q + 1)) ≤ N * ((q + 1 + f) * (q + 1 + f)) := Int.mul_le_mul_of_nonneg_left h1 (by omega)
  have h3 : (q + 1) * (q + 1) = q * q + 2 * q + 1 := by rw [Int.add_mul, Int.mul_add]; omega
  rw [h3] at h2
  have h4 : N * (q * q + 2 * q + 1) = N * (q * q) + N * (2 * q + 1) := by rw [Int.add_assoc, Int.mul_add]
  have h5 : 0 < N * (2 * q + 1) := Int.mul_pos (by omega) (by omega)
  omega
theorem ne_two {N f : Int} (f0 : 0 ≤ f) : (2 + f) * (2 + f) ≠ N * 0 * 0 + 1 := by
  intro z
  have : 2 * 2 ≤ (2 + f) * (2 + f) := Int.mul_le_mul (by omega) (by omega) (by omega) (by omega)
  rw [Int.mul_zero] at z
  omega
theorem neg_odd {H : Hp} {x : V} (h : Odd H x) : Neg H x := .inl h
end OA

namespace OA
open PySem L2 PyProof.Rows
theorem lsz_k05 {N : Int} (h : Ok N) : Sz (least N).1 4000090 ∧ Sz (least N).2 4000090 := by
  obtain ⟨z1, z2⟩ := h.nearSz
  have zN := zN_of h
  unfold least
  by_cases c : apart N = 1
  · rw [if_pos c]
    exact ⟨z1.mono (by decide), z2.mono (by decide)⟩
  · rw [if_neg c]
    exact ⟨(Sz.add ((z1.mul z1).mono (show 2000011 + 2000011 ≤ 4000089 by decide)) (((zN.mul z2).mul z2).mono (show 64 + 2000011 + 2000011 ≤ 4000089 by decide))).mono (by decide),
      (Sz.add ((z1.mul z2).mono (show 2000011 + 2000011 ≤ 4000089 by decide)) ((z2.mul z1).mono (show 2000011 + 2000011 ≤ 4000089 by decide))).mono (by decide)⟩
theorem yes_of {σ : L2.St} {H : Hp} {Q : Bool → Hp → Prop} (h : Q true H) : tYes σ H Q := h
section
variable {P : Program} {w : World} {K : PySem.W.Frag} {mg : Str → Option Value} {base : Heap} {eP eN eI eW eC : Addr}
def spLA (K : PySem.W.Frag) (f eW : Addr) : Sp := fun vs H Q _ => ∃ x y, vs = [.ref f, x, y] ∧ Lets (spWA K eW) eW [x, y] H ∧ New H Q (.lst (bits false false true false))
def spAR (K : PySem.W.Frag) : Sp := fun vs H Q _ => ∃ (N far : Int) (u : Addr), vs = [.int N, .ref u, .int far] ∧ Ok N ∧ 0 ≤ far ∧ far < 10 ^ 30 ∧ SqL K H u (bits false false true false) ∧ Back H Q (.bl true)
set_option maxHeartbeats 0 in
theorem ok_ar (T : Tx K mg) (Z : Te K mg eP eN eI eW eC) : Okd P w K mg base 8 "_law_answers_right" ["_law_number", "_law_due", "_law_far"] (spAR K) := by
  obtain ⟨fA, dA, gA, kA, bA, FA⟩ := x_wa (P := P) (w := w) (base := base) T Z
  have LA : Okd P w K mg base 7 "_law_told" ["_law_ask", "_law_one", "_law_other"] (spLA K fA eW) := x_ltold FA kA bA T Z (kdW Z)
  have S : FnScope ["_law_number", "_law_due", "_law_far", "_law_one", "_law_other", "_law_bad", "_law_door", "_law_pair"] ["_law_number", "_law_due", "_law_far"] (defScope s__law_answers_right) := ⟨rfl, rfl, rfl, by decide +kernel, rfl, by decide +kernel, by decide +kernel⟩
  refine okd T.d__law_answers_right S (fun _ _ _ _ _ _ us hl => match us, hl with | [_, _, _], _ => rfl) (fun vs H Q E h => ?_) (fun f cdv A outer s H vs Q E hr h => ?_)
  · obtain ⟨N, far, u, rfl, _⟩ := h
    rfl
  · obtain ⟨N, far, u, rfl, ok, far0, farM, hu, k⟩ := h
    have hu0 := hu
    refine ⟨_, (pss_cons (ps_asg (pe_do (ok_lleast T) hr (pa_cons (pv 0) pa_nil)) (pg_tup (by rfl) (pgs_cons (pg_name (i := 3) S.nd rfl (.inr rfl)) (pgs_cons (pg_name (i := 4) S.nd rfl (.inr rfl)) pgs_nil))))
      (pss_cons (ps_set (i := 5) S.nd rfl (.inl rfl) (pe_lst (pa_cons pe_non (pa_cons (pe_tup pa_nil) (pa_cons (pe_tup (pa_cons pe_int pa_nil)) (pa_cons (pe_tup (pa_cons pe_int (pa_cons pe_int (pa_cons pe_int pa_nil)))) (pa_cons (pe_lst (pa_cons pe_int (pa_cons pe_int pa_nil))) (pa_cons pe_str (pa_cons pe_int (pa_cons pe_dnewK (pa_cons (pe_tup (pa_cons pe_bl (pa_cons pe_int pa_nil))) (pa_cons (pe_tup (pa_cons pe_int (pa_cons pe_bl pa_nil))) (pa_cons (pe_tup (pa_cons pe_str (pa_cons pe_int pa_nil))) (pa_cons (pe_tup (pa_cons pe_int (pa_cons pe_non pa_nil))) (pa_cons (pe_tup (pa_cons pe_int (pa_cons pe_int pa_nil))) (pa_cons (pe_tup (pa_cons (pe_un un_neg pe_int) (pa_cons pe_int pa_nil))) pa_nil))))))))))))))))
      (pss_cons (ps_set (i := 5) S.nd rfl (.inl rfl) (pe_op op_cat (pv 5) (pe_lst (pa_cons (pe_tup (pa_cons (pv 3) (pa_cons (pe_un un_neg (pv 4)) pa_nil))) (pa_cons (pe_tup (pa_cons (pe_un un_neg (pv 3)) (pa_cons (pv 4) pa_nil))) (pa_cons (pe_tup (pa_cons (pv 4) (pa_cons (pv 3) pa_nil))) (pa_cons (pe_tup (pa_cons (pe_op op_add (pv 3) pe_int) (pa_cons (pv 4) pa_nil))) (pa_cons (pe_tup (pa_cons (pv 3) (pa_cons (pe_op op_add (pe_op op_add (pv 4) pe_int) (pv 2)) pa_nil))) pa_nil))))))))
      (pss_cons (ps_set (i := 5) S.nd rfl (.inl rfl) (pe_op op_cat (pv 5) (pe_lst (pa_cons (pe_tup (pa_cons pe_int (pa_cons pe_int pa_nil))) (pa_cons (pe_tup (pa_cons (pe_op op_add pe_int (pv 2)) (pa_cons pe_int pa_nil))) pa_nil)))))
      (pss_cons (ps_setLc (i := 5) (own := [("_law_pair", 7)]) (g := gName 7) (tt := (tOr (tNot (tB (tCB (rIsi K) (tCons (tVar 7) (tCons (tC (.ty "tuple")) tNil))))) (tTest (tOp (rNeD K) (tVar 7) (tTup (tCons (tVar 3) (tCons (tVar 4) tNil))))))) rfl S.nd rfl rfl (sw_true rfl rfl rfl (by decide +kernel)) (pi_list (pv 5)) (blkOk_by (own := [("_law_pair", 7)]) (N := ["_law_number", "_law_due", "_law_far", "_law_one", "_law_other", "_law_bad", "_law_door", "_law_pair"]) (sc := defScope s__law_answers_right) (by decide +kernel)) (fun _ _ _ _ _ => pg_name (i := 7) S.nd rfl (Or.inl rfl))
        (fun _ _ _ _ _ => pts_one (PW.pt (pw_or (pt_not (pt_val (pe_callB call_isi (by rfl) T.b_isinstance bt_isi (pa_cons (pv 7) (pa_cons (pe_bltn (v := .ty "tuple") (by rfl) T.b_tuple bt_tuple rfl) pa_nil))))) (pw_or1 (pt_cmpR (op_neD hr.units) (pv 7) (pe_tup (pa_cons (pv 3) (pa_cons (pv 4) pa_nil))) (nomark _)))))) (fun _ _ _ _ _ => pv 7))
      (pss_cons (ps_for PassesOwn.never rfl (pi_range1 (by rfl) T.b_range (pa_cons pe_int pa_nil)) (pg_name (i := 6) S.nd rfl (.inr rfl)) (pss_one (ps_if (pt_not (pt_val (pe_callB (cr_all rfl) (by rfl) T.b_all bt_all (pa_cons (pe_lc (te := (tOp (rEqD K) (tCall (spLA K fA eW) [] E0 (tCons (tC (.ref fA)) (tCons (tVar 0) (tCons (tTup (tCons (tVar 6) (tCons (tVar 7) tNil))) tNil)))) (tVar 1))) (own := [("_law_pair", 7)]) (g := gName 7) (tt := tYes) rfl S.nd (pi_list (pv 5)) (blkOk_by (own := [("_law_pair", 7)]) (N := ["_law_number", "_law_due", "_law_far", "_law_one", "_law_other", "_law_bad", "_law_door", "_law_pair"]) (sc := defScope s__law_answers_right) (by decide +kernel)) (fun _ _ _ _ _ => pg_name (i := 7) S.nd rfl (Or.inl rfl)) (fun _ _ _ _ _ => pts_nil)
        (fun _ _ _ _ _ => pe_cmpR (op_eqD hr.units) (pe_do LA hr (pa_cons (pe_glob (v := .ref fA) (by rfl) gA rfl) (pa_cons (pv 0) (pa_cons (pe_tup (pa_cons (pv 6) (pa_cons (pv 7) pa_nil))) pa_nil)))) (pv 1) (nomark _))) pa_nil)))) (pss_one (ps_ret pe_bl)) pss_nil)))
      (pss_one (ps_ret (pe_and (pe_cmpR op_eq (pe_do (ok_count T) hr (pa_cons (pv 0) (pa_cons (pe_tup (pa_cons (pv 3) (pa_cons (pv 4) pa_nil))) pa_nil))) pe_int (nomark _)) (pe_one (pe_cmpR op_eq (pe_do (ok_count T) hr (pa_cons (pv 0) (pa_cons (pe_tup (pa_cons pe_int (pa_cons pe_int pa_nil))) pa_nil))) pe_int (nomark _)))))))))))), ?_⟩
    refine ⟨_, rfl, N, rfl, ok, fun H1 v s1 hv h1 => ?_⟩
    refine ⟨v, _, rfl, SqT.of h1, rfl, _, _, rfl, _, _, rfl, rfl, ?_⟩
    have sx := s1
    have hu := s1.seq hu
    refine ⟨(by show 0 ≤ sizeLine; decide), fun t0 ht0 => ?_⟩
    have e0 : (upd H1 t0 (.tup [])) t0 = some (.tup []) := upd_same
    have q1 : Same H1 (upd H1 t0 (.tup [])) := same_upd ht0
    have sx := sx.trans q1
    refine ⟨(by show 1 ≤ sizeLine; decide), fun t1 ht1 => ?_⟩
    have e1 : (upd (upd H1 t0 (.tup [])) t1 (.tup [.int 1])) t1 = some (.tup [.int 1]) := upd_same
    have q2 : Same (upd H1 t0 (.tup [])) (upd (upd H1 t0 (.tup [])) t1 (.tup [.int 1])) := same_upd ht1
    have e0 := q2 _ _ e0
    have sx := sx.trans q2
    refine ⟨(by show 3 ≤ sizeLine; decide), fun t3 ht3 => ?_⟩
    have e3 : (upd (upd (upd H1 t0 (.tup [])) t1 (.tup [.int 1])) t3 (.tup [.int 1, .int 0, .int 0])) t3 = some (.tup [.int 1, .int 0, .int 0]) := upd_same
    have q3 : Same (upd (upd H1 t0 (.tup [])) t1 (.tup [.int 1])) (upd (upd (upd H1 t0 (.tup [])) t1 (.tup [.int 1])) t3 (.tup [.int 1, .int 0, .int 0])) := same_upd ht3
    have e0 := q3 _ _ e0
    have e1 := q3 _ _ e1
    have sx := sx.trans q3
    refine ⟨(by show 2 ≤ sizeLine; decide), fun tl htl => ?_⟩
    have etl : (upd (upd (upd (upd H1 t0 (.tup [])) t1 (.tup [.int 1])) t3 (.tup [.int 1, .int 0, .int 0])) tl (.lst [.int 1, .int 0])) tl = some (.lst [.int 1, .int 0]) := upd_same
    have q4 : Same (upd (upd (upd H1 t0 (.tup [])) t1 (.tup [.int 1])) t3 (.tup [.int 1, .int 0, .int 0])) (upd (upd (upd (upd H1 t0 (.tup [])) t1 (.tup [.int 1])) t3 (.tup [.int 1, .int 0, .int 0])) tl (.lst [.int 1, .int 0])) := same_upd htl
    have e0 := q4 _ _ e0
    have e1 := q4 _ _ e1
    have e3 := q4 _ _ e3
    have sx := sx.trans q4
    refine fun td htd => ?_
    have ed : (upd (upd (upd (upd (upd H1 t0 (.tup [])) t1 (.tup [.int 1])) t3 (.tup [.int 1, .int 0, .int 0])) tl (.lst [.int 1, .int 0])) td (.dK [])) td = some (.dK []) := upd_same
    have q5 : Same (upd (upd (upd (upd H1 t0 (.tup [])) t1 (.tup [.int 1])) t3 (.tup [.int 1, .int 0, .int 0])) tl (.lst [.int 1, .int 0])) (upd (upd (upd (upd (upd H1 t0 (.tup [])) t1 (.tup [.int 1])) t3 (.tup [.int 1, .int 0, .int 0])) tl (.lst [.int 1, .int 0])) td (.dK [])) := same_upd htd
    have e0 := q5 _ _ e0
    have e1 := q5 _ _ e1
    have e3 := q5 _ _ e3
    have etl := q5 _ _ etl
    have sx := sx.trans q5
    refine ⟨(by show 2 ≤ sizeLine; decide), fun t4 ht4 => ?_⟩
    have e4 : (upd (upd (upd (upd (upd (upd H1 t0 (.tup [])) t1 (.tup [.int 1])) t3 (.tup [.int 1, .int 0, .int 0])) tl (.lst [.int 1, .int 0])) td (.dK [])) t4 (.tup [.bl true, .int 0])) t4 = some (.tup [.bl true, .int 0]) := upd_same
    have q6 : Same (upd (upd (upd (upd (upd H1 t0 (.tup [])) t1 (.tup [.int 1])) t3 (.tup [.int 1, .int 0, .int 0])) tl (.lst [.int 1, .int 0])) td (.dK [])) (upd (upd (upd (upd (upd (upd H1 t0 (.tup [])) t1 (.tup [.int 1])) t3 (.tup [.int 1, .int 0, .int 0])) tl (.lst [.int 1, .int 0])) td (.dK [])) t4 (.tup [.bl true, .int 0])) := same_upd ht4
    have e0 := q6 _ _ e0
    have e1 := q6 _ _ e1
    have e3 := q6 _ _ e3
    have etl := q6 _ _ etl
    have ed := q6 _ _ ed
    have sx := sx.trans q6
    refine ⟨(by show 2 ≤ sizeLine; decide), fun t5 ht5 => ?_⟩
    have e5 : (upd (upd (upd (upd (upd (upd (upd H1 t0 (.tup [])) t1 (.tup [.int 1])) t3 (.tup [.int 1, .int 0, .int 0])) tl (.lst [.int 1, .int 0])) td (.dK [])) t4 (.tup [.bl true, .int 0])) t5 (.tup [.int 1, .bl false])) t5 = some (.tup [.int 1, .bl false]) := upd_same
    have q7 : Same (upd (upd (upd (upd (upd (upd H1 t0 (.tup [])) t1 (.tup [.int 1])) t3 (.tup [.int 1, .int 0, .int 0])) tl (.lst [.int 1, .int 0])) td (.dK [])) t4 (.tup [.bl true, .int 0])) (upd (upd (upd (upd (upd (upd (upd H1 t0 (.tup [])) t1 (.tup [.int 1])) t3 (.tup [.int 1, .int 0, .int 0])) tl (.lst [.int 1, .int 0])) td (.dK [])) t4 (.tup [.bl true, .int 0])) t5 (.tup [.int 1, .bl false])) := same_upd ht5
    have e0 := q7 _ _ e0
    have e1 := q7 _ _ e1
    have e3 := q7 _ _ e3
    have etl := q7 _ _ etl
    have ed := q7 _ _ ed
    have e4 := q7 _ _ e4
    have sx := sx.trans q7
    refine ⟨(by show 2 ≤ sizeLine; decide), fun t6 ht6 => ?_⟩
    have e6 : (upd (upd (upd (upd (upd (upd (upd (upd H1 t0 (.tup [])) t1 (.tup [.int 1])) t3 (.tup [.int 1, .int 0, .int 0])) tl (.lst [.int 1, .int 0])) td (.dK [])) t4 (.tup [.bl true, .int 0])) t5 (.tup [.int 1, .bl false])) t6 (.tup [.str "1", .int 0])) t6 = some (.tup [.str "1", .int 0]) := upd_same
    have q8 : Same (upd (upd (upd (upd (upd (upd (upd H1 t0 (.tup [])) t1 (.tup [.int 1])) t3 (.tup [.int 1, .int 0, .int 0])) tl (.lst [.int 1, .int 0])) td (.dK [])) t4 (.tup [.bl true, .int 0])) t5 (.tup [.int 1, .bl false])) (upd (upd (upd (upd (upd (upd (upd (upd H1 t0 (.tup [])) t1 (.tup [.int 1])) t3 (.tup [.int 1, .int 0, .int 0])) tl (.lst [.int 1, .int 0])) td (.dK [])) t4 (.tup [.bl true, .int 0])) t5 (.tup [.int 1, .bl false])) t6 (.tup [.str "1", .int 0])) := same_upd ht6
    have e0 := q8 _ _ e0
    have e1 := q8 _ _ e1
    have e3 := q8 _ _ e3
    have etl := q8 _ _ etl
    have ed := q8 _ _ ed
    have e4 := q8 _ _ e4
    have e5 := q8 _ _ e5
    have sx := sx.trans q8
    refine ⟨(by show 2 ≤ sizeLine; decide), fun t7 ht7 => ?_⟩
    have e7 : (upd (upd (upd (upd (upd (upd (upd (upd (upd H1 t0 (.tup [])) t1 (.tup [.int 1])) t3 (.tup [.int 1, .int 0, .int 0])) tl (.lst [.int 1, .int 0])) td (.dK [])) t4 (.tup [.bl true, .int 0])) t5 (.tup [.int 1, .bl false])) t6 (.tup [.str "1", .int 0])) t7 (.tup [.int 1, .non])) t7 = some (.tup [.int 1, .non]) := upd_same
    have q9 : Same (upd (upd (upd (upd (upd (upd (upd (upd H1 t0 (.tup [])) t1 (.tup [.int 1])) t3 (.tup [.int 1, .int 0, .int 0])) tl (.lst [.int 1, .int 0])) td (.dK [])) t4 (.tup [.bl true, .int 0])) t5 (.tup [.int 1, .bl false])) t6 (.tup [.str "1", .int 0])) (upd (upd (upd (upd (upd (upd (upd (upd (upd H1 t0 (.tup [])) t1 (.tup [.int 1])) t3 (.tup [.int 1, .int 0, .int 0])) tl (.lst [.int 1, .int 0])) td (.dK [])) t4 (.tup [.bl true, .int 0])) t5 (.tup [.int 1, .bl false])) t6 (.tup [.str "1", .int 0])) t7 (.tup [.int 1, .non])) := same_upd ht7
    have e0 := q9 _ _ e0
    have e1 := q9 _ _ e1
    have e3 := q9 _ _ e3
    have etl := q9 _ _ etl
    have ed := q9 _ _ ed
    have e4 := q9 _ _ e4
    have e5 := q9 _ _ e5
    have e6 := q9 _ _ e6
    have sx := sx.trans q9
    refine ⟨(by show 2 ≤ sizeLine; decide), fun t8 ht8 => ?_⟩
    have e8 : (upd (upd (upd (upd (upd (upd (upd (upd (upd (upd H1 t0 (.tup [])) t1 (.tup [.int 1])) t3 (.tup [.int 1, .int 0, .int 0])) tl (.lst [.int 1, .int 0])) td (.dK [])) t4 (.tup [.bl true, .int 0])) t5 (.tup [.int 1, .bl false])) t6 (.tup [.str "1", .int 0])) t7 (.tup [.int 1, .non])) t8 (.tup [.int 0, .int 0])) t8 = some (.tup [.int 0, .int 0]) := upd_same
    have q10 : Same (upd (upd (upd (upd (upd (upd (upd (upd (upd H1 t0 (.tup [])) t1 (.tup [.int 1])) t3 (.tup [.int 1, .int 0, .int 0])) tl (.lst [.int 1, .int 0])) td (.dK [])) t4 (.tup [.bl true, .int 0])) t5 (.tup [.int 1, .bl false])) t6 (.tup [.str "1", .int 0])) t7 (.tup [.int 1, .non])) (upd (upd (upd (upd (upd (upd (upd (upd (upd (upd H1 t0 (.tup [])) t1 (.tup [.int 1])) t3 (.tup [.int 1, .int 0, .int 0])) tl (.lst [.int 1, .int 0])) td (.dK [])) t4 (.tup [.bl true, .int 0])) t5 (.tup [.int 1, .bl false])) t6 (.tup [.str "1", .int 0])) t7 (.tup [.int 1, .non])) t8 (.tup [.int 0, .int 0])) := same_upd ht8
    have e0 := q10 _ _ e0
    have e1 := q10 _ _ e1
    have e3 := q10 _ _ e3
    have etl := q10 _ _ etl
    have ed := q10 _ _ ed
    have e4 := q10 _ _ e4
    have e5 := q10 _ _ e5
    have e6 := q10 _ _ e6
    have e7 := q10 _ _ e7
    have sx := sx.trans q10
    refine ⟨_, rfl, (by show 2 ≤ sizeLine; decide), fun t9 ht9 => ?_⟩
    have e9 : (upd (upd (upd (upd (upd (upd (upd (upd (upd (upd (upd H1 t0 (.tup [])) t1 (.tup [.int 1])) t3 (.tup [.int 1, .int 0, .int 0])) tl (.lst [.int 1, .int 0])) td (.dK [])) t4 (.tup [.bl true, .int 0])) t5 (.tup [.int 1, .bl false])) t6 (.tup [.str "1", .int 0])) t7 (.tup [.int 1, .non])) t8 (.tup [.int 0, .int 0])) t9 (.tup [.int (-1), .int 0])) t9 = some (.tup [.int (-1), .int 0]) := upd_same
    have q11 : Same (upd (upd (upd (upd (upd (upd (upd (upd (upd (upd H1 t0 (.tup [])) t1 (.tup [.int 1])) t3 (.tup [.int 1, .int 0, .int 0])) tl (.lst [.int 1, .int 0])) td (.dK [])) t4 (.tup [.bl true, .int 0])) t5 (.tup [.int 1, .bl false])) t6 (.tup [.str "1", .int 0])) t7 (.tup [.int 1, .non])) t8 (.tup [.int 0, .int 0])) (upd (upd (upd (upd (upd (upd (upd (upd (upd (upd (upd H1 t0 (.tup [])) t1 (.tup [.int 1])) t3 (.tup [.int 1, .int 0, .int 0])) tl (.lst [.int 1, .int 0])) td (.dK [])) t4 (.tup [.bl true, .int 0])) t5 (.tup [.int 1, .bl false])) t6 (.tup [.str "1", .int 0])) t7 (.tup [.int 1, .non])) t8 (.tup [.int 0, .int 0])) t9 (.tup [.int (-1), .int 0])) := same_upd ht9
    have e0 := q11 _ _ e0
    have e1 := q11 _ _ e1
    have e3 := q11 _ _ e3
    have etl := q11 _ _ etl
    have ed := q11 _ _ ed
    have e4 := q11 _ _ e4
    have e5 := q11 _ _ e5
    have e6 := q11 _ _ e6
    have e7 := q11 _ _ e7
    have e8 := q11 _ _ e8
    have sx := sx.trans q11
    refine ⟨(by show 14 ≤ sizeLine; decide), fun l1 hl1 => ?_⟩
    have el1 : (upd (upd (upd (upd (upd (upd (upd (upd (upd (upd (upd (upd H1 t0 (.tup [])) t1 (.tup [.int 1])) t3 (.tup [.int 1, .int 0, .int 0])) tl (.lst [.int 1, .int 0])) td (.dK [])) t4 (.tup [.bl true, .int 0])) t5 (.tup [.int 1, .bl false])) t6 (.tup [.str "1", .int 0])) t7 (.tup [.int 1, .non])) t8 (.tup [.int 0, .int 0])) t9 (.tup [.int (-1), .int 0])) l1 (.lst [.non, .ref t0, .ref t1, .ref t3, .ref tl, .str "10", .int 5, .ref td, .ref t4, .ref t5, .ref t6, .ref t7, .ref t8, .ref t9])) l1 = some (.lst [.non, .ref t0, .ref t1, .ref t3, .ref tl, .str "10", .int 5, .ref td, .ref t4, .ref t5, .ref t6, .ref t7, .ref t8, .ref t9]) := upd_same
    have q12 : Same (upd (upd (upd (upd (upd (upd (upd (upd (upd (upd (upd H1 t0 (.tup [])) t1 (.tup [.int 1])) t3 (.tup [.int 1, .int 0, .int 0])) tl (.lst [.int 1, .int 0])) td (.dK [])) t4 (.tup [.bl true, .int 0])) t5 (.tup [.int 1, .bl false])) t6 (.tup [.str "1", .int 0])) t7 (.tup [.int 1, .non])) t8 (.tup [.int 0, .int 0])) t9 (.tup [.int (-1), .int 0])) (upd (upd (upd (upd (upd (upd (upd (upd (upd (upd (upd (upd H1 t0 (.tup [])) t1 (.tup [.int 1])) t3 (.tup [.int 1, .int 0, .int 0])) tl (.lst [.int 1, .int 0])) td (.dK [])) t4 (.tup [.bl true, .int 0])) t5 (.tup [.int 1, .bl false])) t6 (.tup [.str "1", .int 0])) t7 (.tup [.int 1, .non])) t8 (.tup [.int 0, .int 0])) t9 (.tup [.int (-1), .int 0])) l1 (.lst [.non, .ref t0, .ref t1, .ref t3, .ref tl, .str "10", .int 5, .ref td, .ref t4, .ref t5, .ref t6, .ref t7, .ref t8, .ref t9])) := same_upd hl1
    have e0 := q12 _ _ e0
    have e1 := q12 _ _ e1
    have e3 := q12 _ _ e3
    have etl := q12 _ _ etl
    have ed := q12 _ _ ed
    have e4 := q12 _ _ e4
    have e5 := q12 _ _ e5
    have e6 := q12 _ _ e6
    have e7 := q12 _ _ e7
    have e8 := q12 _ _ e8
    have e9 := q12 _ _ e9
    have sx := sx.trans q12
    refine ⟨_, rfl, _, rfl, _, rfl, _, rfl, (by show 2 ≤ sizeLine; decide), fun r1 hr1 => ?_⟩
    have f1 : (upd (upd (upd (upd (upd (upd (upd (upd (upd (upd (upd (upd (upd H1 t0 (.tup [])) t1 (.tup [.int 1])) t3 (.tup [.int 1, .int 0, .int 0])) tl (.lst [.int 1, .int 0])) td (.dK [])) t4 (.tup [.bl true, .int 0])) t5 (.tup [.int 1, .bl false])) t6 (.tup [.str "1", .int 0])) t7 (.tup [.int 1, .non])) t8 (.tup [.int 0, .int 0])) t9 (.tup [.int (-1), .int 0])) l1 (.lst [.non, .ref t0, .ref t1, .ref t3, .ref tl, .str "10", .int 5, .ref td, .ref t4, .ref t5, .ref t6, .ref t7, .ref t8, .ref t9])) r1 (.tup [.int (least N).1, .int (-(least N).2)])) r1 = some (.tup [.int (least N).1, .int (-(least N).2)]) := upd_same
    have q13 : Same (upd (upd (upd (upd (upd (upd (upd (upd (upd (upd (upd (upd H1 t0 (.tup [])) t1 (.tup [.int 1])) t3 (.tup [.int 1, .int 0, .int 0])) tl (.lst [.int 1, .int 0])) td (.dK [])) t4 (.tup [.bl true, .int 0])) t5 (.tup [.int 1, .bl false])) t6 (.tup [.str "1", .int 0])) t7 (.tup [.int 1, .non])) t8 (.tup [.int 0, .int 0])) t9 (.tup [.int (-1), .int 0])) l1 (.lst [.non, .ref t0, .ref t1, .ref t3, .ref tl, .str "10", .int 5, .ref td, .ref t4, .ref t5, .ref t6, .ref t7, .ref t8, .ref t9])) (upd (upd (upd (upd (upd (upd (upd (upd (upd (upd (upd (upd (upd H1 t0 (.tup [])) t1 (.tup [.int 1])) t3 (.tup [.int 1, .int 0, .int 0])) tl (.lst [.int 1, .int 0])) td (.dK [])) t4 (.tup [.bl true, .int 0])) t5 (.tup [.int 1, .bl false])) t6 (.tup [.str "1", .int 0])) t7 (.tup [.int 1, .non])) t8 (.tup [.int 0, .int 0])) t9 (.tup [.int (-1), .int 0])) l1 (.lst [.non, .ref t0, .ref t1, .ref t3, .ref tl, .str "10", .int 5, .ref td, .ref t4, .ref t5, .ref t6, .ref t7, .ref t8, .ref t9])) r1 (.tup [.int (least N).1, .int (-(least N).2)])) := same_upd hr1
    have e0 := q13 _ _ e0
    have e1 := q13 _ _ e1
    have e3 := q13 _ _ e3
    have etl := q13 _ _ etl
    have ed := q13 _ _ ed
    have e4 := q13 _ _ e4
    have e5 := q13 _ _ e5
    have e6 := q13 _ _ e6
    have e7 := q13 _ _ e7
    have e8 := q13 _ _ e8
    have e9 := q13 _ _ e9
    have el1 := q13 _ _ el1
    have sx := sx.trans q13
    refine ⟨_, rfl, _, rfl, _, rfl, (by show 2 ≤ sizeLine; decide), fun r2 hr2 => ?_⟩
    have f2 : (upd (upd (upd (upd (upd (upd (upd (upd (upd (upd (upd (upd (upd (upd H1 t0 (.tup [])) t1 (.tup [.int 1])) t3 (.tup [.int 1, .int 0, .int 0])) tl (.lst [.int 1, .int 0])) td (.dK [])) t4 (.tup [.bl true, .int 0])) t5 (.tup [.int 1, .bl false])) t6 (.tup [.str "1", .int 0])) t7 (.tup [.int 1, .non])) t8 (.tup [.int 0, .int 0])) t9 (.tup [.int (-1), .int 0])) l1 (.lst [.non, .ref t0, .ref t1, .ref t3, .ref tl, .str "10", .int 5, .ref td, .ref t4, .ref t5, .ref t6, .ref t7, .ref t8, .ref t9])) r1 (.tup [.int (least N).1, .int (-(least N).2)])) r2 (.tup [.int (-(least N).1), .int (least N).2])) r2 = some (.tup [.int (-(least N).1), .int (least N).2]) := upd_same
    have q14 : Same (upd (upd (upd (upd (upd (upd (upd (upd (upd (upd (upd (upd (upd H1 t0 (.tup [])) t1 (.tup [.int 1])) t3 (.tup [.int 1, .int 0, .int 0])) tl (.lst [.int 1, .int 0])) td (.dK [])) t4 (.tup [.bl true, .int 0])) t5 (.tup [.int 1, .bl false])) t6 (.tup [.str "1", .int 0])) t7 (.tup [.int 1, .non])) t8 (.tup [.int 0, .int 0])) t9 (.tup [.int (-1), .int 0])) l1 (.lst [.non, .ref t0, .ref t1, .ref t3, .ref tl, .str "10", .int 5, .ref td, .ref t4, .ref t5, .ref t6, .ref t7, .ref t8, .ref t9])) r1 (.tup [.int (least N).1, .int (-(least N).2)])) (upd (upd (upd (upd (upd (upd (upd (upd (upd (upd (upd (upd (upd (upd H1 t0 (.tup [])) t1 (.tup [.int 1])) t3 (.tup [.int 1, .int 0, .int 0])) tl (.lst [.int 1, .int 0])) td (.dK [])) t4 (.tup [.bl true, .int 0])) t5 (.tup [.int 1, .bl false])) t6 (.tup [.str "1", .int 0])) t7 (.tup [.int 1, .non])) t8 (.tup [.int 0, .int 0])) t9 (.tup [.int (-1), .int 0])) l1 (.lst [.non, .ref t0, .ref t1, .ref t3, .ref tl, .str "10", .int 5, .ref td, .ref t4, .ref t5, .ref t6, .ref t7, .ref t8, .ref t9])) r1 (.tup [.int (least N).1, .int (-(least N).2)])) r2 (.tup [.int (-(least N).1), .int (least N).2])) := same_upd hr2
    have e0 := q14 _ _ e0
    have e1 := q14 _ _ e1
    have e3 := q14 _ _ e3
    have etl := q14 _ _ etl
    have ed := q14 _ _ ed
    have e4 := q14 _ _ e4
    have e5 := q14 _ _ e5
    have e6 := q14 _ _ e6
    have e7 := q14 _ _ e7
    have e8 := q14 _ _ e8
    have e9 := q14 _ _ e9
    have el1 := q14 _ _ el1
    have f1 := q14 _ _ f1
    have sx := sx.trans q14
    refine ⟨_, rfl, _, rfl, (by show 2 ≤ sizeLine; decide), fun r3 hr3 => ?_⟩
    have f3 : (upd (upd (upd (upd (upd (upd (upd (upd (upd (upd (upd (upd (upd (upd (upd H1 t0 (.tup [])) t1 (.tup [.int 1])) t3 (.tup [.int 1, .int 0, .int 0])) tl (.lst [.int 1, .int 0])) td (.dK [])) t4 (.tup [.bl true, .int 0])) t5 (.tup [.int 1, .bl false])) t6 (.tup [.str "1", .int 0])) t7 (.tup [.int 1, .non])) t8 (.tup [.int 0, .int 0])) t9 (.tup [.int (-1), .int 0])) l1 (.lst [.non, .ref t0, .ref t1, .ref t3, .ref tl, .str "10", .int 5, .ref td, .ref t4, .ref t5, .ref t6, .ref t7, .ref t8, .ref t9])) r1 (.tup [.int (least N).1, .int (-(least N).2)])) r2 (.tup [.int (-(least N).1), .int (least N).2])) r3 (.tup [.int (least N).2, .int (least N).1])) r3 = some (.tup [.int (least N).2, .int (least N).1]) := upd_same
    have q15 : Same (upd (upd (upd (upd (upd (upd (upd (upd (upd (upd (upd (upd (upd (upd H1 t0 (.tup [])) t1 (.tup [.int 1])) t3 (.tup [.int 1, .int 0, .int 0])) tl (.lst [.int 1, .int 0])) td (.dK [])) t4 (.tup [.bl true, .int 0])) t5 (.tup [.int 1, .bl false])) t6 (.tup [.str "1", .int 0])) t7 (.tup [.int 1, .non])) t8 (.tup [.int 0, .int 0])) t9 (.tup [.int (-1), .int 0])) l1 (.lst [.non, .ref t0, .ref t1, .ref t3, .ref tl, .str "10", .int 5, .ref td, .ref t4, .ref t5, .ref t6, .ref t7, .ref t8, .ref t9])) r1 (.tup [.int (least N).1, .int (-(least N).2)])) r2 (.tup [.int (-(least N).1), .int (least N).2])) (upd (upd (upd (upd (upd (upd (upd (upd (upd (upd (upd (upd (upd (upd (upd H1 t0 (.tup [])) t1 (.tup [.int 1])) t3 (.tup [.int 1, .int 0, .int 0])) tl (.lst [.int 1, .int 0])) td (.dK [])) t4 (.tup [.bl true, .int 0])) t5 (.tup [.int 1, .bl false])) t6 (.tup [.str "1", .int 0])) t7 (.tup [.int 1, .non])) t8 (.tup [.int 0, .int 0])) t9 (.tup [.int (-1), .int 0])) l1 (.lst [.non, .ref t0, .ref t1, .ref t3, .ref tl, .str "10", .int 5, .ref td, .ref t4, .ref t5, .ref t6, .ref t7, .ref t8, .ref t9])) r1 (.tup [.int (least N).1, .int (-(least N).2)])) r2 (.tup [.int (-(least N).1), .int (least N).2])) r3 (.tup [.int (least N).2, .int (least N).1])) := same_upd hr3
    have e0 := q15 _ _ e0
    have e1 := q15 _ _ e1
    have e3 := q15 _ _ e3
    have etl := q15 _ _ etl
    have ed := q15 _ _ ed
    have e4 := q15 _ _ e4
    have e5 := q15 _ _ e5
    have e6 := q15 _ _ e6
    have e7 := q15 _ _ e7
    have e8 := q15 _ _ e8
    have e9 := q15 _ _ e9
    have el1 := q15 _ _ el1
    have f1 := q15 _ _ f1
    have f2 := q15 _ _ f2
    have sx := sx.trans q15
    refine ⟨_, rfl, _, _, rfl, rfl, _, rfl, (by show 2 ≤ sizeLine; decide), fun r4 hr4 => ?_⟩
    have f4 : (upd (upd (upd (upd (upd (upd (upd (upd (upd (upd (upd (upd (upd (upd (upd (upd H1 t0 (.tup [])) t1 (.tup [.int 1])) t3 (.tup [.int 1, .int 0, .int 0])) tl (.lst [.int 1, .int 0])) td (.dK [])) t4 (.tup [.bl true, .int 0])) t5 (.tup [.int 1, .bl false])) t6 (.tup [.str "1", .int 0])) t7 (.tup [.int 1, .non])) t8 (.tup [.int 0, .int 0])) t9 (.tup [.int (-1), .int 0])) l1 (.lst [.non, .ref t0, .ref t1, .ref t3, .ref tl, .str "10", .int 5, .ref td, .ref t4, .ref t5, .ref t6, .ref t7, .ref t8, .ref t9])) r1 (.tup [.int (least N).1, .int (-(least N).2)])) r2 (.tup [.int (-(least N).1), .int (least N).2])) r3 (.tup [.int (least N).2, .int (least N).1])) r4 (.tup [.int ((least N).1 + 1), .int (least N).2])) r4 = some (.tup [.int ((least N).1 + 1), .int (least N).2]) := upd_same
    have q16 : Same (upd (upd (upd (upd (upd (upd (upd (upd (upd (upd (upd (upd (upd (upd (upd H1 t0 (.tup [])) t1 (.tup [.int 1])) t3 (.tup [.int 1, .int 0, .int 0])) tl (.lst [.int 1, .int 0])) td (.dK [])) t4 (.tup [.bl true, .int 0])) t5 (.tup [.int 1, .bl false])) t6 (.tup [.str "1", .int 0])) t7 (.tup [.int 1, .non])) t8 (.tup [.int 0, .int 0])) t9 (.tup [.int (-1), .int 0])) l1 (.lst [.non, .ref t0, .ref t1, .ref t3, .ref tl, .str "10", .int 5, .ref td, .ref t4, .ref t5, .ref t6, .ref t7, .ref t8, .ref t9])) r1 (.tup [.int (least N).1, .int (-(least N).2)])) r2 (.tup [.int (-(least N).1), .int (least N).2])) r3 (.tup [.int (least N).2, .int (least N).1])) (upd (upd (upd (upd (upd (upd (upd (upd (upd (upd (upd (upd (upd (upd (upd (upd H1 t0 (.tup [])) t1 (.tup [.int 1])) t3 (.tup [.int 1, .int 0, .int 0])) tl (.lst [.int 1, .int 0])) td (.dK [])) t4 (.tup [.bl true, .int 0])) t5 (.tup [.int 1, .bl false])) t6 (.tup [.str "1", .int 0])) t7 (.tup [.int 1, .non])) t8 (.tup [.int 0, .int 0])) t9 (.tup [.int (-1), .int 0])) l1 (.lst [.non, .ref t0, .ref t1, .ref t3, .ref tl, .str "10", .int 5, .ref td, .ref t4, .ref t5, .ref t6, .ref t7, .ref t8, .ref t9])) r1 (.tup [.int (least N).1, .int (-(least N).2)])) r2 (.tup [.int (-(least N).1), .int (least N).2])) r3 (.tup [.int (least N).2, .int (least N).1])) r4 (.tup [.int ((least N).1 + 1), .int (least N).2])) := same_upd hr4
    have e0 := q16 _ _ e0
    have e1 := q16 _ _ e1
    have e3 := q16 _ _ e3
    have etl := q16 _ _ etl
    have ed := q16 _ _ ed
    have e4 := q16 _ _ e4
    have e5 := q16 _ _ e5
    have e6 := q16 _ _ e6
    have e7 := q16 _ _ e7
    have e8 := q16 _ _ e8
    have e9 := q16 _ _ e9
    have el1 := q16 _ _ el1
    have f1 := q16 _ _ f1
    have f2 := q16 _ _ f2
    have f3 := q16 _ _ f3
    have sx := sx.trans q16
    refine ⟨_, rfl, _, rfl, _, _, rfl, rfl, _, rfl, _, _, rfl, rfl, (by show 2 ≤ sizeLine; decide), fun r5 hr5 => ?_⟩
    have f5 : (upd (upd (upd (upd (upd (upd (upd (upd (upd (upd (upd (upd (upd (upd (upd (upd (upd H1 t0 (.tup [])) t1 (.tup [.int 1])) t3 (.tup [.int 1, .int 0, .int 0])) tl (.lst [.int 1, .int 0])) td (.dK [])) t4 (.tup [.bl true, .int 0])) t5 (.tup [.int 1, .bl false])) t6 (.tup [.str "1", .int 0])) t7 (.tup [.int 1, .non])) t8 (.tup [.int 0, .int 0])) t9 (.tup [.int (-1), .int 0])) l1 (.lst [.non, .ref t0, .ref t1, .ref t3, .ref tl, .str "10", .int 5, .ref td, .ref t4, .ref t5, .ref t6, .ref t7, .ref t8, .ref t9])) r1 (.tup [.int (least N).1, .int (-(least N).2)])) r2 (.tup [.int (-(least N).1), .int (least N).2])) r3 (.tup [.int (least N).2, .int (least N).1])) r4 (.tup [.int ((least N).1 + 1), .int (least N).2])) r5 (.tup [.int (least N).1, .int ((least N).2 + 1 + far)])) r5 = some (.tup [.int (least N).1, .int ((least N).2 + 1 + far)]) := upd_same
    have q17 : Same (upd (upd (upd (upd (upd (upd (upd (upd (upd (upd (upd (upd (upd (upd (upd (upd H1 t0 (.tup [])) t1 (.tup [.int 1])) t3 (.tup [.int 1, .int 0, .int 0])) tl (.lst [.int 1, .int 0])) td (.dK [])) t4 (.tup [.bl true, .int 0])) t5 (.tup [.int 1, .bl false])) t6 (.tup [.str "1", .int 0])) t7 (.tup [.int 1, .non])) t8 (.tup [.int 0, .int 0])) t9 (.tup [.int (-1), .int 0])) l1 (.lst [.non, .ref t0, .ref t1, .ref t3, .ref tl, .str "10", .int 5, .ref td, .ref t4, .ref t5, .ref t6, .ref t7, .ref t8, .ref t9])) r1 (.tup [.int (least N).1, .int (-(least N).2)])) r2 (.tup [.int (-(least N).1), .int (least N).2])) r3 (.tup [.int (least N).2, .int (least N).1])) r4 (.tup [.int ((least N).1 + 1), .int (least N).2])) (upd (upd (upd (upd (upd (upd (upd (upd (upd (upd (upd (upd (upd (upd (upd (upd (upd H1 t0 (.tup [])) t1 (.tup [.int 1])) t3 (.tup [.int 1, .int 0, .int 0])) tl (.lst [.int 1, .int 0])) td (.dK [])) t4 (.tup [.bl true, .int 0])) t5 (.tup [.int 1, .bl false])) t6 (.tup [.str "1", .int 0])) t7 (.tup [.int 1, .non])) t8 (.tup [.int 0, .int 0])) t9 (.tup [.int (-1), .int 0])) l1 (.lst [.non, .ref t0, .ref t1, .ref t3, .ref tl, .str "10", .int 5, .ref td, .ref t4, .ref t5, .ref t6, .ref t7, .ref t8, .ref t9])) r1 (.tup [.int (least N).1, .int (-(least N).2)])) r2 (.tup [.int (-(least N).1), .int (least N).2])) r3 (.tup [.int (least N).2, .int (least N).1])) r4 (.tup [.int ((least N).1 + 1), .int (least N).2])) r5 (.tup [.int (least N).1, .int ((least N).2 + 1 + far)])) := same_upd hr5
    have e0 := q17 _ _ e0
    have e1 := q17 _ _ e1
    have e3 := q17 _ _ e3
    have etl := q17 _ _ etl
    have ed := q17 _ _ ed
    have e4 := q17 _ _ e4
    have e5 := q17 _ _ e5
    have e6 := q17 _ _ e6
    have e7 := q17 _ _ e7
    have e8 := q17 _ _ e8
    have e9 := q17 _ _ e9
    have el1 := q17 _ _ el1
    have f1 := q17 _ _ f1
    have f2 := q17 _ _ f2
    have f3 := q17 _ _ f3
    have f4 := q17 _ _ f4
    have sx := sx.trans q17
    refine ⟨(by show 5 ≤ sizeLine; decide), fun l2 hl2 => ?_⟩
    have el2 : (upd (upd (upd (upd (upd (upd (upd (upd (upd (upd (upd (upd (upd (upd (upd (upd (upd (upd H1 t0 (.tup [])) t1 (.tup [.int 1])) t3 (.tup [.int 1, .int 0, .int 0])) tl (.lst [.int 1, .int 0])) td (.dK [])) t4 (.tup [.bl true, .int 0])) t5 (.tup [.int 1, .bl false])) t6 (.tup [.str "1", .int 0])) t7 (.tup [.int 1, .non])) t8 (.tup [.int 0, .int 0])) t9 (.tup [.int (-1), .int 0])) l1 (.lst [.non, .ref t0, .ref t1, .ref t3, .ref tl, .str "10", .int 5, .ref td, .ref t4, .ref t5, .ref t6, .ref t7, .ref t8, .ref t9])) r1 (.tup [.int (least N).1, .int (-(least N).2)])) r2 (.tup [.int (-(least N).1), .int (least N).2])) r3 (.tup [.int (least N).2, .int (least N).1])) r4 (.tup [.int ((least N).1 + 1), .int (least N).2])) r5 (.tup [.int (least N).1, .int ((least N).2 + 1 + far)])) l2 (.lst [.ref r1, .ref r2, .ref r3, .ref r4, .ref r5])) l2 = some (.lst [.ref r1, .ref r2, .ref r3, .ref r4, .ref r5]) := upd_same
    have q18 : Same (upd (upd (upd (upd (upd (upd (upd (upd (upd (upd (upd (upd (upd (upd (upd (upd (upd H1 t0 (.tup [])) t1 (.tup [.int 1])) t3 (.tup [.int 1, .int 0, .int 0])) tl (.lst [.int 1, .int 0])) td (.dK [])) t4 (.tup [.bl true, .int 0])) t5 (.tup [.int 1, .bl false])) t6 (.tup [.str "1", .int 0])) t7 (.tup [.int 1, .non])) t8 (.tup [.int 0, .int 0])) t9 (.tup [.int (-1), .int 0])) l1 (.lst [.non, .ref t0, .ref t1, .ref t3, .ref tl, .str "10", .int 5, .ref td, .ref t4, .ref t5, .ref t6, .ref t7, .ref t8, .ref t9])) r1 (.tup [.int (least N).1, .int (-(least N).2)])) r2 (.tup [.int (-(least N).1), .int (least N).2])) r3 (.tup [.int (least N).2, .int (least N).1])) r4 (.tup [.int ((least N).1 + 1), .int (least N).2])) r5 (.tup [.int (least N).1, .int ((least N).2 + 1 + far)])) (upd (upd (upd (upd (upd (upd (upd (upd (upd (upd (upd (upd (upd (upd (upd (upd (upd (upd H1 t0 (.tup [])) t1 (.tup [.int 1])) t3 (.tup [.int 1, .int 0, .int 0])) tl (.lst [.int 1, .int 0])) td (.dK [])) t4 (.tup [.bl true, .int 0])) t5 (.tup [.int 1, .bl false])) t6 (.tup [.str "1", .int 0])) t7 (.tup [.int 1, .non])) t8 (.tup [.int 0, .int 0])) t9 (.tup [.int (-1), .int 0])) l1 (.lst [.non, .ref t0, .ref t1, .ref t3, .ref tl, .str "10", .int 5, .ref td, .ref t4, .ref t5, .ref t6, .ref t7, .ref t8, .ref t9])) r1 (.tup [.int (least N).1, .int (-(least N).2)])) r2 (.tup [.int (-(least N).1), .int (least N).2])) r3 (.tup [.int (least N).2, .int (least N).1])) r4 (.tup [.int ((least N).1 + 1), .int (least N).2])) r5 (.tup [.int (least N).1, .int ((least N).2 + 1 + far)])) l2 (.lst [.ref r1, .ref r2, .ref r3, .ref r4, .ref r5])) := same_upd hl2
    have e0 := q18 _ _ e0
    have e1 := q18 _ _ e1
    have e3 := q18 _ _ e3
    have etl := q18 _ _ etl
    have ed := q18 _ _ ed
    have e4 := q18 _ _ e4
    have e5 := q18 _ _ e5
    have e6 := q18 _ _ e6
    have e7 := q18 _ _ e7
    have e8 := q18 _ _ e8
    have e9 := q18 _ _ e9
    have el1 := q18 _ _ el1
    have f1 := q18 _ _ f1
    have f2 := q18 _ _ f2
    have f3 := q18 _ _ f3
    have f4 := q18 _ _ f4
    have f5 := q18 _ _ f5
    have sx := sx.trans q18
    refine ⟨l1, l2, _, _, rfl, rfl, el1, el2, (by show 19 ≤ sizeLine; decide), fun l3 hl3 => ?_⟩
    have el3 : (upd (upd (upd (upd (upd (upd (upd (upd (upd (upd (upd (upd (upd (upd (upd (upd (upd (upd (upd H1 t0 (.tup [])) t1 (.tup [.int 1])) t3 (.tup [.int 1, .int 0, .int 0])) tl (.lst [.int 1, .int 0])) td (.dK [])) t4 (.tup [.bl true, .int 0])) t5 (.tup [.int 1, .bl false])) t6 (.tup [.str "1", .int 0])) t7 (.tup [.int 1, .non])) t8 (.tup [.int 0, .int 0])) t9 (.tup [.int (-1), .int 0])) l1 (.lst [.non, .ref t0, .ref t1, .ref t3, .ref tl, .str "10", .int 5, .ref td, .ref t4, .ref t5, .ref t6, .ref t7, .ref t8, .ref t9])) r1 (.tup [.int (least N).1, .int (-(least N).2)])) r2 (.tup [.int (-(least N).1), .int (least N).2])) r3 (.tup [.int (least N).2, .int (least N).1])) r4 (.tup [.int ((least N).1 + 1), .int (least N).2])) r5 (.tup [.int (least N).1, .int ((least N).2 + 1 + far)])) l2 (.lst [.ref r1, .ref r2, .ref r3, .ref r4, .ref r5])) l3 (.lst ([.non, .ref t0, .ref t1, .ref t3, .ref tl, .str "10", .int 5, .ref td, .ref t4, .ref t5, .ref t6, .ref t7, .ref t8, .ref t9] ++ [.ref r1, .ref r2, .ref r3, .ref r4, .ref r5]))) l3 = some (.lst ([.non, .ref t0, .ref t1, .ref t3, .ref tl, .str "10", .int 5, .ref td, .ref t4, .ref t5, .ref t6, .ref t7, .ref t8, .ref t9] ++ [.ref r1, .ref r2, .ref r3, .ref r4, .ref r5])) := upd_same
    have q19 : Same (upd (upd (upd (upd (upd (upd (upd (upd (upd (upd (upd (upd (upd (upd (upd (upd (upd (upd H1 t0 (.tup [])) t1 (.tup [.int 1])) t3 (.tup [.int 1, .int 0, .int 0])) tl (.lst [.int 1, .int 0])) td (.dK [])) t4 (.tup [.bl true, .int 0])) t5 (.tup [.int 1, .bl false])) t6 (.tup [.str "1", .int 0])) t7 (.tup [.int 1, .non])) t8 (.tup [.int 0, .int 0])) t9 (.tup [.int (-1), .int 0])) l1 (.lst [.non, .ref t0, .ref t1, .ref t3, .ref tl, .str "10", .int 5, .ref td, .ref t4, .ref t5, .ref t6, .ref t7, .ref t8, .ref t9])) r1 (.tup [.int (least N).1, .int (-(least N).2)])) r2 (.tup [.int (-(least N).1), .int (least N).2])) r3 (.tup [.int (least N).2, .int (least N).1])) r4 (.tup [.int ((least N).1 + 1), .int (least N).2])) r5 (.tup [.int (least N).1, .int ((least N).2 + 1 + far)])) l2 (.lst [.ref r1, .ref r2, .ref r3, .ref r4, .ref r5])) (upd (upd (upd (upd (upd (upd (upd (upd (upd (upd (upd (upd (upd (upd (upd (upd (upd (upd (upd H1 t0 (.tup [])) t1 (.tup [.int 1])) t3 (.tup [.int 1, .int 0, .int 0])) tl (.lst [.int 1, .int 0])) td (.dK [])) t4 (.tup [.bl true, .int 0])) t5 (.tup [.int 1, .bl false])) t6 (.tup [.str "1", .int 0])) t7 (.tup [.int 1, .non])) t8 (.tup [.int 0, .int 0])) t9 (.tup [.int (-1), .int 0])) l1 (.lst [.non, .ref t0, .ref t1, .ref t3, .ref tl, .str "10", .int 5, .ref td, .ref t4, .ref t5, .ref t6, .ref t7, .ref t8, .ref t9])) r1 (.tup [.int (least N).1, .int (-(least N).2)])) r2 (.tup [.int (-(least N).1), .int (least N).2])) r3 (.tup [.int (least N).2, .int (least N).1])) r4 (.tup [.int ((least N).1 + 1), .int (least N).2])) r5 (.tup [.int (least N).1, .int ((least N).2 + 1 + far)])) l2 (.lst [.ref r1, .ref r2, .ref r3, .ref r4, .ref r5])) l3 (.lst ([.non, .ref t0, .ref t1, .ref t3, .ref tl, .str "10", .int 5, .ref td, .ref t4, .ref t5, .ref t6, .ref t7, .ref t8, .ref t9] ++ [.ref r1, .ref r2, .ref r3, .ref r4, .ref r5]))) := same_upd hl3
    have e0 := q19 _ _ e0
    have e1 := q19 _ _ e1
    have e3 := q19 _ _ e3
    have etl := q19 _ _ etl
    have ed := q19 _ _ ed
    have e4 := q19 _ _ e4
    have e5 := q19 _ _ e5
    have e6 := q19 _ _ e6
    have e7 := q19 _ _ e7
    have e8 := q19 _ _ e8
    have e9 := q19 _ _ e9
    have el1 := q19 _ _ el1
    have f1 := q19 _ _ f1
    have f2 := q19 _ _ f2
    have f3 := q19 _ _ f3
    have f4 := q19 _ _ f4
    have f5 := q19 _ _ f5
    have el2 := q19 _ _ el2
    have sx := sx.trans q19
    refine ⟨_, rfl, (by show 2 ≤ sizeLine; decide), fun r6 hr6 => ?_⟩
    have f6 : (upd (upd (upd (upd (upd (upd (upd (upd (upd (upd (upd (upd (upd (upd (upd (upd (upd (upd (upd (upd H1 t0 (.tup [])) t1 (.tup [.int 1])) t3 (.tup [.int 1, .int 0, .int 0])) tl (.lst [.int 1, .int 0])) td (.dK [])) t4 (.tup [.bl true, .int 0])) t5 (.tup [.int 1, .bl false])) t6 (.tup [.str "1", .int 0])) t7 (.tup [.int 1, .non])) t8 (.tup [.int 0, .int 0])) t9 (.tup [.int (-1), .int 0])) l1 (.lst [.non, .ref t0, .ref t1, .ref t3, .ref tl, .str "10", .int 5, .ref td, .ref t4, .ref t5, .ref t6, .ref t7, .ref t8, .ref t9])) r1 (.tup [.int (least N).1, .int (-(least N).2)])) r2 (.tup [.int (-(least N).1), .int (least N).2])) r3 (.tup [.int (least N).2, .int (least N).1])) r4 (.tup [.int ((least N).1 + 1), .int (least N).2])) r5 (.tup [.int (least N).1, .int ((least N).2 + 1 + far)])) l2 (.lst [.ref r1, .ref r2, .ref r3, .ref r4, .ref r5])) l3 (.lst ([.non, .ref t0, .ref t1, .ref t3, .ref tl, .str "10", .int 5, .ref td, .ref t4, .ref t5, .ref t6, .ref t7, .ref t8, .ref t9] ++ [.ref r1, .ref r2, .ref r3, .ref r4, .ref r5]))) r6 (.tup [.int 1, .int 1])) r6 = some (.tup [.int 1, .int 1]) := upd_same
    have q20 : Same (upd (upd (upd (upd (upd (upd (upd (upd (upd (upd (upd (upd (upd (upd (upd (upd (upd (upd (upd H1 t0 (.tup [])) t1 (.tup [.int 1])) t3 (.tup [.int 1, .int 0, .int 0])) tl (.lst [.int 1, .int 0])) td (.dK [])) t4 (.tup [.bl true, .int 0])) t5 (.tup [.int 1, .bl false])) t6 (.tup [.str "1", .int 0])) t7 (.tup [.int 1, .non])) t8 (.tup [.int 0, .int 0])) t9 (.tup [.int (-1), .int 0])) l1 (.lst [.non, .ref t0, .ref t1, .ref t3, .ref tl, .str "10", .int 5, .ref td, .ref t4, .ref t5, .ref t6, .ref t7, .ref t8, .ref t9])) r1 (.tup [.int (least N).1, .int (-(least N).2)])) r2 (.tup [.int (-(least N).1), .int (least N).2])) r3 (.tup [.int (least N).2, .int (least N).1])) r4 (.tup [.int ((least N).1 + 1), .int (least N).2])) r5 (.tup [.int (least N).1, .int ((least N).2 + 1 + far)])) l2 (.lst [.ref r1, .ref r2, .ref r3, .ref r4, .ref r5])) l3 (.lst ([.non, .ref t0, .ref t1, .ref t3, .ref tl, .str "10", .int 5, .ref td, .ref t4, .ref t5, .ref t6, .ref t7, .ref t8, .ref t9] ++ [.ref r1, .ref r2, .ref r3, .ref r4, .ref r5]))) (upd (upd (upd (upd (upd (upd (upd (upd (upd (upd (upd (upd (upd (upd (upd (upd (upd (upd (upd (upd H1 t0 (.tup [])) t1 (.tup [.int 1])) t3 (.tup [.int 1, .int 0, .int 0])) tl (.lst [.int 1, .int 0])) td (.dK [])) t4 (.tup [.bl true, .int 0])) t5 (.tup [.int 1, .bl false])) t6 (.tup [.str "1", .int 0])) t7 (.tup [.int 1, .non])) t8 (.tup [.int 0, .int 0])) t9 (.tup [.int (-1), .int 0])) l1 (.lst [.non, .ref t0, .ref t1, .ref t3, .ref tl, .str "10", .int 5, .ref td, .ref t4, .ref t5, .ref t6, .ref t7, .ref t8, .ref t9])) r1 (.tup [.int (least N).1, .int (-(least N).2)])) r2 (.tup [.int (-(least N).1), .int (least N).2])) r3 (.tup [.int (least N).2, .int (least N).1])) r4 (.tup [.int ((least N).1 + 1), .int (least N).2])) r5 (.tup [.int (least N).1, .int ((least N).2 + 1 + far)])) l2 (.lst [.ref r1, .ref r2, .ref r3, .ref r4, .ref r5])) l3 (.lst ([.non, .ref t0, .ref t1, .ref t3, .ref tl, .str "10", .int 5, .ref td, .ref t4, .ref t5, .ref t6, .ref t7, .ref t8, .ref t9] ++ [.ref r1, .ref r2, .ref r3, .ref r4, .ref r5]))) r6 (.tup [.int 1, .int 1])) := same_upd hr6
    have e0 := q20 _ _ e0
    have e1 := q20 _ _ e1
    have e3 := q20 _ _ e3
    have etl := q20 _ _ etl
    have ed := q20 _ _ ed
    have e4 := q20 _ _ e4
    have e5 := q20 _ _ e5
    have e6 := q20 _ _ e6
    have e7 := q20 _ _ e7
    have e8 := q20 _ _ e8
    have e9 := q20 _ _ e9
    have el1 := q20 _ _ el1
    have f1 := q20 _ _ f1
    have f2 := q20 _ _ f2
    have f3 := q20 _ _ f3
    have f4 := q20 _ _ f4
    have f5 := q20 _ _ f5
    have el2 := q20 _ _ el2
    have el3 := q20 _ _ el3
    have sx := sx.trans q20
    refine ⟨_, rfl, _, _, rfl, rfl, (by show 2 ≤ sizeLine; decide), fun r7 hr7 => ?_⟩
    have f7 : (upd (upd (upd (upd (upd (upd (upd (upd (upd (upd (upd (upd (upd (upd (upd (upd (upd (upd (upd (upd (upd H1 t0 (.tup [])) t1 (.tup [.int 1])) t3 (.tup [.int 1, .int 0, .int 0])) tl (.lst [.int 1, .int 0])) td (.dK [])) t4 (.tup [.bl true, .int 0])) t5 (.tup [.int 1, .bl false])) t6 (.tup [.str "1", .int 0])) t7 (.tup [.int 1, .non])) t8 (.tup [.int 0, .int 0])) t9 (.tup [.int (-1), .int 0])) l1 (.lst [.non, .ref t0, .ref t1, .ref t3, .ref tl, .str "10", .int 5, .ref td, .ref t4, .ref t5, .ref t6, .ref t7, .ref t8, .ref t9])) r1 (.tup [.int (least N).1, .int (-(least N).2)])) r2 (.tup [.int (-(least N).1), .int (least N).2])) r3 (.tup [.int (least N).2, .int (least N).1])) r4 (.tup [.int ((least N).1 + 1), .int (least N).2])) r5 (.tup [.int (least N).1, .int ((least N).2 + 1 + far)])) l2 (.lst [.ref r1, .ref r2, .ref r3, .ref r4, .ref r5])) l3 (.lst ([.non, .ref t0, .ref t1, .ref t3, .ref tl, .str "10", .int 5, .ref td, .ref t4, .ref t5, .ref t6, .ref t7, .ref t8, .ref t9] ++ [.ref r1, .ref r2, .ref r3, .ref r4, .ref r5]))) r6 (.tup [.int 1, .int 1])) r7 (.tup [.int (2 + far), .int 0])) r7 = some (.tup [.int (2 + far), .int 0]) := upd_same
    have q21 : Same (upd (upd (upd (upd (upd (upd (upd (upd (upd (upd (upd (upd (upd (upd (upd (upd (upd (upd (upd (upd H1 t0 (.tup [])) t1 (.tup [.int 1])) t3 (.tup [.int 1, .int 0, .int 0])) tl (.lst [.int 1, .int 0])) td (.dK [])) t4 (.tup [.bl true, .int 0])) t5 (.tup [.int 1, .bl false])) t6 (.tup [.str "1", .int 0])) t7 (.tup [.int 1, .non])) t8 (.tup [.int 0, .int 0])) t9 (.tup [.int (-1), .int 0])) l1 (.lst [.non, .ref t0, .ref t1, .ref t3, .ref tl, .str "10", .int 5, .ref td, .ref t4, .ref t5, .ref t6, .ref t7, .ref t8, .ref t9])) r1 (.tup [.int (least N).1, .int (-(least N).2)])) r2 (.tup [.int (-(least N).1), .int (least N).2])) r3 (.tup [.int (least N).2, .int (least N).1])) r4 (.tup [.int ((least N).1 + 1), .int (least N).2])) r5 (.tup [.int (least N).1, .int ((least N).2 + 1 + far)])) l2 (.lst [.ref r1, .ref r2, .ref r3, .ref r4, .ref r5])) l3 (.lst ([.non, .ref t0, .ref t1, .ref t3, .ref tl, .str "10", .int 5, .ref td, .ref t4, .ref t5, .ref t6, .ref t7, .ref t8, .ref t9] ++ [.ref r1, .ref r2, .ref r3, .ref r4, .ref r5]))) r6 (.tup [.int 1, .int 1])) (upd (upd (upd (upd (upd (upd (upd (upd (upd (upd (upd (upd (upd (upd (upd (upd (upd (upd (upd (upd (upd H1 t0 (.tup [])) t1 (.tup [.int 1])) t3 (.tup [.int 1, .int 0, .int 0])) tl (.lst [.int 1, .int 0])) td (.dK [])) t4 (.tup [.bl true, .int 0])) t5 (.tup [.int 1, .bl false])) t6 (.tup [.str "1", .int 0])) t7 (.tup [.int 1, .non])) t8 (.tup [.int 0, .int 0])) t9 (.tup [.int (-1), .int 0])) l1 (.lst [.non, .ref t0, .ref t1, .ref t3, .ref tl, .str "10", .int 5, .ref td, .ref t4, .ref t5, .ref t6, .ref t7, .ref t8, .ref t9])) r1 (.tup [.int (least N).1, .int (-(least N).2)])) r2 (.tup [.int (-(least N).1), .int (least N).2])) r3 (.tup [.int (least N).2, .int (least N).1])) r4 (.tup [.int ((least N).1 + 1), .int (least N).2])) r5 (.tup [.int (least N).1, .int ((least N).2 + 1 + far)])) l2 (.lst [.ref r1, .ref r2, .ref r3, .ref r4, .ref r5])) l3 (.lst ([.non, .ref t0, .ref t1, .ref t3, .ref tl, .str "10", .int 5, .ref td, .ref t4, .ref t5, .ref t6, .ref t7, .ref t8, .ref t9] ++ [.ref r1, .ref r2, .ref r3, .ref r4, .ref r5]))) r6 (.tup [.int 1, .int 1])) r7 (.tup [.int (2 + far), .int 0])) := same_upd hr7
    have e0 := q21 _ _ e0
    have e1 := q21 _ _ e1
    have e3 := q21 _ _ e3
    have etl := q21 _ _ etl
    have ed := q21 _ _ ed
    have e4 := q21 _ _ e4
    have e5 := q21 _ _ e5
    have e6 := q21 _ _ e6
    have e7 := q21 _ _ e7
    have e8 := q21 _ _ e8
    have e9 := q21 _ _ e9
    have el1 := q21 _ _ el1
    have f1 := q21 _ _ f1
    have f2 := q21 _ _ f2
    have f3 := q21 _ _ f3
    have f4 := q21 _ _ f4
    have f5 := q21 _ _ f5
    have el2 := q21 _ _ el2
    have el3 := q21 _ _ el3
    have f6 := q21 _ _ f6
    have sx := sx.trans q21
    refine ⟨(by show 2 ≤ sizeLine; decide), fun l4 hl4 => ?_⟩
    have el4 : (upd (upd (upd (upd (upd (upd (upd (upd (upd (upd (upd (upd (upd (upd (upd (upd (upd (upd (upd (upd (upd (upd H1 t0 (.tup [])) t1 (.tup [.int 1])) t3 (.tup [.int 1, .int 0, .int 0])) tl (.lst [.int 1, .int 0])) td (.dK [])) t4 (.tup [.bl true, .int 0])) t5 (.tup [.int 1, .bl false])) t6 (.tup [.str "1", .int 0])) t7 (.tup [.int 1, .non])) t8 (.tup [.int 0, .int 0])) t9 (.tup [.int (-1), .int 0])) l1 (.lst [.non, .ref t0, .ref t1, .ref t3, .ref tl, .str "10", .int 5, .ref td, .ref t4, .ref t5, .ref t6, .ref t7, .ref t8, .ref t9])) r1 (.tup [.int (least N).1, .int (-(least N).2)])) r2 (.tup [.int (-(least N).1), .int (least N).2])) r3 (.tup [.int (least N).2, .int (least N).1])) r4 (.tup [.int ((least N).1 + 1), .int (least N).2])) r5 (.tup [.int (least N).1, .int ((least N).2 + 1 + far)])) l2 (.lst [.ref r1, .ref r2, .ref r3, .ref r4, .ref r5])) l3 (.lst ([.non, .ref t0, .ref t1, .ref t3, .ref tl, .str "10", .int 5, .ref td, .ref t4, .ref t5, .ref t6, .ref t7, .ref t8, .ref t9] ++ [.ref r1, .ref r2, .ref r3, .ref r4, .ref r5]))) r6 (.tup [.int 1, .int 1])) r7 (.tup [.int (2 + far), .int 0])) l4 (.lst [.ref r6, .ref r7])) l4 = some (.lst [.ref r6, .ref r7]) := upd_same
    have q22 : Same (upd (upd (upd (upd (upd (upd (upd (upd (upd (upd (upd (upd (upd (upd (upd (upd (upd (upd (upd (upd (upd H1 t0 (.tup [])) t1 (.tup [.int 1])) t3 (.tup [.int 1, .int 0, .int 0])) tl (.lst [.int 1, .int 0])) td (.dK [])) t4 (.tup [.bl true, .int 0])) t5 (.tup [.int 1, .bl false])) t6 (.tup [.str "1", .int 0])) t7 (.tup [.int 1, .non])) t8 (.tup [.int 0, .int 0])) t9 (.tup [.int (-1), .int 0])) l1 (.lst [.non, .ref t0, .ref t1, .ref t3, .ref tl, .str "10", .int 5, .ref td, .ref t4, .ref t5, .ref t6, .ref t7, .ref t8, .ref t9])) r1 (.tup [.int (least N).1, .int (-(least N).2)])) r2 (.tup [.int (-(least N).1), .int (least N).2])) r3 (.tup [.int (least N).2, .int (least N).1])) r4 (.tup [.int ((least N).1 + 1), .int (least N).2])) r5 (.tup [.int (least N).1, .int ((least N).2 + 1 + far)])) l2 (.lst [.ref r1, .ref r2, .ref r3, .ref r4, .ref r5])) l3 (.lst ([.non, .ref t0, .ref t1, .ref t3, .ref tl, .str "10", .int 5, .ref td, .ref t4, .ref t5, .ref t6, .ref t7, .ref t8, .ref t9] ++ [.ref r1, .ref r2, .ref r3, .ref r4, .ref r5]))) r6 (.tup [.int 1, .int 1])) r7 (.tup [.int (2 + far), .int 0])) (upd (upd (upd (upd (upd (upd (upd (upd (upd (upd (upd (upd (upd (upd (upd (upd (upd (upd (upd (upd (upd (upd H1 t0 (.tup [])) t1 (.tup [.int 1])) t3 (.tup [.int 1, .int 0, .int 0])) tl (.lst [.int 1, .int 0])) td (.dK [])) t4 (.tup [.bl true, .int 0])) t5 (.tup [.int 1, .bl false])) t6 (.tup [.str "1", .int 0])) t7 (.tup [.int 1, .non])) t8 (.tup [.int 0, .int 0])) t9 (.tup [.int (-1), .int 0])) l1 (.lst [.non, .ref t0, .ref t1, .ref t3, .ref tl, .str "10", .int 5, .ref td, .ref t4, .ref t5, .ref t6, .ref t7, .ref t8, .ref t9])) r1 (.tup [.int (least N).1, .int (-(least N).2)])) r2 (.tup [.int (-(least N).1), .int (least N).2])) r3 (.tup [.int (least N).2, .int (least N).1])) r4 (.tup [.int ((least N).1 + 1), .int (least N).2])) r5 (.tup [.int (least N).1, .int ((least N).2 + 1 + far)])) l2 (.lst [.ref r1, .ref r2, .ref r3, .ref r4, .ref r5])) l3 (.lst ([.non, .ref t0, .ref t1, .ref t3, .ref tl, .str "10", .int 5, .ref td, .ref t4, .ref t5, .ref t6, .ref t7, .ref t8, .ref t9] ++ [.ref r1, .ref r2, .ref r3, .ref r4, .ref r5]))) r6 (.tup [.int 1, .int 1])) r7 (.tup [.int (2 + far), .int 0])) l4 (.lst [.ref r6, .ref r7])) := same_upd hl4
    have e0 := q22 _ _ e0
    have e1 := q22 _ _ e1
    have e3 := q22 _ _ e3
    have etl := q22 _ _ etl
    have ed := q22 _ _ ed
    have e4 := q22 _ _ e4
    have e5 := q22 _ _ e5
    have e6 := q22 _ _ e6
    have e7 := q22 _ _ e7
    have e8 := q22 _ _ e8
    have e9 := q22 _ _ e9
    have el1 := q22 _ _ el1
    have f1 := q22 _ _ f1
    have f2 := q22 _ _ f2
    have f3 := q22 _ _ f3
    have f4 := q22 _ _ f4
    have f5 := q22 _ _ f5
    have el2 := q22 _ _ el2
    have el3 := q22 _ _ el3
    have f6 := q22 _ _ f6
    have f7 := q22 _ _ f7
    have sx := sx.trans q22
    refine ⟨l3, l4, _, _, rfl, rfl, el3, el4, (by show 21 ≤ sizeLine; decide), fun l5 hl5 => ?_⟩
    have el5 : (upd (upd (upd (upd (upd (upd (upd (upd (upd (upd (upd (upd (upd (upd (upd (upd (upd (upd (upd (upd (upd (upd (upd H1 t0 (.tup [])) t1 (.tup [.int 1])) t3 (.tup [.int 1, .int 0, .int 0])) tl (.lst [.int 1, .int 0])) td (.dK [])) t4 (.tup [.bl true, .int 0])) t5 (.tup [.int 1, .bl false])) t6 (.tup [.str "1", .int 0])) t7 (.tup [.int 1, .non])) t8 (.tup [.int 0, .int 0])) t9 (.tup [.int (-1), .int 0])) l1 (.lst [.non, .ref t0, .ref t1, .ref t3, .ref tl, .str "10", .int 5, .ref td, .ref t4, .ref t5, .ref t6, .ref t7, .ref t8, .ref t9])) r1 (.tup [.int (least N).1, .int (-(least N).2)])) r2 (.tup [.int (-(least N).1), .int (least N).2])) r3 (.tup [.int (least N).2, .int (least N).1])) r4 (.tup [.int ((least N).1 + 1), .int (least N).2])) r5 (.tup [.int (least N).1, .int ((least N).2 + 1 + far)])) l2 (.lst [.ref r1, .ref r2, .ref r3, .ref r4, .ref r5])) l3 (.lst ([.non, .ref t0, .ref t1, .ref t3, .ref tl, .str "10", .int 5, .ref td, .ref t4, .ref t5, .ref t6, .ref t7, .ref t8, .ref t9] ++ [.ref r1, .ref r2, .ref r3, .ref r4, .ref r5]))) r6 (.tup [.int 1, .int 1])) r7 (.tup [.int (2 + far), .int 0])) l4 (.lst [.ref r6, .ref r7])) l5 (.lst ([.non, .ref t0, .ref t1, .ref t3, .ref tl, .str "10", .int 5, .ref td, .ref t4, .ref t5, .ref t6, .ref t7, .ref t8, .ref t9] ++ [.ref r1, .ref r2, .ref r3, .ref r4, .ref r5] ++ [.ref r6, .ref r7]))) l5 = some (.lst ([.non, .ref t0, .ref t1, .ref t3, .ref tl, .str "10", .int 5, .ref td, .ref t4, .ref t5, .ref t6, .ref t7, .ref t8, .ref t9] ++ [.ref r1, .ref r2, .ref r3, .ref r4, .ref r5] ++ [.ref r6, .ref r7])) := upd_same
    have q23 : Same (upd (upd (upd (upd (upd (upd (upd (upd (upd (upd (upd (upd (upd (upd (upd (upd (upd (upd (upd (upd (upd (upd H1 t0 (.tup [])) t1 (.tup [.int 1])) t3 (.tup [.int 1, .int 0, .int 0])) tl (.lst [.int 1, .int 0])) td (.dK [])) t4 (.tup [.bl true, .int 0])) t5 (.tup [.int 1, .bl false])) t6 (.tup [.str "1", .int 0])) t7 (.tup [.int 1, .non])) t8 (.tup [.int 0, .int 0])) t9 (.tup [.int (-1), .int 0])) l1 (.lst [.non, .ref t0, .ref t1, .ref t3, .ref tl, .str "10", .int 5, .ref td, .ref t4, .ref t5, .ref t6, .ref t7, .ref t8, .ref t9])) r1 (.tup [.int (least N).1, .int (-(least N).2)])) r2 (.tup [.int (-(least N).1), .int (least N).2])) r3 (.tup [.int (least N).2, .int (least N).1])) r4 (.tup [.int ((least N).1 + 1), .int (least N).2])) r5 (.tup [.int (least N).1, .int ((least N).2 + 1 + far)])) l2 (.lst [.ref r1, .ref r2, .ref r3, .ref r4, .ref r5])) l3 (.lst ([.non, .ref t0, .ref t1, .ref t3, .ref tl, .str "10", .int 5, .ref td, .ref t4, .ref t5, .ref t6, .ref t7, .ref t8, .ref t9] ++ [.ref r1, .ref r2, .ref r3, .ref r4, .ref r5]))) r6 (.tup [.int 1, .int 1])) r7 (.tup [.int (2 + far), .int 0])) l4 (.lst [.ref r6, .ref r7])) (upd (upd (upd (upd (upd (upd (upd (upd (upd (upd (upd (upd (upd (upd (upd (upd (upd (upd (upd (upd (upd (upd (upd H1 t0 (.tup [])) t1 (.tup [.int 1])) t3 (.tup [.int 1, .int 0, .int 0])) tl (.lst [.int 1, .int 0])) td (.dK [])) t4 (.tup [.bl true, .int 0])) t5 (.tup [.int 1, .bl false])) t6 (.tup [.str "1", .int 0])) t7 (.tup [.int 1, .non])) t8 (.tup [.int 0, .int 0])) t9 (.tup [.int (-1), .int 0])) l1 (.lst [.non, .ref t0, .ref t1, .ref t3, .ref tl, .str "10", .int 5, .ref td, .ref t4, .ref t5, .ref t6, .ref t7, .ref t8, .ref t9])) r1 (.tup [.int (least N).1, .int (-(least N).2)])) r2 (.tup [.int (-(least N).1), .int (least N).2])) r3 (.tup [.int (least N).2, .int (least N).1])) r4 (.tup [.int ((least N).1 + 1), .int (least N).2])) r5 (.tup [.int (least N).1, .int ((least N).2 + 1 + far)])) l2 (.lst [.ref r1, .ref r2, .ref r3, .ref r4, .ref r5])) l3 (.lst ([.non, .ref t0, .ref t1, .ref t3, .ref tl, .str "10", .int 5, .ref td, .ref t4, .ref t5, .ref t6, .ref t7, .ref t8, .ref t9] ++ [.ref r1, .ref r2, .ref r3, .ref r4, .ref r5]))) r6 (.tup [.int 1, .int 1])) r7 (.tup [.int (2 + far), .int 0])) l4 (.lst [.ref r6, .ref r7])) l5 (.lst ([.non, .ref t0, .ref t1, .ref t3, .ref tl, .str "10", .int 5, .ref td, .ref t4, .ref t5, .ref t6, .ref t7, .ref t8, .ref t9] ++ [.ref r1, .ref r2, .ref r3, .ref r4, .ref r5] ++ [.ref r6, .ref r7]))) := same_upd hl5
    have e0 := q23 _ _ e0
    have e1 := q23 _ _ e1
    have e3 := q23 _ _ e3
    have etl := q23 _ _ etl
    have ed := q23 _ _ ed
    have e4 := q23 _ _ e4
    have e5 := q23 _ _ e5
    have e6 := q23 _ _ e6
    have e7 := q23 _ _ e7
    have e8 := q23 _ _ e8
    have e9 := q23 _ _ e9
    have el1 := q23 _ _ el1
    have f1 := q23 _ _ f1
    have f2 := q23 _ _ f2
    have f3 := q23 _ _ f3
    have f4 := q23 _ _ f4
    have f5 := q23 _ _ f5
    have el2 := q23 _ _ el2
    have el3 := q23 _ _ el3
    have f6 := q23 _ _ f6
    have f7 := q23 _ _ f7
    have el4 := q23 _ _ el4
    have sx := sx.trans q23
    have hu := sx.seq hu0
    obtain ⟨y1, y2⟩ := lsz_k05 ok
    obtain ⟨la, l2a, l1a⟩ := ok.leastA
    have n1 := ok.lo
    have n2 := ok.hi
    have hA : (least N).1 * (least N).1 = N * (least N).2 * (least N).2 + 1 := (pw_one N ▸ pw_isA ok 1).2
    have z0 : Sz 0 30000000 := (show Sz 0 1 from ⟨by decide⟩).mono (by decide)
    have z1 : Sz 1 30000000 := (show Sz 1 1 from ⟨by decide⟩).mono (by decide)
    have zp : Sz (least N).1 30000000 := y1.mono (by decide)
    have zq : Sz (least N).2 30000000 := y2.mono (by decide)
    have zp1 : Sz ((least N).1 + 1) 30000000 := (Sz.add y1 ((show Sz 1 1 from ⟨by decide⟩).mono (show 1 ≤ 4000090 by decide))).mono (by decide)
    have zf : Sz far 4000091 := (Sz.small (a := 128) (by have : (2 : Int) ^ 128 = 340282366920938463463374607431768211456 := by decide
                                                         omega) (by have : (2 : Int) ^ 128 = 340282366920938463463374607431768211456 := by decide
                                                                    omega)).mono (by decide)
    have zqf : Sz ((least N).2 + 1 + far) 30000000 := (Sz.add (Sz.add y2 ((show Sz 1 1 from ⟨by decide⟩).mono (show 1 ≤ 4000090 by decide))) zf).mono (by decide)
    have z2f : Sz (2 + far) 30000000 := (Sz.add ((show Sz 2 2 from ⟨by decide⟩).mono (show 2 ≤ 4000091 by decide)) zf).mono (by decide)
    have hap : AllB K N (upd (upd (upd (upd (upd (upd (upd (upd (upd (upd (upd (upd (upd (upd (upd (upd (upd (upd (upd (upd (upd (upd (upd H1 t0 (.tup [])) t1 (.tup [.int 1])) t3 (.tup [.int 1, .int 0, .int 0])) tl (.lst [.int 1, .int 0])) td (.dK [])) t4 (.tup [.bl true, .int 0])) t5 (.tup [.int 1, .bl false])) t6 (.tup [.str "1", .int 0])) t7 (.tup [.int 1, .non])) t8 (.tup [.int 0, .int 0])) t9 (.tup [.int (-1), .int 0])) l1 (.lst [.non, .ref t0, .ref t1, .ref t3, .ref tl, .str "10", .int 5, .ref td, .ref t4, .ref t5, .ref t6, .ref t7, .ref t8, .ref t9])) r1 (.tup [.int (least N).1, .int (-(least N).2)])) r2 (.tup [.int (-(least N).1), .int (least N).2])) r3 (.tup [.int (least N).2, .int (least N).1])) r4 (.tup [.int ((least N).1 + 1), .int (least N).2])) r5 (.tup [.int (least N).1, .int ((least N).2 + 1 + far)])) l2 (.lst [.ref r1, .ref r2, .ref r3, .ref r4, .ref r5])) l3 (.lst ([.non, .ref t0, .ref t1, .ref t3, .ref tl, .str "10", .int 5, .ref td, .ref t4, .ref t5, .ref t6, .ref t7, .ref t8, .ref t9] ++ [.ref r1, .ref r2, .ref r3, .ref r4, .ref r5]))) r6 (.tup [.int 1, .int 1])) r7 (.tup [.int (2 + far), .int 0])) l4 (.lst [.ref r6, .ref r7])) l5 (.lst ([.non, .ref t0, .ref t1, .ref t3, .ref tl, .str "10", .int 5, .ref td, .ref t4, .ref t5, .ref t6, .ref t7, .ref t8, .ref t9] ++ [.ref r1, .ref r2, .ref r3, .ref r4, .ref r5] ++ [.ref r6, .ref r7]))) ([.non, .ref t0, .ref t1, .ref t3, .ref tl, .str "10", .int 5, .ref td, .ref t4, .ref t5, .ref t6, .ref t7, .ref t8, .ref t9] ++ [.ref r1, .ref r2, .ref r3, .ref r4, .ref r5] ++ [.ref r6, .ref r7]) := (.cons (.inl .non) (.cons (.inr ⟨_, _, [], rfl, e0, .inl (by decide), fun _ => .nil, by first | rfl | decide +kernel⟩) (.cons (.inr ⟨_, _, [.int 1], rfl, e1, .inl (by show 1 ≠ 2; decide), fun _ => (.cons (.int 1) .nil), by first | rfl | decide +kernel⟩) (.cons (.inr ⟨_, _, [.int 1, .int 0, .int 0], rfl, e3, .inl (by show 3 ≠ 2; decide), fun _ => (.cons (.int 1) (.cons (.int 0) (.cons (.int 0) .nil))), by first | rfl | decide +kernel⟩) (.cons (.inl (.lst etl)) (.cons (.inl (.str _)) (.cons (.inl (.int _)) (.cons (.inl (.dct ed)) (.cons (.inr ⟨_, _, [.bool true, .int 0], rfl, e4, .inr ⟨_, _, rfl, .inl (neg_odd (.bl true))⟩, fun _ => (.cons (.bl true) (.cons (.int 0) .nil)), by first | rfl | decide +kernel⟩) (.cons (.inr ⟨_, _, [.int 1, .bool false], rfl, e5, .inr ⟨_, _, rfl, .inr ⟨1, rfl, by decide, .inl (neg_odd (.bl false))⟩⟩, fun _ => (.cons (.int 1) (.cons (.bl false) .nil)), by first | rfl | decide +kernel⟩) (.cons (.inr ⟨_, _, [.str "1", .int 0], rfl, e6, .inr ⟨_, _, rfl, .inl (neg_odd (.str _))⟩, fun _ => (.cons (.str _) (.cons (.int 0) .nil)), by first | rfl | decide +kernel⟩) (.cons (.inr ⟨_, _, [.int 1, .none], rfl, e7, .inr ⟨_, _, rfl, .inr ⟨1, rfl, by decide, .inl (neg_odd .non)⟩⟩, fun _ => (.cons (.int 1) (.cons .non .nil)), by first | rfl | decide +kernel⟩) (.cons (b_ints e8 (.inr (.inr ⟨z0, z0, by omega⟩))) (.cons (b_ints e9 (.inl (by decide))) (.cons (b_ints f1 (.inr (.inl (by omega)))) (.cons (b_ints f2 (.inl (by omega))) (.cons (b_ints f3 (.inr (.inr ⟨zq, zp, ne_swap n1 hA⟩))) (.cons (b_ints f4 (.inr (.inr ⟨zp1, zq, ne_up l2a hA⟩))) (.cons (b_ints f5 (.inr (.inr ⟨zp, zqf, ne_far n1 l1a far0 hA⟩))) (.cons (b_ints f6 (.inr (.inr ⟨z1, z1, by omega⟩))) (.cons (b_ints f7 (.inr (.inr ⟨z2f, z0, ne_two far0⟩))) .nil)))))))))))))))))))))
    have hlen : ([.non, .ref t0, .ref t1, .ref t3, .ref tl, .str "10", .int 5, .ref td, .ref t4, .ref t5, .ref t6, .ref t7, .ref t8, .ref t9] ++ [.ref r1, .ref r2, .ref r3, .ref r4, .ref r5] ++ [.ref r6, .ref r7] : List V).length ≤ 100 := by show 21 ≤ 100; decide
    refine ⟨_, rfl, l5, rfl, ⟨_, SqL.of el5⟩, fun D hD => lc_list (K := K) (a := l5) (xs := [.non, .ref t0, .ref t1, .ref t3, .ref tl, .str "10", .int 5, .ref td, .ref t4, .ref t5, .ref t6, .ref t7, .ref t8, .ref t9] ++ [.ref r1, .ref r2, .ref r3, .ref r4, .ref r5] ++ [.ref r6, .ref r7]) (fun i H' => Same (upd (upd (upd (upd (upd (upd (upd (upd (upd (upd (upd (upd (upd (upd (upd (upd (upd (upd (upd (upd (upd (upd (upd H1 t0 (.tup [])) t1 (.tup [.int 1])) t3 (.tup [.int 1, .int 0, .int 0])) tl (.lst [.int 1, .int 0])) td (.dK [])) t4 (.tup [.bl true, .int 0])) t5 (.tup [.int 1, .bl false])) t6 (.tup [.str "1", .int 0])) t7 (.tup [.int 1, .non])) t8 (.tup [.int 0, .int 0])) t9 (.tup [.int (-1), .int 0])) l1 (.lst [.non, .ref t0, .ref t1, .ref t3, .ref tl, .str "10", .int 5, .ref td, .ref t4, .ref t5, .ref t6, .ref t7, .ref t8, .ref t9])) r1 (.tup [.int (least N).1, .int (-(least N).2)])) r2 (.tup [.int (-(least N).1), .int (least N).2])) r3 (.tup [.int (least N).2, .int (least N).1])) r4 (.tup [.int ((least N).1 + 1), .int (least N).2])) r5 (.tup [.int (least N).1, .int ((least N).2 + 1 + far)])) l2 (.lst [.ref r1, .ref r2, .ref r3, .ref r4, .ref r5])) l3 (.lst ([.non, .ref t0, .ref t1, .ref t3, .ref tl, .str "10", .int 5, .ref td, .ref t4, .ref t5, .ref t6, .ref t7, .ref t8, .ref t9] ++ [.ref r1, .ref r2, .ref r3, .ref r4, .ref r5]))) r6 (.tup [.int 1, .int 1])) r7 (.tup [.int (2 + far), .int 0])) l4 (.lst [.ref r6, .ref r7])) l5 (.lst ([.non, .ref t0, .ref t1, .ref t3, .ref tl, .str "10", .int 5, .ref td, .ref t4, .ref t5, .ref t6, .ref t7, .ref t8, .ref t9] ++ [.ref r1, .ref r2, .ref r3, .ref r4, .ref r5] ++ [.ref r6, .ref r7]))) H' ∧ ∃ acc : List V, H' D = some (.lst acc) ∧ acc.length ≤ i ∧ AllB K N (upd (upd (upd (upd (upd (upd (upd (upd (upd (upd (upd (upd (upd (upd (upd (upd (upd (upd (upd (upd (upd (upd (upd H1 t0 (.tup [])) t1 (.tup [.int 1])) t3 (.tup [.int 1, .int 0, .int 0])) tl (.lst [.int 1, .int 0])) td (.dK [])) t4 (.tup [.bl true, .int 0])) t5 (.tup [.int 1, .bl false])) t6 (.tup [.str "1", .int 0])) t7 (.tup [.int 1, .non])) t8 (.tup [.int 0, .int 0])) t9 (.tup [.int (-1), .int 0])) l1 (.lst [.non, .ref t0, .ref t1, .ref t3, .ref tl, .str "10", .int 5, .ref td, .ref t4, .ref t5, .ref t6, .ref t7, .ref t8, .ref t9])) r1 (.tup [.int (least N).1, .int (-(least N).2)])) r2 (.tup [.int (-(least N).1), .int (least N).2])) r3 (.tup [.int (least N).2, .int (least N).1])) r4 (.tup [.int ((least N).1 + 1), .int (least N).2])) r5 (.tup [.int (least N).1, .int ((least N).2 + 1 + far)])) l2 (.lst [.ref r1, .ref r2, .ref r3, .ref r4, .ref r5])) l3 (.lst ([.non, .ref t0, .ref t1, .ref t3, .ref tl, .str "10", .int 5, .ref td, .ref t4, .ref t5, .ref t6, .ref t7, .ref t8, .ref t9] ++ [.ref r1, .ref r2, .ref r3, .ref r4, .ref r5]))) r6 (.tup [.int 1, .int 1])) r7 (.tup [.int (2 + far), .int 0])) l4 (.lst [.ref r6, .ref r7])) l5 (.lst ([.non, .ref t0, .ref t1, .ref t3, .ref tl, .str "10", .int 5, .ref td, .ref t4, .ref t5, .ref t6, .ref t7, .ref t8, .ref t9] ++ [.ref r1, .ref r2, .ref r3, .ref r4, .ref r5] ++ [.ref r6, .ref r7]))) acc) ⟨same_upd hD, [], upd_same, Nat.le_refl _, AllB.nil⟩ (fun i H' _ h => SqL.of (h.1 _ _ el5)) ?_ ?_⟩
    · rintro i x H' hx ⟨s9, acc, hD9, hal, hacc⟩
      have hi := (List.getElem?_eq_some_iff.mp hx).1
      have hb := hap x (List.mem_of_getElem? hx)
      have hs : acc.length < sizeLine := by rw [line_eq]; omega
      have hacc2 : AllB K N (upd (upd (upd (upd (upd (upd (upd (upd (upd (upd (upd (upd (upd (upd (upd (upd (upd (upd (upd (upd (upd (upd (upd H1 t0 (.tup [])) t1 (.tup [.int 1])) t3 (.tup [.int 1, .int 0, .int 0])) tl (.lst [.int 1, .int 0])) td (.dK [])) t4 (.tup [.bl true, .int 0])) t5 (.tup [.int 1, .bl false])) t6 (.tup [.str "1", .int 0])) t7 (.tup [.int 1, .non])) t8 (.tup [.int 0, .int 0])) t9 (.tup [.int (-1), .int 0])) l1 (.lst [.non, .ref t0, .ref t1, .ref t3, .ref tl, .str "10", .int 5, .ref td, .ref t4, .ref t5, .ref t6, .ref t7, .ref t8, .ref t9])) r1 (.tup [.int (least N).1, .int (-(least N).2)])) r2 (.tup [.int (-(least N).1), .int (least N).2])) r3 (.tup [.int (least N).2, .int (least N).1])) r4 (.tup [.int ((least N).1 + 1), .int (least N).2])) r5 (.tup [.int (least N).1, .int ((least N).2 + 1 + far)])) l2 (.lst [.ref r1, .ref r2, .ref r3, .ref r4, .ref r5])) l3 (.lst ([.non, .ref t0, .ref t1, .ref t3, .ref tl, .str "10", .int 5, .ref td, .ref t4, .ref t5, .ref t6, .ref t7, .ref t8, .ref t9] ++ [.ref r1, .ref r2, .ref r3, .ref r4, .ref r5]))) r6 (.tup [.int 1, .int 1])) r7 (.tup [.int (2 + far), .int 0])) l4 (.lst [.ref r6, .ref r7])) l5 (.lst ([.non, .ref t0, .ref t1, .ref t3, .ref tl, .str "10", .int 5, .ref td, .ref t4, .ref t5, .ref t6, .ref t7, .ref t8, .ref t9] ++ [.ref r1, .ref r2, .ref r3, .ref r4, .ref r5] ++ [.ref r6, .ref r7]))) (acc ++ [x]) := hacc.app (.cons hb .nil)
      have hl2 : (acc ++ [x]).length ≤ i + 1 := by rw [List.length_append]; show acc.length + 1 ≤ i + 1; omega
      refine ⟨rfl, ?_⟩
      rcases hb with hb | ⟨a, xs, ds, rfl, ea, na, da, ga⟩
      · obtain ⟨t, ty, k1⟩ := (hb.same s9).ty (K := K)
        refine ⟨_, rfl, x, _, t, _, false, rfl, .ty "tuple", ty, k1, _, rfl, iteT (iteT ⟨_, rfl, acc, hD9, hs, sm0 s9 hD, _, upd_same, hl2, hacc2⟩)⟩
      · refine ⟨_, rfl, .ref a, _, _, _, true, rfl, .ty "tuple", .base (.tup (s9 _ _ ea)), kTup, _, rfl, iteF ?_⟩
        refine ⟨_, rfl, _, rfl, _, rfl, (by show 2 ≤ sizeLine; decide), fun r hr0 => ⟨.tuple ds, dpr (least N), .tup (SqT.of (same_upd hr0 _ _ (s9 _ _ ea))) (da _), Dp.pr upd_same, ga, dpr_sh _, _, rfl, ?_⟩⟩
        have s10 := same_upd hr0 (o := .tup [.int (least N).1, .int (least N).2])
        generalize (!PyData.eqv (.tuple ds) (dpr (least N))) = bb
        cases bb with
        | false => exact iteF ⟨s9.trans s10, acc, s10 _ _ hD9, by omega, hacc⟩
        | true => exact iteT ⟨_, rfl, acc, s10 _ _ hD9, hs, sm0 (s9.trans s10) hD, _, upd_same, hl2, hacc2⟩
    rintro H7 ⟨s7, acc, hD7, hal, hacc⟩
    have sx := sx.trans s7
    have hu7 := s7.seq hu
    have hacc7 := hacc.same s7
    refine ⟨3, rfl, by decide, by decide, for_range (lo := 0) (n := 3) (fun i σ H' => ∃ b, σ = [some (.int N), some (.ref u), some (.int far), some (.int (least N).1), some (.int (least N).2), some (.ref D), b, none] ∧ Same H7 H') ⟨_, rfl, Same.refl _⟩ ?_ ?_⟩
    · rintro i σ H8 hi ⟨b, rfl, s8⟩
      refine ⟨_, rfl, D, rfl, ⟨_, SqL.of (s8 _ _ hD7)⟩, fun D2 hD2 => lc_list (K := K) (a := D) (xs := acc) (fun j H' => Same H8 H' ∧ H' D2 = some (.lst ((List.replicate j true).map V.bl))) ⟨same_upd hD2, upd_same⟩ (fun j H' _ h => SqL.of (h.1 _ _ (s8 _ _ hD7))) ?_ ?_⟩
      · rintro j x H' hx ⟨s9, hD9⟩
        have hj := (List.getElem?_eq_some_iff.mp hx).1
        have hb := (hacc7 x (List.mem_of_getElem? hx)).same (s8.trans s9)
        refine ⟨rfl, yes_of (iteT ?_)⟩
        refine ⟨_, rfl, _, rfl, _, rfl, (by show 2 ≤ sizeLine; decide), fun r hr0 => ?_⟩
        have s10 := same_upd hr0 (o := .tup [.int (0 + (i : Int)), x])
        refine ⟨_, _, rfl, fun Q' E' o => ⟨N, _, r, x, rfl, upd_same, n1, n2, fun _ => ok, (hb.same s10).a, o⟩, fun H11 m s11 hm h11 => ?_⟩
        have s12 := (s9.trans s10).trans s11
        refine ⟨_, rfl, .list ([false, false, true, false, true].map PyData.bool), .list ([false, false, true, false, true].map PyData.bool), .lst (SqL.of h11) (dpa_bl [false, false, true, false, true]), .lst ((s8.trans s12).seq hu7) (dpa_bl [false, false, true, false, true]), by rfl, by rfl, ?_⟩
        refine ⟨_, s11 _ _ (s10 _ _ hD9), by rw [List.length_map, List.length_replicate, line_eq]; omega, sm0 s12 hD2, ?_⟩
        rw [upd_same, List.replicate_succ', List.map_append]
        rfl
      · rintro H' ⟨s9, hD9⟩
        refine ⟨D2, _, rfl, SqL.of hD9, _, rfl, ?_⟩
        rw [show (List.replicate acc.length true).all id = true by simp]
        exact iteF ⟨_, rfl, s8.trans s9⟩
    · rintro σ H8 ⟨b, rfl, s8⟩
      have cap := Cap.all ok
      refine ⟨_, rfl, _, rfl, _, rfl, (by show 2 ≤ sizeLine; decide), fun r hr0 => ?_⟩
      refine ⟨N, 1, r, rfl, ok, cap.mono (by decide), by decide, by rw [pw_one]; exact upd_same, fun H9 s9 => ?_⟩
      refine ⟨rfl, _, rfl, iteT ⟨_, rfl, (by show 2 ≤ sizeLine; decide), fun r2 hr2 => ?_⟩⟩
      refine ⟨N, 0, r2, rfl, ok, cap.mono (by decide), by decide, upd_same, fun H10 s10 => ⟨rfl, ?_⟩⟩
      exact k _ ((((sx.trans s8).trans (same_upd hr0)).trans s9).trans ((same_upd hr2).trans s10))
end
end OA

namespace OA
open PySem L2 PyProof.Rows
theorem sq_sq {r : Int} (h : 0 ≤ r) : IsSq (r * r) := isSq_iff.mpr ⟨r, h, rfl⟩
theorem h_2 : ¬ IsSq 2 ∧ least 2 = (3, 2) := by decide +kernel
theorem h_m : IsSq 1000000 ∧ rt 1000000 = 1000 := by decide +kernel
theorem h_9 : ¬ IsSq 999999 := by decide +kernel
theorem v_get {l : List Int} {i : Nat} {x : V} (h : (vi l)[i]? = some x) : ∃ m, m ∈ l ∧ x = V.int m ∧ i < l.length := by
  have hi := (List.getElem?_eq_some_iff.mp h).1
  rw [vi_len] at hi
  unfold vi at h
  rw [List.getElem?_map] at h
  cases e : l[i]? with
  | none => rw [e] at h; cases h
  | some m =>
    rw [e] at h
    exact ⟨m, List.mem_of_getElem? e, (Option.some.inj h).symm, hi⟩
def dueAt (j : Nat) : List V := [.bl (decide (V.int (0 + (j : Int)) = V.int 0)), .bl (decide (V.int (0 + (j : Int)) = V.int 1)), .bl (decide (V.int (0 + (j : Int)) = V.int 2)), .bl (decide (V.int (0 + (j : Int)) = V.int 3)), .bl true]
section
variable {P : Program} {w : World} {K : PySem.W.Frag} {mg : Str → Option Value} {base : Heap} {cA cS cL cO cB eP eN eI eW eC : Addr}
def spTd (f : Addr) (spf : Sp) (C : Addr) (b1 b2 b3 b4 : Bool) : Sp := fun vs H Q _ => ∃ x y, vs = [.ref f, x, y] ∧ Lets spf C [x, y] H ∧ New H Q (.lst (bits b1 b2 b3 b4))
def spLaw (K : PySem.W.Frag) : Sp := fun vs H Q _ => ∃ (a : Addr) (ns : List Int), vs = [.ref a] ∧ SqL K H a (vi ns) ∧ ns.length ≤ 63 ∧ (∀ z ∈ ns, Sz z 1048577) ∧ ∀ H', Q (.bl true) H'
set_option maxHeartbeats 0 in
theorem ok_law {f : Addr} {fd : FuncData} (F : Fun K "law" "law" s_law f fd) (T : Tx K mg) (U : Tc K mg cA cS cL cO cB) (Z : Te K mg eP eN eI eW eC) : FnOk P w K mg base CX0 9 f fd ["_law_script"] (spLaw K) := by
  obtain ⟨fN, dN, gN, kN, bN, FN⟩ := x_wn (P := P) (w := w) (base := base) T Z
  obtain ⟨fS, dS, gS, kS, bS, FS⟩ := x_ws (P := P) (w := w) (base := base) T Z
  obtain ⟨fC, dC, gC, kC, bC, FC⟩ := x_wc (P := P) (w := w) (base := base) T Z
  obtain ⟨fA, dA, gA, kA, bA, FA⟩ := x_wa (P := P) (w := w) (base := base) T Z
  have LN : Okd P w K mg base 7 "_law_told" ["_law_ask", "_law_one", "_law_other"] (spTd fN (spWN eN) eN true false false false) := x_ltold FN kN bN T Z (kdN Z)
  have LS : Okd P w K mg base 7 "_law_told" ["_law_ask", "_law_one", "_law_other"] (spTd fS (spWS eI) eI false true false false) := x_ltold FS kS bS T Z (kdI Z)
  have LC : Okd P w K mg base 7 "_law_told" ["_law_ask", "_law_one", "_law_other"] (spTd fC (spWC eC) eC false false false true) := x_ltold FC kC bC T Z (kdC Z)
  have LA : Okd P w K mg base 7 "_law_told" ["_law_ask", "_law_one", "_law_other"] (spTd fA (spWA K eW) eW false false true false) := x_ltold FA kA bA T Z (kdW Z)
  have ok9 : Ok 999999 := ⟨by decide, by decide, h_9⟩
  have S : FnScope ["_law_script", "_law_far", "_law_due", "_law_k", "_law_bad", "_law_door", "_law_squares", "_law_number", "_law_count", "_law_thing"] ["_law_script"] (defScope s_law) := ⟨rfl, rfl, rfl, by decide +kernel, rfl, by decide +kernel, by decide +kernel⟩
  refine F.ok S (fun vs H Q E h => ?_) (fun cdv A outer s H vs Q E hr h => ?_)
  · obtain ⟨a, ns, rfl, _⟩ := h
    rfl
  · obtain ⟨a, ns, rfl, hs, hl, hz, k⟩ := h
    refine ⟨_, (pss_cons (ps_set (i := 1) S.nd rfl (.inl rfl) (pe_do (ok_value T) hr (pa_cons (pe_do (ok_cell T) hr (pa_cons (pv 0) (pa_cons pe_int pa_nil))) (pa_cons pe_int (pa_cons (pe_op op_pow pe_int pe_int) pa_nil)))))
      (pss_cons (ps_set (i := 2) S.nd rfl (.inr rfl) (pe_lst pa_nil))
      (pss_cons (ps_for PassesOwn.never rfl (pi_range1 (by rfl) T.b_range (pa_cons pe_int pa_nil)) (pg_name (i := 3) S.nd rfl (.inl rfl)) (pss_one (ps_expr (pe_bm PySem.F.plainAttrs_list PySem.F.slot_list_append PySem.F.type_list_append mt_append (pv 2) (pa_cons (pe_lst (pa_cons (pe_cmpR op_eq (pv 3) pe_int (nomark _)) (pa_cons (pe_cmpR op_eq (pv 3) pe_int (nomark _)) (pa_cons (pe_cmpR op_eq (pv 3) pe_int (nomark _)) (pa_cons (pe_cmpR op_eq (pv 3) pe_int (nomark _)) (pa_cons pe_bl pa_nil)))))) pa_nil)))))
      (pss_cons (ps_set (i := 4) S.nd rfl (.inl rfl) (pe_lst (pa_cons pe_non (pa_cons pe_str (pa_cons pe_bl (pa_cons pe_bl (pa_cons (pe_lst (pa_cons pe_int pa_nil)) (pa_cons (pe_tup (pa_cons pe_int pa_nil)) (pa_cons pe_dnewK (pa_cons pe_int (pa_cons pe_int (pa_cons (pe_un un_neg pe_int) (pa_cons (pe_op op_sub (pe_un un_neg pe_int) (pv 1)) (pa_cons pe_int (pa_cons (pe_op op_add pe_int (pv 1)) pa_nil)))))))))))))))
      (pss_cons (ps_for PassesOwn.never rfl (pi_range1 (by rfl) T.b_range (pa_cons pe_int pa_nil)) (pg_name (i := 5) S.nd rfl (.inr rfl)) (pss_one (ps_if (pt_not (pt_val (pe_callB (cr_all rfl) (by rfl) T.b_all bt_all (pa_cons (pe_lc (te := tOp (rEqD K) (tCall (spTd fN (spWN eN) eN true false false false) [] E0 (tCons (tC (.ref fN)) (tCons (tVar 5) (tCons (tVar 9) tNil)))) (tOp (rIxL K) (tVar 2) (tC (.int 0)))) (own := [("_law_thing", 9)]) (g := gName 9) (tt := tYes) rfl S.nd (pi_list (pv 4)) (blkOk_by (own := [("_law_thing", 9)]) (N := ["_law_script", "_law_far", "_law_due", "_law_k", "_law_bad", "_law_door", "_law_squares", "_law_number", "_law_count", "_law_thing"]) (sc := defScope s_law) (by decide +kernel)) (fun _ _ _ _ _ => pg_name (i := 9) S.nd rfl (Or.inl rfl)) (fun _ _ _ _ _ => pts_nil)
        (fun _ _ _ _ _ => pe_cmpR (op_eqD hr.units) (pe_do LN hr (pa_cons (pe_glob (v := .ref fN) (by rfl) gN rfl) (pa_cons (pv 5) (pa_cons (pv 9) pa_nil)))) (pe_ix ix_list (pv 2) pe_int (fun _ _ => rfl)) (nomark _))) pa_nil)))) (pss_one (ps_ret pe_bl)) pss_nil)))
      (pss_cons (ps_set (i := 6) S.nd rfl (.inl rfl) (pe_lst (pa_cons pe_int (pa_cons pe_int (pa_cons (pe_op op_mul (pe_op op_add pe_int (pe_op op_mod (pv 1) pe_int)) (pe_op op_add pe_int (pe_op op_mod (pv 1) pe_int))) pa_nil)))))
      (pss_cons (ps_for PassesOwn.never rfl (pi_range1 (by rfl) T.b_range (pa_cons pe_int pa_nil)) (pg_name (i := 5) S.nd rfl (.inr rfl)) (pss_one (ps_if (pt_not (pt_val (pe_callB (cr_all rfl) (by rfl) T.b_all bt_all (pa_cons (pe_lc (te := tOp (rEqD K) (tCall (spTd fS (spWS eI) eI false true false false) [] E0 (tCons (tC (.ref fS)) (tCons (tVar 5) (tCons (tVar 9) tNil)))) (tOp (rIxL K) (tVar 2) (tC (.int 1)))) (own := [("_law_thing", 9)]) (g := gName 9) (tt := tYes) rfl S.nd (pi_list (pv 6)) (blkOk_by (own := [("_law_thing", 9)]) (N := ["_law_script", "_law_far", "_law_due", "_law_k", "_law_bad", "_law_door", "_law_squares", "_law_number", "_law_count", "_law_thing"]) (sc := defScope s_law) (by decide +kernel)) (fun _ _ _ _ _ => pg_name (i := 9) S.nd rfl (Or.inl rfl)) (fun _ _ _ _ _ => pts_nil)
        (fun _ _ _ _ _ => pe_cmpR (op_eqD hr.units) (pe_do LS hr (pa_cons (pe_glob (v := .ref fS) (by rfl) gS rfl) (pa_cons (pv 5) (pa_cons (pv 9) pa_nil)))) (pe_ix ix_list (pv 2) pe_int (fun _ _ => rfl)) (nomark _))) pa_nil)))) (pss_one (ps_ret pe_bl)) pss_nil)))
      (pss_cons (ps_for PassesOwn.never rfl (pi_list (pe_do (ok_nums T) hr (pa_cons (pv 0) pa_nil))) (pg_name (i := 7) S.nd rfl (.inl rfl)) (pss_one (ps_if (pt_not (pt_val (pe_do (ok_lsq T) hr (pa_cons (pv 7) pa_nil))))
      (pss_cons (ps_for PassesOwn.never rfl (pi_tup (pe_tup (pa_cons pe_non (pa_cons pe_str (pa_cons pe_bl (pa_cons (pe_lst (pa_cons pe_int pa_nil)) (pa_cons (pe_tup (pa_cons pe_int pa_nil)) (pa_cons (pe_un un_neg pe_int) (pa_cons (pe_op op_sub (pe_un un_neg pe_int) (pv 1)) (pa_cons pe_int (pa_cons (pe_op op_add pe_int (pv 1)) pa_nil))))))))))) (pg_name (i := 8) S.nd rfl (.inl rfl)) (pss_one (ps_if (pt_cmpR (op_neD hr.units) (pe_do LC hr (pa_cons (pe_glob (v := .ref fC) (by rfl) gC rfl) (pa_cons (pv 7) (pa_cons (pv 8) pa_nil)))) (pe_ix ix_list (pv 2) pe_int (fun _ _ => rfl)) (nomark _)) (pss_one (ps_ret pe_bl)) pss_nil)))
      (pss_one (ps_if (pt_not (pt_val (pe_do (ok_ar T Z) hr (pa_cons (pv 7) (pa_cons (pe_ix ix_list (pv 2) pe_int (fun _ _ => rfl)) (pa_cons (pv 1) pa_nil)))))) (pss_one (ps_ret pe_bl)) pss_nil)))
      (pss_one (ps_if (pt_cmpR (op_neD hr.units) (pe_do LA hr (pa_cons (pe_glob (v := .ref fA) (by rfl) gA rfl) (pa_cons (pv 7) (pa_cons (pe_tup (pa_cons pe_int (pa_cons (pe_tup (pa_cons pe_int (pa_cons pe_int pa_nil))) pa_nil))) pa_nil)))) (pe_ix ix_list (pv 2) pe_int (fun _ _ => rfl)) (nomark _)) (pss_one (ps_ret pe_bl)) pss_nil)))))
      (pss_one (ps_ret (pe_and (pe_cmpR op_eq (pe_fld (pe_do (ok_told T U) hr (pa_cons pe_int pa_nil)) rfl) pe_int (nomark _)) (pe_and (pe_cmpR op_eq (pe_fld (pe_do (ok_less T U) hr (pa_cons pe_int pa_nil)) rfl) pe_int (nomark _)) (pe_one (pe_cmpR (op_eqD hr.units) (pe_do (ok_by T) hr (pa_cons pe_int (pa_cons pe_int pa_nil))) (pe_tup (pa_cons pe_int (pa_cons pe_int pa_nil))) (nomark _))))))))))))))), ?_⟩
    refine ⟨_, rfl, a, ns, 0, rfl, hs, by decide, by omega, fun c hc => ?_⟩
    have zc : Sz c 1048600 := by
      rcases hc with rfl | hc
      · exact (show Sz 0 1 from ⟨by decide⟩).mono (by decide)
      · exact (hz _ hc).mono (by decide)
    refine ⟨_, _, rfl, rfl, (by decide : (0 : Int) ≤ 30 ∧ (30 : Int) ≤ 1000000 ∧ (10 : Int).natAbs < 2 ^ 64), c, 3, _, rfl, zc, (show Sz 3 2 from ⟨by decide⟩).mono (by decide), (by decide : (0 : Int) < 10 ^ (30 : Int).toNat), fun far far0 farM H1 s1 => ?_⟩
    refine ⟨Nat.zero_le _, fun u hu => ?_⟩
    have su := same_upd hu (o := .lst [])
    refine ⟨4, rfl, by decide, by decide, for_range (lo := 0) (n := 4) (fun i σ H' => ∃ b, σ = [some (.ref a), some (.int far), some (.ref u), b, none, none, none, none, none, none] ∧ Same H1 H' ∧ ∃ fd : Nat → Addr, H' u = some (.lst ((List.range i).map fun j => V.ref (fd j))) ∧ ∀ j, j < i → H' (fd j) = some (.lst (dueAt j))) ⟨none, rfl, su, fun _ => 0, upd_same, fun j hj => absurd hj (Nat.not_lt_zero j)⟩ ?_ ?_⟩
    · rintro i σ H' hi ⟨b, rfl, s2, fd, hu2, hfd⟩
      refine ⟨_, rfl, .inl ⟨rfl, _, SqL.of hu2⟩, ?_⟩
      refine ⟨_, rfl, rfl, _, rfl, rfl, _, rfl, rfl, _, rfl, rfl, (by show 5 ≤ sizeLine; decide), fun m hm => ?_⟩
      have sm1 := same_upd hm (o := .lst (dueAt i))
      have hu3 : (upd H' m (.lst (dueAt i))) u = some (.lst ((List.range i).map fun j => V.ref (fd j))) := sm1 _ _ hu2
      have hm1 : (upd H' m (.lst (dueAt i))) m = some (.lst (dueAt i)) := upd_same
      have um : m ≠ u := fun z => by rw [z, hu2] at hm; cases hm
      refine ⟨u, _, _, rfl, rfl, hu3, by rw [List.length_map, List.length_range, line_eq]; omega, ?_⟩
      refine ⟨_, rfl, sm0 (s2.trans sm1) hu, fun j => if j = i then m else fd j, ?_, fun j hj => ?_⟩
      · rw [upd_same, List.range_succ, List.map_append]
        have e : (List.range i).map (fun j => V.ref (if j = i then m else fd j)) = (List.range i).map fun j => V.ref (fd j) := List.map_congr_left fun j hj => by
          have := List.mem_range.mp hj
          rw [if_neg (by omega)]
        rw [e]
        show some (HO.lst (_ ++ [V.ref m])) = some (HO.lst (_ ++ [V.ref (if i = i then m else fd i)]))
        rw [if_pos rfl]
      · by_cases c : j = i
        · rw [c]
          show (upd _ u _) (if i = i then m else fd i) = _
          rw [if_pos rfl]
          exact (upd_ne um).trans hm1
        · show (upd _ u _) (if j = i then m else fd j) = _
          rw [if_neg c]
          have h1 := hfd j (by omega)
          have ne : fd j ≠ u := fun z => by
            rw [z, hu2] at h1
            have h2 := HO.lst.inj (Option.some.inj h1)
            have h3 := congrArg (fun l => l.getLast?) h2
            unfold dueAt at h3
            rw [List.getLast?_map] at h3
            cases e : (List.range i).getLast? with
            | none => rw [e] at h3; cases h3
            | some y => rw [e] at h3; cases h3
          exact (upd_ne ne).trans (sm1 _ _ h1)
    rintro σ H4 ⟨b0, rfl, s4, fd, hdu, hfd⟩
    have sx := s4
    have w0 : H4 (fd 0) = some (.lst (bits true false false false)) := hfd 0 (by decide)
    have w1 : H4 (fd 1) = some (.lst (bits false true false false)) := hfd 1 (by decide)
    have w2 : H4 (fd 2) = some (.lst (bits false false true false)) := hfd 2 (by decide)
    have w3 : H4 (fd 3) = some (.lst (bits false false false true)) := hfd 3 (by decide)
    have hdu : H4 u = some (.lst [.ref (fd 0), .ref (fd 1), .ref (fd 2), .ref (fd 3)]) := hdu
    refine ⟨(by show 1 ≤ sizeLine; decide), fun bl hbl => ?_⟩
    have ebl : (upd H4 bl (.lst [.int 2])) bl = some (.lst [.int 2]) := upd_same
    have q1 : Same H4 (upd H4 bl (.lst [.int 2])) := same_upd hbl
    have w0 := q1 _ _ w0
    have w1 := q1 _ _ w1
    have w2 := q1 _ _ w2
    have w3 := q1 _ _ w3
    have hdu := q1 _ _ hdu
    have sx := sx.trans q1
    refine ⟨(by show 1 ≤ sizeLine; decide), fun bt hbt => ?_⟩
    have ebt : (upd (upd H4 bl (.lst [.int 2])) bt (.tup [.int 2])) bt = some (.tup [.int 2]) := upd_same
    have q2 : Same (upd H4 bl (.lst [.int 2])) (upd (upd H4 bl (.lst [.int 2])) bt (.tup [.int 2])) := same_upd hbt
    have w0 := q2 _ _ w0
    have w1 := q2 _ _ w1
    have w2 := q2 _ _ w2
    have w3 := q2 _ _ w3
    have hdu := q2 _ _ hdu
    have ebl := q2 _ _ ebl
    have sx := sx.trans q2
    refine fun bd hbd => ?_
    have ebd : (upd (upd (upd H4 bl (.lst [.int 2])) bt (.tup [.int 2])) bd (.dK [])) bd = some (.dK []) := upd_same
    have q3 : Same (upd (upd H4 bl (.lst [.int 2])) bt (.tup [.int 2])) (upd (upd (upd H4 bl (.lst [.int 2])) bt (.tup [.int 2])) bd (.dK [])) := same_upd hbd
    have w0 := q3 _ _ w0
    have w1 := q3 _ _ w1
    have w2 := q3 _ _ w2
    have w3 := q3 _ _ w3
    have hdu := q3 _ _ hdu
    have ebl := q3 _ _ ebl
    have ebt := q3 _ _ ebt
    have sx := sx.trans q3
    refine ⟨_, rfl, _, rfl, _, rfl, _, _, rfl, rfl, _, rfl, _, _, rfl, rfl, (by show 13 ≤ sizeLine; decide), fun lb hlb => ?_⟩
    have elb : (upd (upd (upd (upd H4 bl (.lst [.int 2])) bt (.tup [.int 2])) bd (.dK [])) lb (.lst [.non, .str "2", .bl true, .bl false, .ref bl, .ref bt, .ref bd, .int 1, .int 0, .int (-1), .int (-2 - far), .int 1000001, .int (1000001 + far)])) lb = some (.lst [.non, .str "2", .bl true, .bl false, .ref bl, .ref bt, .ref bd, .int 1, .int 0, .int (-1), .int (-2 - far), .int 1000001, .int (1000001 + far)]) := upd_same
    have q4 : Same (upd (upd (upd H4 bl (.lst [.int 2])) bt (.tup [.int 2])) bd (.dK [])) (upd (upd (upd (upd H4 bl (.lst [.int 2])) bt (.tup [.int 2])) bd (.dK [])) lb (.lst [.non, .str "2", .bl true, .bl false, .ref bl, .ref bt, .ref bd, .int 1, .int 0, .int (-1), .int (-2 - far), .int 1000001, .int (1000001 + far)])) := same_upd hlb
    have w0 := q4 _ _ w0
    have w1 := q4 _ _ w1
    have w2 := q4 _ _ w2
    have w3 := q4 _ _ w3
    have hdu := q4 _ _ hdu
    have ebl := q4 _ _ ebl
    have ebt := q4 _ _ ebt
    have ebd := q4 _ _ ebd
    have sx := sx.trans q4
    have hbad : ∀ x ∈ ([.non, .str "2", .bl true, .bl false, .ref bl, .ref bt, .ref bd, .int 1, .int 0, .int (-1), .int (-2 - far), .int 1000001, .int (1000001 + far)] : List V), BadN (upd (upd (upd (upd H4 bl (.lst [.int 2])) bt (.tup [.int 2])) bd (.dK [])) lb (.lst [.non, .str "2", .bl true, .bl false, .ref bl, .ref bt, .ref bd, .int 1, .int 0, .int (-1), .int (-2 - far), .int 1000001, .int (1000001 + far)])) x := by
      intro x hx
      simp only [List.mem_cons, List.not_mem_nil, or_false] at hx
      rcases hx with rfl | rfl | rfl | rfl | rfl | rfl | rfl | rfl | rfl | rfl | rfl | rfl | rfl
      · exact .inl .non
      · exact .inl (.str _)
      · exact .inl (.bl _)
      · exact .inl (.bl _)
      · exact .inl (.lst ebl)
      · exact .inl (.tup ebt)
      · exact .inl (.dct ebd)
      · exact .inr ⟨_, rfl, by omega⟩
      · exact .inr ⟨_, rfl, by omega⟩
      · exact .inr ⟨_, rfl, by omega⟩
      · exact .inr ⟨_, rfl, by omega⟩
      · exact .inr ⟨_, rfl, by omega⟩
      · exact .inr ⟨_, rfl, by omega⟩
    refine ⟨6, rfl, by decide, by decide, for_range (lo := 0) (n := 6) (fun i σ H' => ∃ b, σ = [some (.ref a), some (.int far), some (.ref u), b0, some (.ref lb), b, none, none, none, none] ∧ Same (upd (upd (upd (upd H4 bl (.lst [.int 2])) bt (.tup [.int 2])) bd (.dK [])) lb (.lst [.non, .str "2", .bl true, .bl false, .ref bl, .ref bt, .ref bd, .int 1, .int 0, .int (-1), .int (-2 - far), .int 1000001, .int (1000001 + far)])) H') ⟨_, rfl, Same.refl _⟩ ?_ ?_⟩
    · rintro i σ H8 hi ⟨b, rfl, s8⟩
      refine ⟨_, rfl, lb, rfl, ⟨_, SqL.of (s8 _ _ elb)⟩, fun D2 hD2 => lc_list (K := K) (a := lb) (xs := [.non, .str "2", .bl true, .bl false, .ref bl, .ref bt, .ref bd, .int 1, .int 0, .int (-1), .int (-2 - far), .int 1000001, .int (1000001 + far)]) (fun j H' => Same H8 H' ∧ H' D2 = some (.lst ((List.replicate j true).map V.bl))) ⟨same_upd hD2, upd_same⟩ (fun j H' _ h => SqL.of (h.1 _ _ (s8 _ _ elb))) ?_ ?_⟩
      · rintro j x H' hx ⟨s9, hD9⟩
        have hj : j < 13 := (List.getElem?_eq_some_iff.mp hx).1
        have hb := hbad x (List.mem_of_getElem? hx)
        refine ⟨rfl, yes_of (iteT ?_)⟩
        refine ⟨_, rfl, _, rfl, _, _, rfl, fun Q' E' o => ⟨_, x, rfl, hb.same (s8.trans s9), o⟩, fun H11 m s11 hm h11 => ?_⟩
        have s12 := s9.trans s11
        refine ⟨_, rfl, u, _, _, _, rfl, rfl, SqL.of ((s8.trans s12) _ _ hdu), rfl, ?_⟩
        refine ⟨.list ([true, false, false, false, true].map PyData.bool), .list ([true, false, false, false, true].map PyData.bool), .lst (SqL.of h11) (dpa_bl [true, false, false, false, true]), .lst (SqL.of ((s8.trans s12) _ _ w0)) (dpa_bl [true, false, false, false, true]), by rfl, by rfl, ?_⟩
        refine ⟨_, s11 _ _ hD9, by rw [List.length_map, List.length_replicate, line_eq]; omega, sm0 s12 hD2, ?_⟩
        rw [upd_same, List.replicate_succ', List.map_append]
        rfl
      · rintro H' ⟨s9, hD9⟩
        refine ⟨D2, _, rfl, SqL.of hD9, _, rfl, ?_⟩
        rw [show (List.replicate ([.non, .str "2", .bl true, .bl false, .ref bl, .ref bt, .ref bd, .int 1, .int 0, .int (-1), .int (-2 - far), .int 1000001, .int (1000001 + far)] : List V).length true).all id = true by simp]
        exact iteF ⟨_, rfl, s8.trans s9⟩
    rintro σ H5 ⟨bzH5, rfl, s8⟩
    have sx := sx.trans s8
    have w0 := s8 _ _ w0
    have w1 := s8 _ _ w1
    have w2 := s8 _ _ w2
    have w3 := s8 _ _ w3
    have hdu := s8 _ _ hdu
    have m0 : 0 ≤ far % 998 := Int.emod_nonneg _ (by decide)
    have m1 : far % 998 < 998 := Int.emod_lt_of_pos _ (by decide)
    have mm : (2 + far % 998) * (2 + far % 998) ≤ 1000 * 1000 := Int.mul_le_mul (by omega) (by omega) (by omega) (by decide)
    have mn : 2 * 2 ≤ (2 + far % 998) * (2 + far % 998) := Int.mul_le_mul (by omega) (by omega) (by decide) (by omega)
    refine ⟨_, rfl, _, _, rfl, rfl, (by show (0 : Int) < 998; decide), _, _, rfl, rfl, _, rfl, _, _, rfl, rfl, (by show (0 : Int) < 998; decide), _, _, rfl, rfl, _, _, rfl, rfl, .inl ⟨by omega, by omega⟩, (by show 3 ≤ sizeLine; decide), fun ls hls => ?_⟩
    have els : (upd H5 ls (.lst [.int 4, .int 1000000, .int ((2 + far % 998) * (2 + far % 998))])) ls = some (.lst [.int 4, .int 1000000, .int ((2 + far % 998) * (2 + far % 998))]) := upd_same
    have q5 : Same H5 (upd H5 ls (.lst [.int 4, .int 1000000, .int ((2 + far % 998) * (2 + far % 998))])) := same_upd hls
    have w0 := q5 _ _ w0
    have w1 := q5 _ _ w1
    have w2 := q5 _ _ w2
    have w3 := q5 _ _ w3
    have hdu := q5 _ _ hdu
    have sx := sx.trans q5
    have hsq : ∀ x ∈ ([.int 4, .int 1000000, .int ((2 + far % 998) * (2 + far % 998))] : List V), ∃ n : Int, x = .int n ∧ 2 ≤ n ∧ n ≤ 1000000 ∧ IsSq n := by
      intro x hx
      simp only [List.mem_cons, List.not_mem_nil, or_false] at hx
      rcases hx with rfl | rfl | rfl
      · exact ⟨_, rfl, by decide, by decide, by decide +kernel⟩
      · exact ⟨_, rfl, by decide, by decide, by decide +kernel⟩
      · exact ⟨_, rfl, by omega, by omega, sq_sq (by omega)⟩
    refine ⟨3, rfl, by decide, by decide, for_range (lo := 0) (n := 3) (fun i σ H' => ∃ b, σ = [some (.ref a), some (.int far), some (.ref u), b0, some (.ref lb), b, some (.ref ls), none, none, none] ∧ Same (upd H5 ls (.lst [.int 4, .int 1000000, .int ((2 + far % 998) * (2 + far % 998))])) H') ⟨_, rfl, Same.refl _⟩ ?_ ?_⟩
    · rintro i σ H8 hi ⟨b, rfl, s8⟩
      refine ⟨_, rfl, ls, rfl, ⟨_, SqL.of (s8 _ _ els)⟩, fun D2 hD2 => lc_list (K := K) (a := ls) (xs := [.int 4, .int 1000000, .int ((2 + far % 998) * (2 + far % 998))]) (fun j H' => Same H8 H' ∧ H' D2 = some (.lst ((List.replicate j true).map V.bl))) ⟨same_upd hD2, upd_same⟩ (fun j H' _ h => SqL.of (h.1 _ _ (s8 _ _ els))) ?_ ?_⟩
      · rintro j x H' hx ⟨s9, hD9⟩
        have hj : j < 3 := (List.getElem?_eq_some_iff.mp hx).1
        have hb := hsq x (List.mem_of_getElem? hx)
        refine ⟨rfl, yes_of (iteT ?_)⟩
        obtain ⟨n, rfl, k1, k2, k3⟩ := hb
        refine ⟨_, rfl, _, rfl, _, _, rfl, fun Q' E' o => ⟨_, n, rfl, k1, k2, k3, o⟩, fun H11 m s11 hm h11 => ?_⟩
        have s12 := s9.trans s11
        refine ⟨_, rfl, u, _, _, _, rfl, rfl, SqL.of ((s8.trans s12) _ _ hdu), rfl, ?_⟩
        refine ⟨.list ([false, true, false, false, true].map PyData.bool), .list ([false, true, false, false, true].map PyData.bool), .lst (SqL.of h11) (dpa_bl [false, true, false, false, true]), .lst (SqL.of ((s8.trans s12) _ _ w1)) (dpa_bl [false, true, false, false, true]), by rfl, by rfl, ?_⟩
        refine ⟨_, s11 _ _ hD9, by rw [List.length_map, List.length_replicate, line_eq]; omega, sm0 s12 hD2, ?_⟩
        rw [upd_same, List.replicate_succ', List.map_append]
        rfl
      · rintro H' ⟨s9, hD9⟩
        refine ⟨D2, _, rfl, SqL.of hD9, _, rfl, ?_⟩
        rw [show (List.replicate ([.int 4, .int 1000000, .int ((2 + far % 998) * (2 + far % 998))] : List V).length true).all id = true by simp]
        exact iteF ⟨_, rfl, s8.trans s9⟩
    rintro σ H6 ⟨bzH6, rfl, s8⟩
    have sx := sx.trans s8
    have w0 := s8 _ _ w0
    have w1 := s8 _ _ w1
    have w2 := s8 _ _ w2
    have w3 := s8 _ _ w3
    have hdu := s8 _ _ hdu
    refine ⟨_, rfl, a, ns, rfl, (s1.trans sx).seq hs, hl, hz, fun ms z hms z2 z91 hml H7 q s7 hq h7 => ?_⟩
    have hall : ∀ x ∈ ms ++ [z], InR x := fun x hx => by
      rcases List.mem_append.mp hx with hx | hx
      · exact hms x hx
      · rw [List.mem_singleton.mp hx]
        exact ⟨z2, by omega⟩
    have sx := sx.trans s7
    have w0 := s7 _ _ w0
    have w1 := s7 _ _ w1
    have w2 := s7 _ _ w2
    have w3 := s7 _ _ w3
    have hdu := s7 _ _ hdu
    refine ⟨q, rfl, ⟨_, SqL.of h7⟩, for_list (K := K) (a := q) (xs := vi (ms ++ [z])) (fun i σ H' => ∃ bn bc, σ = [some (.ref a), some (.int far), some (.ref u), b0, some (.ref lb), bzH6, some (.ref ls), bn, bc, none] ∧ Same H7 H') ⟨_, _, rfl, Same.refl _⟩ (fun i σ H' _ h => ?_) ?_ ?_⟩
    · obtain ⟨_, _, _, s⟩ := h
      exact SqL.of (s _ _ h7)
    · rintro i x σ H9 hx ⟨bn, bc, rfl, s9⟩
      obtain ⟨N, hN, rfl, _⟩ := v_get hx
      obtain ⟨n1, n2⟩ := hall N hN
      have w0 := s9 _ _ w0
      have w1 := s9 _ _ w1
      have w2 := s9 _ _ w2
      have w3 := s9 _ _ w3
      have hdu := s9 _ _ hdu
      refine ⟨_, rfl, N, rfl, by omega, (inr_sz n1 n2).mono (by decide), _, rfl, ?_⟩
      by_cases c : IsSq N
      · rw [decide_eq_true c]
        refine iteF ?_
        refine ⟨_, rfl, (by show 2 ≤ sizeLine; decide), fun p1 hp1 => ⟨(by show 2 ≤ sizeLine; decide), fun p2 hp2 => ?_⟩⟩
        have t1 := same_upd hp1 (o := .tup [.int 1, .int 1])
        have t2 := same_upd hp2 (o := .tup [.int 1, .ref p1])
        have e1 : (upd (upd H9 p1 (.tup [.int 1, .int 1])) p2 (.tup [.int 1, .ref p1])) p1 = some (.tup [.int 1, .int 1]) := t2 _ _ upd_same
        have z1 : Sz 1 30000000 := (show Sz 1 1 from ⟨by decide⟩).mono (by decide)
        refine ⟨_, _, rfl, fun Q' E' o => ⟨N, 1, p2, .ref p1, rfl, upd_same, n1, n2, fun z => absurd z (by decide), (b_ints (K := K) e1 (.inr (.inr ⟨z1, z1, by omega⟩))).a, o⟩, fun H11 m s11 hm h11 => ?_⟩
        have s12 := (t1.trans t2).trans s11
        refine ⟨_, rfl, u, _, _, _, rfl, rfl, SqL.of (s12 _ _ hdu), rfl, ?_⟩
        refine ⟨.list ([false, false, true, false, true].map PyData.bool), .list ([false, false, true, false, true].map PyData.bool), .lst (SqL.of h11) (dpa_bl [false, false, true, false, true]), .lst (SqL.of (s12 _ _ w2)) (dpa_bl [false, false, true, false, true]), by rfl, by rfl, _, rfl, iteF ?_⟩
        exact ⟨_, _, rfl, s9.trans s12⟩
      · rw [decide_eq_false c]
        have ok : Ok N := ⟨n1, n2, c⟩
        refine iteT ?_
        have sx := s9
        refine ⟨(by show 1 ≤ sizeLine; decide), fun cl hcl => ?_⟩
        have ecl : (upd H9 cl (.lst [.int 0])) cl = some (.lst [.int 0]) := upd_same
        have q1 : Same H9 (upd H9 cl (.lst [.int 0])) := same_upd hcl
        have w0 := q1 _ _ w0
        have w1 := q1 _ _ w1
        have w2 := q1 _ _ w2
        have w3 := q1 _ _ w3
        have hdu := q1 _ _ hdu
        have sx := sx.trans q1
        refine ⟨(by show 1 ≤ sizeLine; decide), fun ct hct => ?_⟩
        have ect : (upd (upd H9 cl (.lst [.int 0])) ct (.tup [.int 0])) ct = some (.tup [.int 0]) := upd_same
        have q2 : Same (upd H9 cl (.lst [.int 0])) (upd (upd H9 cl (.lst [.int 0])) ct (.tup [.int 0])) := same_upd hct
        have w0 := q2 _ _ w0
        have w1 := q2 _ _ w1
        have w2 := q2 _ _ w2
        have w3 := q2 _ _ w3
        have hdu := q2 _ _ hdu
        have ecl := q2 _ _ ecl
        have sx := sx.trans q2
        refine ⟨_, rfl, _, rfl, _, rfl, _, _, rfl, rfl, _, rfl, _, _, rfl, rfl, (by show 9 ≤ sizeLine; decide), fun cx hcx => ?_⟩
        have ecx : (upd (upd (upd H9 cl (.lst [.int 0])) ct (.tup [.int 0])) cx (.tup [.non, .str "0", .bl true, .ref cl, .ref ct, .int (-1), .int (-1 - far), .int 101, .int (101 + far)])) cx = some (.tup [.non, .str "0", .bl true, .ref cl, .ref ct, .int (-1), .int (-1 - far), .int 101, .int (101 + far)]) := upd_same
        have q3 : Same (upd (upd H9 cl (.lst [.int 0])) ct (.tup [.int 0])) (upd (upd (upd H9 cl (.lst [.int 0])) ct (.tup [.int 0])) cx (.tup [.non, .str "0", .bl true, .ref cl, .ref ct, .int (-1), .int (-1 - far), .int 101, .int (101 + far)])) := same_upd hcx
        have w0 := q3 _ _ w0
        have w1 := q3 _ _ w1
        have w2 := q3 _ _ w2
        have w3 := q3 _ _ w3
        have hdu := q3 _ _ hdu
        have ecl := q3 _ _ ecl
        have ect := q3 _ _ ect
        have sx := sx.trans q3
        have hcc : ∀ x ∈ ([.non, .str "0", .bl true, .ref cl, .ref ct, .int (-1), .int (-1 - far), .int 101, .int (101 + far)] : List V), BadC (upd (upd (upd H9 cl (.lst [.int 0])) ct (.tup [.int 0])) cx (.tup [.non, .str "0", .bl true, .ref cl, .ref ct, .int (-1), .int (-1 - far), .int 101, .int (101 + far)])) x := by
          intro x hx
          simp only [List.mem_cons, List.not_mem_nil, or_false] at hx
          rcases hx with rfl | rfl | rfl | rfl | rfl | rfl | rfl | rfl | rfl
          · exact .inl .non
          · exact .inl (.str _)
          · exact .inl (.bl _)
          · exact .inl (.lst ecl)
          · exact .inl (.tup ect)
          · exact .inr ⟨_, rfl, by omega⟩
          · exact .inr ⟨_, rfl, by omega⟩
          · exact .inr ⟨_, rfl, by omega⟩
          · exact .inr ⟨_, rfl, by omega⟩
        refine ⟨cx, rfl, ⟨_, SqT.of ecx⟩, for_tup (K := K) (a := cx) (xs := [.non, .str "0", .bl true, .ref cl, .ref ct, .int (-1), .int (-1 - far), .int 101, .int (101 + far)]) (fun j σ H' => ∃ b, σ = [some (.ref a), some (.int far), some (.ref u), b0, some (.ref lb), bzH6, some (.ref ls), some (.int N), b, none] ∧ Same (upd (upd (upd H9 cl (.lst [.int 0])) ct (.tup [.int 0])) cx (.tup [.non, .str "0", .bl true, .ref cl, .ref ct, .int (-1), .int (-1 - far), .int 101, .int (101 + far)])) H') ⟨_, rfl, Same.refl _⟩ (fun j σ H' _ h => ?_) ?_ ?_⟩
        · obtain ⟨_, _, s⟩ := h
          exact SqT.of (s _ _ ecx)
        · rintro j x σ H' hx ⟨b, rfl, s8⟩
          have hb := hcc x (List.mem_of_getElem? hx)
          refine ⟨_, rfl, _, rfl, _, _, rfl, fun Q' E' o => ⟨N, x, rfl, ok, hb.same s8, o⟩, fun H11 m s11 hm h11 => ?_⟩
          have s12 := s8.trans s11
          refine ⟨_, rfl, u, _, _, _, rfl, rfl, SqL.of (s12 _ _ hdu), rfl, ?_⟩
          refine ⟨.list ([false, false, false, true, true].map PyData.bool), .list ([false, false, false, true, true].map PyData.bool), .lst (SqL.of h11) (dpa_bl [false, false, false, true, true]), .lst (SqL.of (s12 _ _ w3)) (dpa_bl [false, false, false, true, true]), by rfl, by rfl, _, rfl, iteF ?_⟩
          exact ⟨_, rfl, s12⟩
        · rintro σ H10 ⟨b, rfl, s10⟩
          refine ⟨_, rfl, _, rfl, u, _, _, _, rfl, rfl, SqL.of (s10 _ _ hdu), rfl, _, rfl, N, far, _, rfl, ok, far0, farM, SqL.of (s10 _ _ w2), fun H11 s11 => ⟨_, rfl, iteF ?_⟩⟩
          exact ⟨_, _, rfl, (sx.trans s10).trans s11⟩
    · rintro σ H8 ⟨bn, bc, rfl, s8⟩
      refine ⟨2, rfl, by decide, by decide, fun z => absurd z h_2.1, fun _ H9 p dx s9 hp0 hp => ?_⟩
      rw [h_2.2] at hp
      refine ⟨p, cL, dx, _, _, rfl, hp, U.kL.cl, U.nL_one, fl2_one _ _, rfl, _, rfl, iteT ?_⟩
      refine ⟨1000000, rfl, by decide, by decide, fun _ H10 p2 dx2 s10 hp20 hp2 => ?_, fun z => absurd h_m.1 z, fun z => absurd h_m.1 z⟩
      rw [h_m.2] at hp2
      refine ⟨p2, cS, dx2, _, _, rfl, hp2, U.kS.cl, U.nS_root, fl1_root _, rfl, _, rfl, iteT ?_⟩
      refine ⟨999999, 0, rfl, ok9, by decide, (Cap.all ok9).mono (by decide), fun H11 t s11 ht hT => ?_⟩
      refine ⟨(by show 2 ≤ sizeLine; decide), fun t2 ht2 => ?_⟩
      refine ⟨dpr (1, 0), dpr (1, 0), Dp.pr (same_upd ht2 _ _ hT), Dp.pr upd_same, dpr_sh _, dpr_sh _, ?_⟩
      rw [dpr_eqv, decide_eq_true rfl]
      exact k _
end
end OA

namespace OA
open PySem L2 PyProof.Rows
section
variable {K : PySem.W.Frag} {h : Heap} {mg : Str → Option Value}
theorem df_mk (X : K.In h) (G : h.Ns mainGlobals mg) {x : Str} {st : Stmt} {f : Addr} {oc : Value} {od an : Option Addr} {osl : Array (Option Value)} {kV doc pm cdv ct : Value} (a : PySem.W.nsIn K mainGlobals x = some (some (.ref f)))
    (l : K.lookup f = some ⟨oc, od, .func (PySem.W.fnOf x x (defArgs st) (defBody st) (defScope st) .none kV doc pm an cdv ct), osl⟩) (c : PySem.W.codeIn K cdv x = true) (k : PySem.W.keepIn K (.ref f) = true) : Df K mg x st := ⟨f, _, fun_mk l c k, PySem.W.mg_of X G a⟩
theorem dm_mk {C : Addr} {m qual : Str} {st : Stmt} {f : Addr} {oc : Value} {od an : Option Addr} {osl : Array (Option Value)} {kV doc pm cdv ct : Value} (a : PySem.W.findIn K (.ref C) m = some (some (.ref f))) (i : PySem.W.isFn K (.ref f) = true)
    (l : K.lookup f = some ⟨oc, od, .func (PySem.W.fnOf m qual (defArgs st) (defBody st) (defScope st) .none kV doc pm an cdv ct), osl⟩) (c : PySem.W.codeIn K cdv qual = true) (k : PySem.W.keepIn K (.ref f) = true) : Dm K C m qual st := ⟨f, _, fun_mk l c k, a, i⟩
theorem ck_mk (X : K.In h) (G : h.Ns mainGlobals mg) {x : Str} {C : Addr} (a : PySem.W.nsIn K mainGlobals x = some (some (.ref C))) (pg : PySem.W.plainGet K C Str.empty = true) (hd : PySem.W.hasDictIn K C = true) (po : PySem.W.plainOver K C = true)
    (sa : PySem.W.findIn K (.ref C) "__setattr__" = some (some (.builtin "object.__setattr__"))) (cc : PySem.W.findIn K (.ref C) "__class__" = some (some (.builtin "object.__class__")))
    (sp : PySem.W.specialIn K (.builtin "object.__class__") "__get__" = some (some (.builtin "getset_descriptor.__get__"))) (tk : PySem.W.takesIn K (.builtin "object.__class__") = some true) (mr : PySem.W.mroIn K C (.type "object") = some true)
    (mk : PySem.W.makesIn K C = true) (kp : PySem.W.keepIn K (.ref C) = true) : Ck K mg x C := ⟨PySem.W.mg_of X G a, ⟨pg, hd, po, sa⟩, cc, sp, tk, mr, mk, kp⟩
theorem c_mk (X : K.In h) (G : h.Ns mainGlobals mg) {x : Str} {v : Value} {n : Int} (a : PySem.W.nsIn K mainGlobals x = some (some v)) (e : ∃ t, v = .int n t) : ∃ t, mg x = some (.int n t) := by
  obtain ⟨t, rfl⟩ := e
  exact ⟨t, PySem.W.mg_of X G a⟩
end
theorem all_mk {l : PySem.W.OpenLaw} {w : World} {K : PySem.W.Frag} {mg : Str → Option Value} {fa : Addr} {cA cS cL cO cB : Addr} {eP eN eI eW eC : Addr} (hfa : mg "law" = some (.ref fa)) (T : Tx K mg) (U : Tc K mg cA cS cL cO cB) (Z : Te K mg eP eN eI eW eC) :
    ∃ fd : FuncData, (∀ (s : Shared) (v : Value), BindsTo s fd ⟨[v], []⟩ [("_law_script", v)]) ∧ ∀ base : Heap, K.In base → base.Ns mainGlobals mg → FnOk l.prog w K mg base CX0 9 fa fd ["_law_script"] (spLaw K) := by
  obtain ⟨f, fd, F, g⟩ := T.d_law
  have e := hfa.symm.trans g
  cases e
  refine ⟨fd, ?_, fun base _ _ => ok_law F T U Z⟩
  obtain ⟨oc, od, kV, doc, pm, an, cdv, ct, osl, rfl, lk, hcd⟩ := F.ex
  exact fun s v => .of_eq rfl
theorem walk {l : PySem.W.OpenLaw} {q : Program} {loose : List Str} {XP : (Str → Option Value) → Heap → Prop} {YP : World → Heap → Prop} {d : DefRec} {K : Params → PySem.W.Frag} (hn : l.most = some 63) (hdf : d.params.defaults = [])
    (hY : ∀ (w : World) (h : Heap), YP w h → (K w.params).In h)
    (F : ∀ (w : World) (mg : Str → Option Value) (fa : Addr) (h : Heap), (K w.params).In h → h.Ns mainGlobals mg → mg d.name = some (.ref fa) →
      ∃ fd : FuncData, (∀ (s : Shared) (u : Value), BindsTo s fd ⟨[u], []⟩ [("_law_script", u)]) ∧ ∀ base : Heap, (K w.params).In base → base.Ns mainGlobals mg → FnOk l.prog w (K w.params) mg base CX0 9 fa fd ["_law_script"] (spLaw (K w.params))) :
    PySem.W.WalkO q loose XP YP l.row.toRowW d [] (fun f vs => PySem.call f vs) :=
  L2.walk_ofB (n := 63) (k := 9) (x := "_law_script") (CX := fun _ => CX0) (sp := fun w => spLaw (K w.params)) hn (by decide) hdf ⟨rfl, by decide, by decide⟩ hY F
    (fun _ _ a ns hl hb _ hS => ⟨a, ns, rfl, hS, hl, fun z hz => (Sz.of_bits (hb z hz)).mono (by decide), fun _ => rfl⟩) fun _ _ _ _ _ z => z
end OA
open PySem PySem.W PyProof.Rows
set_option maxRecDepth 100000 in
set_option maxHeartbeats 0 in
theorem PySem.Challenge.cw_oneapart_k05_refused_holds : PySem.Challenge.rw_oneapart_k05_refused.Holds := by
  w_on; o_law; k_head; (case hw => w_witness2)
  k_fill
  refine OA.walk (l := PySem.Challenge.rw_oneapart_k05_refused) rfl rfl (fun w h Y => PySem.W.kIn_of Y) ?F
  case F =>
    intro w mg fa h KX G hmg
    refine' OA.all_mk hmg ?T ?U ?Z
    case T =>
      refine' { isq := ?t_isq, b_isinstance := ?t_b_isinstance, b_int := ?t_b_int, b_bool := ?t_b_bool, b_range := ?t_b_range, b_len := ?t_b_len, b_min := ?t_b_min, b_all := ?t_b_all, b_tuple := ?t_b_tuple, b_reversed := ?t_b_reversed, b_ValueError := ?t_b_ValueError, c_LEAST_NUMBER := ?t_c_LEAST_NUMBER, c_GREATEST_NUMBER := ?t_c_GREATEST_NUMBER, c_GREATEST_COUNT := ?t_c_GREATEST_COUNT, d__wall := ?t_d__wall, d_is_whole := ?t_d_is_whole, d_is_square := ?t_d_is_square, d_refuse_no_number := ?t_d_refuse_no_number, d_refuse_square := ?t_d_refuse_square, d_round_of := ?t_d_round_of, d_nearest_pair := ?t_d_nearest_pair, d_is_one_less := ?t_d_is_one_less, d_least_one_less := ?t_d_least_one_less, d_least_answer := ?t_d_least_answer, d_put_together := ?t_d_put_together, d_answer_by := ?t_d_answer_by, d_count_of := ?t_d_count_of, d_together := ?t_d_together, d__doubled_steps := ?t_d__doubled_steps, d__refuse_no_count := ?t_d__refuse_no_count, d__refuse_no_answer := ?t_d__refuse_no_answer, d__is_answer := ?t_d__is_answer, d__is_from_0 := ?t_d__is_from_0, d_told := ?t_d_told, d_less := ?t_d_less, d_chain := ?t_d_chain, d__law_cell_at := ?t_d__law_cell_at, d__law_draw := ?t_d__law_draw, d__law_value := ?t_d__law_value, d__law_root := ?t_d__law_root, d__law_is_square := ?t_d__law_is_square, d__law_numbers := ?t_d__law_numbers, d__law_parts := ?t_d__law_parts, d__law_put := ?t_d__law_put, d__law_first := ?t_d__law_first, d__law_least := ?t_d__law_least, d__law_kinds := ?t_d__law_kinds, d__law_with_number := ?t_d__law_with_number, d__law_with_square := ?t_d__law_with_square, d__law_with_count := ?t_d__law_with_count, d__law_with_answer := ?t_d__law_with_answer, d__law_told := ?t_d__law_told, d__law_answers_right := ?t_d__law_answers_right, d_law := ?t_d_law }
      (case t_isq => exact PySem.W.mg_of KX G (by k_is))
      (case t_b_isinstance => exact PySem.W.mg_none_of KX G (by k_is))
      (case t_b_int => exact PySem.W.mg_none_of KX G (by k_is))
      (case t_b_bool => exact PySem.W.mg_none_of KX G (by k_is))
      (case t_b_range => exact PySem.W.mg_none_of KX G (by k_is))
      (case t_b_len => exact PySem.W.mg_none_of KX G (by k_is))
      (case t_b_min => exact PySem.W.mg_none_of KX G (by k_is))
      (case t_b_all => exact PySem.W.mg_none_of KX G (by k_is))
      (case t_b_tuple => exact PySem.W.mg_none_of KX G (by k_is))
      (case t_b_reversed => exact PySem.W.mg_none_of KX G (by k_is))
      (case t_b_ValueError => exact PySem.W.mg_none_of KX G (by k_is))
      (case t_c_LEAST_NUMBER => (refine' OA.c_mk KX G ?zq1 ?zq2); (case zq1 => k_is); (case zq2 => exact ⟨_, rfl⟩))
      (case t_c_GREATEST_NUMBER => (refine' OA.c_mk KX G ?zq1 ?zq2); (case zq1 => k_is); (case zq2 => exact ⟨_, rfl⟩))
      (case t_c_GREATEST_COUNT => (refine' OA.c_mk KX G ?zq1 ?zq2); (case zq1 => k_is); (case zq2 => exact ⟨_, rfl⟩))
      (case t_d__wall => (refine' OA.df_mk KX G ?a ?l ?c ?k); (case a => k_is); (case l => k_is); (case c => k_is); (case k => k_is))
      (case t_d_is_whole => (refine' OA.df_mk KX G ?a ?l ?c ?k); (case a => k_is); (case l => k_is); (case c => k_is); (case k => k_is))
      (case t_d_is_square => (refine' OA.df_mk KX G ?a ?l ?c ?k); (case a => k_is); (case l => k_is); (case c => k_is); (case k => k_is))
      (case t_d_refuse_no_number => (refine' OA.df_mk KX G ?a ?l ?c ?k); (case a => k_is); (case l => k_is); (case c => k_is); (case k => k_is))
      (case t_d_refuse_square => (refine' OA.df_mk KX G ?a ?l ?c ?k); (case a => k_is); (case l => k_is); (case c => k_is); (case k => k_is))
      (case t_d_round_of => (refine' OA.df_mk KX G ?a ?l ?c ?k); (case a => k_is); (case l => k_is); (case c => k_is); (case k => k_is))
      (case t_d_nearest_pair => (refine' OA.df_mk KX G ?a ?l ?c ?k); (case a => k_is); (case l => k_is); (case c => k_is); (case k => k_is))
      (case t_d_is_one_less => (refine' OA.df_mk KX G ?a ?l ?c ?k); (case a => k_is); (case l => k_is); (case c => k_is); (case k => k_is))
      (case t_d_least_one_less => (refine' OA.df_mk KX G ?a ?l ?c ?k); (case a => k_is); (case l => k_is); (case c => k_is); (case k => k_is))
      (case t_d_least_answer => (refine' OA.df_mk KX G ?a ?l ?c ?k); (case a => k_is); (case l => k_is); (case c => k_is); (case k => k_is))
      (case t_d_put_together => (refine' OA.df_mk KX G ?a ?l ?c ?k); (case a => k_is); (case l => k_is); (case c => k_is); (case k => k_is))
      (case t_d_answer_by => (refine' OA.df_mk KX G ?a ?l ?c ?k); (case a => k_is); (case l => k_is); (case c => k_is); (case k => k_is))
      (case t_d_count_of => (refine' OA.df_mk KX G ?a ?l ?c ?k); (case a => k_is); (case l => k_is); (case c => k_is); (case k => k_is))
      (case t_d_together => (refine' OA.df_mk KX G ?a ?l ?c ?k); (case a => k_is); (case l => k_is); (case c => k_is); (case k => k_is))
      (case t_d__doubled_steps => (refine' OA.df_mk KX G ?a ?l ?c ?k); (case a => k_is); (case l => k_is); (case c => k_is); (case k => k_is))
      (case t_d__refuse_no_count => (refine' OA.df_mk KX G ?a ?l ?c ?k); (case a => k_is); (case l => k_is); (case c => k_is); (case k => k_is))
      (case t_d__refuse_no_answer => (refine' OA.df_mk KX G ?a ?l ?c ?k); (case a => k_is); (case l => k_is); (case c => k_is); (case k => k_is))
      (case t_d__is_answer => (refine' OA.df_mk KX G ?a ?l ?c ?k); (case a => k_is); (case l => k_is); (case c => k_is); (case k => k_is))
      (case t_d__is_from_0 => (refine' OA.df_mk KX G ?a ?l ?c ?k); (case a => k_is); (case l => k_is); (case c => k_is); (case k => k_is))
      (case t_d_told => (refine' OA.df_mk KX G ?a ?l ?c ?k); (case a => k_is); (case l => k_is); (case c => k_is); (case k => k_is))
      (case t_d_less => (refine' OA.df_mk KX G ?a ?l ?c ?k); (case a => k_is); (case l => k_is); (case c => k_is); (case k => k_is))
      (case t_d_chain => (refine' OA.df_mk KX G ?a ?l ?c ?k); (case a => k_is); (case l => k_is); (case c => k_is); (case k => k_is))
      (case t_d__law_cell_at => (refine' OA.df_mk KX G ?a ?l ?c ?k); (case a => k_is); (case l => k_is); (case c => k_is); (case k => k_is))
      (case t_d__law_draw => (refine' OA.df_mk KX G ?a ?l ?c ?k); (case a => k_is); (case l => k_is); (case c => k_is); (case k => k_is))
      (case t_d__law_value => (refine' OA.df_mk KX G ?a ?l ?c ?k); (case a => k_is); (case l => k_is); (case c => k_is); (case k => k_is))
      (case t_d__law_root => (refine' OA.df_mk KX G ?a ?l ?c ?k); (case a => k_is); (case l => k_is); (case c => k_is); (case k => k_is))
      (case t_d__law_is_square => (refine' OA.df_mk KX G ?a ?l ?c ?k); (case a => k_is); (case l => k_is); (case c => k_is); (case k => k_is))
      (case t_d__law_numbers => (refine' OA.df_mk KX G ?a ?l ?c ?k); (case a => k_is); (case l => k_is); (case c => k_is); (case k => k_is))
      (case t_d__law_parts => (refine' OA.df_mk KX G ?a ?l ?c ?k); (case a => k_is); (case l => k_is); (case c => k_is); (case k => k_is))
      (case t_d__law_put => (refine' OA.df_mk KX G ?a ?l ?c ?k); (case a => k_is); (case l => k_is); (case c => k_is); (case k => k_is))
      (case t_d__law_first => (refine' OA.df_mk KX G ?a ?l ?c ?k); (case a => k_is); (case l => k_is); (case c => k_is); (case k => k_is))
      (case t_d__law_least => (refine' OA.df_mk KX G ?a ?l ?c ?k); (case a => k_is); (case l => k_is); (case c => k_is); (case k => k_is))
      (case t_d__law_kinds => (refine' OA.df_mk KX G ?a ?l ?c ?k); (case a => k_is); (case l => k_is); (case c => k_is); (case k => k_is))
      (case t_d__law_with_number => (refine' OA.df_mk KX G ?a ?l ?c ?k); (case a => k_is); (case l => k_is); (case c => k_is); (case k => k_is))
      (case t_d__law_with_square => (refine' OA.df_mk KX G ?a ?l ?c ?k); (case a => k_is); (case l => k_is); (case c => k_is); (case k => k_is))
      (case t_d__law_with_count => (refine' OA.df_mk KX G ?a ?l ?c ?k); (case a => k_is); (case l => k_is); (case c => k_is); (case k => k_is))
      (case t_d__law_with_answer => (refine' OA.df_mk KX G ?a ?l ?c ?k); (case a => k_is); (case l => k_is); (case c => k_is); (case k => k_is))
      (case t_d__law_told => (refine' OA.df_mk KX G ?a ?l ?c ?k); (case a => k_is); (case l => k_is); (case c => k_is); (case k => k_is))
      (case t_d__law_answers_right => (refine' OA.df_mk KX G ?a ?l ?c ?k); (case a => k_is); (case l => k_is); (case c => k_is); (case k => k_is))
      (case t_d_law => (refine' OA.df_mk KX G ?a ?l ?c ?k); (case a => k_is); (case l => k_is); (case c => k_is); (case k => k_is))
    case U =>
      refine' { kA := ?u_kA, kS := ?u_kS, kL := ?u_kL, kO := ?u_kO, kB := ?u_kB, nS_root := ?u_nS_root, mS_init := ?u_mS_init, mS_shows := ?u_mS_shows, iSA := ?u_iSA, iSS := ?u_iSS, iSL := ?u_iSL, iSO := ?u_iSO, iSB := ?u_iSB, nL_one := ?u_nL_one, nL_other := ?u_nL_other, mL_init := ?u_mL_init, mL_shows := ?u_mL_shows, iLA := ?u_iLA, iLS := ?u_iLS, iLL := ?u_iLL, iLO := ?u_iLO, iLB := ?u_iLB, nO_one := ?u_nO_one, nO_other := ?u_nO_other, mO_init := ?u_mO_init, mO_shows := ?u_mO_shows, iOA := ?u_iOA, iOS := ?u_iOS, iOL := ?u_iOL, iOO := ?u_iOO, iOB := ?u_iOB, nB_one := ?u_nB_one, nB_other := ?u_nB_other, mB_init := ?u_mB_init, mB_shows := ?u_mB_shows, iBA := ?u_iBA, iBS := ?u_iBS, iBL := ?u_iBL, iBO := ?u_iBO, iBB := ?u_iBB }
      (case u_kA => (refine' OA.ck_mk KX G ?a ?pg ?hd ?po ?sa ?cc ?sp ?tk ?mr ?mk ?kp); (case a => k_is); (case pg => k_is); (case hd => k_is); (case po => k_is); (case sa => k_is); (case cc => k_is); (case sp => k_is); (case tk => k_is); (case mr => k_is); (case mk => k_is); (case kp => k_is))
      (case u_kS => (refine' OA.ck_mk KX G ?a ?pg ?hd ?po ?sa ?cc ?sp ?tk ?mr ?mk ?kp); (case a => k_is); (case pg => k_is); (case hd => k_is); (case po => k_is); (case sa => k_is); (case cc => k_is); (case sp => k_is); (case tk => k_is); (case mr => k_is); (case mk => k_is); (case kp => k_is))
      (case u_kL => (refine' OA.ck_mk KX G ?a ?pg ?hd ?po ?sa ?cc ?sp ?tk ?mr ?mk ?kp); (case a => k_is); (case pg => k_is); (case hd => k_is); (case po => k_is); (case sa => k_is); (case cc => k_is); (case sp => k_is); (case tk => k_is); (case mr => k_is); (case mk => k_is); (case kp => k_is))
      (case u_kO => (refine' OA.ck_mk KX G ?a ?pg ?hd ?po ?sa ?cc ?sp ?tk ?mr ?mk ?kp); (case a => k_is); (case pg => k_is); (case hd => k_is); (case po => k_is); (case sa => k_is); (case cc => k_is); (case sp => k_is); (case tk => k_is); (case mr => k_is); (case mk => k_is); (case kp => k_is))
      (case u_kB => (refine' OA.ck_mk KX G ?a ?pg ?hd ?po ?sa ?cc ?sp ?tk ?mr ?mk ?kp); (case a => k_is); (case pg => k_is); (case hd => k_is); (case po => k_is); (case sa => k_is); (case cc => k_is); (case sp => k_is); (case tk => k_is); (case mr => k_is); (case mk => k_is); (case kp => k_is))
      (case u_nS_root => unfold L2.NoAttr; k_is)
      (case u_mS_init => (refine' OA.dm_mk ?a ?i ?l ?c ?k); (case a => k_is); (case i => k_is); (case l => k_is); (case c => k_is); (case k => k_is))
      (case u_mS_shows => (refine' OA.dm_mk ?a ?i ?l ?c ?k); (case a => k_is); (case i => k_is); (case l => k_is); (case c => k_is); (case k => k_is))
      (case u_iSA => first | rfl | k_is)
      (case u_iSS => first | rfl | k_is)
      (case u_iSL => first | rfl | k_is)
      (case u_iSO => first | rfl | k_is)
      (case u_iSB => first | rfl | k_is)
      (case u_nL_one => unfold L2.NoAttr; k_is)
      (case u_nL_other => unfold L2.NoAttr; k_is)
      (case u_mL_init => (refine' OA.dm_mk ?a ?i ?l ?c ?k); (case a => k_is); (case i => k_is); (case l => k_is); (case c => k_is); (case k => k_is))
      (case u_mL_shows => (refine' OA.dm_mk ?a ?i ?l ?c ?k); (case a => k_is); (case i => k_is); (case l => k_is); (case c => k_is); (case k => k_is))
      (case u_iLA => first | rfl | k_is)
      (case u_iLS => first | rfl | k_is)
      (case u_iLL => first | rfl | k_is)
      (case u_iLO => first | rfl | k_is)
      (case u_iLB => first | rfl | k_is)
      (case u_nO_one => unfold L2.NoAttr; k_is)
      (case u_nO_other => unfold L2.NoAttr; k_is)
      (case u_mO_init => (refine' OA.dm_mk ?a ?i ?l ?c ?k); (case a => k_is); (case i => k_is); (case l => k_is); (case c => k_is); (case k => k_is))
      (case u_mO_shows => (refine' OA.dm_mk ?a ?i ?l ?c ?k); (case a => k_is); (case i => k_is); (case l => k_is); (case c => k_is); (case k => k_is))
      (case u_iOA => first | rfl | k_is)
      (case u_iOS => first | rfl | k_is)
      (case u_iOL => first | rfl | k_is)
      (case u_iOO => first | rfl | k_is)
      (case u_iOB => first | rfl | k_is)
      (case u_nB_one => unfold L2.NoAttr; k_is)
      (case u_nB_other => unfold L2.NoAttr; k_is)
      (case u_mB_init => (refine' OA.dm_mk ?a ?i ?l ?c ?k); (case a => k_is); (case i => k_is); (case l => k_is); (case c => k_is); (case k => k_is))
      (case u_mB_shows => (refine' OA.dm_mk ?a ?i ?l ?c ?k); (case a => k_is); (case i => k_is); (case l => k_is); (case c => k_is); (case k => k_is))
      (case u_iBA => first | rfl | k_is)
      (case u_iBS => first | rfl | k_is)
      (case u_iBL => first | rfl | k_is)
      (case u_iBO => first | rfl | k_is)
      (case u_iBB => first | rfl | k_is)
    case Z =>
      refine' { gP := ?z_gP, gN := ?z_gN, gI := ?z_gI, gW := ?z_gW, gC := ?z_gC, xN := ?z_xN, pN := ?z_pN, bN := ?z_bN, tN := ?z_tN, aN := ?z_aN, cN := ?z_cN, jNN := ?z_jNN, jNI := ?z_jNI, jNW := ?z_jNW, jNC := ?z_jNC, vN := ?z_vN, xI := ?z_xI, pI := ?z_pI, bI := ?z_bI, tI := ?z_tI, aI := ?z_aI, cI := ?z_cI, jIN := ?z_jIN, jII := ?z_jII, jIW := ?z_jIW, jIC := ?z_jIC, vI := ?z_vI, xW := ?z_xW, pW := ?z_pW, bW := ?z_bW, tW := ?z_tW, aW := ?z_aW, cW := ?z_cW, jWN := ?z_jWN, jWI := ?z_jWI, jWW := ?z_jWW, jWC := ?z_jWC, vW := ?z_vW, xC := ?z_xC, pC := ?z_pC, bC := ?z_bC, tC := ?z_tC, aC := ?z_aC, cC := ?z_cC, jCN := ?z_jCN, jCI := ?z_jCI, jCW := ?z_jCW, jCC := ?z_jCC, vC := ?z_vC }
      (case z_gP => exact PySem.W.mg_of KX G (by k_is))
      (case z_gN => exact PySem.W.mg_of KX G (by k_is))
      (case z_gI => exact PySem.W.mg_of KX G (by k_is))
      (case z_gW => exact PySem.W.mg_of KX G (by k_is))
      (case z_gC => exact PySem.W.mg_of KX G (by k_is))
      (case z_xN => k_exc)
      (case z_pN => k_is)
      (case z_bN => k_is)
      (case z_tN => k_is)
      (case z_aN => first | k_is | rfl)
      (case z_cN => (refine' ⟨?_, ?_, ?_, ?_, ?_, ?_, ?_, ?_⟩ <;> k_is))
      (case z_jNN => first | rfl | k_is)
      (case z_jNI => first | rfl | k_is)
      (case z_jNW => first | rfl | k_is)
      (case z_jNC => first | rfl | k_is)
      (case z_vN => first | rfl | k_is)
      (case z_xI => k_exc)
      (case z_pI => k_is)
      (case z_bI => k_is)
      (case z_tI => k_is)
      (case z_aI => first | k_is | rfl)
      (case z_cI => (refine' ⟨?_, ?_, ?_, ?_, ?_, ?_, ?_, ?_⟩ <;> k_is))
      (case z_jIN => first | rfl | k_is)
      (case z_jII => first | rfl | k_is)
      (case z_jIW => first | rfl | k_is)
      (case z_jIC => first | rfl | k_is)
      (case z_vI => first | rfl | k_is)
      (case z_xW => k_exc)
      (case z_pW => k_is)
      (case z_bW => k_is)
      (case z_tW => k_is)
      (case z_aW => first | k_is | rfl)
      (case z_cW => (refine' ⟨?_, ?_, ?_, ?_, ?_, ?_, ?_, ?_⟩ <;> k_is))
      (case z_jWN => first | rfl | k_is)
      (case z_jWI => first | rfl | k_is)
      (case z_jWW => first | rfl | k_is)
      (case z_jWC => first | rfl | k_is)
      (case z_vW => first | rfl | k_is)
      (case z_xC => k_exc)
      (case z_pC => k_is)
      (case z_bC => k_is)
      (case z_tC => k_is)
      (case z_aC => first | k_is | rfl)
      (case z_cC => (refine' ⟨?_, ?_, ?_, ?_, ?_, ?_, ?_, ?_⟩ <;> k_is))
      (case z_jCN => first | rfl | k_is)
      (case z_jCI => first | rfl | k_is)
      (case z_jCW => first | rfl | k_is)
      (case z_jCC => first | rfl | k_is)
      (case z_vC => first | rfl | k_is)

