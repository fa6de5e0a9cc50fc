import PyProof.Rows.All
import Wide.All
import OpenK.AllK
import Wide.FinOn
import Open.SpecLaws
import KE.OsGo
import HandS.ForSpec
import HandS.Comp
import HandS.Iter
import HandS.Walk
import HandS.Wide
import HandS.Evl
import PySem.Challenge.RW_shapedrewards_s01_answers
set_option Elab.async false
set_option linter.all false
set_option maxRecDepth 100000
/- Sums over a range, a linear system solved by elimination, and the values of a decision process, over Rat. Core Lean alone. -/
namespace SR

/-- the sum of f over 0 .. n-1 -/
def rs (n : Nat) (f : Nat → Rat) : Rat := ((List.range n).map f).sum

theorem rs_zero (f : Nat → Rat) : rs 0 f = 0 := by simp [rs]
theorem rs_succ (n : Nat) (f : Nat → Rat) : rs (n + 1) f = rs n f + f n := by
  simp [rs, List.range_succ, List.sum_append, Rat.add_zero]
theorem rs_congr {n : Nat} {f g : Nat → Rat} (h : ∀ i, i < n → f i = g i) : rs n f = rs n g := by
  induction n with
  | zero => simp [rs_zero]
  | succ n ih => rw [rs_succ, rs_succ, ih (fun i hi => h i (by omega)), h n (by omega)]
theorem rs_add (n : Nat) (f g : Nat → Rat) : rs n (fun i => f i + g i) = rs n f + rs n g := by
  induction n with
  | zero => simp only [rs_zero]; grind
  | succ n ih => rw [rs_succ, rs_succ, rs_succ, ih]; grind
theorem rs_sub (n : Nat) (f g : Nat → Rat) : rs n (fun i => f i - g i) = rs n f - rs n g := by
  induction n with
  | zero => simp only [rs_zero]; grind
  | succ n ih => rw [rs_succ, rs_succ, rs_succ, ih]; grind
theorem rs_mul (n : Nat) (c : Rat) (f : Nat → Rat) : rs n (fun i => c * f i) = c * rs n f := by
  induction n with
  | zero => simp [rs_zero]
  | succ n ih => rw [rs_succ, rs_succ, ih]; grind
theorem rs_le {n : Nat} {f g : Nat → Rat} (h : ∀ i, i < n → f i ≤ g i) : rs n f ≤ rs n g := by
  induction n with
  | zero => simp [rs_zero]
  | succ n ih =>
    rw [rs_succ, rs_succ]
    have := ih (fun i hi => h i (by omega))
    have := h n (by omega)
    grind
theorem rs_nonpos {n : Nat} {f : Nat → Rat} (h : ∀ i, i < n → f i ≤ 0) : rs n f ≤ 0 := by
  induction n with
  | zero => simp [rs_zero]
  | succ n ih =>
    rw [rs_succ]
    have := ih (fun i hi => h i (by omega))
    have := h n (by omega)
    grind
/-- one term apart -/
theorem rs_split {n k : Nat} (hk : k < n) (f : Nat → Rat) : rs n f = f k + rs n (fun i => if i = k then 0 else f i) := by
  induction n with
  | zero => omega
  | succ n ih =>
    rw [rs_succ, rs_succ]
    by_cases e : k = n
    · subst e
      have : rs k (fun i => if i = k then 0 else f i) = rs k f := rs_congr (fun i hi => by simp; omega)
      rw [this]; simp; grind
    · rw [ih (by omega)]
      have : (n = k) = False := by simp; omega
      simp [this]; grind
theorem rs_unit {n k : Nat} (hk : k < n) (v : Nat → Rat) : rs n (fun j => (if k = j then 1 else 0) * v j) = v k := by
  rw [rs_split hk]
  have : rs n (fun i => if i = k then 0 else (if k = i then 1 else 0) * v i) = rs n (fun i => 0 * v i) := by
    apply rs_congr; intro i _
    by_cases e : i = k
    · simp [e]
    · have : ¬ k = i := fun h => e h.symm
      simp [e, this]
  rw [this, rs_mul]
  simp; grind

/-- where the least is -/
theorem least_at {n : Nat} (hn : 0 < n) (d : Nat → Rat) : ∃ i, i < n ∧ ∀ j, j < n → d i ≤ d j := by
  induction n with
  | zero => omega
  | succ n ih =>
    by_cases h0 : n = 0
    · subst h0; exact ⟨0, by omega, fun j hj => by have : j = 0 := by omega
                                                   subst this; exact Rat.le_refl⟩
    · obtain ⟨i, hi, hm⟩ := ih (by omega)
      by_cases h : d i ≤ d n
      · exact ⟨i, by omega, fun j hj => by
          by_cases e : j = n
          · subst e; exact h
          · exact hm j (by omega)⟩
      · exact ⟨n, by omega, fun j hj => by
          by_cases e : j = n
          · subst e; exact Rat.le_refl
          · have := hm j (by omega); grind⟩

/-- a function that is at least g times its mean everywhere is never negative -/
theorem nonneg_of_super {n : Nat} {g : Rat} (hg : 0 ≤ g) (hg1 : g < 1) (P : Nat → Nat → Rat)
    (h0 : ∀ s, s < n → ∀ q, q < n → 0 ≤ P s q) (h1 : ∀ s, s < n → rs n (P s) = 1) (d : Nat → Rat)
    (hd : ∀ s, s < n → g * rs n (fun q => P s q * d q) ≤ d s) : ∀ s, s < n → 0 ≤ d s := by
  intro s hs
  obtain ⟨i, hi, hm⟩ := least_at (n := n) (by omega) d
  have h2 : rs n (fun q => d i * P i q) ≤ rs n (fun q => P i q * d q) := by
    apply rs_le; intro q hq
    have := Rat.mul_le_mul_of_nonneg_right (hm q hq) (h0 i hi q hq)
    rw [Rat.mul_comm (P i q)]; exact this
  rw [rs_mul, h1 i hi] at h2
  have h3 := hd i hi
  have h4 := Rat.mul_le_mul_of_nonneg_left h2 hg
  have h5 : 0 ≤ d i * (1 - g) := by grind
  have h6 : 0 ≤ d i := by
    by_cases hneg : 0 ≤ d i
    · exact hneg
    · have h7 : 0 < -d i := by grind
      have := Rat.mul_pos h7 (show (0 : Rat) < 1 - g by grind)
      grind
  have := hm s hs
  grind


/-! ### A process by its rows: each row a stochastic one, a discount below 1 -/

/-- v solves the equations of the rows -/
def Fix (n : Nat) (g : Rat) (P : Nat → Nat → Rat) (r : Nat → Rat) (v : Nat → Rat) : Prop :=
  ∀ s, s < n → v s = r s + g * rs n (fun q => P s q * v q)

structure Sto (n : Nat) (g : Rat) (P : Nat → Nat → Rat) : Prop where
  g0 : 0 ≤ g
  g1 : g < 1
  p0 : ∀ s, s < n → ∀ q, q < n → 0 ≤ P s q
  p1 : ∀ s, s < n → rs n (P s) = 1

theorem rs_diff (n : Nat) (P : Nat → Rat) (v w : Nat → Rat) :
    rs n (fun q => P q * (v q - w q)) = rs n (fun q => P q * v q) - rs n (fun q => P q * w q) := by
  rw [← rs_sub]; apply rs_congr; intro i _; grind

/-- what is at most its own step is at most the solution -/
theorem below {n : Nat} {g : Rat} {P : Nat → Nat → Rat} {r v w : Nat → Rat} (h : Sto n g P) (hv : Fix n g P r v)
    (hw : ∀ s, s < n → w s ≤ r s + g * rs n (fun q => P s q * w q)) : ∀ s, s < n → w s ≤ v s := by
  intro s hs
  have := nonneg_of_super h.g0 h.g1 P h.p0 h.p1 (fun q => v q - w q) (by
    intro s hs
    have h1 := hv s hs
    have h2 := hw s hs
    simp only [rs_diff]
    grind) s hs
  grind

/-- what is at least its own step is at least the solution -/
theorem above {n : Nat} {g : Rat} {P : Nat → Nat → Rat} {r v w : Nat → Rat} (h : Sto n g P) (hv : Fix n g P r v)
    (hw : ∀ s, s < n → r s + g * rs n (fun q => P s q * w q) ≤ w s) : ∀ s, s < n → v s ≤ w s := by
  intro s hs
  have := nonneg_of_super h.g0 h.g1 P h.p0 h.p1 (fun q => w q - v q) (by
    intro s hs
    have h1 := hv s hs
    have h2 := hw s hs
    simp only [rs_diff]
    grind) s hs
  grind

theorem fix_unique {n : Nat} {g : Rat} {P : Nat → Nat → Rat} {r v w : Nat → Rat} (h : Sto n g P) (hv : Fix n g P r v)
    (hw : Fix n g P r w) : ∀ s, s < n → v s = w s := by
  intro s hs
  apply Rat.le_antisymm
  · exact below h hw (fun s hs => by rw [← hv s hs]; exact Rat.le_refl) s hs
  · exact below h hv (fun s hs => by rw [← hw s hs]; exact Rat.le_refl) s hs

/-! ### Elimination -/

theorem rdiv_self {a : Rat} (h : a ≠ 0) : a / a = 1 := by rw [Rat.div_def]; exact Rat.mul_inv_cancel _ h
theorem rzero_div (a : Rat) : 0 / a = 0 := by rw [Rat.div_def, Rat.zero_mul]

/-- one column cleared, by the row of that number -/
def elimF (A : Nat → Nat → Rat) (k : Nat) : Nat → Nat → Rat :=
  fun i j => if i = k then A k j / A k k else A i j - A i k * (A k j / A k k)

def elimAll (A : Nat → Nat → Rat) : Nat → Nat → Nat → Rat
  | 0 => A
  | k + 1 => elimF (elimAll A k) k

/-- v solves the rows: n factors, then the right side -/
def Sol (n : Nat) (A : Nat → Nat → Rat) (v : Nat → Rat) : Prop := ∀ i, i < n → rs n (fun j => A i j * v j) = A i n

/-- rows not yet cleared: nothing above 0 off the diagonal, and each row's sum above 0 -/
structure Dom (n k : Nat) (A : Nat → Nat → Rat) : Prop where
  unit : ∀ i, i < n → ∀ j, j < k → A i j = if i = j then 1 else 0
  off : ∀ i, i < n → k ≤ i → ∀ j, j < n → j ≠ i → A i j ≤ 0
  sum : ∀ i, i < n → k ≤ i → 0 < rs n (A i)

theorem Dom.pivot {n k : Nat} {A : Nat → Nat → Rat} (h : Dom n k A) {i : Nat} (hi : i < n) (hk : k ≤ i) : 0 < A i i := by
  have h1 := h.sum i hi hk
  rw [rs_split hi] at h1
  have h2 : rs n (fun j => if j = i then 0 else A i j) ≤ 0 := by
    apply rs_nonpos; intro j hj
    by_cases e : j = i
    · simp [e]
    · simp only [e, if_false]; exact h.off i hi hk j hj e
  grind

theorem Dom.step {n k : Nat} {A : Nat → Nat → Rat} (h : Dom n k A) (hk : k < n) : Dom n (k + 1) (elimF A k) := by
  have hp := h.pivot hk (Nat.le_refl k)
  have hne : A k k ≠ 0 := by grind
  have hi0 : 0 < (A k k)⁻¹ := Rat.inv_pos.mpr hp
  refine ⟨?_, ?_, ?_⟩
  · intro i hi j hj
    unfold elimF
    by_cases e : j = k
    · subst e
      by_cases e2 : i = j
      · subst e2; simp only [if_true]; exact rdiv_self hne
      · simp only [e2, if_false]; rw [rdiv_self hne]; grind
    · have h0 : A k j = 0 := by
        rw [h.unit k hk j (by omega)]; simp; omega
      have h1 := h.unit i hi j (by omega)
      by_cases e2 : i = k
      · have : ¬ i = j := by omega
        simp only [e2, if_true, h0, rzero_div]
        have : ¬ k = j := by omega
        simp [this]
      · simp only [e2, if_false, h0, rzero_div, h1]; grind
  · intro i hi hki j hj hji
    unfold elimF
    have e : ¬ i = k := by omega
    simp only [e, if_false]
    have h1 := h.off i hi (by omega) j hj hji
    by_cases e2 : j = k
    · subst e2; rw [rdiv_self hne]; grind
    · have h2 := h.off i hi (by omega) k hk (by omega)
      have h3 := h.off k hk (Nat.le_refl k) j hj e2
      have h4 := Rat.mul_nonneg (show 0 ≤ - A i k by grind) (show 0 ≤ - A k j by grind)
      have h5 := Rat.mul_nonneg h4 (Rat.le_of_lt hi0)
      rw [Rat.div_def]; grind
  · intro i hi hki
    have e : ¬ i = k := by omega
    have h1 : rs n (elimF A k i) = rs n (A i) - A i k * ((A k k)⁻¹ * rs n (A k)) := by
      rw [← rs_mul, ← rs_mul, ← rs_sub]
      apply rs_congr; intro j _
      unfold elimF
      simp only [e, if_false]; rw [Rat.div_def]; grind
    rw [h1]
    have h2 := h.sum i hi (by omega)
    have h3 := h.sum k hk (Nat.le_refl k)
    have h4 := h.off i hi (by omega) k hk (by omega)
    have h5 := Rat.mul_nonneg (show 0 ≤ - A i k by grind) (Rat.le_of_lt (Rat.mul_pos hi0 h3))
    grind

theorem Sol.back {n k : Nat} {A : Nat → Nat → Rat} {v : Nat → Rat} (hne : A k k ≠ 0) (hk : k < n)
    (h : Sol n (elimF A k) v) : Sol n A v := by
  have hkk := h k hk
  have e0 : ∀ j, elimF A k k j = (A k k)⁻¹ * A k j := by intro j; unfold elimF; simp only [if_true]; rw [Rat.div_def]; grind
  have e1 : rs n (fun j => A k j * v j) = A k n := by
    have : rs n (fun j => elimF A k k j * v j) = (A k k)⁻¹ * rs n (fun j => A k j * v j) := by
      rw [← rs_mul]; apply rs_congr; intro j _; rw [e0]; grind
    rw [this, e0] at hkk
    have h2 : A k k * ((A k k)⁻¹ * rs n (fun j => A k j * v j)) = A k k * ((A k k)⁻¹ * A k n) := by rw [hkk]
    rw [← Rat.mul_assoc, ← Rat.mul_assoc, Rat.mul_inv_cancel _ hne] at h2
    simpa [Rat.one_mul] using h2
  intro i hi
  by_cases e : i = k
  · subst e; exact e1
  · have hh := h i hi
    have e2 : ∀ j, elimF A k i j = A i j - A i k * ((A k k)⁻¹ * A k j) := by
      intro j; unfold elimF; simp only [e, if_false]; rw [Rat.div_def]; grind
    have e3 : rs n (fun j => elimF A k i j * v j) = rs n (fun j => A i j * v j) - (A i k * (A k k)⁻¹) * rs n (fun j => A k j * v j) := by
      rw [← rs_mul, ← rs_sub]; apply rs_congr; intro j _; rw [e2]; grind
    rw [e3, e1, e2] at hh
    grind

theorem elimAll_dom {n : Nat} {A : Nat → Nat → Rat} (h : Dom n 0 A) : ∀ k, k ≤ n → Dom n k (elimAll A k) := by
  intro k
  induction k with
  | zero => intro _; exact h
  | succ k ih => intro hk; exact (ih (by omega)).step (by omega)

theorem elimAll_back {n : Nat} {A : Nat → Nat → Rat} {v : Nat → Rat} (h : Dom n 0 A) : ∀ k, k ≤ n → Sol n (elimAll A k) v → Sol n A v := by
  intro k
  induction k with
  | zero => intro _ hs; exact hs
  | succ k ih =>
    intro hk hs
    have hp := (elimAll_dom h k (by omega)).pivot (i := k) (by omega) (Nat.le_refl k)
    exact ih (by omega) (Sol.back (by grind) (by omega) hs)

theorem elimAll_sol {n : Nat} {A : Nat → Nat → Rat} (h : Dom n 0 A) : Sol n A (fun i => elimAll A n i n) := by
  apply elimAll_back h n (Nat.le_refl n)
  have hd := elimAll_dom h n (Nat.le_refl n)
  intro i hi
  have : rs n (fun j => elimAll A n i j * elimAll A n j n) = rs n (fun j => (if i = j then 1 else 0) * elimAll A n j n) := by
    apply rs_congr; intro j hj; rw [hd.unit i hi j hj]
  rw [this, rs_unit hi]

end SR

/- The specification's elimination over a table of a function. -/
namespace SR
open Kp389

def tab (n : Nat) (A : Nat → Nat → Rat) : List (List Rat) := (List.range n).map fun i => (List.range (n + 1)).map (A i)

theorem tab_len (n : Nat) (A) : (tab n A).length = n := by simp [tab]
theorem tab_getD {n i : Nat} (A) (hi : i < n) : (tab n A).getD i [] = (List.range (n + 1)).map (A i) := by
  simp [tab, List.getD, List.getElem?_map, List.getElem?_range hi]
theorem rm_getD {n i : Nat} (f : Nat → Rat) (hi : i < n) : ((List.range n).map f).getD i 0 = f i := by
  simp [List.getD, List.getElem?_map, List.getElem?_range hi]

theorem elim_tab {n k : Nat} (A : Nat → Nat → Rat) (hk : k < n) (hne : A k k ≠ 0) :
    eliminate n (tab n A) k = tab n (elimF A k) := by
  have hf : ((List.range n).find? fun i => decide (k ≤ i) && ((tab n A).getD i []).getD k 0 != 0) = some k := by
    rw [List.find?_range_eq_some]
    refine ⟨?_, by simpa using hk, ?_⟩
    · rw [tab_getD A hk, rm_getD _ (by omega)]; simp [hne]
    · intro j hj
      have : ¬ k ≤ j := by omega
      simp [this]
  unfold eliminate
  rw [hf]
  simp only
  rw [tab_getD A hk, rm_getD _ (show k < n + 1 by omega)]
  apply List.ext_getElem
  · simp [tab_len]
  · intro i h1 h2
    have hi : i < n := by simpa [tab_len] using h2
    apply List.ext_getElem
    · simp [tab, List.getElem_set]
      by_cases e : i = k
      · subst e; simp
      · have : ¬ k = i := fun h => e h.symm
        simp [e, this]
    · intro j h3 h4
      have hj : j < n + 1 := by simpa [tab] using h4
      by_cases e : i = k
      · subst e; simp [tab, elimF]
      · have e' : ¬ k = i := fun h => e h.symm
        have hk1 : k < n + 1 := by omega
        simp [tab, elimF, e, e', List.getD, List.getElem?_map, List.getElem?_range hk1]

theorem fold_tab {n : Nat} {A : Nat → Nat → Rat} (h : Dom n 0 A) : ∀ k, k ≤ n →
    (List.range k).foldl (eliminate n) (tab n A) = tab n (elimAll A k) := by
  intro k
  induction k with
  | zero => intro _; rfl
  | succ k ih =>
    intro hk
    have hp := (elimAll_dom h k (by omega)).pivot (i := k) (by omega) (Nat.le_refl k)
    rw [List.range_succ, List.foldl_append, ih (by omega)]
    simp only [List.foldl_cons, List.foldl_nil]
    rw [elim_tab _ (by omega) (by grind)]
    rfl

theorem solve_tab {n : Nat} {A : Nat → Nat → Rat} (h : Dom n 0 A) :
    solve n (tab n A) = (List.range n).map fun i => elimAll A n i n := by
  unfold solve
  rw [fold_tab h n (Nat.le_refl n)]
  apply List.ext_getElem
  · simp [tab]
  · intro i h1 h2
    have hi : i < n := by simpa using h2
    simp only [List.getElem_map, tab, List.getElem_range]
    rw [rm_getD _ (by omega)]

end SR

/- A process in form, and the values of a policy. -/
namespace SR
open Kp389

/-- what a process that was created holds at all times -/
structure WF (p : Process) : Prop where
  n2 : 2 ≤ p.stateCount
  n4 : p.stateCount ≤ 4
  m1 : 1 ≤ p.actionCount
  m3 : p.actionCount ≤ 3
  g1 : 1 ≤ p.discountNum
  gh : p.discountNum < p.discountDen
  h10 : p.discountDen ≤ 10
  r0 : p.rewards0.length = rewardCount p
  r1 : p.rewards1.length = rewardCount p
  b0 : ∀ x ∈ p.rewards0, -100000 ≤ x ∧ x ≤ 100000
  b1 : ∀ x ∈ p.rewards1, -100000 ≤ x ∧ x ≤ 100000
  tl : p.transitions.length = p.stateCount * p.actionCount
  tr : ∀ w ∈ p.transitions, validWeights p w = true

theorem place_lt {n m s a : Nat} (hs : s < n) (ha : a < m) : s * m + a < n * m := by
  have : (s + 1) * m ≤ n * m := Nat.mul_le_mul_right m hs
  rw [Nat.succ_mul] at this; omega

theorem weights_mem {p : Process} (h : WF p) {s a : Nat} (hs : s < p.stateCount) (ha : a < p.actionCount) :
    weights p s a ∈ p.transitions := by
  have := place_lt hs ha
  rw [← h.tl] at this
  unfold weights
  simp [List.getD, List.getElem?_eq_getElem this]

theorem sum_pos {l : List Nat} (h : l.any (fun x => decide (0 < x)) = true) : 0 < l.sum := by
  induction l with
  | nil => simp at h
  | cons x l ih =>
    simp only [List.any_cons, Bool.or_eq_true, decide_eq_true_eq] at h
    simp only [List.sum_cons]
    cases h with
    | inl h => omega
    | inr h => have := ih h; omega

structure WtOk (n : Nat) (w : List Nat) : Prop where
  len : w.length = n
  le9 : ∀ x ∈ w, x ≤ 9
  pos : 0 < w.sum

theorem wtOk_of {p : Process} {w : List Nat} (h : validWeights p w = true) : WtOk p.stateCount w := by
  unfold validWeights at h
  simp only [Bool.and_eq_true, decide_eq_true_eq, List.all_eq_true] at h
  exact ⟨h.1.1, h.1.2, sum_pos h.2⟩

theorem weights_ok {p : Process} (h : WF p) {s a : Nat} (hs : s < p.stateCount) (ha : a < p.actionCount) :
    WtOk p.stateCount (weights p s a) := wtOk_of (h.tr _ (weights_mem h hs ha))

theorem rs_nat_sum : ∀ (w : List Nat), rs w.length (fun q => ((w.getD q 0 : Nat) : Rat)) = ((w.sum : Nat) : Rat) := by
  intro w
  have : ∀ (w : List Nat), (w.map (fun (x : Nat) => (x : Rat))).sum = ((w.sum : Nat) : Rat) := by
    intro w
    induction w with
    | nil => simp
    | cons x l ih => simp only [List.map_cons, List.sum_cons, ih, Rat.natCast_add]
  rw [← this w]
  unfold rs
  congr 1
  apply List.ext_getElem
  · simp
  · intro i h1 h2
    simp [List.getD]
    have : i < w.length := by simpa using h2
    simp [List.getElem?_eq_getElem this]

theorem prob_sum {p : Process} (h : WF p) {s a : Nat} (hs : s < p.stateCount) (ha : a < p.actionCount) :
    rs p.stateCount (fun q => probability p s a q) = 1 := by
  have hw := weights_ok h hs ha
  have hz : (((weights p s a).sum : Nat) : Rat) ≠ 0 := by
    have := hw.pos
    intro h
    have : (weights p s a).sum = 0 := by exact_mod_cast h
    omega
  have h1 : rs p.stateCount (fun q => probability p s a q) =
      rs p.stateCount (fun q => (((weights p s a).sum : Nat) : Rat)⁻¹ * (((weights p s a).getD q 0 : Nat) : Rat)) := by
    apply rs_congr; intro q _
    unfold probability; rw [Rat.div_def, Rat.mul_comm]
  have h2 := rs_nat_sum (weights p s a)
  rw [hw.len] at h2
  rw [h1, rs_mul, h2]
  exact Rat.inv_mul_cancel _ hz

theorem rinv_nonneg {a : Rat} (h : 0 ≤ a) : 0 ≤ a⁻¹ := by
  by_cases e : a = 0
  · subst e; rw [Rat.inv_zero]; exact Rat.le_refl
  · exact Rat.le_of_lt (Rat.inv_pos.mpr (by grind))

theorem prob_nonneg (p : Process) (s a q : Nat) : 0 ≤ probability p s a q := by
  unfold probability
  rw [Rat.div_def]
  exact Rat.mul_nonneg (by exact_mod_cast Nat.zero_le _) (rinv_nonneg (by exact_mod_cast Nat.zero_le _))

theorem disc_pos {p : Process} (h : WF p) : 0 < discount p ∧ discount p < 1 := by
  have h1 := h.g1
  have h2 := h.gh
  have hd : (0 : Rat) < (p.discountDen : Rat) := by exact_mod_cast (show 0 < p.discountDen by omega)
  have hn : (0 : Rat) < (p.discountNum : Rat) := by exact_mod_cast (show 0 < p.discountNum by omega)
  unfold discount
  refine ⟨?_, ?_⟩
  · rw [Rat.div_def]; exact Rat.mul_pos hn (Rat.inv_pos.mpr hd)
  · rw [Rat.div_lt_iff hd, Rat.one_mul]; exact_mod_cast h2

def polOk (p : Process) (l : List Nat) : Prop := l.length = p.stateCount ∧ ∀ s, s < p.stateCount → l.getD s 0 < p.actionCount

/-- the probabilities under a policy -/
def pP (p : Process) (l : List Nat) (s q : Nat) : Rat := probability p s (l.getD s 0) q
def pR (p : Process) (t : Nat) (l : List Nat) (s : Nat) : Rat := expectedReward p t s (l.getD s 0)

theorem sto {p : Process} (h : WF p) {l : List Nat} (hl : polOk p l) : Sto p.stateCount (discount p) (pP p l) :=
  ⟨Rat.le_of_lt (disc_pos h).1, (disc_pos h).2, fun s _ q _ => prob_nonneg p s _ q, fun s hs => prob_sum h hs (hl.2 s hs)⟩

/-- the equations of a policy -/
def eqF (p : Process) (t : Nat) (l : List Nat) (s j : Nat) : Rat :=
  if j < p.stateCount then (if s = j then (1 : Rat) else 0) - discount p * pP p l s j else pR p t l s

theorem eqF_dom {p : Process} (h : WF p) (t : Nat) {l : List Nat} (hl : polOk p l) : Dom p.stateCount 0 (eqF p t l) := by
  have hg := disc_pos h
  refine ⟨fun i _ j hj => absurd hj (Nat.not_lt_zero j), ?_, ?_⟩
  · intro i hi _ j hj hji
    have : ¬ i = j := fun h => hji h.symm
    have h1 := Rat.mul_nonneg (Rat.le_of_lt hg.1) (prob_nonneg p i (l.getD i 0) j)
    simp only [eqF, hj, if_true, this, if_false, pP]; grind
  · intro i hi _
    have : rs p.stateCount (eqF p t l i) = rs p.stateCount (fun j => (if i = j then (1 : Rat) else 0) * 1) - discount p * rs p.stateCount (pP p l i) := by
      rw [← rs_mul, ← rs_sub]; apply rs_congr; intro j hj
      simp only [eqF, hj, if_true]; grind
    rw [this, rs_unit hi (fun _ => 1), (sto h hl).p1 i hi]; grind

theorem polVals {p : Process} (h : WF p) (t : Nat) {l : List Nat} (hl : polOk p l) :
    policyValues p t l = (List.range p.stateCount).map fun i => elimAll (eqF p t l) p.stateCount i p.stateCount := by
  rw [← solve_tab (eqF_dom h t hl)]
  unfold policyValues
  congr 1
  unfold tab states
  apply List.map_congr_left
  intro s _
  rw [List.range_succ, List.map_append]
  congr 1
  · apply List.map_congr_left
    intro j hj
    have : j < p.stateCount := by simpa using hj
    simp [eqF, this, pP]
  · simp [eqF, pR]

theorem polVals_len {p : Process} (h : WF p) (t : Nat) {l : List Nat} (hl : polOk p l) : (policyValues p t l).length = p.stateCount := by
  rw [polVals h t hl]; simp

/-- the value of a state under a policy -/
def pV (p : Process) (t : Nat) (l : List Nat) (s : Nat) : Rat := (policyValues p t l).getD s 0

theorem pV_fix {p : Process} (h : WF p) (t : Nat) {l : List Nat} (hl : polOk p l) :
    Fix p.stateCount (discount p) (pP p l) (pR p t l) (pV p t l) := by
  have h1 := elimAll_sol (eqF_dom h t hl)
  intro s hs
  have h2 := h1 s hs
  have e : ∀ i, i < p.stateCount → pV p t l i = elimAll (eqF p t l) p.stateCount i p.stateCount := by
    intro i hi; unfold pV; rw [polVals h t hl, rm_getD _ hi]
  have h3 : rs p.stateCount (fun j => eqF p t l s j * elimAll (eqF p t l) p.stateCount j p.stateCount)
      = rs p.stateCount (fun j => (if s = j then (1:Rat) else 0) * pV p t l j) - discount p * rs p.stateCount (fun q => pP p l s q * pV p t l q) := by
    rw [← rs_mul, ← rs_sub]; apply rs_congr; intro j hj
    rw [e j hj]; simp only [eqF, hj, if_true]; grind
  rw [h3, rs_unit hs] at h2
  have h4 : eqF p t l s p.stateCount = pR p t l s := by simp [eqF]
  rw [h4] at h2
  grind

end SR

/- Policy iteration ends in the greatest value of every state. -/
namespace SR
open Kp389

/-- the value of an action where the next states have these values -/
def qV (p : Process) (t : Nat) (v : Nat → Rat) (s a : Nat) : Rat :=
  expectedReward p t s a + discount p * rs p.stateCount (fun q => probability p s a q * v q)

theorem avw (p : Process) (t : Nat) (vals : List Rat) (s a : Nat) : actionValueWith p t vals s a = qV p t (fun q => vals.getD q 0) s a := rfl

/-- the best of a walk, the first one kept unless another is better -/
def pick (f : Nat → Rat) (l : List Nat) (b : Nat) : Nat := l.foldl (fun best a => if f best < f a then a else best) b

theorem pick_spec (f : Nat → Rat) : ∀ (l : List Nat) (b : Nat),
    (pick f l b = b ∨ (pick f l b ∈ l ∧ f b < f (pick f l b))) ∧ f b ≤ f (pick f l b) ∧ ∀ a, a ∈ l → f a ≤ f (pick f l b) := by
  intro l
  induction l with
  | nil => intro b; exact ⟨.inl rfl, Rat.le_refl, fun a ha => by cases ha⟩
  | cons x l ih =>
    intro b
    have e : pick f (x :: l) b = pick f l (if f b < f x then x else b) := rfl
    rw [e]
    by_cases h : f b < f x
    · simp only [h, if_true]
      obtain ⟨h1, h2, h3⟩ := ih x
      refine ⟨.inr ⟨?_, by grind⟩, by grind, ?_⟩
      · cases h1 with
        | inl h1 => rw [h1]; exact List.mem_cons_self
        | inr h1 => exact List.mem_cons_of_mem _ h1.1
      · intro a ha
        cases List.mem_cons.mp ha with
        | inl e => subst e; exact h2
        | inr hm => exact h3 a hm
    · simp only [h, if_false]
      obtain ⟨h1, h2, h3⟩ := ih b
      refine ⟨?_, h2, ?_⟩
      · cases h1 with
        | inl h1 => exact .inl h1
        | inr h1 => exact .inr ⟨List.mem_cons_of_mem _ h1.1, h1.2⟩
      · intro a ha
        cases List.mem_cons.mp ha with
        | inl e => subst e; grind
        | inr hm => exact h3 a hm

theorem improved_eq (p : Process) (t : Nat) (vals : List Rat) (s old : Nat) :
    improvedAction p t vals s old = pick (qV p t (fun q => vals.getD q 0) s) (List.range p.actionCount) old := rfl

def nxt (p : Process) (t : Nat) (l : List Nat) : List Nat :=
  (states p).map fun s => improvedAction p t (policyValues p t l) s (l.getD s 0)

theorem rmN_getD {n i : Nat} (f : Nat → Nat) (hi : i < n) : ((List.range n).map f).getD i 0 = f i := by
  simp [List.getD, List.getElem?_map, List.getElem?_range hi]

theorem nxt_at (p : Process) (t : Nat) (l : List Nat) {s : Nat} (hs : s < p.stateCount) :
    (nxt p t l).getD s 0 = pick (qV p t (pV p t l) s) (List.range p.actionCount) (l.getD s 0) := by
  unfold nxt states
  rw [rmN_getD _ hs]; rfl

theorem nxt_ok {p : Process} (t : Nat) {l : List Nat} (hl : polOk p l) : polOk p (nxt p t l) := by
  refine ⟨by simp [nxt, states], ?_⟩
  intro s hs
  rw [nxt_at p t l hs]
  have h := (pick_spec (qV p t (pV p t l) s) (List.range p.actionCount) (l.getD s 0)).1
  cases h with
  | inl h => rw [h]; exact hl.2 s hs
  | inr h => simpa using h.1

theorem pV_q {p : Process} (h : WF p) (t : Nat) {l : List Nat} (hl : polOk p l) {s : Nat} (hs : s < p.stateCount) :
    pV p t l s = qV p t (pV p t l) s (l.getD s 0) := pV_fix h t hl s hs

theorem nxt_ge {p : Process} (h : WF p) (t : Nat) {l : List Nat} (hl : polOk p l) :
    ∀ s, s < p.stateCount → pV p t l s ≤ pV p t (nxt p t l) s := by
  apply below (sto h (nxt_ok t hl)) (pV_fix h t (nxt_ok t hl))
  intro s hs
  have h1 := (pick_spec (qV p t (pV p t l) s) (List.range p.actionCount) (l.getD s 0)).2.1
  rw [← nxt_at p t l hs, ← pV_q h t hl hs] at h1
  exact h1

theorem rs_lt {n : Nat} {f g : Nat → Rat} (h : ∀ i, i < n → f i ≤ g i) {k : Nat} (hk : k < n) (hlt : f k < g k) : rs n f < rs n g := by
  rw [rs_split hk f, rs_split hk g]
  have : rs n (fun i => if i = k then 0 else f i) ≤ rs n (fun i => if i = k then 0 else g i) := by
    apply rs_le; intro i hi
    by_cases e : i = k
    · simp [e]
    · simp only [e, if_false]; exact h i hi
  grind

theorem list_ext_getD {l k : List Nat} {n : Nat} (hl : l.length = n) (hk : k.length = n) (h : ∀ s, s < n → l.getD s 0 = k.getD s 0) : l = k := by
  apply List.ext_getElem (by omega)
  intro i h1 h2
  have := h i (by omega)
  simpa [List.getD, List.getElem?_eq_getElem h1, List.getElem?_eq_getElem h2] using this

theorem qV_mono {p : Process} (h : WF p) (t : Nat) {v w : Nat → Rat} (s a : Nat) (hvw : ∀ q, q < p.stateCount → v q ≤ w q) :
    qV p t v s a ≤ qV p t w s a := by
  unfold qV
  have : rs p.stateCount (fun q => probability p s a q * v q) ≤ rs p.stateCount (fun q => probability p s a q * w q) := by
    apply rs_le; intro q hq
    exact Rat.mul_le_mul_of_nonneg_left (hvw q hq) (prob_nonneg p s a q)
  have := Rat.mul_le_mul_of_nonneg_left this (Rat.le_of_lt (disc_pos h).1)
  grind

/-- the sum of all values under a policy -/
def phi (p : Process) (t : Nat) (l : List Nat) : Rat := rs p.stateCount (pV p t l)

theorem nxt_gt {p : Process} (h : WF p) (t : Nat) {l : List Nat} (hl : polOk p l) (hne : nxt p t l ≠ l) : phi p t l < phi p t (nxt p t l) := by
  have hok := nxt_ok t hl
  have hge := nxt_ge h t hl
  have : ∃ s, s < p.stateCount ∧ (nxt p t l).getD s 0 ≠ l.getD s 0 := by
    apply Classical.byContradiction
    intro hc
    apply hne
    apply list_ext_getD hok.1 hl.1
    intro s hs
    apply Classical.byContradiction
    intro hx
    exact hc ⟨s, hs, hx⟩
  obtain ⟨s, hs, hx⟩ := this
  apply rs_lt hge hs
  have h1 := (pick_spec (qV p t (pV p t l) s) (List.range p.actionCount) (l.getD s 0)).1
  rw [← nxt_at p t l hs] at h1
  cases h1 with
  | inl h1 => exact absurd h1 hx
  | inr h1 =>
    have h2 := h1.2
    rw [← pV_q h t hl hs] at h2
    have h3 := qV_mono h t s ((nxt p t l).getD s 0) hge
    rw [← pV_q h t hok hs] at h3
    grind

/-! ### All policies -/
theorem mem_vectors {m : Nat} : ∀ {n : Nat} {l : List Nat}, l ∈ vectors m n ↔ l.length = n ∧ ∀ x, x ∈ l → x < m := by
  intro n
  induction n with
  | zero =>
    intro l
    simp only [vectors, List.mem_singleton]
    constructor
    · intro h; subst h; simp
    · intro h; exact List.length_eq_zero_iff.mp h.1
  | succ n ih =>
    intro l
    simp only [vectors, List.mem_flatMap, List.mem_range, List.mem_map]
    constructor
    · rintro ⟨x, hx, k, hk, rfl⟩
      have := ih.mp hk
      refine ⟨by simp [this.1], ?_⟩
      intro y hy
      cases List.mem_cons.mp hy with
      | inl e => omega
      | inr e => exact this.2 y e
    · rintro ⟨h1, h2⟩
      cases l with
      | nil => simp at h1
      | cons x k =>
        exact ⟨x, h2 x List.mem_cons_self, k, ih.mpr ⟨by simpa using h1, fun y hy => h2 y (List.mem_cons_of_mem _ hy)⟩, rfl⟩

theorem vectors_len (m : Nat) : ∀ n, (vectors m n).length = m ^ n := by
  intro n
  induction n with
  | zero => rfl
  | succ n ih =>
    simp only [vectors, List.length_flatMap, List.length_map, ih]
    rw [List.map_const', List.length_range, List.sum_replicate_nat, Nat.pow_succ, Nat.mul_comm]

theorem polOk_iff {p : Process} {l : List Nat} : polOk p l ↔ l ∈ vectors p.actionCount p.stateCount := by
  rw [mem_vectors]
  unfold polOk
  constructor
  · rintro ⟨h1, h2⟩
    refine ⟨h1, fun x hx => ?_⟩
    obtain ⟨i, hi, rfl⟩ := List.mem_iff_getElem.mp hx
    have := h2 i (by omega)
    simpa [List.getD, List.getElem?_eq_getElem hi] using this
  · rintro ⟨h1, h2⟩
    refine ⟨h1, fun s hs => ?_⟩
    have : s < l.length := by omega
    simp only [List.getD, List.getElem?_eq_getElem this, Option.getD_some]
    exact h2 _ (List.getElem_mem this)

/-- how many policies are better -/
def better (p : Process) (t : Nat) (l : List Nat) : Nat :=
  ((vectors p.actionCount p.stateCount).filter fun k => decide (phi p t l < phi p t k)).length

theorem filter_len_le {α : Type} {f g : α → Bool} (h : ∀ x, f x = true → g x = true) : ∀ (l : List α), (l.filter f).length ≤ (l.filter g).length := by
  intro l
  induction l with
  | nil => simp
  | cons x l ih =>
    simp only [List.filter_cons]
    by_cases hf : f x = true
    · simp [hf, h x hf, ih]
    · by_cases hg : g x = true
      · simp [hf, hg]; omega
      · simp [hf, hg, ih]

theorem filter_len_lt {α : Type} {f g : α → Bool} (h : ∀ x, f x = true → g x = true) {y : α} (hf : f y = false) (hg : g y = true) :
    ∀ (l : List α), y ∈ l → (l.filter f).length < (l.filter g).length := by
  intro l
  induction l with
  | nil => intro hy; cases hy
  | cons x l ih =>
    intro hy
    simp only [List.filter_cons]
    cases List.mem_cons.mp hy with
    | inl e =>
      subst e
      have := filter_len_le h l
      simp [hf, hg]; omega
    | inr hm =>
      have := ih hm
      by_cases hf : f x = true
      · simp [hf, h x hf, this]
      · by_cases hg : g x = true
        · simp [hf, hg]; omega
        · simp [hf, hg, this]

theorem better_lt {p : Process} (h : WF p) (t : Nat) {l : List Nat} (hl : polOk p l) (hne : nxt p t l ≠ l) :
    better p t (nxt p t l) < better p t l := by
  have hgt := nxt_gt h t hl hne
  unfold better
  apply filter_len_lt (y := nxt p t l)
  · intro k hk
    simp only [decide_eq_true_eq] at hk ⊢
    grind
  · simp
  · simpa using hgt
  · exact polOk_iff.mp (nxt_ok t hl)

theorem improve_succ (p : Process) (t rounds : Nat) (l : List Nat) :
    improve p t (rounds + 1) l = if nxt p t l = l then l else improve p t rounds (nxt p t l) := rfl

theorem improve_stable {p : Process} (h : WF p) (t : Nat) : ∀ (rounds : Nat) (l : List Nat), polOk p l → better p t l < rounds →
    polOk p (improve p t rounds l) ∧ nxt p t (improve p t rounds l) = improve p t rounds l := by
  intro rounds
  induction rounds with
  | zero => intro l _ hlt; omega
  | succ r ih =>
    intro l hl hlt
    rw [improve_succ]
    by_cases e : nxt p t l = l
    · rw [if_pos e]; exact ⟨hl, e⟩
    · rw [if_neg e]
      have := better_lt h t hl e
      exact ih _ (nxt_ok t hl) (by omega)

theorem better_le {p : Process} (h : WF p) (t : Nat) (l : List Nat) : better p t l < 100 := by
  have h1 : better p t l ≤ (vectors p.actionCount p.stateCount).length := List.length_filter_le _ _
  rw [vectors_len] at h1
  have h2 : p.actionCount ^ p.stateCount ≤ 3 ^ p.stateCount := Nat.pow_le_pow_left h.m3 _
  have h3 : 3 ^ p.stateCount ≤ 3 ^ 4 := Nat.pow_le_pow_right (by omega) h.n4
  omega

/-- where the policy iteration ends -/
def rho (p : Process) (t : Nat) : List Nat := improve p t 100 (List.replicate p.stateCount 0)

theorem zeros_ok {p : Process} (h : WF p) : polOk p (List.replicate p.stateCount 0) := by
  refine ⟨by simp, fun s hs => ?_⟩
  have := h.m1
  simp [List.getD, hs]; omega

theorem rho_stable {p : Process} (h : WF p) (t : Nat) : polOk p (rho p t) ∧ nxt p t (rho p t) = rho p t :=
  improve_stable h t 100 _ (zeros_ok h) (better_le h t _)

/-- the optimal value of a state -/
def oV (p : Process) (t s : Nat) : Rat := (optimalValues p t).getD s 0

theorem oV_rho (p : Process) (t s : Nat) : oV p t s = pV p t (rho p t) s := rfl

theorem optimal_len {p : Process} (h : WF p) (t : Nat) : (optimalValues p t).length = p.stateCount := by
  have := rho_stable h t
  exact polVals_len h t this.1

theorem oV_q {p : Process} (h : WF p) (t : Nat) {s a : Nat} (hs : s < p.stateCount) (ha : a < p.actionCount) :
    qV p t (oV p t) s a ≤ oV p t s := by
  have hr := rho_stable h t
  have h1 := (pick_spec (qV p t (pV p t (rho p t)) s) (List.range p.actionCount) ((rho p t).getD s 0)).2.2 a (by simpa using ha)
  rw [← nxt_at p t _ hs, hr.2, ← pV_q h t hr.1 hs] at h1
  exact h1

/-- no policy has a greater value -/
theorem pV_le_oV {p : Process} (h : WF p) (t : Nat) {l : List Nat} (hl : polOk p l) : ∀ s, s < p.stateCount → pV p t l s ≤ oV p t s := by
  apply above (sto h hl) (pV_fix h t hl)
  intro s hs
  exact oV_q h t hs (hl.2 s hs)

/-- one policy has it in every state -/
theorem oV_attained {p : Process} (h : WF p) (t : Nat) : ∃ l, polOk p l ∧ ∀ s, s < p.stateCount → pV p t l s = oV p t s :=
  ⟨rho p t, (rho_stable h t).1, fun _ _ => rfl⟩

theorem oV_some {p : Process} (h : WF p) (t : Nat) {s : Nat} (hs : s < p.stateCount) :
    ∃ a, a < p.actionCount ∧ qV p t (oV p t) s a = oV p t s :=
  ⟨(rho p t).getD s 0, (rho_stable h t).1.2 s hs, (pV_q h t (rho_stable h t).1 hs).symm⟩

end SR

/- The elimination in whole numbers: every division leaves no rest, up to four rows; what it gives is the rational elimination times the last pivot. -/
namespace SR

/-- what is divided -/
def bnum (B : Nat → Nat → Int) (k i j : Nat) : Int := B k k * B i j - B i k * B k j
def bstep (B : Nat → Nat → Int) (d : Int) (k : Nat) : Nat → Nat → Int := fun i j => if i = k then B k j else bnum B k i j / d

def bAll (B : Nat → Nat → Int) : Nat → (Nat → Nat → Int) × Int
  | 0 => (B, 1)
  | k + 1 => (bstep (bAll B k).1 (bAll B k).2 k, (bAll B k).1 k k)

def dt3 (a b c d e f g h i : Int) : Int := a*(e*i-f*h)-b*(d*i-f*g)+c*(d*h-e*g)
def dt4 (a b c d e f g h i j k l m n o p : Int) : Int :=
  a * dt3 f g h j k l n o p - b * dt3 e g h i k l m o p + c * dt3 e f h i j l m n p - d * dt3 e f g i j k m n o

def c1 (x : Nat → Nat → Int) (i j : Nat) : Int := if i = 0 then x 0 j else x 0 0 * x i j - x i 0 * x 0 j
def c2 (x : Nat → Nat → Int) (i j : Nat) : Int :=
  if i = 0 then x 1 1 * x 0 j - x 0 1 * x 1 j
  else if i = 1 then x 0 0 * x 1 j - x 1 0 * x 0 j
  else dt3 (x 0 0) (x 0 1) (x 0 j) (x 1 0) (x 1 1) (x 1 j) (x i 0) (x i 1) (x i j)
def c3 (x : Nat → Nat → Int) (i j : Nat) : Int :=
  if i = 0 then dt3 (x 0 j) (x 0 1) (x 0 2) (x 1 j) (x 1 1) (x 1 2) (x 2 j) (x 2 1) (x 2 2)
  else if i = 1 then dt3 (x 0 0) (x 0 j) (x 0 2) (x 1 0) (x 1 j) (x 1 2) (x 2 0) (x 2 j) (x 2 2)
  else if i = 2 then dt3 (x 0 0) (x 0 1) (x 0 j) (x 1 0) (x 1 1) (x 1 j) (x 2 0) (x 2 1) (x 2 j)
  else dt4 (x 0 0) (x 0 1) (x 0 2) (x 0 j) (x 1 0) (x 1 1) (x 1 2) (x 1 j) (x 2 0) (x 2 1) (x 2 2) (x 2 j) (x i 0) (x i 1) (x i 2) (x i j)
def c4 (x : Nat → Nat → Int) (i j : Nat) : Int :=
  if i = 0 then dt4 (x 0 j) (x 0 1) (x 0 2) (x 0 3) (x 1 j) (x 1 1) (x 1 2) (x 1 3) (x 2 j) (x 2 1) (x 2 2) (x 2 3) (x 3 j) (x 3 1) (x 3 2) (x 3 3)
  else if i = 1 then dt4 (x 0 0) (x 0 j) (x 0 2) (x 0 3) (x 1 0) (x 1 j) (x 1 2) (x 1 3) (x 2 0) (x 2 j) (x 2 2) (x 2 3) (x 3 0) (x 3 j) (x 3 2) (x 3 3)
  else dt4 (x 0 0) (x 0 1) (x 0 j) (x 0 3) (x 1 0) (x 1 1) (x 1 j) (x 1 3) (x 2 0) (x 2 1) (x 2 j) (x 2 3) (x 3 0) (x 3 1) (x 3 j) (x 3 3)

theorem n1 (x : Nat → Nat → Int) (i j : Nat) (hi : i ≠ 0) : bnum x 0 i j = 1 * c1 x i j := by
  simp [bnum, c1, hi]
theorem n2 (x : Nat → Nat → Int) (i j : Nat) (hi : i ≠ 1) : bnum (c1 x) 1 i j = x 0 0 * c2 x i j := by
  by_cases h0 : i = 0
  · subst h0; simp [bnum, c1, c2]; grind
  · simp only [bnum, c1, c2, h0, hi, if_false, dt3]; grind
set_option maxHeartbeats 4000000 in
theorem n3 (x : Nat → Nat → Int) (i j : Nat) (hi : i ≠ 2) : bnum (c2 x) 2 i j = c1 x 1 1 * c3 x i j := by
  by_cases h0 : i = 0
  · subst h0; simp [bnum, c1, c2, c3, dt3]; grind
  · by_cases h1 : i = 1
    · subst h1; simp [bnum, c1, c2, c3, dt3]; grind
    · simp only [bnum, c1, c2, c3, h0, h1, hi, if_false, dt3, dt4]
      simp; grind
set_option maxHeartbeats 16000000 in
theorem n4 (x : Nat → Nat → Int) (i j : Nat) (hi : i < 3) : bnum (c3 x) 3 i j = c2 x 2 2 * c4 x i j := by
  have : i = 0 ∨ i = 1 ∨ i = 2 := by omega
  rcases this with h | h | h
  · subst h; simp [bnum, c2, c3, c4, dt3, dt4]; grind
  · subst h; simp [bnum, c2, c3, c4, dt3, dt4]; grind
  · subst h; simp [bnum, c2, c3, c4, dt3, dt4]; grind

def pvt (x : Nat → Nat → Int) : Nat → Int
  | 0 => 1
  | 1 => x 0 0
  | 2 => c1 x 1 1
  | _ => c2 x 2 2
def cl (x : Nat → Nat → Int) : Nat → Nat → Nat → Int
  | 0 => x
  | 1 => c1 x
  | 2 => c2 x
  | _ => c3 x

theorem cl_num (x : Nat → Nat → Int) {k i : Nat} (j : Nat) (hk : k ≤ 2) (hi : i ≠ k) : bnum (cl x k) k i j = pvt x k * cl x (k + 1) i j := by
  have : k = 0 ∨ k = 1 ∨ k = 2 := by omega
  rcases this with h | h | h
  · subst h; exact n1 x i j hi
  · subst h; exact n2 x i j hi
  · subst h; exact n3 x i j hi
theorem cl_own (x : Nat → Nat → Int) {k : Nat} (j : Nat) (hk : k ≤ 2) : cl x (k + 1) k j = cl x k k j := by
  have : k = 0 ∨ k = 1 ∨ k = 2 := by omega
  rcases this with h | h | h
  · subst h; simp [cl, c1]
  · subst h; simp [cl, c1, c2]
  · subst h; simp [cl, c2, c3]
theorem pvt_own (x : Nat → Nat → Int) {k : Nat} (hk : k ≤ 2) : pvt x (k + 1) = cl x k k k := by
  have : k = 0 ∨ k = 1 ∨ k = 2 := by omega
  rcases this with h | h | h <;> (subst h; rfl)

/-- the division leaves no rest -/
theorem cl_dvd (x : Nat → Nat → Int) {k i : Nat} (j : Nat) (hk : k < 4) (hi : i < 4) (hik : i ≠ k) : pvt x k ∣ bnum (cl x k) k i j := by
  by_cases h : k ≤ 2
  · rw [cl_num x j h hik]; exact Int.dvd_mul_right _ _
  · have : k = 3 := by omega
    subst this
    show c2 x 2 2 ∣ bnum (c3 x) 3 i j
    rw [n4 x i j (by omega)]; exact Int.dvd_mul_right _ _

theorem bAll_cl (x : Nat → Nat → Int) : ∀ k, k ≤ 3 → (∀ l, l < k → pvt x l ≠ 0) → bAll x k = (cl x k, pvt x k) := by
  intro k
  induction k with
  | zero => intro _ _; rfl
  | succ k ih =>
    intro hk hp
    have e := ih (by omega) (fun l hl => hp l (by omega))
    show (bstep (bAll x k).1 (bAll x k).2 k, (bAll x k).1 k k) = _
    rw [e]
    simp only
    rw [← pvt_own x (by omega)]
    congr 1
    funext i j
    unfold bstep
    by_cases h : i = k
    · subst h; simp only [if_true]; exact (cl_own x j (by omega)).symm
    · simp only [h, if_false]
      rw [cl_num x j (by omega) h, Int.mul_ediv_cancel_left _ (hp k (by omega))]

structure BRel (n : Nat) (x : Nat → Nat → Int) (A : Nat → Nat → Rat) (c : Nat → Rat) (k : Nat) : Prop where
  pos : 0 < (bAll x k).2
  eq : ∀ i, i < n → ∀ j, j ≤ n → (((bAll x k).1 i j : Int) : Rat) = ((bAll x k).2 : Rat) * (if i < k then 1 else c i) * elimAll A k i j

theorem rat_cancel {a b c : Rat} (h : c ≠ 0) (e : c * a = c * b) : a = b := by
  have : c⁻¹ * (c * a) = c⁻¹ * (c * b) := by rw [e]
  rwa [← Rat.mul_assoc, ← Rat.mul_assoc, Rat.inv_mul_cancel _ h, Rat.one_mul, Rat.one_mul] at this

theorem bRel {n : Nat} (hn : n ≤ 4) {x : Nat → Nat → Int} {A : Nat → Nat → Rat} {c : Nat → Rat} (hc : ∀ i, i < n → 0 < c i)
    (hx : ∀ i, i < n → ∀ j, j ≤ n → ((x i j : Int) : Rat) = c i * A i j) (hd : Dom n 0 A) :
    ∀ k, k ≤ n → BRel n x A c k ∧ (∀ l, l ≤ k → l < n → bAll x l = (cl x l, pvt x l)) ∧ ∀ l, l ≤ k → 0 < (bAll x l).2 := by
  intro k
  induction k with
  | zero =>
    intro _
    refine ⟨⟨by simp [bAll], ?_⟩, ?_, ?_⟩
    · intro i hi j hj
      have := hx i hi j hj
      simp [bAll, elimAll, Rat.one_mul, this]
    · intro l hl _
      have : l = 0 := by omega
      subst this; rfl
    · intro l hl
      have : l = 0 := by omega
      subst this; simp [bAll]
  | succ k ih =>
    intro hk
    obtain ⟨hr, hcls, hall⟩ := ih (by omega)
    have hcl := hcls k (Nat.le_refl k) (by omega)
    have hdk := elimAll_dom hd k (by omega)
    have hpiv := hdk.pivot (i := k) (by omega) (Nat.le_refl k)
    have hkk : (((bAll x k).1 k k : Int) : Rat) = ((bAll x k).2 : Rat) * c k * elimAll A k k k := by
      have := hr.eq k (by omega) k (by omega)
      simpa using this
    have hd0 : (0 : Rat) < ((bAll x k).2 : Rat) := by exact_mod_cast hr.pos
    have hck := hc k (by omega)
    have hpos : 0 < (bAll x (k + 1)).2 := by
      show 0 < (bAll x k).1 k k
      have : (0 : Rat) < (((bAll x k).1 k k : Int) : Rat) := by
        rw [hkk]; exact Rat.mul_pos (Rat.mul_pos hd0 hck) hpiv
      exact_mod_cast this
    refine ⟨⟨hpos, ?_⟩, ?_, ?_⟩
    · intro i hi j hj
      have hnew : (((bAll x (k + 1)).2 : Int) : Rat) = ((bAll x k).2 : Rat) * c k * elimAll A k k k := hkk
      have hij := hr.eq i hi j hj
      have hik := hr.eq i hi k (by omega)
      have hkj := hr.eq k (by omega) j hj
      simp only [Nat.lt_irrefl, if_false] at hkj
      have hne : elimAll A k k k ≠ 0 := by grind
      rw [hnew]
      show ((bstep (bAll x k).1 (bAll x k).2 k i j : Int) : Rat) = _ * elimF (elimAll A k) k i j
      unfold bstep elimF
      by_cases e : i = k
      · subst e
        have hlt : i < i + 1 := by omega
        simp only [if_true, hlt]
        rw [hkj, Rat.div_def]
        have := Rat.mul_inv_cancel _ hne
        grind
      · simp only [e, if_false]
        have hcase : (if i < k + 1 then (1 : Rat) else c i) = (if i < k then (1 : Rat) else c i) := by
          by_cases h1 : i < k
          · have : i < k + 1 := by omega
            simp [h1, this]
          · have : ¬ i < k + 1 := by omega
            simp [h1, this]
        rw [hcase]
        generalize (if i < k then (1 : Rat) else c i) = gi at *
        have hdv : (bAll x k).2 ∣ bnum (bAll x k).1 k i j := by
          rw [hcl]; exact cl_dvd x j (by omega) (by omega) e
        obtain ⟨q, hq⟩ := hdv
        have hdne : (bAll x k).2 ≠ 0 := by have := hr.pos; omega
        rw [hq, Int.mul_ediv_cancel_left _ hdne]
        have hq2 : ((bAll x k).2 : Rat) * (q : Rat) = ((bAll x k).1 k k : Rat) * ((bAll x k).1 i j : Rat) - ((bAll x k).1 i k : Rat) * ((bAll x k).1 k j : Rat) := by
          have : (((bAll x k).2 * q : Int) : Rat) = ((bnum (bAll x k).1 k i j : Int) : Rat) := by rw [hq]
          rw [Rat.intCast_mul] at this
          rw [this]
          unfold bnum
          rw [Rat.intCast_sub, Rat.intCast_mul, Rat.intCast_mul]
        rw [hkk, hij, hik, hkj] at hq2
        have hdrne : ((bAll x k).2 : Rat) ≠ 0 := by grind
        apply rat_cancel hdrne
        rw [hq2, Rat.div_def]
        have := Rat.mul_inv_cancel _ hne
        grind
    · intro l0 hl0 hk1
      by_cases e0 : l0 = k + 1
      · subst e0
        apply bAll_cl x (k + 1) (by omega)
        intro l hl
        have h1 := hall l (by omega)
        rw [hcls l (by omega) (by omega)] at h1
        simp only at h1; omega
      · exact hcls l0 (by omega) hk1
    · intro l hl
      by_cases e : l = k + 1
      · subst e; exact hpos
      · exact hall l (by omega)
end SR

set_option maxHeartbeats 2000000
/-! The ground of the walk: the text by places, a def's promise with what a call of it needs, a chain of three comparisons, constants. -/
namespace SR
open PySem PySem.Spec PyProof.Rows L2

def topS (i : Nat) : Stmt := PySem.Challenge.pw_shapedrewards_s01_answers.main.body.getD i (.Pass ⟨0, 0, 0, 0⟩)

section
variable (P : Program) (w : World) (K : PySem.W.Frag) (mg : Str → Option Value) (base : Heap)
/-- a def of the text as the top has left it -/
structure Rw (x : Str) (st : Stmt) where
  f : Addr
  fd : FuncData
  F : Fun K x x st f fd
  g : mg x = some (.ref f)
/-- a def with its promise: all that a call of it needs -/
structure Df (x : Str) (k : Nat) (ps : List Str) (sp : Sp) where
  f : Addr
  fd : FuncData
  ok : FnOk P w K mg base CX0 k f fd ps sp
  g : mg x = some (.ref f)
  kp : PySem.W.keepIn K (.ref f) = true
  b : Binds K fd ps []
end
section
variable {P : Program} {w : World} {K : PySem.W.Frag} {mg : Str → Option Value} {base : Heap}
def Rw.df {x : Str} {st : Stmt} (r : Rw K mg x st) {N ps : List Str} {k : Nat} {sp : Sp} (S : FnScope N ps (defScope st))
    (hb : ∀ (kV doc pm : Value) (an : Option Addr) (cdv ct : Value) (us : List Value), us.length = ps.length → bindArgs (PySem.W.fnOf x x (defArgs st) (defBody st) (defScope st) .none kV doc pm an cdv ct) ⟨us, []⟩ = pure (ps.zip us))
    (len : ∀ vs H Q E, sp vs H Q E → vs.length = ps.length)
    (hbody : ∀ (cdv : Value) (A : Around) (outer : List Env) (s : Shared) (H : Hp) (vs : List V) (Q : VK) (E : XK), Room k (A.deeper (envOfC x (defScope st) s.heap.objs.size r.f cdv)) → sp vs H Q E →
      ∃ t, PSs (cxOf CX0 P w K mg base N x (defScope st) r.f cdv A outer s H E).nox (defBody st) t ∧ t { nx := fun _ H' => Q .non H', rt := Q } (start N vs) H) :
    Df P w K mg base x (k + 1) ps sp :=
  ⟨r.f, r.fd, r.F.ok S len hbody, r.g, r.F.kp, r.F.binds hb⟩
end

section
variable (P : Program) (w : World) (K : PySem.W.Frag) (mg : Str → Option Value) (base : Heap)
/-- a method -/
structure Rwi (x q : Str) (st : Stmt) where
  f : Addr
  fd : FuncData
  F : Fun K x q st f fd
structure Dfi (k : Nat) (ps : List Str) (sp : Sp) where
  f : Addr
  fd : FuncData
  ok : FnOk P w K mg base CX0 k f fd ps sp
  b : Binds K fd ps []
end
section
variable {P : Program} {w : World} {K : PySem.W.Frag} {mg : Str → Option Value} {base : Heap}
def Rwi.df {x q : Str} {st : Stmt} (r : Rwi K x q st) {N ps : List Str} {k : Nat} {sp : Sp} (S : FnScope N ps (defScope st))
    (hb : ∀ (kV doc pm : Value) (an : Option Addr) (cdv ct : Value) (us : List Value), us.length = ps.length → bindArgs (PySem.W.fnOf x q (defArgs st) (defBody st) (defScope st) .none kV doc pm an cdv ct) ⟨us, []⟩ = pure (ps.zip us))
    (len : ∀ vs H Q E, sp vs H Q E → vs.length = ps.length)
    (hbody : ∀ (cdv : Value) (A : Around) (outer : List Env) (s : Shared) (H : Hp) (vs : List V) (Q : VK) (E : XK), Room k (A.deeper (envOfC q (defScope st) s.heap.objs.size r.f cdv)) → sp vs H Q E →
      ∃ t, PSs (cxOf CX0 P w K mg base N q (defScope st) r.f cdv A outer s H E).nox (defBody st) t ∧ t { nx := fun _ H' => Q .non H', rt := Q } (start N vs) H) :
    Dfi P w K mg base (k + 1) ps sp :=
  ⟨r.f, r.fd, r.F.ok S len hbody, r.F.binds hb⟩
end
section
variable {X : Cx} {a b c d : Expr} {ta tb tc td : TE} {pos : Pos}
/-- a whole number that the top names -/
theorem pe_globI {x : Str} {i : Int} (hg : Gl X x) (hm : ∃ t, X.mg x = some (.int i t)) (hd : (x == ("__debug__" : Str)) = false := by decide)
    (hcd : (x == ("__classdict__" : Str)) = false := by decide) : PE X (.Name x pos) (tC (.int i)) := by
  obtain ⟨t, h⟩ := hm
  exact pe_glob hg h ⟨t, rfl⟩ hd
/-- the written part by its own name -/
theorem atK {K : PySem.W.Frag} (P : PySem.W.Frag → Prop) (hK : X.K = K) (h : P X.K) : P K := hK ▸ h
theorem pe_fldK (K : PySem.W.Frag) (hK : X.K = K) {e : Expr} {f : Str} {te : TE} (he : PE X e te) (hb : attributeBase e f X.env (eval e X.env) = eval e X.env) : PE X (.Attribute e f pos) (tFld K te f) := atK (fun K => PE X (.Attribute e f pos) (tFld K te f)) hK (pe_fld he hb)
theorem ix_listK (K : PySem.W.Frag) (hK : X.K = K) : IxR X (rIxL K) := atK (fun K => IxR X (rIxL K)) hK ix_list
theorem ix_tupK (K : PySem.W.Frag) (hK : X.K = K) : IxR X (rIxT K) := atK (fun K => IxR X (rIxT K)) hK ix_tup
theorem op_eqDK (K : PySem.W.Frag) (hK : X.K = K) (hu : X.A.units + 64 < cLine) : OpR X (compareOp .Eq) (rEqD K) := atK (fun K => OpR X (compareOp .Eq) (rEqD K)) hK (op_eqD hu)
theorem op_inK (K : PySem.W.Frag) (hK : X.K = K) : OpR X (compareOp .In) (rIn K false) := atK (fun K => OpR X (compareOp .In) (rIn K false)) hK op_in_seq
def rLen (K : PySem.W.Frag) : List V → Hp → VK → Prop := fun xs H Q => ∃ p ys, xs = [.ref p] ∧ (SqL K H p ys ∨ SqT K H p ys) ∧ Q (.int ys.length) H
def rLst (K : PySem.W.Frag) : List V → Hp → VK → Prop := fun xs H Q => ∃ p ys, xs = [.ref p] ∧ (SqL K H p ys ∨ SqT K H p ys) ∧ ∀ l, H l = none → Q (.ref l) (upd H l (.lst ys))
theorem call_lenK (K : PySem.W.Frag) (hK : X.K = K) : CallR X (.builtin "len") (rLen K) := atK (fun K => CallR X (.builtin "len") (rLen K)) hK call_len_seq
theorem call_listK (K : PySem.W.Frag) (hK : X.K = K) : CallR X (.type "list") (rLst K) := atK (fun K => CallR X (.type "list") (rLst K)) hK call_list_of
theorem cr_sumK (K : PySem.W.Frag) (hK : X.K = K) (hc : X.calm = true) : CallR X (.builtin "sum") (rSum K) := atK (fun K => CallR X (.builtin "sum") (rSum K)) hK (cr_sum hc)
theorem cr_allK (K : PySem.W.Frag) (hK : X.K = K) (hc : X.calm = true) : CallR X (.builtin "all") (rAll K) := atK (fun K => CallR X (.builtin "all") (rAll K)) hK (cr_all hc)
theorem sl_listK (K : PySem.W.Frag) (hK : X.K = K) : SlR X (rSlL K) := atK (fun K => SlR X (rSlL K)) hK sl_list
theorem pe_globR {x : Str} {q : Addr} (hg : Gl X x) (hm : X.mg x = some (.ref q)) (hd : (x == ("__debug__" : Str)) = false := by decide) : PE X (.Name x pos) (tC (.ref q)) := pe_glob hg hm (show RelV (.ref q) (.ref q) from rfl) hd
/-- a, b = a pair -/
def gPair (K : PySem.W.Frag) (a b : Nat) : TG := gTup K 2 (gCons (gName a) (gCons (gName b) gNil))
theorem pg_pairK (K : PySem.W.Frag) (hK : X.K = K) {e1 e2 : Expr} {k i j : Nat} (hc : X.calm = true) (h1 : PG X e1 (gName i)) (h2 : PG X e2 (gName j))
    (hs : (assignEach [e1, e2] X.env).map (·.2) = assign e1 X.env :: (assignEach [e2] X.env).map (·.2) := by rfl) (hs2 : (assignEach [e2] X.env).map (·.2) = assign e2 X.env :: (assignEach [] X.env).map (·.2) := by rfl)
    (hn : (assignEach [e1, e2] X.env).length = 2 := by rfl) (hst : (assignEach [e1, e2] X.env).findIdx? (·.1) = none := by rfl) : PG X (.Tuple [e1, e2] k pos) (gPair K i j) :=
  atK (fun K => PG X (.Tuple [e1, e2] k pos) (gPair K i j)) hK (pg_tup hc (pgs_cons h1 (pgs_cons h2 pgs_nil hs2) hs) hn hst)
def tChain3 (r r' r'' : R2) (ta tb tc td : TE) : TE := fun σ H Q => ta σ H fun x H1 => tb σ H1 fun y H2 => r x y H2 fun z H3 => ∃ k, z = .bl k ∧
  (if k = true then tc σ H3 fun w' H4 => r' y w' H4 fun z2 H5 => ∃ k2, z2 = .bl k2 ∧ (if k2 = true then td σ H5 fun w2 H6 => r'' w' w2 H6 Q else Q (.bl false) H5) else Q (.bl false) H3)
/-- a < b < c <= d -/
theorem pe_chain3 {op op' op'' : CmpOp} {r r' r'' : R2} (ho : OpR X (compareOp op) r) (ho' : OpR X (compareOp op') r') (ho'' : OpR X (compareOp op'') r'') (ha : PE X a ta) (hb : PE X b tb) (hc : PE X c tc) (hd : PE X d td)
    (hm : lastMarks [op, op', op''] [b, c, d] = false := by with_unfolding_all rfl) : PE X (.Compare a [op, op', op''] [b, c, d] pos) (tChain3 r r' r'' ta tb tc td) := by
  refine ⟨fun pins s σ H Q I h => ?_⟩
  refine Compare_chain (thn (ha.run pins s σ H _ I h) fun v s1 ⟨x, H1, I1, r1, q1⟩ => chain_link (thn (hb.run pins s1 σ H1 _ I1 q1) fun u s2 ⟨y, H2, I2, r2, q2⟩ =>
    thn (ho pins s2 σ H2 x y v u _ I2 r1 r2 q2) fun d s3 ⟨z, H3, I3, r3, k, e, q3⟩ => ?_)) hm
  subst e
  cases r3
  refine wpAny_truthy_bool ?_
  cases k with
  | false => exact ite_ff ⟨.bl false, H3, I3, rfl, q3⟩
  | true =>
    refine ite_tt (chain_link (thn (hc.run pins s3 σ H3 _ I3 q3) fun w' s4 ⟨z', H4, I4, r4, q4⟩ => thn (ho' pins s4 σ H4 y z' u w' _ I4 r2 r4 q4) fun d2 s5 ⟨z2, H5, I5, r5, k2, e2, q5⟩ => ?_))
    subst e2
    cases r5
    refine wpAny_truthy_bool ?_
    cases k2 with
    | false => exact ite_ff ⟨.bl false, H5, I5, rfl, q5⟩
    | true => exact ite_tt (chain_last (thn (hd.run pins s5 σ H5 _ I5 q5) fun w2 s6 ⟨z3, H6, I6, r6, q6⟩ => ho'' pins s6 σ H6 z' z3 w' w2 Q I6 r4 r6 q6))
end
end SR

set_option maxHeartbeats 2000000
/-! How a process lies in the heap, and readings in short. -/
namespace SR
open PySem PySem.Spec PyProof.Rows L2 Evl

/-! ### values -/
def iV (l : List Int) : List V := l.map V.int
def nV (l : List Nat) : List V := l.map fun (n : Nat) => V.int (n : Int)
theorem nV_iV (l : List Nat) : nV l = iV (l.map fun (n : Nat) => (n : Int)) := by simp [nV, iV]
theorem iV_len (l : List Int) : (iV l).length = l.length := by simp [iV]
theorem nV_len (l : List Nat) : (nV l).length = l.length := by simp [nV]

/-! ### a process in the heap -/
def flds (p : Kp389.Process) (rr ww : Addr) : List (Str × V) := [("state_count", .int (p.stateCount : Int)), ("action_count", .int (p.actionCount : Int)), ("discount_num", .int (p.discountNum : Int)),
  ("discount_den", .int (p.discountDen : Int)), ("reward_count", .int (Kp389.rewardCount p : Int)), ("rewards", .ref rr), ("weights", .ref ww)]

structure Lay where
  a : Addr
  dx : Addr
  rr : Addr
  r0 : Addr
  r1 : Addr
  ww : Addr
  ws : List Addr

/-- the process p lies at L -/
structure Mdl (C : Addr) (H : Hp) (L : Lay) (p : Kp389.Process) : Prop where
  ins : H L.a = some (.ins C L.dx (flds p L.rr L.ww))
  rr : H L.rr = some (.lst [.ref L.r0, .ref L.r1])
  r0 : H L.r0 = some (.lst (iV p.rewards0))
  r1 : H L.r1 = some (.lst (iV p.rewards1))
  ww : H L.ww = some (.lst (L.ws.map V.ref))
  wl : L.ws.length = p.transitions.length
  ws : ∀ (i : Nat) (x : Addr) (w : List Nat), L.ws[i]? = some x → p.transitions[i]? = some w → H x = some (.lst (nV w))
  nd : [L.rr, L.r0, L.r1, L.ww].Nodup
  sep : ∀ x ∈ L.ws, x ∉ [L.rr, L.r0, L.r1, L.ww]
  wf : WF p

theorem Mdl.mono {C : Addr} {H H' : Hp} {L : Lay} {p : Kp389.Process} (M : Mdl C H L p) (e : Ex H H') : Mdl C H' L p :=
  ⟨e _ _ M.ins, e _ _ M.rr, e _ _ M.r0, e _ _ M.r1, e _ _ M.ww, M.wl, fun i x w h1 h2 => e _ _ (M.ws i x w h1 h2), M.nd, M.sep, M.wf⟩

/-! ### facts of the top -/
structure Txt (K : PySem.W.Frag) (mg : Str → Option Value) (C fi : Addr) : Prop where
  cl : Cls K C
  mkC : Mk K C fi
  gC : mg "Model" = some (.ref C)
  n1 : NoAttr K C "state_count"
  n2 : NoAttr K C "action_count"
  n3 : NoAttr K C "discount_num"
  n4 : NoAttr K C "discount_den"
  n5 : NoAttr K C "reward_count"
  n6 : NoAttr K C "rewards"
  n7 : NoAttr K C "weights"
  n_len : mg "len" = none
  n_all : mg "all" = none
  n_sum : mg "sum" = none
  n_range : mg "range" = none
  n_enumerate : mg "enumerate" = none
  n_zip : mg "zip" = none
  n_list : mg "list" = none
  n_abs : mg "abs" = none
  c_NO_PROCESS : ∃ t, mg "NO_PROCESS" = some (.int (-11) t)
  c_NOT_THERE : ∃ t, mg "NOT_THERE" = some (.int (-2) t)
  c_OUT_OF_LIMITS : ∃ t, mg "OUT_OF_LIMITS" = some (.int (-22) t)
  c_TOO_LARGE : ∃ t, mg "TOO_LARGE" = some (.int (-75) t)
  c_LEAST_GIVEN : ∃ t, mg "LEAST_GIVEN" = some (.int (-1000) t)
  c_GREATEST_GIVEN : ∃ t, mg "GREATEST_GIVEN" = some (.int 1000 t)
  c_LEAST_REWARD : ∃ t, mg "LEAST_REWARD" = some (.int (-100000) t)
  c_GREATEST_REWARD : ∃ t, mg "GREATEST_REWARD" = some (.int 100000 t)
  c_GREATEST_WEIGHT : ∃ t, mg "GREATEST_WEIGHT" = some (.int 9 t)
  c_GREATEST_WORLD_COUNT : ∃ t, mg "GREATEST_WORLD_COUNT" = some (.int 64 t)
  c_NO_WORLD : ∃ t, mg "NO_WORLD" = some (.int (-33) t)
  c_TOO_MANY_WORLDS : ∃ t, mg "TOO_MANY_WORLDS" = some (.int (-75) t)

/-! ### readings in short -/
section
variable {K : PySem.W.Frag} {mg : Str → Option Value} {C fi : Addr} {σ : L2.St} {H H' : Hp} {ta tb tc td te : TE} {L : Lay} {p : Kp389.Process}
theorem lk_here {k : Str} {v : V} {r : List (Str × V)} : List.lookup k ((k, v) :: r) = some v := by
  have e : (k == k) = true := beq_self_eq_true k
  simp only [List.lookup, e]
theorem lk_past {k g : Str} {v : V} {r : List (Str × V)} (h : (k == g) = false) : List.lookup k ((g, v) :: r) = List.lookup k r := by
  simp only [List.lookup, h]
theorem f1 {rr ww : Addr} : (flds p rr ww).lookup ("state_count" : Str) = some (.int (p.stateCount : Int)) := lk_here
theorem f2 {rr ww : Addr} : (flds p rr ww).lookup ("action_count" : Str) = some (.int (p.actionCount : Int)) := (lk_past (by decide +kernel)).trans lk_here
theorem f3 {rr ww : Addr} : (flds p rr ww).lookup ("discount_num" : Str) = some (.int (p.discountNum : Int)) := (lk_past (by decide +kernel)).trans ((lk_past (by decide +kernel)).trans lk_here)
theorem f4 {rr ww : Addr} : (flds p rr ww).lookup ("discount_den" : Str) = some (.int (p.discountDen : Int)) := (lk_past (by decide +kernel)).trans ((lk_past (by decide +kernel)).trans ((lk_past (by decide +kernel)).trans lk_here))
theorem f5 {rr ww : Addr} : (flds p rr ww).lookup ("reward_count" : Str) = some (.int (Kp389.rewardCount p : Int)) :=
  (lk_past (by decide +kernel)).trans ((lk_past (by decide +kernel)).trans ((lk_past (by decide +kernel)).trans ((lk_past (by decide +kernel)).trans lk_here)))
theorem f6 {rr ww : Addr} : (flds p rr ww).lookup ("rewards" : Str) = some (.ref rr) :=
  (lk_past (by decide +kernel)).trans ((lk_past (by decide +kernel)).trans ((lk_past (by decide +kernel)).trans ((lk_past (by decide +kernel)).trans ((lk_past (by decide +kernel)).trans lk_here))))
theorem f7 {rr ww : Addr} : (flds p rr ww).lookup ("weights" : Str) = some (.ref ww) :=
  (lk_past (by decide +kernel)).trans ((lk_past (by decide +kernel)).trans ((lk_past (by decide +kernel)).trans ((lk_past (by decide +kernel)).trans ((lk_past (by decide +kernel)).trans ((lk_past (by decide +kernel)).trans lk_here)))))

/-- a field of an instance -/
theorem ev_fld {a C dx : Addr} {fs : List (Str × V)} {f : Str} {v : V} (h : Ev ta σ H (.ref a)) (ho : H a = some (.ins C dx fs)) (hc : Cls K C) (hn : NoAttr K C f) (hl : fs.lookup f = some v) : Ev (tFld K ta f) σ H v :=
  fun H1 e Q q => h H1 e _ fun H2 e2 => ⟨a, C, dx, fs, v, rfl, e2 _ _ (e _ _ ho), hc, hn, hl, q H2 e2⟩
section
variable (T : Txt K mg C fi) (M : Mdl C H L p) (h : Ev ta σ H (.ref L.a))
include T M h
theorem ev_f1 : Ev (tFld K ta "state_count") σ H (.int (p.stateCount : Int)) := ev_fld h M.ins T.cl T.n1 f1
theorem ev_f2 : Ev (tFld K ta "action_count") σ H (.int (p.actionCount : Int)) := ev_fld h M.ins T.cl T.n2 f2
theorem ev_f3 : Ev (tFld K ta "discount_num") σ H (.int (p.discountNum : Int)) := ev_fld h M.ins T.cl T.n3 f3
theorem ev_f4 : Ev (tFld K ta "discount_den") σ H (.int (p.discountDen : Int)) := ev_fld h M.ins T.cl T.n4 f4
theorem ev_f5 : Ev (tFld K ta "reward_count") σ H (.int (Kp389.rewardCount p : Int)) := ev_fld h M.ins T.cl T.n5 f5
theorem ev_f6 : Ev (tFld K ta "rewards") σ H (.ref L.rr) := ev_fld h M.ins T.cl T.n6 f6
theorem ev_f7 : Ev (tFld K ta "weights") σ H (.ref L.ww) := ev_fld h M.ins T.cl T.n7 f7
end
def rLe : R2 := rI0 fun i j => .bl (decide (i ≤ j))
def rLt : R2 := rI0 fun i j => .bl (decide (i < j))
/-- a chain of two comparisons -/
theorem ev_chain {r r' : R2} {x y z : V} {a b : Bool} (ha : Ev ta σ H x) (hb : Ev tb σ H y) (hc : Ev tc σ H z) (h1 : RV r x y H (.bl a)) (h2 : RV r' y z H (.bl b)) : Ev (tChain r r' ta tb tc) σ H (.bl (a && b)) :=
  fun H1 e Q q => ha H1 e _ fun H2 e2 => hb H2 (e.trans e2) _ fun H3 e3 => h1 H3 ((e.trans e2).trans e3) _ fun H4 e4 => ⟨a, rfl, by
    cases a with
    | true =>
      show tc σ H4 fun w' H4 => r' y w' H4 Q
      exact hc H4 (((e.trans e2).trans e3).trans e4) _ fun H5 e5 => h2 H5 ((((e.trans e2).trans e3).trans e4).trans e5) Q fun H6 e6 => q H6 ((((e2.trans e3).trans e4).trans e5).trans e6)
    | false =>
      show Q (.bl false) H4
      exact q H4 ((e2.trans e3).trans e4)⟩
theorem ev_chain3 {r r' r'' : R2} {x y z w : V} {a b c : Bool} (ha : Ev ta σ H x) (hb : Ev tb σ H y) (hc : Ev tc σ H z) (hd : Ev td σ H w) (h1 : RV r x y H (.bl a)) (h2 : RV r' y z H (.bl b)) (h3 : RV r'' z w H (.bl c)) :
    Ev (tChain3 r r' r'' ta tb tc td) σ H (.bl (a && (b && c))) :=
  fun H1 e Q q => ha H1 e _ fun H2 e2 => hb H2 (e.trans e2) _ fun H3 e3 => h1 H3 ((e.trans e2).trans e3) _ fun H4 e4 => ⟨a, rfl, by
    cases a with
    | false =>
      show Q (.bl false) H4
      exact q H4 ((e2.trans e3).trans e4)
    | true =>
      show tc σ H4 fun w' H4 => r' y w' H4 fun z2 H5 => ∃ k2, z2 = .bl k2 ∧ (if k2 = true then td σ H5 fun w2 H6 => r'' w' w2 H6 Q else Q (.bl false) H5)
      exact hc H4 (((e.trans e2).trans e3).trans e4) _ fun H5 e5 => h2 H5 ((((e.trans e2).trans e3).trans e4).trans e5) _ fun H6 e6 => ⟨b, rfl, by
        cases b with
        | false =>
          show Q (.bl false) H6
          exact q H6 ((((e2.trans e3).trans e4).trans e5).trans e6)
        | true =>
          show td σ H6 fun w2 H6 => r'' z w2 H6 Q
          exact hd H6 (((((e.trans e2).trans e3).trans e4).trans e5).trans e6) _ fun H7 e7 => h3 H7 ((((((e.trans e2).trans e3).trans e4).trans e5).trans e6).trans e7) Q
            fun H8 e8 => q H8 ((((((e2.trans e3).trans e4).trans e5).trans e6).trans e7).trans e8)⟩⟩
end
/-! ### the promises' shapes -/
/-- hands back the value that S tells of its arguments -/
def spV (S : List V → Hp → V → Prop) : Sp := fun vs H Q _ => ∃ v, S vs H v ∧ ∀ H', Ex H H' → Q v H'
/-- hands back a new list that S tells of its arguments -/
def spL (S : List V → Hp → List V → Prop) : Sp := fun vs H Q _ => ∃ xs, S vs H xs ∧ ∀ p H', H p = none → Ex H H' → H' p = some (.lst xs) → Q (.ref p) H'
theorem spV_use {S : List V → Hp → V → Prop} {vs : List V} {H : Hp} {v : V} (h : ∀ H1, Ex H H1 → S vs H1 v) : SpV (spV S) vs H v := fun H1 e Q q _ => ⟨v, h H1 e, q⟩
theorem spL_use {S : List V → Hp → List V → Prop} {vs : List V} {H : Hp} {xs : List V} (h : ∀ H1, Ex H H1 → S vs H1 xs) : SpL (spL S) vs H xs := fun H1 e Q q _ => ⟨xs, h H1 e, q⟩
end SR

set_option maxHeartbeats 2000000
/-! limits.py -/
namespace SR
open PySem PySem.Spec PyProof.Rows L2 Evl
abbrev sCanBeCreated : Stmt := topS 13
theorem scCanBeCreated : FnScope ["state_count", "action_count", "discount_num", "discount_den", "sizes_fit"] ["state_count", "action_count", "discount_num", "discount_den"] (defScope sCanBeCreated) := ⟨rfl, rfl, rfl, by decide +kernel, rfl, by decide +kernel, by decide +kernel⟩
abbrev sTableExists : Stmt := topS 14
theorem scTableExists : FnScope ["table"] ["table"] (defScope sTableExists) := ⟨rfl, rfl, rfl, by decide +kernel, rfl, by decide +kernel, by decide +kernel⟩
abbrev sStateExists : Stmt := topS 15
theorem scStateExists : FnScope ["model", "state"] ["model", "state"] (defScope sStateExists) := ⟨rfl, rfl, rfl, by decide +kernel, rfl, by decide +kernel, by decide +kernel⟩
abbrev sActionExists : Stmt := topS 16
theorem scActionExists : FnScope ["model", "action"] ["model", "action"] (defScope sActionExists) := ⟨rfl, rfl, rfl, by decide +kernel, rfl, by decide +kernel, by decide +kernel⟩
abbrev sChoiceExists : Stmt := topS 17
theorem scChoiceExists : FnScope ["model", "table", "state", "action"] ["model", "table", "state", "action"] (defScope sChoiceExists) := ⟨rfl, rfl, rfl, by decide +kernel, rfl, by decide +kernel, by decide +kernel⟩
abbrev sAllWithin : Stmt := topS 18
theorem scAllWithin : FnScope ["numbers", "least", "greatest", "number"] ["numbers", "least", "greatest"] (defScope sAllWithin) := ⟨rfl, rfl, rfl, by decide +kernel, rfl, by decide +kernel, by decide +kernel⟩
abbrev sCanBeGiven : Stmt := topS 19
theorem scCanBeGiven : FnScope ["numbers", "wanted_count"] ["numbers", "wanted_count"] (defScope sCanBeGiven) := ⟨rfl, rfl, rfl, by decide +kernel, rfl, by decide +kernel, by decide +kernel⟩
abbrev sCanBeRewards : Stmt := topS 20
theorem scCanBeRewards : FnScope ["numbers"] ["numbers"] (defScope sCanBeRewards) := ⟨rfl, rfl, rfl, by decide +kernel, rfl, by decide +kernel, by decide +kernel⟩
abbrev sCanBeWeights : Stmt := topS 21
theorem scCanBeWeights : FnScope ["model", "weights", "fitting"] ["model", "weights"] (defScope sCanBeWeights) := ⟨rfl, rfl, rfl, by decide +kernel, rfl, by decide +kernel, by decide +kernel⟩
abbrev sCanBeNextStates : Stmt := topS 22
theorem scCanBeNextStates : FnScope ["model", "next_states", "state"] ["model", "next_states"] (defScope sCanBeNextStates) := ⟨rfl, rfl, rfl, by decide +kernel, rfl, by decide +kernel, by decide +kernel⟩
abbrev sCanBePolicy : Stmt := topS 23
theorem scCanBePolicy : FnScope ["model", "policy", "action"] ["model", "policy"] (defScope sCanBePolicy) := ⟨rfl, rfl, rfl, by decide +kernel, rfl, by decide +kernel, by decide +kernel⟩

def canBeCreated (a b c d : Int) : Bool := (decide (2 ≤ a) && decide (a ≤ 4)) && (decide (1 ≤ b) && decide (b ≤ 3)) && (decide (1 ≤ c) && (decide (c < d) && decide (d ≤ 10)))
def tableExists (t : Int) : Bool := decide (0 ≤ t) && decide (t ≤ 1)
def isBelow (n : Nat) (i : Int) : Bool := decide (0 ≤ i) && decide (i < n)
def allWithin (l : List Int) (lo hi : Int) : Bool := (l.map fun x => decide (lo ≤ x) && decide (x ≤ hi)).all id

def spCanBeCreated : Sp := spV fun vs _ v => ∃ a b c d : Int, vs = [.int a, .int b, .int c, .int d] ∧ v = .bl (canBeCreated a b c d)
def spTableExists : Sp := spV fun vs _ v => ∃ t : Int, vs = [.int t] ∧ v = .bl (tableExists t)
def spStateExists (C : Addr) : Sp := spV fun vs H v => ∃ (L : Lay) (p : Kp389.Process) (i : Int), vs = [.ref L.a, .int i] ∧ Mdl C H L p ∧ v = .bl (isBelow p.stateCount i)
def spActionExists (C : Addr) : Sp := spV fun vs H v => ∃ (L : Lay) (p : Kp389.Process) (i : Int), vs = [.ref L.a, .int i] ∧ Mdl C H L p ∧ v = .bl (isBelow p.actionCount i)
def spAllWithin (K : PySem.W.Frag) : Sp := spV fun vs H v => ∃ (a : Addr) (l : List Int) (lo hi : Int), vs = [.ref a, .int lo, .int hi] ∧ SqL K H a (iV l) ∧ l.length ≤ 1000 ∧ v = .bl (allWithin l lo hi)

theorem given_all {n : Nat} {v : Nat → V} : given n (fun _ => true) v = (List.range n).map v := by
  unfold given
  rw [List.filter_eq_self.mpr (fun _ _ => rfl)]
theorem et_yes {σ : L2.St} {H : Hp} : EvT tYes σ H true := fun H1 _ _ q => q H1 (Ex.refl H1)
/-- a comprehension over a list, without a test, told by a map -/
theorem el_map {K : PySem.W.Frag} {σ : L2.St} {H : Hp} {α : Type} {te tl : TE} {a : Addr} {j : Nat} {vs : List Nat} {xs : List α} (f : α → V) (g : α → V) (h : Ev tl σ H (.ref a)) (hx : SqL K H a (xs.map f)) (hz : xs.length ≤ 40000) (hw : ∀ x, wipe ((wipe σ vs).set j (some x)) vs = wipe σ vs)
    (he : ∀ (i : Nat) (x : α) H1, Ex H H1 → xs[i]? = some x → Ev te ((wipe σ vs).set j (some (f x))) H1 (g x)) :
    EvL (tLc (iList K tl) (gName j) tYes te vs) σ H (xs.map g) := by
  have e : xs.map g = Evl.given (xs.map f).length (fun _ => true) (fun i => (xs[i]?.map g).getD .non) := by
    rw [given_all, List.length_map]
    apply List.ext_getElem?
    intro i
    by_cases hi : i < xs.length
    · simp [List.getElem?_range hi, List.getElem?_eq_getElem hi]
    · simp [List.getElem?_eq_none (Nat.le_of_not_lt hi), List.getElem?_eq_none (show (List.range xs.length).length ≤ i by simpa using hi)]
  rw [e]
  refine el_lcL (f := fun _ => true) (v := fun i => (xs[i]?.map g).getD .non) h hx (by simpa using hz) hw (fun _ _ _ _ _ => et_yes) ?_
  intro i y H1 e1 hy _
  rw [List.getElem?_map] at hy
  cases e2 : xs[i]? with
  | none => rw [e2] at hy; cases hy
  | some x =>
    rw [e2] at hy
    have : f x = y := Option.some.inj hy
    subst this
    simpa using he i x H1 e1 e2
/-- all(xs) of a new list of truths -/
theorem ev_all {K : PySem.W.Frag} {σ : L2.St} {H : Hp} {te : TE} {bs : List Bool} (h : EvL te σ H (bs.map V.bl)) : Ev (tCB (rAll K) (tCons te tNil)) σ H (.bl (bs.all id)) := fun H1 e Q q =>
  h H1 e _ fun p H2 _ e2 h2 => ⟨p, bs, rfl, sq_of h2, q H2 e2⟩

section
variable {P : Program} {w : World} {K : PySem.W.Frag} {mg : Str → Option Value} {base : Heap} {C fi : Addr}
def dfCanBeCreated (r : Rw K mg "can_be_created" sCanBeCreated) : Df P w K mg base "can_be_created" 1 ["state_count", "action_count", "discount_num", "discount_den"] spCanBeCreated :=
  r.df (k := 0) scCanBeCreated (fun _ _ _ _ _ _ us hl => match us, hl with | [_, _, _, _], _ => rfl)
  (fun vs H Q E h => by obtain ⟨_, ⟨_, _, _, _, rfl, _⟩, _⟩ := h; rfl) (fun cdv A outer s H vs Q E hr h => by
    obtain ⟨_, ⟨a, b, c, d, rfl, rfl⟩, q⟩ := h
    refine ⟨_, (pss_cons (ps_set (i := 4) scCanBeCreated.nd rfl (by first | exact Or.inl rfl | exact Or.inr rfl) (pe_and (pe_chain op_le op_le pe_int (pv 0) pe_int) (pe_one (pe_chain op_le op_le pe_int (pv 1) pe_int))))
      (pss_one (ps_ret (pe_and (pv 4) (pe_one (pe_chain3 op_le op_lt op_le pe_int (pv 2) (pv 3) pe_int)))))), ?_⟩
    refine q_asg (ev_andV (ev_chain ev_c (ev_var rfl) ev_c rv_I0 rv_I0) fun _ => ev_chain ev_c (ev_var rfl) ev_c rv_I0 rv_I0) fun H1 e1 => ?_
    exact s_ret (ev_andV (ev_var rfl) fun _ => ev_chain3 ev_c (ev_var rfl) (ev_var rfl) ev_c rv_I0 rv_I0 rv_I0) fun H2 e2 => q H2 (e1.trans e2))
def dfTableExists (r : Rw K mg "table_exists" sTableExists) : Df P w K mg base "table_exists" 1 ["table"] spTableExists :=
  r.df (k := 0) scTableExists (fun _ _ _ _ _ _ us hl => match us, hl with | [_], _ => rfl)
  (fun vs H Q E h => by obtain ⟨_, ⟨_, rfl, _⟩, _⟩ := h; rfl) (fun cdv A outer s H vs Q E hr h => by
    obtain ⟨_, ⟨t, rfl, rfl⟩, q⟩ := h
    refine ⟨_, (pss_one (ps_ret (pe_chain op_le op_le pe_int (pv 0) pe_int))), ?_⟩
    exact s_ret (ev_chain ev_c (ev_var rfl) ev_c rv_I0 rv_I0) q)
def dfStateExists (T : Txt K mg C fi) (r : Rw K mg "state_exists" sStateExists) : Df P w K mg base "state_exists" 1 ["model", "state"] (spStateExists C) :=
  r.df (k := 0) scStateExists (fun _ _ _ _ _ _ us hl => match us, hl with | [_, _], _ => rfl)
  (fun vs H Q E h => by obtain ⟨_, ⟨_, _, _, rfl, _⟩, _⟩ := h; rfl) (fun cdv A outer s H vs Q E hr h => by
    obtain ⟨_, ⟨L, p, i, rfl, M, rfl⟩, q⟩ := h
    refine ⟨_, (pss_one (ps_ret (pe_chain op_le op_lt pe_int (pv 1) (pe_fldK K (by rfl) (pv 0) (by rfl))))), ?_⟩
    exact s_ret (ev_chain ev_c (ev_var rfl) (ev_f1 T M (ev_var rfl)) rv_I0 rv_I0) q)
def dfActionExists (T : Txt K mg C fi) (r : Rw K mg "action_exists" sActionExists) : Df P w K mg base "action_exists" 1 ["model", "action"] (spActionExists C) :=
  r.df (k := 0) scActionExists (fun _ _ _ _ _ _ us hl => match us, hl with | [_, _], _ => rfl)
  (fun vs H Q E h => by obtain ⟨_, ⟨_, _, _, rfl, _⟩, _⟩ := h; rfl) (fun cdv A outer s H vs Q E hr h => by
    obtain ⟨_, ⟨L, p, i, rfl, M, rfl⟩, q⟩ := h
    refine ⟨_, (pss_one (ps_ret (pe_chain op_le op_lt pe_int (pv 1) (pe_fldK K (by rfl) (pv 0) (by rfl))))), ?_⟩
    exact s_ret (ev_chain ev_c (ev_var rfl) (ev_f2 T M (ev_var rfl)) rv_I0 rv_I0) q)
def spChoiceExists (C : Addr) : Sp := spV fun vs H v => ∃ (L : Lay) (p : Kp389.Process) (t s a : Int), vs = [.ref L.a, .int t, .int s, .int a] ∧ Mdl C H L p ∧ v = .bl (tableExists t && (isBelow p.stateCount s && isBelow p.actionCount a))
def dfChoiceExists (T : Txt K mg C fi) (dTableExists : Df P w K mg base "table_exists" 1 ["table"] spTableExists) (dStateExists : Df P w K mg base "state_exists" 1 ["model", "state"] (spStateExists C)) (dActionExists : Df P w K mg base "action_exists" 1 ["model", "action"] (spActionExists C)) (r : Rw K mg "choice_exists" sChoiceExists) : Df P w K mg base "choice_exists" 2 ["model", "table", "state", "action"] (spChoiceExists C) :=
  r.df (k := 1) scChoiceExists (fun _ _ _ _ _ _ us hl => match us, hl with | [_, _, _, _], _ => rfl)
  (fun vs H Q E h => by obtain ⟨_, ⟨_, _, _, _, _, rfl, _⟩, _⟩ := h; rfl) (fun cdv A outer sh H vs Q E hr h => by
    obtain ⟨_, ⟨L, p, t, s, a, rfl, M, rfl⟩, q⟩ := h
    refine ⟨_, (pss_one (ps_ret (pe_and (pe_call dTableExists.ok (hr.mono (by decide)) rfl dTableExists.g dTableExists.kp dTableExists.b .nil pass0 (pa_cons (pv 1) pa_nil)) (pe_and (pe_call dStateExists.ok (hr.mono (by decide)) rfl dStateExists.g dStateExists.kp dStateExists.b .nil pass0 (pa_cons (pv 0) (pa_cons (pv 2) pa_nil))) (pe_one (pe_call dActionExists.ok (hr.mono (by decide)) rfl dActionExists.g dActionExists.kp dActionExists.b .nil pass0 (pa_cons (pv 0) (pa_cons (pv 3) pa_nil)))))))), ?_⟩
    exact s_ret (ev_andV (ev_call (ea_cons (ev_var rfl) ea_nil) (spV_use fun H1 e1 => ⟨t, rfl, rfl⟩)) fun _ => ev_andV (ev_call (ea_cons (ev_var rfl) (ea_cons (ev_var rfl) ea_nil)) (spV_use fun H1 e1 => ⟨L, p, s, rfl, M.mono e1, rfl⟩)) fun _ =>
      ev_call (ea_cons (ev_var rfl) (ea_cons (ev_var rfl) ea_nil)) (spV_use fun H1 e1 => ⟨L, p, a, rfl, M.mono e1, rfl⟩)) q)
def dfAllWithin (T : Txt K mg C fi) (r : Rw K mg "all_within" sAllWithin) : Df P w K mg base "all_within" 1 ["numbers", "least", "greatest"] (spAllWithin K) :=
  r.df (k := 0) scAllWithin (fun _ _ _ _ _ _ us hl => match us, hl with | [_, _, _], _ => rfl)
  (fun vs H Q E h => by obtain ⟨_, ⟨_, _, _, _, rfl, _⟩, _⟩ := h; rfl) (fun cdv A outer s H vs Q E hr h => by
    obtain ⟨_, ⟨a, l, lo, hi, rfl, hl, hz, rfl⟩, q⟩ := h
    refine ⟨_, (pss_one (ps_ret (pe_callB (cr_allK K (by rfl) rfl) (by rfl) T.n_all (by decide +kernel) (pa_cons (pe_lc (own := [("number", 3)]) (g := gName 3) (tt := tYes) rfl scAllWithin.nd (pi_list (pv 0)) (blkOk_by (N := ["numbers", "least", "greatest", "number"]) (sc := defScope sAllWithin) (by decide +kernel)) (fun _ _ _ _ _ => (pg_name (i := 3) scAllWithin.nd rfl (by first | exact Or.inl rfl | exact Or.inr rfl))) (fun _ _ _ _ _ => pts_nil) (fun _ _ _ _ _ => (pe_chain op_le op_le (pv 1) (pv 3) (pv 2)))) pa_nil)))), ?_⟩
    refine s_ret (ev_all (bs := l.map fun x => decide (lo ≤ x) && decide (x ≤ hi)) ?_) q
    rw [List.map_map]
    refine el_map V.int _ (ev_var rfl) hl (by omega) (fun x => rfl) fun i x H1 e1 hx => ?_
    exact ev_chain (ev_var rfl) (ev_var rfl) (ev_var rfl) rv_I0 rv_I0)
def spCanBeGiven (K : PySem.W.Frag) : Sp := spV fun vs H v => ∃ (a : Addr) (l : List Int) (n : Int), vs = [.ref a, .int n] ∧ SqL K H a (iV l) ∧ l.length ≤ 1000 ∧ v = .bl (decide ((l.length : Int) = n) && allWithin l (-1000) 1000)
def spCanBeRewards (K : PySem.W.Frag) : Sp := spV fun vs H v => ∃ (a : Addr) (l : List Int), vs = [.ref a] ∧ SqL K H a (iV l) ∧ l.length ≤ 1000 ∧ v = .bl (allWithin l (-100000) 100000)
def spCanBeWeights (K : PySem.W.Frag) (C : Addr) : Sp := spV fun vs H v => ∃ (L : Lay) (p : Kp389.Process) (a : Addr) (l : List Int), vs = [.ref L.a, .ref a] ∧ Mdl C H L p ∧ SqL K H a (iV l) ∧ l.length ≤ 1000 ∧
  v = .bl ((decide ((l.length : Int) = (p.stateCount : Int)) && allWithin l 0 9) && decide (0 < l.sum))
def spCanBeNextStates (K : PySem.W.Frag) (C : Addr) : Sp := spV fun vs H v => ∃ (L : Lay) (p : Kp389.Process) (a : Addr) (l : List Int), vs = [.ref L.a, .ref a] ∧ Mdl C H L p ∧ SqL K H a (iV l) ∧ l.length ≤ 1000 ∧
  v = .bl (decide (l.length = p.stateCount * p.actionCount) && (l.map (isBelow p.stateCount)).all id)
theorem rv_eqI {H : Hp} {i j : Int} : RV rEq (.int i) (.int j) H (.bl (decide (i = j))) := fun H1 _ Q q => ⟨rfl, by
  have e : decide (V.int i = V.int j) = decide (i = j) := by rw [dec_int]; rw [Bool.eq_iff_iff]; simp
  rw [e]; exact q H1 (Ex.refl H1)⟩
theorem rv_neI {H : Hp} {i j : Int} : RV rNe (.int i) (.int j) H (.bl (!decide (i = j))) := fun H1 _ Q q => ⟨rfl, by
  have e : decide (V.int i = V.int j) = decide (i = j) := by rw [dec_int]; rw [Bool.eq_iff_iff]; simp
  rw [e]; exact q H1 (Ex.refl H1)⟩
/-- len(xs) as a built-in's call -/
theorem ev_lenL {σ : L2.St} {H : Hp} {te : TE} {a : Addr} {xs : List V} (h : Ev te σ H (.ref a)) (hx : SqL K H a xs) : Ev (tCB (rLen K) (tCons te tNil)) σ H (.int (xs.length : Int)) :=
  fun H1 e Q q => h H1 e _ fun H2 e2 => ⟨a, xs, rfl, Or.inl (ex_l (e.trans e2) hx), q H2 e2⟩
/-- sum(xs) -/
theorem ev_sum {σ : L2.St} {H : Hp} {te : TE} {a : Addr} {l : List Int} (h : Ev te σ H (.ref a)) (hx : SqL K H a (iV l)) : Ev (tCB (rSum K) (tCons te tNil)) σ H (.int l.sum) :=
  fun H1 e Q q => h H1 e _ fun H2 e2 => ⟨a, l, rfl, ex_l (e.trans e2) hx, q H2 e2⟩
theorem mulW_of {i j : Int} {a b : Nat} (hi : i.natAbs < 2 ^ a) (hj : j.natAbs < 2 ^ b) (h0 : 0 < a) (h1 : 0 < b) (h : a + b ≤ 1000000) : CMulW i j := wide_mul hi hj h0 h1 h
def dfCanBeGiven (T : Txt K mg C fi) (dAllWithin : Df P w K mg base "all_within" 1 ["numbers", "least", "greatest"] (spAllWithin K)) (r : Rw K mg "can_be_given" sCanBeGiven) : Df P w K mg base "can_be_given" 2 ["numbers", "wanted_count"] (spCanBeGiven K) :=
  r.df (k := 1) scCanBeGiven (fun _ _ _ _ _ _ us hl => match us, hl with | [_, _], _ => rfl)
  (fun vs H Q E h => by obtain ⟨_, ⟨_, _, _, rfl, _⟩, _⟩ := h; rfl) (fun cdv A outer s H vs Q E hr h => by
    obtain ⟨_, ⟨a, l, n, rfl, hl, hz, rfl⟩, q⟩ := h
    refine ⟨_, (pss_one (ps_ret (pe_and (pe_cmpR op_eq (pe_callB (call_lenK K (by rfl)) (by rfl) T.n_len (by decide +kernel) (pa_cons (pv 0) pa_nil)) (pv 1) (nomark _)) (pe_one (pe_call dAllWithin.ok (hr.mono (by decide)) rfl dAllWithin.g dAllWithin.kp dAllWithin.b .nil pass0 (pa_cons (pv 0) (pa_cons (pe_globI rfl T.c_LEAST_GIVEN) (pa_cons (pe_globI rfl T.c_GREATEST_GIVEN) pa_nil)))))))), ?_⟩
    refine s_ret (ev_andV (ev_op (ev_lenL (ev_var rfl) hl) (ev_var rfl) (by rw [iV_len]; exact rv_eqI)) fun _ => ?_) q
    exact ev_call (ea_cons (ev_var rfl) (ea_cons ev_c (ea_cons ev_c ea_nil))) (spV_use fun H1 e1 => ⟨a, l, -1000, 1000, rfl, ex_l e1 hl, hz, rfl⟩))
def dfCanBeRewards (T : Txt K mg C fi) (dAllWithin : Df P w K mg base "all_within" 1 ["numbers", "least", "greatest"] (spAllWithin K)) (r : Rw K mg "can_be_rewards" sCanBeRewards) : Df P w K mg base "can_be_rewards" 2 ["numbers"] (spCanBeRewards K) :=
  r.df (k := 1) scCanBeRewards (fun _ _ _ _ _ _ us hl => match us, hl with | [_], _ => rfl)
  (fun vs H Q E h => by obtain ⟨_, ⟨_, _, rfl, _⟩, _⟩ := h; rfl) (fun cdv A outer s H vs Q E hr h => by
    obtain ⟨_, ⟨a, l, rfl, hl, hz, rfl⟩, q⟩ := h
    refine ⟨_, (pss_one (ps_ret (pe_call dAllWithin.ok (hr.mono (by decide)) rfl dAllWithin.g dAllWithin.kp dAllWithin.b .nil pass0 (pa_cons (pv 0) (pa_cons (pe_globI rfl T.c_LEAST_REWARD) (pa_cons (pe_globI rfl T.c_GREATEST_REWARD) pa_nil)))))), ?_⟩
    exact s_ret (ev_call (ea_cons (ev_var rfl) (ea_cons ev_c (ea_cons ev_c ea_nil))) (spV_use fun H1 e1 => ⟨a, l, -100000, 100000, rfl, ex_l e1 hl, hz, rfl⟩)) q)
def dfCanBeWeights (T : Txt K mg C fi) (dAllWithin : Df P w K mg base "all_within" 1 ["numbers", "least", "greatest"] (spAllWithin K)) (r : Rw K mg "can_be_weights" sCanBeWeights) : Df P w K mg base "can_be_weights" 2 ["model", "weights"] (spCanBeWeights K C) :=
  r.df (k := 1) scCanBeWeights (fun _ _ _ _ _ _ us hl => match us, hl with | [_, _], _ => rfl)
  (fun vs H Q E h => by obtain ⟨_, ⟨_, _, _, _, rfl, _⟩, _⟩ := h; rfl) (fun cdv A outer s H vs Q E hr h => by
    obtain ⟨_, ⟨L, p, a, l, rfl, M, hl, hz, rfl⟩, q⟩ := h
    refine ⟨_, (pss_cons (ps_set (i := 2) scCanBeWeights.nd rfl (by first | exact Or.inl rfl | exact Or.inr rfl) (pe_and (pe_cmpR op_eq (pe_callB (call_lenK K (by rfl)) (by rfl) T.n_len (by decide +kernel) (pa_cons (pv 1) pa_nil)) (pe_fldK K (by rfl) (pv 0) (by rfl)) (nomark _)) (pe_one (pe_call dAllWithin.ok (hr.mono (by decide)) rfl dAllWithin.g dAllWithin.kp dAllWithin.b .nil pass0 (pa_cons (pv 1) (pa_cons pe_int (pa_cons (pe_globI rfl T.c_GREATEST_WEIGHT) pa_nil)))))))
      (pss_one (ps_ret (pe_and (pv 2) (pe_one (pe_cmpR op_gt (pe_callB (cr_sumK K (by rfl) rfl) (by rfl) T.n_sum (by decide +kernel) (pa_cons (pv 1) pa_nil)) pe_int (nomark _))))))), ?_⟩
    refine q_asg (ev_andV (b := allWithin l 0 9) (ev_op (ev_lenL (ev_var rfl) hl) (ev_f1 T M (ev_var rfl)) (by rw [iV_len]; exact rv_eqI)) fun _ => ?_) fun H1 e1 => ?_
    · exact ev_call (ea_cons (ev_var rfl) (ea_cons ev_c (ea_cons ev_c ea_nil))) (spV_use fun H1 e1 => ⟨a, l, 0, 9, rfl, ex_l e1 hl, hz, rfl⟩)
    · exact s_ret (ev_andV (ev_var rfl) fun _ => ev_op (ev_sum (ev_var rfl) (ex_l e1 hl)) ev_c rv_I0) fun H2 e2 => q H2 (e1.trans e2))
def dfCanBeNextStates (T : Txt K mg C fi) (dStateExists : Df P w K mg base "state_exists" 1 ["model", "state"] (spStateExists C)) (r : Rw K mg "can_be_next_states" sCanBeNextStates) : Df P w K mg base "can_be_next_states" 2 ["model", "next_states"] (spCanBeNextStates K C) :=
  r.df (k := 1) scCanBeNextStates (fun _ _ _ _ _ _ us hl => match us, hl with | [_, _], _ => rfl)
  (fun vs H Q E h => by obtain ⟨_, ⟨_, _, _, _, rfl, _⟩, _⟩ := h; rfl) (fun cdv A outer s H vs Q E hr h => by
    obtain ⟨_, ⟨L, p, a, l, rfl, M, hl, hz, rfl⟩, q⟩ := h
    refine ⟨_, (pss_cons (ps_if (pt_cmpR op_ne (pe_callB (call_lenK K (by rfl)) (by rfl) T.n_len (by decide +kernel) (pa_cons (pv 1) pa_nil)) (pe_op op_mulW (pe_fldK K (by rfl) (pv 0) (by rfl)) (pe_fldK K (by rfl) (pv 0) (by rfl))) (nomark _)) (pss_one (ps_ret pe_bl)) pss_nil)
      (pss_one (ps_ret (pe_callB (cr_allK K (by rfl) rfl) (by rfl) T.n_all (by decide +kernel) (pa_cons (pe_lc (own := [("state", 2)]) (g := gName 2) (tt := tYes) rfl scCanBeNextStates.nd (pi_list (pv 1)) (blkOk_by (N := ["model", "next_states", "state"]) (sc := defScope sCanBeNextStates) (by decide +kernel)) (fun _ _ _ _ _ => (pg_name (i := 2) scCanBeNextStates.nd rfl (by first | exact Or.inl rfl | exact Or.inr rfl))) (fun _ _ _ _ _ => pts_nil) (fun _ _ _ _ _ => (pe_call dStateExists.ok (hr.mono (by decide)) rfl dStateExists.g dStateExists.kp dStateExists.b .nil pass0 (pa_cons (pv 0) (pa_cons (pv 2) pa_nil))))) pa_nil))))), ?_⟩
    have hn := M.wf.n4
    have hm := M.wf.m3
    refine q_when (et_test (ev_op (ev_lenL (ev_var rfl) hl) (ev_op (ev_f1 T M (ev_var rfl)) (ev_f2 T M (ev_var rfl)) (rv_I (mulW_of (a := 64) (b := 64) (by omega) (by omega) (by omega) (by omega) (by omega)))) (by rw [iV_len]; exact rv_neI))) (fun hb H1 e1 => ?_) (fun hb H1 e1 => ?_)
    · have : decide (l.length = p.stateCount * p.actionCount) = false := by
        simp at hb ⊢; intro h; apply hb; rw [h]; simp
      rw [this] at q
      exact s_ret ev_c fun H2 e2 => q H2 (e1.trans e2)
    · have : decide (l.length = p.stateCount * p.actionCount) = true := by
        simp at hb ⊢; exact_mod_cast hb
      rw [this] at q
      refine s_ret (ev_all (bs := l.map (isBelow p.stateCount)) ?_) fun H2 e2 => q H2 (e1.trans e2)
      rw [List.map_map]
      refine el_map V.int _ (ev_var rfl) (ex_l e1 hl) (by omega) (fun x => rfl) fun i x H2 e2 hx => ?_
      exact ev_call (ea_cons (ev_var rfl) (ea_cons (ev_var rfl) ea_nil)) (spV_use fun H3 e3 => ⟨L, p, x, rfl, M.mono ((e1.trans e2).trans e3), rfl⟩))
def spCanBePolicy (K : PySem.W.Frag) (C : Addr) : Sp := spV fun vs H v => ∃ (L : Lay) (p : Kp389.Process) (a : Addr) (l : List Int), vs = [.ref L.a, .ref a] ∧ Mdl C H L p ∧ SqL K H a (iV l) ∧ l.length ≤ 1000 ∧
  v = .bl (decide ((l.length : Int) = (p.stateCount : Int)) && (l.map (isBelow p.actionCount)).all id)
def dfCanBePolicy (T : Txt K mg C fi) (dActionExists : Df P w K mg base "action_exists" 1 ["model", "action"] (spActionExists C)) (r : Rw K mg "can_be_policy" sCanBePolicy) : Df P w K mg base "can_be_policy" 2 ["model", "policy"] (spCanBePolicy K C) :=
  r.df (k := 1) scCanBePolicy (fun _ _ _ _ _ _ us hl => match us, hl with | [_, _], _ => rfl)
  (fun vs H Q E h => by obtain ⟨_, ⟨_, _, _, _, rfl, _⟩, _⟩ := h; rfl) (fun cdv A outer s H vs Q E hr h => by
    obtain ⟨_, ⟨L, p, a, l, rfl, M, hl, hz, rfl⟩, q⟩ := h
    refine ⟨_, (pss_one (ps_ret (pe_and (pe_cmpR op_eq (pe_callB (call_lenK K (by rfl)) (by rfl) T.n_len (by decide +kernel) (pa_cons (pv 1) pa_nil)) (pe_fldK K (by rfl) (pv 0) (by rfl)) (nomark _)) (pe_one (pe_callB (cr_allK K (by rfl) rfl) (by rfl) T.n_all (by decide +kernel) (pa_cons (pe_lc (own := [("action", 2)]) (g := gName 2) (tt := tYes) rfl scCanBePolicy.nd (pi_list (pv 1)) (blkOk_by (N := ["model", "policy", "action"]) (sc := defScope sCanBePolicy) (by decide +kernel)) (fun _ _ _ _ _ => (pg_name (i := 2) scCanBePolicy.nd rfl (by first | exact Or.inl rfl | exact Or.inr rfl))) (fun _ _ _ _ _ => pts_nil) (fun _ _ _ _ _ => (pe_call dActionExists.ok (hr.mono (by decide)) rfl dActionExists.g dActionExists.kp dActionExists.b .nil pass0 (pa_cons (pv 0) (pa_cons (pv 2) pa_nil))))) pa_nil)))))), ?_⟩
    refine s_ret (ev_andV (ev_op (ev_lenL (ev_var rfl) hl) (ev_f1 T M (ev_var rfl)) (by rw [iV_len]; exact rv_eqI)) fun _ => ev_all (bs := l.map (isBelow p.actionCount)) ?_) q
    rw [List.map_map]
    refine el_map V.int _ (ev_var rfl) hl (by omega) (fun x => rfl) fun i x H2 e2 hx => ?_
    exact ev_call (ea_cons (ev_var rfl) (ea_cons (ev_var rfl) ea_nil)) (spV_use fun H3 e3 => ⟨L, p, x, rfl, M.mono (e2.trans e3), rfl⟩))
end
end SR

set_option maxHeartbeats 2000000
/-! Values told by a relation to the heap; comprehensions whose items are objects. -/
namespace SR
open PySem PySem.Spec PyProof.Rows L2 Evl

/-- evaluates to some value that R tells -/
def EvR (te : TE) (σ : L2.St) (H : Hp) (R : V → Hp → Prop) : Prop := ∀ H1, Ex H H1 → ∀ Q : VK, (∀ v H2, Ex H1 H2 → R v H2 → Q v H2) → te σ H1 Q
/-- R stays as the heap grows -/
def Up (R : V → Hp → Prop) : Prop := ∀ v H H', Ex H H' → R v H → R v H'

section
variable {K : PySem.W.Frag} {σ : L2.St} {H H' : Hp} {ta tb te tl : TE} {R R' : V → Hp → Prop} {v x y : V} {D : Ends} {tz : TS}
theorem EvR.mono (e : Ex H H') (h : EvR te σ H R) : EvR te σ H' R := fun H1 a Q q => h H1 (e.trans a) Q q
theorem EvR.imp (h : EvR te σ H R) (i : ∀ v H', Ex H H' → R v H' → R' v H') : EvR te σ H R' := fun H1 a Q q => h H1 a Q fun v H2 e r => q v H2 e (i v H2 (a.trans e) r)
theorem er_of (h : Ev te σ H v) (i : ∀ H', Ex H H' → R v H') : EvR te σ H R := fun H1 a Q q => h H1 a Q fun H2 e => q v H2 e (i H2 (a.trans e))
theorem er_ofL {xs : List V} (h : EvL te σ H xs) (i : ∀ p H', Ex H H' → H' p = some (.lst xs) → R (.ref p) H') : EvR te σ H R := fun H1 a Q q => h H1 a Q fun p H2 _ e r => q (.ref p) H2 e (i p H2 (a.trans e) r)
theorem er_ofU {xs : List V} (h : EvU te σ H xs) (i : ∀ p H', Ex H H' → H' p = some (.tup xs) → R (.ref p) H') : EvR te σ H R := fun H1 a Q q => h H1 a Q fun p H2 _ e r => q (.ref p) H2 e (i p H2 (a.trans e) r)
theorem s_asgR {i : Nat} (h : EvR te σ H R) (k : ∀ v H1, Ex H H1 → R v H1 → D.nx (σ.set i (some v)) H1) : tAsg te (gName i) D σ H := h H (Ex.refl H) _ k
theorem q_asgR {i : Nat} (h : EvR te σ H R) (k : ∀ v H1, Ex H H1 → R v H1 → tz D (σ.set i (some v)) H1) : tSeq (tAsg te (gName i)) tz D σ H := s_asgR (D := { D with nx := tz D }) h k
theorem s_retR (h : EvR te σ H R) (k : ∀ v H1, Ex H H1 → R v H1 → D.rt v H1) : tRet te D σ H := h H (Ex.refl H) _ k
/-- from a value told to what is reckoned of it -/
theorem er_bind {tf : TE → TE} (h : EvR te σ H R) : EvR te σ H R := h

/-- a promise by a relation -/
def spR (S : List V → Hp → (V → Hp → Prop) → Prop) : Sp := fun vs H Q _ => ∃ R, S vs H R ∧ ∀ v H', Ex H H' → R v H' → Q v H'
theorem er_call {S : List V → Hp → (V → Hp → Prop) → Prop} {vs dvs : List V} {E : XK} {ta : TA} (h : EvA ta σ H vs) (hs : ∀ H1, Ex H H1 → S (vs ++ dvs) H1 R) : EvR (tCall (spR S) dvs E ta) σ H R := fun H1 e Q q =>
  h H1 e _ fun H2 e2 => ⟨R, hs H2 (e.trans e2), fun v H3 e3 r => q v H3 (e2.trans e3) r⟩

/-- a comprehension without a test over any walk: the i-th item is as R i tells -/
theorem lc_rel {J : It} {n : Nat} {G : Hp → Prop} {Y : Nat → Hp → V → Hp → Prop} (w : Walk J n G Y) {g : TG} {vs : List Nat} {H1 : Hp} {Dl : Addr} {Qd : Hp → Prop} (R : Nat → V → Hp → Prop) (hR : ∀ i, Up (R i))
    (hD : H1 Dl = none) (hn : n ≤ 40000) (hG : ∀ H', Ex H1 H' → G H')
    (hs : ∀ i x H H', i < n → Ex H1 H → H Dl ≠ none → Y i H x H' → g x (wipe σ vs) H' fun σ2 H2 => wipe σ2 vs = wipe σ vs ∧ Ex H H2 ∧ ∀ Q : VK, (∀ v H3, Ex H2 H3 → R i v H3 → Q v H3) → te σ2 H2 Q)
    (hd : ∀ H' ws, Ex H1 H' → H' Dl = some (.lst ws) → ws.length = n → (∀ i v, ws[i]? = some v → R i v H') → Qd H')
    (hDl : ∀ i v H xs, R i v H → H Dl = some (.lst xs) → ∀ ys, R i v (upd H Dl (.lst ys)))
    (hgm : ∀ x σ0 H0 (Q Q' : L2.St → Hp → Prop), (∀ σ' H', Q σ' H' → Q' σ' H') → g x σ0 H0 Q → g x σ0 H0 Q') :
    ∃ W : Nat → Nat → Hp → Prop, (∃ m, W 0 m (upd H1 Dl (.lst []))) ∧ ∀ i m H, W i m H →
      (J.stop i H ∧ Qd H) ∨ (J.go i H ∧ ∃ Nx : Hp → Prop, (∀ H', Nx H' → ∃ m', m' < m ∧ W (i + 1) m' H') ∧ ∀ x H', J.yld i H x H' → g x (wipe σ vs) H' fun σ2 H2 => wipe σ2 vs = wipe σ vs ∧ tYes σ2 H2 fun b H3 =>
        if b = true then te σ2 H3 fun y H4 => ∃ acc, H4 Dl = some (.lst acc) ∧ acc.length < sizeLine ∧ Nx (upd H4 Dl (.lst (acc ++ [y]))) else Nx H3) := by
  refine lc_it w (fun i H' => Ex H1 H' ∧ ∃ ws, H' Dl = some (.lst ws) ∧ ws.length = i ∧ ∀ k v, ws[k]? = some v → R k v H') ⟨Ex.new hD, [], upd_same, rfl, fun k v h => by simp at h⟩ (fun i H' _ p => hG H' p.1) ?_ ?_
  · rintro i x H H' hi ⟨e1, ws, hw, hl, hr⟩ hy
    refine hgm _ _ _ _ _ ?_ (hs i x H H' hi e1 (by rw [hw]; simp) hy)
    rintro σ2 H2 ⟨h1, h2, h3⟩
    refine ⟨h1, ?_⟩
    show te σ2 H2 _
    refine h3 _ fun v H3 e3 r => ⟨ws, e3 _ _ (h2 _ _ hw), sz_lt (by omega), Ex.mut ((e1.trans h2).trans e3) hD, ws ++ [v], upd_same, by simp [hl], ?_⟩
    intro k u hk
    have hDl3 := e3 _ _ (h2 _ _ hw)
    by_cases hk2 : k < ws.length
    · rw [List.getElem?_append_left hk2] at hk
      exact hDl k u H3 ws (hR k u _ _ (h2.trans e3) (hr k u hk)) hDl3 _
    · have : k = ws.length := by
        have := (List.getElem?_eq_some_iff.mp hk).1
        simp at this; omega
      subst this
      have : u = v := by simpa using hk.symm
      subst this
      rw [hl]; exact hDl i u H3 ws r hDl3 _
  · rintro H' ⟨e1, ws, hw, hl, hr⟩
    exact hd H' ws e1 hw hl hr

theorem gName_mono {j : Nat} : ∀ x σ0 H0 (Q Q' : L2.St → Hp → Prop), (∀ σ' H', Q σ' H' → Q' σ' H') → gName j x σ0 H0 Q → gName j x σ0 H0 Q' := fun _ _ _ _ _ h q => h _ _ q
theorem gPair_mono {a b : Nat} : ∀ x σ0 H0 (Q Q' : L2.St → Hp → Prop), (∀ σ' H', Q σ' H' → Q' σ' H') → gPair K a b x σ0 H0 Q → gPair K a b x σ0 H0 Q' := by
  intro x σ0 H0 Q Q' h q
  obtain ⟨p, xs, e, hs, hl, v, vr, e1, v2, vr2, e2, e3, q⟩ := q
  exact ⟨p, xs, e, hs, hl, v, vr, e1, v2, vr2, e2, e3, h _ _ q⟩
/-- what an item's reading gives -/
def ItR (te : TE) (σ2 : L2.St) (H1 : Hp) (Dl : Addr) (R : V → Hp → Prop) : Prop := ∀ H', Ex H1 H' → H' Dl ≠ none → ∀ Q : VK, (∀ v H3, Ex H' H3 → R v H3 → Q v H3) → te σ2 H' Q

theorem lc_nameR {J : It} {n : Nat} {G : Hp → Prop} {Y : Nat → Hp → V → Hp → Prop} (w : Walk J n G Y) {j : Nat} {vs : List Nat} {H1 : Hp} {Dl : Addr} {Qd : Hp → Prop} (R : Nat → V → Hp → Prop) (hR : ∀ i, Up (R i))
    (hD : H1 Dl = none) (hn : n ≤ 40000) (hG : ∀ H', Ex H1 H' → G H') (X : Nat → V → Prop) (hY : ∀ i H x H', i < n → Y i H x H' → H' = H ∧ X i x) (hw : ∀ x, wipe ((wipe σ vs).set j (some x)) vs = wipe σ vs)
    (he : ∀ i x, i < n → X i x → ItR te ((wipe σ vs).set j (some x)) H1 Dl (R i))
    (hd : ∀ H' ws, Ex H1 H' → H' Dl = some (.lst ws) → ws.length = n → (∀ i v, ws[i]? = some v → R i v H') → Qd H')
    (hDl : ∀ i v H xs, R i v H → H Dl = some (.lst xs) → ∀ ys, R i v (upd H Dl (.lst ys))) :
    ∃ W : Nat → Nat → Hp → Prop, (∃ m, W 0 m (upd H1 Dl (.lst []))) ∧ ∀ i m H, W i m H →
      (J.stop i H ∧ Qd H) ∨ (J.go i H ∧ ∃ Nx : Hp → Prop, (∀ H', Nx H' → ∃ m', m' < m ∧ W (i + 1) m' H') ∧ ∀ x H', J.yld i H x H' → gName j x (wipe σ vs) H' fun σ2 H2 => wipe σ2 vs = wipe σ vs ∧ tYes σ2 H2 fun b H3 =>
        if b = true then te σ2 H3 fun y H4 => ∃ acc, H4 Dl = some (.lst acc) ∧ acc.length < sizeLine ∧ Nx (upd H4 Dl (.lst (acc ++ [y]))) else Nx H3) := by
  refine lc_rel w R hR hD hn hG (fun i x H H' hi e hDn hy => ?_) hd hDl gName_mono
  obtain ⟨rfl, hx⟩ := hY i H x H' hi hy
  exact ⟨hw x, Ex.refl _, fun Q q => he i x hi hx H' e hDn Q q⟩

theorem lc_pairR {J : It} {n : Nat} {G : Hp → Prop} {xs ys : Nat → Option V} (w : Walk J n G (YPair xs ys)) {a b : Nat} {vs : List Nat} {H1 : Hp} {Dl : Addr} {Qd : Hp → Prop} (R : Nat → V → Hp → Prop) (hR : ∀ i, Up (R i))
    (hD : H1 Dl = none) (hn : n ≤ 40000) (hG : ∀ H', Ex H1 H' → G H') (hw : ∀ x y, wipe (((wipe σ vs).set a (some x)).set b (some y)) vs = wipe σ vs)
    (he : ∀ i x y, i < n → xs i = some x → ys i = some y → ItR te (((wipe σ vs).set a (some x)).set b (some y)) H1 Dl (R i))
    (hd : ∀ H' ws, Ex H1 H' → H' Dl = some (.lst ws) → ws.length = n → (∀ i v, ws[i]? = some v → R i v H') → Qd H')
    (hDl : ∀ i v H xs, R i v H → H Dl = some (.lst xs) → ∀ ys, R i v (upd H Dl (.lst ys))) :
    ∃ W : Nat → Nat → Hp → Prop, (∃ m, W 0 m (upd H1 Dl (.lst []))) ∧ ∀ i m H, W i m H →
      (J.stop i H ∧ Qd H) ∨ (J.go i H ∧ ∃ Nx : Hp → Prop, (∀ H', Nx H' → ∃ m', m' < m ∧ W (i + 1) m' H') ∧ ∀ x H', J.yld i H x H' → gPair K a b x (wipe σ vs) H' fun σ2 H2 => wipe σ2 vs = wipe σ vs ∧ tYes σ2 H2 fun b H3 =>
        if b = true then te σ2 H3 fun y H4 => ∃ acc, H4 Dl = some (.lst acc) ∧ acc.length < sizeLine ∧ Nx (upd H4 Dl (.lst (acc ++ [y]))) else Nx H3) := by
  refine lc_rel w R hR hD hn hG (fun i x H H' hi e hDn hy => ?_) hd hDl gPair_mono
  obtain ⟨t, x1, y1, rfl, nT, rfl, hx, hy⟩ := hy
  have eT : Ex H (upd H t (.tup [x1, y1])) := Ex.new nT
  refine ⟨t, [x1, y1], rfl, st_of upd_same, rfl, x1, [y1], rfl, y1, [], rfl, rfl, hw x1 y1, eT, fun Q q => ?_⟩
  refine he i x1 y1 hi hx hy _ (e.trans eT) (fun h => ?_) Q q
  cases hh : H Dl with
  | none => exact hDn hh
  | some o => rw [eT _ _ hh] at h; cases h

/-- a value that is known -/
def RIs (v : V) : V → Hp → Prop := fun x _ => x = v
/-- an object o, fresh from H1 on, or one that H0 has -/
def ROb (old : Bool) (H0 H1 : Hp) (Dl : Addr) (o : HO) : V → Hp → Prop := fun x H => ∃ p, x = .ref p ∧ p ≠ Dl ∧ (H1 p = none ∨ (old = true ∧ H0 p = some o)) ∧ H p = some o
theorem RIs.up {v : V} : Up (RIs v) := fun _ _ _ _ h => h
theorem ROb.up {old : Bool} {H0 H1 : Hp} {Dl : Addr} {o : HO} : Up (ROb old H0 H1 Dl o) := fun x H H' e ⟨p, h1, h2, h3, h4⟩ => ⟨p, h1, h2, h3, e _ _ h4⟩
theorem ROb.dl {old : Bool} {H0 H1 : Hp} {Dl : Addr} {o : HO} {v : V} {H : Hp} (h : ROb old H0 H1 Dl o v H) (ys : List V) : ROb old H0 H1 Dl o v (upd H Dl (.lst ys)) := by
  obtain ⟨p, h1, h2, h3, h4⟩ := h
  exact ⟨p, h1, h2, h3, by rw [upd_ne h2]; exact h4⟩

/-- evaluates to an object: a new one, or (old) one that H has -/
def EvOb (old : Bool) (te : TE) (σ : L2.St) (H : Hp) (o : HO) : Prop := ∀ H1, Ex H H1 → ∀ Q : VK, (∀ p H2, Ex H1 H2 → (H1 p = none ∨ (old = true ∧ H p = some o)) → H2 p = some o → Q (.ref p) H2) → te σ H1 Q
theorem eob_L {old : Bool} {xs : List V} (h : EvL te σ H xs) : EvOb old te σ H (.lst xs) := fun H1 e Q q => h H1 e Q fun p H2 np e2 hp => q p H2 e2 (Or.inl np) hp
theorem eob_U {old : Bool} {xs : List V} (h : EvU te σ H xs) : EvOb old te σ H (.tup xs) := fun H1 e Q q => h H1 e Q fun p H2 np e2 hp => q p H2 e2 (Or.inl np) hp
theorem eob_old {p : Addr} {o : HO} (h : Ev te σ H (.ref p)) (hp : H p = some o) : EvOb true te σ H o := fun H1 e Q q => h H1 e Q fun H2 e2 => q p H2 e2 (Or.inr ⟨rfl, hp⟩) (e2 _ _ (e _ _ hp))
theorem EvOb.it {old : Bool} {o : HO} {H0 H1 : Hp} {Dl : Addr} (h : EvOb old te σ H0 o) (e0 : Ex H0 H1) (hD : H1 Dl = none) : ItR te σ H1 Dl (ROb old H0 H1 Dl o) := fun H' e hDn Q q =>
  h H' (e0.trans e) Q fun p H2 e2 hp h2 => q _ H2 e2 ⟨p, rfl, (by
    rcases hp with hp | ⟨_, hp⟩
    · intro h; subst h; exact hDn hp
    · intro h; subst h; rw [e0 _ _ hp] at hD; cases hD), (by
    rcases hp with hp | hp
    · exact Or.inl (fresh_back e hp)
    · exact Or.inr hp), h2⟩
theorem ev_it {v : V} {H0 H1 : Hp} {Dl : Addr} (h : Ev te σ H0 v) (e0 : Ex H0 H1) : ItR te σ H1 Dl (RIs v) := fun H' e _ Q q => h H' (e0.trans e) Q fun H2 e2 => q v H2 e2 rfl

/-- evaluates to a new list of such objects -/
def EvLO (old : Bool) (te : TE) (σ : L2.St) (H : Hp) (n : Nat) (o : Nat → HO) : Prop := ∀ H1, Ex H H1 → ∀ Q : VK, (∀ (p : Addr) (ws : List Addr) H2, H1 p = none → Ex H1 H2 → ws.length = n → H2 p = some (.lst (ws.map V.ref)) →
  (∀ (i : Nat) (q : Addr), ws[i]? = some q → q ≠ p ∧ (H1 q = none ∨ (old = true ∧ H q = some (o i))) ∧ H2 q = some (o i)) → Q (.ref p) H2) → te σ H1 Q
theorem refs_of {ws : List V} {n : Nat} {H : Hp} {R : Nat → Addr → Prop} (hl : ws.length = n) (h : ∀ i v, ws[i]? = some v → ∃ p, v = V.ref p ∧ R i p) : ∃ ps : List Addr, ws = ps.map V.ref ∧ ps.length = n ∧ ∀ (i : Nat) (p : Addr), ps[i]? = some p → R i p := by
  induction ws generalizing n R with
  | nil => exact ⟨[], rfl, hl, fun i p h => by simp at h⟩
  | cons x r ih =>
    obtain ⟨p, rfl, hp⟩ := h 0 x rfl
    obtain ⟨ps, e, hn, hr⟩ := ih (n := r.length) (R := fun i => R (i + 1)) rfl (fun i v hv => h (i + 1) v hv)
    refine ⟨p :: ps, by rw [e]; rfl, by simp [hn] at hl ⊢; exact hl, fun i q hq => ?_⟩
    cases i with
    | zero => have : p = q := by simpa using hq
              subst this; exact hp
    | succ i => exact hr i q (by simpa using hq)

section
variable {old : Bool} {n : Nat} {o : Nat → HO} {vs : List Nat} {j a b : Nat}
theorem lo_end {H0 H1 : Hp} {Dl : Addr} {Q : VK} (e0 : Ex H0 H1) (hD : H1 Dl = none) {H0' : Hp} (e00 : Ex H0' H0)
    (q : ∀ (p : Addr) (ws : List Addr) H2, H0 p = none → Ex H0 H2 → ws.length = n → H2 p = some (.lst (ws.map V.ref)) → (∀ (i : Nat) (q : Addr), ws[i]? = some q → q ≠ p ∧ (H0 q = none ∨ (old = true ∧ H0' q = some (o i))) ∧ H2 q = some (o i)) → Q (.ref p) H2) :
    ∀ H' ws, Ex H1 H' → H' Dl = some (.lst ws) → ws.length = n → (∀ i v, ws[i]? = some v → ROb old H0' H1 Dl (o i) v H') → Q (.ref Dl) H' := fun H' ws e hw hl hr => by
  obtain ⟨ps, rfl, hn, h⟩ := refs_of (H := H') (R := fun i p => p ≠ Dl ∧ (H1 p = none ∨ (old = true ∧ H0' p = some (o i))) ∧ H' p = some (o i)) hl hr
  refine q Dl ps H' (fresh_back e0 hD) (e0.trans e) hn hw fun i p hp => ?_
  obtain ⟨h1, h2, h3⟩ := h i p hp
  exact ⟨h1, h2.imp (fresh_back e0) id, h3⟩
/-- objects, over a range -/
theorem elo_R {ta : TA} (h : EvA ta σ H [.int (n : Int)]) (hz : n ≤ 40000) (hw : ∀ x, wipe ((wipe σ vs).set j (some x)) vs = wipe σ vs)
    (he : ∀ i, i < n → EvOb old te ((wipe σ vs).set j (some (.int (i : Int)))) H (o i)) : EvLO old (tLc (iRng1 ta) (gName j) tYes te vs) σ H n o := fun H0 e Q q => h H0 e _ fun H1 e1 => ⟨(n : Int), rfl, by omega, by omega, fun Dl hD =>
  lc_nameR (walk_range (lo := 0) (n := (n : Int).toNat)) (fun i => ROb old H H1 Dl (o i)) (fun i => ROb.up) hD (by omega) (fun _ _ => trivial) (fun i x => x = .int (i : Int)) (fun i H x H' _ y => ⟨y.1, by rw [y.2]; simp⟩) hw
    (fun i x hi hx => by subst hx; exact (he i (by simpa using hi)).it (e.trans e1) hD) (fun H' ws a b c d => lo_end e1 hD e q H' ws a b (by simpa using c) d) (fun i v H xs r _ ys => r.dl ys)⟩
/-- objects, over a list -/
theorem elo_L {p : Addr} {xs : List V} (h : Ev tl σ H (.ref p)) (hx : SqL K H p xs) (hz : xs.length ≤ 40000) (hw : ∀ x, wipe ((wipe σ vs).set j (some x)) vs = wipe σ vs)
    (he : ∀ (i : Nat) x, xs[i]? = some x → EvOb old te ((wipe σ vs).set j (some x)) H (o i)) : EvLO old (tLc (iList K tl) (gName j) tYes te vs) σ H xs.length o := fun H0 e Q q => h H0 e _ fun H1 e1 => ⟨p, rfl, ⟨xs, ex_l (e.trans e1) hx⟩, fun Dl hD =>
  lc_nameR walk_list (fun i => ROb old H H1 Dl (o i)) (fun i => ROb.up) hD hz (fun H' e' => ex_l ((e.trans e1).trans e') hx) (fun i x => xs[i]? = some x) (fun i H x H' _ y => y) hw
    (fun i x hi hx => (he i x hx).it (e.trans e1) hD) (lo_end e1 hD e q) (fun i v H xs r _ ys => r.dl ys)⟩
/-- objects, over enumerate(list) -/
theorem elo_E {ta : TA} {p : Addr} {xs : List V} (h : EvA ta σ H [.ref p]) (hx : SqL K H p xs) (hz : xs.length ≤ 40000) (hw : ∀ x y, wipe (((wipe σ vs).set a (some x)).set b (some y)) vs = wipe σ vs)
    (he : ∀ (i : Nat) x, xs[i]? = some x → EvOb old te (((wipe σ vs).set a (some (.int (i : Int)))).set b (some x)) H (o i)) : EvLO old (tLc (iEnum K ta) (gPair K a b) tYes te vs) σ H xs.length o := fun H0 e Q q => h H0 e _ fun H1 e1 => ⟨p, xs, rfl, ex_l (e.trans e1) hx, fun Dl hD =>
  lc_pairR walk_enum (fun i => ROb old H H1 Dl (o i)) (fun i => ROb.up) hD hz (fun H' e' => ex_l ((e.trans e1).trans e') hx) hw
    (fun i x y hi hx hy => by have : V.int (i : Nat) = x := Option.some.inj hx
                              subst this; exact (he i y hy).it (e.trans e1) hD) (lo_end e1 hD e q) (fun i v H xs r _ ys => r.dl ys)⟩
/-- objects, over zip(list, list) -/
theorem elo_Z {ta : TA} {p1 p2 : Addr} {xs ys : List V} (h : EvA ta σ H [.ref p1, .ref p2]) (hx : SqL K H p1 xs) (hy : SqL K H p2 ys) (hn : n = min xs.length ys.length) (hz : n ≤ 40000) (hw : ∀ x y, wipe (((wipe σ vs).set a (some x)).set b (some y)) vs = wipe σ vs)
    (he : ∀ (i : Nat) x y, xs[i]? = some x → ys[i]? = some y → EvOb old te (((wipe σ vs).set a (some x)).set b (some y)) H (o i)) : EvLO old (tLc (iZip K ta) (gPair K a b) tYes te vs) σ H n o := fun H0 e Q q => h H0 e _ fun H1 e1 => ⟨p1, p2, xs, ys, rfl, ex_l (e.trans e1) hx, ex_l (e.trans e1) hy, fun Dl hD =>
  lc_pairR (walk_zip hn) (fun i => ROb old H H1 Dl (o i)) (fun i => ROb.up) hD hz (fun H' e' => ⟨ex_l ((e.trans e1).trans e') hx, ex_l ((e.trans e1).trans e') hy⟩) hw
    (fun i x y hi hx hy => (he i x y hx hy).it (e.trans e1) hD) (lo_end e1 hD e q) (fun i v H xs r _ ys => r.dl ys)⟩
theorem lv_end {H0 H1 : Hp} {Dl : Addr} {Q : VK} {v : Nat → V} (e0 : Ex H0 H1) (hD : H1 Dl = none) (q : ∀ p H2, H0 p = none → Ex H0 H2 → H2 p = some (.lst ((List.range n).map v)) → Q (.ref p) H2) :
    ∀ H' ws, Ex H1 H' → H' Dl = some (.lst ws) → ws.length = n → (∀ i x, ws[i]? = some x → RIs (v i) x H') → Q (.ref Dl) H' := fun H' ws e hw hl hr => by
  refine q Dl H' (fresh_back e0 hD) (e0.trans e) ?_
  rw [hw]; congr 2
  apply List.ext_getElem
  · simp [hl]
  · intro i h1 h2
    have h3 : ws[i] = v i := hr i ws[i] (List.getElem?_eq_getElem h1)
    simpa using h3
/-- values, over zip(list, list) -/
theorem el_Z {ta : TA} {p1 p2 : Addr} {xs ys : List V} (v : Nat → V) (h : EvA ta σ H [.ref p1, .ref p2]) (hx : SqL K H p1 xs) (hy : SqL K H p2 ys) (hn : n = min xs.length ys.length) (hz : n ≤ 40000) (hw : ∀ x y, wipe (((wipe σ vs).set a (some x)).set b (some y)) vs = wipe σ vs)
    (he : ∀ (i : Nat) x y, xs[i]? = some x → ys[i]? = some y → Ev te (((wipe σ vs).set a (some x)).set b (some y)) H (v i)) : EvL (tLc (iZip K ta) (gPair K a b) tYes te vs) σ H ((List.range n).map v) := fun H0 e Q q => h H0 e _ fun H1 e1 => ⟨p1, p2, xs, ys, rfl, ex_l (e.trans e1) hx, ex_l (e.trans e1) hy, fun Dl hD =>
  lc_pairR (walk_zip hn) (fun i => RIs (v i)) (fun i => RIs.up) hD hz (fun H' e' => ⟨ex_l ((e.trans e1).trans e') hx, ex_l ((e.trans e1).trans e') hy⟩) hw
    (fun i x y hi hx hy => ev_it (he i x y hx hy) (e.trans e1)) (lv_end e1 hD q) (fun i v H xs r _ ys => r)⟩
/-- values, over enumerate(list) -/
theorem el_E {ta : TA} {p : Addr} {xs : List V} (v : Nat → V) (h : EvA ta σ H [.ref p]) (hx : SqL K H p xs) (hz : xs.length ≤ 40000) (hw : ∀ x y, wipe (((wipe σ vs).set a (some x)).set b (some y)) vs = wipe σ vs)
    (he : ∀ (i : Nat) x, xs[i]? = some x → Ev te (((wipe σ vs).set a (some (.int (i : Int)))).set b (some x)) H (v i)) : EvL (tLc (iEnum K ta) (gPair K a b) tYes te vs) σ H ((List.range xs.length).map v) := fun H0 e Q q => h H0 e _ fun H1 e1 => ⟨p, xs, rfl, ex_l (e.trans e1) hx, fun Dl hD =>
  lc_pairR walk_enum (fun i => RIs (v i)) (fun i => RIs.up) hD hz (fun H' e' => ex_l ((e.trans e1).trans e') hx) hw
    (fun i x y hi hx hy => by have : V.int (i : Nat) = x := Option.some.inj hx
                              subst this; exact ev_it (he i y hy) (e.trans e1)) (lv_end e1 hD q) (fun i v H xs r _ ys => r)⟩
end
end
end SR

set_option maxHeartbeats 2000000
/-! model.py -/
namespace SR
open PySem PySem.Spec PyProof.Rows L2 Evl
abbrev sCertain : Stmt := topS 27
theorem scCertain : FnScope ["state_count", "following", "state"] ["state_count", "following"] (defScope sCertain) := ⟨rfl, rfl, rfl, by decide +kernel, rfl, by decide +kernel, by decide +kernel⟩
abbrev sTransitionPlace : Stmt := topS 30
theorem scTransitionPlace : FnScope ["model", "state", "action"] ["model", "state", "action"] (defScope sTransitionPlace) := ⟨rfl, rfl, rfl, by decide +kernel, rfl, by decide +kernel, by decide +kernel⟩
abbrev sRewardPlace : Stmt := topS 31
theorem scRewardPlace : FnScope ["model", "state", "action", "following"] ["model", "state", "action", "following"] (defScope sRewardPlace) := ⟨rfl, rfl, rfl, by decide +kernel, rfl, by decide +kernel, by decide +kernel⟩
abbrev sModelInit : Stmt := inClass (topS 26) 0
theorem scModelInit : FnScope ["self", "state_count", "action_count", "discount_num", "discount_den", "place"] ["self", "state_count", "action_count", "discount_num", "discount_den"] (defScope sModelInit) := ⟨rfl, rfl, rfl, by decide +kernel, rfl, by decide +kernel, by decide +kernel⟩

/-- the weights by which one next state alone comes -/
def certainL (n : Nat) (f : Int) : List Int := (List.range n).map fun (i : Nat) => if (i : Int) = f then 1 else 0
def spCertain : Sp := spL fun vs _ xs => ∃ (n : Nat) (f : Int), vs = [.int (n : Int), .int f] ∧ n ≤ 1000 ∧ xs = iV (certainL n f)
def spTransitionPlace (C : Addr) : Sp := spV fun vs H v => ∃ (L : Lay) (p : Kp389.Process) (s a : Nat), vs = [.ref L.a, .int (s : Int), .int (a : Int)] ∧ Mdl C H L p ∧ s ≤ 1000 ∧ a ≤ 1000 ∧ v = .int ((s * p.actionCount + a : Nat) : Int)
def spRewardPlace (C : Addr) : Sp := spV fun vs H v => ∃ (L : Lay) (p : Kp389.Process) (s a q : Nat), vs = [.ref L.a, .int (s : Int), .int (a : Int), .int (q : Int)] ∧ Mdl C H L p ∧ s ≤ 1000 ∧ a ≤ 1000 ∧ v = .int (Kp389.index p s a q : Int)

/-- a comprehension over a range, without a test, told by a map -/
theorem el_mapR {σ : L2.St} {H : Hp} {te : TE} {ta : TA} {j : Nat} {vs : List Nat} {n : Nat} (g : Nat → V) (h : EvA ta σ H [.int (n : Int)]) (hz : n ≤ 40000) (hw : ∀ x, wipe ((wipe σ vs).set j (some x)) vs = wipe σ vs)
    (he : ∀ (i : Nat) H1, Ex H H1 → i < n → Ev te ((wipe σ vs).set j (some (.int (i : Int)))) H1 (g i)) :
    EvL (tLc (iRng1 ta) (gName j) tYes te vs) σ H ((List.range n).map g) := by
  have := el_lcR1 (te := te) (t := tYes) (vs := vs) (j := j) (n := (n : Int)) (fun _ => true) g h (by omega) hw (fun _ _ _ _ => et_yes) (fun i H1 e hi _ => he i H1 e (by omega))
  rw [given_all] at this
  simpa using this
theorem ev_mul {σ : L2.St} {H : Hp} {ta tb : TE} {i j : Int} (ha : Ev ta σ H (.int i)) (hb : Ev tb σ H (.int j)) (hi : i.natAbs < 2 ^ 64) (hj : j.natAbs < 2 ^ 64) : Ev (tOp (rI CMulW fun i j => .int (i * j)) ta tb) σ H (.int (i * j)) :=
  ev_op ha hb (rv_I (mulW_of (a := 64) (b := 64) hi hj (by omega) (by omega) (by omega)))
theorem ev_add {σ : L2.St} {H : Hp} {ta tb : TE} {i j : Int} (ha : Ev ta σ H (.int i)) (hb : Ev tb σ H (.int j)) : Ev (tOp (rI0 fun i j => .int (i + j)) ta tb) σ H (.int (i + j)) := ev_op ha hb rv_I0
theorem ev_sub {σ : L2.St} {H : Hp} {ta tb : TE} {i j : Int} (ha : Ev ta σ H (.int i)) (hb : Ev tb σ H (.int j)) : Ev (tOp (rI0 fun i j => .int (i - j)) ta tb) σ H (.int (i - j)) := ev_op ha hb rv_I0
theorem place_le {p : Kp389.Process} (h : WF p) {s a : Nat} (hs : s ≤ 1000) (ha : a ≤ 1000) : s * p.actionCount + a ≤ 4000 := by
  have := h.m3
  have h2 : s * p.actionCount ≤ 1000 * 3 := Nat.mul_le_mul hs this
  omega

section
variable {P : Program} {w : World} {K : PySem.W.Frag} {mg : Str → Option Value} {base : Heap} {C fi : Addr}
def dfCertain (T : Txt K mg C fi) (r : Rw K mg "certain" sCertain) : Df P w K mg base "certain" 1 ["state_count", "following"] spCertain :=
  r.df (k := 0) scCertain (fun _ _ _ _ _ _ us hl => match us, hl with | [_, _], _ => rfl)
  (fun vs H Q E h => by obtain ⟨_, ⟨_, _, rfl, _⟩, _⟩ := h; rfl) (fun cdv A outer s H vs Q E hr h => by
    obtain ⟨_, ⟨n, f, rfl, hn, rfl⟩, q⟩ := h
    refine ⟨_, (pss_one (ps_ret (pe_lc (own := [("state", 2)]) (g := gName 2) (tt := tYes) rfl scCertain.nd (pi_range1 rfl T.n_range (pa_cons (pv 0) pa_nil)) (blkOk_by (N := ["state_count", "following", "state"]) (sc := defScope sCertain) (by decide +kernel)) (fun _ _ _ _ _ => (pg_name (i := 2) scCertain.nd rfl (by first | exact Or.inl rfl | exact Or.inr rfl))) (fun _ _ _ _ _ => pts_nil) (fun _ _ _ _ _ => (pe_ifExp (pt_cmpR op_eq (pv 2) (pv 1) (nomark _)) pe_int pe_int))))), ?_⟩
    refine s_retL ?_ q
    unfold iV certainL
    rw [List.map_map]
    refine el_mapR _ (ea_cons (ev_var rfl) ea_nil) (by omega) (fun x => rfl) fun i H1 e1 hi => ?_
    refine ev_if (et_test (ev_op (ev_var rfl) (ev_var rfl) rv_eqI)) (fun hb => ?_) (fun hb => ?_)
    · have hb : (i : Int) = f := by simpa using hb
      simp only [Function.comp, hb, if_true]; exact ev_c
    · have hb : ¬ (i : Int) = f := by simpa using hb
      simp only [Function.comp, hb, if_false]; exact ev_c)
def dfTransitionPlace (T : Txt K mg C fi) (r : Rw K mg "transition_place" sTransitionPlace) : Df P w K mg base "transition_place" 1 ["model", "state", "action"] (spTransitionPlace C) :=
  r.df (k := 0) scTransitionPlace (fun _ _ _ _ _ _ us hl => match us, hl with | [_, _, _], _ => rfl)
  (fun vs H Q E h => by obtain ⟨_, ⟨_, _, _, _, rfl, _⟩, _⟩ := h; rfl) (fun cdv A outer s H vs Q E hr h => by
    obtain ⟨_, ⟨L, p, s, a, rfl, M, hs, ha, rfl⟩, q⟩ := h
    refine ⟨_, (pss_one (ps_ret (pe_op op_add (pe_op op_mulW (pv 1) (pe_fldK K (by rfl) (pv 0) (by rfl))) (pv 2)))), ?_⟩
    have hm := M.wf.m3
    rw [Int.natCast_add, Int.natCast_mul] at q
    exact s_ret (ev_add (ev_mul (ev_var rfl) (ev_f2 T M (ev_var rfl)) (by omega) (by omega)) (ev_var rfl)) q)
def dfRewardPlace (T : Txt K mg C fi) (dTransitionPlace : Df P w K mg base "transition_place" 1 ["model", "state", "action"] (spTransitionPlace C)) (r : Rw K mg "reward_place" sRewardPlace) : Df P w K mg base "reward_place" 2 ["model", "state", "action", "following"] (spRewardPlace C) :=
  r.df (k := 1) scRewardPlace (fun _ _ _ _ _ _ us hl => match us, hl with | [_, _, _, _], _ => rfl)
  (fun vs H Q E h => by obtain ⟨_, ⟨_, _, _, _, _, rfl, _⟩, _⟩ := h; rfl) (fun cdv A outer s H vs Q E hr h => by
    obtain ⟨_, ⟨L, p, s, a, n, rfl, M, hs, ha, rfl⟩, q⟩ := h
    refine ⟨_, (pss_one (ps_ret (pe_op op_add (pe_op op_mulW (pe_call dTransitionPlace.ok (hr.mono (by decide)) rfl dTransitionPlace.g dTransitionPlace.kp dTransitionPlace.b .nil pass0 (pa_cons (pv 0) (pa_cons (pv 1) (pa_cons (pv 2) pa_nil)))) (pe_fldK K (by rfl) (pv 0) (by rfl))) (pv 3)))), ?_⟩
    have hn := M.wf.n4
    have hl := place_le M.wf hs ha
    have e : (Kp389.index p s a n : Int) = ((s * p.actionCount + a : Nat) : Int) * (p.stateCount : Int) + (n : Int) := by
      unfold Kp389.index; rw [Int.natCast_add, Int.natCast_mul]
    rw [e] at q
    refine s_ret (ev_add (ev_mul ?_ (ev_f1 T M (ev_var rfl)) (by omega) (by omega)) (ev_var rfl)) q
    exact ev_call (ea_cons (ev_var rfl) (ea_cons (ev_var rfl) (ea_cons (ev_var rfl) ea_nil))) (spV_use fun H1 e1 => ⟨L, p, s, a, rfl, M.mono e1, hs, ha, rfl⟩))
end
/-- xs * k, the list new -/
theorem el_rep {σ : L2.St} {H : Hp} {ta tb : TE} {xs : List V} {k : Nat} (ha : EvL ta σ H xs) (hb : Ev tb σ H (.int (k : Int))) (hk : k ≤ 10000) (hx : xs.length ≤ 1) : EvL (tOp rRep ta tb) σ H (List.replicate k xs).flatten := fun H1 e Q q =>
  ha H1 e _ fun p H2 np e2 hp => hb H2 (e.trans e2) _ fun H3 e3 => ⟨p, (k : Int), xs, rfl, rfl, e3 _ _ hp, by omega, by omega, sz_of (by
    have : xs.length * (k : Int).toNat ≤ 1 * k := Nat.mul_le_mul hx (by simp)
    omega), fun r hr => q r _ (fresh_back (e2.trans e3) hr) ((e2.trans e3).trans (Ex.new hr)) (by rw [upd_same]; simp)⟩
theorem rep_one {α : Type} (k : Nat) (x : α) : (List.replicate k [x]).flatten = List.replicate k x := by
  induction k with
  | zero => rfl
  | succ k ih => rw [List.replicate_succ, List.flatten_cons, ih]; rfl

def okNew (n m g h : Nat) : Prop := 2 ≤ n ∧ n ≤ 4 ∧ 1 ≤ m ∧ m ≤ 3 ∧ 1 ≤ g ∧ g < h ∧ h ≤ 10
theorem certain_nat (n s : Nat) : iV (certainL n (s : Int)) = nV ((List.range n).map fun q => if q = s then 1 else 0) := by
  unfold iV nV certainL
  rw [List.map_map, List.map_map]
  apply List.map_congr_left
  intro q _
  by_cases h : q = s
  · subst h; simp
  · have : ¬ (q : Int) = (s : Int) := by omega
    simp [h, this]
theorem fm_len {α : Type} {m : Nat} (f : Nat → α) (n : Nat) : ((List.range n).flatMap fun s => List.replicate m (f s)).length = n * m := by
  simp only [List.length_flatMap, List.length_replicate]
  rw [List.map_const', List.length_range, List.sum_replicate_nat]
theorem newTrans_len (n m g h : Nat) : (Kp389.newProcess n m g h).transitions.length = n * m := by
  exact fm_len (fun s => (List.range n).map fun q => if q = s then 1 else 0) n
theorem flatMap_at {α : Type} {m : Nat} (f : Nat → α) (hm : 0 < m) : ∀ (n i : Nat), i < n * m → ((List.range n).flatMap fun s => List.replicate m (f s))[i]? = some (f (i / m)) := by
  intro n
  induction n with
  | zero => intro i hi; omega
  | succ n ih =>
    intro i hi
    rw [List.range_succ, List.flatMap_append]
    by_cases h : i < n * m
    · rw [List.getElem?_append_left (by rw [fm_len]; exact h)]
      exact ih i h
    · have hl := fm_len (m := m) f n
      rw [List.getElem?_append_right (by rw [hl]; omega), hl]
      have h2 : (n + 1) * m = n * m + m := Nat.succ_mul n m
      have h3 : i / m = n := by
        apply Nat.div_eq_of_lt_le
        · omega
        · rw [Nat.succ_mul]; omega
      simp only [List.flatMap_cons, List.flatMap_nil, List.append_nil]
      rw [List.getElem?_replicate, if_pos (by omega), h3]
theorem newTrans_at {n m g h i : Nat} (hm : 0 < m) (hi : i < n * m) : (Kp389.newProcess n m g h).transitions[i]? = some ((List.range n).map fun q => if q = i / m then 1 else 0) :=
  flatMap_at (fun s => (List.range n).map fun q => if q = s then 1 else 0) hm n i hi
theorem unit_any (n s : Nat) (hs : s < n) : ((List.range n).map fun q => if q = s then 1 else 0).any (fun x => decide (0 < x)) = true := by
  rw [List.any_eq_true]
  exact ⟨1, List.mem_map.mpr ⟨s, by simpa using hs, by simp⟩, by simp⟩
theorem unit_valid (p : Kp389.Process) (s : Nat) (hs : s < p.stateCount) : Kp389.validWeights p ((List.range p.stateCount).map fun q => if q = s then 1 else 0) = true := by
  unfold Kp389.validWeights
  simp only [Bool.and_eq_true, decide_eq_true_eq, List.all_eq_true]
  refine ⟨⟨by simp, ?_⟩, unit_any _ _ hs⟩
  intro x hx
  obtain ⟨q, _, rfl⟩ := List.mem_map.mp hx
  by_cases h : q = s <;> simp [h]
theorem new_wf {n m g h : Nat} (v : okNew n m g h) : WF (Kp389.newProcess n m g h) := by
  obtain ⟨h1, h2, h3, h4, h5, h6, h7⟩ := v
  have hz : ∀ x ∈ List.replicate (n * m * n) (0 : Int), -100000 ≤ x ∧ x ≤ 100000 := by
    intro x hx
    have := (List.mem_replicate.mp hx).2
    omega
  refine ⟨h1, h2, h3, h4, h5, h6, h7, ?_, ?_, hz, hz, newTrans_len n m g h, ?_⟩
  · show (List.replicate (n * m * n) (0 : Int)).length = n * m * n
    simp
  · show (List.replicate (n * m * n) (0 : Int)).length = n * m * n
    simp
  · intro w hw
    obtain ⟨i, hi, rfl⟩ := List.mem_iff_getElem.mp hw
    have hi2 : i < n * m := by rw [newTrans_len] at hi; exact hi
    have := newTrans_at (g := g) (h := h) h3 hi2
    rw [List.getElem?_eq_getElem hi] at this
    rw [Option.some.inj this]
    exact unit_valid (Kp389.newProcess n m g h) (i / m) ((Nat.div_lt_iff_lt_mul h3).mpr hi2)

def spModelInit (C : Addr) : Sp := fun vs H Q _ => ∃ (a dx : Addr) (n m g h : Nat), vs = [.ref a, .int (n : Int), .int (m : Int), .int (g : Int), .int (h : Int)] ∧ H a = some (.ins C dx []) ∧ okNew n m g h ∧
  ∀ H' (L : Lay), L.a = a → Mdl C H' L (Kp389.newProcess n m g h) → (∀ b o, H b = some o → b ≠ a → H' b = some o) → (∀ x ∈ L.rr :: L.r0 :: L.r1 :: L.ww :: L.ws, H x = none) → Q .non H'

/-- a field that is set for the first time stands last -/
theorem putF_new {f : Str} {v : V} : ∀ {fs : List (Str × V)} {ks : List Str}, fs.map Prod.fst = ks → f ∉ ks → putF f v fs = fs ++ [(f, v)]
  | [], _, _, _ => rfl
  | (g, x) :: r, ks, e, h => by
    subst e
    have h1 : ¬ g = f := fun e => h (by rw [← e]; exact List.mem_cons_self)
    have h2 : f ∉ r.map Prod.fst := fun e => h (List.mem_cons_of_mem _ e)
    show (if g = f then (g, v) :: r else (g, x) :: putF f v r) = _
    rw [if_neg h1, putF_new rfl h2]
    rfl
abbrev kv (f : Str) (v : V) : List (Str × V) := [(f, v)]
/-- a field of a new instance set -/
theorem q_fld {K : PySem.W.Frag} {σ : L2.St} {H : Hp} {ta tv : TE} {a C dx : Addr} {fs : List (Str × V)} {ks : List Str} {f : Str} {v : V} {D : Ends} {tz : TS} (hv : Ev tv σ H v) (ha : Ev ta σ H (.ref a)) (ho : H a = some (.ins C dx fs)) (hc : Cls K C) (hn : NoAttr K C f)
    (hk : fs.map Prod.fst = ks) (hf : f ∉ ks) (hl : fs.length < 1000) (k : ∀ H1, Ex H H1 → tz D σ (upd H1 a (.ins C dx (fs ++ [(f, v)])))) : tSeq (sFld K ta tv f) tz D σ H := hv H (Ex.refl H) _ fun H1 e1 => ha H1 e1 _ fun H2 e2 =>
  ⟨a, C, dx, fs, rfl, e2 _ _ (e1 _ _ ho), hc, hn, hl, by rw [putF_new hk hf]; exact k H2 (e1.trans e2)⟩

theorem nat_mul_small {n m : Nat} (h : n * m ≤ 12) : ((n : Int) * (m : Int)).natAbs < 2 ^ 64 := by
  rw [← Int.natCast_mul, Int.natAbs_natCast]; omega
/-- all but a stands as it was -/
def Fr (a : Addr) (H H' : Hp) : Prop := ∀ b o, H b = some o → b ≠ a → H' b = some o
theorem Fr.refl (a : Addr) (H : Hp) : Fr a H H := fun _ _ h _ => h
theorem Fr.ex {a : Addr} {H H1 H2 : Hp} (f : Fr a H H1) (e : Ex H1 H2) : Fr a H H2 := fun b o h n => e _ _ (f b o h n)
theorem Fr.upd {a : Addr} {H H1 : Hp} {o : HO} (f : Fr a H H1) : Fr a H (upd H1 a o) := fun b o' h n => by rw [upd_ne n]; exact f b o' h n
theorem Fr.free {a p : Addr} {H H1 : Hp} (f : Fr a H H1) (ha : H1 a ≠ none) (hp : H1 p = none) : H p = none := by
  cases h : H p with
  | none => rfl
  | some o =>
    by_cases e : p = a
    · subst e; exact absurd hp ha
    · rw [f p o h e] at hp; cases hp

section
variable {P : Program} {w : World} {K : PySem.W.Frag} {mg : Str → Option Value} {base : Heap} {C fi : Addr}
def dfModelInit (T : Txt K mg C fi) (dCertain : Df P w K mg base "certain" 1 ["state_count", "following"] spCertain) (r : Rwi K "__init__" "Model.__init__" sModelInit) : Dfi P w K mg base 2 ["self", "state_count", "action_count", "discount_num", "discount_den"] (spModelInit C) :=
  r.df (k := 1) scModelInit (fun _ _ _ _ _ _ us hl => match us, hl with | [_, _, _, _, _], _ => rfl)
  (fun vs H Q E h => by obtain ⟨_, _, _, _, _, _, rfl, _⟩ := h; rfl) (fun cdv A outer s H vs Q E hr h => by
    obtain ⟨a, dx, n, m, g, h, rfl, hH, hok, q⟩ := h
    refine ⟨_, (pss_cons (ps_fld (pv 0) (pv 1) rfl)
      (pss_cons (ps_fld (pv 0) (pv 2) rfl)
      (pss_cons (ps_fld (pv 0) (pv 3) rfl)
      (pss_cons (ps_fld (pv 0) (pv 4) rfl)
      (pss_cons (ps_fld (pv 0) (pe_op op_mulW (pe_op op_mulW (pv 1) (pv 2)) (pv 1)) rfl)
      (pss_cons (ps_fld (pv 0) (pe_lst (pa_cons (pe_op op_rep (pe_lst (pa_cons pe_int pa_nil)) (pe_fldK K (by rfl) (pv 0) (by rfl))) (pa_cons (pe_op op_rep (pe_lst (pa_cons pe_int pa_nil)) (pe_fldK K (by rfl) (pv 0) (by rfl))) pa_nil))) rfl)
      (pss_one (ps_fld (pv 0) (pe_lc (own := [("place", 5)]) (g := gName 5) (tt := tYes) rfl scModelInit.nd (pi_range1 rfl T.n_range (pa_cons (pe_op op_mulW (pv 1) (pv 2)) pa_nil)) (blkOk_by (N := ["self", "state_count", "action_count", "discount_num", "discount_den", "place"]) (sc := defScope sModelInit) (by decide +kernel)) (fun _ _ _ _ _ => (pg_name (i := 5) scModelInit.nd rfl (by first | exact Or.inl rfl | exact Or.inr rfl))) (fun _ _ _ _ _ => pts_nil) (fun _ _ _ _ _ => (pe_call dCertain.ok (hr.mono (by decide)) rfl dCertain.g dCertain.kp dCertain.b .nil pass0 (pa_cons (pv 1) (pa_cons (pe_op op_fdivW (pv 5) (pv 2)) pa_nil))))) rfl)))))))), ?_⟩
    obtain ⟨h1, h2, h3, h4, h5, h6, h7⟩ := id hok
    have hn0 : n * m ≤ 12 := by
      have := Nat.mul_le_mul h2 h4
      omega
    have hnn : n * m * n ≤ 48 := by
      have := Nat.mul_le_mul hn0 h2
      omega
    refine q_fld (ks := []) (ev_var rfl) (ev_var rfl) hH T.cl T.n1 rfl (by decide +kernel) (Nat.lt_of_le_of_lt (Nat.le_of_ble_eq_true rfl) (by decide : 900 < 1000)) fun H1 e1 => ?_
    refine q_fld (ks := ["state_count"]) (ev_var rfl) (ev_var rfl) upd_same T.cl T.n2 rfl (by decide +kernel) (Nat.lt_of_le_of_lt (Nat.le_of_ble_eq_true rfl) (by decide : 900 < 1000)) fun H2 e2 => ?_
    refine q_fld (ks := ["state_count", "action_count"]) (ev_var rfl) (ev_var rfl) upd_same T.cl T.n3 rfl (by decide +kernel) (Nat.lt_of_le_of_lt (Nat.le_of_ble_eq_true rfl) (by decide : 900 < 1000)) fun H3 e3 => ?_
    refine q_fld (ks := ["state_count", "action_count", "discount_num"]) (ev_var rfl) (ev_var rfl) upd_same T.cl T.n4 rfl (by decide +kernel) (Nat.lt_of_le_of_lt (Nat.le_of_ble_eq_true rfl) (by decide : 900 < 1000)) fun H4 e4 => ?_
    refine q_fld (ks := ["state_count", "action_count", "discount_num", "discount_den"]) (v := .int ((n * m * n : Nat) : Int)) ?_ (ev_var rfl) upd_same T.cl T.n5 rfl (by decide +kernel) (Nat.lt_of_le_of_lt (Nat.le_of_ble_eq_true rfl) (by decide : 900 < 1000)) fun H5 e5 => ?_
    · rw [Int.natCast_mul, Int.natCast_mul]
      exact ev_mul (ev_mul (ev_var rfl) (ev_var rfl) (by omega) (by omega)) (ev_var rfl) (nat_mul_small hn0) (by omega)
    have F5 : Fr a H H5 := (((((Fr.refl a H).ex e1).upd.ex e2).upd.ex e3).upd.ex e4).upd.ex e5
    simp only [List.nil_append, List.cons_append]
    generalize hfs : ([("state_count", V.int (n : Int)), ("action_count", V.int (m : Int)), ("discount_num", V.int (g : Int)), ("discount_den", V.int (h : Int)), ("reward_count", V.int ((n * m * n : Nat) : Int))] : List (Str × V)) = fs5
    have hlk : fs5.lookup ("reward_count" : Str) = some (.int ((n * m * n : Nat) : Int)) := by
      rw [← hfs]
      exact (lk_past (by decide +kernel)).trans ((lk_past (by decide +kernel)).trans ((lk_past (by decide +kernel)).trans ((lk_past (by decide +kernel)).trans lk_here)))
    have F6 := F5.upd (o := .ins C dx fs5)
    generalize hH6 : upd H5 a (.ins C dx fs5) = H6 at F6 ⊢
    have ha6 : H6 a = some (.ins C dx fs5) := by rw [← hH6]; exact upd_same
    have h0 : EvL (tOp rRep (tLst (tCons (tC (.int 0)) tNil)) (tFld K (tVar 0) "reward_count")) (start ["self", "state_count", "action_count", "discount_num", "discount_den", "place"] [V.ref a, V.int (n : Int), V.int (m : Int), V.int (g : Int), V.int (h : Int)]) H6 (iV (List.replicate (n * m * n) 0)) := by
      have := el_rep (xs := [V.int 0]) (k := n * m * n) (el_lst (ea_cons (ev_c (v := .int 0)) ea_nil) (by decide)) (ev_fld (K := K) (H := H6) (σ := start ["self", "state_count", "action_count", "discount_num", "discount_den", "place"] [V.ref a, V.int (n : Int), V.int (m : Int), V.int (g : Int), V.int (h : Int)]) (ev_var (i := 0) rfl) ha6 T.cl T.n5 hlk) (by omega) (by decide)
      rw [rep_one] at this
      unfold iV; rw [List.map_replicate]; exact this
    refine h0 H6 (Ex.refl _) _ fun p0 H7 n0 e7 hp0 => h0 H7 e7 _ fun p1 H8 n1 e8 hp1 => ⟨sz_of (Nat.le_of_ble_eq_true rfl), fun pr nr => ⟨_, rfl, a, C, dx, fs5, rfl, ?_, T.cl, T.n6, ?_, ?_⟩⟩
    · rw [upd_ne (ne_of_none (e8 _ _ (e7 _ _ ha6)) nr)]; exact e8 _ _ (e7 _ _ ha6)
    · rw [← hfs]; exact Nat.lt_of_le_of_lt (Nat.le_of_ble_eq_true rfl) (by decide : 900 < 1000)
    have ha8 := e8 _ _ (e7 _ _ ha6)
    have hk5 : fs5.map Prod.fst = (["state_count", "action_count", "discount_num", "discount_den", "reward_count"] : List Str) := by rw [← hfs]; rfl
    rw [putF_new hk5 (by decide +kernel)]
    have E9 : Ex H8 (upd H8 pr (.lst [.ref p0, .ref p1])) := Ex.new nr
    have F9 := (((F6.ex e7).ex e8).ex E9).upd (o := .ins C dx (fs5 ++ kv "rewards" (.ref pr)))
    have npa : pr ≠ a := fun e => by rw [e, ha8] at nr; cases nr
    have n0a : p0 ≠ a := fun e => by rw [e, ha6] at n0; cases n0
    have n1a : p1 ≠ a := fun e => by rw [e, e7 _ _ ha6] at n1; cases n1
    have n01 : p0 ≠ p1 := fun e => by rw [← e, hp0] at n1; cases n1
    have n0r : p0 ≠ pr := fun e => by rw [← e, e8 _ _ hp0] at nr; cases nr
    have n1r : p1 ≠ pr := fun e => by rw [← e, hp1] at nr; cases nr
    have z0 : (upd (upd H8 pr (.lst [.ref p0, .ref p1])) a (.ins C dx (fs5 ++ kv "rewards" (.ref pr)))) p0 = some (.lst (iV (List.replicate (n * m * n) 0))) := by
      rw [upd_ne n0a, upd_ne n0r]; exact e8 _ _ hp0
    have z1 : (upd (upd H8 pr (.lst [.ref p0, .ref p1])) a (.ins C dx (fs5 ++ kv "rewards" (.ref pr)))) p1 = some (.lst (iV (List.replicate (n * m * n) 0))) := by
      rw [upd_ne n1a, upd_ne n1r]; exact hp1
    have zr : (upd (upd H8 pr (.lst [.ref p0, .ref p1])) a (.ins C dx (fs5 ++ kv "rewards" (.ref pr)))) pr = some (.lst [.ref p0, .ref p1]) := by
      rw [upd_ne npa, upd_same]
    have za : (upd (upd H8 pr (.lst [.ref p0, .ref p1])) a (.ins C dx (fs5 ++ kv "rewards" (.ref pr)))) a = some (.ins C dx (fs5 ++ kv "rewards" (.ref pr))) := upd_same
    have f0 : H p0 = none := F6.free (by rw [ha6]; simp) n0
    have f1' : H p1 = none := (F6.ex e7).free (by rw [e7 _ _ ha6]; simp) n1
    have fr : H pr = none := ((F6.ex e7).ex e8).free (by rw [ha8]; simp) nr
    generalize (upd (upd H8 pr (.lst [.ref p0, .ref p1])) a (.ins C dx (fs5 ++ kv "rewards" (.ref pr)))) = H9 at F9 z0 z1 zr za ⊢
    have hL : EvLO false (tLc (iRng1 (tCons (tOp (rI CMulW fun i j => .int (i * j)) (tVar 1) (tVar 2)) tNil)) (gName 5) tYes (tCall spCertain [] E0 (tCons (tVar 1) (tCons (tOp (rI CDivW fun i j => .int (i / j)) (tVar 5) (tVar 2)) tNil))) [5])
        (start ["self", "state_count", "action_count", "discount_num", "discount_den", "place"] [V.ref a, V.int (n : Int), V.int (m : Int), V.int (g : Int), V.int (h : Int)]) H9 (n * m) (fun i => .lst (nV ((List.range n).map fun q => if q = i / m then 1 else 0))) := by
      refine elo_R (ea_cons (by rw [Int.natCast_mul]; exact ev_mul (ev_var rfl) (ev_var rfl) (by omega) (by omega)) ea_nil) (by omega) (fun x => rfl) fun i hi => eob_L ?_
      refine el_call (ea_cons (ev_var rfl) (ea_cons (ev_op (ev_var rfl) (ev_var rfl) (rv_I (wide_div (b := 64) (by omega) (by omega) (by omega) (by omega)))) ea_nil)) (spL_use fun H1 e1 => ⟨n, (i : Int) / (m : Int), rfl, by omega, ?_⟩)
      rw [← Int.natCast_ediv, certain_nat]
    show sFld K (tVar 0) (tLc (iRng1 (tCons (tOp (rI CMulW fun i j => .int (i * j)) (tVar 1) (tVar 2)) tNil)) (gName 5) tYes (tCall spCertain [] E0 (tCons (tVar 1) (tCons (tOp (rI CDivW fun i j => .int (i / j)) (tVar 5) (tVar 2)) tNil))) [5]) "weights" { nx := fun _ H' => Q .non H', rt := Q } _ H9
    refine hL H9 (Ex.refl _) _ fun pw ws H10 nw e10 hwl hpw hws => ⟨_, rfl, a, C, dx, _, rfl, e10 _ _ za, T.cl, T.n7, by rw [List.length_append, ← hfs]; exact Nat.lt_of_le_of_lt (Nat.le_of_ble_eq_true rfl) (by decide : 900 < 1000), ?_⟩
    have hk6 : (fs5 ++ kv "rewards" (.ref pr)).map Prod.fst = (["state_count", "action_count", "discount_num", "discount_den", "reward_count", "rewards"] : List Str) := by rw [← hfs]; rfl
    rw [putF_new hk6 (by decide +kernel)]
    have nwa : pw ≠ a := fun e => by rw [e, za] at nw; cases nw
    have hU : ∀ x, x ≠ a → ∀ o, H10 x = some o → (upd H10 a (.ins C dx (fs5 ++ kv "rewards" (.ref pr) ++ kv "weights" (.ref pw)))) x = some o := fun x hx o ho => by rw [upd_ne hx]; exact ho
    have hnw : ∀ x o, H9 x = some o → x ≠ pw := fun x o hx e => by rw [← e, hx] at nw; cases nw
    have hws2 : ∀ x, x ∈ ws → x ≠ pw ∧ H9 x = none := by
      intro x hx
      obtain ⟨i, hi, rfl⟩ := List.mem_iff_getElem.mp hx
      obtain ⟨t1, t2, _⟩ := hws i ws[i] (List.getElem?_eq_getElem hi)
      refine ⟨t1, ?_⟩
      rcases t2 with t2 | t2
      · exact t2
      · cases t2.1
    refine q _ ⟨a, dx, pr, p0, p1, pw, ws⟩ rfl ⟨?_, hU _ npa _ (e10 _ _ zr), hU _ n0a _ (e10 _ _ z0), hU _ n1a _ (e10 _ _ z1), hU _ nwa _ hpw, ?_, ?_, ?_, ?_, new_wf hok⟩ ?_ ?_
    · show (upd H10 a _) a = some (.ins C dx (flds (Kp389.newProcess n m g h) pr pw))
      rw [upd_same, ← hfs]; rfl
    · show ws.length = _
      rw [newTrans_len]; exact hwl
    · intro i x w hx hw
      have hi : i < n * m := by
        have := (List.getElem?_eq_some_iff.mp hx).1
        rw [hwl] at this; exact this
      rw [newTrans_at h3 hi] at hw
      have hw := Option.some.inj hw
      subst hw
      obtain ⟨t1, t2, t3⟩ := hws i x hx
      exact hU x (fun e => by
        have := (hws2 x (List.mem_of_getElem? hx)).2
        rw [e, za] at this; cases this) _ t3
    · show [pr, p0, p1, pw].Nodup
      simp only [List.nodup_cons, List.mem_cons, List.not_mem_nil, or_false, not_or]
      exact ⟨⟨fun e => n0r e.symm, fun e => n1r e.symm, hnw _ _ zr⟩, ⟨n01, hnw _ _ z0⟩, hnw _ _ z1, not_false, List.nodup_nil⟩
    · intro x hx
      obtain ⟨t1, t2⟩ := hws2 x hx
      simp only [List.mem_cons, List.not_mem_nil, or_false, not_or]
      refine ⟨fun e => ?_, fun e => ?_, fun e => ?_, t1⟩
      · rw [e, zr] at t2; cases t2
      · rw [e, z0] at t2; cases t2
      · rw [e, z1] at t2; cases t2
    · exact ((F9.ex e10).upd)
    · intro x hx
      have hfin : ∀ y, H9 y = none → H y = none := fun y hy => F9.free (by rw [za]; simp) hy
      rcases List.mem_cons.mp hx with e | hx
      · subst e; exact fr
      · rcases List.mem_cons.mp hx with e | hx
        · subst e; exact f0
        · rcases List.mem_cons.mp hx with e | hx
          · subst e; exact f1'
          · rcases List.mem_cons.mp hx with e | hx
            · subst e; exact hfin _ nw
            · exact hfin _ (hws2 x hx).2)
end
end SR

set_option maxHeartbeats 2000000
/-! How a process in the heap changes. -/
namespace SR
open PySem PySem.Spec PyProof.Rows L2 Evl

def addrs (L : Lay) : List Addr := L.a :: L.rr :: L.r0 :: L.r1 :: L.ww :: L.ws
def Lay.rt (L : Lay) (t : Nat) : Addr := if t = 0 then L.r0 else L.r1
def Lay.withRt (L : Lay) (t : Nat) (q : Addr) : Lay := if t = 0 then { L with r0 := q } else { L with r1 := q }

section
variable {C : Addr} {H H' : Hp} {L L' : Lay} {p : Kp389.Process}

theorem Mdl.tracked (M : Mdl C H L p) : ∀ x ∈ addrs L, H x ≠ none := by
  intro x hx
  unfold addrs at hx
  simp only [List.mem_cons] at hx
  rcases hx with e | e | e | e | e | hx
  · subst e; rw [M.ins]; simp
  · subst e; rw [M.rr]; simp
  · subst e; rw [M.r0]; simp
  · subst e; rw [M.r1]; simp
  · subst e; rw [M.ww]; simp
  · obtain ⟨i, hi, rfl⟩ := List.mem_iff_getElem.mp hx
    have h2 : i < p.transitions.length := by rw [← M.wl]; exact hi
    rw [M.ws i _ _ (List.getElem?_eq_getElem hi) (List.getElem?_eq_getElem h2)]; simp
theorem Mdl.fresh (M : Mdl C H L p) {q : Addr} (h : H q = none) : q ∉ addrs L := fun hm => M.tracked q hm h

/-- an instance stands at L.a alone -/
theorem Mdl.a_ne (M : Mdl C H L p) {x : Addr} {xs : List V} (h : H x = some (.lst xs)) : x ≠ L.a := fun e => by
  rw [e, M.ins] at h; cases h

theorem Mdl.rtAt (M : Mdl C H L p) {t : Nat} (ht : t ≤ 1) : H (L.rt t) = some (.lst (iV (Kp389.rewards p t))) := by
  unfold Lay.rt Kp389.rewards
  by_cases h : t = 0
  · simp [h, M.r0]
  · simp [h, M.r1]
theorem Mdl.wsAt (M : Mdl C H L p) {k : Nat} {w : List Nat} (h : p.transitions[k]? = some w) : ∃ x, L.ws[k]? = some x ∧ H x = some (.lst (nV w)) := by
  have hk := (List.getElem?_eq_some_iff.mp h).1
  have hk2 : k < L.ws.length := by rw [M.wl]; exact hk
  exact ⟨L.ws[k], List.getElem?_eq_getElem hk2, M.ws k _ _ (List.getElem?_eq_getElem hk2) h⟩

/-- rewards that a table may hold -/
def okR (p : Kp389.Process) (l : List Int) : Prop := l.length = Kp389.rewardCount p ∧ ∀ x ∈ l, -100000 ≤ x ∧ x ≤ 100000
theorem withRewards_wf (h : WF p) (t : Nat) {l : List Int} (hl : okR p l) : WF (Kp389.withRewards p t l) := by
  unfold Kp389.withRewards
  by_cases e : t = 0
  · simp only [e, if_true]
    exact ⟨h.n2, h.n4, h.m1, h.m3, h.g1, h.gh, h.h10, hl.1, h.r1, hl.2, h.b1, h.tl, h.tr⟩
  · simp only [e, if_false]
    exact ⟨h.n2, h.n4, h.m1, h.m3, h.g1, h.gh, h.h10, h.r0, hl.1, h.b0, hl.2, h.tl, h.tr⟩
theorem rewards_ok (h : WF p) (t : Nat) : okR p (Kp389.rewards p t) := by
  unfold Kp389.rewards okR
  by_cases e : t = 0
  · simp only [e, if_true]; exact ⟨h.r0, h.b0⟩
  · simp only [e, if_false]; exact ⟨h.r1, h.b1⟩

theorem nd4 {a b c d : Addr} (h : [a, b, c, d].Nodup) : a ≠ b ∧ a ≠ c ∧ a ≠ d ∧ b ≠ c ∧ b ≠ d ∧ c ≠ d := by
  simp only [List.nodup_cons, List.mem_cons, List.not_mem_nil, or_false, not_or] at h
  exact ⟨h.1.1, h.1.2.1, h.1.2.2, h.2.1.1, h.2.1.2, h.2.2.1⟩
theorem nd4_mk {a b c d : Addr} (h1 : a ≠ b) (h2 : a ≠ c) (h3 : a ≠ d) (h4 : b ≠ c) (h5 : b ≠ d) (h6 : c ≠ d) : [a, b, c, d].Nodup := by
  simp only [List.nodup_cons, List.mem_cons, List.not_mem_nil, or_false, not_or]
  exact ⟨⟨h1, h2, h3⟩, ⟨h4, h5⟩, h6, not_false, List.nodup_nil⟩
theorem sep4 {x a b c d : Addr} (h : x ∉ [a, b, c, d]) : x ≠ a ∧ x ≠ b ∧ x ≠ c ∧ x ≠ d := by
  simp only [List.mem_cons, List.not_mem_nil, or_false, not_or] at h
  exact h
theorem sep4_mk {x a b c d : Addr} (h : x ≠ a ∧ x ≠ b ∧ x ≠ c ∧ x ≠ d) : x ∉ [a, b, c, d] := by
  simp only [List.mem_cons, List.not_mem_nil, or_false, not_or]
  exact h

/-- a table's list changed in its place -/
theorem Mdl.setIn (M : Mdl C H L p) {t : Nat} {l : List Int} (hl : okR p l) : Mdl C (upd H (L.rt t) (.lst (iV l))) L (Kp389.withRewards p t l) := by
  obtain ⟨n1, n2, n3, n4, n5, n6⟩ := nd4 M.nd
  have hwf := withRewards_wf M.wf t hl
  unfold Lay.rt Kp389.withRewards at *
  by_cases e : t = 0
  · simp only [e, if_true] at *
    refine ⟨?_, ?_, upd_same, ?_, ?_, M.wl, ?_, M.nd, M.sep, hwf⟩
    · rw [upd_ne (M.a_ne M.r0).symm]; exact M.ins
    · rw [upd_ne n1]; exact M.rr
    · rw [upd_ne n4.symm]; exact M.r1
    · rw [upd_ne n5.symm]; exact M.ww
    · intro i x w h1 h2
      rw [upd_ne (sep4 (M.sep x (List.mem_of_getElem? h1))).2.1]; exact M.ws i x w h1 h2
  · simp only [e, if_false] at *
    refine ⟨?_, ?_, ?_, upd_same, ?_, M.wl, ?_, M.nd, M.sep, hwf⟩
    · rw [upd_ne (M.a_ne M.r1).symm]; exact M.ins
    · rw [upd_ne n2]; exact M.rr
    · rw [upd_ne n4]; exact M.r0
    · rw [upd_ne n6.symm]; exact M.ww
    · intro i x w h1 h2
      rw [upd_ne (sep4 (M.sep x (List.mem_of_getElem? h1))).2.2.1]; exact M.ws i x w h1 h2

/-- another list put in a table's place -/
theorem Mdl.putIn (M : Mdl C H L p) {t : Nat} (ht : t ≤ 1) {q : Addr} {l : List Int} (hl : okR p l) (hq : H q = some (.lst (iV l))) (hf : q ∉ addrs L) :
    Mdl C (upd H L.rr (.lst ([.ref L.r0, .ref L.r1].set t (.ref q)))) (L.withRt t q) (Kp389.withRewards p t l) := by
  obtain ⟨n1, n2, n3, n4, n5, n6⟩ := nd4 M.nd
  have hwf := withRewards_wf M.wf t hl
  unfold addrs at hf
  simp only [List.mem_cons, not_or] at hf
  obtain ⟨g1, g2, g3, g4, g5, g6⟩ := hf
  have hws : ∀ (i : Nat) (x : Addr) (w : List Nat), L.ws[i]? = some x → p.transitions[i]? = some w → (upd H L.rr (.lst ([.ref L.r0, .ref L.r1].set t (.ref q)))) x = some (.lst (nV w)) := by
    intro i x w h1 h2
    rw [upd_ne (sep4 (M.sep x (List.mem_of_getElem? h1))).1]; exact M.ws i x w h1 h2
  unfold Lay.withRt Kp389.withRewards at *
  by_cases e : t = 0
  · subst e
    simp only [if_true] at *
    refine ⟨?_, upd_same, ?_, ?_, ?_, M.wl, hws, nd4_mk (Ne.symm g2) n2 n3 g4 g5 n6, ?_, hwf⟩
    · rw [upd_ne (M.a_ne M.rr).symm]; exact M.ins
    · rw [upd_ne g2]; exact hq
    · rw [upd_ne n2.symm]; exact M.r1
    · rw [upd_ne n3.symm]; exact M.ww
    · intro x hx
      obtain ⟨s1, s2, s3, s4⟩ := sep4 (M.sep x hx)
      exact sep4_mk ⟨s1, fun (e : x = q) => g6 (by rw [← e]; exact hx), s3, s4⟩
  · have e1 : t = 1 := by omega
    subst e1
    simp only [e, if_false] at *
    refine ⟨?_, upd_same, ?_, ?_, ?_, M.wl, hws, nd4_mk n1 (Ne.symm g2) n3 (Ne.symm g3) n5 g5, ?_, hwf⟩
    · rw [upd_ne (M.a_ne M.rr).symm]; exact M.ins
    · rw [upd_ne n1.symm]; exact M.r0
    · rw [upd_ne g2]; exact hq
    · rw [upd_ne n3.symm]; exact M.ww
    · intro x hx
      obtain ⟨s1, s2, s3, s4⟩ := sep4 (M.sep x hx)
      exact sep4_mk ⟨s1, s2, fun (e : x = q) => g6 (by rw [← e]; exact hx), s4⟩

theorem withTrans_wf (h : WF p) {ts : List (List Nat)} (hl : ts.length = p.stateCount * p.actionCount) (hv : ∀ w ∈ ts, Kp389.validWeights p w = true) : WF { p with transitions := ts } :=
  ⟨h.n2, h.n4, h.m1, h.m3, h.g1, h.gh, h.h10, h.r0, h.r1, h.b0, h.b1, hl, hv⟩
/-- other weights of one state and action -/
theorem Mdl.putW (M : Mdl C H L p) {k : Nat} {q : Addr} {w : List Nat} (hw : Kp389.validWeights p w = true) (hq : H q = some (.lst (nV w))) (hf : q ∉ addrs L) :
    Mdl C (upd H L.ww (.lst ((L.ws.set k q).map V.ref))) { L with ws := L.ws.set k q } { p with transitions := p.transitions.set k w } := by
  obtain ⟨n1, n2, n3, n4, n5, n6⟩ := nd4 M.nd
  unfold addrs at hf
  simp only [List.mem_cons, not_or] at hf
  obtain ⟨g1, g2, g3, g4, g5, g6⟩ := hf
  refine ⟨?_, ?_, ?_, ?_, upd_same, by simp [M.wl], ?_, M.nd, ?_, withTrans_wf M.wf (by simp [M.wf.tl]) ?_⟩
  · rw [upd_ne (M.a_ne M.ww).symm]; exact M.ins
  · rw [upd_ne n3]; exact M.rr
  · rw [upd_ne n5]; exact M.r0
  · rw [upd_ne n6]; exact M.r1
  · intro i x v h1 h2
    simp only at h1 h2
    by_cases e : k = i
    · subst e
      have hk := (List.getElem?_eq_some_iff.mp h1).1
      have hk2 := (List.getElem?_eq_some_iff.mp h2).1
      simp only [List.length_set] at hk hk2
      rw [List.getElem?_set_self hk] at h1
      rw [List.getElem?_set_self hk2] at h2
      have h1 := Option.some.inj h1
      have h2 := Option.some.inj h2
      subst h1 h2
      rw [upd_ne g5]; exact hq
    · rw [List.getElem?_set_ne e] at h1 h2
      rw [upd_ne (sep4 (M.sep x (List.mem_of_getElem? h1))).2.2.2]; exact M.ws i x v h1 h2
  · intro x hx
    rcases List.mem_or_eq_of_mem_set hx with hx | hx
    · exact M.sep x hx
    · subst hx; exact sep4_mk ⟨g2, g3, g4, g5⟩
  · intro v hv
    rcases List.mem_or_eq_of_mem_set hv with hv | hv
    · exact M.wf.tr v hv
    · subst hv; exact hw

/-! ### what a call leaves -/
structure Chg (H H' : Hp) (L L' : Lay) : Prop where
  fr : ∀ b o, H b = some o → b ∉ [L.a, L.rr, L.r0, L.r1, L.ww] → H' b = some o
  a : L'.a = L.a
  ad : ∀ x ∈ addrs L', x ∈ addrs L ∨ H x = none
theorem Chg.same (e : Ex H H') : Chg H H' L L := ⟨fun b o h _ => e b o h, rfl, fun x hx => Or.inl hx⟩
theorem Chg.ex {H2 : Hp} (h : Chg H H' L L') (e : Ex H' H2) : Chg H H2 L L' := ⟨fun b o hb hn => e _ _ (h.fr b o hb hn), h.a, h.ad⟩
theorem Chg.pre {H0 : Hp} (e : Ex H0 H) (h : Chg H H' L L') : Chg H0 H' L L' := ⟨fun b o hb hn => h.fr b o (e _ _ hb) hn, h.a, fun x hx => (h.ad x hx).imp id (fun hn => fresh_back e hn)⟩
theorem Chg.upd1 (x : Addr) (hx : x ∈ [L.a, L.rr, L.r0, L.r1, L.ww]) (o : HO) (ha : L'.a = L.a) (ad : ∀ x ∈ addrs L', x ∈ addrs L ∨ H x = none) : Chg H (upd H x o) L L' :=
  ⟨fun b o' h hn => by rw [upd_ne (show b ≠ x from fun e => hn (by rw [e]; exact hx))]; exact h, ha, ad⟩

/-- what the specification answers, and how the process goes on -/
def ansOf (c : Kp389.Call) (p : Kp389.Process) : List Int := (Kp389.step (some p) c).2.num :: (Kp389.step (some p) c).2.nums
def nextOf (c : Kp389.Call) (p : Kp389.Process) : Kp389.Process := (Kp389.step (some p) c).1.getD p
/-- what a call's end must give -/
def Done (C : Addr) (H : Hp) (L : Lay) (p : Kp389.Process) (c : Kp389.Call) (Q : VK) : Prop := ∀ H' L' q, Mdl C H' L' (nextOf c p) → Chg H H' L L' → H q = none → q ∉ addrs L' → H' q = some (.lst (iV (ansOf c p))) → Q (.ref q) H'
theorem Done.pre {Q : VK} {c : Kp389.Call} (d : Done C H L p c Q) (e : Ex H H') : Done C H' L p c Q := fun H2 L2 q m ch hq hn ha => d H2 L2 q m (Chg.pre e ch) (fresh_back e hq) hn ha
theorem Done.same {Q : VK} {c : Kp389.Call} (d : Done C H L p c Q) (M : Mdl C H L p) {xs : List Int} (h : Kp389.step (some p) c = (some p, ⟨xs.headD 0, xs.tail⟩)) (hx : xs ≠ []) : RetL (iV xs) H Q := fun q H' hq e hp => by
  have h1 : nextOf c p = p := by unfold nextOf; rw [h]; rfl
  have h2 : ansOf c p = xs := by
    unfold ansOf; rw [h]
    cases xs with
    | nil => exact absurd rfl hx
    | cons x r => rfl
  refine d H' L q (by rw [h1]; exact M.mono e) (Chg.same e) hq (M.fresh hq) (by rw [h2]; exact hp)
end
end SR

set_option maxHeartbeats 2000000
/-! changes.py, first part -/
namespace SR
open PySem PySem.Spec PyProof.Rows L2 Evl
abbrev sSetReward : Stmt := topS 33
theorem scSetReward : FnScope ["model", "table", "state", "action", "following", "given", "place", "old_value"] ["model", "table", "state", "action", "following", "given"] (defScope sSetReward) := ⟨rfl, rfl, rfl, by decide +kernel, rfl, by decide +kernel, by decide +kernel⟩
abbrev sSetRewards : Stmt := topS 34
theorem scSetRewards : FnScope ["model", "table", "given"] ["model", "table", "given"] (defScope sSetRewards) := ⟨rfl, rfl, rfl, by decide +kernel, rfl, by decide +kernel, by decide +kernel⟩
abbrev sCopyRewards : Stmt := topS 35
theorem scCopyRewards : FnScope ["model", "table"] ["model", "table"] (defScope sCopyRewards) := ⟨rfl, rfl, rfl, by decide +kernel, rfl, by decide +kernel, by decide +kernel⟩
abbrev sReplaceRewards : Stmt := topS 39
theorem scReplaceRewards : FnScope ["model", "table", "rewards"] ["model", "table", "rewards"] (defScope sReplaceRewards) := ⟨rfl, rfl, rfl, by decide +kernel, rfl, by decide +kernel, by decide +kernel⟩
abbrev sSetTransition : Stmt := topS 40
theorem scSetTransition : FnScope ["model", "state", "action", "weights"] ["model", "state", "action", "weights"] (defScope sSetTransition) := ⟨rfl, rfl, rfl, by decide +kernel, rfl, by decide +kernel, by decide +kernel⟩
abbrev sSetDeterministic : Stmt := topS 41
theorem scSetDeterministic : FnScope ["model", "next_states"] ["model", "next_states"] (defScope sSetDeterministic) := ⟨rfl, rfl, rfl, by decide +kernel, rfl, by decide +kernel, by decide +kernel⟩

theorem tE (t : Nat) : tableExists (t : Int) = Kp389.isTable t := by
  unfold tableExists Kp389.isTable
  have : decide ((0 : Int) ≤ (t : Int)) = true := by simp
  rw [this, Bool.true_and]
  congr 1; simp; omega
theorem bE (n i : Nat) : isBelow n (i : Int) = decide (i < n) := by
  unfold isBelow
  have : decide ((0 : Int) ≤ (i : Int)) = true := by simp
  rw [this, Bool.true_and]
  congr 1; simp
theorem aw_valid (l : List Int) : allWithin l (-1000) 1000 = l.all Kp389.validReward := by
  unfold allWithin
  rw [List.all_map]; rfl
theorem aw_limit (l : List Int) : allWithin l (-100000) 100000 = Kp389.withinLimit l := by
  unfold allWithin
  rw [List.all_map]; rfl
theorem valid_ok {l : List Int} (h : l.all Kp389.validReward = true) : ∀ x ∈ l, -100000 ≤ x ∧ x ≤ 100000 := by
  intro x hx
  have := List.all_eq_true.mp h x hx
  unfold Kp389.validReward at this
  simp at this; omega
theorem limit_ok {l : List Int} (h : Kp389.withinLimit l = true) : ∀ x ∈ l, -100000 ≤ x ∧ x ≤ 100000 := by
  intro x hx
  have := List.all_eq_true.mp h x hx
  simp only [Bool.and_eq_true, decide_eq_true_eq] at this
  unfold Kp389.rewardLimit at this; omega
theorem aw_nat (w : List Nat) : allWithin (w.map fun (n : Nat) => (n : Int)) 0 9 = w.all fun x => decide (x ≤ 9) := by
  unfold allWithin
  rw [List.all_map, List.all_map]
  congr 1
  funext x
  simp
  omega
theorem sum_nat : ∀ (w : List Nat), (w.map fun (n : Nat) => (n : Int)).sum = ((w.sum : Nat) : Int)
  | [] => rfl
  | x :: r => by simp [sum_nat r]
theorem any_sum : ∀ (w : List Nat), decide (0 < (w.map fun (n : Nat) => (n : Int)).sum) = w.any fun x => decide (0 < x)
  | [] => rfl
  | x :: r => by
    have ih := any_sum r
    rw [sum_nat] at ih ⊢
    rw [List.any_cons, ← ih, List.sum_cons, Bool.eq_iff_iff]
    simp only [Bool.or_eq_true, decide_eq_true_eq]
    omega
theorem cw_valid (p : Kp389.Process) (w : List Nat) :
    ((decide (((w.map fun (n : Nat) => (n : Int)).length : Int) = (p.stateCount : Int)) && allWithin (w.map fun (n : Nat) => (n : Int)) 0 9) && decide (0 < (w.map fun (n : Nat) => (n : Int)).sum)) = Kp389.validWeights p w := by
  rw [aw_nat, any_sum]
  unfold Kp389.validWeights
  congr 2
  simp
  omega
theorem cn_valid (p : Kp389.Process) (w : List Nat) :
    (decide ((w.map fun (n : Nat) => (n : Int)).length = p.stateCount * p.actionCount) && ((w.map fun (n : Nat) => (n : Int)).map (isBelow p.stateCount)).all id) = Kp389.validWorld p w := by
  unfold Kp389.validWorld
  congr 1
  · simp
  · rw [List.all_map, List.all_map]
    congr 1
    funext x
    exact bE p.stateCount x

def spSetReward (K : PySem.W.Frag) (C : Addr) : Sp := fun vs H Q _ => ∃ (L : Lay) (p : Kp389.Process) (t s a f : Nat) (g : Addr) (l : List Int), vs = [.ref L.a, .int (t : Int), .int (s : Int), .int (a : Int), .int (f : Int), .ref g] ∧ Mdl C H L p ∧ SqL K H g (iV l) ∧ l.length ≤ 1000 ∧
  Done C H L p (.setReward t s a f l) Q
def spSetRewards (K : PySem.W.Frag) (C : Addr) : Sp := fun vs H Q _ => ∃ (L : Lay) (p : Kp389.Process) (t : Nat) (g : Addr) (l : List Int), vs = [.ref L.a, .int (t : Int), .ref g] ∧ Mdl C H L p ∧ SqL K H g (iV l) ∧ l.length ≤ 1000 ∧ Done C H L p (.setRewards t l) Q
def spCopyRewards (C : Addr) : Sp := fun vs H Q _ => ∃ (L : Lay) (p : Kp389.Process) (t : Nat), vs = [.ref L.a, .int (t : Int)] ∧ Mdl C H L p ∧ Done C H L p (.copyRewards t) Q
def spReplaceRewards (C : Addr) : Sp := fun vs H Q _ => ∃ (L : Lay) (p : Kp389.Process) (t : Nat) (g : Addr) (l : List Int), vs = [.ref L.a, .int (t : Int), .ref g] ∧ Mdl C H L p ∧ t ≤ 1 ∧ H g = some (.lst (iV l)) ∧ g ∉ addrs L ∧ l.length = Kp389.rewardCount p ∧
  ∀ H' L' q, Mdl C H' L' (if Kp389.withinLimit l then Kp389.withRewards p t l else p) → (∀ b o, H b = some o → b ∉ [L.a, L.rr, L.r0, L.r1, L.ww] → H' b = some o) → L'.a = L.a → (∀ x ∈ addrs L', x ∈ addrs L ∨ x = g) → H q = none → q ∉ addrs L' →
    H' q = some (.lst (iV (if Kp389.withinLimit l then [0] else [-75]))) → Q (.ref q) H'
def spSetTransition (K : PySem.W.Frag) (C : Addr) : Sp := fun vs H Q _ => ∃ (L : Lay) (p : Kp389.Process) (s a : Nat) (g : Addr) (l : List Nat), vs = [.ref L.a, .int (s : Int), .int (a : Int), .ref g] ∧ Mdl C H L p ∧ SqL K H g (nV l) ∧ l.length ≤ 1000 ∧ g ≠ L.ww ∧ Done C H L p (.setTransition s a l) Q
def spSetDeterministic (K : PySem.W.Frag) (C : Addr) : Sp := fun vs H Q _ => ∃ (L : Lay) (p : Kp389.Process) (g : Addr) (l : List Nat), vs = [.ref L.a, .ref g] ∧ Mdl C H L p ∧ SqL K H g (nV l) ∧ l.length ≤ 1000 ∧ Done C H L p (.setDeterministic l) Q

section
variable {P : Program} {w : World} {K : PySem.W.Frag} {mg : Str → Option Value} {base : Heap} {C fi : Addr} {σ : L2.St} {H H' : Hp} {ta tb te : TE} {L : Lay} {p : Kp389.Process}
theorem index_lt {s a q : Nat} (hs : s < p.stateCount) (ha : a < p.actionCount) (hq : q < p.stateCount) : Kp389.index p s a q < Kp389.rewardCount p := by
  unfold Kp389.index Kp389.rewardCount
  exact place_lt (place_lt hs ha) hq
theorem rc_le (h : WF p) : Kp389.rewardCount p ≤ 48 := by
  unfold Kp389.rewardCount
  have h1 : p.stateCount * p.actionCount ≤ 4 * 3 := Nat.mul_le_mul h.n4 h.m3
  have h2 : p.stateCount * p.actionCount * p.stateCount ≤ 12 * 4 := Nat.mul_le_mul h1 h.n4
  omega
/-- model.rewards[t] -/
theorem ev_tab (T : Txt K mg C fi) (M : Mdl C H L p) (h : Ev ta σ H (.ref L.a)) {t : Nat} (ht : t ≤ 1) (hb : Ev tb σ H (.int (t : Int))) : Ev (tOp (rIxL K) (tFld K ta "rewards") tb) σ H (.ref (L.rt t)) := by
  refine ev_op (ev_f6 T M h) hb (rv_ixL (sq_of M.rr) (atI_nat ?_))
  unfold Lay.rt
  have : t = 0 ∨ t = 1 := by omega
  rcases this with e | e <;> subst e <;> rfl
/-- xs[i] of a list of ints -/
theorem ev_ixI {a : Addr} {l : List Int} {i : Nat} (h : Ev ta σ H (.ref a)) (hb : Ev tb σ H (.int (i : Int))) (hl : SqL K H a (iV l)) (hi : i < l.length) : Ev (tOp (rIxL K) ta tb) σ H (.int (l.getD i 0)) := by
  refine ev_op h hb (rv_ixL hl (atI_nat ?_))
  simp [iV, List.getElem?_eq_getElem hi, List.getD]
theorem iV_set (l : List Int) (i : Nat) (v : Int) : (iV l).set i (.int v) = iV (l.set i v) := by simp [iV, List.map_set]
theorem reward_eq (t s a q : Nat) : (Kp389.rewards p t).getD (Kp389.index p s a q) 0 = Kp389.reward p t s a q := rfl
theorem set_ok {l : List Int} {i : Nat} {v : Int} (h : okR p l) (hv : Kp389.validReward v = true) : okR p (l.set i v) := by
  refine ⟨by simp [h.1], fun x hx => ?_⟩
  rcases List.mem_or_eq_of_mem_set hx with hx | hx
  · exact h.2 x hx
  · subst hx; unfold Kp389.validReward at hv; simp at hv; omega

def dfSetReward (T : Txt K mg C fi) (dChoiceExists : Df P w K mg base "choice_exists" 2 ["model", "table", "state", "action"] (spChoiceExists C)) (dStateExists : Df P w K mg base "state_exists" 1 ["model", "state"] (spStateExists C)) (dCanBeGiven : Df P w K mg base "can_be_given" 2 ["numbers", "wanted_count"] (spCanBeGiven K)) (dRewardPlace : Df P w K mg base "reward_place" 2 ["model", "state", "action", "following"] (spRewardPlace C)) (r : Rw K mg "set_reward" sSetReward) : Df P w K mg base "set_reward" 3 ["model", "table", "state", "action", "following", "given"] (spSetReward K C) :=
  r.df (k := 2) scSetReward (fun _ _ _ _ _ _ us hl => match us, hl with | [_, _, _, _, _, _], _ => rfl)
  (fun vs H Q E h => by obtain ⟨_, _, _, _, _, _, _, _, rfl, _⟩ := h; rfl) (fun cdv A outer s H vs Q E hr h => by
    obtain ⟨L, p, t, s, a, f, g, l, rfl, M, hl, hz, D⟩ := h
    refine ⟨_, (pss_cons (ps_if (pt_not (PW.pt (pw_and (pt_val (pe_call dChoiceExists.ok (hr.mono (by decide)) rfl dChoiceExists.g dChoiceExists.kp dChoiceExists.b .nil pass0 (pa_cons (pv 0) (pa_cons (pv 1) (pa_cons (pv 2) (pa_cons (pv 3) pa_nil)))))) (pw_and1 (pt_val (pe_call dStateExists.ok (hr.mono (by decide)) rfl dStateExists.g dStateExists.kp dStateExists.b .nil pass0 (pa_cons (pv 0) (pa_cons (pv 4) pa_nil)))))))) (pss_one (ps_ret (pe_lst (pa_cons (pe_globI rfl T.c_NOT_THERE) pa_nil)))) pss_nil)
      (pss_cons (ps_if (pt_not (pt_val (pe_call dCanBeGiven.ok (hr.mono (by decide)) rfl dCanBeGiven.g dCanBeGiven.kp dCanBeGiven.b .nil pass0 (pa_cons (pv 5) (pa_cons pe_int pa_nil))))) (pss_one (ps_ret (pe_lst (pa_cons (pe_globI rfl T.c_OUT_OF_LIMITS) pa_nil)))) pss_nil)
      (pss_cons (ps_set (i := 6) scSetReward.nd rfl (by first | exact Or.inl rfl | exact Or.inr rfl) (pe_call dRewardPlace.ok (hr.mono (by decide)) rfl dRewardPlace.g dRewardPlace.kp dRewardPlace.b .nil pass0 (pa_cons (pv 0) (pa_cons (pv 2) (pa_cons (pv 3) (pa_cons (pv 4) pa_nil))))))
      (pss_cons (ps_set (i := 7) scSetReward.nd rfl (by first | exact Or.inl rfl | exact Or.inr rfl) (pe_ix (ix_listK K (by rfl)) (pe_ix (ix_listK K (by rfl)) (pe_fldK K (by rfl) (pv 0) (by rfl)) (pv 1) (fun _ _ => rfl)) (pv 6) (fun _ _ => rfl)))
      (pss_cons (ps_asg (pe_ix (ix_listK K (by rfl)) (pv 5) pe_int (fun _ _ => rfl)) (pg_sub (pe_ix (ix_listK K (by rfl)) (pe_fldK K (by rfl) (pv 0) (by rfl)) (pv 1) (fun _ _ => rfl)) (pv 6) set_list))
      (pss_one (ps_ret (pe_lst (pa_cons pe_int (pa_cons (pv 7) pa_nil)))))))))), ?_⟩
    have e1 := Ex.refl H
    refine q_when (b := !((Kp389.isTable t && (decide (s < p.stateCount) && decide (a < p.actionCount))) && decide (f < p.stateCount))) (et_not (et_and (et_B (ev_call (ea_cons (ev_var rfl) (ea_cons (ev_var rfl) (ea_cons (ev_var rfl) (ea_cons (ev_var rfl) ea_nil)))) (spV_use fun H2 e2 => ⟨L, p, t, s, a, rfl, M.mono e2, by rw [tE, bE, bE]⟩)))
      fun _ => et_B (ev_call (ea_cons (ev_var rfl) (ea_cons (ev_var rfl) ea_nil)) (spV_use fun H2 e2 => ⟨L, p, f, rfl, M.mono e2, by rw [bE]⟩)))) (fun hb H2 e2 => ?_) (fun hb H2 e2 => ?_)
    · have hb : (Kp389.isTable t && Kp389.isState p s && Kp389.isAction p a && Kp389.isState p f) = false := by
        unfold Kp389.isState Kp389.isAction
        revert hb; cases Kp389.isTable t <;> cases decide (s < p.stateCount) <;> cases decide (f < p.stateCount) <;> cases decide (a < p.actionCount) <;> simp
      exact s_retL (el_lst (ea_cons ev_c ea_nil) (by simp)) ((D.pre (e1.trans e2)).same (M.mono (e1.trans e2)) (xs := [-2]) (by simp only [Kp389.step, hb]; rfl) (by simp))
    · have hb : Kp389.isTable t = true ∧ s < p.stateCount ∧ f < p.stateCount ∧ a < p.actionCount := by
        simp at hb; exact ⟨hb.1.1, hb.1.2.1, hb.2, hb.1.2.2⟩
      obtain ⟨b1, b2, b3, b4⟩ := hb
      have ht : t ≤ 1 := by simpa [Kp389.isTable] using b1
      have hb : (Kp389.isTable t && Kp389.isState p s && Kp389.isAction p a && Kp389.isState p f) = true := by
        unfold Kp389.isState Kp389.isAction; simp [b1, b2, b3, b4]
      have M2 := M.mono (e1.trans e2)
      have D2 := D.pre (e1.trans e2)
      have hl2 := ex_l (e1.trans e2) hl
      refine q_when (b := !(decide ((l.length : Int) = 1) && l.all Kp389.validReward)) (et_not (et_B (ev_call (ea_cons (ev_var rfl) (ea_cons ev_c ea_nil)) (spV_use fun H3 e3 => ⟨g, l, 1, rfl, ex_l e3 hl2, hz, by rw [aw_valid]⟩)))) (fun hc H3 e3 => ?_) (fun hc H3 e3 => ?_)
      · refine s_retL (el_lst (ea_cons ev_c ea_nil) (by simp)) ((D2.pre e3).same (M2.mono e3) (xs := [-22]) ?_ (by simp))
        have hx : ∀ v, l = [v] → Kp389.validReward v = false := by
          intro v e; subst e; simpa using hc
        match l, hx with
        | [], _ => simp only [Kp389.step, hb]; rfl
        | [v], hx => simp only [Kp389.step, hb, hx v rfl]; rfl
        | _ :: _ :: _, _ => simp only [Kp389.step, hb]; rfl
      · obtain ⟨v, rfl, hv⟩ : ∃ v, l = [v] ∧ Kp389.validReward v = true := by
          match l with
          | [] => simp at hc
          | [v] => exact ⟨v, rfl, by simpa using hc⟩
          | _ :: _ :: r => simp at hc; omega
        have M3 := M2.mono e3
        have hi := index_lt (p := p) b2 b4 b3
        have hil : Kp389.index p s a f < (Kp389.rewards p t).length := by rw [(rewards_ok M.wf t).1]; exact hi
        have hn := M.wf.n4
        have hm := M.wf.m3
        refine q_asg (ev_call (ea_cons (ev_var rfl) (ea_cons (ev_var rfl) (ea_cons (ev_var rfl) (ea_cons (ev_var rfl) ea_nil)))) (spV_use fun H4 e4 => ⟨L, p, s, a, f, rfl, M3.mono e4, by omega, by omega, rfl⟩)) fun H4 e4 => ?_
        have M4 := M3.mono e4
        refine q_asg (ev_ixI (l := Kp389.rewards p t) (ev_tab T M4 (ev_var rfl) ht (ev_var rfl)) (ev_var rfl) (sq_of (M4.rtAt ht)) hil) fun H5 e5 => ?_
        have M5 := M4.mono e5
        have hl5 := ex_l ((e3.trans e4).trans e5) hl2
        refine q_setL (M5.rtAt ht) (ev_ixI (l := [v]) (i := 0) (ev_var rfl) ev_c hl5 (by simp)) (ev_tab T M5 (ev_var rfl) ht (ev_var rfl)) (ev_var rfl) (by rw [iV_len]; exact hil) fun H6 e6 => ?_
        have M6 := M5.mono e6
        have hN : nextOf (.setReward t s a f [v]) p = Kp389.withRewards p t ((Kp389.rewards p t).set (Kp389.index p s a f) v) := by
          simp only [nextOf, Kp389.step, hb, hv]; rfl
        have hA : ansOf (.setReward t s a f [v]) p = [0, Kp389.reward p t s a f] := by
          simp only [ansOf, Kp389.step, hb, hv]; rfl
        rw [show ((iV (Kp389.rewards p t)).set (Kp389.index p s a f) (V.int ([v].getD 0 0))) = iV ((Kp389.rewards p t).set (Kp389.index p s a f) v) from iV_set _ _ _]
        have M7 := M6.setIn (t := t) (set_ok (i := Kp389.index p s a f) (rewards_ok M.wf t) hv)
        have hrt : L.rt t ∈ [L.a, L.rr, L.r0, L.r1, L.ww] := by unfold Lay.rt; by_cases e : t = 0 <;> simp [e]
        refine s_retL (el_lst (ea_cons ev_c (ea_cons (ev_var rfl) ea_nil)) (by simp)) fun q H8 nq e8 hq => ?_
        have nq6 : H6 q = none := by
          by_cases e : q = L.rt t
          · rw [e, upd_same] at nq; cases nq
          · rw [upd_ne e] at nq; exact nq
        have D6 := D2.pre (((e3.trans e4).trans e5).trans e6)
        refine D6 H8 L q (by rw [hN]; exact M7.mono e8) ((Chg.upd1 _ hrt _ rfl (fun x hx => Or.inl hx)).ex e8) nq6 (M6.fresh nq6) ?_
        rw [hA]; exact hq)
end
end SR

set_option maxHeartbeats 2000000
/-! changes.py, second part -/
namespace SR
open PySem PySem.Spec PyProof.Rows L2 Evl

section
variable {P : Program} {w : World} {K : PySem.W.Frag} {mg : Str → Option Value} {base : Heap} {C fi : Addr} {σ : L2.St} {H H' : Hp} {ta tb te : TE} {L : Lay} {p : Kp389.Process}

theorem not_t {b : Bool} (h : (!b) = true) : b = false := by cases b with | true => cases h | false => rfl
theorem not_f {b : Bool} (h : (!b) = false) : b = true := by cases b with | false => cases h | true => rfl
theorem sq_upd {a g : Addr} {o : HO} {xs : List V} (h : SqL K H g xs) (n : g ≠ a) : SqL K (upd H a o) g xs := by
  rcases h with (h | ⟨u, h⟩) | h
  · exact .inl (.inl (by rw [upd_ne n]; exact h))
  · exact .inl (.inr ⟨u, by rw [upd_ne n]; exact h⟩)
  · exact .inr h
/-- list(xs) -/
theorem el_copy {a : Addr} {xs : List V} (h : Ev te σ H (.ref a)) (hx : SqL K H a xs) : EvL (tCB (rLst K) (tCons te tNil)) σ H xs := fun H1 e Q q =>
  h H1 e _ fun H2 e2 => ⟨a, xs, rfl, Or.inl (ex_l (e.trans e2) hx), fun l hl => q l _ (fresh_back e2 hl) (e2.trans (Ex.new hl)) upd_same⟩
/-- xs[i] = a new list -/
theorem q_setLL {l : Addr} {xs ys : List V} {j : Nat} {D : Ends} {tz : TS} (hl : H l = some (.lst xs)) (h : EvL te σ H ys) (ho : Ev ta σ H (.ref l)) (hi : Ev tb σ H (.int (j : Int))) (hj : j < xs.length)
    (k : ∀ q H1, H q = none → Ex H H1 → H1 q = some (.lst ys) → tz D σ (upd H1 l (.lst (xs.set j (.ref q))))) : tSeq (tAsg te (gSub ta tb rSetL)) tz D σ H :=
  h H (Ex.refl H) _ fun q H1 nq e1 hq => ho H1 e1 _ fun H2 e2 => hi H2 (e1.trans e2) _ fun H3 e3 =>
    ⟨l, xs, (j : Int), j, rfl, rfl, ((e1.trans e2).trans e3) l _ hl, ixN_nat hj, k q H3 nq ((e1.trans e2).trans e3) ((e2.trans e3) _ _ hq)⟩
theorem not_upd {H : Hp} {l q : Addr} {o : HO} (h : (upd H l o) q = none) : H q = none := by
  by_cases e : q = l
  · rw [e, upd_same] at h; cases h
  · rw [upd_ne e] at h; exact h
theorem addrs_rt {L : Lay} {t : Nat} {q x : Addr} (h : x ∈ addrs (L.withRt t q)) : x ∈ addrs L ∨ x = q := by
  unfold addrs Lay.withRt at *
  by_cases e : t = 0
  · simp only [e, if_true, List.mem_cons] at h ⊢
    rcases h with h | h | h | h | h | h <;> simp [h]
  · simp only [e, if_false, List.mem_cons] at h ⊢
    rcases h with h | h | h | h | h | h <;> simp [h]
theorem withRt_a {L : Lay} {t : Nat} {q : Addr} : (L.withRt t q).a = L.a := by
  unfold Lay.withRt; by_cases e : t = 0 <;> simp [e]
/-- a table's list is another from here on: what a call leaves -/
theorem Done.put {Q : VK} {c : Kp389.Call} {t : Nat} {l ans : List Int} (d : Done C H L p c Q) (M : Mdl C H L p) (ht : t ≤ 1) (hl : okR p l) (hn : nextOf c p = Kp389.withRewards p t l) (ha : ansOf c p = ans) {g : Addr} {H1 : Hp} (ng : H g = none) (e1 : Ex H H1) (hg : H1 g = some (.lst (iV l)))
    {r : Addr} {H2 : Hp} (nr : (upd H1 L.rr (.lst ([.ref L.r0, .ref L.r1].set t (.ref g)))) r = none) (e2 : Ex (upd H1 L.rr (.lst ([.ref L.r0, .ref L.r1].set t (.ref g)))) H2) (hr : H2 r = some (.lst (iV ans))) : Q (.ref r) H2 := by
  have M1 := (M.mono e1).putIn ht hl hg (M.fresh ng)
  refine d H2 (L.withRt t g) r (by rw [hn]; exact M1.mono e2) ⟨fun b o hb hx => ?_, withRt_a, fun x hx => ?_⟩ (fresh_back e1 (not_upd nr)) ?_ (by rw [ha]; exact hr)
  · refine e2 _ _ ?_
    rw [upd_ne (show b ≠ L.rr from fun e => hx (by simp [e]))]; exact e1 _ _ hb
  · rcases addrs_rt hx with h | h
    · exact Or.inl h
    · subst h; exact Or.inr ng
  · intro h
    exact M1.tracked r h nr

def dfSetRewards (T : Txt K mg C fi) (dTableExists : Df P w K mg base "table_exists" 1 ["table"] spTableExists) (dCanBeGiven : Df P w K mg base "can_be_given" 2 ["numbers", "wanted_count"] (spCanBeGiven K)) (r : Rw K mg "set_rewards" sSetRewards) : Df P w K mg base "set_rewards" 3 ["model", "table", "given"] (spSetRewards K C) :=
  r.df (k := 2) scSetRewards (fun _ _ _ _ _ _ us hl => match us, hl with | [_, _, _], _ => rfl)
  (fun vs H Q E h => by obtain ⟨_, _, _, _, _, rfl, _⟩ := h; rfl) (fun cdv A outer s H vs Q E hr h => by
    obtain ⟨L, p, t, g, l, rfl, M, hl, hz, D⟩ := h
    refine ⟨_, (pss_cons (ps_if (pt_not (pt_val (pe_call dTableExists.ok (hr.mono (by decide)) rfl dTableExists.g dTableExists.kp dTableExists.b .nil pass0 (pa_cons (pv 1) pa_nil)))) (pss_one (ps_ret (pe_lst (pa_cons (pe_globI rfl T.c_NOT_THERE) pa_nil)))) pss_nil)
      (pss_cons (ps_if (pt_not (pt_val (pe_call dCanBeGiven.ok (hr.mono (by decide)) rfl dCanBeGiven.g dCanBeGiven.kp dCanBeGiven.b .nil pass0 (pa_cons (pv 2) (pa_cons (pe_fldK K (by rfl) (pv 0) (by rfl)) pa_nil))))) (pss_one (ps_ret (pe_lst (pa_cons (pe_globI rfl T.c_OUT_OF_LIMITS) pa_nil)))) pss_nil)
      (pss_cons (ps_asg (pe_callTy (call_listK K (by rfl)) (by rfl) T.n_list (by decide +kernel) (pa_cons (pv 2) pa_nil)) (pg_sub (pe_fldK K (by rfl) (pv 0) (by rfl)) (pv 1) set_list))
      (pss_one (ps_ret (pe_lst (pa_cons pe_int pa_nil))))))), ?_⟩
    refine q_when (b := !(Kp389.isTable t)) (et_not (et_B (ev_call (ea_cons (ev_var rfl) ea_nil) (spV_use fun H2 e2 => ⟨t, rfl, by rw [tE]⟩)))) (fun hb H1 e1 => ?_) (fun hb H1 e1 => ?_)
    · have hb : Kp389.isTable t = false := by simpa using hb
      exact s_retL (el_lst (ea_cons ev_c ea_nil) (by simp)) ((D.pre e1).same (M.mono e1) (xs := [-2]) (by simp only [Kp389.step, hb]; rfl) (by simp))
    · have b1 : Kp389.isTable t = true := by simpa using hb
      have ht : t ≤ 1 := by simpa [Kp389.isTable] using b1
      have M1 := M.mono e1
      have D1 := D.pre e1
      have hl1 := ex_l e1 hl
      refine q_when (b := !(decide ((l.length : Int) = (Kp389.rewardCount p : Int)) && l.all Kp389.validReward)) (et_not (et_B (ev_call (ea_cons (ev_var rfl) (ea_cons (ev_f5 T M1 (ev_var rfl)) ea_nil)) (spV_use fun H3 e3 => ⟨g, l, _, rfl, ex_l e3 hl1, hz, by rw [aw_valid]⟩)))) (fun hc H2 e2 => ?_) (fun hc H2 e2 => ?_)
      · refine s_retL (el_lst (ea_cons ev_c ea_nil) (by simp)) ((D1.pre e2).same (M1.mono e2) (xs := [-22]) ?_ (by simp))
        have hx : l.length ≠ Kp389.rewardCount p ∨ l.all Kp389.validReward = false := by
          by_cases h1 : l.length = Kp389.rewardCount p
          · right; simpa [h1] using hc
          · exact Or.inl h1
        simp only [Kp389.step, b1, hx, if_true]; rfl
      · have h1 : l.length = Kp389.rewardCount p := by simp at hc; omega
        have h2 : l.all Kp389.validReward = true := by rw [h1] at hc; simpa using hc
        have M2 := M1.mono e2
        have hx : ¬ (l.length ≠ Kp389.rewardCount p ∨ l.all Kp389.validReward = false) := by simp [h1, h2]
        refine q_setLL M2.rr (el_copy (ev_var rfl) (ex_l e2 hl1)) (ev_f6 T M2 (ev_var rfl)) (ev_var rfl) (by simp; omega) fun q H3 nq e3 hq => ?_
        refine s_retL (el_lst (ea_cons ev_c ea_nil) (by simp)) fun r H4 nr e4 hr => ?_
        exact (D1.pre e2).put (ans := [0]) M2 ht ⟨h1, valid_ok h2⟩ (by simp only [nextOf, Kp389.step, b1, hx, if_false]; rfl) (by simp only [ansOf, Kp389.step, b1, hx, if_false]; rfl) nq e3 hq nr e4 hr)
def dfCopyRewards (T : Txt K mg C fi) (dTableExists : Df P w K mg base "table_exists" 1 ["table"] spTableExists) (r : Rw K mg "copy_rewards" sCopyRewards) : Df P w K mg base "copy_rewards" 2 ["model", "table"] (spCopyRewards C) :=
  r.df (k := 1) scCopyRewards (fun _ _ _ _ _ _ us hl => match us, hl with | [_, _], _ => rfl)
  (fun vs H Q E h => by obtain ⟨_, _, _, rfl, _⟩ := h; rfl) (fun cdv A outer s H vs Q E hr h => by
    obtain ⟨L, p, t, rfl, M, D⟩ := h
    refine ⟨_, (pss_cons (ps_if (pt_not (pt_val (pe_call dTableExists.ok (hr.mono (by decide)) rfl dTableExists.g dTableExists.kp dTableExists.b .nil pass0 (pa_cons (pv 1) pa_nil)))) (pss_one (ps_ret (pe_lst (pa_cons (pe_globI rfl T.c_NOT_THERE) pa_nil)))) pss_nil)
      (pss_cons (ps_asg (pe_callTy (call_listK K (by rfl)) (by rfl) T.n_list (by decide +kernel) (pa_cons (pe_ix (ix_listK K (by rfl)) (pe_fldK K (by rfl) (pv 0) (by rfl)) (pe_op op_sub pe_int (pv 1)) (fun _ _ => rfl)) pa_nil)) (pg_sub (pe_fldK K (by rfl) (pv 0) (by rfl)) (pv 1) set_list))
      (pss_one (ps_ret (pe_lst (pa_cons pe_int pa_nil)))))), ?_⟩
    refine q_when (b := !(Kp389.isTable t)) (et_not (et_B (ev_call (ea_cons (ev_var rfl) ea_nil) (spV_use fun H2 e2 => ⟨t, rfl, by rw [tE]⟩)))) (fun hb H1 e1 => ?_) (fun hb H1 e1 => ?_)
    · have hb : Kp389.isTable t = false := by simpa using hb
      exact s_retL (el_lst (ea_cons ev_c ea_nil) (by simp)) ((D.pre e1).same (M.mono e1) (xs := [-2]) (by simp only [Kp389.step, hb]; rfl) (by simp))
    · have b1 : Kp389.isTable t = true := by simpa using hb
      have ht : t ≤ 1 := by simpa [Kp389.isTable] using b1
      have M1 := M.mono e1
      have D1 := D.pre e1
      have e0 : ((1 : Int) - (t : Int)) = ((1 - t : Nat) : Int) := by omega
      refine q_setLL (ys := iV (Kp389.rewards p (1 - t))) M1.rr (el_copy (ev_tab T M1 (ev_var rfl) (t := 1 - t) (by omega) (by rw [← e0]; exact ev_sub ev_c (ev_var rfl))) (sq_of (M1.rtAt (by omega)))) (ev_f6 T M1 (ev_var rfl)) (ev_var rfl) (by simp; omega) fun q H3 nq e3 hq => ?_
      refine s_retL (el_lst (ea_cons ev_c ea_nil) (by simp)) fun r H4 nr e4 hr => ?_
      exact D1.put (ans := [0]) M1 ht (rewards_ok M.wf (1 - t)) (by simp only [nextOf, Kp389.step, b1, if_true]; rfl) (by simp only [ansOf, Kp389.step, b1, if_true]; rfl) nq e3 hq nr e4 hr)
def dfReplaceRewards (T : Txt K mg C fi) (dCanBeRewards : Df P w K mg base "can_be_rewards" 2 ["numbers"] (spCanBeRewards K)) (r : Rw K mg "replace_rewards" sReplaceRewards) : Df P w K mg base "replace_rewards" 3 ["model", "table", "rewards"] (spReplaceRewards C) :=
  r.df (k := 2) scReplaceRewards (fun _ _ _ _ _ _ us hl => match us, hl with | [_, _, _], _ => rfl)
  (fun vs H Q E h => by obtain ⟨_, _, _, _, _, rfl, _⟩ := h; rfl) (fun cdv A outer s H vs Q E hr h => by
    obtain ⟨L, p, t, g, l, rfl, M, ht, hg, hf, hll, q⟩ := h
    refine ⟨_, (pss_cons (ps_if (pt_not (pt_val (pe_call dCanBeRewards.ok (hr.mono (by decide)) rfl dCanBeRewards.g dCanBeRewards.kp dCanBeRewards.b .nil pass0 (pa_cons (pv 2) pa_nil)))) (pss_one (ps_ret (pe_lst (pa_cons (pe_globI rfl T.c_TOO_LARGE) pa_nil)))) pss_nil)
      (pss_cons (ps_asg (pv 2) (pg_sub (pe_fldK K (by rfl) (pv 0) (by rfl)) (pv 1) set_list))
      (pss_one (ps_ret (pe_lst (pa_cons pe_int pa_nil)))))), ?_⟩
    have hrc := rc_le M.wf
    refine q_when (b := !(Kp389.withinLimit l)) (et_not (et_B (ev_call (ea_cons (ev_var rfl) ea_nil) (spV_use fun H2 e2 => ⟨g, l, rfl, sq_of (e2 _ _ hg), by omega, by rw [aw_limit]⟩)))) (fun hb H1 e1 => ?_) (fun hb H1 e1 => ?_)
    · have hb : Kp389.withinLimit l = false := by simpa using hb
      simp only [hb] at q
      exact s_retL (el_lst (ea_cons ev_c ea_nil) (by simp)) fun r H2 nr e2 hr => q H2 L r (M.mono (e1.trans e2)) (fun b o h _ => (e1.trans e2) _ _ h) rfl (fun x hx => Or.inl hx) (fresh_back e1 nr) (M.fresh (fresh_back e1 nr)) hr
    · have hb : Kp389.withinLimit l = true := by simpa using hb
      simp only [hb, if_true] at q
      have M1 := M.mono e1
      refine q_setL M1.rr (ev_var (i := 2) rfl) (ev_f6 T M1 (ev_var rfl)) (ev_var rfl) (by simp; omega) fun H3 e3 => ?_
      refine s_retL (el_lst (ea_cons ev_c ea_nil) (by simp)) fun r H4 nr e4 hr => ?_
      have M3 := (M1.mono e3).putIn ht ⟨hll, limit_ok hb⟩ ((e1.trans e3) _ _ hg) hf
      refine q H4 (L.withRt t g) r (M3.mono e4) (fun b o h hx => ?_) withRt_a (fun x hx => addrs_rt hx) (fresh_back (e1.trans e3) (not_upd nr)) (fun h => M3.tracked r h nr) hr
      refine e4 _ _ ?_
      rw [upd_ne (show b ≠ L.rr from fun e => hx (by simp [e]))]; exact (e1.trans e3) _ _ h)
def dfSetTransition (T : Txt K mg C fi) (dStateExists : Df P w K mg base "state_exists" 1 ["model", "state"] (spStateExists C)) (dActionExists : Df P w K mg base "action_exists" 1 ["model", "action"] (spActionExists C)) (dCanBeWeights : Df P w K mg base "can_be_weights" 2 ["model", "weights"] (spCanBeWeights K C)) (dTransitionPlace : Df P w K mg base "transition_place" 1 ["model", "state", "action"] (spTransitionPlace C)) (r : Rw K mg "set_transition" sSetTransition) : Df P w K mg base "set_transition" 3 ["model", "state", "action", "weights"] (spSetTransition K C) :=
  r.df (k := 2) scSetTransition (fun _ _ _ _ _ _ us hl => match us, hl with | [_, _, _, _], _ => rfl)
  (fun vs H Q E h => by obtain ⟨_, _, _, _, _, _, rfl, _⟩ := h; rfl) (fun cdv A outer s H vs Q E hr h => by
    obtain ⟨L, p, s, a, g, l, rfl, M, hl, hz, hgw, D⟩ := h
    refine ⟨_, (pss_cons (ps_if (pt_not (PW.pt (pw_and (pt_val (pe_call dStateExists.ok (hr.mono (by decide)) rfl dStateExists.g dStateExists.kp dStateExists.b .nil pass0 (pa_cons (pv 0) (pa_cons (pv 1) pa_nil)))) (pw_and1 (pt_val (pe_call dActionExists.ok (hr.mono (by decide)) rfl dActionExists.g dActionExists.kp dActionExists.b .nil pass0 (pa_cons (pv 0) (pa_cons (pv 2) pa_nil)))))))) (pss_one (ps_ret (pe_lst (pa_cons (pe_globI rfl T.c_NOT_THERE) pa_nil)))) pss_nil)
      (pss_cons (ps_if (pt_not (pt_val (pe_call dCanBeWeights.ok (hr.mono (by decide)) rfl dCanBeWeights.g dCanBeWeights.kp dCanBeWeights.b .nil pass0 (pa_cons (pv 0) (pa_cons (pv 3) pa_nil))))) (pss_one (ps_ret (pe_lst (pa_cons (pe_globI rfl T.c_OUT_OF_LIMITS) pa_nil)))) pss_nil)
      (pss_cons (ps_asg (pe_callTy (call_listK K (by rfl)) (by rfl) T.n_list (by decide +kernel) (pa_cons (pv 3) pa_nil)) (pg_sub (pe_fldK K (by rfl) (pv 0) (by rfl)) (pe_call dTransitionPlace.ok (hr.mono (by decide)) rfl dTransitionPlace.g dTransitionPlace.kp dTransitionPlace.b .nil pass0 (pa_cons (pv 0) (pa_cons (pv 1) (pa_cons (pv 2) pa_nil)))) set_list))
      (pss_one (ps_ret (pe_lst (pa_cons (pe_callB (cr_sumK K (by rfl) rfl) (by rfl) T.n_sum (by decide +kernel) (pa_cons (pv 3) pa_nil)) pa_nil))))))), ?_⟩
    refine q_when (b := !(decide (s < p.stateCount) && decide (a < p.actionCount))) (et_not (et_and (et_B (ev_call (ea_cons (ev_var rfl) (ea_cons (ev_var rfl) ea_nil)) (spV_use fun H2 e2 => ⟨L, p, s, rfl, M.mono e2, by rw [bE]⟩)))
      fun _ => et_B (ev_call (ea_cons (ev_var rfl) (ea_cons (ev_var rfl) ea_nil)) (spV_use fun H2 e2 => ⟨L, p, a, rfl, M.mono e2, by rw [bE]⟩)))) (fun hb H1 e1 => ?_) (fun hb H1 e1 => ?_)
    · have hb : (Kp389.isState p s && Kp389.isAction p a) = false := not_t hb
      exact s_retL (el_lst (ea_cons ev_c ea_nil) (by simp)) ((D.pre e1).same (M.mono e1) (xs := [-2]) (by simp only [Kp389.step, hb]; rfl) (by simp))
    · have hb0 : s < p.stateCount ∧ a < p.actionCount := by simpa using hb
      have hb : (Kp389.isState p s && Kp389.isAction p a) = true := not_f hb
      have M1 := M.mono e1
      have D1 := D.pre e1
      have hl1 := ex_l e1 hl
      have hl2 : SqL K H1 g (iV (l.map fun (n : Nat) => (n : Int))) := by rw [← nV_iV]; exact hl1
      refine q_when (b := !(Kp389.validWeights p l)) (et_not (et_B (ev_call (ea_cons (ev_var rfl) (ea_cons (ev_var rfl) ea_nil)) (spV_use fun H2 e2 => ⟨L, p, g, l.map fun (n : Nat) => (n : Int), rfl, M1.mono e2, ex_l e2 hl2, by simpa using hz, by rw [cw_valid]⟩)))) (fun hc H2 e2 => ?_) (fun hc H2 e2 => ?_)
      · have hc : Kp389.validWeights p l = false := by simpa using hc
        exact s_retL (el_lst (ea_cons ev_c ea_nil) (by simp)) ((D1.pre e2).same (M1.mono e2) (xs := [-22]) (by simp only [Kp389.step, hb, hc]; rfl) (by simp))
      · have hc : Kp389.validWeights p l = true := by simpa using hc
        have M2 := M1.mono e2
        have hn := M.wf.n4
        have hm := M.wf.m3
        have hk : s * p.actionCount + a < L.ws.length := by rw [M.wl, M.wf.tl]; exact place_lt hb0.1 hb0.2
        refine q_setLL M2.ww (el_copy (ev_var rfl) (ex_l e2 hl1)) (ev_f7 T M2 (ev_var rfl)) (ev_call (ea_cons (ev_var rfl) (ea_cons (ev_var rfl) (ea_cons (ev_var rfl) ea_nil))) (spV_use fun H3 e3 => ⟨L, p, s, a, rfl, M2.mono e3, by omega, by omega, rfl⟩)) (by simpa using hk) fun q H3 nq e3 hq => ?_
        have hmap : (L.ws.map V.ref).set (s * p.actionCount + a) (.ref q) = (L.ws.set (s * p.actionCount + a) q).map V.ref := by simp [List.map_set]
        rw [hmap]
        have M3 := (M2.mono e3).putW (k := s * p.actionCount + a) hc hq (M2.fresh nq)
        have hl3 : SqL K (upd H3 L.ww (.lst ((L.ws.set (s * p.actionCount + a) q).map V.ref))) q (iV (l.map fun (n : Nat) => (n : Int))) := by
          rw [← nV_iV]; refine sq_of ?_
          rw [upd_ne (show q ≠ L.ww from fun e => by rw [e, M2.ww] at nq; cases nq)]; exact hq
        -- the answer is the sum of the list that was handed in; that list may be one that stands locked
        have hl4 : SqL K (upd H3 L.ww (.lst ((L.ws.set (s * p.actionCount + a) q).map V.ref))) g (iV (l.map fun (n : Nat) => (n : Int))) := by
          rw [← nV_iV]; exact sq_upd (ex_l (e2.trans e3) hl1) hgw
        refine s_retL (el_lst (ea_cons (ev_sum (ev_var rfl) hl4) ea_nil) (by simp)) fun r H4 nr e4 hr => ?_
        have nr3 := not_upd nr
        refine (D1.pre e2) H4 { L with ws := L.ws.set (s * p.actionCount + a) q } r ?_ ⟨fun b o h hx => ?_, rfl, fun x hx => ?_⟩ (fresh_back e3 nr3) (fun h => M3.tracked r h nr) ?_
        · have : nextOf (.setTransition s a l) p = { p with transitions := p.transitions.set (s * p.actionCount + a) l } := by simp only [nextOf, Kp389.step, hb, hc]; rfl
          rw [this]; exact M3.mono e4
        · refine e4 _ _ ?_
          rw [upd_ne (show b ≠ L.ww from fun e => hx (by simp [e]))]; exact e3 _ _ h
        · unfold addrs at hx ⊢
          simp only [List.mem_cons] at hx ⊢
          rcases hx with h | h | h | h | h | h
          · simp [h]
          · simp [h]
          · simp [h]
          · simp [h]
          · simp [h]
          · rcases List.mem_or_eq_of_mem_set h with h | h
            · simp [h]
            · subst h; exact Or.inr nq
        · have : ansOf (.setTransition s a l) p = [((l.sum : Nat) : Int)] := by simp only [ansOf, Kp389.step, hb, hc]; rfl
          rw [this, ← sum_nat]; exact hr)
end
end SR

set_option maxHeartbeats 2000000
/-! changes.py, third part -/
namespace SR
open PySem PySem.Spec PyProof.Rows L2 Evl
abbrev sShaped : Stmt := topS 37
theorem scShaped : FnScope ["model", "rewards", "potentials", "found", "state", "action", "following", "reward", "gained"] ["model", "rewards", "potentials"] (defScope sShaped) := ⟨rfl, rfl, rfl, by decide +kernel, rfl, by decide +kernel, by decide +kernel⟩
abbrev sShapeRewards : Stmt := topS 36
theorem scShapeRewards : FnScope ["model", "table", "potentials"] ["model", "table", "potentials"] (defScope sShapeRewards) := ⟨rfl, rfl, rfl, by decide +kernel, rfl, by decide +kernel, by decide +kernel⟩
abbrev sScaleRewards : Stmt := topS 38
theorem scScaleRewards : FnScope ["model", "table", "factor", "reward"] ["model", "table", "factor"] (defScope sScaleRewards) := ⟨rfl, rfl, rfl, by decide +kernel, rfl, by decide +kernel, by decide +kernel⟩

def shapeL (p : Kp389.Process) (r l : List Int) : List Int := (Kp389.triples p).map fun t => Kp389.rewardIn p r t.1 t.2.1 t.2.2 + (p.discountNum : Int) * l.getD t.2.2 0 - (p.discountDen : Int) * l.getD t.1 0
def shapeV (p : Kp389.Process) (r l : List Int) (s a q : Nat) : Int := Kp389.rewardIn p r s a q + (p.discountNum : Int) * l.getD q 0 - (p.discountDen : Int) * l.getD s 0
theorem shapeL_eq (p : Kp389.Process) (r l : List Int) : shapeL p r l = (List.range p.stateCount).flatMap fun s => (List.range p.actionCount).flatMap fun a => (List.range p.stateCount).map fun q => shapeV p r l s a q := by
  unfold shapeL Kp389.triples Kp389.states Kp389.actions shapeV
  rw [List.map_flatMap]
  congr 1; funext s
  rw [List.map_flatMap]
  congr 1; funext a
  rw [List.map_map]; rfl
theorem shapeL_len (p : Kp389.Process) (r l : List Int) : (shapeL p r l).length = Kp389.rewardCount p := by
  rw [shapeL_eq]
  simp only [List.length_flatMap, List.length_map, List.length_range, Kp389.rewardCount]
  simp only [List.map_const', List.length_range, List.sum_replicate_nat]
  rw [Nat.mul_assoc]

theorem len2 {α : Type} (j n : Nat) (f : Nat → Nat → α) : ((List.range j).flatMap fun a => (List.range n).map (f a)).length = j * n := by
  simp only [List.length_flatMap, List.length_map, List.length_range]
  rw [List.map_const', List.length_range, List.sum_replicate_nat]
theorem len3 {α : Type} (i m n : Nat) (f : Nat → Nat → Nat → α) : ((List.range i).flatMap fun s => (List.range m).flatMap fun a => (List.range n).map (f s a)).length = i * (m * n) := by
  simp only [List.length_flatMap, List.length_map, List.length_range]
  simp only [List.map_const', List.length_range, List.sum_replicate_nat]
def spShaped (K : PySem.W.Frag) (C : Addr) : Sp := spL fun vs H xs => ∃ (L : Lay) (p : Kp389.Process) (g h : Addr) (r l : List Int), vs = [.ref L.a, .ref g, .ref h] ∧ Mdl C H L p ∧ SqL K H g (iV r) ∧ SqL K H h (iV l) ∧ r.length = Kp389.rewardCount p ∧ l.length = p.stateCount ∧
  (∀ x ∈ l, -1000 ≤ x ∧ x ≤ 1000) ∧ xs = iV (shapeL p r l)
def spShapeRewards (K : PySem.W.Frag) (C : Addr) : Sp := fun vs H Q _ => ∃ (L : Lay) (p : Kp389.Process) (t : Nat) (g : Addr) (l : List Int), vs = [.ref L.a, .int (t : Int), .ref g] ∧ Mdl C H L p ∧ SqL K H g (iV l) ∧ l.length ≤ 1000 ∧ Done C H L p (.shapeRewards t l) Q
def spScaleRewards (C : Addr) : Sp := fun vs H Q _ => ∃ (L : Lay) (p : Kp389.Process) (t c : Nat), vs = [.ref L.a, .int (t : Int), .int (c : Int)] ∧ Mdl C H L p ∧ Done C H L p (.scaleRewards t c) Q

theorem range_flat {α : Type} (f : Nat → List α) (i : Nat) : (List.range (i + 1)).flatMap f = (List.range i).flatMap f ++ f i := by
  rw [List.range_succ, List.flatMap_append]; simp
theorem range_map {α : Type} (f : Nat → α) (i : Nat) : (List.range (i + 1)).map f = (List.range i).map f ++ [f i] := by
  rw [List.range_succ, List.map_append]; rfl
theorem getD_le {l : List Int} {b : Int} (h : ∀ x ∈ l, -b ≤ x ∧ x ≤ b) (hb : 0 ≤ b) (i : Nat) : -b ≤ l.getD i 0 ∧ l.getD i 0 ≤ b := by
  by_cases hi : i < l.length
  · simp only [List.getD, List.getElem?_eq_getElem hi, Option.getD_some]; exact h _ (List.getElem_mem hi)
  · simp only [List.getD, List.getElem?_eq_none (Nat.le_of_not_lt hi), Option.getD_none]; omega

section
variable {P : Program} {w : World} {K : PySem.W.Frag} {mg : Str → Option Value} {base : Heap} {C fi : Addr} {σ : L2.St} {H H' : Hp} {ta tb te : TE} {L : Lay} {p : Kp389.Process}

def dfShaped (T : Txt K mg C fi) (dRewardPlace : Df P w K mg base "reward_place" 2 ["model", "state", "action", "following"] (spRewardPlace C)) (r : Rw K mg "shaped" sShaped) : Df P w K mg base "shaped" 3 ["model", "rewards", "potentials"] (spShaped K C) :=
  r.df (k := 2) scShaped (fun _ _ _ _ _ _ us hl => match us, hl with | [_, _, _], _ => rfl)
  (fun vs H Q E h => by obtain ⟨_, ⟨_, _, _, _, _, _, rfl, _⟩, _⟩ := h; rfl) (fun cdv A outer s H vs Q E hr h => by
    obtain ⟨_, ⟨L, p, g, h, r, l, rfl, M, hg, hh, hrl, hll, hb, rfl⟩, q⟩ := h
    refine ⟨_, (pss_cons (ps_set (i := 3) scShaped.nd rfl (by first | exact Or.inl rfl | exact Or.inr rfl) (pe_lst pa_nil))
      (pss_cons (ps_for PassesOwn.never rfl (pi_range1 rfl T.n_range (pa_cons (pe_fldK K (by rfl) (pv 0) (by rfl)) pa_nil)) (pg_name (i := 4) scShaped.nd rfl (by first | exact Or.inl rfl | exact Or.inr rfl)) (pss_one (ps_for PassesOwn.never rfl (pi_range1 rfl T.n_range (pa_cons (pe_fldK K (by rfl) (pv 0) (by rfl)) pa_nil)) (pg_name (i := 5) scShaped.nd rfl (by first | exact Or.inl rfl | exact Or.inr rfl)) (pss_one (ps_for PassesOwn.never rfl (pi_range1 rfl T.n_range (pa_cons (pe_fldK K (by rfl) (pv 0) (by rfl)) pa_nil)) (pg_name (i := 6) scShaped.nd rfl (by first | exact Or.inl rfl | exact Or.inr rfl)) (pss_cons (ps_set (i := 7) scShaped.nd rfl (by first | exact Or.inl rfl | exact Or.inr rfl) (pe_ix (ix_listK K (by rfl)) (pv 1) (pe_call dRewardPlace.ok (hr.mono (by decide)) rfl dRewardPlace.g dRewardPlace.kp dRewardPlace.b .nil pass0 (pa_cons (pv 0) (pa_cons (pv 4) (pa_cons (pv 5) (pa_cons (pv 6) pa_nil))))) (fun _ _ => rfl)))
      (pss_cons (ps_set (i := 8) scShaped.nd rfl (by first | exact Or.inl rfl | exact Or.inr rfl) (pe_op op_mulW (pe_fldK K (by rfl) (pv 0) (by rfl)) (pe_ix (ix_listK K (by rfl)) (pv 2) (pv 6) (fun _ _ => rfl))))
      (pss_one (ps_expr (pe_bm PySem.F.plainAttrs_list PySem.F.slot_list_append PySem.F.type_list_append mt_append (pv 3) (pa_cons (pe_op op_sub (pe_op op_add (pv 7) (pv 8)) (pe_op op_mulW (pe_fldK K (by rfl) (pv 0) (by rfl)) (pe_ix (ix_listK K (by rfl)) (pv 2) (pv 4) (fun _ _ => rfl)))) pa_nil)))))))))))
      (pss_one (ps_ret (pv 3))))), ?_⟩
    have hn := M.wf.n4
    have hm := M.wf.m3
    have hd := M.wf.h10
    have hgh := M.wf.gh
    refine q_asgL (el_lst ea_nil (by simp)) fun fd H1 nfd e1 hfd => ?_
    -- the word of all three loops: the slots, what was there, and what is made so far
    let St : L2.St → Hp → List Int → Prop := fun σ' H' acc => (∃ v4 v5 v6 v7 v8, σ' = [some (.ref L.a), some (.ref g), some (.ref h), some (.ref fd), v4, v5, v6, v7, v8]) ∧ Ex H H' ∧ H' fd = some (.lst (iV acc))
    have hrc := rc_le M.wf
    refine q_forR1 (n := (p.stateCount : Int)) (ea_cons (ev_f1 T (M.mono e1) (ev_var rfl)) ea_nil) (by omega)
      (fun i σ' H' => St σ' H' ((List.range i).flatMap fun s => (List.range p.actionCount).flatMap fun a => (List.range p.stateCount).map fun q => shapeV p r l s a q))
      (fun H2 e2 => ⟨⟨none, none, none, none, none, rfl⟩, e1.trans e2, e2 _ _ hfd⟩) ?_ ?_
    · rintro i σ1 H2 hi ⟨⟨v4, v5, v6, v7, v8, rfl⟩, e2, h2⟩
      have hi : i < p.stateCount := by omega
      refine s_forR1 (n := (p.actionCount : Int)) (ea_cons (ev_f2 T (M.mono e2) (ev_var rfl)) ea_nil) (by omega)
        (fun j σ' H' => (∃ v5 v6 v7 v8, σ' = [some (.ref L.a), some (.ref g), some (.ref h), some (.ref fd), some (.int (i : Int)), v5, v6, v7, v8]) ∧ Ex H H' ∧
          H' fd = some (.lst (iV (((List.range i).flatMap fun s => (List.range p.actionCount).flatMap fun a => (List.range p.stateCount).map fun q => shapeV p r l s a q) ++ (List.range j).flatMap fun a => (List.range p.stateCount).map fun q => shapeV p r l i a q))))
        (fun H3 e3 => ⟨⟨v5, v6, v7, v8, rfl⟩, e2.trans e3, by rw [e3 _ _ h2]; simp⟩) ?_ ?_
      · rintro j σ2 H3 hj ⟨⟨v5, v6, v7, v8, rfl⟩, e3, h3⟩
        have hj : j < p.actionCount := by omega
        refine s_forR1 (n := (p.stateCount : Int)) (ea_cons (ev_f1 T (M.mono e3) (ev_var rfl)) ea_nil) (by omega)
          (fun k σ' H' => (∃ v6 v7 v8, σ' = [some (.ref L.a), some (.ref g), some (.ref h), some (.ref fd), some (.int (i : Int)), some (.int (j : Int)), v6, v7, v8]) ∧ Ex H H' ∧
            H' fd = some (.lst (iV ((((List.range i).flatMap fun s => (List.range p.actionCount).flatMap fun a => (List.range p.stateCount).map fun q => shapeV p r l s a q) ++ (List.range j).flatMap fun a => (List.range p.stateCount).map fun q => shapeV p r l i a q) ++ (List.range k).map fun q => shapeV p r l i j q))))
          (fun H4 e4 => ⟨⟨v6, v7, v8, rfl⟩, e3.trans e4, by rw [e4 _ _ h3]; simp⟩) ?_ ?_
        · rintro k σ3 H4 hk ⟨⟨v6, v7, v8, rfl⟩, e4, h4⟩
          have hk : k < p.stateCount := by omega
          have M4 := M.mono e4
          have hidx := index_lt (p := p) hi hj hk
          refine q_asg (v := .int (r.getD (Kp389.index p i j k) 0)) (ev_ixI (ev_var rfl) (ev_call (ea_cons (ev_var rfl) (ea_cons (ev_var rfl) (ea_cons (ev_var rfl) (ea_cons (ev_var rfl) ea_nil)))) (spV_use fun H5 e5 => ⟨L, p, i, j, k, rfl, M4.mono e5, by omega, by omega, rfl⟩)) (ex_l e4 hg) (by omega)) fun H5 e5 => ?_
          have M5 := M4.mono e5
          have hk1 := getD_le hb (by decide) k
          have hk2 := getD_le hb (by decide) i
          refine q_asg (v := .int ((p.discountNum : Int) * l.getD k 0)) (ev_mul (ev_f3 T M5 (ev_var rfl)) (ev_ixI (ev_var rfl) (ev_var rfl) (ex_l (e4.trans e5) hh) (by omega)) (by omega) (by omega)) fun H6 e6 => ?_
          have M6 := M5.mono e6
          refine s_app (v := .int (shapeV p r l i j k)) (e6 _ _ (e5 _ _ h4)) (ev_var rfl) (ev_sub (ev_add (ev_var rfl) (ev_var rfl)) (ev_mul (ev_f4 T M6 (ev_var rfl)) (ev_ixI (ev_var rfl) (ev_var rfl) (ex_l ((e4.trans e5).trans e6) hh) (by omega)) (by omega) (by omega))) ?_ fun H7 e7 => ?_
          · rw [iV_len, List.length_append, List.length_append, len3, len2, List.length_map, List.length_range]
            have h1 : p.actionCount * p.stateCount ≤ 3 * 4 := Nat.mul_le_mul hm hn
            have h2 : i * (p.actionCount * p.stateCount) ≤ 4 * 12 := Nat.mul_le_mul (by omega) h1
            have h3 : j * p.stateCount ≤ 3 * 4 := Nat.mul_le_mul (by omega) hn
            omega
          · refine ⟨⟨_, _, _, rfl⟩, Ex.mut (((e4.trans e5).trans e6).trans e7) nfd, ?_⟩
            rw [upd_same, range_map, ← List.append_assoc]
            simp [iV]
        · rintro σ3 H4 ⟨⟨v6, v7, v8, rfl⟩, e4, h4⟩
          refine ⟨⟨_, _, _, _, rfl⟩, e4, ?_⟩
          rw [h4, range_flat, ← List.append_assoc]
          simp
      · rintro σ2 H3 ⟨⟨v5, v6, v7, v8, rfl⟩, e3, h3⟩
        refine ⟨⟨_, _, _, _, _, rfl⟩, e3, ?_⟩
        rw [h3, range_flat]
        simp
    · rintro σ1 H2 ⟨⟨v4, v5, v6, v7, v8, rfl⟩, e2, h2⟩
      refine s_ret (ev_var rfl) fun H3 e3 => q fd H3 nfd (e2.trans e3) ?_
      rw [e3 _ _ h2, shapeL_eq]
      simp)
/-- a new list handed on to the call that puts it in a table's place -/
theorem ret_replace {c : Kp389.Call} {t : Nat} {l : List Int} {D : Ends} {E : XK} {tl : TE} {i j : Nat} (M : Mdl C H L p) (ht : t ≤ 1) (hl : EvL tl σ H (iV l)) (hll : l.length = Kp389.rewardCount p) (h1 : σ[i]? = some (some (.ref L.a))) (h2 : σ[j]? = some (some (.int (t : Int))))
    (d : Done C H L p c D.rt) (hn : nextOf c p = if Kp389.withinLimit l then Kp389.withRewards p t l else p) (ha : ansOf c p = if Kp389.withinLimit l then [0] else [-75]) :
    tRet (tCall (spReplaceRewards C) [] E (tCons (tVar i) (tCons (tVar j) (tCons tl tNil)))) D σ H :=
  ⟨_, h1, _, h2, hl H (Ex.refl H) _ fun q H1 nq e1 hq => ⟨L, p, t, q, l, rfl, M.mono e1, ht, hq, M.fresh nq, hll, fun H' L' r m f a ad nr hr hans =>
    d H' L' r (by rw [hn]; exact m) ⟨fun b o hb hx => f b o (e1 _ _ hb) hx, a, fun x hx => by
      rcases ad x hx with h | h
      · exact Or.inl h
      · subst h; exact Or.inr nq⟩ (fresh_back e1 nr) hr (by rw [ha]; exact hans)⟩⟩
def dfShapeRewards (T : Txt K mg C fi) (dTableExists : Df P w K mg base "table_exists" 1 ["table"] spTableExists) (dCanBeGiven : Df P w K mg base "can_be_given" 2 ["numbers", "wanted_count"] (spCanBeGiven K)) (dShaped : Df P w K mg base "shaped" 3 ["model", "rewards", "potentials"] (spShaped K C)) (dReplaceRewards : Df P w K mg base "replace_rewards" 3 ["model", "table", "rewards"] (spReplaceRewards C)) (r : Rw K mg "shape_rewards" sShapeRewards) : Df P w K mg base "shape_rewards" 4 ["model", "table", "potentials"] (spShapeRewards K C) :=
  r.df (k := 3) scShapeRewards (fun _ _ _ _ _ _ us hl => match us, hl with | [_, _, _], _ => rfl)
  (fun vs H Q E h => by obtain ⟨_, _, _, _, _, rfl, _⟩ := h; rfl) (fun cdv A outer s H vs Q E hr h => by
    obtain ⟨L, p, t, g, l, rfl, M, hl, hz, D⟩ := h
    refine ⟨_, (pss_cons (ps_if (pt_not (pt_val (pe_call dTableExists.ok (hr.mono (by decide)) rfl dTableExists.g dTableExists.kp dTableExists.b .nil pass0 (pa_cons (pv 1) pa_nil)))) (pss_one (ps_ret (pe_lst (pa_cons (pe_globI rfl T.c_NOT_THERE) pa_nil)))) pss_nil)
      (pss_cons (ps_if (pt_not (pt_val (pe_call dCanBeGiven.ok (hr.mono (by decide)) rfl dCanBeGiven.g dCanBeGiven.kp dCanBeGiven.b .nil pass0 (pa_cons (pv 2) (pa_cons (pe_fldK K (by rfl) (pv 0) (by rfl)) pa_nil))))) (pss_one (ps_ret (pe_lst (pa_cons (pe_globI rfl T.c_OUT_OF_LIMITS) pa_nil)))) pss_nil)
      (pss_one (ps_ret (pe_call dReplaceRewards.ok (hr.mono (by decide)) rfl dReplaceRewards.g dReplaceRewards.kp dReplaceRewards.b .nil pass0 (pa_cons (pv 0) (pa_cons (pv 1) (pa_cons (pe_call dShaped.ok (hr.mono (by decide)) rfl dShaped.g dShaped.kp dShaped.b .nil pass0 (pa_cons (pv 0) (pa_cons (pe_ix (ix_listK K (by rfl)) (pe_fldK K (by rfl) (pv 0) (by rfl)) (pv 1) (fun _ _ => rfl)) (pa_cons (pv 2) pa_nil)))) pa_nil)))))))), ?_⟩
    refine q_when (b := !(Kp389.isTable t)) (et_not (et_B (ev_call (ea_cons (ev_var rfl) ea_nil) (spV_use fun H2 e2 => ⟨t, rfl, by rw [tE]⟩)))) (fun hb H1 e1 => ?_) (fun hb H1 e1 => ?_)
    · have hb : Kp389.isTable t = false := not_t hb
      exact s_retL (el_lst (ea_cons ev_c ea_nil) (by simp)) ((D.pre e1).same (M.mono e1) (xs := [-2]) (by simp only [Kp389.step, hb]; rfl) (by simp))
    · have b1 : Kp389.isTable t = true := not_f hb
      have ht : t ≤ 1 := by simpa [Kp389.isTable] using b1
      have M1 := M.mono e1
      have D1 := D.pre e1
      have hl1 := ex_l e1 hl
      refine q_when (b := !(decide ((l.length : Int) = (p.stateCount : Int)) && l.all Kp389.validReward)) (et_not (et_B (ev_call (ea_cons (ev_var rfl) (ea_cons (ev_f1 T M1 (ev_var rfl)) ea_nil)) (spV_use fun H3 e3 => ⟨g, l, _, rfl, ex_l e3 hl1, hz, by rw [aw_valid]⟩)))) (fun hc H2 e2 => ?_) (fun hc H2 e2 => ?_)
      · refine s_retL (el_lst (ea_cons ev_c ea_nil) (by simp)) ((D1.pre e2).same (M1.mono e2) (xs := [-22]) ?_ (by simp))
        have hx : l.length ≠ p.stateCount ∨ l.all Kp389.validReward = false := by
          by_cases h1 : l.length = p.stateCount
          · right; simpa [h1] using hc
          · exact Or.inl h1
        simp only [Kp389.step, b1, hx, if_true]; rfl
      · have h1 : l.length = p.stateCount := by simp at hc; omega
        have h2 : l.all Kp389.validReward = true := by rw [h1] at hc; simpa using hc
        have hx : ¬ (l.length ≠ p.stateCount ∨ l.all Kp389.validReward = false) := by simp [h1, h2]
        have M2 := M1.mono e2
        have hv : ∀ x ∈ l, -1000 ≤ x ∧ x ≤ 1000 := by
          intro x hx
          have := List.all_eq_true.mp h2 x hx
          unfold Kp389.validReward at this; simp at this; omega
        refine ret_replace (c := .shapeRewards t l) (l := shapeL p (Kp389.rewards p t) l) M2 ht ?_ (shapeL_len _ _ _) rfl rfl (D1.pre e2) ?_ ?_
        · exact el_call (ea_cons (ev_var rfl) (ea_cons (ev_tab T M2 (ev_var rfl) ht (ev_var rfl)) (ea_cons (ev_var rfl) ea_nil))) (spL_use fun H3 e3 => ⟨L, p, L.rt t, g, Kp389.rewards p t, l, rfl, M2.mono e3, sq_of ((M2.mono e3).rtAt ht), ex_l (e2.trans e3) hl1, (rewards_ok M.wf t).1, h1, hv, rfl⟩)
        · show nextOf _ _ = if Kp389.withinLimit (Kp389.shape p t l) then Kp389.withRewards p t (Kp389.shape p t l) else p
          cases hw : Kp389.withinLimit (Kp389.shape p t l) <;> simp only [nextOf, Kp389.step, b1, hx, hw, if_false] <;> rfl
        · show ansOf _ _ = if Kp389.withinLimit (Kp389.shape p t l) then [0] else [-75]
          cases hw : Kp389.withinLimit (Kp389.shape p t l) <;> simp only [ansOf, Kp389.step, b1, hx, hw, if_false] <;> rfl)
def dfScaleRewards (T : Txt K mg C fi) (dTableExists : Df P w K mg base "table_exists" 1 ["table"] spTableExists) (dReplaceRewards : Df P w K mg base "replace_rewards" 3 ["model", "table", "rewards"] (spReplaceRewards C)) (r : Rw K mg "scale_rewards" sScaleRewards) : Df P w K mg base "scale_rewards" 4 ["model", "table", "factor"] (spScaleRewards C) :=
  r.df (k := 3) scScaleRewards (fun _ _ _ _ _ _ us hl => match us, hl with | [_, _, _], _ => rfl)
  (fun vs H Q E h => by obtain ⟨_, _, _, _, rfl, _⟩ := h; rfl) (fun cdv A outer s H vs Q E hr h => by
    obtain ⟨L, p, t, c, rfl, M, D⟩ := h
    refine ⟨_, (pss_cons (ps_if (pt_not (pt_val (pe_call dTableExists.ok (hr.mono (by decide)) rfl dTableExists.g dTableExists.kp dTableExists.b .nil pass0 (pa_cons (pv 1) pa_nil)))) (pss_one (ps_ret (pe_lst (pa_cons (pe_globI rfl T.c_NOT_THERE) pa_nil)))) pss_nil)
      (pss_cons (ps_if (pt_not (pt_chain op_le op_le pe_int (pv 2) pe_int)) (pss_one (ps_ret (pe_lst (pa_cons (pe_globI rfl T.c_OUT_OF_LIMITS) pa_nil)))) pss_nil)
      (pss_one (ps_ret (pe_call dReplaceRewards.ok (hr.mono (by decide)) rfl dReplaceRewards.g dReplaceRewards.kp dReplaceRewards.b .nil pass0 (pa_cons (pv 0) (pa_cons (pv 1) (pa_cons (pe_lc (own := [("reward", 3)]) (g := gName 3) (tt := tYes) rfl scScaleRewards.nd (pi_list (pe_ix (ix_listK K (by rfl)) (pe_fldK K (by rfl) (pv 0) (by rfl)) (pv 1) (fun _ _ => rfl))) (blkOk_by (N := ["model", "table", "factor", "reward"]) (sc := defScope sScaleRewards) (by decide +kernel)) (fun _ _ _ _ _ => (pg_name (i := 3) scScaleRewards.nd rfl (by first | exact Or.inl rfl | exact Or.inr rfl))) (fun _ _ _ _ _ => pts_nil) (fun _ _ _ _ _ => (pe_op op_mulW (pv 3) (pv 2)))) pa_nil)))))))), ?_⟩
    refine q_when (b := !(Kp389.isTable t)) (et_not (et_B (ev_call (ea_cons (ev_var rfl) ea_nil) (spV_use fun H2 e2 => ⟨t, rfl, by rw [tE]⟩)))) (fun hb H1 e1 => ?_) (fun hb H1 e1 => ?_)
    · have hb : Kp389.isTable t = false := not_t hb
      exact s_retL (el_lst (ea_cons ev_c ea_nil) (by simp)) ((D.pre e1).same (M.mono e1) (xs := [-2]) (by simp only [Kp389.step, hb]; rfl) (by simp))
    · have b1 : Kp389.isTable t = true := not_f hb
      have ht : t ≤ 1 := by simpa [Kp389.isTable] using b1
      have M1 := M.mono e1
      have D1 := D.pre e1
      refine q_when (b := !(decide ((1 : Int) ≤ (c : Int)) && decide ((c : Int) ≤ 100))) (et_not (et_test (ev_chain ev_c (ev_var rfl) ev_c rv_I0 rv_I0))) (fun hc H2 e2 => ?_) (fun hc H2 e2 => ?_)
      · have hx : c < 1 ∨ 100 < c := by
          have := not_t hc
          by_cases h1 : c < 1
          · exact Or.inl h1
          · right
            by_cases h2 : 100 < c
            · exact h2
            · have e1 : decide ((1 : Int) ≤ (c : Int)) = true := decide_eq_true (by omega)
              have e2 : decide ((c : Int) ≤ 100) = true := decide_eq_true (by omega)
              rw [e1, e2] at this; cases this
        exact s_retL (el_lst (ea_cons ev_c ea_nil) (by simp)) ((D1.pre e2).same (M1.mono e2) (xs := [-22]) (by simp only [Kp389.step, b1, hx, if_true]; rfl) (by simp))
      · have hc1 : 1 ≤ c ∧ c ≤ 100 := by
          have := not_f hc
          simp only [Bool.and_eq_true, decide_eq_true_eq] at this
          omega
        have hx : ¬ (c < 1 ∨ 100 < c) := by omega
        have M2 := M1.mono e2
        have hok := rewards_ok M.wf t
        have hrc := rc_le M.wf
        refine ret_replace (c := .scaleRewards t c) (l := (Kp389.rewards p t).map fun x => x * (c : Int)) M2 ht ?_ (by simp [hok.1]) rfl rfl (D1.pre e2) ?_ ?_
        · have := el_map (K := K) (te := tOp (rI CMulW fun i j => .int (i * j)) (tVar 3) (tVar 2)) (σ := start ["model", "table", "factor", "reward"] [.ref L.a, .int (t : Int), .int (c : Int)]) (vs := [3]) (j := 3) V.int (fun x => V.int (x * (c : Int))) (ev_tab T M2 (ev_var (i := 0) rfl) ht (ev_var (i := 1) rfl)) (sq_of (M2.rtAt ht)) (by rw [hok.1]; omega) (fun x => rfl)
            (fun i x H1 e1 hx => by
              have hb := hok.2 x (List.mem_of_getElem? hx)
              exact ev_mul (ev_var rfl) (ev_var rfl) (by omega) (by omega))
          unfold iV; rw [List.map_map]; exact this
        · cases hw : Kp389.withinLimit ((Kp389.rewards p t).map fun x => x * (c : Int)) <;> simp only [nextOf, Kp389.step, b1, hx, hw, if_false] <;> rfl
        · cases hw : Kp389.withinLimit ((Kp389.rewards p t).map fun x => x * (c : Int)) <;> simp only [ansOf, Kp389.step, b1, hx, hw, if_false] <;> rfl)
end
end SR

set_option maxHeartbeats 2000000
/-! changes.py, last part; the plain questions -/
namespace SR
open PySem PySem.Spec PyProof.Rows L2 Evl
abbrev sDeterministic : Stmt := topS 28
theorem scDeterministic : FnScope ["model", "next_states", "state"] ["model", "next_states"] (defScope sDeterministic) := ⟨rfl, rfl, rfl, by decide +kernel, rfl, by decide +kernel, by decide +kernel⟩
abbrev sGetTransition : Stmt := topS 71
theorem scGetTransition : FnScope ["model", "state", "action"] ["model", "state", "action"] (defScope sGetTransition) := ⟨rfl, rfl, rfl, by decide +kernel, rfl, by decide +kernel, by decide +kernel⟩
abbrev sRewardGain : Stmt := topS 75
theorem scRewardGain : FnScope ["model", "state", "action", "following", "place"] ["model", "state", "action", "following"] (defScope sRewardGain) := ⟨rfl, rfl, rfl, by decide +kernel, rfl, by decide +kernel, by decide +kernel⟩
abbrev sGainOfStaying : Stmt := topS 74
theorem scGainOfStaying : FnScope ["model", "state"] ["model", "state"] (defScope sGainOfStaying) := ⟨rfl, rfl, rfl, by decide +kernel, rfl, by decide +kernel, by decide +kernel⟩
abbrev sDiffersByShaping : Stmt := topS 73
theorem scDiffersByShaping : FnScope ["model", "state", "action", "following", "lost_share", "taken", "given"] ["model", "state", "action", "following"] (defScope sDiffersByShaping) := ⟨rfl, rfl, rfl, by decide +kernel, rfl, by decide +kernel, by decide +kernel⟩

section
variable {P : Program} {w : World} {K : PySem.W.Frag} {mg : Str → Option Value} {base : Heap} {C fi : Addr} {σ : L2.St} {H H' : Hp} {ta tb te : TE} {L : Lay} {p : Kp389.Process}

/-- all weights new -/
theorem Mdl.allW (M : Mdl C H L p) {q : Addr} {ws : List Addr} {ts : List (List Nat)} (hl : ts.length = p.stateCount * p.actionCount) (hv : ∀ w ∈ ts, Kp389.validWeights p w = true) (hq : H q = some (.lst (ws.map V.ref))) (hf : q ∉ addrs L)
    (hwl : ws.length = ts.length) (hws : ∀ (i : Nat) (x : Addr) (w : List Nat), ws[i]? = some x → ts[i]? = some w → H x = some (.lst (nV w))) (hwf : ∀ x ∈ ws, x ∉ addrs L ∧ x ≠ q) :
    Mdl C (upd H L.a (.ins C L.dx (flds p L.rr q))) { L with ww := q, ws := ws } { p with transitions := ts } := by
  obtain ⟨n1, n2, n3, n4, n5, n6⟩ := nd4 M.nd
  unfold addrs at hf hwf
  simp only [List.mem_cons, not_or] at hf hwf
  obtain ⟨g1, g2, g3, g4, g5, g6⟩ := hf
  refine ⟨upd_same, ?_, ?_, ?_, ?_, hwl, ?_, nd4_mk n1 n2 (Ne.symm g2) n4 (Ne.symm g3) (Ne.symm g4), ?_, withTrans_wf M.wf hl hv⟩
  · rw [upd_ne (M.a_ne M.rr)]; exact M.rr
  · rw [upd_ne (M.a_ne M.r0)]; exact M.r0
  · rw [upd_ne (M.a_ne M.r1)]; exact M.r1
  · rw [upd_ne (M.a_ne hq)]; exact hq
  · intro i x w h1 h2
    rw [upd_ne (hwf x (List.mem_of_getElem? h1)).1.1]; exact hws i x w h1 h2
  · intro x hx
    obtain ⟨⟨h1, h2, h3, h4, h5, h6⟩, h7⟩ := hwf x hx
    exact sep4_mk ⟨h2, h3, h4, h7⟩
theorem putF_weights {rr ww q : Addr} : putF "weights" (.ref q) (flds p rr ww) = flds p rr q := by
  unfold flds
  rw [show ∀ (f g : Str) (v x : V) (r : List (Str × V)), ¬ g = f → putF f v ((g, x) :: r) = (g, x) :: putF f v r from fun f g v x r h => if_neg h]
  · rw [show ∀ (f g : Str) (v x : V) (r : List (Str × V)), ¬ g = f → putF f v ((g, x) :: r) = (g, x) :: putF f v r from fun f g v x r h => if_neg h]
    · rw [show ∀ (f g : Str) (v x : V) (r : List (Str × V)), ¬ g = f → putF f v ((g, x) :: r) = (g, x) :: putF f v r from fun f g v x r h => if_neg h]
      · rw [show ∀ (f g : Str) (v x : V) (r : List (Str × V)), ¬ g = f → putF f v ((g, x) :: r) = (g, x) :: putF f v r from fun f g v x r h => if_neg h]
        · rw [show ∀ (f g : Str) (v x : V) (r : List (Str × V)), ¬ g = f → putF f v ((g, x) :: r) = (g, x) :: putF f v r from fun f g v x r h => if_neg h]
          · rw [show ∀ (f g : Str) (v x : V) (r : List (Str × V)), ¬ g = f → putF f v ((g, x) :: r) = (g, x) :: putF f v r from fun f g v x r h => if_neg h]
            · exact congrArg _ (congrArg _ (congrArg _ (congrArg _ (congrArg _ (congrArg _ (if_pos rfl))))))
            · decide +kernel
          · decide +kernel
        · decide +kernel
      · decide +kernel
    · decide +kernel
  · decide +kernel
theorem det_at {l : List Nat} {i : Nat} {q : Nat} (h : l[i]? = some q) : (Kp389.deterministic p l).transitions[i]? = some ((List.range p.stateCount).map fun k => if k = q then 1 else 0) := by
  simp [Kp389.deterministic, Kp389.states, h]
theorem det_valid {l : List Nat} (h : Kp389.validWorld p l = true) : (Kp389.deterministic p l).transitions.length = p.stateCount * p.actionCount ∧ ∀ w ∈ (Kp389.deterministic p l).transitions, Kp389.validWeights p w = true := by
  unfold Kp389.validWorld at h
  simp only [Bool.and_eq_true, decide_eq_true_eq, List.all_eq_true] at h
  refine ⟨by simp [Kp389.deterministic, h.1], fun w hw => ?_⟩
  obtain ⟨q, hq, rfl⟩ := List.mem_map.mp hw
  have := h.2 q hq
  exact unit_valid p q (by simpa [Kp389.isState] using this)

/-- xs + ys, the first one new, the second one standing -/
theorem el_cat {xs ys : List V} {q : Addr} (ha : EvL ta σ H xs) (hb : Ev tb σ H (.ref q)) (hq : H q = some (.lst ys)) (hl : xs.length + ys.length ≤ 100000) : EvL (tOp rCat ta tb) σ H (xs ++ ys) := fun H1 e Q k =>
  ha H1 e _ fun p H2 np e2 hp => hb H2 (e.trans e2) _ fun H3 e3 => ⟨p, q, xs, ys, rfl, rfl, e3 _ _ hp, e3 _ _ (e2 _ _ (e _ _ hq)), sz_of hl, fun r hr => k r _ (fresh_back (e2.trans e3) hr) ((e2.trans e3).trans (Ex.new hr)) upd_same⟩
/-- both new -/
theorem el_catLL {xs ys : List V} (ha : EvL ta σ H xs) (hb : EvL tb σ H ys) (hl : xs.length + ys.length ≤ 100000) : EvL (tOp rCat ta tb) σ H (xs ++ ys) := fun H1 e Q k =>
  ha H1 e _ fun p H2 np e2 hp => hb H2 (e.trans e2) _ fun q H3 nq e3 hq => ⟨p, q, xs, ys, rfl, rfl, e3 _ _ hp, hq, sz_of hl, fun r hr => k r _ (fresh_back (e2.trans e3) hr) ((e2.trans e3).trans (Ex.new hr)) upd_same⟩
/-- hands back a new list of new objects -/
def spLN (S : List V → Hp → Nat → (Nat → HO) → Prop) : Sp := fun vs H Q _ => ∃ n o, S vs H n o ∧ ∀ (p : Addr) (ws : List Addr) H', H p = none → Ex H H' → ws.length = n → H' p = some (.lst (ws.map V.ref)) →
  (∀ (i : Nat) (q : Addr), ws[i]? = some q → q ≠ p ∧ H q = none ∧ H' q = some (o i)) → Q (.ref p) H'
theorem elo_call {S : List V → Hp → Nat → (Nat → HO) → Prop} {vs dvs : List V} {E : XK} {ta : TA} {n : Nat} {o : Nat → HO} (h : EvA ta σ H vs) (hs : ∀ H1, Ex H H1 → S (vs ++ dvs) H1 n o) : EvLO false (tCall (spLN S) dvs E ta) σ H n o := fun H1 e Q q =>
  h H1 e _ fun H2 e2 => ⟨n, o, hs H2 (e.trans e2), fun p ws H3 np e3 hl hp hr => q p ws H3 (fresh_back e2 np) (e2.trans e3) hl hp fun i x hx => ⟨(hr i x hx).1, Or.inl (fresh_back e2 (hr i x hx).2.1), (hr i x hx).2.2⟩⟩
theorem s_retLN {D : Ends} {n : Nat} {o : Nat → HO} (h : EvLO false te σ H n o) (k : ∀ (p : Addr) (ws : List Addr) H', H p = none → Ex H H' → ws.length = n → H' p = some (.lst (ws.map V.ref)) →
    (∀ (i : Nat) (q : Addr), ws[i]? = some q → q ≠ p ∧ H q = none ∧ H' q = some (o i)) → D.rt (.ref p) H') : tRet te D σ H := h H (Ex.refl H) _ fun p ws H2 np e2 hl hp hr => k p ws H2 np e2 hl hp fun i x hx => by
  obtain ⟨t1, t2, t3⟩ := hr i x hx
  refine ⟨t1, ?_, t3⟩
  rcases t2 with t2 | t2
  · exact t2
  · cases t2.1
def detO (p : Kp389.Process) (l : List Nat) (i : Nat) : HO := .lst (nV ((List.range p.stateCount).map fun k => if k = l.getD i 0 then 1 else 0))
def spDeterministic (K : PySem.W.Frag) (C : Addr) : Sp := spLN fun vs H n o => ∃ (L : Lay) (p : Kp389.Process) (g : Addr) (l : List Nat), vs = [.ref L.a, .ref g] ∧ Mdl C H L p ∧ SqL K H g (nV l) ∧ l.length ≤ 1000 ∧ n = l.length ∧ o = detO p l
def dfDeterministic (T : Txt K mg C fi) (dCertain : Df P w K mg base "certain" 1 ["state_count", "following"] spCertain) (r : Rw K mg "deterministic" sDeterministic) : Df P w K mg base "deterministic" 2 ["model", "next_states"] (spDeterministic K C) :=
  r.df (k := 1) scDeterministic (fun _ _ _ _ _ _ us hl => match us, hl with | [_, _], _ => rfl)
  (fun vs H Q E h => by obtain ⟨_, _, ⟨_, _, _, _, rfl, _⟩, _⟩ := h; rfl) (fun cdv A outer s H vs Q E hr h => by
    obtain ⟨_, _, ⟨L, p, g, l, rfl, M, hl, hz, rfl, rfl⟩, q⟩ := h
    refine ⟨_, (pss_one (ps_ret (pe_lc (own := [("state", 2)]) (g := gName 2) (tt := tYes) rfl scDeterministic.nd (pi_list (pv 1)) (blkOk_by (N := ["model", "next_states", "state"]) (sc := defScope sDeterministic) (by decide +kernel)) (fun _ _ _ _ _ => (pg_name (i := 2) scDeterministic.nd rfl (by first | exact Or.inl rfl | exact Or.inr rfl))) (fun _ _ _ _ _ => pts_nil) (fun _ _ _ _ _ => (pe_call dCertain.ok (hr.mono (by decide)) rfl dCertain.g dCertain.kp dCertain.b .nil pass0 (pa_cons (pe_fldK K (by rfl) (pv 0) (by rfl)) (pa_cons (pv 2) pa_nil))))))), ?_⟩
    have hn := M.wf.n4
    have hL : EvLO false (tLc (iList K (tVar 1)) (gName 2) tYes (tCall spCertain [] E0 (tCons (tFld K (tVar 0) "state_count") (tCons (tVar 2) tNil))) [2]) (start ["model", "next_states", "state"] [.ref L.a, .ref g]) H (nV l).length (detO p l) := by
      refine elo_L (ev_var rfl) hl (by rw [nV_len]; omega) (fun x => rfl) fun i x hx => eob_L ?_
      have hx2 : ∃ y, l[i]? = some y ∧ x = .int (y : Int) := by
        unfold nV at hx
        rw [List.getElem?_map] at hx
        cases hy : l[i]? with
        | none => rw [hy] at hx; cases hx
        | some y => rw [hy] at hx; exact ⟨y, rfl, (Option.some.inj hx).symm⟩
      obtain ⟨y, hy, rfl⟩ := hx2
      have hg : l.getD i 0 = y := by simp [List.getD, hy]
      rw [hg]
      exact el_call (ea_cons (ev_f1 T M (ev_var rfl)) (ea_cons (ev_var rfl) ea_nil)) (spL_use fun H2 e2 => ⟨p.stateCount, (y : Int), rfl, by omega, (certain_nat p.stateCount y).symm⟩)
    rw [nV_len] at hL
    exact s_retLN hL q)
def dfSetDeterministic (T : Txt K mg C fi) (dCanBeNextStates : Df P w K mg base "can_be_next_states" 2 ["model", "next_states"] (spCanBeNextStates K C)) (dDeterministic : Df P w K mg base "deterministic" 2 ["model", "next_states"] (spDeterministic K C)) (r : Rw K mg "set_deterministic" sSetDeterministic) : Df P w K mg base "set_deterministic" 3 ["model", "next_states"] (spSetDeterministic K C) :=
  r.df (k := 2) scSetDeterministic (fun _ _ _ _ _ _ us hl => match us, hl with | [_, _], _ => rfl)
  (fun vs H Q E h => by obtain ⟨_, _, _, _, rfl, _⟩ := h; rfl) (fun cdv A outer s H vs Q E hr h => by
    obtain ⟨L, p, g, l, rfl, M, hl, hz, D⟩ := h
    refine ⟨_, (pss_cons (ps_if (pt_not (pt_val (pe_call dCanBeNextStates.ok (hr.mono (by decide)) rfl dCanBeNextStates.g dCanBeNextStates.kp dCanBeNextStates.b .nil pass0 (pa_cons (pv 0) (pa_cons (pv 1) pa_nil))))) (pss_one (ps_ret (pe_lst (pa_cons (pe_globI rfl T.c_OUT_OF_LIMITS) pa_nil)))) pss_nil)
      (pss_cons (ps_fld (pv 0) (pe_call dDeterministic.ok (hr.mono (by decide)) rfl dDeterministic.g dDeterministic.kp dDeterministic.b .nil pass0 (pa_cons (pv 0) (pa_cons (pv 1) pa_nil))) rfl)
      (pss_one (ps_ret (pe_lst (pa_cons pe_int pa_nil)))))), ?_⟩
    have hl2 : SqL K H g (iV (l.map fun (n : Nat) => (n : Int))) := by rw [← nV_iV]; exact hl
    refine q_when (b := !(Kp389.validWorld p l)) (et_not (et_B (ev_call (ea_cons (ev_var rfl) (ea_cons (ev_var rfl) ea_nil)) (spV_use fun H2 e2 => ⟨L, p, g, l.map fun (n : Nat) => (n : Int), rfl, M.mono e2, ex_l e2 hl2, by simpa using hz, by rw [cn_valid]⟩)))) (fun hc H1 e1 => ?_) (fun hc H1 e1 => ?_)
    · have hc := not_t hc
      exact s_retL (el_lst (ea_cons ev_c ea_nil) (by simp)) ((D.pre e1).same (M.mono e1) (xs := [-22]) (by simp only [Kp389.step, hc]; rfl) (by simp))
    · have hc := not_f hc
      have M1 := M.mono e1
      have D1 := D.pre e1
      obtain ⟨d1, d2⟩ := det_valid hc
      have hn := M.wf.n4
      have hL : EvLO false (tCall (spDeterministic K C) [] E0 (tCons (tVar 0) (tCons (tVar 1) tNil))) (start ["model", "next_states"] [.ref L.a, .ref g]) H1 l.length (detO p l) :=
        elo_call (vs := [.ref L.a, .ref g]) (ea_cons (ev_var rfl) (ea_cons (ev_var rfl) ea_nil)) fun H2 e2 => ⟨L, p, g, l, rfl, M1.mono e2, ex_l (e1.trans e2) hl, hz, rfl, rfl⟩
      show sFld K (tVar 0) (tCall (spDeterministic K C) [] E0 (tCons (tVar 0) (tCons (tVar 1) tNil))) "weights" { nx := tRet (tLst (tCons (tC (.int 0)) tNil)) { nx := fun _ H' => Q .non H', rt := Q }, rt := Q } (start ["model", "next_states"] [.ref L.a, .ref g]) H1
      refine hL H1 (Ex.refl _) _ fun q ws H2 nq e2 hwl hq hws => ⟨_, rfl, L.a, C, L.dx, _, rfl, e2 _ _ M1.ins, T.cl, T.n7, Nat.lt_of_le_of_lt (Nat.le_of_ble_eq_true rfl) (by decide : 900 < 1000), ?_⟩
      rw [putF_weights]
      have M2 := M1.mono e2
      have hN : nextOf (.setDeterministic l) p = { p with transitions := (Kp389.deterministic p l).transitions } := by simp only [nextOf, Kp389.step, hc]; rfl
      have hA : ansOf (.setDeterministic l) p = [0] := by simp only [ansOf, Kp389.step, hc]; rfl
      have fresh : ∀ x ∈ ws, x ≠ q ∧ H1 x = none := by
        intro x hx
        obtain ⟨i, hi, rfl⟩ := List.mem_iff_getElem.mp hx
        obtain ⟨t1, t2, _⟩ := hws i ws[i] (List.getElem?_eq_getElem hi)
        refine ⟨t1, ?_⟩
        rcases t2 with t2 | t2
        · exact t2
        · cases t2.1
      have hlt : (Kp389.deterministic p l).transitions.length = l.length := by simp [Kp389.deterministic]
      have M3 := M2.allW (q := q) (ws := ws) d1 d2 hq (M1.fresh nq) (by rw [hwl, hlt]) (fun i x w h1 h2 => by
        have hi : i < l.length := by
          have := (List.getElem?_eq_some_iff.mp h2).1
          rw [hlt] at this; exact this
        have h3 := (hws i x h1).2.2
        rw [det_at (List.getElem?_eq_getElem hi)] at h2
        have h2 := Option.some.inj h2
        subst h2
        unfold detO at h3
        simpa [List.getD, List.getElem?_eq_getElem hi] using h3) (fun x hx => ⟨M1.fresh (fresh x hx).2, (fresh x hx).1⟩)
      refine s_retL (σ := start ["model", "next_states"] [.ref L.a, .ref g]) (D := { nx := fun _ H' => Q .non H', rt := Q }) (el_lst (ea_cons ev_c ea_nil) (by simp)) fun r H4 nr e4 hr => ?_
      refine D1 H4 { L with ww := q, ws := ws } r (by rw [hN]; exact M3.mono e4) ⟨fun b o h hx => ?_, rfl, fun x hx => ?_⟩ (fresh_back e2 (not_upd nr)) (fun h => M3.tracked r h nr) (by rw [hA]; exact hr)
      · refine e4 _ _ ?_
        rw [upd_ne (show b ≠ L.a from fun e => hx (by simp [e]))]; exact e2 _ _ h
      · unfold addrs at hx ⊢
        simp only [List.mem_cons] at hx ⊢
        rcases hx with h | h | h | h | h | h
        · simp [h]
        · simp [h]
        · simp [h]
        · simp [h]
        · subst h; exact Or.inr nq
        · exact Or.inr (fresh x h).2)

/-! questions.py: what the weights and the rewards are -/
def spGetTransition (C : Addr) : Sp := fun vs H Q _ => ∃ (L : Lay) (p : Kp389.Process) (s a : Nat), vs = [.ref L.a, .int (s : Int), .int (a : Int)] ∧ Mdl C H L p ∧ Done C H L p (.getTransition s a) Q
def spRewardGain (C : Addr) : Sp := spV fun vs H v => ∃ (L : Lay) (p : Kp389.Process) (s a q : Nat), vs = [.ref L.a, .int (s : Int), .int (a : Int), .int (q : Int)] ∧ Mdl C H L p ∧ s < p.stateCount ∧ a < p.actionCount ∧ q < p.stateCount ∧ v = .int (Kp389.reward p 1 s a q - Kp389.reward p 0 s a q)
def spGainOfStaying (C : Addr) : Sp := spV fun vs H v => ∃ (L : Lay) (p : Kp389.Process) (s : Nat), vs = [.ref L.a, .int (s : Int)] ∧ Mdl C H L p ∧ s < p.stateCount ∧ v = .int (Kp389.reward p 1 s 0 s - Kp389.reward p 0 s 0 s)
/-- the program's test of one reward -/
def gainI (p : Kp389.Process) (s a q : Nat) : Int := Kp389.reward p 1 s a q - Kp389.reward p 0 s a q
def difB (p : Kp389.Process) (s a q : Nat) : Bool := decide (((p.discountDen : Int) - (p.discountNum : Int)) * gainI p s a q = (p.discountDen : Int) * gainI p s 0 s - (p.discountNum : Int) * gainI p q 0 q)
def spDiffersByShaping (C : Addr) : Sp := spV fun vs H v => ∃ (L : Lay) (p : Kp389.Process) (s a q : Nat), vs = [.ref L.a, .int (s : Int), .int (a : Int), .int (q : Int)] ∧ Mdl C H L p ∧ s < p.stateCount ∧ a < p.actionCount ∧ q < p.stateCount ∧ v = .bl (difB p s a q)
theorem reward_le (h : WF p) (t s a q : Nat) : -100000 ≤ Kp389.reward p t s a q ∧ Kp389.reward p t s a q ≤ 100000 := by
  rw [← reward_eq]
  exact getD_le (rewards_ok h t).2 (by decide) _
theorem gain_le (h : WF p) (s a q : Nat) : -200000 ≤ gainI p s a q ∧ gainI p s a q ≤ 200000 := by
  unfold gainI
  have h1 := reward_le h 1 s a q
  have h2 := reward_le h 0 s a q
  omega
/-- model.rewards[written t][place] -/
theorem ev_rew (T : Txt K mg C fi) (M : Mdl C H L p) {tt : TE} (h : Ev ta σ H (.ref L.a)) {t : Nat} (ht : t ≤ 1) (hb : Ev tb σ H (.int (t : Int))) {s a q : Nat} (hs : s < p.stateCount) (ha : a < p.actionCount) (hq : q < p.stateCount) (hi : Ev tt σ H (.int (Kp389.index p s a q : Int))) :
    Ev (tOp (rIxL K) (tOp (rIxL K) (tFld K ta "rewards") tb) tt) σ H (.int (Kp389.reward p t s a q)) := by
  rw [← reward_eq]
  exact ev_ixI (ev_tab T M h ht hb) hi (sq_of (M.rtAt ht)) (by rw [(rewards_ok M.wf t).1]; exact index_lt hs ha hq)
def dfRewardGain (T : Txt K mg C fi) (dRewardPlace : Df P w K mg base "reward_place" 2 ["model", "state", "action", "following"] (spRewardPlace C)) (r : Rw K mg "reward_gain" sRewardGain) : Df P w K mg base "reward_gain" 3 ["model", "state", "action", "following"] (spRewardGain C) :=
  r.df (k := 2) scRewardGain (fun _ _ _ _ _ _ us hl => match us, hl with | [_, _, _, _], _ => rfl)
  (fun vs H Q E h => by obtain ⟨_, ⟨_, _, _, _, _, rfl, _⟩, _⟩ := h; rfl) (fun cdv A outer s H vs Q E hr h => by
    obtain ⟨_, ⟨L, p, s, a, f, rfl, M, hs, ha, hf, rfl⟩, q⟩ := h
    refine ⟨_, (pss_cons (ps_set (i := 4) scRewardGain.nd rfl (by first | exact Or.inl rfl | exact Or.inr rfl) (pe_call dRewardPlace.ok (hr.mono (by decide)) rfl dRewardPlace.g dRewardPlace.kp dRewardPlace.b .nil pass0 (pa_cons (pv 0) (pa_cons (pv 1) (pa_cons (pv 2) (pa_cons (pv 3) pa_nil))))))
      (pss_one (ps_ret (pe_op op_sub (pe_ix (ix_listK K (by rfl)) (pe_ix (ix_listK K (by rfl)) (pe_fldK K (by rfl) (pv 0) (by rfl)) pe_int (fun _ _ => rfl)) (pv 4) (fun _ _ => rfl)) (pe_ix (ix_listK K (by rfl)) (pe_ix (ix_listK K (by rfl)) (pe_fldK K (by rfl) (pv 0) (by rfl)) pe_int (fun _ _ => rfl)) (pv 4) (fun _ _ => rfl)))))), ?_⟩
    have hn := M.wf.n4
    have hm := M.wf.m3
    refine q_asg (ev_call (ea_cons (ev_var rfl) (ea_cons (ev_var rfl) (ea_cons (ev_var rfl) (ea_cons (ev_var rfl) ea_nil)))) (spV_use fun H4 e4 => ⟨L, p, s, a, f, rfl, M.mono e4, by omega, by omega, rfl⟩)) fun H1 e1 => ?_
    exact s_ret (ev_sub (ev_rew (t := 1) T (M.mono e1) (ev_var rfl) (by omega) ev_c hs ha hf (ev_var rfl)) (ev_rew (t := 0) T (M.mono e1) (ev_var rfl) (by omega) ev_c hs ha hf (ev_var rfl))) fun H2 e2 => q H2 (e1.trans e2))
def dfGainOfStaying (T : Txt K mg C fi) (dRewardGain : Df P w K mg base "reward_gain" 3 ["model", "state", "action", "following"] (spRewardGain C)) (r : Rw K mg "gain_of_staying" sGainOfStaying) : Df P w K mg base "gain_of_staying" 4 ["model", "state"] (spGainOfStaying C) :=
  r.df (k := 3) scGainOfStaying (fun _ _ _ _ _ _ us hl => match us, hl with | [_, _], _ => rfl)
  (fun vs H Q E h => by obtain ⟨_, ⟨_, _, _, rfl, _⟩, _⟩ := h; rfl) (fun cdv A outer s H vs Q E hr h => by
    obtain ⟨_, ⟨L, p, s, rfl, M, hs, rfl⟩, q⟩ := h
    refine ⟨_, (pss_one (ps_ret (pe_call dRewardGain.ok (hr.mono (by decide)) rfl dRewardGain.g dRewardGain.kp dRewardGain.b .nil pass0 (pa_cons (pv 0) (pa_cons (pv 1) (pa_cons pe_int (pa_cons (pv 1) pa_nil))))))), ?_⟩
    have hm := M.wf.m1
    exact s_ret (ev_call (ea_cons (ev_var rfl) (ea_cons (ev_var rfl) (ea_cons ev_c (ea_cons (ev_var rfl) ea_nil)))) (spV_use fun H4 e4 => ⟨L, p, s, 0, s, rfl, M.mono e4, hs, by omega, hs, rfl⟩)) q)
def dfDiffersByShaping (T : Txt K mg C fi) (dGainOfStaying : Df P w K mg base "gain_of_staying" 4 ["model", "state"] (spGainOfStaying C)) (dRewardGain : Df P w K mg base "reward_gain" 3 ["model", "state", "action", "following"] (spRewardGain C)) (r : Rw K mg "differs_by_shaping" sDiffersByShaping) : Df P w K mg base "differs_by_shaping" 5 ["model", "state", "action", "following"] (spDiffersByShaping C) :=
  r.df (k := 4) scDiffersByShaping (fun _ _ _ _ _ _ us hl => match us, hl with | [_, _, _, _], _ => rfl)
  (fun vs H Q E h => by obtain ⟨_, ⟨_, _, _, _, _, rfl, _⟩, _⟩ := h; rfl) (fun cdv A outer s H vs Q E hr h => by
    obtain ⟨_, ⟨L, p, s, a, f, rfl, M, hs, ha, hf, rfl⟩, q⟩ := h
    refine ⟨_, (pss_cons (ps_set (i := 4) scDiffersByShaping.nd rfl (by first | exact Or.inl rfl | exact Or.inr rfl) (pe_op op_sub (pe_fldK K (by rfl) (pv 0) (by rfl)) (pe_fldK K (by rfl) (pv 0) (by rfl))))
      (pss_cons (ps_set (i := 5) scDiffersByShaping.nd rfl (by first | exact Or.inl rfl | exact Or.inr rfl) (pe_op op_mulW (pe_fldK K (by rfl) (pv 0) (by rfl)) (pe_call dGainOfStaying.ok (hr.mono (by decide)) rfl dGainOfStaying.g dGainOfStaying.kp dGainOfStaying.b .nil pass0 (pa_cons (pv 0) (pa_cons (pv 1) pa_nil)))))
      (pss_cons (ps_set (i := 6) scDiffersByShaping.nd rfl (by first | exact Or.inl rfl | exact Or.inr rfl) (pe_op op_mulW (pe_fldK K (by rfl) (pv 0) (by rfl)) (pe_call dGainOfStaying.ok (hr.mono (by decide)) rfl dGainOfStaying.g dGainOfStaying.kp dGainOfStaying.b .nil pass0 (pa_cons (pv 0) (pa_cons (pv 3) pa_nil)))))
      (pss_one (ps_ret (pe_cmpR op_eq (pe_op op_mulW (pv 4) (pe_call dRewardGain.ok (hr.mono (by decide)) rfl dRewardGain.g dRewardGain.kp dRewardGain.b .nil pass0 (pa_cons (pv 0) (pa_cons (pv 1) (pa_cons (pv 2) (pa_cons (pv 3) pa_nil)))))) (pe_op op_sub (pv 5) (pv 6)) (nomark _))))))), ?_⟩
    have hd := M.wf.h10
    have hg := M.wf.gh
    have g1 := gain_le M.wf s 0 s
    have g2 := gain_le M.wf f 0 f
    have g3 := gain_le M.wf s a f
    refine q_asg (ev_sub (ev_f4 T M (ev_var rfl)) (ev_f3 T M (ev_var rfl))) fun H1 e1 => ?_
    have M1 := M.mono e1
    refine q_asg (v := .int ((p.discountDen : Int) * gainI p s 0 s)) (ev_mul (ev_f4 T M1 (ev_var rfl)) (ev_call (ea_cons (ev_var rfl) (ea_cons (ev_var rfl) ea_nil)) (spV_use fun H4 e4 => ⟨L, p, s, rfl, M1.mono e4, hs, rfl⟩)) (by omega) (by omega)) fun H2 e2 => ?_
    have M2 := M1.mono e2
    refine q_asg (v := .int ((p.discountNum : Int) * gainI p f 0 f)) (ev_mul (ev_f3 T M2 (ev_var rfl)) (ev_call (ea_cons (ev_var rfl) (ea_cons (ev_var rfl) ea_nil)) (spV_use fun H4 e4 => ⟨L, p, f, rfl, M2.mono e4, hf, rfl⟩)) (by omega) (by omega)) fun H3 e3 => ?_
    have M3 := M2.mono e3
    refine s_ret (ev_op (ev_mul (j := gainI p s a f) (ev_var rfl) (ev_call (ea_cons (ev_var rfl) (ea_cons (ev_var rfl) (ea_cons (ev_var rfl) (ea_cons (ev_var rfl) ea_nil)))) (spV_use fun H4 e4 => ⟨L, p, s, a, f, rfl, M3.mono e4, hs, ha, hf, rfl⟩)) (by omega) (by omega)) (ev_sub (ev_var rfl) (ev_var rfl)) rv_eqI) fun H4 e4 => q H4 (((e1.trans e2).trans e3).trans e4))
def dfGetTransition (T : Txt K mg C fi) (dStateExists : Df P w K mg base "state_exists" 1 ["model", "state"] (spStateExists C)) (dActionExists : Df P w K mg base "action_exists" 1 ["model", "action"] (spActionExists C)) (dTransitionPlace : Df P w K mg base "transition_place" 1 ["model", "state", "action"] (spTransitionPlace C)) (r : Rw K mg "get_transition" sGetTransition) : Df P w K mg base "get_transition" 2 ["model", "state", "action"] (spGetTransition C) :=
  r.df (k := 1) scGetTransition (fun _ _ _ _ _ _ us hl => match us, hl with | [_, _, _], _ => rfl)
  (fun vs H Q E h => by obtain ⟨_, _, _, _, rfl, _⟩ := h; rfl) (fun cdv A outer s H vs Q E hr h => by
    obtain ⟨L, p, s, a, rfl, M, D⟩ := h
    refine ⟨_, (pss_cons (ps_if (pt_not (PW.pt (pw_and (pt_val (pe_call dStateExists.ok (hr.mono (by decide)) rfl dStateExists.g dStateExists.kp dStateExists.b .nil pass0 (pa_cons (pv 0) (pa_cons (pv 1) pa_nil)))) (pw_and1 (pt_val (pe_call dActionExists.ok (hr.mono (by decide)) rfl dActionExists.g dActionExists.kp dActionExists.b .nil pass0 (pa_cons (pv 0) (pa_cons (pv 2) pa_nil)))))))) (pss_one (ps_ret (pe_lst (pa_cons (pe_globI rfl T.c_NOT_THERE) pa_nil)))) pss_nil)
      (pss_one (ps_ret (pe_op op_cat (pe_lst (pa_cons (pe_fldK K (by rfl) (pv 0) (by rfl)) pa_nil)) (pe_ix (ix_listK K (by rfl)) (pe_fldK K (by rfl) (pv 0) (by rfl)) (pe_call dTransitionPlace.ok (hr.mono (by decide)) rfl dTransitionPlace.g dTransitionPlace.kp dTransitionPlace.b .nil pass0 (pa_cons (pv 0) (pa_cons (pv 1) (pa_cons (pv 2) pa_nil)))) (fun _ _ => rfl)))))), ?_⟩
    refine q_when (b := !(decide (s < p.stateCount) && decide (a < p.actionCount))) (et_not (et_and (et_B (ev_call (ea_cons (ev_var rfl) (ea_cons (ev_var rfl) ea_nil)) (spV_use fun H2 e2 => ⟨L, p, s, rfl, M.mono e2, by rw [bE]⟩)))
      fun _ => et_B (ev_call (ea_cons (ev_var rfl) (ea_cons (ev_var rfl) ea_nil)) (spV_use fun H2 e2 => ⟨L, p, a, rfl, M.mono e2, by rw [bE]⟩)))) (fun hb H1 e1 => ?_) (fun hb H1 e1 => ?_)
    · have hb : (Kp389.isState p s && Kp389.isAction p a) = false := not_t hb
      exact s_retL (el_lst (ea_cons ev_c ea_nil) (by simp)) ((D.pre e1).same (M.mono e1) (xs := [-2]) (by simp only [Kp389.step, hb]; rfl) (by simp))
    · have hb0 : s < p.stateCount ∧ a < p.actionCount := by simpa using hb
      have hb : (Kp389.isState p s && Kp389.isAction p a) = true := not_f hb
      have M1 := M.mono e1
      have D1 := D.pre e1
      have hn := M.wf.n4
      have hm := M.wf.m3
      have hw := weights_ok M.wf hb0.1 hb0.2
      have hk : p.transitions[s * p.actionCount + a]? = some (Kp389.weights p s a) := by
        have : s * p.actionCount + a < p.transitions.length := by rw [M.wf.tl]; exact place_lt hb0.1 hb0.2
        unfold Kp389.weights
        simp [List.getD, List.getElem?_eq_getElem this]
      obtain ⟨x, hx, hwx⟩ := M1.wsAt hk
      have hrow : Ev (tOp (rIxL K) (tFld K (tVar 0) "weights") (tCall (spTransitionPlace C) [] E0 (tCons (tVar 0) (tCons (tVar 1) (tCons (tVar 2) tNil))))) (start ["model", "state", "action"] [.ref L.a, .int (s : Int), .int (a : Int)]) H1 (.ref x) := by
        refine ev_op (ev_f7 T M1 (ev_var rfl)) (ev_call (ea_cons (ev_var rfl) (ea_cons (ev_var rfl) (ea_cons (ev_var rfl) ea_nil))) (spV_use fun H3 e3 => ⟨L, p, s, a, rfl, M1.mono e3, by omega, by omega, rfl⟩)) (rv_ixL (sq_of M1.ww) (atI_nat ?_))
        simp [hx]
      refine s_retL (el_cat (xs := [.int (p.stateCount : Int)]) (ys := nV (Kp389.weights p s a)) (el_lst (ea_cons (ev_f1 T M1 (ev_var rfl)) ea_nil) (by simp)) hrow hwx (by simp [nV, hw.len]; omega)) ?_
      have hl : (Kp389.weights p s a).length = p.stateCount := hw.len
      have := D1.same M1 (xs := (p.stateCount : Int) :: (Kp389.weights p s a).map fun (n : Nat) => (n : Int)) (by simp only [Kp389.step, hb, if_true, Kp389.listResult, Kp389.natResult, hl]; rfl) (by simp)
      have e : iV ((p.stateCount : Int) :: (Kp389.weights p s a).map fun (n : Nat) => (n : Int)) = [.int (p.stateCount : Int)] ++ nV (Kp389.weights p s a) := by
        rw [nV_iV]; rfl
      rw [e] at this; exact this)
end
end SR

set_option maxHeartbeats 2000000
/-! are_equivalent -/
namespace SR
open PySem PySem.Spec PyProof.Rows L2 Evl

theorem diff_at {p : Kp389.Process} (h : WF p) {s a q : Nat} (hs : s < p.stateCount) (ha : a < p.actionCount) (hq : q < p.stateCount) : Kp389.rewardIn p (Kp389.difference p) s a q = gainI p s a q := by
  have hi := index_lt (p := p) hs ha hq
  have h0 : Kp389.index p s a q < p.rewards0.length := by rw [h.r0]; exact hi
  have h1 : Kp389.index p s a q < p.rewards1.length := by rw [h.r1]; exact hi
  unfold Kp389.rewardIn Kp389.difference gainI Kp389.reward Kp389.rewardIn Kp389.rewards
  simp [List.getD, List.getElem?_zipWith, List.getElem?_eq_getElem h0, List.getElem?_eq_getElem h1]
theorem pot_at {p : Kp389.Process} (h : WF p) {s : Nat} (hs : s < p.stateCount) : (Kp389.potentialsOf p (Kp389.difference p)).getD s 0 = -((gainI p s 0 s : Int) : Rat) * ((p.discountDen : Rat) / ((p.discountDen - p.discountNum : Nat) : Rat)) := by
  unfold Kp389.potentialsOf Kp389.states
  rw [rm_getD _ hs, diff_at h hs h.m1 hs]
theorem canon_zero {p : Kp389.Process} (h : WF p) {s a q : Nat} (hs : s < p.stateCount) (ha : a < p.actionCount) (hq : q < p.stateCount) :
    ((((Kp389.rewardIn p (Kp389.difference p) s a q : Int) : Rat) + (Kp389.potentialsOf p (Kp389.difference p)).getD s 0 - Kp389.discount p * (Kp389.potentialsOf p (Kp389.difference p)).getD q 0) == 0) = difB p s a q := by
  rw [diff_at h hs ha hq, pot_at h hs, pot_at h hq, Bool.eq_iff_iff]
  simp only [beq_iff_eq]
  unfold difB
  simp only [decide_eq_true_eq]
  have hg := h.gh
  have h1 := h.g1
  have hd : (0 : Rat) < (p.discountDen : Rat) := by exact_mod_cast (show 0 < p.discountDen by omega)
  have he : (0 : Rat) < ((p.discountDen - p.discountNum : Nat) : Rat) := by exact_mod_cast (show 0 < p.discountDen - p.discountNum by omega)
  have hed : ((p.discountDen - p.discountNum : Nat) : Rat) = (p.discountDen : Rat) - (p.discountNum : Rat) := by
    have e : p.discountDen = (p.discountDen - p.discountNum) + p.discountNum := by omega
    have : (p.discountDen : Rat) = ((p.discountDen - p.discountNum : Nat) : Rat) + (p.discountNum : Rat) := by
      rw [← Rat.natCast_add, ← e]
    grind
  unfold Kp389.discount
  rw [Rat.div_def, Rat.div_def]
  have d1 := Rat.mul_inv_cancel (p.discountDen : Rat) (by grind)
  have d2 := Rat.mul_inv_cancel ((p.discountDen - p.discountNum : Nat) : Rat) (by grind)
  have hI : (((p.discountDen : Int) - (p.discountNum : Int)) * gainI p s a q = (p.discountDen : Int) * gainI p s 0 s - (p.discountNum : Int) * gainI p q 0 q) ↔
      (((p.discountDen : Rat) - (p.discountNum : Rat)) * ((gainI p s a q : Int) : Rat) = (p.discountDen : Rat) * ((gainI p s 0 s : Int) : Rat) - (p.discountNum : Rat) * ((gainI p q 0 q : Int) : Rat)) := by
    constructor
    · intro h
      have h2 := congrArg (fun z : Int => (z : Rat)) h
      simp only [Rat.intCast_mul, Rat.intCast_sub, Rat.intCast_natCast] at h2
      exact h2
    · intro h
      apply Rat.intCast_inj.mp
      simp only [Rat.intCast_mul, Rat.intCast_sub, Rat.intCast_natCast]
      exact h
  rw [hI]
  generalize ((gainI p s a q : Int) : Rat) = x
  generalize ((gainI p s 0 s : Int) : Rat) = y
  generalize ((gainI p q 0 q : Int) : Rat) = z
  rw [hed] at d2 he ⊢
  generalize (p.discountDen : Rat) = d at *
  generalize (p.discountNum : Rat) = n at *
  constructor
  · intro h
    have : (d - n) * (x + -y * (d * (d - n)⁻¹) - n * d⁻¹ * (-z * (d * (d - n)⁻¹))) = 0 := by rw [h]; grind
    grind
  · intro h
    apply rat_cancel (c := d - n) (by grind)
    grind
theorem equiv_all {p : Kp389.Process} (h : WF p) : Kp389.areEquivalent p = (Kp389.triples p).all fun t => difB p t.1 t.2.1 t.2.2 := by
  unfold Kp389.areEquivalent Kp389.canonicalForm
  simp only []
  rw [List.all_map, Bool.eq_iff_iff, List.all_eq_true, List.all_eq_true]
  constructor
  · intro hh t ht
    obtain ⟨s, hs, ht⟩ := List.mem_flatMap.mp ht
    obtain ⟨a, ha, ht⟩ := List.mem_flatMap.mp ht
    obtain ⟨q, hq, rfl⟩ := List.mem_map.mp ht
    have hs : s < p.stateCount := by simpa [Kp389.states] using hs
    have ha : a < p.actionCount := by simpa [Kp389.actions] using ha
    have hq : q < p.stateCount := by simpa [Kp389.states] using hq
    rw [← canon_zero h hs ha hq]
    exact hh (s, a, q) (List.mem_flatMap.mpr ⟨s, by simpa [Kp389.states] using hs, List.mem_flatMap.mpr ⟨a, by simpa [Kp389.actions] using ha, List.mem_map.mpr ⟨q, by simpa [Kp389.states] using hq, rfl⟩⟩⟩)
  · intro hh t ht
    have h2 := hh t ht
    obtain ⟨s, hs, ht⟩ := List.mem_flatMap.mp ht
    obtain ⟨a, ha, ht⟩ := List.mem_flatMap.mp ht
    obtain ⟨q, hq, rfl⟩ := List.mem_map.mp ht
    have hs : s < p.stateCount := by simpa [Kp389.states] using hs
    have ha : a < p.actionCount := by simpa [Kp389.actions] using ha
    have hq : q < p.stateCount := by simpa [Kp389.states] using hq
    rw [← canon_zero h hs ha hq] at h2
    exact h2
theorem equiv_yes {p : Kp389.Process} (h : WF p) (hh : ∀ s, s < p.stateCount → ∀ a, a < p.actionCount → ∀ q, q < p.stateCount → difB p s a q = true) : Kp389.areEquivalent p = true := by
  rw [equiv_all h, List.all_eq_true]
  intro t ht
  obtain ⟨s, hs, ht⟩ := List.mem_flatMap.mp ht
  obtain ⟨a, ha, ht⟩ := List.mem_flatMap.mp ht
  obtain ⟨q, hq, rfl⟩ := List.mem_map.mp ht
  exact hh s (by simpa [Kp389.states] using hs) a (by simpa [Kp389.actions] using ha) q (by simpa [Kp389.states] using hq)
theorem equiv_no {p : Kp389.Process} (h : WF p) {s a q : Nat} (hs : s < p.stateCount) (ha : a < p.actionCount) (hq : q < p.stateCount) (hh : difB p s a q = false) : Kp389.areEquivalent p = false := by
  rw [equiv_all h]
  apply Bool.eq_false_iff.mpr
  intro h2
  have := List.all_eq_true.mp h2 (s, a, q) (List.mem_flatMap.mpr ⟨s, by simpa [Kp389.states] using hs, List.mem_flatMap.mpr ⟨a, by simpa [Kp389.actions] using ha, List.mem_map.mpr ⟨q, by simpa [Kp389.states] using hq, rfl⟩⟩⟩)
  simp only at this
  rw [hh] at this; cases this

abbrev sAreEquivalent : Stmt := topS 72
theorem scAreEquivalent : FnScope ["model", "state", "action", "following"] ["model"] (defScope sAreEquivalent) := ⟨rfl, rfl, rfl, by decide +kernel, rfl, by decide +kernel, by decide +kernel⟩
def spAreEquivalent (C : Addr) : Sp := fun vs H Q _ => ∃ (L : Lay) (p : Kp389.Process), vs = [.ref L.a] ∧ Mdl C H L p ∧ Done C H L p .areEquivalent Q
section
variable {P : Program} {w : World} {K : PySem.W.Frag} {mg : Str → Option Value} {base : Heap} {C fi : Addr} {σ : L2.St} {H H' : Hp} {ta tb te : TE} {L : Lay} {p : Kp389.Process}
def dfAreEquivalent (T : Txt K mg C fi) (dDiffersByShaping : Df P w K mg base "differs_by_shaping" 5 ["model", "state", "action", "following"] (spDiffersByShaping C)) (r : Rw K mg "are_equivalent" sAreEquivalent) : Df P w K mg base "are_equivalent" 6 ["model"] (spAreEquivalent C) :=
  r.df (k := 5) scAreEquivalent (fun _ _ _ _ _ _ us hl => match us, hl with | [_], _ => rfl)
  (fun vs H Q E h => by obtain ⟨_, _, rfl, _⟩ := h; rfl) (fun cdv A outer s H vs Q E hr h => by
    obtain ⟨L, p, rfl, M, D⟩ := h
    refine ⟨_, (pss_cons (ps_for PassesOwn.never rfl (pi_range1 rfl T.n_range (pa_cons (pe_fldK K (by rfl) (pv 0) (by rfl)) pa_nil)) (pg_name (i := 1) scAreEquivalent.nd rfl (by first | exact Or.inl rfl | exact Or.inr rfl)) (pss_one (ps_for PassesOwn.never rfl (pi_range1 rfl T.n_range (pa_cons (pe_fldK K (by rfl) (pv 0) (by rfl)) pa_nil)) (pg_name (i := 2) scAreEquivalent.nd rfl (by first | exact Or.inl rfl | exact Or.inr rfl)) (pss_one (ps_for PassesOwn.never rfl (pi_range1 rfl T.n_range (pa_cons (pe_fldK K (by rfl) (pv 0) (by rfl)) pa_nil)) (pg_name (i := 3) scAreEquivalent.nd rfl (by first | exact Or.inl rfl | exact Or.inr rfl)) (pss_one (ps_if (pt_not (pt_val (pe_call dDiffersByShaping.ok (hr.mono (by decide)) rfl dDiffersByShaping.g dDiffersByShaping.kp dDiffersByShaping.b .nil pass0 (pa_cons (pv 0) (pa_cons (pv 1) (pa_cons (pv 2) (pa_cons (pv 3) pa_nil))))))) (pss_one (ps_ret (pe_lst (pa_cons pe_int pa_nil)))) pss_nil)))))))
      (pss_one (ps_ret (pe_lst (pa_cons pe_int pa_nil))))), ?_⟩
    have hn := M.wf.n4
    have hm := M.wf.m3
    refine q_forR1 (n := (p.stateCount : Int)) (ea_cons (ev_f1 T M (ev_var rfl)) ea_nil) (by omega)
      (fun i σ' H' => (∃ v1 v2 v3, σ' = [some (.ref L.a), v1, v2, v3]) ∧ Ex H H' ∧ ∀ s, s < i → ∀ a, a < p.actionCount → ∀ q, q < p.stateCount → difB p s a q = true)
      (fun H2 e2 => ⟨⟨none, none, none, rfl⟩, e2, fun s hs => absurd hs (Nat.not_lt_zero s)⟩) ?_ ?_
    · rintro i σ1 H2 hi ⟨⟨v1, v2, v3, rfl⟩, e2, h2⟩
      have hi : i < p.stateCount := by omega
      refine s_forR1 (n := (p.actionCount : Int)) (ea_cons (ev_f2 T (M.mono e2) (ev_var rfl)) ea_nil) (by omega)
        (fun j σ' H' => (∃ v2 v3, σ' = [some (.ref L.a), some (.int (i : Int)), v2, v3]) ∧ Ex H H' ∧ ∀ a, a < j → ∀ q, q < p.stateCount → difB p i a q = true)
        (fun H3 e3 => ⟨⟨v2, v3, rfl⟩, e2.trans e3, fun a ha => absurd ha (Nat.not_lt_zero a)⟩) ?_ ?_
      · rintro j σ2 H3 hj ⟨⟨v2, v3, rfl⟩, e3, h3⟩
        have hj : j < p.actionCount := by omega
        refine s_forR1 (n := (p.stateCount : Int)) (ea_cons (ev_f1 T (M.mono e3) (ev_var rfl)) ea_nil) (by omega)
          (fun k σ' H' => (∃ v3, σ' = [some (.ref L.a), some (.int (i : Int)), some (.int (j : Int)), v3]) ∧ Ex H H' ∧ ∀ q, q < k → difB p i j q = true)
          (fun H4 e4 => ⟨⟨v3, rfl⟩, e3.trans e4, fun a ha => absurd ha (Nat.not_lt_zero a)⟩) ?_ ?_
        · rintro k σ3 H4 hk ⟨⟨v3, rfl⟩, e4, h4⟩
          have hk : k < p.stateCount := by omega
          have M4 := M.mono e4
          refine s_when (b := !(difB p i j k)) (et_not (et_B (ev_call (ea_cons (ev_var rfl) (ea_cons (ev_var rfl) (ea_cons (ev_var rfl) (ea_cons (ev_var rfl) ea_nil)))) (spV_use fun H5 e5 => ⟨L, p, i, j, k, rfl, M4.mono e5, hi, hj, hk, rfl⟩)))) (fun hb H5 e5 => ?_) (fun hb H5 e5 => ?_)
          · have hx := equiv_no M.wf hi hj hk (not_t hb)
            exact s_retL (el_lst (ea_cons ev_c ea_nil) (by simp)) ((D.pre (e4.trans e5)).same (M.mono (e4.trans e5)) (xs := [0]) (by simp only [Kp389.step, hx]; rfl) (by simp))
          · refine ⟨⟨_, rfl⟩, e4.trans e5, fun q hq => ?_⟩
            by_cases e : q = k
            · subst e; exact not_f hb
            · exact h4 q (by omega)
        · rintro σ3 H4 ⟨⟨v3, rfl⟩, e4, h4⟩
          refine ⟨⟨_, _, rfl⟩, e4, fun a ha q hq => ?_⟩
          by_cases e : a = j
          · subst e; exact h4 q (by omega)
          · exact h3 a (by omega) q hq
      · rintro σ2 H3 ⟨⟨v2, v3, rfl⟩, e3, h3⟩
        refine ⟨⟨_, _, _, rfl⟩, e3, fun s hs a ha q hq => ?_⟩
        by_cases e : s = i
        · subst e; exact h3 a (by omega) q hq
        · exact h2 s (by omega) a ha q hq
    · rintro σ1 H2 ⟨⟨v1, v2, v3, rfl⟩, e2, h2⟩
      have hx := equiv_yes M.wf (fun s hs => h2 s (by omega))
      exact s_retL (el_lst (ea_cons ev_c ea_nil) (by simp)) ((D.pre e2).same (M.mono e2) (xs := [1]) (by simp only [Kp389.step, hx]; rfl) (by simp)))
end
end SR

set_option maxHeartbeats 4000000
/-! The calls of a request, kind by kind. -/
namespace SR

def zl (l : List Nat) : List Int := l.map fun (n : Nat) => (n : Int)
/-- a call as it is read, and the specification's -/
inductive Kind : Int × List Int × List Int → Kp389.Call → Prop
  | create (a b c d : Nat) : Kind (0, [(a : Int), (b : Int), (c : Int), (d : Int)], []) (.create a b c d)
  | setReward (t s a q : Nat) (l : List Int) (h : l.length ≤ 4) : Kind (1, [(t : Int), (s : Int), (a : Int), (q : Int)], l) (.setReward t s a q l)
  | setRewards (t : Nat) (l : List Int) (h : l.length ≤ 50) : Kind (2, [(t : Int)], l) (.setRewards t l)
  | copyRewards (t : Nat) : Kind (3, [(t : Int)], []) (.copyRewards t)
  | shapeRewards (t : Nat) (l : List Int) (h : l.length ≤ 6) : Kind (4, [(t : Int)], l) (.shapeRewards t l)
  | scaleRewards (t c : Nat) : Kind (5, [(t : Int), (c : Int)], []) (.scaleRewards t c)
  | setTransition (s a : Nat) (l : List Nat) (h : l.length ≤ 6) : Kind (6, [(s : Int), (a : Int)], zl l) (.setTransition s a l)
  | getTransition (s a : Nat) : Kind (7, [(s : Int), (a : Int)], []) (.getTransition s a)
  | setDeterministic (l : List Nat) (h : l.length ≤ 14) : Kind (8, [], zl l) (.setDeterministic l)
  | areEquivalent : Kind (9, [], []) .areEquivalent
  | optimalValues (t : Nat) : Kind (10, [(t : Int)], []) (.optimalValues t)
  | actionValue (t s a : Nat) : Kind (11, [(t : Int), (s : Int), (a : Int)], []) (.actionValue t s a)
  | optimalActions (t s : Nat) : Kind (12, [(t : Int), (s : Int)], []) (.optimalActions t s)
  | optimalPolicy (t : Nat) : Kind (13, [(t : Int)], []) (.optimalPolicy t)
  | policyValues (t : Nat) (l : List Nat) (h : l.length ≤ 6) : Kind (14, [(t : Int)], zl l) (.policyValues t l)
  | sameOptimalActions : Kind (15, [], []) .sameOptimalActions
  | regrets : Kind (16, [], []) .regrets
  | distinguishes (l : List Nat) (h : l.length ≤ 14) : Kind (17, [], zl l) (.distinguishes l)
  | distinguishingWorld : Kind (18, [], []) .distinguishingWorld
  | expectedReward (t s a : Nat) : Kind (19, [(t : Int), (s : Int), (a : Int)], []) (.expectedReward t s a)
  | valueWithTransition (s a t q : Nat) (l : List Nat) (h : l.length ≤ 6) : Kind (20, [(s : Int), (a : Int), (t : Int), (q : Int)], zl l) (.valueWithTransition s a t q l)

/-- a call of its shape, taken off a list -/
structure Shaped (c : List (List Int)) (p : Int) (ns : List Int) (rows : List (List Int)) : Prop where
  eq : c = (p :: ns) :: rows
  sh : PyKp389.shape p = some (ns.length, rows.length)

theorem nat_of {z : Int} (h : Kp389Neutral.natural z = true) : ∃ n : Nat, z = (n : Int) := by
  unfold Kp389Neutral.natural at h
  simp at h
  exact ⟨z.toNat, (Int.toNat_of_nonneg h.1).symm⟩
theorem nats_of {l : List Int} (h : l.all Kp389Neutral.natural = true) : ∃ k : List Nat, l = zl k ∧ k.length = l.length ∧ l.map Int.toNat = k := by
  refine ⟨l.map Int.toNat, ?_, by simp, rfl⟩
  unfold zl
  rw [List.map_map]
  have : l.map id = l := List.map_id l
  rw [← this]
  simp only [List.map_map]
  apply List.map_congr_left
  intro x hx
  obtain ⟨n, rfl⟩ := nat_of (List.all_eq_true.mp h x hx)
  simp
theorem lenq1 {α : Type} {l : List α} (h : l.length = 1) : ∃ a, l = [a] := by
  match l, h with
  | [a], _ => exact ⟨a, rfl⟩
theorem lenq2 {α : Type} {l : List α} (h : l.length = 2) : ∃ a b, l = [a, b] := by
  match l, h with
  | [a, b], _ => exact ⟨a, b, rfl⟩
theorem lenq3 {α : Type} {l : List α} (h : l.length = 3) : ∃ a b c, l = [a, b, c] := by
  match l, h with
  | [a, b, c], _ => exact ⟨a, b, c, rfl⟩
theorem lenq4 {α : Type} {l : List α} (h : l.length = 4) : ∃ a b c d, l = [a, b, c, d] := by
  match l, h with
  | [a, b, c, d], _ => exact ⟨a, b, c, d, rfl⟩
theorem lenq0 {α : Type} {l : List α} (h : l.length = 0) : l = [] := List.length_eq_zero_iff.mp h

theorem nn {x : Int} {n k : Nat} (hs : PyKp389.shape x = some (n, k)) (c : x ≠ 0 ∧ x ≠ 1 ∧ x ≠ 2 ∧ x ≠ 3 ∧ x ≠ 4 ∧ x ≠ 5 ∧ x ≠ 6 ∧ x ≠ 7 ∧ x ≠ 8 ∧ x ≠ 9 ∧ x ≠ 10 ∧ x ≠ 11 ∧ x ≠ 12 ∧ x ≠ 13 ∧ x ≠ 14 ∧ x ≠ 15 ∧ x ≠ 16 ∧ x ≠ 17 ∧ x ≠ 18 ∧ x ≠ 19 ∧ x ≠ 20) : False := by
  obtain ⟨c0, c1, c2, c3, c4, c5, c6, c7, c8, c9, c10, c11, c12, c13, c14, c15, c16, c17, c18, c19, c20⟩ := c
  unfold PyKp389.shape at hs
  simp [c0, c1, c2, c3, c4, c5, c6, c7, c8, c9, c10, c11, c12, c13, c14, c15, c16, c17, c18, c19, c20] at hs

theorem kind0 {a b c d : Int} (ha : Kp389Neutral.asked1 (PyKp389.whole [[0, a, b, c, d]]) = true) : ∃ call, Kp389Neutral.callOf (PyKp389.whole [[0, a, b, c, d]]) = some call ∧ Kind (0, [a, b, c, d], []) call := by
  have ha : (Kp389Neutral.natural a && (Kp389Neutral.natural b && (Kp389Neutral.natural c && (Kp389Neutral.natural d)))) = true := ha
  simp only [Bool.and_eq_true, decide_eq_true_eq] at ha
  obtain ⟨h0, h1, h2, h3⟩ := ha
  obtain ⟨a, rfl⟩ := nat_of h0
  obtain ⟨b, rfl⟩ := nat_of h1
  obtain ⟨c, rfl⟩ := nat_of h2
  obtain ⟨d, rfl⟩ := nat_of h3
  exact ⟨.create a b c d, rfl, .create a b c d⟩
theorem kind1 {a b c d : Int} {l : List Int} (ha : Kp389Neutral.asked1 (PyKp389.whole [[1, a, b, c, d], l]) = true) : ∃ call, Kp389Neutral.callOf (PyKp389.whole [[1, a, b, c, d], l]) = some call ∧ Kind (1, [a, b, c, d], l) call := by
  have ha : (Kp389Neutral.natural a && (Kp389Neutral.natural b && (Kp389Neutral.natural c && (Kp389Neutral.natural d && ((l.all Kp389Neutral.whole && decide (l.length ≤ 4))))))) = true := ha
  simp only [Bool.and_eq_true, decide_eq_true_eq] at ha
  obtain ⟨h0, h1, h2, h3, g1, g2⟩ := ha
  obtain ⟨a, rfl⟩ := nat_of h0
  obtain ⟨b, rfl⟩ := nat_of h1
  obtain ⟨c, rfl⟩ := nat_of h2
  obtain ⟨d, rfl⟩ := nat_of h3
  exact ⟨.setReward a b c d l, rfl, .setReward a b c d l g2⟩
theorem kind2 {a : Int} {l : List Int} (ha : Kp389Neutral.asked1 (PyKp389.whole [[2, a], l]) = true) : ∃ call, Kp389Neutral.callOf (PyKp389.whole [[2, a], l]) = some call ∧ Kind (2, [a], l) call := by
  have ha : (Kp389Neutral.natural a && ((l.all Kp389Neutral.whole && decide (l.length ≤ 50)))) = true := ha
  simp only [Bool.and_eq_true, decide_eq_true_eq] at ha
  obtain ⟨h0, g1, g2⟩ := ha
  obtain ⟨a, rfl⟩ := nat_of h0
  exact ⟨.setRewards a l, rfl, .setRewards a l g2⟩
theorem kind3 {a : Int} (ha : Kp389Neutral.asked1 (PyKp389.whole [[3, a]]) = true) : ∃ call, Kp389Neutral.callOf (PyKp389.whole [[3, a]]) = some call ∧ Kind (3, [a], []) call := by
  have ha : (Kp389Neutral.natural a) = true := ha
  have h0 := ha
  obtain ⟨a, rfl⟩ := nat_of h0
  exact ⟨.copyRewards a, rfl, .copyRewards a⟩
theorem kind4 {a : Int} {l : List Int} (ha : Kp389Neutral.asked1 (PyKp389.whole [[4, a], l]) = true) : ∃ call, Kp389Neutral.callOf (PyKp389.whole [[4, a], l]) = some call ∧ Kind (4, [a], l) call := by
  have ha : (Kp389Neutral.natural a && ((l.all Kp389Neutral.whole && decide (l.length ≤ 6)))) = true := ha
  simp only [Bool.and_eq_true, decide_eq_true_eq] at ha
  obtain ⟨h0, g1, g2⟩ := ha
  obtain ⟨a, rfl⟩ := nat_of h0
  exact ⟨.shapeRewards a l, rfl, .shapeRewards a l g2⟩
theorem kind5 {a b : Int} (ha : Kp389Neutral.asked1 (PyKp389.whole [[5, a, b]]) = true) : ∃ call, Kp389Neutral.callOf (PyKp389.whole [[5, a, b]]) = some call ∧ Kind (5, [a, b], []) call := by
  have ha : (Kp389Neutral.natural a && (Kp389Neutral.natural b)) = true := ha
  simp only [Bool.and_eq_true, decide_eq_true_eq] at ha
  obtain ⟨h0, h1⟩ := ha
  obtain ⟨a, rfl⟩ := nat_of h0
  obtain ⟨b, rfl⟩ := nat_of h1
  exact ⟨.scaleRewards a b, rfl, .scaleRewards a b⟩
theorem kind6 {a b : Int} {l : List Int} (ha : Kp389Neutral.asked1 (PyKp389.whole [[6, a, b], l]) = true) : ∃ call, Kp389Neutral.callOf (PyKp389.whole [[6, a, b], l]) = some call ∧ Kind (6, [a, b], l) call := by
  have ha : (Kp389Neutral.natural a && (Kp389Neutral.natural b && ((l.all Kp389Neutral.natural && decide (l.length ≤ 6))))) = true := ha
  simp only [Bool.and_eq_true, decide_eq_true_eq] at ha
  obtain ⟨h0, h1, g1, g2⟩ := ha
  obtain ⟨a, rfl⟩ := nat_of h0
  obtain ⟨b, rfl⟩ := nat_of h1
  obtain ⟨k, e1, e2, e3⟩ := nats_of g1
  refine ⟨.setTransition a b k, ?_, ?_⟩
  · show some (Kp389.Call.setTransition (Int.toNat (a : Int)) (Int.toNat (b : Int)) (l.map Int.toNat)) = _
    rw [e3] <;> rfl
  · rw [e1]; exact .setTransition a b k (by omega)
theorem kind7 {a b : Int} (ha : Kp389Neutral.asked1 (PyKp389.whole [[7, a, b]]) = true) : ∃ call, Kp389Neutral.callOf (PyKp389.whole [[7, a, b]]) = some call ∧ Kind (7, [a, b], []) call := by
  have ha : (Kp389Neutral.natural a && (Kp389Neutral.natural b)) = true := ha
  simp only [Bool.and_eq_true, decide_eq_true_eq] at ha
  obtain ⟨h0, h1⟩ := ha
  obtain ⟨a, rfl⟩ := nat_of h0
  obtain ⟨b, rfl⟩ := nat_of h1
  exact ⟨.getTransition a b, rfl, .getTransition a b⟩
theorem kind8 {l : List Int} (ha : Kp389Neutral.asked1 (PyKp389.whole [[8], l]) = true) : ∃ call, Kp389Neutral.callOf (PyKp389.whole [[8], l]) = some call ∧ Kind (8, [], l) call := by
  have ha : ((l.all Kp389Neutral.natural && decide (l.length ≤ 14))) = true := ha
  simp only [Bool.and_eq_true, decide_eq_true_eq] at ha
  obtain ⟨g1, g2⟩ := ha
  obtain ⟨k, e1, e2, e3⟩ := nats_of g1
  refine ⟨.setDeterministic  k, ?_, ?_⟩
  · show some (Kp389.Call.setDeterministic (l.map Int.toNat)) = _
    rw [e3] <;> rfl
  · rw [e1]; exact .setDeterministic  k (by omega)
theorem kind9 (ha : Kp389Neutral.asked1 (PyKp389.whole [[9]]) = true) : ∃ call, Kp389Neutral.callOf (PyKp389.whole [[9]]) = some call ∧ Kind (9, [], []) call := by
  exact ⟨.areEquivalent , rfl, .areEquivalent ⟩
theorem kind10 {a : Int} (ha : Kp389Neutral.asked1 (PyKp389.whole [[10, a]]) = true) : ∃ call, Kp389Neutral.callOf (PyKp389.whole [[10, a]]) = some call ∧ Kind (10, [a], []) call := by
  have ha : (Kp389Neutral.natural a) = true := ha
  have h0 := ha
  obtain ⟨a, rfl⟩ := nat_of h0
  exact ⟨.optimalValues a, rfl, .optimalValues a⟩
theorem kind11 {a b c : Int} (ha : Kp389Neutral.asked1 (PyKp389.whole [[11, a, b, c]]) = true) : ∃ call, Kp389Neutral.callOf (PyKp389.whole [[11, a, b, c]]) = some call ∧ Kind (11, [a, b, c], []) call := by
  have ha : (Kp389Neutral.natural a && (Kp389Neutral.natural b && (Kp389Neutral.natural c))) = true := ha
  simp only [Bool.and_eq_true, decide_eq_true_eq] at ha
  obtain ⟨h0, h1, h2⟩ := ha
  obtain ⟨a, rfl⟩ := nat_of h0
  obtain ⟨b, rfl⟩ := nat_of h1
  obtain ⟨c, rfl⟩ := nat_of h2
  exact ⟨.actionValue a b c, rfl, .actionValue a b c⟩
theorem kind12 {a b : Int} (ha : Kp389Neutral.asked1 (PyKp389.whole [[12, a, b]]) = true) : ∃ call, Kp389Neutral.callOf (PyKp389.whole [[12, a, b]]) = some call ∧ Kind (12, [a, b], []) call := by
  have ha : (Kp389Neutral.natural a && (Kp389Neutral.natural b)) = true := ha
  simp only [Bool.and_eq_true, decide_eq_true_eq] at ha
  obtain ⟨h0, h1⟩ := ha
  obtain ⟨a, rfl⟩ := nat_of h0
  obtain ⟨b, rfl⟩ := nat_of h1
  exact ⟨.optimalActions a b, rfl, .optimalActions a b⟩
theorem kind13 {a : Int} (ha : Kp389Neutral.asked1 (PyKp389.whole [[13, a]]) = true) : ∃ call, Kp389Neutral.callOf (PyKp389.whole [[13, a]]) = some call ∧ Kind (13, [a], []) call := by
  have ha : (Kp389Neutral.natural a) = true := ha
  have h0 := ha
  obtain ⟨a, rfl⟩ := nat_of h0
  exact ⟨.optimalPolicy a, rfl, .optimalPolicy a⟩
theorem kind14 {a : Int} {l : List Int} (ha : Kp389Neutral.asked1 (PyKp389.whole [[14, a], l]) = true) : ∃ call, Kp389Neutral.callOf (PyKp389.whole [[14, a], l]) = some call ∧ Kind (14, [a], l) call := by
  have ha : (Kp389Neutral.natural a && ((l.all Kp389Neutral.natural && decide (l.length ≤ 6)))) = true := ha
  simp only [Bool.and_eq_true, decide_eq_true_eq] at ha
  obtain ⟨h0, g1, g2⟩ := ha
  obtain ⟨a, rfl⟩ := nat_of h0
  obtain ⟨k, e1, e2, e3⟩ := nats_of g1
  refine ⟨.policyValues a k, ?_, ?_⟩
  · show some (Kp389.Call.policyValues (Int.toNat (a : Int)) (l.map Int.toNat)) = _
    rw [e3] <;> rfl
  · rw [e1]; exact .policyValues a k (by omega)
theorem kind15 (ha : Kp389Neutral.asked1 (PyKp389.whole [[15]]) = true) : ∃ call, Kp389Neutral.callOf (PyKp389.whole [[15]]) = some call ∧ Kind (15, [], []) call := by
  exact ⟨.sameOptimalActions , rfl, .sameOptimalActions ⟩
theorem kind16 (ha : Kp389Neutral.asked1 (PyKp389.whole [[16]]) = true) : ∃ call, Kp389Neutral.callOf (PyKp389.whole [[16]]) = some call ∧ Kind (16, [], []) call := by
  exact ⟨.regrets , rfl, .regrets ⟩
theorem kind17 {l : List Int} (ha : Kp389Neutral.asked1 (PyKp389.whole [[17], l]) = true) : ∃ call, Kp389Neutral.callOf (PyKp389.whole [[17], l]) = some call ∧ Kind (17, [], l) call := by
  have ha : ((l.all Kp389Neutral.natural && decide (l.length ≤ 14))) = true := ha
  simp only [Bool.and_eq_true, decide_eq_true_eq] at ha
  obtain ⟨g1, g2⟩ := ha
  obtain ⟨k, e1, e2, e3⟩ := nats_of g1
  refine ⟨.distinguishes  k, ?_, ?_⟩
  · show some (Kp389.Call.distinguishes (l.map Int.toNat)) = _
    rw [e3] <;> rfl
  · rw [e1]; exact .distinguishes  k (by omega)
theorem kind18 (ha : Kp389Neutral.asked1 (PyKp389.whole [[18]]) = true) : ∃ call, Kp389Neutral.callOf (PyKp389.whole [[18]]) = some call ∧ Kind (18, [], []) call := by
  exact ⟨.distinguishingWorld , rfl, .distinguishingWorld ⟩
theorem kind19 {a b c : Int} (ha : Kp389Neutral.asked1 (PyKp389.whole [[19, a, b, c]]) = true) : ∃ call, Kp389Neutral.callOf (PyKp389.whole [[19, a, b, c]]) = some call ∧ Kind (19, [a, b, c], []) call := by
  have ha : (Kp389Neutral.natural a && (Kp389Neutral.natural b && (Kp389Neutral.natural c))) = true := ha
  simp only [Bool.and_eq_true, decide_eq_true_eq] at ha
  obtain ⟨h0, h1, h2⟩ := ha
  obtain ⟨a, rfl⟩ := nat_of h0
  obtain ⟨b, rfl⟩ := nat_of h1
  obtain ⟨c, rfl⟩ := nat_of h2
  exact ⟨.expectedReward a b c, rfl, .expectedReward a b c⟩
theorem kind20 {a b c d : Int} {l : List Int} (ha : Kp389Neutral.asked1 (PyKp389.whole [[20, a, b, c, d], l]) = true) : ∃ call, Kp389Neutral.callOf (PyKp389.whole [[20, a, b, c, d], l]) = some call ∧ Kind (20, [a, b, c, d], l) call := by
  have ha : (Kp389Neutral.natural a && (Kp389Neutral.natural b && (Kp389Neutral.natural c && (Kp389Neutral.natural d && ((l.all Kp389Neutral.natural && decide (l.length ≤ 6))))))) = true := ha
  simp only [Bool.and_eq_true, decide_eq_true_eq] at ha
  obtain ⟨h0, h1, h2, h3, g1, g2⟩ := ha
  obtain ⟨a, rfl⟩ := nat_of h0
  obtain ⟨b, rfl⟩ := nat_of h1
  obtain ⟨c, rfl⟩ := nat_of h2
  obtain ⟨d, rfl⟩ := nat_of h3
  obtain ⟨k, e1, e2, e3⟩ := nats_of g1
  refine ⟨.valueWithTransition a b c d k, ?_, ?_⟩
  · show some (Kp389.Call.valueWithTransition (Int.toNat (a : Int)) (Int.toNat (b : Int)) (Int.toNat (c : Int)) (Int.toNat (d : Int)) (l.map Int.toNat)) = _
    rw [e3] <;> rfl
  · rw [e1]; exact .valueWithTransition a b c d k (by omega)
/-- every call that may be handed in is of one kind -/
theorem kind_of {c : List (List Int)} {p : Int} {ns : List Int} {rows : List (List Int)} (S : Shaped c p ns rows) (ha : Kp389Neutral.asked1 (PyKp389.whole c) = true) :
    ∃ call, Kp389Neutral.callOf (PyKp389.whole c) = some call ∧ Kind (p, ns, rows.headD []) call := by
  obtain ⟨rfl, hs⟩ := S
  by_cases c0 : p = 0
  · subst c0
    have h : some (4, 0) = some (ns.length, rows.length) := hs
    obtain ⟨h1, h2⟩ := Prod.mk.inj (Option.some.inj h)
    obtain ⟨a, b, c, d, rfl⟩ := lenq4 h1.symm
    have hr := lenq0 h2.symm; subst hr
    exact kind0 ha
  by_cases c1 : p = 1
  · subst c1
    have h : some (4, 1) = some (ns.length, rows.length) := hs
    obtain ⟨h1, h2⟩ := Prod.mk.inj (Option.some.inj h)
    obtain ⟨a, b, c, d, rfl⟩ := lenq4 h1.symm
    obtain ⟨l, rfl⟩ := lenq1 h2.symm
    exact kind1 ha
  by_cases c2 : p = 2
  · subst c2
    have h : some (1, 1) = some (ns.length, rows.length) := hs
    obtain ⟨h1, h2⟩ := Prod.mk.inj (Option.some.inj h)
    obtain ⟨a, rfl⟩ := lenq1 h1.symm
    obtain ⟨l, rfl⟩ := lenq1 h2.symm
    exact kind2 ha
  by_cases c3 : p = 3
  · subst c3
    have h : some (1, 0) = some (ns.length, rows.length) := hs
    obtain ⟨h1, h2⟩ := Prod.mk.inj (Option.some.inj h)
    obtain ⟨a, rfl⟩ := lenq1 h1.symm
    have hr := lenq0 h2.symm; subst hr
    exact kind3 ha
  by_cases c4 : p = 4
  · subst c4
    have h : some (1, 1) = some (ns.length, rows.length) := hs
    obtain ⟨h1, h2⟩ := Prod.mk.inj (Option.some.inj h)
    obtain ⟨a, rfl⟩ := lenq1 h1.symm
    obtain ⟨l, rfl⟩ := lenq1 h2.symm
    exact kind4 ha
  by_cases c5 : p = 5
  · subst c5
    have h : some (2, 0) = some (ns.length, rows.length) := hs
    obtain ⟨h1, h2⟩ := Prod.mk.inj (Option.some.inj h)
    obtain ⟨a, b, rfl⟩ := lenq2 h1.symm
    have hr := lenq0 h2.symm; subst hr
    exact kind5 ha
  by_cases c6 : p = 6
  · subst c6
    have h : some (2, 1) = some (ns.length, rows.length) := hs
    obtain ⟨h1, h2⟩ := Prod.mk.inj (Option.some.inj h)
    obtain ⟨a, b, rfl⟩ := lenq2 h1.symm
    obtain ⟨l, rfl⟩ := lenq1 h2.symm
    exact kind6 ha
  by_cases c7 : p = 7
  · subst c7
    have h : some (2, 0) = some (ns.length, rows.length) := hs
    obtain ⟨h1, h2⟩ := Prod.mk.inj (Option.some.inj h)
    obtain ⟨a, b, rfl⟩ := lenq2 h1.symm
    have hr := lenq0 h2.symm; subst hr
    exact kind7 ha
  by_cases c8 : p = 8
  · subst c8
    have h : some (0, 1) = some (ns.length, rows.length) := hs
    obtain ⟨h1, h2⟩ := Prod.mk.inj (Option.some.inj h)
    have hn := lenq0 h1.symm; subst hn
    obtain ⟨l, rfl⟩ := lenq1 h2.symm
    exact kind8 ha
  by_cases c9 : p = 9
  · subst c9
    have h : some (0, 0) = some (ns.length, rows.length) := hs
    obtain ⟨h1, h2⟩ := Prod.mk.inj (Option.some.inj h)
    have hn := lenq0 h1.symm; subst hn
    have hr := lenq0 h2.symm; subst hr
    exact kind9 ha
  by_cases c10 : p = 10
  · subst c10
    have h : some (1, 0) = some (ns.length, rows.length) := hs
    obtain ⟨h1, h2⟩ := Prod.mk.inj (Option.some.inj h)
    obtain ⟨a, rfl⟩ := lenq1 h1.symm
    have hr := lenq0 h2.symm; subst hr
    exact kind10 ha
  by_cases c11 : p = 11
  · subst c11
    have h : some (3, 0) = some (ns.length, rows.length) := hs
    obtain ⟨h1, h2⟩ := Prod.mk.inj (Option.some.inj h)
    obtain ⟨a, b, c, rfl⟩ := lenq3 h1.symm
    have hr := lenq0 h2.symm; subst hr
    exact kind11 ha
  by_cases c12 : p = 12
  · subst c12
    have h : some (2, 0) = some (ns.length, rows.length) := hs
    obtain ⟨h1, h2⟩ := Prod.mk.inj (Option.some.inj h)
    obtain ⟨a, b, rfl⟩ := lenq2 h1.symm
    have hr := lenq0 h2.symm; subst hr
    exact kind12 ha
  by_cases c13 : p = 13
  · subst c13
    have h : some (1, 0) = some (ns.length, rows.length) := hs
    obtain ⟨h1, h2⟩ := Prod.mk.inj (Option.some.inj h)
    obtain ⟨a, rfl⟩ := lenq1 h1.symm
    have hr := lenq0 h2.symm; subst hr
    exact kind13 ha
  by_cases c14 : p = 14
  · subst c14
    have h : some (1, 1) = some (ns.length, rows.length) := hs
    obtain ⟨h1, h2⟩ := Prod.mk.inj (Option.some.inj h)
    obtain ⟨a, rfl⟩ := lenq1 h1.symm
    obtain ⟨l, rfl⟩ := lenq1 h2.symm
    exact kind14 ha
  by_cases c15 : p = 15
  · subst c15
    have h : some (0, 0) = some (ns.length, rows.length) := hs
    obtain ⟨h1, h2⟩ := Prod.mk.inj (Option.some.inj h)
    have hn := lenq0 h1.symm; subst hn
    have hr := lenq0 h2.symm; subst hr
    exact kind15 ha
  by_cases c16 : p = 16
  · subst c16
    have h : some (0, 0) = some (ns.length, rows.length) := hs
    obtain ⟨h1, h2⟩ := Prod.mk.inj (Option.some.inj h)
    have hn := lenq0 h1.symm; subst hn
    have hr := lenq0 h2.symm; subst hr
    exact kind16 ha
  by_cases c17 : p = 17
  · subst c17
    have h : some (0, 1) = some (ns.length, rows.length) := hs
    obtain ⟨h1, h2⟩ := Prod.mk.inj (Option.some.inj h)
    have hn := lenq0 h1.symm; subst hn
    obtain ⟨l, rfl⟩ := lenq1 h2.symm
    exact kind17 ha
  by_cases c18 : p = 18
  · subst c18
    have h : some (0, 0) = some (ns.length, rows.length) := hs
    obtain ⟨h1, h2⟩ := Prod.mk.inj (Option.some.inj h)
    have hn := lenq0 h1.symm; subst hn
    have hr := lenq0 h2.symm; subst hr
    exact kind18 ha
  by_cases c19 : p = 19
  · subst c19
    have h : some (3, 0) = some (ns.length, rows.length) := hs
    obtain ⟨h1, h2⟩ := Prod.mk.inj (Option.some.inj h)
    obtain ⟨a, b, c, rfl⟩ := lenq3 h1.symm
    have hr := lenq0 h2.symm; subst hr
    exact kind19 ha
  by_cases c20 : p = 20
  · subst c20
    have h : some (4, 1) = some (ns.length, rows.length) := hs
    obtain ⟨h1, h2⟩ := Prod.mk.inj (Option.some.inj h)
    obtain ⟨a, b, c, d, rfl⟩ := lenq4 h1.symm
    obtain ⟨l, rfl⟩ := lenq1 h2.symm
    exact kind20 ha
  exact (nn hs ⟨c0, c1, c2, c3, c4, c5, c6, c7, c8, c9, c10, c11, c12, c13, c14, c15, c16, c17, c18, c19, c20⟩).elim
end SR

set_option maxHeartbeats 2000000
/-! forms.py -/
namespace SR
open PySem PySem.Spec PyProof.Rows L2 Evl
abbrev sReadCalls : Stmt := topS 45
theorem scReadCalls : FnScope ["calls", "found", "position", "number", "behind_numbers", "numbers", "row"] ["calls"] (defScope sReadCalls) := ⟨rfl, rfl, rfl, by decide +kernel, rfl, by decide +kernel, by decide +kernel⟩

def naL : List Int := [4, 4, 1, 1, 1, 2, 2, 2, 0, 0, 1, 3, 2, 1, 1, 0, 0, 0, 0, 3, 4]
def wrL : List Int := [1, 2, 4, 6, 8, 14, 17, 20]
structure TxtF (K : PySem.W.Frag) (mg : Str → Option Value) (aN aW : Addr) : Prop where
  c_NUMBERS_AHEAD : mg "NUMBERS_AHEAD" = some (.ref aN)
  c_WITH_ROW : mg "WITH_ROW" = some (.ref aW)
  tN : ∀ H, SqT K H aN (iV naL)
  tW : ∀ H, SqT K H aW (iV wrL)

theorem inV_int (x : Int) (l : List Int) : inV (.int x) (iV l) = l.any fun y => y == x := by
  unfold inV iV
  rw [List.any_map]; rfl
theorem shape_info {x : Int} {n k : Nat} (h : PyKp389.shape x = some (n, k)) : ∃ j : Nat, j < 21 ∧ x = (j : Int) ∧ naL.getD j 0 = (n : Int) ∧ n ≤ 4 ∧ ((k = 0 ∧ inV (.int x) (iV wrL) = false) ∨ (k = 1 ∧ inV (.int x) (iV wrL) = true)) := by
  rw [inV_int]
  unfold PyKp389.shape at h
  by_cases c0 : x = 0
  · subst c0; simp at h; obtain ⟨rfl, rfl⟩ := h; exact ⟨0, by decide, rfl, by decide, by decide, by decide⟩
  rw [if_neg c0] at h
  by_cases c1 : x = 1
  · subst c1; simp at h; obtain ⟨rfl, rfl⟩ := h; exact ⟨1, by decide, rfl, by decide, by decide, by decide⟩
  rw [if_neg c1] at h
  by_cases c2 : x = 2
  · subst c2; simp at h; obtain ⟨rfl, rfl⟩ := h; exact ⟨2, by decide, rfl, by decide, by decide, by decide⟩
  rw [if_neg c2] at h
  by_cases c3 : x = 3
  · subst c3; simp at h; obtain ⟨rfl, rfl⟩ := h; exact ⟨3, by decide, rfl, by decide, by decide, by decide⟩
  rw [if_neg c3] at h
  by_cases c4 : x = 4
  · subst c4; simp at h; obtain ⟨rfl, rfl⟩ := h; exact ⟨4, by decide, rfl, by decide, by decide, by decide⟩
  rw [if_neg c4] at h
  by_cases c5 : x = 5
  · subst c5; simp at h; obtain ⟨rfl, rfl⟩ := h; exact ⟨5, by decide, rfl, by decide, by decide, by decide⟩
  rw [if_neg c5] at h
  by_cases c6 : x = 6
  · subst c6; simp at h; obtain ⟨rfl, rfl⟩ := h; exact ⟨6, by decide, rfl, by decide, by decide, by decide⟩
  rw [if_neg c6] at h
  by_cases c7 : x = 7
  · subst c7; simp at h; obtain ⟨rfl, rfl⟩ := h; exact ⟨7, by decide, rfl, by decide, by decide, by decide⟩
  rw [if_neg c7] at h
  by_cases c8 : x = 8
  · subst c8; simp at h; obtain ⟨rfl, rfl⟩ := h; exact ⟨8, by decide, rfl, by decide, by decide, by decide⟩
  rw [if_neg c8] at h
  by_cases c9 : x = 9
  · subst c9; simp at h; obtain ⟨rfl, rfl⟩ := h; exact ⟨9, by decide, rfl, by decide, by decide, by decide⟩
  rw [if_neg c9] at h
  by_cases c10 : x = 10
  · subst c10; simp at h; obtain ⟨rfl, rfl⟩ := h; exact ⟨10, by decide, rfl, by decide, by decide, by decide⟩
  rw [if_neg c10] at h
  by_cases c11 : x = 11
  · subst c11; simp at h; obtain ⟨rfl, rfl⟩ := h; exact ⟨11, by decide, rfl, by decide, by decide, by decide⟩
  rw [if_neg c11] at h
  by_cases c12 : x = 12
  · subst c12; simp at h; obtain ⟨rfl, rfl⟩ := h; exact ⟨12, by decide, rfl, by decide, by decide, by decide⟩
  rw [if_neg c12] at h
  by_cases c13 : x = 13
  · subst c13; simp at h; obtain ⟨rfl, rfl⟩ := h; exact ⟨13, by decide, rfl, by decide, by decide, by decide⟩
  rw [if_neg c13] at h
  by_cases c14 : x = 14
  · subst c14; simp at h; obtain ⟨rfl, rfl⟩ := h; exact ⟨14, by decide, rfl, by decide, by decide, by decide⟩
  rw [if_neg c14] at h
  by_cases c15 : x = 15
  · subst c15; simp at h; obtain ⟨rfl, rfl⟩ := h; exact ⟨15, by decide, rfl, by decide, by decide, by decide⟩
  rw [if_neg c15] at h
  by_cases c16 : x = 16
  · subst c16; simp at h; obtain ⟨rfl, rfl⟩ := h; exact ⟨16, by decide, rfl, by decide, by decide, by decide⟩
  rw [if_neg c16] at h
  by_cases c17 : x = 17
  · subst c17; simp at h; obtain ⟨rfl, rfl⟩ := h; exact ⟨17, by decide, rfl, by decide, by decide, by decide⟩
  rw [if_neg c17] at h
  by_cases c18 : x = 18
  · subst c18; simp at h; obtain ⟨rfl, rfl⟩ := h; exact ⟨18, by decide, rfl, by decide, by decide, by decide⟩
  rw [if_neg c18] at h
  by_cases c19 : x = 19
  · subst c19; simp at h; obtain ⟨rfl, rfl⟩ := h; exact ⟨19, by decide, rfl, by decide, by decide, by decide⟩
  rw [if_neg c19] at h
  by_cases c20 : x = 20
  · subst c20; simp at h; obtain ⟨rfl, rfl⟩ := h; exact ⟨20, by decide, rfl, by decide, by decide, by decide⟩
  rw [if_neg c20] at h
  cases h

/-- one call taken off a list -/
theorem calls_step {f : Nat} {l : List Int} {pos : Nat} {cs : List (List (List Int))} (hp : pos < l.length) (h : PyFlat.calls PyKp389.shape f (l.drop pos) = some cs) :
    ∃ (f' n k : Nat) (cs' : List (List (List Int))), f = f' + 1 ∧ PyKp389.shape (l.getD pos 0) = some (n, k) ∧ pos + 1 + n ≤ l.length ∧
      ((k = 0 ∧ cs = [l.getD pos 0 :: (l.drop (pos + 1)).take n] :: cs' ∧ PyFlat.calls PyKp389.shape f' (l.drop (pos + 1 + n)) = some cs') ∨
       (k = 1 ∧ ∃ m : Nat, pos + 1 + n < l.length ∧ l.getD (pos + 1 + n) 0 = (m : Int) ∧ pos + 1 + n + 1 + m ≤ l.length ∧
          cs = [l.getD pos 0 :: (l.drop (pos + 1)).take n, (l.drop (pos + 1 + n + 1)).take m] :: cs' ∧ PyFlat.calls PyKp389.shape f' (l.drop (pos + 1 + n + 1 + m)) = some cs')) := by
  have hd : l.drop pos = l.getD pos 0 :: l.drop (pos + 1) := by
    rw [List.drop_eq_getElem_cons hp]; simp [List.getD, List.getElem?_eq_getElem hp]
  rw [hd] at h
  cases f with
  | zero => simp [PyFlat.calls] at h
  | succ f' =>
    unfold PyFlat.calls at h
    cases hs : PyKp389.shape (l.getD pos 0) with
    | none => simp only [PyFlat.call, hs] at h; cases h
    | some nk =>
      obtain ⟨n, k⟩ := nk
      obtain ⟨j, hj, _, _, hn4, hk⟩ := shape_info hs
      simp only [PyFlat.call, hs] at h
      by_cases hlt : (l.drop (pos + 1)).length < n
      · rw [if_pos hlt] at h; cases h
      · rw [if_neg hlt] at h
        have hle : pos + 1 + n ≤ l.length := by
          rw [List.length_drop] at hlt; omega
        rw [List.drop_drop] at h
        rcases hk with ⟨rfl, _⟩ | ⟨rfl, _⟩
        · simp only [PyFlat.rows] at h
          cases hc : PyFlat.calls PyKp389.shape f' (l.drop (pos + 1 + n)) with
          | none => rw [hc] at h; cases h
          | some cs' =>
            rw [hc] at h
            exact ⟨f', n, 0, cs', rfl, rfl, hle, Or.inl ⟨rfl, (Option.some.inj h).symm, hc⟩⟩
        · simp only [PyFlat.rows] at h
          by_cases hlt2 : pos + 1 + n < l.length
          · have hd2 : l.drop (pos + 1 + n) = l.getD (pos + 1 + n) 0 :: l.drop (pos + 1 + n + 1) := by
              rw [List.drop_eq_getElem_cons hlt2]; simp [List.getD, List.getElem?_eq_getElem hlt2]
            rw [hd2] at h
            simp only [PyFlat.row] at h
            by_cases hm : 0 ≤ l.getD (pos + 1 + n) 0 ∧ (l.getD (pos + 1 + n) 0).toNat ≤ (l.drop (pos + 1 + n + 1)).length
            · rw [if_pos hm] at h
              simp only [List.drop_drop] at h
              have hm2 := hm.2
              rw [List.length_drop] at hm2
              cases hc : PyFlat.calls PyKp389.shape f' (l.drop (pos + 1 + n + 1 + (l.getD (pos + 1 + n) 0).toNat)) with
              | none => rw [hc] at h; cases h
              | some cs' =>
                rw [hc] at h
                exact ⟨f', n, 1, cs', rfl, rfl, hle, Or.inr ⟨rfl, (l.getD (pos + 1 + n) 0).toNat, hlt2, (Int.toNat_of_nonneg hm.1).symm, by omega, (Option.some.inj h).symm, hc⟩⟩
            · rw [if_neg hm] at h; cases h
          · have hd2 : l.drop (pos + 1 + n) = [] := List.drop_eq_nil_of_le (by omega)
            rw [hd2] at h
            simp [PyFlat.row] at h

theorem cut_nat (l : List Int) (a b : Nat) (hb : b ≤ l.length) (hab : a ≤ b) : cutV (iV l) (some (a : Int)) (some (b : Int)) = iV ((l.drop a).take (b - a)) := by
  unfold cutV
  rw [HT.sIx_nat, HT.sIx_nat, iV_len, Nat.min_eq_left hb, Nat.min_eq_left (by omega)]
  simp [iV]

/-- a call as it was read: its number, its whole numbers, its row -/
def pcOf (c : List (List Int)) : Int × List Int × List Int := match c with
  | (p :: ns) :: rows => (p, ns, rows.headD [])
  | _ => (0, [], [])
def PcAt (H0 H : Hp) (t : Addr) (c : Int × List Int × List Int) : Prop := ∃ x y, (H0 t = none ∧ H0 x = none ∧ H0 y = none) ∧ H t = some (.tup [.int c.1, .ref x, .ref y]) ∧ H x = some (.lst (iV c.2.1)) ∧ H y = some (.lst (iV c.2.2))
theorem PcAt.mono {H0 H H' : Hp} {t : Addr} {c : Int × List Int × List Int} (h : PcAt H0 H t c) (e : Ex H H') : PcAt H0 H' t c := by
  obtain ⟨x, y, h0, h1, h2, h3⟩ := h
  exact ⟨x, y, h0, e _ _ h1, e _ _ h2, e _ _ h3⟩
/-- the same, none of it at g -/
def PcN (g : Addr) (H0 H : Hp) (t : Addr) (c : Int × List Int × List Int) : Prop := ∃ x y, (t ≠ g ∧ x ≠ g ∧ y ≠ g) ∧ (H0 t = none ∧ H0 x = none ∧ H0 y = none) ∧ H t = some (.tup [.int c.1, .ref x, .ref y]) ∧ H x = some (.lst (iV c.2.1)) ∧ H y = some (.lst (iV c.2.2))
theorem PcN.mono {g : Addr} {H0 H H' : Hp} {t : Addr} {c : Int × List Int × List Int} (h : PcN g H0 H t c) (e : Ex H H') : PcN g H0 H' t c := by
  obtain ⟨x, y, h0, hf, h1, h2, h3⟩ := h
  exact ⟨x, y, h0, hf, e _ _ h1, e _ _ h2, e _ _ h3⟩
theorem PcN.upd {g : Addr} {H0 H : Hp} {t : Addr} {c : Int × List Int × List Int} {o : HO} (h : PcN g H0 H t c) : PcN g H0 (L2.upd H g o) t c := by
  obtain ⟨x, y, ⟨n1, n2, n3⟩, hf, h1, h2, h3⟩ := h
  exact ⟨x, y, ⟨n1, n2, n3⟩, hf, by rw [upd_ne n1]; exact h1, by rw [upd_ne n2]; exact h2, by rw [upd_ne n3]; exact h3⟩
theorem PcN.at {g : Addr} {H0 H : Hp} {t : Addr} {c : Int × List Int × List Int} (h : PcN g H0 H t c) : PcAt H0 H t c := by
  obtain ⟨x, y, _, hf, h1, h2, h3⟩ := h
  exact ⟨x, y, hf, h1, h2, h3⟩
/-- what the calls of a list are like -/
theorem calls_shaped : ∀ (f : Nat) (l : List Int) (cs : List (List (List Int))), PyFlat.calls PyKp389.shape f l = some cs → ∀ c ∈ cs, ∃ p ns rows, Shaped c p ns rows := by
  intro f
  induction f with
  | zero =>
    intro l cs h c hc
    cases l with
    | nil => simp [PyFlat.calls] at h; subst h; cases hc
    | cons x r => simp [PyFlat.calls] at h
  | succ f ih =>
    intro l cs h c hc
    cases l with
    | nil => simp [PyFlat.calls] at h; subst h; cases hc
    | cons x r =>
      have h0 : PyFlat.calls PyKp389.shape (f + 1) ((x :: r).drop 0) = some cs := h
      obtain ⟨f', n, k, cs', hf, hsh, hle, hk⟩ := calls_step (pos := 0) (by simp) h0
      have hf : f = f' := by omega
      subst hf
      have hl1 : (((x :: r).drop (0 + 1)).take n).length = n := by
        rw [List.length_take, List.length_drop]; omega
      rcases hk with ⟨rfl, rfl, h3⟩ | ⟨rfl, m, h1, h2, h3, rfl, h4⟩
      · rcases List.mem_cons.mp hc with rfl | hc
        · exact ⟨_, _, _, rfl, by rw [hl1]; exact hsh⟩
        · exact ih _ _ h3 c hc
      · rcases List.mem_cons.mp hc with rfl | hc
        · exact ⟨_, _, _, rfl, by rw [hl1]; exact hsh⟩
        · exact ih _ _ h4 c hc
def spReadCalls (K : PySem.W.Frag) : Sp := fun vs H Q _ => ∃ (a : Addr) (l : List Int) (cs : List (List (List Int))), vs = [.ref a] ∧ SqL K H a (iV l) ∧ l.length ≤ 3180 ∧ PyFlat.calls PyKp389.shape l.length l = some cs ∧
  ∀ (p : Addr) (ts : List Addr) (H' : Hp), H p = none → Ex H H' → H' p = some (.lst (ts.map V.ref)) → ts.length = cs.length → (∀ (i : Nat) (t : Addr) (c : List (List Int)), ts[i]? = some t → cs[i]? = some c → PcAt H H' t (pcOf c)) → Q (.ref p) H'
section
variable {P : Program} {w : World} {K : PySem.W.Frag} {mg : Str → Option Value} {base : Heap} {C fi aN aW : Addr}
theorem ev_ixT {σ : L2.St} {H : Hp} {ta tb : TE} {a : Addr} {l : List Int} {i : Nat} (h : Ev ta σ H (.ref a)) (hb : Ev tb σ H (.int (i : Int))) (hl : SqT K H a (iV l)) (hi : i < l.length) : Ev (tOp (rIxT K) ta tb) σ H (.int (l.getD i 0)) := by
  refine ev_op h hb (rv_ixT hl (atI_nat ?_))
  simp [iV, List.getElem?_eq_getElem hi, List.getD]
theorem ne_new {H : Hp} {a b : Addr} {o : HO} (h : H a = some o) (n : H b = none) : b ≠ a := fun e => by rw [e, h] at n; cases n
/-- the turn's end: one tuple more -/
theorem pc_more {g : Addr} {H0 H H1 : Hp} {ts : List Addr} {done : List (List (List Int))} {c : List (List Int)} {t : Addr} (hl : ts.length = done.length) (hr : ∀ (i : Nat) (t : Addr) (c : List (List Int)), ts[i]? = some t → done[i]? = some c → PcN g H0 H t (pcOf c))
    (ht : PcN g H0 H1 t (pcOf c)) (e : Ex H H1) : (ts ++ [t]).length = (done ++ [c]).length ∧ ∀ (i : Nat) (t' : Addr) (c' : List (List Int)), (ts ++ [t])[i]? = some t' → (done ++ [c])[i]? = some c' → PcN g H0 H1 t' (pcOf c') := by
  refine ⟨by simp [hl], fun i t' c' h1 h2 => ?_⟩
  by_cases hi : i < ts.length
  · rw [List.getElem?_append_left hi] at h1
    rw [List.getElem?_append_left (by omega)] at h2
    exact (hr i t' c' h1 h2).mono e
  · have hi2 : i = ts.length := by
      have := (List.getElem?_eq_some_iff.mp h1).1
      simp at this; omega
    subst hi2
    have h1 : t = t' := by simpa using h1
    have h2 : c = c' := by rw [hl] at h2; simpa using h2
    subst h1 h2; exact ht
def dfReadCalls (T : Txt K mg C fi) (TF : TxtF K mg aN aW) (r : Rw K mg "read_calls" sReadCalls) : Df P w K mg base "read_calls" 1 ["calls"] (spReadCalls K) :=
  r.df (k := 0) scReadCalls (fun _ _ _ _ _ _ us hl => match us, hl with | [_], _ => rfl)
  (fun vs H Q E h => by obtain ⟨_, _, _, rfl, _⟩ := h; rfl) (fun cdv A outer s H vs Q E hr h => by
    obtain ⟨a, l, cs, rfl, hl, hz, hcs, q⟩ := h
    refine ⟨_, (pss_cons (ps_set (i := 1) scReadCalls.nd rfl (by first | exact Or.inl rfl | exact Or.inr rfl) (pe_lst pa_nil))
      (pss_cons (ps_set (i := 2) scReadCalls.nd rfl (by first | exact Or.inl rfl | exact Or.inr rfl) pe_int)
      (pss_cons (ps_while PassesOwn.never (pt_cmpR op_lt (pv 2) (pe_callB (call_lenK K (by rfl)) (by rfl) T.n_len (by decide +kernel) (pa_cons (pv 0) pa_nil)) (nomark _)) (pss_cons (ps_set (i := 3) scReadCalls.nd rfl (by first | exact Or.inl rfl | exact Or.inr rfl) (pe_ix (ix_listK K (by rfl)) (pv 0) (pv 2) (fun _ _ => rfl)))
      (pss_cons (ps_set (i := 4) scReadCalls.nd rfl (by first | exact Or.inl rfl | exact Or.inr rfl) (pe_op op_add (pe_op op_add (pv 2) pe_int) (pe_ix (ix_tupK K (by rfl)) (pe_globR rfl TF.c_NUMBERS_AHEAD) (pv 3) (fun _ _ => rfl))))
      (pss_cons (ps_set (i := 5) scReadCalls.nd rfl (by first | exact Or.inl rfl | exact Or.inr rfl) (pe_slice (sl_listK K (by rfl)) (pv 0) (po_some (pe_op op_add (pv 2) pe_int)) (po_some (pv 4))))
      (pss_cons (ps_set (i := 2) scReadCalls.nd rfl (by first | exact Or.inl rfl | exact Or.inr rfl) (pv 4))
      (pss_cons (ps_set (i := 6) scReadCalls.nd rfl (by first | exact Or.inl rfl | exact Or.inr rfl) (pe_lst pa_nil))
      (pss_cons (ps_if (pt_cmpR (op_inK K (by rfl)) (pv 3) (pe_globR rfl TF.c_WITH_ROW) (by rfl)) (pss_cons (ps_set (i := 2) scReadCalls.nd rfl (by first | exact Or.inl rfl | exact Or.inr rfl) (pe_op op_add (pe_op op_add (pv 4) pe_int) (pe_ix (ix_listK K (by rfl)) (pv 0) (pv 4) (fun _ _ => rfl))))
      (pss_one (ps_set (i := 6) scReadCalls.nd rfl (by first | exact Or.inl rfl | exact Or.inr rfl) (pe_slice (sl_listK K (by rfl)) (pv 0) (po_some (pe_op op_add (pv 4) pe_int)) (po_some (pv 2)))))) pss_nil)
      (pss_one (ps_expr (pe_bm PySem.F.plainAttrs_list PySem.F.slot_list_append PySem.F.type_list_append mt_append (pv 1) (pa_cons (pe_tup (pa_cons (pv 3) (pa_cons (pv 5) (pa_cons (pv 6) pa_nil)))) pa_nil)))))))))))
      (pss_one (ps_ret (pv 1)))))), ?_⟩
    refine q_asgL (el_lst ea_nil (by simp)) fun fd H1 nfd e1 hfd => ?_
    refine q_asg ev_c fun H2 e2 => ?_
    have hfd2 := e2 _ _ hfd
    refine q_while (fun m σ' H' => ∃ (pos f : Nat) (done rest : List (List (List Int))) (ts : List Addr), (∃ v3 v4 v5 v6, σ' = [some (.ref a), some (.ref fd), some (.int (pos : Int)), v3, v4, v5, v6]) ∧ m = l.length - pos ∧ pos ≤ l.length ∧
      PyFlat.calls PyKp389.shape f (l.drop pos) = some rest ∧ cs = done ++ rest ∧ done.length ≤ pos ∧ Ex H H' ∧ H' fd = some (.lst (ts.map V.ref)) ∧ ts.length = done.length ∧ ∀ (i : Nat) (t : Addr) (c : List (List Int)), ts[i]? = some t → done[i]? = some c → PcN fd H H' t (pcOf c))
      l.length ⟨0, l.length, [], cs, [], ⟨none, none, none, none, rfl⟩, by omega, by omega, by simpa using hcs, rfl, by simp, e1.trans e2, hfd2, rfl, fun i t c h => by simp at h⟩ ?_
    rintro m σ1 H3 ⟨pos, f, done, rest, ts, ⟨v3, v4, v5, v6, rfl⟩, rfl, hpos, hrest, hcat, hdl, e3, h3, htl, hts⟩
    refine ⟨decide ((pos : Int) < ((iV l).length : Int)), et_test (ev_op (ev_var rfl) (ev_lenL (ev_var rfl) (ex_l e3 hl)) rv_I0), fun hb H4 e4 => ?_, fun hb H4 e4 => ?_⟩
    · have hlt : pos < l.length := by
        have := of_decide_eq_true hb
        rw [iV_len] at this; omega
      obtain ⟨f', n, k, cs', rfl, hsh, hle, hk⟩ := calls_step hlt hrest
      obtain ⟨j, hj, hxj, hna, hn4, hwr⟩ := shape_info hsh
      have hl4 := ex_l (e3.trans e4) hl
      refine ⟨fun σ2 H5 => ∃ (pos' : Nat) (c : List (List Int)) (t : Addr) (v3 v4 v5 v6 : Option V), σ2 = [some (.ref a), some (.ref fd), some (.int (pos' : Int)), v3, v4, v5, v6] ∧ pos < pos' ∧ pos' ≤ l.length ∧ rest = c :: cs' ∧ PyFlat.calls PyKp389.shape f' (l.drop pos') = some cs' ∧
        Ex H H5 ∧ H5 fd = some (.lst ((ts ++ [t]).map V.ref)) ∧ (ts ++ [t]).length = (done ++ [c]).length ∧ ∀ (i : Nat) (t' : Addr) (c' : List (List Int)), (ts ++ [t])[i]? = some t' → (done ++ [c])[i]? = some c' → PcN fd H H5 t' (pcOf c'), ?_, ?_⟩
      · rintro σ2 H5 ⟨pos', c, t, v3, v4, v5, v6, rfl, h1, h2, rfl, h4, h5, h6, h7, h8⟩
        exact ⟨l.length - pos', by omega, pos', f', done ++ [c], cs', ts ++ [t], ⟨v3, v4, v5, v6, rfl⟩, rfl, h2, h4, by rw [hcat, List.append_assoc]; rfl, by rw [List.length_append]; simp; omega, h5, h6, h7, h8⟩
      · have hfd4 := e4 _ _ h3
        refine q_asg (v := .int (l.getD pos 0)) (ev_ixI (ev_var rfl) (ev_var rfl) hl4 hlt) fun H5 e5 => ?_
        refine q_asg (v := .int ((pos + 1 + n : Nat) : Int)) ?_ fun H6 e6 => ?_
        · have e0 : ((pos + 1 + n : Nat) : Int) = ((pos : Int) + 1) + naL.getD j 0 := by rw [hna]; omega
          rw [e0]
          refine ev_add (ev_add (ev_var rfl) ev_c) (ev_ixT ev_c ?_ (TF.tN _) (by simp [naL]; omega))
          rw [hxj]; exact ev_var rfl
        have hl6 := ex_l (e5.trans e6) hl4
        have e1p : (pos : Int) + 1 = ((pos + 1 : Nat) : Int) := by omega
        refine q_asgL (xs := iV ((l.drop (pos + 1)).take n)) ?_ fun xn H7 nxn e7 hxn => ?_
        · have := el_sl (K := K) (te := tVar 0) (tl := tPart (tOp (rI0 fun i j => .int (i + j)) (tVar 2) (tC (.int 1)))) (th := tPart (tVar 4)) (σ := [some (.ref a), some (.ref fd), some (.int (pos : Int)), some (.int (l.getD pos 0)), some (.int ((pos + 1 + n : Nat) : Int)), v5, v6]) (lo := some ((pos : Int) + 1)) (hi := some ((pos + 1 + n : Nat) : Int))
            (ev_var rfl) (eo_some (ev_add (ev_var rfl) ev_c)) (eo_some (ev_var rfl)) hl6
          rw [e1p, cut_nat l (pos + 1) (pos + 1 + n) hle (by omega), show pos + 1 + n - (pos + 1) = n by omega] at this
          exact this
        refine q_asg (ev_var rfl) fun H8 e8 => ?_
        refine q_asgL (el_lst ea_nil (by simp)) fun y0 H9 ny0 e9 hy0 => ?_
        have hl9 := ex_l ((e7.trans e8).trans e9) hl6
        have hfd9 : H9 fd = some (.lst (ts.map V.ref)) := e9 _ _ (e8 _ _ (e7 _ _ (e6 _ _ (e5 _ _ hfd4))))
        have hxn9 : H9 xn = some (.lst (iV ((l.drop (pos + 1)).take n))) := e9 _ _ (e8 _ _ hxn)
        have nxf : xn ≠ fd := ne_new (e6 _ _ (e5 _ _ hfd4)) nxn
        have nyf : y0 ≠ fd := ne_new (e8 _ _ (e7 _ _ (e6 _ _ (e5 _ _ hfd4)))) ny0
        have e49 := ((((e5.trans e6).trans e7).trans e8).trans e9)
        have hE9 : Ex H H9 := (e3.trans e4).trans e49
        have hxf : H xn = none := fresh_back ((e3.trans e4).trans (e5.trans e6)) nxn
        refine q_when (b := inV (.int (l.getD pos 0)) (iV wrL)) (et_test (ev_op (ev_var rfl) ev_c (rv_isT (TF.tW _) rfl (by decide)))) (fun hb2 H10 e10 => ?_) (fun hb2 H10 e10 => ?_)
        · rcases hk with ⟨rfl, _⟩ | ⟨rfl, m, hm1, hm2, hm3, rfl, hcs2⟩
          · rcases hwr with ⟨_, hw⟩ | ⟨h, _⟩
            · rw [hw] at hb2; cases hb2
            · cases h
          have hl10 := ex_l e10 hl9
          refine q_asg (v := .int ((pos + 1 + n + 1 + m : Nat) : Int)) ?_ fun H11 e11 => ?_
          · have e0 : ((pos + 1 + n + 1 + m : Nat) : Int) = (((pos + 1 + n : Nat) : Int) + 1) + l.getD (pos + 1 + n) 0 := by rw [hm2]; omega
            rw [e0]
            exact ev_add (ev_add (ev_var rfl) ev_c) (ev_ixI (ev_var rfl) (ev_var rfl) hl10 hm1)
          have hl11 := ex_l e11 hl10
          have e1q : ((pos + 1 + n : Nat) : Int) + 1 = ((pos + 1 + n + 1 : Nat) : Int) := by omega
          refine s_asgL (xs := iV ((l.drop (pos + 1 + n + 1)).take m)) ?_ fun yr H12 nyr e12 hyr => ?_
          · have := el_sl (K := K) (te := tVar 0) (tl := tPart (tOp (rI0 fun i j => .int (i + j)) (tVar 4) (tC (.int 1)))) (th := tPart (tVar 2)) (σ := [some (.ref a), some (.ref fd), some (.int ((pos + 1 + n + 1 + m : Nat) : Int)), some (.int (l.getD pos 0)), some (.int ((pos + 1 + n : Nat) : Int)), some (.ref xn), some (.ref y0)]) (lo := some (((pos + 1 + n : Nat) : Int) + 1)) (hi := some ((pos + 1 + n + 1 + m : Nat) : Int))
              (ev_var rfl) (eo_some (ev_add (ev_var rfl) ev_c)) (eo_some (ev_var rfl)) hl11
            rw [e1q, cut_nat l (pos + 1 + n + 1) (pos + 1 + n + 1 + m) hm3 (by omega), show pos + 1 + n + 1 + m - (pos + 1 + n + 1) = m by omega] at this
            exact this
          have hfd12 : H12 fd = some (.lst (ts.map V.ref)) := e12 _ _ (e11 _ _ (e10 _ _ hfd9))
          refine s_appU hfd12 (ev_var rfl) (eu_tup (ea_cons (ev_var rfl) (ea_cons (ev_var rfl) (ea_cons (ev_var rfl) ea_nil))) (by simp)) (by simp; omega) fun t H13 nt e13 ht => ?_
          have hE13 : Ex H H13 := ((hE9.trans e10).trans e11).trans (e12.trans e13)
          have hPC : PcN fd H H13 t (pcOf [l.getD pos 0 :: (l.drop (pos + 1)).take n, (l.drop (pos + 1 + n + 1)).take m]) :=
            ⟨xn, yr, ⟨ne_new hfd12 nt, nxf, ne_new (e11 _ _ (e10 _ _ hfd9)) nyr⟩, ⟨fresh_back ((hE9.trans e10).trans (e11.trans e12)) nt, hxf, fresh_back ((hE9.trans e10).trans e11) nyr⟩, ht, e13 _ _ (e12 _ _ (e11 _ _ (e10 _ _ hxn9))), e13 _ _ hyr⟩
          obtain ⟨g1, g2⟩ := pc_more htl hts hPC ((e4.trans e49).trans ((e10.trans e11).trans (e12.trans e13)))
          refine ⟨pos + 1 + n + 1 + m, _, t, _, _, _, _, rfl, by omega, hm3, rfl, hcs2, Ex.mut hE13 nfd, by rw [upd_same]; simp, g1, fun i t' c' h1 h2 => (g2 i t' c' h1 h2).upd⟩
        · rcases hk with ⟨rfl, rfl, hcs2⟩ | ⟨rfl, m, hm1, hm2, hm3, rfl, hcs2⟩
          · have hfd10 := e10 _ _ hfd9
            refine s_appU hfd10 (ev_var rfl) (eu_tup (ea_cons (ev_var rfl) (ea_cons (ev_var rfl) (ea_cons (ev_var rfl) ea_nil))) (by simp)) (by simp; omega) fun t H13 nt e13 ht => ?_
            have hE13 : Ex H H13 := (hE9.trans e10).trans e13
            have hPC : PcN fd H H13 t (pcOf [l.getD pos 0 :: (l.drop (pos + 1)).take n]) :=
              ⟨xn, y0, ⟨ne_new hfd10 nt, nxf, nyf⟩, ⟨fresh_back (hE9.trans e10) nt, hxf, fresh_back ((e3.trans e4).trans (((e5.trans e6).trans e7).trans e8)) ny0⟩, ht, e13 _ _ (e10 _ _ hxn9), e13 _ _ (e10 _ _ hy0)⟩
            obtain ⟨g1, g2⟩ := pc_more htl hts hPC ((e4.trans e49).trans (e10.trans e13))
            refine ⟨pos + 1 + n, _, t, _, _, _, _, rfl, by omega, hle, rfl, hcs2, Ex.mut hE13 nfd, by rw [upd_same]; simp, g1, fun i t' c' h1 h2 => (g2 i t' c' h1 h2).upd⟩
          · rcases hwr with ⟨h, _⟩ | ⟨_, hw⟩
            · cases h
            · rw [hw] at hb2; cases hb2
    · have hge : pos = l.length := by
        have := of_decide_eq_false hb
        rw [iV_len] at this; omega
      subst hge
      rw [List.drop_length] at hrest
      have hr0 : rest = [] := by
        cases f <;> (simp [PyFlat.calls] at hrest; exact hrest)
      subst hr0
      rw [List.append_nil] at hcat
      subst hcat
      refine s_ret (ev_var rfl) fun H5 e5 => q fd ts H5 nfd ((e3.trans e4).trans e5) (e5 _ _ (e4 _ _ h3)) htl fun i t c h1 h2 => ?_
      exact ((hts i t c h1 h2).mono (e4.trans e5)).at)
end
end SR

set_option maxHeartbeats 2000000
/-! fraction.py -/
namespace SR
open PySem PySem.Spec PyProof.Rows L2 Evl
abbrev sGreatestCommonDivisor : Stmt := topS 47
theorem scGreatestCommonDivisor : FnScope ["first", "second", "rest"] ["first", "second"] (defScope sGreatestCommonDivisor) := ⟨rfl, rfl, rfl, by decide +kernel, rfl, by decide +kernel, by decide +kernel⟩
abbrev sLowestTerms : Stmt := topS 48
theorem scLowestTerms : FnScope ["fraction", "divisor"] ["fraction"] (defScope sLowestTerms) := ⟨rfl, rfl, rfl, by decide +kernel, rfl, by decide +kernel, by decide +kernel⟩
abbrev sGreater : Stmt := topS 52
theorem scGreater : FnScope ["first", "second"] ["first", "second"] (defScope sGreater) := ⟨rfl, rfl, rfl, by decide +kernel, rfl, by decide +kernel, by decide +kernel⟩
abbrev sAdded : Stmt := topS 49
theorem scAdded : FnScope ["first", "second"] ["first", "second"] (defScope sAdded) := ⟨rfl, rfl, rfl, by decide +kernel, rfl, by decide +kernel, by decide +kernel⟩
abbrev sLess : Stmt := topS 50
theorem scLess : FnScope ["first", "second"] ["first", "second"] (defScope sLess) := ⟨rfl, rfl, rfl, by decide +kernel, rfl, by decide +kernel, by decide +kernel⟩
abbrev sSame : Stmt := topS 51
theorem scSame : FnScope ["first", "second"] ["first", "second"] (defScope sSame) := ⟨rfl, rfl, rfl, by decide +kernel, rfl, by decide +kernel, by decide +kernel⟩
abbrev sWritten : Stmt := topS 53
theorem scWritten : FnScope ["fractions", "numbers", "fraction", "lowest"] ["fractions"] (defScope sWritten) := ⟨rfl, rfl, rfl, by decide +kernel, rfl, by decide +kernel, by decide +kernel⟩

/-- n over d is x; both below 2 ^ b -/
structure FrOk (b : Nat) (n d : Int) (x : Rat) : Prop where
  pos : 0 < d
  nb : n.natAbs < 2 ^ b
  db : d.natAbs < 2 ^ b
  eq : (n : Rat) = x * (d : Rat)
def FrAt (b : Nat) (H : Hp) (t : Addr) (x : Rat) : Prop := ∃ n d : Int, H t = some (.tup [.int n, .int d]) ∧ FrOk b n d x
theorem FrAt.mono {b : Nat} {H H' : Hp} {t : Addr} {x : Rat} (h : FrAt b H t x) (e : Ex H H') : FrAt b H' t x := by
  obtain ⟨n, d, h1, h2⟩ := h
  exact ⟨n, d, e _ _ h1, h2⟩
theorem FrOk.up {b b' : Nat} {n d : Int} {x : Rat} (h : FrOk b n d x) (hb : b ≤ b') : FrOk b' n d x :=
  ⟨h.pos, Nat.lt_of_lt_of_le h.nb (Nat.pow_le_pow_right (by decide) hb), Nat.lt_of_lt_of_le h.db (Nat.pow_le_pow_right (by decide) hb), h.eq⟩
theorem FrAt.up {b b' : Nat} {H : Hp} {t : Addr} {x : Rat} (h : FrAt b H t x) (hb : b ≤ b') : FrAt b' H t x := by
  obtain ⟨n, d, h1, h2⟩ := h
  exact ⟨n, d, h1, h2.up hb⟩
theorem abs_mul_lt {i j : Int} {a b : Nat} (hi : i.natAbs < 2 ^ a) (hj : j.natAbs < 2 ^ b) : (i * j).natAbs < 2 ^ (a + b) := by
  rw [Int.natAbs_mul, Nat.pow_add]; exact Nat.mul_lt_mul'' hi hj
theorem abs_add_lt {i j : Int} {a : Nat} (hi : i.natAbs < 2 ^ a) (hj : j.natAbs < 2 ^ a) : (i + j).natAbs < 2 ^ (a + 1) := by
  rw [Nat.pow_succ]; omega
/-- the sum of two -/
theorem FrOk.add {b b' : Nat} {n d n' d' : Int} {x y : Rat} (h : FrOk b n d x) (h' : FrOk b' n' d' y) : FrOk (b + b' + 1) (n * d' + n' * d) (d * d') (x + y) := by
  refine ⟨Int.mul_pos h.pos h'.pos, abs_add_lt (abs_mul_lt h.nb h'.db) (by rw [Nat.add_comm b b']; exact abs_mul_lt h'.nb h.db), Nat.lt_of_lt_of_le (abs_mul_lt h.db h'.db) (Nat.pow_le_pow_right (by decide) (by omega)), ?_⟩
  have e1 := h.eq
  have e2 := h'.eq
  rw [Rat.intCast_add, Rat.intCast_mul, Rat.intCast_mul, Rat.intCast_mul, e1, e2]
  grind
theorem FrOk.neg {b : Nat} {n d : Int} {x : Rat} (h : FrOk b n d x) : FrOk b (-n) d (-x) := by
  refine ⟨h.pos, by rw [Int.natAbs_neg]; exact h.nb, h.db, ?_⟩
  rw [Rat.intCast_neg, h.eq]; grind
theorem FrOk.lowest {b : Nat} {n d : Int} {x : Rat} (h : FrOk b n d x) : x.num = n / ((Nat.gcd n.natAbs d.toNat : Nat) : Int) ∧ (x.den : Int) = d / ((Nat.gcd n.natAbs d.toNat : Nat) : Int) := by
  have hp := h.pos
  have hd : d = (d.toNat : Int) := (Int.toNat_of_nonneg (by omega)).symm
  have hne : d.toNat ≠ 0 := by omega
  have hx : x = mkRat n d.toNat := by
    rw [Rat.mkRat_eq_div]
    have he := h.eq
    rw [hd, Rat.intCast_natCast] at he
    have hz : ((d.toNat : Nat) : Rat) ≠ 0 := by
      intro hh
      have : d.toNat = 0 := by exact_mod_cast hh
      exact hne this
    rw [he, Rat.div_def, Rat.mul_assoc, Rat.mul_inv_cancel _ hz, Rat.mul_one]
  rw [hx, Rat.num_mkRat, Rat.den_mkRat, if_neg hne, if_neg hne, Nat.gcd_comm]
  refine ⟨rfl, ?_⟩
  rw [Int.natCast_ediv, ← hd]
/-- comparing by products -/
theorem FrOk.le {b b' : Nat} {n d n' d' : Int} {x y : Rat} (h : FrOk b n d x) (h' : FrOk b' n' d' y) : n' * d ≤ n * d' ↔ y ≤ x := by
  have p1 : (0 : Rat) < (d : Rat) := by exact_mod_cast h.pos
  have p2 : (0 : Rat) < (d' : Rat) := by exact_mod_cast h'.pos
  have e1 := h.eq
  have e2 := h'.eq
  have key : (n' * d ≤ n * d') ↔ (((n' * d : Int) : Rat) ≤ ((n * d' : Int) : Rat)) := Rat.intCast_le_intCast.symm
  rw [key, Rat.intCast_mul, Rat.intCast_mul, e1, e2]
  have hdd := Rat.mul_pos p1 p2
  constructor
  · intro hh
    by_cases hc : y ≤ x
    · exact hc
    · have : x < y := by grind
      have := Rat.mul_lt_mul_of_pos_right this hdd
      grind
  · intro hh
    have := Rat.mul_le_mul_of_nonneg_right hh (Rat.le_of_lt hdd)
    grind

theorem FrOk.same {b b' : Nat} {n d n' d' : Int} {x y : Rat} (h : FrOk b n d x) (h' : FrOk b' n' d' y) : n * d' = n' * d ↔ x = y := by
  have h1 := h.le h'
  have h2 := h'.le h
  constructor
  · intro e
    exact Rat.le_antisymm (h2.mp (by rw [e]; exact Int.le_refl _)) (h1.mp (by rw [e]; exact Int.le_refl _))
  · intro e
    exact Int.le_antisymm (h2.mpr (by rw [e]; exact Rat.le_refl)) (h1.mpr (by rw [e]; exact Rat.le_refl))

theorem fr_len : ∀ l : List Rat, (l.flatMap Kp389.fraction).length = 2 * l.length
  | [] => rfl
  | x :: r => by rw [List.flatMap_cons, List.length_append, fr_len r]; simp [Kp389.fraction]; omega
/-- hands back a new tuple -/
def spU (S : List V → Hp → List V → Prop) : Sp := fun vs H Q _ => ∃ xs, S vs H xs ∧ ∀ p H', H p = none → Ex H H' → H' p = some (.tup xs) → Q (.ref p) H'
def spGreatestCommonDivisor : Sp := spV fun vs _ v => ∃ a b : Nat, vs = [.int (a : Int), .int (b : Int)] ∧ v = .int ((Nat.gcd a b : Nat) : Int)
def spLowestTerms : Sp := spU fun vs H xs => ∃ (t : Addr) (x : Rat), vs = [.ref t] ∧ FrAt 8000 H t x ∧ xs = [.int x.num, .int (x.den : Int)]
def spGreater : Sp := spV fun vs H v => ∃ (s t : Addr) (x y : Rat), vs = [.ref s, .ref t] ∧ FrAt 8000 H s x ∧ FrAt 8000 H t y ∧ v = if y ≤ x then .ref s else .ref t
def spWritten (K : PySem.W.Frag) : Sp := spL fun vs H xs => ∃ (a : Addr) (ts : List Addr) (l : List Rat), vs = [.ref a] ∧ SqL K H a (ts.map V.ref) ∧ ts.length = l.length ∧ l.length ≤ 1000 ∧ (∀ (i : Nat) (t : Addr) (x : Rat), ts[i]? = some t → l[i]? = some x → FrAt 8000 H t x) ∧ xs = iV (l.flatMap Kp389.fraction)

section
variable {P : Program} {w : World} {K : PySem.W.Frag} {mg : Str → Option Value} {base : Heap} {C fi aN aW : Addr} {σ : L2.St} {H H' : Hp} {ta tb te : TE}
theorem eu_call {S : List V → Hp → List V → Prop} {dvs vs xs : List V} {E : XK} {ta : TA} (h : EvA ta σ H vs) (hs : ∀ H1, Ex H H1 → S (vs ++ dvs) H1 xs) : EvU (tCall (spU S) dvs E ta) σ H xs := fun H1 e Q q =>
  h H1 e _ fun H2 e2 => ⟨xs, hs H2 (e.trans e2), fun p H3 np e3 hp => q p H3 (fresh_back e2 np) (e2.trans e3) hp⟩
/-- t[0], t[1] of a pair -/
theorem ev_fst {t : Addr} {x y : V} (h : Ev ta σ H (.ref t)) (hb : Ev tb σ H (.int 0)) (ht : H t = some (.tup [x, y])) : Ev (tOp (rIxT K) ta tb) σ H x := ev_op h hb (rv_ixT (st_of ht) (atI_nat (j := 0) rfl))
theorem ev_snd {t : Addr} {x y : V} (h : Ev ta σ H (.ref t)) (hb : Ev tb σ H (.int 1)) (ht : H t = some (.tup [x, y])) : Ev (tOp (rIxT K) ta tb) σ H y := ev_op h hb (rv_ixT (st_of ht) (atI_nat (j := 1) rfl))
theorem ev_mulB {i j : Int} (ha : Ev ta σ H (.int i)) (hb : Ev tb σ H (.int j)) {a b : Nat} (hi : i.natAbs < 2 ^ a) (hj : j.natAbs < 2 ^ b) (h0 : a ≤ 400000 := by omega) (h1 : b ≤ 400000 := by omega) : Ev (tOp (rI CMulW fun i j => .int (i * j)) ta tb) σ H (.int (i * j)) :=
  ev_op ha hb (rv_I (mulW_of (a := a + 1) (b := b + 1) (Nat.lt_of_lt_of_le hi (Nat.pow_le_pow_right (by decide) (by omega))) (Nat.lt_of_lt_of_le hj (Nat.pow_le_pow_right (by decide) (by omega))) (by omega) (by omega) (by omega)))
theorem ev_divB {i j : Int} (ha : Ev ta σ H (.int i)) (hb : Ev tb σ H (.int j)) (h0 : 0 < j) {b : Nat} (hj : j.natAbs < 2 ^ b) (hb8 : b ≤ 8000 := by omega) : Ev (tOp (rI CDivW fun i j => .int (i / j)) ta tb) σ H (.int (i / j)) :=
  ev_op ha hb (rv_I (wide_div (b := b + 1) h0 (Nat.lt_of_lt_of_le hj (Nat.pow_le_pow_right (by decide) (by omega))) (by omega) (by omega)))
theorem ev_abs {i : Int} (h : Ev te σ H (.int i)) : Ev (tCB (fun xs H Q => ∃ i, xs = [.int i] ∧ Q (.int (if i < 0 then -i else i)) H) (tCons te tNil)) σ H (.int ((i.natAbs : Nat) : Int)) := fun H1 e Q q =>
  h H1 e _ fun H2 e2 => ⟨i, rfl, by
    have : (if i < 0 then -i else i) = ((i.natAbs : Nat) : Int) := by by_cases h : i < 0 <;> simp [h] <;> omega
    rw [this]; exact q H2 e2⟩

def dfGreatestCommonDivisor (T : Txt K mg C fi) (r : Rw K mg "greatest_common_divisor" sGreatestCommonDivisor) : Df P w K mg base "greatest_common_divisor" 1 ["first", "second"] spGreatestCommonDivisor :=
  r.df (k := 0) scGreatestCommonDivisor (fun _ _ _ _ _ _ us hl => match us, hl with | [_, _], _ => rfl)
  (fun vs H Q E h => by obtain ⟨_, ⟨_, _, rfl, _⟩, _⟩ := h; rfl) (fun cdv A outer s H vs Q E hr h => by
    obtain ⟨_, ⟨a, b, rfl, rfl⟩, q⟩ := h
    refine ⟨_, (pss_cons (ps_while PassesOwn.never (pt_cmpR op_ne (pv 1) pe_int (nomark _)) (pss_cons (ps_set (i := 2) scGreatestCommonDivisor.nd rfl (by first | exact Or.inl rfl | exact Or.inr rfl) (pe_op op_mod (pv 0) (pv 1)))
      (pss_cons (ps_set (i := 0) scGreatestCommonDivisor.nd rfl (by first | exact Or.inl rfl | exact Or.inr rfl) (pv 1))
      (pss_one (ps_set (i := 1) scGreatestCommonDivisor.nd rfl (by first | exact Or.inl rfl | exact Or.inr rfl) (pv 2))))))
      (pss_one (ps_ret (pv 0)))), ?_⟩
    refine q_while (fun m σ' H' => ∃ (x y : Nat) (v : Option V), σ' = [some (.int (x : Int)), some (.int (y : Int)), v] ∧ m = y ∧ Nat.gcd x y = Nat.gcd a b ∧ Ex H H') b ⟨a, b, none, rfl, rfl, rfl, Ex.refl H⟩ ?_
    rintro m σ1 H1 ⟨x, y, v, rfl, rfl, hg, e1⟩
    refine ⟨!decide ((m : Int) = 0), et_test (ev_op (ev_var rfl) ev_c rv_neI), fun hb H2 e2 => ?_, fun hb H2 e2 => ?_⟩
    · have hm : 0 < m := by
        have : ¬ ((m : Int) = 0) := of_decide_eq_false (not_t hb)
        omega
      refine ⟨fun σ2 H3 => ∃ (v : Option V), σ2 = [some (.int (m : Int)), some (.int ((x % m : Nat) : Int)), v] ∧ Ex H H3, ?_, ?_⟩
      · rintro σ2 H3 ⟨v, rfl, e3⟩
        exact ⟨x % m, Nat.mod_lt _ hm, m, x % m, v, rfl, rfl, by rw [← hg, Nat.gcd_comm x m]; exact (Nat.gcd_rec m x).symm ▸ Nat.gcd_comm m (x % m), e3⟩
      · refine q_asg (v := .int ((x % m : Nat) : Int)) ?_ fun H3 e3 => ?_
        · rw [Int.natCast_emod]
          exact ev_op (ev_var rfl) (ev_var rfl) (rv_I (by omega))
        refine q_asg (ev_var rfl) fun H4 e4 => ?_
        refine s_asg (ev_var rfl) fun H5 e5 => ?_
        exact ⟨_, rfl, ((e1.trans e2).trans e3).trans (e4.trans e5)⟩
    · have hm : m = 0 := by
        have : (m : Int) = 0 := of_decide_eq_true (not_f hb)
        omega
      subst hm
      rw [Nat.gcd_zero_right] at hg
      rw [← hg] at q
      exact s_ret (ev_var rfl) fun H3 e3 => q H3 ((e1.trans e2).trans e3))
def dfLowestTerms (T : Txt K mg C fi) (dGreatestCommonDivisor : Df P w K mg base "greatest_common_divisor" 1 ["first", "second"] spGreatestCommonDivisor) (r : Rw K mg "lowest_terms" sLowestTerms) : Df P w K mg base "lowest_terms" 2 ["fraction"] spLowestTerms :=
  r.df (k := 1) scLowestTerms (fun _ _ _ _ _ _ us hl => match us, hl with | [_], _ => rfl)
  (fun vs H Q E h => by obtain ⟨_, ⟨_, _, rfl, _⟩, _⟩ := h; rfl) (fun cdv A outer s H vs Q E hr h => by
    obtain ⟨_, ⟨t, x, rfl, ⟨n, d, ht, hf⟩, rfl⟩, q⟩ := h
    refine ⟨_, (pss_cons (ps_set (i := 1) scLowestTerms.nd rfl (by first | exact Or.inl rfl | exact Or.inr rfl) (pe_call dGreatestCommonDivisor.ok (hr.mono (by decide)) rfl dGreatestCommonDivisor.g dGreatestCommonDivisor.kp dGreatestCommonDivisor.b .nil pass0 (pa_cons (pe_callB call_abs (by rfl) T.n_abs (by decide +kernel) (pa_cons (pe_ix (ix_tupK K (by rfl)) (pv 0) pe_int (fun _ _ => rfl)) pa_nil)) (pa_cons (pe_ix (ix_tupK K (by rfl)) (pv 0) pe_int (fun _ _ => rfl)) pa_nil))))
      (pss_one (ps_ret (pe_tup (pa_cons (pe_op op_fdivW (pe_ix (ix_tupK K (by rfl)) (pv 0) pe_int (fun _ _ => rfl)) (pv 1)) (pa_cons (pe_op op_fdivW (pe_ix (ix_tupK K (by rfl)) (pv 0) pe_int (fun _ _ => rfl)) (pv 1)) pa_nil)))))), ?_⟩
    have hp := hf.pos
    have hd : d = (d.toNat : Int) := (Int.toNat_of_nonneg (by omega)).symm
    have hg0 : 0 < Nat.gcd n.natAbs d.toNat := Nat.gcd_pos_of_pos_right _ (by omega)
    have hgl : Nat.gcd n.natAbs d.toNat ≤ d.toNat := Nat.gcd_le_right _ (by omega)
    have hdb := hf.db
    refine q_asg (v := .int ((Nat.gcd n.natAbs d.toNat : Nat) : Int)) (ev_call (ea_cons (ev_abs (ev_fst (ev_var rfl) ev_c ht)) (ea_cons (by rw [← hd]; exact ev_snd (ev_var rfl) ev_c ht) ea_nil)) (spV_use fun H1 e1 => ⟨n.natAbs, d.toNat, rfl, rfl⟩)) fun H1 e1 => ?_
    have ht1 := e1 _ _ ht
    obtain ⟨l1, l2⟩ := hf.lowest
    rw [l1, l2] at q
    have hb : ((Nat.gcd n.natAbs d.toNat : Nat) : Int).natAbs < 2 ^ 8000 := by
      rw [Int.natAbs_natCast]
      have : d.natAbs = d.toNat := by omega
      exact Nat.lt_of_le_of_lt (by omega) hdb
    exact s_retU (eu_tup (ea_cons (ev_divB (ev_fst (ev_var rfl) ev_c ht1) (ev_var rfl) (by omega) hb) (ea_cons (ev_divB (ev_snd (ev_var rfl) ev_c ht1) (ev_var rfl) (by omega) hb) ea_nil)) (by simp)) fun p H2 np e2 hp => q p H2 (fresh_back e1 np) (e1.trans e2) hp)
def dfGreater (T : Txt K mg C fi) (r : Rw K mg "greater" sGreater) : Df P w K mg base "greater" 1 ["first", "second"] spGreater :=
  r.df (k := 0) scGreater (fun _ _ _ _ _ _ us hl => match us, hl with | [_, _], _ => rfl)
  (fun vs H Q E h => by obtain ⟨_, ⟨_, _, _, _, rfl, _⟩, _⟩ := h; rfl) (fun cdv A outer s H vs Q E hr h => by
    obtain ⟨_, ⟨s1, t1, x, y, rfl, ⟨n, d, hs, hf⟩, ⟨n', d', ht, hf'⟩, rfl⟩, q⟩ := h
    refine ⟨_, (pss_one (ps_ret (pe_ifExp (pt_cmpR op_ge (pe_op op_mulW (pe_ix (ix_tupK K (by rfl)) (pv 0) pe_int (fun _ _ => rfl)) (pe_ix (ix_tupK K (by rfl)) (pv 1) pe_int (fun _ _ => rfl))) (pe_op op_mulW (pe_ix (ix_tupK K (by rfl)) (pv 1) pe_int (fun _ _ => rfl)) (pe_ix (ix_tupK K (by rfl)) (pv 0) pe_int (fun _ _ => rfl))) (nomark _)) (pv 0) (pv 1)))), ?_⟩
    refine s_ret (ev_if (b := decide (n' * d ≤ n * d')) (et_test (ev_op (ev_mulB (ev_fst (ev_var rfl) ev_c hs) (ev_snd (ev_var rfl) ev_c ht) hf.nb hf'.db) (ev_mulB (ev_fst (ev_var rfl) ev_c ht) (ev_snd (ev_var rfl) ev_c hs) hf'.nb hf.db) rv_I0)) (fun hb => ?_) (fun hb => ?_)) q
    · have : y ≤ x := (hf.le hf').mp (of_decide_eq_true hb)
      rw [if_pos this]; exact ev_var rfl
    · have : ¬ y ≤ x := fun h => (of_decide_eq_false hb) ((hf.le hf').mpr h)
      rw [if_neg this]; exact ev_var rfl)
def dfWritten (T : Txt K mg C fi) (dLowestTerms : Df P w K mg base "lowest_terms" 2 ["fraction"] spLowestTerms) (r : Rw K mg "written" sWritten) : Df P w K mg base "written" 3 ["fractions"] (spWritten K) :=
  r.df (k := 2) scWritten (fun _ _ _ _ _ _ us hl => match us, hl with | [_], _ => rfl)
  (fun vs H Q E h => by obtain ⟨_, ⟨_, _, _, rfl, _⟩, _⟩ := h; rfl) (fun cdv A outer s H vs Q E hr h => by
    obtain ⟨_, ⟨a, ts, l, rfl, hl, htl, hz, hts, rfl⟩, q⟩ := h
    refine ⟨_, (pss_cons (ps_set (i := 1) scWritten.nd rfl (by first | exact Or.inl rfl | exact Or.inr rfl) (pe_lst pa_nil))
      (pss_cons (ps_for PassesOwn.never rfl (pi_list (pv 0)) (pg_name (i := 2) scWritten.nd rfl (by first | exact Or.inl rfl | exact Or.inr rfl)) (pss_cons (ps_set (i := 3) scWritten.nd rfl (by first | exact Or.inl rfl | exact Or.inr rfl) (pe_call dLowestTerms.ok (hr.mono (by decide)) rfl dLowestTerms.g dLowestTerms.kp dLowestTerms.b .nil pass0 (pa_cons (pv 2) pa_nil)))
      (pss_cons (ps_expr (pe_bm PySem.F.plainAttrs_list PySem.F.slot_list_append PySem.F.type_list_append mt_append (pv 1) (pa_cons (pe_ix (ix_tupK K (by rfl)) (pv 3) pe_int (fun _ _ => rfl)) pa_nil)))
      (pss_one (ps_expr (pe_bm PySem.F.plainAttrs_list PySem.F.slot_list_append PySem.F.type_list_append mt_append (pv 1) (pa_cons (pe_ix (ix_tupK K (by rfl)) (pv 3) pe_int (fun _ _ => rfl)) pa_nil)))))))
      (pss_one (ps_ret (pv 1))))), ?_⟩
    refine q_asgL (el_lst ea_nil (by simp)) fun nd H1 nnd e1 hnd => ?_
    refine q_forLn (ev_var rfl) (ex_l e1 hl) (fun i σ' H' => (∃ v2 v3, σ' = [some (.ref a), some (.ref nd), v2, v3]) ∧ Ex H H' ∧ H' nd = some (.lst (iV ((l.take i).flatMap Kp389.fraction))))
      (fun H2 e2 => ⟨⟨none, none, rfl⟩, e1.trans e2, by rw [e2 _ _ hnd]; simp [iV]⟩) (fun i σ' H' _ p => ex_l p.2.1 hl) ?_ ?_
    · rintro i x σ1 H2 hi ⟨⟨v2, v3, rfl⟩, e2, h2⟩
      rw [List.getElem?_map] at hi
      cases hti : ts[i]? with
      | none => rw [hti] at hi; cases hi
      | some t =>
        rw [hti] at hi
        have hi := Option.some.inj hi
        subst hi
        have hlt : i < l.length := by
          have := (List.getElem?_eq_some_iff.mp hti).1
          omega
        have hli : l[i]? = some l[i] := List.getElem?_eq_getElem hlt
        have hfr := (hts i t l[i] hti hli).mono e2
        refine q_asgU (xs := [.int l[i].num, .int (l[i].den : Int)]) (eu_call (ea_cons (ev_var rfl) ea_nil) fun H3 e3 => ⟨t, l[i], rfl, hfr.mono e3, rfl⟩) fun lw H3 nlw e3 hlw => ?_
        have h3 := e3 _ _ h2
        have hlen : (iV ((l.take i).flatMap Kp389.fraction)).length ≤ 2 * i := by
          rw [iV_len, fr_len, List.length_take]; omega
        have nlw2 : lw ≠ nd := ne_new h2 nlw
        refine q_app h3 (ev_var rfl) (ev_fst (ev_var rfl) ev_c hlw) (by omega) fun H4 e4 => ?_
        have e24 : Ex H (upd H4 nd (.lst (iV ((l.take i).flatMap Kp389.fraction) ++ [.int l[i].num]))) := Ex.mut ((e2.trans e3).trans e4) nnd
        refine s_app upd_same (ev_var rfl) (ev_snd (ev_var rfl) ev_c (by rw [upd_ne nlw2]; exact e4 _ _ hlw)) (by rw [List.length_append]; simp; omega) fun H5 e5 => ?_
        refine ⟨⟨_, _, rfl⟩, Ex.mut (e24.trans e5) nnd, ?_⟩
        rw [upd_same]
        have : l.take (i + 1) = l.take i ++ [l[i]] := by rw [List.take_add_one, hli]; rfl
        rw [this, List.flatMap_append]
        simp [iV, Kp389.fraction]
    · rintro σ1 H2 ⟨⟨v2, v3, rfl⟩, e2, h2⟩
      refine s_ret (ev_var rfl) fun H3 e3 => q nd H3 nnd (e2.trans e3) ?_
      rw [e3 _ _ h2]
      have : (ts.map V.ref).length = l.length := by simp [htl]
      rw [this, List.take_length])
end
end SR

set_option maxHeartbeats 2000000
/-! New lists whose items are told by a relation of their address. -/
namespace SR
open PySem PySem.Spec PyProof.Rows L2 Evl

/-- R looks at one object alone, and stays as the heap grows -/
structure Flat (R : Addr → Hp → Prop) : Prop where
  up : ∀ q H H', Ex H H' → R q H → R q H'
  off : ∀ q H a o, q ≠ a → R q H → R q (upd H a o)
section
variable {K : PySem.W.Frag} {σ : L2.St} {H H' : Hp} {ta tb te tl : TE} {n : Nat} {R : Nat → Addr → Hp → Prop} {vs : List Nat} {j a b : Nat}
/-- evaluates to an object that R tells: a new one, or one that H has -/
def EvO (te : TE) (σ : L2.St) (H : Hp) (R : Addr → Hp → Prop) : Prop := ∀ H1, Ex H H1 → ∀ Q : VK, (∀ q H2, Ex H1 H2 → (H1 q = none ∨ H q ≠ none) → R q H2 → Q (.ref q) H2) → te σ H1 Q
/-- evaluates to a new list of such -/
def EvLR (te : TE) (σ : L2.St) (H : Hp) (n : Nat) (R : Nat → Addr → Hp → Prop) : Prop := ∀ H1, Ex H H1 → ∀ Q : VK, (∀ (p : Addr) (ws : List Addr) H2, H1 p = none → Ex H1 H2 → ws.length = n → H2 p = some (.lst (ws.map V.ref)) →
  (∀ (i : Nat) (q : Addr), ws[i]? = some q → R i q H2) → Q (.ref p) H2) → te σ H1 Q
theorem EvLR.mono (e : Ex H H') (h : EvLR te σ H n R) : EvLR te σ H' n R := fun H1 a Q q => h H1 (e.trans a) Q q
theorem eo_L {xs : List V} {R : Addr → Hp → Prop} (h : EvL te σ H xs) (i : ∀ p H', H' p = some (.lst xs) → R p H') : EvO te σ H R := fun H1 e Q q => h H1 e Q fun p H2 np e2 hp => q p H2 e2 (Or.inl np) (i p H2 hp)
theorem eo_U {xs : List V} {R : Addr → Hp → Prop} (h : EvU te σ H xs) (i : ∀ p H', H' p = some (.tup xs) → R p H') : EvO te σ H R := fun H1 e Q q => h H1 e Q fun p H2 np e2 hp => q p H2 e2 (Or.inl np) (i p H2 hp)
theorem eo_old {p : Addr} {R : Addr → Hp → Prop} (h : Ev te σ H (.ref p)) (hp : H p ≠ none) (hr : R p H) (f : Flat R) : EvO te σ H R := fun H1 e Q q => h H1 e Q fun H2 e2 => q p H2 e2 (Or.inr hp) (f.up p H H2 (e.trans e2) hr)
theorem eo_if {t : TT} {c : Bool} {R : Addr → Hp → Prop} (h : EvT t σ H c) (h1 : c = true → EvO ta σ H R) (h2 : c = false → EvO tb σ H R) : EvO (tIf t ta tb) σ H R := fun H1 e Q q => h H1 e _ fun H2 e2 => by
  cases c with
  | true =>
    show ta σ H2 Q
    exact h1 rfl H2 (e.trans e2) Q fun p H3 e3 hp hr => q p H3 (e2.trans e3) (hp.imp (fresh_back e2) id) hr
  | false =>
    show tb σ H2 Q
    exact h2 rfl H2 (e.trans e2) Q fun p H3 e3 hp hr => q p H3 (e2.trans e3) (hp.imp (fresh_back e2) id) hr
def RAd (Dl : Addr) (R : Addr → Hp → Prop) : V → Hp → Prop := fun v H => ∃ q, v = .ref q ∧ q ≠ Dl ∧ R q H
theorem RAd.up {Dl : Addr} {R : Addr → Hp → Prop} (f : Flat R) : Up (RAd Dl R) := fun v H H' e ⟨q, h1, h2, h3⟩ => ⟨q, h1, h2, f.up q H H' e h3⟩
theorem RAd.dl {Dl : Addr} {R : Addr → Hp → Prop} (f : Flat R) {v : V} {H : Hp} (h : RAd Dl R v H) (ys : List V) : RAd Dl R v (upd H Dl (.lst ys)) := by
  obtain ⟨q, h1, h2, h3⟩ := h
  exact ⟨q, h1, h2, f.off q H Dl _ h2 h3⟩
theorem EvO.it {R : Addr → Hp → Prop} {H0 H1 : Hp} {Dl : Addr} (h : EvO te σ H0 R) (e0 : Ex H0 H1) (hD : H1 Dl = none) : ItR te σ H1 Dl (RAd Dl R) := fun H' e hDn Q q =>
  h H' (e0.trans e) Q fun p H2 e2 hp h2 => q _ H2 e2 ⟨p, rfl, (by
    rcases hp with hp | hp
    · intro h; subst h; exact hDn hp
    · intro h; subst h
      cases hh : H0 p with
      | none => exact hp hh
      | some o => rw [e0 _ _ hh] at hD; cases hD), h2⟩
theorem lr_end {H0 H1 : Hp} {Dl : Addr} {Q : VK} (e0 : Ex H0 H1) (hD : H1 Dl = none)
    (q : ∀ (p : Addr) (ws : List Addr) H2, H0 p = none → Ex H0 H2 → ws.length = n → H2 p = some (.lst (ws.map V.ref)) → (∀ (i : Nat) (q : Addr), ws[i]? = some q → R i q H2) → Q (.ref p) H2) :
    ∀ H' ws, Ex H1 H' → H' Dl = some (.lst ws) → ws.length = n → (∀ i v, ws[i]? = some v → RAd Dl (R i) v H') → Q (.ref Dl) H' := fun H' ws e hw hl hr => by
  obtain ⟨ps, rfl, hn, h⟩ := refs_of (H := H') (R := fun i p => p ≠ Dl ∧ R i p H') hl hr
  exact q Dl ps H' (fresh_back e0 hD) (e0.trans e) hn hw fun i p hp => (h i p hp).2
theorem elr_L (f : ∀ i, Flat (R i)) {p : Addr} {xs : List V} (h : Ev tl σ H (.ref p)) (hx : SqL K H p xs) (hz : xs.length ≤ 40000) (hw : ∀ x, wipe ((wipe σ vs).set j (some x)) vs = wipe σ vs)
    (he : ∀ (i : Nat) x, xs[i]? = some x → EvO te ((wipe σ vs).set j (some x)) H (R i)) : EvLR (tLc (iList K tl) (gName j) tYes te vs) σ H xs.length R := fun H0 e Q q => h H0 e _ fun H1 e1 => ⟨p, rfl, ⟨xs, ex_l (e.trans e1) hx⟩, fun Dl hD =>
  lc_nameR walk_list (fun i => RAd Dl (R i)) (fun i => RAd.up (f i)) hD hz (fun H' e' => ex_l ((e.trans e1).trans e') hx) (fun i x => xs[i]? = some x) (fun i H x H' _ y => y) hw
    (fun i x hi hx => (he i x hx).it (e.trans e1) hD) (lr_end e1 hD q) (fun i v H xs r _ ys => r.dl (f i) ys)⟩
theorem elr_E (f : ∀ i, Flat (R i)) {ta : TA} {p : Addr} {xs : List V} (h : EvA ta σ H [.ref p]) (hx : SqL K H p xs) (hz : xs.length ≤ 40000) (hw : ∀ x y, wipe (((wipe σ vs).set a (some x)).set b (some y)) vs = wipe σ vs)
    (he : ∀ (i : Nat) x, xs[i]? = some x → EvO te (((wipe σ vs).set a (some (.int (i : Int)))).set b (some x)) H (R i)) : EvLR (tLc (iEnum K ta) (gPair K a b) tYes te vs) σ H xs.length R := fun H0 e Q q => h H0 e _ fun H1 e1 => ⟨p, xs, rfl, ex_l (e.trans e1) hx, fun Dl hD =>
  lc_pairR walk_enum (fun i => RAd Dl (R i)) (fun i => RAd.up (f i)) hD hz (fun H' e' => ex_l ((e.trans e1).trans e') hx) hw
    (fun i x y hi hx hy => by have : V.int (i : Nat) = x := Option.some.inj hx
                              subst this; exact (he i y hy).it (e.trans e1) hD) (lr_end e1 hD q) (fun i v H xs r _ ys => r.dl (f i) ys)⟩
theorem elr_Z (f : ∀ i, Flat (R i)) {ta : TA} {p1 p2 : Addr} {xs ys : List V} (h : EvA ta σ H [.ref p1, .ref p2]) (hx : SqL K H p1 xs) (hy : SqL K H p2 ys) (hn : n = min xs.length ys.length) (hz : n ≤ 40000) (hw : ∀ x y, wipe (((wipe σ vs).set a (some x)).set b (some y)) vs = wipe σ vs)
    (he : ∀ (i : Nat) x y, xs[i]? = some x → ys[i]? = some y → EvO te (((wipe σ vs).set a (some x)).set b (some y)) H (R i)) : EvLR (tLc (iZip K ta) (gPair K a b) tYes te vs) σ H n R := fun H0 e Q q => h H0 e _ fun H1 e1 => ⟨p1, p2, xs, ys, rfl, ex_l (e.trans e1) hx, ex_l (e.trans e1) hy, fun Dl hD =>
  lc_pairR (walk_zip hn) (fun i => RAd Dl (R i)) (fun i => RAd.up (f i)) hD hz (fun H' e' => ⟨ex_l ((e.trans e1).trans e') hx, ex_l ((e.trans e1).trans e') hy⟩) hw
    (fun i x y hi hx hy => (he i x y hx hy).it (e.trans e1) hD) (lr_end e1 hD q) (fun i v H xs r _ ys => r.dl (f i) ys)⟩
/-- arguments that are there -/
def tVals (vs : List V) : TA := fun _ H Q => Q vs H
theorem ea_vals {xs : List V} : EvA (tVals xs) σ H xs := fun H1 _ _ q => q H1 (Ex.refl H1)
theorem flat_L {xs : List V} : Flat (fun q H => H q = some (.lst xs)) := ⟨fun q H H' e h => e _ _ h, fun q H a o n h => by rw [upd_ne n]; exact h⟩
theorem flat_fr {b : Nat} {x : Rat} : Flat (fun q H => FrAt b H q x) := ⟨fun q H H' e h => h.mono e, fun q H a o n h => by
  obtain ⟨m, d, h1, h2⟩ := h
  exact ⟨m, d, by rw [upd_ne n]; exact h1, h2⟩⟩
/-- a promise: a new list of objects that R tells -/
def spO (S : List V → Hp → Nat → (Nat → Addr → Hp → Prop) → Prop) : Sp := fun vs H Q _ => ∃ n R, S vs H n R ∧ ∀ (p : Addr) (ws : List Addr) H', H p = none → Ex H H' → ws.length = n → H' p = some (.lst (ws.map V.ref)) → (∀ (i : Nat) (q : Addr), ws[i]? = some q → R i q H') → Q (.ref p) H'
theorem elr_call {S : List V → Hp → Nat → (Nat → Addr → Hp → Prop) → Prop} {vs dvs : List V} {E : XK} {ta : TA} (h : EvA ta σ H vs) (hs : ∀ H1, Ex H H1 → S (vs ++ dvs) H1 n R) : EvLR (tCall (spO S) dvs E ta) σ H n R := fun H1 e Q q =>
  h H1 e _ fun H2 e2 => ⟨n, R, hs H2 (e.trans e2), fun p ws H3 np e3 hl hp hr => q p ws H3 (fresh_back e2 np) (e2.trans e3) hl hp hr⟩
variable {D : Ends} {tz : TS}
theorem s_asgO {i : Nat} (h : EvLR te σ H n R) (k : ∀ (p : Addr) (ws : List Addr) H1, H p = none → Ex H H1 → ws.length = n → H1 p = some (.lst (ws.map V.ref)) → (∀ (i : Nat) (q : Addr), ws[i]? = some q → R i q H1) → D.nx (σ.set i (some (.ref p))) H1) : tAsg te (gName i) D σ H := h H (Ex.refl H) _ k
theorem q_asgO {i : Nat} (h : EvLR te σ H n R) (k : ∀ (p : Addr) (ws : List Addr) H1, H p = none → Ex H H1 → ws.length = n → H1 p = some (.lst (ws.map V.ref)) → (∀ (i : Nat) (q : Addr), ws[i]? = some q → R i q H1) → tz D (σ.set i (some (.ref p))) H1) : tSeq (tAsg te (gName i)) tz D σ H := s_asgO (D := { D with nx := tz D }) h k
theorem s_retO (h : EvLR te σ H n R) (k : ∀ (p : Addr) (ws : List Addr) H1, H p = none → Ex H H1 → ws.length = n → H1 p = some (.lst (ws.map V.ref)) → (∀ (i : Nat) (q : Addr), ws[i]? = some q → R i q H1) → D.rt (.ref p) H1) : tRet te D σ H := h H (Ex.refl H) _ k
end
end SR

set_option maxHeartbeats 2000000
/-! New objects told by a relation; arguments told by a relation; a for over zip; new rows told apart. -/
namespace SR
open PySem PySem.Spec PyProof.Rows L2 Evl

/-- evaluates to a new object that R tells -/
def EvN (te : TE) (σ : L2.St) (H : Hp) (R : Addr → Hp → Prop) : Prop := ∀ H1, Ex H H1 → ∀ Q : VK, (∀ q H2, H1 q = none → Ex H1 H2 → R q H2 → Q (.ref q) H2) → te σ H1 Q
/-- hands back a new object that R tells -/
def spN (S : List V → Hp → (Addr → Hp → Prop) → Prop) : Sp := fun vs H Q _ => ∃ R, S vs H R ∧ ∀ q H', H q = none → Ex H H' → R q H' → Q (.ref q) H'
/-- arguments that P tells -/
def EvAP (ta : TA) (σ : L2.St) (H : Hp) (P : List V → Hp → Prop) : Prop := ∀ H1, Ex H H1 → ∀ Q : List V → Hp → Prop, (∀ vs H2, Ex H1 H2 → P vs H2 → Q vs H2) → ta σ H1 Q
section
variable {K : PySem.W.Frag} {σ : L2.St} {H H' : Hp} {ta tr : TA} {tb te tl : TE} {n : Nat} {R : Nat → Addr → Hp → Prop} {R1 : Addr → Hp → Prop} {vs : List Nat} {j a b : Nat} {v : V} {P : List V → Hp → Prop} {D : Ends} {tz tu : TS}
theorem EvN.mono (e : Ex H H') (h : EvN te σ H R1) : EvN te σ H' R1 := fun H1 a Q q => h H1 (e.trans a) Q q
theorem EvN.imp {R2 : Addr → Hp → Prop} (h : EvN te σ H R1) (i : ∀ q H', R1 q H' → R2 q H') : EvN te σ H R2 := fun H1 e Q q => h H1 e Q fun x H2 nx e2 r => q x H2 nx e2 (i x H2 r)
theorem en_U {xs : List V} (h : EvU te σ H xs) (i : ∀ p H', H' p = some (.tup xs) → R1 p H') : EvN te σ H R1 := fun H1 e Q q => h H1 e Q fun p H2 np e2 hp => q p H2 np e2 (i p H2 hp)
theorem eo_N (h : EvN te σ H R1) : EvO te σ H R1 := fun H1 e Q q => h H1 e Q fun p H2 np e2 hp => q p H2 e2 (Or.inl np) hp
theorem EvAP.mono (e : Ex H H') (h : EvAP ta σ H P) : EvAP ta σ H' P := fun H1 a Q q => h H1 (e.trans a) Q q
theorem ap_of {us : List V} (h : EvA ta σ H us) : EvAP ta σ H (fun vs _ => vs = us) := fun H1 e Q q => h H1 e _ fun H2 e2 => q us H2 e2 rfl
theorem ap_v (h : Ev te σ H v) (hr : EvAP tr σ H P) : EvAP (tCons te tr) σ H (fun vs H' => ∃ r, vs = v :: r ∧ P r H') := fun H1 e Q q =>
  h H1 e _ fun H2 e2 => hr H2 (e.trans e2) _ fun r H3 e3 p => q _ H3 (e2.trans e3) ⟨r, rfl, p⟩
theorem ap_n (h : EvN te σ H R1) (up : ∀ q H H', Ex H H' → R1 q H → R1 q H') (hr : EvAP tr σ H P) : EvAP (tCons te tr) σ H (fun vs H' => ∃ q r, vs = .ref q :: r ∧ R1 q H' ∧ P r H') := fun H1 e Q k =>
  h H1 e _ fun x H2 _ e2 hx => hr H2 (e.trans e2) _ fun r H3 e3 p => k _ H3 (e2.trans e3) ⟨x, r, rfl, up x H2 H3 e3 hx, p⟩
theorem ap_lst {xs : List V} (h : EvL te σ H xs) (hr : EvAP tr σ H P) : EvAP (tCons te tr) σ H (fun vs H' => ∃ q r, vs = .ref q :: r ∧ H' q = some (.lst xs) ∧ P r H') := fun H1 e Q k =>
  h H1 e _ fun x H2 _ e2 hx => hr H2 (e.trans e2) _ fun r H3 e3 p => k _ H3 (e2.trans e3) ⟨x, r, rfl, e3 _ _ hx, p⟩
theorem ap_tup {xs : List V} (h : EvU te σ H xs) (hr : EvAP tr σ H P) : EvAP (tCons te tr) σ H (fun vs H' => ∃ q r, vs = .ref q :: r ∧ H' q = some (.tup xs) ∧ P r H') := fun H1 e Q k =>
  h H1 e _ fun x H2 _ e2 hx => hr H2 (e.trans e2) _ fun r H3 e3 p => k _ H3 (e2.trans e3) ⟨x, r, rfl, e3 _ _ hx, p⟩
theorem ap_lr (h : EvLR te σ H n R) (up : ∀ i, Flat (R i)) (hr : EvAP tr σ H P) : EvAP (tCons te tr) σ H (fun vs H' => ∃ (q : Addr) (ws : List Addr) (r : List V), vs = .ref q :: r ∧ ws.length = n ∧ H' q = some (.lst (ws.map V.ref)) ∧ (∀ (i : Nat) (x : Addr), ws[i]? = some x → R i x H') ∧ P r H') := fun H1 e Q k =>
  h H1 e _ fun x ws H2 _ e2 hl hx hr2 => hr H2 (e.trans e2) _ fun r H3 e3 p => k _ H3 (e2.trans e3) ⟨x, ws, r, rfl, hl, e3 _ _ hx, fun i y hy => (up i).up y H2 H3 e3 (hr2 i y hy), p⟩
theorem ev_callP {S : List V → Hp → V → Prop} {dvs : List V} {E : XK} (h : EvAP ta σ H P) (hs : ∀ vs H1, Ex H H1 → P vs H1 → S (vs ++ dvs) H1 v) : Ev (tCall (spV S) dvs E ta) σ H v := fun H1 e Q q =>
  h H1 e _ fun vs H2 e2 p => ⟨v, hs vs H2 (e.trans e2) p, fun H3 e3 => q H3 (e2.trans e3)⟩
theorem el_callP {S : List V → Hp → List V → Prop} {dvs xs : List V} {E : XK} (h : EvAP ta σ H P) (hs : ∀ vs H1, Ex H H1 → P vs H1 → S (vs ++ dvs) H1 xs) : EvL (tCall (spL S) dvs E ta) σ H xs := fun H1 e Q q =>
  h H1 e _ fun vs H2 e2 p => ⟨xs, hs vs H2 (e.trans e2) p, fun x H3 np e3 hp => q x H3 (fresh_back e2 np) (e2.trans e3) hp⟩
theorem elr_callP {S : List V → Hp → Nat → (Nat → Addr → Hp → Prop) → Prop} {dvs : List V} {E : XK} (h : EvAP ta σ H P) (hs : ∀ vs H1, Ex H H1 → P vs H1 → S (vs ++ dvs) H1 n R) : EvLR (tCall (spO S) dvs E ta) σ H n R := fun H1 e Q q =>
  h H1 e _ fun vs H2 e2 p => ⟨n, R, hs vs H2 (e.trans e2) p, fun x ws H3 np e3 hl hp hr => q x ws H3 (fresh_back e2 np) (e2.trans e3) hl hp hr⟩
theorem en_callP {S : List V → Hp → (Addr → Hp → Prop) → Prop} {dvs : List V} {E : XK} (h : EvAP ta σ H P) (hs : ∀ vs H1, Ex H H1 → P vs H1 → S (vs ++ dvs) H1 R1) : EvN (tCall (spN S) dvs E ta) σ H R1 := fun H1 e Q q =>
  h H1 e _ fun vs H2 e2 p => ⟨R1, hs vs H2 (e.trans e2) p, fun x H3 np e3 hp => q x H3 (fresh_back e2 np) (e2.trans e3) hp⟩
theorem en_call {S : List V → Hp → (Addr → Hp → Prop) → Prop} {us dvs : List V} {E : XK} (h : EvA ta σ H us) (hs : ∀ H1, Ex H H1 → S (us ++ dvs) H1 R1) : EvN (tCall (spN S) dvs E ta) σ H R1 :=
  en_callP (ap_of h) fun vs H1 e p => by rw [p]; exact hs H1 e
theorem s_retN (h : EvN te σ H R1) (k : ∀ q H1, H q = none → Ex H H1 → R1 q H1 → D.rt (.ref q) H1) : tRet te D σ H := h H (Ex.refl H) _ k
theorem s_asgN {i : Nat} (h : EvN te σ H R1) (k : ∀ q H1, H q = none → Ex H H1 → R1 q H1 → D.nx (σ.set i (some (.ref q))) H1) : tAsg te (gName i) D σ H := h H (Ex.refl H) _ k
theorem q_asgN {i : Nat} (h : EvN te σ H R1) (k : ∀ q H1, H q = none → Ex H H1 → R1 q H1 → tz D (σ.set i (some (.ref q))) H1) : tSeq (tAsg te (gName i)) tz D σ H := s_asgN (D := { D with nx := tz D }) h k
/-- [e], the object new -/
theorem elr_oneN (h : EvN te σ H R1) (f : Flat R1) : EvLR (tLst (tCons te tNil)) σ H 1 (fun _ => R1) := fun H1 e Q q => h H1 e _ fun r H2 nr e2 hr => ⟨sz_of (by simp), fun p np =>
  q p [r] _ (fresh_back e2 np) (e2.trans (Ex.new np)) rfl upd_same fun i x hx => by
    have hi : i = 0 := by
      have := (List.getElem?_eq_some_iff.mp hx).1
      simp at this; omega
    subst hi
    have hx : r = x := Option.some.inj hx
    subst hx
    exact f.up r H2 _ (Ex.new np) hr⟩
/-- for a, b in zip(xs, ys) -/
theorem q_forZ {p1 p2 : Addr} {xs ys : List V} (h : EvA ta σ H [.ref p1, .ref p2]) (hx : SqL K H p1 xs) (hy : SqL K H p2 ys) (hn : n = min xs.length ys.length)
    (Pv : Nat → L2.St → Hp → Prop) (h0 : ∀ H1, Ex H H1 → Pv 0 σ H1) (hE : ∀ i σ' H', Pv i σ' H' → Ex H H')
    (hs : ∀ i x y σ' H' H2, i < n → xs[i]? = some x → ys[i]? = some y → Pv i σ' H' → Ex H' H2 → tu { D with nx := Pv (i + 1), ct := Pv (i + 1), bk := tz D } ((σ'.set a (some x)).set b (some y)) H2)
    (hd : ∀ σ' H', Pv n σ' H' → tz D σ' H') : tSeq (tFor (iZip K ta) (gPair K a b) tu) tz D σ H := h H (Ex.refl H) _ fun H1 e1 =>
  ⟨p1, p2, xs, ys, rfl, ex_l e1 hx, ex_l e1 hy, for_it (D := { D with nx := tz D }) (walk_zip hn) Pv (h0 H1 e1) (fun i σ' H' _ p => ⟨ex_l (hE i σ' H' p) hx, ex_l (hE i σ' H' p) hy⟩)
    (fun i x σ' H' H2 hi p y => by
      obtain ⟨t, x1, y1, rfl, nT, rfl, h1, h2⟩ := y
      exact ⟨t, [x1, y1], rfl, st_of upd_same, rfl, x1, [y1], rfl, y1, [], rfl, rfl, hs i x1 y1 σ' H' _ hi h1 h2 p (Ex.new nT)⟩) hd⟩
end
end SR

set_option maxHeartbeats 2000000
/-! fraction.py: sums, differences, sameness -/
namespace SR
open PySem PySem.Spec PyProof.Rows L2 Evl
def spAdded : Sp := spN fun vs H R => ∃ (s t : Addr) (b1 b2 : Nat) (x y : Rat), vs = [.ref s, .ref t] ∧ FrAt b1 H s x ∧ FrAt b2 H t y ∧ b1 ≤ 100000 ∧ b2 ≤ 100000 ∧ R = fun q H => FrAt (b1 + b2 + 1) H q (x + y)
def spLess : Sp := spN fun vs H R => ∃ (s t : Addr) (b1 b2 : Nat) (x y : Rat), vs = [.ref s, .ref t] ∧ FrAt b1 H s x ∧ FrAt b2 H t y ∧ b1 ≤ 100000 ∧ b2 ≤ 100000 ∧ R = fun q H => FrAt (b1 + b2 + 1) H q (x - y)
def spSame : Sp := spV fun vs H v => ∃ (s t : Addr) (b1 b2 : Nat) (x y : Rat), vs = [.ref s, .ref t] ∧ FrAt b1 H s x ∧ FrAt b2 H t y ∧ b1 ≤ 100000 ∧ b2 ≤ 100000 ∧ v = .bl (decide (x = y))
section
variable {P : Program} {w : World} {K : PySem.W.Frag} {mg : Str → Option Value} {base : Heap} {C fi aN aW : Addr} {σ : L2.St} {H H' : Hp} {ta tb te : TE}
def dfAdded (T : Txt K mg C fi) (r : Rw K mg "added" sAdded) : Df P w K mg base "added" 1 ["first", "second"] spAdded :=
  r.df (k := 0) scAdded (fun _ _ _ _ _ _ us hl => match us, hl with | [_, _], _ => rfl)
  (fun vs H Q E h => by obtain ⟨_, ⟨_, _, _, _, _, _, rfl, _⟩, _⟩ := h; rfl) (fun cdv A outer s H vs Q E hr h => by
    obtain ⟨_, ⟨s1, t1, b1, b2, x, y, rfl, ⟨n, d, hs, hf⟩, ⟨n', d', ht, hf'⟩, h1, h2, rfl⟩, q⟩ := h
    refine ⟨_, (pss_one (ps_ret (pe_tup (pa_cons (pe_op op_add (pe_op op_mulW (pe_ix (ix_tupK K (by rfl)) (pv 0) pe_int (fun _ _ => rfl)) (pe_ix (ix_tupK K (by rfl)) (pv 1) pe_int (fun _ _ => rfl))) (pe_op op_mulW (pe_ix (ix_tupK K (by rfl)) (pv 1) pe_int (fun _ _ => rfl)) (pe_ix (ix_tupK K (by rfl)) (pv 0) pe_int (fun _ _ => rfl)))) (pa_cons (pe_op op_mulW (pe_ix (ix_tupK K (by rfl)) (pv 0) pe_int (fun _ _ => rfl)) (pe_ix (ix_tupK K (by rfl)) (pv 1) pe_int (fun _ _ => rfl))) pa_nil))))), ?_⟩
    refine s_retU (eu_tup (ea_cons (ev_add (ev_mulB (ev_fst (ev_var rfl) ev_c hs) (ev_snd (ev_var rfl) ev_c ht) hf.nb hf'.db) (ev_mulB (ev_fst (ev_var rfl) ev_c ht) (ev_snd (ev_var rfl) ev_c hs) hf'.nb hf.db)) (ea_cons (ev_mulB (ev_snd (ev_var rfl) ev_c hs) (ev_snd (ev_var rfl) ev_c ht) hf.db hf'.db) ea_nil)) (by simp)) fun p H2 np e2 hp => q p H2 np e2 ⟨_, _, hp, hf.add hf'⟩)
def dfLess (T : Txt K mg C fi) (dAdded : Df P w K mg base "added" 1 ["first", "second"] spAdded) (r : Rw K mg "less" sLess) : Df P w K mg base "less" 2 ["first", "second"] spLess :=
  r.df (k := 1) scLess (fun _ _ _ _ _ _ us hl => match us, hl with | [_, _], _ => rfl)
  (fun vs H Q E h => by obtain ⟨_, ⟨_, _, _, _, _, _, rfl, _⟩, _⟩ := h; rfl) (fun cdv A outer s H vs Q E hr h => by
    obtain ⟨_, ⟨s1, t1, b1, b2, x, y, rfl, hs, ⟨n', d', ht, hf'⟩, h1, h2, rfl⟩, q⟩ := h
    refine ⟨_, (pss_one (ps_ret (pe_call dAdded.ok (hr.mono (by decide)) rfl dAdded.g dAdded.kp dAdded.b .nil pass0 (pa_cons (pv 0) (pa_cons (pe_tup (pa_cons (pe_un un_neg (pe_ix (ix_tupK K (by rfl)) (pv 1) pe_int (fun _ _ => rfl))) (pa_cons (pe_ix (ix_tupK K (by rfl)) (pv 1) pe_int (fun _ _ => rfl)) pa_nil))) pa_nil))))), ?_⟩
    refine s_retN (en_callP (ap_v (ev_var rfl) (ap_tup (eu_tup (ea_cons (ev_un (ev_fst (ev_var rfl) ev_c ht) ru_neg) (ea_cons (ev_snd (ev_var rfl) ev_c ht) ea_nil)) (by simp)) (ap_of ea_nil))) ?_) q
    rintro _ H1 e1 ⟨_, rfl, u, _, rfl, hu, rfl⟩
    refine ⟨s1, u, b1, b2, x, -y, rfl, hs.mono e1, ⟨-n', d', hu, hf'.neg⟩, h1, h2, ?_⟩
    rw [Rat.sub_eq_add_neg])
def dfSame (T : Txt K mg C fi) (r : Rw K mg "same" sSame) : Df P w K mg base "same" 1 ["first", "second"] spSame :=
  r.df (k := 0) scSame (fun _ _ _ _ _ _ us hl => match us, hl with | [_, _], _ => rfl)
  (fun vs H Q E h => by obtain ⟨_, ⟨_, _, _, _, _, _, rfl, _⟩, _⟩ := h; rfl) (fun cdv A outer s H vs Q E hr h => by
    obtain ⟨_, ⟨s1, t1, b1, b2, x, y, rfl, ⟨n, d, hs, hf⟩, ⟨n', d', ht, hf'⟩, h1, h2, rfl⟩, q⟩ := h
    refine ⟨_, (pss_one (ps_ret (pe_cmpR op_eq (pe_op op_mulW (pe_ix (ix_tupK K (by rfl)) (pv 0) pe_int (fun _ _ => rfl)) (pe_ix (ix_tupK K (by rfl)) (pv 1) pe_int (fun _ _ => rfl))) (pe_op op_mulW (pe_ix (ix_tupK K (by rfl)) (pv 1) pe_int (fun _ _ => rfl)) (pe_ix (ix_tupK K (by rfl)) (pv 0) pe_int (fun _ _ => rfl))) (nomark _)))), ?_⟩
    have e : decide (x = y) = decide (n * d' = n' * d) := by
      rw [Bool.eq_iff_iff, decide_eq_true_eq, decide_eq_true_eq]; exact (hf.same hf').symm
    rw [e] at q
    exact s_ret (ev_op (ev_mulB (ev_fst (ev_var rfl) ev_c hs) (ev_snd (ev_var rfl) ev_c ht) hf.nb hf'.db) (ev_mulB (ev_fst (ev_var rfl) ev_c ht) (ev_snd (ev_var rfl) ev_c hs) hf'.nb hf.db) rv_eqI) q)
end
end SR

set_option maxHeartbeats 4000000
/-! worth.py: an equation, the solution of several -/
namespace SR
open PySem PySem.Spec PyProof.Rows L2 Evl
abbrev sWeightedRewards : Stmt := topS 57
theorem scWeightedRewards : FnScope ["model", "table", "state", "action", "weights", "first", "rewards", "weight", "reward"] ["model", "table", "state", "action"] (defScope sWeightedRewards) := ⟨rfl, rfl, rfl, by decide +kernel, rfl, by decide +kernel, by decide +kernel⟩
abbrev sAverageReward : Stmt := topS 58
theorem scAverageReward : FnScope ["model", "table", "state", "action", "weights"] ["model", "table", "state", "action"] (defScope sAverageReward) := ⟨rfl, rfl, rfl, by decide +kernel, rfl, by decide +kernel, by decide +kernel⟩
abbrev sEquation : Stmt := topS 59
theorem scEquation : FnScope ["model", "table", "state", "action", "weights", "row", "weight"] ["model", "table", "state", "action"] (defScope sEquation) := ⟨rfl, rfl, rfl, by decide +kernel, rfl, by decide +kernel, by decide +kernel⟩
abbrev sCleared : Stmt := topS 61
theorem scCleared : FnScope ["row", "leading", "column", "divisor", "pivot", "factor", "own", "other"] ["row", "leading", "column", "divisor"] (defScope sCleared) := ⟨rfl, rfl, rfl, by decide +kernel, rfl, by decide +kernel, by decide +kernel⟩
abbrev sSolution : Stmt := topS 60
theorem scSolution : FnScope ["rows", "current", "divisor", "column", "leading", "place", "row"] ["rows"] (defScope sSolution) := ⟨rfl, rfl, rfl, by decide +kernel, rfl, by decide +kernel, by decide +kernel⟩

/-! ### the equation's numbers -/
def wtD (p : Kp389.Process) (s a q : Nat) : Int := (((Kp389.weights p s a).getD q 0 : Nat) : Int)
def wtT (p : Kp389.Process) (s a : Nat) : Int := (((Kp389.weights p s a).sum : Nat) : Int)
/-- the sum of weight times reward -/
def wrS (p : Kp389.Process) (t s a : Nat) : Int := ((List.range p.stateCount).map fun q => wtD p s a q * Kp389.reward p t s a q).sum
def eqI (p : Kp389.Process) (t s a j : Nat) : Int :=
  if j < p.stateCount then (if j = s then -(p.discountNum : Int) * wtD p s a j + (p.discountDen : Int) * wtT p s a else -(p.discountNum : Int) * wtD p s a j) else (p.discountDen : Int) * wrS p t s a
def eqRow (p : Kp389.Process) (t s a : Nat) : List Int := (List.range (p.stateCount + 1)).map (eqI p t s a)
theorem wtD_le {p : Kp389.Process} (h : WF p) {s a : Nat} (hs : s < p.stateCount) (ha : a < p.actionCount) (q : Nat) : 0 ≤ wtD p s a q ∧ wtD p s a q ≤ 9 := by
  have hw := weights_ok h hs ha
  unfold wtD
  by_cases hq : q < (Kp389.weights p s a).length
  · have := hw.le9 _ (List.getElem_mem hq)
    simp only [List.getD, List.getElem?_eq_getElem hq, Option.getD_some]; omega
  · simp only [List.getD, List.getElem?_eq_none (Nat.le_of_not_lt hq), Option.getD_none]; omega
theorem sum_le {l : List Nat} {b : Nat} (h : ∀ x ∈ l, x ≤ b) : l.sum ≤ l.length * b := by
  induction l with
  | nil => simp
  | cons x r ih =>
    have h1 := h x List.mem_cons_self
    have h2 := ih (fun y hy => h y (List.mem_cons_of_mem _ hy))
    rw [List.sum_cons, List.length_cons, Nat.succ_mul]; omega
theorem wtT_le {p : Kp389.Process} (h : WF p) {s a : Nat} (hs : s < p.stateCount) (ha : a < p.actionCount) : 1 ≤ wtT p s a ∧ wtT p s a ≤ 36 := by
  have hw := weights_ok h hs ha
  have h1 := sum_le hw.le9
  rw [hw.len] at h1
  have h2 : p.stateCount * 9 ≤ 4 * 9 := Nat.mul_le_mul_right 9 h.n4
  have h3 := hw.pos
  unfold wtT; omega
theorem isum_le {l : List Int} {b : Int} (h : ∀ x ∈ l, -b ≤ x ∧ x ≤ b) : -((l.length : Int) * b) ≤ l.sum ∧ l.sum ≤ (l.length : Int) * b := by
  induction l with
  | nil => simp
  | cons x r ih =>
    have h1 := h x List.mem_cons_self
    have h2 := ih (fun y hy => h y (List.mem_cons_of_mem _ hy))
    have h3 : ((x :: r).length : Int) * b = (r.length : Int) * b + b := by
      rw [List.length_cons, Int.natCast_add, Int.add_mul]; simp
    rw [List.sum_cons, h3]; omega
theorem mul_le9 {w r : Int} (hw : 0 ≤ w ∧ w ≤ 9) (hr : -100000 ≤ r ∧ r ≤ 100000) : -900000 ≤ w * r ∧ w * r ≤ 900000 := by
  have : w = 0 ∨ w = 1 ∨ w = 2 ∨ w = 3 ∨ w = 4 ∨ w = 5 ∨ w = 6 ∨ w = 7 ∨ w = 8 ∨ w = 9 := by omega
  rcases this with e | e | e | e | e | e | e | e | e | e <;> subst e <;> omega
theorem wrS_le {p : Kp389.Process} (h : WF p) (t : Nat) {s a : Nat} (hs : s < p.stateCount) (ha : a < p.actionCount) : -3600000 ≤ wrS p t s a ∧ wrS p t s a ≤ 3600000 := by
  have := isum_le (l := (List.range p.stateCount).map fun q => wtD p s a q * Kp389.reward p t s a q) (b := 900000) (by
    intro x hx
    obtain ⟨q, _, rfl⟩ := List.mem_map.mp hx
    exact mul_le9 (wtD_le h hs ha q) (reward_le h t s a q))
  have hn := h.n4
  simp only [List.length_map, List.length_range] at this
  unfold wrS; omega
theorem num_mul {g w : Int} (hg : 0 ≤ g ∧ g ≤ 10) (hw : -3600000 ≤ w ∧ w ≤ 3600000) : -36000000 ≤ g * w ∧ g * w ≤ 36000000 := by
  have : g = 0 ∨ g = 1 ∨ g = 2 ∨ g = 3 ∨ g = 4 ∨ g = 5 ∨ g = 6 ∨ g = 7 ∨ g = 8 ∨ g = 9 ∨ g = 10 := by omega
  rcases this with e | e | e | e | e | e | e | e | e | e | e <;> subst e <;> omega
theorem eqI_le {p : Kp389.Process} (h : WF p) (t : Nat) {s a : Nat} (hs : s < p.stateCount) (ha : a < p.actionCount) (j : Nat) : (eqI p t s a j).natAbs < 2 ^ 27 := by
  have h1 := wtD_le h hs ha j
  have h2 := wtT_le h hs ha
  have h3 := wrS_le h t hs ha
  have hg : 0 ≤ (p.discountNum : Int) ∧ (p.discountNum : Int) ≤ 10 := by have := h.gh; have := h.h10; omega
  have hd : 0 ≤ (p.discountDen : Int) ∧ (p.discountDen : Int) ≤ 10 := by have := h.h10; omega
  have m1 := num_mul hg (w := wtD p s a j) (by omega)
  have m2 := num_mul hd (w := wtT p s a) (by omega)
  have m3 := num_mul hd h3
  have m4 : -(p.discountNum : Int) * wtD p s a j = -((p.discountNum : Int) * wtD p s a j) := by rw [Int.neg_mul]
  unfold eqI
  rw [m4]
  by_cases c1 : j < p.stateCount
  · by_cases c2 : j = s
    · simp only [c1, c2, if_true]; rw [c2] at m1; omega
    · simp only [c1, c2, if_true, if_false]; omega
  · simp only [c1, if_false]; omega

def spEquation (C : Addr) : Sp := spL fun vs H xs => ∃ (L : Lay) (p : Kp389.Process) (t s a : Nat), vs = [.ref L.a, .int (t : Int), .int (s : Int), .int (a : Int)] ∧ Mdl C H L p ∧ t ≤ 1 ∧ s < p.stateCount ∧ a < p.actionCount ∧ xs = iV (eqRow p t s a)
/-- one row cleared -/
def clrL (x y : List Int) (k : Nat) (d : Int) : List Int := (List.range x.length).map fun j => (y.getD k 0 * x.getD j 0 - x.getD k 0 * y.getD j 0) / d
def spCleared (K : PySem.W.Frag) : Sp := spL fun vs H xs => ∃ (a b : Addr) (x y : List Int) (k : Nat) (d : Int), vs = [.ref a, .ref b, .int (k : Int), .int d] ∧ SqL K H a (iV x) ∧ SqL K H b (iV y) ∧ x.length = y.length ∧ k < x.length ∧ x.length ≤ 100 ∧
  (∀ j, (x.getD j 0).natAbs < 2 ^ 400) ∧ (∀ j, (y.getD j 0).natAbs < 2 ^ 400) ∧ 0 < d ∧ d.natAbs < 2 ^ 400 ∧ xs = iV (clrL x y k d)

section
variable {P : Program} {w : World} {K : PySem.W.Frag} {mg : Str → Option Value} {base : Heap} {C fi aN aW : Addr} {σ : L2.St} {H H' : Hp} {ta tb te : TE} {L : Lay} {p : Kp389.Process}
/-- model.weights[place] -/
theorem ev_wts (T : Txt K mg C fi) (M : Mdl C H L p) (h : Ev ta σ H (.ref L.a)) {s a : Nat} (hs : s < p.stateCount) (ha : a < p.actionCount) {x : Addr} (hx : L.ws[s * p.actionCount + a]? = some x) (hb : Ev tb σ H (.int ((s * p.actionCount + a : Nat) : Int))) :
    Ev (tOp (rIxL K) (tFld K ta "weights") tb) σ H (.ref x) := ev_op (ev_f7 T M h) hb (rv_ixL (sq_of M.ww) (atI_nat (by simp [hx])))
theorem wts_at (M : Mdl C H L p) {s a : Nat} (hs : s < p.stateCount) (ha : a < p.actionCount) : ∃ x, L.ws[s * p.actionCount + a]? = some x ∧ H x = some (.lst (nV (Kp389.weights p s a))) := by
  refine M.wsAt ?_
  have : s * p.actionCount + a < p.transitions.length := by rw [M.wf.tl]; exact place_lt hs ha
  unfold Kp389.weights
  simp [List.getD, List.getElem?_eq_getElem this]
theorem nat_ix {l : List Nat} {i : Nat} {x : V} (h : (nV l)[i]? = some x) : x = .int ((l.getD i 0 : Nat) : Int) := by
  unfold nV at h
  rw [List.getElem?_map] at h
  cases hl : l[i]? with
  | none => rw [hl] at h; cases h
  | some y => rw [hl] at h; rw [← Option.some.inj h]; simp [List.getD, hl]
theorem int_ix {l : List Int} {i : Nat} {x : V} (h : (iV l)[i]? = some x) : x = .int (l.getD i 0) := by
  unfold iV at h
  rw [List.getElem?_map] at h
  cases hl : l[i]? with
  | none => rw [hl] at h; cases h
  | some y => rw [hl] at h; rw [← Option.some.inj h]; simp [List.getD, hl]
/-- sum of a new list -/
theorem ev_sumL {l : List Int} (h : EvL te σ H (iV l)) : Ev (tCB (rSum K) (tCons te tNil)) σ H (.int l.sum) := fun H1 e Q q => h H1 e _ fun p H2 np e2 hp => ⟨p, l, rfl, sq_of hp, q H2 e2⟩

/-- [e for x, y in zip(naturals, ints)] -/
theorem el_zipI {n : Nat} {xs : List Nat} {ys : List Int} {p1 p2 : Addr} {vs : List Nat} {a b : Nat} (v : Nat → Int) {ta : TA} (h : EvA ta σ H [.ref p1, .ref p2]) (hx : SqL K H p1 (nV xs)) (hy : SqL K H p2 (iV ys)) (h1 : xs.length = n) (h2 : ys.length = n) (hz : n ≤ 40000)
    (hw : ∀ x y, wipe (((wipe σ vs).set a (some x)).set b (some y)) vs = wipe σ vs)
    (he : ∀ i, i < n → Ev te (((wipe σ vs).set a (some (.int ((xs.getD i 0 : Nat) : Int)))).set b (some (.int (ys.getD i 0)))) H (.int (v i))) : EvL (tLc (iZip K ta) (gPair K a b) tYes te vs) σ H (iV ((List.range n).map v)) := by
  have := el_Z (K := K) (te := te) (n := n) (fun i => V.int (v i)) h hx hy (by rw [nV_len, iV_len, h1, h2, Nat.min_self]) hz hw (fun i x y hx hy => by
    have hi : i < n := by
      have := (List.getElem?_eq_some_iff.mp hx).1
      rw [nV_len, h1] at this; exact this
    rw [nat_ix hx, int_ix hy]; exact he i hi)
  unfold iV; rw [List.map_map]; exact this
theorem el_zipII {n : Nat} {xs : List Int} {ys : List Int} {p1 p2 : Addr} {vs : List Nat} {a b : Nat} (v : Nat → Int) {ta : TA} (h : EvA ta σ H [.ref p1, .ref p2]) (hx : SqL K H p1 (iV xs)) (hy : SqL K H p2 (iV ys)) (h1 : xs.length = n) (h2 : ys.length = n) (hz : n ≤ 40000)
    (hw : ∀ x y, wipe (((wipe σ vs).set a (some x)).set b (some y)) vs = wipe σ vs)
    (he : ∀ i, i < n → Ev te (((wipe σ vs).set a (some (.int (xs.getD i 0)))).set b (some (.int (ys.getD i 0)))) H (.int (v i))) : EvL (tLc (iZip K ta) (gPair K a b) tYes te vs) σ H (iV ((List.range n).map v)) := by
  have := el_Z (K := K) (te := te) (n := n) (fun i => V.int (v i)) h hx hy (by rw [iV_len, iV_len, h1, h2, Nat.min_self]) hz hw (fun i x y hx hy => by
    have hi : i < n := by
      have := (List.getElem?_eq_some_iff.mp hx).1
      rw [iV_len, h1] at this; exact this
    rw [int_ix hx, int_ix hy]; exact he i hi)
  unfold iV; rw [List.map_map]; exact this
def spWeightedRewards (C : Addr) : Sp := spV fun vs H v => ∃ (L : Lay) (p : Kp389.Process) (t s a : Nat), vs = [.ref L.a, .int (t : Int), .int (s : Int), .int (a : Int)] ∧ Mdl C H L p ∧ t ≤ 1 ∧ s < p.stateCount ∧ a < p.actionCount ∧ v = .int (wrS p t s a)
def dfWeightedRewards (T : Txt K mg C fi) (dTransitionPlace : Df P w K mg base "transition_place" 1 ["model", "state", "action"] (spTransitionPlace C)) (dRewardPlace : Df P w K mg base "reward_place" 2 ["model", "state", "action", "following"] (spRewardPlace C)) (r : Rw K mg "weighted_rewards" sWeightedRewards) : Df P w K mg base "weighted_rewards" 3 ["model", "table", "state", "action"] (spWeightedRewards C) :=
  r.df (k := 2) scWeightedRewards (fun _ _ _ _ _ _ us hl => match us, hl with | [_, _, _, _], _ => rfl)
  (fun vs H Q E h => by obtain ⟨_, ⟨_, _, _, _, _, rfl, _⟩, _⟩ := h; rfl) (fun cdv A outer sh H vs Q E hr h => by
    obtain ⟨_, ⟨L, p, t, s, a, rfl, M, ht, hs, ha, rfl⟩, q⟩ := h
    refine ⟨_, (pss_cons (ps_set (i := 4) scWeightedRewards.nd rfl (by first | exact Or.inl rfl | exact Or.inr rfl) (pe_ix (ix_listK K (by rfl)) (pe_fldK K (by rfl) (pv 0) (by rfl)) (pe_call dTransitionPlace.ok (hr.mono (by decide)) rfl dTransitionPlace.g dTransitionPlace.kp dTransitionPlace.b .nil pass0 (pa_cons (pv 0) (pa_cons (pv 2) (pa_cons (pv 3) pa_nil)))) (fun _ _ => rfl)))
      (pss_cons (ps_set (i := 5) scWeightedRewards.nd rfl (by first | exact Or.inl rfl | exact Or.inr rfl) (pe_call dRewardPlace.ok (hr.mono (by decide)) rfl dRewardPlace.g dRewardPlace.kp dRewardPlace.b .nil pass0 (pa_cons (pv 0) (pa_cons (pv 2) (pa_cons (pv 3) (pa_cons pe_int pa_nil))))))
      (pss_cons (ps_set (i := 6) scWeightedRewards.nd rfl (by first | exact Or.inl rfl | exact Or.inr rfl) (pe_slice (sl_listK K (by rfl)) (pe_ix (ix_listK K (by rfl)) (pe_fldK K (by rfl) (pv 0) (by rfl)) (pv 1) (fun _ _ => rfl)) (po_some (pv 5)) (po_some (pe_op op_add (pv 5) (pe_fldK K (by rfl) (pv 0) (by rfl))))))
      (pss_one (ps_ret (pe_callB (cr_sumK K (by rfl) rfl) (by rfl) T.n_sum (by decide +kernel) (pa_cons (pe_lc (own := [("weight", 7), ("reward", 8)]) (g := gPair K 7 8) (tt := tYes) rfl scWeightedRewards.nd (pi_zip (by rfl) T.n_zip (pa_cons (pv 4) (pa_cons (pv 6) pa_nil))) (blkOk_by (N := ["model", "table", "state", "action", "weights", "first", "rewards", "weight", "reward"]) (sc := defScope sWeightedRewards) (by decide +kernel)) (fun _ _ _ _ _ => (pg_pairK K (by rfl) rfl (pg_name (i := 7) scWeightedRewards.nd rfl (by first | exact Or.inl rfl | exact Or.inr rfl)) (pg_name (i := 8) scWeightedRewards.nd rfl (by first | exact Or.inl rfl | exact Or.inr rfl)))) (fun _ _ _ _ _ => pts_nil) (fun _ _ _ _ _ => (pe_op op_mulW (pv 7) (pv 8)))) pa_nil))))))), ?_⟩
    have hn := M.wf.n4
    have hm := M.wf.m3
    have hw := weights_ok M.wf hs ha
    obtain ⟨x, hx, hwx⟩ := wts_at M hs ha
    refine q_asg (v := .ref x) (ev_wts T M (ev_var rfl) hs ha hx (ev_call (ea_cons (ev_var rfl) (ea_cons (ev_var rfl) (ea_cons (ev_var rfl) ea_nil))) (spV_use fun H3 e3 => ⟨L, p, s, a, rfl, M.mono e3, by omega, by omega, rfl⟩))) fun H1 e1 => ?_
    have M1 := M.mono e1
    refine q_asg (v := .int (Kp389.index p s a 0 : Int)) (ev_call (ea_cons (ev_var rfl) (ea_cons (ev_var rfl) (ea_cons (ev_var rfl) (ea_cons ev_c ea_nil)))) (spV_use fun H3 e3 => ⟨L, p, s, a, 0, rfl, M1.mono e3, by omega, by omega, rfl⟩)) fun H2 e2 => ?_
    have M2 := M1.mono e2
    have hidx : Kp389.index p s a 0 + p.stateCount ≤ (Kp389.rewards p t).length := by
      rw [(rewards_ok M.wf t).1]
      have := index_lt (p := p) hs ha (show p.stateCount - 1 < p.stateCount by have := M.wf.n2; omega)
      unfold Kp389.index at *; omega
    have e0 : (Kp389.index p s a 0 : Int) + (p.stateCount : Int) = ((Kp389.index p s a 0 + p.stateCount : Nat) : Int) := by omega
    refine q_asgL (xs := iV (((Kp389.rewards p t).drop (Kp389.index p s a 0)).take p.stateCount)) ?_ fun rw1 H3 nrw e3 hrw => ?_
    · have := el_sl (K := K) (tl := tPart (tVar 5)) (th := tPart (tOp (rI0 fun i j => .int (i + j)) (tVar 5) (tFld K (tVar 0) "state_count"))) (H := H2) (σ := [some (.ref L.a), some (.int (t : Int)), some (.int (s : Int)), some (.int (a : Int)), some (.ref x), some (.int (Kp389.index p s a 0 : Int)), none, none, none])
        (lo := some (Kp389.index p s a 0 : Int)) (hi := some ((Kp389.index p s a 0 : Int) + (p.stateCount : Int))) (ev_tab T M2 (ta := tVar 0) (tb := tVar 1) (ev_var rfl) ht (ev_var rfl)) (eo_some (ev_var rfl)) (eo_some (ev_add (ev_var rfl) (ev_f1 T M2 (ev_var rfl)))) (sq_of (M2.rtAt ht))
      rw [e0, cut_nat _ _ _ hidx (by omega), show Kp389.index p s a 0 + p.stateCount - Kp389.index p s a 0 = p.stateCount by omega] at this
      exact this
    have E3 := (e1.trans e2).trans e3
    have hlen : (((Kp389.rewards p t).drop (Kp389.index p s a 0)).take p.stateCount).length = p.stateCount := by
      rw [List.length_take, List.length_drop]; omega
    refine s_ret (ev_sumL (el_zipI (xs := Kp389.weights p s a) (ys := ((Kp389.rewards p t).drop (Kp389.index p s a 0)).take p.stateCount) (n := p.stateCount) (fun q => wtD p s a q * Kp389.reward p t s a q) (ea_cons (ev_var rfl) (ea_cons (ev_var rfl) ea_nil)) (sq_of (E3 _ _ hwx)) (sq_of hrw) hw.len hlen (by omega) (fun _ _ => rfl) ?_)) fun H4 e4 => q H4 (E3.trans e4)
    intro i hi
    have h1 := wtD_le M.wf hs ha i
    have h2 := reward_le M.wf t s a i
    have h3 : (((Kp389.rewards p t).drop (Kp389.index p s a 0)).take p.stateCount).getD i 0 = Kp389.reward p t s a i := by
      rw [← reward_eq]
      have : Kp389.index p s a 0 + i = Kp389.index p s a i := by unfold Kp389.index; omega
      simp only [List.getD, List.getElem?_take, hi, if_true, List.getElem?_drop, this]
    rw [h3]
    exact ev_mul (i := wtD p s a i) (ev_var rfl) (ev_var rfl) (by omega) (by omega))
theorem icast_sum : ∀ l : List Int, ((l.sum : Int) : Rat) = (l.map fun (z : Int) => (z : Rat)).sum
  | [] => by simp
  | x :: r => by rw [List.sum_cons, List.map_cons, List.sum_cons, Rat.intCast_add, icast_sum r]
theorem wrS_rat (p : Kp389.Process) (t s a : Nat) : ((wrS p t s a : Int) : Rat) = rs p.stateCount (fun q => ((wtD p s a q : Int) : Rat) * ((Kp389.reward p t s a q : Int) : Rat)) := by
  unfold wrS rs
  rw [icast_sum, List.map_map]
  congr 1
  apply List.map_congr_left
  intro q _
  show ((wtD p s a q * Kp389.reward p t s a q : Int) : Rat) = _
  rw [Rat.intCast_mul]
theorem wtT_rat (p : Kp389.Process) (s a : Nat) : ((wtT p s a : Int) : Rat) = (((Kp389.weights p s a).sum : Nat) : Rat) := by
  unfold wtT; rw [Rat.intCast_natCast]
theorem wtD_rat (p : Kp389.Process) (s a q : Nat) : ((wtD p s a q : Int) : Rat) = (((Kp389.weights p s a).getD q 0 : Nat) : Rat) := by
  unfold wtD; rw [Rat.intCast_natCast]
/-- the expected reward, by the weights -/
theorem exp_inv (p : Kp389.Process) (t s a : Nat) : Kp389.expectedReward p t s a = ((wtT p s a : Int) : Rat)⁻¹ * ((wrS p t s a : Int) : Rat) := by
  rw [wrS_rat, ← rs_mul]
  unfold Kp389.expectedReward Kp389.states
  show rs p.stateCount (fun q => Kp389.probability p s a q * ((Kp389.reward p t s a q : Int) : Rat)) = _
  apply rs_congr
  intro q _
  unfold Kp389.probability
  rw [← wtD_rat, ← wtT_rat, Rat.div_def]
  grind
theorem wtT_ne {p : Kp389.Process} (h : WF p) {s a : Nat} (hs : s < p.stateCount) (ha : a < p.actionCount) : ((wtT p s a : Int) : Rat) ≠ 0 := by
  have hT := wtT_le h hs ha
  intro e
  have : wtT p s a = 0 := by exact_mod_cast e
  omega
theorem avg_fr {p : Kp389.Process} (h : WF p) (t : Nat) {s a : Nat} (hs : s < p.stateCount) (ha : a < p.actionCount) : FrOk 30 (wrS p t s a) (wtT p s a) (Kp389.expectedReward p t s a) := by
  have h1 := wrS_le h t hs ha
  have h2 := wtT_le h hs ha
  refine ⟨by omega, by omega, by omega, ?_⟩
  rw [exp_inv, Rat.mul_comm _ ((wrS p t s a : Int) : Rat), Rat.mul_assoc, Rat.inv_mul_cancel _ (wtT_ne h hs ha), Rat.mul_one]
def spAverageReward (C : Addr) : Sp := spN fun vs H R => ∃ (L : Lay) (p : Kp389.Process) (t s a : Nat), vs = [.ref L.a, .int (t : Int), .int (s : Int), .int (a : Int)] ∧ Mdl C H L p ∧ t ≤ 1 ∧ s < p.stateCount ∧ a < p.actionCount ∧ R = fun q H => FrAt 30 H q (Kp389.expectedReward p t s a)
theorem ev_sumN {σ : L2.St} {x : Addr} {l : List Nat} (h : Ev te σ H (.ref x)) (hx : H x = some (.lst (nV l))) : Ev (tCB (rSum K) (tCons te tNil)) σ H (.int ((l.sum : Nat) : Int)) := by
  have := ev_sum (K := K) (l := l.map fun (n : Nat) => (n : Int)) h (by rw [← nV_iV]; exact sq_of hx)
  rw [sum_nat] at this
  exact this
def dfAverageReward (T : Txt K mg C fi) (dTransitionPlace : Df P w K mg base "transition_place" 1 ["model", "state", "action"] (spTransitionPlace C)) (dWeightedRewards : Df P w K mg base "weighted_rewards" 3 ["model", "table", "state", "action"] (spWeightedRewards C)) (r : Rw K mg "average_reward" sAverageReward) : Df P w K mg base "average_reward" 4 ["model", "table", "state", "action"] (spAverageReward C) :=
  r.df (k := 3) scAverageReward (fun _ _ _ _ _ _ us hl => match us, hl with | [_, _, _, _], _ => rfl)
  (fun vs H Q E h => by obtain ⟨_, ⟨_, _, _, _, _, rfl, _⟩, _⟩ := h; rfl) (fun cdv A outer sh H vs Q E hr h => by
    obtain ⟨_, ⟨L, p, t, s, a, rfl, M, ht, hs, ha, rfl⟩, q⟩ := h
    refine ⟨_, (pss_cons (ps_set (i := 4) scAverageReward.nd rfl (by first | exact Or.inl rfl | exact Or.inr rfl) (pe_ix (ix_listK K (by rfl)) (pe_fldK K (by rfl) (pv 0) (by rfl)) (pe_call dTransitionPlace.ok (hr.mono (by decide)) rfl dTransitionPlace.g dTransitionPlace.kp dTransitionPlace.b .nil pass0 (pa_cons (pv 0) (pa_cons (pv 2) (pa_cons (pv 3) pa_nil)))) (fun _ _ => rfl)))
      (pss_one (ps_ret (pe_tup (pa_cons (pe_call dWeightedRewards.ok (hr.mono (by decide)) rfl dWeightedRewards.g dWeightedRewards.kp dWeightedRewards.b .nil pass0 (pa_cons (pv 0) (pa_cons (pv 1) (pa_cons (pv 2) (pa_cons (pv 3) pa_nil))))) (pa_cons (pe_callB (cr_sumK K (by rfl) rfl) (by rfl) T.n_sum (by decide +kernel) (pa_cons (pv 4) pa_nil)) pa_nil)))))), ?_⟩
    have hn := M.wf.n4
    have hm := M.wf.m3
    obtain ⟨x, hx, hwx⟩ := wts_at M hs ha
    refine q_asg (v := .ref x) (ev_wts T M (ev_var rfl) hs ha hx (ev_call (ea_cons (ev_var rfl) (ea_cons (ev_var rfl) (ea_cons (ev_var rfl) ea_nil))) (spV_use fun H3 e3 => ⟨L, p, s, a, rfl, M.mono e3, by omega, by omega, rfl⟩))) fun H1 e1 => ?_
    have M1 := M.mono e1
    refine s_retU (eu_tup (vs := [.int (wrS p t s a), .int (wtT p s a)]) (ea_cons (ev_call (ea_cons (ev_var rfl) (ea_cons (ev_var rfl) (ea_cons (ev_var rfl) (ea_cons (ev_var rfl) ea_nil)))) (spV_use fun H3 e3 => ⟨L, p, t, s, a, rfl, M1.mono e3, ht, hs, ha, rfl⟩)) (ea_cons (ev_sumN (ev_var rfl) (e1 _ _ hwx)) ea_nil)) (by simp)) fun u H2 nu e2 hu => q u H2 (fresh_back e1 nu) (e1.trans e2) ⟨_, _, hu, avg_fr M.wf t hs ha⟩)
def dfEquation (T : Txt K mg C fi) (dTransitionPlace : Df P w K mg base "transition_place" 1 ["model", "state", "action"] (spTransitionPlace C)) (dWeightedRewards : Df P w K mg base "weighted_rewards" 3 ["model", "table", "state", "action"] (spWeightedRewards C)) (r : Rw K mg "equation" sEquation) : Df P w K mg base "equation" 4 ["model", "table", "state", "action"] (spEquation C) :=
  r.df (k := 3) scEquation (fun _ _ _ _ _ _ us hl => match us, hl with | [_, _, _, _], _ => rfl)
  (fun vs H Q E h => by obtain ⟨_, ⟨_, _, _, _, _, rfl, _⟩, _⟩ := h; rfl) (fun cdv A outer sh H vs Q E hr h => by
    obtain ⟨_, ⟨L, p, t, s, a, rfl, M, ht, hs, ha, rfl⟩, q⟩ := h
    refine ⟨_, (pss_cons (ps_set (i := 4) scEquation.nd rfl (by first | exact Or.inl rfl | exact Or.inr rfl) (pe_ix (ix_listK K (by rfl)) (pe_fldK K (by rfl) (pv 0) (by rfl)) (pe_call dTransitionPlace.ok (hr.mono (by decide)) rfl dTransitionPlace.g dTransitionPlace.kp dTransitionPlace.b .nil pass0 (pa_cons (pv 0) (pa_cons (pv 2) (pa_cons (pv 3) pa_nil)))) (fun _ _ => rfl)))
      (pss_cons (ps_setLc (i := 5) (own := [("weight", 6)]) (g := gName 6) (tt := tYes) rfl scEquation.nd rfl rfl (sw_true rfl rfl rfl (by decide +kernel)) (pi_list (pv 4)) (blkOk_by (N := ["model", "table", "state", "action", "weights", "row", "weight"]) (sc := defScope sEquation) (by decide +kernel)) (fun _ _ _ _ _ => (pg_name (i := 6) scEquation.nd rfl (by first | exact Or.inl rfl | exact Or.inr rfl))) (fun _ _ _ _ _ => pts_nil) (fun _ _ _ _ _ => (pe_op op_mulW (pe_un un_neg (pe_fldK K (by rfl) (pv 0) (by rfl))) (pv 6))))
      (pss_cons (ps_asg (pe_op op_add (pe_ix (ix_listK K (by rfl)) (pv 5) (pv 2) (fun _ _ => rfl)) (pe_op op_mulW (pe_fldK K (by rfl) (pv 0) (by rfl)) (pe_callB (cr_sumK K (by rfl) rfl) (by rfl) T.n_sum (by decide +kernel) (pa_cons (pv 4) pa_nil)))) (pg_sub (pv 5) (pv 2) set_list))
      (pss_cons (ps_expr (pe_bm PySem.F.plainAttrs_list PySem.F.slot_list_append PySem.F.type_list_append mt_append (pv 5) (pa_cons (pe_op op_mulW (pe_fldK K (by rfl) (pv 0) (by rfl)) (pe_call dWeightedRewards.ok (hr.mono (by decide)) rfl dWeightedRewards.g dWeightedRewards.kp dWeightedRewards.b .nil pass0 (pa_cons (pv 0) (pa_cons (pv 1) (pa_cons (pv 2) (pa_cons (pv 3) pa_nil)))))) pa_nil)))
      (pss_one (ps_ret (pv 5))))))), ?_⟩
    have hn := M.wf.n4
    have hm := M.wf.m3
    have hw := weights_ok M.wf hs ha
    obtain ⟨x, hx, hwx⟩ := wts_at M hs ha
    refine q_asg (v := .ref x) (ev_wts T M (ev_var rfl) hs ha hx (ev_call (ea_cons (ev_var rfl) (ea_cons (ev_var rfl) (ea_cons (ev_var rfl) ea_nil))) (spV_use fun H3 e3 => ⟨L, p, s, a, rfl, M.mono e3, by omega, by omega, rfl⟩))) fun H1 e1 => ?_
    have M1 := M.mono e1
    have M3 := M1
    have hwx3 : H1 x = some (.lst (nV (Kp389.weights p s a))) := e1 _ _ hwx
    -- row = [-num * weight ..]
    refine q_asgL (xs := iV ((Kp389.weights p s a).map fun (n : Nat) => -(p.discountNum : Int) * (n : Int))) ?_ fun rd H4 nrd e4 hrd => ?_
    · have := el_map (K := K) (te := tOp (rI CMulW fun i j => .int (i * j)) (tUn (rU fun i => .int (-i)) (tFld K (tVar 0) "discount_num")) (tVar 6)) (tl := tVar 4) (H := H1) (σ := [some (.ref L.a), some (.int (t : Int)), some (.int (s : Int)), some (.int (a : Int)), some (.ref x), none, none]) (vs := [6]) (j := 6) (xs := Kp389.weights p s a)
        (fun (n : Nat) => V.int (n : Int)) (fun (n : Nat) => V.int (-(p.discountNum : Int) * (n : Int))) (ev_var rfl) (sq_of hwx3) (by rw [hw.len]; omega) (fun y => rfl) (fun i y H5 e5 hy => by
          have hy9 := hw.le9 y (List.mem_of_getElem? hy)
          have hd := M.wf.h10
          have hgh := M.wf.gh
          exact ev_mul (ev_un (ev_f3 T (M3.mono e5) (ev_var rfl)) ru_neg) (ev_var rfl) (by omega) (by omega))
      unfold iV; rw [List.map_map]; exact this
    have M4 := M3.mono e4
    have hwx4 := e4 _ _ hwx3
    have hwT := wtT_le M.wf hs ha
    have hrl : ((Kp389.weights p s a).map fun (n : Nat) => -(p.discountNum : Int) * (n : Int)).length = p.stateCount := by simp [hw.len]
    have hdd := M.wf.h10
    have hsl : SqL K H4 x (iV ((Kp389.weights p s a).map fun (n : Nat) => (n : Int))) := by rw [← nV_iV]; exact sq_of hwx4
    -- row[state] = row[state] + den * sum(weights)
    refine q_setL (v := .int (((Kp389.weights p s a).map fun (n : Nat) => -(p.discountNum : Int) * (n : Int)).getD s 0 + (p.discountDen : Int) * wtT p s a)) hrd (ev_add (ev_ixI (ev_var rfl) (ev_var rfl) (sq_of hrd) (by rw [hrl]; exact hs)) (ev_mul (ev_f4 T M4 (ev_var rfl)) (by
        have := ev_sum (K := K) (te := tVar 4) (σ := [some (.ref L.a), some (.int (t : Int)), some (.int (s : Int)), some (.int (a : Int)), some (.ref x), some (.ref rd), none]) (ev_var rfl) hsl
        rw [sum_nat] at this
        exact this) (by omega) (by omega))) (ev_var rfl) (ev_var rfl) (by rw [iV_len, hrl]; exact hs) fun H5 e5 => ?_
    have nrx : x ≠ rd := fun e => by rw [← e, hwx3] at nrd; cases nrd
    have nra : ∀ y, H1 y ≠ none → y ≠ rd := fun y hy e => hy (by rw [e]; exact nrd)
    rw [iV_set]
    generalize hrow : ((Kp389.weights p s a).map fun (n : Nat) => -(p.discountNum : Int) * (n : Int)).set s (((Kp389.weights p s a).map fun (n : Nat) => -(p.discountNum : Int) * (n : Int)).getD s 0 + (p.discountDen : Int) * wtT p s a) = row2
    have hrow2 : row2.length = p.stateCount := by rw [← hrow]; simp [hw.len]
    have E5 : Ex H1 (upd H5 rd (.lst (iV row2))) := Ex.mut (e4.trans e5) nrd
    have M5 := M3.mono E5
    -- row.append(den * sum(..))
    refine q_app (v := .int ((p.discountDen : Int) * wrS p t s a)) upd_same (ev_var rfl) (ev_mul (ev_f4 T M5 (ev_var rfl)) (ev_call (ea_cons (ev_var rfl) (ea_cons (ev_var rfl) (ea_cons (ev_var rfl) (ea_cons (ev_var rfl) ea_nil)))) (spV_use fun H6 e6 => ⟨L, p, t, s, a, rfl, M5.mono e6, ht, hs, ha, rfl⟩)) (by omega) (by have := wrS_le M.wf t hs ha; omega)) (by rw [iV_len, hrow2]; omega) fun H6 e6 => ?_
    · refine s_ret (ev_var rfl) fun H7 e7 => q rd H7 (fresh_back e1 nrd) ?_ ?_
      · exact e1.trans ((Ex.mut (E5.trans e6) nrd).trans e7)
      · rw [e7 _ _ upd_same]
        congr 2
        have : iV row2 ++ [.int ((p.discountDen : Int) * wrS p t s a)] = iV (row2 ++ [(p.discountDen : Int) * wrS p t s a]) := by simp [iV]
        rw [this]; congr 1
        unfold eqRow
        rw [List.range_succ, List.map_append]
        congr 1
        · apply List.ext_getElem
          · simp [hrow2]
          · intro i h1 h2
            have hi : i < p.stateCount := by rw [hrow2] at h1; exact h1
            have hiw : i < (Kp389.weights p s a).length := by rw [hw.len]; exact hi
            have hsw : s < (Kp389.weights p s a).length := by rw [hw.len]; exact hs
            subst hrow
            simp only [List.getElem_map, List.getElem_range, List.getElem_set, eqI, hi, if_true, wtD, List.getD, List.getElem?_map, List.getElem?_eq_getElem hiw, List.getElem?_eq_getElem hsw, Option.getD_some, Option.map_some]
            by_cases e : s = i
            · subst e; simp
            · have e' : ¬ i = s := fun h => e h.symm
              simp [e, e']
        · simp [eqI])
end
end SR

set_option maxHeartbeats 4000000
/-! worth.py: the solution of the equations -/
namespace SR
open PySem PySem.Spec PyProof.Rows L2 Evl

/-- how great the numbers of the k-th turn may be -/
def eB : Nat → Nat
  | 0 => 27
  | k + 1 => 2 * eB k + 1
theorem bnum_le {B : Nat → Nat → Int} {e : Nat} (h : ∀ i j, (B i j).natAbs < 2 ^ e) (k i j : Nat) : (bnum B k i j).natAbs < 2 ^ (2 * e + 1) := by
  unfold bnum
  have h1 : (B k k * B i j).natAbs < 2 ^ (e + e) := by
    rw [Int.natAbs_mul, Nat.pow_add]
    exact Nat.mul_lt_mul'' (h _ _) (h _ _)
  have h2 : (B i k * B k j).natAbs < 2 ^ (e + e) := by
    rw [Int.natAbs_mul, Nat.pow_add]
    exact Nat.mul_lt_mul'' (h _ _) (h _ _)
  have h3 : 2 ^ (2 * e + 1) = 2 ^ (e + e) + 2 ^ (e + e) := by
    rw [Nat.pow_succ, show 2 * e = e + e by omega]; omega
  rw [h3]; omega
theorem bAll_le {x : Nat → Nat → Int} (h : ∀ i j, (x i j).natAbs < 2 ^ 27) : ∀ k i j, ((bAll x k).1 i j).natAbs < 2 ^ (eB k)
  | 0, i, j => h i j
  | k + 1, i, j => by
    show (bstep (bAll x k).1 (bAll x k).2 k i j).natAbs < 2 ^ (2 * eB k + 1)
    unfold bstep
    by_cases e : i = k
    · rw [if_pos e]
      exact Nat.lt_of_lt_of_le (bAll_le h k k j) (Nat.pow_le_pow_right (by decide) (by omega))
    · rw [if_neg e]
      exact Nat.lt_of_le_of_lt (Int.natAbs_ediv_le_natAbs _ _) (bnum_le (bAll_le h k) k i j)
theorem bDiv_le {x : Nat → Nat → Int} (h : ∀ i j, (x i j).natAbs < 2 ^ 27) : ∀ k, ((bAll x k).2).natAbs < 2 ^ (eB k)
  | 0 => by show (1 : Int).natAbs < 2 ^ 27; decide
  | k + 1 => by
    show ((bAll x k).1 k k).natAbs < 2 ^ (2 * eB k + 1)
    exact Nat.lt_of_lt_of_le (bAll_le h k k k) (Nat.pow_le_pow_right (by decide) (by omega))
def rowOf (n : Nat) (B : Nat → Nat → Int) (i : Nat) : List Int := (List.range (n + 1)).map (B i)
theorem rowOf_len (n : Nat) (B : Nat → Nat → Int) (i : Nat) : (rowOf n B i).length = n + 1 := by simp [rowOf]
theorem rowOf_getD {n : Nat} (B : Nat → Nat → Int) (i : Nat) {j : Nat} (hj : j < n + 1) : (rowOf n B i).getD j 0 = B i j := by
  simp [rowOf, List.getD, List.getElem?_map, List.getElem?_range hj]
theorem rowOf_le {n : Nat} {B : Nat → Nat → Int} {e : Nat} (h : ∀ i j, (B i j).natAbs < 2 ^ e) (i j : Nat) : ((rowOf n B i).getD j 0).natAbs < 2 ^ e := by
  by_cases hj : j < n + 1
  · rw [rowOf_getD B i hj]; exact h i j
  · simp only [List.getD, List.getElem?_eq_none (show (rowOf n B i).length ≤ j by rw [rowOf_len]; omega), Option.getD_none]
    exact Nat.pow_pos (by decide)
theorem clr_row {n k i : Nat} {B : Nat → Nat → Int} {d : Int} (hk : k < n) (hi : i ≠ k) : clrL (rowOf n B i) (rowOf n B k) k d = rowOf n (bstep B d k) i := by
  unfold clrL
  rw [rowOf_len]
  apply List.map_congr_left
  intro j hj
  have hj : j < n + 1 := by simpa using hj
  rw [rowOf_getD B k (by omega), rowOf_getD B i hj, rowOf_getD B i (by omega), rowOf_getD B k hj]
  unfold bstep bnum
  rw [if_neg hi]
theorem own_row {n k : Nat} {B : Nat → Nat → Int} {d : Int} : rowOf n B k = rowOf n (bstep B d k) k := by
  unfold rowOf
  apply List.map_congr_left
  intro j _
  unfold bstep; rw [if_pos rfl]

/-- what the solved rows must be -/
structure SysOk (n : Nat) (x : Nat → Nat → Int) (A : Nat → Nat → Rat) (c : Nat → Rat) : Prop where
  n1 : 1 ≤ n
  n4 : n ≤ 4
  pos : ∀ i, i < n → 0 < c i
  eq : ∀ i, i < n → ∀ j, j ≤ n → ((x i j : Int) : Rat) = c i * A i j
  dom : Dom n 0 A
  small : ∀ i j, (x i j).natAbs < 2 ^ 27
def spSolution (K : PySem.W.Frag) : Sp := spO fun vs H n R => ∃ (a : Addr) (rs : List Addr) (x : Nat → Nat → Int) (A : Nat → Nat → Rat) (c : Nat → Rat), vs = [.ref a] ∧ SqL K H a (rs.map V.ref) ∧ rs.length = n ∧
  (∀ (i : Nat) (r : Addr), rs[i]? = some r → H r = some (.lst (iV (rowOf n x i)))) ∧ SysOk n x A c ∧ R = fun i q H => FrAt 1000 H q (elimAll A n i n)

section
variable {P : Program} {w : World} {K : PySem.W.Frag} {mg : Str → Option Value} {base : Heap} {C fi aN aW : Addr} {σ : L2.St} {H H' : Hp} {ta tb te : TE} {L : Lay} {p : Kp389.Process}
def dfCleared (T : Txt K mg C fi) (r : Rw K mg "cleared" sCleared) : Df P w K mg base "cleared" 1 ["row", "leading", "column", "divisor"] (spCleared K) :=
  r.df (k := 0) scCleared (fun _ _ _ _ _ _ us hl => match us, hl with | [_, _, _, _], _ => rfl)
  (fun vs H Q E h => by obtain ⟨_, ⟨_, _, _, _, _, _, rfl, _⟩, _⟩ := h; rfl) (fun cdv A outer s H vs Q E hr h => by
    obtain ⟨_, ⟨a, b, x, y, k, d, rfl, hx, hy, hxy, hk, hz, bx, bY, hd, bd, rfl⟩, q⟩ := h
    refine ⟨_, (pss_cons (ps_set (i := 4) scCleared.nd rfl (by first | exact Or.inl rfl | exact Or.inr rfl) (pe_ix (ix_listK K (by rfl)) (pv 1) (pv 2) (fun _ _ => rfl)))
      (pss_cons (ps_set (i := 5) scCleared.nd rfl (by first | exact Or.inl rfl | exact Or.inr rfl) (pe_ix (ix_listK K (by rfl)) (pv 0) (pv 2) (fun _ _ => rfl)))
      (pss_one (ps_ret (pe_lc (own := [("own", 6), ("other", 7)]) (g := gPair K 6 7) (tt := tYes) rfl scCleared.nd (pi_zip (by rfl) T.n_zip (pa_cons (pv 0) (pa_cons (pv 1) pa_nil))) (blkOk_by (N := ["row", "leading", "column", "divisor", "pivot", "factor", "own", "other"]) (sc := defScope sCleared) (by decide +kernel)) (fun _ _ _ _ _ => (pg_pairK K (by rfl) rfl (pg_name (i := 6) scCleared.nd rfl (by first | exact Or.inl rfl | exact Or.inr rfl)) (pg_name (i := 7) scCleared.nd rfl (by first | exact Or.inl rfl | exact Or.inr rfl)))) (fun _ _ _ _ _ => pts_nil) (fun _ _ _ _ _ => (pe_op op_fdivW (pe_op op_sub (pe_op op_mulW (pv 4) (pv 6)) (pe_op op_mulW (pv 5) (pv 7))) (pv 3)))))))), ?_⟩
    refine q_asg (ev_ixI (ev_var rfl) (ev_var rfl) hy (by omega)) fun H1 e1 => ?_
    refine q_asg (ev_ixI (ev_var rfl) (ev_var rfl) (ex_l e1 hx) hk) fun H2 e2 => ?_
    have E2 := e1.trans e2
    have up : ∀ {m : Nat}, m < 2 ^ 400 → m < 2 ^ 1000 := fun h => Nat.lt_of_lt_of_le h (Nat.pow_le_pow_right (by decide) (by decide))
    refine s_retL (el_zipII (n := x.length) (fun j => (y.getD k 0 * x.getD j 0 - x.getD k 0 * y.getD j 0) / d) (ea_cons (ev_var rfl) (ea_cons (ev_var rfl) ea_nil)) (ex_l E2 hx) (ex_l E2 hy) rfl hxy.symm (by omega) (fun _ _ => rfl) fun j hj => ?_) fun p H3 np e3 hp => q p H3 (fresh_back E2 np) (E2.trans e3) hp
    exact ev_divB (ev_sub (ev_mulB (ev_var rfl) (ev_var rfl) (up (bY k)) (up (bx j))) (ev_mulB (ev_var rfl) (ev_var rfl) (up (bx k)) (up (bY j)))) (ev_var rfl) hd (up bd))
def dfSolution (T : Txt K mg C fi) (dCleared : Df P w K mg base "cleared" 1 ["row", "leading", "column", "divisor"] (spCleared K)) (r : Rw K mg "solution" sSolution) : Df P w K mg base "solution" 2 ["rows"] (spSolution K) :=
  r.df (k := 1) scSolution (fun _ _ _ _ _ _ us hl => match us, hl with | [_], _ => rfl)
  (fun vs H Q E h => by obtain ⟨_, _, ⟨_, _, _, _, _, rfl, _⟩, _⟩ := h; rfl) (fun cdv A outer s H vs Q E hr h => by
    obtain ⟨n, _, ⟨a, rs, x, M, c, rfl, hrs, hrl, hrow, S, rfl⟩, q⟩ := h
    refine ⟨_, (pss_cons (ps_set (i := 1) scSolution.nd rfl (by first | exact Or.inl rfl | exact Or.inr rfl) (pv 0))
      (pss_cons (ps_set (i := 2) scSolution.nd rfl (by first | exact Or.inl rfl | exact Or.inr rfl) pe_int)
      (pss_cons (ps_for PassesOwn.never rfl (pi_range1 rfl T.n_range (pa_cons (pe_callB (call_lenK K (by rfl)) (by rfl) T.n_len (by decide +kernel) (pa_cons (pv 0) pa_nil)) pa_nil)) (pg_name (i := 3) scSolution.nd rfl (by first | exact Or.inl rfl | exact Or.inr rfl)) (pss_cons (ps_set (i := 4) scSolution.nd rfl (by first | exact Or.inl rfl | exact Or.inr rfl) (pe_ix (ix_listK K (by rfl)) (pv 1) (pv 3) (fun _ _ => rfl)))
      (pss_cons (ps_setLc (i := 1) (own := [("place", 5), ("row", 6)]) (g := gPair K 5 6) (tt := tYes) rfl scSolution.nd rfl rfl (sw_true rfl rfl rfl (by decide +kernel)) (pi_enum (by rfl) T.n_enumerate (pa_cons (pv 1) pa_nil)) (blkOk_by (N := ["rows", "current", "divisor", "column", "leading", "place", "row"]) (sc := defScope sSolution) (by decide +kernel)) (fun _ _ _ _ _ => (pg_pairK K (by rfl) rfl (pg_name (i := 5) scSolution.nd rfl (by first | exact Or.inl rfl | exact Or.inr rfl)) (pg_name (i := 6) scSolution.nd rfl (by first | exact Or.inl rfl | exact Or.inr rfl)))) (fun _ _ _ _ _ => pts_nil) (fun _ _ _ _ _ => (pe_ifExp (pt_cmpR op_eq (pv 5) (pv 3) (nomark _)) (pv 6) (pe_call dCleared.ok (hr.mono (by decide)) rfl dCleared.g dCleared.kp dCleared.b .nil pass0 (pa_cons (pv 6) (pa_cons (pv 4) (pa_cons (pv 3) (pa_cons (pv 2) pa_nil))))))))
      (pss_one (ps_set (i := 2) scSolution.nd rfl (by first | exact Or.inl rfl | exact Or.inr rfl) (pe_ix (ix_listK K (by rfl)) (pv 4) (pv 3) (fun _ _ => rfl)))))))
      (pss_one (ps_ret (pe_lc (own := [("row", 6)]) (g := gName 6) (tt := tYes) rfl scSolution.nd (pi_list (pv 1)) (blkOk_by (N := ["rows", "current", "divisor", "column", "leading", "place", "row"]) (sc := defScope sSolution) (by decide +kernel)) (fun _ _ _ _ _ => (pg_name (i := 6) scSolution.nd rfl (by first | exact Or.inl rfl | exact Or.inr rfl))) (fun _ _ _ _ _ => pts_nil) (fun _ _ _ _ _ => (pe_tup (pa_cons (pe_ix (ix_listK K (by rfl)) (pv 6) (pe_callB (call_lenK K (by rfl)) (by rfl) T.n_len (by decide +kernel) (pa_cons (pv 0) pa_nil)) (fun _ _ => rfl)) (pa_cons (pv 2) pa_nil)))))))))), ?_⟩
    refine q_asg (ev_var rfl) fun H1 e1 => ?_
    refine q_asg ev_c fun H2 e2 => ?_
    have hn4 := S.n4
    have hrl2 : (rs.map V.ref).length = n := by simp [hrl]
    have hB := bRel S.n4 S.pos S.eq S.dom
    refine q_forR1 (n := (n : Int)) (ea_cons (by rw [← hrl2]; exact ev_lenL (ev_var rfl) (ex_l (e1.trans e2) hrs)) ea_nil) (by omega)
      (fun k σ' H' => ∃ (cA : Addr) (ws : List Addr), (∃ v3 v4 v5 v6, σ' = [some (.ref a), some (.ref cA), some (.int (bAll x k).2), v3, v4, v5, v6]) ∧ Ex H H' ∧ SqL K H' cA (ws.map V.ref) ∧ ws.length = n ∧ ∀ (i : Nat) (r : Addr), ws[i]? = some r → H' r = some (.lst (iV (rowOf n (bAll x k).1 i))))
      (fun H3 e3 => ⟨a, rs, ⟨none, none, none, none, rfl⟩, (e1.trans e2).trans e3, ex_l ((e1.trans e2).trans e3) hrs, hrl, fun i r hi => ((e1.trans e2).trans e3) _ _ (hrow i r hi)⟩) ?_ ?_
    · rintro k σ1 H3 hk ⟨cA, ws, ⟨v3, v4, v5, v6, rfl⟩, e3, hcur, hwl, hws⟩
      have hk : k < n := by omega
      have hkw : k < ws.length := by omega
      have hwk : ws[k]? = some ws[k] := List.getElem?_eq_getElem hkw
      have heB : eB k ≤ 223 := by
        have : k = 0 ∨ k = 1 ∨ k = 2 ∨ k = 3 := by omega
        rcases this with e | e | e | e <;> subst e <;> decide
      have up : ∀ {m : Nat}, m < 2 ^ (eB k) → m < 2 ^ 400 := fun h => Nat.lt_of_lt_of_le h (Nat.pow_le_pow_right (by decide) (by omega))
      refine q_asg (v := .ref ws[k]) (ev_op (ev_var rfl) (ev_var rfl) (rv_ixL hcur (atI_nat (by rw [List.getElem?_map, hwk]; rfl)))) fun H4 e4 => ?_
      have hcur4 := ex_l e4 hcur
      have hws4 : ∀ (i : Nat) (r : Addr), ws[i]? = some r → H4 r = some (.lst (iV (rowOf n (bAll x k).1 i))) := fun i r hi => e4 _ _ (hws i r hi)
      have hpos := (hB k (by omega)).1.pos
      have hL : EvLR (tLc (iEnum K (tCons (tVar 1) tNil)) (gPair K 5 6) tYes (tIf (tTest (tOp rEq (tVar 5) (tVar 3))) (tVar 6) (tCall (spCleared K) [] E0 (tCons (tVar 6) (tCons (tVar 4) (tCons (tVar 3) (tCons (tVar 2) tNil)))))) [5, 6])
          [some (.ref a), some (.ref cA), some (.int (bAll x k).2), some (.int (k : Int)), some (.ref ws[k]), v5, v6] H4 (ws.map V.ref).length (fun i q H => H q = some (.lst (iV (rowOf n (bAll x (k + 1)).1 i)))) := by
        refine elr_E (fun i => flat_L) (ea_cons (ev_var rfl) ea_nil) hcur4 (by simp; omega) (fun _ _ => rfl) fun i v hv => ?_
        rw [List.getElem?_map] at hv
        cases hwi : ws[i]? with
        | none => rw [hwi] at hv; cases hv
        | some r =>
          rw [hwi] at hv
          have hv := Option.some.inj hv
          subst hv
          have hrow := hws4 i r hwi
          refine eo_if (et_test (ev_op (ev_var rfl) (ev_var rfl) rv_eqI)) (fun hb => ?_) (fun hb => ?_)
          · have hik : i = k := by
              have := of_decide_eq_true hb
              omega
            subst hik
            refine eo_old (ev_var rfl) (by rw [hrow]; simp) ?_ flat_L
            show H4 r = some (.lst (iV (rowOf n (bstep (bAll x i).1 (bAll x i).2 i) i)))
            rw [← own_row]; exact hrow
          · have hik : i ≠ k := by
              intro e; subst e
              exact (of_decide_eq_false hb) rfl
            refine eo_L (xs := iV (rowOf n (bAll x (k + 1)).1 i)) (el_call (ea_cons (ev_var rfl) (ea_cons (ev_var rfl) (ea_cons (ev_var rfl) (ea_cons (ev_var rfl) ea_nil)))) (spL_use fun H5 e5 => ⟨r, ws[k], rowOf n (bAll x k).1 i, rowOf n (bAll x k).1 k, k, (bAll x k).2, rfl, sq_of (e5 _ _ hrow), sq_of (e5 _ _ (hws4 k _ hwk)), ?_, ?_, ?_, fun j => up (rowOf_le (bAll_le S.small k) i j), fun j => up (rowOf_le (bAll_le S.small k) k j), hpos, up (bDiv_le S.small k), ?_⟩)) (fun _ _ h => h)
            · rw [rowOf_len, rowOf_len]
            · rw [rowOf_len]; omega
            · rw [rowOf_len]; omega
            · rw [clr_row hk hik]; rfl
      refine q_asgO hL fun cB us H5 ncB e5 hul hcB hus => ?_
      have hkk := e5 _ _ (hws4 k _ hwk)
      refine s_asg (v := .int ((bAll x k).1 k k)) ?_ fun H6 e6 => ?_
      · have := ev_ixI (K := K) (ta := tVar 4) (tb := tVar 3) (σ := [some (.ref a), some (.ref cB), some (.int (bAll x k).2), some (.int (k : Int)), some (.ref ws[k]), v5, v6]) (ev_var rfl) (ev_var rfl) (sq_of hkk) (show k < (rowOf n (bAll x k).1 k).length by rw [rowOf_len]; omega)
        rw [rowOf_getD _ _ (by omega)] at this
        exact this
      · exact ⟨cB, us, ⟨_, _, _, _, rfl⟩, ((e3.trans e4).trans e5).trans e6, sq_of (e6 _ _ hcB), by simpa [hwl] using hul, fun i r hi => e6 _ _ (hus i r hi)⟩
    · rintro σ1 H3 ⟨cA, ws, ⟨v3, v4, v5, v6, rfl⟩, e3, hcur, hwl, hws⟩
      simp only [Int.toNat_natCast] at hws
      obtain ⟨hbr, _, _⟩ := hB n (by omega)
      have hdn := hbr.pos
      have heB : eB n ≤ 447 := by
        have : n = 1 ∨ n = 2 ∨ n = 3 ∨ n = 4 := by have := S.n1; omega
        rcases this with e | e | e | e <;> subst e <;> decide
      have up : ∀ {m : Nat}, m < 2 ^ (eB n) → m < 2 ^ 1000 := fun h => Nat.lt_of_lt_of_le h (Nat.pow_le_pow_right (by decide) (by omega))
      have hlen : (ws.map V.ref).length = n := by simp [hwl]
      simp only [Int.toNat_natCast]
      have hE : EvLR (tLc (iList K (tVar 1)) (gName 6) tYes (tTup (tCons (tOp (rIxL K) (tVar 6) (tCB (rLen K) (tCons (tVar 0) tNil))) (tCons (tVar 2) tNil))) [6])
          [some (.ref a), some (.ref cA), some (.int (bAll x n).2), v3, v4, v5, v6] H3 (ws.map V.ref).length (fun i q H => FrAt 1000 H q (elimAll M n i n)) := by
        refine elr_L (fun i => flat_fr) (ev_var rfl) hcur (by omega) (fun _ => rfl) fun i v hv => ?_
        rw [List.getElem?_map] at hv
        cases hwi : ws[i]? with
        | none => rw [hwi] at hv; cases hv
        | some r =>
          rw [hwi] at hv
          have hv := Option.some.inj hv
          subst hv
          have hi : i < n := by
            have := (List.getElem?_eq_some_iff.mp hwi).1
            omega
          have hrow := hws i r hwi
          have hx : Ev (tOp (rIxL K) (tVar 6) (tCB (rLen K) (tCons (tVar 0) tNil))) [some (.ref a), some (.ref cA), some (.int (bAll x n).2), v3, v4, v5, some (.ref r)] H3 (.int ((bAll x n).1 i n)) := by
            have hl := ev_lenL (K := K) (te := tVar 0) (σ := [some (.ref a), some (.ref cA), some (.int (bAll x n).2), v3, v4, v5, some (.ref r)]) (ev_var rfl) (ex_l e3 hrs)
            rw [hrl2] at hl
            have := ev_ixI (K := K) (ta := tVar 6) (ev_var rfl) hl (sq_of hrow) (by rw [rowOf_len]; omega)
            rw [rowOf_getD _ _ (by omega)] at this
            exact this
          refine eo_U (xs := [.int ((bAll x n).1 i n), .int (bAll x n).2]) (eu_tup (ea_cons hx (ea_cons (ev_var rfl) ea_nil)) (by simp)) (fun q H5 hq => ⟨_, _, hq, hdn, up (bAll_le S.small n i n), up (bDiv_le S.small n), ?_⟩)
          have := hbr.eq i hi n (Nat.le_refl n)
          rw [if_pos hi, Rat.mul_one] at this
          rw [this, Rat.mul_comm]
      rw [hlen] at hE
      exact s_retO hE fun p us H4 np e4 hul hp hus => q p us H4 (fresh_back e3 np) (e3.trans e4) hul hp hus)
end
end SR

set_option maxHeartbeats 4000000
/-! worth.py: values under a policy, all policies, the best values -/
namespace SR
open PySem PySem.Spec PyProof.Rows L2 Evl
abbrev sValuesUnder : Stmt := topS 62
theorem scValuesUnder : FnScope ["model", "table", "policy", "state", "action"] ["model", "table", "policy"] (defScope sValuesUnder) := ⟨rfl, rfl, rfl, by decide +kernel, rfl, by decide +kernel, by decide +kernel⟩
abbrev sEveryRow : Stmt := topS 55
theorem scEveryRow : FnScope ["length", "beyond", "rows", "place", "longer", "row", "number"] ["length", "beyond"] (defScope sEveryRow) := ⟨rfl, rfl, rfl, by decide +kernel, rfl, by decide +kernel, by decide +kernel⟩
abbrev sBestValues : Stmt := topS 63
theorem scBestValues : FnScope ["model", "table", "policies", "best", "policy", "old", "new"] ["model", "table"] (defScope sBestValues) := ⟨rfl, rfl, rfl, by decide +kernel, rfl, by decide +kernel, by decide +kernel⟩

/-! ### the equations are the specification's, each times a number above 0 -/
def cI (p : Kp389.Process) (l : List Nat) (s : Nat) : Rat := ((p.discountDen : Int) : Rat) * ((wtT p s (l.getD s 0) : Int) : Rat)
theorem eqI_rat {p : Kp389.Process} (h : WF p) (t : Nat) {l : List Nat} (hl : polOk p l) {s : Nat} (hs : s < p.stateCount) {j : Nat} (hj : j ≤ p.stateCount) :
    ((eqI p t s (l.getD s 0) j : Int) : Rat) = cI p l s * eqF p t l s j := by
  have ha := hl.2 s hs
  have hT := wtT_le h hs ha
  have hT0 : (0 : Rat) < ((wtT p s (l.getD s 0) : Int) : Rat) := by exact_mod_cast (show 0 < wtT p s (l.getD s 0) by omega)
  have hd0 : (0 : Rat) < (p.discountDen : Rat) := by
    have := h.gh
    exact_mod_cast (show 0 < p.discountDen by omega)
  have i1 := Rat.mul_inv_cancel ((wtT p s (l.getD s 0) : Int) : Rat) (by grind)
  have i2 := Rat.mul_inv_cancel (p.discountDen : Rat) (by grind)
  unfold cI eqF
  by_cases c1 : j < p.stateCount
  · simp only [c1, if_true, pP, Kp389.probability, Kp389.discount]
    rw [← wtD_rat, ← wtT_rat, Rat.intCast_natCast, Rat.div_def, Rat.div_def]
    by_cases c2 : j = s
    · subst c2
      simp only [eqI, c1, if_true, Rat.intCast_add, Rat.intCast_mul, Rat.intCast_neg, Rat.intCast_natCast]
      generalize ((wtT p j (l.getD j 0) : Int) : Rat) = T at *
      generalize ((wtD p j (l.getD j 0) j : Int) : Rat) = W at *
      generalize (p.discountDen : Rat) = d at *
      generalize (p.discountNum : Rat) = g at *
      grind
    · have c3 : ¬ s = j := fun h => c2 h.symm
      simp only [eqI, c1, c2, c3, if_true, if_false, Rat.intCast_mul, Rat.intCast_neg, Rat.intCast_natCast]
      generalize ((wtT p s (l.getD s 0) : Int) : Rat) = T at *
      generalize ((wtD p s (l.getD s 0) j : Int) : Rat) = W at *
      generalize (p.discountDen : Rat) = d at *
      generalize (p.discountNum : Rat) = g at *
      grind
  · have hjn : j = p.stateCount := by omega
    simp only [c1, if_false, pR, eqI, Rat.intCast_mul, Rat.intCast_natCast]
    rw [wrS_rat]
    have : Kp389.expectedReward p t s (l.getD s 0) = ((wtT p s (l.getD s 0) : Int) : Rat)⁻¹ * rs p.stateCount (fun q => ((wtD p s (l.getD s 0) q : Int) : Rat) * ((Kp389.reward p t s (l.getD s 0) q : Int) : Rat)) := by
      rw [← rs_mul]
      unfold Kp389.expectedReward Kp389.states
      show rs p.stateCount (fun q => Kp389.probability p s (l.getD s 0) q * ((Kp389.reward p t s (l.getD s 0) q : Int) : Rat)) = _
      apply rs_congr
      intro q _
      unfold Kp389.probability
      rw [← wtD_rat, ← wtT_rat, Rat.div_def]
      grind
    rw [this]
    grind
theorem sysOk {p : Kp389.Process} (h : WF p) (t : Nat) {l : List Nat} (hl : polOk p l) : SysOk p.stateCount (fun s j => if s < p.stateCount then eqI p t s (l.getD s 0) j else 0) (eqF p t l) (cI p l) := by
  refine ⟨by have := h.n2; omega, h.n4, ?_, ?_, eqF_dom h t hl, ?_⟩
  · intro s hs
    have hT := wtT_le h hs (hl.2 s hs)
    have := h.gh
    unfold cI
    refine Rat.mul_pos ?_ ?_
    · rw [Rat.intCast_natCast]; exact_mod_cast (show 0 < p.discountDen by omega)
    · exact_mod_cast (show 0 < wtT p s (l.getD s 0) by omega)
  · intro s hs j hj
    simp only [hs, if_true]
    exact eqI_rat h t hl hs hj
  · intro s j
    by_cases hs : s < p.stateCount
    · simp only [hs, if_true]; exact eqI_le h t hs (hl.2 s hs) j
    · simp only [hs, if_false]; decide
theorem val_elim {p : Kp389.Process} (h : WF p) (t : Nat) {l : List Nat} (hl : polOk p l) {i : Nat} (hi : i < p.stateCount) : elimAll (eqF p t l) p.stateCount i p.stateCount = pV p t l i := by
  unfold pV; rw [polVals h t hl, rm_getD _ hi]

/-! ### all policies -/
def apL (m : Nat) : Nat → List (List Nat)
  | 0 => [[]]
  | k + 1 => (apL m k).flatMap fun l => (List.range m).map fun a => l ++ [a]
theorem apL_len (m : Nat) : ∀ k, (apL m k).length = m ^ k
  | 0 => rfl
  | k + 1 => by
    unfold apL
    rw [len2', apL_len m k, Nat.pow_succ]
where len2' : ∀ {m : Nat} {ls : List (List Nat)}, (ls.flatMap fun l => (List.range m).map fun a => l ++ [a]).length = ls.length * m
  | m, [] => by simp
  | m, x :: r => by rw [List.flatMap_cons, List.length_append, len2' (ls := r)]; simp [Nat.succ_mul]; omega
theorem mem_apL {m : Nat} : ∀ {k : Nat} {l : List Nat}, l ∈ apL m k ↔ l.length = k ∧ ∀ x ∈ l, x < m
  | 0, l => by
    unfold apL
    simp only [List.mem_singleton]
    constructor
    · intro h; subst h; simp
    · intro h; exact List.length_eq_zero_iff.mp h.1
  | k + 1, l => by
    unfold apL
    simp only [List.mem_flatMap, List.mem_map, List.mem_range]
    constructor
    · rintro ⟨l0, h0, a, ha, rfl⟩
      obtain ⟨h1, h2⟩ := mem_apL.mp h0
      refine ⟨by simp [h1], fun x hx => ?_⟩
      rcases List.mem_append.mp hx with hx | hx
      · exact h2 x hx
      · have : x = a := by simpa using hx
        omega
    · rintro ⟨h1, h2⟩
      have hne : l ≠ [] := by intro e; subst e; simp at h1
      refine ⟨l.dropLast, mem_apL.mpr ⟨by simp [h1], fun x hx => h2 x (List.dropLast_subset l hx)⟩, l.getLast hne, h2 _ (List.getLast_mem hne), ?_⟩
      exact List.dropLast_concat_getLast hne
theorem polOk_apL {p : Kp389.Process} {l : List Nat} : polOk p l ↔ l ∈ apL p.actionCount p.stateCount := by
  rw [polOk_iff, mem_vectors, mem_apL]

/-! ### the greatest of several -/
def bestOf (f : List Nat → Rat) (x : Rat) (ls : List (List Nat)) : Rat := ls.foldl (fun b l => if f l ≤ b then b else f l) x
theorem bestOf_spec (f : List Nat → Rat) : ∀ (ls : List (List Nat)) (x : Rat), x ≤ bestOf f x ls ∧ (∀ l ∈ ls, f l ≤ bestOf f x ls) ∧ (bestOf f x ls = x ∨ ∃ l ∈ ls, bestOf f x ls = f l)
  | [], x => ⟨Rat.le_refl, (fun l hl => by cases hl), Or.inl rfl⟩
  | a :: r, x => by
    have e : bestOf f x (a :: r) = bestOf f (if f a ≤ x then x else f a) r := rfl
    rw [e]
    by_cases h : f a ≤ x
    · rw [if_pos h]
      obtain ⟨h1, h2, h3⟩ := bestOf_spec f r x
      refine ⟨h1, fun l hl => ?_, h3.imp id fun ⟨l, hl, e⟩ => ⟨l, List.mem_cons_of_mem _ hl, e⟩⟩
      rcases List.mem_cons.mp hl with rfl | hl
      · exact Rat.le_trans h h1
      · exact h2 l hl
    · rw [if_neg h]
      obtain ⟨h1, h2, h3⟩ := bestOf_spec f r (f a)
      refine ⟨by grind, fun l hl => ?_, ?_⟩
      · rcases List.mem_cons.mp hl with rfl | hl
        · exact h1
        · exact h2 l hl
      · rcases h3 with h3 | ⟨l, hl, e⟩
        · exact Or.inr ⟨a, List.mem_cons_self, h3⟩
        · exact Or.inr ⟨l, List.mem_cons_of_mem _ hl, e⟩
/-- over all policies it is the optimal value -/
theorem best_is {p : Kp389.Process} (h : WF p) (t : Nat) {l0 : List Nat} {ls : List (List Nat)} (hls : l0 :: ls = apL p.actionCount p.stateCount) {s : Nat} (hs : s < p.stateCount) : bestOf (fun l => pV p t l s) (pV p t l0 s) ls = oV p t s := by
  obtain ⟨h1, h2, h3⟩ := bestOf_spec (fun l => pV p t l s) ls (pV p t l0 s)
  have hok : ∀ l, l ∈ l0 :: ls → polOk p l := fun l hl => polOk_apL.mpr (hls ▸ hl)
  apply Rat.le_antisymm
  · rcases h3 with h3 | ⟨l, hl, h3⟩
    · rw [h3]; exact pV_le_oV h t (hok l0 List.mem_cons_self) s hs
    · rw [h3]; exact pV_le_oV h t (hok l (List.mem_cons_of_mem _ hl)) s hs
  · obtain ⟨l, hl, he⟩ := oV_attained h t
    rw [← he s hs]
    have := polOk_apL.mp hl
    rw [← hls] at this
    rcases List.mem_cons.mp this with rfl | hm
    · exact h1
    · exact h2 l hm

def spValuesUnder (K : PySem.W.Frag) (C : Addr) : Sp := spO fun vs H n R => ∃ (L : Lay) (p : Kp389.Process) (t : Nat) (a : Addr) (l : List Nat), vs = [.ref L.a, .int (t : Int), .ref a] ∧ Mdl C H L p ∧ t ≤ 1 ∧ SqL K H a (nV l) ∧ polOk p l ∧ n = p.stateCount ∧ R = fun i q H => FrAt 1000 H q (pV p t l i)
def spEveryRow : Sp := spO fun vs H n R => ∃ (k m : Nat), vs = [.int (k : Int), .int (m : Int)] ∧ 1 ≤ m ∧ m ≤ 1000 ∧ k ≤ 1000 ∧ m ^ k ≤ 1000 ∧ n = (apL m k).length ∧ R = fun i q H => H q = some (.lst (nV ((apL m k).getD i [])))
def spBestValues (C : Addr) : Sp := spO fun vs H n R => ∃ (L : Lay) (p : Kp389.Process) (t : Nat), vs = [.ref L.a, .int (t : Int)] ∧ Mdl C H L p ∧ t ≤ 1 ∧ n = p.stateCount ∧ R = fun i q H => FrAt 1000 H q (oV p t i)

section
variable {P : Program} {w : World} {K : PySem.W.Frag} {mg : Str → Option Value} {base : Heap} {C fi aN aW : Addr} {σ : L2.St} {H H' : Hp} {ta tb te tl : TE} {L : Lay} {p : Kp389.Process}
theorem EvLR.imp {n : Nat} {R R' : Nat → Addr → Hp → Prop} (h : EvLR te σ H n R) (i : ∀ k q H', k < n → R k q H' → R' k q H') : EvLR te σ H n R' := fun H1 e Q q => h H1 e Q fun p ws H2 np e2 hl hp hr => q p ws H2 np e2 hl hp fun k x hk => i k x H2 (by have := (List.getElem?_eq_some_iff.mp hk).1; omega) (hr k x hk)
/-- f(a new list of objects) -/
theorem elr_call1 {S : List V → Hp → Nat → (Nat → Addr → Hp → Prop) → Prop} {E : XK} {m n : Nat} {R R' : Nat → Addr → Hp → Prop} (h : EvLR tl σ H m R')
    (hs : ∀ (p : Addr) (ws : List Addr) H1, Ex H H1 → ws.length = m → H1 p = some (.lst (ws.map V.ref)) → (∀ (i : Nat) (q : Addr), ws[i]? = some q → R' i q H1) → S [.ref p] H1 n R) : EvLR (tCall (spO S) [] E (tCons tl tNil)) σ H n R := fun H1 e Q q =>
  h H1 e _ fun p ws H2 np e2 hl hp hr => ⟨n, R, hs p ws H2 (e.trans e2) hl hp hr, fun p3 us H3 n3 e3 hl3 hp3 hr3 => q p3 us H3 (fresh_back e2 n3) (e2.trans e3) hl3 hp3 hr3⟩

def dfValuesUnder (T : Txt K mg C fi) (dEquation : Df P w K mg base "equation" 4 ["model", "table", "state", "action"] (spEquation C)) (dSolution : Df P w K mg base "solution" 2 ["rows"] (spSolution K)) (r : Rw K mg "values_under" sValuesUnder) : Df P w K mg base "values_under" 5 ["model", "table", "policy"] (spValuesUnder K C) :=
  r.df (k := 4) scValuesUnder (fun _ _ _ _ _ _ us hl => match us, hl with | [_, _, _], _ => rfl)
  (fun vs H Q E h => by obtain ⟨_, _, ⟨_, _, _, _, _, rfl, _⟩, _⟩ := h; rfl) (fun cdv A outer s H vs Q E hr h => by
    obtain ⟨_, _, ⟨L, p, t, a, l, rfl, M, ht, hl, hok, rfl, rfl⟩, q⟩ := h
    refine ⟨_, (pss_one (ps_ret (pe_call dSolution.ok (hr.mono (by decide)) rfl dSolution.g dSolution.kp dSolution.b .nil pass0 (pa_cons (pe_lc (own := [("state", 3), ("action", 4)]) (g := gPair K 3 4) (tt := tYes) rfl scValuesUnder.nd (pi_enum (by rfl) T.n_enumerate (pa_cons (pv 2) pa_nil)) (blkOk_by (N := ["model", "table", "policy", "state", "action"]) (sc := defScope sValuesUnder) (by decide +kernel)) (fun _ _ _ _ _ => (pg_pairK K (by rfl) rfl (pg_name (i := 3) scValuesUnder.nd rfl (by first | exact Or.inl rfl | exact Or.inr rfl)) (pg_name (i := 4) scValuesUnder.nd rfl (by first | exact Or.inl rfl | exact Or.inr rfl)))) (fun _ _ _ _ _ => pts_nil) (fun _ _ _ _ _ => (pe_call dEquation.ok (hr.mono (by decide)) rfl dEquation.g dEquation.kp dEquation.b .nil pass0 (pa_cons (pv 0) (pa_cons (pv 1) (pa_cons (pv 3) (pa_cons (pv 4) pa_nil))))))) pa_nil)))), ?_⟩
    have hn := M.wf.n4
    have hE : EvLR (tLc (iEnum K (tCons (tVar 2) tNil)) (gPair K 3 4) tYes (tCall (spEquation C) [] E0 (tCons (tVar 0) (tCons (tVar 1) (tCons (tVar 3) (tCons (tVar 4) tNil))))) [3, 4])
        (start ["model", "table", "policy", "state", "action"] [.ref L.a, .int (t : Int), .ref a]) H (nV l).length (fun i q H => H q = some (.lst (iV (eqRow p t i (l.getD i 0))))) := by
      refine elr_E (fun i => flat_L) (ea_cons (ev_var rfl) ea_nil) hl (by rw [nV_len, hok.1]; omega) (fun _ _ => rfl) fun i x hx => ?_
      have hi : i < p.stateCount := by
        have := (List.getElem?_eq_some_iff.mp hx).1
        rw [nV_len, hok.1] at this; exact this
      have hx := nat_ix hx
      subst hx
      exact eo_L (el_call (ea_cons (ev_var rfl) (ea_cons (ev_var rfl) (ea_cons (ev_var rfl) (ea_cons (ev_var rfl) ea_nil)))) (spL_use fun H1 e1 => ⟨L, p, t, i, l.getD i 0, rfl, M.mono e1, ht, hi, hok.2 i hi, rfl⟩)) (fun _ _ h => h)
    rw [nV_len, hok.1] at hE
    refine s_retO (n := p.stateCount) (R := fun i q H => FrAt 1000 H q (pV p t l i)) ((elr_call1 hE (R := fun i q H => FrAt 1000 H q (elimAll (eqF p t l) p.stateCount i p.stateCount)) fun p1 ws H1 e1 hwl hp1 hws => ?_).imp fun k q H' hk hr => by rw [← val_elim M.wf t hok hk]; exact hr) q
    refine ⟨p1, ws, _, eqF p t l, cI p l, rfl, sq_of hp1, hwl, fun i r hi => ?_, sysOk M.wf t hok, rfl⟩
    have hlt : i < p.stateCount := by
      have := (List.getElem?_eq_some_iff.mp hi).1
      omega
    rw [hws i r hi]
    unfold eqRow rowOf
    simp only [hlt, if_true])

/-- xs + ys, the first one standing, the second one new -/
theorem el_catR {xs ys : List V} {q : Addr} (ha : Ev ta σ H (.ref q)) (hq : H q = some (.lst xs)) (hb : EvL tb σ H ys) (hl : xs.length + ys.length ≤ 100000) : EvL (tOp rCat ta tb) σ H (xs ++ ys) := fun H1 e Q k =>
  ha H1 e _ fun H2 e2 => hb H2 (e.trans e2) _ fun p H3 np e3 hp => ⟨q, p, xs, ys, rfl, rfl, e3 _ _ (e2 _ _ (e _ _ hq)), hp, sz_of hl, fun r hr => k r _ (fresh_back (e2.trans e3) hr) ((e2.trans e3).trans (Ex.new hr)) upd_same⟩
/-- rows that lie at these places, none of them at g -/
def RowsN (g : Addr) (H : Hp) (ws : List Addr) (ls : List (List Nat)) : Prop := ws.length = ls.length ∧ ∀ (i : Nat) (r : Addr) (l : List Nat), ws[i]? = some r → ls[i]? = some l → r ≠ g ∧ H r = some (.lst (nV l))
theorem RowsN.mono {g : Addr} {ws : List Addr} {ls : List (List Nat)} (h : RowsN g H ws ls) (e : Ex H H') : RowsN g H' ws ls := ⟨h.1, fun i r l h1 h2 => ⟨(h.2 i r l h1 h2).1, e _ _ (h.2 i r l h1 h2).2⟩⟩
theorem RowsN.upd {g : Addr} {ws : List Addr} {ls : List (List Nat)} {o : HO} (h : RowsN g H ws ls) : RowsN g (L2.upd H g o) ws ls := ⟨h.1, fun i r l h1 h2 => ⟨(h.2 i r l h1 h2).1, by rw [upd_ne (h.2 i r l h1 h2).1]; exact (h.2 i r l h1 h2).2⟩⟩
theorem RowsN.more {g r : Addr} {ws : List Addr} {ls : List (List Nat)} {l : List Nat} (h : RowsN g H ws ls) (hr : r ≠ g) (hl : H r = some (.lst (nV l))) : RowsN g H (ws ++ [r]) (ls ++ [l]) := by
  refine ⟨by simp [h.1], fun i r' l' h1 h2 => ?_⟩
  by_cases hi : i < ws.length
  · rw [List.getElem?_append_left hi] at h1
    rw [List.getElem?_append_left (by rw [← h.1]; exact hi)] at h2
    exact h.2 i r' l' h1 h2
  · have hi2 : i = ws.length := by
      have := (List.getElem?_eq_some_iff.mp h1).1
      simp at this; omega
    subst hi2
    have h1 : r = r' := by simpa using h1
    have h2 : l = l' := by rw [h.1] at h2; simpa using h2
    subst h1 h2; exact ⟨hr, hl⟩
theorem pow_le81 (h : WF p) {k : Nat} (hk : k ≤ p.stateCount) : p.actionCount ^ k ≤ 81 := by
  have h2 : p.actionCount ^ k ≤ 3 ^ k := Nat.pow_le_pow_left h.m3 _
  have h3 : 3 ^ k ≤ 3 ^ 4 := Nat.pow_le_pow_right (by omega) (by have := h.n4; omega)
  omega
/-- [xs] of a new xs -/
theorem elr_one {xs : List V} (h : EvL te σ H xs) : EvLR (tLst (tCons te tNil)) σ H 1 (fun _ q H => H q = some (.lst xs)) := fun H1 e Q q => h H1 e _ fun r H2 nr e2 hr => ⟨sz_of (by simp), fun p np =>
  q p [r] _ (fresh_back e2 np) (e2.trans (Ex.new np)) rfl upd_same fun i x hx => by
    have hi : i = 0 := by
      have := (List.getElem?_eq_some_iff.mp hx).1
      simp at this; omega
    subst hi
    have hx : r = x := Option.some.inj hx
    subst hx
    show (upd H2 p (.lst [.ref r])) r = _
    rw [upd_ne (show r ≠ p from fun e => by rw [← e, hr] at np; cases np)]; exact hr⟩
def dfEveryRow (T : Txt K mg C fi) (r : Rw K mg "every_row" sEveryRow) : Df P w K mg base "every_row" 1 ["length", "beyond"] spEveryRow :=
  r.df (k := 0) scEveryRow (fun _ _ _ _ _ _ us hl => match us, hl with | [_, _], _ => rfl)
  (fun vs H Q E h => by obtain ⟨_, _, ⟨_, _, rfl, _⟩, _⟩ := h; rfl) (fun cdv A outer s H vs Q E hr h => by
    obtain ⟨_, _, ⟨kk, m, rfl, hm1, hm, hk0, hmk, rfl, rfl⟩, q⟩ := h
    refine ⟨_, (pss_cons (ps_set (i := 2) scEveryRow.nd rfl (by first | exact Or.inl rfl | exact Or.inr rfl) (pe_lst (pa_cons (pe_lst pa_nil) pa_nil)))
      (pss_cons (ps_for PassesOwn.never rfl (pi_range1 rfl T.n_range (pa_cons (pv 0) pa_nil)) (pg_name (i := 3) scEveryRow.nd rfl (by first | exact Or.inl rfl | exact Or.inr rfl)) (pss_cons (ps_set (i := 4) scEveryRow.nd rfl (by first | exact Or.inl rfl | exact Or.inr rfl) (pe_lst pa_nil))
      (pss_cons (ps_for PassesOwn.never rfl (pi_list (pv 2)) (pg_name (i := 5) scEveryRow.nd rfl (by first | exact Or.inl rfl | exact Or.inr rfl)) (pss_one (ps_for PassesOwn.never rfl (pi_range1 rfl T.n_range (pa_cons (pv 1) pa_nil)) (pg_name (i := 6) scEveryRow.nd rfl (by first | exact Or.inl rfl | exact Or.inr rfl)) (pss_one (ps_expr (pe_bm PySem.F.plainAttrs_list PySem.F.slot_list_append PySem.F.type_list_append mt_append (pv 4) (pa_cons (pe_op op_cat (pv 5) (pe_lst (pa_cons (pv 6) pa_nil))) pa_nil)))))))
      (pss_one (ps_set (i := 2) scEveryRow.nd rfl (by first | exact Or.inl rfl | exact Or.inr rfl) (pv 4))))))
      (pss_one (ps_ret (pv 2))))), ?_⟩
    have hpw : ∀ j, j ≤ kk → m ^ j ≤ 1000 := fun j hj => Nat.le_trans (Nat.pow_le_pow_right hm1 hj) hmk
    -- rows = [[]]
    refine q_asgO (elr_one (xs := []) (el_lst ea_nil (by simp))) fun p0 ws0 H1 np0 E1 hwl0 hp0 hws0 => ?_
    refine q_forR1 (n := (kk : Int)) (ea_cons (ev_var rfl) ea_nil) (by omega)
      (fun k σ' H' => ∃ (cA : Addr) (ws : List Addr) (g : Addr), (∃ v2 v3 v4 v5, σ' = [some (.int (kk : Int)), some (.int (m : Int)), some (.ref cA), v2, v3, v4, v5]) ∧ Ex H H' ∧ H cA = none ∧ H' cA = some (.lst (ws.map V.ref)) ∧ RowsN g H' ws (apL m k))
      (fun H2 e2 => ⟨p0, ws0, p0, ⟨none, none, none, none, rfl⟩, E1.trans e2, np0, e2 _ _ hp0, hwl0, fun i r l h1 h2 => ?_⟩) ?_ ?_
    · have hi : i = 0 := by
        have := (List.getElem?_eq_some_iff.mp h1).1
        omega
      have hr := hws0 i r h1
      subst hi
      have h2 : [] = l := Option.some.inj h2
      subst h2
      refine ⟨fun e => ?_, e2 _ _ hr⟩
      rw [e, hp0] at hr
      have h3 : ws0.map V.ref = [] := HO.lst.inj (Option.some.inj hr)
      have h4 := congrArg List.length h3
      simp [hwl0] at h4
    · rintro k σ1 H1 hk ⟨cA, ws, g, ⟨v2, v3, v4, v5, rfl⟩, e1, ncA, hcA, hws⟩
      have hk : k < kk := by omega
      have hpow := hpw k (by omega)
      have hpow1 := hpw (k + 1) (by omega)
      rw [Nat.pow_succ] at hpow1
      have hwl : ws.length ≤ 1000 := by rw [hws.1, apL_len]; exact hpow
      refine q_asgL (el_lst ea_nil (by simp)) fun ld H2 nld e2 hld => ?_
      have hcA2 := e2 _ _ hcA
      have ncl : cA ≠ ld := fun e => by rw [← e, hcA] at nld; cases nld
      -- the new ones, each behind an old one
      refine q_forLn (a := cA) (xs := ws.map V.ref) (ev_var rfl) (sq_of hcA2)
        (fun i σ' H' => ∃ (us : List Addr), (∃ v4 v5, σ' = [some (.int (kk : Int)), some (.int (m : Int)), some (.ref cA), some (.int (k : Int)), some (.ref ld), v4, v5]) ∧ Ex H1 H' ∧ H' ld = some (.lst (us.map V.ref)) ∧ RowsN ld H' us (((apL m k).take i).flatMap fun l => (List.range m).map fun a => l ++ [a]))
        (fun H3 e3 => ⟨[], ⟨v4, v5, rfl⟩, e2.trans e3, e3 _ _ hld, by simp, fun i r l h1 _ => by simp at h1⟩)
        (fun i σ' H' _ hp => by obtain ⟨us, _, e, _⟩ := hp; exact sq_of (e _ _ hcA)) ?_ ?_
      · rintro i x σ2 H3 hi ⟨us, ⟨v4, v5, rfl⟩, e3, h3, hus⟩
        rw [List.getElem?_map] at hi
        cases hwi : ws[i]? with
        | none => rw [hwi] at hi; cases hi
        | some r =>
          rw [hwi] at hi
          have hi := Option.some.inj hi
          subst hi
          have hilt := (List.getElem?_eq_some_iff.mp hwi).1
          have hil : i < (apL m k).length := by rw [← hws.1]; exact hilt
          have hli : (apL m k)[i]? = some (apL m k)[i] := List.getElem?_eq_getElem hil
          obtain ⟨_, hrr⟩ := hws.2 i r _ hwi hli
          have hll := (mem_apL.mp (List.getElem_mem hil)).1
          refine s_forR1 (n := (m : Int)) (ea_cons (ev_var rfl) ea_nil) (by omega)
            (fun j σ' H' => ∃ (us : List Addr), (∃ v5, σ' = [some (.int (kk : Int)), some (.int (m : Int)), some (.ref cA), some (.int (k : Int)), some (.ref ld), some (.ref r), v5]) ∧ Ex H1 H' ∧ H' ld = some (.lst (us.map V.ref)) ∧
              RowsN ld H' us ((((apL m k).take i).flatMap fun l => (List.range m).map fun a => l ++ [a]) ++ (List.range j).map fun a => (apL m k)[i] ++ [a]))
            (fun H4 e4 => ⟨us, ⟨v5, rfl⟩, e3.trans e4, e4 _ _ h3, by simpa using hus.mono e4⟩) ?_ ?_
          · rintro j σ3 H4 hj ⟨us, ⟨v5, rfl⟩, e4, h4, hus4⟩
            have hj : j < m := by omega
            have hrow := e4 _ _ hrr
            have hul : us.length < 3000 := by
              rw [hus4.1, List.length_append, apL_len.len2', List.length_map, List.length_range, List.length_take, apL_len]
              have h1 : min i (m ^ k) * m ≤ m ^ k * m := Nat.mul_le_mul_right m (Nat.min_le_right _ _)
              omega
            refine s_appL (ys := nV ((apL m k)[i] ++ [j])) h4 (ev_var rfl) ?_ (by simp; omega) fun nr H5 nnr e5 hnr => ?_
            · have : nV ((apL m k)[i] ++ [j]) = nV (apL m k)[i] ++ [.int (j : Int)] := by simp [nV]
              rw [this]
              exact el_catR (ev_var rfl) hrow (el_lst (ea_cons (ev_var rfl) ea_nil) (by simp)) (by rw [nV_len, hll]; simp; omega)
            · have nn : nr ≠ ld := ne_new h4 nnr
              refine ⟨us ++ [nr], ⟨_, rfl⟩, Ex.mut (e4.trans e5) nld, by rw [upd_same]; simp, ?_⟩
              rw [range_map, ← List.append_assoc]
              exact ((hus4.mono e5).more nn hnr).upd
          · rintro σ3 H4 ⟨us, ⟨v5, rfl⟩, e4, h4, hus4⟩
            refine ⟨us, ⟨_, _, rfl⟩, e4, h4, ?_⟩
            have : (apL m k).take (i + 1) = (apL m k).take i ++ [(apL m k)[i]] := by rw [List.take_add_one, hli]; rfl
            rw [this, List.flatMap_append]
            simpa using hus4
      · rintro σ2 H3 ⟨us, ⟨v4, v5, rfl⟩, e3, h3, hus⟩
        refine s_asg (ev_var rfl) fun H4 e4 => ?_
        refine ⟨ld, us, ld, ⟨_, _, _, _, rfl⟩, (e1.trans e3).trans e4, fresh_back e1 nld, e4 _ _ h3, ?_⟩
        have : (ws.map V.ref).length = (apL m k).length := by simp [hws.1]
        rw [this, List.take_length] at hus
        exact hus.mono e4
    · rintro σ1 H1 ⟨cA, ws, g, ⟨v2, v3, v4, v5, rfl⟩, e1, ncA, hcA, hws⟩
      simp only [Int.toNat_natCast] at hws
      refine s_ret (ev_var rfl) fun H2 e2 => q cA ws H2 ncA (e1.trans e2) hws.1 (e2 _ _ hcA) fun i r hi => ?_
      have hil : i < (apL m kk).length := by rw [← hws.1]; exact (List.getElem?_eq_some_iff.mp hi).1
      have := e2 _ _ (hws.2 i r _ hi (List.getElem?_eq_getElem hil)).2
      show H2 r = _
      rw [this]; simp [List.getD, List.getElem?_eq_getElem hil])
/-- arguments, the last one of them f(..): what is reckoned of them -/
def dfBestValues (T : Txt K mg C fi) (dEveryRow : Df P w K mg base "every_row" 1 ["length", "beyond"] spEveryRow) (dValuesUnder : Df P w K mg base "values_under" 5 ["model", "table", "policy"] (spValuesUnder K C)) (dGreater : Df P w K mg base "greater" 1 ["first", "second"] spGreater) (r : Rw K mg "best_values" sBestValues) : Df P w K mg base "best_values" 6 ["model", "table"] (spBestValues C) :=
  r.df (k := 5) scBestValues (fun _ _ _ _ _ _ us hl => match us, hl with | [_, _], _ => rfl)
  (fun vs H Q E h => by obtain ⟨_, _, ⟨_, _, _, rfl, _⟩, _⟩ := h; rfl) (fun cdv A outer s H vs Q E hr h => by
    obtain ⟨_, _, ⟨L, p, t, rfl, M, ht, rfl, rfl⟩, q⟩ := h
    refine ⟨_, (pss_cons (ps_set (i := 2) scBestValues.nd rfl (by first | exact Or.inl rfl | exact Or.inr rfl) (pe_call dEveryRow.ok (hr.mono (by decide)) rfl dEveryRow.g dEveryRow.kp dEveryRow.b .nil pass0 (pa_cons (pe_fldK K (by rfl) (pv 0) (by rfl)) (pa_cons (pe_fldK K (by rfl) (pv 0) (by rfl)) pa_nil))))
      (pss_cons (ps_set (i := 3) scBestValues.nd rfl (by first | exact Or.inl rfl | exact Or.inr rfl) (pe_call dValuesUnder.ok (hr.mono (by decide)) rfl dValuesUnder.g dValuesUnder.kp dValuesUnder.b .nil pass0 (pa_cons (pv 0) (pa_cons (pv 1) (pa_cons (pe_ix (ix_listK K (by rfl)) (pv 2) pe_int (fun _ _ => rfl)) pa_nil)))))
      (pss_cons (ps_for PassesOwn.never rfl (pi_list (pe_slice (sl_listK K (by rfl)) (pv 2) (po_some pe_int) po_none)) (pg_name (i := 4) scBestValues.nd rfl (by first | exact Or.inl rfl | exact Or.inr rfl)) (pss_one (ps_setLc (i := 3) (own := [("old", 5), ("new", 6)]) (g := gPair K 5 6) (tt := tYes) rfl scBestValues.nd rfl rfl (sw_true rfl rfl rfl (by decide +kernel)) (pi_zip (by rfl) T.n_zip (pa_cons (pv 3) (pa_cons (pe_call dValuesUnder.ok (hr.mono (by decide)) rfl dValuesUnder.g dValuesUnder.kp dValuesUnder.b .nil pass0 (pa_cons (pv 0) (pa_cons (pv 1) (pa_cons (pv 4) pa_nil)))) pa_nil))) (blkOk_by (N := ["model", "table", "policies", "best", "policy", "old", "new"]) (sc := defScope sBestValues) (by decide +kernel)) (fun _ _ _ _ _ => (pg_pairK K (by rfl) rfl (pg_name (i := 5) scBestValues.nd rfl (by first | exact Or.inl rfl | exact Or.inr rfl)) (pg_name (i := 6) scBestValues.nd rfl (by first | exact Or.inl rfl | exact Or.inr rfl)))) (fun _ _ _ _ _ => pts_nil) (fun _ _ _ _ _ => (pe_call dGreater.ok (hr.mono (by decide)) rfl dGreater.g dGreater.kp dGreater.b .nil pass0 (pa_cons (pv 5) (pa_cons (pv 6) pa_nil)))))))
      (pss_one (ps_ret (pv 3)))))), ?_⟩
    have hn := M.wf.n4
    have hpow := pow_le81 M.wf (Nat.le_refl p.stateCount)
    have hpos : 0 < p.actionCount ^ p.stateCount := Nat.pow_pos (by have := M.wf.m1; omega)
    refine q_asgO (elr_call (n := (apL p.actionCount p.stateCount).length) (R := fun i q H => H q = some (.lst (nV ((apL p.actionCount p.stateCount).getD i [])))) (vs := [.int (p.stateCount : Int), .int (p.actionCount : Int)]) (ea_cons (ev_f1 T M (ev_var rfl)) (ea_cons (ev_f2 T M (ev_var rfl)) ea_nil)) fun H1 e1 => ⟨p.stateCount, p.actionCount, rfl, M.wf.m1, by have := M.wf.m3; omega, by omega, by omega, rfl, rfl⟩) fun pa ps H1 npa e1 hpl hpa hps => ?_
    cases hap : apL p.actionCount p.stateCount with
    | nil =>
      have := apL_len p.actionCount p.stateCount
      rw [hap] at this; simp at this; omega
    | cons l0 ls =>
      have hlen : (l0 :: ls).length = p.actionCount ^ p.stateCount := by rw [← hap]; exact apL_len _ _
      rw [hap] at hpl hps
      have hok : ∀ l ∈ l0 :: ls, polOk p l := fun l hl => polOk_apL.mpr (by rw [hap]; exact hl)
      have M1 := M.mono e1
      have h00 : 0 < ps.length := by rw [hpl]; simp
      have hp0 : ps[0]? = some ps[0] := List.getElem?_eq_getElem h00
      have hr0 : H1 ps[0] = some (.lst (nV l0)) := hps 0 _ hp0
      -- best = values_under(model, table, policies[0])
      refine q_asgO (elr_call (n := p.stateCount) (R := fun i q H => FrAt 1000 H q (pV p t l0 i)) (vs := [.ref L.a, .int (t : Int), .ref ps[0]]) (ea_cons (ev_var rfl) (ea_cons (ev_var rfl) (ea_cons (ev_op (ev_var rfl) ev_c (rv_ixL (sq_of hpa) (atI_nat (j := 0) (by rw [List.getElem?_map, hp0]; rfl)))) ea_nil)))
        fun H2 e2 => ⟨L, p, t, ps[0], l0, rfl, M1.mono e2, ht, sq_of (e2 _ _ hr0), hok l0 List.mem_cons_self, rfl, rfl⟩) fun pb bs H2 npb e2 hbl hpb hbs => ?_
      have hcut : cutV (ps.map V.ref) (some (1 : Int)) none = (ps.drop 1).map V.ref := by
        unfold cutV
        rw [show HT.sIx (ps.map V.ref).length 0 (some (1 : Int)) = min 1 (ps.map V.ref).length from HT.sIx_nat (ps.map V.ref).length 0 1, HT.sIx_none, List.length_map, Nat.min_eq_left (by omega), List.map_drop]
        rw [List.take_of_length_le (by simp)]
      refine q_forNLn (xs := (ps.drop 1).map V.ref) (by rw [← hcut]; exact el_sl (ev_var rfl) (eo_some ev_c) eo_none (sq_of (e2 _ _ hpa)))
        (fun sl i σ' H' => ∃ (cb : Addr) (cs : List Addr), (∃ v4 v5 v6, σ' = [some (.ref L.a), some (.int (t : Int)), some (.ref pa), some (.ref cb), v4, v5, v6]) ∧ Ex H1 H' ∧ H1 cb = none ∧ H' sl = some (.lst ((ps.drop 1).map V.ref)) ∧ H' cb = some (.lst (cs.map V.ref)) ∧ cs.length = p.stateCount ∧
          ∀ (s : Nat) (r : Addr), cs[s]? = some r → FrAt 1000 H' r (bestOf (fun l => pV p t l s) (pV p t l0 s) (ls.take i)))
        (fun sl H3 nsl e3 hsl => ⟨pb, bs, ⟨none, none, none, rfl⟩, e2.trans e3, npb, hsl, e3 _ _ hpb, hbl, fun s r hs => (hbs s r hs).mono e3⟩)
        (fun sl i σ' H' _ hp => by obtain ⟨_, _, _, _, _, h, _⟩ := hp; exact sq_of h) ?_ ?_
      · rintro sl i x σ1 H3 hi ⟨cb, cs, ⟨v4, v5, v6, rfl⟩, e3, ncb, hsl, hcb, hcl, hcs⟩
        rw [List.getElem?_map, List.getElem?_drop] at hi
        cases hpi : ps[1 + i]? with
        | none => rw [hpi] at hi; cases hi
        | some r =>
          rw [hpi] at hi
          have hi := Option.some.inj hi
          subst hi
          have hil : i < ls.length := by
            have := (List.getElem?_eq_some_iff.mp hpi).1
            rw [hpl] at this; simp at this; omega
          have hli : ls[i]? = some ls[i] := List.getElem?_eq_getElem hil
          have hrow : H3 r = some (.lst (nV ls[i])) := by
            have := hps (1 + i) r hpi
            have e : (l0 :: ls).getD (1 + i) [] = ls[i] := by rw [Nat.add_comm]; simp [List.getD, hli]
            rw [e] at this
            exact e3 _ _ this
          have hoki := hok ls[i] (List.mem_cons_of_mem _ (List.getElem_mem hil))
          have M3 := M.mono (e1.trans e3)
          have hZ : EvLR (tLc (iZip K (tCons (tVar 3) (tCons (tCall (spValuesUnder K C) [] E0 (tCons (tVar 0) (tCons (tVar 1) (tCons (tVar 4) tNil)))) tNil))) (gPair K 5 6) tYes (tCall spGreater [] E0 (tCons (tVar 5) (tCons (tVar 6) tNil))) [5, 6])
              [some (.ref L.a), some (.int (t : Int)), some (.ref pa), some (.ref cb), some (.ref r), v5, v6] H3 p.stateCount (fun s q H => FrAt 1000 H q (bestOf (fun l => pV p t l s) (pV p t l0 s) (ls.take (i + 1)))) := by
            intro H4 e4 Q4 q4
            refine ⟨_, rfl, ?_⟩
            refine elr_call (n := p.stateCount) (R := fun s q H => FrAt 1000 H q (pV p t ls[i] s)) (ea_cons (ev_var rfl) (ea_cons (ev_var rfl) (ea_cons (ev_var rfl) ea_nil))) (fun H5 e5 => ⟨L, p, t, r, ls[i], rfl, M3.mono e5, ht, sq_of (e5 _ _ hrow), hoki, rfl, rfl⟩) H4 e4 _ fun pn ns H5 npn e5 hnl hpn hns => ?_
            have e45 := e4.trans e5
            have := elr_Z (K := K) (te := tCall spGreater [] E0 (tCons (tVar 5) (tCons (tVar 6) tNil))) (H := H5) (σ := [some (.ref L.a), some (.int (t : Int)), some (.ref pa), some (.ref cb), some (.ref r), v5, v6]) (vs := [5, 6]) (a := 5) (b := 6) (n := p.stateCount) (R := fun s q H => FrAt 1000 H q (bestOf (fun l => pV p t l s) (pV p t l0 s) (ls.take (i + 1)))) (fun _ => flat_fr) (ta := tVals [.ref cb, .ref pn]) ea_vals (sq_of (e45 _ _ hcb)) (sq_of hpn) (by simp [hcl, hnl]) (by omega) (fun _ _ => rfl) ?_
            · exact this H5 (Ex.refl _) Q4 fun p6 us H6 n6 e6 hul hp6 hus => q4 p6 us H6 (fresh_back e5 n6) (e5.trans e6) hul hp6 hus
            · intro s x y hx hy
              rw [List.getElem?_map] at hx hy
              cases hcx : cs[s]? with
              | none => rw [hcx] at hx; cases hx
              | some u =>
                cases hny : ns[s]? with
                | none => rw [hny] at hy; cases hy
                | some v =>
                  rw [hcx] at hx; rw [hny] at hy
                  have hx := Option.some.inj hx
                  have hy := Option.some.inj hy
                  subst hx hy
                  have f1 := (hcs s u hcx).mono e45
                  have f2 := hns s v hny
                  have htk : ls.take (i + 1) = ls.take i ++ [ls[i]] := by rw [List.take_add_one, hli]; rfl
                  have hb : bestOf (fun l => pV p t l s) (pV p t l0 s) (ls.take (i + 1)) = if pV p t ls[i] s ≤ bestOf (fun l => pV p t l s) (pV p t l0 s) (ls.take i) then bestOf (fun l => pV p t l s) (pV p t l0 s) (ls.take i) else pV p t ls[i] s := by
                    rw [htk]; unfold bestOf; rw [List.foldl_append]; rfl
                  rw [hb]
                  have hc : Ev (tCall spGreater [] E0 (tCons (tVar 5) (tCons (tVar 6) tNil))) [some (.ref L.a), some (.int (t : Int)), some (.ref pa), some (.ref cb), some (.ref r), some (.ref u), some (.ref v)] H5 (if pV p t ls[i] s ≤ bestOf (fun l => pV p t l s) (pV p t l0 s) (ls.take i) then .ref u else .ref v) :=
                    ev_call (ea_cons (ev_var rfl) (ea_cons (ev_var rfl) ea_nil)) (spV_use fun H6 e6 => ⟨u, v, _, _, rfl, (f1.mono e6).up (by omega), (f2.mono e6).up (by omega), rfl⟩)
                  by_cases hle : pV p t ls[i] s ≤ bestOf (fun l => pV p t l s) (pV p t l0 s) (ls.take i)
                  · rw [if_pos hle] at hc ⊢
                    exact eo_old hc (by obtain ⟨_, _, h, _⟩ := f1; rw [h]; simp) f1 flat_fr
                  · rw [if_neg hle] at hc ⊢
                    exact eo_old hc (by obtain ⟨_, _, h, _⟩ := f2; rw [h]; simp) f2 flat_fr
          refine s_asgO hZ fun pn us H4 npn e4 hul hpn hus => ?_
          exact ⟨pn, us, ⟨_, _, _, rfl⟩, e3.trans e4, fresh_back e3 npn, e4 _ _ hsl, hpn, hul, hus⟩
      · rintro sl σ1 H3 ⟨cb, cs, ⟨v4, v5, v6, rfl⟩, e3, ncb, hsl, hcb, hcl, hcs⟩
        refine s_ret (ev_var rfl) fun H4 e4 => q cb cs H4 (fresh_back e1 ncb) ((e1.trans e3).trans e4) hcl (e4 _ _ hcb) fun s r hs => ?_
        have hsl : s < p.stateCount := by rw [← hcl]; exact (List.getElem?_eq_some_iff.mp hs).1
        have := (hcs s r hs).mono e4
        have hll : ((ps.drop 1).map V.ref).length = ls.length := by simp [hpl]
        rw [hll, List.take_length, best_is M.wf t hap.symm hsl] at this
        exact this)
end
end SR

set_option maxHeartbeats 4000000
/-! questions.py: the optimal values -/
namespace SR
open PySem PySem.Spec PyProof.Rows L2 Evl
abbrev sOptimalValues : Stmt := topS 76
theorem scOptimalValues : FnScope ["model", "table"] ["model", "table"] (defScope sOptimalValues) := ⟨rfl, rfl, rfl, by decide +kernel, rfl, by decide +kernel, by decide +kernel⟩
def spOptimalValues (C : Addr) : Sp := fun vs H Q _ => ∃ (L : Lay) (p : Kp389.Process) (t : Nat), vs = [.ref L.a, .int (t : Int)] ∧ Mdl C H L p ∧ Done C H L p (.optimalValues t) Q
section
variable {P : Program} {w : World} {K : PySem.W.Frag} {mg : Str → Option Value} {base : Heap} {C fi aN aW : Addr} {σ : L2.St} {H H' : Hp} {ta tb te tl : TE} {L : Lay} {p : Kp389.Process}
/-- f(a new list of objects), a new list of numbers -/
theorem el_call1 {S : List V → Hp → List V → Prop} {E : XK} {m : Nat} {R' : Nat → Addr → Hp → Prop} {xs : List V} (h : EvLR tl σ H m R')
    (hs : ∀ (p : Addr) (ws : List Addr) H1, Ex H H1 → ws.length = m → H1 p = some (.lst (ws.map V.ref)) → (∀ (i : Nat) (q : Addr), ws[i]? = some q → R' i q H1) → S [.ref p] H1 xs) : EvL (tCall (spL S) [] E (tCons tl tNil)) σ H xs := fun H1 e Q q =>
  h H1 e _ fun p ws H2 np e2 hl hp hr => ⟨xs, hs p ws H2 (e.trans e2) hl hp hr, fun p3 H3 n3 e3 hp3 => q p3 H3 (fresh_back e2 n3) (e2.trans e3) hp3⟩
/-- written(a new list of fractions) -/
theorem el_written {b : Nat} {l : List Rat} {E : XK} (h : EvLR tl σ H l.length (fun i q H => FrAt b H q (l.getD i 0))) (hz : l.length ≤ 1000) (hb : b ≤ 8000 := by omega) : EvL (tCall (spWritten K) [] E (tCons tl tNil)) σ H (iV (l.flatMap Kp389.fraction)) :=
  el_call1 h fun p ws H1 e1 hl hp hr => ⟨p, ws, l, rfl, sq_of hp, hl, hz, fun i t x ht hx => by
    have := hr i t ht
    have := this.up hb
    simpa [List.getD, hx] using this, rfl⟩
theorem opt_getD (p : Kp389.Process) (t i : Nat) : (Kp389.optimalValues p t).getD i 0 = oV p t i := rfl
def dfOptimalValues (T : Txt K mg C fi) (dTableExists : Df P w K mg base "table_exists" 1 ["table"] spTableExists) (dWritten : Df P w K mg base "written" 3 ["fractions"] (spWritten K)) (dBestValues : Df P w K mg base "best_values" 6 ["model", "table"] (spBestValues C)) (r : Rw K mg "optimal_values" sOptimalValues) : Df P w K mg base "optimal_values" 7 ["model", "table"] (spOptimalValues C) :=
  r.df (k := 6) scOptimalValues (fun _ _ _ _ _ _ us hl => match us, hl with | [_, _], _ => rfl)
  (fun vs H Q E h => by obtain ⟨_, _, _, rfl, _⟩ := h; rfl) (fun cdv A outer s H vs Q E hr h => by
    obtain ⟨L, p, t, rfl, M, D⟩ := h
    refine ⟨_, (pss_cons (ps_if (pt_not (pt_val (pe_call dTableExists.ok (hr.mono (by decide)) rfl dTableExists.g dTableExists.kp dTableExists.b .nil pass0 (pa_cons (pv 1) pa_nil)))) (pss_one (ps_ret (pe_lst (pa_cons (pe_globI rfl T.c_NOT_THERE) pa_nil)))) pss_nil)
      (pss_one (ps_ret (pe_op op_cat (pe_lst (pa_cons (pe_fldK K (by rfl) (pv 0) (by rfl)) pa_nil)) (pe_call dWritten.ok (hr.mono (by decide)) rfl dWritten.g dWritten.kp dWritten.b .nil pass0 (pa_cons (pe_call dBestValues.ok (hr.mono (by decide)) rfl dBestValues.g dBestValues.kp dBestValues.b .nil pass0 (pa_cons (pv 0) (pa_cons (pv 1) pa_nil))) pa_nil)))))), ?_⟩
    refine q_when (b := !(Kp389.isTable t)) (et_not (et_B (ev_call (ea_cons (ev_var rfl) ea_nil) (spV_use fun H2 e2 => ⟨t, rfl, by rw [tE]⟩)))) (fun hb H1 e1 => ?_) (fun hb H1 e1 => ?_)
    · have hb := not_t hb
      exact s_retL (el_lst (ea_cons ev_c ea_nil) (by simp)) ((D.pre e1).same (M.mono e1) (xs := [-2]) (by simp only [Kp389.step, hb]; rfl) (by simp))
    · have b1 := not_f hb
      have ht : t ≤ 1 := by simpa [Kp389.isTable] using b1
      have M1 := M.mono e1
      have D1 := D.pre e1
      have hn := M.wf.n4
      have hol := optimal_len M.wf t
      have hR : EvLR (tCall (spBestValues C) [] E0 (tCons (tVar 0) (tCons (tVar 1) tNil))) (start ["model", "table"] [.ref L.a, .int (t : Int)]) H1 (Kp389.optimalValues p t).length (fun i q H => FrAt 1000 H q ((Kp389.optimalValues p t).getD i 0)) :=
        elr_call (vs := [.ref L.a, .int (t : Int)]) (ea_cons (ev_var rfl) (ea_cons (ev_var rfl) ea_nil)) fun H2 e2 => ⟨L, p, t, rfl, M1.mono e2, ht, hol, rfl⟩
      refine s_retL (el_catLL (xs := [.int (p.stateCount : Int)]) (el_lst (ea_cons (ev_f1 T M1 (ev_var rfl)) ea_nil) (by simp)) (el_written hR (by omega)) ?_) ?_
      · rw [iV_len, fr_len, hol]; simp; omega
      · have := D1.same M1 (xs := (p.stateCount : Int) :: (Kp389.optimalValues p t).flatMap Kp389.fraction) (by simp only [Kp389.step, b1, if_true, Kp389.fractionsResult, hol]; rfl) (by simp)
        exact this)
end
end SR

set_option maxHeartbeats 4000000
/-! worth.py, choices.py: what an action is worth; the best actions -/
namespace SR
open PySem PySem.Spec PyProof.Rows L2 Evl
abbrev sWorthOfAction : Stmt := topS 64
theorem scWorthOfAction : FnScope ["model", "table", "state", "action", "best", "weights", "weighted", "weight", "value", "later"] ["model", "table", "state", "action", "best"] (defScope sWorthOfAction) := ⟨rfl, rfl, rfl, by decide +kernel, rfl, by decide +kernel, by decide +kernel⟩
abbrev sBestActions : Stmt := topS 66
theorem scBestActions : FnScope ["model", "table", "state", "best", "action"] ["model", "table", "state", "best"] (defScope sBestActions) := ⟨rfl, rfl, rfl, by decide +kernel, rfl, by decide +kernel, by decide +kernel⟩
abbrev sBestActionsEverywhere : Stmt := topS 67
theorem scBestActionsEverywhere : FnScope ["model", "table", "best", "state"] ["model", "table"] (defScope sBestActionsEverywhere) := ⟨rfl, rfl, rfl, by decide +kernel, rfl, by decide +kernel, by decide +kernel⟩
abbrev sBestPolicy : Stmt := topS 68
theorem scBestPolicy : FnScope ["model", "table", "actions"] ["model", "table"] (defScope sBestPolicy) := ⟨rfl, rfl, rfl, by decide +kernel, rfl, by decide +kernel, by decide +kernel⟩
abbrev sTablesAgree : Stmt := topS 69
theorem scTablesAgree : FnScope ["model"] ["model"] (defScope sTablesAgree) := ⟨rfl, rfl, rfl, by decide +kernel, rfl, by decide +kernel, by decide +kernel⟩

/-! ### what an action is worth, by the weights -/
/-- the weighted sum of the first k values -/
def wsum (p : Kp389.Process) (f : Nat → Rat) (s a k : Nat) : Rat := rs k (fun q => ((wtD p s a q : Int) : Rat) * f q)
/-- how great its numbers may be -/
def wB (k : Nat) : Nat := 1 + 1005 * k
theorem term_fr {p : Kp389.Process} (h : WF p) {s a : Nat} (hs : s < p.stateCount) (ha : a < p.actionCount) {n d : Int} {x : Rat} (q : Nat) (hf : FrOk 1000 n d x) : FrOk 1004 (wtD p s a q * n) d (((wtD p s a q : Int) : Rat) * x) := by
  have hw := wtD_le h hs ha q
  have h2 : (wtD p s a q).natAbs < 2 ^ 4 := by omega
  refine ⟨hf.pos, ?_, (hf.up (show 1000 ≤ 1004 by omega)).db, ?_⟩
  · have := abs_mul_lt h2 hf.nb
    rw [show 4 + 1000 = 1004 from rfl] at this; exact this
  · rw [Rat.intCast_mul, hf.eq]; grind
theorem wsum_prob {p : Kp389.Process} (h : WF p) (f : Nat → Rat) {s a : Nat} (hs : s < p.stateCount) (ha : a < p.actionCount) : rs p.stateCount (fun q => Kp389.probability p s a q * f q) = ((wtT p s a : Int) : Rat)⁻¹ * wsum p f s a p.stateCount := by
  unfold wsum
  rw [← rs_mul]
  apply rs_congr
  intro q _
  unfold Kp389.probability
  rw [← wtD_rat, ← wtT_rat, Rat.div_def]
  grind
theorem later_fr {p : Kp389.Process} (h : WF p) (f : Nat → Rat) {s a : Nat} (hs : s < p.stateCount) (ha : a < p.actionCount) {n d : Int} (hf : FrOk 4021 n d (wsum p f s a p.stateCount)) :
    FrOk 4040 ((p.discountNum : Int) * n) ((p.discountDen : Int) * wtT p s a * d) (Kp389.discount p * rs p.stateCount (fun q => Kp389.probability p s a q * f q)) := by
  have hT := wtT_le h hs ha
  have hg := h.gh
  have h10 := h.h10
  have hd0 : (0 : Rat) < (p.discountDen : Rat) := by exact_mod_cast (show 0 < p.discountDen by omega)
  have g4 : (p.discountNum : Int).natAbs < 2 ^ 4 := by omega
  have d4 : (p.discountDen : Int).natAbs < 2 ^ 4 := by omega
  have t6 : (wtT p s a).natAbs < 2 ^ 6 := by omega
  have hpos : 0 < (p.discountDen : Int) * wtT p s a := Int.mul_pos (by omega) (by omega)
  refine ⟨Int.mul_pos hpos hf.pos, ?_, ?_, ?_⟩
  · exact Nat.lt_of_lt_of_le (abs_mul_lt g4 hf.nb) (Nat.pow_le_pow_right (by decide) (by omega))
  · exact Nat.lt_of_lt_of_le (abs_mul_lt (abs_mul_lt d4 t6) hf.db) (Nat.pow_le_pow_right (by decide) (by omega))
  · rw [wsum_prob h f hs ha, Rat.intCast_mul, Rat.intCast_mul, Rat.intCast_mul, hf.eq, Rat.intCast_natCast, Rat.intCast_natCast]
    unfold Kp389.discount
    rw [Rat.div_def]
    have i1 := Rat.mul_inv_cancel ((wtT p s a : Int) : Rat) (wtT_ne h hs ha)
    have i2 := Rat.mul_inv_cancel (p.discountDen : Rat) (by grind)
    generalize ((wtT p s a : Int) : Rat) = t at *
    generalize (p.discountDen : Rat) = e at *
    generalize (p.discountNum : Rat) = g at *
    generalize (d : Rat) = dd at *
    generalize wsum p f s a p.stateCount = y at *
    have : g * e⁻¹ * (t⁻¹ * y) * (e * t * dd) = g * (y * dd) * (t * t⁻¹) * (e * e⁻¹) := by grind
    rw [this, i1, i2]; grind
def spWorthOfAction (K : PySem.W.Frag) (C : Addr) : Sp := spN fun vs H R => ∃ (L : Lay) (p : Kp389.Process) (t s a : Nat) (g : Addr) (bs : List Addr) (f : Nat → Rat), vs = [.ref L.a, .int (t : Int), .int (s : Int), .int (a : Int), .ref g] ∧ Mdl C H L p ∧ t ≤ 1 ∧ s < p.stateCount ∧ a < p.actionCount ∧
  SqL K H g (bs.map V.ref) ∧ bs.length = p.stateCount ∧ (∀ (i : Nat) (r : Addr), bs[i]? = some r → FrAt 1000 H r (f i)) ∧ R = fun q H => FrAt 5000 H q (qV p t f s a)

section
variable {P : Program} {w : World} {K : PySem.W.Frag} {mg : Str → Option Value} {base : Heap} {C fi aN aW : Addr} {σ : L2.St} {H H' : Hp} {ta tb te tl : TE} {L : Lay} {p : Kp389.Process}
def dfWorthOfAction (T : Txt K mg C fi) (dTransitionPlace : Df P w K mg base "transition_place" 1 ["model", "state", "action"] (spTransitionPlace C)) (dAdded : Df P w K mg base "added" 1 ["first", "second"] spAdded) (dAverageReward : Df P w K mg base "average_reward" 4 ["model", "table", "state", "action"] (spAverageReward C)) (r : Rw K mg "worth_of_action" sWorthOfAction) : Df P w K mg base "worth_of_action" 5 ["model", "table", "state", "action", "best"] (spWorthOfAction K C) :=
  r.df (k := 4) scWorthOfAction (fun _ _ _ _ _ _ us hl => match us, hl with | [_, _, _, _, _], _ => rfl)
  (fun vs H Q E h => by obtain ⟨_, ⟨_, _, _, _, _, _, _, _, rfl, _⟩, _⟩ := h; rfl) (fun cdv A outer sh H vs Q E hr h => by
    obtain ⟨_, ⟨L, p, t, s, a, g, bs, f, rfl, M, ht, hs, ha, hg, hbl, hbs, rfl⟩, q⟩ := h
    refine ⟨_, (pss_cons (ps_set (i := 5) scWorthOfAction.nd rfl (by first | exact Or.inl rfl | exact Or.inr rfl) (pe_ix (ix_listK K (by rfl)) (pe_fldK K (by rfl) (pv 0) (by rfl)) (pe_call dTransitionPlace.ok (hr.mono (by decide)) rfl dTransitionPlace.g dTransitionPlace.kp dTransitionPlace.b .nil pass0 (pa_cons (pv 0) (pa_cons (pv 2) (pa_cons (pv 3) pa_nil)))) (fun _ _ => rfl)))
      (pss_cons (ps_set (i := 6) scWorthOfAction.nd rfl (by first | exact Or.inl rfl | exact Or.inr rfl) (pe_tup (pa_cons pe_int (pa_cons pe_int pa_nil))))
      (pss_cons (ps_for PassesOwn.never rfl (pi_zip (by rfl) T.n_zip (pa_cons (pv 5) (pa_cons (pv 4) pa_nil))) (pg_pairK K (by rfl) rfl (pg_name (i := 7) scWorthOfAction.nd rfl (by first | exact Or.inl rfl | exact Or.inr rfl)) (pg_name (i := 8) scWorthOfAction.nd rfl (by first | exact Or.inl rfl | exact Or.inr rfl))) (pss_one (ps_set (i := 6) scWorthOfAction.nd rfl (by first | exact Or.inl rfl | exact Or.inr rfl) (pe_call dAdded.ok (hr.mono (by decide)) rfl dAdded.g dAdded.kp dAdded.b .nil pass0 (pa_cons (pv 6) (pa_cons (pe_tup (pa_cons (pe_op op_mulW (pv 7) (pe_ix (ix_tupK K (by rfl)) (pv 8) pe_int (fun _ _ => rfl))) (pa_cons (pe_ix (ix_tupK K (by rfl)) (pv 8) pe_int (fun _ _ => rfl)) pa_nil))) pa_nil))))))
      (pss_cons (ps_set (i := 9) scWorthOfAction.nd rfl (by first | exact Or.inl rfl | exact Or.inr rfl) (pe_tup (pa_cons (pe_op op_mulW (pe_fldK K (by rfl) (pv 0) (by rfl)) (pe_ix (ix_tupK K (by rfl)) (pv 6) pe_int (fun _ _ => rfl))) (pa_cons (pe_op op_mulW (pe_op op_mulW (pe_fldK K (by rfl) (pv 0) (by rfl)) (pe_callB (cr_sumK K (by rfl) rfl) (by rfl) T.n_sum (by decide +kernel) (pa_cons (pv 5) pa_nil))) (pe_ix (ix_tupK K (by rfl)) (pv 6) pe_int (fun _ _ => rfl))) pa_nil))))
      (pss_one (ps_ret (pe_call dAdded.ok (hr.mono (by decide)) rfl dAdded.g dAdded.kp dAdded.b .nil pass0 (pa_cons (pe_call dAverageReward.ok (hr.mono (by decide)) rfl dAverageReward.g dAverageReward.kp dAverageReward.b .nil pass0 (pa_cons (pv 0) (pa_cons (pv 1) (pa_cons (pv 2) (pa_cons (pv 3) pa_nil))))) (pa_cons (pv 9) pa_nil))))))))), ?_⟩
    have hn := M.wf.n4
    have hm := M.wf.m3
    have hw := weights_ok M.wf hs ha
    obtain ⟨x, hx, hwx⟩ := wts_at M hs ha
    refine q_asg (v := .ref x) (ev_wts T M (ev_var rfl) hs ha hx (ev_call (ea_cons (ev_var rfl) (ea_cons (ev_var rfl) (ea_cons (ev_var rfl) ea_nil))) (spV_use fun H3 e3 => ⟨L, p, s, a, rfl, M.mono e3, by omega, by omega, rfl⟩))) fun H1 e1 => ?_
    refine q_asgU (eu_tup (ea_cons ev_c (ea_cons ev_c ea_nil)) (by simp)) fun w0 H2 nw0 e2 hw0 => ?_
    have E2 := e1.trans e2
    have hwx2 := E2 _ _ hwx
    refine q_forZ (n := p.stateCount) (xs := nV (Kp389.weights p s a)) (ys := bs.map V.ref) (ea_cons (ev_var rfl) (ea_cons (ev_var rfl) ea_nil)) (sq_of hwx2) (ex_l E2 hg) (by rw [nV_len, hw.len]; simp [hbl])
      (fun i σ' H' => ∃ (wA : Addr), (∃ v7 v8 v9, σ' = [some (.ref L.a), some (.int (t : Int)), some (.int (s : Int)), some (.int (a : Int)), some (.ref g), some (.ref x), some (.ref wA), v7, v8, v9]) ∧ Ex H2 H' ∧ FrAt (wB i) H' wA (wsum p f s a i))
      (fun H3 e3 => ⟨w0, ⟨none, none, none, rfl⟩, e3, 0, 1, e3 _ _ hw0, ⟨by decide, by decide, by decide, ?_⟩⟩) (fun i σ' H' ⟨_, _, e, _⟩ => e) ?_ ?_
    · unfold wsum; rw [rs_zero]; simp
    · rintro i xv yv σ1 H3 H4 hi hxi hyi ⟨wA, ⟨v7, v8, v9, rfl⟩, e3, hwA⟩ e4
      have hxv := nat_ix hxi
      rw [List.getElem?_map] at hyi
      cases hbi : bs[i]? with
      | none => rw [hbi] at hyi; cases hyi
      | some r =>
        rw [hbi] at hyi
        have hyi := Option.some.inj hyi
        subst hyi
        obtain ⟨nn, dd, hr, hf⟩ := (hbs i r hbi).mono ((E2.trans e3).trans e4)
        have hxv : xv = .int (wtD p s a i) := hxv
        subst hxv
        have hwd := wtD_le M.wf hs ha i
        refine s_asgN (en_callP (ap_v (ev_var rfl) (ap_tup (eu_tup (ea_cons (ev_mulB (a := 4) (i := wtD p s a i) (ev_var rfl) (ev_fst (ev_var rfl) ev_c hr) (by omega) hf.nb) (ea_cons (ev_snd (ev_var rfl) ev_c hr) ea_nil)) (by simp)) (ap_of ea_nil)))
          (R1 := fun q H => FrAt (wB i + 1004 + 1) H q (wsum p f s a i + ((wtD p s a i : Int) : Rat) * f i)) ?_) fun q5 H5 nq5 e5 hq5 => ?_
        · rintro _ H5 e5 ⟨_, rfl, u, _, rfl, hu, rfl⟩
          exact ⟨wA, u, wB i, 1004, _, _, rfl, (hwA.mono e4).mono e5, ⟨_, _, hu, term_fr M.wf hs ha i hf⟩, by unfold wB; omega, by omega, rfl⟩
        · refine ⟨q5, ⟨_, _, _, rfl⟩, (e3.trans e4).trans e5, ?_⟩
          have e6 : wsum p f s a (i + 1) = wsum p f s a i + ((wtD p s a i : Int) : Rat) * f i := by unfold wsum; rw [rs_succ]
          rw [e6]
          exact hq5.up (by unfold wB; omega)
    · rintro σ1 H3 ⟨wA, ⟨v7, v8, v9, rfl⟩, e3, hwA⟩
      obtain ⟨nn, dd, hr, hf⟩ := hwA.up (show wB p.stateCount ≤ 4021 by unfold wB; omega)
      have E3 := E2.trans e3
      have M3 := M.mono E3
      have hT := wtT_le M.wf hs ha
      have hg1 := M.wf.gh
      have h10 := M.wf.h10
      have hl := later_fr M.wf f hs ha hf
      refine q_asgU (xs := [.int ((p.discountNum : Int) * nn), .int ((p.discountDen : Int) * wtT p s a * dd)]) (eu_tup (ea_cons (ev_mulB (a := 4) (ev_f3 T M3 (ev_var rfl)) (ev_fst (ev_var rfl) ev_c hr) (by omega) hf.nb) (ea_cons (ev_mulB (a := 10) (i := (p.discountDen : Int) * wtT p s a) (ev_mul (ev_f4 T M3 (ev_var rfl)) (ev_sumN (ev_var rfl) (E3 _ _ hwx)) (by omega) (by omega)) (ev_snd (ev_var rfl) ev_c hr) ?_ hf.db) ea_nil)) (by simp)) fun lt H4 nlt e4 hlt => ?_
      · exact abs_mul_lt (a := 4) (b := 6) (by omega) (by omega)
      have M4 := M3.mono e4
      refine s_retN (en_callP (ap_n (R1 := fun q H => FrAt 30 H q (Kp389.expectedReward p t s a)) (en_call (ea_cons (ev_var rfl) (ea_cons (ev_var rfl) (ea_cons (ev_var rfl) (ea_cons (ev_var rfl) ea_nil)))) fun H5 e5 => ⟨L, p, t, s, a, rfl, M4.mono e5, ht, hs, ha, rfl⟩) (fun q H H' e h => h.mono e) (ap_v (ev_var rfl) (ap_of ea_nil)))
        (R1 := fun q H => FrAt (30 + 4040 + 1) H q (qV p t f s a)) ?_) fun q5 H5 nq5 e5 hq5 => q q5 H5 (fresh_back (E3.trans e4) nq5) ((E3.trans e4).trans e5) (hq5.up (by omega))
      rintro _ H5 e5 ⟨u, _, rfl, hu, _, rfl, rfl⟩
      exact ⟨u, lt, 30, 4040, _, _, rfl, hu, ⟨_, _, e5 _ _ hlt, hl⟩, by omega, by omega, rfl⟩)
end
end SR

set_option maxHeartbeats 4000000
/-! choices.py -/
namespace SR
open PySem PySem.Spec PyProof.Rows L2 Evl

/-! ### rows of numbers as data -/
def rowD (l : List Nat) : PyData := .list (l.map fun (n : Nat) => PyData.int (n : Int))
def rowsD (ls : List (List Nat)) : PyData := .list (ls.map rowD)
theorem row_eqv : ∀ l k : List Nat, PyData.eqvAll (l.map fun (n : Nat) => PyData.int (n : Int)) (k.map fun (n : Nat) => PyData.int (n : Int)) = decide (l = k)
  | [], [] => by simp [PyData.eqvAll]
  | [], _ :: _ => by simp [PyData.eqvAll]
  | _ :: _, [] => by simp [PyData.eqvAll]
  | x :: l, y :: k => by
    have ih := row_eqv l k
    simp only [List.map_cons, PyData.eqvAll, PyData.eqv, ih]
    rw [Bool.eq_iff_iff]
    simp only [Bool.and_eq_true, beq_iff_eq, decide_eq_true_eq, List.cons.injEq]
    constructor
    · rintro ⟨h1, h2⟩; exact ⟨by omega, h2⟩
    · rintro ⟨h1, h2⟩; exact ⟨by omega, h2⟩
theorem rows_eqv : ∀ ls ks : List (List Nat), PyData.eqvAll (ls.map rowD) (ks.map rowD) = decide (ls = ks)
  | [], [] => by simp [PyData.eqvAll]
  | [], _ :: _ => by simp [PyData.eqvAll]
  | _ :: _, [] => by simp [PyData.eqvAll]
  | l :: ls, k :: ks => by
    have ih := rows_eqv ls ks
    have e : PyData.eqv (rowD l) (rowD k) = decide (l = k) := by unfold rowD; simp only [PyData.eqv]; exact row_eqv l k
    simp only [List.map_cons, PyData.eqvAll, e, ih, List.cons.injEq, Bool.decide_and]
theorem rowsD_eqv (ls ks : List (List Nat)) : PyData.eqv (rowsD ls) (rowsD ks) = decide (ls = ks) := by
  unfold rowsD; simp only [PyData.eqv]; exact rows_eqv ls ks
theorem row_lay : ∀ l : List Nat, PyData.canLayAll0 (l.map fun (n : Nat) => PyData.int (n : Int)) = true ∧ PyData.depthAll (l.map fun (n : Nat) => PyData.int (n : Int)) ≤ 1
  | [] => by simp [PyData.canLayAll0, PyData.depthAll]
  | x :: l => by
    have ih := row_lay l
    simp only [List.map_cons, PyData.canLayAll0, PyData.canLay0, PyData.depthAll, PyData.depth, Bool.true_and]
    exact ⟨ih.1, by omega⟩
theorem rows_lay : ∀ ls : List (List Nat), PyData.canLayAll0 (ls.map rowD) = true ∧ PyData.depthAll (ls.map rowD) ≤ 3
  | [] => by simp [PyData.canLayAll0, PyData.depthAll]
  | l :: ls => by
    have ih := rows_lay ls
    have h := row_lay l
    unfold rowD at ih ⊢
    simp only [List.map_cons, PyData.canLayAll0, PyData.canLay0, PyData.depthAll, PyData.depth, h.1, Bool.true_and]
    exact ⟨ih.1, by omega⟩
theorem rowsD_shaped (ls : List (List Nat)) : SeqAt.shaped (rowsD ls) = true := by
  have h := rows_lay ls
  have h1 : PyData.canLay0 (rowsD ls) = true := by unfold rowsD; simp only [PyData.canLay0]; exact h.1
  have h2 : PyData.depth (rowsD ls) = PyData.depthAll (ls.map rowD) + 1 := by unfold rowsD; simp only [PyData.depth]
  unfold SeqAt.shaped
  rw [h1, h2, Bool.true_and]
  exact decide_eq_true (by omega)
theorem dp_row {K : PySem.W.Frag} {H : Hp} : ∀ l : List Nat, DpAll K H (nV l) (l.map fun (n : Nat) => PyData.int (n : Int))
  | [] => .nil
  | x :: l => .cons (.int _) (dp_row l)
theorem dp_rows {K : PySem.W.Frag} {H : Hp} : ∀ (ws : List Addr) (ls : List (List Nat)), ws.length = ls.length → (∀ (i : Nat) (x : Addr) (l : List Nat), ws[i]? = some x → ls[i]? = some l → H x = some (.lst (nV l))) → DpAll K H (ws.map V.ref) (ls.map rowD)
  | [], [], _, _ => .nil
  | [], _ :: _, h, _ => by simp at h
  | _ :: _, [], h, _ => by simp at h
  | x :: ws, l :: ls, h, hr => .cons (.lst (sq_of (hr 0 x l rfl rfl)) (dp_row l)) (dp_rows ws ls (by simpa using h) fun i y k h1 h2 => hr (i + 1) y k h1 h2)

/-! ### the best actions -/
/-- the optimal actions of a state -/
def acts (p : Kp389.Process) (t s : Nat) : List Nat := (List.range p.actionCount).filter fun a => decide (qV p t (oV p t) s a = oV p t s)
theorem all_acts (p : Kp389.Process) (t : Nat) : Kp389.allOptimalActions p t = (List.range p.stateCount).map (acts p t) := by
  unfold Kp389.allOptimalActions Kp389.states
  simp only []
  apply List.map_congr_left
  intro s _
  unfold acts Kp389.actions
  apply List.filter_congr
  intro a _
  rw [Bool.eq_iff_iff, beq_iff_eq, decide_eq_true_eq]
  rfl
theorem acts_ne {p : Kp389.Process} (h : WF p) (t : Nat) {s : Nat} (hs : s < p.stateCount) : acts p t s ≠ [] := by
  obtain ⟨a, ha, he⟩ := oV_some h t hs
  intro e
  have : a ∈ acts p t s := List.mem_filter.mpr ⟨by simpa using ha, by simpa using he⟩
  rw [e] at this; cases this
theorem acts_lt {p : Kp389.Process} {t s x : Nat} (h : x ∈ acts p t s) : x < p.actionCount := by
  simpa using (List.mem_filter.mp h).1
theorem acts_head {p : Kp389.Process} (h : WF p) (t : Nat) {s : Nat} (hs : s < p.stateCount) : (acts p t s).headD 0 < p.actionCount := by
  have hn := acts_ne h t hs
  cases hc : acts p t s with
  | nil => exact absurd hc hn
  | cons x r => exact acts_lt (t := t) (s := s) (by rw [hc]; exact List.mem_cons_self)
/-- the best policy of a table -/
def bestP (p : Kp389.Process) (t : Nat) : List Nat := (List.range p.stateCount).map fun s => (acts p t s).headD 0
theorem best_pol (p : Kp389.Process) (t : Nat) : Kp389.optimalPolicy p t = bestP p t := by
  unfold Kp389.optimalPolicy bestP
  rw [all_acts, List.map_map]; rfl
theorem bestP_ok {p : Kp389.Process} (h : WF p) (t : Nat) : polOk p (bestP p t) := by
  refine ⟨by simp [bestP], fun s hs => ?_⟩
  unfold bestP
  rw [rmN_getD _ hs]
  exact acts_head h t hs

def spBestActions (K : PySem.W.Frag) (C : Addr) : Sp := spL fun vs H xs => ∃ (L : Lay) (p : Kp389.Process) (t s : Nat) (g : Addr) (bs : List Addr), vs = [.ref L.a, .int (t : Int), .int (s : Int), .ref g] ∧ Mdl C H L p ∧ t ≤ 1 ∧ s < p.stateCount ∧
  SqL K H g (bs.map V.ref) ∧ bs.length = p.stateCount ∧ (∀ (i : Nat) (r : Addr), bs[i]? = some r → FrAt 1000 H r (oV p t i)) ∧ xs = nV (acts p t s)
def spBestActionsEverywhere (C : Addr) : Sp := spO fun vs H n R => ∃ (L : Lay) (p : Kp389.Process) (t : Nat), vs = [.ref L.a, .int (t : Int)] ∧ Mdl C H L p ∧ t ≤ 1 ∧ n = p.stateCount ∧ R = fun i q H => H q = some (.lst (nV (acts p t i)))
def spBestPolicy (C : Addr) : Sp := spL fun vs H xs => ∃ (L : Lay) (p : Kp389.Process) (t : Nat), vs = [.ref L.a, .int (t : Int)] ∧ Mdl C H L p ∧ t ≤ 1 ∧ xs = nV (bestP p t)
def spTablesAgree (C : Addr) : Sp := spV fun vs H v => ∃ (L : Lay) (p : Kp389.Process), vs = [.ref L.a] ∧ Mdl C H L p ∧ v = .bl (Kp389.sameOptimalActions p)

section
variable {P : Program} {w : World} {K : PySem.W.Frag} {mg : Str → Option Value} {base : Heap} {C fi aN aW : Addr} {σ : L2.St} {H H' : Hp} {ta tb te tl : TE} {L : Lay} {p : Kp389.Process}
theorem elr_of_elo {old : Bool} {n : Nat} {o : Nat → HO} (h : EvLO old te σ H n o) : EvLR te σ H n (fun i q H => H q = some (o i)) := fun H1 e Q q => h H1 e Q fun p ws H2 np e2 hl hp hr => q p ws H2 np e2 hl hp fun i x hx => (hr i x hx).2.2
/-- [e for x in a new list of objects] -/
theorem el_lcNR {n : Nat} {R : Nat → Addr → Hp → Prop} {vs : List Nat} {j : Nat} (f : ∀ i, Flat (R i)) (v : Nat → V) (h : EvLR tl σ H n R) (hz : n ≤ 40000) (hw : ∀ x, wipe ((wipe σ vs).set j (some x)) vs = wipe σ vs)
    (he : ∀ (i : Nat) (q : Addr) H1, Ex H H1 → i < n → R i q H1 → Ev te ((wipe σ vs).set j (some (.ref q))) H1 (v i)) : EvL (tLc (iList K tl) (gName j) tYes te vs) σ H ((List.range n).map v) := fun H0 e Q q => h H0 e _ fun p ws H1 np e1 hl hp hr => by
  subst hl
  have wk : Walk (Itl K p) ws.length (fun H => SqL K H p (ws.map V.ref)) (YAt (ws.map V.ref)) := by
    have := walk_list (K := K) (a := p) (xs := ws.map V.ref)
    rwa [List.length_map] at this
  exact ⟨p, rfl, ⟨ws.map V.ref, sq_of hp⟩, fun Dl hD => lc_nameR wk (fun i => RIs (v i)) (fun i => RIs.up) hD hz (fun H' e' => ex_l e' (sq_of hp)) (fun i x => (ws.map V.ref)[i]? = some x) (fun i H x H' _ y => y) hw
    (fun i x hi hx => by
      rw [List.getElem?_map] at hx
      cases hwi : ws[i]? with
      | none => rw [hwi] at hx; cases hx
      | some u =>
        rw [hwi] at hx
        have hx := Option.some.inj hx
        subst hx
        exact ev_it (he i u H1 (e.trans e1) hi (hr i u hwi)) (Ex.refl H1)) (lv_end e1 hD q) (fun i v H xs r _ ys => r)⟩
/-- two new lists of rows compared -/
theorem ev_eqRows {n : Nat} {f g : Nat → List Nat} (ha : EvLR ta σ H n (fun i q H => H q = some (.lst (nV (f i))))) (hb : EvLR tb σ H n (fun i q H => H q = some (.lst (nV (g i))))) :
    Ev (tOp (rEqD K) ta tb) σ H (.bl (decide ((List.range n).map f = (List.range n).map g))) := fun H1 e Q k =>
  ha H1 e _ fun p ws H2 np e2 hl hp hr => hb H2 (e.trans e2) _ fun q us H3 nq e3 hul hq hur => by
    refine ⟨rowsD ((List.range n).map f), rowsD ((List.range n).map g), .lst (sq_of (e3 _ _ hp)) (dp_rows ws _ (by simp [hl]) fun i x l h1 h2 => ?_), .lst (sq_of hq) (dp_rows us _ (by simp [hul]) fun i x l h1 h2 => ?_), rowsD_shaped _, rowsD_shaped _, ?_⟩
    · have hi : i < n := by rw [← hl]; exact (List.getElem?_eq_some_iff.mp h1).1
      rw [List.getElem?_map, List.getElem?_range hi] at h2
      have h2 : f i = l := Option.some.inj h2
      subst h2
      exact e3 _ _ (hr i x h1)
    · have hi : i < n := by rw [← hul]; exact (List.getElem?_eq_some_iff.mp h1).1
      rw [List.getElem?_map, List.getElem?_range hi] at h2
      have h2 : g i = l := Option.some.inj h2
      subst h2
      exact hur i x h1
    · rw [rowsD_eqv]; exact k H3 (e2.trans e3)
def dfBestActions (T : Txt K mg C fi) (dWorthOfAction : Df P w K mg base "worth_of_action" 5 ["model", "table", "state", "action", "best"] (spWorthOfAction K C)) (dSame : Df P w K mg base "same" 1 ["first", "second"] spSame) (r : Rw K mg "best_actions" sBestActions) : Df P w K mg base "best_actions" 6 ["model", "table", "state", "best"] (spBestActions K C) :=
  r.df (k := 5) scBestActions (fun _ _ _ _ _ _ us hl => match us, hl with | [_, _, _, _], _ => rfl)
  (fun vs H Q E h => by obtain ⟨_, ⟨_, _, _, _, _, _, rfl, _⟩, _⟩ := h; rfl) (fun cdv A outer sh H vs Q E hr h => by
    obtain ⟨_, ⟨L, p, t, s, g, bs, rfl, M, ht, hs, hg, hbl, hbs, rfl⟩, q⟩ := h
    refine ⟨_, (pss_one (ps_ret (pe_lc (own := [("action", 4)]) (g := gName 4) rfl scBestActions.nd (pi_range1 rfl T.n_range (pa_cons (pe_fldK K (by rfl) (pv 0) (by rfl)) pa_nil)) (blkOk_by (N := ["model", "table", "state", "best", "action"]) (sc := defScope sBestActions) (by decide +kernel)) (fun _ _ _ _ _ => (pg_name (i := 4) scBestActions.nd rfl (by first | exact Or.inl rfl | exact Or.inr rfl))) (fun _ _ _ _ _ => pts_one (pt_val (pe_call dSame.ok (hr.mono (by decide)) rfl dSame.g dSame.kp dSame.b .nil pass0 (pa_cons (pe_call dWorthOfAction.ok (hr.mono (by decide)) rfl dWorthOfAction.g dWorthOfAction.kp dWorthOfAction.b .nil pass0 (pa_cons (pv 0) (pa_cons (pv 1) (pa_cons (pv 2) (pa_cons (pv 4) (pa_cons (pv 3) pa_nil)))))) (pa_cons (pe_ix (ix_listK K (by rfl)) (pv 3) (pv 2) (fun _ _ => rfl)) pa_nil))))) (fun _ _ _ _ _ => (pv 4))))), ?_⟩
    have hm := M.wf.m3
    have hsb : s < bs.length := by rw [hbl]; exact hs
    have hbi : bs[s]? = some bs[s] := List.getElem?_eq_getElem hsb
    refine s_retL (xs := given (p.actionCount : Int).toNat (fun a => decide (qV p t (oV p t) s a = oV p t s)) fun a => .int (a : Int)) (el_lcR1 (n := (p.actionCount : Int)) (fun a => decide (qV p t (oV p t) s a = oV p t s)) (fun a => .int (a : Int)) (ea_cons (ev_f2 T M (ev_var rfl)) ea_nil) (by omega) (fun x => rfl)
      (fun a H1 e1 ha => ?_) (fun a H1 e1 ha _ => ev_var rfl)) q
    have ha : a < p.actionCount := by omega
    have M1 := M.mono e1
    refine et_B (ev_callP (ap_n (R1 := fun q H => FrAt 5000 H q (qV p t (oV p t) s a)) (en_call (ea_cons (ev_var rfl) (ea_cons (ev_var rfl) (ea_cons (ev_var rfl) (ea_cons (ev_var rfl) (ea_cons (ev_var rfl) ea_nil))))) fun H2 e2 => ⟨L, p, t, s, a, g, bs, oV p t, rfl, M1.mono e2, ht, hs, ha, ex_l (e1.trans e2) hg, hbl, fun i r hi => (hbs i r hi).mono (e1.trans e2), rfl⟩) (fun q H H' e h => h.mono e)
      (ap_v (v := .ref bs[s]) (ev_op (ev_var rfl) (ev_var rfl) (rv_ixL (ex_l e1 hg) (atI_nat (by rw [List.getElem?_map, hbi]; rfl)))) (ap_of ea_nil))) ?_)
    rintro _ H2 e2 ⟨u, _, rfl, hu, _, rfl, rfl⟩
    exact ⟨u, bs[s], 5000, 1000, _, _, rfl, hu, (hbs s _ hbi).mono (e1.trans e2), by omega, by omega, rfl⟩)
def dfBestActionsEverywhere (T : Txt K mg C fi) (dBestValues : Df P w K mg base "best_values" 6 ["model", "table"] (spBestValues C)) (dBestActions : Df P w K mg base "best_actions" 6 ["model", "table", "state", "best"] (spBestActions K C)) (r : Rw K mg "best_actions_everywhere" sBestActionsEverywhere) : Df P w K mg base "best_actions_everywhere" 7 ["model", "table"] (spBestActionsEverywhere C) :=
  r.df (k := 6) scBestActionsEverywhere (fun _ _ _ _ _ _ us hl => match us, hl with | [_, _], _ => rfl)
  (fun vs H Q E h => by obtain ⟨_, _, ⟨_, _, _, rfl, _⟩, _⟩ := h; rfl) (fun cdv A outer sh H vs Q E hr h => by
    obtain ⟨_, _, ⟨L, p, t, rfl, M, ht, rfl, rfl⟩, q⟩ := h
    refine ⟨_, (pss_cons (ps_set (i := 2) scBestActionsEverywhere.nd rfl (by first | exact Or.inl rfl | exact Or.inr rfl) (pe_call dBestValues.ok (hr.mono (by decide)) rfl dBestValues.g dBestValues.kp dBestValues.b .nil pass0 (pa_cons (pv 0) (pa_cons (pv 1) pa_nil))))
      (pss_one (ps_ret (pe_lc (own := [("state", 3)]) (g := gName 3) (tt := tYes) rfl scBestActionsEverywhere.nd (pi_range1 rfl T.n_range (pa_cons (pe_fldK K (by rfl) (pv 0) (by rfl)) pa_nil)) (blkOk_by (N := ["model", "table", "best", "state"]) (sc := defScope sBestActionsEverywhere) (by decide +kernel)) (fun _ _ _ _ _ => (pg_name (i := 3) scBestActionsEverywhere.nd rfl (by first | exact Or.inl rfl | exact Or.inr rfl))) (fun _ _ _ _ _ => pts_nil) (fun _ _ _ _ _ => (pe_call dBestActions.ok (hr.mono (by decide)) rfl dBestActions.g dBestActions.kp dBestActions.b .nil pass0 (pa_cons (pv 0) (pa_cons (pv 1) (pa_cons (pv 3) (pa_cons (pv 2) pa_nil)))))))))), ?_⟩
    have hn := M.wf.n4
    refine q_asgO (elr_call (n := p.stateCount) (R := fun i q H => FrAt 1000 H q (oV p t i)) (vs := [.ref L.a, .int (t : Int)]) (ea_cons (ev_var rfl) (ea_cons (ev_var rfl) ea_nil)) fun H2 e2 => ⟨L, p, t, rfl, M.mono e2, ht, rfl, rfl⟩) fun pb bs H1 npb e1 hbl hpb hbs => ?_
    have M1 := M.mono e1
    refine s_retO (elr_of_elo (old := false) (n := p.stateCount) (o := fun i => .lst (nV (acts p t i))) (elo_R (ea_cons (ev_f1 T M1 (ev_var rfl)) ea_nil) (by omega) (fun x => rfl) fun i hi => eob_L ?_)) fun p2 ws H2 np2 e2 hl hp hr => q p2 ws H2 (fresh_back e1 np2) (e1.trans e2) hl hp hr
    exact el_call (ea_cons (ev_var rfl) (ea_cons (ev_var rfl) (ea_cons (ev_var rfl) (ea_cons (ev_var rfl) ea_nil)))) (spL_use fun H3 e3 => ⟨L, p, t, i, pb, bs, rfl, M1.mono e3, ht, hi, sq_of (e3 _ _ hpb), hbl, fun k r hk => (hbs k r hk).mono e3, rfl⟩))
def dfBestPolicy (T : Txt K mg C fi) (dBestActionsEverywhere : Df P w K mg base "best_actions_everywhere" 7 ["model", "table"] (spBestActionsEverywhere C)) (r : Rw K mg "best_policy" sBestPolicy) : Df P w K mg base "best_policy" 8 ["model", "table"] (spBestPolicy C) :=
  r.df (k := 7) scBestPolicy (fun _ _ _ _ _ _ us hl => match us, hl with | [_, _], _ => rfl)
  (fun vs H Q E h => by obtain ⟨_, ⟨_, _, _, rfl, _⟩, _⟩ := h; rfl) (fun cdv A outer sh H vs Q E hr h => by
    obtain ⟨_, ⟨L, p, t, rfl, M, ht, rfl⟩, q⟩ := h
    refine ⟨_, (pss_one (ps_ret (pe_lc (own := [("actions", 2)]) (g := gName 2) (tt := tYes) rfl scBestPolicy.nd (pi_list (pe_call dBestActionsEverywhere.ok (hr.mono (by decide)) rfl dBestActionsEverywhere.g dBestActionsEverywhere.kp dBestActionsEverywhere.b .nil pass0 (pa_cons (pv 0) (pa_cons (pv 1) pa_nil)))) (blkOk_by (N := ["model", "table", "actions"]) (sc := defScope sBestPolicy) (by decide +kernel)) (fun _ _ _ _ _ => (pg_name (i := 2) scBestPolicy.nd rfl (by first | exact Or.inl rfl | exact Or.inr rfl))) (fun _ _ _ _ _ => pts_nil) (fun _ _ _ _ _ => (pe_ix (ix_listK K (by rfl)) (pv 2) pe_int (fun _ _ => rfl)))))), ?_⟩
    have hn := M.wf.n4
    have e0 : nV (bestP p t) = (List.range p.stateCount).map fun s => V.int (((acts p t s).headD 0 : Nat) : Int) := by unfold nV bestP; rw [List.map_map]; rfl
    rw [e0] at q
    refine s_retL (el_lcNR (n := p.stateCount) (R := fun i q H => H q = some (.lst (nV (acts p t i)))) (fun i => flat_L) (fun s => V.int (((acts p t s).headD 0 : Nat) : Int)) (elr_call (vs := [.ref L.a, .int (t : Int)]) (ea_cons (ev_var rfl) (ea_cons (ev_var rfl) ea_nil)) fun H2 e2 => ⟨L, p, t, rfl, M.mono e2, ht, rfl, rfl⟩) (by omega) (fun x => rfl) fun i u H1 e1 hi hu => ?_) q
    refine ev_op (ev_var rfl) ev_c (rv_ixL (sq_of hu) (atI_nat (j := 0) ?_))
    have hne := acts_ne M.wf t hi
    cases hc : acts p t i with
    | nil => exact absurd hc hne
    | cons x r => rfl)
def dfTablesAgree (T : Txt K mg C fi) (dBestActionsEverywhere : Df P w K mg base "best_actions_everywhere" 7 ["model", "table"] (spBestActionsEverywhere C)) (r : Rw K mg "tables_agree" sTablesAgree) : Df P w K mg base "tables_agree" 8 ["model"] (spTablesAgree C) :=
  r.df (k := 7) scTablesAgree (fun _ _ _ _ _ _ us hl => match us, hl with | [_], _ => rfl)
  (fun vs H Q E h => by obtain ⟨_, ⟨_, _, rfl, _⟩, _⟩ := h; rfl) (fun cdv A outer sh H vs Q E hr h => by
    obtain ⟨_, ⟨L, p, rfl, M, rfl⟩, q⟩ := h
    refine ⟨_, (pss_one (ps_ret (pe_cmpR (op_eqDK K (by rfl) hr.units) (pe_call dBestActionsEverywhere.ok (hr.mono (by decide)) rfl dBestActionsEverywhere.g dBestActionsEverywhere.kp dBestActionsEverywhere.b .nil pass0 (pa_cons (pv 0) (pa_cons pe_int pa_nil))) (pe_call dBestActionsEverywhere.ok (hr.mono (by decide)) rfl dBestActionsEverywhere.g dBestActionsEverywhere.kp dBestActionsEverywhere.b .nil pass0 (pa_cons (pv 0) (pa_cons pe_int pa_nil))) (nomark _)))), ?_⟩
    have e0 : Kp389.sameOptimalActions p = decide ((List.range p.stateCount).map (acts p 0) = (List.range p.stateCount).map (acts p 1)) := by
      unfold Kp389.sameOptimalActions
      rw [all_acts, all_acts, Bool.eq_iff_iff, beq_iff_eq, decide_eq_true_eq]
    rw [e0] at q
    refine s_ret (ev_eqRows (n := p.stateCount) (f := acts p 0) (g := acts p 1) ?_ ?_) q
    · exact elr_call (vs := [.ref L.a, .int ((0 : Nat) : Int)]) (ea_cons (ev_var rfl) (ea_cons ev_c ea_nil)) fun H2 e2 => ⟨L, p, 0, rfl, M.mono e2, by omega, rfl, rfl⟩
    · exact elr_call (vs := [.ref L.a, .int ((1 : Nat) : Int)]) (ea_cons (ev_var rfl) (ea_cons ev_c ea_nil)) fun H2 e2 => ⟨L, p, 1, rfl, M.mono e2, by omega, rfl, rfl⟩)
end
end SR

set_option maxHeartbeats 4000000
/-! model.py: another process with these weights -/
namespace SR
open PySem PySem.Spec PyProof.Rows L2 Evl
abbrev sWithWeights : Stmt := topS 29
theorem scWithWeights : FnScope ["model", "weights", "other", "rewards", "row"] ["model", "weights"] (defScope sWithWeights) := ⟨rfl, rfl, rfl, by decide +kernel, rfl, by decide +kernel, by decide +kernel⟩
abbrev sTellsApart : Stmt := topS 85
theorem scTellsApart : FnScope ["model", "next_states"] ["model", "next_states"] (defScope sTellsApart) := ⟨rfl, rfl, rfl, by decide +kernel, rfl, by decide +kernel, by decide +kernel⟩
section
variable {P : Program} {w : World} {K : PySem.W.Frag} {mg : Str → Option Value} {base : Heap} {C fi aN aW : Addr} {σ : L2.St} {H H' : Hp} {ta tb te tl tv : TE} {L : Lay} {p : Kp389.Process}
/-- x = C(..) -/
theorem q_make {sp : Sp} {dvs vs : List V} {E : XK} {ta : TA} {i : Nat} {D : Ends} {tz : TS} (h : EvA ta σ H vs)
    (k : ∀ H1, Ex H H1 → ∀ x dx, H1 x = none → H1 dx = none → dx ≠ x → sp (.ref x :: (vs ++ dvs)) (L2.upd (L2.upd H1 dx (.own x)) x (.ins C dx [])) (fun v H2 => v = .non ∧ tz D (σ.set i (some (.ref x))) H2) E) : tSeq (tAsg (tMake C sp dvs E ta) (gName i)) tz D σ H := h H (Ex.refl H) _ k
/-- a new list of new lists, no two of them one -/
def RowsNew (H1 : Hp) (n : Nat) (ys : Nat → List V) (v : V) (H2 : Hp) : Prop := ∃ (q : Addr) (ws : List Addr), v = .ref q ∧ H1 q = none ∧ Ex H1 H2 ∧ ws.length = n ∧ ws.Nodup ∧ H2 q = some (.lst (ws.map V.ref)) ∧ ∀ (i : Nat) (x : Addr), ws[i]? = some x → x ≠ q ∧ H1 x = none ∧ H2 x = some (.lst (ys i))
theorem elo_LD {p0 : Addr} {xs : List V} {ys : Nat → List V} {vs : List Nat} {j : Nat} (h : Ev tl σ H (.ref p0)) (hx : SqL K H p0 xs) (hz : xs.length ≤ 40000) (hw : ∀ x, wipe ((wipe σ vs).set j (some x)) vs = wipe σ vs)
    (he : ∀ (i : Nat) x, xs[i]? = some x → EvL te ((wipe σ vs).set j (some x)) H (ys i)) : ∀ H1, Ex H H1 → ∀ Q : VK, (∀ v H2, RowsNew H1 xs.length ys v H2 → Q v H2) → tLc (iList K tl) (gName j) tYes te vs σ H1 Q := fun H0 e Q q => h H0 e _ fun H1 e1 => ⟨p0, rfl, ⟨xs, ex_l (e.trans e1) hx⟩, fun Dl hD => by
  refine lc_it walk_list (fun i H' => Ex H1 H' ∧ ∃ ws : List Addr, H' Dl = some (.lst (ws.map V.ref)) ∧ ws.length = i ∧ ws.Nodup ∧ ∀ (k : Nat) (x : Addr), ws[k]? = some x → x ≠ Dl ∧ H1 x = none ∧ H' x = some (.lst (ys k)))
    ⟨Ex.new hD, [], upd_same, rfl, List.nodup_nil, fun k x hk => by simp at hk⟩ (fun i H' _ hp => ex_l ((e.trans e1).trans hp.1) hx) ?_ ?_
  · rintro i x H2 H3 hi ⟨e2, ws, hw2, hl, hnd, hr⟩ ⟨rfl, hxi⟩
    refine ⟨hw x, ?_⟩
    show te ((wipe σ vs).set j (some x)) _ _
    refine he i x hxi _ ((e.trans e1).trans e2) _ fun qn H4 nqn e4 hqn => ?_
    have nd : qn ∉ ws := fun hm => by
      obtain ⟨k, hk, rfl⟩ := List.mem_iff_getElem.mp hm
      rw [(hr k _ (List.getElem?_eq_getElem hk)).2.2] at nqn; cases nqn
    have nDl : qn ≠ Dl := fun h => by rw [h, hw2] at nqn; cases nqn
    refine ⟨ws.map V.ref, e4 _ _ hw2, sz_lt (by simp; omega), Ex.mut (e2.trans e4) hD, ws ++ [qn], by rw [upd_same]; simp, by simp [hl], ?_, ?_⟩
    · rw [List.nodup_append]
      refine ⟨hnd, by simp, fun a ha b hb => ?_⟩
      have : b = qn := by simpa using hb
      subst this
      exact fun h => nd (h ▸ ha)
    · intro k y hk
      by_cases hk2 : k < ws.length
      · rw [List.getElem?_append_left hk2] at hk
        obtain ⟨h1, h2, h3⟩ := hr k y hk
        exact ⟨h1, h2, by rw [upd_ne h1]; exact e4 _ _ h3⟩
      · have hk3 : k = ws.length := by
          have := (List.getElem?_eq_some_iff.mp hk).1
          simp at this; omega
        subst hk3
        have hy : qn = y := by simpa using hk
        subst hy
        exact ⟨nDl, fresh_back e2 nqn, by rw [upd_ne nDl, hl]; exact hqn⟩
  · rintro H2 ⟨e2, ws, hw2, hl, hnd, hr⟩
    exact q (.ref Dl) H2 ⟨Dl, ws, rfl, fresh_back e1 hD, e1.trans e2, hl, hnd, hw2, fun i x hi => ⟨(hr i x hi).1, fresh_back e1 (hr i x hi).2.1, (hr i x hi).2.2⟩⟩⟩
/-- o.f = e, e told by RR -/
theorem q_fldR {f : Str} {RR : V → Hp → Prop} {D : Ends} {tz : TS} (hv : ∀ Q : VK, (∀ v H1, RR v H1 → Q v H1) → tv σ H Q)
    (k : ∀ v H1, RR v H1 → ∃ (a C dx : Addr) (fs : List (Str × V)), Ev ta σ H1 (.ref a) ∧ H1 a = some (.ins C dx fs) ∧ Cls K C ∧ NoAttr K C f ∧ fs.length < 1000 ∧ ∀ H2, Ex H1 H2 → tz D σ (L2.upd H2 a (.ins C dx (putF f v fs)))) : tSeq (sFld K ta tv f) tz D σ H :=
  hv _ fun v H1 r => by
    obtain ⟨a, C, dx, fs, h1, h2, h3, h4, h5, h6⟩ := k v H1 r
    exact h1 H1 (Ex.refl _) _ fun H2 e2 => ⟨a, C, dx, fs, rfl, e2 _ _ h2, h3, h4, h5, h6 H2 e2⟩
theorem putF_rewards {rr ww q : Addr} : putF "rewards" (.ref q) (flds p rr ww) = flds p q ww := by
  unfold flds
  rw [show ∀ (f g : Str) (v x : V) (r : List (Str × V)), ¬ g = f → putF f v ((g, x) :: r) = (g, x) :: putF f v r from fun f g v x r h => if_neg h]
  · rw [show ∀ (f g : Str) (v x : V) (r : List (Str × V)), ¬ g = f → putF f v ((g, x) :: r) = (g, x) :: putF f v r from fun f g v x r h => if_neg h]
    · rw [show ∀ (f g : Str) (v x : V) (r : List (Str × V)), ¬ g = f → putF f v ((g, x) :: r) = (g, x) :: putF f v r from fun f g v x r h => if_neg h]
      · rw [show ∀ (f g : Str) (v x : V) (r : List (Str × V)), ¬ g = f → putF f v ((g, x) :: r) = (g, x) :: putF f v r from fun f g v x r h => if_neg h]
        · rw [show ∀ (f g : Str) (v x : V) (r : List (Str × V)), ¬ g = f → putF f v ((g, x) :: r) = (g, x) :: putF f v r from fun f g v x r h => if_neg h]
          · exact congrArg _ (congrArg _ (congrArg _ (congrArg _ (congrArg _ (if_pos rfl)))))
          · decide +kernel
        · decide +kernel
      · decide +kernel
    · decide +kernel
  · decide +kernel
/-- both tables' lists new -/
theorem Mdl.allR (M : Mdl C H L p) {q r0 r1 : Addr} {l0 l1 : List Int} (h0 : okR p l0) (h1 : okR p l1) (hq : H q = some (.lst [.ref r0, .ref r1])) (hr0 : H r0 = some (.lst (iV l0))) (hr1 : H r1 = some (.lst (iV l1)))
    (fq : q ∉ addrs L) (f0 : r0 ∉ addrs L) (f1 : r1 ∉ addrs L) (n0 : r0 ≠ q) (n1 : r1 ≠ q) (n01 : r0 ≠ r1) :
    Mdl C (L2.upd H L.a (.ins C L.dx (flds p q L.ww))) { L with rr := q, r0 := r0, r1 := r1 } { p with rewards0 := l0, rewards1 := l1 } := by
  unfold addrs at fq f0 f1
  simp only [List.mem_cons, not_or] at fq f0 f1
  obtain ⟨a1, a2, a3, a4, a5, a6⟩ := fq
  obtain ⟨b1, b2, b3, b4, b5, b6⟩ := f0
  obtain ⟨c1, c2, c3, c4, c5, c6⟩ := f1
  have hw := M.wf
  refine ⟨upd_same, ?_, ?_, ?_, ?_, M.wl, ?_, nd4_mk (Ne.symm n0) (Ne.symm n1) a5 n01 b5 c5, ?_, ⟨hw.n2, hw.n4, hw.m1, hw.m3, hw.g1, hw.gh, hw.h10, h0.1, h1.1, h0.2, h1.2, hw.tl, hw.tr⟩⟩
  · rw [upd_ne a1]; exact hq
  · rw [upd_ne b1]; exact hr0
  · rw [upd_ne c1]; exact hr1
  · rw [upd_ne (M.a_ne M.ww)]; exact M.ww
  · intro i x w' g1 g2
    have hx := M.ws i x w' g1 g2
    rw [upd_ne (M.a_ne hx)]; exact hx
  · intro x hx
    have s4 := (sep4 (M.sep x hx)).2.2.2
    exact sep4_mk ⟨fun (e : x = q) => a6 (by rw [← e]; exact hx), fun (e : x = r0) => b6 (by rw [← e]; exact hx), fun (e : x = r1) => c6 (by rw [← e]; exact hx), s4⟩

def spWithWeights (K : PySem.W.Frag) (C : Addr) : Sp := spN fun vs H R => ∃ (L : Lay) (p : Kp389.Process) (g : Addr) (ws : List Addr) (ts : List (List Nat)), vs = [.ref L.a, .ref g] ∧ Mdl C H L p ∧ SqL K H g (ws.map V.ref) ∧ ws.length = ts.length ∧
  (∀ (i : Nat) (x : Addr) (w : List Nat), ws[i]? = some x → ts[i]? = some w → H x = some (.lst (nV w))) ∧ ts.length = p.stateCount * p.actionCount ∧ (∀ w ∈ ts, Kp389.validWeights p w = true) ∧ R = fun q H => ∃ L' : Lay, L'.a = q ∧ Mdl C H L' { p with transitions := ts }
def dfWithWeights (T : Txt K mg C fi) (dModelInit : Dfi P w K mg base 2 ["self", "state_count", "action_count", "discount_num", "discount_den"] (spModelInit C)) (hfi : dModelInit.f = fi) (r : Rw K mg "with_weights" sWithWeights) : Df P w K mg base "with_weights" 4 ["model", "weights"] (spWithWeights K C) :=
  r.df (k := 3) scWithWeights (fun _ _ _ _ _ _ us hl => match us, hl with | [_, _], _ => rfl)
  (fun vs H Q E h => by obtain ⟨_, ⟨_, _, _, _, _, rfl, _⟩, _⟩ := h; rfl) (fun cdv A outer sh H vs Q E hr h => by
    obtain ⟨_, ⟨L, p, g, ws, ts, rfl, M, hg, hwl, hws, htl, htv, rfl⟩, q⟩ := h
    subst hfi
    refine ⟨_, (pss_cons (ps_set (i := 2) scWithWeights.nd rfl (by first | exact Or.inl rfl | exact Or.inr rfl) (pe_make T.mkC dModelInit.ok (hr.mono (by decide)) rfl T.gC dModelInit.b .nil pass0 (pa_cons (pe_fldK K (by rfl) (pv 0) (by rfl)) (pa_cons (pe_fldK K (by rfl) (pv 0) (by rfl)) (pa_cons (pe_fldK K (by rfl) (pv 0) (by rfl)) (pa_cons (pe_fldK K (by rfl) (pv 0) (by rfl)) pa_nil))))))
      (pss_cons (ps_fld (pv 2) (pe_lc (own := [("rewards", 3)]) (g := gName 3) (tt := tYes) rfl scWithWeights.nd (pi_list (pe_fldK K (by rfl) (pv 0) (by rfl))) (blkOk_by (N := ["model", "weights", "other", "rewards", "row"]) (sc := defScope sWithWeights) (by decide +kernel)) (fun _ _ _ _ _ => (pg_name (i := 3) scWithWeights.nd rfl (by first | exact Or.inl rfl | exact Or.inr rfl))) (fun _ _ _ _ _ => pts_nil) (fun _ _ _ _ _ => (pe_callTy (call_listK K (by rfl)) (by rfl) T.n_list (by decide +kernel) (pa_cons (pv 3) pa_nil)))) rfl)
      (pss_cons (ps_fld (pv 2) (pe_lc (own := [("row", 4)]) (g := gName 4) (tt := tYes) rfl scWithWeights.nd (pi_list (pv 1)) (blkOk_by (N := ["model", "weights", "other", "rewards", "row"]) (sc := defScope sWithWeights) (by decide +kernel)) (fun _ _ _ _ _ => (pg_name (i := 4) scWithWeights.nd rfl (by first | exact Or.inl rfl | exact Or.inr rfl))) (fun _ _ _ _ _ => pts_nil) (fun _ _ _ _ _ => (pe_callTy (call_listK K (by rfl)) (by rfl) T.n_list (by decide +kernel) (pa_cons (pv 4) pa_nil)))) rfl)
      (pss_one (ps_ret (pv 2)))))), ?_⟩
    have hwf := M.wf
    have hok : okNew p.stateCount p.actionCount p.discountNum p.discountDen := ⟨hwf.n2, hwf.n4, hwf.m1, hwf.m3, hwf.g1, hwf.gh, hwf.h10⟩
    have hnm : p.stateCount * p.actionCount ≤ 4 * 3 := Nat.mul_le_mul hwf.n4 hwf.m3
    refine q_make (ea_cons (ev_f1 T M (ev_var rfl)) (ea_cons (ev_f2 T M (ev_var rfl)) (ea_cons (ev_f3 T M (ev_var rfl)) (ea_cons (ev_f4 T M (ev_var rfl)) ea_nil)))) fun H1 e1 x dx nx ndx nex => ?_
    refine ⟨x, dx, p.stateCount, p.actionCount, p.discountNum, p.discountDen, rfl, upd_same, hok, fun H2 Ln hLa M2 fr2 ad2 => ⟨rfl, ?_⟩⟩
    have e2 : Ex H1 H2 := fun b o h => fr2 b o (by rw [upd_ne (ne_of_none h nx), upd_ne (ne_of_none h ndx)]; exact h) (ne_of_none h nx)
    subst hLa
    have nx0 : H Ln.a = none := fresh_back e1 nx
    have E2 := e1.trans e2
    have M' := M.mono E2
    refine q_fldR (RR := RowsNew H2 2 fun i => iV (Kp389.rewards p i)) (elo_LD (xs := [.ref L.r0, .ref L.r1]) (ev_f6 T M' (ev_var rfl)) (sq_of M'.rr) (by simp) (fun _ => rfl) (fun i y hy => ?_) H2 (Ex.refl _)) ?_
    · match i, hy with
      | 0, hy =>
        have hy := Option.some.inj hy
        subst hy
        exact el_copy (ev_var rfl) (sq_of M'.r0)
      | 1, hy =>
        have hy := Option.some.inj hy
        subst hy
        exact el_copy (ev_var rfl) (sq_of M'.r1)
    rintro _ H3 ⟨p1, us, rfl, np1, e3, hul, hnd, hp1, hus⟩
    refine ⟨Ln.a, C, Ln.dx, _, ev_var rfl, e3 _ _ M2.ins, T.cl, T.n6, Nat.lt_of_le_of_lt (Nat.le_of_ble_eq_true rfl) (by decide : 900 < 1000), fun H4 e4 => ?_⟩
    rw [putF_rewards]
    match us, hul, hnd, hp1, hus with
    | [u0, u1], _, hnd, hp1, hus =>
    obtain ⟨a1, a2, a3⟩ := hus 0 u0 rfl
    obtain ⟨b1, b2, b3⟩ := hus 1 u1 rfl
    have E34 := e3.trans e4
    have hn01 : u0 ≠ u1 := fun h => by
      rw [h] at hnd; simp at hnd
    have M5 := (M2.mono E34).allR (l0 := p.rewards0) (l1 := p.rewards1) ⟨hwf.r0, hwf.b0⟩ ⟨hwf.r1, hwf.b1⟩ (e4 _ _ hp1) (e4 _ _ a3) (e4 _ _ b3) (M2.fresh np1) (M2.fresh a2) (M2.fresh b2) a1 b1 hn01
    have E5 : Ex H (L2.upd H4 Ln.a (.ins C Ln.dx (flds (Kp389.newProcess p.stateCount p.actionCount p.discountNum p.discountDen) p1 Ln.ww))) := Ex.mut (E2.trans E34) nx0
    generalize (L2.upd H4 Ln.a (.ins C Ln.dx (flds (Kp389.newProcess p.stateCount p.actionCount p.discountNum p.discountDen) p1 Ln.ww))) = H5 at M5 E5 ⊢
    refine q_fldR (RR := RowsNew H5 (ws.map V.ref).length fun i => nV (ts.getD i [])) (elo_LD (xs := ws.map V.ref) (ev_var rfl) (ex_l E5 hg) (by rw [List.length_map]; omega) (fun _ => rfl) (fun i y hy => ?_) H5 (Ex.refl _)) ?_
    · rw [List.getElem?_map] at hy
      cases hwi : ws[i]? with
      | none => rw [hwi] at hy; cases hy
      | some u =>
        rw [hwi] at hy
        have hy := Option.some.inj hy
        subst hy
        have hi : i < ts.length := by
          have := (List.getElem?_eq_some_iff.mp hwi).1
          omega
        have hti : ts[i]? = some ts[i] := List.getElem?_eq_getElem hi
        have hg2 : ts.getD i [] = ts[i] := by simp [List.getD, hti]
        rw [hg2]
        exact el_copy (ev_var rfl) (sq_of (E5 _ _ (hws i u _ hwi hti)))
    rintro _ H6 ⟨p2, vs, rfl, np2, e6, hvl, hvnd, hp2, hvs⟩
    refine ⟨Ln.a, C, Ln.dx, _, ev_var rfl, e6 _ _ M5.ins, T.cl, T.n7, Nat.lt_of_le_of_lt (Nat.le_of_ble_eq_true rfl) (by decide : 900 < 1000), fun H7 e7 => ?_⟩
    rw [putF_weights]
    have E67 := e6.trans e7
    have M8 := (M5.mono E67).allW (q := p2) (ws := vs) (ts := ts) htl htv (e7 _ _ hp2) (M5.fresh np2) (by rw [hvl, List.length_map]; exact hwl) (fun i u w' h1 h2 => by
      have h3 : H6 u = some (.lst (nV (ts.getD i []))) := (hvs i u h1).2.2
      have hg2 : ts.getD i [] = w' := by simp [List.getD, h2]
      rw [hg2] at h3
      exact e7 _ _ h3) (fun u hu => by
        obtain ⟨i, hi, rfl⟩ := List.mem_iff_getElem.mp hu
        obtain ⟨c1, c2, _⟩ := hvs i vs[i] (List.getElem?_eq_getElem hi)
        exact ⟨M5.fresh c2, c1⟩)
    exact s_ret (ev_var rfl) fun H8 e8 => q Ln.a H8 nx0 ((Ex.mut (E5.trans E67) nx0).trans e8) ⟨{ Ln with rr := p1, r0 := u0, r1 := u1, ww := p2, ws := vs }, rfl, M8.mono e8⟩)
def spTellsApart (K : PySem.W.Frag) (C : Addr) : Sp := spV fun vs H v => ∃ (L : Lay) (p : Kp389.Process) (g : Addr) (l : List Nat), vs = [.ref L.a, .ref g] ∧ Mdl C H L p ∧ SqL K H g (nV l) ∧ Kp389.validWorld p l = true ∧ v = .bl (!(Kp389.sameOptimalActions (Kp389.deterministic p l)))
def dfTellsApart (T : Txt K mg C fi) (dDeterministic : Df P w K mg base "deterministic" 2 ["model", "next_states"] (spDeterministic K C)) (dWithWeights : Df P w K mg base "with_weights" 4 ["model", "weights"] (spWithWeights K C)) (dTablesAgree : Df P w K mg base "tables_agree" 8 ["model"] (spTablesAgree C)) (r : Rw K mg "tells_apart" sTellsApart) : Df P w K mg base "tells_apart" 9 ["model", "next_states"] (spTellsApart K C) :=
  r.df (k := 8) scTellsApart (fun _ _ _ _ _ _ us hl => match us, hl with | [_, _], _ => rfl)
  (fun vs H Q E h => by obtain ⟨_, ⟨_, _, _, _, rfl, _⟩, _⟩ := h; rfl) (fun cdv A outer sh H vs Q E hr h => by
    obtain ⟨_, ⟨L, p, g, l, rfl, M, hl, hv, rfl⟩, q⟩ := h
    refine ⟨_, (pss_one (ps_ret (pe_not (pe_call dTablesAgree.ok (hr.mono (by decide)) rfl dTablesAgree.g dTablesAgree.kp dTablesAgree.b .nil pass0 (pa_cons (pe_call dWithWeights.ok (hr.mono (by decide)) rfl dWithWeights.g dWithWeights.kp dWithWeights.b .nil pass0 (pa_cons (pv 0) (pa_cons (pe_call dDeterministic.ok (hr.mono (by decide)) rfl dDeterministic.g dDeterministic.kp dDeterministic.b .nil pass0 (pa_cons (pv 0) (pa_cons (pv 1) pa_nil))) pa_nil))) pa_nil))))), ?_⟩
    obtain ⟨d1, d2⟩ := det_valid hv
    have hll : l.length = p.stateCount * p.actionCount := by
      unfold Kp389.validWorld at hv
      simp only [Bool.and_eq_true, decide_eq_true_eq] at hv
      exact hv.1
    have hnm : p.stateCount * p.actionCount ≤ 4 * 3 := Nat.mul_le_mul M.wf.n4 M.wf.m3
    have hlt : (Kp389.deterministic p l).transitions.length = l.length := by simp [Kp389.deterministic]
    refine s_ret (ev_notV (ev_callP (ap_n (R1 := fun q H => ∃ L' : Lay, L'.a = q ∧ Mdl C H L' (Kp389.deterministic p l)) (en_callP (ap_v (ev_var rfl) (ap_lr (n := l.length) (R := fun i q H => H q = some (detO p l i)) (elr_of_elo (elo_call (vs := [.ref L.a, .ref g]) (ea_cons (ev_var rfl) (ea_cons (ev_var rfl) ea_nil)) fun H2 e2 => ⟨L, p, g, l, rfl, M.mono e2, ex_l e2 hl, by omega, rfl, rfl⟩)) (fun i => flat_L) (ap_of ea_nil))) ?_)
      (fun q H H' e ⟨L', h1, h2⟩ => ⟨L', h1, h2.mono e⟩) (ap_of ea_nil)) ?_)) q
    · rintro _ H2 e2 ⟨_, rfl, u, ws, _, rfl, hwl, hu, hws, rfl⟩
      refine ⟨L, p, u, ws, (Kp389.deterministic p l).transitions, rfl, M.mono e2, sq_of hu, by rw [hwl, hlt], fun i x w' h1 h2 => ?_, d1, d2, rfl⟩
      have hi : i < l.length := by rw [← hwl]; exact (List.getElem?_eq_some_iff.mp h1).1
      have h3 := hws i x h1
      rw [det_at (List.getElem?_eq_getElem hi)] at h2
      have h2 := Option.some.inj h2
      subst h2
      unfold detO at h3
      simpa [List.getD, List.getElem?_eq_getElem hi] using h3
    · rintro _ H2 e2 ⟨u, _, rfl, ⟨L', rfl, M2⟩, rfl⟩
      exact ⟨L', _, rfl, M2, rfl⟩)
end
end SR

set_option maxHeartbeats 4000000
/-! questions.py: values, actions, policies -/
namespace SR
open PySem PySem.Spec PyProof.Rows L2 Evl
abbrev sActionValue : Stmt := topS 77
theorem scActionValue : FnScope ["model", "table", "state", "action"] ["model", "table", "state", "action"] (defScope sActionValue) := ⟨rfl, rfl, rfl, by decide +kernel, rfl, by decide +kernel, by decide +kernel⟩
abbrev sOptimalActions : Stmt := topS 78
theorem scOptimalActions : FnScope ["model", "table", "state", "actions"] ["model", "table", "state"] (defScope sOptimalActions) := ⟨rfl, rfl, rfl, by decide +kernel, rfl, by decide +kernel, by decide +kernel⟩
abbrev sOptimalPolicy : Stmt := topS 79
theorem scOptimalPolicy : FnScope ["model", "table"] ["model", "table"] (defScope sOptimalPolicy) := ⟨rfl, rfl, rfl, by decide +kernel, rfl, by decide +kernel, by decide +kernel⟩
abbrev sPolicyValues : Stmt := topS 80
theorem scPolicyValues : FnScope ["model", "table", "policy"] ["model", "table", "policy"] (defScope sPolicyValues) := ⟨rfl, rfl, rfl, by decide +kernel, rfl, by decide +kernel, by decide +kernel⟩
abbrev sSameOptimalActions : Stmt := topS 81
theorem scSameOptimalActions : FnScope ["model"] ["model"] (defScope sSameOptimalActions) := ⟨rfl, rfl, rfl, by decide +kernel, rfl, by decide +kernel, by decide +kernel⟩
abbrev sRegrets : Stmt := topS 82
theorem scRegrets : FnScope ["model", "best", "reached", "most", "value"] ["model"] (defScope sRegrets) := ⟨rfl, rfl, rfl, by decide +kernel, rfl, by decide +kernel, by decide +kernel⟩
abbrev sExpectedReward : Stmt := topS 83
theorem scExpectedReward : FnScope ["model", "table", "state", "action"] ["model", "table", "state", "action"] (defScope sExpectedReward) := ⟨rfl, rfl, rfl, by decide +kernel, rfl, by decide +kernel, by decide +kernel⟩
def spActionValue (C : Addr) : Sp := fun vs H Q _ => ∃ (L : Lay) (p : Kp389.Process) (t s a : Nat), vs = [.ref L.a, .int (t : Int), .int (s : Int), .int (a : Int)] ∧ Mdl C H L p ∧ Done C H L p (.actionValue t s a) Q
def spOptimalActions (C : Addr) : Sp := fun vs H Q _ => ∃ (L : Lay) (p : Kp389.Process) (t s : Nat), vs = [.ref L.a, .int (t : Int), .int (s : Int)] ∧ Mdl C H L p ∧ Done C H L p (.optimalActions t s) Q
def spOptimalPolicy (C : Addr) : Sp := fun vs H Q _ => ∃ (L : Lay) (p : Kp389.Process) (t : Nat), vs = [.ref L.a, .int (t : Int)] ∧ Mdl C H L p ∧ Done C H L p (.optimalPolicy t) Q
def spPolicyValues (K : PySem.W.Frag) (C : Addr) : Sp := fun vs H Q _ => ∃ (L : Lay) (p : Kp389.Process) (t : Nat) (g : Addr) (l : List Nat), vs = [.ref L.a, .int (t : Int), .ref g] ∧ Mdl C H L p ∧ SqL K H g (nV l) ∧ l.length ≤ 1000 ∧ Done C H L p (.policyValues t l) Q
def spSameOptimalActions (C : Addr) : Sp := fun vs H Q _ => ∃ (L : Lay) (p : Kp389.Process), vs = [.ref L.a] ∧ Mdl C H L p ∧ Done C H L p .sameOptimalActions Q
def spRegrets (C : Addr) : Sp := fun vs H Q _ => ∃ (L : Lay) (p : Kp389.Process), vs = [.ref L.a] ∧ Mdl C H L p ∧ Done C H L p .regrets Q
def spExpectedReward (C : Addr) : Sp := fun vs H Q _ => ∃ (L : Lay) (p : Kp389.Process) (t s a : Nat), vs = [.ref L.a, .int (t : Int), .int (s : Int), .int (a : Int)] ∧ Mdl C H L p ∧ Done C H L p (.expectedReward t s a) Q

theorem cp_valid (p : Kp389.Process) (l : List Nat) :
    (decide (((l.map fun (n : Nat) => (n : Int)).length : Int) = (p.stateCount : Int)) && ((l.map fun (n : Nat) => (n : Int)).map (isBelow p.actionCount)).all id) = Kp389.validPolicy p l := by
  unfold Kp389.validPolicy
  congr 1
  · simp; omega
  · rw [List.all_map, List.all_map]
    congr 1
    funext x
    exact bE p.actionCount x
theorem pol_of {p : Kp389.Process} {l : List Nat} (h : Kp389.validPolicy p l = true) : polOk p l := by
  unfold Kp389.validPolicy at h
  simp only [Bool.and_eq_true, decide_eq_true_eq, List.all_eq_true] at h
  refine ⟨h.1, fun s hs => ?_⟩
  have hl : s < l.length := by rw [h.1]; exact hs
  have := h.2 _ (List.getElem_mem hl)
  simp only [List.getD, List.getElem?_eq_getElem hl, Option.getD_some]
  simpa [Kp389.isAction] using this
theorem polv_getD (p : Kp389.Process) (t : Nat) (l : List Nat) (i : Nat) : (Kp389.policyValues p t l).getD i 0 = pV p t l i := rfl
theorem opt_acts {p : Kp389.Process} (t : Nat) {s : Nat} (hs : s < p.stateCount) : Kp389.optimalActions p t s = acts p t s := by
  unfold Kp389.optimalActions
  rw [all_acts]
  simp [List.getD, List.getElem?_map, List.getElem?_range hs]
theorem acts_len {p : Kp389.Process} (h : WF p) (t s : Nat) : (acts p t s).length ≤ 3 := by
  have := List.length_filter_le (fun a => decide (qV p t (oV p t) s a = oV p t s)) (List.range p.actionCount)
  rw [List.length_range] at this
  exact Nat.le_trans this h.m3
theorem reg_len {p : Kp389.Process} (h : WF p) : (Kp389.regrets p).length = p.stateCount := by
  unfold Kp389.regrets
  rw [List.length_zipWith, optimal_len h, best_pol, polVals_len h 1 (bestP_ok h 0), Nat.min_self]
theorem reg_getD {p : Kp389.Process} (h : WF p) {i : Nat} (hi : i < p.stateCount) : (Kp389.regrets p).getD i 0 = oV p 1 i - pV p 1 (bestP p 0) i := by
  have h1 : i < (Kp389.optimalValues p 1).length := by rw [optimal_len h]; exact hi
  have h2 : i < (Kp389.policyValues p 1 (bestP p 0)).length := by rw [polVals_len h 1 (bestP_ok h 0)]; exact hi
  unfold Kp389.regrets oV pV
  rw [best_pol]
  simp only [List.getD, List.getElem?_zipWith, List.getElem?_eq_getElem h1, List.getElem?_eq_getElem h2, Option.getD_some]
section
variable {P : Program} {w : World} {K : PySem.W.Frag} {mg : Str → Option Value} {base : Heap} {C fi aN aW : Addr} {σ : L2.St} {H H' : Hp} {ta tb te tl : TE} {L : Lay} {p : Kp389.Process}
/-- evaluates to an object that R tells, new or not -/
def EvQ (te : TE) (σ : L2.St) (H : Hp) (R : Addr → Hp → Prop) : Prop := ∀ H1, Ex H H1 → ∀ Q : VK, (∀ q H2, Ex H1 H2 → R q H2 → Q (.ref q) H2) → te σ H1 Q
theorem eq_N {R : Addr → Hp → Prop} (h : EvN te σ H R) : EvQ te σ H R := fun H1 e Q q => h H1 e Q fun x H2 _ e2 r => q x H2 e2 r
theorem elr_oneQ {R : Addr → Hp → Prop} (h : EvQ te σ H R) (f : Flat R) : EvLR (tLst (tCons te tNil)) σ H 1 (fun _ => R) := fun H1 e Q q => h H1 e _ fun r H2 e2 hr => ⟨sz_of (by simp), fun p np =>
  q p [r] _ (fresh_back e2 np) (e2.trans (Ex.new np)) rfl upd_same fun i x hx => by
    have hi : i = 0 := by
      have := (List.getElem?_eq_some_iff.mp hx).1
      simp at this; omega
    subst hi
    have hx : r = x := Option.some.inj hx
    subst hx
    exact f.up r H2 _ (Ex.new np) hr⟩
/-- xs[i], xs a new list of objects -/
theorem eq_ix {n j : Nat} {R : Nat → Addr → Hp → Prop} (h : EvLR ta σ H n R) (f : ∀ i, Flat (R i)) (hb : Ev tb σ H (.int (j : Int))) (hj : j < n) : EvQ (tOp (rIxL K) ta tb) σ H (R j) := fun H1 e Q k =>
  h H1 e _ fun p ws H2 np e2 hl hp hr => hb H2 (e.trans e2) _ fun H3 e3 => by
    have hjw : j < ws.length := by omega
    have hwj : ws[j]? = some ws[j] := List.getElem?_eq_getElem hjw
    exact ⟨p, ws.map V.ref, (j : Int), .ref ws[j], rfl, rfl, sq_of (e3 _ _ hp), atI_nat (by rw [List.getElem?_map, hwj]; rfl), k ws[j] H3 (e2.trans e3) ((f j).up _ _ _ e3 (hr j _ hwj))⟩
/-- written([e]) -/
theorem el_written1 {b : Nat} {x : Rat} {E : XK} (h : EvQ te σ H (fun q H => FrAt b H q x)) (hb : b ≤ 8000 := by omega) : EvL (tCall (spWritten K) [] E (tCons (tLst (tCons te tNil)) tNil)) σ H (iV (Kp389.fraction x)) := by
  have := el_written (K := K) (E := E) (b := b) (l := [x]) (tl := tLst (tCons te tNil)) (σ := σ) (H := H) ((elr_oneQ h flat_fr).imp fun k q H' hk hr => by
    have : k = 0 := by simp at hk; omega
    subst this; exact hr) (by simp) hb
  simpa using this
theorem chE {t s a : Nat} : (tableExists (t : Int) && (isBelow p.stateCount (s : Int) && isBelow p.actionCount (a : Int))) = (Kp389.isTable t && Kp389.isState p s && Kp389.isAction p a) := by
  rw [tE, bE, bE, Bool.and_assoc]; rfl
theorem ch_t {t s a : Nat} (h : (Kp389.isTable t && Kp389.isState p s && Kp389.isAction p a) = true) : t ≤ 1 ∧ s < p.stateCount ∧ a < p.actionCount := by
  simp only [Bool.and_eq_true] at h
  exact ⟨by simpa [Kp389.isTable] using h.1.1, by simpa [Kp389.isState] using h.1.2, by simpa [Kp389.isAction] using h.2⟩
def dfActionValue (T : Txt K mg C fi) (dChoiceExists : Df P w K mg base "choice_exists" 2 ["model", "table", "state", "action"] (spChoiceExists C)) (dBestValues : Df P w K mg base "best_values" 6 ["model", "table"] (spBestValues C)) (dWorthOfAction : Df P w K mg base "worth_of_action" 5 ["model", "table", "state", "action", "best"] (spWorthOfAction K C)) (dWritten : Df P w K mg base "written" 3 ["fractions"] (spWritten K)) (r : Rw K mg "action_value" sActionValue) : Df P w K mg base "action_value" 7 ["model", "table", "state", "action"] (spActionValue C) :=
  r.df (k := 6) scActionValue (fun _ _ _ _ _ _ us hl => match us, hl with | [_, _, _, _], _ => rfl)
  (fun vs H Q E h => by obtain ⟨_, _, _, _, _, rfl, _⟩ := h; rfl) (fun cdv A outer sh H vs Q E hr h => by
    obtain ⟨L, p, t, s, a, rfl, M, D⟩ := h
    refine ⟨_, (pss_cons (ps_if (pt_not (pt_val (pe_call dChoiceExists.ok (hr.mono (by decide)) rfl dChoiceExists.g dChoiceExists.kp dChoiceExists.b .nil pass0 (pa_cons (pv 0) (pa_cons (pv 1) (pa_cons (pv 2) (pa_cons (pv 3) pa_nil))))))) (pss_one (ps_ret (pe_lst (pa_cons (pe_globI rfl T.c_NOT_THERE) pa_nil)))) pss_nil)
      (pss_one (ps_ret (pe_op op_cat (pe_lst (pa_cons pe_int pa_nil)) (pe_call dWritten.ok (hr.mono (by decide)) rfl dWritten.g dWritten.kp dWritten.b .nil pass0 (pa_cons (pe_lst (pa_cons (pe_call dWorthOfAction.ok (hr.mono (by decide)) rfl dWorthOfAction.g dWorthOfAction.kp dWorthOfAction.b .nil pass0 (pa_cons (pv 0) (pa_cons (pv 1) (pa_cons (pv 2) (pa_cons (pv 3) (pa_cons (pe_call dBestValues.ok (hr.mono (by decide)) rfl dBestValues.g dBestValues.kp dBestValues.b .nil pass0 (pa_cons (pv 0) (pa_cons (pv 1) pa_nil))) pa_nil)))))) pa_nil)) pa_nil)))))), ?_⟩
    refine q_when (b := !(Kp389.isTable t && Kp389.isState p s && Kp389.isAction p a)) (et_not (et_B (ev_call (ea_cons (ev_var rfl) (ea_cons (ev_var rfl) (ea_cons (ev_var rfl) (ea_cons (ev_var rfl) ea_nil)))) (spV_use fun H2 e2 => ⟨L, p, t, s, a, rfl, M.mono e2, by rw [chE]⟩)))) (fun hb H1 e1 => ?_) (fun hb H1 e1 => ?_)
    · have hb := not_t hb
      exact s_retL (el_lst (ea_cons ev_c ea_nil) (by simp)) ((D.pre e1).same (M.mono e1) (xs := [-2]) (by simp only [Kp389.step, hb]; rfl) (by simp))
    · have hb := not_f hb
      obtain ⟨ht, hs, ha⟩ := ch_t hb
      have M1 := M.mono e1
      have D1 := D.pre e1
      refine s_retL (el_catLL (xs := [.int 0]) (ys := iV (Kp389.fraction (qV p t (oV p t) s a))) (el_lst (ea_cons ev_c ea_nil) (by simp)) (el_written1 (b := 5000) (eq_N (en_callP (ap_v (ev_var rfl) (ap_v (ev_var rfl) (ap_v (ev_var rfl) (ap_v (ev_var rfl) (ap_lr (n := p.stateCount) (R := fun i q H => FrAt 1000 H q (oV p t i)) (elr_call (vs := [.ref L.a, .int (t : Int)]) (ea_cons (ev_var rfl) (ea_cons (ev_var rfl) ea_nil)) fun H2 e2 => ⟨L, p, t, rfl, M1.mono e2, ht, rfl, rfl⟩) (fun i => flat_fr) (ap_of ea_nil)))))) ?_))) (by simp [iV, Kp389.fraction])) ?_
      · rintro _ H2 e2 ⟨_, rfl, _, rfl, _, rfl, _, rfl, u, ws, _, rfl, hwl, hu, hws, rfl⟩
        exact ⟨L, p, t, s, a, u, ws, oV p t, rfl, M1.mono e2, ht, hs, ha, sq_of hu, hwl, hws, rfl⟩
      · exact D1.same M1 (xs := 0 :: Kp389.fraction (qV p t (oV p t) s a)) (by simp only [Kp389.step, hb, if_true]; rfl) (by simp))
def dfOptimalActions (T : Txt K mg C fi) (dTableExists : Df P w K mg base "table_exists" 1 ["table"] spTableExists) (dStateExists : Df P w K mg base "state_exists" 1 ["model", "state"] (spStateExists C)) (dBestValues : Df P w K mg base "best_values" 6 ["model", "table"] (spBestValues C)) (dBestActions : Df P w K mg base "best_actions" 6 ["model", "table", "state", "best"] (spBestActions K C)) (r : Rw K mg "optimal_actions" sOptimalActions) : Df P w K mg base "optimal_actions" 7 ["model", "table", "state"] (spOptimalActions C) :=
  r.df (k := 6) scOptimalActions (fun _ _ _ _ _ _ us hl => match us, hl with | [_, _, _], _ => rfl)
  (fun vs H Q E h => by obtain ⟨_, _, _, _, rfl, _⟩ := h; rfl) (fun cdv A outer sh H vs Q E hr h => by
    obtain ⟨L, p, t, s, rfl, M, D⟩ := h
    refine ⟨_, (pss_cons (ps_if (pt_not (PW.pt (pw_and (pt_val (pe_call dTableExists.ok (hr.mono (by decide)) rfl dTableExists.g dTableExists.kp dTableExists.b .nil pass0 (pa_cons (pv 1) pa_nil))) (pw_and1 (pt_val (pe_call dStateExists.ok (hr.mono (by decide)) rfl dStateExists.g dStateExists.kp dStateExists.b .nil pass0 (pa_cons (pv 0) (pa_cons (pv 2) pa_nil)))))))) (pss_one (ps_ret (pe_lst (pa_cons (pe_globI rfl T.c_NOT_THERE) pa_nil)))) pss_nil)
      (pss_cons (ps_set (i := 3) scOptimalActions.nd rfl (by first | exact Or.inl rfl | exact Or.inr rfl) (pe_call dBestActions.ok (hr.mono (by decide)) rfl dBestActions.g dBestActions.kp dBestActions.b .nil pass0 (pa_cons (pv 0) (pa_cons (pv 1) (pa_cons (pv 2) (pa_cons (pe_call dBestValues.ok (hr.mono (by decide)) rfl dBestValues.g dBestValues.kp dBestValues.b .nil pass0 (pa_cons (pv 0) (pa_cons (pv 1) pa_nil))) pa_nil))))))
      (pss_one (ps_ret (pe_op op_cat (pe_lst (pa_cons (pe_callB (call_lenK K (by rfl)) (by rfl) T.n_len (by decide +kernel) (pa_cons (pv 3) pa_nil)) pa_nil)) (pv 3)))))), ?_⟩
    refine q_when (b := !(Kp389.isTable t && Kp389.isState p s)) (et_not (et_and (et_B (ev_call (ea_cons (ev_var rfl) ea_nil) (spV_use fun H2 e2 => ⟨t, rfl, by rw [tE]⟩))) fun _ => et_B (ev_call (ea_cons (ev_var rfl) (ea_cons (ev_var rfl) ea_nil)) (spV_use fun H2 e2 => ⟨L, p, s, rfl, M.mono e2, by rw [bE]; rfl⟩)))) (fun hb H1 e1 => ?_) (fun hb H1 e1 => ?_)
    · have hb := not_t hb
      exact s_retL (el_lst (ea_cons ev_c ea_nil) (by simp)) ((D.pre e1).same (M.mono e1) (xs := [-2]) (by simp only [Kp389.step, hb]; rfl) (by simp))
    · have hb := not_f hb
      have hb2 := hb
      simp only [Bool.and_eq_true] at hb2
      have ht : t ≤ 1 := by simpa [Kp389.isTable] using hb2.1
      have hs : s < p.stateCount := by simpa [Kp389.isState] using hb2.2
      have M1 := M.mono e1
      have D1 := D.pre e1
      refine q_asgL (xs := nV (acts p t s)) (el_callP (ap_v (ev_var rfl) (ap_v (ev_var rfl) (ap_v (ev_var rfl) (ap_lr (n := p.stateCount) (R := fun i q H => FrAt 1000 H q (oV p t i)) (elr_call (vs := [.ref L.a, .int (t : Int)]) (ea_cons (ev_var rfl) (ea_cons (ev_var rfl) ea_nil)) fun H2 e2 => ⟨L, p, t, rfl, M1.mono e2, ht, rfl, rfl⟩) (fun i => flat_fr) (ap_of ea_nil))))) ?_) fun u H2 nu e2 hu => ?_
      · rintro _ H2 e2 ⟨_, rfl, _, rfl, _, rfl, u, ws, _, rfl, hwl, hu, hws, rfl⟩
        exact ⟨L, p, t, s, u, ws, rfl, M1.mono e2, ht, hs, sq_of hu, hwl, hws, rfl⟩
      · have hl3 := acts_len M.wf t s
        refine s_retL (el_cat (xs := [.int ((nV (acts p t s)).length : Int)]) (ys := nV (acts p t s)) (el_lst (ea_cons (ev_lenL (ev_var rfl) (sq_of hu)) ea_nil) (by simp)) (ev_var rfl) hu (by rw [nV_len]; simp; omega)) ?_
        have := (D1.pre e2).same (M1.mono e2) (xs := ((acts p t s).length : Int) :: (acts p t s).map fun (n : Nat) => (n : Int)) (by simp only [Kp389.step, hb, if_true, opt_acts t hs]; rfl) (by simp)
        have e : iV (((acts p t s).length : Int) :: (acts p t s).map fun (n : Nat) => (n : Int)) = [.int ((nV (acts p t s)).length : Int)] ++ nV (acts p t s) := by
          rw [nV_len, nV_iV]; rfl
        rw [e] at this; exact this)
def dfOptimalPolicy (T : Txt K mg C fi) (dTableExists : Df P w K mg base "table_exists" 1 ["table"] spTableExists) (dBestPolicy : Df P w K mg base "best_policy" 8 ["model", "table"] (spBestPolicy C)) (r : Rw K mg "optimal_policy" sOptimalPolicy) : Df P w K mg base "optimal_policy" 9 ["model", "table"] (spOptimalPolicy C) :=
  r.df (k := 8) scOptimalPolicy (fun _ _ _ _ _ _ us hl => match us, hl with | [_, _], _ => rfl)
  (fun vs H Q E h => by obtain ⟨_, _, _, rfl, _⟩ := h; rfl) (fun cdv A outer sh H vs Q E hr h => by
    obtain ⟨L, p, t, rfl, M, D⟩ := h
    refine ⟨_, (pss_cons (ps_if (pt_not (pt_val (pe_call dTableExists.ok (hr.mono (by decide)) rfl dTableExists.g dTableExists.kp dTableExists.b .nil pass0 (pa_cons (pv 1) pa_nil)))) (pss_one (ps_ret (pe_lst (pa_cons (pe_globI rfl T.c_NOT_THERE) pa_nil)))) pss_nil)
      (pss_one (ps_ret (pe_op op_cat (pe_lst (pa_cons (pe_fldK K (by rfl) (pv 0) (by rfl)) pa_nil)) (pe_call dBestPolicy.ok (hr.mono (by decide)) rfl dBestPolicy.g dBestPolicy.kp dBestPolicy.b .nil pass0 (pa_cons (pv 0) (pa_cons (pv 1) pa_nil))))))), ?_⟩
    refine q_when (b := !(Kp389.isTable t)) (et_not (et_B (ev_call (ea_cons (ev_var rfl) ea_nil) (spV_use fun H2 e2 => ⟨t, rfl, by rw [tE]⟩)))) (fun hb H1 e1 => ?_) (fun hb H1 e1 => ?_)
    · have hb := not_t hb
      exact s_retL (el_lst (ea_cons ev_c ea_nil) (by simp)) ((D.pre e1).same (M.mono e1) (xs := [-2]) (by simp only [Kp389.step, hb]; rfl) (by simp))
    · have hb := not_f hb
      have ht : t ≤ 1 := by simpa [Kp389.isTable] using hb
      have M1 := M.mono e1
      have hn := M.wf.n4
      have hbl : (bestP p t).length = p.stateCount := (bestP_ok M.wf t).1
      refine s_retL (el_catLL (xs := [.int (p.stateCount : Int)]) (ys := nV (bestP p t)) (el_lst (ea_cons (ev_f1 T M1 (ev_var rfl)) ea_nil) (by simp)) (el_call (ea_cons (ev_var rfl) (ea_cons (ev_var rfl) ea_nil)) (spL_use fun H2 e2 => ⟨L, p, t, rfl, M1.mono e2, ht, rfl⟩)) (by rw [nV_len, hbl]; simp; omega)) ?_
      have := (D.pre e1).same M1 (xs := (p.stateCount : Int) :: (bestP p t).map fun (n : Nat) => (n : Int)) (by simp only [Kp389.step, hb, if_true, best_pol, Kp389.listResult, Kp389.natResult, hbl]; rfl) (by simp)
      have e : iV ((p.stateCount : Int) :: (bestP p t).map fun (n : Nat) => (n : Int)) = [.int (p.stateCount : Int)] ++ nV (bestP p t) := by
        rw [nV_iV]; rfl
      rw [e] at this; exact this)
def dfPolicyValues (T : Txt K mg C fi) (dTableExists : Df P w K mg base "table_exists" 1 ["table"] spTableExists) (dCanBePolicy : Df P w K mg base "can_be_policy" 2 ["model", "policy"] (spCanBePolicy K C)) (dValuesUnder : Df P w K mg base "values_under" 5 ["model", "table", "policy"] (spValuesUnder K C)) (dWritten : Df P w K mg base "written" 3 ["fractions"] (spWritten K)) (r : Rw K mg "policy_values" sPolicyValues) : Df P w K mg base "policy_values" 6 ["model", "table", "policy"] (spPolicyValues K C) :=
  r.df (k := 5) scPolicyValues (fun _ _ _ _ _ _ us hl => match us, hl with | [_, _, _], _ => rfl)
  (fun vs H Q E h => by obtain ⟨_, _, _, _, _, rfl, _⟩ := h; rfl) (fun cdv A outer sh H vs Q E hr h => by
    obtain ⟨L, p, t, g, l, rfl, M, hl, hz, D⟩ := h
    refine ⟨_, (pss_cons (ps_if (pt_not (pt_val (pe_call dTableExists.ok (hr.mono (by decide)) rfl dTableExists.g dTableExists.kp dTableExists.b .nil pass0 (pa_cons (pv 1) pa_nil)))) (pss_one (ps_ret (pe_lst (pa_cons (pe_globI rfl T.c_NOT_THERE) pa_nil)))) pss_nil)
      (pss_cons (ps_if (pt_not (pt_val (pe_call dCanBePolicy.ok (hr.mono (by decide)) rfl dCanBePolicy.g dCanBePolicy.kp dCanBePolicy.b .nil pass0 (pa_cons (pv 0) (pa_cons (pv 2) pa_nil))))) (pss_one (ps_ret (pe_lst (pa_cons (pe_globI rfl T.c_OUT_OF_LIMITS) pa_nil)))) pss_nil)
      (pss_one (ps_ret (pe_op op_cat (pe_lst (pa_cons (pe_fldK K (by rfl) (pv 0) (by rfl)) pa_nil)) (pe_call dWritten.ok (hr.mono (by decide)) rfl dWritten.g dWritten.kp dWritten.b .nil pass0 (pa_cons (pe_call dValuesUnder.ok (hr.mono (by decide)) rfl dValuesUnder.g dValuesUnder.kp dValuesUnder.b .nil pass0 (pa_cons (pv 0) (pa_cons (pv 1) (pa_cons (pv 2) pa_nil)))) pa_nil))))))), ?_⟩
    refine q_when (b := !(Kp389.isTable t)) (et_not (et_B (ev_call (ea_cons (ev_var rfl) ea_nil) (spV_use fun H2 e2 => ⟨t, rfl, by rw [tE]⟩)))) (fun hb H1 e1 => ?_) (fun hb H1 e1 => ?_)
    · have hb := not_t hb
      exact s_retL (el_lst (ea_cons ev_c ea_nil) (by simp)) ((D.pre e1).same (M.mono e1) (xs := [-2]) (by simp only [Kp389.step, hb]; rfl) (by simp))
    · have hb := not_f hb
      have ht : t ≤ 1 := by simpa [Kp389.isTable] using hb
      have M1 := M.mono e1
      have D1 := D.pre e1
      have hl1 := ex_l e1 hl
      have hl2 : SqL K H1 g (iV (l.map fun (n : Nat) => (n : Int))) := by rw [← nV_iV]; exact hl1
      refine q_when (b := !(Kp389.validPolicy p l)) (et_not (et_B (ev_call (ea_cons (ev_var rfl) (ea_cons (ev_var rfl) ea_nil)) (spV_use fun H2 e2 => ⟨L, p, g, l.map fun (n : Nat) => (n : Int), rfl, M1.mono e2, ex_l e2 hl2, by simpa using hz, by rw [cp_valid]⟩)))) (fun hc H2 e2 => ?_) (fun hc H2 e2 => ?_)
      · have hc := not_t hc
        exact s_retL (el_lst (ea_cons ev_c ea_nil) (by simp)) ((D1.pre e2).same (M1.mono e2) (xs := [-22]) (by simp only [Kp389.step, hb, hc]; rfl) (by simp))
      · have hc := not_f hc
        have hok := pol_of hc
        have M2 := M1.mono e2
        have hn := M.wf.n4
        have hpl := polVals_len M.wf t hok
        have hR : EvLR (tCall (spValuesUnder K C) [] E0 (tCons (tVar 0) (tCons (tVar 1) (tCons (tVar 2) tNil)))) (start ["model", "table", "policy"] [.ref L.a, .int (t : Int), .ref g]) H2 (Kp389.policyValues p t l).length (fun i q H => FrAt 1000 H q ((Kp389.policyValues p t l).getD i 0)) :=
          elr_call (vs := [.ref L.a, .int (t : Int), .ref g]) (ea_cons (ev_var rfl) (ea_cons (ev_var rfl) (ea_cons (ev_var rfl) ea_nil))) fun H3 e3 => ⟨L, p, t, g, l, rfl, M2.mono e3, ht, ex_l (e2.trans e3) hl1, hok, hpl, rfl⟩
        refine s_retL (el_catLL (xs := [.int (p.stateCount : Int)]) (el_lst (ea_cons (ev_f1 T M2 (ev_var rfl)) ea_nil) (by simp)) (el_written hR (by omega)) ?_) ?_
        · rw [iV_len, fr_len, hpl]; simp; omega
        · exact (D1.pre e2).same M2 (xs := (p.stateCount : Int) :: (Kp389.policyValues p t l).flatMap Kp389.fraction) (by simp only [Kp389.step, hb, hc, Kp389.fractionsResult, hpl]; rfl) (by simp))
def dfSameOptimalActions (T : Txt K mg C fi) (dTablesAgree : Df P w K mg base "tables_agree" 8 ["model"] (spTablesAgree C)) (r : Rw K mg "same_optimal_actions" sSameOptimalActions) : Df P w K mg base "same_optimal_actions" 9 ["model"] (spSameOptimalActions C) :=
  r.df (k := 8) scSameOptimalActions (fun _ _ _ _ _ _ us hl => match us, hl with | [_], _ => rfl)
  (fun vs H Q E h => by obtain ⟨_, _, rfl, _⟩ := h; rfl) (fun cdv A outer sh H vs Q E hr h => by
    obtain ⟨L, p, rfl, M, D⟩ := h
    refine ⟨_, (pss_one (ps_ret (pe_lst (pa_cons (pe_ifExp (pt_val (pe_call dTablesAgree.ok (hr.mono (by decide)) rfl dTablesAgree.g dTablesAgree.kp dTablesAgree.b .nil pass0 (pa_cons (pv 0) pa_nil))) pe_int pe_int) pa_nil)))), ?_⟩
    have hT := ev_call (σ := start ["model"] [.ref L.a]) (H := H) (sp := spTablesAgree C) (dvs := []) (vs := [.ref L.a]) (E := E0) (ta := tCons (tVar 0) tNil) (z := .bl (Kp389.sameOptimalActions p)) (ea_cons (ev_var rfl) ea_nil) (spV_use fun H2 e2 => ⟨L, p, rfl, M.mono e2, rfl⟩)
    cases hb : Kp389.sameOptimalActions p with
    | true =>
      rw [hb] at hT
      exact s_retL (el_lst (ea_cons (ev_if (v := .int 1) (et_B hT) (fun _ => ev_c) (fun h => by cases h)) ea_nil) (by simp)) (D.same M (xs := [1]) (by simp only [Kp389.step, hb]; rfl) (by simp))
    | false =>
      rw [hb] at hT
      exact s_retL (el_lst (ea_cons (ev_if (v := .int 0) (et_B hT) (fun h => by cases h) (fun _ => ev_c)) ea_nil) (by simp)) (D.same M (xs := [0]) (by simp only [Kp389.step, hb]; rfl) (by simp)))
def dfRegrets (T : Txt K mg C fi) (dBestValues : Df P w K mg base "best_values" 6 ["model", "table"] (spBestValues C)) (dBestPolicy : Df P w K mg base "best_policy" 8 ["model", "table"] (spBestPolicy C)) (dValuesUnder : Df P w K mg base "values_under" 5 ["model", "table", "policy"] (spValuesUnder K C)) (dLess : Df P w K mg base "less" 2 ["first", "second"] spLess) (dWritten : Df P w K mg base "written" 3 ["fractions"] (spWritten K)) (r : Rw K mg "regrets" sRegrets) : Df P w K mg base "regrets" 9 ["model"] (spRegrets C) :=
  r.df (k := 8) scRegrets (fun _ _ _ _ _ _ us hl => match us, hl with | [_], _ => rfl)
  (fun vs H Q E h => by obtain ⟨_, _, rfl, _⟩ := h; rfl) (fun cdv A outer sh H vs Q E hr h => by
    obtain ⟨L, p, rfl, M, D⟩ := h
    refine ⟨_, (pss_cons (ps_set (i := 1) scRegrets.nd rfl (by first | exact Or.inl rfl | exact Or.inr rfl) (pe_call dBestValues.ok (hr.mono (by decide)) rfl dBestValues.g dBestValues.kp dBestValues.b .nil pass0 (pa_cons (pv 0) (pa_cons pe_int pa_nil))))
      (pss_cons (ps_set (i := 2) scRegrets.nd rfl (by first | exact Or.inl rfl | exact Or.inr rfl) (pe_call dValuesUnder.ok (hr.mono (by decide)) rfl dValuesUnder.g dValuesUnder.kp dValuesUnder.b .nil pass0 (pa_cons (pv 0) (pa_cons pe_int (pa_cons (pe_call dBestPolicy.ok (hr.mono (by decide)) rfl dBestPolicy.g dBestPolicy.kp dBestPolicy.b .nil pass0 (pa_cons (pv 0) (pa_cons pe_int pa_nil))) pa_nil)))))
      (pss_one (ps_ret (pe_op op_cat (pe_lst (pa_cons (pe_fldK K (by rfl) (pv 0) (by rfl)) pa_nil)) (pe_call dWritten.ok (hr.mono (by decide)) rfl dWritten.g dWritten.kp dWritten.b .nil pass0 (pa_cons (pe_lc (own := [("most", 3), ("value", 4)]) (g := gPair K 3 4) (tt := tYes) rfl scRegrets.nd (pi_zip (by rfl) T.n_zip (pa_cons (pv 1) (pa_cons (pv 2) pa_nil))) (blkOk_by (N := ["model", "best", "reached", "most", "value"]) (sc := defScope sRegrets) (by decide +kernel)) (fun _ _ _ _ _ => (pg_pairK K (by rfl) rfl (pg_name (i := 3) scRegrets.nd rfl (by first | exact Or.inl rfl | exact Or.inr rfl)) (pg_name (i := 4) scRegrets.nd rfl (by first | exact Or.inl rfl | exact Or.inr rfl)))) (fun _ _ _ _ _ => pts_nil) (fun _ _ _ _ _ => (pe_call dLess.ok (hr.mono (by decide)) rfl dLess.g dLess.kp dLess.b .nil pass0 (pa_cons (pv 3) (pa_cons (pv 4) pa_nil))))) pa_nil))))))), ?_⟩
    have hn := M.wf.n4
    refine q_asgO (elr_call (n := p.stateCount) (R := fun i q H => FrAt 1000 H q (oV p 1 i)) (vs := [.ref L.a, .int ((1 : Nat) : Int)]) (ea_cons (ev_var rfl) (ea_cons ev_c ea_nil)) fun H2 e2 => ⟨L, p, 1, rfl, M.mono e2, by omega, rfl, rfl⟩) fun pb bs H1 npb e1 hbl hpb hbs => ?_
    have M1 := M.mono e1
    refine q_asgO (elr_callP (n := p.stateCount) (R := fun i q H => FrAt 1000 H q (pV p 1 (bestP p 0) i)) (ap_v (ev_var rfl) (ap_v (v := .int ((1 : Nat) : Int)) ev_c (ap_lst (xs := nV (bestP p 0)) (el_call (vs := [.ref L.a, .int ((0 : Nat) : Int)]) (ea_cons (ev_var rfl) (ea_cons ev_c ea_nil)) (spL_use fun H2 e2 => ⟨L, p, 0, rfl, M1.mono e2, by omega, rfl⟩)) (ap_of ea_nil)))) ?_) fun pr rs1 H2 npr e2 hrl hpr hrs => ?_
    · rintro _ H2 e2 ⟨_, rfl, _, rfl, u, _, rfl, hu, rfl⟩
      exact ⟨L, p, 1, u, bestP p 0, rfl, M1.mono e2, by omega, sq_of hu, bestP_ok M.wf 0, rfl, rfl⟩
    have M2 := M1.mono e2
    have hrg := reg_len M.wf
    have hZ : EvLR (tLc (iZip K (tCons (tVar 1) (tCons (tVar 2) tNil))) (gPair K 3 4) tYes (tCall spLess [] E0 (tCons (tVar 3) (tCons (tVar 4) tNil))) [3, 4])
        [some (.ref L.a), some (.ref pb), some (.ref pr), none, none] H2 p.stateCount (fun i q H => FrAt 2001 H q (oV p 1 i - pV p 1 (bestP p 0) i)) := by
      refine elr_Z (fun _ => flat_fr) (ea_cons (ev_var rfl) (ea_cons (ev_var rfl) ea_nil)) (sq_of (e2 _ _ hpb)) (sq_of hpr) (by simp [hbl, hrl]) (by omega) (fun _ _ => rfl) fun i x y hx hy => ?_
      rw [List.getElem?_map] at hx hy
      cases hcx : bs[i]? with
      | none => rw [hcx] at hx; cases hx
      | some u =>
        cases hny : rs1[i]? with
        | none => rw [hny] at hy; cases hy
        | some v =>
          rw [hcx] at hx; rw [hny] at hy
          have hx := Option.some.inj hx
          have hy := Option.some.inj hy
          subst hx hy
          exact eo_N (en_call (us := [.ref u, .ref v]) (ea_cons (ev_var rfl) (ea_cons (ev_var rfl) ea_nil)) fun H3 e3 => ⟨u, v, 1000, 1000, _, _, rfl, ((hbs i u hcx).mono e2).mono e3, (hrs i v hny).mono e3, by omega, by omega, rfl⟩)
    have hZ2 : EvLR (tLc (iZip K (tCons (tVar 1) (tCons (tVar 2) tNil))) (gPair K 3 4) tYes (tCall spLess [] E0 (tCons (tVar 3) (tCons (tVar 4) tNil))) [3, 4])
        [some (.ref L.a), some (.ref pb), some (.ref pr), none, none] H2 (Kp389.regrets p).length (fun i q H => FrAt 2001 H q ((Kp389.regrets p).getD i 0)) := by
      rw [hrg]
      exact hZ.imp fun k q H' hk hr => by rw [reg_getD M.wf hk]; exact hr
    refine s_retL (el_catLL (xs := [.int (p.stateCount : Int)]) (el_lst (ea_cons (ev_f1 T M2 (ev_var rfl)) ea_nil) (by simp)) (el_written hZ2 (by omega)) ?_) ?_
    · rw [iV_len, fr_len, hrg]; simp; omega
    · exact (D.pre (e1.trans e2)).same M2 (xs := (p.stateCount : Int) :: (Kp389.regrets p).flatMap Kp389.fraction) (by simp only [Kp389.step, Kp389.fractionsResult, hrg]; rfl) (by simp))
def dfExpectedReward (T : Txt K mg C fi) (dChoiceExists : Df P w K mg base "choice_exists" 2 ["model", "table", "state", "action"] (spChoiceExists C)) (dAverageReward : Df P w K mg base "average_reward" 4 ["model", "table", "state", "action"] (spAverageReward C)) (dWritten : Df P w K mg base "written" 3 ["fractions"] (spWritten K)) (r : Rw K mg "expected_reward" sExpectedReward) : Df P w K mg base "expected_reward" 5 ["model", "table", "state", "action"] (spExpectedReward C) :=
  r.df (k := 4) scExpectedReward (fun _ _ _ _ _ _ us hl => match us, hl with | [_, _, _, _], _ => rfl)
  (fun vs H Q E h => by obtain ⟨_, _, _, _, _, rfl, _⟩ := h; rfl) (fun cdv A outer sh H vs Q E hr h => by
    obtain ⟨L, p, t, s, a, rfl, M, D⟩ := h
    refine ⟨_, (pss_cons (ps_if (pt_not (pt_val (pe_call dChoiceExists.ok (hr.mono (by decide)) rfl dChoiceExists.g dChoiceExists.kp dChoiceExists.b .nil pass0 (pa_cons (pv 0) (pa_cons (pv 1) (pa_cons (pv 2) (pa_cons (pv 3) pa_nil))))))) (pss_one (ps_ret (pe_lst (pa_cons (pe_globI rfl T.c_NOT_THERE) pa_nil)))) pss_nil)
      (pss_one (ps_ret (pe_op op_cat (pe_lst (pa_cons pe_int pa_nil)) (pe_call dWritten.ok (hr.mono (by decide)) rfl dWritten.g dWritten.kp dWritten.b .nil pass0 (pa_cons (pe_lst (pa_cons (pe_call dAverageReward.ok (hr.mono (by decide)) rfl dAverageReward.g dAverageReward.kp dAverageReward.b .nil pass0 (pa_cons (pv 0) (pa_cons (pv 1) (pa_cons (pv 2) (pa_cons (pv 3) pa_nil))))) pa_nil)) pa_nil)))))), ?_⟩
    refine q_when (b := !(Kp389.isTable t && Kp389.isState p s && Kp389.isAction p a)) (et_not (et_B (ev_call (ea_cons (ev_var rfl) (ea_cons (ev_var rfl) (ea_cons (ev_var rfl) (ea_cons (ev_var rfl) ea_nil)))) (spV_use fun H2 e2 => ⟨L, p, t, s, a, rfl, M.mono e2, by rw [chE]⟩)))) (fun hb H1 e1 => ?_) (fun hb H1 e1 => ?_)
    · have hb := not_t hb
      exact s_retL (el_lst (ea_cons ev_c ea_nil) (by simp)) ((D.pre e1).same (M.mono e1) (xs := [-2]) (by simp only [Kp389.step, hb]; rfl) (by simp))
    · have hb := not_f hb
      obtain ⟨ht, hs, ha⟩ := ch_t hb
      have M1 := M.mono e1
      have D1 := D.pre e1
      refine s_retL (el_catLL (xs := [.int 0]) (ys := iV (Kp389.fraction (Kp389.expectedReward p t s a))) (el_lst (ea_cons ev_c ea_nil) (by simp)) (el_written1 (b := 30) (eq_N (en_call (ea_cons (ev_var rfl) (ea_cons (ev_var rfl) (ea_cons (ev_var rfl) (ea_cons (ev_var rfl) ea_nil)))) fun H2 e2 => ⟨L, p, t, s, a, rfl, M1.mono e2, ht, hs, ha, rfl⟩))) (by simp [iV, Kp389.fraction])) ?_
      exact D1.same M1 (xs := 0 :: Kp389.fraction (Kp389.expectedReward p t s a)) (by simp only [Kp389.step, hb, if_true]; rfl) (by simp))
end
end SR

set_option maxHeartbeats 4000000
/-! worlds.py -/
namespace SR
open PySem PySem.Spec PyProof.Rows L2 Evl
abbrev sWorldCount : Stmt := topS 24
theorem scWorldCount : FnScope ["model", "count", "place"] ["model"] (defScope sWorldCount) := ⟨rfl, rfl, rfl, by decide +kernel, rfl, by decide +kernel, by decide +kernel⟩
abbrev sDistinguishes : Stmt := topS 86
theorem scDistinguishes : FnScope ["model", "next_states"] ["model", "next_states"] (defScope sDistinguishes) := ⟨rfl, rfl, rfl, by decide +kernel, rfl, by decide +kernel, by decide +kernel⟩
abbrev sDistinguishingWorld : Stmt := topS 87
theorem scDistinguishingWorld : FnScope ["model", "next_states"] ["model"] (defScope sDistinguishingWorld) := ⟨rfl, rfl, rfl, by decide +kernel, rfl, by decide +kernel, by decide +kernel⟩
abbrev sValueWithTransition : Stmt := topS 88
theorem scValueWithTransition : FnScope ["model", "state", "action", "table", "valued", "weights", "transitions"] ["model", "state", "action", "table", "valued", "weights"] (defScope sValueWithTransition) := ⟨rfl, rfl, rfl, by decide +kernel, rfl, by decide +kernel, by decide +kernel⟩

/-! ### all worlds, in order -/
theorem apL_cons (m : Nat) : ∀ k, apL m (k + 1) = (List.range m).flatMap fun x => (apL m k).map fun l => x :: l
  | 0 => by
    show ([[]] : List (List Nat)).flatMap (fun l => (List.range m).map fun a => l ++ [a]) = _
    simp only [List.flatMap_cons, List.flatMap_nil, List.append_nil, List.nil_append]
    have : (fun x : Nat => (apL m 0).map fun l => x :: l) = fun x => [[x]] := rfl
    rw [this]
    induction (List.range m) with
    | nil => rfl
    | cons a r ih => rw [List.map_cons, List.flatMap_cons, ih]; rfl
  | k + 1 => by
    have e : apL m (k + 1 + 1) = (apL m (k + 1)).flatMap fun l => (List.range m).map fun a => l ++ [a] := rfl
    rw [e, apL_cons m k, List.flatMap_assoc]
    congr 1
    funext x
    rw [List.flatMap_map]
    have e2 : apL m (k + 1) = (apL m k).flatMap fun l => (List.range m).map fun a => l ++ [a] := rfl
    rw [← apL_cons m k, e2, List.map_flatMap]
    congr 1
    funext l
    rw [List.map_map]
    rfl
theorem vec_ap (m : Nat) : ∀ k, Kp389.vectors m k = apL m k
  | 0 => rfl
  | k + 1 => by
    rw [apL_cons, ← vec_ap m k]; rfl
theorem find_at {α : Type} {f : α → Bool} {d : α} : ∀ (l : List α) (i : Nat) (x : α), (∀ k, k < i → f (l.getD k d) = false) → l[i]? = some x → f x = true → l.find? f = some x
  | [], i, x, _, h, _ => by simp at h
  | a :: r, 0, x, _, h, hx => by
    have h : a = x := by simpa using h
    subst h
    rw [List.find?_cons, hx]
  | a :: r, i + 1, x, hk, h, hx => by
    have h0 : f a = false := by simpa using hk 0 (by omega)
    rw [List.find?_cons, h0]
    exact find_at r i x (fun k hlt => by simpa using hk (k + 1) (by omega)) (by simpa using h) hx
theorem find_no {α : Type} {f : α → Bool} {d : α} : ∀ (l : List α), (∀ k, k < l.length → f (l.getD k d) = false) → l.find? f = none
  | [], _ => rfl
  | a :: r, hk => by
    have h0 : f a = false := by simpa using hk 0 (by simp)
    rw [List.find?_cons, h0]
    exact find_no r fun k hlt => by simpa using hk (k + 1) (by simp; omega)
theorem world_ok {p : Kp389.Process} {l : List Nat} (h : l ∈ apL p.stateCount (p.stateCount * p.actionCount)) : Kp389.validWorld p l = true := by
  obtain ⟨h1, h2⟩ := mem_apL.mp h
  unfold Kp389.validWorld Kp389.isState
  simp only [Bool.and_eq_true, decide_eq_true_eq, List.all_eq_true]
  exact ⟨h1, h2⟩
def tells (p : Kp389.Process) (l : List Nat) : Bool := !(Kp389.sameOptimalActions (Kp389.deterministic p l))
theorem dist_eq (p : Kp389.Process) : Kp389.distinguishingWorld p = (apL p.stateCount (p.stateCount * p.actionCount)).find? (tells p) := by
  unfold Kp389.distinguishingWorld Kp389.allWorlds
  rw [vec_ap]; rfl

def spWorldCount (C : Addr) : Sp := spV fun vs H v => ∃ (L : Lay) (p : Kp389.Process), vs = [.ref L.a] ∧ Mdl C H L p ∧ v = .int ((p.stateCount ^ (p.stateCount * p.actionCount) : Nat) : Int)
def spDistinguishes (K : PySem.W.Frag) (C : Addr) : Sp := fun vs H Q _ => ∃ (L : Lay) (p : Kp389.Process) (g : Addr) (l : List Nat), vs = [.ref L.a, .ref g] ∧ Mdl C H L p ∧ SqL K H g (nV l) ∧ l.length ≤ 1000 ∧ Done C H L p (.distinguishes l) Q
def spDistinguishingWorld (C : Addr) : Sp := fun vs H Q _ => ∃ (L : Lay) (p : Kp389.Process), vs = [.ref L.a] ∧ Mdl C H L p ∧ Done C H L p .distinguishingWorld Q
def spValueWithTransition (C : Addr) : Sp := fun vs H Q _ => ∃ (L : Lay) (p : Kp389.Process) (s a t v : Nat) (g : Addr) (l : List Nat), vs = [.ref L.a, .int (s : Int), .int (a : Int), .int (t : Int), .int (v : Int), .ref g] ∧ Mdl C H L p ∧ H g = some (.lst (nV l)) ∧ l.length ≤ 1000 ∧ Done C H L p (.valueWithTransition s a t v l) Q

section
variable {P : Program} {w : World} {K : PySem.W.Frag} {mg : Str → Option Value} {base : Heap} {C fi aN aW : Addr} {σ : L2.St} {H H' : Hp} {ta tb te tl : TE} {L : Lay} {p : Kp389.Process} {D : Ends} {tu tz : TS}
/-- for x in a new list of objects -/
theorem q_forLR {n j : Nat} {R : Nat → Addr → Hp → Prop} (f : ∀ i, Flat (R i)) (h : EvLR tl σ H n R) (Pv : Nat → L2.St → Hp → Prop) (h0 : ∀ H1, Ex H H1 → Pv 0 σ H1)
    (hs : ∀ (i : Nat) (q : Addr) σ' H' (N : L2.St → Hp → Prop), i < n → R i q H' → Pv i σ' H' → (∀ σ2 H2, Ex H' H2 → Pv (i + 1) σ2 H2 → N σ2 H2) → tu { D with nx := N, ct := N, bk := tz D } (σ'.set j (some (.ref q))) H')
    (hd : ∀ σ' H', Pv n σ' H' → tz D σ' H') : tSeq (tFor (iList K tl) (gName j) tu) tz D σ H := h H (Ex.refl H) _ fun p ws H1 np e1 hl hp hr =>
  ⟨p, rfl, ⟨ws.map V.ref, sq_of hp⟩, for_list (D := { D with nx := tz D }) (xs := ws.map V.ref) (fun i σ' H' => Ex H1 H' ∧ Pv i σ' H') ⟨Ex.refl _, h0 H1 e1⟩ (fun i σ' H' _ q => sq_of (q.1 _ _ hp)) (fun i x σ' H' hx q => by
    rw [List.getElem?_map] at hx
    cases hwi : ws[i]? with
    | none => rw [hwi] at hx; cases hx
    | some u =>
      rw [hwi] at hx
      have hx := Option.some.inj hx
      subst hx
      have hi : i < n := by rw [← hl]; exact (List.getElem?_eq_some_iff.mp hwi).1
      exact hs i u σ' H' _ hi ((f i).up u H1 H' q.1 (hr i u hwi)) q.2 fun σ2 H2 e2 p2 => ⟨q.1.trans e2, p2⟩) (fun σ' H' q => by
    have e : (ws.map V.ref).length = n := by rw [List.length_map, hl]
    have h2 := q.2
    rw [e] at h2
    exact hd σ' H' h2)⟩
theorem pow_small (h : WF p) {i : Nat} (hi : i ≤ p.stateCount * p.actionCount) : p.stateCount ^ i ≤ 16777216 := by
  have hnm : p.stateCount * p.actionCount ≤ 4 * 3 := Nat.mul_le_mul h.n4 h.m3
  have h2 : p.stateCount ^ i ≤ 4 ^ i := Nat.pow_le_pow_left h.n4 _
  have h3 : 4 ^ i ≤ 4 ^ 12 := Nat.pow_le_pow_right (by omega) (by omega)
  omega
def dfWorldCount (T : Txt K mg C fi) (r : Rw K mg "world_count" sWorldCount) : Df P w K mg base "world_count" 1 ["model"] (spWorldCount C) :=
  r.df (k := 0) scWorldCount (fun _ _ _ _ _ _ us hl => match us, hl with | [_], _ => rfl)
  (fun vs H Q E h => by obtain ⟨_, ⟨_, _, rfl, _⟩, _⟩ := h; rfl) (fun cdv A outer sh H vs Q E hr h => by
    obtain ⟨_, ⟨L, p, rfl, M, rfl⟩, q⟩ := h
    refine ⟨_, (pss_cons (ps_set (i := 1) scWorldCount.nd rfl (by first | exact Or.inl rfl | exact Or.inr rfl) pe_int)
      (pss_cons (ps_for PassesOwn.never rfl (pi_range1 rfl T.n_range (pa_cons (pe_op op_mulW (pe_fldK K (by rfl) (pv 0) (by rfl)) (pe_fldK K (by rfl) (pv 0) (by rfl))) pa_nil)) (pg_name (i := 2) scWorldCount.nd rfl (by first | exact Or.inl rfl | exact Or.inr rfl)) (pss_one (ps_set (i := 1) scWorldCount.nd rfl (by first | exact Or.inl rfl | exact Or.inr rfl) (pe_op op_mulW (pv 1) (pe_fldK K (by rfl) (pv 0) (by rfl))))))
      (pss_one (ps_ret (pv 1))))), ?_⟩
    have hn := M.wf.n4
    have hm := M.wf.m3
    have hnm : p.stateCount * p.actionCount ≤ 4 * 3 := Nat.mul_le_mul hn hm
    refine q_asg ev_c fun H1 e1 => ?_
    have M1 := M.mono e1
    refine q_forR1 (n := ((p.stateCount * p.actionCount : Nat) : Int)) (ea_cons (by rw [Int.natCast_mul]; exact ev_mul (ev_f1 T M1 (ev_var rfl)) (ev_f2 T M1 (ev_var rfl)) (by omega) (by omega)) ea_nil) (by omega)
      (fun i σ' H' => (∃ v2, σ' = [some (.ref L.a), some (.int ((p.stateCount ^ i : Nat) : Int)), v2]) ∧ Ex H H') (fun H2 e2 => ⟨⟨none, rfl⟩, e1.trans e2⟩) ?_ ?_
    · rintro i σ1 H2 hi ⟨⟨v2, rfl⟩, e2⟩
      have hi : i < p.stateCount * p.actionCount := by omega
      have hp := pow_small M.wf (Nat.le_of_lt hi)
      refine s_asg (v := .int (((p.stateCount ^ i : Nat) : Int) * (p.stateCount : Int))) (ev_mul (ev_var rfl) (ev_f1 T (M.mono e2) (ev_var rfl)) (by omega) (by omega)) fun H3 e3 => ?_
      refine ⟨⟨some (.int (i : Int)), ?_⟩, e2.trans e3⟩
      rw [Nat.pow_succ, Int.natCast_mul]; rfl
    · rintro σ1 H2 ⟨⟨v2, rfl⟩, e2⟩
      simp only [Int.toNat_natCast]
      exact s_ret (ev_var rfl) fun H3 e3 => q H3 (e2.trans e3))
def dfDistinguishes (T : Txt K mg C fi) (dCanBeNextStates : Df P w K mg base "can_be_next_states" 2 ["model", "next_states"] (spCanBeNextStates K C)) (dTellsApart : Df P w K mg base "tells_apart" 9 ["model", "next_states"] (spTellsApart K C)) (r : Rw K mg "distinguishes" sDistinguishes) : Df P w K mg base "distinguishes" 10 ["model", "next_states"] (spDistinguishes K C) :=
  r.df (k := 9) scDistinguishes (fun _ _ _ _ _ _ us hl => match us, hl with | [_, _], _ => rfl)
  (fun vs H Q E h => by obtain ⟨_, _, _, _, rfl, _⟩ := h; rfl) (fun cdv A outer sh H vs Q E hr h => by
    obtain ⟨L, p, g, l, rfl, M, hl, hz, D⟩ := h
    refine ⟨_, (pss_cons (ps_if (pt_not (pt_val (pe_call dCanBeNextStates.ok (hr.mono (by decide)) rfl dCanBeNextStates.g dCanBeNextStates.kp dCanBeNextStates.b .nil pass0 (pa_cons (pv 0) (pa_cons (pv 1) pa_nil))))) (pss_one (ps_ret (pe_lst (pa_cons (pe_globI rfl T.c_OUT_OF_LIMITS) pa_nil)))) pss_nil)
      (pss_one (ps_ret (pe_lst (pa_cons (pe_ifExp (pt_val (pe_call dTellsApart.ok (hr.mono (by decide)) rfl dTellsApart.g dTellsApart.kp dTellsApart.b .nil pass0 (pa_cons (pv 0) (pa_cons (pv 1) pa_nil)))) pe_int pe_int) pa_nil))))), ?_⟩
    have hl2 : SqL K H g (iV (l.map fun (n : Nat) => (n : Int))) := by rw [← nV_iV]; exact hl
    refine q_when (b := !(Kp389.validWorld p l)) (et_not (et_B (ev_call (ea_cons (ev_var rfl) (ea_cons (ev_var rfl) ea_nil)) (spV_use fun H2 e2 => ⟨L, p, g, l.map fun (n : Nat) => (n : Int), rfl, M.mono e2, ex_l e2 hl2, by simpa using hz, by rw [cn_valid]⟩)))) (fun hc H1 e1 => ?_) (fun hc H1 e1 => ?_)
    · have hc := not_t hc
      exact s_retL (el_lst (ea_cons ev_c ea_nil) (by simp)) ((D.pre e1).same (M.mono e1) (xs := [-22]) (by simp only [Kp389.step, hc]; rfl) (by simp))
    · have hc := not_f hc
      have M1 := M.mono e1
      have hT := ev_call (σ := start ["model", "next_states"] [.ref L.a, .ref g]) (H := H1) (sp := spTellsApart K C) (dvs := []) (vs := [.ref L.a, .ref g]) (E := E0) (ta := tCons (tVar 0) (tCons (tVar 1) tNil)) (z := .bl (!(Kp389.sameOptimalActions (Kp389.deterministic p l)))) (ea_cons (ev_var rfl) (ea_cons (ev_var rfl) ea_nil)) (spV_use fun H2 e2 => ⟨L, p, g, l, rfl, M1.mono e2, ex_l (e1.trans e2) hl, hc, rfl⟩)
      cases hb : Kp389.sameOptimalActions (Kp389.deterministic p l) with
      | true =>
        rw [hb] at hT
        exact s_retL (el_lst (ea_cons (ev_if (v := .int 0) (et_B hT) (fun h => by cases h) (fun _ => ev_c)) ea_nil) (by simp)) ((D.pre e1).same M1 (xs := [0]) (by simp only [Kp389.step, hc, hb]; rfl) (by simp))
      | false =>
        rw [hb] at hT
        exact s_retL (el_lst (ea_cons (ev_if (v := .int 1) (et_B hT) (fun _ => ev_c) (fun h => by cases h)) ea_nil) (by simp)) ((D.pre e1).same M1 (xs := [1]) (by simp only [Kp389.step, hc, hb]; rfl) (by simp)))
def dfDistinguishingWorld (T : Txt K mg C fi) (dWorldCount : Df P w K mg base "world_count" 1 ["model"] (spWorldCount C)) (dEveryRow : Df P w K mg base "every_row" 1 ["length", "beyond"] spEveryRow) (dTellsApart : Df P w K mg base "tells_apart" 9 ["model", "next_states"] (spTellsApart K C)) (r : Rw K mg "distinguishing_world" sDistinguishingWorld) : Df P w K mg base "distinguishing_world" 10 ["model"] (spDistinguishingWorld C) :=
  r.df (k := 9) scDistinguishingWorld (fun _ _ _ _ _ _ us hl => match us, hl with | [_], _ => rfl)
  (fun vs H Q E h => by obtain ⟨_, _, rfl, _⟩ := h; rfl) (fun cdv A outer sh H vs Q E hr h => by
    obtain ⟨L, p, rfl, M, D⟩ := h
    refine ⟨_, (pss_cons (ps_if (pt_cmpR op_gt (pe_call dWorldCount.ok (hr.mono (by decide)) rfl dWorldCount.g dWorldCount.kp dWorldCount.b .nil pass0 (pa_cons (pv 0) pa_nil)) (pe_globI rfl T.c_GREATEST_WORLD_COUNT) (nomark _)) (pss_one (ps_ret (pe_lst (pa_cons (pe_globI rfl T.c_TOO_MANY_WORLDS) pa_nil)))) pss_nil)
      (pss_cons (ps_for PassesOwn.never rfl (pi_list (pe_call dEveryRow.ok (hr.mono (by decide)) rfl dEveryRow.g dEveryRow.kp dEveryRow.b .nil pass0 (pa_cons (pe_op op_mulW (pe_fldK K (by rfl) (pv 0) (by rfl)) (pe_fldK K (by rfl) (pv 0) (by rfl))) (pa_cons (pe_fldK K (by rfl) (pv 0) (by rfl)) pa_nil)))) (pg_name (i := 1) scDistinguishingWorld.nd rfl (by first | exact Or.inl rfl | exact Or.inr rfl)) (pss_one (ps_if (pt_val (pe_call dTellsApart.ok (hr.mono (by decide)) rfl dTellsApart.g dTellsApart.kp dTellsApart.b .nil pass0 (pa_cons (pv 0) (pa_cons (pv 1) pa_nil)))) (pss_one (ps_ret (pe_op op_cat (pe_lst (pa_cons (pe_callB (call_lenK K (by rfl)) (by rfl) T.n_len (by decide +kernel) (pa_cons (pv 1) pa_nil)) pa_nil)) (pv 1)))) pss_nil)))
      (pss_one (ps_ret (pe_lst (pa_cons (pe_globI rfl T.c_NO_WORLD) pa_nil)))))), ?_⟩
    have hn := M.wf.n4
    have hn2 := M.wf.n2
    have hm := M.wf.m3
    have hnm : p.stateCount * p.actionCount ≤ 4 * 3 := Nat.mul_le_mul hn hm
    refine q_when (b := decide ((64 : Int) < ((p.stateCount ^ (p.stateCount * p.actionCount) : Nat) : Int))) (et_test (ev_op (ev_call (ea_cons (ev_var rfl) ea_nil) (spV_use fun H2 e2 => ⟨L, p, rfl, M.mono e2, rfl⟩)) ev_c rv_I0)) (fun hb H1 e1 => ?_) (fun hb H1 e1 => ?_)
    · have hb : 64 < p.stateCount ^ (p.stateCount * p.actionCount) := by
        have := of_decide_eq_true hb
        omega
      exact s_retL (el_lst (ea_cons ev_c ea_nil) (by simp)) ((D.pre e1).same (M.mono e1) (xs := [-75]) (by simp only [Kp389.step, hb, if_true]; rfl) (by simp))
    · have hb : ¬ 64 < p.stateCount ^ (p.stateCount * p.actionCount) := by
        have := of_decide_eq_false hb
        omega
      have M1 := M.mono e1
      have D1 := D.pre e1
      refine q_forLR (n := (apL p.stateCount (p.stateCount * p.actionCount)).length) (R := fun i q H => H q = some (.lst (nV ((apL p.stateCount (p.stateCount * p.actionCount)).getD i [])))) (fun i => flat_L)
        (elr_call (vs := [.int ((p.stateCount * p.actionCount : Nat) : Int), .int (p.stateCount : Int)]) (ea_cons (by rw [Int.natCast_mul]; exact ev_mul (ev_f1 T M1 (ev_var rfl)) (ev_f2 T M1 (ev_var rfl)) (by omega) (by omega)) (ea_cons (ev_f1 T M1 (ev_var rfl)) ea_nil)) fun H2 e2 => ⟨p.stateCount * p.actionCount, p.stateCount, rfl, by omega, by omega, by omega, by omega, rfl, rfl⟩)
        (fun i σ' H' => (∃ v1, σ' = [some (.ref L.a), v1]) ∧ Ex H1 H' ∧ ∀ k, k < i → tells p ((apL p.stateCount (p.stateCount * p.actionCount)).getD k []) = false)
        (fun H2 e2 => ⟨⟨none, rfl⟩, e2, fun k hk => absurd hk (Nat.not_lt_zero k)⟩) ?_ ?_
      · rintro i u σ1 H2 N hi hu ⟨⟨v1, rfl⟩, e2, hk⟩ hN
        have hxi : (apL p.stateCount (p.stateCount * p.actionCount))[i]? = some (apL p.stateCount (p.stateCount * p.actionCount))[i] := List.getElem?_eq_getElem hi
        have hgd : (apL p.stateCount (p.stateCount * p.actionCount)).getD i [] = (apL p.stateCount (p.stateCount * p.actionCount))[i] := by simp [List.getD, hxi]
        have hmem := List.getElem_mem hi
        have hlen := (mem_apL.mp hmem).1
        have hu : H2 u = some (.lst (nV ((apL p.stateCount (p.stateCount * p.actionCount)).getD i []))) := hu
        rw [hgd] at hu
        generalize (apL p.stateCount (p.stateCount * p.actionCount))[i] = l at hxi hgd hmem hlen hu
        have hv := world_ok hmem
        have M2 := M1.mono e2
        refine s_when (b := tells p l) (et_B (ev_call (ea_cons (ev_var rfl) (ea_cons (ev_var rfl) ea_nil)) (spV_use fun H3 e3 => ⟨L, p, u, l, rfl, M2.mono e3, sq_of (e3 _ _ hu), hv, rfl⟩))) (fun hc H3 e3 => ?_) (fun hc H3 e3 => ?_)
        · have hu3 := e3 _ _ hu
          have M3 := M2.mono e3
          have hf : Kp389.distinguishingWorld p = some l := by rw [dist_eq]; exact find_at _ i l hk hxi hc
          refine s_retL (el_cat (xs := [.int ((nV l).length : Int)]) (ys := nV l) (el_lst (ea_cons (ev_lenL (ev_var rfl) (sq_of hu3)) ea_nil) (by simp)) (ev_var rfl) hu3 (by rw [nV_len]; simp; omega)) ?_
          have := (D1.pre (e2.trans e3)).same M3 (xs := (l.length : Int) :: l.map fun (n : Nat) => (n : Int)) (by simp only [Kp389.step, hb, if_false, hf]; rfl) (by simp)
          have e : iV ((l.length : Int) :: l.map fun (n : Nat) => (n : Int)) = [.int ((nV l).length : Int)] ++ nV l := by
            rw [nV_len, nV_iV]; rfl
          rw [e] at this; exact this
        · refine hN _ H3 e3 ⟨⟨_, rfl⟩, e2.trans e3, fun k hlt => ?_⟩
          by_cases e : k = i
          · subst e; rw [hgd]; exact hc
          · exact hk k (by omega)
      · rintro σ1 H2 ⟨⟨v1, rfl⟩, e2, hk⟩
        have hf : Kp389.distinguishingWorld p = none := by rw [dist_eq]; exact find_no _ hk
        exact s_retL (el_lst (ea_cons ev_c ea_nil) (by simp)) ((D1.pre e2).same (M1.mono e2) (xs := [-33]) (by simp only [Kp389.step, hb, if_false, hf]; rfl) (by simp)))
def dfValueWithTransition (T : Txt K mg C fi) (dChoiceExists : Df P w K mg base "choice_exists" 2 ["model", "table", "state", "action"] (spChoiceExists C)) (dStateExists : Df P w K mg base "state_exists" 1 ["model", "state"] (spStateExists C)) (dCanBeWeights : Df P w K mg base "can_be_weights" 2 ["model", "weights"] (spCanBeWeights K C)) (dTransitionPlace : Df P w K mg base "transition_place" 1 ["model", "state", "action"] (spTransitionPlace C)) (dWithWeights : Df P w K mg base "with_weights" 4 ["model", "weights"] (spWithWeights K C)) (dBestValues : Df P w K mg base "best_values" 6 ["model", "table"] (spBestValues C)) (dWritten : Df P w K mg base "written" 3 ["fractions"] (spWritten K)) (r : Rw K mg "value_with_transition" sValueWithTransition) : Df P w K mg base "value_with_transition" 7 ["model", "state", "action", "table", "valued", "weights"] (spValueWithTransition C) :=
  r.df (k := 6) scValueWithTransition (fun _ _ _ _ _ _ us hl => match us, hl with | [_, _, _, _, _, _], _ => rfl)
  (fun vs H Q E h => by obtain ⟨_, _, _, _, _, _, _, _, rfl, _⟩ := h; rfl) (fun cdv A outer sh H vs Q E hr h => by
    obtain ⟨L, p, s, a, t, v, g, l, rfl, M, hl, hz, D⟩ := h
    refine ⟨_, (pss_cons (ps_if (pt_not (PW.pt (pw_and (pt_val (pe_call dChoiceExists.ok (hr.mono (by decide)) rfl dChoiceExists.g dChoiceExists.kp dChoiceExists.b .nil pass0 (pa_cons (pv 0) (pa_cons (pv 3) (pa_cons (pv 1) (pa_cons (pv 2) pa_nil)))))) (pw_and1 (pt_val (pe_call dStateExists.ok (hr.mono (by decide)) rfl dStateExists.g dStateExists.kp dStateExists.b .nil pass0 (pa_cons (pv 0) (pa_cons (pv 4) pa_nil)))))))) (pss_one (ps_ret (pe_lst (pa_cons (pe_globI rfl T.c_NOT_THERE) pa_nil)))) pss_nil)
      (pss_cons (ps_if (pt_not (pt_val (pe_call dCanBeWeights.ok (hr.mono (by decide)) rfl dCanBeWeights.g dCanBeWeights.kp dCanBeWeights.b .nil pass0 (pa_cons (pv 0) (pa_cons (pv 5) pa_nil))))) (pss_one (ps_ret (pe_lst (pa_cons (pe_globI rfl T.c_OUT_OF_LIMITS) pa_nil)))) pss_nil)
      (pss_cons (ps_set (i := 6) scValueWithTransition.nd rfl (by first | exact Or.inl rfl | exact Or.inr rfl) (pe_callTy (call_listK K (by rfl)) (by rfl) T.n_list (by decide +kernel) (pa_cons (pe_fldK K (by rfl) (pv 0) (by rfl)) pa_nil)))
      (pss_cons (ps_asg (pv 5) (pg_sub (pv 6) (pe_call dTransitionPlace.ok (hr.mono (by decide)) rfl dTransitionPlace.g dTransitionPlace.kp dTransitionPlace.b .nil pass0 (pa_cons (pv 0) (pa_cons (pv 1) (pa_cons (pv 2) pa_nil)))) set_list))
      (pss_one (ps_ret (pe_op op_cat (pe_lst (pa_cons pe_int pa_nil)) (pe_call dWritten.ok (hr.mono (by decide)) rfl dWritten.g dWritten.kp dWritten.b .nil pass0 (pa_cons (pe_lst (pa_cons (pe_ix (ix_listK K (by rfl)) (pe_call dBestValues.ok (hr.mono (by decide)) rfl dBestValues.g dBestValues.kp dBestValues.b .nil pass0 (pa_cons (pe_call dWithWeights.ok (hr.mono (by decide)) rfl dWithWeights.g dWithWeights.kp dWithWeights.b .nil pass0 (pa_cons (pv 0) (pa_cons (pv 6) pa_nil))) (pa_cons (pv 3) pa_nil))) (pv 4) (fun _ _ => rfl)) pa_nil)) pa_nil))))))))), ?_⟩
    refine q_when (b := !((Kp389.isTable t && Kp389.isState p s && Kp389.isAction p a) && Kp389.isState p v)) (et_not (et_and (et_B (ev_call (ea_cons (ev_var rfl) (ea_cons (ev_var rfl) (ea_cons (ev_var rfl) (ea_cons (ev_var rfl) ea_nil)))) (spV_use fun H2 e2 => ⟨L, p, t, s, a, rfl, M.mono e2, by rw [chE]⟩))) fun _ =>
      et_B (ev_call (ea_cons (ev_var rfl) (ea_cons (ev_var rfl) ea_nil)) (spV_use fun H2 e2 => ⟨L, p, v, rfl, M.mono e2, by rw [bE]; rfl⟩)))) (fun hb H1 e1 => ?_) (fun hb H1 e1 => ?_)
    · have hb := not_t hb
      exact s_retL (el_lst (ea_cons ev_c ea_nil) (by simp)) ((D.pre e1).same (M.mono e1) (xs := [-2]) (by simp only [Kp389.step, hb]; rfl) (by simp))
    · have hb := not_f hb
      have hb2 := hb
      rw [Bool.and_eq_true] at hb2
      obtain ⟨ht, hs, ha⟩ := ch_t hb2.1
      have hvs : v < p.stateCount := by simpa [Kp389.isState] using hb2.2
      have M1 := M.mono e1
      have D1 := D.pre e1
      have hl1 := e1 _ _ hl
      have hl2 : SqL K H1 g (iV (l.map fun (n : Nat) => (n : Int))) := by rw [← nV_iV]; exact sq_of hl1
      refine q_when (b := !(Kp389.validWeights p l)) (et_not (et_B (ev_call (ea_cons (ev_var rfl) (ea_cons (ev_var rfl) ea_nil)) (spV_use fun H2 e2 => ⟨L, p, g, l.map fun (n : Nat) => (n : Int), rfl, M1.mono e2, ex_l e2 hl2, by simpa using hz, by rw [cw_valid]⟩)))) (fun hc H2 e2 => ?_) (fun hc H2 e2 => ?_)
      · have hc := not_t hc
        exact s_retL (el_lst (ea_cons ev_c ea_nil) (by simp)) ((D1.pre e2).same (M1.mono e2) (xs := [-22]) (by simp only [Kp389.step, hb, hc]; rfl) (by simp))
      · have hc := not_f hc
        have M2 := M1.mono e2
        have hn := M.wf.n4
        have hm := M.wf.m3
        have hk : s * p.actionCount + a < L.ws.length := by rw [M.wl, M.wf.tl]; exact place_lt hs ha
        -- transitions = list(model.weights)
        refine q_asgL (xs := L.ws.map V.ref) (el_copy (ev_f7 T M2 (ev_var rfl)) (sq_of M2.ww)) fun u H3 nu e3 hu => ?_
        have M3 := M2.mono e3
        refine q_setL (v := .ref g) hu (ev_var rfl) (ev_var rfl) (ev_call (ea_cons (ev_var rfl) (ea_cons (ev_var rfl) (ea_cons (ev_var rfl) ea_nil))) (spV_use fun H4 e4 => ⟨L, p, s, a, rfl, M3.mono e4, by omega, by omega, rfl⟩)) (by simpa using hk) fun H4 e4 => ?_
        have hmap : (L.ws.map V.ref).set (s * p.actionCount + a) (.ref g) = (L.ws.set (s * p.actionCount + a) g).map V.ref := by simp [List.map_set]
        rw [hmap]
        have E5 : Ex H2 (upd H4 u (.lst ((L.ws.set (s * p.actionCount + a) g).map V.ref))) := Ex.mut (e3.trans e4) nu
        have hu5 : (upd H4 u (.lst ((L.ws.set (s * p.actionCount + a) g).map V.ref))) u = some (.lst ((L.ws.set (s * p.actionCount + a) g).map V.ref)) := upd_same
        generalize (upd H4 u (.lst ((L.ws.set (s * p.actionCount + a) g).map V.ref))) = H5 at E5 hu5 ⊢
        have M5 := M2.mono E5
        have D5 := (D1.pre e2).pre E5
        have hg5 : H5 g = some (.lst (nV l)) := E5 _ _ (e2 _ _ hl1)
        have hts : (p.transitions.set (s * p.actionCount + a) l).length = p.stateCount * p.actionCount := by rw [List.length_set, M.wf.tl]
        have htv : ∀ w' ∈ p.transitions.set (s * p.actionCount + a) l, Kp389.validWeights p w' = true := fun w' hw' => by
          rcases List.mem_or_eq_of_mem_set hw' with h | h
          · exact M.wf.tr w' h
          · rw [h]; exact hc
        refine s_retL (el_catLL (xs := [.int 0]) (ys := iV (Kp389.fraction (oV (Kp389.withWeights p s a l) t v))) (el_lst (ea_cons ev_c ea_nil) (by simp)) (el_written1 (b := 1000) (eq_ix (n := p.stateCount) (j := v) (R := fun i q H => FrAt 1000 H q (oV (Kp389.withWeights p s a l) t i))
          (elr_callP (ap_n (R1 := fun q H => ∃ L' : Lay, L'.a = q ∧ Mdl C H L' (Kp389.withWeights p s a l)) (en_call (us := [.ref L.a, .ref u]) (ea_cons (ev_var rfl) (ea_cons (ev_var rfl) ea_nil)) fun H6 e6 => ⟨L, p, u, L.ws.set (s * p.actionCount + a) g, p.transitions.set (s * p.actionCount + a) l, rfl, M5.mono e6, sq_of (e6 _ _ hu5), by rw [List.length_set, List.length_set, M.wl], ?_, hts, htv, rfl⟩)
            (fun q H H' e ⟨L', h1, h2⟩ => ⟨L', h1, h2.mono e⟩) (ap_v (ev_var rfl) (ap_of ea_nil))) ?_) (fun i => flat_fr) (ev_var rfl) hvs)) (by simp [iV, Kp389.fraction])) ?_
        · intro i x w' h1 h2
          by_cases e : s * p.actionCount + a = i
          · subst e
            have hk2 : s * p.actionCount + a < p.transitions.length := by rw [← M.wl]; exact hk
            rw [List.getElem?_set_self hk] at h1
            rw [List.getElem?_set_self hk2] at h2
            have h1 := Option.some.inj h1
            have h2 := Option.some.inj h2
            subst h1 h2
            exact e6 _ _ hg5
          · rw [List.getElem?_set_ne e] at h1 h2
            exact e6 _ _ (M5.ws i x w' h1 h2)
        · rintro _ H6 e6 ⟨q6, _, rfl, ⟨L', rfl, M6⟩, _, rfl, rfl⟩
          exact ⟨L', _, t, rfl, M6, ht, rfl, rfl⟩
        · refine D5.same M5 (xs := 0 :: Kp389.fraction (oV (Kp389.withWeights p s a l) t v)) ?_ (by simp)
          simp only [Kp389.step]
          have hb3 : (Kp389.isTable t && Kp389.isState p s && Kp389.isAction p a && Kp389.isState p v) = true := hb
          simp only [hb3, hc, if_true]; rfl)
end
end SR

set_option maxHeartbeats 4000000
/-! process.py: answers -/
namespace SR
open PySem PySem.Spec PyProof.Rows L2 Evl
abbrev sAnswers : Stmt := topS 90
theorem scAnswers : FnScope ["calls", "model", "given", "number", "numbers", "row", "answer"] ["calls"] (defScope sAnswers) := ⟨rfl, rfl, rfl, by decide +kernel, rfl, by decide +kernel, by decide +kernel⟩

/-- what a call that is no create answers where there is a process -/
def spAnswerWith (C : Addr) : Sp := fun vs H Q _ => ∃ (L : Lay) (p : Kp389.Process) (pc : Int × List Int × List Int) (call : Kp389.Call) (x y : Addr), vs = [.ref L.a, .int pc.1, .ref x, .ref y] ∧ Mdl C H L p ∧ H x = some (.lst (iV pc.2.1)) ∧ H y = some (.lst (iV pc.2.2)) ∧
  x ∉ addrs L ∧ y ∉ addrs L ∧ Kind pc call ∧ pc.1 ≠ 0 ∧ Done C H L p call Q
def spAns (K : PySem.W.Frag) : Sp := fun vs H Q _ => ∃ (a : Addr) (l : List Int), vs = [.ref a] ∧ SqL K H a (iV l) ∧ PyKp389.answers_asked l = true ∧ l.length ≤ 3180 ∧ ∀ (H' : Hp) (p : Addr), H' p = some (.lst (iV (PyKp389.answers l))) → Q (.ref p) H'

/-! ### what is due, call by call -/
theorem told_app (a b : List (List Int)) : PyFlat.told (a ++ b) = PyFlat.told a ++ PyFlat.told b := by
  unfold PyFlat.told; rw [List.flatMap_append]
theorem played_cons (st : Kp389.State) (c : List (List Int)) (r : List (List (List Int))) : PyFlat.played Kp389Neutral.step st (c :: r) = (Kp389Neutral.step st c).2 :: PyFlat.played Kp389Neutral.step (Kp389Neutral.step st c).1 r := rfl
theorem step_of {st : Kp389.State} {c : List (List Int)} {call : Kp389.Call} (h : Kp389Neutral.callOf c = some call) : Kp389Neutral.step st c = ((Kp389.step st call).1, (Kp389.step st call).2.num :: (Kp389.step st call).2.nums) := by
  unfold Kp389Neutral.step; rw [h]
theorem asked_parts {l : List Int} (h : PyKp389.answers_asked l = true) : ∃ cs, PyFlat.calls PyKp389.shape l.length l = some cs ∧ cs.length ≤ 60 ∧ (∀ c ∈ cs, Kp389Neutral.asked1 (PyKp389.whole c) = true) ∧ (PyKp389.answers l).length ≤ 10000000 ∧
    PyKp389.answers l = PyFlat.told (PyFlat.played Kp389Neutral.step none (cs.map PyKp389.whole)) := by
  unfold PyKp389.answers_asked at h
  cases hc : PyFlat.calls PyKp389.shape l.length l with
  | none => rw [hc] at h; cases h
  | some cs =>
    rw [hc] at h
    simp only [Bool.and_eq_true] at h
    obtain ⟨⟨⟨⟨h1, h2⟩, h3⟩, h4⟩, h5⟩ := h
    refine ⟨cs, rfl, by simpa [PyFlat.atMost] using h2, ?_, by simpa [PyFlat.short] using h5, ?_⟩
    · intro c hc
      unfold Kp389Neutral.asked at h4
      simp only [Bool.and_eq_true, List.all_map, List.all_eq_true] at h4
      exact h4.2.2 c hc
    · unfold PyKp389.answers PyKp389.calls
      rw [hc]; rfl
theorem create_no {a b c d : Nat} {st : Kp389.State} (h : canBeCreated a b c d = false) : Kp389.step st (.create a b c d) = (st, Kp389.single (-22)) := by
  have hx : a < 2 ∨ 4 < a ∨ b < 1 ∨ 3 < b ∨ c < 1 ∨ d ≤ c ∨ 10 < d := by
    apply Classical.byContradiction
    intro hn
    simp only [not_or] at hn
    obtain ⟨h1, h2, h3, h4, h5, h6, h7⟩ := hn
    have : canBeCreated a b c d = true := by
      unfold canBeCreated
      simp only [Bool.and_eq_true, decide_eq_true_eq]
      omega
    rw [this] at h; cases h
  cases st <;> exact if_pos hx
theorem create_yes {a b c d : Nat} {st : Kp389.State} (h : canBeCreated a b c d = true) : okNew a b c d ∧ Kp389.step st (.create a b c d) = (some (Kp389.newProcess a b c d), Kp389.single (((a * b * a : Nat)) : Int)) := by
  unfold canBeCreated at h
  simp only [Bool.and_eq_true, decide_eq_true_eq] at h
  refine ⟨by unfold okNew; omega, ?_⟩
  have hx : ¬ (a < 2 ∨ 4 < a ∨ b < 1 ∨ 3 < b ∨ c < 1 ∨ d ≤ c ∨ 10 < d) := by omega
  cases st <;> exact if_neg hx
theorem none_other {call : Kp389.Call} {pc : Int × List Int × List Int} (k : Kind pc call) (h : pc.1 ≠ 0) : Kp389.step none call = (none, Kp389.single (-11)) := by
  cases k <;> first | rfl | (exact absurd rfl h)
theorem some_other {call : Kp389.Call} {pc : Int × List Int × List Int} (k : Kind pc call) (h : pc.1 ≠ 0) (p : Kp389.Process) : ∃ p', (Kp389.step (some p) call).1 = some p' := by
  cases k <;> first | exact (absurd rfl h) | exact ⟨_, rfl⟩ | (simp only [Kp389.step]; repeat' split) <;> exact ⟨_, rfl⟩

/-- the state as it lies in the heap; H0: what was there when the calls had been read -/
def StAt (C : Addr) (H0 H : Hp) (st : Kp389.State) (v : V) : Prop := match st with
  | none => v = .non
  | some p => ∃ L : Lay, v = .ref L.a ∧ Mdl C H L p ∧ ∀ x ∈ addrs L, H0 x = none
theorem StAt.mono {C : Addr} {H0 H H' : Hp} {st : Kp389.State} {v : V} (h : StAt C H0 H st v) (e : Ex H H') : StAt C H0 H' st v := by
  cases st with
  | none => exact h
  | some p =>
    obtain ⟨L, h1, h2, h3⟩ := h
    exact ⟨L, h1, h2.mono e, h3⟩
theorem StAt.upd {C g : Addr} {H0 H : Hp} {st : Kp389.State} {v : V} {o : HO} (h : StAt C H0 H st v) (hg : H0 g ≠ none) : StAt C H0 (L2.upd H g o) st v := by
  cases st with
  | none => exact h
  | some p =>
    obtain ⟨L, h1, M, h3⟩ := h
    have ne : ∀ x ∈ addrs L, x ≠ g := fun x hx e => hg (e ▸ h3 x hx)
    have m : ∀ {x}, x ∈ addrs L → x ≠ g := fun hx => ne _ hx
    refine ⟨L, h1, ⟨?_, ?_, ?_, ?_, ?_, M.wl, ?_, M.nd, M.sep, M.wf⟩, h3⟩
    · rw [upd_ne (m (by simp [addrs]))]; exact M.ins
    · rw [upd_ne (m (by simp [addrs]))]; exact M.rr
    · rw [upd_ne (m (by simp [addrs]))]; exact M.r0
    · rw [upd_ne (m (by simp [addrs]))]; exact M.r1
    · rw [upd_ne (m (by simp [addrs]))]; exact M.ww
    · intro i x w h1 h2
      rw [upd_ne (m (by simp [addrs, List.mem_of_getElem? h1]))]; exact M.ws i x w h1 h2

section
variable {P : Program} {w : World} {K : PySem.W.Frag} {mg : Str → Option Value} {base : Heap} {C fi aN aW : Addr} {σ : L2.St} {H H' : Hp} {ta tb te tl : TE} {L : Lay} {p : Kp389.Process}
/-- a for over what an expression gives -/
theorem q_forE {g : TG} {tu tz : TS} {D : Ends} {RR : Addr → List V → Hp → Prop} (h : ∀ Q : VK, (∀ p xs H1, RR p xs H1 → H1 p = some (.lst xs) → Q (.ref p) H1) → tl σ H Q) (Pv : Addr → List V → Nat → L2.St → Hp → Prop)
    (h0 : ∀ p xs H1, RR p xs H1 → H1 p = some (.lst xs) → Pv p xs 0 σ H1) (hl : ∀ p xs i σ' H', Pv p xs i σ' H' → SqL K H' p xs)
    (hs : ∀ p xs i x σ' H', xs[i]? = some x → Pv p xs i σ' H' → g x σ' H' fun σ2 H2 => tu { D with nx := Pv p xs (i + 1), ct := Pv p xs (i + 1), bk := tz D } σ2 H2) (hd : ∀ p xs σ' H', Pv p xs xs.length σ' H' → tz D σ' H') : tSeq (tFor (iList K tl) g tu) tz D σ H :=
  h _ fun p xs H1 hr hp => ⟨p, rfl, ⟨xs, sq_of hp⟩, for_list (Pv p xs) (h0 p xs H1 hr hp) (fun i σ' H' _ hv => hl p xs i σ' H' hv) (hs p xs) (hd p xs)⟩
/-- xs.extend(ys), two lists -/
theorem s_ext {l b : Addr} {xs ys : List V} {D : Ends} (hl : H l = some (.lst xs)) (hb : H b = some (.lst ys)) (ha : Ev ta σ H (.ref l)) (h : Ev te σ H (.ref b)) (hz : xs.length + ys.length ≤ sizeLine) (k : ∀ H1, Ex H H1 → D.nx σ (upd H1 l (.lst (xs ++ ys)))) :
    tDrop (tBM K "list" rExtend ta (tCons te tNil)) D σ H := ha H (Ex.refl H) _ fun H1 e1 =>
  ⟨Or.inl ⟨rfl, xs, sq_of (e1 l _ hl)⟩, h H1 e1 _ fun H2 e2 => ⟨l, b, xs, ys, rfl, rfl, e2 _ _ (e1 _ _ hl), e2 _ _ (e1 _ _ hb), hz, k H2 (e1.trans e2)⟩⟩
theorem q_appZ {l : Addr} {xs : List V} {v : V} {D : Ends} {tz : TS} (hl : H l = some (.lst xs)) (ha : Ev ta σ H (.ref l)) (h : Ev te σ H v) (hz : xs.length < sizeLine) (k : ∀ H1, Ex H H1 → tz D σ (upd H1 l (.lst (xs ++ [v])))) :
    tSeq (tDrop (tBM K "list" rAppend ta (tCons te tNil))) tz D σ H := ha H (Ex.refl H) _ fun H1 e1 =>
  ⟨Or.inl ⟨rfl, xs, sq_of (e1 l _ hl)⟩, h H1 e1 _ fun H2 e2 => ⟨l, xs, v, rfl, rfl, e2 l _ (e1 l _ hl), hz, k H2 (e1.trans e2)⟩⟩

/-- x == k, x and k whole numbers -/
theorem et_eqc {i : Nat} {n k : Int} {b : Bool} (h : σ[i]? = some (some (.int n))) (e : decide (n = k) = b) : EvT (tTest (tOp rEq (tVar i) (tC (.int k)))) σ H b := et_is (et_test (ev_op (ev_var h) ev_c rv_eqI)) e
/-- x is None -/
theorem et_isN {i : Nat} {v : V} {b : Bool} (h : σ[i]? = some (some v)) (e : decide (v = .non) = b) : EvT (tTest (tOp (fun x y H Q => y = .non ∧ Q (.bl (decide (x = .non))) H) (tVar i) (tC .non))) σ H b :=
  et_is (et_test (ev_op (ev_var h) ev_c (fun H1 _ Q q => ⟨rfl, q H1 (Ex.refl H1)⟩))) e
def dfAnswers (T : Txt K mg C fi) (dReadCalls : Df P w K mg base "read_calls" 1 ["calls"] (spReadCalls K)) (dCanBeCreated : Df P w K mg base "can_be_created" 1 ["state_count", "action_count", "discount_num", "discount_den"] spCanBeCreated) (dModelInit : Dfi P w K mg base 2 ["self", "state_count", "action_count", "discount_num", "discount_den"] (spModelInit C)) (hfi : dModelInit.f = fi)
    (dAnswerWith : Df P w K mg base "answer_with" 13 ["model", "number", "numbers", "row"] (spAnswerWith C)) (r : Rw K mg "answers" sAnswers) : Df P w K mg base "answers" 14 ["calls"] (spAns K) :=
  r.df (k := 13) scAnswers (fun _ _ _ _ _ _ us hl => match us, hl with | [_], _ => rfl)
  (fun vs H Q E h => by obtain ⟨_, _, rfl, _⟩ := h; rfl) (fun cdv A outer s H vs Q E hr h => by
    obtain ⟨a, l, rfl, hl, hask, hz, q⟩ := h
    subst hfi
    refine ⟨_, (pss_cons (ps_set (i := 1) scAnswers.nd rfl (by first | exact Or.inl rfl | exact Or.inr rfl) pe_non)
      (pss_cons (ps_set (i := 2) scAnswers.nd rfl (by first | exact Or.inl rfl | exact Or.inr rfl) (pe_lst pa_nil))
      (pss_cons (ps_for PassesOwn.never rfl (pi_list (pe_call dReadCalls.ok (hr.mono (by decide)) rfl dReadCalls.g dReadCalls.kp dReadCalls.b .nil pass0 (pa_cons (pv 0) pa_nil))) (pg_tup rfl (pgs_cons (pg_name (i := 3) scAnswers.nd rfl (by first | exact Or.inl rfl | exact Or.inr rfl)) (pgs_cons (pg_name (i := 4) scAnswers.nd rfl (by first | exact Or.inl rfl | exact Or.inr rfl)) (pgs_cons (pg_name (i := 5) scAnswers.nd rfl (by first | exact Or.inl rfl | exact Or.inr rfl)) pgs_nil)))) (pss_cut (ps_if (PW.pt (pw_and (pt_cmpR op_eq (pv 3) pe_int (nomark _)) (pw_and1 (pt_not (pt_val (pe_call dCanBeCreated.ok (hr.mono (by decide)) rfl dCanBeCreated.g dCanBeCreated.kp dCanBeCreated.b .nil pass0 (pa_cons (pe_ix (ix_listK K (by rfl)) (pv 4) pe_int (fun _ _ => rfl)) (pa_cons (pe_ix (ix_listK K (by rfl)) (pv 4) pe_int (fun _ _ => rfl)) (pa_cons (pe_ix (ix_listK K (by rfl)) (pv 4) pe_int (fun _ _ => rfl)) (pa_cons (pe_ix (ix_listK K (by rfl)) (pv 4) pe_int (fun _ _ => rfl)) pa_nil)))))))))) (pss_one (ps_set (i := 6) scAnswers.nd rfl (by first | exact Or.inl rfl | exact Or.inr rfl) (pe_lst (pa_cons (pe_globI rfl T.c_OUT_OF_LIMITS) pa_nil)))) (pss_one (ps_if (pt_cmpR op_eq (pv 3) pe_int (nomark _)) (pss_cons (ps_set (i := 1) scAnswers.nd rfl (by first | exact Or.inl rfl | exact Or.inr rfl) (pe_make T.mkC dModelInit.ok (hr.mono (by decide)) rfl T.gC dModelInit.b .nil pass0 (pa_cons (pe_ix (ix_listK K (by rfl)) (pv 4) pe_int (fun _ _ => rfl)) (pa_cons (pe_ix (ix_listK K (by rfl)) (pv 4) pe_int (fun _ _ => rfl)) (pa_cons (pe_ix (ix_listK K (by rfl)) (pv 4) pe_int (fun _ _ => rfl)) (pa_cons (pe_ix (ix_listK K (by rfl)) (pv 4) pe_int (fun _ _ => rfl)) pa_nil))))))
      (pss_one (ps_set (i := 6) scAnswers.nd rfl (by first | exact Or.inl rfl | exact Or.inr rfl) (pe_lst (pa_cons (pe_fldK K (by rfl) (pv 1) (by rfl)) pa_nil))))) (pss_one (ps_if (pt_cmpR op_isN (pv 1) pe_non (nomark _)) (pss_one (ps_set (i := 6) scAnswers.nd rfl (by first | exact Or.inl rfl | exact Or.inr rfl) (pe_lst (pa_cons (pe_globI rfl T.c_NO_PROCESS) pa_nil)))) (pss_one (ps_set (i := 6) scAnswers.nd rfl (by first | exact Or.inl rfl | exact Or.inr rfl) (pe_call dAnswerWith.ok (hr.mono (by decide)) rfl dAnswerWith.g dAnswerWith.kp dAnswerWith.b .nil pass0 (pa_cons (pv 1) (pa_cons (pv 3) (pa_cons (pv 4) (pa_cons (pv 5) pa_nil))))))))))))
      (pss_cons (ps_expr (pe_bm PySem.F.plainAttrs_list PySem.F.slot_list_append PySem.F.type_list_append mt_append (pv 2) (pa_cons (pe_callB (call_lenK K (by rfl)) (by rfl) T.n_len (by decide +kernel) (pa_cons (pv 6) pa_nil)) pa_nil)))
      (pss_one (ps_expr (pe_bm PySem.F.plainAttrs_list PySem.F.slot_list_extend PySem.F.type_list_extend mt_extend (pv 2) (pa_cons (pv 6) pa_nil)))))))
      (pss_one (ps_ret (pv 2)))))), ?_⟩
    obtain ⟨cs, hcs, hc60, hca, hal, hans⟩ := asked_parts hask
    refine q_asg ev_c fun H1 e1 => ?_
    refine q_asgL (el_lst ea_nil (by simp)) fun gd H2 ngd e2 hgd => ?_
    refine q_forE (RR := fun p xs H3 => ∃ ts : List Addr, xs = ts.map V.ref ∧ Ex H2 H3 ∧ H2 p = none ∧ ts.length = cs.length ∧ ∀ (i : Nat) (t : Addr) (c : List (List Int)), ts[i]? = some t → cs[i]? = some c → PcAt H2 H3 t (pcOf c))
      (fun Q' k => ⟨_, rfl, a, l, cs, rfl, ex_l (e1.trans e2) hl, hz, hcs, fun p ts H3 np e3 hp htl hts => k p _ H3 ⟨ts, rfl, e3, np, htl, hts⟩ hp⟩)
      (fun p xs i σ' H' => ∃ (H0 : Hp) (ts : List Addr) (st : Kp389.State) (outs : List (List Int)) (mv : V), xs = ts.map V.ref ∧ Ex H2 H0 ∧ H2 p = none ∧ H0 p = some (.lst xs) ∧ ts.length = cs.length ∧ (∀ (i : Nat) (t : Addr) (c : List (List Int)), ts[i]? = some t → cs[i]? = some c → PcAt H2 H0 t (pcOf c)) ∧
        (∃ v3 v4 v5 v6, σ' = [some (.ref a), some mv, some (.ref gd), v3, v4, v5, v6]) ∧ (∀ b o, H0 b = some o → b ≠ gd → H' b = some o) ∧ H' gd = some (.lst (iV (PyFlat.told outs))) ∧ StAt C H0 H' st mv ∧
        PyFlat.played Kp389Neutral.step none (cs.map PyKp389.whole) = outs ++ PyFlat.played Kp389Neutral.step st ((cs.drop i).map PyKp389.whole))
      ?_ ?_ ?_ ?_
    · rintro p xs H3 ⟨ts, rfl, e3, np, htl, hts⟩ hp
      exact ⟨H3, ts, none, [], .non, rfl, e3, np, hp, htl, hts, ⟨none, none, none, none, rfl⟩, fun b o h _ => h, e3 _ _ hgd, rfl, rfl⟩
    · rintro p xs i σ' H' ⟨H0, ts, st, outs, mv, rfl, e0, np, hp, htl, hts, _, fr, _⟩
      exact sq_of (fr _ _ hp (fun e => by rw [e, hgd] at np; cases np))
    · rintro p xs i x σ' H3 hi ⟨H0, ts, st, outs, mv, rfl, e0, np, hp, htl, hts, ⟨v3, v4, v5, v6, rfl⟩, fr, hg3, hst, hpl⟩
      rw [List.getElem?_map] at hi
      cases hti : ts[i]? with
      | none => rw [hti] at hi; cases hi
      | some t =>
      rw [hti] at hi
      have hi := Option.some.inj hi
      subst hi
      have hil : i < cs.length := by
        have := (List.getElem?_eq_some_iff.mp hti).1
        omega
      have hci : cs[i]? = some cs[i] := List.getElem?_eq_getElem hil
      obtain ⟨xn, yr, ⟨ft, fx, fy⟩, htup, hxn, hyr⟩ := hts i t cs[i] hti hci
      obtain ⟨num, ns, rows, S⟩ := calls_shaped _ _ _ hcs cs[i] (List.getElem_mem hil)
      obtain ⟨call, hcall, hk⟩ := kind_of S (hca cs[i] (List.getElem_mem hil))
      have hpc : pcOf cs[i] = (num, ns, rows.headD []) := by rw [S.eq]; rfl
      rw [hpc] at htup hxn hyr
      simp only at htup hxn hyr
      generalize rows.headD [] = row at hk hyr hpc
      have hgd2 : H2 gd ≠ none := by rw [hgd]; simp
      have ntg : ∀ {b}, H2 b = none → b ≠ gd := fun h e => by rw [e] at h; exact hgd2 h
      have ht3 := fr _ _ htup (ntg ft)
      have hx3 := fr _ _ hxn (ntg fx)
      have hy3 := fr _ _ hyr (ntg fy)
      refine ⟨t, _, rfl, st_of ht3, rfl, _, _, rfl, _, _, rfl, _, _, rfl, rfl, ?_⟩
      have hdrop : (cs.drop i).map PyKp389.whole = PyKp389.whole cs[i] :: (cs.drop (i + 1)).map PyKp389.whole := by
        rw [List.drop_eq_getElem_cons hil]; rfl
      rw [hdrop, played_cons, step_of hcall] at hpl
      simp only at hpl
      have hgd0 : H0 gd ≠ none := by rw [e0 _ _ hgd]; simp
      have nfresh : ∀ {q4 : Addr} {H4 : Hp}, (∀ b o, H0 b = some o → b ≠ gd → H4 b = some o) → H4 gd ≠ none → H4 q4 = none → H0 q4 = none := by
        intro q4 H4 f hg hq
        cases hh : H0 q4 with
        | none => rfl
        | some o =>
          by_cases e : q4 = gd
          · subst e; exact absurd hq hg
          · rw [f _ _ hh e] at hq; cases hq
      refine q_cut (M := fun σ4 H4 => ∃ (mv' : V) (q4 : Addr), σ4 = [some (.ref a), some mv', some (.ref gd), some (.int num), some (.ref xn), some (.ref yr), some (.ref q4)] ∧ (∀ b o, H0 b = some o → b ≠ gd → H4 b = some o) ∧ H4 gd = some (.lst (iV (PyFlat.told outs))) ∧
        StAt C H0 H4 (Kp389.step st call).1 mv' ∧ q4 ≠ gd ∧ H4 q4 = some (.lst (iV ((Kp389.step st call).2.num :: (Kp389.step st call).2.nums)))) ?_ ?_
      · -- the branches
        have ix : ∀ {H5 : Hp} {te : TE} {σ5 : L2.St} {j : Nat} {H6 : Hp}, H5 xn = some (.lst (iV ns)) → σ5[4]? = some (some (.ref xn)) → Ev te σ5 H5 (.int (j : Int)) → j < ns.length → Ev (tOp (rIxL K) (tVar 4) te) σ5 H5 (.int (ns.getD j 0)) := fun h1 h2 h3 h4 => ev_ixI (ev_var h2) h3 (sq_of h1) h4
        by_cases h0 : num = 0
        · subst h0
          cases hk with
          | create c1 c2 c3 c4 =>
          have g4 : ∀ {H5 : Hp} {j : Nat} {v6 : Option V} {mv : V}, H5 xn = some (.lst (iV [(c1 : Int), (c2 : Int), (c3 : Int), (c4 : Int)])) → j < 4 → Ev (tOp (rIxL K) (tVar 4) (tC (.int (j : Int)))) [some (.ref a), some mv, some (.ref gd), some (.int 0), some (.ref xn), some (.ref yr), v6] H5 (.int ([(c1 : Int), (c2 : Int), (c3 : Int), (c4 : Int)].getD j 0)) :=
            fun h hj => ev_ixI (ev_var rfl) ev_c (sq_of h) hj
          refine s_if (b := true && !(canBeCreated c1 c2 c3 c4)) (et_and (et_eqc rfl (by simp)) fun _ => et_not (et_B (ev_call (ea_cons (g4 (j := 0) hx3 (by decide)) (ea_cons (g4 (j := 1) hx3 (by decide)) (ea_cons (g4 (j := 2) hx3 (by decide)) (ea_cons (g4 (j := 3) hx3 (by decide)) ea_nil)))) (spV_use fun H5 e5 => ⟨c1, c2, c3, c4, rfl, rfl⟩)))) (fun hb H4 e4 => ?_) (fun hb H4 e4 => ?_)
          · have hcc : canBeCreated c1 c2 c3 c4 = false := not_t hb
            rw [create_no hcc]
            refine s_asgL (el_lst (ea_cons ev_c ea_nil) (by simp)) fun q4 H5 nq e5 hq => ?_
            exact ⟨mv, q4, rfl, fun b o h n => e5 _ _ (e4 _ _ (fr b o h n)), e5 _ _ (e4 _ _ hg3), (hst.mono (e4.trans e5)), ne_new (e4 _ _ hg3) nq, hq⟩
          · have hcc : canBeCreated c1 c2 c3 c4 = true := not_f hb
            obtain ⟨hok, hstep⟩ := create_yes (st := st) hcc
            rw [hstep]
            refine s_if (b := true) (et_eqc rfl (by simp)) (fun _ H5 e5 => ?_) (fun hb => by cases hb)
            have hx5 := e5 _ _ (e4 _ _ hx3)
            -- model = Model(..)
            refine q_make (ea_cons (g4 (j := 0) hx5 (by decide)) (ea_cons (g4 (j := 1) hx5 (by decide)) (ea_cons (g4 (j := 2) hx5 (by decide)) (ea_cons (g4 (j := 3) hx5 (by decide)) ea_nil)))) fun H6 e6 x dx nx ndx nex => ?_
            refine ⟨x, dx, c1, c2, c3, c4, rfl, upd_same, hok, fun H7 L hLa M7 fr7 ad7 => ⟨rfl, ?_⟩⟩
            have E6 := (e4.trans e5).trans e6
            have keep : ∀ b o, H6 b = some o → H7 b = some o := fun b o h => by
              have n1 : b ≠ x := ne_of_none h nx
              have n2 : b ≠ dx := ne_of_none h ndx
              exact fr7 b o (by rw [upd_ne n1, upd_ne n2]; exact h) n1
            have fr7' : ∀ b o, H0 b = some o → b ≠ gd → H7 b = some o := fun b o h n => keep _ _ (E6 _ _ (fr b o h n))
            have hg7 := keep _ _ (E6 _ _ hg3)
            have ad0 : ∀ y ∈ addrs L, H0 y = none := by
              intro y hy
              refine nfresh (H4 := H6) (fun b o h n => E6 _ _ (fr b o h n)) (by rw [E6 _ _ hg3]; simp) ?_
              unfold addrs at hy
              rcases List.mem_cons.mp hy with e | hy
              · rw [e, hLa]; exact nx
              · have h1 := ad7 y hy
                by_cases e1 : y = x
                · rw [e1]; exact nx
                · rw [upd_ne e1] at h1
                  by_cases e2 : y = dx
                  · rw [e2]; exact ndx
                  · rw [upd_ne e2] at h1; exact h1
            subst hLa
            refine s_asgL (xs := iV [((c1 * c2 * c1 : Nat) : Int)]) (el_lst (ea_cons (ev_f5 (fi := dModelInit.f) T M7 (ev_var rfl)) ea_nil) (by rw [iV_len]; simp)) fun q4 H8 nq e8 hq => ?_
            exact ⟨.ref L.a, q4, rfl, fun b o h n => e8 _ _ (fr7' b o h n), e8 _ _ hg7, ⟨L, rfl, M7.mono e8, ad0⟩, ne_new hg7 nq, hq⟩
        · have hn0 : decide (num = 0) = false := decide_eq_false h0
          refine s_if (b := false && false) (et_and (et_eqc rfl hn0) (fun h => by cases h)) (fun hb => by cases hb) (fun _ H4 e4 => ?_)
          refine s_if (b := false) (et_eqc rfl hn0) (fun hb => by cases hb) (fun _ H5 e5 => ?_)
          have E5 := e4.trans e5
          cases st with
          | none =>
            have hmv : mv = .non := hst
            subst hmv
            refine s_if (b := true) (et_isN rfl (by simp)) (fun _ H6 e6 => ?_) (fun hb => by cases hb)
            rw [none_other hk h0]
            refine s_asgL (el_lst (ea_cons ev_c ea_nil) (by simp)) fun q4 H7 nq e7 hq => ?_
            have E7 := (E5.trans e6).trans e7
            exact ⟨.non, q4, rfl, fun b o h n => E7 _ _ (fr b o h n), E7 _ _ hg3, rfl, ne_new ((E5.trans e6) _ _ hg3) nq, hq⟩
          | some pr =>
            obtain ⟨L, rfl, M, ad⟩ := hst
            refine s_if (b := false) (et_isN rfl (by simp)) (fun hb => by cases hb) (fun _ H6 e6 => ?_)
            have E6 := E5.trans e6
            have M6 := M.mono E6
            have hx6 := E6 _ _ hx3
            have hy6 := E6 _ _ hy3
            obtain ⟨p', hp'⟩ := some_other hk h0 pr
            refine ⟨_, rfl, _, rfl, _, rfl, _, rfl, L, pr, (num, ns, row), call, xn, yr, rfl, M6, hx6, hy6, fun h => ?_, fun h => ?_, hk, h0, fun H7 L' q4 M7 ch nq nqa hq => ?_⟩
            · have := ad _ h; rw [hxn] at this; cases this
            · have := ad _ h; rw [hyr] at this; cases this
            · have fr7 : ∀ b o, H0 b = some o → b ≠ gd → H7 b = some o := fun b o h n => ch.fr b o (E6 _ _ (fr b o h n)) (fun hm => by
                have : b ∈ addrs L := by
                  unfold addrs
                  simp only [List.mem_cons, List.not_mem_nil, or_false] at hm ⊢
                  rcases hm with h | h | h | h | h <;> simp [h]
                rw [ad b this] at h; cases h)
              have hgL : gd ∉ addrs L := fun h => hgd0 (ad gd h)
              have hg7 : H7 gd = some (.lst (iV (PyFlat.told outs))) := ch.fr gd _ (E6 _ _ hg3) (fun hm => hgL (by
                  unfold addrs
                  simp only [List.mem_cons, List.not_mem_nil, or_false] at hm ⊢
                  rcases hm with h | h | h | h | h <;> simp [h]))
              have hnx : nextOf call pr = p' := by unfold nextOf; rw [hp']; rfl
              refine ⟨.ref L'.a, q4, by rw [ch.a]; rfl, fr7, hg7, ?_, ne_new (E6 _ _ hg3) nq, hq⟩
              rw [hp']
              rw [hnx] at M7
              refine ⟨L', rfl, M7, fun y hy => ?_⟩
              rcases ch.ad y hy with h | h
              · exact ad y h
              · exact nfresh (H4 := H6) (fun b o h n => E6 _ _ (fr b o h n)) (by rw [E6 _ _ hg3]; simp) h
      · rintro σ4 H4 ⟨mv', q4, rfl, fr4, hg4, hst4, nq4, hq4⟩
        have hans2 : (PyFlat.told outs).length + ((Kp389.step st call).2.nums.length + 2) ≤ 10000000 := by
          rw [hans, hpl, told_app] at hal
          simp only [PyFlat.told, List.flatMap_cons, List.length_append, List.length_cons] at hal ⊢
          omega
        have hlen1 : (iV (PyFlat.told outs)).length = (PyFlat.told outs).length := iV_len _
        have hlen2 : (iV ((Kp389.step st call).2.num :: (Kp389.step st call).2.nums)).length = (Kp389.step st call).2.nums.length + 1 := by rw [iV_len]; rfl
        have hsl : sizeLine = 16777216 := rfl
        refine q_appZ hg4 (ev_var rfl) (ev_lenL (ev_var rfl) (sq_of hq4)) (by rw [hsl]; omega) fun H5 e5 => ?_
        have hq5 : (L2.upd H5 gd (.lst (iV (PyFlat.told outs) ++ [.int ((iV ((Kp389.step st call).2.num :: (Kp389.step st call).2.nums)).length : Int)]))) q4 = some (.lst (iV ((Kp389.step st call).2.num :: (Kp389.step st call).2.nums))) := by
          rw [upd_ne nq4]; exact e5 _ _ hq4
        refine s_ext upd_same hq5 (ev_var rfl) (ev_var rfl) (by rw [hsl, List.length_append, hlen2, hlen1]; simp; omega) fun H6 e6 => ?_
        have hfr6 : ∀ b o, H0 b = some o → b ≠ gd → (L2.upd H6 gd (.lst ((iV (PyFlat.told outs) ++ [.int ((iV ((Kp389.step st call).2.num :: (Kp389.step st call).2.nums)).length : Int)]) ++ iV ((Kp389.step st call).2.num :: (Kp389.step st call).2.nums)))) b = some o := fun b o h n => by
          rw [upd_ne n]; exact e6 _ _ (by rw [upd_ne n]; exact e5 _ _ (fr4 b o h n))
        refine ⟨H0, ts, (Kp389.step st call).1, outs ++ [(Kp389.step st call).2.num :: (Kp389.step st call).2.nums], mv', rfl, e0, np, hp, htl, hts, ⟨_, _, _, _, rfl⟩, hfr6, ?_, ?_, by rw [hpl, List.append_assoc]; rfl⟩
        · rw [upd_same, told_app]
          have : PyFlat.told [(Kp389.step st call).2.num :: (Kp389.step st call).2.nums] = (((Kp389.step st call).2.nums.length + 1 : Nat) : Int) :: ((Kp389.step st call).2.num :: (Kp389.step st call).2.nums) := by
            simp [PyFlat.told]
          rw [this, hlen2]
          simp [iV]
        · exact ((((hst4.mono e5).upd hgd0).mono e6).upd hgd0)
    · rintro p xs σ' H3 ⟨H0, ts, st, outs, mv, rfl, e0, np, hp, htl, hts, ⟨v3, v4, v5, v6, rfl⟩, fr, hg3, hst, hpl⟩
      refine s_ret (ev_var rfl) fun H4 e4 => q H4 gd ?_
      rw [e4 _ _ hg3, hans, hpl]
      have : (ts.map V.ref).length = cs.length := by simp [htl]
      rw [this, List.drop_length]
      simp [PyFlat.played])
end
end SR

set_option maxHeartbeats 4000000
/-! process.py: the calls that change the process -/
namespace SR
open PySem PySem.Spec PyProof.Rows L2 Evl
abbrev sChanged : Stmt := topS 92
theorem scChanged : FnScope ["model", "number", "numbers", "row"] ["model", "number", "numbers", "row"] (defScope sChanged) := ⟨rfl, rfl, rfl, by decide +kernel, rfl, by decide +kernel, by decide +kernel⟩
abbrev sAsked : Stmt := topS 93
theorem scAsked : FnScope ["model", "number", "numbers", "row"] ["model", "number", "numbers", "row"] (defScope sAsked) := ⟨rfl, rfl, rfl, by decide +kernel, rfl, by decide +kernel, by decide +kernel⟩
abbrev sAskedOfWorlds : Stmt := topS 94
theorem scAskedOfWorlds : FnScope ["model", "number", "numbers", "row"] ["model", "number", "numbers", "row"] (defScope sAskedOfWorlds) := ⟨rfl, rfl, rfl, by decide +kernel, rfl, by decide +kernel, by decide +kernel⟩
abbrev sAnswerWith : Stmt := topS 91
theorem scAnswerWith : FnScope ["model", "number", "numbers", "row"] ["model", "number", "numbers", "row"] (defScope sAnswerWith) := ⟨rfl, rfl, rfl, by decide +kernel, rfl, by decide +kernel, by decide +kernel⟩
/-- as of answer_with, of the calls that change the process -/
def spChanged (C : Addr) : Sp := fun vs H Q _ => ∃ (L : Lay) (p : Kp389.Process) (pc : Int × List Int × List Int) (call : Kp389.Call) (x y : Addr), vs = [.ref L.a, .int pc.1, .ref x, .ref y] ∧ Mdl C H L p ∧ H x = some (.lst (iV pc.2.1)) ∧ H y = some (.lst (iV pc.2.2)) ∧
  x ∉ addrs L ∧ y ∉ addrs L ∧ Kind pc call ∧ (pc.1 = 1 ∨ pc.1 = 2 ∨ pc.1 = 3 ∨ pc.1 = 4 ∨ pc.1 = 5 ∨ pc.1 = 6 ∨ pc.1 = 8) ∧ Done C H L p call Q
section
variable {P : Program} {w : World} {K : PySem.W.Frag} {mg : Str → Option Value} {base : Heap} {C fi aN aW : Addr} {σ : L2.St} {H H' : Hp} {ta tb te tl : TE} {L : Lay} {p : Kp389.Process}
theorem ret_call {sp : Sp} {dvs vs : List V} {E : XK} {tt : TA} {D : Ends} (h : EvA tt σ H vs) (k : ∀ H1, Ex H H1 → sp (vs ++ dvs) H1 D.rt E) : tRet (tCall sp dvs E tt) D σ H := h H (Ex.refl H) _ fun H1 e1 => k H1 e1
/-- if x == k: return .., not taken; taken -/
theorem q_no {i : Nat} {n k : Int} {tu tz : TS} {D : Ends} (h : σ[i]? = some (some (.int n))) (e : decide (n = k) = false) (q : ∀ H1, Ex H H1 → tz D σ H1) : tSeq (tIfS (tTest (tOp rEq (tVar i) (tC (.int k)))) tu tNext) tz D σ H :=
  q_when (et_eqc h e) (fun hb => by cases hb) fun _ H1 e1 => q H1 e1
theorem q_yes {i : Nat} {n : Int} {k : Int} {tu tz : TS} {D : Ends} (h : σ[i]? = some (some (.int n))) (e : decide (n = k) = true) (q : ∀ H1, Ex H H1 → tu { D with nx := tz D } σ H1) : tSeq (tIfS (tTest (tOp rEq (tVar i) (tC (.int k)))) tu tNext) tz D σ H :=
  q_when (et_eqc h e) (fun _ H1 e1 => q H1 e1) fun hb => by cases hb
theorem zl_nV (l : List Nat) : iV (zl l) = nV l := by rw [nV_iV]; rfl
def dfChanged (T : Txt K mg C fi) (dSetReward : Df P w K mg base "set_reward" 3 ["model", "table", "state", "action", "following", "given"] (spSetReward K C)) (dSetRewards : Df P w K mg base "set_rewards" 3 ["model", "table", "given"] (spSetRewards K C)) (dCopyRewards : Df P w K mg base "copy_rewards" 2 ["model", "table"] (spCopyRewards C)) (dShapeRewards : Df P w K mg base "shape_rewards" 4 ["model", "table", "potentials"] (spShapeRewards K C)) (dScaleRewards : Df P w K mg base "scale_rewards" 4 ["model", "table", "factor"] (spScaleRewards C)) (dSetTransition : Df P w K mg base "set_transition" 3 ["model", "state", "action", "weights"] (spSetTransition K C)) (dSetDeterministic : Df P w K mg base "set_deterministic" 3 ["model", "next_states"] (spSetDeterministic K C)) (r : Rw K mg "changed" sChanged) : Df P w K mg base "changed" 5 ["model", "number", "numbers", "row"] (spChanged C) :=
  r.df (k := 4) scChanged (fun _ _ _ _ _ _ us hl => match us, hl with | [_, _, _, _], _ => rfl)
  (fun vs H Q E h => by obtain ⟨_, _, _, _, _, _, rfl, _⟩ := h; rfl) (fun cdv A outer s H vs Q E hr h => by
    obtain ⟨L, p, pc, call, x, y, rfl, M, hx, hy, nx, ny, hk, hn, D⟩ := h
    refine ⟨_, (pss_cons (ps_if (pt_cmpR op_eq (pv 1) pe_int (nomark _)) (pss_one (ps_ret (pe_call dSetReward.ok (hr.mono (by decide)) rfl dSetReward.g dSetReward.kp dSetReward.b .nil pass0 (pa_cons (pv 0) (pa_cons (pe_ix (ix_listK K (by rfl)) (pv 2) pe_int (fun _ _ => rfl)) (pa_cons (pe_ix (ix_listK K (by rfl)) (pv 2) pe_int (fun _ _ => rfl)) (pa_cons (pe_ix (ix_listK K (by rfl)) (pv 2) pe_int (fun _ _ => rfl)) (pa_cons (pe_ix (ix_listK K (by rfl)) (pv 2) pe_int (fun _ _ => rfl)) (pa_cons (pv 3) pa_nil))))))))) pss_nil)
      (pss_cons (ps_if (pt_cmpR op_eq (pv 1) pe_int (nomark _)) (pss_one (ps_ret (pe_call dSetRewards.ok (hr.mono (by decide)) rfl dSetRewards.g dSetRewards.kp dSetRewards.b .nil pass0 (pa_cons (pv 0) (pa_cons (pe_ix (ix_listK K (by rfl)) (pv 2) pe_int (fun _ _ => rfl)) (pa_cons (pv 3) pa_nil)))))) pss_nil)
      (pss_cons (ps_if (pt_cmpR op_eq (pv 1) pe_int (nomark _)) (pss_one (ps_ret (pe_call dCopyRewards.ok (hr.mono (by decide)) rfl dCopyRewards.g dCopyRewards.kp dCopyRewards.b .nil pass0 (pa_cons (pv 0) (pa_cons (pe_ix (ix_listK K (by rfl)) (pv 2) pe_int (fun _ _ => rfl)) pa_nil))))) pss_nil)
      (pss_cons (ps_if (pt_cmpR op_eq (pv 1) pe_int (nomark _)) (pss_one (ps_ret (pe_call dShapeRewards.ok (hr.mono (by decide)) rfl dShapeRewards.g dShapeRewards.kp dShapeRewards.b .nil pass0 (pa_cons (pv 0) (pa_cons (pe_ix (ix_listK K (by rfl)) (pv 2) pe_int (fun _ _ => rfl)) (pa_cons (pv 3) pa_nil)))))) pss_nil)
      (pss_cons (ps_if (pt_cmpR op_eq (pv 1) pe_int (nomark _)) (pss_one (ps_ret (pe_call dScaleRewards.ok (hr.mono (by decide)) rfl dScaleRewards.g dScaleRewards.kp dScaleRewards.b .nil pass0 (pa_cons (pv 0) (pa_cons (pe_ix (ix_listK K (by rfl)) (pv 2) pe_int (fun _ _ => rfl)) (pa_cons (pe_ix (ix_listK K (by rfl)) (pv 2) pe_int (fun _ _ => rfl)) pa_nil)))))) pss_nil)
      (pss_cons (ps_if (pt_cmpR op_eq (pv 1) pe_int (nomark _)) (pss_one (ps_ret (pe_call dSetTransition.ok (hr.mono (by decide)) rfl dSetTransition.g dSetTransition.kp dSetTransition.b .nil pass0 (pa_cons (pv 0) (pa_cons (pe_ix (ix_listK K (by rfl)) (pv 2) pe_int (fun _ _ => rfl)) (pa_cons (pe_ix (ix_listK K (by rfl)) (pv 2) pe_int (fun _ _ => rfl)) (pa_cons (pv 3) pa_nil))))))) pss_nil)
      (pss_one (ps_ret (pe_call dSetDeterministic.ok (hr.mono (by decide)) rfl dSetDeterministic.g dSetDeterministic.kp dSetDeterministic.b .nil pass0 (pa_cons (pv 0) (pa_cons (pv 3) pa_nil))))))))))), ?_⟩
    have ix : ∀ {n : Int} {ns : List Int} {H1 : Hp} {j : Nat}, H1 x = some (.lst (iV ns)) → j < ns.length → Ev (tOp (rIxL K) (tVar 2) (tC (.int (j : Int)))) [some (.ref L.a), some (.int n), some (.ref x), some (.ref y)] H1 (.int (ns.getD j 0)) := fun h1 h2 => ev_ixI (ev_var rfl) ev_c (sq_of h1) h2
    cases hk with
    | setReward t s1 a q l hl =>
      refine q_yes rfl (by rfl) fun H1 e1 => ?_
      exact ret_call (ea_cons (ev_var rfl) (ea_cons (ix (j := 0) (e1 _ _ hx) (by simp)) (ea_cons (ix (j := 1) (e1 _ _ hx) (by simp)) (ea_cons (ix (j := 2) (e1 _ _ hx) (by simp)) (ea_cons (ix (j := 3) (e1 _ _ hx) (by simp)) (ea_cons (ev_var rfl) ea_nil)))))) fun H2 e2 =>
        ⟨L, p, t, s1, a, q, y, l, rfl, M.mono (e1.trans e2), sq_of ((e1.trans e2) _ _ hy), by omega, D.pre (e1.trans e2)⟩
    | setRewards t l hl =>
      refine q_no rfl (by rfl) fun H1 e1 => q_yes rfl (by rfl) fun H2 e2 => ?_
      have e1 := e1.trans e2
      exact ret_call (ea_cons (ev_var rfl) (ea_cons (ix (j := 0) (e1 _ _ hx) (by simp)) (ea_cons (ev_var rfl) ea_nil))) fun H3 e3 => ⟨L, p, t, y, l, rfl, M.mono (e1.trans e3), sq_of ((e1.trans e3) _ _ hy), by omega, D.pre (e1.trans e3)⟩
    | copyRewards t =>
      refine q_no rfl (by rfl) fun H1 e1 => q_no rfl (by rfl) fun H2 e2 => q_yes rfl (by rfl) fun H3 e3 => ?_
      have e1 := (e1.trans e2).trans e3
      exact ret_call (ea_cons (ev_var rfl) (ea_cons (ix (j := 0) (e1 _ _ hx) (by simp)) ea_nil)) fun H3 e3 => ⟨L, p, t, rfl, M.mono (e1.trans e3), D.pre (e1.trans e3)⟩
    | shapeRewards t l hl =>
      refine q_no rfl (by rfl) fun H1 e1 => q_no rfl (by rfl) fun H2 e2 => q_no rfl (by rfl) fun H3 e3 => q_yes rfl (by rfl) fun H4 e4 => ?_
      have e1 := ((e1.trans e2).trans e3).trans e4
      exact ret_call (ea_cons (ev_var rfl) (ea_cons (ix (j := 0) (e1 _ _ hx) (by simp)) (ea_cons (ev_var rfl) ea_nil))) fun H3 e3 => ⟨L, p, t, y, l, rfl, M.mono (e1.trans e3), sq_of ((e1.trans e3) _ _ hy), by omega, D.pre (e1.trans e3)⟩
    | scaleRewards t c =>
      refine q_no rfl (by rfl) fun H1 e1 => q_no rfl (by rfl) fun H2 e2 => q_no rfl (by rfl) fun H3 e3 => q_no rfl (by rfl) fun H4 e4 => q_yes rfl (by rfl) fun H5 e5 => ?_
      have e1 := (((e1.trans e2).trans e3).trans e4).trans e5
      exact ret_call (ea_cons (ev_var rfl) (ea_cons (ix (j := 0) (e1 _ _ hx) (by simp)) (ea_cons (ix (j := 1) (e1 _ _ hx) (by simp)) ea_nil))) fun H3 e3 => ⟨L, p, t, c, rfl, M.mono (e1.trans e3), D.pre (e1.trans e3)⟩
    | setTransition s1 a l hl =>
      refine q_no rfl (by rfl) fun H1 e1 => q_no rfl (by rfl) fun H2 e2 => q_no rfl (by rfl) fun H3 e3 => q_no rfl (by rfl) fun H4 e4 => q_no rfl (by rfl) fun H5 e5 => q_yes rfl (by rfl) fun H6 e6 => ?_
      have e1 := ((((e1.trans e2).trans e3).trans e4).trans e5).trans e6
      rw [zl_nV] at hy
      exact ret_call (ea_cons (ev_var rfl) (ea_cons (ix (j := 0) (e1 _ _ hx) (by simp)) (ea_cons (ix (j := 1) (e1 _ _ hx) (by simp)) (ea_cons (ev_var rfl) ea_nil)))) fun H3 e3 => ⟨L, p, s1, a, y, l, rfl, M.mono (e1.trans e3), sq_of ((e1.trans e3) _ _ hy), by omega, (fun h => ny (by rw [h]; simp [addrs])), D.pre (e1.trans e3)⟩
    | setDeterministic l hl =>
      refine q_no rfl (by rfl) fun H1 e1 => q_no rfl (by rfl) fun H2 e2 => q_no rfl (by rfl) fun H3 e3 => q_no rfl (by rfl) fun H4 e4 => q_no rfl (by rfl) fun H5 e5 => q_no rfl (by rfl) fun H6 e6 => ?_
      have e1 := ((((e1.trans e2).trans e3).trans e4).trans e5).trans e6
      rw [zl_nV] at hy
      exact ret_call (ea_cons (ev_var rfl) (ea_cons (ev_var rfl) ea_nil)) fun H3 e3 => ⟨L, p, y, l, rfl, M.mono (e1.trans e3), sq_of ((e1.trans e3) _ _ hy), by omega, D.pre (e1.trans e3)⟩
    | create a b c d => simp at hn
    | getTransition s1 a => simp at hn
    | areEquivalent => simp at hn
    | optimalValues t => simp at hn
    | actionValue t s1 a => simp at hn
    | optimalActions t s1 => simp at hn
    | optimalPolicy t => simp at hn
    | policyValues t l hl => simp at hn
    | sameOptimalActions => simp at hn
    | regrets => simp at hn
    | distinguishes l hl => simp at hn
    | distinguishingWorld => simp at hn
    | expectedReward t s1 a => simp at hn
    | valueWithTransition s1 a t q l hl => simp at hn)
/-- as of answer_with, of the calls that ask of worlds -/
def spAskedOfWorlds (C : Addr) : Sp := fun vs H Q _ => ∃ (L : Lay) (p : Kp389.Process) (pc : Int × List Int × List Int) (call : Kp389.Call) (x y : Addr), vs = [.ref L.a, .int pc.1, .ref x, .ref y] ∧ Mdl C H L p ∧ H x = some (.lst (iV pc.2.1)) ∧ H y = some (.lst (iV pc.2.2)) ∧
  Kind pc call ∧ (pc.1 = 17 ∨ pc.1 = 18 ∨ pc.1 = 20) ∧ Done C H L p call Q
def spAsked (C : Addr) : Sp := fun vs H Q _ => ∃ (L : Lay) (p : Kp389.Process) (pc : Int × List Int × List Int) (call : Kp389.Call) (x y : Addr), vs = [.ref L.a, .int pc.1, .ref x, .ref y] ∧ Mdl C H L p ∧ H x = some (.lst (iV pc.2.1)) ∧ H y = some (.lst (iV pc.2.2)) ∧
  Kind pc call ∧ (pc.1 = 7 ∨ 9 ≤ pc.1) ∧ Done C H L p call Q
def dfAskedOfWorlds (T : Txt K mg C fi) (dDistinguishes : Df P w K mg base "distinguishes" 10 ["model", "next_states"] (spDistinguishes K C)) (dDistinguishingWorld : Df P w K mg base "distinguishing_world" 10 ["model"] (spDistinguishingWorld C)) (dValueWithTransition : Df P w K mg base "value_with_transition" 7 ["model", "state", "action", "table", "valued", "weights"] (spValueWithTransition C)) (r : Rw K mg "asked_of_worlds" sAskedOfWorlds) : Df P w K mg base "asked_of_worlds" 11 ["model", "number", "numbers", "row"] (spAskedOfWorlds C) :=
  r.df (k := 10) scAskedOfWorlds (fun _ _ _ _ _ _ us hl => match us, hl with | [_, _, _, _], _ => rfl)
  (fun vs H Q E h => by obtain ⟨_, _, _, _, _, _, rfl, _⟩ := h; rfl) (fun cdv A outer s H vs Q E hr h => by
    obtain ⟨L, p, pc, call, x, y, rfl, M, hx, hy, hk, hn, D⟩ := h
    refine ⟨_, (pss_cons (ps_if (pt_cmpR op_eq (pv 1) pe_int (nomark _)) (pss_one (ps_ret (pe_call dDistinguishes.ok (hr.mono (by decide)) rfl dDistinguishes.g dDistinguishes.kp dDistinguishes.b .nil pass0 (pa_cons (pv 0) (pa_cons (pv 3) pa_nil))))) pss_nil)
      (pss_cons (ps_if (pt_cmpR op_eq (pv 1) pe_int (nomark _)) (pss_one (ps_ret (pe_call dDistinguishingWorld.ok (hr.mono (by decide)) rfl dDistinguishingWorld.g dDistinguishingWorld.kp dDistinguishingWorld.b .nil pass0 (pa_cons (pv 0) pa_nil)))) pss_nil)
      (pss_one (ps_ret (pe_call dValueWithTransition.ok (hr.mono (by decide)) rfl dValueWithTransition.g dValueWithTransition.kp dValueWithTransition.b .nil pass0 (pa_cons (pv 0) (pa_cons (pe_ix (ix_listK K (by rfl)) (pv 2) pe_int (fun _ _ => rfl)) (pa_cons (pe_ix (ix_listK K (by rfl)) (pv 2) pe_int (fun _ _ => rfl)) (pa_cons (pe_ix (ix_listK K (by rfl)) (pv 2) pe_int (fun _ _ => rfl)) (pa_cons (pe_ix (ix_listK K (by rfl)) (pv 2) pe_int (fun _ _ => rfl)) (pa_cons (pv 3) pa_nil))))))))))), ?_⟩
    have ix : ∀ {n : Int} {ns : List Int} {H1 : Hp} {j : Nat}, H1 x = some (.lst (iV ns)) → j < ns.length → Ev (tOp (rIxL K) (tVar 2) (tC (.int (j : Int)))) [some (.ref L.a), some (.int n), some (.ref x), some (.ref y)] H1 (.int (ns.getD j 0)) := fun h1 h2 => ev_ixI (ev_var rfl) ev_c (sq_of h1) h2
    cases hk with
    | distinguishes l hl =>
      refine q_yes rfl (by rfl) fun H10 e10 => ?_
      have e1 := e10
      rw [zl_nV] at hy
      exact ret_call (ea_cons (ev_var rfl) (ea_cons (ev_var rfl) ea_nil)) fun H9 e3 => ⟨L, p, y, l, rfl, M.mono (e1.trans e3), sq_of ((e1.trans e3) _ _ hy), by omega, D.pre (e1.trans e3)⟩
    | distinguishingWorld =>
      refine q_no rfl (by rfl) fun H10 e10 => q_yes rfl (by rfl) fun H11 e11 => ?_
      have e1 := (e10.trans e11)
      exact ret_call (ea_cons (ev_var rfl) ea_nil) fun H9 e3 => ⟨L, p, rfl, M.mono (e1.trans e3), D.pre (e1.trans e3)⟩
    | valueWithTransition s1 a t q l hl =>
      refine q_no rfl (by rfl) fun H10 e10 => q_no rfl (by rfl) fun H11 e11 => ?_
      have e1 := (e10.trans e11)
      rw [zl_nV] at hy
      exact ret_call (ea_cons (ev_var rfl) (ea_cons (ix (j := 0) (e1 _ _ hx) (by simp)) (ea_cons (ix (j := 1) (e1 _ _ hx) (by simp)) (ea_cons (ix (j := 2) (e1 _ _ hx) (by simp)) (ea_cons (ix (j := 3) (e1 _ _ hx) (by simp)) (ea_cons (ev_var rfl) ea_nil)))))) fun H9 e3 => ⟨L, p, s1, a, t, q, y, l, rfl, M.mono (e1.trans e3), (e1.trans e3) _ _ hy, by omega, D.pre (e1.trans e3)⟩
    | create a b c d => simp at hn
    | setReward t s1 a q l hl => simp at hn
    | setRewards t l hl => simp at hn
    | copyRewards t => simp at hn
    | shapeRewards t l hl => simp at hn
    | scaleRewards t c => simp at hn
    | setTransition s1 a l hl => simp at hn
    | getTransition s1 a => simp at hn
    | setDeterministic l hl => simp at hn
    | areEquivalent => simp at hn
    | optimalValues t => simp at hn
    | actionValue t s1 a => simp at hn
    | optimalActions t s1 => simp at hn
    | optimalPolicy t => simp at hn
    | policyValues t l hl => simp at hn
    | sameOptimalActions => simp at hn
    | regrets => simp at hn
    | expectedReward t s1 a => simp at hn)
def dfAsked (T : Txt K mg C fi) (dGetTransition : Df P w K mg base "get_transition" 2 ["model", "state", "action"] (spGetTransition C)) (dAreEquivalent : Df P w K mg base "are_equivalent" 6 ["model"] (spAreEquivalent C)) (dOptimalValues : Df P w K mg base "optimal_values" 7 ["model", "table"] (spOptimalValues C)) (dActionValue : Df P w K mg base "action_value" 7 ["model", "table", "state", "action"] (spActionValue C)) (dOptimalActions : Df P w K mg base "optimal_actions" 7 ["model", "table", "state"] (spOptimalActions C)) (dOptimalPolicy : Df P w K mg base "optimal_policy" 9 ["model", "table"] (spOptimalPolicy C)) (dPolicyValues : Df P w K mg base "policy_values" 6 ["model", "table", "policy"] (spPolicyValues K C)) (dSameOptimalActions : Df P w K mg base "same_optimal_actions" 9 ["model"] (spSameOptimalActions C)) (dRegrets : Df P w K mg base "regrets" 9 ["model"] (spRegrets C)) (dExpectedReward : Df P w K mg base "expected_reward" 5 ["model", "table", "state", "action"] (spExpectedReward C)) (dAskedOfWorlds : Df P w K mg base "asked_of_worlds" 11 ["model", "number", "numbers", "row"] (spAskedOfWorlds C)) (r : Rw K mg "asked" sAsked) : Df P w K mg base "asked" 12 ["model", "number", "numbers", "row"] (spAsked C) :=
  r.df (k := 11) scAsked (fun _ _ _ _ _ _ us hl => match us, hl with | [_, _, _, _], _ => rfl)
  (fun vs H Q E h => by obtain ⟨_, _, _, _, _, _, rfl, _⟩ := h; rfl) (fun cdv A outer s H vs Q E hr h => by
    obtain ⟨L, p, pc, call, x, y, rfl, M, hx, hy, hk, hn, D⟩ := h
    refine ⟨_, (pss_cons (ps_if (pt_cmpR op_eq (pv 1) pe_int (nomark _)) (pss_one (ps_ret (pe_call dGetTransition.ok (hr.mono (by decide)) rfl dGetTransition.g dGetTransition.kp dGetTransition.b .nil pass0 (pa_cons (pv 0) (pa_cons (pe_ix (ix_listK K (by rfl)) (pv 2) pe_int (fun _ _ => rfl)) (pa_cons (pe_ix (ix_listK K (by rfl)) (pv 2) pe_int (fun _ _ => rfl)) pa_nil)))))) pss_nil)
      (pss_cons (ps_if (pt_cmpR op_eq (pv 1) pe_int (nomark _)) (pss_one (ps_ret (pe_call dAreEquivalent.ok (hr.mono (by decide)) rfl dAreEquivalent.g dAreEquivalent.kp dAreEquivalent.b .nil pass0 (pa_cons (pv 0) pa_nil)))) pss_nil)
      (pss_cons (ps_if (pt_cmpR op_eq (pv 1) pe_int (nomark _)) (pss_one (ps_ret (pe_call dOptimalValues.ok (hr.mono (by decide)) rfl dOptimalValues.g dOptimalValues.kp dOptimalValues.b .nil pass0 (pa_cons (pv 0) (pa_cons (pe_ix (ix_listK K (by rfl)) (pv 2) pe_int (fun _ _ => rfl)) pa_nil))))) pss_nil)
      (pss_cons (ps_if (pt_cmpR op_eq (pv 1) pe_int (nomark _)) (pss_one (ps_ret (pe_call dActionValue.ok (hr.mono (by decide)) rfl dActionValue.g dActionValue.kp dActionValue.b .nil pass0 (pa_cons (pv 0) (pa_cons (pe_ix (ix_listK K (by rfl)) (pv 2) pe_int (fun _ _ => rfl)) (pa_cons (pe_ix (ix_listK K (by rfl)) (pv 2) pe_int (fun _ _ => rfl)) (pa_cons (pe_ix (ix_listK K (by rfl)) (pv 2) pe_int (fun _ _ => rfl)) pa_nil))))))) pss_nil)
      (pss_cons (ps_if (pt_cmpR op_eq (pv 1) pe_int (nomark _)) (pss_one (ps_ret (pe_call dOptimalActions.ok (hr.mono (by decide)) rfl dOptimalActions.g dOptimalActions.kp dOptimalActions.b .nil pass0 (pa_cons (pv 0) (pa_cons (pe_ix (ix_listK K (by rfl)) (pv 2) pe_int (fun _ _ => rfl)) (pa_cons (pe_ix (ix_listK K (by rfl)) (pv 2) pe_int (fun _ _ => rfl)) pa_nil)))))) pss_nil)
      (pss_cons (ps_if (pt_cmpR op_eq (pv 1) pe_int (nomark _)) (pss_one (ps_ret (pe_call dOptimalPolicy.ok (hr.mono (by decide)) rfl dOptimalPolicy.g dOptimalPolicy.kp dOptimalPolicy.b .nil pass0 (pa_cons (pv 0) (pa_cons (pe_ix (ix_listK K (by rfl)) (pv 2) pe_int (fun _ _ => rfl)) pa_nil))))) pss_nil)
      (pss_cons (ps_if (pt_cmpR op_eq (pv 1) pe_int (nomark _)) (pss_one (ps_ret (pe_call dPolicyValues.ok (hr.mono (by decide)) rfl dPolicyValues.g dPolicyValues.kp dPolicyValues.b .nil pass0 (pa_cons (pv 0) (pa_cons (pe_ix (ix_listK K (by rfl)) (pv 2) pe_int (fun _ _ => rfl)) (pa_cons (pv 3) pa_nil)))))) pss_nil)
      (pss_cons (ps_if (pt_cmpR op_eq (pv 1) pe_int (nomark _)) (pss_one (ps_ret (pe_call dSameOptimalActions.ok (hr.mono (by decide)) rfl dSameOptimalActions.g dSameOptimalActions.kp dSameOptimalActions.b .nil pass0 (pa_cons (pv 0) pa_nil)))) pss_nil)
      (pss_cons (ps_if (pt_cmpR op_eq (pv 1) pe_int (nomark _)) (pss_one (ps_ret (pe_call dRegrets.ok (hr.mono (by decide)) rfl dRegrets.g dRegrets.kp dRegrets.b .nil pass0 (pa_cons (pv 0) pa_nil)))) pss_nil)
      (pss_cons (ps_if (pt_cmpR op_eq (pv 1) pe_int (nomark _)) (pss_one (ps_ret (pe_call dExpectedReward.ok (hr.mono (by decide)) rfl dExpectedReward.g dExpectedReward.kp dExpectedReward.b .nil pass0 (pa_cons (pv 0) (pa_cons (pe_ix (ix_listK K (by rfl)) (pv 2) pe_int (fun _ _ => rfl)) (pa_cons (pe_ix (ix_listK K (by rfl)) (pv 2) pe_int (fun _ _ => rfl)) (pa_cons (pe_ix (ix_listK K (by rfl)) (pv 2) pe_int (fun _ _ => rfl)) pa_nil))))))) pss_nil)
      (pss_one (ps_ret (pe_call dAskedOfWorlds.ok (hr.mono (by decide)) rfl dAskedOfWorlds.g dAskedOfWorlds.kp dAskedOfWorlds.b .nil pass0 (pa_cons (pv 0) (pa_cons (pv 1) (pa_cons (pv 2) (pa_cons (pv 3) pa_nil))))))))))))))))), ?_⟩
    have ix : ∀ {n : Int} {ns : List Int} {H1 : Hp} {j : Nat}, H1 x = some (.lst (iV ns)) → j < ns.length → Ev (tOp (rIxL K) (tVar 2) (tC (.int (j : Int)))) [some (.ref L.a), some (.int n), some (.ref x), some (.ref y)] H1 (.int (ns.getD j 0)) := fun h1 h2 => ev_ixI (ev_var rfl) ev_c (sq_of h1) h2
    have hk0 := hk
    cases hk with
    | getTransition s1 a =>
      refine q_yes rfl (by rfl) fun H10 e10 => ?_
      have e1 := e10
      exact ret_call (ea_cons (ev_var rfl) (ea_cons (ix (j := 0) (e1 _ _ hx) (by simp)) (ea_cons (ix (j := 1) (e1 _ _ hx) (by simp)) ea_nil))) fun H9 e3 => ⟨L, p, s1, a, rfl, M.mono (e1.trans e3), D.pre (e1.trans e3)⟩
    | areEquivalent =>
      refine q_no rfl (by rfl) fun H10 e10 => q_yes rfl (by rfl) fun H11 e11 => ?_
      have e1 := (e10.trans e11)
      exact ret_call (ea_cons (ev_var rfl) ea_nil) fun H9 e3 => ⟨L, p, rfl, M.mono (e1.trans e3), D.pre (e1.trans e3)⟩
    | optimalValues t =>
      refine q_no rfl (by rfl) fun H10 e10 => q_no rfl (by rfl) fun H11 e11 => q_yes rfl (by rfl) fun H12 e12 => ?_
      have e1 := ((e10.trans e11).trans e12)
      exact ret_call (ea_cons (ev_var rfl) (ea_cons (ix (j := 0) (e1 _ _ hx) (by simp)) ea_nil)) fun H9 e3 => ⟨L, p, t, rfl, M.mono (e1.trans e3), D.pre (e1.trans e3)⟩
    | actionValue t s1 a =>
      refine q_no rfl (by rfl) fun H10 e10 => q_no rfl (by rfl) fun H11 e11 => q_no rfl (by rfl) fun H12 e12 => q_yes rfl (by rfl) fun H13 e13 => ?_
      have e1 := (((e10.trans e11).trans e12).trans e13)
      exact ret_call (ea_cons (ev_var rfl) (ea_cons (ix (j := 0) (e1 _ _ hx) (by simp)) (ea_cons (ix (j := 1) (e1 _ _ hx) (by simp)) (ea_cons (ix (j := 2) (e1 _ _ hx) (by simp)) ea_nil)))) fun H9 e3 => ⟨L, p, t, s1, a, rfl, M.mono (e1.trans e3), D.pre (e1.trans e3)⟩
    | optimalActions t s1 =>
      refine q_no rfl (by rfl) fun H10 e10 => q_no rfl (by rfl) fun H11 e11 => q_no rfl (by rfl) fun H12 e12 => q_no rfl (by rfl) fun H13 e13 => q_yes rfl (by rfl) fun H14 e14 => ?_
      have e1 := ((((e10.trans e11).trans e12).trans e13).trans e14)
      exact ret_call (ea_cons (ev_var rfl) (ea_cons (ix (j := 0) (e1 _ _ hx) (by simp)) (ea_cons (ix (j := 1) (e1 _ _ hx) (by simp)) ea_nil))) fun H9 e3 => ⟨L, p, t, s1, rfl, M.mono (e1.trans e3), D.pre (e1.trans e3)⟩
    | optimalPolicy t =>
      refine q_no rfl (by rfl) fun H10 e10 => q_no rfl (by rfl) fun H11 e11 => q_no rfl (by rfl) fun H12 e12 => q_no rfl (by rfl) fun H13 e13 => q_no rfl (by rfl) fun H14 e14 => q_yes rfl (by rfl) fun H15 e15 => ?_
      have e1 := (((((e10.trans e11).trans e12).trans e13).trans e14).trans e15)
      exact ret_call (ea_cons (ev_var rfl) (ea_cons (ix (j := 0) (e1 _ _ hx) (by simp)) ea_nil)) fun H9 e3 => ⟨L, p, t, rfl, M.mono (e1.trans e3), D.pre (e1.trans e3)⟩
    | policyValues t l hl =>
      refine q_no rfl (by rfl) fun H10 e10 => q_no rfl (by rfl) fun H11 e11 => q_no rfl (by rfl) fun H12 e12 => q_no rfl (by rfl) fun H13 e13 => q_no rfl (by rfl) fun H14 e14 => q_no rfl (by rfl) fun H15 e15 => q_yes rfl (by rfl) fun H16 e16 => ?_
      have e1 := ((((((e10.trans e11).trans e12).trans e13).trans e14).trans e15).trans e16)
      rw [zl_nV] at hy
      exact ret_call (ea_cons (ev_var rfl) (ea_cons (ix (j := 0) (e1 _ _ hx) (by simp)) (ea_cons (ev_var rfl) ea_nil))) fun H9 e3 => ⟨L, p, t, y, l, rfl, M.mono (e1.trans e3), sq_of ((e1.trans e3) _ _ hy), by omega, D.pre (e1.trans e3)⟩
    | sameOptimalActions =>
      refine q_no rfl (by rfl) fun H10 e10 => q_no rfl (by rfl) fun H11 e11 => q_no rfl (by rfl) fun H12 e12 => q_no rfl (by rfl) fun H13 e13 => q_no rfl (by rfl) fun H14 e14 => q_no rfl (by rfl) fun H15 e15 => q_no rfl (by rfl) fun H16 e16 => q_yes rfl (by rfl) fun H17 e17 => ?_
      have e1 := (((((((e10.trans e11).trans e12).trans e13).trans e14).trans e15).trans e16).trans e17)
      exact ret_call (ea_cons (ev_var rfl) ea_nil) fun H9 e3 => ⟨L, p, rfl, M.mono (e1.trans e3), D.pre (e1.trans e3)⟩
    | regrets =>
      refine q_no rfl (by rfl) fun H10 e10 => q_no rfl (by rfl) fun H11 e11 => q_no rfl (by rfl) fun H12 e12 => q_no rfl (by rfl) fun H13 e13 => q_no rfl (by rfl) fun H14 e14 => q_no rfl (by rfl) fun H15 e15 => q_no rfl (by rfl) fun H16 e16 => q_no rfl (by rfl) fun H17 e17 => q_yes rfl (by rfl) fun H18 e18 => ?_
      have e1 := ((((((((e10.trans e11).trans e12).trans e13).trans e14).trans e15).trans e16).trans e17).trans e18)
      exact ret_call (ea_cons (ev_var rfl) ea_nil) fun H9 e3 => ⟨L, p, rfl, M.mono (e1.trans e3), D.pre (e1.trans e3)⟩
    | expectedReward t s1 a =>
      refine q_no rfl (by rfl) fun H10 e10 => q_no rfl (by rfl) fun H11 e11 => q_no rfl (by rfl) fun H12 e12 => q_no rfl (by rfl) fun H13 e13 => q_no rfl (by rfl) fun H14 e14 => q_no rfl (by rfl) fun H15 e15 => q_no rfl (by rfl) fun H16 e16 => q_no rfl (by rfl) fun H17 e17 => q_no rfl (by rfl) fun H18 e18 => q_yes rfl (by rfl) fun H19 e19 => ?_
      have e1 := (((((((((e10.trans e11).trans e12).trans e13).trans e14).trans e15).trans e16).trans e17).trans e18).trans e19)
      exact ret_call (ea_cons (ev_var rfl) (ea_cons (ix (j := 0) (e1 _ _ hx) (by simp)) (ea_cons (ix (j := 1) (e1 _ _ hx) (by simp)) (ea_cons (ix (j := 2) (e1 _ _ hx) (by simp)) ea_nil)))) fun H9 e3 => ⟨L, p, t, s1, a, rfl, M.mono (e1.trans e3), D.pre (e1.trans e3)⟩
    | distinguishes l hl =>
      refine q_no rfl (by rfl) fun H10 e10 => q_no rfl (by rfl) fun H11 e11 => q_no rfl (by rfl) fun H12 e12 => q_no rfl (by rfl) fun H13 e13 => q_no rfl (by rfl) fun H14 e14 => q_no rfl (by rfl) fun H15 e15 => q_no rfl (by rfl) fun H16 e16 => q_no rfl (by rfl) fun H17 e17 => q_no rfl (by rfl) fun H18 e18 => q_no rfl (by rfl) fun H19 e19 => ?_
      have e1 := (((((((((e10.trans e11).trans e12).trans e13).trans e14).trans e15).trans e16).trans e17).trans e18).trans e19)
      exact ret_call (ea_cons (ev_var rfl) (ea_cons (ev_var rfl) (ea_cons (ev_var rfl) (ea_cons (ev_var rfl) ea_nil)))) fun H9 e3 => ⟨L, p, _, _, x, y, rfl, M.mono (e1.trans e3), (e1.trans e3) _ _ hx, (e1.trans e3) _ _ hy, hk0, by simp, D.pre (e1.trans e3)⟩
    | distinguishingWorld =>
      refine q_no rfl (by rfl) fun H10 e10 => q_no rfl (by rfl) fun H11 e11 => q_no rfl (by rfl) fun H12 e12 => q_no rfl (by rfl) fun H13 e13 => q_no rfl (by rfl) fun H14 e14 => q_no rfl (by rfl) fun H15 e15 => q_no rfl (by rfl) fun H16 e16 => q_no rfl (by rfl) fun H17 e17 => q_no rfl (by rfl) fun H18 e18 => q_no rfl (by rfl) fun H19 e19 => ?_
      have e1 := (((((((((e10.trans e11).trans e12).trans e13).trans e14).trans e15).trans e16).trans e17).trans e18).trans e19)
      exact ret_call (ea_cons (ev_var rfl) (ea_cons (ev_var rfl) (ea_cons (ev_var rfl) (ea_cons (ev_var rfl) ea_nil)))) fun H9 e3 => ⟨L, p, _, _, x, y, rfl, M.mono (e1.trans e3), (e1.trans e3) _ _ hx, (e1.trans e3) _ _ hy, hk0, by simp, D.pre (e1.trans e3)⟩
    | valueWithTransition s1 a t q l hl =>
      refine q_no rfl (by rfl) fun H10 e10 => q_no rfl (by rfl) fun H11 e11 => q_no rfl (by rfl) fun H12 e12 => q_no rfl (by rfl) fun H13 e13 => q_no rfl (by rfl) fun H14 e14 => q_no rfl (by rfl) fun H15 e15 => q_no rfl (by rfl) fun H16 e16 => q_no rfl (by rfl) fun H17 e17 => q_no rfl (by rfl) fun H18 e18 => q_no rfl (by rfl) fun H19 e19 => ?_
      have e1 := (((((((((e10.trans e11).trans e12).trans e13).trans e14).trans e15).trans e16).trans e17).trans e18).trans e19)
      exact ret_call (ea_cons (ev_var rfl) (ea_cons (ev_var rfl) (ea_cons (ev_var rfl) (ea_cons (ev_var rfl) ea_nil)))) fun H9 e3 => ⟨L, p, _, _, x, y, rfl, M.mono (e1.trans e3), (e1.trans e3) _ _ hx, (e1.trans e3) _ _ hy, hk0, by simp, D.pre (e1.trans e3)⟩
    | create a b c d => simp at hn
    | setReward t s1 a q l hl => simp at hn
    | setRewards t l hl => simp at hn
    | copyRewards t => simp at hn
    | shapeRewards t l hl => simp at hn
    | scaleRewards t c => simp at hn
    | setTransition s1 a l hl => simp at hn
    | setDeterministic l hl => simp at hn)
def dfAnswerWith (T : Txt K mg C fi) (dChanged : Df P w K mg base "changed" 5 ["model", "number", "numbers", "row"] (spChanged C)) (dAsked : Df P w K mg base "asked" 12 ["model", "number", "numbers", "row"] (spAsked C)) (r : Rw K mg "answer_with" sAnswerWith) : Df P w K mg base "answer_with" 13 ["model", "number", "numbers", "row"] (spAnswerWith C) :=
  r.df (k := 12) scAnswerWith (fun _ _ _ _ _ _ us hl => match us, hl with | [_, _, _, _], _ => rfl)
  (fun vs H Q E h => by obtain ⟨_, _, _, _, _, _, rfl, _⟩ := h; rfl) (fun cdv A outer s H vs Q E hr h => by
    obtain ⟨L, p, pc, call, x, y, rfl, M, hx, hy, nx, ny, hk, hn, D⟩ := h
    refine ⟨_, (pss_cons (ps_if (PW.pt (pw_and (pt_cmpR op_le (pv 1) pe_int (nomark _)) (pw_and1 (pt_cmpR op_ne (pv 1) pe_int (nomark _))))) (pss_one (ps_ret (pe_call dChanged.ok (hr.mono (by decide)) rfl dChanged.g dChanged.kp dChanged.b .nil pass0 (pa_cons (pv 0) (pa_cons (pv 1) (pa_cons (pv 2) (pa_cons (pv 3) pa_nil))))))) pss_nil)
      (pss_one (ps_ret (pe_call dAsked.ok (hr.mono (by decide)) rfl dAsked.g dAsked.kp dAsked.b .nil pass0 (pa_cons (pv 0) (pa_cons (pv 1) (pa_cons (pv 2) (pa_cons (pv 3) pa_nil)))))))), ?_⟩
    refine q_when (b := decide (pc.1 ≤ 8) && !decide (pc.1 = 7)) (et_and (et_test (ev_op (ev_var rfl) ev_c rv_I0)) fun _ => et_test (ev_op (ev_var rfl) ev_c rv_neI)) (fun hb H1 e1 => ?_) (fun hb H1 e1 => ?_)
    · refine ret_call (ea_cons (ev_var rfl) (ea_cons (ev_var rfl) (ea_cons (ev_var rfl) (ea_cons (ev_var rfl) ea_nil)))) fun H2 e2 => ⟨L, p, pc, call, x, y, rfl, M.mono (e1.trans e2), (e1.trans e2) _ _ hx, (e1.trans e2) _ _ hy, nx, ny, hk, ?_, D.pre (e1.trans e2)⟩
      cases hk <;> first | (exact absurd rfl hn) | (simp; done) | (cases hb)
    · refine ret_call (ea_cons (ev_var rfl) (ea_cons (ev_var rfl) (ea_cons (ev_var rfl) (ea_cons (ev_var rfl) ea_nil)))) fun H2 e2 => ⟨L, p, pc, call, x, y, rfl, M.mono (e1.trans e2), (e1.trans e2) _ _ hx, (e1.trans e2) _ _ hy, hk, ?_, D.pre (e1.trans e2)⟩
      cases hk <;> first | (exact absurd rfl hn) | (simp; done) | (cases hb))
end
end SR

namespace SR
open PySem PySem.Spec PyProof.Rows L2 Evl
/-- a tuple that the top has written -/
theorem tup_written {K : PySem.W.Frag} {H : Hp} {a : Addr} {o : Obj} {l : List Int} (hl : K.lookup a = some o) (hv : ∃ (its : Array Value) (n : Nat), o.cls = .type "tuple" ∧ o.data = .seq its n ∧ its.size ≤ sizeLine ∧ Vals (iV l) its.toList) : SqT K H a (iV l) := by
  obtain ⟨its, n, h1, h2, h3, h4⟩ := hv
  exact .inr ⟨o, its, n, hl, h1, h2, h3, h4⟩
def isInt (v : Value) (i : Int) : Bool := match v with
  | .int j _ => decide (j = i)
  | _ => false
def allInts : List Int → List Value → Bool
  | [], [] => true
  | i :: l, v :: r => isInt v i && allInts l r
  | _, _ => false
theorem vals_ints : ∀ (l : List Int) (vs : List Value), allInts l vs = true → Vals (iV l) vs
  | [], [], _ => .nil
  | i :: l, v :: r, h => by
    have h : (isInt v i && allInts l r) = true := h
    rw [Bool.and_eq_true] at h
    refine .cons ?_ (vals_ints l r h.2)
    have h1 := h.1
    unfold isInt at h1
    split at h1
    · have := of_decide_eq_true h1
      subst this
      exact ⟨_, rfl⟩
    · cases h1
  | [], _ :: _, h => by cases h
  | _ :: _, [], h => by cases h
end SR
set_option maxHeartbeats 8000000
namespace SR
open PySem PySem.Spec PyProof.Rows L2 Evl
theorem all_mk {P : Program} {w : World} {K : PySem.W.Frag} {h : Heap} {mg : Str → Option Value} {fa C aN aW : Addr} {oN oW : Obj} (X : K.In h) (G : h.Ns mainGlobals mg) (hfa : mg "answers" = some (.ref fa))
    {f0 : Addr} {od0 an0 : Option Addr} {sl0 : Array (Option Value)} {oc0 kV0 dc0 pm0 cd0 ct0 : Value}
    {f1 : Addr} {od1 an1 : Option Addr} {sl1 : Array (Option Value)} {oc1 kV1 dc1 pm1 cd1 ct1 : Value}
    {f2 : Addr} {od2 an2 : Option Addr} {sl2 : Array (Option Value)} {oc2 kV2 dc2 pm2 cd2 ct2 : Value}
    {f3 : Addr} {od3 an3 : Option Addr} {sl3 : Array (Option Value)} {oc3 kV3 dc3 pm3 cd3 ct3 : Value}
    {f4 : Addr} {od4 an4 : Option Addr} {sl4 : Array (Option Value)} {oc4 kV4 dc4 pm4 cd4 ct4 : Value}
    {f5 : Addr} {od5 an5 : Option Addr} {sl5 : Array (Option Value)} {oc5 kV5 dc5 pm5 cd5 ct5 : Value}
    {f6 : Addr} {od6 an6 : Option Addr} {sl6 : Array (Option Value)} {oc6 kV6 dc6 pm6 cd6 ct6 : Value}
    {f7 : Addr} {od7 an7 : Option Addr} {sl7 : Array (Option Value)} {oc7 kV7 dc7 pm7 cd7 ct7 : Value}
    {f8 : Addr} {od8 an8 : Option Addr} {sl8 : Array (Option Value)} {oc8 kV8 dc8 pm8 cd8 ct8 : Value}
    {f9 : Addr} {od9 an9 : Option Addr} {sl9 : Array (Option Value)} {oc9 kV9 dc9 pm9 cd9 ct9 : Value}
    {f10 : Addr} {od10 an10 : Option Addr} {sl10 : Array (Option Value)} {oc10 kV10 dc10 pm10 cd10 ct10 : Value}
    {f11 : Addr} {od11 an11 : Option Addr} {sl11 : Array (Option Value)} {oc11 kV11 dc11 pm11 cd11 ct11 : Value}
    {f12 : Addr} {od12 an12 : Option Addr} {sl12 : Array (Option Value)} {oc12 kV12 dc12 pm12 cd12 ct12 : Value}
    {f13 : Addr} {od13 an13 : Option Addr} {sl13 : Array (Option Value)} {oc13 kV13 dc13 pm13 cd13 ct13 : Value}
    {f14 : Addr} {od14 an14 : Option Addr} {sl14 : Array (Option Value)} {oc14 kV14 dc14 pm14 cd14 ct14 : Value}
    {f15 : Addr} {od15 an15 : Option Addr} {sl15 : Array (Option Value)} {oc15 kV15 dc15 pm15 cd15 ct15 : Value}
    {f16 : Addr} {od16 an16 : Option Addr} {sl16 : Array (Option Value)} {oc16 kV16 dc16 pm16 cd16 ct16 : Value}
    {f17 : Addr} {od17 an17 : Option Addr} {sl17 : Array (Option Value)} {oc17 kV17 dc17 pm17 cd17 ct17 : Value}
    {f18 : Addr} {od18 an18 : Option Addr} {sl18 : Array (Option Value)} {oc18 kV18 dc18 pm18 cd18 ct18 : Value}
    {f19 : Addr} {od19 an19 : Option Addr} {sl19 : Array (Option Value)} {oc19 kV19 dc19 pm19 cd19 ct19 : Value}
    {f20 : Addr} {od20 an20 : Option Addr} {sl20 : Array (Option Value)} {oc20 kV20 dc20 pm20 cd20 ct20 : Value}
    {f21 : Addr} {od21 an21 : Option Addr} {sl21 : Array (Option Value)} {oc21 kV21 dc21 pm21 cd21 ct21 : Value}
    {f22 : Addr} {od22 an22 : Option Addr} {sl22 : Array (Option Value)} {oc22 kV22 dc22 pm22 cd22 ct22 : Value}
    {f23 : Addr} {od23 an23 : Option Addr} {sl23 : Array (Option Value)} {oc23 kV23 dc23 pm23 cd23 ct23 : Value}
    {f24 : Addr} {od24 an24 : Option Addr} {sl24 : Array (Option Value)} {oc24 kV24 dc24 pm24 cd24 ct24 : Value}
    {f25 : Addr} {od25 an25 : Option Addr} {sl25 : Array (Option Value)} {oc25 kV25 dc25 pm25 cd25 ct25 : Value}
    {f26 : Addr} {od26 an26 : Option Addr} {sl26 : Array (Option Value)} {oc26 kV26 dc26 pm26 cd26 ct26 : Value}
    {f27 : Addr} {od27 an27 : Option Addr} {sl27 : Array (Option Value)} {oc27 kV27 dc27 pm27 cd27 ct27 : Value}
    {f28 : Addr} {od28 an28 : Option Addr} {sl28 : Array (Option Value)} {oc28 kV28 dc28 pm28 cd28 ct28 : Value}
    {f29 : Addr} {od29 an29 : Option Addr} {sl29 : Array (Option Value)} {oc29 kV29 dc29 pm29 cd29 ct29 : Value}
    {f30 : Addr} {od30 an30 : Option Addr} {sl30 : Array (Option Value)} {oc30 kV30 dc30 pm30 cd30 ct30 : Value}
    {f31 : Addr} {od31 an31 : Option Addr} {sl31 : Array (Option Value)} {oc31 kV31 dc31 pm31 cd31 ct31 : Value}
    {f32 : Addr} {od32 an32 : Option Addr} {sl32 : Array (Option Value)} {oc32 kV32 dc32 pm32 cd32 ct32 : Value}
    {f33 : Addr} {od33 an33 : Option Addr} {sl33 : Array (Option Value)} {oc33 kV33 dc33 pm33 cd33 ct33 : Value}
    {f34 : Addr} {od34 an34 : Option Addr} {sl34 : Array (Option Value)} {oc34 kV34 dc34 pm34 cd34 ct34 : Value}
    {f35 : Addr} {od35 an35 : Option Addr} {sl35 : Array (Option Value)} {oc35 kV35 dc35 pm35 cd35 ct35 : Value}
    {f36 : Addr} {od36 an36 : Option Addr} {sl36 : Array (Option Value)} {oc36 kV36 dc36 pm36 cd36 ct36 : Value}
    {f37 : Addr} {od37 an37 : Option Addr} {sl37 : Array (Option Value)} {oc37 kV37 dc37 pm37 cd37 ct37 : Value}
    {f38 : Addr} {od38 an38 : Option Addr} {sl38 : Array (Option Value)} {oc38 kV38 dc38 pm38 cd38 ct38 : Value}
    {f39 : Addr} {od39 an39 : Option Addr} {sl39 : Array (Option Value)} {oc39 kV39 dc39 pm39 cd39 ct39 : Value}
    {f40 : Addr} {od40 an40 : Option Addr} {sl40 : Array (Option Value)} {oc40 kV40 dc40 pm40 cd40 ct40 : Value}
    {f41 : Addr} {od41 an41 : Option Addr} {sl41 : Array (Option Value)} {oc41 kV41 dc41 pm41 cd41 ct41 : Value}
    {f42 : Addr} {od42 an42 : Option Addr} {sl42 : Array (Option Value)} {oc42 kV42 dc42 pm42 cd42 ct42 : Value}
    {f43 : Addr} {od43 an43 : Option Addr} {sl43 : Array (Option Value)} {oc43 kV43 dc43 pm43 cd43 ct43 : Value}
    {f44 : Addr} {od44 an44 : Option Addr} {sl44 : Array (Option Value)} {oc44 kV44 dc44 pm44 cd44 ct44 : Value}
    {f45 : Addr} {od45 an45 : Option Addr} {sl45 : Array (Option Value)} {oc45 kV45 dc45 pm45 cd45 ct45 : Value}
    {f46 : Addr} {od46 an46 : Option Addr} {sl46 : Array (Option Value)} {oc46 kV46 dc46 pm46 cd46 ct46 : Value}
    {f47 : Addr} {od47 an47 : Option Addr} {sl47 : Array (Option Value)} {oc47 kV47 dc47 pm47 cd47 ct47 : Value}
    {f48 : Addr} {od48 an48 : Option Addr} {sl48 : Array (Option Value)} {oc48 kV48 dc48 pm48 cd48 ct48 : Value}
    {f49 : Addr} {od49 an49 : Option Addr} {sl49 : Array (Option Value)} {oc49 kV49 dc49 pm49 cd49 ct49 : Value}
    {f50 : Addr} {od50 an50 : Option Addr} {sl50 : Array (Option Value)} {oc50 kV50 dc50 pm50 cd50 ct50 : Value}
    {f51 : Addr} {od51 an51 : Option Addr} {sl51 : Array (Option Value)} {oc51 kV51 dc51 pm51 cd51 ct51 : Value}
    {f52 : Addr} {od52 an52 : Option Addr} {sl52 : Array (Option Value)} {oc52 kV52 dc52 pm52 cd52 ct52 : Value}
    {f53 : Addr} {od53 an53 : Option Addr} {sl53 : Array (Option Value)} {oc53 kV53 dc53 pm53 cd53 ct53 : Value}
    {f54 : Addr} {od54 an54 : Option Addr} {sl54 : Array (Option Value)} {oc54 kV54 dc54 pm54 cd54 ct54 : Value}
    {f55 : Addr} {od55 an55 : Option Addr} {sl55 : Array (Option Value)} {oc55 kV55 dc55 pm55 cd55 ct55 : Value}
    {f56 : Addr} {od56 an56 : Option Addr} {sl56 : Array (Option Value)} {oc56 kV56 dc56 pm56 cd56 ct56 : Value}
    {f57 : Addr} {od57 an57 : Option Addr} {sl57 : Array (Option Value)} {oc57 kV57 dc57 pm57 cd57 ct57 : Value}
    {f58 : Addr} {od58 an58 : Option Addr} {sl58 : Array (Option Value)} {oc58 kV58 dc58 pm58 cd58 ct58 : Value}
    {f59 : Addr} {od59 an59 : Option Addr} {sl59 : Array (Option Value)} {oc59 kV59 dc59 pm59 cd59 ct59 : Value}
    {f60 : Addr} {od60 an60 : Option Addr} {sl60 : Array (Option Value)} {oc60 kV60 dc60 pm60 cd60 ct60 : Value}
    {f61 : Addr} {od61 an61 : Option Addr} {sl61 : Array (Option Value)} {oc61 kV61 dc61 pm61 cd61 ct61 : Value}
    {f62 : Addr} {od62 an62 : Option Addr} {sl62 : Array (Option Value)} {oc62 kV62 dc62 pm62 cd62 ct62 : Value}
    {f63 : Addr} {od63 an63 : Option Addr} {sl63 : Array (Option Value)} {oc63 kV63 dc63 pm63 cd63 ct63 : Value}
    {f64 : Addr} {od64 an64 : Option Addr} {sl64 : Array (Option Value)} {oc64 kV64 dc64 pm64 cd64 ct64 : Value}
    {f65 : Addr} {od65 an65 : Option Addr} {sl65 : Array (Option Value)} {oc65 kV65 dc65 pm65 cd65 ct65 : Value}
    {f66 : Addr} {od66 an66 : Option Addr} {sl66 : Array (Option Value)} {oc66 kV66 dc66 pm66 cd66 ct66 : Value}
    {f67 : Addr} {od67 an67 : Option Addr} {sl67 : Array (Option Value)} {oc67 kV67 dc67 pm67 cd67 ct67 : Value}
    {f68 : Addr} {od68 an68 : Option Addr} {sl68 : Array (Option Value)} {oc68 kV68 dc68 pm68 cd68 ct68 : Value}
    {f69 : Addr} {od69 an69 : Option Addr} {sl69 : Array (Option Value)} {oc69 kV69 dc69 pm69 cd69 ct69 : Value}
    {t_NO_PROCESS t_NOT_THERE t_OUT_OF_LIMITS t_TOO_LARGE t_LEAST_GIVEN t_GREATEST_GIVEN t_LEAST_REWARD t_GREATEST_REWARD t_GREATEST_WEIGHT t_NO_WORLD t_TOO_MANY_WORLDS t_GREATEST_WORLD_COUNT : Tok}
    (a0 : PySem.W.nsIn K mainGlobals "can_be_created" = some (some (.ref f0)))
    (l0 : K.lookup f0 = some ⟨oc0, od0, .func (PySem.W.fnOf "can_be_created" "can_be_created" (defArgs sCanBeCreated) (defBody sCanBeCreated) (defScope sCanBeCreated) .none kV0 dc0 pm0 an0 cd0 ct0), sl0⟩) (c0 : PySem.W.codeIn K cd0 "can_be_created" = true) (k0 : PySem.W.keepIn K (.ref f0) = true)
    (a1 : PySem.W.nsIn K mainGlobals "table_exists" = some (some (.ref f1)))
    (l1 : K.lookup f1 = some ⟨oc1, od1, .func (PySem.W.fnOf "table_exists" "table_exists" (defArgs sTableExists) (defBody sTableExists) (defScope sTableExists) .none kV1 dc1 pm1 an1 cd1 ct1), sl1⟩) (c1 : PySem.W.codeIn K cd1 "table_exists" = true) (k1 : PySem.W.keepIn K (.ref f1) = true)
    (a2 : PySem.W.nsIn K mainGlobals "state_exists" = some (some (.ref f2)))
    (l2 : K.lookup f2 = some ⟨oc2, od2, .func (PySem.W.fnOf "state_exists" "state_exists" (defArgs sStateExists) (defBody sStateExists) (defScope sStateExists) .none kV2 dc2 pm2 an2 cd2 ct2), sl2⟩) (c2 : PySem.W.codeIn K cd2 "state_exists" = true) (k2 : PySem.W.keepIn K (.ref f2) = true)
    (a3 : PySem.W.nsIn K mainGlobals "action_exists" = some (some (.ref f3)))
    (l3 : K.lookup f3 = some ⟨oc3, od3, .func (PySem.W.fnOf "action_exists" "action_exists" (defArgs sActionExists) (defBody sActionExists) (defScope sActionExists) .none kV3 dc3 pm3 an3 cd3 ct3), sl3⟩) (c3 : PySem.W.codeIn K cd3 "action_exists" = true) (k3 : PySem.W.keepIn K (.ref f3) = true)
    (a4 : PySem.W.nsIn K mainGlobals "choice_exists" = some (some (.ref f4)))
    (l4 : K.lookup f4 = some ⟨oc4, od4, .func (PySem.W.fnOf "choice_exists" "choice_exists" (defArgs sChoiceExists) (defBody sChoiceExists) (defScope sChoiceExists) .none kV4 dc4 pm4 an4 cd4 ct4), sl4⟩) (c4 : PySem.W.codeIn K cd4 "choice_exists" = true) (k4 : PySem.W.keepIn K (.ref f4) = true)
    (a5 : PySem.W.nsIn K mainGlobals "all_within" = some (some (.ref f5)))
    (l5 : K.lookup f5 = some ⟨oc5, od5, .func (PySem.W.fnOf "all_within" "all_within" (defArgs sAllWithin) (defBody sAllWithin) (defScope sAllWithin) .none kV5 dc5 pm5 an5 cd5 ct5), sl5⟩) (c5 : PySem.W.codeIn K cd5 "all_within" = true) (k5 : PySem.W.keepIn K (.ref f5) = true)
    (a6 : PySem.W.nsIn K mainGlobals "can_be_given" = some (some (.ref f6)))
    (l6 : K.lookup f6 = some ⟨oc6, od6, .func (PySem.W.fnOf "can_be_given" "can_be_given" (defArgs sCanBeGiven) (defBody sCanBeGiven) (defScope sCanBeGiven) .none kV6 dc6 pm6 an6 cd6 ct6), sl6⟩) (c6 : PySem.W.codeIn K cd6 "can_be_given" = true) (k6 : PySem.W.keepIn K (.ref f6) = true)
    (a7 : PySem.W.nsIn K mainGlobals "can_be_rewards" = some (some (.ref f7)))
    (l7 : K.lookup f7 = some ⟨oc7, od7, .func (PySem.W.fnOf "can_be_rewards" "can_be_rewards" (defArgs sCanBeRewards) (defBody sCanBeRewards) (defScope sCanBeRewards) .none kV7 dc7 pm7 an7 cd7 ct7), sl7⟩) (c7 : PySem.W.codeIn K cd7 "can_be_rewards" = true) (k7 : PySem.W.keepIn K (.ref f7) = true)
    (a8 : PySem.W.nsIn K mainGlobals "can_be_weights" = some (some (.ref f8)))
    (l8 : K.lookup f8 = some ⟨oc8, od8, .func (PySem.W.fnOf "can_be_weights" "can_be_weights" (defArgs sCanBeWeights) (defBody sCanBeWeights) (defScope sCanBeWeights) .none kV8 dc8 pm8 an8 cd8 ct8), sl8⟩) (c8 : PySem.W.codeIn K cd8 "can_be_weights" = true) (k8 : PySem.W.keepIn K (.ref f8) = true)
    (a9 : PySem.W.nsIn K mainGlobals "can_be_next_states" = some (some (.ref f9)))
    (l9 : K.lookup f9 = some ⟨oc9, od9, .func (PySem.W.fnOf "can_be_next_states" "can_be_next_states" (defArgs sCanBeNextStates) (defBody sCanBeNextStates) (defScope sCanBeNextStates) .none kV9 dc9 pm9 an9 cd9 ct9), sl9⟩) (c9 : PySem.W.codeIn K cd9 "can_be_next_states" = true) (k9 : PySem.W.keepIn K (.ref f9) = true)
    (a10 : PySem.W.nsIn K mainGlobals "can_be_policy" = some (some (.ref f10)))
    (l10 : K.lookup f10 = some ⟨oc10, od10, .func (PySem.W.fnOf "can_be_policy" "can_be_policy" (defArgs sCanBePolicy) (defBody sCanBePolicy) (defScope sCanBePolicy) .none kV10 dc10 pm10 an10 cd10 ct10), sl10⟩) (c10 : PySem.W.codeIn K cd10 "can_be_policy" = true) (k10 : PySem.W.keepIn K (.ref f10) = true)
    (a11 : PySem.W.nsIn K mainGlobals "certain" = some (some (.ref f11)))
    (l11 : K.lookup f11 = some ⟨oc11, od11, .func (PySem.W.fnOf "certain" "certain" (defArgs sCertain) (defBody sCertain) (defScope sCertain) .none kV11 dc11 pm11 an11 cd11 ct11), sl11⟩) (c11 : PySem.W.codeIn K cd11 "certain" = true) (k11 : PySem.W.keepIn K (.ref f11) = true)
    (a12 : PySem.W.findIn K (.ref C) "__init__" = some (some (.ref f12))) (i12 : PySem.W.isFn K (.ref f12) = true)
    (l12 : K.lookup f12 = some ⟨oc12, od12, .func (PySem.W.fnOf "__init__" "Model.__init__" (defArgs sModelInit) (defBody sModelInit) (defScope sModelInit) .none kV12 dc12 pm12 an12 cd12 ct12), sl12⟩) (c12 : PySem.W.codeIn K cd12 "Model.__init__" = true) (k12 : PySem.W.keepIn K (.ref f12) = true)
    (a13 : PySem.W.nsIn K mainGlobals "transition_place" = some (some (.ref f13)))
    (l13 : K.lookup f13 = some ⟨oc13, od13, .func (PySem.W.fnOf "transition_place" "transition_place" (defArgs sTransitionPlace) (defBody sTransitionPlace) (defScope sTransitionPlace) .none kV13 dc13 pm13 an13 cd13 ct13), sl13⟩) (c13 : PySem.W.codeIn K cd13 "transition_place" = true) (k13 : PySem.W.keepIn K (.ref f13) = true)
    (a14 : PySem.W.nsIn K mainGlobals "reward_place" = some (some (.ref f14)))
    (l14 : K.lookup f14 = some ⟨oc14, od14, .func (PySem.W.fnOf "reward_place" "reward_place" (defArgs sRewardPlace) (defBody sRewardPlace) (defScope sRewardPlace) .none kV14 dc14 pm14 an14 cd14 ct14), sl14⟩) (c14 : PySem.W.codeIn K cd14 "reward_place" = true) (k14 : PySem.W.keepIn K (.ref f14) = true)
    (a15 : PySem.W.nsIn K mainGlobals "set_reward" = some (some (.ref f15)))
    (l15 : K.lookup f15 = some ⟨oc15, od15, .func (PySem.W.fnOf "set_reward" "set_reward" (defArgs sSetReward) (defBody sSetReward) (defScope sSetReward) .none kV15 dc15 pm15 an15 cd15 ct15), sl15⟩) (c15 : PySem.W.codeIn K cd15 "set_reward" = true) (k15 : PySem.W.keepIn K (.ref f15) = true)
    (a16 : PySem.W.nsIn K mainGlobals "set_rewards" = some (some (.ref f16)))
    (l16 : K.lookup f16 = some ⟨oc16, od16, .func (PySem.W.fnOf "set_rewards" "set_rewards" (defArgs sSetRewards) (defBody sSetRewards) (defScope sSetRewards) .none kV16 dc16 pm16 an16 cd16 ct16), sl16⟩) (c16 : PySem.W.codeIn K cd16 "set_rewards" = true) (k16 : PySem.W.keepIn K (.ref f16) = true)
    (a17 : PySem.W.nsIn K mainGlobals "copy_rewards" = some (some (.ref f17)))
    (l17 : K.lookup f17 = some ⟨oc17, od17, .func (PySem.W.fnOf "copy_rewards" "copy_rewards" (defArgs sCopyRewards) (defBody sCopyRewards) (defScope sCopyRewards) .none kV17 dc17 pm17 an17 cd17 ct17), sl17⟩) (c17 : PySem.W.codeIn K cd17 "copy_rewards" = true) (k17 : PySem.W.keepIn K (.ref f17) = true)
    (a18 : PySem.W.nsIn K mainGlobals "replace_rewards" = some (some (.ref f18)))
    (l18 : K.lookup f18 = some ⟨oc18, od18, .func (PySem.W.fnOf "replace_rewards" "replace_rewards" (defArgs sReplaceRewards) (defBody sReplaceRewards) (defScope sReplaceRewards) .none kV18 dc18 pm18 an18 cd18 ct18), sl18⟩) (c18 : PySem.W.codeIn K cd18 "replace_rewards" = true) (k18 : PySem.W.keepIn K (.ref f18) = true)
    (a19 : PySem.W.nsIn K mainGlobals "set_transition" = some (some (.ref f19)))
    (l19 : K.lookup f19 = some ⟨oc19, od19, .func (PySem.W.fnOf "set_transition" "set_transition" (defArgs sSetTransition) (defBody sSetTransition) (defScope sSetTransition) .none kV19 dc19 pm19 an19 cd19 ct19), sl19⟩) (c19 : PySem.W.codeIn K cd19 "set_transition" = true) (k19 : PySem.W.keepIn K (.ref f19) = true)
    (a20 : PySem.W.nsIn K mainGlobals "shaped" = some (some (.ref f20)))
    (l20 : K.lookup f20 = some ⟨oc20, od20, .func (PySem.W.fnOf "shaped" "shaped" (defArgs sShaped) (defBody sShaped) (defScope sShaped) .none kV20 dc20 pm20 an20 cd20 ct20), sl20⟩) (c20 : PySem.W.codeIn K cd20 "shaped" = true) (k20 : PySem.W.keepIn K (.ref f20) = true)
    (a21 : PySem.W.nsIn K mainGlobals "shape_rewards" = some (some (.ref f21)))
    (l21 : K.lookup f21 = some ⟨oc21, od21, .func (PySem.W.fnOf "shape_rewards" "shape_rewards" (defArgs sShapeRewards) (defBody sShapeRewards) (defScope sShapeRewards) .none kV21 dc21 pm21 an21 cd21 ct21), sl21⟩) (c21 : PySem.W.codeIn K cd21 "shape_rewards" = true) (k21 : PySem.W.keepIn K (.ref f21) = true)
    (a22 : PySem.W.nsIn K mainGlobals "scale_rewards" = some (some (.ref f22)))
    (l22 : K.lookup f22 = some ⟨oc22, od22, .func (PySem.W.fnOf "scale_rewards" "scale_rewards" (defArgs sScaleRewards) (defBody sScaleRewards) (defScope sScaleRewards) .none kV22 dc22 pm22 an22 cd22 ct22), sl22⟩) (c22 : PySem.W.codeIn K cd22 "scale_rewards" = true) (k22 : PySem.W.keepIn K (.ref f22) = true)
    (a23 : PySem.W.nsIn K mainGlobals "deterministic" = some (some (.ref f23)))
    (l23 : K.lookup f23 = some ⟨oc23, od23, .func (PySem.W.fnOf "deterministic" "deterministic" (defArgs sDeterministic) (defBody sDeterministic) (defScope sDeterministic) .none kV23 dc23 pm23 an23 cd23 ct23), sl23⟩) (c23 : PySem.W.codeIn K cd23 "deterministic" = true) (k23 : PySem.W.keepIn K (.ref f23) = true)
    (a24 : PySem.W.nsIn K mainGlobals "set_deterministic" = some (some (.ref f24)))
    (l24 : K.lookup f24 = some ⟨oc24, od24, .func (PySem.W.fnOf "set_deterministic" "set_deterministic" (defArgs sSetDeterministic) (defBody sSetDeterministic) (defScope sSetDeterministic) .none kV24 dc24 pm24 an24 cd24 ct24), sl24⟩) (c24 : PySem.W.codeIn K cd24 "set_deterministic" = true) (k24 : PySem.W.keepIn K (.ref f24) = true)
    (a25 : PySem.W.nsIn K mainGlobals "reward_gain" = some (some (.ref f25)))
    (l25 : K.lookup f25 = some ⟨oc25, od25, .func (PySem.W.fnOf "reward_gain" "reward_gain" (defArgs sRewardGain) (defBody sRewardGain) (defScope sRewardGain) .none kV25 dc25 pm25 an25 cd25 ct25), sl25⟩) (c25 : PySem.W.codeIn K cd25 "reward_gain" = true) (k25 : PySem.W.keepIn K (.ref f25) = true)
    (a26 : PySem.W.nsIn K mainGlobals "gain_of_staying" = some (some (.ref f26)))
    (l26 : K.lookup f26 = some ⟨oc26, od26, .func (PySem.W.fnOf "gain_of_staying" "gain_of_staying" (defArgs sGainOfStaying) (defBody sGainOfStaying) (defScope sGainOfStaying) .none kV26 dc26 pm26 an26 cd26 ct26), sl26⟩) (c26 : PySem.W.codeIn K cd26 "gain_of_staying" = true) (k26 : PySem.W.keepIn K (.ref f26) = true)
    (a27 : PySem.W.nsIn K mainGlobals "differs_by_shaping" = some (some (.ref f27)))
    (l27 : K.lookup f27 = some ⟨oc27, od27, .func (PySem.W.fnOf "differs_by_shaping" "differs_by_shaping" (defArgs sDiffersByShaping) (defBody sDiffersByShaping) (defScope sDiffersByShaping) .none kV27 dc27 pm27 an27 cd27 ct27), sl27⟩) (c27 : PySem.W.codeIn K cd27 "differs_by_shaping" = true) (k27 : PySem.W.keepIn K (.ref f27) = true)
    (a28 : PySem.W.nsIn K mainGlobals "get_transition" = some (some (.ref f28)))
    (l28 : K.lookup f28 = some ⟨oc28, od28, .func (PySem.W.fnOf "get_transition" "get_transition" (defArgs sGetTransition) (defBody sGetTransition) (defScope sGetTransition) .none kV28 dc28 pm28 an28 cd28 ct28), sl28⟩) (c28 : PySem.W.codeIn K cd28 "get_transition" = true) (k28 : PySem.W.keepIn K (.ref f28) = true)
    (a29 : PySem.W.nsIn K mainGlobals "are_equivalent" = some (some (.ref f29)))
    (l29 : K.lookup f29 = some ⟨oc29, od29, .func (PySem.W.fnOf "are_equivalent" "are_equivalent" (defArgs sAreEquivalent) (defBody sAreEquivalent) (defScope sAreEquivalent) .none kV29 dc29 pm29 an29 cd29 ct29), sl29⟩) (c29 : PySem.W.codeIn K cd29 "are_equivalent" = true) (k29 : PySem.W.keepIn K (.ref f29) = true)
    (a30 : PySem.W.nsIn K mainGlobals "read_calls" = some (some (.ref f30)))
    (l30 : K.lookup f30 = some ⟨oc30, od30, .func (PySem.W.fnOf "read_calls" "read_calls" (defArgs sReadCalls) (defBody sReadCalls) (defScope sReadCalls) .none kV30 dc30 pm30 an30 cd30 ct30), sl30⟩) (c30 : PySem.W.codeIn K cd30 "read_calls" = true) (k30 : PySem.W.keepIn K (.ref f30) = true)
    (a31 : PySem.W.nsIn K mainGlobals "greatest_common_divisor" = some (some (.ref f31)))
    (l31 : K.lookup f31 = some ⟨oc31, od31, .func (PySem.W.fnOf "greatest_common_divisor" "greatest_common_divisor" (defArgs sGreatestCommonDivisor) (defBody sGreatestCommonDivisor) (defScope sGreatestCommonDivisor) .none kV31 dc31 pm31 an31 cd31 ct31), sl31⟩) (c31 : PySem.W.codeIn K cd31 "greatest_common_divisor" = true) (k31 : PySem.W.keepIn K (.ref f31) = true)
    (a32 : PySem.W.nsIn K mainGlobals "lowest_terms" = some (some (.ref f32)))
    (l32 : K.lookup f32 = some ⟨oc32, od32, .func (PySem.W.fnOf "lowest_terms" "lowest_terms" (defArgs sLowestTerms) (defBody sLowestTerms) (defScope sLowestTerms) .none kV32 dc32 pm32 an32 cd32 ct32), sl32⟩) (c32 : PySem.W.codeIn K cd32 "lowest_terms" = true) (k32 : PySem.W.keepIn K (.ref f32) = true)
    (a33 : PySem.W.nsIn K mainGlobals "greater" = some (some (.ref f33)))
    (l33 : K.lookup f33 = some ⟨oc33, od33, .func (PySem.W.fnOf "greater" "greater" (defArgs sGreater) (defBody sGreater) (defScope sGreater) .none kV33 dc33 pm33 an33 cd33 ct33), sl33⟩) (c33 : PySem.W.codeIn K cd33 "greater" = true) (k33 : PySem.W.keepIn K (.ref f33) = true)
    (a34 : PySem.W.nsIn K mainGlobals "written" = some (some (.ref f34)))
    (l34 : K.lookup f34 = some ⟨oc34, od34, .func (PySem.W.fnOf "written" "written" (defArgs sWritten) (defBody sWritten) (defScope sWritten) .none kV34 dc34 pm34 an34 cd34 ct34), sl34⟩) (c34 : PySem.W.codeIn K cd34 "written" = true) (k34 : PySem.W.keepIn K (.ref f34) = true)
    (a35 : PySem.W.nsIn K mainGlobals "added" = some (some (.ref f35)))
    (l35 : K.lookup f35 = some ⟨oc35, od35, .func (PySem.W.fnOf "added" "added" (defArgs sAdded) (defBody sAdded) (defScope sAdded) .none kV35 dc35 pm35 an35 cd35 ct35), sl35⟩) (c35 : PySem.W.codeIn K cd35 "added" = true) (k35 : PySem.W.keepIn K (.ref f35) = true)
    (a36 : PySem.W.nsIn K mainGlobals "less" = some (some (.ref f36)))
    (l36 : K.lookup f36 = some ⟨oc36, od36, .func (PySem.W.fnOf "less" "less" (defArgs sLess) (defBody sLess) (defScope sLess) .none kV36 dc36 pm36 an36 cd36 ct36), sl36⟩) (c36 : PySem.W.codeIn K cd36 "less" = true) (k36 : PySem.W.keepIn K (.ref f36) = true)
    (a37 : PySem.W.nsIn K mainGlobals "same" = some (some (.ref f37)))
    (l37 : K.lookup f37 = some ⟨oc37, od37, .func (PySem.W.fnOf "same" "same" (defArgs sSame) (defBody sSame) (defScope sSame) .none kV37 dc37 pm37 an37 cd37 ct37), sl37⟩) (c37 : PySem.W.codeIn K cd37 "same" = true) (k37 : PySem.W.keepIn K (.ref f37) = true)
    (a38 : PySem.W.nsIn K mainGlobals "weighted_rewards" = some (some (.ref f38)))
    (l38 : K.lookup f38 = some ⟨oc38, od38, .func (PySem.W.fnOf "weighted_rewards" "weighted_rewards" (defArgs sWeightedRewards) (defBody sWeightedRewards) (defScope sWeightedRewards) .none kV38 dc38 pm38 an38 cd38 ct38), sl38⟩) (c38 : PySem.W.codeIn K cd38 "weighted_rewards" = true) (k38 : PySem.W.keepIn K (.ref f38) = true)
    (a39 : PySem.W.nsIn K mainGlobals "average_reward" = some (some (.ref f39)))
    (l39 : K.lookup f39 = some ⟨oc39, od39, .func (PySem.W.fnOf "average_reward" "average_reward" (defArgs sAverageReward) (defBody sAverageReward) (defScope sAverageReward) .none kV39 dc39 pm39 an39 cd39 ct39), sl39⟩) (c39 : PySem.W.codeIn K cd39 "average_reward" = true) (k39 : PySem.W.keepIn K (.ref f39) = true)
    (a40 : PySem.W.nsIn K mainGlobals "equation" = some (some (.ref f40)))
    (l40 : K.lookup f40 = some ⟨oc40, od40, .func (PySem.W.fnOf "equation" "equation" (defArgs sEquation) (defBody sEquation) (defScope sEquation) .none kV40 dc40 pm40 an40 cd40 ct40), sl40⟩) (c40 : PySem.W.codeIn K cd40 "equation" = true) (k40 : PySem.W.keepIn K (.ref f40) = true)
    (a41 : PySem.W.nsIn K mainGlobals "cleared" = some (some (.ref f41)))
    (l41 : K.lookup f41 = some ⟨oc41, od41, .func (PySem.W.fnOf "cleared" "cleared" (defArgs sCleared) (defBody sCleared) (defScope sCleared) .none kV41 dc41 pm41 an41 cd41 ct41), sl41⟩) (c41 : PySem.W.codeIn K cd41 "cleared" = true) (k41 : PySem.W.keepIn K (.ref f41) = true)
    (a42 : PySem.W.nsIn K mainGlobals "solution" = some (some (.ref f42)))
    (l42 : K.lookup f42 = some ⟨oc42, od42, .func (PySem.W.fnOf "solution" "solution" (defArgs sSolution) (defBody sSolution) (defScope sSolution) .none kV42 dc42 pm42 an42 cd42 ct42), sl42⟩) (c42 : PySem.W.codeIn K cd42 "solution" = true) (k42 : PySem.W.keepIn K (.ref f42) = true)
    (a43 : PySem.W.nsIn K mainGlobals "values_under" = some (some (.ref f43)))
    (l43 : K.lookup f43 = some ⟨oc43, od43, .func (PySem.W.fnOf "values_under" "values_under" (defArgs sValuesUnder) (defBody sValuesUnder) (defScope sValuesUnder) .none kV43 dc43 pm43 an43 cd43 ct43), sl43⟩) (c43 : PySem.W.codeIn K cd43 "values_under" = true) (k43 : PySem.W.keepIn K (.ref f43) = true)
    (a44 : PySem.W.nsIn K mainGlobals "every_row" = some (some (.ref f44)))
    (l44 : K.lookup f44 = some ⟨oc44, od44, .func (PySem.W.fnOf "every_row" "every_row" (defArgs sEveryRow) (defBody sEveryRow) (defScope sEveryRow) .none kV44 dc44 pm44 an44 cd44 ct44), sl44⟩) (c44 : PySem.W.codeIn K cd44 "every_row" = true) (k44 : PySem.W.keepIn K (.ref f44) = true)
    (a45 : PySem.W.nsIn K mainGlobals "best_values" = some (some (.ref f45)))
    (l45 : K.lookup f45 = some ⟨oc45, od45, .func (PySem.W.fnOf "best_values" "best_values" (defArgs sBestValues) (defBody sBestValues) (defScope sBestValues) .none kV45 dc45 pm45 an45 cd45 ct45), sl45⟩) (c45 : PySem.W.codeIn K cd45 "best_values" = true) (k45 : PySem.W.keepIn K (.ref f45) = true)
    (a46 : PySem.W.nsIn K mainGlobals "optimal_values" = some (some (.ref f46)))
    (l46 : K.lookup f46 = some ⟨oc46, od46, .func (PySem.W.fnOf "optimal_values" "optimal_values" (defArgs sOptimalValues) (defBody sOptimalValues) (defScope sOptimalValues) .none kV46 dc46 pm46 an46 cd46 ct46), sl46⟩) (c46 : PySem.W.codeIn K cd46 "optimal_values" = true) (k46 : PySem.W.keepIn K (.ref f46) = true)
    (a47 : PySem.W.nsIn K mainGlobals "worth_of_action" = some (some (.ref f47)))
    (l47 : K.lookup f47 = some ⟨oc47, od47, .func (PySem.W.fnOf "worth_of_action" "worth_of_action" (defArgs sWorthOfAction) (defBody sWorthOfAction) (defScope sWorthOfAction) .none kV47 dc47 pm47 an47 cd47 ct47), sl47⟩) (c47 : PySem.W.codeIn K cd47 "worth_of_action" = true) (k47 : PySem.W.keepIn K (.ref f47) = true)
    (a48 : PySem.W.nsIn K mainGlobals "best_actions" = some (some (.ref f48)))
    (l48 : K.lookup f48 = some ⟨oc48, od48, .func (PySem.W.fnOf "best_actions" "best_actions" (defArgs sBestActions) (defBody sBestActions) (defScope sBestActions) .none kV48 dc48 pm48 an48 cd48 ct48), sl48⟩) (c48 : PySem.W.codeIn K cd48 "best_actions" = true) (k48 : PySem.W.keepIn K (.ref f48) = true)
    (a49 : PySem.W.nsIn K mainGlobals "best_actions_everywhere" = some (some (.ref f49)))
    (l49 : K.lookup f49 = some ⟨oc49, od49, .func (PySem.W.fnOf "best_actions_everywhere" "best_actions_everywhere" (defArgs sBestActionsEverywhere) (defBody sBestActionsEverywhere) (defScope sBestActionsEverywhere) .none kV49 dc49 pm49 an49 cd49 ct49), sl49⟩) (c49 : PySem.W.codeIn K cd49 "best_actions_everywhere" = true) (k49 : PySem.W.keepIn K (.ref f49) = true)
    (a50 : PySem.W.nsIn K mainGlobals "best_policy" = some (some (.ref f50)))
    (l50 : K.lookup f50 = some ⟨oc50, od50, .func (PySem.W.fnOf "best_policy" "best_policy" (defArgs sBestPolicy) (defBody sBestPolicy) (defScope sBestPolicy) .none kV50 dc50 pm50 an50 cd50 ct50), sl50⟩) (c50 : PySem.W.codeIn K cd50 "best_policy" = true) (k50 : PySem.W.keepIn K (.ref f50) = true)
    (a51 : PySem.W.nsIn K mainGlobals "tables_agree" = some (some (.ref f51)))
    (l51 : K.lookup f51 = some ⟨oc51, od51, .func (PySem.W.fnOf "tables_agree" "tables_agree" (defArgs sTablesAgree) (defBody sTablesAgree) (defScope sTablesAgree) .none kV51 dc51 pm51 an51 cd51 ct51), sl51⟩) (c51 : PySem.W.codeIn K cd51 "tables_agree" = true) (k51 : PySem.W.keepIn K (.ref f51) = true)
    (a52 : PySem.W.nsIn K mainGlobals "with_weights" = some (some (.ref f52)))
    (l52 : K.lookup f52 = some ⟨oc52, od52, .func (PySem.W.fnOf "with_weights" "with_weights" (defArgs sWithWeights) (defBody sWithWeights) (defScope sWithWeights) .none kV52 dc52 pm52 an52 cd52 ct52), sl52⟩) (c52 : PySem.W.codeIn K cd52 "with_weights" = true) (k52 : PySem.W.keepIn K (.ref f52) = true)
    (a53 : PySem.W.nsIn K mainGlobals "tells_apart" = some (some (.ref f53)))
    (l53 : K.lookup f53 = some ⟨oc53, od53, .func (PySem.W.fnOf "tells_apart" "tells_apart" (defArgs sTellsApart) (defBody sTellsApart) (defScope sTellsApart) .none kV53 dc53 pm53 an53 cd53 ct53), sl53⟩) (c53 : PySem.W.codeIn K cd53 "tells_apart" = true) (k53 : PySem.W.keepIn K (.ref f53) = true)
    (a54 : PySem.W.nsIn K mainGlobals "action_value" = some (some (.ref f54)))
    (l54 : K.lookup f54 = some ⟨oc54, od54, .func (PySem.W.fnOf "action_value" "action_value" (defArgs sActionValue) (defBody sActionValue) (defScope sActionValue) .none kV54 dc54 pm54 an54 cd54 ct54), sl54⟩) (c54 : PySem.W.codeIn K cd54 "action_value" = true) (k54 : PySem.W.keepIn K (.ref f54) = true)
    (a55 : PySem.W.nsIn K mainGlobals "optimal_actions" = some (some (.ref f55)))
    (l55 : K.lookup f55 = some ⟨oc55, od55, .func (PySem.W.fnOf "optimal_actions" "optimal_actions" (defArgs sOptimalActions) (defBody sOptimalActions) (defScope sOptimalActions) .none kV55 dc55 pm55 an55 cd55 ct55), sl55⟩) (c55 : PySem.W.codeIn K cd55 "optimal_actions" = true) (k55 : PySem.W.keepIn K (.ref f55) = true)
    (a56 : PySem.W.nsIn K mainGlobals "optimal_policy" = some (some (.ref f56)))
    (l56 : K.lookup f56 = some ⟨oc56, od56, .func (PySem.W.fnOf "optimal_policy" "optimal_policy" (defArgs sOptimalPolicy) (defBody sOptimalPolicy) (defScope sOptimalPolicy) .none kV56 dc56 pm56 an56 cd56 ct56), sl56⟩) (c56 : PySem.W.codeIn K cd56 "optimal_policy" = true) (k56 : PySem.W.keepIn K (.ref f56) = true)
    (a57 : PySem.W.nsIn K mainGlobals "policy_values" = some (some (.ref f57)))
    (l57 : K.lookup f57 = some ⟨oc57, od57, .func (PySem.W.fnOf "policy_values" "policy_values" (defArgs sPolicyValues) (defBody sPolicyValues) (defScope sPolicyValues) .none kV57 dc57 pm57 an57 cd57 ct57), sl57⟩) (c57 : PySem.W.codeIn K cd57 "policy_values" = true) (k57 : PySem.W.keepIn K (.ref f57) = true)
    (a58 : PySem.W.nsIn K mainGlobals "same_optimal_actions" = some (some (.ref f58)))
    (l58 : K.lookup f58 = some ⟨oc58, od58, .func (PySem.W.fnOf "same_optimal_actions" "same_optimal_actions" (defArgs sSameOptimalActions) (defBody sSameOptimalActions) (defScope sSameOptimalActions) .none kV58 dc58 pm58 an58 cd58 ct58), sl58⟩) (c58 : PySem.W.codeIn K cd58 "same_optimal_actions" = true) (k58 : PySem.W.keepIn K (.ref f58) = true)
    (a59 : PySem.W.nsIn K mainGlobals "regrets" = some (some (.ref f59)))
    (l59 : K.lookup f59 = some ⟨oc59, od59, .func (PySem.W.fnOf "regrets" "regrets" (defArgs sRegrets) (defBody sRegrets) (defScope sRegrets) .none kV59 dc59 pm59 an59 cd59 ct59), sl59⟩) (c59 : PySem.W.codeIn K cd59 "regrets" = true) (k59 : PySem.W.keepIn K (.ref f59) = true)
    (a60 : PySem.W.nsIn K mainGlobals "expected_reward" = some (some (.ref f60)))
    (l60 : K.lookup f60 = some ⟨oc60, od60, .func (PySem.W.fnOf "expected_reward" "expected_reward" (defArgs sExpectedReward) (defBody sExpectedReward) (defScope sExpectedReward) .none kV60 dc60 pm60 an60 cd60 ct60), sl60⟩) (c60 : PySem.W.codeIn K cd60 "expected_reward" = true) (k60 : PySem.W.keepIn K (.ref f60) = true)
    (a61 : PySem.W.nsIn K mainGlobals "world_count" = some (some (.ref f61)))
    (l61 : K.lookup f61 = some ⟨oc61, od61, .func (PySem.W.fnOf "world_count" "world_count" (defArgs sWorldCount) (defBody sWorldCount) (defScope sWorldCount) .none kV61 dc61 pm61 an61 cd61 ct61), sl61⟩) (c61 : PySem.W.codeIn K cd61 "world_count" = true) (k61 : PySem.W.keepIn K (.ref f61) = true)
    (a62 : PySem.W.nsIn K mainGlobals "distinguishes" = some (some (.ref f62)))
    (l62 : K.lookup f62 = some ⟨oc62, od62, .func (PySem.W.fnOf "distinguishes" "distinguishes" (defArgs sDistinguishes) (defBody sDistinguishes) (defScope sDistinguishes) .none kV62 dc62 pm62 an62 cd62 ct62), sl62⟩) (c62 : PySem.W.codeIn K cd62 "distinguishes" = true) (k62 : PySem.W.keepIn K (.ref f62) = true)
    (a63 : PySem.W.nsIn K mainGlobals "distinguishing_world" = some (some (.ref f63)))
    (l63 : K.lookup f63 = some ⟨oc63, od63, .func (PySem.W.fnOf "distinguishing_world" "distinguishing_world" (defArgs sDistinguishingWorld) (defBody sDistinguishingWorld) (defScope sDistinguishingWorld) .none kV63 dc63 pm63 an63 cd63 ct63), sl63⟩) (c63 : PySem.W.codeIn K cd63 "distinguishing_world" = true) (k63 : PySem.W.keepIn K (.ref f63) = true)
    (a64 : PySem.W.nsIn K mainGlobals "value_with_transition" = some (some (.ref f64)))
    (l64 : K.lookup f64 = some ⟨oc64, od64, .func (PySem.W.fnOf "value_with_transition" "value_with_transition" (defArgs sValueWithTransition) (defBody sValueWithTransition) (defScope sValueWithTransition) .none kV64 dc64 pm64 an64 cd64 ct64), sl64⟩) (c64 : PySem.W.codeIn K cd64 "value_with_transition" = true) (k64 : PySem.W.keepIn K (.ref f64) = true)
    (a65 : PySem.W.nsIn K mainGlobals "changed" = some (some (.ref f65)))
    (l65 : K.lookup f65 = some ⟨oc65, od65, .func (PySem.W.fnOf "changed" "changed" (defArgs sChanged) (defBody sChanged) (defScope sChanged) .none kV65 dc65 pm65 an65 cd65 ct65), sl65⟩) (c65 : PySem.W.codeIn K cd65 "changed" = true) (k65 : PySem.W.keepIn K (.ref f65) = true)
    (a66 : PySem.W.nsIn K mainGlobals "asked_of_worlds" = some (some (.ref f66)))
    (l66 : K.lookup f66 = some ⟨oc66, od66, .func (PySem.W.fnOf "asked_of_worlds" "asked_of_worlds" (defArgs sAskedOfWorlds) (defBody sAskedOfWorlds) (defScope sAskedOfWorlds) .none kV66 dc66 pm66 an66 cd66 ct66), sl66⟩) (c66 : PySem.W.codeIn K cd66 "asked_of_worlds" = true) (k66 : PySem.W.keepIn K (.ref f66) = true)
    (a67 : PySem.W.nsIn K mainGlobals "asked" = some (some (.ref f67)))
    (l67 : K.lookup f67 = some ⟨oc67, od67, .func (PySem.W.fnOf "asked" "asked" (defArgs sAsked) (defBody sAsked) (defScope sAsked) .none kV67 dc67 pm67 an67 cd67 ct67), sl67⟩) (c67 : PySem.W.codeIn K cd67 "asked" = true) (k67 : PySem.W.keepIn K (.ref f67) = true)
    (a68 : PySem.W.nsIn K mainGlobals "answer_with" = some (some (.ref f68)))
    (l68 : K.lookup f68 = some ⟨oc68, od68, .func (PySem.W.fnOf "answer_with" "answer_with" (defArgs sAnswerWith) (defBody sAnswerWith) (defScope sAnswerWith) .none kV68 dc68 pm68 an68 cd68 ct68), sl68⟩) (c68 : PySem.W.codeIn K cd68 "answer_with" = true) (k68 : PySem.W.keepIn K (.ref f68) = true)
    (a69 : PySem.W.nsIn K mainGlobals "answers" = some (some (.ref f69)))
    (l69 : K.lookup f69 = some ⟨oc69, od69, .func (PySem.W.fnOf "answers" "answers" (defArgs sAnswers) (defBody sAnswers) (defScope sAnswers) .none kV69 dc69 pm69 an69 cd69 ct69), sl69⟩) (c69 : PySem.W.codeIn K cd69 "answers" = true) (k69 : PySem.W.keepIn K (.ref f69) = true)
    (aC : PySem.W.nsIn K mainGlobals "Model" = some (some (.ref C))) (pg : PySem.W.plainGet K C Str.empty = true) (hd : PySem.W.hasDictIn K C = true) (po : PySem.W.plainOver K C = true) (sa : PySem.W.findIn K (.ref C) "__setattr__" = some (some (.builtin "object.__setattr__"))) (mk : PySem.W.makesIn K C = true) (kc : PySem.W.keepIn K (.ref C) = true)
    (n1 : PySem.W.findIn K (.ref C) "state_count" = some none)
    (n2 : PySem.W.findIn K (.ref C) "action_count" = some none)
    (n3 : PySem.W.findIn K (.ref C) "discount_num" = some none)
    (n4 : PySem.W.findIn K (.ref C) "discount_den" = some none)
    (n5 : PySem.W.findIn K (.ref C) "reward_count" = some none)
    (n6 : PySem.W.findIn K (.ref C) "rewards" = some none)
    (n7 : PySem.W.findIn K (.ref C) "weights" = some none)
    (b_len : PySem.W.nsIn K mainGlobals "len" = some none)
    (b_all : PySem.W.nsIn K mainGlobals "all" = some none)
    (b_sum : PySem.W.nsIn K mainGlobals "sum" = some none)
    (b_range : PySem.W.nsIn K mainGlobals "range" = some none)
    (b_enumerate : PySem.W.nsIn K mainGlobals "enumerate" = some none)
    (b_zip : PySem.W.nsIn K mainGlobals "zip" = some none)
    (b_list : PySem.W.nsIn K mainGlobals "list" = some none)
    (b_abs : PySem.W.nsIn K mainGlobals "abs" = some none)
    (v_NO_PROCESS : PySem.W.nsIn K mainGlobals "NO_PROCESS" = some (some (.int (-11) t_NO_PROCESS)))
    (v_NOT_THERE : PySem.W.nsIn K mainGlobals "NOT_THERE" = some (some (.int (-2) t_NOT_THERE)))
    (v_OUT_OF_LIMITS : PySem.W.nsIn K mainGlobals "OUT_OF_LIMITS" = some (some (.int (-22) t_OUT_OF_LIMITS)))
    (v_TOO_LARGE : PySem.W.nsIn K mainGlobals "TOO_LARGE" = some (some (.int (-75) t_TOO_LARGE)))
    (v_LEAST_GIVEN : PySem.W.nsIn K mainGlobals "LEAST_GIVEN" = some (some (.int (-1000) t_LEAST_GIVEN)))
    (v_GREATEST_GIVEN : PySem.W.nsIn K mainGlobals "GREATEST_GIVEN" = some (some (.int (1000) t_GREATEST_GIVEN)))
    (v_LEAST_REWARD : PySem.W.nsIn K mainGlobals "LEAST_REWARD" = some (some (.int (-100000) t_LEAST_REWARD)))
    (v_GREATEST_REWARD : PySem.W.nsIn K mainGlobals "GREATEST_REWARD" = some (some (.int (100000) t_GREATEST_REWARD)))
    (v_GREATEST_WEIGHT : PySem.W.nsIn K mainGlobals "GREATEST_WEIGHT" = some (some (.int (9) t_GREATEST_WEIGHT)))
    (v_NO_WORLD : PySem.W.nsIn K mainGlobals "NO_WORLD" = some (some (.int (-33) t_NO_WORLD)))
    (v_TOO_MANY_WORLDS : PySem.W.nsIn K mainGlobals "TOO_MANY_WORLDS" = some (some (.int (-75) t_TOO_MANY_WORLDS)))
    (v_GREATEST_WORLD_COUNT : PySem.W.nsIn K mainGlobals "GREATEST_WORLD_COUNT" = some (some (.int (64) t_GREATEST_WORLD_COUNT)))
    (v_NUMBERS_AHEAD : PySem.W.nsIn K mainGlobals "NUMBERS_AHEAD" = some (some (.ref aN))) (u_NUMBERS_AHEAD : K.lookup aN = some oN) (w_NUMBERS_AHEAD : ∃ (its : Array Value) (n : Nat), oN.cls = .type "tuple" ∧ oN.data = .seq its n ∧ its.size ≤ sizeLine ∧ Vals (iV naL) its.toList)
    (v_WITH_ROW : PySem.W.nsIn K mainGlobals "WITH_ROW" = some (some (.ref aW))) (u_WITH_ROW : K.lookup aW = some oW) (w_WITH_ROW : ∃ (its : Array Value) (n : Nat), oW.cls = .type "tuple" ∧ oW.data = .seq its n ∧ its.size ≤ sizeLine ∧ Vals (iV wrL) its.toList)
    : ∃ fd : FuncData, (∀ (s : Shared) (us : List Value), us.length = (["calls"] : List Str).length → BindsTo s fd ⟨us, []⟩ ((["calls"] : List Str).zip us)) ∧ ∀ base : Heap, K.In base → base.Ns mainGlobals mg → FnOk P w K mg base CX0 14 fa fd ["calls"] (spAns K) := by
  have e := hfa.symm.trans (PySem.W.mg_of X G a69)
  cases e
  have T : Txt K mg C f12 := { cl := ⟨pg, hd, po, sa⟩, mkC := ⟨mk, a12, i12, kc⟩, gC := PySem.W.mg_of X G aC, n1 := n1, n2 := n2, n3 := n3, n4 := n4, n5 := n5, n6 := n6, n7 := n7, n_len := PySem.W.mg_none_of X G b_len, n_all := PySem.W.mg_none_of X G b_all, n_sum := PySem.W.mg_none_of X G b_sum, n_range := PySem.W.mg_none_of X G b_range, n_enumerate := PySem.W.mg_none_of X G b_enumerate, n_zip := PySem.W.mg_none_of X G b_zip, n_list := PySem.W.mg_none_of X G b_list, n_abs := PySem.W.mg_none_of X G b_abs, c_NO_PROCESS := ⟨t_NO_PROCESS, PySem.W.mg_of X G v_NO_PROCESS⟩, c_NOT_THERE := ⟨t_NOT_THERE, PySem.W.mg_of X G v_NOT_THERE⟩, c_OUT_OF_LIMITS := ⟨t_OUT_OF_LIMITS, PySem.W.mg_of X G v_OUT_OF_LIMITS⟩, c_TOO_LARGE := ⟨t_TOO_LARGE, PySem.W.mg_of X G v_TOO_LARGE⟩, c_LEAST_GIVEN := ⟨t_LEAST_GIVEN, PySem.W.mg_of X G v_LEAST_GIVEN⟩, c_GREATEST_GIVEN := ⟨t_GREATEST_GIVEN, PySem.W.mg_of X G v_GREATEST_GIVEN⟩, c_LEAST_REWARD := ⟨t_LEAST_REWARD, PySem.W.mg_of X G v_LEAST_REWARD⟩, c_GREATEST_REWARD := ⟨t_GREATEST_REWARD, PySem.W.mg_of X G v_GREATEST_REWARD⟩, c_GREATEST_WEIGHT := ⟨t_GREATEST_WEIGHT, PySem.W.mg_of X G v_GREATEST_WEIGHT⟩, c_NO_WORLD := ⟨t_NO_WORLD, PySem.W.mg_of X G v_NO_WORLD⟩, c_TOO_MANY_WORLDS := ⟨t_TOO_MANY_WORLDS, PySem.W.mg_of X G v_TOO_MANY_WORLDS⟩, c_GREATEST_WORLD_COUNT := ⟨t_GREATEST_WORLD_COUNT, PySem.W.mg_of X G v_GREATEST_WORLD_COUNT⟩ }
  have TF : TxtF K mg aN aW := { c_NUMBERS_AHEAD := PySem.W.mg_of X G v_NUMBERS_AHEAD, c_WITH_ROW := PySem.W.mg_of X G v_WITH_ROW, tN := fun H => tup_written u_NUMBERS_AHEAD w_NUMBERS_AHEAD, tW := fun H => tup_written u_WITH_ROW w_WITH_ROW }
  refine ⟨PySem.W.fnOf "answers" "answers" (defArgs sAnswers) (defBody sAnswers) (defScope sAnswers) .none kV69 dc69 pm69 an69 cd69 ct69, fun s us hu => match us, hu with | [_], _ => .of_eq rfl, fun base _ _ => ?_⟩
  let dCanBeCreated := dfCanBeCreated (P := P) (w := w) (base := base)  (⟨f0, _, fun_mk (st := sCanBeCreated) l0 c0 k0, PySem.W.mg_of X G a0⟩ : Rw K mg "can_be_created" sCanBeCreated)
  let dTableExists := dfTableExists (P := P) (w := w) (base := base)  (⟨f1, _, fun_mk (st := sTableExists) l1 c1 k1, PySem.W.mg_of X G a1⟩ : Rw K mg "table_exists" sTableExists)
  let dStateExists := dfStateExists (P := P) (w := w) (base := base) T (⟨f2, _, fun_mk (st := sStateExists) l2 c2 k2, PySem.W.mg_of X G a2⟩ : Rw K mg "state_exists" sStateExists)
  let dActionExists := dfActionExists (P := P) (w := w) (base := base) T (⟨f3, _, fun_mk (st := sActionExists) l3 c3 k3, PySem.W.mg_of X G a3⟩ : Rw K mg "action_exists" sActionExists)
  let dChoiceExists := dfChoiceExists (P := P) (w := w) (base := base) T dTableExists dStateExists dActionExists (⟨f4, _, fun_mk (st := sChoiceExists) l4 c4 k4, PySem.W.mg_of X G a4⟩ : Rw K mg "choice_exists" sChoiceExists)
  let dAllWithin := dfAllWithin (P := P) (w := w) (base := base) T (⟨f5, _, fun_mk (st := sAllWithin) l5 c5 k5, PySem.W.mg_of X G a5⟩ : Rw K mg "all_within" sAllWithin)
  let dCanBeGiven := dfCanBeGiven (P := P) (w := w) (base := base) T dAllWithin (⟨f6, _, fun_mk (st := sCanBeGiven) l6 c6 k6, PySem.W.mg_of X G a6⟩ : Rw K mg "can_be_given" sCanBeGiven)
  let dCanBeRewards := dfCanBeRewards (P := P) (w := w) (base := base) T dAllWithin (⟨f7, _, fun_mk (st := sCanBeRewards) l7 c7 k7, PySem.W.mg_of X G a7⟩ : Rw K mg "can_be_rewards" sCanBeRewards)
  let dCanBeWeights := dfCanBeWeights (P := P) (w := w) (base := base) T dAllWithin (⟨f8, _, fun_mk (st := sCanBeWeights) l8 c8 k8, PySem.W.mg_of X G a8⟩ : Rw K mg "can_be_weights" sCanBeWeights)
  let dCanBeNextStates := dfCanBeNextStates (P := P) (w := w) (base := base) T dStateExists (⟨f9, _, fun_mk (st := sCanBeNextStates) l9 c9 k9, PySem.W.mg_of X G a9⟩ : Rw K mg "can_be_next_states" sCanBeNextStates)
  let dCanBePolicy := dfCanBePolicy (P := P) (w := w) (base := base) T dActionExists (⟨f10, _, fun_mk (st := sCanBePolicy) l10 c10 k10, PySem.W.mg_of X G a10⟩ : Rw K mg "can_be_policy" sCanBePolicy)
  let dCertain := dfCertain (P := P) (w := w) (base := base) T (⟨f11, _, fun_mk (st := sCertain) l11 c11 k11, PySem.W.mg_of X G a11⟩ : Rw K mg "certain" sCertain)
  let dModelInit := dfModelInit (P := P) (w := w) (mg := mg) (base := base) T dCertain ⟨f12, _, fun_mk (st := sModelInit) l12 c12 k12⟩
  let dTransitionPlace := dfTransitionPlace (P := P) (w := w) (base := base) T (⟨f13, _, fun_mk (st := sTransitionPlace) l13 c13 k13, PySem.W.mg_of X G a13⟩ : Rw K mg "transition_place" sTransitionPlace)
  let dRewardPlace := dfRewardPlace (P := P) (w := w) (base := base) T dTransitionPlace (⟨f14, _, fun_mk (st := sRewardPlace) l14 c14 k14, PySem.W.mg_of X G a14⟩ : Rw K mg "reward_place" sRewardPlace)
  let dSetReward := dfSetReward (P := P) (w := w) (base := base) T dChoiceExists dStateExists dCanBeGiven dRewardPlace (⟨f15, _, fun_mk (st := sSetReward) l15 c15 k15, PySem.W.mg_of X G a15⟩ : Rw K mg "set_reward" sSetReward)
  let dSetRewards := dfSetRewards (P := P) (w := w) (base := base) T dTableExists dCanBeGiven (⟨f16, _, fun_mk (st := sSetRewards) l16 c16 k16, PySem.W.mg_of X G a16⟩ : Rw K mg "set_rewards" sSetRewards)
  let dCopyRewards := dfCopyRewards (P := P) (w := w) (base := base) T dTableExists (⟨f17, _, fun_mk (st := sCopyRewards) l17 c17 k17, PySem.W.mg_of X G a17⟩ : Rw K mg "copy_rewards" sCopyRewards)
  let dReplaceRewards := dfReplaceRewards (P := P) (w := w) (base := base) T dCanBeRewards (⟨f18, _, fun_mk (st := sReplaceRewards) l18 c18 k18, PySem.W.mg_of X G a18⟩ : Rw K mg "replace_rewards" sReplaceRewards)
  let dSetTransition := dfSetTransition (P := P) (w := w) (base := base) T dStateExists dActionExists dCanBeWeights dTransitionPlace (⟨f19, _, fun_mk (st := sSetTransition) l19 c19 k19, PySem.W.mg_of X G a19⟩ : Rw K mg "set_transition" sSetTransition)
  let dShaped := dfShaped (P := P) (w := w) (base := base) T dRewardPlace (⟨f20, _, fun_mk (st := sShaped) l20 c20 k20, PySem.W.mg_of X G a20⟩ : Rw K mg "shaped" sShaped)
  let dShapeRewards := dfShapeRewards (P := P) (w := w) (base := base) T dTableExists dCanBeGiven dShaped dReplaceRewards (⟨f21, _, fun_mk (st := sShapeRewards) l21 c21 k21, PySem.W.mg_of X G a21⟩ : Rw K mg "shape_rewards" sShapeRewards)
  let dScaleRewards := dfScaleRewards (P := P) (w := w) (base := base) T dTableExists dReplaceRewards (⟨f22, _, fun_mk (st := sScaleRewards) l22 c22 k22, PySem.W.mg_of X G a22⟩ : Rw K mg "scale_rewards" sScaleRewards)
  let dDeterministic := dfDeterministic (P := P) (w := w) (base := base) T dCertain (⟨f23, _, fun_mk (st := sDeterministic) l23 c23 k23, PySem.W.mg_of X G a23⟩ : Rw K mg "deterministic" sDeterministic)
  let dSetDeterministic := dfSetDeterministic (P := P) (w := w) (base := base) T dCanBeNextStates dDeterministic (⟨f24, _, fun_mk (st := sSetDeterministic) l24 c24 k24, PySem.W.mg_of X G a24⟩ : Rw K mg "set_deterministic" sSetDeterministic)
  let dRewardGain := dfRewardGain (P := P) (w := w) (base := base) T dRewardPlace (⟨f25, _, fun_mk (st := sRewardGain) l25 c25 k25, PySem.W.mg_of X G a25⟩ : Rw K mg "reward_gain" sRewardGain)
  let dGainOfStaying := dfGainOfStaying (P := P) (w := w) (base := base) T dRewardGain (⟨f26, _, fun_mk (st := sGainOfStaying) l26 c26 k26, PySem.W.mg_of X G a26⟩ : Rw K mg "gain_of_staying" sGainOfStaying)
  let dDiffersByShaping := dfDiffersByShaping (P := P) (w := w) (base := base) T dGainOfStaying dRewardGain (⟨f27, _, fun_mk (st := sDiffersByShaping) l27 c27 k27, PySem.W.mg_of X G a27⟩ : Rw K mg "differs_by_shaping" sDiffersByShaping)
  let dGetTransition := dfGetTransition (P := P) (w := w) (base := base) T dStateExists dActionExists dTransitionPlace (⟨f28, _, fun_mk (st := sGetTransition) l28 c28 k28, PySem.W.mg_of X G a28⟩ : Rw K mg "get_transition" sGetTransition)
  let dAreEquivalent := dfAreEquivalent (P := P) (w := w) (base := base) T dDiffersByShaping (⟨f29, _, fun_mk (st := sAreEquivalent) l29 c29 k29, PySem.W.mg_of X G a29⟩ : Rw K mg "are_equivalent" sAreEquivalent)
  let dReadCalls := dfReadCalls (P := P) (w := w) (base := base) T TF (⟨f30, _, fun_mk (st := sReadCalls) l30 c30 k30, PySem.W.mg_of X G a30⟩ : Rw K mg "read_calls" sReadCalls)
  let dGreatestCommonDivisor := dfGreatestCommonDivisor (P := P) (w := w) (base := base) T (⟨f31, _, fun_mk (st := sGreatestCommonDivisor) l31 c31 k31, PySem.W.mg_of X G a31⟩ : Rw K mg "greatest_common_divisor" sGreatestCommonDivisor)
  let dLowestTerms := dfLowestTerms (P := P) (w := w) (base := base) T dGreatestCommonDivisor (⟨f32, _, fun_mk (st := sLowestTerms) l32 c32 k32, PySem.W.mg_of X G a32⟩ : Rw K mg "lowest_terms" sLowestTerms)
  let dGreater := dfGreater (P := P) (w := w) (base := base) T (⟨f33, _, fun_mk (st := sGreater) l33 c33 k33, PySem.W.mg_of X G a33⟩ : Rw K mg "greater" sGreater)
  let dWritten := dfWritten (P := P) (w := w) (base := base) T dLowestTerms (⟨f34, _, fun_mk (st := sWritten) l34 c34 k34, PySem.W.mg_of X G a34⟩ : Rw K mg "written" sWritten)
  let dAdded := dfAdded (P := P) (w := w) (base := base) T (⟨f35, _, fun_mk (st := sAdded) l35 c35 k35, PySem.W.mg_of X G a35⟩ : Rw K mg "added" sAdded)
  let dLess := dfLess (P := P) (w := w) (base := base) T dAdded (⟨f36, _, fun_mk (st := sLess) l36 c36 k36, PySem.W.mg_of X G a36⟩ : Rw K mg "less" sLess)
  let dSame := dfSame (P := P) (w := w) (base := base) T (⟨f37, _, fun_mk (st := sSame) l37 c37 k37, PySem.W.mg_of X G a37⟩ : Rw K mg "same" sSame)
  let dWeightedRewards := dfWeightedRewards (P := P) (w := w) (base := base) T dTransitionPlace dRewardPlace (⟨f38, _, fun_mk (st := sWeightedRewards) l38 c38 k38, PySem.W.mg_of X G a38⟩ : Rw K mg "weighted_rewards" sWeightedRewards)
  let dAverageReward := dfAverageReward (P := P) (w := w) (base := base) T dTransitionPlace dWeightedRewards (⟨f39, _, fun_mk (st := sAverageReward) l39 c39 k39, PySem.W.mg_of X G a39⟩ : Rw K mg "average_reward" sAverageReward)
  let dEquation := dfEquation (P := P) (w := w) (base := base) T dTransitionPlace dWeightedRewards (⟨f40, _, fun_mk (st := sEquation) l40 c40 k40, PySem.W.mg_of X G a40⟩ : Rw K mg "equation" sEquation)
  let dCleared := dfCleared (P := P) (w := w) (base := base) T (⟨f41, _, fun_mk (st := sCleared) l41 c41 k41, PySem.W.mg_of X G a41⟩ : Rw K mg "cleared" sCleared)
  let dSolution := dfSolution (P := P) (w := w) (base := base) T dCleared (⟨f42, _, fun_mk (st := sSolution) l42 c42 k42, PySem.W.mg_of X G a42⟩ : Rw K mg "solution" sSolution)
  let dValuesUnder := dfValuesUnder (P := P) (w := w) (base := base) T dEquation dSolution (⟨f43, _, fun_mk (st := sValuesUnder) l43 c43 k43, PySem.W.mg_of X G a43⟩ : Rw K mg "values_under" sValuesUnder)
  let dEveryRow := dfEveryRow (P := P) (w := w) (base := base) T (⟨f44, _, fun_mk (st := sEveryRow) l44 c44 k44, PySem.W.mg_of X G a44⟩ : Rw K mg "every_row" sEveryRow)
  let dBestValues := dfBestValues (P := P) (w := w) (base := base) T dEveryRow dValuesUnder dGreater (⟨f45, _, fun_mk (st := sBestValues) l45 c45 k45, PySem.W.mg_of X G a45⟩ : Rw K mg "best_values" sBestValues)
  let dOptimalValues := dfOptimalValues (P := P) (w := w) (base := base) T dTableExists dWritten dBestValues (⟨f46, _, fun_mk (st := sOptimalValues) l46 c46 k46, PySem.W.mg_of X G a46⟩ : Rw K mg "optimal_values" sOptimalValues)
  let dWorthOfAction := dfWorthOfAction (P := P) (w := w) (base := base) T dTransitionPlace dAdded dAverageReward (⟨f47, _, fun_mk (st := sWorthOfAction) l47 c47 k47, PySem.W.mg_of X G a47⟩ : Rw K mg "worth_of_action" sWorthOfAction)
  let dBestActions := dfBestActions (P := P) (w := w) (base := base) T dWorthOfAction dSame (⟨f48, _, fun_mk (st := sBestActions) l48 c48 k48, PySem.W.mg_of X G a48⟩ : Rw K mg "best_actions" sBestActions)
  let dBestActionsEverywhere := dfBestActionsEverywhere (P := P) (w := w) (base := base) T dBestValues dBestActions (⟨f49, _, fun_mk (st := sBestActionsEverywhere) l49 c49 k49, PySem.W.mg_of X G a49⟩ : Rw K mg "best_actions_everywhere" sBestActionsEverywhere)
  let dBestPolicy := dfBestPolicy (P := P) (w := w) (base := base) T dBestActionsEverywhere (⟨f50, _, fun_mk (st := sBestPolicy) l50 c50 k50, PySem.W.mg_of X G a50⟩ : Rw K mg "best_policy" sBestPolicy)
  let dTablesAgree := dfTablesAgree (P := P) (w := w) (base := base) T dBestActionsEverywhere (⟨f51, _, fun_mk (st := sTablesAgree) l51 c51 k51, PySem.W.mg_of X G a51⟩ : Rw K mg "tables_agree" sTablesAgree)
  let dWithWeights := dfWithWeights (P := P) (w := w) (base := base) T dModelInit rfl (⟨f52, _, fun_mk (st := sWithWeights) l52 c52 k52, PySem.W.mg_of X G a52⟩ : Rw K mg "with_weights" sWithWeights)
  let dTellsApart := dfTellsApart (P := P) (w := w) (base := base) T dDeterministic dWithWeights dTablesAgree (⟨f53, _, fun_mk (st := sTellsApart) l53 c53 k53, PySem.W.mg_of X G a53⟩ : Rw K mg "tells_apart" sTellsApart)
  let dActionValue := dfActionValue (P := P) (w := w) (base := base) T dChoiceExists dBestValues dWorthOfAction dWritten (⟨f54, _, fun_mk (st := sActionValue) l54 c54 k54, PySem.W.mg_of X G a54⟩ : Rw K mg "action_value" sActionValue)
  let dOptimalActions := dfOptimalActions (P := P) (w := w) (base := base) T dTableExists dStateExists dBestValues dBestActions (⟨f55, _, fun_mk (st := sOptimalActions) l55 c55 k55, PySem.W.mg_of X G a55⟩ : Rw K mg "optimal_actions" sOptimalActions)
  let dOptimalPolicy := dfOptimalPolicy (P := P) (w := w) (base := base) T dTableExists dBestPolicy (⟨f56, _, fun_mk (st := sOptimalPolicy) l56 c56 k56, PySem.W.mg_of X G a56⟩ : Rw K mg "optimal_policy" sOptimalPolicy)
  let dPolicyValues := dfPolicyValues (P := P) (w := w) (base := base) T dTableExists dCanBePolicy dValuesUnder dWritten (⟨f57, _, fun_mk (st := sPolicyValues) l57 c57 k57, PySem.W.mg_of X G a57⟩ : Rw K mg "policy_values" sPolicyValues)
  let dSameOptimalActions := dfSameOptimalActions (P := P) (w := w) (base := base) T dTablesAgree (⟨f58, _, fun_mk (st := sSameOptimalActions) l58 c58 k58, PySem.W.mg_of X G a58⟩ : Rw K mg "same_optimal_actions" sSameOptimalActions)
  let dRegrets := dfRegrets (P := P) (w := w) (base := base) T dBestValues dBestPolicy dValuesUnder dLess dWritten (⟨f59, _, fun_mk (st := sRegrets) l59 c59 k59, PySem.W.mg_of X G a59⟩ : Rw K mg "regrets" sRegrets)
  let dExpectedReward := dfExpectedReward (P := P) (w := w) (base := base) T dChoiceExists dAverageReward dWritten (⟨f60, _, fun_mk (st := sExpectedReward) l60 c60 k60, PySem.W.mg_of X G a60⟩ : Rw K mg "expected_reward" sExpectedReward)
  let dWorldCount := dfWorldCount (P := P) (w := w) (base := base) T (⟨f61, _, fun_mk (st := sWorldCount) l61 c61 k61, PySem.W.mg_of X G a61⟩ : Rw K mg "world_count" sWorldCount)
  let dDistinguishes := dfDistinguishes (P := P) (w := w) (base := base) T dCanBeNextStates dTellsApart (⟨f62, _, fun_mk (st := sDistinguishes) l62 c62 k62, PySem.W.mg_of X G a62⟩ : Rw K mg "distinguishes" sDistinguishes)
  let dDistinguishingWorld := dfDistinguishingWorld (P := P) (w := w) (base := base) T dWorldCount dEveryRow dTellsApart (⟨f63, _, fun_mk (st := sDistinguishingWorld) l63 c63 k63, PySem.W.mg_of X G a63⟩ : Rw K mg "distinguishing_world" sDistinguishingWorld)
  let dValueWithTransition := dfValueWithTransition (P := P) (w := w) (base := base) T dChoiceExists dStateExists dCanBeWeights dTransitionPlace dWithWeights dBestValues dWritten (⟨f64, _, fun_mk (st := sValueWithTransition) l64 c64 k64, PySem.W.mg_of X G a64⟩ : Rw K mg "value_with_transition" sValueWithTransition)
  let dChanged := dfChanged (P := P) (w := w) (base := base) T dSetReward dSetRewards dCopyRewards dShapeRewards dScaleRewards dSetTransition dSetDeterministic (⟨f65, _, fun_mk (st := sChanged) l65 c65 k65, PySem.W.mg_of X G a65⟩ : Rw K mg "changed" sChanged)
  let dAskedOfWorlds := dfAskedOfWorlds (P := P) (w := w) (base := base) T dDistinguishes dDistinguishingWorld dValueWithTransition (⟨f66, _, fun_mk (st := sAskedOfWorlds) l66 c66 k66, PySem.W.mg_of X G a66⟩ : Rw K mg "asked_of_worlds" sAskedOfWorlds)
  let dAsked := dfAsked (P := P) (w := w) (base := base) T dGetTransition dAreEquivalent dOptimalValues dActionValue dOptimalActions dOptimalPolicy dPolicyValues dSameOptimalActions dRegrets dExpectedReward dAskedOfWorlds (⟨f67, _, fun_mk (st := sAsked) l67 c67 k67, PySem.W.mg_of X G a67⟩ : Rw K mg "asked" sAsked)
  let dAnswerWith := dfAnswerWith (P := P) (w := w) (base := base) T dChanged dAsked (⟨f68, _, fun_mk (st := sAnswerWith) l68 c68 k68, PySem.W.mg_of X G a68⟩ : Rw K mg "answer_with" sAnswerWith)
  let dAnswers := dfAnswers (P := P) (w := w) (base := base) T dReadCalls dCanBeCreated dModelInit rfl dAnswerWith (⟨fa, _, fun_mk (st := sAnswers) l69 c69 k69, PySem.W.mg_of X G a69⟩ : Rw K mg "answers" sAnswers)
  exact dAnswers.ok
end SR
open PySem PySem.W PyProof.Rows
set_option maxRecDepth 100000 in
set_option maxHeartbeats 8000000 in
theorem PySem.Challenge.cw_shapedrewards_s01_answers_holds : PySem.Challenge.rw_shapedrewards_s01_answers.Holds := by
  w_on; k_headS; (case hw => exact ⟨[.list [.int 9]], by decide +kernel, by decide +kernel⟩)
  k_fillS
  refine L2.walk_specK (r := PySem.Challenge.rw_shapedrewards_s01_answers) (k := 14) (CX := L2.CX0) (ps := ["calls"]) (sp := SR.spAns) (by decide +kernel) rfl rfl ⟨rfl, by decide, by decide⟩ (fun w h Y => PySem.W.kIn_of Y) ?F ?S (fun _ _ _ _ z => z)
  case F =>
    intro w mg fa h Y KX G hmg
    refine' SR.all_mk KX G hmg ?a0 ?l0 ?c0 ?k0 ?a1 ?l1 ?c1 ?k1 ?a2 ?l2 ?c2 ?k2 ?a3 ?l3 ?c3 ?k3 ?a4 ?l4 ?c4 ?k4 ?a5 ?l5 ?c5 ?k5 ?a6 ?l6 ?c6 ?k6 ?a7 ?l7 ?c7 ?k7 ?a8 ?l8 ?c8 ?k8 ?a9 ?l9 ?c9 ?k9 ?a10 ?l10 ?c10 ?k10 ?a11 ?l11 ?c11 ?k11 ?a12 ?i12 ?l12 ?c12 ?k12 ?a13 ?l13 ?c13 ?k13 ?a14 ?l14 ?c14 ?k14 ?a15 ?l15 ?c15 ?k15 ?a16 ?l16 ?c16 ?k16 ?a17 ?l17 ?c17 ?k17 ?a18 ?l18 ?c18 ?k18 ?a19 ?l19 ?c19 ?k19 ?a20 ?l20 ?c20 ?k20 ?a21 ?l21 ?c21 ?k21 ?a22 ?l22 ?c22 ?k22 ?a23 ?l23 ?c23 ?k23 ?a24 ?l24 ?c24 ?k24 ?a25 ?l25 ?c25 ?k25 ?a26 ?l26 ?c26 ?k26 ?a27 ?l27 ?c27 ?k27 ?a28 ?l28 ?c28 ?k28 ?a29 ?l29 ?c29 ?k29 ?a30 ?l30 ?c30 ?k30 ?a31 ?l31 ?c31 ?k31 ?a32 ?l32 ?c32 ?k32 ?a33 ?l33 ?c33 ?k33 ?a34 ?l34 ?c34 ?k34 ?a35 ?l35 ?c35 ?k35 ?a36 ?l36 ?c36 ?k36 ?a37 ?l37 ?c37 ?k37 ?a38 ?l38 ?c38 ?k38 ?a39 ?l39 ?c39 ?k39 ?a40 ?l40 ?c40 ?k40 ?a41 ?l41 ?c41 ?k41 ?a42 ?l42 ?c42 ?k42 ?a43 ?l43 ?c43 ?k43 ?a44 ?l44 ?c44 ?k44 ?a45 ?l45 ?c45 ?k45 ?a46 ?l46 ?c46 ?k46 ?a47 ?l47 ?c47 ?k47 ?a48 ?l48 ?c48 ?k48 ?a49 ?l49 ?c49 ?k49 ?a50 ?l50 ?c50 ?k50 ?a51 ?l51 ?c51 ?k51 ?a52 ?l52 ?c52 ?k52 ?a53 ?l53 ?c53 ?k53 ?a54 ?l54 ?c54 ?k54 ?a55 ?l55 ?c55 ?k55 ?a56 ?l56 ?c56 ?k56 ?a57 ?l57 ?c57 ?k57 ?a58 ?l58 ?c58 ?k58 ?a59 ?l59 ?c59 ?k59 ?a60 ?l60 ?c60 ?k60 ?a61 ?l61 ?c61 ?k61 ?a62 ?l62 ?c62 ?k62 ?a63 ?l63 ?c63 ?k63 ?a64 ?l64 ?c64 ?k64 ?a65 ?l65 ?c65 ?k65 ?a66 ?l66 ?c66 ?k66 ?a67 ?l67 ?c67 ?k67 ?a68 ?l68 ?c68 ?k68 ?a69 ?l69 ?c69 ?k69 ?aC ?pg ?hd ?po ?sa ?mk ?kc ?n1 ?n2 ?n3 ?n4 ?n5 ?n6 ?n7 ?b_len ?b_all ?b_sum ?b_range ?b_enumerate ?b_zip ?b_list ?b_abs ?v_NO_PROCESS ?v_NOT_THERE ?v_OUT_OF_LIMITS ?v_TOO_LARGE ?v_LEAST_GIVEN ?v_GREATEST_GIVEN ?v_LEAST_REWARD ?v_GREATEST_REWARD ?v_GREATEST_WEIGHT ?v_NO_WORLD ?v_TOO_MANY_WORLDS ?v_GREATEST_WORLD_COUNT ?v_NUMBERS_AHEAD ?u_NUMBERS_AHEAD ?w_NUMBERS_AHEAD ?v_WITH_ROW ?u_WITH_ROW ?w_WITH_ROW
    (case aC => k_is)
    (case a0 => k_is)
    (case l0 => k_is)
    (case c0 => k_is)
    (case k0 => k_is)
    (case a1 => k_is)
    (case l1 => k_is)
    (case c1 => k_is)
    (case k1 => k_is)
    (case a2 => k_is)
    (case l2 => k_is)
    (case c2 => k_is)
    (case k2 => k_is)
    (case a3 => k_is)
    (case l3 => k_is)
    (case c3 => k_is)
    (case k3 => k_is)
    (case a4 => k_is)
    (case l4 => k_is)
    (case c4 => k_is)
    (case k4 => k_is)
    (case a5 => k_is)
    (case l5 => k_is)
    (case c5 => k_is)
    (case k5 => k_is)
    (case a6 => k_is)
    (case l6 => k_is)
    (case c6 => k_is)
    (case k6 => k_is)
    (case a7 => k_is)
    (case l7 => k_is)
    (case c7 => k_is)
    (case k7 => k_is)
    (case a8 => k_is)
    (case l8 => k_is)
    (case c8 => k_is)
    (case k8 => k_is)
    (case a9 => k_is)
    (case l9 => k_is)
    (case c9 => k_is)
    (case k9 => k_is)
    (case a10 => k_is)
    (case l10 => k_is)
    (case c10 => k_is)
    (case k10 => k_is)
    (case a11 => k_is)
    (case l11 => k_is)
    (case c11 => k_is)
    (case k11 => k_is)
    (case a12 => k_is)
    (case i12 => k_is)
    (case l12 => k_is)
    (case c12 => k_is)
    (case k12 => k_is)
    (case a13 => k_is)
    (case l13 => k_is)
    (case c13 => k_is)
    (case k13 => k_is)
    (case a14 => k_is)
    (case l14 => k_is)
    (case c14 => k_is)
    (case k14 => k_is)
    (case a15 => k_is)
    (case l15 => k_is)
    (case c15 => k_is)
    (case k15 => k_is)
    (case a16 => k_is)
    (case l16 => k_is)
    (case c16 => k_is)
    (case k16 => k_is)
    (case a17 => k_is)
    (case l17 => k_is)
    (case c17 => k_is)
    (case k17 => k_is)
    (case a18 => k_is)
    (case l18 => k_is)
    (case c18 => k_is)
    (case k18 => k_is)
    (case a19 => k_is)
    (case l19 => k_is)
    (case c19 => k_is)
    (case k19 => k_is)
    (case a20 => k_is)
    (case l20 => k_is)
    (case c20 => k_is)
    (case k20 => k_is)
    (case a21 => k_is)
    (case l21 => k_is)
    (case c21 => k_is)
    (case k21 => k_is)
    (case a22 => k_is)
    (case l22 => k_is)
    (case c22 => k_is)
    (case k22 => k_is)
    (case a23 => k_is)
    (case l23 => k_is)
    (case c23 => k_is)
    (case k23 => k_is)
    (case a24 => k_is)
    (case l24 => k_is)
    (case c24 => k_is)
    (case k24 => k_is)
    (case a25 => k_is)
    (case l25 => k_is)
    (case c25 => k_is)
    (case k25 => k_is)
    (case a26 => k_is)
    (case l26 => k_is)
    (case c26 => k_is)
    (case k26 => k_is)
    (case a27 => k_is)
    (case l27 => k_is)
    (case c27 => k_is)
    (case k27 => k_is)
    (case a28 => k_is)
    (case l28 => k_is)
    (case c28 => k_is)
    (case k28 => k_is)
    (case a29 => k_is)
    (case l29 => k_is)
    (case c29 => k_is)
    (case k29 => k_is)
    (case a30 => k_is)
    (case l30 => k_is)
    (case c30 => k_is)
    (case k30 => k_is)
    (case a31 => k_is)
    (case l31 => k_is)
    (case c31 => k_is)
    (case k31 => k_is)
    (case a32 => k_is)
    (case l32 => k_is)
    (case c32 => k_is)
    (case k32 => k_is)
    (case a33 => k_is)
    (case l33 => k_is)
    (case c33 => k_is)
    (case k33 => k_is)
    (case a34 => k_is)
    (case l34 => k_is)
    (case c34 => k_is)
    (case k34 => k_is)
    (case a35 => k_is)
    (case l35 => k_is)
    (case c35 => k_is)
    (case k35 => k_is)
    (case a36 => k_is)
    (case l36 => k_is)
    (case c36 => k_is)
    (case k36 => k_is)
    (case a37 => k_is)
    (case l37 => k_is)
    (case c37 => k_is)
    (case k37 => k_is)
    (case a38 => k_is)
    (case l38 => k_is)
    (case c38 => k_is)
    (case k38 => k_is)
    (case a39 => k_is)
    (case l39 => k_is)
    (case c39 => k_is)
    (case k39 => k_is)
    (case a40 => k_is)
    (case l40 => k_is)
    (case c40 => k_is)
    (case k40 => k_is)
    (case a41 => k_is)
    (case l41 => k_is)
    (case c41 => k_is)
    (case k41 => k_is)
    (case a42 => k_is)
    (case l42 => k_is)
    (case c42 => k_is)
    (case k42 => k_is)
    (case a43 => k_is)
    (case l43 => k_is)
    (case c43 => k_is)
    (case k43 => k_is)
    (case a44 => k_is)
    (case l44 => k_is)
    (case c44 => k_is)
    (case k44 => k_is)
    (case a45 => k_is)
    (case l45 => k_is)
    (case c45 => k_is)
    (case k45 => k_is)
    (case a46 => k_is)
    (case l46 => k_is)
    (case c46 => k_is)
    (case k46 => k_is)
    (case a47 => k_is)
    (case l47 => k_is)
    (case c47 => k_is)
    (case k47 => k_is)
    (case a48 => k_is)
    (case l48 => k_is)
    (case c48 => k_is)
    (case k48 => k_is)
    (case a49 => k_is)
    (case l49 => k_is)
    (case c49 => k_is)
    (case k49 => k_is)
    (case a50 => k_is)
    (case l50 => k_is)
    (case c50 => k_is)
    (case k50 => k_is)
    (case a51 => k_is)
    (case l51 => k_is)
    (case c51 => k_is)
    (case k51 => k_is)
    (case a52 => k_is)
    (case l52 => k_is)
    (case c52 => k_is)
    (case k52 => k_is)
    (case a53 => k_is)
    (case l53 => k_is)
    (case c53 => k_is)
    (case k53 => k_is)
    (case a54 => k_is)
    (case l54 => k_is)
    (case c54 => k_is)
    (case k54 => k_is)
    (case a55 => k_is)
    (case l55 => k_is)
    (case c55 => k_is)
    (case k55 => k_is)
    (case a56 => k_is)
    (case l56 => k_is)
    (case c56 => k_is)
    (case k56 => k_is)
    (case a57 => k_is)
    (case l57 => k_is)
    (case c57 => k_is)
    (case k57 => k_is)
    (case a58 => k_is)
    (case l58 => k_is)
    (case c58 => k_is)
    (case k58 => k_is)
    (case a59 => k_is)
    (case l59 => k_is)
    (case c59 => k_is)
    (case k59 => k_is)
    (case a60 => k_is)
    (case l60 => k_is)
    (case c60 => k_is)
    (case k60 => k_is)
    (case a61 => k_is)
    (case l61 => k_is)
    (case c61 => k_is)
    (case k61 => k_is)
    (case a62 => k_is)
    (case l62 => k_is)
    (case c62 => k_is)
    (case k62 => k_is)
    (case a63 => k_is)
    (case l63 => k_is)
    (case c63 => k_is)
    (case k63 => k_is)
    (case a64 => k_is)
    (case l64 => k_is)
    (case c64 => k_is)
    (case k64 => k_is)
    (case a65 => k_is)
    (case l65 => k_is)
    (case c65 => k_is)
    (case k65 => k_is)
    (case a66 => k_is)
    (case l66 => k_is)
    (case c66 => k_is)
    (case k66 => k_is)
    (case a67 => k_is)
    (case l67 => k_is)
    (case c67 => k_is)
    (case k67 => k_is)
    (case a68 => k_is)
    (case l68 => k_is)
    (case c68 => k_is)
    (case k68 => k_is)
    (case a69 => k_is)
    (case l69 => k_is)
    (case c69 => k_is)
    (case k69 => k_is)
    (case pg => k_is)
    (case hd => k_is)
    (case po => k_is)
    (case sa => k_is)
    (case mk => k_is)
    (case kc => k_is)
    (case n1 => k_is)
    (case n2 => k_is)
    (case n3 => k_is)
    (case n4 => k_is)
    (case n5 => k_is)
    (case n6 => k_is)
    (case n7 => k_is)
    (case b_len => k_is)
    (case b_all => k_is)
    (case b_sum => k_is)
    (case b_range => k_is)
    (case b_enumerate => k_is)
    (case b_zip => k_is)
    (case b_list => k_is)
    (case b_abs => k_is)
    (case v_NO_PROCESS => k_is)
    (case v_NOT_THERE => k_is)
    (case v_OUT_OF_LIMITS => k_is)
    (case v_TOO_LARGE => k_is)
    (case v_LEAST_GIVEN => k_is)
    (case v_GREATEST_GIVEN => k_is)
    (case v_LEAST_REWARD => k_is)
    (case v_GREATEST_REWARD => k_is)
    (case v_GREATEST_WEIGHT => k_is)
    (case v_NO_WORLD => k_is)
    (case v_TOO_MANY_WORLDS => k_is)
    (case v_GREATEST_WORLD_COUNT => k_is)
    (case v_NUMBERS_AHEAD => k_is)
    (case u_NUMBERS_AHEAD => k_is)
    (case w_NUMBERS_AHEAD => exact ⟨_, _, rfl, rfl, by decide, SR.vals_ints _ _ (by rfl)⟩)
    (case v_WITH_ROW => k_is)
    (case u_WITH_ROW => k_is)
    (case w_WITH_ROW => exact ⟨_, _, rfl, rfl, by decide, SR.vals_ints _ _ (by rfl)⟩)
  case S =>
    intro K H xs a hO hwi hask hx
    cases hx with
    | cons h1 h2 =>
      cases h2
      cases h1 with
      | lst hs ha =>
        have e := L2.ints_dw a.1 _ ha
        subst e
        have q : ((Codec.inLen 0 3180 a.1 && a.1.all (Codec.inInt (-2147483648) 4294967295)) && true) = true := hwi
        rw [Bool.and_eq_true, Bool.and_eq_true] at q
        exact ⟨_, a.1, rfl, hs, hask, (Codec.inNat_iff.mp q.1.1).2, fun H' p hp => .lst (L2.SqL.of hp) (L2.dw_ints _)⟩
