import PyProof.Rows.All
import Wide.All
import OpenK.AllK
import Wide.FinOn
import HandS.ForMost
import HandS.Exc
import HandS.IsInst
import HandS.Strs
import HandS.SetKeys
import HandS.Star
import HandS.Zip
import HandS.Conv
import HandS.Wide
import HandS.Style
import KE.DataMinMax
import KE.GoesNew
import KE.GoesMore
import KE.KDictKeyed
import PyProof.Rows.NestShow
import KE.DatumOrd
import KE.KDictZip
import HandS.TupLen
import HandS.SetFor
import HandS.SortRule
import HandS.TupSets
import HandS.TupAny
import HandS.Iter
import HandS.ExcCtx
import HandS.ExcInit
import KE.KSuper
import KE.KExcSuper
import HandS.TryMany
import HandS.ExcField
import HandS.CallLocal
import HandS.CallSlots
import HandS.DictComp
import KE.BitLaws
import HandS.Call
import HandS.List
import KE.DatumIndex
import HandS.RaiseMore
import HandS.SortInts
import HandS.ExcIs
import PySem.Challenge.RW_fittingdoors_k05_whole_meeting_counted
set_option Elab.async false
set_option linter.all false
set_option maxRecDepth 100000
set_option maxHeartbeats 8000000
/-! how many ways there are to go on: what is counted (a polynomial and its weights) -/
namespace KQ
abbrev Pol := Nat → Int
def pX (p : Pol) : Pol := fun j => match j with
  | 0 => 0
  | j + 1 => p j
def lin (t f : Nat) (p : Pol) : Pol := fun j => (t : Int) * p j + (f : Int) * pX p j
def dX (p : Pol) : Pol := fun j => (j : Int) * p j
def oneP : Pol := fun j => if j = 0 then 1 else 0
def prP : List (Nat × Nat) → Pol
  | [] => oneP
  | a :: l => lin a.1 a.2 (prP l)
def qrP : List (Nat × Nat) → Pol
  | [] => fun _ => 0
  | a :: l => fun j => (a.1 : Int) * a.2 * prP l j + lin a.1 a.2 (qrP l) j
/-- one taken out -/
def dels {α : Type} : List α → List (α × List α)
  | [] => []
  | a :: l => (a, l) :: (dels l).map fun q => (q.1, a :: q.2)
def sumV {α : Type} (f : α → Pol) (xs : List α) : Pol := fun j => (xs.map fun x => f x j).sum
theorem sumV_nil {α : Type} (f : α → Pol) : sumV f [] = fun _ => 0 := rfl
theorem sumV_cons {α : Type} (f : α → Pol) (x : α) (xs : List α) : sumV f (x :: xs) = fun j => f x j + sumV f xs j := by
  funext j
  simp [sumV]
theorem sumV_map {α β : Type} (f : β → Pol) (g : α → β) (xs : List α) : sumV f (xs.map g) = sumV (fun x => f (g x)) xs := by
  funext j
  simp [sumV, List.map_map, Function.comp_def]
theorem lin_add (t f : Nat) (p q : Pol) : lin t f (fun j => p j + q j) = fun j => lin t f p j + lin t f q j := by
  funext j
  cases j <;> simp [lin, pX] <;> grind
theorem lin_smul (t f : Nat) (c : Int) (p : Pol) : lin t f (fun j => c * p j) = fun j => c * lin t f p j := by
  funext j
  cases j <;> simp [lin, pX] <;> grind
theorem lin_zero (t f : Nat) : lin t f (fun _ => 0) = fun _ => 0 := by
  funext j
  cases j <;> simp [lin, pX]
theorem lin_sub (t f : Nat) (p q : Pol) : lin t f (fun j => p j - q j) = fun j => lin t f p j - lin t f q j := by
  funext j
  cases j <;> simp [lin, pX] <;> grind
theorem sumV_lin {α : Type} (t f : Nat) (g : α → Pol) (xs : List α) : sumV (fun x => lin t f (g x)) xs = lin t f (sumV g xs) := by
  induction xs with
  | nil => rw [sumV_nil, sumV_nil, lin_zero]
  | cons x xs ih => rw [sumV_cons, sumV_cons, lin_add, ih]
theorem sumV_add {α : Type} (g h : α → Pol) (xs : List α) : sumV (fun x j => g x j + h x j) xs = fun j => sumV g xs j + sumV h xs j := by
  induction xs with
  | nil => rfl
  | cons x xs ih =>
    rw [sumV_cons, sumV_cons, sumV_cons, ih]
    funext j
    grind
theorem sumV_smul {α : Type} (c : Int) (g : α → Pol) (xs : List α) : sumV (fun x j => c * g x j) xs = fun j => c * sumV g xs j := by
  induction xs with
  | nil => funext j; simp [sumV]
  | cons x xs ih =>
    rw [sumV_cons, sumV_cons, ih]
    funext j
    grind
theorem dX_lin (t f : Nat) (p : Pol) : dX (lin t f p) = fun j => lin t f (dX p) j + (f : Int) * pX p j := by
  funext j
  cases j <;> simp [dX, lin, pX] <;> grind
theorem lin_comm (t f t' f' : Nat) (p : Pol) : lin t f (lin t' f' p) = lin t' f' (lin t f p) := by
  funext j
  match j with
  | 0 => simp [lin, pX]; grind
  | 1 => simp [lin, pX]; grind
  | j + 2 => simp [lin, pX]; grind
/-! sums over what is taken out -/
theorem sum_tP (l : List (Nat × Nat)) : sumV (fun q j => (q.1.1 : Int) * prP q.2 j) (dels l) = fun j => (l.length : Int) * prP l j - dX (prP l) j := by
  induction l with
  | nil => funext j; cases j <;> simp [dels, sumV, prP, oneP, dX]
  | cons a l ih =>
    rw [dels, sumV_cons, sumV_map]
    rw [show (fun (x : (Nat × Nat) × List (Nat × Nat)) (j : Nat) => ((x.1, a :: x.2).1.1 : Int) * prP (x.1, a :: x.2).2 j) = fun x => lin a.1 a.2 (fun j => (x.1.1 : Int) * prP x.2 j) from by
      funext x
      rw [lin_smul]
      rfl]
    rw [sumV_lin, ih, lin_sub, lin_smul]
    show (fun j => (a.1 : Int) * prP l j + _) = fun j => (((a :: l).length : Nat) : Int) * lin a.1 a.2 (prP l) j - dX (lin a.1 a.2 (prP l)) j
    rw [dX_lin]
    funext j
    show (a.1 : Int) * prP l j + ((l.length : Int) * lin a.1 a.2 (prP l) j - lin a.1 a.2 (dX (prP l)) j) = _
    simp only [List.length_cons]
    have : lin a.1 a.2 (prP l) j = (a.1 : Int) * prP l j + (a.2 : Int) * pX (prP l) j := rfl
    grind
theorem sum_tfP (l : List (Nat × Nat)) : sumV (fun q j => ((q.1.1 : Int) * q.1.2) * prP q.2 j) (dels l) = qrP l := by
  induction l with
  | nil => rfl
  | cons a l ih =>
    rw [dels, sumV_cons, sumV_map]
    rw [show (fun (x : (Nat × Nat) × List (Nat × Nat)) (j : Nat) => (((x.1, a :: x.2).1.1 : Int) * (x.1, a :: x.2).1.2) * prP (x.1, a :: x.2).2 j) = fun x => lin a.1 a.2 (fun j => ((x.1.1 : Int) * x.1.2) * prP x.2 j) from by
      funext x
      rw [lin_smul]
      rfl]
    rw [sumV_lin, ih]
    rfl
def tsum (l : List (Nat × Nat)) : Nat := (l.map (·.1)).sum
def fsum (l : List (Nat × Nat)) : Nat := (l.map (·.2)).sum
theorem sum_ttP (l : List (Nat × Nat)) : sumV (fun q j => ((q.1.1 : Int) * q.1.1) * prP q.2 j) (dels l) = fun j => (tsum l : Int) * prP l j - pX (qrP l) j := by
  induction l with
  | nil => funext j; cases j <;> simp [dels, sumV, prP, oneP, tsum, qrP, pX]
  | cons a l ih =>
    rw [dels, sumV_cons, sumV_map]
    rw [show (fun (x : (Nat × Nat) × List (Nat × Nat)) (j : Nat) => (((x.1, a :: x.2).1.1 : Int) * (x.1, a :: x.2).1.1) * prP (x.1, a :: x.2).2 j) = fun x => lin a.1 a.2 (fun j => ((x.1.1 : Int) * x.1.1) * prP x.2 j) from by
      funext x
      rw [lin_smul]
      rfl]
    rw [sumV_lin, ih, lin_sub, lin_smul]
    funext j
    show ((a.1 : Int) * a.1) * prP l j + ((tsum l : Int) * lin a.1 a.2 (prP l) j - lin a.1 a.2 (pX (qrP l)) j) = (((a.1 + tsum l : Nat)) : Int) * lin a.1 a.2 (prP l) j - pX (fun j => (a.1 : Int) * a.2 * prP l j + lin a.1 a.2 (qrP l) j) j
    cases j <;> simp [lin, pX] <;> grind
theorem sum_tQ (l : List (Nat × Nat)) : sumV (fun q j => (q.1.1 : Int) * qrP q.2 j) (dels l) = fun j => ((l.length : Int) - 1) * qrP l j - dX (qrP l) j := by
  induction l with
  | nil => funext j; cases j <;> simp [dels, sumV, qrP, dX]
  | cons a l ih =>
    rw [dels, sumV_cons, sumV_map]
    rw [show (fun (x : (Nat × Nat) × List (Nat × Nat)) (j : Nat) => ((x.1, a :: x.2).1.1 : Int) * qrP (x.1, a :: x.2).2 j) = fun x j => ((a.1 : Int) * a.2) * ((x.1.1 : Int) * prP x.2 j) + lin a.1 a.2 (fun j => (x.1.1 : Int) * qrP x.2 j) j from by
      funext x j
      rw [lin_smul]
      show (x.1.1 : Int) * ((a.1 : Int) * a.2 * prP x.2 j + lin a.1 a.2 (qrP x.2) j) = _
      grind]
    rw [sumV_add, sumV_smul, sum_tP, sumV_lin, ih, lin_sub, lin_smul]
    funext j
    show (a.1 : Int) * qrP l j + ((a.1 : Int) * a.2 * ((l.length : Int) * prP l j - dX (prP l) j) + (((l.length : Int) - 1) * lin a.1 a.2 (qrP l) j - lin a.1 a.2 (dX (qrP l)) j)) =
      ((((a :: l).length : Nat) : Int) - 1) * ((a.1 : Int) * a.2 * prP l j + lin a.1 a.2 (qrP l) j) - (j : Int) * ((a.1 : Int) * a.2 * prP l j + lin a.1 a.2 (qrP l) j)
    have h := congrFun (dX_lin a.1 a.2 (qrP l)) j
    have h : (j : Int) * lin a.1 a.2 (qrP l) j = lin a.1 a.2 (dX (qrP l)) j + (a.2 : Int) * pX (qrP l) j := h
    have h2 : (j : Int) * prP l j = dX (prP l) j := rfl
    have h3 : lin a.1 a.2 (qrP l) j = (a.1 : Int) * qrP l j + (a.2 : Int) * pX (qrP l) j := rfl
    simp only [List.length_cons]
    grind
/-! what is taken out put back -/
theorem prP_back {q : (Nat × Nat) × List (Nat × Nat)} {l : List (Nat × Nat)} (h : q ∈ dels l) : lin q.1.1 q.1.2 (prP q.2) = prP l := by
  induction l generalizing q with
  | nil => cases h
  | cons a l ih =>
    rcases List.mem_cons.mp h with rfl | h
    · rfl
    · obtain ⟨x, hx, rfl⟩ := List.mem_map.mp h
      show lin x.1.1 x.1.2 (lin a.1 a.2 (prP x.2)) = lin a.1 a.2 (prP l)
      rw [lin_comm, ih hx]
theorem qrP_back {q : (Nat × Nat) × List (Nat × Nat)} {l : List (Nat × Nat)} (h : q ∈ dels l) : (fun j => ((q.1.1 : Int) * q.1.2) * prP q.2 j + lin q.1.1 q.1.2 (qrP q.2) j) = qrP l := by
  induction l generalizing q with
  | nil => cases h
  | cons a l ih =>
    rcases List.mem_cons.mp h with rfl | h
    · rfl
    · obtain ⟨x, hx, rfl⟩ := List.mem_map.mp h
      have e := ih hx
      have e2 := prP_back hx
      show (fun j => ((x.1.1 : Int) * x.1.2) * lin a.1 a.2 (prP x.2) j + lin x.1.1 x.1.2 (fun j => (a.1 : Int) * a.2 * prP x.2 j + lin a.1 a.2 (qrP x.2) j) j) = fun j => (a.1 : Int) * a.2 * prP l j + lin a.1 a.2 (qrP l) j
      rw [← e, ← e2, lin_add, lin_add, lin_smul, lin_smul, lin_comm]
      funext j
      grind
theorem dels_fst {α : Type} (l : List α) : (dels l).map (·.1) = l := by
  induction l with
  | nil => rfl
  | cons a l ih =>
    rw [dels, List.map_cons, List.map_map]
    show a :: (dels l).map (·.1) = _
    rw [ih]
theorem sumV_congr {α : Type} {f g : α → Pol} {xs : List α} (h : ∀ x ∈ xs, ∀ j, f x j = g x j) : sumV f xs = sumV g xs := by
  funext j
  unfold sumV
  congr 1
  exact List.map_congr_left fun x hx => h x hx j
theorem sum_tc (l : List (Nat × Nat)) (c : Pol) : sumV (fun q j => (q.1.1 : Int) * c j) (dels l) = fun j => (tsum l : Int) * c j := by
  funext j
  unfold sumV tsum
  have e : (dels l).map (fun q => (q.1.1 : Int) * c j) = l.map fun a => (a.1 : Int) * c j := by
    conv => rhs; rw [← dels_fst l, List.map_map]
    rfl
  rw [e]
  clear e
  induction l with
  | nil => simp
  | cons a l ih =>
    simp only [List.map_cons, List.sum_cons]
    rw [ih]
    grind
theorem deg_pr : ∀ {l : List (Nat × Nat)} {j : Nat}, fsum l < j → prP l j = 0
  | [], j, h => if_neg (by unfold fsum at h; simp at h; omega)
  | a :: l, 0, h => by omega
  | a :: l, j + 1, h => by
    have h : a.2 + fsum l < j + 1 := h
    show (a.1 : Int) * prP l (j + 1) + (a.2 : Int) * prP l j = 0
    rw [deg_pr (l := l) (j := j + 1) (by omega)]
    by_cases z : a.2 = 0
    · rw [z]
      simp
    · rw [deg_pr (l := l) (j := j) (by omega)]
      simp
theorem deg_qr : ∀ {l : List (Nat × Nat)} {j : Nat}, fsum l ≤ j → qrP l j = 0
  | [], j, h => rfl
  | a :: l, j, h => by
    have h : a.2 + fsum l ≤ j := h
    show (a.1 : Int) * a.2 * prP l j + ((a.1 : Int) * qrP l j + (a.2 : Int) * pX (qrP l) j) = 0
    rw [deg_qr (l := l) (j := j) (by omega)]
    by_cases z : a.2 = 0
    · rw [z]
      simp
    · rw [deg_pr (l := l) (j := j) (by omega)]
      cases j with
      | zero => simp [pX]
      | succ j =>
        show _ + ((a.1 : Int) * 0 + (a.2 : Int) * qrP l j) = 0
        rw [deg_qr (l := l) (j := j) (by omega)]
        simp
def fac : Nat → Nat
  | 0 => 1
  | n + 1 => (n + 1) * fac n
/-- the weights -/
def Lw (B : Int) (m : Nat) (p : Pol) : Int := ((List.range m).map fun j => p j * B ^ j * (fac (m - 1 - j) : Int)).sum
theorem sum_map_add {α : Type} (f g : α → Int) (xs : List α) : (xs.map fun x => f x + g x).sum = (xs.map f).sum + (xs.map g).sum := by
  induction xs with
  | nil => rfl
  | cons x xs ih =>
    simp only [List.map_cons, List.sum_cons]
    omega
theorem sum_map_smul {α : Type} (c : Int) (f : α → Int) (xs : List α) : (xs.map fun x => c * f x).sum = c * (xs.map f).sum := by
  induction xs with
  | nil => simp
  | cons x xs ih =>
    simp only [List.map_cons, List.sum_cons]
    grind
theorem Lw_add (B : Int) (m : Nat) (p q : Pol) : Lw B m (fun j => p j + q j) = Lw B m p + Lw B m q := by
  unfold Lw
  rw [← sum_map_add]
  congr 1
  exact List.map_congr_left fun j _ => by grind
theorem Lw_smul (B : Int) (m : Nat) (c : Int) (p : Pol) : Lw B m (fun j => c * p j) = c * Lw B m p := by
  unfold Lw
  rw [← sum_map_smul]
  congr 1
  exact List.map_congr_left fun j _ => by grind
theorem Lw_sub (B : Int) (m : Nat) (p q : Pol) : Lw B m (fun j => p j - q j) = Lw B m p - Lw B m q := by
  rw [show (fun j => p j - q j) = fun j => p j + (-1) * q j from funext fun j => by omega, Lw_add, Lw_smul]
  omega
theorem Lw_zero (B : Int) (p : Pol) : Lw B 0 p = 0 := rfl
theorem Lw_none (B : Int) (m : Nat) {p : Pol} (h : ∀ j, p j = 0) : Lw B m p = 0 := by
  rw [show p = fun j => (0 : Int) * p j from funext fun j => by rw [h j]; simp, Lw_smul]
  simp
theorem Lw_X (B : Int) (m : Nat) (p : Pol) : Lw B (m + 1) (pX p) = B * Lw B m p := by
  unfold Lw
  rw [List.range_succ_eq_map, List.map_cons, List.sum_cons, List.map_map, ← sum_map_smul]
  show (0 : Int) * B ^ 0 * _ + _ = _
  rw [Int.zero_mul, Int.zero_mul, Int.zero_add]
  congr 1
  refine List.map_congr_left fun j hj => ?_
  show p j * B ^ (j + 1) * (fac (m + 1 - 1 - (j + 1)) : Int) = B * (p j * B ^ j * (fac (m - 1 - j) : Int))
  rw [show m + 1 - 1 - (j + 1) = m - 1 - j by omega, Int.pow_succ]
  grind
theorem Lw_D (B : Int) (m : Nat) (p : Pol) (h : ∀ j, m < j → p j = 0) : Lw B (m + 2) p = Lw B (m + 1) (fun j => ((m : Int) + 1) * p j - dX p j) := by
  unfold Lw
  rw [show List.range (m + 2) = List.range (m + 1) ++ [m + 1] from List.range_succ, List.map_append, List.sum_append]
  rw [show ([m + 1].map fun j => p j * B ^ j * (fac (m + 2 - 1 - j) : Int)).sum = 0 from by simp [h (m + 1) (by omega)], Int.add_zero]
  congr 1
  refine List.map_congr_left fun j hj => ?_
  have hj : j < m + 1 := List.mem_range.mp hj
  rw [show m + 2 - 1 - j = (m - j) + 1 by omega, show m + 1 - 1 - j = m - j by omega]
  show p j * B ^ j * (((m - j + 1) * fac (m - j) : Nat) : Int) = (((m : Int) + 1) * p j - (j : Int) * p j) * B ^ j * (fac (m - j) : Int)
  have e : ((m - j : Nat) : Int) = (m : Int) - j := by omega
  rw [Int.natCast_mul, Int.natCast_add, e]
  generalize B ^ j = b
  generalize (fac (m - j) : Int) = f
  grind
theorem Lw_lin (B : Int) (m t f : Nat) (p : Pol) : Lw B (m + 1) (lin t f p) = (t : Int) * Lw B (m + 1) p + (f : Int) * (B * Lw B m p) := by
  rw [show lin t f p = fun j => (t : Int) * p j + (f : Int) * pX p j from rfl, Lw_add, Lw_smul, Lw_smul, Lw_X]
theorem Lw_sum {α : Type} (B : Int) (m : Nat) (g : α → Pol) (xs : List α) : Lw B m (sumV g xs) = (xs.map fun x => Lw B m (g x)).sum := by
  induction xs with
  | nil => exact Lw_none B m fun _ => rfl
  | cons x xs ih =>
    rw [sumV_cons, Lw_add, ih]
    rfl
theorem Lw_two (B : Int) (m : Nat) (a : Int) (p q : Pol) : Lw B m (fun j => a * p j + q j) = a * Lw B m p + Lw B m q := by rw [Lw_add B m (fun j => a * p j) q, Lw_smul]
theorem Lw_five (B : Int) (m : Nat) (a1 a2 a3 a5 : Int) (p1 p2 p3 p4 p5 : Pol) : Lw B m (fun j => a1 * p1 j + a2 * p2 j + a3 * p3 j + p4 j + a5 * p5 j) = a1 * Lw B m p1 + a2 * Lw B m p2 + a3 * Lw B m p3 + Lw B m p4 + a5 * Lw B m p5 := by
  rw [Lw_add B m (fun j => a1 * p1 j + a2 * p2 j + a3 * p3 j + p4 j) (fun j => a5 * p5 j), Lw_add B m (fun j => a1 * p1 j + a2 * p2 j + a3 * p3 j) p4, Lw_add B m (fun j => a1 * p1 j + a2 * p2 j) (fun j => a3 * p3 j), Lw_add B m (fun j => a1 * p1 j) (fun j => a2 * p2 j), Lw_smul, Lw_smul, Lw_smul, Lw_smul]
/-- what the count is told by -/
def Sw (B : Int) (F : Nat) (l : List (Nat × Nat)) : Int := Lw B (F + 1) (prP l) - Lw B F (qrP l)
theorem sum_W (tc fc : Nat) (l : List (Nat × Nat)) : sumV (fun q j => (q.1.1 : Int) * prP ((tc + q.1.1, fc + q.1.2) :: q.2) j) (dels l) = fun j => lin tc fc (fun j => (l.length : Int) * prP l j - dX (prP l) j) j + (tsum l : Int) * prP l j := by
  have h : sumV (fun q j => (q.1.1 : Int) * prP ((tc + q.1.1, fc + q.1.2) :: q.2) j) (dels l) = sumV (fun q j => lin tc fc (fun j => (q.1.1 : Int) * prP q.2 j) j + (q.1.1 : Int) * prP l j) (dels l) := by
    refine sumV_congr fun q hq j => ?_
    have e := congrFun (prP_back hq) j
    have e : (q.1.1 : Int) * prP q.2 j + (q.1.2 : Int) * pX (prP q.2) j = prP l j := e
    rw [lin_smul, ← e]
    show (q.1.1 : Int) * (((tc + q.1.1 : Nat) : Int) * prP q.2 j + ((fc + q.1.2 : Nat) : Int) * pX (prP q.2) j) = (q.1.1 : Int) * ((tc : Int) * prP q.2 j + (fc : Int) * pX (prP q.2) j) + (q.1.1 : Int) * ((q.1.1 : Int) * prP q.2 j + (q.1.2 : Int) * pX (prP q.2) j)
    grind
  rw [h, sumV_add, sumV_lin, sum_tP, sum_tc]
theorem sum_M (tc fc : Nat) (l : List (Nat × Nat)) : sumV (fun q j => (q.1.1 : Int) * qrP ((tc + q.1.1, fc + q.1.2) :: q.2) j) (dels l) =
    fun j => (tc : Int) * fc * ((l.length : Int) * prP l j - dX (prP l) j) + (tc : Int) * qrP l j + (fc : Int) * ((tsum l : Int) * prP l j - pX (qrP l) j) + lin tc fc (fun j => ((l.length : Int) - 1) * qrP l j - dX (qrP l) j) j + (tsum l : Int) * qrP l j := by
  have h : sumV (fun q j => (q.1.1 : Int) * qrP ((tc + q.1.1, fc + q.1.2) :: q.2) j) (dels l) =
      sumV (fun q j => ((tc : Int) * fc * ((q.1.1 : Int) * prP q.2 j) + (tc : Int) * (((q.1.1 : Int) * q.1.2) * prP q.2 j)) + ((fc : Int) * (((q.1.1 : Int) * q.1.1) * prP q.2 j) + (lin tc fc (fun j => (q.1.1 : Int) * qrP q.2 j) j + (q.1.1 : Int) * qrP l j))) (dels l) := by
    refine sumV_congr fun q hq j => ?_
    have e := congrFun (qrP_back hq) j
    have e : ((q.1.1 : Int) * q.1.2) * prP q.2 j + ((q.1.1 : Int) * qrP q.2 j + (q.1.2 : Int) * pX (qrP q.2) j) = qrP l j := e
    rw [lin_smul, ← e]
    show (q.1.1 : Int) * (((tc + q.1.1 : Nat) : Int) * ((fc + q.1.2 : Nat) : Int) * prP q.2 j + (((tc + q.1.1 : Nat) : Int) * qrP q.2 j + ((fc + q.1.2 : Nat) : Int) * pX (qrP q.2) j)) = _
    show _ = ((tc : Int) * fc * ((q.1.1 : Int) * prP q.2 j) + (tc : Int) * (((q.1.1 : Int) * q.1.2) * prP q.2 j)) + ((fc : Int) * (((q.1.1 : Int) * q.1.1) * prP q.2 j) + ((q.1.1 : Int) * ((tc : Int) * qrP q.2 j + (fc : Int) * pX (qrP q.2) j) + (q.1.1 : Int) * (((q.1.1 : Int) * q.1.2) * prP q.2 j + ((q.1.1 : Int) * qrP q.2 j + (q.1.2 : Int) * pX (qrP q.2) j))))
    grind
  rw [h, sumV_add, sumV_add, sumV_add, sumV_add, sumV_smul, sumV_smul, sumV_smul, sum_tP, sum_tfP, sum_ttP, sumV_lin, sum_tQ, sum_tc]
  funext j
  grind
/-- one more door: it goes to what another component has, or begins anew -/
theorem Sw_step (tc f m : Nat) (l : List (Nat × Nat)) (fresh : Nat) (hF : m = f + fsum l) (hC : l.length + fresh = m + 1) (B : Int) (hB : B = (fresh : Int) + tsum l + tc) :
    ((dels l).map fun q => (q.1.1 : Int) * Sw B m ((tc + q.1.1, f + q.1.2) :: q.2)).sum + (fresh : Int) * Sw B m ((tc + 1, f) :: l) = Sw B (m + 1) ((tc, f + 1) :: l) := by
  have e1 : ((dels l).map fun q => (q.1.1 : Int) * Sw B m ((tc + q.1.1, f + q.1.2) :: q.2)).sum = Lw B (m + 1) (sumV (fun q j => (q.1.1 : Int) * prP ((tc + q.1.1, f + q.1.2) :: q.2) j) (dels l)) - Lw B m (sumV (fun q j => (q.1.1 : Int) * qrP ((tc + q.1.1, f + q.1.2) :: q.2) j) (dels l)) := by
    rw [Lw_sum, Lw_sum]
    generalize dels l = xs
    induction xs with
    | nil => rfl
    | cons x xs ih =>
      simp only [List.map_cons, List.sum_cons]
      rw [ih, Lw_smul, Lw_smul]
      unfold Sw
      grind
  have hP : ∀ j, m < j → prP l j = 0 := fun j hj => deg_pr (by omega)
  have hQ : ∀ j, m ≤ j → qrP l j = 0 := fun j hj => deg_qr (by omega)
  have eC : (l.length : Int) = (m : Int) + 1 - fresh := by omega
  -- the first weight
  have D1 : Lw B (m + 1) (fun j => (l.length : Int) * prP l j - dX (prP l) j) = Lw B (m + 2) (prP l) - (fresh : Int) * Lw B (m + 1) (prP l) := by
    rw [Lw_D B m _ hP, show (fun j => (l.length : Int) * prP l j - dX (prP l) j) = fun j => (((m : Int) + 1) * prP l j - dX (prP l) j) - (fresh : Int) * prP l j from funext fun j => by rw [eC]; grind, Lw_sub B _ _ _, Lw_smul]
  have D2 : (f : Int) * Lw B m (fun j => (l.length : Int) * prP l j - dX (prP l) j) = (f : Int) * (Lw B (m + 1) (prP l) + Lw B m (prP l) - (fresh : Int) * Lw B m (prP l)) := by
    by_cases z : f = 0
    · rw [z]; simp
    obtain ⟨k, rfl⟩ : ∃ k, m = k + 1 := ⟨m - 1, by omega⟩
    rw [Lw_D B k _ fun j hj => deg_pr (by omega), show (fun j => (l.length : Int) * prP l j - dX (prP l) j) = fun j => ((((k : Int) + 1) * prP l j - dX (prP l) j) + prP l j) - (fresh : Int) * prP l j from funext fun j => by rw [eC]; grind, Lw_sub B _ _ _, Lw_smul, Lw_add]
  have D3 : Lw B m (fun j => ((l.length : Int) - 1) * qrP l j - dX (qrP l) j) = Lw B (m + 1) (qrP l) - (fresh : Int) * Lw B m (qrP l) := by
    by_cases z : m = 0
    · subst z
      rw [Lw_zero, Lw_zero, Lw_none B 1 fun j => hQ j (Nat.zero_le _)]
      simp
    obtain ⟨k, rfl⟩ : ∃ k, m = k + 1 := ⟨m - 1, by omega⟩
    rw [Lw_D B k _ fun j hj => hQ j (by omega), show (fun j => ((l.length : Int) - 1) * qrP l j - dX (qrP l) j) = fun j => (((k : Int) + 1) * qrP l j - dX (qrP l) j) - (fresh : Int) * qrP l j from funext fun j => by rw [eC]; grind, Lw_sub B _ _ _, Lw_smul]
  have D4 : ∀ k, m = k + 1 → (f : Int) * Lw B k (fun j => ((l.length : Int) - 1) * qrP l j - dX (qrP l) j) = (f : Int) * (Lw B m (qrP l) + Lw B k (qrP l) - (fresh : Int) * Lw B k (qrP l)) := fun k hk => by
    by_cases z : f = 0
    · rw [z]; simp
    by_cases y : k = 0
    · subst y
      subst hk
      have q0 : ∀ j, qrP l j = 0 := fun j => deg_qr (by omega)
      rw [Lw_zero, Lw_zero, Lw_none B _ q0]
      simp
    obtain ⟨i, rfl⟩ : ∃ i, k = i + 1 := ⟨k - 1, by omega⟩
    subst hk
    rw [Lw_D B i _ fun j hj => deg_qr (by omega), show (fun j => ((l.length : Int) - 1) * qrP l j - dX (qrP l) j) = fun j => ((((i : Int) + 1) * qrP l j - dX (qrP l) j) + qrP l j) - (fresh : Int) * qrP l j from funext fun j => by rw [eC]; grind, Lw_sub B _ _ _, Lw_smul, Lw_add]
  have S0 : Sw B (m + 1) ((tc, f + 1) :: l) = Lw B (m + 2) (lin tc (f + 1) (prP l)) - Lw B (m + 1) (fun j => (tc : Int) * ((f + 1 : Nat) : Int) * prP l j + lin tc (f + 1) (qrP l) j) := rfl
  have S1 : Sw B m ((tc + 1, f) :: l) = Lw B (m + 1) (lin (tc + 1) f (prP l)) - Lw B m (fun j => ((tc + 1 : Nat) : Int) * (f : Int) * prP l j + lin (tc + 1) f (qrP l) j) := rfl
  have Da : (f : Int) * (B * Lw B m (fun j => (l.length : Int) * prP l j - dX (prP l) j)) = B * ((f : Int) * (Lw B (m + 1) (prP l) + Lw B m (prP l) - (fresh : Int) * Lw B m (prP l))) := by
    rw [← D2]; grind
  have W1 : Lw B (m + 1) (fun j => lin tc f (fun j => (l.length : Int) * prP l j - dX (prP l) j) j + (tsum l : Int) * prP l j) = (tc : Int) * (Lw B (m + 2) (prP l) - (fresh : Int) * Lw B (m + 1) (prP l)) + B * ((f : Int) * (Lw B (m + 1) (prP l) + Lw B m (prP l) - (fresh : Int) * Lw B m (prP l))) + (tsum l : Int) * Lw B (m + 1) (prP l) := by
    rw [Lw_add B (m + 1) (lin tc f (fun j => (l.length : Int) * prP l j - dX (prP l) j)) (fun j => (tsum l : Int) * prP l j), Lw_lin, Lw_smul, D1, Da]
  have N0 : Lw B (m + 1) (fun j => (tc : Int) * ((f + 1 : Nat) : Int) * prP l j + lin tc (f + 1) (qrP l) j) = (tc : Int) * ((f + 1 : Nat) : Int) * Lw B (m + 1) (prP l) + ((tc : Int) * Lw B (m + 1) (qrP l) + ((f + 1 : Nat) : Int) * (B * Lw B m (qrP l))) := by
    rw [Lw_two B (m + 1) ((tc : Int) * ((f + 1 : Nat) : Int)) (prP l) (lin tc (f + 1) (qrP l)), Lw_lin]
  rw [e1, sum_W, sum_M, S0, S1, W1, N0, Lw_lin, Lw_lin]
  rw [Lw_five B m ((tc : Int) * f) tc f (tsum l) (fun j => (l.length : Int) * prP l j - dX (prP l) j) (qrP l) (fun j => (tsum l : Int) * prP l j - pX (qrP l) j) (lin tc f fun j => ((l.length : Int) - 1) * qrP l j - dX (qrP l) j) (qrP l)]
  rw [Lw_two B m (((tc + 1 : Nat) : Int) * (f : Int)) (prP l) (lin (tc + 1) f (qrP l))]
  by_cases z : m = 0
  · subst z
    have f0 : f = 0 := by omega
    subst f0
    have q0 : Lw B (0 + 1) (qrP l) = 0 := Lw_none B _ fun j => hQ j (Nat.zero_le _)
    simp only [Lw_zero]
    rw [q0]
    generalize Lw B (0 + 2) (prP l) = a3
    generalize Lw B (0 + 1) (prP l) = a2
    rw [show ((tc + 1 : Nat) : Int) = (tc : Int) + 1 from rfl, show ((0 + 1 : Nat) : Int) = 1 from rfl, show ((0 : Nat) : Int) = 0 from rfl]
    generalize Lw B (0 + 1 + 1) (prP l) = a4
    rw [hB]
    grind
  obtain ⟨k, rfl⟩ : ∃ k, m = k + 1 := ⟨m - 1, by omega⟩
  have D4 := D4 k rfl
  have Db : (f : Int) * (B * Lw B k (fun j => ((l.length : Int) - 1) * qrP l j - dX (qrP l) j)) = B * ((f : Int) * (Lw B (k + 1) (qrP l) + Lw B k (qrP l) - (fresh : Int) * Lw B k (qrP l))) := by
    rw [← D4]; grind
  have Dc : (tc : Int) * (f : Int) * Lw B (k + 1) (fun j => (l.length : Int) * prP l j - dX (prP l) j) = (tc : Int) * ((f : Int) * (Lw B (k + 1 + 1) (prP l) + Lw B (k + 1) (prP l) - (fresh : Int) * Lw B (k + 1) (prP l))) := by
    rw [← D2]; grind
  rw [Dc, Lw_lin, D3, Db, Lw_sub B (k + 1) (fun j => (tsum l : Int) * prP l j) (pX (qrP l)), Lw_smul, Lw_X, Lw_lin]
  rw [show ((tc + 1 : Nat) : Int) = (tc : Int) + 1 from rfl, show ((f + 1 : Nat) : Int) = (f : Int) + 1 from rfl]
  show _ = (tc : Int) * Lw B (k + 1 + 2) (prP l) + _ - _
  generalize Lw B (k + 1 + 2) (prP l) = a3
  generalize Lw B (k + 1 + 1) (prP l) = a2
  generalize Lw B (k + 1) (prP l) = a1
  generalize Lw B (k + 1 + 1) (qrP l) = b2
  generalize Lw B (k + 1) (qrP l) = b1
  generalize Lw B k (qrP l) = b0
  rw [hB]
  grind
end KQ
/-! rules that the layer lacks: calls where no repr is going on; repr of data; max of a tuple; enumerate of a tuple -/
namespace KR
open PySem PySem.Spec PyProof.Rows L2

/-! ### defs called where no guard stands -/
structure FnG (P : Program) (w : World) (K : PySem.W.Frag) (mg : Str → Option Value) (base : Heap)
    (k : Nat) (f : Addr) (fd : FuncData) (ps : List Str) (sp : Sp) : Prop where
  len : ∀ vs H Q E, sp vs H Q E → vs.length = ps.length
  run : ∀ (A : Around) (outer : List Env) (s : Shared) (H : Hp) (args : Args) (us : List Value) (vs : List V) (Q : VK) (E : XK),
    A.guards = some [] → Room k A → Env0 P w K mg base A outer s H → BindsTo s fd args (ps.zip us) → Vals vs us → sp vs H Q E →
    codeAny (model P w) A (.call (.ref f) args) (CR CX0 outer P w H s Q E) s

theorem FnG.up {P : Program} {w : World} {K : PySem.W.Frag} {mg : Str → Option Value} {base : Heap} {j k : Nat} {f : Addr}
    {fd : FuncData} {ps : List Str} {sp : Sp} (F : FnG P w K mg base j f fd ps sp) (h : j ≤ k) : FnG P w K mg base k f fd ps sp :=
  ⟨F.len, fun A outer s H args us vs Q E hg hr => F.run A outer s H args us vs Q E hg (hr.mono h)⟩

theorem Fun.okG {P : Program} {w : World} {K : PySem.W.Frag} {mg : Str → Option Value} {base : Heap}
    {x qual : Str} {st : Stmt} {f : Addr} {fd : FuncData} {N ps : List Str} {k : Nat} {sp : Sp}
    (F : Fun K x qual st f fd) (S : FnScope N ps (defScope st)) (len : ∀ vs H Q E, sp vs H Q E → vs.length = ps.length)
    (body : ∀ (cdv : Value) (A : Around) (outer : List Env) (s : Shared) (H : Hp) (vs : List V) (Q : VK) (E : XK),
      (A.deeper (envOfC qual (defScope st) s.heap.objs.size f cdv)).guards = some [] →
      Room k (A.deeper (envOfC qual (defScope st) s.heap.objs.size f cdv)) → sp vs H Q E →
      ∃ t, PSs (cxOf CX0 P w K mg base N qual (defScope st) f cdv A outer s H E).nox (defBody st) t ∧
        t { nx := fun _ H' => Q .non H', rt := Q } (start N vs) H) : FnG P w K mg base (k + 1) f fd ps sp := by
  obtain ⟨oc, od, kV, doc, pm, an, cdv, ct, osl, rfl, lk, hcd⟩ := F.ex
  refine ⟨len, fun A outer s H args us vs Q E hg hr e0 hb r hsp => ?_⟩
  have hlen := len _ _ _ _ hsp
  have inS : K.In s.heap :=
    e0.mod.kin.keeps fun b o e => (e0.bs b o e).1
  have nolim : s.heap.NoLimit :=
    e0.mod.nolimit.keeps fun b o e => (e0.bs b o e).1
  have kinds : ∀ y ∈ ps.zip us, (defScope st).names.lookup y.1 = some .local ∨
      ((defScope st).names.lookup y.1 = some .cell ∧ ((cellsFrom (s.heap.objs.size + 1) (defScope st).names []).lookup y.1).isSome = true) := by
    rintro ⟨n, v⟩ hy
    rcases S.par n (List.of_mem_zip hy).1 with q | q
    · exact Or.inl q
    · exact Or.inr ⟨q, PySem.W.cellsFrom_some _ _ _ (Or.inl q)⟩
  refine codeAny_call_function hr.depth (inS _ _ lk) rfl S.co S.gen rfl
    (PySem.W.codeRec_of inS hcd) (hb _ _ _ _ ?_)
  refine wpAny_newFunctionEnv_cells S.kind kinds fun env he s1 x => ?_
  subst he
  refine ⟨nolim.keeps x.toInCall.keep, codeAny_func ?_⟩
  obtain ⟨t, ht, hq⟩ := body cdv A outer s H vs Q E hg (hr.deeper _) hsp
  have I : Inv (cxOf CX0 P w K mg base N qual (defScope st) f cdv A outer s H E) [] (start N vs) H s1 :=
    inv_start S hr.hd e0 hlen r x
  refine wpAny_mono (ht.nox.run [] s1 (start N vs) H _ I hq) (fun fl s' hs => ?_) (fun e s' hs => hs)
  have fin : ∀ {σ' : L2.St} {H' : Hp} {v : V} {u : Value}, Inv (cxOf CX0 P w K mg base N qual (defScope st) f cdv A outer s H E) [] σ' H' s' →
      RelV v u → Q v H' → CE outer P w H s Q u s' := by
    intro σ' H' v u J rv q
    exact ⟨v, H', J.os, J.bare, J.base, J.hok, rv, q⟩
  cases fl with
  | ret u =>
    obtain ⟨v, σ', H', J, rv, q⟩ := hs
    exact fin J rv q
  | next =>
    obtain ⟨σ', H', J, q⟩ := hs
    exact fin (v := V.non) (u := Value.none) J rfl q
  | brk =>
    obtain ⟨_, _, _, q⟩ := hs
    exact q.elim
  | cont =>
    obtain ⟨_, _, _, q⟩ := hs
    exact q.elim

section
variable {X : Cx} {k : Nat} {f : Addr} {fd : FuncData} {ps : List Str} {sp : Sp} {dvs : List V} {ds : List Value} {x : Str} {p pos : Pos} {e : Expr} {es : List Expr} {t : TA}

/-- a call where no guard stands -/
theorem pe_callG (F : FnG X.prog X.w X.K X.mg X.base k f fd ps sp) (gd : X.A.guards = some []) (hr : Room k X.A) (hg : Gl X x) (hm : X.mg x = some (.ref f))
    (hk : PySem.W.keepIn X.K (.ref f) = true) (hb : Binds X.K fd ps ds) (hd : Vals dvs ds) (ha : PA X (e :: es) t)
    (hdb : (x == ("__debug__" : Str)) = false := by decide)
    (he : starEach (e :: es) X.env = (false, eval e X.env) :: starEach es X.env := by rfl)
    (hpl : (backTo pos (starEach es X.env)).any (·.1) = false := by rfl) :
    PE X (.Call (.Name x p) (e :: es) [] pos) (tCall sp dvs E0 t) := by
  refine ⟨fun pins s σ H Q I h => ?_⟩
  refine wpAny_Call_Name_kw (ld_glob I hg hm ?_ hdb)
  refine PySem.W.callWith_K (h₀ := X.base) I.ok.mod.kin hk
    (thn (ha.run pos pins s σ H _ I h) fun us s1 ⟨vs, H1, I1, r, q⟩ => ⟨I1.kIn, ?_⟩) he hpl
  have r2 : Vals (vs ++ dvs) (us ++ ds) := r.append hd
  have hl : (us ++ ds).length = ps.length := by
    rw [← r2.length]
    exact F.len _ _ _ _ q
  refine wpAny_call (codeAny_mono (F.run X.A X.stack s1 H1 ⟨us, []⟩ (us ++ ds) (vs ++ dvs) Q E0 gd hr I1.env0
    (hb s1 us I1.kIn hl) r2 q) fun r s' hq => ?_)
  cases r with
  | error e => exact (show False from hq).elim
  | ok fl =>
    cases fl with
    | ret u => exact I1.after hq
    | next => exact (show False from hq).elim
    | brk => exact (show False from hq).elim
    | cont => exact (show False from hq).elim
end

/-! ### repr of data -/
def rRepr (K : PySem.W.Frag) : List V → Hp → VK → Prop := fun xs H Q => ∃ v d, xs = [v] ∧ Dp K H v d ∧
  isDisplay d = true ∧ d.showable = true ∧ d.hasDict = false ∧ d.depth ≤ 30 ∧ d.shown.length ≤ sizeLine ∧ Q (.str d.shown) H
theorem call_reprD {X : Cx} (gd : X.A.guards = some []) (hu : X.A.units + 64 < cLine) : CallR X (.builtin "repr") (rRepr X.K) := by
  intro pins s σ H xs us Q I r h
  obtain ⟨v, d, rfl, hd, hdisp, hs, hnd, hdep, hlen, q⟩ := h
  cases r with
  | cons r1 rr =>
    cases rr
    obtain ⟨as, rd⟩ := Dp.reads I d v _ hd r1
    obtain ⟨a, rfl⟩ := isRef_of_reads rd hdisp
    refine repr_of_reads' rd hs (PyData.noDict_hsm hnd) gd (by omega) (fun _ _ e => e) (fun h' u tk hk => ?_) hlen
    exact ⟨.str d.shown, H, I.kept hk, ⟨u, rfl⟩, q⟩

/-! ### the law's own call -/
theorem law_callG {P : Program} {w : World} {K : PySem.W.Frag} {mg mb : Str → Option Value} {k : Nat} {fa a : Addr} {fd : FuncData} {x : Str} {sp : Sp}
    {s₁ : Shared} {vs : List Value} {ns : List Int} (KX : K.In s₁.heap) (hns : s₁.heap.Ns mainGlobals mg) (hb : s₁.heap.Ns builtinsNs mb)
    (hbb : ∀ x : Str, x ≠ "__name__" → mb x = bootBuiltins x) (hlim : s₁.heap.NoLimit) (hg : s₁.gens = #[])
    (ha : s₁.heap.get? a = some { cls := .type "list", data := .seq vs.toArray }) (hi : IntsAre vs ns) (hl : ns.length ≤ sizeLine) (hr : Room k callerA)
    (F : ∀ base : Heap, K.In base → base.Ns mainGlobals mg → FnG P w K mg base k fa fd [x] sp)
    (hbind : ∀ (s : Shared) (u : Value), BindsTo s fd ⟨[u], []⟩ [(x, u)])
    (hsp : ∀ H : Hp, Only H → SqL K H a (ns.map V.int) → sp [.ref a] H (fun v _ => v = .bl true) fun _ _ _ => False) :
    codeAny (model P w) callerA (.call (.ref fa) ⟨[.ref a], []⟩)
      (fun r s' => r = .ok (.ret (.bool true)) ∧ OldK s₁.heap s'.heap ∧ s'.os = s₁.os ∧ AllBare s'.gens) s₁ := by
  have core : ∀ H : Hp, Only H → SqL K H a (ns.map V.int) → HOk P w H s₁.heap → (∀ b, H b ≠ none → b = a ∧ K.lookup b = none) →
      codeAny (model P w) callerA (.call (.ref fa) ⟨[.ref a], []⟩)
        (fun r s' => r = .ok (.ret (.bool true)) ∧ OldK s₁.heap s'.heap ∧ s'.os = s₁.os ∧ AllBare s'.gens) s₁ := by
    intro H hO hS hok hA
    have get1 : ∀ {b : Addr} {o : Obj}, s₁.heap.get? b = some o → H b = none → (hidT s₁.heap H).get? b = some o :=
      fun e n => hidT_get e n
    have freeD : ∀ {b : Addr} {o : Obj} {es : Array DictEntry} {ep : Nat}, s₁.heap.get? b = some o → o.data = .dict es ep → H b = none := by
      intro b o es ep e d
      apply Classical.byContradiction
      intro hne
      have eb := (hA b hne).1
      rw [eb, ha] at e
      cases e
      exact nomatch (show Data.seq vs.toArray _ = Data.dict es ep from d)
    have spaces : ∀ {b : Addr} {m : Str → Option Value}, s₁.heap.Ns b m → (hidT s₁.heap H).Ns b m := by
      rintro b m ⟨o, es, ep, e, d, r⟩
      exact ⟨o, es, ep, get1 e (freeD e d), d, r⟩
    have inB : K.In (hidT s₁.heap H) := by
      intro b o e
      refine get1 (KX b o e) (Classical.byContradiction fun hne => ?_)
      have := (hA b hne).2
      rw [e] at this
      cases this
    have hM : Mod K mg (hidT s₁.heap H) := by
      obtain ⟨mc, h1, h2⟩ := hlim
      exact ⟨inB, spaces hns, ⟨mb, spaces hb, hbb⟩, ⟨mc, spaces h1, h2⟩⟩
    have e0 : Env0 P w K mg (hidT s₁.heap H) callerA [] s₁ H :=
      ⟨rfl, hM, fun b o e => of_hidT e, Nat.le_of_eq (hidT_size _ _), trivial, fun b hb => (List.not_mem_nil hb).elim, hok, .of_eq hg⟩
    have run := (F _ inB (spaces hns)).run callerA [] s₁ H ⟨[.ref a], []⟩ [.ref a] [.ref a] _ _ (by first | rfl | decide) hr e0
      (hbind s₁ (.ref a)) (.cons rfl .nil) (hsp H hO hS)
    refine codeAny_mono run fun r s' h => ?_
    cases r with
    | error e => exact (show False from h).elim
    | ok fl =>
      cases fl with
      | next => exact (show False from h).elim
      | brk => exact (show False from h).elim
      | cont => exact (show False from h).elim
      | ret u =>
        obtain ⟨v, H', os, bare, un, hok', r', q⟩ := h
        obtain rfl : v = .bl true := q
        obtain rfl : u = Value.bool true := r'
        refine ⟨rfl, OldK.of_keep fun b o e => ?_, os, bare⟩
        rcases hO b with q | ⟨ob, xs, z⟩
        · exact un.keep b o e q (fun z => (List.not_mem_nil z).elim) (by simp)
        · have z2 := un.frzs b ob _ z
          obtain ⟨e1, _⟩ := hok b _ z
          obtain ⟨e2, _⟩ := hok' b _ z2
          rw [e] at e1
          cases e1
          exact e2
  have rv := vals_ints hi
  have lenV := hi.length
  cases hk : K.lookup a with
  | some o =>
    have e := KX a o hk
    rw [ha] at e
    cases e
    refine core (fun _ => none) (fun _ => Or.inl rfl) ?_ ?_ (fun b z => (z rfl).elim)
    · refine Or.inr ⟨_, vs.toArray, _, hk, rfl, rfl, rfl, ?_, ?_⟩
      · rw [List.size_toArray, lenV]
        exact hl
      · simpa using rv
    · intro b u z
      exact nomatch (show (none : Option HO) = some u from z)
  | none =>
    have only : ∀ b, (if b = a then some (HO.frz { cls := .type "list", data := .seq vs.toArray } (.lst (ns.map V.int))) else none) ≠ none → b = a := by
      intro b z
      exact Classical.byContradiction fun hb => z (if_neg hb)
    refine core (fun b => if b = a then some (.frz { cls := .type "list", data := .seq vs.toArray } (.lst (ns.map V.int))) else none) ?_ ?_ ?_ ?_
    · intro b
      by_cases hb : b = a
      · exact Or.inr ⟨_, _, if_pos hb⟩
      · exact Or.inl (if_neg hb)
    · exact Or.inl (Or.inr ⟨{ cls := .type "list", data := .seq vs.toArray }, if_pos rfl⟩)
    · intro b u z
      have hb := only b (by rw [show (if b = a then _ else _) = some u from z]; exact fun q => nomatch q)
      subst hb
      cases (if_pos rfl).symm.trans z
      exact ⟨ha, by rw [List.length_map]; exact hl, vs, _, rv, ha⟩
    · intro b z
      have hb := only b z
      exact ⟨hb, by rw [hb]; exact hk⟩

theorem walk_ofG {l : PySem.W.OpenLaw} {n k : Nat} {q : Program} {loose : List Str} {XP : (Str → Option Value) → Heap → Prop} {YP : World → Heap → Prop}
    {d : DefRec} {K : Params → PySem.W.Frag} {sp : World → Sp} {x : Str}
    (hn : l.most = some n) (hn2 : n ≤ sizeLine) (hdf : d.params.defaults = []) (hr : Room k callerA)
    (hY : ∀ (w : World) (h : Heap), YP w h → (K w.params).In h)
    (F : ∀ (w : World) (mg : Str → Option Value) (fa : Addr) (h : Heap), (K w.params).In h → h.Ns mainGlobals mg → mg d.name = some (.ref fa) →
      ∃ fd : FuncData, (∀ (s : Shared) (u : Value), BindsTo s fd ⟨[u], []⟩ [(x, u)]) ∧
        ∀ base : Heap, (K w.params).In base → base.Ns mainGlobals mg → FnG l.prog w (K w.params) mg base k fa fd [x] (sp w))
    (hsp : ∀ (w : World) (H : Hp) (a : Addr) (ns : List Int), ns.length ≤ n → Only H → SqL (K w.params) H a (ns.map V.int) →
      sp w [.ref a] H (fun v _ => v = .bl true) fun _ _ _ => False) :
    PySem.W.WalkO q loose XP YP l.row.toRowW d [] (fun f vs => PySem.call f vs) := by
  refine Att.attach_call hn hdf fun w s₀ s₁ mg mb fa o pm cd doc a vs ns G Y ho hd hcd hmg hobj hints hlen hg => ?_
  obtain ⟨fd, hb, hF⟩ := F w mg fa _ (hY w _ Y) G.T.g hmg
  exact law_callG (hY w _ Y) G.T.g G.T.b G.T.builtins G.T.nolimit hg hobj hints (Nat.le_trans hlen hn2) hr hF hb
    (fun H hO hS => hsp w H a ns hlen hO hS)
end KR
namespace KR
open PySem PySem.Spec PyProof.Rows L2

/-! ### max of a tuple of whole numbers -/
theorem dpAll_ints {K : PySem.W.Frag} {H : Hp} : ∀ ns : List Int, DpAll K H (ns.map V.int) (ns.map PyData.int)
  | [] => .nil
  | n :: ns => .cons (.int n) (dpAll_ints ns)
def rMaxT (K : PySem.W.Frag) : List V → Hp → VK → Prop := fun vs H Q => ∃ (a : Addr) (ns : List Int), vs = [V.ref a] ∧ SqT K H a (ns.map V.int) ∧ ns ≠ [] ∧
  ∀ m, m ∈ ns → (∀ y, y ∈ ns → y ≤ m) → Q (.int m) H
theorem maxOf_spec : ∀ (r : List Int) (x : Int), PySem.W.maxOf x r ∈ x :: r ∧ ∀ y ∈ x :: r, y ≤ PySem.W.maxOf x r
  | [], x => by
    refine ⟨List.mem_cons_self, fun y hy => ?_⟩
    rw [List.mem_singleton.mp hy]
    exact Int.le_refl _
  | z :: r, x => by
    have e : PySem.W.maxOf x (z :: r) = PySem.W.maxOf (if decide (x < z) = true then z else x) r := rfl
    rw [e]
    obtain ⟨h1, h2⟩ := maxOf_spec r (if decide (x < z) = true then z else x)
    have h3 : x ≤ (if decide (x < z) = true then z else x) ∧ z ≤ (if decide (x < z) = true then z else x) := by
      by_cases h : x < z
      · rw [if_pos (decide_eq_true h)]
        omega
      · rw [if_neg (by simpa using h)]
        omega
    have h4 := h2 _ List.mem_cons_self
    refine ⟨?_, fun y hy => ?_⟩
    · rcases List.mem_cons.mp h1 with q | q
      · rw [q]
        by_cases h : x < z
        · rw [if_pos (decide_eq_true h)]
          exact List.mem_cons_of_mem _ List.mem_cons_self
        · rw [if_neg (by simpa using h)]
          exact List.mem_cons_self
      · exact List.mem_cons_of_mem _ (List.mem_cons_of_mem _ q)
    · rcases List.mem_cons.mp hy with q | q
      · rw [q]
        omega
      · rcases List.mem_cons.mp q with q | q
        · rw [q]
          omega
        · exact h2 y (List.mem_cons_of_mem _ q)
theorem call_maxT {X : Cx} (hc : X.calm = true) (hu : X.A.units + 64 < cLine) : CallR X (.builtin "max") (rMaxT X.K) := by
  intro pins s σ H vs us Q I r h
  obtain ⟨a, ns, rfl, hs, hne, q⟩ := h
  obtain ⟨its, rv, hl, _⟩ := I.tuple hs
  rw [Vals.ref1 r]
  cases ns with
  | nil => exact (hne rfl).elim
  | cons x xs =>
    obtain ⟨as, rd⟩ := Dp.readsAll I ((x :: xs).map PyData.int) _ its (dpAll_ints (x :: xs)) rv
    refine PySem.W.max_tuple_datum (x := x) (xs := xs) (vs := its.toArray) (I.ok.hd hc) (show s.heap.IsTuple a its.toArray from hl) ⟨as, by rw [show its.toArray.toList = its by simp]; exact rd⟩ (by show X.A.units + 1 + 0 < cLine; omega) fun i v h' tk hv hh hk => ?_
    obtain ⟨bs, rr⟩ := hh
    obtain ⟨t, rfl⟩ : ∃ t, v = .int (PySem.W.maxOf x xs) t := by
      cases rr with
      | int _ t => exact ⟨t, rfl⟩
    obtain ⟨h1, h2⟩ := maxOf_spec xs x
    exact ⟨.int _, H, I.kept hk, ⟨_, rfl⟩, q _ h1 h2⟩

/-! ### enumerate of a tuple -/
def IteT (K : PySem.W.Frag) (a : Addr) : It where
  go := fun i H => ∃ (xs : List V) (x : V), SqT K H a xs ∧ xs[i]? = some x
  yld := fun i H v H' => ∃ T x, v = .ref T ∧ H T = none ∧ H' = upd H T (.tup [.int (i : Nat), x]) ∧ ∀ xs, SqT K H a xs → xs[i]? = some x
  stop := fun i H => ∃ xs : List V, SqT K H a xs ∧ xs.length ≤ i
theorem turn_enumT {P : Program} {w : World} {K : PySem.W.Frag} {elts : List Expr} {kk : Nat} {tpos : Pos} (a e it : Addr) (hea : a ≠ it) (hee : a ≠ e) :
    Turn P w K (.Tuple elts kk tpos) (IteT K a) [e, it] e
      (fun i h => (∃ old, IsEnum h e it ((i : Nat) : Int) old) ∧ h.IsTupleIter it a i ∧ e ≠ it) where
  mem := List.mem_cons_self
  obj := by
    rintro i h ⟨⟨old, he⟩, ⟨o, ho, hc, hd⟩, _⟩ b hb
    rcases List.mem_cons.mp hb with z | z
    · subst z
      exact ⟨_, he, fun v q => nomatch q⟩
    · cases List.mem_singleton.mp z
      exact ⟨o, ho, fun v q => by rw [hd] at q; cases q⟩
  keep := by
    rintro i h h' ⟨⟨old, he⟩, hi, hne⟩ k
    exact ⟨⟨old, k e List.mem_cons_self _ he⟩, hi.at fun o q => k it (List.mem_cons_of_mem _ List.mem_cons_self) o q, hne⟩
  item := by
    intro X hP hw hK hc i pins s σ H E I hf st hg
    subst hP hw hK
    obtain ⟨⟨old, he⟩, hit, hne⟩ := st
    obtain ⟨xs, x, hq, hx⟩ := hg
    obtain ⟨its, rv, p, hz⟩ := I.tuple hq
    obtain ⟨u, hu, ru⟩ := rv.get hx
    have hT : s.heap.IsTuple a its.toArray := p
    have hel : e < s.heap.objs.size := Heap.lt_size he
    have hil : it < s.heap.objs.size := by
      obtain ⟨_, q, _⟩ := hit
      exact Heap.lt_size q
    have hlt : i < its.toArray.size := by
      have := (List.getElem?_eq_some_iff.mp hu).1
      simpa using this
    have D := Draws.tuple (prog := X.prog) (w := X.w) (A := X.A.in1) (I.ok.hd hc) it a hea its.toArray
    have hef : e ∉ [it, a] := by
      intro hm
      rcases List.mem_cons.mp hm with z | z
      · exact hne z
      · exact hee (List.mem_singleton.mp z).symm
    refine wpAny_pyNext_enum_itemD D he ⟨hit, hT⟩ hlt hne hef fun x' h' tk hP ho hit' hT' hsz hk => ?_
    have ex : x' = u := by
      have h1 : its.toArray[i]? = some u := by simpa using hu
      rw [show its.toArray[i]? = some x' from hP] at h1
      exact Option.some.inj h1
    subst ex
    refine ⟨_, rfl, wpAny_letOwnedTupleGo_enum (s := { s with heap := h', toks := tk + 1 }) ho fun h'' he' sb => ?_⟩
    have hT2 : h''.get? s.heap.objs.size = some { cls := .type "tuple", data := .seq #[.int i tk, x'] } :=
      (sb.2 _ (Nat.ne_of_gt hel)).trans hT'
    have new : ObjOk X.prog X.w (upd H s.heap.objs.size (.tup [.int (i : Nat), x])) h'' s.heap.objs.size (.tup [.int (i : Nat), x]) :=
      ⟨show 2 ≤ sizeLine by decide, [.int i tk, x'], .cons ⟨_, rfl⟩ (.cons ru .nil), _, hT2, rfl, _, rfl⟩
    have I1 : Inv X pins σ (upd H s.heap.objs.size (.tup [.int (i : Nat), x])) { s with heap := h'', toks := tk + 1 } := by
      refine I.turnedNew (ch := [e, it]) (fun b ob hb q => ?_) hf (Nat.le_refl _) new
      have hbe : b ≠ e := fun z => hb (by rw [z]; exact List.mem_cons_self)
      have hbi : b ≠ it := fun z => hb (by rw [z]; exact List.mem_cons_of_mem _ List.mem_cons_self)
      exact (sb.2 b hbe).trans (hk b ob hbe hbi q)
    refine ⟨.ref s.heap.objs.size, _, I1, rfl, ⟨_, x, rfl, I.hok.fresh (Nat.le_refl _), rfl, fun ys hy => ?_⟩, ⟨⟨x', ?_⟩, ?_, hne⟩, fun b hb => ?_⟩
    · rw [I.tuple_inj hy hq]
      exact hx
    · rw [show ((i + 1 : Nat) : Int) = (i : Int) + 1 by omega]
      exact he'
    · exact hit'.1.at fun o q => (sb.2 it (Ne.symm hne)).trans q
    · have hb' : b < s.heap.objs.size := by
        rcases List.mem_cons.mp hb with z | z
        · rw [z]
          exact hel
        · rw [List.mem_singleton.mp z]
          exact hil
      rw [upd_ne (Nat.ne_of_lt hb')]
      exact (hf b hb).1
  done := by
    intro X hP hw hK hc i pins s σ H E I hf st hg
    subst hP hw hK
    obtain ⟨⟨old, he⟩, hit, hne⟩ := st
    obtain ⟨xs, hq, hx⟩ := hg
    obtain ⟨its, rv, p, hz⟩ := I.tuple hq
    obtain ⟨f0, f1, f2, f3, f4, f5⟩ := hf it (List.mem_cons_of_mem _ List.mem_cons_self)
    have hl := rv.length
    have hT : s.heap.IsTuple a its.toArray := p
    have hT0 : s.TypeIs (.ref e) "enumerate" := ⟨_, he, rfl⟩
    unfold pyNext
    refine wpAny_bind (wpAny_attempt (wpAny_callSpecial?_slot (name := Str.ofString "__next__") hT0 F.slot_enumerate_next
      (wpAny_call_entry F.slot_enumerate_next hT0 F.entry_enumerate_next ?_ (F.args_enumerate_next_1 _))))
    show wpAny _ _ (field (.ref e) 2 >>= _) _ _ s
    refine wpAny_bind (wpAny_field he rfl (x := .ref it) rfl ?_)
    refine wpAny_bind (wpAny_nextOf_tuple_end (A := X.A.in1) (I.ok.hd hc) hit hT ?_ fun h' x he' hx' => ?_)
    · simp
      omega
    · obtain ⟨o, ho, hcl⟩ := hx'
      refine wpAny_bind (wpAny_isInstance (T := "StopIteration") (b := true) ⟨o, ho, hcl⟩ isSubtype_stop ?_)
      exact wpAny_pure ⟨rfl, I.turned (t' := s.toks) (fun b o hb q => he' b o hb q) f0 f1 f3 f4 f5⟩
  self := fun A i s Q E st h => let ⟨⟨_, he⟩, _⟩ := st; wpAny_pyIter_enum he h
def iEnumT (K : PySem.W.Frag) (ta : TA) : TI := fun σ H R => ta σ H fun vs H1 => ∃ a xs, vs = [.ref a] ∧ SqT K H1 a xs ∧ R (IteT K a) H1
set_option maxHeartbeats 4000000 in
theorem meets_enumT (t : Addr) (items : Array Value) :
    Meets (Builtin.«enumerate.__new__» ⟨[.type "enumerate", .ref t], []⟩) (fun _ R s => s.heap.IsTuple t items ∧
      R (.ok (.ret (.ref (s.heap.push { cls := .type "tuple_iterator", data := .fields #[.ref t, .int 0 0] }).objs.size)))
        { s with heap := (s.heap.push { cls := .type "tuple_iterator", data := .fields #[.ref t, .int 0 0] }).push { cls := .type "enumerate", data := .fields #[.none, .bool false, .ref s.heap.objs.size, rawInt 0, .none, .none] } }) :=
  .of_wp fun prog w A R s h => by
    obtain ⟨hp, g, d, tk, os⟩ := s
    obtain ⟨h1, h⟩ := h
    have hsub := sub_enumerate
    have B := begins_tuple t items
    have q1 : ∀ {A' : Around} {E : Value → Shared → Prop} {Q : Value → Shared → Prop},
        Q (.ref hp.objs.size) ⟨hp.push { cls := .type "tuple_iterator", data := .fields #[.ref t, .int 0 0] }, g, d, tk, os⟩ → wpAny (model prog w) A' (pyIter (.ref t)) Q E ⟨hp, g, d, tk, os⟩ :=
      fun q => B.iter prog w _ _ ⟨hp, g, d, tk, os⟩ _ h1 q
    wp_walk using q1
    refine wpAny_stack_any fun st => wpAny_pure ?_
    split
    · rename_i c _ _ _ _ _
      cases (c == Value.type "enumerate")
      · wp_walk using q1
        exact ⟨_, rfl, h⟩
      · wp_walk using q1
        exact ⟨_, rfl, h⟩
    · wp_walk using q1
      exact ⟨_, rfl, h⟩
theorem call_enumT {prog : Program} {w : World} {A : Around} {E : Value → Shared → Prop} {s : Shared} {t : Addr} {items : Array Value} {Q : Value → Shared → Prop} (hT : s.heap.IsTuple t items)
    (h : ∀ h', IsEnum h' (s.heap.objs.size + 1) s.heap.objs.size 0 .none → h'.IsTupleIter s.heap.objs.size t 0 → h'.objs.size = s.heap.objs.size + 2 →
      (∀ b o, s.heap.get? b = some o → h'.get? b = some o) → Q (.ref (s.heap.objs.size + 1)) { s with heap := h' }) :
    wpAny (model prog w) A (call (.type "enumerate") [.ref t]) Q E s := by
  refine callType_new F.called_enumerate (by decide) (F.typeCall_enumerate_1 _) (F.newCall_enumerate_1 _) (fun obj => F.args_object_init_2 obj _) F.entry_enumerate_new
    (meets_enumT t items) ⟨hT, ?_⟩
  have hz : (s.heap.push { cls := .type "tuple_iterator", data := .fields #[.ref t, .int 0 0] }).objs.size = s.heap.objs.size + 1 := Heap.size_push ..
  show _ ∧ _
  rw [hz]
  have he : IsEnum ((s.heap.push { cls := .type "tuple_iterator", data := .fields #[.ref t, .int 0 0] }).push
      { cls := .type "enumerate", data := .fields #[.none, .bool false, .ref s.heap.objs.size, rawInt 0, .none, .none] }) (s.heap.objs.size + 1) s.heap.objs.size 0 .none := by
    have q := Heap.get?_push_size (s.heap.push { cls := .type "tuple_iterator", data := .fields #[.ref t, .int 0 0] })
      (o := { cls := .type "enumerate", data := .fields #[.none, .bool false, .ref s.heap.objs.size, rawInt 0, .none, .none] }) rfl
    rw [hz] at q
    exact q
  refine ⟨⟨_, he, rfl⟩, h _ he ⟨{ cls := .type "tuple_iterator", data := .fields #[.ref t, .int 0 0] }, Heap.get?_push_of_some _ (Heap.get?_push_size _ rfl), rfl, rfl⟩ (by rw [Heap.size_push, hz]) fun b o x => ?_⟩
  exact Heap.get?_push_of_some _ (Heap.get?_push_of_some _ x)
theorem pi_enumT {X : Cx} {e : Expr} {ta : TA} {p pos tpos : Pos} {elts : List Expr} {kk : Nat} (hg : Gl X "enumerate") (hm : X.mg "enumerate" = none)
    (ha : PA X [e] ta) (hs : starEach [e] X.env = [(false, eval e X.env)] := by rfl) :
    PI X (.Tuple elts kk tpos) (.Call (.Name "enumerate" p) [e] [] pos) (iEnumT X.K ta) := by
  refine ⟨fun pins s σ H R I h => ?_⟩
  refine Call_ (ld_blt I hg hm boot_enumerate (PyProof.Rows.callWith_type1
    (thn (ha.run pos pins s σ H _ I h) fun us s1 ⟨vs, H1, I1, r1, q1⟩ => ?_) hs rfl))
  obtain ⟨a, xs, ex, hq, q⟩ := q1
  subst ex
  rw [Vals.ref1 r1]
  obtain ⟨its, rv, p', hz⟩ := I1.tuple hq
  have hT : s1.heap.IsTuple a its.toArray := p'
  have hal : a < s1.heap.objs.size := by
    obtain ⟨o, ho, _⟩ := id hT
    exact Heap.lt_size ho
  refine call_enumT hT fun h' he hit hsz hk => wpAny_pyIter_enum he ?_
  have I2 : Inv X pins σ H1 { s1 with heap := h' } := I1.kept (t' := s1.toks) hk
  refine ⟨s1.heap.objs.size + 1, [s1.heap.objs.size + 1, s1.heap.objs.size], _, _, H1, rfl, I2,
    turn_enumT a (s1.heap.objs.size + 1) s1.heap.objs.size (Nat.ne_of_lt hal) (Nat.ne_of_lt (Nat.lt_succ_of_lt hal)), ⟨⟨.none, he⟩, hit, Nat.succ_ne_self _⟩, fun b hb => ?_, q⟩
  have hle : s1.heap.objs.size ≤ b := by
    rcases List.mem_cons.mp hb with z | z
    · rw [z]
      exact Nat.le_add_right _ _
    · rw [List.mem_singleton.mp z]
      exact Nat.le_refl _
  exact I1.fpOk hle (I1.hok.fresh hle)
end KR
/-! list(zip(t, u)) of two tuples -/
namespace KR
open PySem PySem.Spec PySem.W PyProof.Rows L2 RZ

section
variable {prog : Program} {w : World} {A : Around} {E : Value → Shared → Prop} {s : Shared}
theorem zipH_item {z TI TO T i1 i2 l1 l2 : Addr} {f : Bool} {oT : Obj} {k1 k2 : Nat} {xs ys : Array Value} {x y : Value} {Q : Option Value → Shared → Prop}
    (D : ZipApart z TI TO i1 i2 l1 l2) (hz : IsZipHeld s.heap z TI TO T f) (hT : s.heap.get? T = some oT) (hTI : IsPair s.heap TI (.ref i1) (.ref i2))
    (h1 : s.heap.IsTupleIter i1 l1 k1) (h2 : s.heap.IsTupleIter i2 l2 k2) (hl1 : s.heap.IsTuple l1 xs) (hl2 : s.heap.IsTuple l2 ys) (hx : xs[k1]? = some x) (hy : ys[k2]? = some y)
    (hQ : ∀ h', IsZipHeld h' z TI TO T true → h'.IsTupleIter i1 l1 (k1 + 1) → h'.IsTupleIter i2 l2 (k2 + 1) → IsPair h' s.heap.objs.size x y → h'.objs.size = s.heap.objs.size + 1 →
      (∀ c o, c ≠ z → c ≠ i1 → c ≠ i2 → s.heap.get? c = some o → h'.get? c = some o) → Q (some (.ref s.heap.objs.size)) { s with heap := h' }) :
    wpAny (model prog w) A (pyNext (.ref z)) Q E s := by
  have hTy : s.TypeIs (.ref z) "zip" := ⟨_, hz, rfl⟩
  unfold pyNext
  refine wpAny_bind (wpAny_attempt (wpAny_callSpecial?_slot (name := Str.ofString "__next__") hTy F.slot_zip_next
    (wpAny_call_entry F.slot_zip_next hTy F.entry_zip_next ?_ (F.args_zip_next_1 _))))
  show wpAny _ _ (field (.ref z) 2 >>= _) _ _ s
  refine wpAny_bind (wpAny_field hz rfl (x := .bool false) rfl ?_)
  show wpAny _ _ (field (.ref z) 3 >>= _) _ _ s
  refine wpAny_bind (wpAny_field hz rfl (x := .ref TI) rfl ?_)
  refine wpAny_bind (wpAny_seqItems hTI rfl ?_)
  show wpAny _ _ (Builtin.SmallTypes.ownedTupleIsFree (.ref z) >>= _) _ _ s
  refine wpAny_bind (wpAny_tupleHeld_zip hz hT fun g1 zz1 sb1 => ?_)
  simp only [Bool.false_eq_true, if_false]
  refine wpAny_bind ?_
  rw [← Array.forIn_toList]
  simp only [List.forIn_cons, List.forIn_nil]
  refine wpAny_bind (wpAny_bind (wpAny_holding ?_))
  show wpAny _ _ (Builtin.SmallTypes.nextOf (.ref i1) >>= _) _ _ { s with heap := g1 }
  refine wpAny_bind (wpAny_nextOf_tuple_item (s := { s with heap := g1 }) (h1.extBut sb1.extBut D.i1z) (hl1.extBut sb1.extBut D.l1z) hx fun g2 it2 sb2 => wpAny_pure ?_)
  refine wpAny_pure ?_
  refine wpAny_bind (wpAny_bind (wpAny_holding ?_))
  show wpAny _ _ (Builtin.SmallTypes.nextOf (.ref i2) >>= _) _ _ { s with heap := g2 }
  refine wpAny_bind (wpAny_nextOf_tuple_item (s := { s with heap := g2 }) ((h2.extBut sb1.extBut D.i2z).extBut sb2.extBut D.i12.symm)
    ((hl2.extBut sb1.extBut D.l2z).extBut sb2.extBut D.l2i1) hy fun g3 it3 sb3 => wpAny_pure ?_)
  refine wpAny_pure (wpAny_pure ?_)
  show wpAny _ _ (newTuple [x, y] >>= _) _ _ { s with heap := g3 }
  refine wpAny_bind (wpAny_newTuple ?_)
  have size3 : g3.objs.size = s.heap.objs.size := by rw [sb3.1, sb2.1, sb1.1]
  have zz3 : IsZipHeld g3 z TI TO T true := sb3.extBut _ _ D.i2z.symm (sb2.extBut _ _ D.i1z.symm zz1)
  have kp : ∀ c o, c ≠ z → c ≠ i1 → c ≠ i2 → s.heap.get? c = some o → g3.get? c = some o :=
    fun c o c1 c2 c3 e => sb3.extBut _ _ c3 (sb2.extBut _ _ c2 (sb1.extBut _ _ c1 e))
  have it1 : g3.IsTupleIter i1 l1 (k1 + 1) := it2.extBut sb3.extBut D.i12
  have pr : IsPair (g3.push { cls := .type "tuple", data := .seq #[x, y] }) g3.objs.size x y := Heap.get?_push_size _ rfl
  have sz4 : (g3.push { cls := .type "tuple", data := .seq #[x, y] }).objs.size = g3.objs.size + 1 := Heap.size_push ..
  refine wpAny_pure ⟨_, rfl, wpAny_pure ?_⟩
  show Q (some (.ref g3.objs.size)) _
  rw [size3] at pr sz4 ⊢
  exact hQ _ (Heap.get?_push_of_some _ zz3) (it1.at fun o e => Heap.get?_push_of_some _ e) (it3.at fun o e => Heap.get?_push_of_some _ e) pr sz4
    fun c o c1 c2 c3 e => Heap.get?_push_of_some _ (kp c o c1 c2 c3 e)
theorem zipH_end {z TI TO T i1 i2 l1 l2 : Addr} {f : Bool} {oT : Obj} {k1 : Nat} {xs : Array Value} {Q : Option Value → Shared → Prop} (hh : A.handled = none)
    (D : ZipApart z TI TO i1 i2 l1 l2) (hz : IsZipHeld s.heap z TI TO T f) (hT : s.heap.get? T = some oT) (hTI : IsPair s.heap TI (.ref i1) (.ref i2))
    (h1 : s.heap.IsTupleIter i1 l1 k1) (hl1 : s.heap.IsTuple l1 xs) (hx : xs[k1]? = none)
    (hQ : ∀ h', (∀ c o, c ≠ z → c ≠ i1 → s.heap.get? c = some o → h'.get? c = some o) → Q none { s with heap := h' }) : wpAny (model prog w) A (pyNext (.ref z)) Q E s := by
  have hTy : s.TypeIs (.ref z) "zip" := ⟨_, hz, rfl⟩
  unfold pyNext
  refine wpAny_bind (wpAny_attempt (wpAny_callSpecial?_slot (name := Str.ofString "__next__") hTy F.slot_zip_next
    (wpAny_call_entry F.slot_zip_next hTy F.entry_zip_next ?_ (F.args_zip_next_1 _))))
  show wpAny _ _ (field (.ref z) 2 >>= _) _ _ s
  refine wpAny_bind (wpAny_field hz rfl (x := .bool false) rfl ?_)
  show wpAny _ _ (field (.ref z) 3 >>= _) _ _ s
  refine wpAny_bind (wpAny_field hz rfl (x := .ref TI) rfl ?_)
  refine wpAny_bind (wpAny_seqItems hTI rfl ?_)
  show wpAny _ _ (Builtin.SmallTypes.ownedTupleIsFree (.ref z) >>= _) _ _ s
  refine wpAny_bind (wpAny_tupleHeld_zip hz hT fun g1 zz1 sb1 => ?_)
  simp only [Bool.false_eq_true, if_false]
  refine wpAny_bind ?_
  rw [← Array.forIn_toList]
  simp only [List.forIn_cons, List.forIn_nil]
  refine wpAny_bind (wpAny_bind (wpAny_holding ?_))
  show wpAny _ _ (Builtin.SmallTypes.nextOf (.ref i1) >>= _) _ _ { s with heap := g1 }
  refine wpAny_bind (wpAny_nextOf_tuple_end (s := { s with heap := g1 }) hh (h1.extBut sb1.extBut D.i1z) (hl1.extBut sb1.extBut D.l1z) hx fun g2 e sb2 he => ?_)
  obtain ⟨o, ho, hcl⟩ := he
  refine wpAny_bind (wpAny_isInstance (T := "StopIteration") (b := true) ⟨o, ho, hcl⟩ isSubtype_stop ?_)
  exact wpAny_pure (hQ g2 fun c o c1 c2 q => sb2 _ _ c2 (sb1.extBut _ _ c1 q))
end

section
variable {X : Cx} {pins : List (Addr × Obj)} {σ : L2.St}
/-- where the zip stands -/
def ZState (z TI TO i1 i2 a b S : Addr) (i : Nat) (h : Heap) : Prop :=
  IsPair h TI (.ref i1) (.ref i2) ∧ h.IsTupleIter i1 a i ∧ h.IsTupleIter i2 b i ∧
  ((IsZip h z TI TO .none ∧ ∃ u v, IsPair h TO u v) ∨
    ∃ T f oT, IsZipHeld h z TI TO T f ∧ h.get? T = some oT ∧ T ≠ S ∧ T ≠ z ∧ T ≠ i1 ∧ T ≠ i2 ∧ ∃ o2, h.get? TO = some o2)

theorem zl_loop {z TI TO i1 i2 a b S : Addr} {xs ys : List V} {R : Result → Shared → Prop} {H₀ : Hp} (D : ZipApart z TI TO i1 i2 a b) (hl : xs.length = ys.length) (hln : xs.length < sizeLine)
    (hS : S ∉ [z, TI, TO, i1, i2]) (hc : X.calm = true) (hS0 : H₀ S = none)
    (hR : ∀ (ts : List Addr) (H' : Hp) s', Inv X pins σ H' s' → Same H₀ H' → H' S = some (.lst (ts.map V.ref)) → ts.length = xs.length →
      (∀ (i : Nat) (t : Addr), ts[i]? = some t → H₀ t = none ∧ ∃ x y, xs[i]? = some x ∧ ys[i]? = some y ∧ H' t = some (.tup [x, y])) → R (.ok (.ret .none)) s') :
    ∀ (k i : Nat) (ts : List Addr) (H : Hp) (s : Shared), xs.length - i = k → i ≤ xs.length → ts.length = i → Inv X pins σ H s → Same H₀ H →
      SqT X.K H a xs → SqT X.K H b ys → H S = some (.lst (ts.map V.ref)) → (∀ c ∈ [z, TI, TO, i1, i2], FpOk X pins H c) →
      (∀ (i : Nat) (t : Addr), ts[i]? = some t → H₀ t = none ∧ ∃ x y, xs[i]? = some x ∧ ys[i]? = some y ∧ H t = some (.tup [x, y])) →
      ZState z TI TO i1 i2 a b S i s.heap → codeAny (model X.prog X.w) X.A.in1 (.builtin "list.extend.loop" ⟨[.ref S, .ref z, .none], []⟩) R s := by
  have Sz : S ≠ z := fun e => hS (by rw [e]; simp)
  have STI : S ≠ TI := fun e => hS (by rw [e]; simp)
  have STO : S ≠ TO := fun e => hS (by rw [e]; simp)
  have Si1 : S ≠ i1 := fun e => hS (by rw [e]; simp)
  have Si2 : S ≠ i2 := fun e => hS (by rw [e]; simp)
  intro k
  induction k with
  | zero =>
    intro i ts H s hk hi hts I sm qa qb eS fp tt st
    have e1 : i = xs.length := by omega
    obtain ⟨hTI, h1, h2, hz⟩ := st
    obtain ⟨its, rv, p1, _⟩ := I.tuple qa
    have l1 := rv.length
    have hend : its.toArray[i]? = none := by
      simp
      omega
    refine codeAny_builtin F.entry_extend_loop ?_
    rw [Around.under_plainId F.plain_extend_loop _]
    show wpAny _ _ (pyNext (.ref z) >>= _) _ _ s
    have fin : ∀ h' : Heap, (∀ c o, c ∉ [z, TI, TO, i1, i2] → s.heap.get? c = some o → h'.get? c = some o) → R (.ok (.ret .none)) { s with heap := h' } := by
      intro h' kp
      refine hR ts H _ (I.turnedL (t' := s.toks) (ch := [z, TI, TO, i1, i2]) kp fp) sm eS (by omega) tt
    rcases hz with ⟨hz, u, v, hTO⟩ | ⟨T, f, oT, hz, hT, n1, n2, n3, n4, o2, hO2⟩
    · obtain ⟨its2, rv2, p2, _⟩ := I.tuple qb
      refine wpAny_bind (pyNext_zipT_end (A := X.A.in1.in1) (I.ok.hd hc) D hz hTI hTO h1 h2 (show s.heap.IsTuple a its.toArray from p1) (show s.heap.IsTuple b its2.toArray from p2) (.inl hend) fun h' kp => ?_)
      exact wpAny_pure (fin h' fun c o hcm e => kp c o (fun q => hcm (by simp [q])) (fun q => hcm (by simp [q])) (fun q => hcm (by simp [q])) (fun q => hcm (by simp [q])) e)
    · refine wpAny_bind (zipH_end (A := X.A.in1.in1) (I.ok.hd hc) D hz hT hTI h1 (show s.heap.IsTuple a its.toArray from p1) hend fun h' kp => ?_)
      exact wpAny_pure (fin h' fun c o hcm e => kp c o (fun q => hcm (by simp [q])) (fun q => hcm (by simp [q])) e)
  | succ k ih =>
    intro i ts H s hk hi hts I sm qa qb eS fp tt st
    have hlt : i < xs.length := by omega
    have hlt2 : i < ys.length := by omega
    obtain ⟨hTI, h1, h2, hz⟩ := st
    obtain ⟨its, rv, p1, _⟩ := I.tuple qa
    obtain ⟨its2, rv2, p2, _⟩ := I.tuple qb
    have gx : xs[i]? = some xs[i] := List.getElem?_eq_getElem hlt
    have gy : ys[i]? = some ys[i] := List.getElem?_eq_getElem hlt2
    obtain ⟨u, hu, ru⟩ := rv.get gx
    obtain ⟨u2, hu2, ru2⟩ := rv2.get gy
    have au : its.toArray[i]? = some u := by simpa using hu
    have au2 : its2.toArray[i]? = some u2 := by simpa using hu2
    refine codeAny_builtin F.entry_extend_loop ?_
    rw [Around.under_plainId F.plain_extend_loop _]
    show wpAny _ _ (pyNext (.ref z) >>= _) _ _ s
    have lt : ∀ {c : Addr}, H c ≠ none → c < s.heap.objs.size := fun {c} hne => by
      cases q : H c with
      | none => exact (hne q).elim
      | some o => exact (I.hok c o q).lt
    have old5 : ∀ c ∈ [z, TI, TO, i1, i2], c < s.heap.objs.size → True := fun _ _ _ => trivial
    have new := I.hok.fresh (Nat.le_refl s.heap.objs.size)
    have go : ∀ h' : Heap, (∀ c o, c ∉ [z, TI, TO, i1, i2] → s.heap.get? c = some o → h'.get? c = some o) → IsPair h' s.heap.objs.size u u2 → h'.objs.size = s.heap.objs.size + 1 →
        (∀ c ∈ [z, TI, TO, i1, i2], c < s.heap.objs.size) → ZState z TI TO i1 i2 a b S (i + 1) h' →
        wpAny (model X.prog X.w) X.A.in1.in1 (updateSeq S (·.push (.ref s.heap.objs.size)) >>= fun _ => again (.builtin "list.extend.loop" ⟨[.ref S, .ref z, .none], []⟩))
          (fun fin s' => match fin with | .done f => R (.ok f) s' | .again c' => c'.quiet = true ∧ codeAny (model X.prog X.w) X.A.in1 c' R s') (fun e s' => R (.error e) s') { s with heap := h' } := by
      intro h' kp pr sz old st'
      have ob : ObjOk X.prog X.w (upd H s.heap.objs.size (.tup [xs[i], ys[i]])) h' s.heap.objs.size (.tup [xs[i], ys[i]]) :=
        ⟨show 2 ≤ sizeLine by decide, [u, u2], .cons ru (.cons ru2 .nil), _, pr, rfl, _, rfl⟩
      have I1 : Inv X pins σ (upd H s.heap.objs.size (.tup [xs[i], ys[i]])) { s with heap := h' } := I.turnedNew (t' := s.toks) kp fp (Nat.le_refl _) ob
      have nS : S ≠ s.heap.objs.size := ne_of_none eS new
      have eS1 : (upd H s.heap.objs.size (.tup [xs[i], ys[i]])) S = some (.lst (ts.map V.ref)) := by
        rw [upd_ne nS]
        exact eS
      obtain ⟨hz', its3, n3, ri, e3⟩ := I1.hok S _ eS1
      have l3 := ri.length
      rw [List.length_map] at l3
      have sm1 : Same H (upd H s.heap.objs.size (.tup [xs[i], ys[i]])) := fun c o e => by
        rw [upd_ne (ne_of_none e new)]
        exact e
      refine wpAny_bind (wpAny_updateSeq e3 rfl (wpAny_pure ⟨plainId_quiet F.plain_extend_loop _, ?_⟩) ?_)
      · have I2 : Inv X pins σ (upd (upd H s.heap.objs.size (.tup [xs[i], ys[i]])) S (.lst ((ts ++ [s.heap.objs.size]).map V.ref)))
            { s with heap := h'.update S (Obj.mapSeq (·.push (.ref s.heap.objs.size))) } := by
          have up := Heap.get?_update_self (Obj.mapSeq (·.push (Value.ref s.heap.objs.size))) e3 rfl
          refine I1.write (t' := s.toks) (by rw [eS1]; trivial) (.inl rfl) (fun c o hcS q => ?_) ⟨_, up⟩ ⟨?_, its3 ++ [.ref s.heap.objs.size], n3 + 1, ?_, ?_⟩
          · exact (Heap.get?_update_other _ _ (fun q' : S = c => hcS q'.symm)).trans q
          · rw [List.length_map, List.length_append]
            show ts.length + 1 ≤ sizeLine
            omega
          · rw [List.map_append]
            exact ri.append (.cons rfl .nil)
          · refine up.trans ?_
            simp [Obj.mapSeq]
        have keepS : ∀ c o, c ≠ S → h'.get? c = some o → (h'.update S (Obj.mapSeq (·.push (.ref s.heap.objs.size)))).get? c = some o :=
          fun c o hcS q => (Heap.get?_update_other _ _ (fun q' : S = c => hcS q'.symm)).trans q
        have sm2 : Same H₀ (upd (upd H s.heap.objs.size (.tup [xs[i], ys[i]])) S (.lst ((ts ++ [s.heap.objs.size]).map V.ref))) := fun c o e => by
          rw [upd_ne (fun q => by rw [q, hS0] at e; cases e)]
          exact sm1 c o (sm c o e)
        have seqs : ∀ (c : Addr) (vs : List V), c ≠ S → SqT X.K H c vs → SqT X.K (upd (upd H s.heap.objs.size (.tup [xs[i], ys[i]])) S (.lst ((ts ++ [s.heap.objs.size]).map V.ref))) c vs := by
          intro c vs hcS q
          rcases q with (q | ⟨o, q⟩) | q
          · exact .inl (.inl (by rw [upd_ne hcS]; exact sm1 _ _ q))
          · exact .inl (.inr ⟨o, by rw [upd_ne hcS]; exact sm1 _ _ q⟩)
          · exact .inr q
        have Sa : a ≠ S := fun q => by
          obtain ⟨o, ho, hcl, _⟩ := p1
          have := (I.hok S _ eS)
          obtain ⟨_, _, _, _, e⟩ := this
          rw [← q, ho] at e
          cases e
          exact nomatch (show Value.type "list" = Value.type "tuple" from hcl)
        have Sb : b ≠ S := fun q => by
          obtain ⟨o, ho, hcl, _⟩ := p2
          have := (I.hok S _ eS)
          obtain ⟨_, _, _, _, e⟩ := this
          rw [← q, ho] at e
          cases e
          exact nomatch (show Value.type "list" = Value.type "tuple" from hcl)
        refine ih (i + 1) (ts ++ [s.heap.objs.size]) _ _ (by omega) hlt (by rw [List.length_append, hts]; rfl) I2 sm2 (seqs a xs Sa qa) (seqs b ys Sb qb) upd_same (fun c hcm => ?_) (fun j t hj => ?_) ?_
        · have hcS : c ≠ S := fun q => hS (by rw [← q]; exact hcm)
          have f := fp c hcm
          refine ⟨?_, f.2⟩
          rw [upd_ne hcS, upd_ne (Nat.ne_of_lt (old c hcm))]
          exact f.1
        · by_cases hjl : j < ts.length
          · rw [List.getElem?_append_left hjl] at hj
            obtain ⟨q0, x, y, q1, q2, q3⟩ := tt j t hj
            refine ⟨q0, x, y, q1, q2, ?_⟩
            have htS : t ≠ S := fun q => by rw [q, eS] at q3; cases q3
            rw [upd_ne htS]
            exact sm1 _ _ q3
          · rw [List.getElem?_append_right (by omega)] at hj
            have hj0 : j - ts.length = 0 := by
              apply Classical.byContradiction
              intro q
              rw [List.getElem?_eq_none (by show 1 ≤ _; omega)] at hj
              cases hj
            rw [hj0] at hj
            cases hj
            have ej : j = i := by omega
            subst ej
            refine ⟨sm.free new, _, _, gx, gy, ?_⟩
            rw [upd_ne nS.symm, upd_same]
        · obtain ⟨s1, s2, s3, s4⟩ := st'
          refine ⟨keepS _ _ STI.symm s1, s2.at fun o e => keepS _ o Si1.symm e, s3.at fun o e => keepS _ o Si2.symm e, ?_⟩
          rcases s4 with ⟨s4, v1, v2, s5⟩ | ⟨T, f, oT, s4, s5, s6, s7⟩
          · exact .inl ⟨keepS _ _ Sz.symm s4, v1, v2, keepS _ _ STO.symm s5⟩
          · obtain ⟨m1, m2, m3, o2, m4⟩ := s7
            exact .inr ⟨T, f, oT, keepS _ _ Sz.symm s4, keepS _ _ s6 s5, s6, m1, m2, m3, o2, keepS _ _ STO.symm m4⟩
      · rw [List.size_toArray]
        omega
    have hil1 : i1 < s.heap.objs.size := by
      obtain ⟨_, q, _⟩ := h1
      exact Heap.lt_size q
    have hil2 : i2 < s.heap.objs.size := by
      obtain ⟨_, q, _⟩ := h2
      exact Heap.lt_size q
    have hSl : S < s.heap.objs.size := lt (by rw [eS]; exact fun q => nomatch q)
    rcases hz with ⟨hz, v1, v2, hTO⟩ | ⟨T, f, oT, hz, hT, n1, n2, n3, n4, o2, hO2⟩
    · have all5 : ∀ c ∈ [z, TI, TO, i1, i2], c < s.heap.objs.size := by
        intro c hcm
        simp only [List.mem_cons, List.not_mem_nil, or_false] at hcm
        rcases hcm with q | q | q | q | q
        · rw [q]; exact Heap.lt_size hz
        · rw [q]; exact Heap.lt_size hTI
        · rw [q]; exact Heap.lt_size hTO
        · rw [q]; exact hil1
        · rw [q]; exact hil2
      refine wpAny_bind (pyNext_zipT_item D hz hTI hTO h1 h2 (show s.heap.IsTuple a its.toArray from p1) (show s.heap.IsTuple b its2.toArray from p2) au au2 fun h' a1 a2 a3 a4 a5 a6 kp => ?_)
      refine go h' (fun c o hcm e => kp c o (fun q => hcm (by simp [q])) (fun q => hcm (by simp [q])) (fun q => hcm (by simp [q])) (fun q => hcm (by simp [q])) e) a5 a6 all5 ?_
      exact ⟨kp _ _ D.TIz D.TITO D.TIi1 D.TIi2 hTI, a3, a4, .inr ⟨s.heap.objs.size, false, _, a1, a5, Nat.ne_of_gt hSl, Nat.ne_of_gt (Heap.lt_size hz), Nat.ne_of_gt hil1, Nat.ne_of_gt hil2, _, a2⟩⟩
    · refine wpAny_bind (zipH_item D hz hT hTI h1 h2 (show s.heap.IsTuple a its.toArray from p1) (show s.heap.IsTuple b its2.toArray from p2) au au2 fun h' a1 a3 a4 a5 a6 kp => ?_)
      refine go h' (fun c o hcm e => kp c o (fun q => hcm (by simp [q])) (fun q => hcm (by simp [q])) (fun q => hcm (by simp [q])) e) a5 a6 ?_ ?_
      · intro c hcm
        simp only [List.mem_cons, List.not_mem_nil, or_false] at hcm
        rcases hcm with q | q | q | q | q
        · rw [q]; exact Heap.lt_size hz
        · rw [q]; exact Heap.lt_size hTI
        · rw [q]; exact Heap.lt_size hO2
        · rw [q]; exact hil1
        · rw [q]; exact hil2
      · exact ⟨kp _ _ D.TIz D.TIi1 D.TIi2 hTI, a3, a4, .inr ⟨T, true, oT, a1, kp _ _ n2 n3 n4 hT, n1, n2, n3, n4, o2, kp _ _ D.TOz D.TOi1 D.TOi2 hO2⟩⟩
end

theorem zip_nolen : typeLookup (.type "zip") "__len__" = pure none := by rw [typeLookup_type, builtinLookup_eq_fast]; kernel_rfl
theorem zip_nohint : typeLookup (.type "zip") "__length_hint__" = pure none := by rw [typeLookup_type, builtinLookup_eq_fast]; kernel_rfl

section
variable {X : Cx} {pins : List (Addr × Obj)} {σ : L2.St}
/-- what list(zip(t, u)) gives -/
def Zipped (xs ys : List V) (H : Hp) (Q : VK) : Prop := ∀ (l : Addr) (ts : List Addr) (H' : Hp), H l = none → Same H H' → H' l = some (.lst (ts.map V.ref)) → ts.length = xs.length →
  (∀ (i : Nat) (t : Addr), ts[i]? = some t → H t = none ∧ ∃ x y, xs[i]? = some x ∧ ys[i]? = some y ∧ H' t = some (.tup [x, y])) → Q (.ref l) H'
theorem call_lzip {z TI TO i1 i2 a b : Addr} {xs ys : List V} {H : Hp} {s : Shared} {Q : VK} (D : ZipApart z TI TO i1 i2 a b) (hl : xs.length = ys.length) (hln : xs.length < sizeLine)
    (hc : X.calm = true) (I : Inv X pins σ H s) (qa : SqT X.K H a xs) (qb : SqT X.K H b ys) (fp : ∀ c ∈ [z, TI, TO, i1, i2], FpOk X pins H c)
    (hz : IsZip s.heap z TI TO .none) (hTI : IsPair s.heap TI (.ref i1) (.ref i2)) (hTO : IsPair s.heap TO .none .none)
    (h1 : s.heap.IsTupleIter i1 a 0) (h2 : s.heap.IsTupleIter i2 b 0) (q : Zipped xs ys H Q) :
    wpAny (model X.prog X.w) X.A (call (.type "list") [.ref z]) (EP X pins σ Q) X.xe s := by
  have all5 : ∀ c ∈ [z, TI, TO, i1, i2], c < s.heap.objs.size := by
    intro c hcm
    simp only [List.mem_cons, List.not_mem_nil, or_false] at hcm
    rcases hcm with q | q | q | q | q
    · rw [q]; exact Heap.lt_size hz
    · rw [q]; exact Heap.lt_size hTI
    · rw [q]; exact Heap.lt_size hTO
    · rw [q]; obtain ⟨_, q', _⟩ := h1; exact Heap.lt_size q'
    · rw [q]; obtain ⟨_, q', _⟩ := h2; exact Heap.lt_size q'
  have hSf : s.heap.objs.size ∉ [z, TI, TO, i1, i2] := fun hm => Nat.lt_irrefl _ (all5 _ hm)
  have new := I.hok.fresh (Nat.le_refl s.heap.objs.size)
  refine callType_codes (Q₁ := fun obj s₁ => obj = .ref s.heap.objs.size ∧ s₁ = { s with heap := s.heap.push { cls := .type "list", data := .seq #[] } }) F.called_list (F.typeCall_list_1 _) F.entry_list_init
    (code_list_new _ ⟨rfl, rfl⟩) fun obj s₁ e => ?_
  obtain ⟨rfl, rfl⟩ := e
  have hS : (s.heap.push { cls := .type "list", data := .seq #[] }).get? s.heap.objs.size = some { cls := .type "list", data := .seq #[] } := Heap.get?_push_size _ rfl
  refine ⟨⟨_, hS, rfl⟩, F.args_list_init_2 _ _, ?_⟩
  have kp0 : ∀ c o, s.heap.get? c = some o → (s.heap.push { cls := .type "list", data := .seq #[] }).get? c = some o := fun c o e => Heap.get?_push_of_some _ e
  show wpAny _ _ (do let old ← Builtin.List.listItems (.ref s.heap.objs.size); Builtin.List.listUpdate (.ref s.heap.objs.size) (fun _ => #[]); letGo old.toList.reverse; Builtin.List.listExtendWith (.ref s.heap.objs.size) (.ref z) .none) _ _ _
  refine wpAny_bind ?_
  unfold Builtin.List.listItems
  refine wpAny_bind (wpAny_seqItems hS rfl (wpAny_pure ?_))
  show wpAny _ _ (updateSeq s.heap.objs.size (fun _ => #[]) >>= fun _ => letGo (#[] : Array Value).toList.reverse >>= fun _ => Builtin.List.listExtendWith (.ref s.heap.objs.size) (.ref z) .none) _ _ _
  refine wpAny_bind (wpAny_updateSeq hS rfl ?_)
  have hS2 := Heap.get?_update_self (Obj.mapSeq (fun _ => (#[] : Array Value))) hS rfl
  have kp1 : ∀ c o, s.heap.get? c = some o → ((s.heap.push { cls := .type "list", data := .seq #[] }).update s.heap.objs.size (Obj.mapSeq (fun _ => (#[] : Array Value)))).get? c = some o :=
    fun c o e => (Heap.get?_update_other _ _ (Nat.ne_of_gt (Heap.lt_size e))).trans (kp0 c o e)
  refine wpAny_bind (wpAny_letGo ?_)
  generalize ((s.heap.push { cls := .type "list", data := .seq #[] }).update s.heap.objs.size (Obj.mapSeq (fun _ => (#[] : Array Value)))) = g1 at hS2 kp1 ⊢
  have hTy : ({ s with heap := g1 } : Shared).TypeIs (.ref z) "zip" := ⟨_, kp1 _ _ hz, rfl⟩
  unfold Builtin.List.listExtendWith
  refine wpAny_bind (wpAny_typeOf hTy ?_)
  have n1 : Builtin.List.listSameRef (.ref s.heap.objs.size) (.ref z) = false := by
    simp [Builtin.List.listSameRef, Nat.ne_of_gt (Heap.lt_size hz)]
  have n2 : (Value.type "zip" == Value.type "list") = false := by decide
  have n3 : (Value.type "zip" == Value.type "tuple") = false := by decide
  simp only [n1, n2, n3, Bool.or_false, Bool.false_eq_true, if_false]
  refine wpAny_bind (wpAny_pyIter_zip (kp1 _ _ hz) ?_)
  refine wpAny_bind (wpAny_holding ?_)
  unfold Builtin.List.listLengthHint
  refine wpAny_bind (wpAny_specialOf hTy zip_nolen ?_)
  show wpAny _ _ (specialOf (Value.ref z) (Str.ofString "__length_hint__") >>= _) _ _ _
  refine wpAny_bind (wpAny_specialOf hTy zip_nohint ?_)
  refine wpAny_pure ?_
  show wpAny _ _ (rule "list.extend.makes-room" >>= fun _ => Builtin.List.listTouch (.ref s.heap.objs.size) >>= fun _ =>
    again (.builtin "list.extend.loop" ⟨[.ref s.heap.objs.size, .ref z, .none], []⟩)) _ _ _
  refine wpAny_bind (wpAny_rule ?_)
  refine wpAny_bind ?_
  show wpAny _ _ (updateSeq s.heap.objs.size (·.push .none) >>= fun _ => updateSeq s.heap.objs.size (·.pop)) _ _ _
  refine wpAny_bind (wpAny_updateSeq hS2 rfl ?_)
  have hS3 := Heap.get?_update_self (Obj.mapSeq (·.push Value.none)) hS2 rfl
  refine wpAny_updateSeq (hz := by seq_fits) hS3 rfl ?_
  have hS4 := Heap.get?_update_self (Obj.mapSeq (·.pop)) hS3 rfl
  have kp2 : ∀ c o, s.heap.get? c = some o → ((g1.update s.heap.objs.size (Obj.mapSeq (·.push Value.none))).update s.heap.objs.size (Obj.mapSeq (·.pop))).get? c = some o :=
    fun c o e => (Heap.get?_update_other _ _ (Nat.ne_of_gt (Heap.lt_size e))).trans ((Heap.get?_update_other _ _ (Nat.ne_of_gt (Heap.lt_size e))).trans (kp1 c o e))
  generalize ((g1.update s.heap.objs.size (Obj.mapSeq (·.push Value.none))).update s.heap.objs.size (Obj.mapSeq (·.pop))) = g2 at hS4 kp2 ⊢
  have I2 : Inv X pins σ (upd H s.heap.objs.size (.lst [])) { s with heap := g2 } := by
    refine I.laid (t' := s.toks) kp2 (Nat.le_refl _) ⟨Nat.zero_le _, [], _, .nil, hS4⟩
  have sm : Same H (upd H s.heap.objs.size (.lst [])) := fun c o e => by
    rw [upd_ne (ne_of_none e new)]
    exact e
  have sqt : ∀ (c : Addr) (vs : List V), SqT X.K H c vs → SqT X.K (upd H s.heap.objs.size (.lst [])) c vs := by
    intro c vs q
    rcases q with (q | ⟨o, q⟩) | q
    · exact .inl (.inl (sm _ _ q))
    · exact .inl (.inr ⟨o, sm _ _ q⟩)
    · exact .inr q
  refine wpAny_pure ⟨plainId_quiet F.plain_extend_loop _, zl_loop D hl hln hSf hc new (fun ts H' s' I' sm' eS len tt => ⟨rfl, .ref s.heap.objs.size, H', I', rfl, q _ ts H' new sm' eS len tt⟩)
    xs.length 0 [] _ _ (Nat.sub_zero _) (Nat.zero_le _) rfl I2 sm (sqt a xs qa) (sqt b ys qb) upd_same (fun c hcm => ?_) (fun i t h => by simp at h) ?_⟩
  · have f := fp c hcm
    refine ⟨?_, f.2⟩
    rw [upd_ne (Nat.ne_of_lt (all5 c hcm))]
    exact f.1
  · exact ⟨kp2 _ _ hTI, h1.at fun o e => kp2 _ o e, h2.at fun o e => kp2 _ o e, .inl ⟨kp2 _ _ hz, _, _, kp2 _ _ hTO⟩⟩

/-- list(zip(e, e2)), two tuples of one length -/
theorem pe_lzip {e e2 : Expr} {ta : TA} {p p2 pos pos2 : Pos} (hc : X.calm = true) (hg : Gl X "list") (hm : X.mg "list" = none) (hg2 : Gl X "zip") (hm2 : X.mg "zip" = none) (ha : PA X [e, e2] ta)
    (hs : starEach [e, e2] X.env = (false, eval e X.env) :: starEach [e2] X.env := by rfl) (hpl : (backTo pos2 (starEach [e2] X.env)).any (·.1) = false := by rfl)
    (hs1 : starEach [.Call (.Name "zip" p2) [e, e2] [] pos2] X.env = [(false, eval (.Call (.Name "zip" p2) [e, e2] [] pos2) X.env)] := by rfl) :
    PE X (.Call (.Name "list" p) [.Call (.Name "zip" p2) [e, e2] [] pos2] [] pos)
      (fun σ H Q => ta σ H fun vs H1 => ∃ a b xs ys, vs = [.ref a, .ref b] ∧ SqT X.K H1 a xs ∧ SqT X.K H1 b ys ∧ xs.length = ys.length ∧ xs.length < sizeLine ∧ Zipped xs ys H1 Q) := by
  refine ⟨fun pins s σ H Q I h => ?_⟩
  refine Call_ (ld_blt I hg hm boot_list (PyProof.Rows.callWith_type1 (args_cons (Call_ (ld_blt I hg2 hm2 PyProof.Rows.boot_zip (PyProof.Rows.callWith_type1
    (thn (ha.run pos2 pins s σ H _ I h) fun us s1 ⟨vs, H1, I1, r1, q1⟩ => ?_) hs hpl))) hs1) hs1 rfl))
  obtain ⟨a, b, xs, ys, ex, qa, qb, hl, hln, q⟩ := q1
  subst ex
  cases r1 with
  | cons r rr =>
    cases rr with
    | cons r' rr =>
      cases rr
      cases r
      cases r'
      obtain ⟨its, rv, p1, _⟩ := I1.tuple qa
      obtain ⟨its2, rv2, p2', _⟩ := I1.tuple qb
      obtain ⟨o1, ho1, _⟩ := id p1
      obtain ⟨o2, ho2, _⟩ := id p2'
      refine call_zipT (show s1.heap.IsTuple a its.toArray from p1) (show s1.heap.IsTuple b its2.toArray from p2') fun h' hz hTI hTO h1 h2 hsz hk => ?_
      have I2 : Inv X pins σ H1 { s1 with heap := h' } := I1.kept (t' := s1.toks) hk
      refine args_nil (call_lzip (PySem.W.ktu_apart s1.heap.objs.size a b (Heap.lt_size ho1) (Heap.lt_size ho2)) hl hln hc I2 qa qb (fun c hcm => ?_) hz hTI hTO h1 h2 q)
      have hle : s1.heap.objs.size ≤ c := by
        simp only [List.mem_cons, List.not_mem_nil, or_false] at hcm
        rcases hcm with z | z | z | z | z
        · rw [z]; exact Nat.le_add_right _ _
        · rw [z]; exact Nat.le_add_right _ _
        · rw [z]; exact Nat.le_add_right _ _
        · rw [z]; exact Nat.le_refl _
        · rw [z]; exact Nat.le_add_right _ _
      exact I1.fpOk hle (I1.hok.fresh hle)
end
end KR
/-! setdefault where the keys are tuples -/
namespace KR
open PySem PySem.Spec PyProof.Rows L2
section
variable {X : Cx} {pins : List (Addr × Obj)} {σ : L2.St} {H : Hp} {s : Shared} {a b : Addr} {d : V} {r : Value} {A : Around} {E : Value → Shared → Prop} {kvs : List (List L2.Key × V)} {k : List L2.Key}
theorem d_setdT {Q : Value → Shared → Prop} (hu : A.units + 1 < cLine) (I : Inv X pins σ H s) (e : H a = some (.dT kvs)) (eb : H b = some (.tup (k.map kV))) (rd : RelV d r) (l : kvs.length < sizeLine)
    (h1 : ∀ v, valV kvs k = some v → ∀ w' s', Inv X pins σ H s' → RelV v w' → Q w' s')
    (h2 : valV kvs k = none → ∀ s', Inv X pins σ (upd H a (.dT (putK kvs k d))) s' → Q r s') :
    wpAny (model X.prog X.w) A (call (.builtin "dict.setdefault") [.ref a, .ref b, r]) Q E s := by
  obtain ⟨z, hd, xs, rel, dd⟩ := dt_of I.hok e
  have hz : xs.length ≤ sizeLine := by
    rw [← Paired.length rel]
    exact z
  have vk := rel.val k
  refine call_setdefault_heap (hsz := hz) (tupleKind_room_in1 hu) (key_of I.hok eb) hd dd (fun p hp => ?_) (fun hn h' dd' hs => ?_)
  · rw [hp] at vk
    cases q0 : valV kvs k with
    | none =>
      rw [q0] at vk
      exact (show False from vk).elim
    | some v0 =>
      rw [q0] at vk
      exact h1 v0 q0 _ _ (I.tok _) vk
  · rw [hn] at vk
    cases q0 : valV kvs k with
    | some v0 =>
      rw [q0] at vk
      exact (show False from vk).elim
    | none =>
      have hl : (putK kvs k d).length ≤ sizeLine := by
        have := length_putK kvs k d
        omega
      refine h2 q0 _ ?_
      obtain ⟨q, es, ep, hq, g2, g3, g4, _, g5⟩ := dd'
      refine d_write I (by rw [e]; exact True.intro) hs ⟨q, hq⟩ ⟨hl, hd, _, (rel.put k eb rd).keeps fun c ys ec => ?_, q, es, ep, hq, g2, g3, g4, g5⟩
      rw [upd_ne (ne_of ec e (fun z => nomatch z))]
      exact ec
end
/-- d.setdefault(y, z), keys that are tuples -/
def tDSetT (td ty tx : TE) : TE := fun σ H Q => td σ H fun x H1 => ∃ a, x = .ref a ∧ IsD H1 a ∧ ty σ H1 fun y H2 => tx σ H2 fun z H3 =>
  ∃ (kvs : List (List L2.Key × V)) (k : List L2.Key) (b : Addr), H3 a = some (.dT kvs) ∧ y = .ref b ∧ H3 b = some (.tup (k.map kV)) ∧ kvs.length < sizeLine ∧
  (∀ v, valV kvs k = some v → Q v H3) ∧ (valV kvs k = none → Q z (upd H3 a (.dT (putK kvs k z))))
theorem pe_dsetdT {X : Cx} {o e f : Expr} {td ty tx : TE} {apos cpos : Pos} (hu : X.A.units + 1 < cLine) (ho : PE X o td) (he : PE X e ty) (hf : PE X f tx) (m : M2 X o "setdefault" apos e f cpos) :
    PE X (.Call (.Attribute o "setdefault" apos) [e, f] [] cpos) (tDSetT td ty tx) := by
  refine ⟨fun pins s σ H Q I h => ?_⟩
  refine wpAny_Call_method m.base m.few m.line PySem.F.plainAttrs_dict PySem.F.slot_dict_setdefault PySem.F.type_dict_setdefault
    (thn (ho.run pins s σ H _ I h) fun u s1 ⟨x, H1, I1, rx, a, ex, d, q1⟩ => ?_)
  subst ex
  obtain rfl : u = Value.ref a := rx
  obtain ⟨t1, t2, _⟩ := isD_at I1 d
  refine ⟨t1, t2, ?_⟩
  rw [m.trees]
  refine Calls.callWith_builtin rfl (Calls.evalArgs_plain (Calls.spliced_cons (thn (he.run pins s1 σ H1 _ I1 q1) fun iv s2 ⟨y, H2, I2, ry, q2⟩ =>
    Calls.spliced_cons (thn (hf.run pins s2 σ H2 _ I2 q2) fun fv s3 ⟨z, H3, I3, rz, kvs, k, b, ea, ey, eb, hl, q3, q4⟩ => Calls.spliced_nil ?_))))
  subst ey
  cases (show iv = Value.ref b from ry)
  exact d_setdT hu I3 ea eb rz hl (fun v hv w' s4 I4 rw' => ⟨v, _, I4, rw', q3 v hv⟩) fun hn s4 I4 => ⟨z, _, I4, rz, q4 hn⟩
end KR
/-! short words: a def by its name and promise -/
namespace KR
open PySem PySem.Spec PyProof.Rows L2

/-- the built-ins that the text does not hide -/
structure Bt (mg : Str → Option Value) : Prop where
  len : mg "len" = none
  range : mg "range" = none
  enumerate : mg "enumerate" = none
  zip : mg "zip" = none
  isinstance : mg "isinstance" = none
  int : mg "int" = none
  bool : mg "bool" = none
  tuple : mg "tuple" = none
  list : mg "list" = none
  max : mg "max" = none
  min : mg "min" = none
  repr : mg "repr" = none
  set : mg "set" = none
  sum : mg "sum" = none
  sorted : mg "sorted" = none
def Cst (mg : Str → Option Value) (x : Str) (v : Int) : Prop := ∃ t, mg x = some (.int v t)
def DefAt (K : PySem.W.Frag) (mg : Str → Option Value) (x : Str) (st : Stmt) : Prop := ∃ f fd, Fun K x x st f fd ∧ mg x = some (.ref f)
def Use (P : Program) (w : World) (K : PySem.W.Frag) (mg : Str → Option Value) (base : Heap) (x : Str) (k : Nat) (ps : List Str) (sp : Sp) : Prop :=
  ∃ f fd, FnOk P w K mg base CX0 k f fd ps sp ∧ mg x = some (.ref f) ∧ PySem.W.keepIn K (.ref f) = true ∧ Binds K fd ps []
def UseG (P : Program) (w : World) (K : PySem.W.Frag) (mg : Str → Option Value) (base : Heap) (x : Str) (k : Nat) (ps : List Str) (sp : Sp) : Prop :=
  ∃ f fd, FnG P w K mg base k f fd ps sp ∧ mg x = some (.ref f) ∧ PySem.W.keepIn K (.ref f) = true ∧ Binds K fd ps []

section
variable {P : Program} {w : World} {K : PySem.W.Frag} {mg : Str → Option Value} {base : Heap} {x : Str} {st : Stmt} {k : Nat} {ps : List Str} {sp : Sp}
theorem use_of (D : DefAt K mg x st) (ok : ∀ f fd, Fun K x x st f fd → FnOk P w K mg base CX0 k f fd ps sp)
    (h : ∀ (kV doc pm : Value) (an : Option Addr) (cdv ct : Value) (us : List Value), us.length = ps.length → bindArgs (PySem.W.fnOf x x (defArgs st) (defBody st) (defScope st) .none kV doc pm an cdv ct) ⟨us, []⟩ = pure (ps.zip us)) :
    Use P w K mg base x k ps sp := by
  obtain ⟨f, fd, F, hm⟩ := D
  exact ⟨f, fd, ok f fd F, hm, F.kp, F.binds h⟩
theorem use_ofG (D : DefAt K mg x st) (ok : ∀ f fd, Fun K x x st f fd → FnG P w K mg base k f fd ps sp)
    (h : ∀ (kV doc pm : Value) (an : Option Addr) (cdv ct : Value) (us : List Value), us.length = ps.length → bindArgs (PySem.W.fnOf x x (defArgs st) (defBody st) (defScope st) .none kV doc pm an cdv ct) ⟨us, []⟩ = pure (ps.zip us)) :
    UseG P w K mg base x k ps sp := by
  obtain ⟨f, fd, F, hm⟩ := D
  exact ⟨f, fd, ok f fd F, hm, F.kp, F.binds h⟩
end
section
variable {X : Cx} {x : Str} {j k : Nat} {ps : List Str} {sp : Sp} {e : Expr} {es : List Expr} {t : TA} {p pos : Pos} {v : Int}
theorem pe_use (u : Use X.prog X.w X.K X.mg X.base x j ps sp) (le : j ≤ k) (hr : Room k X.A) (hg : Gl X x) (ha : PA X (e :: es) t)
    (hdb : (x == ("__debug__" : Str)) = false := by decide) (he : starEach (e :: es) X.env = (false, eval e X.env) :: starEach es X.env := by rfl)
    (hpl : (backTo pos (starEach es X.env)).any (·.1) = false := by rfl) : PE X (.Call (.Name x p) (e :: es) [] pos) (tCall sp [] E0 t) := by
  obtain ⟨f, fd, F, hm, kp, b⟩ := u
  exact pe_call F (hr.mono le) hg hm kp b .nil pass0 ha hdb he hpl
theorem pe_useG (u : UseG X.prog X.w X.K X.mg X.base x j ps sp) (gd : X.A.guards = some []) (le : j ≤ k) (hr : Room k X.A) (hg : Gl X x) (ha : PA X (e :: es) t)
    (hdb : (x == ("__debug__" : Str)) = false := by decide) (he : starEach (e :: es) X.env = (false, eval e X.env) :: starEach es X.env := by rfl)
    (hpl : (backTo pos (starEach es X.env)).any (·.1) = false := by rfl) : PE X (.Call (.Name x p) (e :: es) [] pos) (tCall sp [] E0 t) := by
  obtain ⟨f, fd, F, hm, kp, b⟩ := u
  exact pe_callG F gd (hr.mono le) hg hm kp b .nil ha hdb he hpl
theorem pe_cst (hg : Gl X x) (h : Cst X.mg x v) (hd : (x == ("__debug__" : Str)) = false := by decide) : PE X (.Name x pos) (tC (.int v)) := by
  obtain ⟨t, h⟩ := h
  exact pe_glob hg h ⟨t, rfl⟩ hd
end
/-- seqs kept -/
theorem sameT {K : PySem.W.Frag} {H H' : Hp} {a : Addr} {xs : List V} (e : Same H H') (h : SqT K H a xs) : SqT K H' a xs := by
  rcases h with (h | ⟨o, h⟩) | h
  · exact .inl (.inl (e _ _ h))
  · exact .inl (.inr ⟨o, e _ _ h⟩)
  · exact .inr h
theorem same_new {H : Hp} {p : Addr} {o : HO} (h : H p = none) : Same H (upd H p o) := fun b x e => by
  rw [upd_ne (ne_of_none e h)]
  exact e
/-- an object that H does not know was changed -/
theorem same_mut {H H' : Hp} {p : Addr} {o : HO} (e : Same H H') (h : H p = none) : Same H (upd H' p o) := fun a u ha => by
  rw [upd_ne (ne_of_none ha h)]
  exact e a u ha
theorem sqT {K : PySem.W.Frag} {H : Hp} {a : Addr} {xs : List V} (h : H a = some (.tup xs)) : SqT K H a xs := .inl (.inl h)
theorem sqL {K : PySem.W.Frag} {H : Hp} {a : Addr} {xs : List V} (h : H a = some (.lst xs)) : SqL K H a xs := .inl (.inl h)
end KR
/-! loops over enumerate(tuple), over a tuple, over a range, by an invariant -/
namespace KR
open PySem PySem.Spec PyProof.Rows L2
theorem for_enumT {K : PySem.W.Frag} {a : Addr} {xs : List V} {g : TG} {tb : TS} {D : Ends} {σ : L2.St} {H : Hp} (Pv : Nat → L2.St → Hp → Prop) (h0 : Pv 0 σ H)
    (hq : ∀ i σ H, Pv i σ H → SqT K H a xs)
    (hs : ∀ (i : Nat) (x : V) (T : Addr) (σ : L2.St) (H : Hp), xs[i]? = some x → Pv i σ H → H T = none →
      g (.ref T) σ (upd H T (.tup [.int (i : Nat), x])) fun σ2 H2 => tb { D with nx := Pv (i + 1), ct := Pv (i + 1), bk := D.nx } σ2 H2)
    (hd : ∀ σ H, Pv xs.length σ H → D.nx σ H) :
    ∃ W : Nat → Nat → L2.St → Hp → Prop, (∃ m, W 0 m σ H) ∧ ∀ i m σ H, W i m σ H →
      ((IteT K a).stop i H ∧ D.nx σ H) ∨ ((IteT K a).go i H ∧ ∃ N : L2.St → Hp → Prop, (∀ σ' H', N σ' H' → ∃ m', m' < m ∧ W (i + 1) m' σ' H') ∧
        ∀ v H', (IteT K a).yld i H v H' → g v σ H' fun σ2 H2 => tb { D with nx := N, ct := N, bk := D.nx } σ2 H2) := by
  refine ⟨fun i m σ H => m = xs.length - i ∧ i ≤ xs.length ∧ Pv i σ H, ⟨xs.length, rfl, Nat.zero_le _, h0⟩, ?_⟩
  rintro i m σ H ⟨rfl, hi, p⟩
  have q := hq i σ H p
  by_cases hlt : i < xs.length
  · have hx : xs[i]? = some xs[i] := List.getElem?_eq_getElem hlt
    refine .inr ⟨⟨xs, _, q, hx⟩, Pv (i + 1), fun σ' H' p' => ⟨xs.length - (i + 1), by omega, rfl, hlt, p'⟩, fun v H' y => ?_⟩
    obtain ⟨T, x', rfl, hT, rfl, f1⟩ := y
    exact hs i x' T σ H (f1 xs q) p hT
  · have e : i = xs.length := by omega
    subst e
    exact .inl ⟨⟨xs, q, Nat.le_refl _⟩, hd σ H p⟩
theorem for_enumL {K : PySem.W.Frag} {a : Addr} {xs : List V} {g : TG} {tb : TS} {D : Ends} {σ : L2.St} {H : Hp} (Pv : Nat → L2.St → Hp → Prop) (h0 : Pv 0 σ H)
    (hq : ∀ i σ H, Pv i σ H → SqL K H a xs)
    (hs : ∀ (i : Nat) (x : V) (T : Addr) (σ : L2.St) (H : Hp), xs[i]? = some x → Pv i σ H → H T = none →
      g (.ref T) σ (upd H T (.tup [.int (i : Nat), x])) fun σ2 H2 => tb { D with nx := Pv (i + 1), ct := Pv (i + 1), bk := D.nx } σ2 H2)
    (hd : ∀ σ H, Pv xs.length σ H → D.nx σ H) :
    ∃ W : Nat → Nat → L2.St → Hp → Prop, (∃ m, W 0 m σ H) ∧ ∀ i m σ H, W i m σ H →
      ((Ite K a).stop i H ∧ D.nx σ H) ∨ ((Ite K a).go i H ∧ ∃ N : L2.St → Hp → Prop, (∀ σ' H', N σ' H' → ∃ m', m' < m ∧ W (i + 1) m' σ' H') ∧
        ∀ v H', (Ite K a).yld i H v H' → g v σ H' fun σ2 H2 => tb { D with nx := N, ct := N, bk := D.nx } σ2 H2) := by
  refine ⟨fun i m σ H => m = xs.length - i ∧ i ≤ xs.length ∧ Pv i σ H, ⟨xs.length, rfl, Nat.zero_le _, h0⟩, ?_⟩
  rintro i m σ H ⟨rfl, hi, p⟩
  have q := hq i σ H p
  by_cases hlt : i < xs.length
  · have hx : xs[i]? = some xs[i] := List.getElem?_eq_getElem hlt
    refine .inr ⟨⟨xs, _, q, hx⟩, Pv (i + 1), fun σ' H' p' => ⟨xs.length - (i + 1), by omega, rfl, hlt, p'⟩, fun v H' y => ?_⟩
    obtain ⟨T, x', rfl, hT, rfl, f1⟩ := y
    exact hs i x' T σ H (f1 xs q) p hT
  · have e : i = xs.length := by omega
    subst e
    exact .inl ⟨⟨xs, q, Nat.le_refl _⟩, hd σ H p⟩
/-- an item of a mapped list -/
theorem map_at {α β : Type} {f : α → β} {xs : List α} {i : Nat} {y : β} (h : (xs.map f)[i]? = some y) : ∃ x, xs[i]? = some x ∧ y = f x := by
  rw [List.getElem?_map] at h
  cases e : xs[i]? with
  | none =>
    rw [e] at h
    cases h
  | some x =>
    rw [e] at h
    exact ⟨x, rfl, (Option.some.inj h).symm⟩
theorem at_map {α β : Type} {f : α → β} {xs : List α} {i : Nat} {x : α} (h : xs[i]? = some x) : (xs.map f)[i]? = some (f x) := by
  rw [List.getElem?_map, h]
  rfl
/-- a seq's place -/
theorem atI_of {xs : List V} {i : Int} {j : Nat} {v : V} (e : i = (j : Int)) (h : xs[j]? = some v) : atI xs i = some v := at_of e h
end KR
/-! comprehensions of two clauses: a list, then a range -/
namespace KR
open PySem PySem.Spec PyProof.Rows L2
theorem in_range {lo : Int} {n : Nat} {g1 : TG} {tt1 : TT} {te : TE} {vs1 : List Nat} {σ2 : L2.St} {H4 : Hp} {D : Addr} {Nx : Hp → Prop} (Pw : Nat → Hp → Prop) (h0 : Pw 0 H4)
    (hs : ∀ j H, j < n → Pw j H → g1 (.int (lo + (j : Nat))) (wipe σ2 vs1) H fun σ3 H5 => wipe σ3 vs1 = wipe σ2 vs1 ∧ tt1 σ3 H5 fun b H6 =>
      if b = true then te σ3 H6 fun y H7 => ∃ acc, H7 D = some (.lst acc) ∧ acc.length < sizeLine ∧ Pw (j + 1) (upd H7 D (.lst (acc ++ [y]))) else Pw (j + 1) H6)
    (hd : ∀ H, Pw n H → Nx H) :
    ∃ W1 : Nat → Nat → Hp → Prop, (∃ m, W1 0 m H4) ∧ ∀ j k H, W1 j k H →
      ((Itr lo n).stop j H ∧ Nx H) ∨ ((Itr lo n).go j H ∧ ∃ Nx1 : Hp → Prop, (∀ H', Nx1 H' → ∃ k', k' < k ∧ W1 (j + 1) k' H') ∧
        ∀ x H', (Itr lo n).yld j H x H' → g1 x (wipe σ2 vs1) H' fun σ3 H5 => wipe σ3 vs1 = wipe σ2 vs1 ∧ tt1 σ3 H5 fun b H6 =>
          if b = true then te σ3 H6 fun y H7 => ∃ acc, H7 D = some (.lst acc) ∧ acc.length < sizeLine ∧ Nx1 (upd H7 D (.lst (acc ++ [y]))) else Nx1 H6) := by
  refine ⟨fun j k H => k = n - j ∧ j ≤ n ∧ Pw j H, ⟨n, by simp, Nat.zero_le _, h0⟩, ?_⟩
  rintro j k H ⟨rfl, hj, p⟩
  by_cases hlt : j < n
  · refine .inr ⟨hlt, Pw (j + 1), fun H' p' => ⟨n - (j + 1), by omega, rfl, hlt, p'⟩, fun x H' y => ?_⟩
    obtain ⟨e, y⟩ := y
    subst e y
    exact hs j _ hlt p
  · have e : j = n := by omega
    subst e
    exact .inl ⟨Nat.le_refl _, hd H p⟩
theorem lc2_list {K : PySem.W.Frag} {a : Addr} {xs : List V} {g : TG} {tt : TT} {wi1 : TI} {g1 : TG} {tt1 : TT} {te : TE} {vs vs1 : List Nat} {σ : L2.St} {H1 : Hp} {D : Addr} {Qd : Hp → Prop}
    (Pv : Nat → Hp → Prop) (h0 : Pv 0 (upd H1 D (.lst []))) (hl : ∀ i H, i ≤ xs.length → Pv i H → SqL K H a xs)
    (hs : ∀ i x H, xs[i]? = some x → Pv i H → g x (wipe σ vs) H fun σ2 H2 => wipe σ2 vs = wipe σ vs ∧ tt σ2 H2 fun b H3 =>
      if b = true then wi1 σ2 H3 fun J1 H4 => ∃ W1 : Nat → Nat → Hp → Prop, (∃ m, W1 0 m H4) ∧ ∀ j k H, W1 j k H →
        (J1.stop j H ∧ Pv (i + 1) H) ∨ (J1.go j H ∧ ∃ Nx1 : Hp → Prop, (∀ H', Nx1 H' → ∃ k', k' < k ∧ W1 (j + 1) k' H') ∧ ∀ x H', J1.yld j H x H' →
          g1 x (wipe σ2 vs1) H' fun σ3 H5 => wipe σ3 vs1 = wipe σ2 vs1 ∧ tt1 σ3 H5 fun b H6 =>
          if b = true then te σ3 H6 fun y H7 => ∃ acc, H7 D = some (.lst acc) ∧ acc.length < sizeLine ∧ Nx1 (upd H7 D (.lst (acc ++ [y]))) else Nx1 H6)
      else Pv (i + 1) H3) (hd : ∀ H, Pv xs.length H → Qd H) :
    ∃ W : Nat → Nat → Hp → Prop, (∃ m, W 0 m (upd H1 D (.lst []))) ∧ ∀ i m H, W i m H →
      ((Itl K a).stop i H ∧ Qd H) ∨ ((Itl K a).go i H ∧ ∃ Nx : Hp → Prop, (∀ H', Nx H' → ∃ m', m' < m ∧ W (i + 1) m' H') ∧ ∀ x H', (Itl K a).yld i H x H' →
        g x (wipe σ vs) H' fun σ2 H2 => wipe σ2 vs = wipe σ vs ∧ tt σ2 H2 fun b H3 =>
        if b = true then wi1 σ2 H3 fun J1 H4 => ∃ W1 : Nat → Nat → Hp → Prop, (∃ m, W1 0 m H4) ∧ ∀ j k H, W1 j k H →
          (J1.stop j H ∧ Nx H) ∨ (J1.go j H ∧ ∃ Nx1 : Hp → Prop, (∀ H', Nx1 H' → ∃ k', k' < k ∧ W1 (j + 1) k' H') ∧ ∀ x H', J1.yld j H x H' →
            g1 x (wipe σ2 vs1) H' fun σ3 H5 => wipe σ3 vs1 = wipe σ2 vs1 ∧ tt1 σ3 H5 fun b H6 =>
            if b = true then te σ3 H6 fun y H7 => ∃ acc, H7 D = some (.lst acc) ∧ acc.length < sizeLine ∧ Nx1 (upd H7 D (.lst (acc ++ [y]))) else Nx1 H6)
        else Nx H3) := by
  refine ⟨fun i m H => m = xs.length - i ∧ i ≤ xs.length ∧ Pv i H, ⟨xs.length, by simp, Nat.zero_le _, h0⟩, ?_⟩
  rintro i m H ⟨rfl, hi, p⟩
  have q := hl i H hi p
  by_cases hlt : i < xs.length
  · refine .inr ⟨⟨xs, xs[i], q, by simp [hlt]⟩, Pv (i + 1), fun H' p' => ⟨xs.length - (i + 1), by omega, rfl, hlt, p'⟩, fun x H' y => ?_⟩
    obtain ⟨e, y⟩ := y
    subst e
    exact hs i x _ (y xs q) p
  · have e : i = xs.length := by omega
    subst e
    exact .inl ⟨⟨xs, q, Nat.le_refl _⟩, hd H p⟩
end KR
/-! the rules with the written part told, for a comprehension's block -/
namespace KR
open PySem PySem.Spec PyProof.Rows L2
section
variable {X : Cx} {K : PySem.W.Frag} {tg l e e2 o : Expr} {tl te to : TE} {ta t : TA} {es : List Expr} {T id : String} {r : V → List V → Hp → VK → Prop} {name : Str}
theorem k_ixl (hK : X.K = K) : IxR X (rIxL K) := by
  subst hK
  exact ix_list
theorem k_ixt (hK : X.K = K) : IxR X (rIxT K) := by
  subst hK
  exact ix_tup
theorem k_list (hK : X.K = K) (hl : PE X l tl) : PI X tg l (iList K tl) := by
  subst hK
  exact pi_list hl
theorem k_tup (hK : X.K = K) (hl : PE X l tl) : PI X tg l (iTup K tl) := by
  subst hK
  exact pi_tup hl
theorem k_isi (hK : X.K = K) : CallR X (.builtin "isinstance") (rIsi K) := by
  subst hK
  exact call_isi
theorem k_slt (hK : X.K = K) : SlR X (rSlT K) := by
  subst hK
  exact sl_tup
theorem k_sll (hK : X.K = K) : SlR X (rSlL K) := by
  subst hK
  exact sl_list
theorem k_catT (hK : X.K = K) : OpR X (binaryOp .Add) (rCatT K) := by
  subst hK
  exact op_catT
theorem k_in (hK : X.K = K) : OpR X (compareOp .In) (rIn K false) := by
  subst hK
  exact op_in_seq
theorem k_notIn (hK : X.K = K) : OpR X (compareOp .NotIn) (rIn K true) := by
  subst hK
  exact op_notIn_seq
def rLenK (K : PySem.W.Frag) : List V → Hp → VK → Prop := fun xs H Q => ∃ p ys, xs = [.ref p] ∧ (SqL K H p ys ∨ SqT K H p ys) ∧ Q (.int ys.length) H
theorem k_len (hK : X.K = K) : CallR X (.builtin "len") (rLenK K) := by
  subst hK
  exact call_len_seq
def rListK (K : PySem.W.Frag) : List V → Hp → VK → Prop := fun xs H Q => ∃ p ys, xs = [.ref p] ∧ (SqL K H p ys ∨ SqT K H p ys) ∧ ∀ l, H l = none → Q (.ref l) (upd H l (.lst ys))
theorem k_listOf (hK : X.K = K) : CallR X (.type "list") (rListK K) := by
  subst hK
  exact call_list_of
def rTupK (K : PySem.W.Frag) : List V → Hp → VK → Prop := fun xs H Q => ∃ p ys, xs = [.ref p] ∧ ((SqL K H p ys ∧ ∀ l, H l = none → Q (.ref l) (upd H l (.tup ys))) ∨ (SqT K H p ys ∧ Q (.ref p) H))
theorem k_tupOf (hK : X.K = K) : CallR X (.type "tuple") (rTupK K) := by
  subst hK
  exact call_tuple_of
theorem k_eqD (hK : X.K = K) (hu : X.A.units + 64 < cLine) : OpR X (compareOp .Eq) (rEqD K) := by
  subst hK
  exact op_eqD hu
theorem k_neD (hK : X.K = K) (hu : X.A.units + 64 < cLine) : OpR X (compareOp .NotEq) (rNeD K) := by
  subst hK
  exact op_neD hu
theorem k_maxT (hK : X.K = K) (hc : X.calm = true) (hu : X.A.units + 64 < cLine) : CallR X (.builtin "max") (rMaxT K) := by
  subst hK
  exact call_maxT hc hu
theorem k_max (hK : X.K = K) (hc : X.calm = true) : CallR X (.builtin "max") (rMax K) := by
  subst hK
  exact cr_max hc
theorem k_sum (hK : X.K = K) (hc : X.calm = true) : CallR X (.builtin "sum") (rSum K) := by
  subst hK
  exact cr_sum hc
theorem k_repr (hK : X.K = K) (gd : X.A.guards = some []) (hu : X.A.units + 64 < cLine) : CallR X (.builtin "repr") (rRepr K) := by
  subst hK
  exact call_reprD gd hu
theorem k_enumT {p pos tpos : Pos} {elts : List Expr} {kk : Nat} (hK : X.K = K) (hg : Gl X "enumerate") (hm : X.mg "enumerate" = none) (ha : PA X [e] ta)
    (hs : starEach [e] X.env = [(false, eval e X.env)] := by rfl) : PI X (.Tuple elts kk tpos) (.Call (.Name "enumerate" p) [e] [] pos) (iEnumT K ta) := by
  subst hK
  exact pi_enumT hg hm ha hs
theorem k_enum {p pos tpos : Pos} {elts : List Expr} {kk : Nat} (hK : X.K = K) (hg : Gl X "enumerate") (hm : X.mg "enumerate" = none) (ha : PA X [e] ta)
    (hs : starEach [e] X.env = [(false, eval e X.env)] := by rfl) : PI X (.Tuple elts kk tpos) (.Call (.Name "enumerate" p) [e] [] pos) (iEnum K ta) := by
  subst hK
  exact pi_enum hg hm ha hs
theorem k_zip {p pos tpos : Pos} {elts : List Expr} {kk : Nat} (hK : X.K = K) (hg : Gl X "zip") (hm : X.mg "zip" = none) (ha : PA X [e, e2] ta)
    (hs : starEach [e, e2] X.env = (false, eval e X.env) :: starEach [e2] X.env := by rfl) (hpl : (backTo pos (starEach [e2] X.env)).any (·.1) = false := by rfl) :
    PI X (.Tuple elts kk tpos) (.Call (.Name "zip" p) [e, e2] [] pos) (RZ.iZipA K ta) := by
  subst hK
  exact RZ.pi_zipA hg hm ha hs hpl
def tLzip (K : PySem.W.Frag) (ta : TA) : TE := fun σ H Q => ta σ H fun vs H1 => ∃ a b xs ys, vs = [.ref a, .ref b] ∧ SqT K H1 a xs ∧ SqT K H1 b ys ∧ xs.length = ys.length ∧ xs.length < sizeLine ∧ Zipped xs ys H1 Q
theorem k_lzip {p p2 pos pos2 : Pos} (hK : X.K = K) (hc : X.calm = true) (hg : Gl X "list") (hm : X.mg "list" = none) (hg2 : Gl X "zip") (hm2 : X.mg "zip" = none) (ha : PA X [e, e2] ta)
    (hs : starEach [e, e2] X.env = (false, eval e X.env) :: starEach [e2] X.env := by rfl) (hpl : (backTo pos2 (starEach [e2] X.env)).any (·.1) = false := by rfl)
    (hs1 : starEach [.Call (.Name "zip" p2) [e, e2] [] pos2] X.env = [(false, eval (.Call (.Name "zip" p2) [e, e2] [] pos2) X.env)] := by rfl) :
    PE X (.Call (.Name "list" p) [.Call (.Name "zip" p2) [e, e2] [] pos2] [] pos) (tLzip K ta) := by
  subst hK
  exact pe_lzip hc hg hm hg2 hm2 ha hs hpl hs1
theorem k_bm {apos cpos : Pos} (hK : X.K = K) (pa : PlainAttrs T) (slot : Slot T name id) (hty : typeOf (.builtin id) = pure (.type "method_descriptor")) (hm : MtR X id r) (ho : PE X o to) (ha : PA X (e :: es) t)
    (hbase : attributeBase o name X.env (eval o X.env) = eval o X.env := by rfl)
    (hfew : ((backTo cpos (starEach (e :: es) X.env)).all (fun x => !x.1) && (backToKw cpos (keywordEach [] X.env)).all (fun x => x.1.isSome)
      && decide ((e :: es).length + ([] : List Keyword).length + (if ([] : List Keyword).isEmpty then 0 else 1) < 30)) = true := by rfl)
    (hline : (apos.endLine == cpos.line) = true := by rfl) (hs : starEach (e :: es) X.env = (false, eval e X.env) :: starEach es X.env := by rfl)
    (hplain : (backTo cpos (starEach es X.env)).any (·.1) = false := by rfl) : PE X (.Call (.Attribute o name apos) (e :: es) [] cpos) (tBM K T r to t) := by
  subst hK
  exact pe_bm pa slot hty hm ho ha hbase hfew hline hs hplain
theorem k_star {p : Pos} {e : Expr} (hK : X.K = K) (he : PE X e te) (hr : PA X es t) (hs : starEach (.Starred e p :: es) X.env = (true, eval e X.env) :: starEach es X.env := by rfl) : PA X (.Starred e p :: es) (StX.tStar K te t) := by
  subst hK
  exact StX.pa_star he hr hs
theorem k_fld {apos : Pos} {f : Str} (hK : X.K = K) (h : PE X o te) (hx : attributeBase o f X.env (eval o X.env) = eval o X.env) : PE X (.Attribute o f apos) (tFld K te f) := by
  subst hK
  exact pe_fld h hx
end
end KR
namespace KQ
open PySem PySem.Spec PyProof.Rows L2 KR
def topS (i : Nat) : Stmt := PySem.Challenge.pw_fittingdoors_k05_whole_meeting_counted.main.body.getD i (.Pass ⟨0, 0, 0, 0⟩)
section
variable {P : Program} {w : World} {K : PySem.W.Frag} {mg : Str → Option Value} {base : Heap}
abbrev s_is_integer : Stmt := topS 7
theorem sc_is_integer : FnScope ["value"] ["value"] (defScope s_is_integer) := ⟨rfl, rfl, rfl, by decide +kernel, rfl, by decide +kernel, by decide +kernel⟩
def spIsInteger : Sp := fun vs H Q _ => ∃ i : Int, vs = [.int i] ∧ Q (.bl true) H
theorem ok_is_integer (D : DefAt K mg "is_integer" s_is_integer) (T : Bt mg) : Use P w K mg base "is_integer" 1 ["value"] spIsInteger := by
  refine use_of D (fun f fd F => F.ok sc_is_integer (fun vs H Q E h => ?_) (fun cdv A outer s H vs Q E hr h => ?_)) (fun _ _ _ _ _ _ us hl => match us, hl with | [_], _ => rfl)
  · obtain ⟨i, rfl, _⟩ := h
    rfl
  · obtain ⟨i, rfl, q⟩ := h
    refine ⟨_, (pss_one (ps_ret (pe_and (pe_callB (k_isi (K := K) rfl) (by rfl) T.isinstance (by decide +kernel) (pa_cons (pv 0) (pa_cons (pe_bltn (v := .ty "int") (by rfl) T.int (by decide +kernel) rfl) pa_nil))) (pe_one (pe_not (pe_callB (k_isi (K := K) rfl) (by rfl) T.isinstance (by decide +kernel) (pa_cons (pv 0) (pa_cons (pe_bltn (v := .ty "bool") (by rfl) T.bool (by decide +kernel) rfl) pa_nil)))))))), ?_⟩
    refine ⟨_, rfl, _, _, _, _, true, rfl, .ty _, .base (.int i), kit_ty (by decide +kernel), true, rfl, iteT ?_⟩
    exact ⟨_, rfl, _, _, _, _, false, rfl, .ty _, .base (.int i), kit_ty (by decide +kernel), _, rfl, q⟩
abbrev s_is_integer_within : Stmt := topS 8
theorem sc_is_integer_within : FnScope ["value", "least", "most"] ["value", "least", "most"] (defScope s_is_integer_within) := ⟨rfl, rfl, rfl, by decide +kernel, rfl, by decide +kernel, by decide +kernel⟩
def spIntW : Sp := fun vs H Q _ => ∃ i lo hi : Int, vs = [.int i, .int lo, .int hi] ∧ Q (.bl (decide (lo ≤ i ∧ i ≤ hi))) H
theorem ok_is_integer_within (D : DefAt K mg "is_integer_within" s_is_integer_within) (T : Bt mg) (u_is_integer : Use P w K mg base "is_integer" 1 ["value"] spIsInteger) :
    Use P w K mg base "is_integer_within" 2 ["value", "least", "most"] spIntW := by
  refine use_of D (fun f fd F => F.ok sc_is_integer_within (fun vs H Q E h => ?_) (fun cdv A outer s H vs Q E hr h => ?_)) (fun _ _ _ _ _ _ us hl => match us, hl with | [_, _, _], _ => rfl)
  · obtain ⟨i, lo, hi, rfl, _⟩ := h
    rfl
  · obtain ⟨i, lo, hi, rfl, q⟩ := h
    refine ⟨_, (pss_one (ps_ret (pe_and (pe_use u_is_integer (by decide) hr (by rfl) (pa_cons (pv 0) pa_nil)) (pe_one (pe_chain op_le op_le (pv 1) (pv 0) (pv 2)))))), ?_⟩
    refine ⟨_, rfl, i, rfl, true, rfl, iteT ?_⟩
    refine ⟨_, rfl, _, rfl, lo, i, rfl, rfl, _, rfl, ?_⟩
    by_cases h1 : lo ≤ i
    · rw [decide_eq_true h1]
      refine iteT ⟨_, rfl, i, hi, rfl, rfl, ?_⟩
      have e : decide (lo ≤ i ∧ i ≤ hi) = decide (i ≤ hi) := by simp [h1]
      rw [e] at q
      exact q
    · rw [decide_eq_false h1]
      refine iteF ?_
      have e : decide (lo ≤ i ∧ i ≤ hi) = false := by simp [h1]
      rw [e] at q
      exact q
abbrev s_is_tuple_within : Stmt := topS 9
theorem sc_is_tuple_within : FnScope ["value", "least", "most"] ["value", "least", "most"] (defScope s_is_tuple_within) := ⟨rfl, rfl, rfl, by decide +kernel, rfl, by decide +kernel, by decide +kernel⟩
def spTupW (K : PySem.W.Frag) : Sp := fun vs H Q _ => ∃ (a : Addr) (xs : List V) (lo hi : Int), vs = [.ref a, .int lo, .int hi] ∧ SqT K H a xs ∧ TyX K H (.ref a) (.type "tuple") ∧ Q (.bl (decide (lo ≤ xs.length ∧ (xs.length : Int) ≤ hi))) H
theorem ok_is_tuple_within (D : DefAt K mg "is_tuple_within" s_is_tuple_within) (T : Bt mg) :
    Use P w K mg base "is_tuple_within" 1 ["value", "least", "most"] (spTupW K) := by
  refine use_of D (fun f fd F => F.ok sc_is_tuple_within (fun vs H Q E h => ?_) (fun cdv A outer s H vs Q E hr h => ?_)) (fun _ _ _ _ _ _ us hl => match us, hl with | [_, _, _], _ => rfl)
  · obtain ⟨a, xs, lo, hi, rfl, _⟩ := h
    rfl
  · obtain ⟨a, xs, lo, hi, rfl, hs, ht, q⟩ := h
    refine ⟨_, (pss_one (ps_ret (pe_and (pe_callB (k_isi (K := K) rfl) (by rfl) T.isinstance (by decide +kernel) (pa_cons (pv 0) (pa_cons (pe_bltn (v := .ty "tuple") (by rfl) T.tuple (by decide +kernel) rfl) pa_nil))) (pe_one (pe_chain op_le op_le (pv 1) (pe_callB (k_len (K := K) rfl) (by rfl) T.len PySem.boot_len (pa_cons (pv 0) pa_nil)) (pv 2)))))), ?_⟩
    refine ⟨_, rfl, _, _, _, _, true, rfl, .ty _, ht, kit_ty (by decide +kernel), true, rfl, iteT ?_⟩
    refine ⟨_, rfl, _, rfl, a, xs, rfl, .inr hs, lo, _, rfl, rfl, _, rfl, ?_⟩
    by_cases h1 : lo ≤ (xs.length : Int)
    · rw [decide_eq_true h1]
      refine iteT ⟨_, rfl, _, hi, rfl, rfl, ?_⟩
      have e : decide (lo ≤ (xs.length : Int) ∧ (xs.length : Int) ≤ hi) = decide ((xs.length : Int) ≤ hi) := by simp [h1]
      rw [e] at q
      exact q
    · rw [decide_eq_false h1]
      refine iteF ?_
      have e : decide (lo ≤ (xs.length : Int) ∧ (xs.length : Int) ≤ hi) = false := by simp [h1]
      rw [e] at q
      exact q
end
end KQ
/-! methods and instances by their names -/
namespace KR
open PySem PySem.Spec PyProof.Rows L2
def MAt (K : PySem.W.Frag) (C : Addr) (m qual : Str) (st : Stmt) : Prop := ∃ f fd, Fun K m qual st f fd ∧ Meth K C m f
def IAt (K : PySem.W.Frag) (C : Addr) (qual : Str) (st : Stmt) : Prop := ∃ f fd, Fun K "__init__" qual st f fd ∧ Mk K C f
def MUse (P : Program) (w : World) (K : PySem.W.Frag) (mg : Str → Option Value) (base : Heap) (C : Addr) (m : Str) (k : Nat) (ps : List Str) (sp : Sp) : Prop :=
  ∃ f fd, FnOk P w K mg base CX0 k f fd ps sp ∧ Meth K C m f ∧ Binds K fd ps []
def KUse (P : Program) (w : World) (K : PySem.W.Frag) (mg : Str → Option Value) (base : Heap) (C : Addr) (x : Str) (k : Nat) (ps : List Str) (sp : Sp) : Prop :=
  ∃ f fd, FnOk P w K mg base CX0 k f fd ps sp ∧ Mk K C f ∧ mg x = some (.ref C) ∧ Binds K fd ps []
section
variable {P : Program} {w : World} {K : PySem.W.Frag} {mg : Str → Option Value} {base : Heap} {x m qual : Str} {st : Stmt} {k : Nat} {ps : List Str} {sp : Sp} {C : Addr}
theorem muse_of (D : MAt K C m qual st) (ok : ∀ f fd, Fun K m qual st f fd → FnOk P w K mg base CX0 k f fd ps sp)
    (h : ∀ (kV doc pm : Value) (an : Option Addr) (cdv ct : Value) (us : List Value), us.length = ps.length → bindArgs (PySem.W.fnOf m qual (defArgs st) (defBody st) (defScope st) .none kV doc pm an cdv ct) ⟨us, []⟩ = pure (ps.zip us)) :
    MUse P w K mg base C m k ps sp := by
  obtain ⟨f, fd, F, hm⟩ := D
  exact ⟨f, fd, ok f fd F, hm, F.binds h⟩
theorem kuse_of (D : IAt K C qual st) (hm : mg x = some (.ref C)) (ok : ∀ f fd, Fun K "__init__" qual st f fd → FnOk P w K mg base CX0 k f fd ps sp)
    (h : ∀ (kV doc pm : Value) (an : Option Addr) (cdv ct : Value) (us : List Value), us.length = ps.length → bindArgs (PySem.W.fnOf "__init__" qual (defArgs st) (defBody st) (defScope st) .none kV doc pm an cdv ct) ⟨us, []⟩ = pure (ps.zip us)) :
    KUse P w K mg base C x k ps sp := by
  obtain ⟨f, fd, F, mk⟩ := D
  exact ⟨f, fd, ok f fd F, mk, hm, F.binds h⟩
end
section
variable {X : Cx} {x m : Str} {j k : Nat} {ps : List Str} {sp : Sp} {o e : Expr} {es : List Expr} {ta : TE} {t : TA} {p pos apos : Pos} {C : Addr}
theorem pe_mUse {pl : Sem Bool} (he : PE X o ta) (c : Cls X.K C) (u : MUse X.prog X.w X.K X.mg X.base C m j ps sp) (le : j ≤ k) (hr : Room k X.A) (ha : PA X (e :: es) t)
    (hst : starEach (e :: es) X.env = (false, eval e X.env) :: starEach es X.env := by rfl) (hpl : (backTo pos (starEach es X.env)).any (·.1) = false := by rfl)
    (ht : eval (.Call (.Attribute o m apos) (e :: es) [] pos) X.env = (do
      let ov ← eval o X.env
      standAt apos.atName
      let (f, first) ← holding [ov] (getMethod ov m pl)
      callWith pos f first (backTo pos (starEach (e :: es) X.env)) (backToKw pos (keywordEach [] X.env))) := by rfl) :
    PE X (.Call (.Attribute o m apos) (e :: es) [] pos) (tMeth C m sp [] E0 ta t) := by
  obtain ⟨f, fd, F, hm, b⟩ := u
  exact pe_meth he c hm F (hr.mono le) b .nil pass0 ha hst hpl ht
theorem pe_kUse (u : KUse X.prog X.w X.K X.mg X.base C x j ps sp) (le : j + 1 ≤ k) (hr : Room k X.A) (hg : Gl X x) (ha : PA X (e :: es) t)
    (hdb : (x == ("__debug__" : Str)) = false := by decide) (he : starEach (e :: es) X.env = (false, eval e X.env) :: starEach es X.env := by rfl)
    (hpl : (backTo pos (starEach es X.env)).any (·.1) = false := by rfl) : PE X (.Call (.Name x p) (e :: es) [] pos) (tMake C sp [] E0 t) := by
  obtain ⟨f, fd, F, mk, hm, b⟩ := u
  exact pe_make mk F (hr.mono le) hg hm b .nil pass0 ha hdb he hpl
end
theorem ixN_nat {n j : Nat} {i : Int} (e : i = (j : Int)) (h : j < n) : ixN n i = some j := by
  subst e
  unfold ixN
  rw [if_pos (by omega), if_pos (by omega)]
  rfl
end KR
/-! tuples known or not -/
namespace KQ
open PySem PySem.Spec PyProof.Rows L2 KR
theorem rdT {K : PySem.W.Frag} {H : Hp} {a : Addr} {xs : List V} (h : Rd H a (.tup xs)) : SqT K H a xs := .inl h
theorem _root_.L2.Rd.mono {H H' : Hp} {a : Addr} {u : HO} (h : Rd H a u) (s : Same H H') : Rd H' a u := by
  rcases h with h | ⟨o, h⟩
  · exact .inl (s _ _ h)
  · exact .inr ⟨o, s _ _ h⟩
theorem _root_.L2.Rd.ne {H : Hp} {a b : Addr} {xs : List V} {u : HO} (h : Rd H a (.tup xs)) (e : H b = some u) (h1 : ∀ ys, u ≠ .tup ys) (h2 : ∀ o v, u ≠ .frz o v) : a ≠ b := fun z => by
  rw [z] at h
  rcases h with h | ⟨o, h⟩
  · rw [e] at h
    exact h1 _ (Option.some.inj h)
  · rw [e] at h
    exact h2 _ _ (Option.some.inj h)
theorem _root_.L2.Rd.put {H : Hp} {a b : Addr} {u o : HO} (h : Rd H a u) (n : a ≠ b) : Rd (upd H b o) a u := by
  rcases h with h | ⟨p, h⟩
  · exact .inl (by rw [upd_ne n]; exact h)
  · exact .inr ⟨p, by rw [upd_ne n]; exact h⟩
theorem tyRd {K : PySem.W.Frag} {H : Hp} {a : Addr} {xs : List V} (h : Rd H a (.tup xs)) : TyX K H (.ref a) (.type "tuple") := by
  rcases h with h | ⟨o, h⟩
  · exact .base (.tup h)
  · exact .fTuple h
theorem rd_upd {H : Hp} {a b : Addr} {xs : List V} {u o : HO} (h : Rd H a (.tup xs)) (e : H b = some u) (n1 : u ≠ .tup xs) (n2 : ∀ p, u ≠ .frz p (.tup xs)) : Rd (upd H b o) a (.tup xs) := h.put fun z => by
  rcases h with h | ⟨p, h⟩
  · rw [z, e] at h
    exact n1 (Option.some.inj h)
  · rw [z, e] at h
    exact n2 p (Option.some.inj h)
theorem rd_lst {H : Hp} {a b : Addr} {xs ys : List V} {o : HO} (h : Rd H a (.tup xs)) (e : H b = some (.lst ys)) : Rd (upd H b o) a (.tup xs) := rd_upd h e (fun z => by cases z) fun p z => by cases z
theorem rd_none {H : Hp} {a : Addr} {xs : List V} (h : Rd H a (.tup xs)) (n : H a = none) : False := by
  rcases h with h | ⟨p, h⟩ <;> (rw [n] at h; cases h)
theorem rd_new {H : Hp} {a b : Addr} {xs : List V} {o : HO} (h : Rd H a (.tup xs)) (n : H b = none) : Rd (upd H b o) a (.tup xs) := h.put fun z => rd_none h (z ▸ n)
end KQ
/-! partings: the mathematics -/
namespace KM
/-- blocks numbered as they are first met, m of them ahead -/
def Rg : Int → List Int → Prop
  | _, [] => True
  | m, x :: r => 0 ≤ x ∧ x ≤ m ∧ Rg (if x = m then m + 1 else m) r
/-- how many blocks, m of them ahead -/
def bc : Int → List Int → Int
  | m, [] => m
  | m, x :: r => bc (if x = m then m + 1 else m) r
structure Par (p : List Int) : Prop where
  ne : p ≠ []
  le : p.length ≤ 60
  rg : Rg 0 p
theorem bc_app : ∀ (m : Int) (xs ys : List Int), bc m (xs ++ ys) = bc (bc m xs) ys
  | _, [], _ => rfl
  | m, x :: xs, ys => bc_app (if x = m then m + 1 else m) xs ys
theorem rg_app : ∀ (m : Int) (xs ys : List Int), Rg m (xs ++ ys) ↔ Rg m xs ∧ Rg (bc m xs) ys
  | _, [], _ => ⟨fun h => ⟨trivial, h⟩, fun h => h.2⟩
  | m, x :: xs, ys => by
    show (0 ≤ x ∧ x ≤ m ∧ Rg _ (xs ++ ys)) ↔ (0 ≤ x ∧ x ≤ m ∧ Rg _ xs) ∧ _
    rw [rg_app]
    exact ⟨fun ⟨a, b, c, d⟩ => ⟨⟨a, b, c⟩, d⟩, fun ⟨⟨a, b, c⟩, d⟩ => ⟨a, b, c, d⟩⟩
theorem bc_ge : ∀ (m : Int) (xs : List Int), m ≤ bc m xs
  | _, [] => Int.le_refl _
  | m, x :: xs => by
    have h := bc_ge (if x = m then m + 1 else m) xs
    show m ≤ bc (if x = m then m + 1 else m) xs
    split at h <;> split <;> first | omega | contradiction
theorem bc_le : ∀ (m : Int) (xs : List Int), bc m xs ≤ m + xs.length
  | m, [] => by
    show m ≤ m + ((0 : Nat) : Int)
    omega
  | m, x :: xs => by
    have h := bc_le (if x = m then m + 1 else m) xs
    show bc (if x = m then m + 1 else m) xs ≤ m + ((xs.length + 1 : Nat) : Int)
    split at h <;> split <;> first | omega | contradiction
theorem rg_at {p : List Int} {i : Nat} {x : Int} (h : Rg 0 p) (hx : p[i]? = some x) : 0 ≤ x ∧ x ≤ bc 0 (p.take i) := by
  obtain ⟨hi, e⟩ := List.getElem?_eq_some_iff.mp hx
  have e2 : p = p.take i ++ (x :: p.drop (i + 1)) := by
    rw [← e, List.getElem_cons_drop, List.take_append_drop]
  rw [e2, rg_app] at h
  have h2 : 0 ≤ x ∧ x ≤ bc 0 (p.take i) ∧ Rg _ (p.drop (i + 1)) := h.2
  exact ⟨h2.1, h2.2.1⟩
theorem bc_take {p : List Int} {i : Nat} {x : Int} (hx : p[i]? = some x) : bc 0 (p.take (i + 1)) = if x = bc 0 (p.take i) then bc 0 (p.take i) + 1 else bc 0 (p.take i) := by
  rw [List.take_add_one, hx, bc_app]
  rfl
/-- all values lie below the number of blocks, each number below it is one -/
theorem rg_mem : ∀ (m : Int) (p : List Int), 0 ≤ m → Rg m p → (∀ x ∈ p, 0 ≤ x ∧ x < bc m p) ∧ ∀ y, m ≤ y → y < bc m p → y ∈ p
  | m, [], hm, _ => ⟨fun x hx => (nomatch hx), fun y h1 h2 => by
    have h2' : y < m := h2
    omega⟩
  | m, x :: r, hm, h => by
    obtain ⟨h0, h1, h2⟩ := h
    have hm2 : 0 ≤ (if x = m then m + 1 else m) := by split <;> omega
    obtain ⟨ih1, ih2⟩ := rg_mem (if x = m then m + 1 else m) r hm2 h2
    have e : bc m (x :: r) = bc (if x = m then m + 1 else m) r := rfl
    have g := bc_ge (if x = m then m + 1 else m) r
    rw [e]
    refine ⟨fun y hy => ?_, fun y h3 h4 => ?_⟩
    · rcases List.mem_cons.mp hy with q | q
      · subst q
        refine ⟨h0, ?_⟩
        split at g <;> split <;> first | omega | contradiction
      · exact ih1 y q
    · by_cases hy : x = y
      · rw [hy]
        exact List.mem_cons_self
      · refine List.mem_cons_of_mem _ (ih2 y ?_ h4)
        split <;> omega
theorem par_max {p : List Int} (h : Par p) {m : Int} (hm : m ∈ p) (hle : ∀ y ∈ p, y ≤ m) : m + 1 = bc 0 p := by
  obtain ⟨h1, h2⟩ := rg_mem 0 p (Int.le_refl _) h.rg
  have a := (h1 m hm).2
  have b0 := (h1 m hm).1
  by_cases e : m + 1 = bc 0 p
  · exact e
  · have := hle (bc 0 p - 1) (h2 _ (by omega) (by omega))
    omega
/-- two partings with the same kernel are one -/
theorem rg_unique : ∀ (n : Nat) (p q : List Int), p.length = n → q.length = n → Rg 0 p → Rg 0 q →
    (∀ (i j : Nat) (x y u v : Int), p[i]? = some x → p[j]? = some y → q[i]? = some u → q[j]? = some v → (x = y ↔ u = v)) → p = q ∧ bc 0 p = bc 0 q
  | 0, p, q, hp, hq, _, _, _ => by
    rw [List.eq_nil_of_length_eq_zero hp, List.eq_nil_of_length_eq_zero hq]
    exact ⟨rfl, rfl⟩
  | n + 1, p, q, hp, hq, rp, rq, h => by
    obtain ⟨p', x, rfl⟩ : ∃ p' x, p = p' ++ [x] := ⟨p.dropLast, p.getLast (by intro e; rw [e] at hp; cases hp), (List.dropLast_concat_getLast _).symm⟩
    obtain ⟨q', u, rfl⟩ : ∃ q' u, q = q' ++ [u] := ⟨q.dropLast, q.getLast (by intro e; rw [e] at hq; cases hq), (List.dropLast_concat_getLast _).symm⟩
    have lp : p'.length = n := by simpa using hp
    have lq : q'.length = n := by simpa using hq
    rw [rg_app] at rp rq
    have gp : ∀ {i : Nat} {z : Int}, p'[i]? = some z → (p' ++ [x])[i]? = some z := fun {i z} e => by
      have := (List.getElem?_eq_some_iff.mp e).1
      rw [List.getElem?_append_left this]
      exact e
    have gq : ∀ {i : Nat} {z : Int}, q'[i]? = some z → (q' ++ [u])[i]? = some z := fun {i z} e => by
      have := (List.getElem?_eq_some_iff.mp e).1
      rw [List.getElem?_append_left this]
      exact e
    obtain ⟨e1, e2⟩ := rg_unique n p' q' lp lq rp.1 rq.1 fun i j a b c d h1 h2 h3 h4 => h i j a b c d (gp h1) (gp h2) (gq h3) (gq h4)
    subst e1
    have lastp : (p' ++ [x])[n]? = some x := by
      rw [List.getElem?_append_right (by omega), lp]
      simp
    have lastq : (p' ++ [u])[n]? = some u := by
      rw [List.getElem?_append_right (by omega), lp]
      simp
    obtain ⟨x0, x1, _⟩ := rp.2
    obtain ⟨u0, u1, _⟩ := rq.2
    obtain ⟨m1, m2⟩ := rg_mem 0 p' (Int.le_refl _) rp.1
    have exu : x = u := by
      by_cases hx : x < bc 0 p'
      · obtain ⟨i, hi, ei⟩ := List.getElem_of_mem (m2 x x0 hx)
        have e3 : p'[i]? = some x := by rw [List.getElem?_eq_getElem hi, ei]
        exact ((h i n x x x u (gp e3) lastp (gq e3) lastq).mp rfl)
      · by_cases hu : u < bc 0 p'
        · obtain ⟨i, hi, ei⟩ := List.getElem_of_mem (m2 u u0 hu)
          have e3 : p'[i]? = some u := by rw [List.getElem?_eq_getElem hi, ei]
          exact ((h i n u x u u (gp e3) lastp (gq e3) lastq).mpr rfl).symm
        · omega
    subst exu
    exact ⟨rfl, rfl⟩

/-! ### numbering -/
variable {α : Type} [DecidableEq α]
def ins (ks : List α) (x : α) : List α := if x ∈ ks then ks else ks ++ [x]
def firsts (xs : List α) : List α := xs.foldl ins []
def num (xs : List α) : List Int := xs.map fun x => (((firsts xs).idxOf x : Nat) : Int)
theorem firsts_snoc (xs : List α) (x : α) : firsts (xs ++ [x]) = ins (firsts xs) x := by
  unfold firsts
  rw [List.foldl_append]
  rfl
theorem ins_nodup {ks : List α} (h : ks.Nodup) (x : α) : (ins ks x).Nodup := by
  unfold ins
  split
  · exact h
  · rename_i hx
    rw [List.nodup_append]
    refine ⟨h, by simp, fun a ha b hb => ?_⟩
    rw [List.mem_singleton.mp hb]
    intro e
    exact hx (e ▸ ha)
theorem mem_ins {ks : List α} {x y : α} : y ∈ ins ks x ↔ y ∈ ks ∨ y = x := by
  unfold ins
  split
  · rename_i hx
    exact ⟨Or.inl, fun h => h.elim id fun e => e ▸ hx⟩
  · rw [List.mem_append, List.mem_singleton]
theorem firsts_rec {P : List α → Prop} (h0 : P []) (hs : ∀ xs x, P xs → P (xs ++ [x])) : ∀ xs, P xs := by
  intro xs
  have : ∀ n (xs : List α), xs.length = n → P xs := by
    intro n
    induction n with
    | zero =>
      intro xs h
      rw [List.eq_nil_of_length_eq_zero h]
      exact h0
    | succ n ih =>
      intro xs h
      have hne : xs ≠ [] := by
        intro e
        rw [e] at h
        cases h
      rw [← List.dropLast_concat_getLast hne]
      exact hs _ _ (ih _ (by rw [List.length_dropLast, h]; rfl))
  exact this _ xs rfl
theorem firsts_nodup (xs : List α) : (firsts xs).Nodup := by
  refine firsts_rec (P := fun xs => (firsts xs).Nodup) (by exact List.nodup_nil) (fun xs x h => ?_) xs
  rw [firsts_snoc]
  exact ins_nodup h x
theorem mem_firsts {y : α} (xs : List α) : y ∈ firsts xs ↔ y ∈ xs := by
  refine firsts_rec (P := fun xs => y ∈ firsts xs ↔ y ∈ xs) (by exact Iff.rfl) (fun xs x h => ?_) xs
  rw [firsts_snoc, mem_ins, h, List.mem_append, List.mem_singleton]
theorem idx_ins {ks : List α} {x y : α} (hy : y ∈ ks) : (ins ks x).idxOf y = ks.idxOf y := by
  unfold ins
  split
  · rfl
  · rw [List.idxOf_append, if_pos hy]
theorem num_snoc (xs : List α) (x : α) : num (xs ++ [x]) = num xs ++ [if x ∈ firsts xs then (((firsts xs).idxOf x : Nat) : Int) else ((firsts xs).length : Int)] := by
  unfold num
  rw [List.map_append, firsts_snoc]
  congr 1
  · refine List.map_congr_left fun y hy => ?_
    rw [idx_ins ((mem_firsts xs).mpr hy)]
  · show [_] = [_]
    congr 1
    split
    · rename_i h
      show (((ins (firsts xs) x).idxOf x : Nat) : Int) = _
      rw [idx_ins h]
    · rename_i h
      show (((ins (firsts xs) x).idxOf x : Nat) : Int) = _
      unfold ins
      rw [if_neg h, List.idxOf_append, if_neg h]
      simp
theorem firsts_len (xs : List α) : ((firsts xs).length : Int) = bc 0 (num xs) ∧ Rg 0 (num xs) := by
  refine firsts_rec (P := fun xs => ((firsts xs).length : Int) = bc 0 (num xs) ∧ Rg 0 (num xs)) ⟨rfl, trivial⟩ (fun xs x h => ?_) xs
  obtain ⟨h1, h2⟩ := h
  rw [num_snoc, firsts_snoc, bc_app, rg_app, ← h1]
  unfold ins
  by_cases hx : x ∈ firsts xs
  · rw [if_pos hx, if_pos hx]
    have hl := List.idxOf_lt_length_of_mem hx
    refine ⟨?_, h2, ?_⟩
    · show _ = if _ then _ else _
      rw [if_neg (by omega)]
    · exact ⟨by omega, by omega, trivial⟩
  · rw [if_neg hx, if_neg hx]
    refine ⟨?_, h2, ?_⟩
    · show _ = if _ then _ else _
      rw [if_pos rfl, List.length_append]
      show ((_ + 1 : Nat) : Int) = _
      show _ = bc _ []
      show _ = (_ : Int) + 1
      omega
    · exact ⟨by omega, by omega, trivial⟩
theorem num_rg (xs : List α) : Rg 0 (num xs) := (firsts_len xs).2
theorem num_len (xs : List α) : (num xs).length = xs.length := by
  unfold num
  rw [List.length_map]
theorem num_get {xs : List α} {i : Nat} {x : α} (h : xs[i]? = some x) : (num xs)[i]? = some (((firsts xs).idxOf x : Nat) : Int) := by
  unfold num
  rw [List.getElem?_map, h]
  rfl
theorem num_ker {xs : List α} {i j : Nat} {x y : α} {u v : Int} (hi : xs[i]? = some x) (hj : xs[j]? = some y) (ui : (num xs)[i]? = some u) (vj : (num xs)[j]? = some v) : u = v ↔ x = y := by
  rw [num_get hi] at ui
  rw [num_get hj] at vj
  cases ui
  cases vj
  constructor
  · intro e
    have e' : (firsts xs).idxOf x = (firsts xs).idxOf y := by omega
    have hx := (mem_firsts xs).mpr (List.mem_of_getElem? hi)
    have hy := (mem_firsts xs).mpr (List.mem_of_getElem? hj)
    have a := List.getElem_idxOf (List.idxOf_lt_length_of_mem hx)
    have b := List.getElem_idxOf (List.idxOf_lt_length_of_mem hy)
    rw [← a, ← b]
    congr 1
  · intro e
    rw [e]
theorem num_par {xs : List α} (h : xs ≠ []) (hl : xs.length ≤ 60) : Par (num xs) :=
  ⟨fun e => h (List.eq_nil_of_length_eq_zero (by rw [← num_len xs, e]; rfl)), by rw [num_len]; exact hl, num_rg xs⟩
/-- a parting is told by its kernel -/
theorem num_is {xs : List α} {q : List Int} (hl : q.length = xs.length) (hq : Rg 0 q)
    (h : ∀ (i j : Nat) (x y : α) (u v : Int), xs[i]? = some x → xs[j]? = some y → q[i]? = some u → q[j]? = some v → (x = y ↔ u = v)) : num xs = q := by
  refine (rg_unique xs.length (num xs) q (num_len xs) hl (num_rg xs) hq fun i j a b u v h1 h2 h3 h4 => ?_).1
  have li := (List.getElem?_eq_some_iff.mp h1).1
  have lj := (List.getElem?_eq_some_iff.mp h2).1
  rw [num_len] at li lj
  have gi : xs[i]? = some xs[i] := List.getElem?_eq_getElem li
  have gj : xs[j]? = some xs[j] := List.getElem?_eq_getElem lj
  rw [num_ker gi gj h1 h2]
  exact h i j _ _ u v gi gj h3 h4
end KM
namespace KQ
open PySem PySem.Spec PyProof.Rows L2 KR KM
section
variable {P : Program} {w : World} {K : PySem.W.Frag} {mg : Str → Option Value} {base : Heap}
/-- a tuple of whole numbers stands at a -/
def TI (H : Hp) (a : Addr) (p : List Int) : Prop := Rd H a (.tup (p.map V.int))
theorem TI.mono {H H' : Hp} {a : Addr} {p : List Int} (h : TI H a p) (e : Same H H') : TI H' a p := Rd.mono h e
theorem TI.ty {H : Hp} {a : Addr} {p : List Int} (h : TI H a p) : TyX K H (.ref a) (.type "tuple") := tyRd h
theorem TI.seq {H : Hp} {a : Addr} {p : List Int} (h : TI H a p) : SqT K H a (p.map V.int) := .inl h
abbrev s_first_wrong_block : Stmt := topS 12
theorem sc_first_wrong_block : FnScope ["blocks", "many", "place", "block"] ["blocks"] (defScope s_first_wrong_block) := ⟨rfl, rfl, rfl, by decide +kernel, rfl, by decide +kernel, by decide +kernel⟩
def spFwb : Sp := fun vs H Q _ => ∃ a p, vs = [.ref a] ∧ TI H a p ∧ Par p ∧ ∀ H', Same H H' → Q .non H'
theorem ok_first_wrong_block (D : DefAt K mg "first_wrong_block" s_first_wrong_block) (T : Bt mg) :
    Use P w K mg base "first_wrong_block" 3 ["blocks"] spFwb := by
  refine use_of D (fun f fd F => F.ok sc_first_wrong_block (fun vs H Q E h => ?_) (fun cdv A outer s H vs Q E hr h => ?_)) (fun _ _ _ _ _ _ us hl => match us, hl with | [_], _ => rfl)
  · obtain ⟨a, p, rfl, _⟩ := h
    rfl
  · obtain ⟨a, p, rfl, hp, par, q⟩ := h
    refine ⟨_, (pss_cons (ps_set (i := 1) sc_first_wrong_block.nd rfl (Or.inl rfl) pe_int)
      (pss_cons (ps_for PassesOwn.never rfl (k_enumT (K := K) rfl (by rfl) T.enumerate (pa_cons (pv 0) pa_nil)) (pg_tup rfl (pgs_cons (pg_name (i := 2) sc_first_wrong_block.nd rfl (Or.inl rfl)) (pgs_cons (pg_name (i := 3) sc_first_wrong_block.nd rfl (Or.inl rfl)) pgs_nil)))
      (pss_cons (ps_if (PW.pt (pw_or (pt_not (pt_val (pe_callB (k_isi (K := K) rfl) (by rfl) T.isinstance (by decide +kernel) (pa_cons (pv 3) (pa_cons (pe_bltn (v := .ty "int") (by rfl) T.int (by decide +kernel) rfl) pa_nil))))) (pw_or (pt_val (pe_callB (k_isi (K := K) rfl) (by rfl) T.isinstance (by decide +kernel) (pa_cons (pv 3) (pa_cons (pe_bltn (v := .ty "bool") (by rfl) T.bool (by decide +kernel) rfl) pa_nil)))) (pw_or (pt_cmpR op_lt (pv 3) pe_int (nomark _)) (pw_or1 (pt_cmpR op_gt (pv 3) (pv 1) (nomark _))))))) (pss_one (ps_ret (pv 2))) pss_nil)
      (pss_one (ps_if (pt_cmpR op_eq (pv 3) (pv 1) (nomark _)) (pss_one (ps_aug (i := 1) sc_first_wrong_block.nd rfl (Or.inl rfl) pe_int ip_add)) pss_nil))))
      (pss_one (ps_ret pe_non)))), ?_⟩
    refine ⟨_, rfl, a, _, rfl, hp.seq, for_enumT (K := K) (a := a) (xs := p.map V.int)
      (fun i σ H1 => ∃ y2 y3, σ = [some (.ref a), some (.int (bc 0 (p.take i))), y2, y3] ∧ Same H H1)
      ⟨none, none, rfl, Same.refl H⟩ (fun i σ H1 ⟨_, _, _, sm⟩ => (hp.mono sm).seq) ?_ ?_⟩
    · rintro i v T1 σ H1 hi ⟨y2, y3, rfl, sm⟩ hT
      obtain ⟨x, hx, rfl⟩ := map_at hi
      obtain ⟨x0, x1⟩ := rg_at par.rg hx
      refine ⟨T1, _, rfl, .inl (.inl upd_same), rfl, _, _, rfl, _, [], rfl, rfl, ?_⟩
      refine ⟨_, rfl, _, _, _, _, true, rfl, .ty _, .base (.int x), kit_ty (by decide +kernel), true, rfl, iteF ?_⟩
      refine ⟨_, rfl, _, _, _, _, false, rfl, .ty _, .base (.int x), kit_ty (by decide +kernel), false, rfl, iteF ?_⟩
      refine ⟨_, rfl, x, 0, rfl, rfl, _, rfl, ?_⟩
      rw [decide_eq_false (show ¬ x < 0 by omega)]
      refine iteF ⟨_, rfl, _, rfl, x, bc 0 (p.take i), rfl, rfl, _, rfl, ?_⟩
      rw [decide_eq_false (show ¬ x > bc 0 (p.take i) by omega)]
      refine iteF ?_
      · refine ⟨_, rfl, _, rfl, rfl, _, rfl, ite2 (fun e => ?_) (fun e => ?_)⟩
        · have e' : x = bc 0 (p.take i) := V.int.inj (of_decide_eq_true e)
          refine ⟨_, rfl, _, _, rfl, rfl, ?_⟩
          refine ⟨some (.int (i : Nat)), some (.int x), ?_, sm.trans (same_new hT)⟩
          rw [bc_take hx, if_pos e']
          rfl
        · have e' : ¬ x = bc 0 (p.take i) := fun z => e (decide_eq_true (by rw [z]))
          refine ⟨some (.int (i : Nat)), some (.int x), ?_, sm.trans (same_new hT)⟩
          rw [bc_take hx, if_neg e']
          rfl
    · rintro σ H1 ⟨y2, y3, rfl, sm⟩
      exact q H1 sm
def spIsPar : Sp := fun vs H Q _ => ∃ a p, vs = [.ref a] ∧ TI H a p ∧ Par p ∧ ∀ H', Same H H' → Q (.bl true) H'
theorem par_le {p : List Int} (h : Par p) : decide ((1 : Int) ≤ ((p.map V.int).length : Int) ∧ ((p.map V.int).length : Int) ≤ 60) = true := by
  refine decide_eq_true ?_
  rw [List.length_map]
  have h1 := h.le
  have h2 : p.length ≠ 0 := fun e => h.ne (List.eq_nil_of_length_eq_zero e)
  omega
abbrev s_need_parting : Stmt := topS 13
theorem sc_need_parting : FnScope ["parting", "place"] ["parting"] (defScope s_need_parting) := ⟨rfl, rfl, rfl, by decide +kernel, rfl, by decide +kernel, by decide +kernel⟩
def spNeed : Sp := fun vs H Q _ => ∃ a p, vs = [.ref a] ∧ TI H a p ∧ Par p ∧ ∀ H', Same H H' → Q (.ref a) H'
theorem ok_need_parting (D : DefAt K mg "need_parting" s_need_parting) (T : Bt mg) (c_MOST_DOORS : Cst mg "MOST_DOORS" 60) (u_is_tuple_within : Use P w K mg base "is_tuple_within" 1 ["value", "least", "most"] (spTupW K))
    (u_first_wrong_block : Use P w K mg base "first_wrong_block" 3 ["blocks"] spFwb) : Use P w K mg base "need_parting" 4 ["parting"] spNeed := by
  refine use_of D (fun f fd F => F.ok sc_need_parting (fun vs H Q E h => ?_) (fun cdv A outer s H vs Q E hr h => ?_)) (fun _ _ _ _ _ _ us hl => match us, hl with | [_], _ => rfl)
  · obtain ⟨a, p, rfl, _⟩ := h
    rfl
  · obtain ⟨a, p, rfl, hp, par, q⟩ := h
    refine ⟨_, (pss_cons (ps_if (pt_not (pt_val (pe_use u_is_tuple_within (by decide) hr (by rfl) (pa_cons (pv 0) (pa_cons pe_int (pa_cons (pe_cst (by rfl) c_MOST_DOORS) pa_nil)))))) (pss_one ps_never) pss_nil)
      (pss_cons (ps_set (i := 1) sc_need_parting.nd rfl (Or.inl rfl) (pe_use u_first_wrong_block (by decide) hr (by rfl) (pa_cons (pv 0) pa_nil)))
      (pss_cons (ps_if (pt_cmpR op_notN (pv 1) pe_non (nomark _)) (pss_one ps_never) pss_nil)
      (pss_one (ps_ret (pe_callTy (k_tupOf (K := K) rfl) (by rfl) T.tuple (by decide +kernel) (pa_cons (pv 0) pa_nil))))))), ?_⟩
    refine ⟨_, rfl, a, _, _, _, rfl, hp.seq, hp.ty, true, ?_, iteF ?_⟩
    · rw [par_le par]
    · refine ⟨_, rfl, a, p, rfl, hp, par, fun H1 sm => ?_⟩
      refine ⟨_, rfl, rfl, _, rfl, iteF ?_⟩
      exact ⟨_, rfl, a, _, rfl, .inr ⟨(hp.mono sm).seq, q H1 sm⟩⟩
def spNeedOf : Sp := fun vs H Q _ => ∃ a p, vs = [.ref a, .int (p.length : Int)] ∧ TI H a p ∧ Par p ∧ ∀ H', Same H H' → Q (.ref a) H'
def spTwo : Sp := fun vs H Q _ => ∃ a b p r, vs = [.ref a, .ref b] ∧ TI H a p ∧ TI H b r ∧ Par p ∧ Par r ∧ p.length = r.length ∧ ∀ H', Same H H' → Q .non H'
abbrev s_block_count : Stmt := topS 14
theorem sc_block_count : FnScope ["parting"] ["parting"] (defScope s_block_count) := ⟨rfl, rfl, rfl, by decide +kernel, rfl, by decide +kernel, by decide +kernel⟩
def spCount : Sp := fun vs H Q _ => ∃ a p, vs = [.ref a] ∧ TI H a p ∧ Par p ∧ Q (.int (bc 0 p)) H
theorem ok_block_count (D : DefAt K mg "block_count" s_block_count) (T : Bt mg) : Use P w K mg base "block_count" 1 ["parting"] spCount := by
  refine use_of D (fun f fd F => F.ok sc_block_count (fun vs H Q E h => ?_) (fun cdv A outer s H vs Q E hr h => ?_)) (fun _ _ _ _ _ _ us hl => match us, hl with | [_], _ => rfl)
  · obtain ⟨a, p, rfl, _⟩ := h
    rfl
  · obtain ⟨a, p, rfl, hp, par, q⟩ := h
    refine ⟨_, (pss_one (ps_ret (pe_op op_add (pe_callB (k_maxT (K := K) rfl rfl hr.units) (by rfl) T.max (by decide +kernel) (pa_cons (pv 0) pa_nil)) pe_int))), ?_⟩
    refine ⟨_, rfl, a, p, rfl, hp.seq, par.ne, fun m hm hle => ?_⟩
    refine ⟨_, _, rfl, rfl, ?_⟩
    show Q (.int (m + 1)) H
    rw [par_max par hm hle]
    exact q
def spSize : Sp := fun vs H Q _ => ∃ a p, vs = [.ref a] ∧ TI H a p ∧ Par p ∧ ∀ H', Same H H' → Q (.int (bc 0 p)) H'
end
end KQ
namespace KQ
open PySem PySem.Spec PyProof.Rows L2 KR KM
/-! ### a dict of the first ones' places -/
section
variable {α κ : Type} [DecidableEq α] [DecidableEq κ]
def dg (f : α → κ) (ks : List α) : List (κ × V) := ks.zipIdx.map fun p => (f p.1, V.int ((p.2 : Nat) : Int))
theorem dg_len (f : α → κ) (ks : List α) : (dg f ks).length = ks.length := by
  unfold dg
  rw [List.length_map, List.length_zipIdx]
theorem dg_snoc (f : α → κ) (ks : List α) (x : α) : dg f (ks ++ [x]) = dg f ks ++ [(f x, V.int ((ks.length : Nat) : Int))] := by
  unfold dg
  rw [List.zipIdx_append, List.map_append]
  simp
theorem dg_any {f : α → κ} (hf : ∀ a b, f a = f b → a = b) (ks : List α) (x : α) : ((dg f ks).any fun kv => decide (kv.1 = f x)) = decide (x ∈ ks) := by
  refine firsts_rec (P := fun ks => ((dg f ks).any fun kv => decide (kv.1 = f x)) = decide (x ∈ ks)) (by simp [dg]) (fun ks y h => ?_) ks
  rw [dg_snoc, List.any_append, h]
  simp only [List.any_cons, List.any_nil, Bool.or_false, List.mem_append, List.mem_singleton]
  by_cases e : x = y
  · subst e
    simp
  · have e2 : f y ≠ f x := fun q => e (hf _ _ q).symm
    simp [e, e2]
theorem dg_val {f : α → κ} (hf : ∀ a b, f a = f b → a = b) (ks : List α) (x : α) (h : ks.Nodup) :
    valV (dg f ks) (f x) = if x ∈ ks then some (V.int ((ks.idxOf x : Nat) : Int)) else none := by
  refine firsts_rec (P := fun ks => ks.Nodup → valV (dg f ks) (f x) = if x ∈ ks then some (V.int ((ks.idxOf x : Nat) : Int)) else none) (fun _ => rfl) (fun ks y ih hn => ?_) ks h
  rw [List.nodup_append] at hn
  have ih := ih hn.1
  have hy : y ∉ ks := fun hm => hn.2.2 y hm y (List.mem_singleton.mpr rfl) rfl
  unfold valV at ih ⊢
  rw [dg_snoc, List.find?_append, Option.map_or, ih]
  by_cases hx : x ∈ ks
  · rw [if_pos hx, if_pos (List.mem_append_left _ hx), List.idxOf_append, if_pos hx]
    rfl
  · rw [if_neg hx]
    by_cases e : x = y
    · subst e
      rw [if_pos (List.mem_append_right _ (List.mem_singleton.mpr rfl)), List.idxOf_append, if_neg hx]
      simp
    · have e2 : f y ≠ f x := fun q => e (hf _ _ q).symm
      rw [if_neg (by simp [hx, e])]
      simp [e2]
theorem dg_put {f : α → κ} (hf : ∀ a b, f a = f b → a = b) (ks : List α) (x : α) (hx : x ∉ ks) : putK (dg f ks) (f x) (V.int ((ks.length : Nat) : Int)) = dg f (ks ++ [x]) := by
  unfold putK
  rw [if_neg (by rw [dg_any hf]; simp [hx]), dg_snoc]
end
def kI (x : Int) : L2.Key := Sum.inl x
theorem kI_inj : ∀ a b, kI a = kI b → a = b := fun _ _ e => Sum.inl.inj e
def kP (x : Int × Int) : List L2.Key := [Sum.inl x.1, Sum.inl x.2]
theorem kP_inj : ∀ a b, kP a = kP b → a = b := fun a b e => by
  unfold kP at e
  simp only [List.cons.injEq, Sum.inl.injEq, and_true] at e
  exact Prod.ext e.1 e.2
theorem take_snoc {α : Type} {xs : List α} {i : Nat} {x : α} (h : xs[i]? = some x) : xs.take (i + 1) = xs.take i ++ [x] := by
  rw [List.take_add_one, h]
  rfl
theorem small_of {n : Nat} (h : n ≤ 100000) : n < sizeLine := Nat.lt_of_le_of_lt h (by decide)
/-- one more: what comes, where the key is there, where it isn't -/
theorem num_old {α : Type} [DecidableEq α] {xs : List α} {x : α} (h : x ∈ firsts xs) : num (xs ++ [x]) = num xs ++ [(((firsts xs).idxOf x : Nat) : Int)] ∧ firsts (xs ++ [x]) = firsts xs := by
  rw [num_snoc, firsts_snoc, if_pos h]
  exact ⟨rfl, if_pos h⟩
theorem num_new {α : Type} [DecidableEq α] {xs : List α} {x : α} (h : x ∉ firsts xs) : num (xs ++ [x]) = num xs ++ [((firsts xs).length : Int)] ∧ firsts (xs ++ [x]) = firsts xs ++ [x] := by
  rw [num_snoc, firsts_snoc, if_neg h]
  exact ⟨rfl, if_neg h⟩
theorem firsts_le {α : Type} [DecidableEq α] (xs : List α) : (firsts xs).length ≤ xs.length := by
  refine firsts_rec (P := fun xs => (firsts xs).length ≤ xs.length) (Nat.le_refl _) (fun xs x h => ?_) xs
  rw [firsts_snoc]
  unfold ins
  split
  · rw [List.length_append]
    omega
  · rw [List.length_append, List.length_append]
    show _ + 1 ≤ _ + 1
    omega
section
variable {P : Program} {w : World} {K : PySem.W.Frag} {mg : Str → Option Value} {base : Heap}
/-- numbered of whole numbers: a tuple (b = true), a list -/
def spNumT : Sp := fun vs H Q _ => ∃ a xs, vs = [.ref a] ∧ TI H a xs ∧ xs.length ≤ 1000 ∧ ∀ H' p, Same H H' → TI H' p (num xs) → Q (.ref p) H'
def spNumL : Sp := fun vs H Q _ => ∃ (a : Addr) (xs : List Int), vs = [.ref a] ∧ H a = some (.lst (xs.map V.int)) ∧ xs.length ≤ 1000 ∧ ∀ H' p, Same H H' → TI H' p (num xs) → Q (.ref p) H'
/-- of pairs -/
def PairsAt (H : Hp) (ts : List Addr) (xs : List (Int × Int)) : Prop := ts.length = xs.length ∧ ∀ (i : Nat) (t : Addr), ts[i]? = some t → ∃ x, xs[i]? = some x ∧ H t = some (.tup [.int x.1, .int x.2])
def spNumP : Sp := fun vs H Q _ => ∃ (a : Addr) (ts : List Addr) (xs : List (Int × Int)), vs = [.ref a] ∧ H a = some (.lst (ts.map V.ref)) ∧ PairsAt H ts xs ∧ xs.length ≤ 1000 ∧ ∀ H' p, Same H H' → TI H' p (num xs) → Q (.ref p) H'
end
end KQ
namespace KQ
open PySem PySem.Spec PyProof.Rows L2 KR KM
section
variable {P : Program} {w : World} {K : PySem.W.Frag} {mg : Str → Option Value} {base : Heap}
def spPof : Sp := fun vs H Q _ => ∃ a xs, vs = [.ref a] ∧ TI H a xs ∧ xs ≠ [] ∧ xs.length ≤ 60 ∧ ∀ H' p, Same H H' → TI H' p (num xs) → Q (.ref p) H'
/-- unlike doors below many -/
structure Drs (ds : List Int) (many : Int) : Prop where
  ne : ds ≠ []
  le : ds.length ≤ 60
  nd : ds.Nodup
  at_ : ∀ d ∈ ds, 0 ≤ d ∧ d < many
def spDrs : Sp := fun vs H Q _ => ∃ a ds many, vs = [.ref a, .int many] ∧ TI H a ds ∧ Drs ds many ∧ ∀ H', Same H H' → Q .non H'
end
end KQ
namespace KM
/-! doors by block; all partings -/
def doorsOf (p : List Int) (b : Int) : List Int := (p.zipIdx.filter fun q => decide (q.1 = b)).map fun q => ((q.2 : Nat) : Int)
theorem doorsOf_snoc (p : List Int) (x b : Int) : doorsOf (p ++ [x]) b = doorsOf p b ++ (if x = b then [((p.length : Nat) : Int)] else []) := by
  unfold doorsOf
  rw [List.zipIdx_append, List.filter_append, List.map_append]
  by_cases h : x = b
  · simp [h]
  · simp [h]
theorem doorsOf_len (p : List Int) (b : Int) : (doorsOf p b).length ≤ p.length := by
  unfold doorsOf
  rw [List.length_map]
  refine Nat.le_trans (List.length_filter_le _ _) ?_
  rw [List.length_zipIdx]
  exact Nat.le_refl _
theorem doorsOf_small (p : List Int) (b : Int) : ∀ x ∈ doorsOf p b, 0 ≤ x ∧ x < p.length := by
  intro x hx
  unfold doorsOf at hx
  obtain ⟨q, hq, rfl⟩ := List.mem_map.mp hx
  have h1 := (List.mem_filter.mp hq).1
  have h2 := List.mem_zipIdx h1
  omega
/-- a row and one door more, into each block and a new one -/
def ext (row : List Int) : List (List Int) := (List.range (bc 0 row + 1).toNat).map fun b => row ++ [((b : Nat) : Int)]
def allP : Nat → List (List Int)
  | 0 => [[0]]
  | n + 1 => (allP n).flatMap ext
theorem allP_ok : ∀ (n : Nat), ∀ r ∈ allP n, Rg 0 r ∧ r.length = n + 1
  | 0, r, h => by
    rw [List.mem_singleton.mp h]
    exact ⟨⟨Int.le_refl _, Int.le_refl _, trivial⟩, rfl⟩
  | n + 1, r, h => by
    obtain ⟨q, hq, hr⟩ := List.mem_flatMap.mp h
    obtain ⟨b, hb, rfl⟩ := List.mem_map.mp hr
    obtain ⟨h1, h2⟩ := allP_ok n q hq
    have hb := List.mem_range.mp hb
    have := bc_ge 0 q
    refine ⟨?_, by rw [List.length_append, h2]; rfl⟩
    rw [rg_app]
    exact ⟨h1, by omega, by omega, trivial⟩
theorem allP_count : ∀ n : Fin 8, (allP n.val).length ≤ 4140 := by decide +kernel
theorem ext_len (row : List Int) : (ext row).length = (bc 0 row + 1).toNat := by
  unfold ext
  rw [List.length_map, List.length_range]
theorem flat_take {α β : Type} (f : α → List β) {xs : List α} {i : Nat} {x : α} (h : xs[i]? = some x) : (xs.take (i + 1)).flatMap f = (xs.take i).flatMap f ++ f x := by
  rw [List.take_add_one, h]
  simp
theorem flat_le {α β : Type} (f : α → List β) {xs : List α} {i : Nat} {x : α} (h : xs[i]? = some x) : ((xs.take i).flatMap f).length + (f x).length ≤ (xs.flatMap f).length := by
  have e : xs = xs.take (i + 1) ++ xs.drop (i + 1) := (List.take_append_drop _ _).symm
  have e2 : (xs.flatMap f).length = ((xs.take (i + 1)).flatMap f).length + ((xs.drop (i + 1)).flatMap f).length := by
    conv => lhs; rw [e]
    rw [List.flatMap_append, List.length_append]
  rw [e2, flat_take f h, List.length_append]
  omega
theorem ext_take {row : List Int} {j : Nat} (hj : j < (bc 0 row + 1).toNat) : (ext row).take (j + 1) = (ext row).take j ++ [row ++ [((j : Nat) : Int)]] := by
  have h : (ext row)[j]? = some (row ++ [((j : Nat) : Int)]) := by
    unfold ext
    rw [List.getElem?_map, List.getElem?_range hj]
    rfl
  rw [List.take_add_one, h]
  rfl
end KM
namespace KQ
open PySem PySem.Spec PyProof.Rows L2 KR KM StX
section
variable {P : Program} {w : World} {K : PySem.W.Frag} {mg : Str → Option Value} {base : Heap}
/-- a list of tuples of whole numbers; a tuple of such -/
def LT (H : Hp) (a : Addr) (xss : List (List Int)) : Prop := ∃ ts : List Addr, H a = some (.lst (ts.map V.ref)) ∧ ts.length = xss.length ∧ ∀ (i : Nat) (t : Addr), ts[i]? = some t → ∃ xs, xss[i]? = some xs ∧ TI H t xs
def TT (H : Hp) (a : Addr) (xss : List (List Int)) : Prop := ∃ ts : List Addr, H a = some (.tup (ts.map V.ref)) ∧ ts.length = xss.length ∧ ∀ (i : Nat) (t : Addr), ts[i]? = some t → ∃ xs, xss[i]? = some xs ∧ TI H t xs
theorem TT.mono {H H' : Hp} {a : Addr} {xss : List (List Int)} (h : TT H a xss) (e : Same H H') : TT H' a xss := by
  obtain ⟨ts, h1, h2, h3⟩ := h
  exact ⟨ts, e _ _ h1, h2, fun i t ht => let ⟨xs, q1, q2⟩ := h3 i t ht; ⟨xs, q1, q2.mono e⟩⟩
theorem LT.mono {H H' : Hp} {a : Addr} {xss : List (List Int)} (h : LT H a xss) (e : Same H H') : LT H' a xss := by
  obtain ⟨ts, h1, h2, h3⟩ := h
  exact ⟨ts, e _ _ h1, h2, fun i t ht => let ⟨xs, q1, q2⟩ := h3 i t ht; ⟨xs, q1, q2.mono e⟩⟩
def pick (p ds : List Int) : List Int := ds.map fun d => p.getD d.toNat 0
theorem get_of {p : List Int} {d : Int} (h0 : 0 ≤ d) (h1 : d < p.length) : p[d.toNat]? = some (p.getD d.toNat 0) := by
  have h : d.toNat < p.length := by omega
  rw [List.getElem?_eq_getElem h, List.getD_eq_getElem?_getD, List.getElem?_eq_getElem h]
  rfl
def spSome : Sp := fun vs H Q _ => ∃ a b p ds, vs = [.ref a, .ref b] ∧ TI H a p ∧ TI H b ds ∧ Par p ∧ Drs ds p.length ∧ ∀ H' r, Same H H' → TI H' r (num (pick p ds)) → Q (.ref r) H'
abbrev s_doors_by_block : Stmt := topS 15
theorem sc_doors_by_block : FnScope ["parting", "rows", "door", "block", "_"] ["parting"] (defScope s_doors_by_block) := ⟨rfl, rfl, rfl, by decide +kernel, rfl, by decide +kernel, by decide +kernel⟩
/-- the rows: a list of lists -/
def Rows (H : Hp) (a : Addr) (p : List Int) (many : Nat) : Prop := ∃ rs : List Addr, H a = some (.lst (rs.map V.ref)) ∧ rs.length = many ∧ rs.Nodup ∧ ∀ (b : Nat) (t : Addr), rs[b]? = some t → H t = some (.lst ((doorsOf p b).map V.int))
def spRows : Sp := fun vs H Q _ => ∃ a p, vs = [.ref a] ∧ TI H a p ∧ Par p ∧ ∀ H' l, Same H H' → Rows H' l p (bc 0 p).toNat → Q (.ref l) H'
theorem ok_doors_by_block (D : DefAt K mg "doors_by_block" s_doors_by_block) (T : Bt mg) (u_block_count : Use P w K mg base "block_count" 1 ["parting"] spCount) :
    Use P w K mg base "doors_by_block" 2 ["parting"] spRows := by
  refine use_of D (fun f fd F => F.ok sc_doors_by_block (fun vs H Q E h => ?_) (fun cdv A outer s H vs Q E hr h => ?_)) (fun _ _ _ _ _ _ us hl => match us, hl with | [_], _ => rfl)
  · obtain ⟨a, p, rfl, _⟩ := h
    rfl
  · obtain ⟨a, p, rfl, hp, par, q⟩ := h
    refine ⟨_, (pss_cons (ps_setLc (i := 1) (own := [("_", 4)]) rfl sc_doors_by_block.nd rfl rfl (sw_true rfl rfl rfl (by decide +kernel)) (pi_range1 (by rfl) T.range (pa_cons (pe_use u_block_count (by decide) hr (by rfl) (pa_cons (pv 0) pa_nil)) pa_nil)) (blkOk_by (N := ["parting", "rows", "door", "block", "_"]) (sc := defScope s_doors_by_block) (by decide +kernel)) (fun _ _ _ _ _ => (pg_name (i := 4) sc_doors_by_block.nd rfl (Or.inl rfl))) (fun _ _ _ _ _ => pts_nil) (fun _ _ _ _ _ => (pe_lst pa_nil)))
      (pss_cons (ps_for PassesOwn.never rfl (k_enumT (K := K) rfl (by rfl) T.enumerate (pa_cons (pv 0) pa_nil)) (pg_tup rfl (pgs_cons (pg_name (i := 2) sc_doors_by_block.nd rfl (Or.inl rfl)) (pgs_cons (pg_name (i := 3) sc_doors_by_block.nd rfl (Or.inl rfl)) pgs_nil)))
      (pss_one (ps_expr (k_bm (K := K) rfl PySem.F.plainAttrs_list PySem.F.slot_list_append PySem.F.type_list_append mt_append (pe_ix (k_ixl (K := K) rfl) (pv 1) (pv 3) (fun _ _ => rfl)) (pa_cons (pv 2) pa_nil)))))
      (pss_one (ps_ret (pv 1))))), ?_⟩
    have g0 := bc_ge 0 p
    have g1 := bc_le 0 p
    have g2 := par.le
    refine ⟨_, rfl, a, p, rfl, hp, par, _, rfl, by omega, by omega, fun L nL => ?_⟩
    refine lc_range (fun i H1 => Same H H1 ∧ ∃ rs : List Addr, H1 L = some (.lst (rs.map V.ref)) ∧ rs.length = i ∧ rs.Nodup ∧ ∀ t ∈ rs, H t = none ∧ t ≠ L ∧ H1 t = some (.lst []))
      ⟨same_new nL, [], upd_same, rfl, List.nodup_nil, fun t ht => (nomatch ht)⟩ ?_ ?_
    · rintro i H1 hi ⟨sm, rs, eL, hlen, nd, ht⟩
      refine ⟨rfl, Nat.zero_le _, fun t nt => ?_⟩
      have ntL : t ≠ L := fun e => by rw [e, eL] at nt; cases nt
      refine ⟨_, by rw [upd_ne ntL.symm]; exact eL, ?_, ?_, rs ++ [t], ?_, ?_, ?_, ?_⟩
      · rw [List.length_map]
        exact small_of (by omega)
      · exact same_mut (sm.trans (same_new nt)) nL
      · rw [upd_same, List.map_append]
        rfl
      · rw [List.length_append, hlen]
        rfl
      · rw [List.nodup_append]
        refine ⟨nd, by simp, fun x hx y hy e => ?_⟩
        rw [List.mem_singleton.mp hy] at e
        have := (ht x hx).2.2
        rw [e, nt] at this
        cases this
      · intro x hx
        rcases List.mem_append.mp hx with hx | hx
        · obtain ⟨h1, h2, h3⟩ := ht x hx
          refine ⟨h1, h2, ?_⟩
          rw [upd_ne h2, upd_ne (ne_of_none h3 nt)]
          exact h3
        · rw [List.mem_singleton.mp hx]
          refine ⟨sm.free nt, ntL, ?_⟩
          rw [upd_ne ntL, upd_same]
    · rintro H1 ⟨sm, rs, eL, hlen, nd, ht⟩
      refine ⟨_, rfl, a, _, rfl, (hp.mono sm).seq, for_enumT (K := K) (a := a) (xs := p.map V.int)
        (fun i σ H2 => ∃ y2 y3, σ = [some (.ref a), some (.ref L), y2, y3, none] ∧ Same H H2 ∧ H2 L = some (.lst (rs.map V.ref)) ∧ ∀ (b : Nat) (t : Addr), rs[b]? = some t → H2 t = some (.lst ((doorsOf (p.take i) b).map V.int)))
        ⟨none, none, rfl, sm, eL, fun b t hb => (ht t (List.mem_of_getElem? hb)).2.2⟩ (fun i σ H2 ⟨_, _, _, sm, _⟩ => (hp.mono sm).seq) ?_ ?_⟩
      · rintro i v T1 σ H2 hi ⟨y2, y3, rfl, sm2, eL2, hrows⟩ hT
        obtain ⟨x, hx, rfl⟩ := map_at hi
        obtain ⟨x0, x1⟩ := (rg_mem 0 p (Int.le_refl _) par.rg).1 x (List.mem_of_getElem? hx)
        have hxr : x.toNat < rs.length := by omega
        obtain ⟨t, htx⟩ : ∃ t, rs[x.toNat]? = some t := ⟨rs[x.toNat], List.getElem?_eq_getElem hxr⟩
        have et := hrows _ t htx
        refine ⟨T1, _, rfl, .inl (.inl upd_same), rfl, _, _, rfl, _, [], rfl, rfl, ?_⟩
        have ntT : t ≠ T1 := ne_of_none et hT
        have nLT : L ≠ T1 := ne_of_none eL2 hT
        have tL := (ht t (List.mem_of_getElem? htx)).2.1
        have etT : upd H2 T1 (.tup [.int (i : Nat), .int x]) t = some (.lst ((doorsOf (p.take i) x.toNat).map V.int)) := by rw [upd_ne ntT]; exact et
        have eLT : upd H2 T1 (.tup [.int (i : Nat), .int x]) L = some (.lst (rs.map V.ref)) := by rw [upd_ne nLT]; exact eL2
        refine ⟨_, rfl, _, rfl, L, _, x, _, rfl, rfl, .inl (.inl eLT), atI_of (j := x.toNat) (by omega) (at_map htx), .inl ⟨rfl, _, .inl (.inl etT)⟩, _, rfl, t, _, _, rfl, rfl, etT, ?_, ?_⟩
        · rw [List.length_map]
          have := doorsOf_len (p.take i) x.toNat
          rw [List.length_take] at this
          exact small_of (by omega)
        · refine ⟨some (.int (i : Nat)), some (.int x), rfl, same_mut (sm2.trans (same_new hT)) (ht t (List.mem_of_getElem? htx)).1, ?_, fun b u hu => ?_⟩
          · rw [upd_ne tL.symm]
            exact eLT
          · rw [take_snoc hx, doorsOf_snoc]
            have li : (p.take i).length = i := by
              have := (List.getElem?_eq_some_iff.mp hx).1
              rw [List.length_take]
              omega
            by_cases hbx : b = x.toNat
            · subst hbx
              rw [htx] at hu
              cases hu
              rw [upd_same, if_pos (by omega), li, List.map_append]
              rfl
            · have hut : u ≠ t := fun e => hbx (nd_ix nd hu (by rw [e]; exact htx))
              have eu := hrows b u hu
              rw [upd_ne hut, upd_ne (ne_of_none eu hT), if_neg (by omega), List.append_nil]
              exact eu
      · rintro σ H2 ⟨y2, y3, rfl, sm2, eL2, hrows⟩
        refine ⟨_, rfl, q H2 L sm2 ⟨rs, eL2, by omega, nd, fun b t hb => ?_⟩⟩
        have := hrows b t hb
        rw [List.length_map, List.take_length] at this
        exact this
end
end KQ
namespace KQ
open PySem PySem.Spec PyProof.Rows L2 KR KM StX
section
variable {P : Program} {w : World} {K : PySem.W.Frag} {mg : Str → Option Value} {base : Heap}
def blockList (p : List Int) : List (List Int) := (List.range (bc 0 p).toNat).map fun b => doorsOf p ((b : Nat) : Int)
theorem blockList_at {p : List Int} {b : Nat} (h : b < (bc 0 p).toNat) : (blockList p)[b]? = some (doorsOf p b) := by
  unfold blockList
  rw [List.getElem?_map, List.getElem?_range h]
  rfl
def spBlocks : Sp := fun vs H Q _ => ∃ a p, vs = [.ref a] ∧ TI H a p ∧ Par p ∧ ∀ H' r, Same H H' → TT H' r (blockList p) → Q (.ref r) H'
def besideP (p r : List Int) : List Int := p ++ r.map fun b => bc 0 p + b
def spBeside : Sp := fun vs H Q _ => ∃ a b p r, vs = [.ref a, .ref b] ∧ TI H a p ∧ TI H b r ∧ Par p ∧ Par r ∧ p.length + r.length ≤ 60 ∧ ∀ H' t, Same H H' → TI H' t (besideP p r) → Q (.ref t) H'
/-- two doors in one block of the one are in one block of the other -/
def Finer (p r : List Int) : Prop := ∀ (i j : Nat) (x y z : Int), p[i]? = some x → p[j]? = some x → r[i]? = some y → r[j]? = some z → y = z
def spLies : Sp := fun vs H Q _ => ∃ a b p r, vs = [.ref a, .ref b] ∧ TI H a p ∧ TI H b r ∧ p.length = r.length ∧ p.length ≤ 60 ∧ ∀ H' c, Same H H' → (c = true ↔ Finer p r) → Q (.bl c) H'
/-- what the dict knows: each block of the one so far with that of the other at its first door -/
def Known (p r : List Int) (i : Nat) (kvs : List (L2.Key × V)) : Prop := kvs.length ≤ i ∧ ∀ x : Int, (∀ v, valV kvs (kI x) = some v → ∃ (j : Nat) (y : Int), j < i ∧ p[j]? = some x ∧ r[j]? = some y ∧ v = .int y) ∧
  (valV kvs (kI x) = none → ∀ j, j < i → p[j]? ≠ some x)
theorem valV_put {κ : Type} [DecidableEq κ] (kvs : List (κ × V)) (k k' : κ) (v : V) (h : valV kvs k = none) : valV (putK kvs k v) k' = if k' = k then some v else valV kvs k' := by
  have hn : (kvs.any fun kv => decide (kv.1 = k)) = false := by
    unfold valV at h
    rw [Option.map_eq_none_iff, List.find?_eq_none] at h
    rw [List.any_eq_false]
    exact h
  unfold putK
  rw [if_neg (by rw [hn]; exact Bool.false_ne_true)]
  unfold valV
  rw [List.find?_append, Option.map_or]
  by_cases e : k' = k
  · subst e
    rw [if_pos rfl]
    unfold valV at h
    rw [h]
    simp
  · rw [if_neg e]
    have e2 : ¬ k = k' := fun q => e q.symm
    simp [e2]
theorem putK_len {κ : Type} [DecidableEq κ] (kvs : List (κ × V)) (k : κ) (v : V) : (putK kvs k v).length ≤ kvs.length + 1 := length_putK kvs k v
end
end KQ
namespace KQ
open PySem PySem.Spec PyProof.Rows L2 KR KM StX
section
variable {P : Program} {w : World} {K : PySem.W.Frag} {mg : Str → Option Value} {base : Heap}
def spFiner : Sp := fun vs H Q _ => ∃ a b p r, vs = [.ref a, .ref b] ∧ TI H a p ∧ TI H b r ∧ Par p ∧ Par r ∧ p.length = r.length ∧ ∀ H' c, Same H H' → (c = true ↔ Finer p r) → Q (.bl c) H'
def spBelow : Sp := fun vs H Q _ => ∃ a b p r, vs = [.ref a, .ref b] ∧ TI H a p ∧ TI H b r ∧ Par p ∧ Par r ∧ p.length = r.length ∧ ∀ H' t, Same H H' → TI H' t (num (p.zip r)) → Q (.ref t) H'
theorem zipped_pairs {p r : List Int} {H H' : Hp} {ts : List Addr} (hl : p.length = r.length) (tl : ts.length = (p.map V.int).length)
    (tt : ∀ (i : Nat) (t : Addr), ts[i]? = some t → H t = none ∧ ∃ x y, (p.map V.int)[i]? = some x ∧ (r.map V.int)[i]? = some y ∧ H' t = some (.tup [x, y])) : PairsAt H' ts (p.zip r) := by
  refine ⟨?_, fun i t ht => ?_⟩
  · rw [tl, List.length_map, List.length_zip]
    omega
  · obtain ⟨_, x, y, h1, h2, h3⟩ := tt i t ht
    obtain ⟨x', hx, rfl⟩ := map_at h1
    obtain ⟨y', hy, rfl⟩ := map_at h2
    refine ⟨(x', y'), ?_, h3⟩
    rw [List.getElem?_zip_eq_some]
    exact ⟨hx, hy⟩
def spPofD : Sp := fun vs H Q _ => ∃ n : Nat, vs = [.int ((n + 1 : Nat) : Int)] ∧ n < 8 ∧ ∀ H' t, Same H H' → TT H' t (allP n) → Q (.ref t) H'
end
end KQ
namespace KM
/-! ### clumps: roots -/
def up (hs : List Nat) (x : Nat) : Nat := hs.getD x x
def Dn (hs : List Nat) : Prop := ∀ x, up hs x ≤ x
def rt (hs : List Nat) : Nat → Nat → Nat
  | 0, x => x
  | f + 1, x => if up hs x = x then x else rt hs f (up hs x)
/-- more fuel changes nothing -/
theorem rt_more {hs : List Nat} (h : Dn hs) : ∀ (f x k : Nat), x ≤ f → rt hs (f + k) x = rt hs f x := by
  intro f
  induction f with
  | zero =>
    intro x k hx
    have e0 : x = 0 := by omega
    subst e0
    have e : up hs 0 = 0 := by have := h 0; omega
    cases k with
    | zero => rfl
    | succ k =>
      show rt hs (0 + (k + 1)) 0 = 0
      rw [Nat.zero_add]
      show (if up hs 0 = 0 then 0 else _) = 0
      rw [if_pos e]
  | succ f ih =>
    intro x k hx
    rw [show f + 1 + k = (f + k) + 1 by omega]
    show (if up hs x = x then x else rt hs (f + k) (up hs x)) = (if up hs x = x then x else rt hs f (up hs x))
    have hx0 := h x
    by_cases e : up hs x = x
    · rw [if_pos e, if_pos e]
    · rw [if_neg e, if_neg e, ih _ k (by omega)]
def root (hs : List Nat) (x : Nat) : Nat := rt hs x x
theorem root_fuel {hs : List Nat} (h : Dn hs) {f x : Nat} (hx : x ≤ f) : rt hs f x = root hs x := by
  have := rt_more h x x (f - x) (Nat.le_refl _)
  rw [show x + (f - x) = f by omega] at this
  exact this
theorem root_at {hs : List Nat} (h : Dn hs) (x : Nat) : root hs x = if up hs x = x then x else root hs (up hs x) := by
  have hx0 := h x
  cases x with
  | zero =>
    rw [if_pos (by omega)]
    rfl
  | succ x =>
    show (if up hs (x + 1) = x + 1 then x + 1 else rt hs x (up hs (x + 1))) = _
    by_cases e : up hs (x + 1) = x + 1
    · rw [if_pos e, if_pos e]
    · rw [if_neg e, if_neg e, root_fuel h (by omega)]
theorem root_self {hs : List Nat} (h : Dn hs) {x : Nat} (e : up hs x = x) : root hs x = x := by
  rw [root_at h, if_pos e]
theorem root_up {hs : List Nat} (h : Dn hs) (x : Nat) : root hs (up hs x) = root hs x := by
  rw [root_at h x]
  by_cases e : up hs x = x
  · rw [if_pos e, e, root_self h e]
  · rw [if_neg e]
theorem root_le {hs : List Nat} (h : Dn hs) : ∀ (n x : Nat), x ≤ n → root hs x ≤ x ∧ up hs (root hs x) = root hs x
  | 0, x, hx => by
    have e0 : x = 0 := by omega
    subst e0
    have e : up hs 0 = 0 := by have := h 0; omega
    rw [root_self h e]
    exact ⟨Nat.le_refl _, e⟩
  | n + 1, x, hx => by
    have hx0 := h x
    by_cases e : up hs x = x
    · rw [root_self h e]
      exact ⟨Nat.le_refl _, e⟩
    · have ih := root_le h n (up hs x) (by omega)
      rw [root_up h] at ih
      exact ⟨by omega, ih.2⟩
theorem up_root {hs : List Nat} (h : Dn hs) (x : Nat) : up hs (root hs x) = root hs x := (root_le h x x (Nat.le_refl _)).2
theorem root_le' {hs : List Nat} (h : Dn hs) (x : Nat) : root hs x ≤ x := (root_le h x x (Nat.le_refl _)).1
theorem up_set {hs : List Nat} {x v y : Nat} (hx : x < hs.length) : up (hs.set x v) y = if y = x then v else up hs y := by
  unfold up
  rw [List.getD_eq_getElem?_getD, List.getElem?_set, List.getD_eq_getElem?_getD]
  by_cases e : x = y
  · subst e
    simp [hx]
  · have e2 : ¬ y = x := fun q => e q.symm
    simp [e, e2]
theorem dn_set {hs : List Nat} (h : Dn hs) {x v : Nat} (hx : x < hs.length) (hv : v ≤ x) : Dn (hs.set x v) := fun y => by
  rw [up_set hx]
  split
  · omega
  · exact h y
/-- a shorter way: the roots stay -/
theorem root_halve {hs : List Nat} (h : Dn hs) {x : Nat} (hx : x < hs.length) : ∀ (n y : Nat), y ≤ n → root (hs.set x (up hs (up hs x))) y = root hs y := by
  have hv : up hs (up hs x) ≤ x := Nat.le_trans (h _) (h x)
  have h2 := dn_set h hx hv
  intro n
  induction n with
  | zero =>
    intro y hy
    have e0 : y = 0 := by omega
    subst e0
    have a := root_le' h 0
    have b := root_le' h2 0
    omega
  | succ n ih =>
    intro y hy
    rw [root_at h2, up_set hx]
    by_cases e : y = x
    · subst e
      rw [if_pos rfl]
      by_cases e2 : up hs (up hs y) = y
      · have e3 : up hs y = y := by
          have := h (up hs y)
          have := h y
          omega
        rw [if_pos e2, root_self h e3]
      · have lt : up hs (up hs y) < y := by
          have := h (up hs y)
          have := h y
          omega
        rw [if_neg e2, ih _ (by omega), root_up h, root_up h]
    · rw [if_neg e]
      have hy0 := h y
      by_cases e2 : up hs y = y
      · rw [if_pos e2, root_self h e2]
      · rw [if_neg e2, ih _ (by omega), root_up h]
/-- two roots made one -/
theorem root_unite {hs : List Nat} (h : Dn hs) {a b : Nat} (hb : b < hs.length) (ea : up hs a = a) (eb : up hs b = b) (lt : a < b) : ∀ (n y : Nat), y ≤ n → root (hs.set b a) y = if root hs y = b then a else root hs y := by
  have h2 := dn_set h hb (Nat.le_of_lt lt)
  intro n
  induction n with
  | zero =>
    intro y hy
    have e0 : y = 0 := by omega
    subst e0
    have p := root_le' h 0
    have q := root_le' h2 0
    rw [if_neg (by omega)]
    omega
  | succ n ih =>
    intro y hy
    rw [root_at h2, up_set hb]
    by_cases e : y = b
    · subst e
      rw [if_pos rfl, if_neg (by omega), ih _ (by omega), root_self h ea, root_self h eb, if_neg (by omega), if_pos rfl]
    · rw [if_neg e]
      have hy0 := h y
      by_cases e2 : up hs y = y
      · rw [if_pos e2, root_self h e2, if_neg e]
      · rw [if_neg e2, ih _ (by omega), root_up h]
/-! ### what is glued together -/
def J (R : Nat → Nat → Prop) (a b x y : Nat) : Prop := R x y ∨ (R x a ∧ R b y) ∨ (R x b ∧ R a y)
def glue (ts : List (Nat × Nat)) : Nat → Nat → Prop := ts.foldl (fun R t => J R t.1 t.2) Eq
theorem glue_snoc (ts : List (Nat × Nat)) (t : Nat × Nat) : glue (ts ++ [t]) = J (glue ts) t.1 t.2 := by
  unfold glue
  rw [List.foldl_append]
  rfl
structure Eqv (R : Nat → Nat → Prop) : Prop where
  refl : ∀ x, R x x
  symm : ∀ x y, R x y → R y x
  trans : ∀ x y z, R x y → R y z → R x z
theorem J_eqv {R : Nat → Nat → Prop} (h : Eqv R) (a b : Nat) : Eqv (J R a b) := by
  refine ⟨fun x => .inl (h.refl x), fun x y q => ?_, fun x y z q1 q2 => ?_⟩
  · rcases q with q | ⟨q, r⟩ | ⟨q, r⟩
    · exact .inl (h.symm _ _ q)
    · exact .inr (.inr ⟨h.symm _ _ r, h.symm _ _ q⟩)
    · exact .inr (.inl ⟨h.symm _ _ r, h.symm _ _ q⟩)
  · have t := h.trans
    have s := h.symm
    rcases q1 with q1 | ⟨q1, r1⟩ | ⟨q1, r1⟩ <;> rcases q2 with q2 | ⟨q2, r2⟩ | ⟨q2, r2⟩
    · exact .inl (t _ _ _ q1 q2)
    · exact .inr (.inl ⟨t _ _ _ q1 q2, r2⟩)
    · exact .inr (.inr ⟨t _ _ _ q1 q2, r2⟩)
    · exact .inr (.inl ⟨q1, t _ _ _ r1 q2⟩)
    · exact .inr (.inl ⟨q1, r2⟩)
    · exact .inl (t _ _ _ q1 r2)
    · exact .inr (.inr ⟨q1, t _ _ _ r1 q2⟩)
    · exact .inl (t _ _ _ q1 r2)
    · exact .inr (.inr ⟨q1, r2⟩)
theorem glue_eqv (ts : List (Nat × Nat)) : Eqv (glue ts) := by
  refine firsts_rec' (P := fun ts => Eqv (glue ts)) ⟨fun _ => rfl, fun _ _ h => Eq.symm h, fun _ _ _ h1 h2 => Eq.trans h1 h2⟩ (fun ts t h => ?_) ts
  rw [glue_snoc]
  exact J_eqv h _ _
where
  firsts_rec' {α : Type} {P : List α → Prop} (h0 : P []) (hs : ∀ xs x, P xs → P (xs ++ [x])) : ∀ xs, P xs := by
    intro xs
    have : ∀ n (xs : List α), xs.length = n → P xs := by
      intro n
      induction n with
      | zero =>
        intro xs h
        rw [List.eq_nil_of_length_eq_zero h]
        exact h0
      | succ n ih =>
        intro xs h
        have hne : xs ≠ [] := by
          intro e
          rw [e] at h
          cases h
        rw [← List.dropLast_concat_getLast hne]
        exact hs _ _ (ih _ (by rw [List.length_dropLast, h]; rfl))
    exact this _ xs rfl
/-- the roots behind a tie -/
theorem tie_roots {hs hs' : List Nat} {R : Nat → Nat → Prop} {a b : Nat} (e : Eqv R) (h : ∀ x y, root hs x = root hs y ↔ R x y)
    (h' : ∀ y, root hs' y = if root hs y = max (root hs a) (root hs b) then min (root hs a) (root hs b) else root hs y) (x y : Nat) : root hs' x = root hs' y ↔ J R a b x y := by
  unfold J
  rw [h' x, h' y, ← h x y, ← h x a, ← h b y, ← h x b, ← h a y]
  generalize root hs x = rx
  generalize root hs y = ry
  generalize root hs a = ra
  generalize root hs b = rb
  rcases Nat.lt_trichotomy ra rb with g | g | g
  · rw [Nat.max_eq_right (by omega), Nat.min_eq_left (by omega)]
    split <;> split <;> omega
  · subst g
    rw [Nat.max_self, Nat.min_self]
    split <;> split <;> omega
  · rw [Nat.max_eq_left (by omega), Nat.min_eq_right (by omega)]
    split <;> split <;> omega
/-- labels behind a tie -/
theorem tie_labels {L L' : Nat → Int} {R : Nat → Nat → Prop} {a b : Nat} {S : Nat → Prop} (h : ∀ x y, S x → S y → (L x = L y ↔ R x y)) (sa : S a) (sb : S b)
    (h' : ∀ y, S y → L' y = if L y = L b then L a else L y) (x y : Nat) (sx : S x) (sy : S y) : L' x = L' y ↔ J R a b x y := by
  unfold J
  rw [h' x sx, h' y sy, ← h x y sx sy, ← h x a sx sa, ← h b y sb sy, ← h x b sx sb, ← h a y sa sy]
  generalize L x = rx
  generalize L y = ry
  generalize L a = ra
  generalize L b = rb
  split <;> split <;> omega
theorem up_range (n x : Nat) : up (List.range n) x = x := by
  unfold up
  rw [List.getD_eq_getElem?_getD]
  by_cases h : x < n
  · rw [List.getElem?_range h]
    rfl
  · rw [List.getElem?_eq_none (by rw [List.length_range]; omega)]
    rfl
theorem dn_range (n : Nat) : Dn (List.range n) := fun x => by
  rw [up_range]
  exact Nat.le_refl _
theorem root_range (n x : Nat) : root (List.range n) x = x := root_self (dn_range n) (up_range n x)
end KM
namespace KQ
open PySem PySem.Spec PyProof.Rows L2 KR KM StX
section
variable {P : Program} {w : World} {K : PySem.W.Frag} {mg : Str → Option Value} {base : Heap}
/-! ### clumps -/
def cf (l : Addr) (m : Int) : List (Str × V) := putF "many" (.int m) (putF "heads" (.ref l) [])
theorem hm_ne : ¬ (("heads" : Str) = "many") := by decide +kernel
theorem cf_heads (l : Addr) (m : Int) : (cf l m).lookup ("heads" : Str) = some (.ref l) := by
  unfold cf
  rw [lookup_putF, if_neg hm_ne, lookup_putF, if_pos rfl]
theorem cf_many (l : Addr) (m : Int) : (cf l m).lookup ("many" : Str) = some (.int m) := by
  unfold cf
  rw [lookup_putF, if_pos rfl]
theorem cf_no (l : Addr) (m : Int) {x : Str} (h1 : ¬ x = "many") (h2 : ¬ x = "heads") : (cf l m).lookup x = none := by
  unfold cf
  rw [lookup_putF, if_neg h1, lookup_putF, if_neg h2]
  rfl
theorem cf_eq (l : Addr) (m : Int) : cf l m = ([("heads", V.ref l), ("many", V.int m)] : List (Str × V)) := by
  show (if ("heads" : Str) = "many" then [(("heads" : Str), V.int m)] else (("heads" : Str), V.ref l) :: putF "many" (V.int m) []) = _
  rw [if_neg hm_ne]
  rfl
theorem cf_put (l : Addr) (m m' : Int) : putF "many" (.int m') (cf l m) = cf l m' := by
  rw [cf_eq, cf_eq]
  show (if ("heads" : Str) = "many" then _ else (("heads" : Str), V.ref l) :: (if ("many" : Str) = "many" then [(("many" : Str), V.int m')] else _)) = _
  rw [if_neg hm_ne, if_pos rfl]
def hv (hs : List Nat) : List V := hs.map fun n => V.int ((n : Nat) : Int)
/-- clumps stand at o, their heads in the list at l -/
def CAt (C : Addr) (H : Hp) (o l : Addr) (hs : List Nat) (m : Int) : Prop := (∃ dx, H o = some (.ins C dx (cf l m))) ∧ H l = some (.lst (hv hs))
def But (l : Addr) (H H' : Hp) : Prop := ∀ b u, H b = some u → b ≠ l → H' b = some u
theorem hv_at {hs : List Nat} {x : Nat} (h : x < hs.length) : (hv hs)[x]? = some (.int ((up hs x : Nat) : Int)) := by
  unfold hv up
  rw [List.getElem?_map, List.getElem?_eq_getElem h, List.getD_eq_getElem?_getD, List.getElem?_eq_getElem h]
  rfl
theorem hv_set (hs : List Nat) (x v : Nat) : (hv hs).set x (.int ((v : Nat) : Int)) = hv (hs.set x v) := by
  unfold hv
  rw [List.map_set]
theorem hv_len (hs : List Nat) : (hv hs).length = hs.length := List.length_map ..
theorem rgV_hv (n : Nat) : rgV 0 ((n : Nat) : Int) = hv (List.range n) := by
  unfold rgV hv
  rw [show (((n : Nat) : Int) - 0).toNat = n by omega]
  refine List.map_congr_left fun x _ => ?_
  show V.int (0 + _) = _
  rw [Int.zero_add]
def spInit (C : Addr) : Sp := fun vs H Q _ => ∃ (o dx : Addr) (n : Nat), vs = [.ref o, .int ((n : Nat) : Int)] ∧ H o = some (.ins C dx []) ∧ n ≤ 1000 ∧
  ∀ H' l, CAt C H' o l (List.range n) n → H l = none → But o H H' → Q .non H'
def spHead (C : Addr) : Sp := fun vs H Q _ => ∃ (o l : Addr) (hs : List Nat) (m : Int) (x : Nat), vs = [.ref o, .int ((x : Nat) : Int)] ∧ CAt C H o l hs m ∧ Dn hs ∧ x < hs.length ∧
  ∀ H' hs', CAt C H' o l hs' m → Dn hs' → hs'.length = hs.length → (∀ y, root hs' y = root hs y) → But l H H' → Q (.int ((root hs x : Nat) : Int)) H'
def spUnite (C : Addr) : Sp := fun vs H Q _ => ∃ (o l : Addr) (hs : List Nat) (m : Int) (a b : Nat), vs = [.ref o, .int ((a : Nat) : Int), .int ((b : Nat) : Int)] ∧ CAt C H o l hs m ∧ Dn hs ∧ a < hs.length ∧ b < hs.length ∧
  ∀ H' hs', CAt C H' o l hs' (if root hs a = root hs b then m else m - 1) → Dn hs' → hs'.length = hs.length →
    (∀ y, root hs' y = if root hs y = max (root hs a) (root hs b) then min (root hs a) (root hs b) else root hs y) → (∀ c u, H c = some u → c ≠ l → c ≠ o → H' c = some u) → Q (.bl (!decide (root hs a = root hs b))) H'
end
end KQ
namespace KQ
open PySem PySem.Spec PyProof.Rows L2 KR KM StX
section
variable {P : Program} {w : World} {K : PySem.W.Frag} {mg : Str → Option Value} {base : Heap}
def tiesOf (p r : List Int) : List (Nat × Nat) := (p.zip r).map fun q => (q.1.toNat, (bc 0 p + q.2).toNat)
theorem ties_at {p r : List Int} {i : Nat} {x y : Int} (hx : p[i]? = some x) (hy : r[i]? = some y) : (tiesOf p r)[i]? = some (x.toNat, (bc 0 p + y).toNat) := by
  unfold tiesOf
  refine at_map (x := (x, y)) ?_
  rw [List.getElem?_zip_eq_some]
  exact ⟨hx, hy⟩
theorem ties_len {p r : List Int} (h : p.length = r.length) : (tiesOf p r).length = p.length := by
  unfold tiesOf
  rw [List.length_map, List.length_zip]
  omega
def spAbove : Sp := fun vs H Q _ => ∃ a b p r, vs = [.ref a, .ref b] ∧ TI H a p ∧ TI H b r ∧ Par p ∧ Par r ∧ p.length = r.length ∧
  ∀ H' t (L : Nat → Int), Same H H' → (∀ x y, L x = L y ↔ glue (tiesOf p r) x y) → TI H' t (num (p.map fun b => L b.toNat)) → Q (.ref t) H'
end
end KQ
namespace KQ
open PySem PySem.Spec PyProof.Rows L2 KR KM StX
section
variable {P : Program} {w : World} {K : PySem.W.Frag} {mg : Str → Option Value} {base : Heap}
theorem nb {i : Int} {b : Nat} (h0 : 0 ≤ i) (h : i < 2 ^ b) : i.natAbs < 2 ^ b := by
  have : ((i.natAbs : Nat) : Int) < ((2 ^ b : Nat) : Int) := by
    rw [Int.natAbs_of_nonneg h0]
    push_cast
    exact h
  omega
theorem fm {i j : Int} (h : 0 < j) : 0 ≤ i.fmod j ∧ i.fmod j < j := ⟨Int.fmod_nonneg_of_pos _ h, Int.fmod_lt_of_pos _ h⟩
abbrev s__law_mixed : Stmt := topS 28
theorem sc__law_mixed : FnScope ["cell", "n", "blend"] ["cell", "n"] (defScope s__law_mixed) := ⟨rfl, rfl, rfl, by decide +kernel, rfl, by decide +kernel, by decide +kernel⟩
def spMixed : Sp := fun vs H Q _ => ∃ c n, vs = [.int c, .int n] ∧ 0 ≤ c ∧ c < 2 ^ 40 ∧ 0 ≤ n ∧ n < 2 ^ 24 ∧ ∀ r, 0 ≤ r → r < 2 ^ 31 → Q (.int r) H
theorem ok_mixed (D : DefAt K mg "_law_mixed" s__law_mixed) (T : Bt mg) : Use P w K mg base "_law_mixed" 1 ["cell", "n"] spMixed := by
  refine use_of D (fun f fd F => F.ok sc__law_mixed (fun vs H Q E h => ?_) (fun cdv A outer s H vs Q E hr h => ?_)) (fun _ _ _ _ _ _ us hl => match us, hl with | [_, _], _ => rfl)
  · obtain ⟨c, n, rfl, _⟩ := h
    rfl
  · obtain ⟨c, n, rfl, c0, c1, n0, n1, q⟩ := h
    refine ⟨_, (pss_cons (ps_set (i := 2) sc__law_mixed.nd rfl (Or.inl rfl) (pe_op op_add (pe_op op_add (pe_op op_modN (pe_callTy call_int1 (by rfl) T.int (by decide +kernel) (pa_cons (pe_op op_mulW (pe_op op_mulW (pv 0) (pe_op op_add pe_int (pe_op op_mulW pe_int (pv 1)))) pe_int) pa_nil)) pe_int) (pe_op op_mulW (pe_op op_mulW pe_int (pv 1)) (pv 1))) (pe_op op_mulW pe_int (pv 1))))
      (pss_one (ps_ret (pe_op op_fdivW (pe_op op_modN (pe_callTy call_int1 (by rfl) T.int (by decide +kernel) (pa_cons (pe_op op_mulW (pv 2) pe_int) pa_nil)) pe_int) pe_int)))), ?_⟩
    have e2 : (2 : Int) ^ 24 = 16777216 := by decide
    have hn : n.natAbs < 2 ^ 24 := nb n0 n1
    have hc : c.natAbs < 2 ^ 40 := nb c0 c1
    have h1 : (2 * n).natAbs < 2 ^ (2 + 24) := wide_lt (by decide) hn
    have h2 : (1 + 2 * n).natAbs < 2 ^ 27 := nb (by omega) (by omega)
    have h3 : (c * (1 + 2 * n)).natAbs < 2 ^ (40 + 27) := wide_lt hc h2
    have h4 : (7919 * n).natAbs < 2 ^ (13 + 24) := wide_lt (by decide) hn
    have h5 : (7919 * n * n).natAbs < 2 ^ (37 + 24) := wide_lt h4 hn
    have h6 : (104729 * n).natAbs < 2 ^ (17 + 24) := wide_lt (by decide) hn
    have f1 := fm (i := c * (1 + 2 * n) * 48271) (j := 2147483647) (by decide)
    generalize hX : (c * (1 + 2 * n) * 48271).fmod 2147483647 = X at f1
    have e3 : (2 : Nat) ^ (37 + 24) = 2305843009213693952 := by decide
    have e4 : (2 : Nat) ^ (17 + 24) = 2199023255552 := by decide
    have e5 : (2 : Nat) ^ 70 = 1180591620717411303424 := by decide
    have h7 : (X + 7919 * n * n + 104729 * n).natAbs < 2 ^ 70 := by
      generalize 7919 * n * n = u at *
      generalize 104729 * n = v at *
      omega
    generalize hY : X + 7919 * n * n + 104729 * n = Y at h7
    have f2 := fm (i := Y * 69621) (j := 2147483629) (by decide)
    generalize hZ : (Y * 69621).fmod 2147483629 = Z at f2
    subst hZ hY hX
    refine ⟨_, rfl, _, rfl, 2, n, rfl, rfl, wide_mul (by decide : (2 : Int).natAbs < 2 ^ 2) hn (by decide) (by decide) (by decide), 1, 2 * n, rfl, rfl, c, 1 + 2 * n, rfl, rfl, wide_mul hc h2 (by decide) (by decide) (by decide), ?_⟩
    refine ⟨c * (1 + 2 * n), 48271, rfl, rfl, wide_mul h3 (by decide : (48271 : Int).natAbs < 2 ^ 16) (by decide) (by decide) (by decide), .inl ⟨_, rfl, ?_⟩⟩
    refine ⟨_, 2147483647, rfl, rfl, (show (2147483647 : Int) ≠ 0 by decide), ?_⟩
    refine ⟨_, rfl, 7919, n, rfl, rfl, wide_mul (by decide : (7919 : Int).natAbs < 2 ^ 13) hn (by decide) (by decide) (by decide), _, rfl, 7919 * n, n, rfl, rfl, wide_mul h4 hn (by decide) (by decide) (by decide), ?_⟩
    refine ⟨_, _, rfl, rfl, _, rfl, 104729, n, rfl, rfl, wide_mul (by decide : (104729 : Int).natAbs < 2 ^ 17) hn (by decide) (by decide) (by decide), _, _, rfl, rfl, ?_⟩
    refine ⟨_, rfl, _, 69621, rfl, rfl, wide_mul h7 (by decide : (69621 : Int).natAbs < 2 ^ 17) (by decide) (by decide) (by decide), .inl ⟨_, rfl, ?_⟩⟩
    refine ⟨_, 2147483629, rfl, rfl, (show (2147483629 : Int) ≠ 0 by decide), _, 7, rfl, rfl, wide_div (by decide) (by decide : (7 : Int).natAbs < 2 ^ 3) (by decide) (by decide), ?_⟩
    exact q _ (by omega) (by omega)
theorem depth0 : ∀ (ns : List Int), PyData.depthAll (ns.map .int) = 0
  | [] => rfl
  | n :: r => by simp only [List.map, PyData.depthAll, PyData.depth, depth0 r]; rfl
theorem lay0 : ∀ (ns : List Int), PyData.canLayAll0 (ns.map .int) = true
  | [] => rfl
  | n :: r => by simp only [List.map, PyData.canLayAll0, PyData.canLay0, lay0 r, Bool.and_self]
theorem shaped_ints (ns : List Int) : SeqAt.shaped (.list (ns.map .int)) = true := by
  unfold SeqAt.shaped
  simp only [PyData.canLay0, lay0, PyData.depth, depth0]
  rfl
theorem eqv_nil (ns : List Int) : (!PyData.eqv (.list (ns.map .int)) (.list [])) = !ns.isEmpty := by
  cases ns <;> rfl
abbrev s__law_draw : Stmt := topS 30
theorem sc__law_draw : FnScope ["m", "limit", "n", "lot", "here", "cell"] ["m", "limit"] (defScope s__law_draw) := ⟨rfl, rfl, rfl, by decide +kernel, rfl, by decide +kernel, by decide +kernel⟩
/-- the state of the draws: the dict, its lists, at most b draws so far -/
structure MS (H : Hp) (m c g : Addr) (b : Int) : Prop where
  ex : ∃ (cs gs : List Int) (n : Int), H m = some (.dK [(.inr "cells", .ref c), (.inr "great", .ref g), (.inr "spot", .int n)]) ∧ H c = some (.lst (cs.map V.int)) ∧ H g = some (.lst (gs.map V.int)) ∧
    cs.length = 64 ∧ (∀ x ∈ cs, 0 ≤ x ∧ x < 2147483647) ∧ c ≠ g ∧ gs.length ≤ 63 ∧ 0 ≤ n ∧ n ≤ b
/-- all but m and g stays -/
def Kept (H H' : Hp) (m g : Addr) : Prop := ∀ a u, H a = some u → a ≠ m → a ≠ g → H' a = some u
def spDraw : Sp := fun vs H Q _ => ∃ m c g b limit, vs = [.ref m, .int limit] ∧ MS H m c g b ∧ b ≤ 1000000 ∧ 1 ≤ limit ∧ limit ≤ 2 ^ 30 ∧ ∀ H' d, Kept H H' m g → MS H' m c g (b + 1) → 0 ≤ d → d < limit → Q (.int d) H'
theorem ok_draw (D : DefAt K mg "_law_draw" s__law_draw) (T : Bt mg) (u__law_mixed : Use P w K mg base "_law_mixed" 1 ["cell", "n"] spMixed) : Use P w K mg base "_law_draw" 2 ["m", "limit"] spDraw := by
  refine use_of D (fun f fd F => F.ok sc__law_draw (fun vs H Q E h => ?_) (fun cdv A outer s H vs Q E hr h => ?_)) (fun _ _ _ _ _ _ us hl => match us, hl with | [_, _], _ => rfl)
  · obtain ⟨m, c, g, b, limit, rfl, _⟩ := h
    rfl
  · obtain ⟨m, c, g, b, limit, rfl, ⟨cs, gs, n, hm, hc, hg, lc, rc, cg, lg, n0, n1⟩, b1, l1, l2, q⟩ := h
    refine ⟨_, (pss_cons (ps_set (i := 2) sc__law_draw.nd rfl (Or.inl rfl) (pe_dget (hu_of hr) (pv 0) pe_str (fun _ _ => rfl)))
      (pss_cons (ps_dput (hu_of hr) (pv 0) pe_str (pe_op op_add (pv 2) pe_int) rfl)
      (pss_cons (ps_if (pt_cmpR (k_neD (K := K) rfl hr.units) (pe_dget (hu_of hr) (pv 0) pe_str (fun _ _ => rfl)) (pe_lst pa_nil) (nomark _)) (pss_cons (ps_set (i := 3) sc__law_draw.nd rfl (Or.inl rfl) (pe_dget (hu_of hr) (pv 0) pe_str (fun _ _ => rfl)))
      (pss_cons (ps_set (i := 4) sc__law_draw.nd rfl (Or.inl rfl) (pe_op op_modN (pe_callTy call_int1 (by rfl) T.int (by decide +kernel) (pa_cons (pv 2) pa_nil)) (pe_callB (k_len (K := K) rfl) (by rfl) T.len PySem.boot_len (pa_cons (pv 3) pa_nil))))
      (pss_cons (ps_set (i := 5) sc__law_draw.nd rfl (Or.inl rfl) (pe_ix (k_ixl (K := K) rfl) (pv 3) (pv 4) (fun _ _ => rfl)))
      (pss_one (ps_if (pt_cmpR op_gt (pv 5) pe_int (nomark _)) (pss_cons (ps_asg (pe_op op_fdivW (pv 5) (pv 1)) (pg_sub (pv 3) (pv 4) set_list))
      (pss_one (ps_ret (pe_op op_modN (pe_callTy call_int1 (by rfl) T.int (by decide +kernel) (pa_cons (pv 5) pa_nil)) (pv 1))))) pss_nil))))) pss_nil)
      (pss_cons (ps_set (i := 3) sc__law_draw.nd rfl (Or.inl rfl) (pe_dget (hu_of hr) (pv 0) pe_str (fun _ _ => rfl)))
      (pss_one (ps_ret (pe_op op_modN (pe_callTy call_int1 (by rfl) T.int (by decide +kernel) (pa_cons (pe_use u__law_mixed (by decide) hr (by rfl) (pa_cons (pe_use u__law_mixed (by decide) hr (by rfl) (pa_cons (pe_op op_add (pe_ix (k_ixl (K := K) rfl) (pv 3) (pe_op op_modN (pe_callTy call_int1 (by rfl) T.int (by decide +kernel) (pa_cons (pv 2) pa_nil)) pe_int) (fun _ _ => rfl)) (pe_op op_mulW pe_int (pe_op op_fdivW (pv 2) pe_int))) (pa_cons (pv 2) pa_nil))) (pa_cons (pe_op op_add (pv 2) pe_int) pa_nil))) pa_nil)) (pv 1)))))))), ?_⟩
    have mc : m ≠ c := fun e => by rw [e, hc] at hm; cases hm
    have mg' : m ≠ g := fun e => by rw [e, hg] at hm; cases hm
    have e2 : (2 : Int) ^ 30 = 1073741824 := by decide
    refine ⟨_, rfl, m, _, rfl, .k (k := .inr "spot") hm, ?_⟩
    refine ⟨_, rfl, _, _, rfl, rfl, _, rfl, m, _, rfl, .k (k := .inr "spot") hm (small_of (Nat.le_of_ble_eq_true rfl)), ?_⟩
    rw [show putK [((.inr "cells" : L2.Key), V.ref c), (.inr "great", .ref g), (.inr "spot", .int n)] (.inr "spot") (V.int (n + 1)) = [(.inr "cells", .ref c), (.inr "great", .ref g), (.inr "spot", .int (n + 1))] from rfl]
    generalize hH1 : upd H m (.dK [((.inr "cells" : L2.Key), V.ref c), (.inr "great", .ref g), (.inr "spot", .int (n + 1))]) = H1
    have hm1 : H1 m = some (.dK [((.inr "cells" : L2.Key), V.ref c), (.inr "great", .ref g), (.inr "spot", .int (n + 1))]) := by rw [← hH1, upd_same]
    have hc1 : H1 c = some (.lst (cs.map V.int)) := by rw [← hH1, upd_ne mc.symm]; exact hc
    have hg1 : H1 g = some (.lst (gs.map V.int)) := by rw [← hH1, upd_ne mg'.symm]; exact hg
    have k1 : Kept H H1 m g := fun a u ha na _ => by rw [← hH1, upd_ne na]; exact ha
    refine ⟨_, rfl, m, _, rfl, .k (k := .inr "great") hm1, Nat.zero_le _, fun p np => ?_⟩
    have npg : p ≠ g := fun e => by rw [e, hg1] at np; cases np
    have npm : p ≠ m := fun e => by rw [e, hm1] at np; cases np
    have npc : p ≠ c := fun e => by rw [e, hc1] at np; cases np
    have hm2 : (upd H1 p (.lst [])) m = some (.dK [((.inr "cells" : L2.Key), V.ref c), (.inr "great", .ref g), (.inr "spot", .int (n + 1))]) := by rw [upd_ne npm.symm]; exact hm1
    have hc2 : (upd H1 p (.lst [])) c = some (.lst (cs.map V.int)) := by rw [upd_ne npc.symm]; exact hc1
    have hg2 : (upd H1 p (.lst [])) g = some (.lst (gs.map V.int)) := by rw [upd_ne npg.symm]; exact hg1
    have k2 : Kept H (upd H1 p (.lst [])) m g := fun a u ha na nb => by rw [upd_ne (ne_of_none (k1 a u ha na nb) np)]; exact k1 a u ha na nb
    refine ⟨.list (gs.map PyData.int), .list [], .lst (sqL hg2) (dpAll_ints gs), .lst (sqL (xs := []) upd_same) .nil, shaped_ints gs, rfl, _, rfl, ?_⟩
    rw [eqv_nil]
    generalize hH2 : upd H1 p (.lst []) = H2 at *
    have fin : ∀ H3, (∀ a u, H2 a = some u → a ≠ g → H3 a = some u) → (∃ gs' : List Int, H3 g = some (.lst (gs'.map V.int)) ∧ gs'.length = gs.length) → Kept H H3 m g ∧ MS H3 m c g (b + 1) := by
      intro H3 h3 ⟨gs', hg3, lg3⟩
      exact ⟨fun a u ha na nb => h3 a u (k2 a u ha na nb) nb, ⟨cs, gs', n + 1, h3 _ _ hm2 mg', h3 _ _ hc2 cg, hg3, lc, rc, cg, by omega, by omega, by omega⟩⟩
    have fin2 := fin H2 (fun a u ha _ => ha) ⟨gs, hg2, rfl⟩
    have f64 := fm (i := n) (j := 64) (by decide)
    have hat : ∃ x, cs[(n.fmod 64).toNat]? = some x ∧ 0 ≤ x ∧ x < 2147483647 := by
      have hl : (n.fmod 64).toNat < cs.length := by omega
      exact ⟨_, List.getElem?_eq_getElem hl, rc _ (List.getElem_mem hl)⟩
    obtain ⟨x, hx, x0, x1⟩ := hat
    have hd : 0 ≤ n / 64 ∧ n / 64 ≤ n := ⟨by omega, by omega⟩
    have e24 : (2 : Int) ^ 24 = 16777216 := by decide
    have e40 : (2 : Int) ^ 40 = 1099511627776 := by decide
    have e31 : (2 : Int) ^ 31 = 2147483648 := by decide
    cases gs with
    | nil =>
      refine ⟨_, rfl, m, _, rfl, .k (k := .inr "cells") hm2, ?_⟩
      refine ⟨_, rfl, _, rfl, .inl ⟨n, rfl, n, 64, rfl, rfl, (show (64 : Int) ≠ 0 by decide), c, _, n.fmod 64, V.int x, rfl, rfl, sqL hc2, atI_of (j := (n.fmod 64).toNat) (by omega) (at_map hx), ?_⟩⟩
      refine ⟨_, rfl, n, 64, rfl, rfl, wide_div (by decide) (by decide : (64 : Int).natAbs < 2 ^ 7) (by decide) (by decide), 31, n / 64, rfl, rfl, wide_mul (by decide : (31 : Int).natAbs < 2 ^ 5) (nb (b := 24) (by omega) (by omega)) (by decide) (by decide) (by decide), x, 31 * (n / 64), rfl, rfl, _, rfl, ?_⟩
      refine ⟨x + 31 * (n / 64), n, rfl, by omega, by omega, by omega, by omega, fun r r0 r1 => ⟨_, rfl, n, 7, rfl, rfl, r, n + 7, rfl, r0, by omega, by omega, by omega, fun r2 r3 r4 => .inl ⟨r2, rfl, _, rfl, r2, limit, rfl, rfl, (show limit ≠ 0 by omega), ?_⟩⟩⟩
      exact q _ _ fin2.1 fin2.2 (fm (by omega)).1 (fm (by omega)).2
    | cons g0 gr =>
      have fG := fm (i := n) (j := (((g0 :: gr).length : Nat) : Int)) (by rw [List.length_cons]; omega)
      have hat2 : ∃ y, (g0 :: gr)[(n.fmod ((g0 :: gr).length : Nat)).toNat]? = some y := ⟨_, List.getElem?_eq_getElem (by omega)⟩
      obtain ⟨y, hy⟩ := hat2
      refine ⟨_, rfl, m, _, rfl, .k (k := .inr "great") hm2, ?_⟩
      refine ⟨_, rfl, .inl ⟨n, rfl, _, rfl, g, _, rfl, .inl (sqL hg2), n, _, rfl, rfl, ?_, ?_⟩⟩
      · rw [List.length_map, List.length_cons]
        omega
      rw [List.length_map]
      refine ⟨_, rfl, _, rfl, g, _, _, V.int y, rfl, rfl, sqL hg2, atI_of (j := (n.fmod ((g0 :: gr).length : Nat)).toNat) (by omega) (at_map hy), ?_⟩
      refine ⟨_, rfl, y, 0, rfl, rfl, _, rfl, ?_⟩
      by_cases hpos : 0 < y
      · rw [decide_eq_true hpos]
        refine ⟨_, rfl, _, rfl, y, limit, rfl, rfl, wide_div (by omega) (nb (b := 31) (by omega) (by omega)) (by decide) (by decide), _, rfl, _, rfl, g, _, _, (n.fmod ((g0 :: gr).length : Nat)).toNat, rfl, rfl, hg2, ?_, ?_⟩
        · unfold ixN
          rw [List.length_map, if_pos fG.1, if_pos fG.2]
        refine ⟨_, rfl, .inl ⟨y, rfl, _, rfl, y, limit, rfl, rfl, (show limit ≠ 0 by omega), ?_⟩⟩
        have fin3 := fin (upd H2 g (.lst (((g0 :: gr).map V.int).set (n.fmod ((g0 :: gr).length : Nat)).toNat (V.int (y / limit))))) (fun a u ha na => by rw [upd_ne na]; exact ha)
          ⟨(g0 :: gr).set (n.fmod ((g0 :: gr).length : Nat)).toNat (y / limit), by rw [upd_same, List.map_set], by rw [List.length_set]⟩
        exact q _ _ fin3.1 fin3.2 (fm (by omega)).1 (fm (by omega)).2
      · rw [decide_eq_false hpos]
        refine ⟨_, rfl, m, _, rfl, .k (k := .inr "cells") hm2, ?_⟩
        refine ⟨_, rfl, _, rfl, .inl ⟨n, rfl, n, 64, rfl, rfl, (show (64 : Int) ≠ 0 by decide), c, _, n.fmod 64, V.int x, rfl, rfl, sqL hc2, atI_of (j := (n.fmod 64).toNat) (by omega) (at_map hx), ?_⟩⟩
        refine ⟨_, rfl, n, 64, rfl, rfl, wide_div (by decide) (by decide : (64 : Int).natAbs < 2 ^ 7) (by decide) (by decide), 31, n / 64, rfl, rfl, wide_mul (by decide : (31 : Int).natAbs < 2 ^ 5) (nb (b := 24) (by omega) (by omega)) (by decide) (by decide) (by decide), x, 31 * (n / 64), rfl, rfl, _, rfl, ?_⟩
        refine ⟨x + 31 * (n / 64), n, rfl, by omega, by omega, by omega, by omega, fun r r0 r1 => ⟨_, rfl, n, 7, rfl, rfl, r, n + 7, rfl, r0, by omega, by omega, by omega, fun r2 r3 r4 => .inl ⟨r2, rfl, _, rfl, r2, limit, rfl, rfl, (show limit ≠ 0 by omega), ?_⟩⟩⟩
        exact q _ _ fin2.1 fin2.2 (fm (by omega)).1 (fm (by omega)).2
end
end KQ
namespace KQ
open PySem PySem.Spec PyProof.Rows L2 KR KM StX
section
variable {P : Program} {w : World} {K : PySem.W.Frag} {mg : Str → Option Value} {base : Heap}
theorem sameSL {K : PySem.W.Frag} {H H' : Hp} {a : Addr} {xs : List V} (e : Same H H') (h : SqL K H a xs) : SqL K H' a xs := by
  rcases h with (h | ⟨o, h⟩) | h
  · exact .inl (.inl (e _ _ h))
  · exact .inl (.inr ⟨o, e _ _ h⟩)
  · exact .inr h
def Cells (cs : List Int) : Prop := cs.length = 64 ∧ ∀ x ∈ cs, 0 ≤ x ∧ x < 2147483647
theorem Cells.set {cs : List Int} (h : Cells cs) (j : Nat) {v : Int} (h0 : 0 ≤ v) (h1 : v < 2147483647) : Cells (cs.set j v) := by
  refine ⟨by rw [List.length_set]; exact h.1, fun x hx => ?_⟩
  rcases List.mem_or_eq_of_mem_set hx with hx | rfl
  · exact h.2 x hx
  · exact ⟨h0, h1⟩
theorem Cells.at_ {cs : List Int} (h : Cells cs) {j : Nat} (hj : j < 64) : ∃ x, cs[j]? = some x ∧ 0 ≤ x ∧ x < 2147483647 :=
  ⟨_, List.getElem?_eq_getElem (by rw [h.1]; exact hj), h.2 _ (List.getElem_mem _)⟩
theorem ixN_of {n : Nat} {i : Int} (h0 : 0 ≤ i) (h1 : i < (n : Int)) : ixN n i = some i.toNat := by
  unfold ixN
  rw [if_pos h0, if_pos h1]
abbrev s__law_folded : Stmt := topS 29
theorem sc__law_folded : FnScope ["script", "found", "n", "cell"] ["script"] (defScope s__law_folded) := ⟨rfl, rfl, rfl, by decide +kernel, rfl, by decide +kernel, by decide +kernel⟩
def spFolded (K : PySem.W.Frag) : Sp := fun vs H Q _ => ∃ (a : Addr) (ns : List Int), vs = [.ref a] ∧ SqL K H a (ns.map V.int) ∧ ns.length ≤ 63 ∧
  ∀ H' l cs, Same H H' → H l = none → H' l = some (.lst (List.map V.int cs)) → Cells cs → Q (.ref l) H'
theorem ok_folded (D : DefAt K mg "_law_folded" s__law_folded) (T : Bt mg) : Use P w K mg base "_law_folded" 1 ["script"] (spFolded K) := by
  refine use_of D (fun f fd F => F.ok sc__law_folded (fun vs H Q E h => ?_) (fun cdv A outer s H vs Q E hr h => ?_)) (fun _ _ _ _ _ _ us hl => match us, hl with | [_], _ => rfl)
  · obtain ⟨a, ns, rfl, _⟩ := h
    rfl
  · obtain ⟨a, ns, rfl, hs, hl, q⟩ := h
    refine ⟨_, (pss_cons (ps_setLc (i := 1) (own := [("n", 2)]) rfl sc__law_folded.nd rfl rfl (sw_true rfl rfl rfl (by decide +kernel)) (pi_range1 (by rfl) T.range (pa_cons pe_int pa_nil)) (blkOk_by (N := ["script", "found", "n", "cell"]) (sc := defScope s__law_folded) (by decide +kernel)) (fun _ _ _ _ _ => (pg_name (i := 2) sc__law_folded.nd rfl (Or.inl rfl))) (fun _ _ _ _ _ => pts_nil) (fun _ _ _ _ _ => (pe_op op_add pe_int (pv 2))))
      (pss_cons (ps_for PassesOwn.never rfl (k_enum (K := K) rfl (by rfl) T.enumerate (pa_cons (pv 0) pa_nil)) (pg_tup rfl (pgs_cons (pg_name (i := 2) sc__law_folded.nd rfl (Or.inl rfl)) (pgs_cons (pg_name (i := 3) sc__law_folded.nd rfl (Or.inl rfl)) pgs_nil)))
      (pss_one (ps_asg (pe_op op_modN (pe_callTy call_int1 (by rfl) T.int (by decide +kernel) (pa_cons (pe_op op_add (pe_op op_mulW (pe_ix (k_ixl (K := K) rfl) (pv 1) (pe_op op_modN (pe_callTy call_int1 (by rfl) T.int (by decide +kernel) (pa_cons (pv 2) pa_nil)) pe_int) (fun _ _ => rfl)) pe_int) (pv 3)) pa_nil)) pe_int) (pg_sub (pv 1) (pe_op op_modN (pe_callTy call_int1 (by rfl) T.int (by decide +kernel) (pa_cons (pv 2) pa_nil)) pe_int) set_list))))
      (pss_cons (ps_for PassesOwn.never rfl (pi_range2 (by rfl) T.range (pa_cons pe_int (pa_cons pe_int pa_nil))) (pg_name (i := 2) sc__law_folded.nd rfl (Or.inl rfl))
      (pss_one (ps_asg (pe_op op_modN (pe_callTy call_int1 (by rfl) T.int (by decide +kernel) (pa_cons (pe_op op_add (pe_ix (k_ixl (K := K) rfl) (pv 1) (pv 2) (fun _ _ => rfl)) (pe_op op_mulW (pe_ix (k_ixl (K := K) rfl) (pv 1) (pe_op op_sub (pv 2) pe_int) (fun _ _ => rfl)) pe_int)) pa_nil)) pe_int) (pg_sub (pv 1) (pv 2) set_list))))
      (pss_one (ps_ret (pv 1)))))), ?_⟩
    refine ⟨_, rfl, by decide, by decide, fun L nL => ?_⟩
    refine lc_range (fun i H1 => Same H H1 ∧ H1 L = some (.lst (((List.range i).map fun k => (17 + (k : Nat) : Int)).map V.int))) ⟨same_new nL, upd_same⟩ ?_ ?_
    · rintro i H1 hi ⟨sm, eL⟩
      refine ⟨rfl, _, rfl, _, _, rfl, rfl, _, eL, ?_, same_mut sm nL, ?_⟩
      · rw [List.length_map, List.length_map, List.length_range]
        exact small_of (by omega)
      · rw [upd_same, List.range_succ, List.map_append, List.map_append, Int.zero_add]
        rfl
    · rintro H1 ⟨sm, eL⟩
      refine ⟨_, rfl, a, _, rfl, sameSL sm hs, for_enumL (K := K) (a := a) (xs := ns.map V.int)
        (fun i σ H2 => ∃ y2 y3, σ = [some (.ref a), some (.ref L), y2, y3] ∧ Same H H2 ∧ ∃ cs, H2 L = some (.lst (List.map V.int cs)) ∧ Cells cs)
        ⟨none, none, rfl, sm, _, eL, ?_⟩ (fun i σ H2 ⟨_, _, _, sm, _⟩ => sameSL sm hs) ?_ ?_⟩
      · refine ⟨by rw [List.length_map, List.length_range]; rfl, fun x hx => ?_⟩
        obtain ⟨k, hk, rfl⟩ := List.mem_map.mp hx
        have := List.mem_range.mp hk
        have e : ((64 : Int)).toNat = 64 := rfl
        omega
      · rintro i v T1 σ H2 hi ⟨y2, y3, rfl, sm, cs, eL, ok⟩ hT
        obtain ⟨x, hx, rfl⟩ := map_at hi
        have nTL : T1 ≠ L := fun e => by rw [e, eL] at hT; cases hT
        have eL2 : (upd H2 T1 (.tup [.int (i : Nat), .int x])) L = some (.lst (cs.map V.int)) := by rw [upd_ne nTL.symm]; exact eL
        have f64 := fm (i := ((i : Nat) : Int)) (j := 64) (by decide)
        obtain ⟨y, hy, y0, y1⟩ := ok.at_ (j := (((i : Nat) : Int).fmod 64).toNat) (by omega)
        refine ⟨T1, _, rfl, .inl (.inl upd_same), rfl, _, _, rfl, _, [], rfl, rfl, ?_⟩
        refine ⟨_, rfl, _, rfl, .inl ⟨_, rfl, _, 64, rfl, rfl, (show (64 : Int) ≠ 0 by decide), L, _, _, V.int y, rfl, rfl, sqL eL2, atI_of (j := (((i : Nat) : Int).fmod 64).toNat) (by omega) (at_map hy), ?_⟩⟩
        refine ⟨y, 48271, rfl, rfl, wide_mul (nb (b := 31) y0 (by omega)) (by decide : (48271 : Int).natAbs < 2 ^ 16) (by decide) (by decide) (by decide), _, rfl, y * 48271, x, rfl, rfl, .inl ⟨_, rfl, ?_⟩⟩
        refine ⟨_, 2147483647, rfl, rfl, (show (2147483647 : Int) ≠ 0 by decide), _, rfl, _, rfl, .inl ⟨_, rfl, _, 64, rfl, rfl, (show (64 : Int) ≠ 0 by decide), L, _, _, (((i : Nat) : Int).fmod 64).toNat, rfl, rfl, eL2, ?_, ?_⟩⟩
        · rw [List.length_map, ok.1]
          exact ixN_of f64.1 f64.2
        have fz := fm (i := y * 48271 + x) (j := 2147483647) (by decide)
        refine ⟨some (.int (i : Nat)), some (.int x), rfl, same_mut (same_new hT |> sm.trans) nL, cs.set (((i : Nat) : Int).fmod 64).toNat _, ?_, ok.set _ fz.1 fz.2⟩
        rw [upd_same, List.map_set]
      · rintro σ H2 ⟨y2, y3, rfl, sm, cs, eL, ok⟩
        refine ⟨1, 64, rfl, by decide, for_range (lo := 1) (n := ((64 : Int) - 1).toNat)
          (fun i σ H3 => ∃ y2, σ = [some (.ref a), some (.ref L), y2, y3] ∧ Same H H3 ∧ ∃ cs, H3 L = some (.lst (List.map V.int cs)) ∧ Cells cs)
          ⟨y2, rfl, sm, cs, eL, ok⟩ ?_ ?_⟩
        · rintro i σ H3 hi ⟨y2, rfl, sm, cs, eL, ok⟩
          have hi63 : i < 63 := hi
          obtain ⟨x, hx, x0, x1⟩ := ok.at_ (j := i + 1) (by omega)
          obtain ⟨y, hy, y0, y1⟩ := ok.at_ (j := i) (by omega)
          refine ⟨_, rfl, _, rfl, L, _, 1 + (i : Nat), V.int x, rfl, rfl, sqL eL, atI_of (j := i + 1) (by omega) (at_map hx), ?_⟩
          refine ⟨_, rfl, _, rfl, _, _, rfl, rfl, L, _, 1 + (i : Nat) - 1, V.int y, rfl, rfl, sqL eL, atI_of (j := i) (by omega) (at_map hy), ?_⟩
          refine ⟨y, 16807, rfl, rfl, wide_mul (nb (b := 31) y0 (by omega)) (by decide : (16807 : Int).natAbs < 2 ^ 15) (by decide) (by decide) (by decide), x, y * 16807, rfl, rfl, .inl ⟨_, rfl, ?_⟩⟩
          refine ⟨_, 2147483647, rfl, rfl, (show (2147483647 : Int) ≠ 0 by decide), _, rfl, _, rfl, L, _, 1 + (i : Nat), i + 1, rfl, rfl, eL, ?_, ?_⟩
          · rw [List.length_map, ok.1]
            exact ixN_nat (by omega) (by omega)
          have fz := fm (i := x + y * 16807) (j := 2147483647) (by decide)
          refine ⟨_, rfl, same_mut sm nL, cs.set (i + 1) _, ?_, ok.set _ fz.1 fz.2⟩
          rw [upd_same, List.map_set]
        · rintro σ H3 ⟨y2, rfl, sm, cs, eL, ok⟩
          exact ⟨_, rfl, q _ _ _ sm nL eL ok⟩
abbrev s__law_begun : Stmt := topS 31
theorem sc__law_begun : FnScope ["script", "m", "cell"] ["script"] (defScope s__law_begun) := ⟨rfl, rfl, rfl, by decide +kernel, rfl, by decide +kernel, by decide +kernel⟩
def spBegun (K : PySem.W.Frag) : Sp := fun vs H Q _ => ∃ (a : Addr) (ns : List Int), vs = [.ref a] ∧ SqL K H a (ns.map V.int) ∧ ns.length ≤ 63 ∧
  ∀ H' m c g, MS H' m c g 0 → Q (.ref m) H'
theorem ok_begun (D : DefAt K mg "_law_begun" s__law_begun) (T : Bt mg) (u__law_folded : Use P w K mg base "_law_folded" 1 ["script"] (spFolded K)) : Use P w K mg base "_law_begun" 2 ["script"] (spBegun K) := by
  refine use_of D (fun f fd F => F.ok sc__law_begun (fun vs H Q E h => ?_) (fun cdv A outer s H vs Q E hr h => ?_)) (fun _ _ _ _ _ _ us hl => match us, hl with | [_], _ => rfl)
  · obtain ⟨a, ns, rfl, _⟩ := h
    rfl
  · obtain ⟨a, ns, rfl, hs, hl, q⟩ := h
    refine ⟨_, (pss_cons (ps_set (i := 1) sc__law_begun.nd rfl (Or.inl rfl) (pe_disp (pps_cons pe_str (pe_use u__law_folded (by decide) hr (by rfl) (pa_cons (pv 0) pa_nil)) (pps_cons pe_str (pe_lst pa_nil) (pps_cons pe_str pe_int pps_nil))) (by rfl) (by rfl) (fun z => by cases z) (by decide)))
      (pss_cons (ps_dput (hu_of hr) (pv 1) pe_str (pe_lc (own := [("cell", 2)]) rfl sc__law_begun.nd (k_list (K := K) rfl (pv 0)) (blkOk_by (N := ["script", "m", "cell"]) (sc := defScope s__law_begun) (by decide +kernel)) (fun _ _ _ _ _ => (pg_name (i := 2) sc__law_begun.nd rfl (Or.inl rfl))) (fun _ _ _ _ _ => pts_nil) (fun _ _ _ _ _ => (pe_ifExp (pt_cmpR op_ge (pv 2) (pe_op op_pow pe_int pe_int) (nomark _)) (pv 2) pe_int))) rfl)
      (pss_one (ps_ret (pv 1))))), ?_⟩
    refine fun m nm => ⟨_, rfl, a, ns, rfl, sameSL (same_new nm) hs, hl, fun H1 c cs s1 nc hc ok => ⟨Nat.zero_le _, fun g ng => ?_⟩⟩
    have mc : m ≠ c := fun e => by rw [← e, upd_same] at nc; cases nc
    have hm1 : H1 m = some (.dK []) := s1 _ _ upd_same
    have mg1 : m ≠ g := fun e => by rw [e, ng] at hm1; cases hm1
    have cg : c ≠ g := fun e => by rw [e, ng] at hc; cases hc
    refine ⟨by rw [upd_ne mg1]; exact hm1, [(.inr "cells", .ref c), (.inr "great", .ref g), (.inr "spot", .int 0)], rfl, Nat.le_of_ble_eq_true rfl, ?_⟩
    rw [show mergeK [] [((.inr "cells" : L2.Key), V.ref c), (.inr "great", .ref g), (.inr "spot", .int 0)] = [(.inr "cells", .ref c), (.inr "great", .ref g), (.inr "spot", .int 0)] from rfl]
    generalize hH2 : upd (upd H1 g (.lst [])) m (.dK [((.inr "cells" : L2.Key), V.ref c), (.inr "great", .ref g), (.inr "spot", .int 0)]) = H2
    have hm2 : H2 m = some (.dK [((.inr "cells" : L2.Key), V.ref c), (.inr "great", .ref g), (.inr "spot", .int 0)]) := by rw [← hH2, upd_same]
    have hc2 : H2 c = some (.lst (cs.map V.int)) := by rw [← hH2, upd_ne mc.symm, upd_ne cg]; exact hc
    have hs2 : SqL K H2 a (ns.map V.int) := by
      refine sameSL (fun b u hb => ?_) hs
      have h1 : H1 b = some u := (Same.trans (same_new nm) s1) b u hb
      rw [← hH2, upd_ne (ne_of_none hb nm), upd_ne (ne_of_none h1 ng)]
      exact h1
    refine ⟨_, rfl, a, rfl, ⟨_, hs2⟩, fun L nL => ?_⟩
    have Lm : L ≠ m := fun e => by rw [e, hm2] at nL; cases nL
    have Lc : L ≠ c := fun e => by rw [e, hc2] at nL; cases nL
    refine lc_list (K := K) (a := a) (xs := ns.map V.int) (fun i H3 => Same H2 H3 ∧ ∃ gs : List Int, H3 L = some (.lst (gs.map V.int)) ∧ gs.length = i) ⟨same_new nL, [], upd_same, rfl⟩
      (fun i H3 _ ⟨sm, _⟩ => sameSL sm hs2) ?_ ?_
    · rintro i v H3 hi ⟨sm, gs, eL, lg⟩
      obtain ⟨x, hx, rfl⟩ := map_at hi
      have hi63 : i < ns.length := (List.getElem?_eq_some_iff.mp hx).1
      have put : ∀ y : Int, ∃ acc, H3 L = some (.lst acc) ∧ acc.length < sizeLine ∧ (Same H2 (upd H3 L (.lst (acc ++ [V.int y]))) ∧ ∃ gs : List Int, upd H3 L (.lst (acc ++ [V.int y])) L = some (.lst (gs.map V.int)) ∧ gs.length = i + 1) := fun y =>
        ⟨_, eL, by rw [List.length_map]; exact small_of (by omega), same_mut sm nL, gs ++ [y], by rw [upd_same, List.map_append]; rfl, by rw [List.length_append, lg]; rfl⟩
      refine ⟨rfl, _, rfl, 10, 18, rfl, rfl, ⟨by decide, by decide, by decide⟩, x, _, rfl, rfl, _, rfl, ?_⟩
      by_cases hx2 : (10 : Int) ^ (18 : Int).toNat ≤ x
      · rw [decide_eq_true hx2]
        exact ⟨_, rfl, put x⟩
      · rw [decide_eq_false hx2]
        exact put 0
    · rintro H3 ⟨sm, gs, eL, lg⟩
      rw [List.length_map] at lg
      have hm3 := sm _ _ hm2
      refine ⟨_, rfl, m, _, rfl, .k (k := .inr "great") hm3 (small_of (Nat.le_of_ble_eq_true rfl)), ?_⟩
      rw [show putK [((.inr "cells" : L2.Key), V.ref c), (.inr "great", .ref g), (.inr "spot", .int 0)] (.inr "great") (V.ref L) = [(.inr "cells", .ref c), (.inr "great", .ref L), (.inr "spot", .int 0)] from rfl]
      refine ⟨_, rfl, q _ m c L ⟨cs, gs, 0, upd_same, ?_, ?_, ok.1, ok.2, Lc.symm, by omega, Int.le_refl _, Int.le_refl _⟩⟩
      · rw [upd_ne mc.symm]
        exact sm _ _ hc2
      · rw [upd_ne Lm]
        exact eL
end
end KQ
namespace KQ
open PySem PySem.Spec PyProof.Rows L2 KR KM StX
/-! ### data that repr shows in short -/
structure Nc (k W : Nat) (d : PyData) : Prop where
  sh : d.showable = true
  nd : d.hasDict = false
  dp : d.depth ≤ k
  lf : d.leavesShort 13 = true
  wt : d.weight ≤ W
structure NcA (k W : Nat) (ds : List PyData) : Prop where
  sh : PyData.showableAll ds = true
  nd : PyData.hasDictAll ds = false
  dp : PyData.depthAll ds ≤ k
  lf : PyData.leavesShortAll 13 ds = true
  wt : PyData.weightAll ds ≤ W
theorem Nc.le {k W k' W' : Nat} {d : PyData} (h : Nc k W d) (h1 : k ≤ k') (h2 : W ≤ W') : Nc k' W' d := ⟨h.sh, h.nd, Nat.le_trans h.dp h1, h.lf, Nat.le_trans h.wt h2⟩
theorem NcA.le {k W k' W' : Nat} {d : List PyData} (h : NcA k W d) (h1 : k ≤ k') (h2 : W ≤ W') : NcA k' W' d := ⟨h.sh, h.nd, Nat.le_trans h.dp h1, h.lf, Nat.le_trans h.wt h2⟩
theorem nc_nat : ∀ i : Fin 1024, Nc 0 10 (.int ((i.val : Nat) : Int)) := fun i => by
  have e : ((i.val : Int)).natAbs = i.val := rfl
  have hlog : i.val.log2 < 10 := by
    by_cases h0 : i.val = 0
    · rw [h0]
      decide
    · exact (Nat.log2_lt h0).2 (by have := i.isLt; omega)
  refine ⟨?_, rfl, Nat.le_refl _, ?_, ?_⟩
  · simp only [PyData.showable, e]
    exact decide_eq_true (by omega)
  · simp only [PyData.leavesShort]
    exact decide_eq_true (PyData.shown_int_le (by have := i.isLt; rw [e]; omega))
  · simp only [PyData.weight, e]
    split <;> omega
theorem nc_int {i : Int} (h0 : 0 ≤ i) (h1 : i < 1024) : Nc 0 10 (.int i) := by
  have h := nc_nat ⟨i.toNat, by omega⟩
  have e : ((i.toNat : Nat) : Int) = i := by omega
  rw [show (((⟨i.toNat, by omega⟩ : Fin 1024).val : Nat) : Int) = i from e] at h
  exact h
theorem nc_bool (b : Bool) : Nc 0 0 (.bool b) := ⟨rfl, rfl, Nat.le_refl _, rfl, Nat.le_refl _⟩
theorem nc_nil (k : Nat) : NcA k 0 [] := ⟨rfl, rfl, Nat.zero_le _, rfl, Nat.le_refl _⟩
theorem nc_cons {k W1 W2 : Nat} {d : PyData} {ds : List PyData} (h : Nc k W1 d) (hs : NcA k W2 ds) : NcA k (W1 + 1 + W2) (d :: ds) := by
  refine ⟨?_, ?_, ?_, ?_, ?_⟩
  · simp only [PyData.showableAll, h.sh, hs.sh]; rfl
  · simp only [PyData.hasDictAll, h.nd, hs.nd]; rfl
  · have a := h.dp
    have b := hs.dp
    simp only [PyData.depthAll]
    exact Nat.max_le.mpr ⟨a, b⟩
  · simp only [PyData.leavesShortAll, h.lf, hs.lf]; rfl
  · have a := h.wt
    have b := hs.wt
    simp only [PyData.weightAll]
    omega
theorem nc_all {k W : Nat} : ∀ {ds : List PyData}, (∀ d ∈ ds, Nc k W d) → NcA k ((W + 1) * ds.length) ds
  | [], _ => (nc_nil k).le (Nat.le_refl _) (Nat.zero_le _)
  | d :: ds, h => by
    refine (nc_cons (h d List.mem_cons_self) (nc_all fun x hx => h x (List.mem_cons_of_mem _ hx))).le (Nat.le_refl _) ?_
    rw [List.length_cons, Nat.mul_add]
    omega
theorem nc_tup {k W : Nat} {ds : List PyData} (h : NcA k W ds) : Nc (k + 1) W (.tuple ds) := by
  refine ⟨by simp only [PyData.showable, h.sh], by simp only [PyData.hasDict, h.nd], ?_, by simp only [PyData.leavesShort, h.lf], by simp only [PyData.weight]; exact h.wt⟩
  have := h.dp
  simp only [PyData.depth]
  omega
theorem nc_lst {k W : Nat} {ds : List PyData} (h : NcA k W ds) : Nc (k + 1) W (.list ds) := by
  refine ⟨by simp only [PyData.showable, h.sh], by simp only [PyData.hasDict, h.nd], ?_, by simp only [PyData.leavesShort, h.lf], by simp only [PyData.weight]; exact h.wt⟩
  have := h.dp
  simp only [PyData.depth]
  omega
theorem nc_ints {p : List Int} (h : ∀ x ∈ p, 0 ≤ x ∧ x < 1024) : NcA 0 (11 * p.length) (p.map PyData.int) := by
  have := nc_all (k := 0) (W := 10) (ds := p.map PyData.int) (fun d hd => by
    obtain ⟨x, hx, rfl⟩ := List.mem_map.mp hd
    exact nc_int (h x hx).1 (h x hx).2)
  rw [List.length_map] at this
  exact this
section
variable {P : Program} {w : World} {K : PySem.W.Frag} {mg : Str → Option Value} {base : Heap}
theorem dp_ti {H : Hp} {a : Addr} {p : List Int} (h : TI H a p) : Dp K H (.ref a) (.tuple (p.map PyData.int)) := .tup (h.seq) (dpAll_ints p)
abbrev s__law_like : Stmt := topS 32
theorem sc__law_like : FnScope ["got", "due"] ["got", "due"] (defScope s__law_like) := ⟨rfl, rfl, rfl, by decide +kernel, rfl, by decide +kernel, by decide +kernel⟩
def spLike (K : PySem.W.Frag) : Sp := fun vs H Q _ => ∃ x y d, vs = [x, y] ∧ Dp K H x d ∧ Dp K H y d ∧ isDisplay d = true ∧ Nc 20 (2 ^ 20) d ∧ Q (.bl true) H
theorem ok_like (D : DefAt K mg "_law_like" s__law_like) (T : Bt mg) : UseG P w K mg base "_law_like" 1 ["got", "due"] (spLike K) := by
  refine use_ofG D (fun f fd F => Fun.okG F sc__law_like (fun vs H Q E h => ?_) (fun cdv A outer s H vs Q E gd hr h => ?_)) (fun _ _ _ _ _ _ us hl => match us, hl with | [_, _], _ => rfl)
  · obtain ⟨x, y, d, rfl, _⟩ := h
    rfl
  · obtain ⟨x, y, d, rfl, hx, hy, dis, nc, q⟩ := h
    refine ⟨_, (pss_one (ps_ret (pe_cmpR op_eq (pe_callB (k_repr (K := K) rfl gd hr.units) (by rfl) T.repr (by decide +kernel) (pa_cons (pv 0) pa_nil)) (pe_callB (k_repr (K := K) rfl gd hr.units) (by rfl) T.repr (by decide +kernel) (pa_cons (pv 1) pa_nil)) (nomark _)))), ?_⟩
    have hl := PyData.shown_fits (B := 13) (by decide) (by decide) nc.lf nc.wt
    have dp : d.depth ≤ 30 := Nat.le_trans nc.dp (by decide)
    refine ⟨_, rfl, x, d, rfl, hx, dis, nc.sh, nc.nd, dp, hl, _, rfl, y, d, rfl, hy, dis, nc.sh, nc.nd, dp, hl, ?_⟩
    refine ⟨rfl, ?_⟩
    rw [decide_eq_true rfl]
    exact q
theorem Kept.trans {H H1 H2 : Hp} {m g : Addr} (h : Kept H H1 m g) (h2 : Kept H1 H2 m g) : Kept H H2 m g := fun a u ha na nb => h2 a u (h a u ha na nb) na nb
theorem Kept.of {H H' : Hp} {m g : Addr} (h : Same H H') : Kept H H' m g := fun a u ha _ _ => h a u ha
theorem MS.mono {H H' : Hp} {m c g : Addr} {b : Int} (h : MS H m c g b) (s : Same H H') : MS H' m c g b := by
  obtain ⟨cs, gs, n, h1, h2, h3, r⟩ := h
  exact ⟨cs, gs, n, s _ _ h1, s _ _ h2, s _ _ h3, r⟩
theorem MS.le {H : Hp} {m c g : Addr} {b b' : Int} (h : MS H m c g b) (l : b ≤ b') : MS H m c g b' := by
  obtain ⟨cs, gs, n, h1, h2, h3, h4, h5, h6, h7, h8, h9⟩ := h
  exact ⟨cs, gs, n, h1, h2, h3, h4, h5, h6, h7, h8, by omega⟩
/-- the state stays where another object is changed -/
theorem MS.put {H : Hp} {m c g : Addr} {b : Int} (h : MS H m c g b) {a : Addr} {o : HO} (n1 : a ≠ m) (n2 : a ≠ c) (n3 : a ≠ g) : MS (L2.upd H a o) m c g b := by
  obtain ⟨cs, gs, n, h1, h2, h3, r⟩ := h
  exact ⟨cs, gs, n, by rw [upd_ne n1.symm]; exact h1, by rw [upd_ne n2.symm]; exact h2, by rw [upd_ne n3.symm]; exact h3, r⟩
theorem MS.ne {H : Hp} {m c g : Addr} {b : Int} (h : MS H m c g b) {a : Addr} (n : H a = none) : a ≠ m ∧ a ≠ c ∧ a ≠ g := by
  obtain ⟨cs, gs, k, h1, h2, h3, r⟩ := h
  exact ⟨ne_of_none h1 n |>.symm, ne_of_none h2 n |>.symm, ne_of_none h3 n |>.symm⟩
theorem kept_mut {H H' : Hp} {m g p : Addr} {o : HO} (e : Kept H H' m g) (h : H p = none) : Kept H (L2.upd H' p o) m g := fun a u ha na nb => by
  rw [upd_ne (ne_of_none ha h)]
  exact e a u ha na nb
theorem Kept.ti {H H' : Hp} {m c g a : Addr} {b : Int} {p : List Int} (h : Kept H H' m g) (s : MS H m c g b) (t : TI H a p) : TI H' a p := by
  obtain ⟨cs, gs, k, h1, h2, h3, r⟩ := s
  have t : Rd H a (.tup (p.map V.int)) := t
  have n1 : a ≠ m := t.ne h1 (fun _ z => by cases z) (fun _ _ z => by cases z)
  have n2 : a ≠ g := t.ne h3 (fun _ z => by cases z) (fun _ _ z => by cases z)
  rcases t with t | ⟨o, t⟩
  · exact .inl (h _ _ t n1 n2)
  · exact .inr ⟨o, h _ _ t n1 n2⟩
theorem erase_perm {α : Type} : ∀ {ls : List α} {k : Nat} {x : α}, ls[k]? = some x → ([x] ++ ls.eraseIdx k).Perm ls
  | [], k, x, h => by simp at h
  | a :: r, 0, x, h => by
    obtain rfl : a = x := Option.some.inj h
    exact List.Perm.refl _
  | a :: r, k + 1, x, h => by
    have h' : r[k]? = some x := h
    exact (List.Perm.swap a x _).trans (List.Perm.cons a (erase_perm h'))
theorem erase_map {α β : Type} (f : α → β) : ∀ (ls : List α) (k : Nat), (ls.map f).eraseIdx k = (ls.eraseIdx k).map f
  | [], k => by simp
  | a :: r, 0 => rfl
  | a :: r, k + 1 => by
    show f a :: (r.map f).eraseIdx k = f a :: (r.eraseIdx k).map f
    rw [erase_map f r k]
abbrev s__law_order : Stmt := topS 35
theorem sc__law_order : FnScope ["m", "many", "left", "turn"] ["m", "many"] (defScope s__law_order) := ⟨rfl, rfl, rfl, by decide +kernel, rfl, by decide +kernel, by decide +kernel⟩
def spOrder : Sp := fun vs H Q _ => ∃ m c g b many, vs = [.ref m, .int many] ∧ MS H m c g b ∧ b ≤ 100000 ∧ 1 ≤ many ∧ many ≤ 64 ∧
  ∀ H' l (ds : List Int), Kept H H' m g → MS H' m c g (b + many) → H' l = some (.lst (ds.map V.int)) → H l = none → ds.length = many.toNat → ds.Nodup → (∀ d ∈ ds, 0 ≤ d ∧ d < many) → Q (.ref l) H'
theorem ok_order (D : DefAt K mg "_law_order" s__law_order) (T : Bt mg) (u__law_draw : Use P w K mg base "_law_draw" 2 ["m", "limit"] spDraw) : Use P w K mg base "_law_order" 3 ["m", "many"] spOrder := by
  refine use_of D (fun f fd F => F.ok sc__law_order (fun vs H Q E h => ?_) (fun cdv A outer s H vs Q E hr h => ?_)) (fun _ _ _ _ _ _ us hl => match us, hl with | [_, _], _ => rfl)
  · obtain ⟨m, c, g, b, many, rfl, _⟩ := h
    rfl
  · obtain ⟨m, c, g, b, many, rfl, ms, hb, m1, m2, q⟩ := h
    refine ⟨_, (pss_cons (ps_set (i := 2) sc__law_order.nd rfl (Or.inr rfl) (pe_listRg rfl (by rfl) T.list (prg_1 (by rfl) T.range (pv 1))))
      (pss_one (ps_ret (pe_lc (own := [("turn", 3)]) rfl sc__law_order.nd (pi_range1 (by rfl) T.range (pa_cons (pv 1) pa_nil)) (blkOk_by (N := ["m", "many", "left", "turn"]) (sc := defScope s__law_order) (by decide +kernel)) (fun _ _ _ _ _ => (pg_name (i := 3) sc__law_order.nd rfl (Or.inl rfl))) (fun _ _ _ _ _ => pts_nil) (fun _ _ _ _ _ => (k_bm (K := K) rfl PySem.F.plainAttrs_list PySem.F.slot_list_pop PySem.F.type_list_pop mt_popAt (pv 2) (pa_cons (pe_use u__law_draw (by decide) hr (by rfl) (pa_cons (pv 0) (pa_cons (pe_callB (k_len (K := K) rfl) (by rfl) T.len PySem.boot_len (pa_cons (pv 2) pa_nil)) pa_nil))) pa_nil))))))), ?_⟩
    obtain ⟨mn, rfl⟩ : ∃ n : Nat, many = (n : Int) := ⟨many.toNat, by omega⟩
    refine ⟨_, rfl, _, rfl, RgOk.of_le (by omega) (by omega) (by omega) (by omega), fun l nl => ?_⟩
    rw [rgV_hv]
    refine ⟨_, rfl, _, rfl, by omega, by omega, fun L nL => ?_⟩
    have lL : l ≠ L := fun e => by rw [← e, upd_same] at nL; cases nL
    have nL0 : H L = none := (same_new nl).free nL
    have ms1 : MS (upd (upd H l (.lst (hv (List.range mn)))) L (.lst [])) m c g b := (ms.mono (same_new nl)).mono (same_new nL)
    refine lc_range (fun i H1 => Kept H H1 m g ∧ MS H1 m c g (b + (i : Nat)) ∧ ∃ os ls : List Nat, H1 l = some (.lst (hv ls)) ∧ H1 L = some (.lst (hv os)) ∧ os.length = i ∧ (os ++ ls).Perm (List.range mn))
      ⟨kept_mut (Kept.of (same_new nl)) nL0, by simpa using ms1, [], List.range mn, by rw [upd_ne lL, upd_same], by rw [upd_same]; rfl, rfl, List.Perm.refl _⟩ ?_ ?_
    · rintro i H1 hi ⟨kp, ms2, os, ls, el, eL, ol, pm⟩
      have hlen : ls.length = mn - i := by
        have := pm.length_eq
        rw [List.length_append, ol, List.length_range] at this
        omega
      have himn : i < mn := by omega
      refine ⟨rfl, _, rfl, .inl ⟨rfl, _, .inl (.inl el)⟩, _, rfl, _, rfl, l, _, rfl, .inl (sqL el), m, c, g, _, _, rfl, ms2, by omega, ?_, ?_, fun H2 d k2 ms3 d0 d1 => ?_⟩
      · unfold hv
        rw [List.length_map]
        omega
      · unfold hv
        rw [List.length_map]
        omega
      have hvl : (hv ls).length = ls.length := by unfold hv; rw [List.length_map]
      rw [hvl] at d1
      obtain ⟨x, hx⟩ : ∃ x, ls[d.toNat]? = some x := ⟨_, List.getElem?_eq_getElem (by omega)⟩
      have lm : l ≠ m ∧ l ≠ g := by
        have := ms.ne nl
        exact ⟨this.1, this.2.2⟩
      have Lm : L ≠ m ∧ L ≠ g := by
        have := ms.ne nL0
        exact ⟨this.1, this.2.2⟩
      have el2 := k2 l _ el lm.1 lm.2
      have eL2 := k2 L _ eL Lm.1 Lm.2
      refine ⟨l, hv ls, d, d.toNat, .int ((x : Nat) : Int), rfl, rfl, el2, by omega, by omega, ?_, at_map hx, ?_⟩
      · have := (ixN_seq (ixN_of (n := ls.length) d0 d1)).1
        rw [hvl]
        exact this
      refine ⟨_, by rw [upd_ne lL.symm]; exact eL2, ?_, ?_⟩
      · unfold hv
        rw [List.length_map]
        exact small_of (by omega)
      refine ⟨kept_mut (kept_mut (kp.trans k2) nl) nL0, ?_, os ++ [x], ls.eraseIdx d.toNat, ?_, ?_, ?_, ?_⟩
      · have := ms3
        have n1 := ms.ne nl
        have n2 := ms.ne nL0
        rw [show b + ((i + 1 : Nat) : Int) = b + (i : Nat) + 1 by omega]
        exact (ms3.put n1.1 n1.2.1 n1.2.2).put n2.1 n2.2.1 n2.2.2
      · rw [upd_ne lL, upd_same]
        unfold hv
        rw [erase_map]
      · rw [upd_same]
        unfold hv
        rw [List.map_append]
        rfl
      · rw [List.length_append, ol]
        rfl
      · rw [List.append_assoc]
        exact (List.Perm.append_left os (erase_perm hx)).trans pm
    · rintro H1 ⟨kp, ms2, os, ls, el, eL, ol, pm⟩
      have l0 : ls = [] := by
        have := pm.length_eq
        rw [List.length_append, ol, List.length_range] at this
        exact List.length_eq_zero_iff.mp (by omega)
      subst l0
      rw [List.append_nil] at pm
      rw [show ((((mn : Nat) : Int)).toNat : Nat) = mn by omega] at ms2
      refine q H1 L (os.map fun x => ((x : Nat) : Int)) kp ms2 ?_ nL0 ?_ ?_ ?_
      · rw [eL, List.map_map]
        rfl
      · rw [List.length_map, ol]
      · exact List.pairwise_map.mpr ((pm.nodup_iff.mpr List.nodup_range).imp fun h e => h (by omega))
      · intro d hd
        obtain ⟨x, hx, rfl⟩ := List.mem_map.mp hd
        have := List.mem_range.mp (pm.mem_iff.mp hx)
        omega
end
end KQ
namespace KQ
open PySem PySem.Spec PyProof.Rows L2 KR KM StX
theorem dg_new {α κ : Type} [DecidableEq α] [DecidableEq κ] {f : α → κ} (hf : ∀ a b, f a = f b → a = b) {ks : List α} {x : α} (h : ks.Nodup) (hx : x ∉ ks) : valV (dg f (ks ++ [x])) (f x) = some (V.int ((ks.length : Nat) : Int)) := by
  have hn : (ks ++ [x]).Nodup := by
    rw [List.nodup_append]
    refine ⟨h, by simp, fun a ha b hb e => ?_⟩
    rw [List.mem_singleton.mp hb] at e
    exact hx (e ▸ ha)
  rw [dg_val hf _ _ hn, if_pos (by simp), List.idxOf_append, if_neg hx]
  simp
section
variable {P : Program} {w : World} {K : PySem.W.Frag} {mg : Str → Option Value} {base : Heap}
abbrev s__law_numbered : Stmt := topS 36
theorem sc__law_numbered : FnScope ["labels", "spots", "found", "label"] ["labels"] (defScope s__law_numbered) := ⟨rfl, rfl, rfl, by decide +kernel, rfl, by decide +kernel, by decide +kernel⟩
theorem ok_lnumL (D : DefAt K mg "_law_numbered" s__law_numbered) (T : Bt mg) : Use P w K mg base "_law_numbered" 1 ["labels"] spNumL := by
  refine use_of D (fun f fd F => F.ok sc__law_numbered (fun vs H Q E h => ?_) (fun cdv A outer s H vs Q E hr h => ?_)) (fun _ _ _ _ _ _ us hl => match us, hl with | [_], _ => rfl)
  · obtain ⟨a, p, rfl, _⟩ := h
    rfl
  · obtain ⟨a, xs, rfl, hp, hl, q⟩ := h
    refine ⟨_, (pss_cons (ps_par (i := 1) (j := 2) rfl sc__law_numbered.nd rfl rfl (by decide) rfl rfl (pa_cons pe_dnewK (pa_cons (pe_lst pa_nil) pa_nil)) (by rfl))
      (pss_cons (ps_for PassesOwn.never rfl (k_list (K := K) rfl (pv 0)) (pg_name (i := 3) sc__law_numbered.nd rfl (Or.inl rfl))
      (pss_cons (ps_if (pt_cmp (pc_dnotin (hu_of hr) (pv 3) (pv 1))) (pss_one (ps_dput (hu_of hr) (pv 1) (pv 3) (pe_callB call_lenD (by rfl) T.len PySem.boot_len (pa_cons (pv 1) pa_nil)) rfl)) pss_nil)
      (pss_one (ps_expr (k_bm (K := K) rfl PySem.F.plainAttrs_list PySem.F.slot_list_append PySem.F.type_list_append mt_append (pv 2) (pa_cons (pe_dget (hu_of hr) (pv 1) (pv 3) (fun _ _ => rfl)) pa_nil))))))
      (pss_one (ps_ret (pe_callTy (k_tupOf (K := K) rfl) (by rfl) T.tuple (by decide +kernel) (pa_cons (pv 2) pa_nil)))))), ?_⟩
    refine fun d nd => ⟨Nat.zero_le _, fun L nL => ?_⟩
    have s0 : Same H (upd H d (.dK [])) := same_new nd
    have s1 : Same H (upd (upd H d (.dK [])) L (.lst [])) := s0.trans (same_new nL)
    have nL0 : H L = none := s0.free nL
    have ndL : d ≠ L := fun e => by rw [e, upd_same] at nL; cases nL
    refine ⟨_, _, rfl, ?_⟩
    refine ⟨_, rfl, a, rfl, ⟨_, sqL (s1 _ _ hp)⟩, for_list (K := K) (a := a) (xs := xs.map V.int)
      (fun i σ H1 => ∃ y3, σ = [some (.ref a), some (.ref d), some (.ref L), y3] ∧ Same H H1 ∧ H1 d = some (.dK (dg kI (firsts (xs.take i)))) ∧ H1 L = some (.lst ((num (xs.take i)).map V.int)))
      ⟨none, rfl, s1, ?_, ?_⟩ (fun i σ H1 _ ⟨_, _, sm, _⟩ => sqL (sm _ _ hp)) ?_ ?_⟩
    · rw [upd_ne ndL, upd_same]
      rfl
    · rw [upd_same]
      rfl
    · rintro i v σ H1 hi ⟨y3, rfl, sm, ed, eL⟩
      obtain ⟨x, hx, rfl⟩ := map_at hi
      have small : ((num (xs.take i)).map V.int).length < sizeLine := by
        rw [List.length_map, num_len, List.length_take]
        exact small_of (by omega)
      have small2 : (dg kI (firsts (xs.take i))).length < sizeLine := by
        rw [dg_len]
        have := firsts_le (xs.take i)
        rw [List.length_take] at this
        exact small_of (by omega)
      by_cases hm : x ∈ firsts (xs.take i)
      · obtain ⟨e1, e2⟩ := num_old hm
        have gv : DGet H1 d (V.int x) (some (V.int (((firsts (xs.take i)).idxOf x : Nat) : Int))) := by
          have := DGet.k (k := kI x) ed
          rw [dg_val kI_inj _ _ (firsts_nodup _), if_pos hm] at this
          exact this
        refine ⟨_, rfl, _, rfl, d, _, rfl, gv, _, rfl, _, rfl, .inl ⟨rfl, _, .inl (.inl eL)⟩, _, rfl, _, rfl, d, _, rfl, gv, L, _, _, rfl, rfl, eL, small, some (.int x), rfl, same_mut sm nL0, ?_, ?_⟩
        · rw [upd_ne ndL, take_snoc hx, e2]
          exact ed
        · rw [upd_same, take_snoc hx, e1, List.map_append]
          rfl
      · obtain ⟨e1, e2⟩ := num_new hm
        have gv : DGet H1 d (V.int x) none := by
          have := DGet.k (k := kI x) ed
          rw [dg_val kI_inj _ _ (firsts_nodup _), if_neg hm] at this
          exact this
        have ed2 : (upd H1 d (.dK (putK (dg kI (firsts (xs.take i))) (kI x) (.int (((firsts (xs.take i)).length : Nat) : Int))))) d = some (.dK (dg kI (firsts (xs.take i) ++ [x]))) := by
          rw [upd_same, dg_put kI_inj _ _ hm]
        have gv2 : DGet (upd H1 d (.dK (putK (dg kI (firsts (xs.take i))) (kI x) (.int (((firsts (xs.take i)).length : Nat) : Int))))) d (V.int x) (some (V.int (((firsts (xs.take i)).length : Nat) : Int))) := by
          have := DGet.k (k := kI x) ed2
          rw [dg_new kI_inj (firsts_nodup _) hm] at this
          exact this
        have eL2 : (upd H1 d (.dK (putK (dg kI (firsts (xs.take i))) (kI x) (.int (((firsts (xs.take i)).length : Nat) : Int))))) L = some (.lst ((num (xs.take i)).map V.int)) := by
          rw [upd_ne ndL.symm]
          exact eL
        refine ⟨_, rfl, _, rfl, d, _, rfl, gv, _, rfl, _, rfl, d, _, rfl, ed, ?_⟩
        rw [dg_len]
        refine ⟨_, rfl, _, rfl, d, _, rfl, DPut.k (k := kI x) ed small2, ?_⟩
        refine ⟨_, rfl, .inl ⟨rfl, _, .inl (.inl eL2)⟩, _, rfl, _, rfl, d, _, rfl, gv2, L, _, _, rfl, rfl, eL2, small, some (.int x), rfl, same_mut (same_mut sm nd) nL0, ?_, ?_⟩
        · rw [upd_ne ndL, ed2, take_snoc hx, e2]
        · rw [upd_same, take_snoc hx, e1, List.map_append]
          rfl
    · rintro σ H1 ⟨y3, rfl, sm, ed, eL⟩
      refine ⟨_, rfl, L, _, rfl, .inl ⟨.inl (.inl eL), fun l hl => ?_⟩⟩
      refine q _ l (sm.trans (same_new hl)) ?_
      refine Or.inl ?_
      show upd H1 l _ l = _
      rw [upd_same, List.length_map, List.take_length]
theorem ok_lnumP (D : DefAt K mg "_law_numbered" s__law_numbered) (T : Bt mg) : Use P w K mg base "_law_numbered" 1 ["labels"] spNumP := by
  refine use_of D (fun f fd F => F.ok sc__law_numbered (fun vs H Q E h => ?_) (fun cdv A outer s H vs Q E hr h => ?_)) (fun _ _ _ _ _ _ us hl => match us, hl with | [_], _ => rfl)
  · obtain ⟨a, ts, xs, rfl, _⟩ := h
    rfl
  · obtain ⟨a, ts, xs, rfl, hp, pa, hl, q⟩ := h
    refine ⟨_, (pss_cons (ps_par (i := 1) (j := 2) rfl sc__law_numbered.nd rfl rfl (by decide) rfl rfl (pa_cons pe_dnewT (pa_cons (pe_lst pa_nil) pa_nil)) (by rfl))
      (pss_cons (ps_for PassesOwn.never rfl (k_list (K := K) rfl (pv 0)) (pg_name (i := 3) sc__law_numbered.nd rfl (Or.inl rfl))
      (pss_cons (ps_if (pt_cmp (pc_dnotin (hu_of hr) (pv 3) (pv 1))) (pss_one (ps_dput (hu_of hr) (pv 1) (pv 3) (pe_callB call_len_dT (by rfl) T.len PySem.boot_len (pa_cons (pv 1) pa_nil)) rfl)) pss_nil)
      (pss_one (ps_expr (k_bm (K := K) rfl PySem.F.plainAttrs_list PySem.F.slot_list_append PySem.F.type_list_append mt_append (pv 2) (pa_cons (pe_dget (hu_of hr) (pv 1) (pv 3) (fun _ _ => rfl)) pa_nil))))))
      (pss_one (ps_ret (pe_callTy (k_tupOf (K := K) rfl) (by rfl) T.tuple (by decide +kernel) (pa_cons (pv 2) pa_nil)))))), ?_⟩
    refine fun d nd => ⟨Nat.zero_le _, fun L nL => ?_⟩
    have s0 : Same H (upd H d (.dT [])) := same_new nd
    have s1 : Same H (upd (upd H d (.dT [])) L (.lst [])) := s0.trans (same_new nL)
    have nL0 : H L = none := s0.free nL
    have ndL : d ≠ L := fun e => by rw [e, upd_same] at nL; cases nL
    refine ⟨_, _, rfl, ?_⟩
    refine ⟨_, rfl, a, rfl, ⟨_, sqL (s1 _ _ hp)⟩, for_list (K := K) (a := a) (xs := ts.map V.ref)
      (fun i σ H1 => ∃ y3, σ = [some (.ref a), some (.ref d), some (.ref L), y3] ∧ Same H H1 ∧ H1 d = some (.dT (dg kP (firsts (xs.take i)))) ∧ H1 L = some (.lst ((num (xs.take i)).map V.int)))
      ⟨none, rfl, s1, ?_, ?_⟩ (fun i σ H1 _ ⟨_, _, sm, _⟩ => sqL (sm _ _ hp)) ?_ ?_⟩
    · rw [upd_ne ndL, upd_same]
      rfl
    · rw [upd_same]
      rfl
    · rintro i v σ H1 hi ⟨y3, rfl, sm, ed, eL⟩
      obtain ⟨t, ht, rfl⟩ := map_at hi
      obtain ⟨x, hx, et0⟩ := pa.2 i t ht
      have et : H1 t = some (.tup ((kP x).map kV)) := sm _ _ et0
      have etd : ∀ o : HO, (upd H1 d o) t = some (.tup ((kP x).map kV)) := fun o => by rw [upd_ne (fun e => by rw [e, nd] at et0; cases et0)]; exact et
      have small : ((num (xs.take i)).map V.int).length < sizeLine := by
        rw [List.length_map, num_len, List.length_take]
        exact small_of (by omega)
      have small2 : (dg kP (firsts (xs.take i))).length < sizeLine := by
        rw [dg_len]
        have := firsts_le (xs.take i)
        rw [List.length_take] at this
        exact small_of (by omega)
      by_cases hm : x ∈ firsts (xs.take i)
      · obtain ⟨e1, e2⟩ := num_old hm
        have gv : DGet H1 d (V.ref t) (some (V.int ((@List.idxOf (Int × Int) instBEqOfDecidableEq x (firsts (xs.take i)) : Nat) : Int))) := by
          have := DGet.t (k := kP x) ed et
          rw [dg_val kP_inj _ _ (firsts_nodup _), if_pos hm] at this
          exact this
        refine ⟨_, rfl, _, rfl, d, _, rfl, gv, _, rfl, _, rfl, .inl ⟨rfl, _, .inl (.inl eL)⟩, _, rfl, _, rfl, d, _, rfl, gv, L, _, _, rfl, rfl, eL, small, some (.ref t), rfl, same_mut sm nL0, ?_, ?_⟩
        · rw [upd_ne ndL, take_snoc hx, e2]
          exact ed
        · rw [upd_same, take_snoc hx, e1, List.map_append]
          rfl
      · obtain ⟨e1, e2⟩ := num_new hm
        have gv : DGet H1 d (V.ref t) none := by
          have := DGet.t (k := kP x) ed et
          rw [dg_val kP_inj _ _ (firsts_nodup _), if_neg hm] at this
          exact this
        have ed2 : (upd H1 d (.dT (putK (dg kP (firsts (xs.take i))) (kP x) (.int (((firsts (xs.take i)).length : Nat) : Int))))) d = some (.dT (dg kP (firsts (xs.take i) ++ [x]))) := by
          rw [upd_same, dg_put kP_inj _ _ hm]
        have gv2 : DGet (upd H1 d (.dT (putK (dg kP (firsts (xs.take i))) (kP x) (.int (((firsts (xs.take i)).length : Nat) : Int))))) d (V.ref t) (some (V.int (((firsts (xs.take i)).length : Nat) : Int))) := by
          have := DGet.t (k := kP x) ed2 (etd _)
          rw [dg_new kP_inj (firsts_nodup _) hm] at this
          exact this
        have eL2 : (upd H1 d (.dT (putK (dg kP (firsts (xs.take i))) (kP x) (.int (((firsts (xs.take i)).length : Nat) : Int))))) L = some (.lst ((num (xs.take i)).map V.int)) := by
          rw [upd_ne ndL.symm]
          exact eL
        refine ⟨_, rfl, _, rfl, d, _, rfl, gv, _, rfl, _, rfl, d, _, rfl, ed, ?_⟩
        rw [dg_len]
        refine ⟨_, rfl, _, rfl, d, _, rfl, DPut.t (k := kP x) ed et small2, ?_⟩
        refine ⟨_, rfl, .inl ⟨rfl, _, .inl (.inl eL2)⟩, _, rfl, _, rfl, d, _, rfl, gv2, L, _, _, rfl, rfl, eL2, small, some (.ref t), rfl, same_mut (same_mut sm nd) nL0, ?_, ?_⟩
        · rw [upd_ne ndL, ed2, take_snoc hx, e2]
        · rw [upd_same, take_snoc hx, e1, List.map_append]
          rfl
    · rintro σ H1 ⟨y3, rfl, sm, ed, eL⟩
      refine ⟨_, rfl, L, _, rfl, .inl ⟨.inl (.inl eL), fun l hl => ?_⟩⟩
      refine q _ l (sm.trans (same_new hl)) ?_
      refine Or.inl ?_
      show upd H1 l _ l = _
      rw [upd_same, List.length_map, pa.1, List.take_length]
end
end KQ
namespace KQ
open PySem PySem.Spec PyProof.Rows L2 KR KM StX
section
variable {P : Program} {w : World} {K : PySem.W.Frag} {mg : Str → Option Value} {base : Heap}
theorem Kept.free {H H1 : Hp} {m g L : Addr} (h : Kept H H1 m g) (n : H1 L = none) (n1 : L ≠ m) (n2 : L ≠ g) : H L = none := by
  cases e : H L with
  | none => rfl
  | some u =>
    rw [h L u e n1 n2] at n
    cases n
abbrev s__law_any_parting : Stmt := topS 40
theorem sc__law_any_parting : FnScope ["m", "many", "cap", "turn"] ["m", "many"] (defScope s__law_any_parting) := ⟨rfl, rfl, rfl, by decide +kernel, rfl, by decide +kernel, by decide +kernel⟩
def spAny : Sp := fun vs H Q _ => ∃ m c g b many, vs = [.ref m, .int many] ∧ MS H m c g b ∧ b ≤ 100000 ∧ 1 ≤ many ∧ many ≤ 60 ∧
  ∀ H' t p, Kept H H' m g → MS H' m c g (b + 1 + many) → TI H' t p → Par p → p.length = many.toNat → Q (.ref t) H'
theorem ok_any (D : DefAt K mg "_law_any_parting" s__law_any_parting) (T : Bt mg) (u__law_draw : Use P w K mg base "_law_draw" 2 ["m", "limit"] spDraw)
    (u__law_numbered : Use P w K mg base "_law_numbered" 1 ["labels"] spNumL) : Use P w K mg base "_law_any_parting" 3 ["m", "many"] spAny := by
  refine use_of D (fun f fd F => F.ok sc__law_any_parting (fun vs H Q E h => ?_) (fun cdv A outer s H vs Q E hr h => ?_)) (fun _ _ _ _ _ _ us hl => match us, hl with | [_, _], _ => rfl)
  · obtain ⟨m, c, g, b, many, rfl, _⟩ := h
    rfl
  · obtain ⟨m, c, g, b, many, rfl, ms, hb, m1, m2, q⟩ := h
    refine ⟨_, (pss_cons (ps_set (i := 2) sc__law_any_parting.nd rfl (Or.inr rfl) (pe_op op_add pe_int (pe_use u__law_draw (by decide) hr (by rfl) (pa_cons (pv 0) (pa_cons (pv 1) pa_nil)))))
      (pss_one (ps_ret (pe_use u__law_numbered (by decide) hr (by rfl) (pa_cons (pe_lc (own := [("turn", 3)]) rfl sc__law_any_parting.nd (pi_range1 (by rfl) T.range (pa_cons (pv 1) pa_nil)) (blkOk_by (N := ["m", "many", "cap", "turn"]) (sc := defScope s__law_any_parting) (by decide +kernel)) (fun _ _ _ _ _ => (pg_name (i := 3) sc__law_any_parting.nd rfl (Or.inl rfl))) (fun _ _ _ _ _ => pts_nil) (fun _ _ _ _ _ => (pe_use u__law_draw (by decide) hr (by rfl) (pa_cons (pv 0) (pa_cons (pv 2) pa_nil))))) pa_nil))))), ?_⟩
    refine ⟨_, rfl, _, rfl, m, c, g, b, many, rfl, ms, by omega, by omega, by omega, fun H1 d k1 ms1 d0 d1 => ⟨1, d, rfl, rfl, ?_⟩⟩
    refine ⟨_, rfl, _, rfl, by omega, by omega, fun L nL => ?_⟩
    have Ln := ms1.ne nL
    have nLH := k1.free nL Ln.1 Ln.2.2
    refine lc_range (fun i H2 => (∃ xs : List Int, H2 L = some (.lst (xs.map V.int)) ∧ xs.length = i) ∧ Kept H H2 m g ∧ MS H2 m c g (b + 1 + (i : Nat)))
      ⟨⟨[], upd_same, rfl⟩, kept_mut k1 nLH, by simpa using ms1.put Ln.1 Ln.2.1 Ln.2.2⟩ ?_ ?_
    · rintro i H2 hi ⟨⟨xs, eL, lx⟩, k2, ms2⟩
      refine ⟨rfl, _, rfl, _, rfl, m, c, g, _, _, rfl, ms2, by omega, by omega, by omega, fun H3 e k3 ms3 e0 e1 => ?_⟩
      have eL3 := k3 L _ eL Ln.1 Ln.2.2
      refine ⟨_, eL3, ?_, ⟨xs ++ [e], ?_, ?_⟩, ?_, ?_⟩
      · rw [List.length_map, lx]
        exact small_of (by omega)
      · rw [upd_same, List.map_append]
        rfl
      · rw [List.length_append, lx]
        rfl
      · exact kept_mut (k2.trans k3) nLH
      · rw [show b + 1 + ((i + 1 : Nat) : Int) = b + 1 + (i : Nat) + 1 by omega]
        exact ms3.put Ln.1 Ln.2.1 Ln.2.2
    · rintro H2 ⟨⟨xs, eL, lx⟩, k2, ms2⟩
      refine ⟨L, xs, rfl, eL, by omega, fun H3 t s3 ht => ?_⟩
      refine q H3 t (num xs) (k2.trans (Kept.of s3)) ?_ ht (num_par ?_ (by omega)) (by rw [num_len, lx])
      · have := ms2.mono s3
        rw [show (((many.toNat : Nat)) : Int) = many by omega] at this
        exact this
      · intro e
        rw [e] at lx
        simp at lx
        omega
def spCoarser : Sp := fun vs H Q _ => ∃ m c g b a p, vs = [.ref m, .ref a] ∧ MS H m c g b ∧ b ≤ 100000 ∧ TI H a p ∧ Par p ∧
  ∀ H' t r, Kept H H' m g → MS H' m c g (b + 61) → TI H' t r → Par r → r.length = p.length → Q (.ref t) H'
def Gd (p r : List Int) (s t : Nat) : Prop := p[s]? = p[t]? → r[s]? = r[t]?
theorem finer_gd {p r : List Int} (hl : p.length = r.length) : Finer p r ↔ ∀ t, t < p.length → ∀ s, s < t → Gd p r s t := by
  constructor
  · intro h t ht s hs e
    have hp := List.getElem?_eq_getElem ht
    have hr : r[t]? = some _ := List.getElem?_eq_getElem (by omega)
    have hr2 : r[s]? = some _ := List.getElem?_eq_getElem (by omega)
    rw [hp] at e
    rw [hr, hr2, h s t _ _ _ e hp hr2 hr]
  · intro h i j x y z hi hj yi zj
    have li := (List.getElem?_eq_some_iff.mp hi).1
    have lj := (List.getElem?_eq_some_iff.mp hj).1
    rcases Nat.lt_trichotomy i j with c | c | c
    · have := h j lj i c (by rw [hi, hj])
      rw [yi, zj] at this
      exact Option.some.inj this
    · subst c
      rw [yi] at zj
      exact Option.some.inj zj
    · have := h i li j c (by rw [hi, hj])
      rw [yi, zj] at this
      exact (Option.some.inj this).symm
def spLFiner : Sp := fun vs H Q _ => ∃ a b p r, vs = [.ref a, .ref b] ∧ TI H a p ∧ TI H b r ∧ p.length ≤ 60 ∧ p.length = r.length ∧ ∀ H' c, Same H H' → (c = true ↔ Finer p r) → Q (.bl c) H'
end
end KQ
namespace KQ
open PySem PySem.Spec PyProof.Rows L2 KR KM StX
section
variable {P : Program} {w : World} {K : PySem.W.Frag} {mg : Str → Option Value} {base : Heap}
/-- tuples of whole numbers, in their order -/
def Its (H : Hp) (ts : List Addr) (xss : List (List Int)) : Prop := ts.length = xss.length ∧ ∀ (i : Nat) (t : Addr), ts[i]? = some t → ∃ xs, xss[i]? = some xs ∧ TI H t xs
theorem Its.mono {H H' : Hp} {ts : List Addr} {xss : List (List Int)} (h : Its H ts xss) (s : Same H H') : Its H' ts xss := ⟨h.1, fun i t ht => let ⟨xs, a, b⟩ := h.2 i t ht; ⟨xs, a, b.mono s⟩⟩
theorem Its.put {H : Hp} {ts : List Addr} {xss : List (List Int)} {L : Addr} {xs : List V} {o : HO} (h : Its H ts xss) (e : H L = some (.lst xs)) : Its (upd H L o) ts xss := ⟨h.1, fun i t ht => by
  obtain ⟨ys, a, b⟩ := h.2 i t ht
  refine ⟨ys, a, ?_⟩
  exact rd_lst (show TI _ _ _ from b) e⟩
theorem Its.app {H : Hp} {ts us : List Addr} {xss yss : List (List Int)} (h : Its H ts xss) (g : Its H us yss) : Its H (ts ++ us) (xss ++ yss) := by
  refine ⟨by rw [List.length_append, List.length_append, h.1, g.1], fun i t ht => ?_⟩
  by_cases hi : i < ts.length
  · rw [List.getElem?_append_left hi] at ht
    obtain ⟨xs, a, b⟩ := h.2 i t ht
    exact ⟨xs, by rw [List.getElem?_append_left (by rw [← h.1]; exact hi)]; exact a, b⟩
  · rw [List.getElem?_append_right (by omega)] at ht
    obtain ⟨xs, a, b⟩ := g.2 _ t ht
    refine ⟨xs, ?_, b⟩
    rw [List.getElem?_append_right (by rw [← h.1]; omega), ← h.1]
    exact a
theorem Its.nil {H : Hp} : Its H [] [] := ⟨rfl, fun i t ht => by simp at ht⟩
theorem Its.one {H : Hp} {t : Addr} {xs : List Int} (h : TI H t xs) : Its H [t] [xs] := ⟨rfl, fun i u hu => by
  match i, hu with
  | 0, hu =>
    obtain rfl : t = u := Option.some.inj hu
    exact ⟨xs, rfl, h⟩
  | i + 1, hu => simp at hu⟩
theorem Its.lt {H : Hp} {l : Addr} {ts : List Addr} {xss : List (List Int)} (h : Its H ts xss) (e : H l = some (.lst (ts.map V.ref))) : LT H l xss := ⟨ts, e, h.1, h.2⟩
abbrev s__law_partings : Stmt := topS 37
theorem sc__law_partings : FnScope ["many", "rows", "turn", "longer_v", "row", "block"] ["many"] (defScope s__law_partings) := ⟨rfl, rfl, rfl, by decide +kernel, rfl, by decide +kernel, by decide +kernel⟩
def spLParts : Sp := fun vs H Q _ => ∃ n : Nat, vs = [.int ((n + 1 : Nat) : Int)] ∧ n < 8 ∧ ∀ H' l, Same H H' → LT H' l (allP n) → Q (.ref l) H'
theorem ok_lparts (D : DefAt K mg "_law_partings" s__law_partings) (T : Bt mg) : Use P w K mg base "_law_partings" 1 ["many"] spLParts := by
  refine use_of D (fun f fd F => F.ok sc__law_partings (fun vs H Q E h => ?_) (fun cdv A outer s H vs Q E hr h => ?_)) (fun _ _ _ _ _ _ us hl => match us, hl with | [_], _ => rfl)
  · obtain ⟨n, rfl, _⟩ := h
    rfl
  · obtain ⟨n, rfl, hn, q⟩ := h
    refine ⟨_, (pss_cons (ps_set (i := 1) sc__law_partings.nd rfl (Or.inl rfl) (pe_lst (pa_cons (pe_tup (pa_cons pe_int pa_nil)) pa_nil)))
      (pss_cons (ps_for PassesOwn.never rfl (pi_range1 (by rfl) T.range (pa_cons (pe_op op_sub (pv 0) pe_int) pa_nil)) (pg_name (i := 2) sc__law_partings.nd rfl (Or.inl rfl))
      (pss_cons (ps_set (i := 3) sc__law_partings.nd rfl (Or.inl rfl) (pe_lst pa_nil))
      (pss_cons (ps_for PassesOwn.never rfl (k_list (K := K) rfl (pv 1)) (pg_name (i := 4) sc__law_partings.nd rfl (Or.inr rfl))
      (pss_one (ps_expr (k_bm (K := K) rfl PySem.F.plainAttrs_list PySem.F.slot_list_extend PySem.F.type_list_extend mt_extend (pv 3) (pa_cons (pe_lc (own := [("block", 5)]) rfl sc__law_partings.nd (pi_range1 (by rfl) T.range (pa_cons (pe_op op_add (pe_callB (k_maxT (K := K) rfl rfl hr.units) (by rfl) T.max (by decide +kernel) (pa_cons (pv 4) pa_nil)) pe_int) pa_nil)) (blkOk_by (N := ["many", "rows", "turn", "longer_v", "row", "block"]) (sc := defScope s__law_partings) (by decide +kernel)) (fun _ _ _ _ _ => (pg_name (i := 5) sc__law_partings.nd rfl (Or.inl rfl))) (fun _ _ _ _ _ => pts_nil) (fun _ _ _ _ _ => (pe_op (k_catT (K := K) rfl) (pv 4) (pe_tup (pa_cons (pv 5) pa_nil))))) pa_nil)))))
      (pss_one (ps_set (i := 1) sc__law_partings.nd rfl (Or.inl rfl) (pv 3))))))
      (pss_one (ps_ret (pv 1))))), ?_⟩
    refine ⟨by show 1 ≤ sizeLine; decide, fun t0 n0 => ⟨by show 1 ≤ sizeLine; decide, fun l0 nl0 => ?_⟩⟩
    have nt0 : t0 ≠ l0 := fun e => by rw [← e, upd_same] at nl0; cases nl0
    have s0 : Same H (upd (upd H t0 (.tup [.int 0])) l0 (.lst [.ref t0])) := (same_new n0).trans (same_new nl0)
    refine ⟨_, rfl, _, _, rfl, rfl, _, rfl, by omega, by omega, for_range (lo := 0) (n := (((n + 1 : Nat) : Int) - 1).toNat)
      (fun i σ H1 => ∃ l y2 y3 y4, σ = [some (.int ((n + 1 : Nat) : Int)), some (.ref l), y2, y3, y4, none] ∧ Same H H1 ∧ ∃ ts, H1 l = some (.lst (ts.map V.ref)) ∧ Its H1 ts (allP i))
      ⟨l0, none, none, none, rfl, s0, [t0], upd_same, Its.one ?_⟩ ?_ ?_⟩
    · refine Or.inl ?_
      show upd _ l0 _ t0 = _
      rw [upd_ne nt0, upd_same]
      rfl
    · rintro i σ H1 hi ⟨l, y2, y3, y4, rfl, sm, ts, el, it⟩
      have hi8 : i + 1 < 8 := by omega
      have cnt := allP_count ⟨i + 1, hi8⟩
      have e9 : ((allP i).flatMap ext).length ≤ 4140 := cnt
      refine ⟨Nat.zero_le _, fun L nL => ⟨_, rfl, l, rfl, ⟨_, sqL (same_new nL _ _ el)⟩, for_list (K := K) (a := l) (xs := ts.map V.ref)
        (fun k σ H2 => ∃ y4, σ = [some (.int ((n + 1 : Nat) : Int)), some (.ref l), some (.int (0 + (i : Nat))), some (.ref L), y4, none] ∧ Same H1 H2 ∧ ∃ us, H2 L = some (.lst (us.map V.ref)) ∧ Its H2 us (((allP i).take k).flatMap ext))
        ⟨y4, rfl, same_new nL, [], upd_same, Its.nil⟩ (fun k σ H2 _ ⟨_, _, s2, _⟩ => sqL (s2 _ _ el)) ?_ ?_⟩⟩
      · rintro k v σ H2 hk ⟨y4, rfl, s2, us, eL, iu⟩
        obtain ⟨t, ht, rfl⟩ := map_at hk
        obtain ⟨row, hrow, et⟩ := it.2 k t ht
        obtain ⟨rg, rl⟩ := allP_ok i row (List.mem_of_getElem? hrow)
        have et2 : TI H2 t row := et.mono s2
        have rne : row ≠ [] := fun e => by rw [e] at rl; cases rl
        have rpar : Par row := ⟨rne, by omega, rg⟩
        have b0 := bc_ge 0 row
        have b1 := bc_le 0 row
        refine ⟨_, rfl, .inl ⟨rfl, _, .inl (.inl eL)⟩, ?_⟩
        refine ⟨_, rfl, t, row, rfl, et2.seq, rne, fun m hm hle => ?_⟩
        have em := par_max rpar hm hle
        refine ⟨_, _, rfl, rfl, (m + 2 : Int), rfl, by omega, by omega, fun C nC => ?_⟩
        have en : (m + 2).toNat = (bc 0 row + 1).toNat := by omega
        have fl := flat_le ext hrow
        rw [ext_len] at fl
        refine lc_range (fun j H3 => Same H2 H3 ∧ ∃ cs, H3 C = some (.lst (cs.map V.ref)) ∧ Its H3 cs ((ext row).take j)) ⟨same_new nC, [], upd_same, Its.nil⟩ ?_ ?_
        · rintro j H3 hj ⟨s3, cs, eC, ic⟩
          have hj2 : j < (bc 0 row + 1).toNat := by omega
          have et3 : TI H3 t row := et2.mono s3
          refine ⟨rfl, _, rfl, _, rfl, by show 1 ≤ sizeLine; decide, fun c nc => ?_⟩
          have et4 : TI (upd H3 c (.tup [.int (0 + (j : Nat))])) t row := et3.mono (same_new nc)
          refine ⟨t, c, _, _, rfl, rfl, et4.seq, .inl (.inl upd_same), ?_, ?_, fun e => (by cases e), fun _ d nd => ?_⟩
          · intro e
            exact rne (List.map_eq_nil_iff.mp e)
          · rw [List.length_map]
            exact Nat.le_of_lt (small_of (by show row.length + 1 ≤ _; omega))
          · have ncC : c ≠ C := fun e => by rw [e, eC] at nc; cases nc
            have eC4 : upd H3 c (.tup [.int (0 + (j : Nat))]) C = some (.lst (cs.map V.ref)) := by rw [upd_ne ncC.symm]; exact eC
            have ndC : d ≠ C := fun e => by rw [e, eC4] at nd; cases nd
            have s34 : Same H3 (upd (upd H3 c (.tup [.int (0 + (j : Nat))])) d (.tup (row.map V.int ++ [.int (0 + (j : Nat))]))) := (same_new nc).trans (same_new nd)
            have lc' := ic.1
            rw [List.length_take, ext_len] at lc'
            refine ⟨_, s34 _ _ eC, ?_, same_mut (s3.trans s34) nC, cs ++ [d], ?_, ?_⟩
            · rw [List.length_map]
              exact small_of (by omega)
            · rw [upd_same, List.map_append]
              rfl
            · rw [ext_take hj2]
              refine Its.app ((ic.mono s34).put (s34 _ _ eC)) (Its.one ?_)
              refine Or.inl ?_
              show upd _ C _ d = _
              rw [upd_ne ndC, upd_same, List.map_append, show (0 : Int) + (j : Nat) = (j : Nat) by omega]
              rfl
        · rintro H3 ⟨s3, cs, eC, ic⟩
          rw [show (ext row).take (m + 2).toNat = ext row from List.take_of_length_le (by rw [ext_len]; omega)] at ic
          have l1 := ic.1
          have l2 := iu.1
          rw [ext_len] at l1
          have eL3 := s3 _ _ eL
          have nCL : C ≠ L := fun e => by rw [e, eL] at nC; cases nC
          refine ⟨L, C, _, _, rfl, rfl, eL3, eC, ?_, some (.ref t), rfl, same_mut (s2.trans s3) nL, us ++ cs, ?_, ?_⟩
          · rw [List.length_map, List.length_map]
            exact Nat.le_of_lt (small_of (by omega))
          · rw [upd_same, List.map_append]
          · rw [flat_take ext hrow]
            exact ((iu.mono s3).put eL3).app (ic.put eL3)
      · rintro σ H2 ⟨y4, rfl, s2, us, eL, iu⟩
        refine ⟨_, rfl, L, some (.int (0 + (i : Nat))), some (.ref L), y4, rfl, sm.trans s2, us, eL, ?_⟩
        rw [List.length_map, it.1, List.take_length] at iu
        exact iu
    · rintro σ H1 ⟨l, y2, y3, y4, rfl, sm, ts, el, it⟩
      have e : (((n + 1 : Nat) : Int) - 1).toNat = n := by omega
      rw [e] at it
      exact ⟨_, rfl, q H1 l sm (it.lt el)⟩
end
end KQ
namespace KQ
open PySem PySem.Spec PyProof.Rows L2 KR KM StX
section
variable {P : Program} {w : World} {K : PySem.W.Frag} {mg : Str → Option Value} {base : Heap}
def LabOf (L : List Int) (x : Nat) : Int := L.getD x 0
def spHung : Sp := fun vs H Q _ => ∃ a b p r, vs = [.ref a, .ref b] ∧ TI H a p ∧ TI H b r ∧ Par p ∧ Par r ∧ p.length = r.length ∧
  ∀ H' t l cl (ls : List Int), Same H H' → H' t = some (.tup [.ref l, cl]) → H' l = some (.lst (ls.map V.int)) → ls.length = (bc 0 p + bc 0 r).toNat →
    (∀ x y, x < ls.length → y < ls.length → (LabOf ls x = LabOf ls y ↔ glue (tiesOf p r) x y)) → Q (.ref t) H'
end
end KQ
namespace KQ
open PySem PySem.Spec PyProof.Rows L2 KR KM
/-- lists of one kernel number alike -/
theorem num_congr {α β : Type} [DecidableEq α] [DecidableEq β] {xs : List α} {ys : List β} (hl : ys.length = xs.length)
    (h : ∀ (i j : Nat) (x y : α) (u v : β), xs[i]? = some x → xs[j]? = some y → ys[i]? = some u → ys[j]? = some v → (x = y ↔ u = v)) : num xs = num ys := by
  refine num_is (by rw [num_len, hl]) (num_rg ys) fun i j x y u v hi hj ui vj => ?_
  have li := (List.getElem?_eq_some_iff.mp hi).1
  have lj := (List.getElem?_eq_some_iff.mp hj).1
  have yi : ys[i]? = some _ := List.getElem?_eq_getElem (by omega)
  have yj : ys[j]? = some _ := List.getElem?_eq_getElem (by omega)
  rw [num_ker yi yj ui vj]
  exact h i j x y _ _ hi hj yi yj
/-- ties and glue -/
theorem glue_mem {t : Nat × Nat} : ∀ {ts : List (Nat × Nat)}, t ∈ ts → glue ts t.1 t.2 := by
  intro ts
  have : ∀ n (ts : List (Nat × Nat)), ts.length = n → t ∈ ts → glue ts t.1 t.2 := by
    intro n
    induction n with
    | zero => intro ts hl ht; rw [List.eq_nil_of_length_eq_zero hl] at ht; cases ht
    | succ n ih =>
      intro ts hl ht
      have hne : ts ≠ [] := fun e => by rw [e] at hl; cases hl
      rw [← List.dropLast_concat_getLast hne] at ht ⊢
      rw [glue_snoc]
      rcases List.mem_append.mp ht with ht | ht
      · exact .inl (ih _ (by rw [List.length_dropLast, hl]; rfl) ht)
      · rw [List.mem_singleton.mp ht]
        exact .inr (.inl ⟨(glue_eqv _).refl _, (glue_eqv _).refl _⟩)
  exact this _ ts rfl
theorem glue_map {φ : Nat → Nat} : ∀ (ts : List (Nat × Nat)) (R R' : Nat → Nat → Prop), (∀ x y, R' (φ x) (φ y) ↔ R x y) →
    ∀ x y, (ts.map fun t => (φ t.2, φ t.1)).foldl (fun R t => J R t.1 t.2) R' (φ x) (φ y) ↔ ts.foldl (fun R t => J R t.1 t.2) R x y
  | [], R, R', h, x, y => h x y
  | t :: ts, R, R', h, x, y => by
    refine glue_map ts (J R t.1 t.2) (J R' (φ t.2) (φ t.1)) (fun a b => ?_) x y
    unfold J
    rw [h, h, h, h, h]
    constructor
    · rintro (q | q | q)
      · exact .inl q
      · exact .inr (.inr q)
      · exact .inr (.inl q)
    · rintro (q | q | q)
      · exact .inl q
      · exact .inr (.inr q)
      · exact .inr (.inl q)
theorem zip_swap : ∀ (p r : List Int), r.zip p = (p.zip r).map fun q => (q.2, q.1)
  | [], [] => rfl
  | [], _ :: _ => rfl
  | _ :: _, [] => rfl
  | a :: p, b :: r => by
    rw [List.zip_cons_cons, List.zip_cons_cons, List.map_cons, zip_swap p r]
section
variable {p r : List Int}
theorem zip_at {i : Nat} {x y : Int} (hx : p[i]? = some x) (hy : r[i]? = some y) : (p.zip r)[i]? = some (x, y) := by
  rw [List.getElem?_zip_eq_some]
  exact ⟨hx, hy⟩
theorem tie_at {i : Nat} {x y : Int} (hx : p[i]? = some x) (hy : r[i]? = some y) : glue (tiesOf p r) x.toNat (bc 0 p + y).toNat :=
  glue_mem (t := (x.toNat, (bc 0 p + y).toNat)) (List.mem_of_getElem? (ties_at hx hy))
/-- the blocks of the one and of the other, named the other way about -/
def flip (P R x : Nat) : Nat := if x < P then R + x else if x < P + R then x - P else x
theorem flip_inj {P R x y : Nat} : flip P R x = flip P R y ↔ x = y := by
  unfold flip
  split <;> split <;> (try split) <;> (try split) <;> omega
theorem glue_flip (hp : Rg 0 p) (hr : Rg 0 r) (x y : Nat) :
    glue (tiesOf r p) (flip (bc 0 p).toNat (bc 0 r).toNat x) (flip (bc 0 p).toNat (bc 0 r).toNat y) ↔ glue (tiesOf p r) x y := by
  have e : tiesOf r p = (tiesOf p r).map fun t => (flip (bc 0 p).toNat (bc 0 r).toNat t.2, flip (bc 0 p).toNat (bc 0 r).toNat t.1) := by
    unfold tiesOf
    rw [List.map_map, zip_swap p r, List.map_map]
    refine List.map_congr_left fun q hq => ?_
    have h1 := (rg_mem 0 p (Int.le_refl _) hp).1 q.1 (List.of_mem_zip hq).1
    have h2 := (rg_mem 0 r (Int.le_refl _) hr).1 q.2 (List.of_mem_zip hq).2
    have e1 : flip (bc 0 p).toNat (bc 0 r).toNat (bc 0 p + q.2).toNat = q.2.toNat := by
      unfold flip
      rw [if_neg (by omega), if_pos (by omega)]
      omega
    have e2 : flip (bc 0 p).toNat (bc 0 r).toNat q.1.toNat = (bc 0 r + q.1).toNat := by
      unfold flip
      rw [if_pos (by omega)]
      omega
    show (q.2.toNat, (bc 0 r + q.1).toNat) = (_, _)
    rw [e1, e2]
  rw [e]
  exact glue_map (tiesOf p r) Eq Eq (fun _ _ => flip_inj) x y
/-- above of the one and the other, either way -/
theorem above_flip (hp : Rg 0 p) (hr : Rg 0 r) (hl : p.length = r.length) {L L' : Nat → Int} (h : ∀ x y, L x = L y ↔ glue (tiesOf p r) x y) (h' : ∀ x y, L' x = L' y ↔ glue (tiesOf r p) x y) :
    num (r.map fun b => L' b.toNat) = num (p.map fun b => L b.toNat) := by
  refine num_congr (by rw [List.length_map, List.length_map, hl]) fun i j x y u v hx hy hu hv => ?_
  obtain ⟨x, hx', rfl⟩ := map_at hx
  obtain ⟨y, hy', rfl⟩ := map_at hy
  obtain ⟨u, hu', rfl⟩ := map_at hu
  obtain ⟨v, hv', rfl⟩ := map_at hv
  rw [h, h']
  have a1 := (rg_mem 0 r (Int.le_refl _) hr).1 x (List.mem_of_getElem? hx')
  have a2 := (rg_mem 0 r (Int.le_refl _) hr).1 y (List.mem_of_getElem? hy')
  have f : ∀ z : Int, 0 ≤ z → z < bc 0 r → flip (bc 0 p).toNat (bc 0 r).toNat (bc 0 p + z).toNat = z.toNat := by
    intro z z0 z1
    have := bc_ge 0 p
    unfold flip
    rw [if_neg (by omega), if_pos (by omega)]
    omega
  rw [← f x a1.1 a1.2, ← f y a2.1 a2.2, glue_flip hp hr]
  have E := glue_eqv (tiesOf p r)
  have t1 := tie_at hu' hx'
  have t2 := tie_at hv' hy'
  constructor
  · intro q
    exact E.trans _ _ _ t1 (E.trans _ _ _ q (E.symm _ _ t2))
  · intro q
    exact E.trans _ _ _ (E.symm _ _ t1) (E.trans _ _ _ q t2)
/-- above by labels -/
theorem above_labels (hp : Rg 0 p) {L : Nat → Int} {ls : List Int} (hlen : bc 0 p ≤ ls.length) (h : ∀ x y, L x = L y ↔ glue (tiesOf p r) x y)
    (hg : ∀ x y, x < ls.length → y < ls.length → (LabOf ls x = LabOf ls y ↔ glue (tiesOf p r) x y)) : num (p.map fun b => LabOf ls b.toNat) = num (p.map fun b => L b.toNat) := by
  refine num_congr (by rw [List.length_map, List.length_map]) fun i j x y u v hx hy hu hv => ?_
  obtain ⟨x, hx', rfl⟩ := map_at hx
  obtain ⟨y, hy', rfl⟩ := map_at hy
  obtain ⟨u, hu', rfl⟩ := map_at hu
  obtain ⟨v, hv', rfl⟩ := map_at hv
  rw [hx'] at hu'
  rw [hy'] at hv'
  obtain rfl := Option.some.inj hu'
  obtain rfl := Option.some.inj hv'
  have a1 := (rg_mem 0 p (Int.le_refl _) hp).1 x (List.mem_of_getElem? hx')
  have a2 := (rg_mem 0 p (Int.le_refl _) hp).1 y (List.mem_of_getElem? hy')
  rw [hg x.toNat y.toNat (by omega) (by omega), h]
theorem num_at {α : Type} [DecidableEq α] {xs : List α} {i j : Nat} {x y : α} {u v : Int} (hi : xs[i]? = some x) (hj : xs[j]? = some y) (ui : (num xs)[i]? = some u) (vj : (num xs)[j]? = some v) (e : x = y) : u = v :=
  (num_ker hi hj ui vj).mpr e
theorem at_some {α : Type} {xs : List α} {i : Nat} (h : i < xs.length) : ∃ x, xs[i]? = some x := ⟨_, List.getElem?_eq_getElem h⟩
theorem finer_above1 {L : Nat → Int} : Finer p (num (p.map fun b => L b.toNat)) := by
  intro i j x y z hi hj yi zj
  exact num_at (at_map (f := fun b : Int => L b.toNat) hi) (at_map hj) yi zj rfl
theorem finer_above2 (hl : p.length = r.length) {L : Nat → Int} (h : ∀ x y, L x = L y ↔ glue (tiesOf p r) x y) : Finer r (num (p.map fun b => L b.toNat)) := by
  intro i j x y z hi hj yi zj
  have li := (List.getElem?_eq_some_iff.mp hi).1
  have lj := (List.getElem?_eq_some_iff.mp hj).1
  obtain ⟨u, hu⟩ := at_some (xs := p) (i := i) (by omega)
  obtain ⟨v, hv⟩ := at_some (xs := p) (i := j) (by omega)
  refine num_at (at_map (f := fun b : Int => L b.toNat) hu) (at_map hv) yi zj ((h _ _).mpr ?_)
  have E := glue_eqv (tiesOf p r)
  exact E.trans _ _ _ (tie_at hu hi) (E.symm _ _ (tie_at hv hj))
theorem finer_below1 (hl : p.length = r.length) : Finer (num (p.zip r)) p := by
  intro i j x y z hi hj yi zj
  have li := (List.getElem?_eq_some_iff.mp yi).1
  have lj := (List.getElem?_eq_some_iff.mp zj).1
  obtain ⟨u, hu⟩ := at_some (xs := r) (i := i) (by omega)
  obtain ⟨v, hv⟩ := at_some (xs := r) (i := j) (by omega)
  have := (num_ker (zip_at yi hu) (zip_at zj hv) hi hj).mp rfl
  exact (Prod.mk.inj this).1
theorem finer_below2 (hl : p.length = r.length) : Finer (num (p.zip r)) r := by
  intro i j x y z hi hj yi zj
  have li := (List.getElem?_eq_some_iff.mp yi).1
  have lj := (List.getElem?_eq_some_iff.mp zj).1
  obtain ⟨u, hu⟩ := at_some (xs := p) (i := i) (by omega)
  obtain ⟨v, hv⟩ := at_some (xs := p) (i := j) (by omega)
  have := (num_ker (zip_at hu yi) (zip_at hv zj) hi hj).mp rfl
  exact (Prod.mk.inj this).2
end
/-- codes of blocks -/
def Code (b v : Int) : Prop := ∃ d s : Int, 0 ≤ d ∧ (s = 1 ∨ s = -1) ∧ v = (d * 61 + b) * s
theorem code_inj {b b' v : Int} (h : Code b v) (h' : Code b' v) (b0 : 0 ≤ b) (b1 : b < 61) (c0 : 0 ≤ b') (c1 : b' < 61) : b = b' := by
  obtain ⟨d, s, d0, hs, e⟩ := h
  obtain ⟨d', s', d0', hs', e'⟩ := h'
  rcases hs with rfl | rfl <;> rcases hs' with rfl | rfl <;> omega
theorem num_codes {p xs : List Int} (hp : Rg 0 p) (p60 : p.length ≤ 60) (hl : xs.length = p.length) (h : ∀ (i : Nat) (x v : Int), p[i]? = some x → xs[i]? = some v → Code x v)
    (hf : ∀ (i j : Nat) (x u v : Int), p[i]? = some x → p[j]? = some x → xs[i]? = some u → xs[j]? = some v → u = v) : num xs = p := by
  refine num_is hl.symm hp fun i j x y u v hx hy hu hv => ⟨fun e => ?_, fun e => ?_⟩
  · have a1 := (rg_mem 0 p (Int.le_refl _) hp).1 u (List.mem_of_getElem? hu)
    have a2 := (rg_mem 0 p (Int.le_refl _) hp).1 v (List.mem_of_getElem? hv)
    have g := bc_le 0 p
    subst e
    exact code_inj (h i u x hu hx) (h j v x hv hy) a1.1 (by omega) a2.1 (by omega)
  · subst e
    exact hf i j u x y hu hv hx hy
end KQ
namespace KM
/-! ### heads that lead to roots, in any order -/
structure Wood (hs : List Nat) (ρ d : Nat → Nat) : Prop where
  root : ∀ x, up hs (ρ x) = ρ x
  self : ∀ x, up hs x = x → ρ x = x
  step : ∀ x, ρ (up hs x) = ρ x
  down : ∀ x, up hs x ≠ x → d (up hs x) < d x
  lt : ∀ x, x < hs.length → up hs x < hs.length
  rlt : ∀ x, x < hs.length → ρ x < hs.length
theorem wood_range (n : Nat) : Wood (List.range n) id (fun _ => 0) :=
  ⟨fun x => up_range n x, fun _ _ => rfl, fun x => up_range n x, fun x h => absurd (up_range n x) h, fun x h => by rw [up_range]; exact h, fun _ h => h⟩
theorem wood_unite {hs : List Nat} {ρ d : Nat → Nat} (w : Wood hs ρ d) {a b : Nat} (ha : a < hs.length) (hb : b < hs.length) (ea : up hs a = a) (eb : up hs b = b) (ne : a ≠ b) :
    Wood (hs.set b a) (fun y => if ρ y = b then a else ρ y) (fun y => d y + if ρ y = b then d a + 1 else 0) := by
  have ra := w.self a ea
  have rb := w.self b eb
  refine ⟨fun x => ?_, fun x => ?_, fun x => ?_, fun x => ?_, fun x hx => ?_, fun x hx => ?_⟩
  · show up (hs.set b a) (if ρ x = b then a else ρ x) = if ρ x = b then a else ρ x
    rw [up_set hb]
    by_cases e : ρ x = b
    · rw [if_pos e, if_neg ne, ea]
    · rw [if_neg e, if_neg e, w.root]
  · rw [up_set hb]
    show _ → (if ρ x = b then a else ρ x) = x
    by_cases e : x = b
    · rw [if_pos e]
      intro z
      exact absurd (z.trans e) ne
    · rw [if_neg e]
      intro z
      rw [w.self x z, if_neg e]
  · show (if ρ (up (hs.set b a) x) = b then a else ρ (up (hs.set b a) x)) = if ρ x = b then a else ρ x
    rw [up_set hb]
    by_cases e : x = b
    · subst e
      rw [if_pos rfl, ra, if_neg ne, rb, if_pos rfl]
    · rw [if_neg e, w.step]
  · show _ → d (up (hs.set b a) x) + (if ρ (up (hs.set b a) x) = b then d a + 1 else 0) < d x + (if ρ x = b then d a + 1 else 0)
    rw [up_set hb]
    by_cases e : x = b
    · subst e
      rw [if_pos rfl, ra, if_neg ne, rb, if_pos rfl]
      intro _
      omega
    · rw [if_neg e, w.step]
      intro z
      have := w.down x z
      omega
  · rw [List.length_set] at hx ⊢
    rw [up_set hb]
    split
    · exact ha
    · exact w.lt x hx
  · rw [List.length_set] at hx ⊢
    show (if ρ x = b then a else ρ x) < hs.length
    split
    · exact ha
    · exact w.rlt x hx
theorem wood_tie {ρ : Nat → Nat} {R : Nat → Nat → Prop} {a b : Nat} (h : ∀ x y, ρ x = ρ y ↔ R x y) (x y : Nat) :
    ((if ρ x = ρ b then ρ a else ρ x) = if ρ y = ρ b then ρ a else ρ y) ↔ J R a b x y := by
  unfold J
  rw [← h x y, ← h x a, ← h b y, ← h x b, ← h a y]
  generalize ρ x = rx
  generalize ρ y = ry
  generalize ρ a = ra
  generalize ρ b = rb
  split <;> split <;> omega
end KM
namespace KQ
open PySem PySem.Spec PyProof.Rows L2 KR KM StX
section
variable {P : Program} {w : World} {K : PySem.W.Frag} {mg : Str → Option Value} {base : Heap}
/-- no door closes a ring with doors ahead of it -/
def RingAt (p r : List Int) (i : Nat) : Prop := ∃ x y, p[i]? = some x ∧ r[i]? = some y ∧ glue ((tiesOf p r).take i) x.toNat (bc 0 p + y).toNat
def NoRing (p r : List Int) : Prop := ∀ i, ¬ RingAt p r i
theorem ring_lt {p r : List Int} {i : Nat} (h : RingAt p r i) : i < p.length := by
  obtain ⟨x, y, hx, _⟩ := h
  exact (List.getElem?_eq_some_iff.mp hx).1
def spNoRing : Sp := fun vs H Q _ => ∃ a b p r, vs = [.ref a, .ref b] ∧ TI H a p ∧ TI H b r ∧ Par p ∧ Par r ∧ p.length = r.length ∧
  ∀ H' c, Same H H' → (c = true ↔ NoRing p r) → Q (.bl c) H'
def Tree (p r : List Int) : Prop := bc 0 p + bc 0 r = p.length + 1 ∧ NoRing p r
def spMeets : Sp := fun vs H Q _ => ∃ a b p r, vs = [.ref a, .ref b] ∧ TI H a p ∧ TI H b r ∧ Par p ∧ Par r ∧ p.length = r.length ∧ ∀ H' c, Same H H' → (c = true ↔ Tree p r) → Q (.bl c) H'
end
end KQ
namespace KM
/-- how many unlike items -/
def dcount (xs : List Int) : Nat := (firsts xs).length
theorem sub_len {α : Type} [DecidableEq α] : ∀ {xs ys : List α}, xs.Nodup → (∀ x ∈ xs, x ∈ ys) → xs.length ≤ ys.length
  | [], _, _, _ => Nat.zero_le _
  | x :: xs, ys, h, s => by
    have hx := s x List.mem_cons_self
    rw [List.nodup_cons] at h
    have e := List.length_erase_of_mem hx
    have l := List.length_pos_of_mem hx
    have := sub_len (xs := xs) (ys := ys.erase x) h.2 fun y hy => (List.mem_erase_of_ne (fun q : y = x => h.1 (by rw [← q]; exact hy))).mpr (s y (List.mem_cons_of_mem _ hy))
    rw [List.length_cons]
    omega
theorem same_len {α : Type} [DecidableEq α] {xs ys : List α} (h : xs.Nodup) (g : ys.Nodup) (e : ∀ x, x ∈ xs ↔ x ∈ ys) : xs.length = ys.length :=
  Nat.le_antisymm (sub_len h fun x hx => (e x).mp hx) (sub_len g fun x hx => (e x).mpr hx)
/-- one of two unlike items put for the other -/
theorem dcount_merge {xs : List Int} {u v : Int} (hu : u ∈ xs) (hv : v ∈ xs) (n : u ≠ v) : dcount (xs.map fun z => if z = v then u else z) + 1 = dcount xs := by
  unfold dcount
  have hv' : v ∈ firsts xs := (mem_firsts xs).mpr hv
  have l := List.length_pos_of_mem hv'
  have e := List.length_erase_of_mem hv'
  have := same_len (firsts_nodup (xs.map fun z => if z = v then u else z)) ((firsts_nodup xs).erase v) (fun x => by
    rw [mem_firsts, (firsts_nodup xs).mem_erase_iff, mem_firsts, List.mem_map]
    constructor
    · rintro ⟨z, hz, rfl⟩
      by_cases q : z = v
      · rw [if_pos q]
        exact ⟨n, hu⟩
      · rw [if_neg q]
        exact ⟨q, hz⟩
    · rintro ⟨q, hx⟩
      exact ⟨x, hx, by rw [if_neg q]⟩)
  omega
theorem dcount_range (n : Nat) : dcount ((List.range n).map fun k => ((k : Nat) : Int)) = n := by
  unfold dcount
  have nd : ((List.range n).map fun k => ((k : Nat) : Int)).Nodup := List.pairwise_map.mpr (List.nodup_range.imp fun h e => h (by omega))
  rw [same_len (firsts_nodup _) nd fun x => mem_firsts _, List.length_map, List.length_range]
/-- lists of the same items -/
theorem dcount_same {xs ys : List Int} (h : ∀ x, x ∈ xs ↔ x ∈ ys) : dcount xs = dcount ys :=
  same_len (firsts_nodup _) (firsts_nodup _) fun x => by rw [mem_firsts, mem_firsts, h]
theorem dcount_num (xs : List Int) : ((dcount xs : Nat) : Int) = bc 0 (num xs) := (firsts_len xs).1
end KM
/-! the count, in any order, and told by labels -/
namespace KQ
theorem prP_perm {l m : List (Nat × Nat)} (h : l.Perm m) : prP l = prP m := by
  induction h with
  | nil => rfl
  | cons a _ ih => show lin a.1 a.2 _ = lin a.1 a.2 _; rw [ih]
  | swap a b l => exact lin_comm _ _ _ _ _
  | trans _ _ h1 h2 => exact h1.trans h2
theorem qrP_perm {l m : List (Nat × Nat)} (h : l.Perm m) : qrP l = qrP m := by
  induction h with
  | nil => rfl
  | cons a h ih =>
    show (fun j => _ + lin a.1 a.2 _ j) = fun j => _ + lin a.1 a.2 _ j
    rw [ih, prP_perm h]
  | swap a b l =>
    show (fun j => (b.1 : Int) * b.2 * lin a.1 a.2 (prP l) j + lin b.1 b.2 (fun j => (a.1 : Int) * a.2 * prP l j + lin a.1 a.2 (qrP l) j) j) = fun j => (a.1 : Int) * a.2 * lin b.1 b.2 (prP l) j + lin a.1 a.2 (fun j => (b.1 : Int) * b.2 * prP l j + lin b.1 b.2 (qrP l) j) j
    rw [lin_add, lin_add, lin_smul, lin_smul, lin_comm b.1 b.2]
    funext j
    grind
  | trans _ _ h1 h2 => exact h1.trans h2
theorem Sw_perm (B : Int) (F : Nat) {l m : List (Nat × Nat)} (h : l.Perm m) : Sw B F l = Sw B F m := by
  unfold Sw
  rw [prP_perm h, qrP_perm h]
/-- how often -/
def howOft (d : Int) (xs : List Int) : Nat := (xs.filter fun x => decide (x = d)).length
theorem howOft_cons (d x : Int) (xs : List Int) : howOft d (x :: xs) = (if x = d then 1 else 0) + howOft d xs := by
  unfold howOft
  rw [List.filter_cons]
  by_cases h : x = d
  · rw [if_pos (decide_eq_true h), if_pos h, List.length_cons]
    omega
  · rw [if_neg (by simpa using h), if_neg h]
    omega
theorem pick_sum (x : Int) (G : Int → Int) : ∀ {es : List Int}, es.Nodup → x ∈ es → (es.map fun d => ((if x = d then 1 else 0 : Nat) : Int) * G d).sum = G x
  | e :: es, nd, h => by
    rw [List.map_cons, List.sum_cons]
    have nd2 := List.nodup_cons.mp nd
    by_cases q : x = e
    · rw [if_pos q, q]
      have : (es.map fun d => ((if e = d then 1 else 0 : Nat) : Int) * G d).sum = 0 := by
        have all : ∀ d ∈ es, ((if e = d then 1 else 0 : Nat) : Int) * G d = 0 := fun d hd => by
          rw [if_neg (fun z : e = d => nd2.1 (by rw [z]; exact hd))]
          simp
        rw [List.map_congr_left all]
        clear all nd nd2 h q
        induction es with
        | nil => rfl
        | cons a es ih => rw [List.map_cons, List.sum_cons, ih]; rfl
      rw [this]
      simp
    · have hx : x ∈ es := (List.mem_cons.mp h).resolve_left q
      rw [if_neg q, pick_sum x G nd2.2 hx]
      simp
theorem group_sum (G : Int → Int) {es : List Int} (nd : es.Nodup) : ∀ {xs : List Int}, (∀ x ∈ xs, x ∈ es) → (xs.map G).sum = (es.map fun d => (howOft d xs : Int) * G d).sum
  | [], hz => by
    show 0 = _
    clear nd hz
    induction es with
    | nil => rfl
    | cons a es ih =>
      rw [List.map_cons, List.sum_cons, ← ih]
      show 0 = ((0 : Nat) : Int) * G a + 0
      simp
  | x :: xs, h => by
    rw [List.map_cons, List.sum_cons, group_sum G nd fun y hy => h y (List.mem_cons_of_mem _ hy), ← pick_sum x G nd (h x List.mem_cons_self), ← sum_map_add]
    congr 1
    refine List.map_congr_left fun d hd => ?_
    rw [howOft_cons]
    rw [Int.natCast_add]
    grind
theorem group_len {es : List Int} (nd : es.Nodup) {xs : List Int} (h : ∀ x ∈ xs, x ∈ es) : (es.map fun d => howOft d xs).sum = xs.length := by
  have := group_sum (fun _ => 1) nd h
  have e1 : (xs.map fun _ => (1 : Int)).sum = xs.length := by
    clear this h
    induction xs with
    | nil => rfl
    | cons x xs ih => rw [List.map_cons, List.sum_cons, ih, List.length_cons]; omega
  have e2 : ∀ es : List Int, (es.map fun d => (howOft d xs : Int) * 1).sum = (((es.map fun d => howOft d xs).sum : Nat) : Int) := fun es => by
    induction es with
    | nil => rfl
    | cons a es ih => rw [List.map_cons, List.sum_cons, List.map_cons, List.sum_cons, ih]; omega
  rw [e1, e2] at this
  omega
theorem dels_map {α β : Type} (g : α → β) (l : List α) : dels (l.map g) = (dels l).map fun q => (g q.1, q.2.map g) := by
  induction l with
  | nil => rfl
  | cons a l ih =>
    rw [List.map_cons, dels, dels, List.map_cons, ih, List.map_map, List.map_map]
    rfl
theorem dels_erase {l : List Int} (nd : l.Nodup) {q : Int × List Int} (h : q ∈ dels l) : q.2 = l.erase q.1 := by
  induction l generalizing q with
  | nil => cases h
  | cons a l ih =>
    have nd2 := List.nodup_cons.mp nd
    rcases List.mem_cons.mp h with rfl | h
    · exact (List.erase_cons_head a l).symm
    · obtain ⟨x, hx, rfl⟩ := List.mem_map.mp h
      have : x.1 ∈ l := by
        rw [← dels_fst l]
        exact List.mem_map_of_mem hx
      show a :: x.2 = (a :: l).erase x.1
      rw [List.erase_cons_tail (by simpa using fun z : a = x.1 => nd2.1 (z ▸ this)), ih nd2.2 hx]
theorem dels_sum {l : List Int} (nd : l.Nodup) (g : Int → Nat × Nat) (S : Nat × Nat → List (Nat × Nat) → Int) :
    ((dels (l.map g)).map fun q => (q.1.1 : Int) * S q.1 q.2).sum = (l.map fun d => ((g d).1 : Int) * S (g d) ((l.erase d).map g)).sum := by
  rw [dels_map, List.map_map]
  have e : (dels l).map ((fun q : (Nat × Nat) × List (Nat × Nat) => (q.1.1 : Int) * S q.1 q.2) ∘ fun q : Int × List Int => (g q.1, q.2.map g)) = (dels l).map ((fun d : Int => ((g d).1 : Int) * S (g d) ((l.erase d).map g)) ∘ fun q => q.1) := by
    refine List.map_congr_left fun q hq => ?_
    show ((g q.1).1 : Int) * S (g q.1) (q.2.map g) = _
    rw [dels_erase nd hq]
    rfl
  rw [e, ← List.map_map, dels_fst]
end KQ
/-! how many ways lead on from a state told by labels -/
namespace KQ
def labF (P : List Int) (b : Int) : Int := P.getD b.toNat 0
/-- v becomes u -/
def mergeL (P : List Int) (u v : Int) : List Int := P.map fun z => if z = v then u else z
def cntA (K most : Nat) : List Int → List Int → Nat
  | [], _ => 1
  | b :: r, P => (((P.drop K).filter fun x => !decide (x = labF P b)).map fun x => cntA K most r (mergeL P (labF P b) x)).sum + if P.length - K < most then cntA K most r (P ++ [labF P b]) else 0
def compOf (K : Nat) (P rem : List Int) (c : Int) : Nat × Nat := (howOft c (P.drop K), (rem.filter fun b => decide (labF P b = c)).length)
theorem labF_app {P Q : List Int} {b : Int} (h : b.toNat < P.length) : labF (P ++ Q) b = labF P b := by
  unfold labF
  rw [List.getD_eq_getElem?_getD, List.getD_eq_getElem?_getD, List.getElem?_append_left h]
theorem labF_map {P : List Int} {b : Int} (f : Int → Int) (h : b.toNat < P.length) : labF (P.map f) b = f (labF P b) := by
  unfold labF
  rw [List.getD_eq_getElem?_getD, List.getD_eq_getElem?_getD, List.getElem?_map, List.getElem?_eq_getElem h]
  rfl
theorem labF_mem {P : List Int} {b : Int} {K : Nat} (h : b.toNat < K) (hK : K ≤ P.length) : labF P b ∈ P.take K := by
  unfold labF
  rw [List.getD_eq_getElem?_getD, List.getElem?_eq_getElem (by omega)]
  refine List.mem_of_getElem? (i := b.toNat) ?_
  rw [List.getElem?_take_of_lt h, List.getElem?_eq_getElem (by omega)]
  rfl
theorem howOft_app (d : Int) (xs ys : List Int) : howOft d (xs ++ ys) = howOft d xs + howOft d ys := by
  unfold howOft
  rw [List.filter_append, List.length_append]
/-- u and v counted together -/
theorem howOft_merge {u v : Int} (ne : u ≠ v) : ∀ (xs : List Int), howOft u (xs.map fun z => if z = v then u else z) = howOft u xs + howOft v xs
  | [] => rfl
  | x :: xs => by
    rw [List.map_cons, howOft_cons, howOft_cons, howOft_cons, howOft_merge ne xs]
    by_cases h : x = v
    · rw [if_pos h, if_pos rfl, if_pos h, if_neg (fun z : x = u => ne (by rw [← z, h]))]
      omega
    · rw [if_neg h, if_neg h]
      omega
theorem howOft_keep {u v d : Int} (h1 : d ≠ u) (h2 : d ≠ v) : ∀ (xs : List Int), howOft d (xs.map fun z => if z = v then u else z) = howOft d xs
  | [] => rfl
  | x :: xs => by
    rw [List.map_cons, howOft_cons, howOft_cons, howOft_keep h1 h2 xs]
    by_cases h : x = v
    · rw [if_pos h, if_neg (fun z => h1 z.symm), if_neg (fun z => h2 (by rw [← z, h]))]
    · rw [if_neg h]
/-- the labels of what is left -/
theorem fOf_eq (P rem : List Int) (c : Int) : (rem.filter fun b => decide (labF P b = c)).length = howOft c (rem.map (labF P)) := by
  unfold howOft
  rw [List.filter_map, List.length_map]
  rfl
theorem tsum_map (K : Nat) (P rem es : List Int) : tsum (es.map (compOf K P rem)) = (es.map fun d => howOft d (P.drop K)).sum := by
  unfold tsum
  rw [List.map_map]
  rfl
theorem fsum_map (K : Nat) (P rem es : List Int) : fsum (es.map (compOf K P rem)) = (es.map fun d => howOft d (rem.map (labF P))).sum := by
  unfold fsum
  rw [List.map_map]
  congr 1
  exact List.map_congr_left fun d _ => fOf_eq P rem d
theorem cnt_Sw (K most : Nat) (k0 : 0 < K) : ∀ (rem P ds : List Int), ds.Nodup → (∀ c, c ∈ ds ↔ c ∈ P.take K) → (∀ x ∈ P.drop K, x ∈ P.take K) → K ≤ P.length → (∀ b ∈ rem, b.toNat < K) → P.length - K ≤ most → ds.length + (most - (P.length - K)) = rem.length + 1 →
    (cntA K most rem P : Int) * ((most : Int) * (fac (most - (P.length - K)) : Int)) = Sw most rem.length (ds.map (compOf K P rem))
  | [], P, ds, nd, hds, hm, hK, hb, hle, hC => by
    have hd : ∃ d, ds = [d] ∧ most - (P.length - K) = 0 := by
      have ne : labF P 0 ∈ ds := (hds _).mpr (labF_mem (by simpa using k0) hK)
      match ds, ne with
      | [d], _ => exact ⟨d, rfl, by simp at hC; omega⟩
      | d :: e :: r, _ => simp only [List.length_cons, List.length_nil] at hC; omega
    obtain ⟨d, rfl, e0⟩ := hd
    rw [e0]
    have ht : howOft d (P.drop K) = P.length - K := by
      have := group_len nd (xs := P.drop K) fun x hx => (hds x).mpr (hm x hx)
      simpa using this
    have hmost : most = P.length - K := by omega
    show ((1 : Nat) : Int) * ((most : Int) * (fac 0 : Int)) = Lw most 1 (lin (howOft d (P.drop K)) 0 oneP) - Lw most 0 _
    rw [Lw_zero, Lw_lin, Lw_zero, ht, ← hmost]
    have : Lw most (0 + 1) oneP = 1 := by
      show ((oneP 0 * (most : Int) ^ 0 * (fac 0 : Int)) + 0) = 1
      simp [oneP, fac]
    rw [this]
    simp [fac]
  | b :: r, P, ds, nd, hds, hm, hK, hb, hle, hC => by
    have hbK := hb b List.mem_cons_self
    have hbr := fun x hx => hb x (List.mem_cons_of_mem b hx)
    obtain ⟨h, hh⟩ : ∃ h, labF P b = h := ⟨_, rfl⟩
    have hmem : h ∈ ds := (hds _).mpr (hh ▸ labF_mem hbK hK)
    have perm : ds.Perm (h :: ds.erase h) := List.perm_cons_erase hmem
    obtain ⟨es, hes⟩ : ∃ es, ds.erase h = es := ⟨_, rfl⟩
    rw [hes] at perm
    have nd2 : (h :: es).Nodup := perm.nodup_iff.mp nd
    obtain ⟨hne, ndE⟩ := List.nodup_cons.mp nd2
    have mem2 : ∀ c, c ∈ h :: es ↔ c ∈ P.take K := fun c => perm.mem_iff.symm.trans (hds c)
    have lenD : ds.length = es.length + 1 := perm.length_eq
    rw [Sw_perm _ _ (perm.map _)]
    have allE : ∀ x ∈ P.drop K, x ∈ h :: es := fun x hx => (mem2 x).mpr (hm x hx)
    have allR : ∀ x ∈ r.map (labF P), x ∈ h :: es := fun x hx => by
      obtain ⟨y, hy, rfl⟩ := List.mem_map.mp hx
      exact (mem2 _).mpr (labF_mem (hbr y hy) hK)
    have ts := group_len nd2 allE
    have fs := group_len nd2 allR
    rw [List.map_cons, List.sum_cons] at ts fs
    rw [List.length_map] at fs
    rw [List.length_drop] at ts
    obtain ⟨fresh, hfr⟩ : ∃ fresh, most - (P.length - K) = fresh := ⟨_, rfl⟩
    rw [hfr] at hC ⊢
    have lenR : (b :: r).length = r.length + 1 := rfl
    have step := Sw_step (howOft h (P.drop K)) (howOft h (r.map (labF P))) r.length (es.map (compOf K P r)) fresh (by rw [fsum_map]; omega) (by rw [List.length_map]; omega) most (by rw [tsum_map]; omega)
    have c1 : (h :: es).map (compOf K P (b :: r)) = (howOft h (P.drop K), howOft h (r.map (labF P)) + 1) :: es.map (compOf K P r) := by
      rw [List.map_cons]
      congr 1
      · show (_, _) = _
        rw [fOf_eq, List.map_cons, howOft_cons, hh, if_pos rfl, Nat.add_comm]
      · refine List.map_congr_left fun c hc => ?_
        unfold compOf
        rw [fOf_eq, fOf_eq, List.map_cons, howOft_cons, hh, if_neg (fun z : h = c => hne (by rw [z]; exact hc)), Nat.zero_add]
    rw [c1, lenR, ← step]
    rw [dels_sum ndE (compOf K P r) (fun a l => Sw most r.length ((howOft h (P.drop K) + a.1, howOft h (r.map (labF P)) + a.2) :: l))]
    -- a new one
    have new : (fresh : Int) * Sw most r.length ((howOft h (P.drop K) + 1, howOft h (r.map (labF P))) :: es.map (compOf K P r)) = ((if P.length - K < most then cntA K most r (P ++ [h]) else 0 : Nat) : Int) * ((most : Int) * (fac fresh : Int)) := by
      by_cases z : fresh = 0
      · rw [z, if_neg (by omega)]
        simp
      · obtain ⟨k, rfl⟩ : ∃ k, fresh = k + 1 := ⟨fresh - 1, by omega⟩
        rw [if_pos (by omega)]
        have tk : (P ++ [h]).take K = P.take K := List.take_append_of_le_length hK
        have dk : (P ++ [h]).drop K = P.drop K ++ [h] := List.drop_append_of_le_length hK
        have ih := cnt_Sw K most k0 r (P ++ [h]) (h :: es) nd2 (by rw [tk]; exact mem2) (by
          rw [tk, dk]
          intro x hx
          rcases List.mem_append.mp hx with hx | hx
          · exact hm x hx
          · rw [List.mem_singleton.mp hx]
            exact (mem2 h).mp List.mem_cons_self) (by rw [List.length_append]; omega) hbr (by rw [List.length_append]; simp; omega) (by rw [List.length_append]; simp; omega)
        have e : most - ((P ++ [h]).length - K) = k := by rw [List.length_append]; simp; omega
        rw [e] at ih
        have c2 : (h :: es).map (compOf K (P ++ [h]) r) = (howOft h (P.drop K) + 1, howOft h (r.map (labF P))) :: es.map (compOf K P r) := by
          have lab : r.map (labF (P ++ [h])) = r.map (labF P) := List.map_congr_left fun x hx => labF_app (by have := hbr x hx; omega)
          rw [List.map_cons]
          congr 1
          · show (_, _) = _
            rw [fOf_eq, lab, dk, howOft_app, howOft_cons, if_pos rfl]
            rfl
          · refine List.map_congr_left fun c hc => ?_
            unfold compOf
            rw [fOf_eq, fOf_eq, lab, dk, howOft_app, howOft_cons, if_neg (fun z : h = c => hne (by rw [z]; exact hc))]
            rfl
        rw [c2] at ih
        rw [← ih]
        show ((k + 1 : Nat) : Int) * _ = _ * ((most : Int) * (((k + 1) * fac k : Nat) : Int))
        rw [Int.natCast_mul]
        grind
    rw [new]
    -- glued to another
    have old : (es.map fun d => ((compOf K P r d).1 : Int) * Sw most r.length ((howOft h (P.drop K) + (compOf K P r d).1, howOft h (r.map (labF P)) + (compOf K P r d).2) :: (es.erase d).map (compOf K P r))).sum =
        (((((P.drop K).filter fun x => !decide (x = h)).map fun x => cntA K most r (mergeL P h x)).sum : Nat) : Int) * ((most : Int) * (fac fresh : Int)) := by
      have inE : ∀ x ∈ (P.drop K).filter (fun x => !decide (x = h)), x ∈ es := fun x hx => by
        obtain ⟨h1, h2⟩ := List.mem_filter.mp hx
        refine (List.mem_cons.mp (allE x h1)).resolve_left fun z => ?_
        rw [z] at h2
        simp at h2
      have one : ∀ d ∈ es, (cntA K most r (mergeL P h d) : Int) * ((most : Int) * (fac fresh : Int)) = Sw most r.length ((howOft h (P.drop K) + (compOf K P r d).1, howOft h (r.map (labF P)) + (compOf K P r d).2) :: (es.erase d).map (compOf K P r)) := fun d hd => by
        have hdne : h ≠ d := fun z => hne (by rw [z]; exact hd)
        have len : (mergeL P h d).length = P.length := List.length_map ..
        have tk : (mergeL P h d).take K = (P.take K).map fun z => if z = d then h else z := by unfold mergeL; rw [List.map_take]
        have dk : (mergeL P h d).drop K = (P.drop K).map fun z => if z = d then h else z := by unfold mergeL; rw [List.map_drop]
        have ndd : (h :: es.erase d).Nodup := List.nodup_cons.mpr ⟨fun z => hne (List.mem_of_mem_erase z), ndE.erase d⟩
        have memd : ∀ c, c ∈ h :: es.erase d ↔ c ∈ (mergeL P h d).take K := fun c => by
          rw [tk, List.mem_map, List.mem_cons, ndE.mem_erase_iff]
          constructor
          · rintro (rfl | ⟨c1, c2⟩)
            · exact ⟨c, (mem2 c).mp List.mem_cons_self, by rw [if_neg hdne]⟩
            · exact ⟨c, (mem2 c).mp (List.mem_cons_of_mem _ c2), if_neg c1⟩
          · rintro ⟨a, ha, e⟩
            by_cases q : a = d
            · rw [if_pos q] at e
              exact .inl e.symm
            · rw [if_neg q] at e
              subst e
              rcases List.mem_cons.mp ((mem2 a).mpr ha) with e | e
              · exact .inl e
              · exact .inr ⟨q, e⟩
        have hle' : ds.length + fresh = r.length + 1 + 1 := hC
        have lenE : (es.erase d).length = es.length - 1 := List.length_erase_of_mem hd
        have pos : 0 < es.length := List.length_pos_of_mem hd
        have ih := cnt_Sw K most k0 r (mergeL P h d) (h :: es.erase d) ndd memd (by
          rw [tk, dk]
          intro x hx
          obtain ⟨y, hy, rfl⟩ := List.mem_map.mp hx
          exact List.mem_map_of_mem (hm y hy)) (by rw [len]; exact hK) hbr (by rw [len]; exact hle) (by rw [len, hfr, List.length_cons, lenE]; omega)
        rw [len, hfr] at ih
        have lab : r.map (labF (mergeL P h d)) = (r.map (labF P)).map fun z => if z = d then h else z := by
          rw [List.map_map]
          exact List.map_congr_left fun x hx => labF_map _ (by have := hbr x hx; omega)
        rw [ih]
        congr 1
        rw [List.map_cons]
        congr 1
        · show (_, _) = (_, _)
          rw [fOf_eq, lab, dk, howOft_merge hdne, howOft_merge hdne]
          show _ = (_, _ + (r.filter fun b => decide (labF P b = d)).length)
          rw [fOf_eq]
          rfl
        · refine List.map_congr_left fun c hc => ?_
          have hc2 := ndE.mem_erase_iff.mp hc
          have hch : c ≠ h := fun z => hne (by rw [← z]; exact hc2.2)
          unfold compOf
          rw [fOf_eq, fOf_eq, lab, dk, howOft_keep hch hc2.1, howOft_keep hch hc2.1]
      have g := group_sum (fun x => (cntA K most r (mergeL P h x) : Int) * ((most : Int) * (fac fresh : Int))) ndE inE
      have cast : ∀ xs : List Int, (xs.map fun x => (cntA K most r (mergeL P h x) : Int) * ((most : Int) * (fac fresh : Int))).sum = (((xs.map fun x => cntA K most r (mergeL P h x)).sum : Nat) : Int) * ((most : Int) * (fac fresh : Int)) := fun xs => by
        induction xs with
        | nil => simp
        | cons x xs ih =>
          rw [List.map_cons, List.sum_cons, ih, List.map_cons, List.sum_cons, Int.natCast_add]
          grind
      rw [← cast, g]
      congr 1
      refine List.map_congr_left fun d hd => ?_
      rw [one d hd]
      congr 1
      have hdne : d ≠ h := fun z => hne (by rw [← z]; exact hd)
      show ((howOft d (P.drop K) : Nat) : Int) = (howOft d ((P.drop K).filter fun x => !decide (x = h)) : Int)
      congr 1
      unfold howOft
      rw [List.filter_filter]
      congr 1
      refine List.filter_congr fun x _ => ?_
      by_cases q : x = d
      · rw [q]
        simp [hdne]
      · simp [q]
    rw [old]
    rw [show cntA K most (b :: r) P = (((P.drop K).filter fun x => !decide (x = labF P b)).map fun x => cntA K most r (mergeL P (labF P b) x)).sum + (if P.length - K < most then cntA K most r (P ++ [labF P b]) else 0) from rfl, hh, Int.natCast_add, Int.add_mul]
end KQ
/-! how many partings meet one -/
namespace KQ
open KM
def iotaL (K : Nat) : List Int := (List.range K).map fun k => ((k : Nat) : Int)
theorem iota_len (K : Nat) : (iotaL K).length = K := by unfold iotaL; rw [List.length_map, List.length_range]
theorem iota_lab {K : Nat} {b : Int} (b0 : 0 ≤ b) (h : b.toNat < K) : labF (iotaL K) b = b := by
  unfold labF iotaL
  rw [List.getD_eq_getElem?_getD, List.getElem?_map, List.getElem?_range h]
  show ((b.toNat : Nat) : Int) = b
  omega
theorem iota_nodup (K : Nat) : (iotaL K).Nodup := by
  unfold iotaL
  exact List.Pairwise.map _ (fun a b h e => h (Int.ofNat.inj e)) List.nodup_range
def prodN (xs : List Nat) : Nat := xs.foldr (· * ·) 1
/-- all sizes' product -/
def sizesP (K : Nat) (p : List Int) : Nat := prodN ((iotaL K).map fun c => howOft c p)
theorem prP_zero : ∀ (xs : List Nat) (j : Nat), prP (xs.map fun f => (0, f)) j = if j = xs.length then (prodN xs : Int) else 0
  | [], j => rfl
  | x :: xs, j => by
    show ((0 : Nat) : Int) * _ + (x : Int) * pX (prP (xs.map fun f => (0, f))) j = _
    cases j with
    | zero => simp [pX]
    | succ j =>
      show ((0 : Nat) : Int) * _ + (x : Int) * prP (xs.map fun f => (0, f)) j = if j + 1 = xs.length + 1 then ((x * prodN xs : Nat) : Int) else 0
      rw [prP_zero xs j]
      by_cases h : j = xs.length
      · rw [if_pos h, if_pos (by omega), Int.natCast_mul]
        simp
      · rw [if_neg h, if_neg (by omega)]
        simp
theorem qrP_zero : ∀ (xs : List Nat) (j : Nat), qrP (xs.map fun f => (0, f)) j = 0
  | [], j => rfl
  | x :: xs, j => by
    show ((0 : Nat) : Int) * (x : Int) * _ + (((0 : Nat) : Int) * _ + (x : Int) * pX (qrP (xs.map fun f => (0, f))) j) = 0
    cases j with
    | zero => simp [pX]
    | succ j =>
      show _ + (_ + (x : Int) * qrP (xs.map fun f => (0, f)) j) = 0
      rw [qrP_zero xs j]
      simp
theorem Lw_single (B : Int) (m k : Nat) (c : Int) (h : k < m) : Lw B m (fun j => if j = k then c else 0) = c * B ^ k * (fac (m - 1 - k) : Int) := by
  unfold Lw
  have e : ∀ n, ((List.range n).map fun j => (if j = k then c else 0) * B ^ j * (fac (m - 1 - j) : Int)).sum = if k < n then c * B ^ k * (fac (m - 1 - k) : Int) else 0 := fun n => by
    induction n with
    | zero => rfl
    | succ n ih =>
      rw [List.range_succ, List.map_append, List.sum_append, ih]
      by_cases q : n = k
      · subst q
        rw [if_neg (by omega), if_pos (by omega)]
        simp
      · by_cases q2 : k < n
        · rw [if_pos q2, if_pos (by omega)]
          simp [q]
        · rw [if_neg q2, if_neg (by omega)]
          simp [q]
  rw [e m, if_pos h]
theorem fac_pos : ∀ n, 0 < fac n
  | 0 => by decide
  | n + 1 => Nat.mul_pos (by omega) (fac_pos n)
theorem cnt_start {K : Nat} {p : List Int} (k0 : 0 < K) (hK : K ≤ p.length) (hp : ∀ b ∈ p, 0 ≤ b ∧ b.toNat < K) :
    cntA K (p.length + 1 - K) p (iotaL K) * ((p.length + 1 - K) * (p.length + 1 - K)) = sizesP K p * (p.length + 1 - K) ^ K := by
  obtain ⟨w, hw⟩ : ∃ w, p.length = K + w := ⟨p.length - K, by omega⟩
  have em : p.length + 1 - K = w + 1 := by omega
  have tk : (iotaL K).take K = iotaL K := List.take_of_length_le (by rw [iota_len]; exact Nat.le_refl _)
  have dk : (iotaL K).drop K = [] := List.drop_of_length_le (by rw [iota_len]; exact Nat.le_refl _)
  have h := cnt_Sw K (w + 1) k0 p (iotaL K) (iotaL K) (iota_nodup K) (fun c => by rw [tk]) (fun x hx => by rw [dk] at hx; cases hx) (by rw [iota_len]; exact Nat.le_refl _) (fun b hb => (hp b hb).2) (by rw [iota_len]; omega) (by rw [iota_len]; omega)
  rw [iota_len, Nat.sub_self, Nat.sub_zero] at h
  have ec : (iotaL K).map (compOf K (iotaL K) p) = ((iotaL K).map fun c => howOft c p).map fun f => (0, f) := by
    rw [List.map_map]
    refine List.map_congr_left fun c _ => ?_
    show (_, _) = (0, howOft c p)
    have e2 : p.map (labF (iotaL K)) = p := (List.map_congr_left (g := id) fun b hb => iota_lab (hp b hb).1 (hp b hb).2).trans (List.map_id p)
    rw [fOf_eq, dk, e2]
    rfl
  rw [ec] at h
  have eS : Sw ((w + 1 : Nat) : Int) p.length (((iotaL K).map fun c => howOft c p).map fun f => (0, f)) = (sizesP K p : Int) * ((w + 1 : Nat) : Int) ^ K * (fac w : Int) := by
    unfold Sw
    rw [Lw_none _ _ (qrP_zero _), Int.sub_zero, show prP (((iotaL K).map fun c => howOft c p).map fun f => (0, f)) = fun j => if j = K then (sizesP K p : Int) else 0 from funext fun j => by
      rw [prP_zero, List.length_map, iota_len]
      rfl, Lw_single _ _ _ _ (by omega), show p.length + 1 - 1 - K = w by omega]
  rw [eS] at h
  rw [em]
  have h2 : cntA K (w + 1) p (iotaL K) * ((w + 1) * fac (w + 1)) = sizesP K p * (w + 1) ^ K * fac w := by
    have := h
    rw [← Int.natCast_mul, ← Int.natCast_mul, ← Int.natCast_pow, ← Int.natCast_mul, ← Int.natCast_mul] at this
    exact Int.ofNat.inj this
  have h3 : (cntA K (w + 1) p (iotaL K) * ((w + 1) * (w + 1))) * fac w = (sizesP K p * (w + 1) ^ K) * fac w := by
    rw [← h2]
    show _ = _ * ((w + 1) * ((w + 1) * fac w))
    simp only [Nat.mul_assoc]
  exact Nat.eq_of_mul_eq_mul_right (fac_pos w) h3
/-- the number that is told -/
def metN (K : Nat) (p : List Int) : Nat := if K = 1 then 1 else sizesP K p * (p.length + 1 - K) ^ (K - 2)
theorem cnt_met {K : Nat} {p : List Int} (k0 : 0 < K) (hK : K ≤ p.length) (hp : ∀ b ∈ p, 0 ≤ b ∧ b.toNat < K) : cntA K (p.length + 1 - K) p (iotaL K) = metN K p := by
  have h := cnt_start k0 hK hp
  obtain ⟨w, hw⟩ : ∃ w, p.length + 1 - K = w + 1 := ⟨p.length - K, by omega⟩
  unfold metN
  rw [hw] at h ⊢
  have pos : 0 < (w + 1) * (w + 1) := Nat.mul_pos (by omega) (by omega)
  refine Nat.eq_of_mul_eq_mul_right pos ?_
  rw [h]
  by_cases k1 : K = 1
  · subst k1
    rw [if_pos rfl]
    have ew : w + 1 = p.length := by omega
    have : sizesP 1 p = p.length := by
      show howOft 0 p * 1 = p.length
      rw [Nat.mul_one]
      unfold howOft
      rw [List.filter_eq_self.mpr fun b hb => by
        have := hp b hb
        exact decide_eq_true (by omega)]
    rw [this, ew]
    simp
  · rw [if_neg k1]
    obtain ⟨i, rfl⟩ : ∃ i, K = i + 2 := ⟨K - 2, by omega⟩
    show _ = sizesP (i + 2) p * (w + 1) ^ i * ((w + 1) * (w + 1))
    rw [Nat.pow_succ, Nat.pow_succ]
    simp only [Nat.mul_assoc]
end KQ
namespace KQ
open PySem PySem.Spec PyProof.Rows L2 KR KM StX
section
variable {P : Program} {w : World} {K : PySem.W.Frag} {mg : Str → Option Value} {base : Heap}
/-- what the door says that closes the first ring, with the doors ahead of i -/
def ClosedBy (p r : List Int) (i : Nat) (cl : V) : Prop := (cl = .non ∧ ∀ j, j < i → ¬ RingAt p r j) ∨ ∃ n : Nat, cl = .int ((n : Nat) : Int) ∧ n < i ∧ RingAt p r n ∧ ∀ j, j < n → ¬ RingAt p r j
theorem closed_next {p r : List Int} {i : Nat} {cl : V} (h : ClosedBy p r i cl) (n : ¬ RingAt p r i) : ClosedBy p r (i + 1) cl := by
  rcases h with ⟨e, h⟩ | ⟨k, e, hk, h1, h2⟩
  · refine .inl ⟨e, fun j hj => ?_⟩
    by_cases q : j = i
    · rw [q]
      exact n
    · exact h j (by omega)
  · exact .inr ⟨k, e, by omega, h1, h2⟩
def spHung2 : Sp := fun vs H Q _ => ∃ a b p r, vs = [.ref a, .ref b] ∧ TI H a p ∧ TI H b r ∧ Par p ∧ Par r ∧ p.length = r.length ∧
  ∀ H' t l cl (ls : List Int), Same H H' → H' t = some (.tup [.ref l, cl]) → H' l = some (.lst (ls.map V.int)) → ls.length = (bc 0 p + bc 0 r).toNat →
    (∀ x y, x < ls.length → y < ls.length → (LabOf ls x = LabOf ls y ↔ glue (tiesOf p r) x y)) → ClosedBy p r p.length cl → (cl = .non → dcount ls + p.length = ls.length) → (∀ x ∈ ls, 0 ≤ x ∧ x < ls.length) → Q (.ref t) H'
end
end KQ
namespace KQ
open PySem PySem.Spec PyProof.Rows L2 KR KM StX
/-- labels of blocks of the one (the first sh) and of those put on so far, i doors of the order ds being done -/
structure Met (p ds ls : List Int) (sh i q : Nat) : Prop where
  len : ls.length = sh + q
  c1 : ∀ j d x, j < i → ds[j]? = some d → p[d.toNat]? = some x → ∃ k, k < q ∧ ls[sh + k]? = ls[x.toNat]?
  c2 : ∀ b b', b < sh → b' < sh → b ≠ b' → ls[b]? = ls[b']? → ∃ k, k < q ∧ ls[sh + k]? = ls[b]?
/-- an order of all doors -/
structure Ord (ds : List Int) (n : Nat) : Prop where
  len : ds.length = n
  nd : ds.Nodup
  at_ : ∀ d ∈ ds, 0 ≤ d ∧ d < n
theorem Ord.all {ds : List Int} {n : Nat} (h : Ord ds n) {d : Int} (d0 : 0 ≤ d) (d1 : d < n) : d ∈ ds := by
  apply Classical.byContradiction
  intro hn
  have nd : (d :: ds).Nodup := List.nodup_cons.mpr ⟨hn, h.nd⟩
  have := sub_len (ys := (List.range n).map fun k => ((k : Nat) : Int)) nd fun x hx => by
    have hb : 0 ≤ x ∧ x < n := by
      rcases List.mem_cons.mp hx with rfl | hx
      · exact ⟨d0, d1⟩
      · exact h.at_ x hx
    exact List.mem_map.mpr ⟨x.toNat, List.mem_range.mpr (by omega), by omega⟩
  rw [List.length_cons, h.len, List.length_map, List.length_range] at this
  omega
theorem met_some {p ds ls : List Int} {sh i q : Nat} (par : Par p) (hsh : (sh : Int) = bc 0 p) (o : Ord ds p.length) (M : Met p ds ls sh i q) {d x own : Int} (hd : ds[i]? = some d) (hx : p[d.toNat]? = some x)
    (ho : ls[x.toNat]? = some own) (hq : ∀ k, k < q → ls[sh + k]? = some own) : dcount ls + (i + 1) ≤ p.length + 1 := by
  have him := (List.getElem?_eq_some_iff.mp hd).1
  rw [o.len] at him
  have own_in : own ∈ firsts ls := (mem_firsts ls).mpr (List.mem_of_getElem? ho)
  have e1 := List.length_erase_of_mem own_in
  have l1 := List.length_pos_of_mem own_in
  have := sub_len (xs := (firsts ls).erase own) (ys := (ds.drop (i + 1)).map fun d => ls.getD (p.getD d.toNat 0).toNat 0) ((firsts_nodup ls).erase own) fun z hz => by
    obtain ⟨zn, hz⟩ := ((firsts_nodup ls).mem_erase_iff).mp hz
    obtain ⟨b, hb⟩ := List.mem_iff_getElem?.mp ((mem_firsts ls).mp hz)
    have hbl := (List.getElem?_eq_some_iff.mp hb).1
    rw [M.len] at hbl
    have hbs : b < sh := by
      apply Classical.byContradiction
      intro hn
      have := hq (b - sh) (by omega)
      rw [show sh + (b - sh) = b by omega, hb] at this
      exact zn (Option.some.inj this)
    have hbp := (rg_mem 0 p (Int.le_refl _) par.rg).2 ((b : Nat) : Int) (by omega) (by omega)
    obtain ⟨j, hj⟩ := List.mem_iff_getElem?.mp hbp
    have hjl := (List.getElem?_eq_some_iff.mp hj).1
    obtain ⟨t, ht⟩ := List.mem_iff_getElem?.mp (o.all (d := ((j : Nat) : Int)) (by omega) (by omega))
    have htp : p[(((j : Nat) : Int)).toNat]? = some ((b : Nat) : Int) := by rw [Int.toNat_natCast]; exact hj
    have hti : i < t := by
      rcases Nat.lt_trichotomy t i with c | c | c
      · obtain ⟨k, hk, e⟩ := M.c1 t _ _ c ht htp
        rw [hq k hk, Int.toNat_natCast, hb] at e
        exact absurd (Option.some.inj e).symm zn
      · subst c
        rw [hd] at ht
        obtain rfl := Option.some.inj ht
        rw [hx] at htp
        obtain rfl := Option.some.inj htp
        rw [Int.toNat_natCast, hb] at ho
        exact absurd (Option.some.inj ho) zn
      · exact c
    refine List.mem_map.mpr ⟨((j : Nat) : Int), List.mem_iff_getElem?.mpr ⟨t - (i + 1), ?_⟩, ?_⟩
    · rw [List.getElem?_drop, show i + 1 + (t - (i + 1)) = t by omega]
      exact ht
    · rw [List.getD_eq_getElem?_getD, List.getD_eq_getElem?_getD, htp]
      show (ls[(((b : Nat) : Int)).toNat]?).getD 0 = z
      rw [Int.toNat_natCast, hb]
      rfl
  rw [List.length_map, List.length_drop, o.len] at this
  unfold dcount
  omega
theorem met_new {p ds ls : List Int} {sh i q : Nat} (hsh : ∀ x ∈ p, 0 ≤ x ∧ x < (sh : Int)) (M : Met p ds ls sh i q) {d x own : Int} (hd : ds[i]? = some d) (hx : p[d.toNat]? = some x)
    (ho : ls[x.toNat]? = some own) : Met p ds (ls ++ [own]) sh (i + 1) (q + 1) := by
  have low : ∀ k, k < sh + q → (ls ++ [own])[k]? = ls[k]? := fun k hk => List.getElem?_append_left (by rw [M.len]; exact hk)
  have top : (ls ++ [own])[sh + q]? = some own := by
    rw [List.getElem?_append_right (by rw [M.len]; exact Nat.le_refl _), M.len, Nat.sub_self]
    rfl
  refine ⟨by rw [List.length_append, M.len]; rfl, fun j e y hj he hy => ?_, fun b b' hb hb' n e => ?_⟩
  · have hys := hsh y (List.mem_of_getElem? hy)
    rw [low y.toNat (by omega)]
    by_cases c : j = i
    · subst c
      rw [hd] at he
      obtain rfl := Option.some.inj he
      rw [hx] at hy
      obtain rfl := Option.some.inj hy
      exact ⟨q, by omega, by rw [top, ho]⟩
    · obtain ⟨k, hk, e⟩ := M.c1 j e y (by omega) he hy
      exact ⟨k, by omega, by rw [low _ (by omega)]; exact e⟩
  · rw [low _ (by omega), low _ (by omega)] at e
    obtain ⟨k, hk, e⟩ := M.c2 b b' hb hb' n e
    exact ⟨k, by omega, by rw [low _ (by omega), low _ (by omega)]; exact e⟩
theorem met_glue {p ds ls : List Int} {sh i q : Nat} (hsh : ∀ x ∈ p, 0 ≤ x ∧ x < (sh : Int)) (M : Met p ds ls sh i q) {d x own two : Int} {k : Nat} (hd : ds[i]? = some d) (hx : p[d.toNat]? = some x)
    (ho : ls[x.toNat]? = some own) (hk : k < q) (ht : ls[sh + k]? = some two) (n : own ≠ two) : Met p ds (ls.map fun z => if z = two then own else z) sh (i + 1) q := by
  have mp : ∀ a, (ls.map fun z => if z = two then own else z)[a]? = (ls[a]?).map fun z => if z = two then own else z := fun a => List.getElem?_map
  have keep : ∀ a b : Nat, ls[a]? = ls[b]? → (ls.map fun z => if z = two then own else z)[a]? = (ls.map fun z => if z = two then own else z)[b]? := fun a b e => by rw [mp, mp, e]
  have tw : ∀ a : Nat, ls[a]? = some own ∨ ls[a]? = some two → (ls.map fun z => if z = two then own else z)[a]? = some own := fun a e => by
    rw [mp]
    rcases e with e | e
    · rw [e]
      show some (if own = two then own else own) = _
      rw [if_neg n]
    · rw [e]
      show some (if two = two then own else two) = _
      rw [if_pos rfl]
  refine ⟨by rw [List.length_map, M.len], fun j e y hj he hy => ?_, fun b b' hb hb' nb e => ?_⟩
  · by_cases c : j = i
    · subst c
      rw [hd] at he
      obtain rfl := Option.some.inj he
      rw [hx] at hy
      obtain rfl := Option.some.inj hy
      exact ⟨k, hk, by rw [tw _ (.inr ht), tw _ (.inl ho)]⟩
    · obtain ⟨k2, hk2, e⟩ := M.c1 j e y (by omega) he hy
      exact ⟨k2, hk2, keep _ _ e⟩
  · by_cases c : ls[b]? = ls[b']?
    · obtain ⟨k2, hk2, e2⟩ := M.c2 b b' hb hb' nb c
      exact ⟨k2, hk2, keep _ _ e2⟩
    · obtain ⟨u, hu⟩ := at_some (xs := ls) (i := b) (by rw [M.len]; omega)
      obtain ⟨v, hv⟩ := at_some (xs := ls) (i := b') (by rw [M.len]; omega)
      rw [mp, mp, hu, hv] at e
      have e : (if u = two then own else u) = (if v = two then own else v) := Option.some.inj e
      refine ⟨k, hk, ?_⟩
      rw [tw _ (.inr ht)]
      by_cases c1 : u = two
      · rw [tw b (.inr (by rw [hu, c1]))]
      · rw [if_neg c1] at e
        by_cases c2 : v = two
        · rw [if_pos c2] at e
          rw [tw b (.inl (by rw [hu, e]))]
        · rw [if_neg c2] at e
          exact absurd (by rw [hu, hv, e]) c
end KQ
namespace KQ
open PySem PySem.Spec PyProof.Rows L2 KR KM StX
theorem ints_of {vs : List V} (h : ∀ j, j < vs.length → ∃ v, vs[j]? = some (.int v)) : ∃ rs : List Int, vs = rs.map V.int := by
  induction vs with
  | nil => exact ⟨[], rfl⟩
  | cons v vs ih =>
    obtain ⟨x, hx⟩ := h 0 (by rw [List.length_cons]; omega)
    obtain rfl : v = .int x := Option.some.inj hx
    obtain ⟨rs, rfl⟩ := ih fun j hj => h (j + 1) (by rw [List.length_cons]; omega)
    exact ⟨x :: rs, rfl⟩
theorem ifs_fact {b : Bool} {t u : TS} {D : Ends} {σ : L2.St} {H : Hp} (Fact : Hp → Prop) (h1 : b = true → ∀ D : Ends, (∀ H', Fact H' → D.nx σ H') → t D σ H) (h2 : b = false → ∀ D : Ends, (∀ H', Fact H' → D.nx σ H') → u D σ H)
    (k : ∀ H', Fact H' → D.nx σ H') : if b = true then t D σ H else u D σ H := by
  cases b
  · exact h2 rfl D k
  · exact h1 rfl D k
section
variable {P : Program} {w : World} {K : PySem.W.Frag} {mg : Str → Option Value} {base : Heap}
abbrev s__law_of : Stmt := topS 33
theorem sc__law_of : FnScope ["m", "some"] ["m", "some"] (defScope s__law_of) := ⟨rfl, rfl, rfl, by decide +kernel, rfl, by decide +kernel, by decide +kernel⟩
def spOf : Sp := fun vs H Q _ => ∃ m c g b l xs, vs = [.ref m, .ref l] ∧ MS H m c g b ∧ b ≤ 1000000 ∧ H l = some (.lst (xs.map V.int)) ∧ l ≠ g ∧ xs ≠ [] ∧ xs.length ≤ 1000000 ∧
  ∀ H' x, Kept H H' m g → MS H' m c g (b + 1) → x ∈ xs → Q (.int x) H'
theorem ok_of (D : DefAt K mg "_law_of" s__law_of) (T : Bt mg) (u__law_draw : Use P w K mg base "_law_draw" 2 ["m", "limit"] spDraw) : Use P w K mg base "_law_of" 3 ["m", "some"] spOf := by
  refine use_of D (fun f fd F => F.ok sc__law_of (fun vs H Q E h => ?_) (fun cdv A outer s H vs Q E hr h => ?_)) (fun _ _ _ _ _ _ us hl => match us, hl with | [_, _], _ => rfl)
  · obtain ⟨m, c, g, b, l, xs, rfl, _⟩ := h
    rfl
  · obtain ⟨m, c, g, b, l, xs, rfl, ms, hb, el, lg, ne, hle, q⟩ := h
    refine ⟨_, (pss_one (ps_ret (pe_ix (k_ixl (K := K) rfl) (pv 1) (pe_use u__law_draw (by decide) hr (by rfl) (pa_cons (pv 0) (pa_cons (pe_callB (k_len (K := K) rfl) (by rfl) T.len PySem.boot_len (pa_cons (pv 1) pa_nil)) pa_nil))) (fun _ _ => rfl)))), ?_⟩
    have lm : l ≠ m := by
      obtain ⟨cs, gs, k, h1, h2, h3, r⟩ := ms
      intro e
      rw [e, h1] at el
      cases el
    have pos := List.length_pos_iff.mpr ne
    refine ⟨_, rfl, _, rfl, _, rfl, l, _, rfl, .inl (sqL el), m, c, g, b, _, rfl, ms, hb, ?_, ?_, fun H1 d k1 ms1 d0 d1 => ?_⟩
    · rw [List.length_map]
      omega
    · rw [List.length_map]
      omega
    rw [List.length_map] at d1
    obtain ⟨x, hx⟩ := at_some (xs := xs) (i := d.toNat) (by omega)
    exact ⟨l, _, d, .int x, rfl, rfl, sqL (k1 _ _ el lm lg), atI_of (j := d.toNat) (by omega) (at_map hx), q H1 x k1 ms1 (List.mem_of_getElem? hx)⟩
abbrev s__law_met : Stmt := topS 41
theorem sc__law_met : FnScope ["m", "parting", "many", "shift", "labels", "blocks", "left", "pieces", "at", "own", "picks", "block", "two", "label"] ["m", "parting"] (defScope s__law_met) := ⟨rfl, rfl, rfl, by decide +kernel, rfl, by decide +kernel, by decide +kernel⟩
def spMetL : Sp := fun vs H Q _ => ∃ m c g b a p, vs = [.ref m, .ref a] ∧ MS H m c g b ∧ b ≤ 100000 ∧ TI H a p ∧ Par p ∧
  ∀ H' t r, Kept H H' m g → MS H' m c g (b + 120) → TI H' t r → Par r → r.length = p.length → Q (.ref t) H'
theorem ok_met (D : DefAt K mg "_law_met" s__law_met) (T : Bt mg) (u__law_of : Use P w K mg base "_law_of" 3 ["m", "some"] spOf) (u__law_order : Use P w K mg base "_law_order" 3 ["m", "many"] spOrder)
    (u__law_numbered : Use P w K mg base "_law_numbered" 1 ["labels"] spNumL) : Use P w K mg base "_law_met" 4 ["m", "parting"] spMetL := by
  refine use_of D (fun f fd F => F.ok sc__law_met (fun vs H Q E h => ?_) (fun cdv A outer s H vs Q E hr h => ?_)) (fun _ _ _ _ _ _ us hl => match us, hl with | [_, _], _ => rfl)
  · obtain ⟨m, c, g, b, a, p, rfl, _⟩ := h
    rfl
  · obtain ⟨m, c, g, b, a, p, rfl, ms, hb, hp, par, q⟩ := h
    refine ⟨_, (pss_cons (ps_asg (pe_tup (pa_cons (pe_callB (k_len (K := K) rfl) (by rfl) T.len PySem.boot_len (pa_cons (pv 1) pa_nil)) (pa_cons (pe_op op_add (pe_callB (k_maxT (K := K) rfl rfl hr.units) (by rfl) T.max (by decide +kernel) (pa_cons (pv 1) pa_nil)) pe_int) pa_nil))) (pg_tup rfl (pgs_cons (pg_name (i := 2) sc__law_met.nd rfl (Or.inl rfl)) (pgs_cons (pg_name (i := 3) sc__law_met.nd rfl (Or.inr rfl)) pgs_nil))))
      (pss_cons (ps_asg (pe_tup (pa_cons (pe_listRg rfl (by rfl) T.list (prg_1 (by rfl) T.range (pv 3))) (pa_cons (pe_op op_rep (pe_lst (pa_cons pe_non pa_nil)) (pv 2)) pa_nil))) (pg_tup rfl (pgs_cons (pg_name (i := 4) sc__law_met.nd rfl (Or.inr rfl)) (pgs_cons (pg_name (i := 5) sc__law_met.nd rfl (Or.inl rfl)) pgs_nil))))
      (pss_cons (ps_par (i := 6) (j := 7) rfl sc__law_met.nd rfl rfl (by decide) rfl rfl (pa_cons (pv 2) (pa_cons (pv 3) pa_nil)) (by rfl))
      (pss_cons (ps_for PassesOwn.never rfl (k_list (K := K) rfl (pe_use u__law_order (by decide) hr (by rfl) (pa_cons (pv 0) (pa_cons (pv 2) pa_nil)))) (pg_name (i := 8) sc__law_met.nd rfl (Or.inl rfl))
      (pss_cons (ps_set (i := 6) sc__law_met.nd rfl (Or.inl rfl) (pe_op op_sub (pv 6) pe_int))
      (pss_cons (ps_set (i := 9) sc__law_met.nd rfl (Or.inr rfl) (pe_ix (k_ixl (K := K) rfl) (pv 4) (pe_ix (k_ixt (K := K) rfl) (pv 1) (pv 8) (fun _ _ => rfl)) (fun _ _ => rfl)))
      (pss_cons (ps_setLc (i := 10) (own := [("block", 11)]) rfl sc__law_met.nd rfl rfl (sw_true rfl rfl rfl (by decide +kernel)) (pi_range1 (by rfl) T.range (pa_cons (pe_op op_sub (pe_callB (k_len (K := K) rfl) (by rfl) T.len PySem.boot_len (pa_cons (pv 4) pa_nil)) (pv 3)) pa_nil)) (blkOk_by (N := ["m", "parting", "many", "shift", "labels", "blocks", "left", "pieces", "at", "own", "picks", "block", "two", "label"]) (sc := defScope s__law_met) (by decide +kernel)) (fun _ _ _ _ _ => (pg_name (i := 11) sc__law_met.nd rfl (Or.inl rfl))) (fun _ _ _ _ _ => (pts_one (pt_cmpR op_ne (pe_ix (k_ixl (K := K) rfl) (pv 4) (pe_op op_add (pv 3) (pv 11)) (fun _ _ => rfl)) (pv 9) (nomark _)))) (fun _ _ _ _ _ => (pv 11)))
      (pss_cons (ps_if (pt_cmpR op_ge (pv 6) (pe_op op_sub (pv 7) pe_int) (nomark _)) (pss_one (ps_expr (k_bm (K := K) rfl PySem.F.plainAttrs_list PySem.F.slot_list_append PySem.F.type_list_append mt_append (pv 10) (pa_cons (pe_op op_sub (pe_callB (k_len (K := K) rfl) (by rfl) T.len PySem.boot_len (pa_cons (pv 4) pa_nil)) (pv 3)) pa_nil)))) pss_nil)
      (pss_cons (ps_set (i := 11) sc__law_met.nd rfl (Or.inl rfl) (pe_use u__law_of (by decide) hr (by rfl) (pa_cons (pv 0) (pa_cons (pv 10) pa_nil))))
      (pss_cons (ps_asg (pv 11) (pg_sub (pv 5) (pv 8) set_list))
      (pss_one (ps_if (pt_cmpR op_eq (pe_op op_add (pv 3) (pv 11)) (pe_callB (k_len (K := K) rfl) (by rfl) T.len PySem.boot_len (pa_cons (pv 4) pa_nil)) (nomark _)) (pss_one (ps_expr (k_bm (K := K) rfl PySem.F.plainAttrs_list PySem.F.slot_list_append PySem.F.type_list_append mt_append (pv 4) (pa_cons (pv 9) pa_nil)))) (pss_cons (ps_asg (pe_tup (pa_cons (pe_ix (k_ixl (K := K) rfl) (pv 4) (pe_op op_add (pv 3) (pv 11)) (fun _ _ => rfl)) (pa_cons (pe_op op_sub (pv 7) pe_int) pa_nil))) (pg_tup rfl (pgs_cons (pg_name (i := 12) sc__law_met.nd rfl (Or.inr rfl)) (pgs_cons (pg_name (i := 7) sc__law_met.nd rfl (Or.inl rfl)) pgs_nil))))
      (pss_one (ps_set (i := 4) sc__law_met.nd rfl (Or.inr rfl) (pe_lc (own := [("label", 13)]) rfl sc__law_met.nd (k_list (K := K) rfl (pv 4)) (blkOk_by (N := ["m", "parting", "many", "shift", "labels", "blocks", "left", "pieces", "at", "own", "picks", "block", "two", "label"]) (sc := defScope s__law_met) (by decide +kernel)) (fun _ _ _ _ _ => (pg_name (i := 13) sc__law_met.nd rfl (Or.inl rfl))) (fun _ _ _ _ _ => pts_nil) (fun _ _ _ _ _ => (pe_ifExp (pt_cmpR op_eq (pv 13) (pv 12) (nomark _)) (pv 9) (pv 13))))))))))))))))
      (pss_one (ps_ret (pe_use u__law_numbered (by decide) hr (by rfl) (pa_cons (pv 5) pa_nil)))))))), ?_⟩
    have g0 := bc_ge 0 p
    have g1 := bc_le 0 p
    have g2 := par.le
    have mem := (rg_mem 0 p (Int.le_refl _) par.rg).1
    have pos := List.length_pos_iff.mpr par.ne
    refine ⟨_, rfl, a, _, rfl, .inr hp.seq, _, rfl, a, p, rfl, hp.seq, par.ne, fun mx hm hle => ⟨_, _, rfl, rfl, ?_⟩⟩
    rw [List.length_map]
    have em := par_max par hm hle
    have mx0 := mem mx hm
    refine ⟨by show 2 ≤ sizeLine; decide, fun T0 nT0 => ?_⟩
    refine ⟨T0, _, rfl, .inl (.inl upd_same), rfl, _, _, rfl, _, [], rfl, rfl, ?_⟩
    have s0 : Same H (upd H T0 (.tup [.int ((p.length : Nat) : Int), .int (mx + 1)])) := same_new nT0
    generalize upd H T0 (.tup [.int ((p.length : Nat) : Int), .int (mx + 1)]) = Ha at s0
    refine ⟨_, rfl, _, rfl, RgOk.of_le (by omega) (by omega) (by omega) (by omega), fun l nl => ?_⟩
    refine ⟨by show 1 ≤ sizeLine; decide, fun w0 nw0 => ?_⟩
    obtain ⟨sh, hsh⟩ : ∃ n : Nat, mx + 1 = (n : Int) := ⟨(mx + 1).toNat, by omega⟩
    refine ⟨_, rfl, w0, _, _, rfl, rfl, upd_same, by omega, by omega, ?_, fun bl nbl => ?_⟩
    · show 1 * _ ≤ sizeLine
      rw [Nat.one_mul]
      exact Nat.le_of_lt (small_of (by omega))
    refine ⟨by show 2 ≤ sizeLine; decide, fun T1 nT1 => ?_⟩
    refine ⟨T1, _, rfl, .inl (.inl upd_same), rfl, _, _, rfl, _, [], rfl, rfl, ?_⟩
    have rep : (List.replicate (((p.length : Nat) : Int)).toNat [V.non]).flatten = List.replicate p.length V.non := by
      rw [Int.toNat_natCast]
      induction p.length with
      | zero => rfl
      | succ n ih =>
        rw [List.replicate_succ, List.flatten_cons, ih]
        rfl
    rw [rep, hsh, rgV_hv]
    have lbl : l ≠ bl := fun e => by
      rw [← e, upd_ne (fun z => by rw [← z, upd_same] at nw0; cases nw0), upd_same] at nbl
      cases nbl
    have e1 : Same (upd Ha l (.lst (hv (List.range sh)))) (upd (upd (upd (upd Ha l (.lst (hv (List.range sh)))) w0 (.lst [.non])) bl (.lst (List.replicate p.length V.non))) T1 (.tup [.ref l, .ref bl])) := by
      rw [hsh, rgV_hv] at nw0 nbl nT1
      rw [rep] at nT1
      exact ((same_new nw0).trans (same_new nbl)).trans (same_new nT1)
    have ebl : (upd (upd (upd (upd Ha l (.lst (hv (List.range sh)))) w0 (.lst [.non])) bl (.lst (List.replicate p.length V.non))) T1 (.tup [.ref l, .ref bl])) bl = some (.lst (List.replicate p.length V.non)) := by
      rw [hsh, rgV_hv, rep] at nT1
      rw [upd_ne (ne_of_none upd_same nT1), upd_same]
    have el := e1 l _ upd_same
    have s1 : Same H (upd (upd (upd (upd Ha l (.lst (hv (List.range sh)))) w0 (.lst [.non])) bl (.lst (List.replicate p.length V.non))) T1 (.tup [.ref l, .ref bl])) := (s0.trans (same_new nl)).trans e1
    have nlH : H l = none := s0.free nl
    have nblH : H bl = none := by
      rw [hsh, rgV_hv] at nw0 nbl
      exact ((s0.trans (same_new nl)).trans (same_new nw0)).free nbl
    generalize (upd (upd (upd (upd Ha l (.lst (hv (List.range sh)))) w0 (.lst [.non])) bl (.lst (List.replicate p.length V.non))) T1 (.tup [.ref l, .ref bl])) = Hb at s1 el ebl e1
    clear e1 nT1 nbl nw0 nl s0 nT0
    have ms1 := ms.mono s1
    have ln := ms.ne nlH
    have bln := ms.ne nblH
    refine ⟨_, rfl, _, rfl, _, _, rfl, ?_⟩
    refine ⟨_, rfl, _, rfl, m, c, g, b, ((p.length : Nat) : Int), rfl, ms1, by omega, by omega, by omega, fun H2 dl ds k2 ms2 edl ndl lds nds rds => ?_⟩
    have k02 : Kept H H2 m g := (Kept.of s1).trans k2
    have el2 := k2 _ _ el ln.1 ln.2.2
    have ebl2 := k2 _ _ ebl bln.1 bln.2.2
    have dln := ms1.ne ndl
    have ndlH : H dl = none := s1.free ndl
    have ord : Ord ds p.length := ⟨by rw [lds, Int.toNat_natCast], nds, rds⟩
    have dll : dl ≠ l := fun e => by rw [e, el] at ndl; cases ndl
    have dlb : dl ≠ bl := fun e => by rw [e, ebl] at ndl; cases ndl
    refine ⟨dl, rfl, ⟨_, sqL edl⟩, for_list (K := K) (a := dl) (xs := ds.map V.int)
      (fun i σ H3 => ∃ (l : Addr) (pc lf : Int) (y8 y9 y10 y11 y12 : Option V), σ = [some (.ref m), some (.ref a), some (.int ((p.length : Nat) : Int)), some (.int (mx + 1)), some (.ref l), some (.ref bl), some (.int lf), some (.int pc), y8, y9, y10, y11, y12, none] ∧
        Kept H H3 m g ∧ MS H3 m c g (b + (p.length : Nat) + (i : Nat)) ∧ H3 dl = some (.lst (ds.map V.int)) ∧ l ≠ bl ∧ l ≠ dl ∧ H l = none ∧ ∃ ls q vs, H3 l = some (.lst (List.map V.int ls)) ∧ Met p ds ls sh i q ∧ q ≤ i ∧ ((dcount ls : Nat) : Int) = pc ∧ lf = (p.length : Nat) - (i : Nat) ∧ pc - 1 ≤ lf ∧
        H3 bl = some (.lst vs) ∧ vs.length = p.length ∧ ∀ j d, j < i → ds[j]? = some d → ∃ v, vs[d.toNat]? = some (.int v))
      ⟨l, mx + 1, ((p.length : Nat) : Int), none, none, none, none, none, rfl, k02, by simpa using ms2, edl, lbl, dll.symm, nlH, (List.range sh).map fun n => ((n : Nat) : Int), 0, List.replicate p.length V.non, ?_, ?_, Nat.le_refl _, ?_, by omega, by omega, ebl2, List.length_replicate, fun j d hj => absurd hj (Nat.not_lt_zero _)⟩
      (fun i σ H3 _ ⟨_, _, _, _, _, _, _, _, _, _, _, ed, _⟩ => sqL ed) ?_ ?_⟩
    · rw [el2]
      unfold hv
      rw [List.map_map]
      rfl
    · refine ⟨by rw [List.length_map, List.length_range]; rfl, fun j d x hj => absurd hj (Nat.not_lt_zero _), fun b b' hb hb' n e => ?_⟩
      rw [at_map (List.getElem?_range hb), at_map (List.getElem?_range hb')] at e
      have := Option.some.inj e
      omega
    · rw [dcount_range]
      omega
    · rintro i v σ H3 hi ⟨l, pc, lf, y8, y9, y10, y11, y12, rfl, k3, ms3, edl3, lbl, ldl, nlH, ls, q', vs, el3, M, qi, hpc, hlf, hle3, ebl3, lvs, hvs⟩
      obtain ⟨d, hd, rfl⟩ := map_at hi
      have hdn := ord.at_ d (List.mem_of_getElem? hd)
      have him := (List.getElem?_eq_some_iff.mp hd).1
      rw [ord.len] at him
      have shp : ∀ x ∈ p, 0 ≤ x ∧ x < (sh : Int) := fun x hx => by have := mem x hx; omega
      obtain ⟨x, hx⟩ := at_some (xs := p) (i := d.toNat) (by omega)
      have hxm := shp x (List.mem_of_getElem? hx)
      obtain ⟨own, ho⟩ := at_some (xs := ls) (i := x.toNat) (by rw [M.len]; omega)
      have hp3 := k3.ti ms hp
      have ln := ms.ne nlH
      refine ⟨_, rfl, _, _, rfl, rfl, ?_⟩
      refine ⟨_, rfl, _, rfl, _, rfl, a, _, d, .int x, rfl, rfl, hp3.seq, atI_of (j := d.toNat) (by omega) (at_map hx), l, _, x, .int own, rfl, rfl, sqL el3, atI_of (j := x.toNat) (by omega) (at_map ho), ?_⟩
      refine ⟨_, rfl, l, _, rfl, .inl (sqL el3), _, rfl, _, _, rfl, rfl, _, rfl, ?_⟩
      rw [List.length_map, M.len, show (((sh + q' : Nat)) : Int) - (mx + 1) = ((q' : Nat) : Int) by omega]
      refine ⟨by omega, by omega, fun N nN => ?_⟩
      refine lc_range (fun k H4 => Same H3 H4 ∧ ∃ pk : List Int, H4 N = some (.lst (pk.map V.int)) ∧ pk.length ≤ k ∧ (∀ z ∈ pk, ∃ k' : Nat, z = (k' : Int) ∧ k' < q' ∧ ls[sh + k']? ≠ some own) ∧ (pk = [] → ∀ k', k' < k → ls[sh + k']? = some own))
        ⟨same_new nN, [], upd_same, Nat.le_refl _, fun z hz => (by cases hz), fun _ k' hk' => absurd hk' (Nat.not_lt_zero _)⟩ ?_ ?_
      · rintro k H4 hk ⟨s4, pk, eN, lpk, hpk, hnil⟩
        rw [Int.toNat_natCast] at hk
        obtain ⟨v, hv⟩ := at_some (xs := ls) (i := sh + k) (by rw [M.len]; omega)
        refine ⟨rfl, _, rfl, _, rfl, _, rfl, _, _, rfl, rfl, l, _, mx + 1 + (0 + (k : Nat)), .int v, rfl, rfl, sqL (s4 _ _ el3), atI_of (j := sh + k) (by omega) (at_map hv), _, rfl, rfl, _, rfl, ?_⟩
        by_cases e : v = own
        · rw [decide_eq_true (congrArg V.int e)]
          refine ⟨s4, pk, eN, by omega, hpk, fun hn k' hk' => ?_⟩
          by_cases c : k' = k
          · rw [c, hv, e]
          · exact hnil hn k' (by omega)
        · rw [decide_eq_false (fun z => e (V.int.inj z))]
          refine ⟨_, rfl, _, eN, ?_, same_mut s4 nN, pk ++ [(0 + (k : Nat) : Int)], ?_, ?_, fun z hz => ?_, fun hn => ?_⟩
          · rw [List.length_map]
            exact small_of (by omega)
          · rw [upd_same, List.map_append]
            rfl
          · rw [List.length_append]
            show pk.length + 1 ≤ k + 1
            omega
          · rcases List.mem_append.mp hz with hz | hz
            · exact hpk z hz
            · rw [List.mem_singleton.mp hz]
              refine ⟨k, by omega, hk, ?_⟩
              rw [hv]
              exact fun z => e (Option.some.inj z)
          · simp at hn
      rintro H4 ⟨s4, pk, eN, lpk, hpk, hnil⟩
      rw [Int.toNat_natCast] at lpk hnil
      have Nn := (ms3.ne nN)
      have nNH : H N = none := k3.free nN Nn.1 Nn.2.2
      have el4 := s4 _ _ el3
      refine ⟨_, rfl, _, rfl, _, _, rfl, rfl, _, _, rfl, rfl, _, rfl, ?_⟩
      refine ifs_fact (fun H5 => Same H3 H5 ∧ ∃ pk : List Int, H5 N = some (.lst (pk.map V.int)) ∧ pk ≠ [] ∧ pk.length ≤ 100 ∧ ∀ z ∈ pk, (∃ k' : Nat, z = (k' : Int) ∧ k' < q' ∧ ls[sh + k']? ≠ some own) ∨ (z = ((q' : Nat) : Int) ∧ pc - 1 ≤ lf - 1)) ?_ ?_ ?_
      · intro hle D kD
        refine ⟨_, rfl, .inl ⟨rfl, _, .inl (.inl eN)⟩, _, rfl, l, _, rfl, .inl (sqL el4), _, rfl, _, _, rfl, rfl, ?_⟩
        rw [List.length_map, M.len]
        refine ⟨N, _, _, rfl, rfl, eN, ?_, kD _ ⟨same_mut s4 nN, pk ++ [((q' : Nat) : Int)], ?_, ?_, ?_, fun z hz => ?_⟩⟩
        · rw [List.length_map]
          exact small_of (by omega)
        · rw [upd_same, List.map_append]
          exact congrArg (fun t => some (HO.lst (pk.map V.int ++ [V.int t]))) (show (((sh + q' : Nat)) : Int) - (mx + 1) = ((q' : Nat) : Int) by omega)
        · simp
        · rw [List.length_append]
          show pk.length + 1 ≤ 100
          omega
        · rcases List.mem_append.mp hz with hz | hz
          · exact .inl (hpk z hz)
          · exact .inr ⟨List.mem_singleton.mp hz, of_decide_eq_true hle⟩
      · intro hle D kD
        refine kD _ ⟨s4, pk, eN, fun hn => ?_, by omega, fun z hz => .inl (hpk z hz)⟩
        have := met_some par (by omega) ord M hd hx ho (hnil hn)
        have hle := of_decide_eq_false hle
        omega
      rintro H5 ⟨s5, pk, eN, nepk, lpk, hpk⟩
      have ms5 := ms3.mono s5
      refine ⟨_, rfl, _, rfl, m, c, g, _, N, pk, rfl, ms5, by omega, eN, Nn.2.2, nepk, by omega, fun H6 z k6 ms6 hz => ?_⟩
      have k36 : Kept H H6 m g := (k3.trans (Kept.of s5)).trans k6
      have bln := ms.ne nblH
      have dln' := ms.ne ndlH
      have el6 := k6 _ _ (s5 _ _ el3) ln.1 ln.2.2
      have ebl6 := k6 _ _ (s5 _ _ ebl3) bln.1 bln.2.2
      have edl6 := k6 _ _ (s5 _ _ edl3) dln'.1 dln'.2.2
      refine ⟨_, rfl, _, rfl, _, rfl, bl, _, d, d.toNat, rfl, rfl, ebl6, by rw [lvs]; exact ixN_of hdn.1 (by omega), ?_⟩
      have el7 : (upd H6 bl (.lst (vs.set d.toNat (.int z)))) l = some (.lst (ls.map V.int)) := by rw [upd_ne lbl]; exact el6
      have ebl7 : (upd H6 bl (.lst (vs.set d.toNat (.int z)))) bl = some (.lst (vs.set d.toNat (.int z))) := upd_same
      have edl7 : (upd H6 bl (.lst (vs.set d.toNat (.int z)))) dl = some (.lst (ds.map V.int)) := by rw [upd_ne dlb]; exact edl6
      have k7 : Kept H (upd H6 bl (.lst (vs.set d.toNat (.int z)))) m g := kept_mut k36 nblH
      have ms7 : MS (upd H6 bl (.lst (vs.set d.toNat (.int z)))) m c g (b + (p.length : Nat) + (i : Nat) + 1) := ms6.put bln.1 bln.2.1 bln.2.2
      have hvs7 : ∀ j e, j < i + 1 → ds[j]? = some e → ∃ v, (vs.set d.toNat (.int z))[e.toNat]? = some (.int v) := by
        intro j e hj he
        have hen := ord.at_ e (List.mem_of_getElem? he)
        by_cases c : e = d
        · subst c
          exact ⟨z, by rw [List.getElem?_set_self (by omega)]⟩
        · rw [List.getElem?_set_ne (by omega)]
          by_cases cj : j = i
          · rw [cj, hd] at he
            exact absurd (Option.some.inj he).symm c
          · exact hvs j e (by omega) he
      have lv7 : (vs.set d.toNat (V.int z)).length = p.length := by rw [List.length_set]; exact lvs
      generalize upd H6 bl (.lst (vs.set d.toNat (.int z))) = H7 at el7 ebl7 edl7 k7 ms7
      generalize vs.set d.toNat (.int z) = vs7 at ebl7 hvs7 lv7
      refine ⟨_, rfl, _, rfl, _, _, rfl, rfl, _, rfl, l, _, rfl, .inl (sqL el7), rfl, _, rfl, ?_⟩
      rw [List.length_map, M.len]
      rcases hpk z hz with ⟨k', rfl, hk', hne⟩ | ⟨rfl, hpl⟩
      · rw [decide_eq_false (fun q => by have := V.int.inj q; omega)]
        obtain ⟨two, htwo⟩ := at_some (xs := ls) (i := sh + k') (by rw [M.len]; omega)
        have ntwo : own ≠ two := fun e => hne (by rw [htwo, e])
        refine ⟨_, rfl, _, rfl, _, rfl, _, _, rfl, rfl, l, _, mx + 1 + ((k' : Nat) : Int), .int two, rfl, rfl, sqL el7, atI_of (j := sh + k') (by omega) (at_map htwo), _, rfl, pc, 1, rfl, rfl, by show 2 ≤ sizeLine; decide, fun T2 nT2 => ?_⟩
        refine ⟨T2, _, rfl, .inl (.inl upd_same), rfl, _, _, rfl, _, [], rfl, rfl, ?_⟩
        have s8 : Same H7 (upd H7 T2 (.tup [.int two, .int (pc - 1)])) := same_new nT2
        generalize hH8 : upd H7 T2 (.tup [.int two, .int (pc - 1)]) = H8 at s8
        refine ⟨_, rfl, l, rfl, ⟨_, sqL (s8 _ _ el7)⟩, fun G nG => ?_⟩
        refine lc_list (K := K) (a := l) (xs := ls.map V.int) (fun k H9 => Same H8 H9 ∧ H9 G = some (.lst (((ls.take k).map fun z => if z = two then own else z).map V.int)))
          ⟨same_new nG, upd_same⟩ (fun k H9 _ ⟨s9, _⟩ => sqL (s9 _ _ (s8 _ _ el7))) ?_ ?_
        · rintro k v H9 hk ⟨s9, eG⟩
          obtain ⟨y, hy, rfl⟩ := map_at hk
          have kl := (List.getElem?_eq_some_iff.mp hy).1
          rw [M.len] at kl
          have small : (((ls.take k).map fun z => if z = two then own else z).map V.int).length < sizeLine := by
            rw [List.length_map, List.length_map, List.length_take]
            exact small_of (by omega)
          refine ⟨rfl, _, rfl, _, rfl, rfl, _, rfl, ?_⟩
          by_cases e2 : y = two
          · rw [decide_eq_true (congrArg V.int e2)]
            refine ⟨_, rfl, _, eG, small, same_mut s9 nG, ?_⟩
            rw [upd_same, take_snoc hy, List.map_append, List.map_append]
            show _ = some (HO.lst (_ ++ [V.int (if y = two then own else y)]))
            rw [if_pos e2]
          · rw [decide_eq_false (fun q => e2 (V.int.inj q))]
            refine ⟨_, rfl, _, eG, small, same_mut s9 nG, ?_⟩
            rw [upd_same, take_snoc hy, List.map_append, List.map_append]
            show _ = some (HO.lst (_ ++ [V.int (if y = two then own else y)]))
            rw [if_neg e2]
        · rintro H9 ⟨s9, eG⟩
          rw [List.length_map, List.take_length] at eG
          have s79 := s8.trans s9
          have nG7 : H7 G = none := s8.free nG
          have Gn := ms7.ne nG7
          refine ⟨G, pc - 1, lf - 1, _, _, _, _, _, rfl, k7.trans (Kept.of s79), ?_, s79 _ _ edl7, (fun e => by rw [e, ebl7] at nG7; cases nG7), (fun e => by rw [e, edl7] at nG7; cases nG7), k7.free nG7 Gn.1 Gn.2.2, _, q', vs7, eG,
            met_glue shp M hd hx ho hk' htwo ntwo, by omega, ?_, by omega, by omega, s79 _ _ ebl7, lv7, hvs7⟩
          · rw [show b + ((p.length : Nat) : Int) + ((i + 1 : Nat) : Int) = b + (p.length : Nat) + (i : Nat) + 1 by omega]
            exact ms7.mono s79
          · have := dcount_merge (List.mem_of_getElem? ho) (List.mem_of_getElem? htwo) ntwo
            omega
      · rw [decide_eq_true (congrArg V.int (by omega))]
        refine ⟨_, rfl, .inl ⟨rfl, _, .inl (.inl el7)⟩, _, rfl, l, _, _, rfl, rfl, el7, ?_, ?_⟩
        · rw [List.length_map, M.len]
          exact small_of (by omega)
        refine ⟨l, pc, lf - 1, _, _, _, _, _, rfl, kept_mut k7 nlH, ?_, by rw [upd_ne ldl.symm]; exact edl7, lbl, ldl, nlH, ls ++ [own], q' + 1, vs7, ?_, met_new shp M hd hx ho, by omega, ?_, by omega, ?_, by rw [upd_ne lbl.symm]; exact ebl7, lv7, hvs7⟩
        · rw [show b + ((p.length : Nat) : Int) + ((i + 1 : Nat) : Int) = b + (p.length : Nat) + (i : Nat) + 1 by omega]
          exact ms7.put ln.1 ln.2.1 ln.2.2
        · rw [upd_same, List.map_append]
          rfl
        · rw [dcount_same (ys := ls) fun x => ⟨fun h => ?_, fun h => List.mem_append_left _ h⟩]
          · exact hpc
          · rcases List.mem_append.mp h with h | h
            · exact h
            · rw [List.mem_singleton.mp h]
              exact List.mem_of_getElem? ho
        · exact hpl
    · rintro σ H3 ⟨l, pc, lf, y8, y9, y10, y11, y12, rfl, k3, ms3, edl3, lbl, ldl, nlH, ls, q', vs, el3, M, qi, hpc, hlf, hle3, ebl3, lvs, hvs⟩
      rw [List.length_map, ord.len] at hvs ms3
      obtain ⟨rs, rfl⟩ := ints_of (vs := vs) fun j hj => by
        obtain ⟨t, ht⟩ := List.mem_iff_getElem?.mp (ord.all (d := ((j : Nat) : Int)) (by omega) (by omega))
        have tl := (List.getElem?_eq_some_iff.mp ht).1
        rw [ord.len] at tl
        have := hvs t _ tl ht
        rwa [Int.toNat_natCast] at this
      rw [List.length_map] at lvs
      refine ⟨_, rfl, bl, rs, rfl, ebl3, by omega, fun H4 t s4 ht => ?_⟩
      refine q H4 t (num rs) (k3.trans (Kept.of s4)) ((ms3.mono s4).le (by omega)) ht (num_par (fun e => ?_) (by omega)) (by rw [num_len, lvs])
      rw [e] at lvs
      exact par.ne (List.length_eq_zero_iff.mp lvs.symm)
end
end KQ
namespace KQ
open PySem PySem.Spec PyProof.Rows L2 KR KM StX
theorem ifs_fact2 {b : Bool} {t u : TS} {D : Ends} {σ : L2.St} {H : Hp} (Fact : L2.St → Hp → Prop) (h1 : b = true → ∀ D : Ends, (∀ σ' H', Fact σ' H' → D.nx σ' H') → t D σ H) (h2 : b = false → ∀ D : Ends, (∀ σ' H', Fact σ' H' → D.nx σ' H') → u D σ H)
    (k : ∀ σ' H', Fact σ' H' → D.nx σ' H') : if b = true then t D σ H else u D σ H := by
  cases b
  · exact h2 rfl D k
  · exact h1 rfl D k
section
variable {P : Program} {w : World} {K : PySem.W.Frag} {mg : Str → Option Value} {base : Heap}
def spSecond : Sp := fun vs H Q _ => ∃ m c g b a p, vs = [.ref m, .ref a] ∧ MS H m c g b ∧ b ≤ 90000 ∧ TI H a p ∧ Par p ∧
  ∀ H' t r, Kept H H' m g → MS H' m c g (b + 130) → TI H' t r → Par r → r.length = p.length → Q (.ref t) H'
/-- the second one as it is being made -/
def Sec (m c g a : Addr) (b kd : Int) (n : Nat) (H : Hp) (B : Int) (σ : L2.St) (H' : Hp) : Prop := ∃ (l : Addr) (xs : List Int) (y5 y6 : Option V),
  σ = [some (.ref m), some (.ref a), some (.int kd), some (.int ((n : Nat) : Int)), some (.ref l), y5, y6, none] ∧ Kept H H' m g ∧ MS H' m c g (b + B) ∧ H' l = some (.lst (xs.map V.int)) ∧ xs.length = n ∧ H l = none
end
end KQ
/-! len(set(xs)) of whole numbers -/
namespace KR
open PySem PySem.Spec PyProof.Rows L2 KM
section
variable {X : Cx}
def tLenSetI (K : PySem.W.Frag) (ta : TE) : TE := fun σ H Q => ta σ H fun x H1 => ∃ (l : Addr) (xs : List Int), x = .ref l ∧ SqT K H1 l (xs.map V.int) ∧ xs.length ≤ 1000 ∧ Q (.int ((dcount xs : Nat) : Int)) H1
theorem pe_lenSetI {a : Expr} {ta : TE} {p p2 q pos : Pos} (hc : X.calm = true) (hg : Gl X "len") (hm : X.mg "len" = none) (hg2 : Gl X "set") (hm2 : X.mg "set" = none) (ha : PE X a ta)
    (na : starEach [a] X.env = (false, eval a X.env) :: starEach [] X.env := by rfl) : PE X (.Call (.Name "len" p) [.Call (.Name "set" p2) [a] [] q] [] pos) (tLenSetI X.K ta) := by
  refine ⟨fun pins s σ H Q I h => ?_⟩
  refine Call_ (ld_blt I hg hm boot_len ?_)
  refine PyProof.Rows.callWith_builtin1 (PyProof.Rows.args_cons ?_ rfl) rfl rfl
  refine Call_ (ld_blt I hg2 hm2 boot_set ?_)
  refine PyProof.Rows.callWith_type1 (PyProof.Rows.args_cons (thn (ha.run pins s σ H _ I h) fun v s1 ⟨x, H1, I1, r1, q1⟩ => PyProof.Rows.args_nil ?_) na) na rfl
  obtain ⟨l, xs, rfl, hq, hle, q1⟩ := q1
  cases r1
  obtain ⟨its, r, pl, hz⟩ := I1.tuple hq
  refine call_set_tupI xs (I1.ok.hd hc) pl (by simpa using r.ints) ?_ fun h' tk c R hcl hk => ?_
  · exact Nat.lt_of_le_of_lt (Nat.succ_le_succ hle) (by decide)
  refine PyProof.Rows.args_nil ?_
  obtain ⟨o, es, ep, t, ho, hex, hd, hg1, hnd, hS, hlt, hf, hn, _⟩ := R
  have I2 : Inv X pins σ H1 { s1 with heap := h', toks := tk } := I1.kept hk
  have ec : es.size = dcount xs := by
    have := same_len hnd (firsts_nodup xs) fun k => by rw [← hS k, mem_firsts, decide_eq_true_iff]
    rw [List.length_map, Array.length_toList] at this
    exact this
  refine call_len_set ho hex hd hf (by omega) ⟨.int ((dcount xs : Nat) : Int), H1, I2.tok _, ⟨_, by rw [ec]⟩, q1⟩
theorem met_nodup (val : Nat → Int) : ∀ i, (firstMet val i).Nodup
  | 0 => List.nodup_nil
  | i + 1 => by
    rw [firstMet_succ]
    unfold step_dedup
    split
    · exact met_nodup val i
    · rename_i h
      have hn : val i ∉ firstMet val i := fun hm => h (List.any_eq_true.mpr ⟨val i, hm, beq_self_eq_true _⟩)
      first
      | exact List.nodup_cons.mpr ⟨hn, met_nodup val i⟩
      | (rw [List.nodup_append]
         refine ⟨met_nodup val i, by simp, fun a ha b hb e => ?_⟩
         rw [List.mem_singleton.mp hb] at e
         exact hn (e ▸ ha))
theorem met_count (xs : List Int) : (firstMet (fun i => xs.getD i 0) xs.length).length = dcount xs := by
  refine same_len (met_nodup _ _) (firsts_nodup xs) fun k => ?_
  rw [mem_firsts]
  have h := firstMet_any (fun i => xs.getD i 0) xs.length k
  rw [show (List.range xs.length).map (fun i => xs.getD i 0) = xs from by
    refine List.ext_getElem? fun i => ?_
    by_cases hi : i < xs.length
    · rw [at_map (List.getElem?_range hi), List.getD_eq_getElem?_getD, List.getElem?_eq_getElem hi]
      rfl
    · rw [List.getElem?_eq_none (by rw [List.length_map, List.length_range]; omega), List.getElem?_eq_none (by omega)]] at h
  have e : ∀ ys : List Int, ys.any (· == k) = true ↔ k ∈ ys := fun ys => by
    rw [List.any_eq_true]
    exact ⟨fun ⟨a, ha, q⟩ => (eq_of_beq q) ▸ ha, fun hk => ⟨k, hk, beq_self_eq_true _⟩⟩
  rw [← e, h, e]
def tLenSetL (K : PySem.W.Frag) (ta : TE) : TE := fun σ H Q => ta σ H fun x H1 => ∃ (l : Addr) (xs : List Int), x = .ref l ∧ SqL K H1 l (xs.map V.int) ∧ xs.length ≤ 1000 ∧ Q (.int ((dcount xs : Nat) : Int)) H1
theorem pe_lenSetL {a : Expr} {ta : TE} {p p2 q pos : Pos} (hc : X.calm = true) (hg : Gl X "len") (hm : X.mg "len" = none) (hg2 : Gl X "set") (hm2 : X.mg "set" = none) (ha : PE X a ta)
    (na : starEach [a] X.env = (false, eval a X.env) :: starEach [] X.env := by rfl) : PE X (.Call (.Name "len" p) [.Call (.Name "set" p2) [a] [] q] [] pos) (tLenSetL X.K ta) := by
  refine ⟨fun pins s σ H Q I h => ?_⟩
  refine Call_ (ld_blt I hg hm boot_len ?_)
  refine PyProof.Rows.callWith_builtin1 (PyProof.Rows.args_cons ?_ rfl) rfl rfl
  refine Call_ (ld_blt I hg2 hm2 boot_set ?_)
  refine PyProof.Rows.callWith_type1 (PyProof.Rows.args_cons (thn (ha.run pins s σ H _ I h) fun v s1 ⟨x, H1, I1, r1, q1⟩ => PyProof.Rows.args_nil ?_) na) na rfl
  obtain ⟨l, xs, rfl, hq, hle, q1⟩ := q1
  cases r1
  obtain ⟨its, r, pl, hz⟩ := I1.list hq
  have hlen : its.toArray.size = xs.length := by
    rw [List.size_toArray, ← r.length, List.length_map]
  refine PySem.call_set_list (I1.ok.hd hc) pl.isList (by simpa using r.ints) (by rw [hlen]; exact Nat.lt_of_le_of_lt (Nat.succ_le_succ hle) (by decide)) fun h' tk R hk => ?_
  refine PyProof.Rows.args_nil ?_
  rw [hlen, met_count] at R
  obtain ⟨o, es, ep, t, ho, hex, hd, _, _, hlt, hf, hn⟩ := R
  have I2 : Inv X pins σ H1 { s1 with heap := h', toks := tk } := I1.kept fun b o e => hk b o (Heap.lt_size e) e
  have hdl : dcount xs ≤ xs.length := KQ.firsts_le xs
  refine call_len_set ho hex hd hf (by rw [hn]; omega) ⟨.int ((dcount xs : Nat) : Int), H1, I2.tok _, ⟨_, by rw [hn]⟩, q1⟩
end
end KR
namespace KQ
open PySem PySem.Spec PyProof.Rows L2 KR KM StX
section
variable {P : Program} {w : World} {K : PySem.W.Frag} {mg : Str → Option Value} {base : Heap}
theorem dcount_nodup (xs : List Int) : dcount xs = xs.length ↔ xs.Nodup := by
  constructor
  · intro h
    refine firsts_rec (P := fun xs => dcount xs = xs.length → xs.Nodup) (fun _ => List.nodup_nil) (fun xs x ih h => ?_) xs h
    have l := firsts_le xs
    unfold dcount at h ih
    rw [firsts_snoc] at h
    unfold ins at h
    rw [List.length_append] at h
    have l1 : [x].length = 1 := rfl
    split at h
    · omega
    · rename_i hx
      rw [List.length_append] at h
      rw [List.nodup_append]
      refine ⟨ih (by omega), by simp, fun a ha b hb e => ?_⟩
      rw [List.mem_singleton.mp hb] at e
      exact hx ((mem_firsts xs).mpr (e ▸ ha))
  · intro h
    exact same_len (firsts_nodup xs) h fun x => mem_firsts xs
def spLikeT (K : PySem.W.Frag) : Sp := fun vs H Q _ => ∃ (a : Addr) (xs : List Int), vs = [.ref a] ∧ SqT K H a (xs.map V.int) ∧ xs.length ≤ 1000 ∧ ∀ c, (c = true ↔ ¬ xs.Nodup) → Q (.bl c) H
def spLikeL (K : PySem.W.Frag) : Sp := fun vs H Q _ => ∃ (a : Addr) (xs : List Int), vs = [.ref a] ∧ SqL K H a (xs.map V.int) ∧ xs.length ≤ 1000 ∧ ∀ c, (c = true ↔ ¬ xs.Nodup) → Q (.bl c) H
end
end KQ
namespace KQ
open PySem PySem.Spec PyProof.Rows L2 KR KM StX
section
variable {P : Program} {w : World} {K : PySem.W.Frag} {mg : Str → Option Value} {base : Heap}
/-- the doors from the first one of ps back to where the dict says none -/
def Back (kvs : List (L2.Key × V)) : List Int → Prop
  | [] => False
  | [d] => valV kvs (kI d) = some .non
  | d :: e :: r => valV kvs (kI d) = some (.int e) ∧ Back kvs (e :: r)
def headV : List Int → V
  | [] => .non
  | d :: _ => .int d
def spBack : Sp := fun vs H Q _ => ∃ (a : Addr) (kvs : List (L2.Key × V)) (d : Int) (r : List Int), vs = [.ref a, .int d] ∧ Rd H a (.dK kvs) ∧ Back kvs (d :: r) ∧ r.length ≤ 1000 ∧
  ∀ H' l, Same H H' → H l = none → H' l = some (.lst ((d :: r).map V.int)) → Q (.ref l) H'
end
end KQ
namespace KQ
open PySem PySem.Spec PyProof.Rows L2 KR KM
/-! ### every second one -/
def ev {α : Type} : List α → List α
  | [] => []
  | [a] => [a]
  | a :: _ :: r => a :: ev r
theorem ev_cons {α : Type} (a : α) (r : List α) : ev (a :: r) = a :: ev r.tail := by
  cases r <;> rfl
theorem ev_at {α : Type} : ∀ (f : List α) (i : Nat), (ev f)[i]? = f[2 * i]?
  | [], i => by simp [ev]
  | [a], 0 => rfl
  | [a], i + 1 => by
    show ([a] : List α)[i + 1]? = [a][2 * (i + 1)]?
    rw [List.getElem?_eq_none (by simp), List.getElem?_eq_none (by simp; omega)]
  | a :: b :: r, 0 => rfl
  | a :: b :: r, i + 1 => by
    show (ev r)[i]? = _
    rw [ev_at r i, show 2 * (i + 1) = 2 * i + 1 + 1 by omega]
    rfl
theorem ev_map {α β : Type} (f : α → β) : ∀ xs : List α, ev (xs.map f) = (ev xs).map f
  | [] => rfl
  | [a] => rfl
  | a :: b :: r => by
    show f a :: ev (r.map f) = f a :: (ev r).map f
    rw [ev_map f r]
theorem ev_len {α : Type} : ∀ xs : List α, (ev xs).length ≤ xs.length
  | [] => Nat.le_refl _
  | [a] => Nat.le_refl _
  | a :: b :: r => by
    have := ev_len r
    show (ev r).length + 1 ≤ r.length + 1 + 1
    omega
/-- by twos alike -/
def Twos (f : List Int) : Prop := ev f = ev f.tail
theorem twos_at (f : List Int) : Twos f ↔ ∀ i, f[2 * i]? = f[2 * i + 1]? := by
  unfold Twos
  constructor
  · intro h i
    have := congrArg (fun l : List Int => l[i]?) h
    simp only [ev_at, List.getElem?_tail] at this
    exact this
  · intro h
    refine List.ext_getElem? fun i => ?_
    rw [ev_at, ev_at, List.getElem?_tail]
    exact h i
theorem twos_count : ∀ (f : List Int), f.length % 2 = 0 → Twos f → ∀ x, f.count x = 2 * (ev f).count x
  | [], _, _, x => rfl
  | [a], h, _, x => by simp at h
  | a :: b :: r, h, t, x => by
    have t' : (a :: ev r : List Int) = ev (b :: r) := t
    rw [ev_cons] at t'
    obtain ⟨rfl, t2⟩ := List.cons.inj t'
    have hl : r.length % 2 = 0 := by
      rw [List.length_cons, List.length_cons] at h
      omega
    have ih := twos_count r hl t2 x
    show (a :: a :: r).count x = 2 * (a :: ev r).count x
    rw [List.count_cons, List.count_cons, List.count_cons, ih]
    split <;> omega
theorem nodup_count : ∀ l : List Int, l.Nodup ↔ ∀ x ∈ l, l.count x = 1
  | [] => by simp
  | a :: l => by
    rw [List.nodup_cons, nodup_count l]
    constructor
    · rintro ⟨h1, h2⟩ x hx
      rw [List.count_cons]
      by_cases e : a = x
      · subst e
        rw [List.count_eq_zero_of_not_mem h1]
        simp
      · rcases List.mem_cons.mp hx with q | q
        · exact absurd q.symm e
        · rw [h2 x q]
          simp [e]
    · intro h
      have h1 : a ∉ l := fun hm => by
        have := h a List.mem_cons_self
        rw [List.count_cons] at this
        have p := List.count_pos_iff.mpr hm
        simp at this
        omega
      refine ⟨h1, fun x hx => ?_⟩
      have := h x (List.mem_cons_of_mem _ hx)
      rw [List.count_cons] at this
      have e : a ≠ x := fun e => h1 (e ▸ hx)
      simpa [e] using this
theorem twos_nodup {f : List Int} (hl : f.length % 2 = 0) (t : Twos f) : (∀ x ∈ f, f.count x = 2) ↔ (ev f).Nodup := by
  rw [nodup_count]
  have hm : ∀ x, x ∈ f ↔ x ∈ ev f := fun x => by
    rw [← List.count_pos_iff, ← List.count_pos_iff, twos_count f hl t x]
    omega
  constructor
  · intro h x hx
    have := h x ((hm x).mpr hx)
    rw [twos_count f hl t x] at this
    omega
  · intro h x hx
    rw [twos_count f hl t x, h x ((hm x).mp hx)]
/-! ### rings -/
def bk (p : List Int) (d : Int) : Int := p.getD d.toNat (-1)
def rot (ds : List Int) : List Int := ds.tail ++ ds.take 1
theorem rot_at {ds : List Int} (ne : ds ≠ []) (j : Nat) : (rot ds)[j]? = if j + 1 < ds.length then ds[j + 1]? else if j + 1 = ds.length then ds[0]? else none := by
  cases ds with
  | nil => exact absurd rfl ne
  | cons d t =>
    show (t ++ [d])[j]? = if j + 1 < t.length + 1 then (d :: t)[j + 1]? else if j + 1 = t.length + 1 then (d :: t)[0]? else none
    rw [List.getElem?_append]
    by_cases h : j < t.length
    · rw [if_pos h, if_pos (by omega), List.getElem?_cons_succ]
    · rw [if_neg h, if_neg (by omega)]
      by_cases e : j = t.length
      · subst e
        rw [Nat.sub_self, if_pos rfl]
        rfl
      · rw [if_neg (by omega), List.getElem?_eq_none (by simp; omega)]
theorem rot_count (ds : List Int) (f : Int → Int) (x : Int) : ((rot ds).map f).count x = (ds.map f).count x := by
  cases ds with
  | nil => rfl
  | cons d t =>
    show ((t ++ [d]).map f).count x = (f d :: t.map f).count x
    rw [List.map_append, List.count_append, List.count_cons]
    show _ + [f d].count x = _
    rw [List.count_cons]
    simp
theorem rot_len (ds : List Int) : (rot ds).length = ds.length := by
  cases ds with
  | nil => rfl
  | cons d t => simp [rot]
/-- rings as the program looks at them -/
structure IsRing (p r ds : List Int) : Prop where
  ne : ds ≠ []
  even : ds.length % 2 = 0
  rng : ∀ d ∈ ds, 0 ≤ d ∧ d < p.length
  nodup : ds.Nodup
  low : (ev (ds.map (bk p))).Nodup
  high : (ev ((rot ds).map (bk r))).Nodup
  lows : Twos (ds.map (bk p))
  highs : Twos ((rot ds).map (bk r))
/-- the next one's place -/
def nx (ds : List Int) (n : Nat) : Nat := if n + 1 < ds.length then n + 1 else 0
/-- .. and as the law does -/
structure RingR (p r ds : List Int) : Prop where
  len : 2 ≤ ds.length
  even : ds.length % 2 = 0
  rng : ∀ d ∈ ds, 0 ≤ d ∧ d < p.length
  nodup : ds.Nodup
  step : ∀ n x y, ds[n]? = some x → ds[nx ds n]? = some y → bk (if n % 2 = 0 then p else r) x = bk (if n % 2 = 0 then p else r) y
  low : ∀ d ∈ ds, (ds.map (bk p)).count (bk p d) = 2
  high : ∀ d ∈ ds, (ds.map (bk r)).count (bk r d) = 2
theorem map_all {ds : List Int} {f : Int → Int} (P : Int → Prop) : (∀ x ∈ ds.map f, P x) ↔ ∀ d ∈ ds, P (f d) :=
  ⟨fun h d hd => h _ (List.mem_map_of_mem hd), fun h x hx => by
    obtain ⟨d, hd, rfl⟩ := List.mem_map.mp hx
    exact h d hd⟩
theorem ring_iff {p r ds : List Int} : IsRing p r ds ↔ RingR p r ds := by
  have twos : ds ≠ [] → ds.length % 2 = 0 → (Twos (ds.map (bk p)) ∧ Twos ((rot ds).map (bk r)) ↔ ∀ n x y, ds[n]? = some x → ds[nx ds n]? = some y → bk (if n % 2 = 0 then p else r) x = bk (if n % 2 = 0 then p else r) y) := by
    intro ne ev2
    rw [twos_at, twos_at]
    have hpos := List.length_pos_iff.mpr ne
    constructor
    · rintro ⟨h1, h2⟩ n x y hx hy
      have ln := (List.getElem?_eq_some_iff.mp hx).1
      unfold nx at hy
      by_cases e : n % 2 = 0
      · rw [if_pos e]
        rw [if_pos (by omega)] at hy
        have := h1 (n / 2)
        rw [show 2 * (n / 2) = n by omega, at_map hx, at_map hy] at this
        exact Option.some.inj this
      · rw [if_neg e]
        have := h2 (n / 2)
        have ea : (rot ds)[2 * (n / 2)]? = some x := by
          rw [rot_at ne, show 2 * (n / 2) + 1 = n by omega, if_pos ln, hx]
        have eb : (rot ds)[2 * (n / 2) + 1]? = some y := by
          rw [rot_at ne, show 2 * (n / 2) + 1 + 1 = n + 1 by omega]
          by_cases e2 : n + 1 < ds.length
          · rw [if_pos e2] at hy ⊢
            exact hy
          · rw [if_neg e2] at hy ⊢
            rw [if_pos (by omega)]
            exact hy
        rw [at_map ea, at_map eb] at this
        exact Option.some.inj this
    · intro h
      refine ⟨fun i => ?_, fun i => ?_⟩
      · by_cases hi : 2 * i < ds.length
        · obtain ⟨x, hx⟩ := at_some (xs := ds) hi
          obtain ⟨y, hy⟩ := at_some (xs := ds) (i := 2 * i + 1) (by omega)
          rw [at_map hx, at_map hy]
          have := h (2 * i) x y hx (by unfold nx; rw [if_pos (by omega)]; exact hy)
          rw [if_pos (by omega)] at this
          rw [this]
        · rw [List.getElem?_eq_none (by rw [List.length_map]; omega), List.getElem?_eq_none (by rw [List.length_map]; omega)]
      · by_cases hi : 2 * i < ds.length
        · obtain ⟨x, hx⟩ := at_some (xs := ds) (i := 2 * i + 1) (by omega)
          have ea : (rot ds)[2 * i]? = some x := by
            rw [rot_at ne, if_pos (by omega), hx]
          obtain ⟨y, hy⟩ := at_some (xs := rot ds) (i := 2 * i + 1) (by rw [rot_len]; omega)
          have hy' := hy
          rw [rot_at ne] at hy'
          have hn : ds[nx ds (2 * i + 1)]? = some y := by
            unfold nx
            by_cases e2 : 2 * i + 1 + 1 < ds.length
            · rw [if_pos e2] at hy' ⊢
              exact hy'
            · rw [if_neg e2] at hy' ⊢
              rw [if_pos (by omega)] at hy'
              exact hy'
          have := h (2 * i + 1) x y hx hn
          rw [if_neg (by omega)] at this
          rw [at_map ea, at_map hy, this]
        · rw [List.getElem?_eq_none (by rw [List.length_map, rot_len]; omega), List.getElem?_eq_none (by rw [List.length_map, rot_len]; omega)]
  have counts : ∀ x, ((rot ds).map (bk r)).count x = (ds.map (bk r)).count x := rot_count ds (bk r)
  have rmem : ∀ x, x ∈ (rot ds).map (bk r) ↔ x ∈ ds.map (bk r) := fun x => by
    rw [← List.count_pos_iff, ← List.count_pos_iff, counts]
  have rl : ds.length % 2 = 0 → ((rot ds).map (bk r)).length % 2 = 0 := fun h => by
    rw [List.length_map, rot_len]
    exact h
  constructor
  · rintro ⟨ne, e, rng, nd, l, h, ls, hs⟩
    have hpos := List.length_pos_iff.mpr ne
    refine ⟨by omega, e, rng, nd, (twos ne e).mp ⟨ls, hs⟩, ?_, ?_⟩
    · exact (map_all fun x => (ds.map (bk p)).count x = 2).mp ((twos_nodup (by rw [List.length_map]; exact e) ls).mpr l)
    · have := (twos_nodup (rl e) hs).mpr h
      refine (map_all fun x => (ds.map (bk r)).count x = 2).mp fun x hx => ?_
      rw [← counts]
      exact this x ((rmem x).mpr hx)
  · rintro ⟨ln, e, rng, nd, st, l, h⟩
    have ne : ds ≠ [] := fun e => by
      rw [e] at ln
      simp at ln
    obtain ⟨ls, hs⟩ := (twos ne e).mpr st
    refine ⟨ne, e, rng, nd, (twos_nodup (by rw [List.length_map]; exact e) ls).mp ((map_all fun x => (ds.map (bk p)).count x = 2).mpr l), (twos_nodup (rl e) hs).mp fun x hx => ?_, ls, hs⟩
    rw [counts]
    exact (map_all fun x => (ds.map (bk r)).count x = 2).mpr h x ((rmem x).mp hx)
end KQ
namespace KQ
open PySem PySem.Spec PyProof.Rows L2 KR KM
/-! ### doors found ahead of one another -/
structure Ent where
  d : Int
  s : Int
  par : Int
  q : Nat
def kvsOf (st : Int) (E : List Ent) : List (L2.Key × V) := (kI st, V.non) :: E.map fun e => (kI e.d, V.int e.par)
def Qu (B : List Int) (st : Int) (E : List Ent) : List (Int × Int) := B.map (fun b => (b, st)) ++ E.map fun e => (1 - e.s, e.d)
def prt (p r : List Int) (s : Int) : List Int := if s = 0 then p else r
structure Bfs (p r B : List Int) (st : Int) (N : Nat) (E : List Ent) : Prop where
  keys : (st :: E.map Ent.d).Nodup
  rng : ∀ e ∈ E, 0 ≤ e.d ∧ e.d < N
  par : ∀ k e, E[k]? = some e → e.q < B.length + k ∧ (Qu B st E)[e.q]? = some (e.s, e.par) ∧ bk (prt p r e.s) e.d = bk (prt p r e.s) e.par
  apart : ∀ e ∈ E, ∀ j w x, j < e.q → (Qu B st E)[j]? = some (w, x) → bk (prt p r w) e.d ≠ bk (prt p r w) x
/-- all doors up to n in the block of what stands at j in the row are found -/
def FullTo (p r B : List Int) (st : Int) (E : List Ent) (j n : Nat) : Prop := ∀ w x, (Qu B st E)[j]? = some (w, x) → ∀ d : Int, 0 ≤ d → d < n → bk (prt p r w) d = bk (prt p r w) x → d ∈ st :: E.map Ent.d
theorem qu_len (B : List Int) (st : Int) (E : List Ent) : (Qu B st E).length = B.length + E.length := by
  unfold Qu
  rw [List.length_append, List.length_map, List.length_map]
theorem qu_snoc (B : List Int) (st : Int) (E : List Ent) (e : Ent) : Qu B st (E ++ [e]) = Qu B st E ++ [(1 - e.s, e.d)] := by
  unfold Qu
  rw [List.map_append, ← List.append_assoc]
  rfl
theorem qu_keep {B : List Int} {st : Int} {E : List Ent} {j : Nat} (e : Ent) (h : j < (Qu B st E).length) : (Qu B st (E ++ [e]))[j]? = (Qu B st E)[j]? := by
  rw [qu_snoc, List.getElem?_append_left h]
theorem full_keep {p r B : List Int} {st : Int} {E : List Ent} {j n : Nat} (e : Ent) (h : j < (Qu B st E).length) (f : FullTo p r B st E j n) : FullTo p r B st (E ++ [e]) j n := by
  intro w x hq d d0 d1 hb
  rw [qu_keep e h] at hq
  have := f w x hq d d0 d1 hb
  rw [List.map_append, ← List.cons_append]
  exact List.mem_append_left _ this
theorem bfs_add {p r B : List Int} {st : Int} {N : Nat} {E : List Ent} (h : Bfs p r B st N E) {a : Nat} {w x d : Int} (full : ∀ j, j < a → FullTo p r B st E j N)
    (hq : (Qu B st E)[a]? = some (w, x)) (d0 : 0 ≤ d) (d1 : d < N) (nd : d ∉ st :: E.map Ent.d) (hb : bk (prt p r w) d = bk (prt p r w) x) : Bfs p r B st N (E ++ [⟨d, w, x, a⟩]) := by
  have ha := (List.getElem?_eq_some_iff.mp hq).1
  have hal := ha
  rw [qu_len] at hal
  refine ⟨?_, fun e he => ?_, fun k e hk => ?_, fun e he j w' x' hj hq' => ?_⟩
  · rw [List.map_append, ← List.cons_append, List.nodup_append]
    exact ⟨h.keys, by simp, fun u hu v hv e => nd (by rw [List.map_cons, List.map_nil, List.mem_singleton] at hv; exact (e.trans hv : u = d) ▸ hu)⟩
  · rcases List.mem_append.mp he with he | he
    · exact h.rng e he
    · rw [List.mem_singleton.mp he]
      exact ⟨d0, d1⟩
  · by_cases hkl : k < E.length
    · rw [List.getElem?_append_left hkl] at hk
      obtain ⟨h1, h2, h3⟩ := h.par k e hk
      refine ⟨h1, ?_, h3⟩
      rw [qu_keep _ (List.getElem?_eq_some_iff.mp h2).1]
      exact h2
    · have hk2 := (List.getElem?_eq_some_iff.mp hk).1
      rw [List.length_append, List.length_singleton] at hk2
      have : k = E.length := by omega
      subst this
      rw [List.getElem?_append_right (Nat.le_refl _), Nat.sub_self] at hk
      obtain rfl := Option.some.inj hk
      exact ⟨hal, by rw [qu_keep _ ha]; exact hq, hb⟩
  · rcases List.mem_append.mp he with he | he
    · obtain ⟨k, hk⟩ := List.mem_iff_getElem?.mp he
      have := (h.par k e hk).1
      have hk2 := (List.getElem?_eq_some_iff.mp hk).1
      have hjl : j < (Qu B st E).length := by
        rw [qu_len]
        omega
      rw [qu_keep _ hjl] at hq'
      exact h.apart e he j w' x' hj hq'
    · rw [List.mem_singleton.mp he] at hj ⊢
      have hj' : j < a := hj
      rw [qu_keep _ (by omega)] at hq'
      exact fun e => nd (full j hj' w' x' hq' d d0 d1 e)
theorem full_next {p r B : List Int} {st : Int} {E : List Ent} {a n : Nat} (f : FullTo p r B st E a n) (hn : ∀ w x, (Qu B st E)[a]? = some (w, x) → bk (prt p r w) (n : Int) = bk (prt p r w) x → ((n : Nat) : Int) ∈ st :: E.map Ent.d) :
    FullTo p r B st E a (n + 1) := by
  intro w x hq d d0 d1 hb
  by_cases e : d = n
  · subst e
    exact hn w x hq hb
  · exact f w x hq d d0 (by omega) hb
theorem bfs_len {p r B : List Int} {st : Int} {N : Nat} {E : List Ent} (h : Bfs p r B st N E) : E.length ≤ N := by
  have := sub_len (xs := E.map Ent.d) (ys := (List.range N).map fun n => ((n : Nat) : Int)) (List.nodup_cons.mp h.keys).2 fun x hx => by
    obtain ⟨e, he, rfl⟩ := List.mem_map.mp hx
    obtain ⟨h0, h1⟩ := h.rng e he
    exact List.mem_map.mpr ⟨e.d.toNat, List.mem_range.mpr (by omega), by omega⟩
  rw [List.length_map, List.length_map, List.length_range] at this
  exact this
/-- the row's places, from the first one on, each found by the one before it -/
inductive Path (b : Nat) (E : List Ent) : List Nat → Prop
  | base {j : Nat} : j < b → Path b E [j]
  | step {k : Nat} {e : Ent} {ks : List Nat} : E[k]? = some e → Path b E ks → ks.getLast? = some e.q → Path b E (ks ++ [b + k])
theorem path_ex {p r B : List Int} {st : Int} {N : Nat} {E : List Ent} (h : Bfs p r B st N E) : ∀ n j : Nat, j < n → j < (Qu B st E).length → ∃ ks, Path B.length E ks ∧ ks.getLast? = some j := by
  intro n
  induction n with
  | zero => exact fun j hj => absurd hj (Nat.not_lt_zero _)
  | succ n ih =>
    intro j hj hl
    by_cases hb : j < B.length
    · exact ⟨[j], .base hb, rfl⟩
    · rw [qu_len] at hl
      obtain ⟨e, he⟩ := at_some (xs := E) (i := j - B.length) (by omega)
      obtain ⟨h1, h2, _⟩ := h.par _ e he
      obtain ⟨ks, hks, hlast⟩ := ih e.q (by omega) (List.getElem?_eq_some_iff.mp h2).1
      refine ⟨ks ++ [B.length + (j - B.length)], .step he hks hlast, ?_⟩
      rw [List.getLast?_concat]
      congr 1
      omega
def dr (B : List Int) (st : Int) (E : List Ent) (j : Nat) : Int := ((Qu B st E)[j]?.getD (0, 0)).2
def fl (B : List Int) (st : Int) (E : List Ent) (j : Nat) : Int := ((Qu B st E)[j]?.getD (0, 0)).1
section
variable {p r B : List Int} {st : Int} {N : Nat} {E : List Ent}
theorem qu_at {j : Nat} {w x : Int} (h : (Qu B st E)[j]? = some (w, x)) : dr B st E j = x ∧ fl B st E j = w := by
  unfold dr fl
  rw [h]
  exact ⟨rfl, rfl⟩
theorem qu_ent {k : Nat} {e : Ent} (h : E[k]? = some e) : (Qu B st E)[B.length + k]? = some (1 - e.s, e.d) := by
  unfold Qu
  rw [List.getElem?_append_right (by rw [List.length_map]; omega), List.length_map, Nat.add_sub_cancel_left, at_map (f := fun e : Ent => (1 - e.s, e.d)) h]
theorem qu_base {j : Nat} (h : j < B.length) : ∃ b, B[j]? = some b ∧ (Qu B st E)[j]? = some (b, st) := by
  obtain ⟨b, hb⟩ := at_some h
  refine ⟨b, hb, ?_⟩
  unfold Qu
  rw [List.getElem?_append_left (by rw [List.length_map]; exact h), at_map (f := fun b : Int => (b, st)) hb]
theorem path_ne {b : Nat} {ks : List Nat} (h : Path b E ks) : ks ≠ [] := by
  cases h with
  | base => simp
  | step => simp
theorem last_at {α : Type} {ks : List α} {x : α} (h : ks.getLast? = some x) : ks ≠ [] ∧ ks[ks.length - 1]? = some x := by
  rw [List.getLast?_eq_getElem?] at h
  refine ⟨fun e => by rw [e] at h; simp at h, h⟩
/-- what holds of two that stand one behind the other -/
structure Next (p r B : List Int) (st : Int) (E : List Ent) (ks : List Nat) (i x y : Nat) : Prop where
  lt : x < y
  turn : fl B st E y = 1 - fl B st E x
  blk : bk (prt p r (fl B st E x)) (dr B st E y) = bk (prt p r (fl B st E x)) (dr B st E x)
  far : ∀ j z, j < i → ks[j]? = some z → bk (prt p r (fl B st E z)) (dr B st E y) ≠ bk (prt p r (fl B st E z)) (dr B st E z)
theorem path_next (h : Bfs p r B st N E) : ∀ {ks : List Nat}, Path B.length E ks → (∀ (i j x y : Nat), i < j → ks[i]? = some x → ks[j]? = some y → x < y) ∧ (∀ x ∈ ks, x < (Qu B st E).length) ∧ ∀ i x y, ks[i]? = some x → ks[i + 1]? = some y → Next p r B st E ks i x y := by
  intro ks hp
  induction hp with
  | base hj =>
    refine ⟨fun i j x y hij hi hj' => ?_, fun x hx => ?_, fun i x y hi hi1 => ?_⟩
    · have := (List.getElem?_eq_some_iff.mp hj').1
      rw [List.length_singleton] at this
      omega
    · rw [List.mem_singleton.mp hx, qu_len]
      omega
    · have := (List.getElem?_eq_some_iff.mp hi1).1
      rw [List.length_singleton] at this
      omega
  | @step k e ks he hks hlast ih =>
    obtain ⟨up, bd, nxt⟩ := ih
    obtain ⟨ne, hl⟩ := last_at hlast
    have hpos := List.length_pos_iff.mpr ne
    obtain ⟨h1, h2, h3⟩ := h.par k e he
    have hk := (List.getElem?_eq_some_iff.mp he).1
    obtain ⟨q1, q2⟩ := qu_at h2
    obtain ⟨q3, q4⟩ := qu_at (qu_ent (B := B) (st := st) he)
    have old : ∀ i x, (ks ++ [B.length + k])[i]? = some x → (i < ks.length ∧ ks[i]? = some x) ∨ (i = ks.length ∧ x = B.length + k) := by
      intro i x hi
      by_cases hil : i < ks.length
      · rw [List.getElem?_append_left hil] at hi
        exact .inl ⟨hil, hi⟩
      · have := (List.getElem?_eq_some_iff.mp hi).1
        rw [List.length_append, List.length_singleton] at this
        have e2 : i = ks.length := by omega
        subst e2
        rw [List.getElem?_append_right (Nat.le_refl _), Nat.sub_self] at hi
        exact .inr ⟨rfl, (Option.some.inj hi).symm⟩
    have lt_last : ∀ i x, ks[i]? = some x → x ≤ e.q := fun i x hi => by
      have := (List.getElem?_eq_some_iff.mp hi).1
      by_cases e2 : i = ks.length - 1
      · rw [e2, hl] at hi
        obtain rfl := Option.some.inj hi
        exact Nat.le_refl _
      · exact Nat.le_of_lt (up i (ks.length - 1) x e.q (by omega) hi hl)
    refine ⟨fun i j x y hij hi hj => ?_, fun x hx => ?_, fun i x y hi hi1 => ?_⟩
    · rcases old j y hj with ⟨jl, hj⟩ | ⟨rfl, rfl⟩
      · rcases old i x hi with ⟨il, hi⟩ | ⟨rfl, rfl⟩
        · exact up i j x y hij hi hj
        · omega
      · rcases old i x hi with ⟨il, hi⟩ | ⟨rfl, rfl⟩
        · have := lt_last i x hi
          omega
        · omega
    · rcases List.mem_append.mp hx with hx | hx
      · exact bd x hx
      · rw [List.mem_singleton.mp hx, qu_len]
        omega
    · rcases old (i + 1) y hi1 with ⟨jl, hj⟩ | ⟨e2, rfl⟩
      · rcases old i x hi with ⟨il, hi'⟩ | ⟨rfl, rfl⟩
        · obtain ⟨a, b, c, d⟩ := nxt i x y hi' hj
          exact ⟨a, b, c, fun j z hji hz => by
            rcases old j z hz with ⟨zl, hz⟩ | ⟨rfl, rfl⟩
            · exact d j z hji hz
            · omega⟩
        · omega
      · rcases old i x hi with ⟨il, hi'⟩ | ⟨rfl, rfl⟩
        · have ei : i = ks.length - 1 := by omega
          rw [ei, hl] at hi'
          obtain rfl := Option.some.inj hi'
          refine ⟨h1, ?_, ?_, fun j z hji hz => ?_⟩
          · rw [q4, q2]
          · rw [q2, q3, q1]
            exact h3
          · rcases old j z hz with ⟨zl, hz⟩ | ⟨rfl, rfl⟩
            · have zlt : z < e.q := up j (ks.length - 1) z e.q (by omega) hz hl
              rw [q3]
              have hzl : z < (Qu B st E).length := bd z (List.mem_of_getElem? hz)
              obtain ⟨⟨w', x'⟩, hz2⟩ := at_some hzl
              obtain ⟨r1, r2⟩ := qu_at hz2
              rw [r1, r2]
              exact h.apart e (List.mem_of_getElem? he) z w' x' zlt hz2
            · omega
        · omega
theorem val_start : valV (kvsOf st E) (kI st) = some .non := by
  unfold kvsOf valV
  simp
theorem val_ent (h : (st :: E.map Ent.d).Nodup) {k : Nat} {e : Ent} (he : E[k]? = some e) : valV (kvsOf st E) (kI e.d) = some (.int e.par) := by
  have hm := List.mem_of_getElem? he
  unfold kvsOf valV
  have hs : st ≠ e.d := fun q => (List.nodup_cons.mp h).1 (q ▸ List.mem_map_of_mem hm)
  have hn := (List.nodup_cons.mp h).2
  have go : ∀ E : List Ent, (E.map Ent.d).Nodup → e ∈ E → ((E.map fun e => (kI e.d, V.int e.par)).find? fun kv => decide (kv.1 = kI e.d)) = some (kI e.d, V.int e.par) := by
    intro E
    induction E with
    | nil => exact fun _ hm => absurd hm (by simp)
    | cons f E ih =>
      intro hn hm
      rw [List.map_cons, List.nodup_cons] at hn
      rw [List.map_cons, List.find?_cons]
      rcases List.mem_cons.mp hm with q | q
      · subst q
        simp
      · have hne : f.d ≠ e.d := fun z => hn.1 (z ▸ List.mem_map_of_mem q)
        have : decide ((kI f.d, V.int f.par).1 = kI e.d) = false := decide_eq_false fun z => hne (kI_inj _ _ z)
        rw [this]
        exact ih hn.2 q
  rw [List.find?_cons]
  have : decide ((kI st, V.non).1 = kI e.d) = false := decide_eq_false fun z => hs (kI_inj _ _ z)
  rw [this]
  rw [go E hn hm]
  rfl
theorem path_back (h : Bfs p r B st N E) {ks : List Nat} (hp : Path B.length E ks) : Back (kvsOf st E) (ks.map (dr B st E)).reverse := by
  induction hp with
  | base hj =>
    obtain ⟨b, _, hq⟩ := qu_base (st := st) (E := E) hj
    show valV (kvsOf st E) (kI (dr B st E _)) = some .non
    rw [(qu_at hq).1]
    exact val_start
  | @step k e ks he hks hlast ih =>
    obtain ⟨ne, hl⟩ := last_at hlast
    obtain ⟨h1, h2, h3⟩ := h.par k e he
    rw [List.map_append, List.reverse_append]
    show Back (kvsOf st E) (dr B st E (B.length + k) :: (ks.map (dr B st E)).reverse)
    have hc : (ks.map (dr B st E)).reverse = e.par :: (ks.map (dr B st E)).reverse.tail := by
      have : (ks.map (dr B st E)).reverse.head? = some e.par := by
        rw [List.head?_reverse, List.getLast?_map, hlast]
        show some (dr B st E e.q) = _
        rw [(qu_at h2).1]
      cases hh : (ks.map (dr B st E)).reverse with
      | nil => rw [hh] at this; cases this
      | cons a t =>
        rw [hh] at this
        obtain rfl := Option.some.inj this
        rfl
    rw [hc] at ih ⊢
    rw [(qu_at (qu_ent he)).1]
    exact ⟨val_ent h.keys he, ih⟩
end
end KQ
namespace KQ
open PySem PySem.Spec PyProof.Rows L2 KR KM
theorem glue_fold {S : Nat → Prop} : ∀ (ts : List (Nat × Nat)) (R : Nat → Nat → Prop), (∀ x y, R x y → (S x ↔ S y)) → (∀ t ∈ ts, S t.1 ↔ S t.2) → ∀ x y, ts.foldl (fun R t => J R t.1 t.2) R x y → (S x ↔ S y)
  | [], R, h, _, x, y, q => h x y q
  | t :: ts, R, h, ht, x, y, q => by
    refine glue_fold ts (J R t.1 t.2) (fun a b hab => ?_) (fun u hu => ht u (List.mem_cons_of_mem _ hu)) x y q
    have t0 := ht t List.mem_cons_self
    rcases hab with q | ⟨q1, q2⟩ | ⟨q1, q2⟩
    · exact h _ _ q
    · exact (h _ _ q1).trans (t0.trans (h _ _ q2))
    · exact (h _ _ q1).trans (t0.symm.trans (h _ _ q2))
theorem glue_keep {S : Nat → Prop} {ts : List (Nat × Nat)} (h : ∀ t ∈ ts, S t.1 ↔ S t.2) {x y : Nat} (g : glue ts x y) : S x ↔ S y :=
  glue_fold ts Eq (fun _ _ e => by rw [e]) h x y g
section
variable {p r : List Int} {st : Int} {N : Nat} {E : List Ent}
theorem bk_at {p : List Int} {d : Int} {x : Int} (h : p[d.toNat]? = some x) : bk p d = x := by
  unfold bk
  rw [List.getD_eq_getElem?_getD, h]
  rfl
theorem bk_some {p : List Int} {d : Int} (d0 : 0 ≤ d) (d1 : d < p.length) : p[d.toNat]? = some (bk p d) := by
  obtain ⟨x, hx⟩ := at_some (xs := p) (i := d.toNat) (by omega)
  rw [hx, bk_at hx]
theorem bk_rng (par : Par p) {d : Int} (d0 : 0 ≤ d) (d1 : d < p.length) : 0 ≤ bk p d ∧ bk p d < bc 0 p :=
  (rg_mem 0 p (Int.le_refl _) par.rg).1 _ (List.mem_of_getElem? (bk_some d0 d1))
theorem mem_keys {d : Int} : d ∈ st :: E.map Ent.d ↔ d = st ∨ ∃ e ∈ E, e.d = d := by
  rw [List.mem_cons, List.mem_map]
/-- where nothing found has the first door's block of the other one, it closes no ring -/
theorem no_ring_at (par : Par p) (parr : Par r) (hl : p.length = r.length) (s0 : 0 ≤ st) (s1 : st < p.length) (hN : (N : Int) = st) (h : Bfs p r [0] st N E) (full : ∀ j, j < (Qu [0] st E).length → FullTo p r [0] st E j N)
    (no : ∀ e ∈ E, bk r e.d ≠ bk r st) : ¬ RingAt p r st.toNat := by
  rintro ⟨x, y, hx, hy, hg⟩
  have ex := bk_at hx
  have ey := bk_at hy
  have px := bk_rng par s0 s1
  have py := bk_rng parr s0 (by omega)
  have g := glue_keep (S := fun u => (∃ d, d ∈ st :: E.map Ent.d ∧ u = (bk p d).toNat) ∨ ∃ e ∈ E, u = (bc 0 p + bk r e.d).toNat) ?_ hg
  · rcases g.mp (.inl ⟨st, List.mem_cons_self, by rw [ex]⟩) with ⟨d, hd, ed⟩ | ⟨e, he, eq⟩
    · have dr : 0 ≤ d ∧ d < p.length := by
        rcases mem_keys.mp hd with rfl | ⟨e, he, rfl⟩
        · exact ⟨s0, s1⟩
        · have := h.rng e he
          omega
      have := bk_rng par dr.1 dr.2
      omega
    · have := h.rng e he
      have := bk_rng parr (d := e.d) (by omega) (by omega)
      exact no e he (by omega)
  intro t ht
  obtain ⟨i, hi⟩ := List.mem_iff_getElem?.mp ht
  have il := (List.getElem?_eq_some_iff.mp hi).1
  rw [List.length_take, ties_len hl] at il
  rw [List.getElem?_take_of_lt (by omega)] at hi
  obtain ⟨u, hu⟩ := at_some (xs := p) (i := i) (by omega)
  obtain ⟨v, hv⟩ := at_some (xs := r) (i := i) (by omega)
  rw [ties_at hu hv] at hi
  obtain rfl := Option.some.inj hi
  have bu : bk p (i : Int) = u := bk_at (by rw [Int.toNat_natCast]; exact hu)
  have bv : bk r (i : Int) = v := bk_at (by rw [Int.toNat_natCast]; exact hv)
  have ru := bk_rng par (d := (i : Int)) (by omega) (by omega)
  have rv := bk_rng parr (d := (i : Int)) (by omega) (by omega)
  rw [bu] at ru
  rw [bv] at rv
  have iN : (i : Int) < N := by omega
  have all : ∀ (j : Nat) (w x : Int), (Qu [0] st E)[j]? = some (w, x) → bk (prt p r w) (i : Int) = bk (prt p r w) x → (i : Int) ∈ st :: E.map Ent.d := fun j w x hq hb =>
    full j (List.getElem?_eq_some_iff.mp hq).1 w x hq i (by omega) iN hb
  have ne_st : (i : Int) ≠ st := by omega
  have ent : (i : Int) ∈ st :: E.map Ent.d → ∃ e ∈ E, e.d = (i : Int) := fun hm => (mem_keys.mp hm).resolve_left ne_st
  have viaE : ∀ (k : Nat) (e : Ent), E[k]? = some e → ∀ w, w = 0 ∨ w = 1 → bk (prt p r w) (i : Int) = bk (prt p r w) e.d → e.s = 0 ∨ e.s = 1 → (i : Int) ∈ st :: E.map Ent.d := by
    intro k e he w hw hb hs
    obtain ⟨_, h2, h3⟩ := h.par k e he
    by_cases e1 : w = e.s
    · subst e1
      exact all _ _ _ h2 (hb.trans h3)
    · have e2 : w = 1 - e.s := by omega
      subst e2
      exact all _ _ _ (qu_ent he) hb
  have sides : ∀ (n k : Nat) (e : Ent), k < n → E[k]? = some e → e.s = 0 ∨ e.s = 1 := by
    intro n
    induction n with
    | zero => exact fun k e hk => absurd hk (Nat.not_lt_zero _)
    | succ n ih =>
      intro k e hk he
      obtain ⟨h1, h2, _⟩ := h.par k e he
      by_cases e0 : e.q < ([0] : List Int).length
      · obtain ⟨b, hb, hq⟩ := qu_base (st := st) (E := E) e0
        rw [hq] at h2
        have : b = e.s := (Prod.mk.inj (Option.some.inj h2)).1
        have q0 : e.q = 0 := by simpa using e0
        rw [q0] at hb
        exact .inl (this ▸ (Option.some.inj hb).symm)
      · have hql : e.q < (Qu [0] st E).length := (List.getElem?_eq_some_iff.mp h2).1
        rw [qu_len] at hql
        obtain ⟨e', he'⟩ := at_some (xs := E) (i := e.q - 1) (by simp at hql e0; omega)
        have := qu_ent (B := [0]) (st := st) he'
        rw [show ([0] : List Int).length + (e.q - 1) = e.q by simp at e0 ⊢; omega, h2] at this
        have hs : e.s = 1 - e'.s := (Prod.mk.inj (Option.some.inj this)).1
        have := ih (e.q - 1) e' (by simp at h1 e0; omega) he'
        omega
  show ((∃ d, d ∈ st :: E.map Ent.d ∧ u.toNat = (bk p d).toNat) ∨ ∃ e ∈ E, u.toNat = (bc 0 p + bk r e.d).toNat) ↔ ((∃ d, d ∈ st :: E.map Ent.d ∧ (bc 0 p + v).toNat = (bk p d).toNat) ∨ ∃ e ∈ E, (bc 0 p + v).toNat = (bc 0 p + bk r e.d).toNat)
  have drng : ∀ d, d ∈ st :: E.map Ent.d → 0 ≤ d ∧ d < p.length := fun d hd => by
    rcases mem_keys.mp hd with rfl | ⟨e, he, rfl⟩
    · exact ⟨s0, s1⟩
    · have := h.rng e he
      omega
  constructor
  · rintro (⟨d, hd, ed⟩ | ⟨e, he, eq⟩)
    · have := drng d hd
      have := bk_rng par this.1 this.2
      have eb : bk p (i : Int) = bk p d := by omega
      have im : (i : Int) ∈ st :: E.map Ent.d := by
        rcases mem_keys.mp hd with rfl | ⟨e, he, rfl⟩
        · refine all 0 0 d (by rfl) ?_
          exact eb
        · obtain ⟨k, hk⟩ := List.mem_iff_getElem?.mp he
          exact viaE k e hk 0 (.inl rfl) eb (sides (k + 1) k e (Nat.lt_succ_self _) hk)
      obtain ⟨e, he, ed⟩ := ent im
      exact .inr ⟨e, he, by rw [ed, bv]⟩
    · have := h.rng e he
      have := bk_rng parr (d := e.d) (by omega) (by omega)
      omega
  · rintro (⟨d, hd, ed⟩ | ⟨e, he, eq⟩)
    · have := drng d hd
      have := bk_rng par this.1 this.2
      omega
    · have := h.rng e he
      have := bk_rng parr (d := e.d) (by omega) (by omega)
      have eb : bk r (i : Int) = bk r e.d := by omega
      obtain ⟨k, hk⟩ := List.mem_iff_getElem?.mp he
      have im := viaE k e hk 1 (.inr rfl) eb (sides (k + 1) k e (Nat.lt_succ_self _) hk)
      exact .inl ⟨i, im, by rw [bu]⟩
theorem side01 (h : Bfs p r [0] st N E) : ∀ (n k : Nat) (e : Ent), k < n → E[k]? = some e → e.s = 0 ∨ e.s = 1 := by
  intro n
  induction n with
  | zero => exact fun k e hk => absurd hk (Nat.not_lt_zero _)
  | succ n ih =>
    intro k e hk he
    obtain ⟨h1, h2, _⟩ := h.par k e he
    by_cases e0 : e.q < ([0] : List Int).length
    · obtain ⟨b, hb, hq⟩ := qu_base (st := st) (E := E) e0
      rw [hq] at h2
      have : b = e.s := (Prod.mk.inj (Option.some.inj h2)).1
      have q0 : e.q = 0 := by simpa using e0
      rw [q0] at hb
      exact .inl (this ▸ (Option.some.inj hb).symm)
    · have hql : e.q < (Qu [0] st E).length := (List.getElem?_eq_some_iff.mp h2).1
      rw [qu_len] at hql
      obtain ⟨e', he'⟩ := at_some (xs := E) (i := e.q - 1) (by simp at hql e0; omega)
      have := qu_ent (B := [0]) (st := st) he'
      rw [show ([0] : List Int).length + (e.q - 1) = e.q by simp at e0 ⊢; omega, h2] at this
      have hs : e.s = 1 - e'.s := (Prod.mk.inj (Option.some.inj this)).1
      have := ih (e.q - 1) e' (by simp at h1 e0; omega) he'
      omega
/-- what is found hangs together with the first door's block -/
theorem found_glue (hl : p.length = r.length) (s0 : 0 ≤ st) (s1 : st < p.length) (hN : (N : Int) = st) (h : Bfs p r [0] st N E) : ∀ (n k : Nat) (e : Ent), k < n → E[k]? = some e → glue ((tiesOf p r).take N) (bk p st).toNat (bk p e.d).toNat := by
  have tie : ∀ d : Int, 0 ≤ d → d < N → glue ((tiesOf p r).take N) (bk p d).toNat (bc 0 p + bk r d).toNat := fun d d0 d1 => by
    refine glue_mem (t := ((bk p d).toNat, (bc 0 p + bk r d).toNat)) (List.mem_of_getElem? (i := d.toNat) ?_)
    rw [List.getElem?_take_of_lt (by omega)]
    exact ties_at (bk_some d0 (by omega)) (bk_some d0 (by omega))
  have G := glue_eqv ((tiesOf p r).take N)
  intro n
  induction n with
  | zero => exact fun k e hk => absurd hk (Nat.not_lt_zero _)
  | succ n ih =>
    intro k e hk he
    obtain ⟨h1, h2, h3⟩ := h.par k e he
    have er := h.rng e (List.mem_of_getElem? he)
    have pr : e.par = st ∧ e.s = 0 ∨ ∃ e', E[e.q - 1]? = some e' ∧ e.q - 1 < n ∧ e.par = e'.d := by
      by_cases e0 : e.q < ([0] : List Int).length
      · obtain ⟨b, hb, hq⟩ := qu_base (st := st) (E := E) e0
        rw [hq] at h2
        have q0 : e.q = 0 := by simpa using e0
        rw [q0] at hb
        have q1 : b = 0 := (Option.some.inj hb).symm
        exact .inl ⟨(Prod.mk.inj (Option.some.inj h2)).2.symm, (Prod.mk.inj (Option.some.inj h2)).1 ▸ q1⟩
      · have hql : e.q < (Qu [0] st E).length := (List.getElem?_eq_some_iff.mp h2).1
        rw [qu_len] at hql
        obtain ⟨e', he'⟩ := at_some (xs := E) (i := e.q - 1) (by simp at hql e0; omega)
        have := qu_ent (B := [0]) (st := st) he'
        rw [show ([0] : List Int).length + (e.q - 1) = e.q by simp at e0 ⊢; omega, h2] at this
        exact .inr ⟨e', he', by simp at h1 e0; omega, (Prod.mk.inj (Option.some.inj this)).2⟩
    rcases pr with ⟨e1, e2⟩ | ⟨e', he', hn, e1⟩
    · rw [e1, e2] at h3
      have h3' : bk p e.d = bk p st := h3
      rw [h3']
      exact G.refl _
    · have g := ih _ e' hn he'
      have er' := h.rng e' (List.mem_of_getElem? he')
      rw [e1] at h3
      rcases side01 h (k + 1) k e (Nat.lt_succ_self _) he with e2 | e2
      · rw [e2] at h3
        have h3' : bk p e.d = bk p e'.d := h3
        rw [h3']
        exact g
      · rw [e2] at h3
        have h3' : bk r e.d = bk r e'.d := h3
        refine G.trans _ _ _ g (G.trans _ _ _ (tie e'.d er'.1 er'.2) ?_)
        rw [← h3']
        exact G.symm _ _ (tie e.d er.1 er.2)
theorem ring_at (hl : p.length = r.length) (s0 : 0 ≤ st) (s1 : st < p.length) (hN : (N : Int) = st) (h : Bfs p r [0] st N E) {e : Ent} (he : e ∈ E) (hb : bk r e.d = bk r st) : RingAt p r st.toNat := by
  obtain ⟨k, hk⟩ := List.mem_iff_getElem?.mp he
  have er := h.rng e he
  refine ⟨bk p st, bk r st, bk_some s0 s1, bk_some s0 (by omega), ?_⟩
  have g := found_glue hl s0 s1 hN h (k + 1) k e (Nat.lt_succ_self _) hk
  have G := glue_eqv ((tiesOf p r).take N)
  rw [show st.toNat = N by omega]
  refine G.trans _ _ _ g ?_
  rw [← hb]
  refine glue_mem (t := ((bk p e.d).toNat, (bc 0 p + bk r e.d).toNat)) (List.mem_of_getElem? (i := e.d.toNat) ?_)
  rw [List.getElem?_take_of_lt (by omega)]
  exact ties_at (bk_some er.1 (by omega)) (bk_some er.1 (by omega))
/-- the way to the first one found with the first door's block of the other one is a ring -/
theorem ring_of (hl : p.length = r.length) (s0 : 0 ≤ st) (s1 : st < p.length) (hN : (N : Int) = st) (h : Bfs p r [0] st N E) {k : Nat} {e : Ent} (he : E[k]? = some e) (hb : bk r e.d = bk r st)
    (first : ∀ k' e', k' < k → E[k']? = some e' → bk r e'.d ≠ bk r st) {ks : List Nat} (hp : Path 1 E ks) (hlast : ks.getLast? = some (1 + k)) :
    IsRing p r (ks.map (dr [0] st E)) ∧ (ks.map (dr [0] st E))[0]? = some st ∧ ∀ d ∈ ks.map (dr [0] st E), d ≤ st := by
  obtain ⟨up, bd, nxt⟩ := path_next (B := [0]) h hp
  obtain ⟨ne, hl1⟩ := last_at hlast
  have hpos := List.length_pos_iff.mpr ne
  have z0 : ∀ j : Nat, j < 1 → j = 0 := fun j hj => by omega
  have q0 : (Qu [0] st E)[0]? = some (0, st) := rfl
  -- the first place
  have h0 : ks[0]? = some 0 := by
    clear hlast hl1 first
    induction hp with
    | base hj => rw [z0 _ hj]; rfl
    | @step k e ks he hks hl2 ih =>
      obtain ⟨ne2, _⟩ := last_at hl2
      obtain ⟨a, b, c⟩ := path_next (B := [0]) h hks
      rw [List.getElem?_append_left (List.length_pos_iff.mpr ne2)]
      exact ih a b c ne2 (List.length_pos_iff.mpr ne2)
  have flag : ∀ (i x : Nat), ks[i]? = some x → fl [0] st E x = ((i % 2 : Nat) : Int) := by
    intro i
    induction i with
    | zero =>
      intro x hx
      rw [h0] at hx
      obtain rfl := Option.some.inj hx
      rfl
    | succ i ih =>
      intro y hy
      obtain ⟨x, hx⟩ := at_some (xs := ks) (i := i) (by have := (List.getElem?_eq_some_iff.mp hy).1; omega)
      have := ih x hx
      rw [(nxt i x y hx hy).turn, this]
      omega
  have place : ∀ (i x : Nat), ks[i]? = some x → (x = 0 ∧ dr [0] st E x = st) ∨ ∃ k' e', x = 1 + k' ∧ E[k']? = some e' ∧ dr [0] st E x = e'.d ∧ k' ≤ k ∧ (i + 1 < ks.length → k' < k) := by
    intro i x hx
    by_cases e0 : x = 0
    · exact .inl ⟨e0, by rw [e0]; rfl⟩
    · have hxl := bd x (List.mem_of_getElem? hx)
      rw [qu_len] at hxl
      obtain ⟨e', he'⟩ := at_some (xs := E) (i := x - 1) (by simp at hxl; omega)
      have hq := qu_ent (B := [0]) (st := st) he'
      rw [show ([0] : List Int).length + (x - 1) = x by simp; omega] at hq
      have ilt := (List.getElem?_eq_some_iff.mp hx).1
      have : x ≤ 1 + k ∧ (i + 1 < ks.length → x < 1 + k) := by
        by_cases e2 : i = ks.length - 1
        · rw [e2, hl1] at hx
          have := Option.some.inj hx
          omega
        · have := up i (ks.length - 1) x (1 + k) (by omega) hx hl1
          omega
      exact .inr ⟨x - 1, e', by omega, he', (qu_at hq).1, by omega, by omega⟩
  have qk := qu_ent (B := [0]) (st := st) he
  have dk : dr [0] st E (1 + k) = e.d := (qu_at (j := 1 + k) qk).1
  -- its number of doors is even
  have even : ks.length % 2 = 0 := by
    apply Classical.byContradiction
    intro ho
    have l2 : 2 ≤ ks.length - 1 := by
      have : ks.length ≠ 1 := fun e1 => by
        rw [e1] at hl1
        rw [show (1 - 1 : Nat) = 0 from rfl, h0] at hl1
        have := Option.some.inj hl1
        omega
      omega
    obtain ⟨x, hx⟩ := at_some (xs := ks) (i := ks.length - 2) (by omega)
    have hn := (nxt (ks.length - 2) x (1 + k) hx (by rw [show ks.length - 2 + 1 = ks.length - 1 by omega]; exact hl1)).blk
    have fx := flag _ x hx
    rw [show ((ks.length - 2) % 2) = 1 by omega] at fx
    rw [fx, dk] at hn
    have hn' : bk r e.d = bk r (dr [0] st E x) := hn
    rcases place _ x hx with ⟨rfl, _⟩ | ⟨k', e', rfl, he', d', _, lt⟩
    · have : fl [0] st E 0 = 0 := rfl
      omega
    · rw [d'] at hn'
      exact first k' e' (lt (by omega)) he' (hn'.symm.trans hb)
  have drr : ∀ d ∈ ks.map (dr [0] st E), 0 ≤ d ∧ d ≤ st := by
    intro d hd
    obtain ⟨x, hx, rfl⟩ := List.mem_map.mp hd
    obtain ⟨i, hi⟩ := List.mem_iff_getElem?.mp hx
    rcases place i x hi with ⟨_, e1⟩ | ⟨k', e', _, he', e1, _⟩
    · rw [e1]
      omega
    · rw [e1]
      have := h.rng e' (List.mem_of_getElem? he')
      omega
  have low : ∀ (i x y : Nat), i % 2 = 0 → ks[i]? = some x → ks[i + 1]? = some y → bk p (dr [0] st E y) = bk p (dr [0] st E x) := fun i x y hi hx hy => by
    have := (nxt i x y hx hy).blk
    rw [flag i x hx, hi] at this
    exact this
  have high : ∀ (i x y : Nat), i % 2 = 1 → ks[i]? = some x → ks[i + 1]? = some y → bk r (dr [0] st E y) = bk r (dr [0] st E x) := fun i x y hi hx hy => by
    have := (nxt i x y hx hy).blk
    rw [flag i x hx, hi] at this
    exact this
  have mapd : ∀ {i x : Nat}, ks[i]? = some x → (ks.map (dr [0] st E))[i]? = some (dr [0] st E x) := fun hx => at_map hx
  have ml : (ks.map (dr [0] st E)).length = ks.length := List.length_map ..
  have mne : ks.map (dr [0] st E) ≠ [] := by
    intro e1
    rw [e1] at ml
    simp at ml
    omega
  have pw : ∀ {l : List Int}, (∀ (i j : Nat) (u v : Int), i < j → l[i]? = some u → l[j]? = some v → u ≠ v) → l.Nodup := by
    intro l hh
    refine List.pairwise_iff_getElem.mpr fun i j hi hj hij => ?_
    exact hh i j _ _ hij (List.getElem?_eq_getElem hi) (List.getElem?_eq_getElem hj)
  refine ⟨⟨mne, by rw [ml]; exact even, fun d hd => ?_, ?_, ?_, ?_, ?_, ?_⟩, ?_, fun d hd => (drr d hd).2⟩
  · have := drr d hd
    omega
  · refine pw fun i j u v hij hu hv => ?_
    obtain ⟨x, hx, rfl⟩ := map_at hu
    obtain ⟨y, hy, rfl⟩ := map_at hv
    have lt := up i j x y hij hx hy
    intro e1
    have mem : ∀ (z x' : Nat), ks[x']? = some z → (st :: E.map Ent.d)[z]? = some (dr [0] st E z) := by
      intro z x' hz
      rcases place x' z hz with ⟨rfl, e2⟩ | ⟨k', e', rfl, he', e2, _⟩
      · rfl
      · rw [Nat.add_comm, List.getElem?_cons_succ, Nat.add_comm, e2]
        exact at_map (f := Ent.d) he'
    have h1 := mem x i hx
    have h2 := mem y j hy
    have l1 := (List.getElem?_eq_some_iff.mp h1)
    have l2 := (List.getElem?_eq_some_iff.mp h2)
    have := List.pairwise_iff_getElem.mp h.keys x y l1.1 l2.1 lt
    rw [l1.2, l2.2] at this
    exact this e1
  · refine pw fun i j u v hij hu hv => ?_
    rw [ev_at, List.map_map] at hu hv
    obtain ⟨x, hx, rfl⟩ := map_at hu
    obtain ⟨y, hy, rfl⟩ := map_at hv
    have jl := (List.getElem?_eq_some_iff.mp hy).1
    obtain ⟨z, hz⟩ := at_some (xs := ks) (i := 2 * j + 1) (by omega)
    have n1 := nxt (2 * j) y z hy hz
    have b1 := low (2 * j) y z (by omega) hy hz
    have f1 := n1.far (2 * i) x (by omega) hx
    rw [flag _ x hx, show 2 * i % 2 = 0 by omega] at f1
    have f1' : bk p (dr [0] st E z) ≠ bk p (dr [0] st E x) := f1
    exact fun e1 => f1' (b1.trans (Eq.symm e1))
  · refine pw fun i j u v hij hu hv => ?_
    rw [ev_at] at hu hv
    obtain ⟨x, hx, rfl⟩ := map_at hu
    obtain ⟨y, hy, rfl⟩ := map_at hv
    have jl := (List.getElem?_eq_some_iff.mp hy).1
    rw [rot_len, ml] at jl
    rw [rot_at mne, ml, if_pos (by omega)] at hx hy
    obtain ⟨x, hx', rfl⟩ := map_at hx
    obtain ⟨y, hy', rfl⟩ := map_at hy
    clear hx hy
    have hx := hx'
    have hy := hy'
    clear hx' hy'
    by_cases e1 : 2 * j + 1 + 1 < ks.length
    · obtain ⟨z, hz⟩ := at_some e1
      have n1 := nxt (2 * j + 1) y z hy hz
      have b1 := high (2 * j + 1) y z (by omega) hy hz
      have f1 := n1.far (2 * i + 1) x (by omega) hx
      rw [flag _ x hx, show (2 * i + 1) % 2 = 1 by omega] at f1
      have f1' : bk r (dr [0] st E z) ≠ bk r (dr [0] st E x) := f1
      exact fun e1 => f1' (b1.trans (Eq.symm e1))
    · have : 2 * j + 1 = ks.length - 1 := by omega
      rw [this, hl1] at hy
      obtain rfl := Option.some.inj hy
      rw [dk, hb]
      rcases place _ x hx with ⟨rfl, _⟩ | ⟨k', e', rfl, he', d', _, lt⟩
      · have := flag _ 0 hx
        rw [show (2 * i + 1) % 2 = 1 by omega] at this
        have : fl [0] st E 0 = 0 := rfl
        omega
      · rw [d']
        exact first k' e' (lt (by omega)) he'
  · rw [twos_at]
    intro i
    rw [List.map_map]
    by_cases hi : 2 * i < ks.length
    · obtain ⟨x, hx⟩ := at_some hi
      obtain ⟨y, hy⟩ := at_some (xs := ks) (i := 2 * i + 1) (by omega)
      rw [at_map hx, at_map hy]
      exact congrArg some (low (2 * i) x y (by omega) hx hy).symm
    · rw [List.getElem?_eq_none (by rw [List.length_map]; omega), List.getElem?_eq_none (by rw [List.length_map]; omega)]
  · rw [twos_at]
    intro i
    by_cases hi : 2 * i < ks.length
    · obtain ⟨x, hx⟩ := at_some (xs := ks) (i := 2 * i + 1) (by omega)
      have ea : (rot (ks.map (dr [0] st E)))[2 * i]? = some (dr [0] st E x) := by
        rw [rot_at mne, ml, if_pos (by omega), mapd hx]
      rw [at_map ea]
      by_cases e1 : 2 * i + 1 + 1 < ks.length
      · obtain ⟨y, hy⟩ := at_some e1
        have eb : (rot (ks.map (dr [0] st E)))[2 * i + 1]? = some (dr [0] st E y) := by
          rw [rot_at mne, ml, if_pos (by omega), mapd hy]
        rw [at_map eb, high (2 * i + 1) x y (by omega) hx hy]
      · have : 2 * i + 1 = ks.length - 1 := by omega
        have eb : (rot (ks.map (dr [0] st E)))[2 * i + 1]? = some st := by
          rw [rot_at mne, ml, if_neg (by omega), if_pos (by omega), mapd h0]
          rfl
        rw [this, hl1] at hx
        obtain rfl := Option.some.inj hx
        rw [at_map eb, dk, hb]
    · rw [List.getElem?_eq_none (by rw [List.length_map, rot_len, ml]; omega), List.getElem?_eq_none (by rw [List.length_map, rot_len, ml]; omega)]
  · rw [mapd h0]
    rfl
end
end KQ
namespace KQ
open PySem PySem.Spec PyProof.Rows L2 KR KM StX
theorem flag01 {p r B : List Int} {st : Int} {N : Nat} {E : List Ent} (hB : ∀ b ∈ B, b = 0 ∨ b = 1) (h : Bfs p r B st N E) : ∀ (n j : Nat) (w x : Int), j < n → (Qu B st E)[j]? = some (w, x) → (w = 0 ∨ w = 1) ∧ (x = st ∨ (0 ≤ x ∧ x < N)) := by
  intro n
  induction n with
  | zero => exact fun j w x hj => absurd hj (Nat.not_lt_zero _)
  | succ n ih =>
    intro j w x hj hq
    by_cases e0 : j < B.length
    · obtain ⟨b, hb, hq2⟩ := qu_base (st := st) (E := E) e0
      rw [hq2] at hq
      obtain ⟨rfl, rfl⟩ := Prod.mk.inj (Option.some.inj hq)
      exact ⟨hB _ (List.mem_of_getElem? hb), .inl rfl⟩
    · have hl := (List.getElem?_eq_some_iff.mp hq).1
      rw [qu_len] at hl
      obtain ⟨e, he⟩ := at_some (xs := E) (i := j - B.length) (by omega)
      have hq2 := qu_ent (B := B) (st := st) he
      rw [show B.length + (j - B.length) = j by omega, hq] at hq2
      obtain ⟨rfl, rfl⟩ := Prod.mk.inj (Option.some.inj hq2)
      obtain ⟨h1, h2, _⟩ := h.par _ e he
      have := ih e.q _ _ (by omega) h2
      have r := h.rng e (List.mem_of_getElem? he)
      exact ⟨by omega, .inr r⟩
theorem kvs_val {p r B : List Int} {st : Int} {N : Nat} {E : List Ent} (h : Bfs p r B st N E) (d : Int) : (d ∈ st :: E.map Ent.d → ∃ v, valV (kvsOf st E) (kI d) = some v) ∧ (d ∉ st :: E.map Ent.d → valV (kvsOf st E) (kI d) = none) := by
  constructor
  · intro hd
    rcases mem_keys.mp hd with rfl | ⟨e, he, rfl⟩
    · exact ⟨_, val_start⟩
    · obtain ⟨k, hk⟩ := List.mem_iff_getElem?.mp he
      exact ⟨_, val_ent h.keys hk⟩
  · intro hd
    unfold valV kvsOf
    rw [List.find?_eq_none.mpr]
    · rfl
    · intro kv hkv
      rw [decide_eq_true_eq]
      intro e
      rcases List.mem_cons.mp hkv with rfl | hm
      · exact hd (mem_keys.mpr (.inl (kI_inj _ _ e).symm))
      · obtain ⟨f, hf, rfl⟩ := List.mem_map.mp hm
        exact hd (mem_keys.mpr (.inr ⟨f, hf, kI_inj _ _ e⟩))
theorem kvs_put {st : Int} {E : List Ent} {d w x : Int} {a : Nat} (hd : d ∉ st :: E.map Ent.d) : putK (kvsOf st E) (kI d) (V.int x) = kvsOf st (E ++ [⟨d, w, x, a⟩]) := by
  have hn : ((kvsOf st E).any fun kv => decide (kv.1 = kI d)) = false := by
    rw [List.any_eq_false]
    intro kv hkv
    rw [decide_eq_true_eq]
    intro e
    rcases List.mem_cons.mp hkv with rfl | hm
    · exact hd (mem_keys.mpr (.inl (kI_inj _ _ e).symm))
    · obtain ⟨f, hf, rfl⟩ := List.mem_map.mp hm
      exact hd (mem_keys.mpr (.inr ⟨f, hf, kI_inj _ _ e⟩))
  unfold putK
  rw [hn]
  simp [kvsOf]
theorem pairs_mono {H H' : Hp} {ts : List Addr} {xs : List (Int × Int)} (h : PairsAt H ts xs) (k : ∀ c vs, H c = some (.tup vs) → H' c = some (.tup vs)) : PairsAt H' ts xs :=
  ⟨h.1, fun i t ht => by
    obtain ⟨x, hx, e⟩ := h.2 i t ht
    exact ⟨x, hx, k _ _ e⟩⟩
theorem pairs_snoc {H : Hp} {ts : List Addr} {xs : List (Int × Int)} (h : PairsAt H ts xs) {t : Addr} {x : Int × Int} (e : H t = some (.tup [.int x.1, .int x.2])) : PairsAt H (ts ++ [t]) (xs ++ [x]) := by
  refine ⟨by rw [List.length_append, List.length_append, h.1]; rfl, fun i u hu => ?_⟩
  by_cases hi : i < ts.length
  · rw [List.getElem?_append_left hi] at hu
    obtain ⟨y, hy, e2⟩ := h.2 i u hu
    exact ⟨y, by rw [List.getElem?_append_left (by rw [← h.1]; exact hi)]; exact hy, e2⟩
  · have := (List.getElem?_eq_some_iff.mp hu).1
    rw [List.length_append, List.length_singleton] at this
    have ei : i = ts.length := by omega
    subst ei
    rw [List.getElem?_append_right (Nat.le_refl _), Nat.sub_self] at hu
    obtain rfl := Option.some.inj hu
    refine ⟨x, ?_, e⟩
    rw [h.1, List.getElem?_append_right (Nat.le_refl _), Nat.sub_self]
    rfl
theorem pairs_at {H : Hp} {ts : List Addr} {xs : List (Int × Int)} (h : PairsAt H ts xs) {i : Nat} (hi : i < xs.length) : ∃ t w x, ts[i]? = some t ∧ xs[i]? = some (w, x) ∧ H t = some (.tup [.int w, .int x]) := by
  obtain ⟨t, ht⟩ := at_some (xs := ts) (i := i) (by rw [h.1]; exact hi)
  obtain ⟨⟨w, x⟩, hx, e⟩ := h.2 i t ht
  exact ⟨t, w, x, ht, hx, e⟩
section
variable {P : Program} {w : World} {K : PySem.W.Frag} {mg : Str → Option Value} {base : Heap}
def spAhead : Sp := fun vs H Q _ => ∃ (pa a b da ba : Addr) (p r B : List Int) (st : Int) (N : Nat), vs = [.ref pa, .int st, .ref da, .ref ba] ∧ H pa = some (.tup [.ref a, .ref b]) ∧ TI H a p ∧ TI H b r ∧ p.length = r.length ∧ N ≤ p.length ∧
  p.length ≤ 60 ∧ 0 ≤ st ∧ st < p.length ∧ H da = some (.lst (hv (List.range N))) ∧ TI H ba B ∧ (∀ b ∈ B, b = 0 ∨ b = 1) ∧ B.length ≤ 2 ∧
  ∀ H' t E, Same H H' → H t = none → H' t = some (.dK (kvsOf st E)) → Bfs p r B st N E → (∀ j, j < (Qu B st E).length → FullTo p r B st E j N) → Q (.ref t) H'
end
end KQ
namespace KM
open KQ
/-! ### how many there are that aren't glued, and trees -/
theorem glue_least {R : Nat → Nat → Prop} (E : Eqv R) {ts : List (Nat × Nat)} (h : ∀ t ∈ ts, R t.1 t.2) {x y : Nat} (g : glue ts x y) : R x y :=
  (glue_keep (S := fun z => R x z) (fun t ht => ⟨fun q => E.trans _ _ _ q (h t ht), fun q => E.trans _ _ _ q (E.symm _ _ (h t ht))⟩) g).mp (E.refl x)
theorem glue_sub {ts us : List (Nat × Nat)} (h : ∀ t ∈ ts, t ∈ us) {x y : Nat} (g : glue ts x y) : glue us x y := glue_least (glue_eqv us) (fun t ht => glue_mem (h t ht)) g
theorem getD_map {L : List Int} (f : Int → Int) {x : Nat} (h : x < L.length) : (L.map f).getD x 0 = f (L.getD x 0) := by
  rw [List.getD_eq_getElem?_getD, List.getD_eq_getElem?_getD, List.getElem?_map, List.getElem?_eq_getElem h]
  rfl
theorem getD_mem {L : List Int} {x : Nat} (h : x < L.length) : L.getD x 0 ∈ L := by
  rw [List.getD_eq_getElem?_getD, List.getElem?_eq_getElem h]
  exact List.getElem_mem h
theorem map_same {L : List Int} {u v : Int} (e : u = v) : (L.map fun z => if z = v then u else z) = L := by
  subst e
  induction L with
  | nil => rfl
  | cons z L ih =>
    rw [List.map_cons, ih]
    by_cases q : z = u
    · rw [if_pos q, q]
    · rw [if_neg q]
/-- no tie that the ties ahead glue -/
def NoLoop (ts : List (Nat × Nat)) : Prop := ∀ i t, ts[i]? = some t → ¬ glue (ts.take i) t.1 t.2
theorem labels_ex (M : Nat) (ts : List (Nat × Nat)) : (∀ t ∈ ts, t.1 < M ∧ t.2 < M) →
    ∃ L : List Int, L.length = M ∧ (∀ x y, x < M → y < M → (L.getD x 0 = L.getD y 0 ↔ glue ts x y)) ∧ M ≤ dcount L + ts.length ∧ (NoLoop ts ↔ dcount L + ts.length = M) := by
  refine glue_eqv.firsts_rec' (P := fun ts => (∀ t ∈ ts, t.1 < M ∧ t.2 < M) → ∃ L : List Int, L.length = M ∧ (∀ x y, x < M → y < M → (L.getD x 0 = L.getD y 0 ↔ glue ts x y)) ∧ M ≤ dcount L + ts.length ∧ (NoLoop ts ↔ dcount L + ts.length = M)) ?_ ?_ ts
  · intro _
    refine ⟨(List.range M).map fun k => ((k : Nat) : Int), by rw [List.length_map, List.length_range], fun x y hx hy => ?_, by rw [dcount_range]; exact Nat.le_add_right _ _, ?_⟩
    · have e : ∀ x, x < M → ((List.range M).map fun k => ((k : Nat) : Int)).getD x 0 = (x : Int) := fun x hx => by
        rw [List.getD_eq_getElem?_getD, List.getElem?_map, List.getElem?_range hx]
        rfl
      rw [e x hx, e y hy]
      show _ ↔ x = y
      omega
    · rw [dcount_range]
      exact ⟨fun _ => rfl, fun _ i t h => by simp at h⟩
  · intro ts t ih hb
    obtain ⟨L, hl, hg, hM, hn⟩ := ih fun u hu => hb u (List.mem_append_left _ hu)
    obtain ⟨a, b⟩ := t
    obtain ⟨ha, hbb⟩ := hb (a, b) (List.mem_append_right _ (List.mem_singleton.mpr rfl))
    have ha : a < M := ha
    have hbb : b < M := hbb
    have part : NoLoop (ts ++ [(a, b)]) ↔ NoLoop ts ∧ ¬ glue ts a b := by
      constructor
      · intro h
        refine ⟨fun i u hu => ?_, ?_⟩
        · have il := (List.getElem?_eq_some_iff.mp hu).1
          have := h i u (by rw [List.getElem?_append_left il]; exact hu)
          rwa [List.take_append_of_le_length (Nat.le_of_lt il)] at this
        · have := h ts.length (a, b) (by rw [List.getElem?_append_right (Nat.le_refl _), Nat.sub_self]; rfl)
          rwa [List.take_left'  rfl] at this
      · rintro ⟨h1, h2⟩ i u hu
        by_cases il : i < ts.length
        · rw [List.getElem?_append_left il] at hu
          rw [List.take_append_of_le_length (Nat.le_of_lt il)]
          exact h1 i u hu
        · have := (List.getElem?_eq_some_iff.mp hu).1
          rw [List.length_append, List.length_singleton] at this
          obtain rfl : i = ts.length := by omega
          rw [List.getElem?_append_right (Nat.le_refl _), Nat.sub_self] at hu
          obtain rfl := Option.some.inj hu
          rw [List.take_left' rfl]
          exact h2
    refine ⟨L.map fun z => if z = L.getD b 0 then L.getD a 0 else z, by rw [List.length_map, hl], fun x y hx hy => ?_, ?_, ?_⟩
    · rw [glue_snoc]
      exact tie_labels (L := fun x => L.getD x 0) (L' := fun x => (L.map fun z => if z = L.getD b 0 then L.getD a 0 else z).getD x 0) (S := fun x => x < M) (fun x y hx hy => hg x y hx hy) ha hbb
        (fun y hy => getD_map _ (by rw [hl]; exact hy)) x y hx hy
    all_goals rw [List.length_append, List.length_singleton]
    all_goals by_cases e : L.getD a 0 = L.getD b 0
    · rw [map_same e]
      omega
    · have := dcount_merge (xs := L) (getD_mem (by rw [hl]; exact ha)) (getD_mem (by rw [hl]; exact hbb)) e
      omega
    · rw [map_same e, part]
      exact ⟨fun h => absurd ((hg a b ha hbb).mp e) h.2, fun h => absurd h (by omega)⟩
    · have := dcount_merge (xs := L) (getD_mem (by rw [hl]; exact ha)) (getD_mem (by rw [hl]; exact hbb)) e
      rw [part, hn]
      exact ⟨fun h => by omega, fun h => ⟨by omega, fun g => e ((hg a b ha hbb).mpr g)⟩⟩
theorem one_label {L : List Int} (h0 : 0 < L.length) : dcount L = 1 ↔ ∀ x y, x < L.length → y < L.length → L.getD x 0 = L.getD y 0 := by
  constructor
  · intro h x y hx hy
    unfold dcount at h
    obtain ⟨z, hz⟩ := List.length_eq_one_iff.mp h
    have m : ∀ x, x < L.length → L.getD x 0 = z := fun x hx => by
      have := (mem_firsts L).mpr (getD_mem hx)
      rw [hz] at this
      exact List.mem_singleton.mp this
    rw [m x hx, m y hy]
  · intro h
    refine (same_len (firsts_nodup L) (ys := [L.getD 0 0]) (by simp) fun x => ?_ : (firsts L).length = _)
    rw [mem_firsts, List.mem_singleton]
    constructor
    · intro hx
      obtain ⟨i, hi, rfl⟩ := List.mem_iff_getElem.mp hx
      rw [← h i 0 hi h0, List.getD_eq_getElem?_getD, List.getElem?_eq_getElem hi]
      rfl
    · rintro rfl
      exact getD_mem h0
/-- so many ties as make a tree: no loop just if all is glued -/
theorem tree_glue {M : Nat} {ts : List (Nat × Nat)} (h0 : 0 < M) (hb : ∀ t ∈ ts, t.1 < M ∧ t.2 < M) (hM : ts.length + 1 = M) : NoLoop ts ↔ ∀ x y, x < M → y < M → glue ts x y := by
  obtain ⟨L, hl, hg, _, hn⟩ := labels_ex M ts hb
  rw [hn, show dcount L + ts.length = M ↔ dcount L = 1 by omega, one_label (by omega), hl]
  exact ⟨fun h x y hx hy => (hg x y hx hy).mp (h x y hx hy), fun h x y hx hy => (hg x y hx hy).mpr (h x y hx hy)⟩
/-- too few ties don't glue all -/
theorem few_ties {M : Nat} {ts : List (Nat × Nat)} (h0 : 0 < M) (hb : ∀ t ∈ ts, t.1 < M ∧ t.2 < M) (hM : ts.length + 1 < M) : ¬ ∀ x y, x < M → y < M → glue ts x y := by
  obtain ⟨L, hl, hg, hle, _⟩ := labels_ex M ts hb
  intro h
  have := (one_label (L := L) (by omega)).mpr fun x y hx hy => by
    rw [hl] at hx hy
    exact (hg x y hx hy).mpr (h x y hx hy)
  omega
/-! the web of two partings -/
section
variable {p r : List Int}
theorem ties_rng (hp : Rg 0 p) (hr : Rg 0 r) : ∀ t ∈ tiesOf p r, t.1 < (bc 0 p + bc 0 r).toNat ∧ t.2 < (bc 0 p + bc 0 r).toNat := by
  intro t ht
  unfold tiesOf at ht
  obtain ⟨q, hq, rfl⟩ := List.mem_map.mp ht
  have h1 := (rg_mem 0 p (Int.le_refl _) hp).1 q.1 (List.of_mem_zip hq).1
  have h2 := (rg_mem 0 r (Int.le_refl _) hr).1 q.2 (List.of_mem_zip hq).2
  show q.1.toNat < _ ∧ (bc 0 p + q.2).toNat < _
  omega
theorem ties_get {i : Nat} {t : Nat × Nat} (h : (tiesOf p r)[i]? = some t) : ∃ x y, p[i]? = some x ∧ r[i]? = some y ∧ t = (x.toNat, (bc 0 p + y).toNat) := by
  unfold tiesOf at h
  obtain ⟨q, hq, e⟩ := map_at' h
  rw [List.getElem?_zip_eq_some] at hq
  exact ⟨q.1, q.2, hq.1, hq.2, e⟩
where
  map_at' {α β : Type} {f : α → β} {xs : List α} {i : Nat} {v : β} (h : (xs.map f)[i]? = some v) : ∃ x, xs[i]? = some x ∧ v = f x := by
    rw [List.getElem?_map] at h
    cases hx : xs[i]? with
    | none => rw [hx] at h; cases h
    | some x => rw [hx] at h; exact ⟨x, rfl, (Option.some.inj h).symm⟩
theorem noRing_loop : NoRing p r ↔ NoLoop (tiesOf p r) := by
  constructor
  · intro h i t ht g
    obtain ⟨x, y, hx, hy, rfl⟩ := ties_get ht
    exact h i ⟨x, y, hx, hy, g⟩
  · rintro h i ⟨x, y, hx, hy, g⟩
    exact h i _ (ties_at hx hy) g
theorem tree_all (par : Par p) (parr : Par r) (hl : p.length = r.length) : Tree p r ↔ bc 0 p + bc 0 r = p.length + 1 ∧ ∀ x y, x < (bc 0 p + bc 0 r).toNat → y < (bc 0 p + bc 0 r).toNat → glue (tiesOf p r) x y := by
  unfold Tree
  refine and_congr_right fun e => ?_
  rw [noRing_loop]
  exact tree_glue (by omega) (ties_rng par.rg parr.rg) (by rw [ties_len hl]; omega)
/-- the web without a door -/
def wo (p r : List Int) (d : Nat) : List (Nat × Nat) := (tiesOf p r).eraseIdx d
def nA (p : List Int) (d : Int) : Nat := (bk p d).toNat
def nB (p r : List Int) (d : Int) : Nat := (bc 0 p + bk r d).toNat
theorem wo_mem {d : Nat} (hl : p.length = r.length) {e : Int} (e0 : 0 ≤ e) (e1 : e < p.length) (ne : e ≠ d) : (nA p e, nB p r e) ∈ wo p r d := by
  unfold wo
  rw [List.mem_eraseIdx_iff_getElem?]
  exact ⟨e.toNat, by omega, ties_at (bk_some e0 e1) (bk_some e0 (by omega))⟩
theorem wo_of {d : Nat} {t : Nat × Nat} (hl : p.length = r.length) (h : t ∈ wo p r d) : ∃ e : Int, 0 ≤ e ∧ e < p.length ∧ e ≠ d ∧ t = (nA p e, nB p r e) := by
  unfold wo at h
  rw [List.mem_eraseIdx_iff_getElem?] at h
  obtain ⟨i, ne, hi⟩ := h
  obtain ⟨x, y, hx, hy, rfl⟩ := ties_get hi
  have il := (List.getElem?_eq_some_iff.mp hx).1
  refine ⟨(i : Int), by omega, by omega, by omega, ?_⟩
  unfold nA nB
  rw [bk_at (d := (i : Int)) (by rw [Int.toNat_natCast]; exact hx), bk_at (d := (i : Int)) (by rw [Int.toNat_natCast]; exact hy)]
theorem wo_split (par : Par p) (parr : Par r) (hl : p.length = r.length) (tr : Tree p r) {d : Int} (d0 : 0 ≤ d) (d1 : d < p.length) :
    (∀ x, x < (bc 0 p + bc 0 r).toNat → glue (wo p r d.toNat) x (nA p d) ∨ glue (wo p r d.toNat) x (nB p r d)) ∧ ¬ glue (wo p r d.toNat) (nA p d) (nB p r d) := by
  obtain ⟨hc, hall⟩ := (tree_all par parr hl).mp tr
  have td := ties_at (p := p) (r := r) (bk_some d0 d1) (bk_some d0 (show d < r.length by omega))
  have sub : ∀ t ∈ tiesOf p r, t ∈ wo p r d.toNat ++ [(nA p d, nB p r d)] := fun t ht => by
    obtain ⟨i, hi⟩ := List.mem_iff_getElem?.mp ht
    by_cases e : i = d.toNat
    · rw [e, td] at hi
      exact List.mem_append_right _ (List.mem_singleton.mpr (Option.some.inj hi).symm)
    · refine List.mem_append_left _ ?_
      unfold wo
      rw [List.mem_eraseIdx_iff_getElem?]
      exact ⟨i, e, hi⟩
  have ta := bk_rng par d0 d1
  have tb := bk_rng parr d0 (show d < r.length by omega)
  have ra : nA p d < (bc 0 p + bc 0 r).toNat := by unfold nA; omega
  have E := glue_eqv (wo p r d.toNat)
  constructor
  · intro x hx
    have g := glue_sub sub (hall x (nA p d) hx ra)
    rw [glue_snoc] at g
    rcases g with g | ⟨g, _⟩ | ⟨g, _⟩
    · exact .inl g
    · exact .inl g
    · exact .inr g
  · intro g
    refine few_ties (M := (bc 0 p + bc 0 r).toNat) (ts := wo p r d.toNat) (by omega) (fun t ht => ties_rng par.rg parr.rg t ((List.eraseIdx_sublist _ _).subset ht)) ?_ fun x y hx hy => ?_
    · unfold wo
      rw [List.length_eraseIdx, ties_len hl, if_pos (by omega)]
      omega
    · refine glue_least E (fun t ht => ?_) (hall x y hx hy)
      rcases List.mem_append.mp (sub t ht) with h | h
      · exact glue_mem h
      · rw [List.mem_singleton.mp h]
        exact g
end
end KM
namespace KQ
open PySem PySem.Spec PyProof.Rows L2 KR KM StX
/-! ### what doors_ahead finds in a tree -/
theorem nodup_at {α : Type} {l : List α} : l.Nodup ↔ ∀ i j : Nat, i < j → ∀ x y, l[i]? = some x → l[j]? = some y → x ≠ y := by
  unfold List.Nodup
  rw [List.pairwise_iff_getElem]
  constructor
  · intro h i j hij x y hx hy
    obtain ⟨hi, rfl⟩ := List.getElem?_eq_some_iff.mp hx
    obtain ⟨hj, rfl⟩ := List.getElem?_eq_some_iff.mp hy
    exact h i j hi hj hij
  · intro h i j hi hj hij
    exact h i j hij _ _ (List.getElem?_eq_getElem hi) (List.getElem?_eq_getElem hj)
section
variable {p r B : List Int} {st : Int} {N : Nat} {E : List Ent}
def nd (p r : List Int) (s d : Int) : Nat := if s = 0 then nA p d else nB p r d
theorem nA_inj (par : Par p) {d e : Int} (d0 : 0 ≤ d) (d1 : d < p.length) (e0 : 0 ≤ e) (e1 : e < p.length) : nA p d = nA p e ↔ bk p d = bk p e := by
  have a := bk_rng par d0 d1
  have b := bk_rng par e0 e1
  unfold nA
  omega
theorem nB_inj (par : Par p) (parr : Par r) (hl : p.length = r.length) {d e : Int} (d0 : 0 ≤ d) (d1 : d < p.length) (e0 : 0 ≤ e) (e1 : e < p.length) : nB p r d = nB p r e ↔ bk r d = bk r e := by
  have a := bk_rng parr d0 (by omega)
  have b := bk_rng parr e0 (by omega)
  have := bc_ge 0 p
  unfold nB
  omega
theorem n_apart (par : Par p) (parr : Par r) (hl : p.length = r.length) {d e : Int} (d0 : 0 ≤ d) (d1 : d < p.length) (e0 : 0 ≤ e) (e1 : e < p.length) : nA p d ≠ nB p r e := by
  have a := bk_rng par d0 d1
  have b := bk_rng parr e0 (by omega)
  unfold nA nB
  omega
theorem ent_flag (b01 : ∀ b ∈ B, b = 0 ∨ b = 1) (h : Bfs p r B st N E) {k : Nat} {e : Ent} (he : E[k]? = some e) : e.s = 0 ∨ e.s = 1 := by
  obtain ⟨h1, h2, _⟩ := h.par _ e he
  exact (flag01 b01 h (e.q + 1) e.q _ _ (Nat.lt_succ_self _) h2).1
theorem full_ent (b01 : ∀ b ∈ B, b = 0 ∨ b = 1) (h : Bfs p r B st N E) (full : ∀ j, j < (Qu B st E).length → FullTo p r B st E j N) {e : Ent} (he : e ∈ E) {s : Int} (s01 : s = 0 ∨ s = 1) {d : Int} (d0 : 0 ≤ d) (d1 : d < N)
    (hb : bk (prt p r s) d = bk (prt p r s) e.d) : d ∈ st :: E.map Ent.d := by
  obtain ⟨k, hk⟩ := List.mem_iff_getElem?.mp he
  have f := ent_flag b01 h hk
  obtain ⟨h1, h2, h3⟩ := h.par _ e hk
  have hkl := (List.getElem?_eq_some_iff.mp hk).1
  by_cases es : s = e.s
  · subst es
    exact full e.q (List.getElem?_eq_some_iff.mp h2).1 _ _ h2 d d0 d1 (hb.trans h3)
  · have : s = 1 - e.s := by omega
    rw [this] at hb
    exact full (B.length + k) (by rw [qu_len]; omega) _ _ (qu_ent hk) d d0 d1 hb
theorem full_start (full : ∀ j, j < (Qu B st E).length → FullTo p r B st E j N) {w : Int} (hw : w ∈ B) {d : Int} (d0 : 0 ≤ d) (d1 : d < N) (hb : bk (prt p r w) d = bk (prt p r w) st) : d ∈ st :: E.map Ent.d := by
  obtain ⟨j, hj⟩ := List.mem_iff_getElem?.mp hw
  have jl := (List.getElem?_eq_some_iff.mp hj).1
  obtain ⟨b, hb2, hq⟩ := qu_base (st := st) (E := E) jl
  rw [hj] at hb2
  obtain rfl := Option.some.inj hb2
  exact full j (by rw [qu_len]; omega) _ _ hq d d0 d1 hb
/-- in a tree, both ways from a door lead to all doors -/
theorem way_all (par : Par p) (parr : Par r) (hl : p.length = r.length) (tr : Tree p r) (hN : N = p.length) (s0 : 0 ≤ st) (s1 : st < p.length) (h : Bfs p r [0, 1] st N E)
    (full : ∀ j, j < (Qu [0, 1] st E).length → FullTo p r [0, 1] st E j N) {d : Int} (d0 : 0 ≤ d) (d1 : d < p.length) : d ∈ st :: E.map Ent.d := by
  have b01 : ∀ b ∈ ([0, 1] : List Int), b = 0 ∨ b = 1 := by simp
  have rng : ∀ x ∈ st :: E.map Ent.d, 0 ≤ x ∧ x < p.length := fun x hx => by
    rcases mem_keys.mp hx with rfl | ⟨e, he, rfl⟩
    · exact ⟨s0, s1⟩
    · have := h.rng e he
      omega
  have clo : ∀ s : Int, s = 0 ∨ s = 1 → ∀ x ∈ st :: E.map Ent.d, ∀ y : Int, 0 ≤ y → y < p.length → bk (prt p r s) y = bk (prt p r s) x → y ∈ st :: E.map Ent.d := by
    intro s s01 x hx y y0 y1 hb
    rcases mem_keys.mp hx with rfl | ⟨e, he, rfl⟩
    · exact full_start full (w := s) (by rcases s01 with rfl | rfl <;> simp) y0 (by omega) hb
    · exact full_ent b01 h full he s01 y0 (by omega) hb
  obtain ⟨hc, hall⟩ := (tree_all par parr hl).mp tr
  have key : ∀ e : Int, 0 ≤ e → e < p.length → ((∃ x ∈ st :: E.map Ent.d, nA p x = nA p e ∨ nB p r x = nA p e) → e ∈ st :: E.map Ent.d) ∧ ((∃ x ∈ st :: E.map Ent.d, nA p x = nB p r e ∨ nB p r x = nB p r e) → e ∈ st :: E.map Ent.d) := by
    intro e e0 e1
    constructor
    · rintro ⟨x, hx, q | q⟩
      · obtain ⟨x0, x1⟩ := rng x hx
        exact clo 0 (.inl rfl) x hx e e0 e1 ((nA_inj par x0 x1 e0 e1).mp q).symm
      · obtain ⟨x0, x1⟩ := rng x hx
        exact absurd q.symm (n_apart par parr hl e0 e1 x0 x1)
    · rintro ⟨x, hx, q | q⟩
      · obtain ⟨x0, x1⟩ := rng x hx
        exact absurd q (n_apart par parr hl x0 x1 e0 e1)
      · obtain ⟨x0, x1⟩ := rng x hx
        exact clo 1 (.inr rfl) x hx e e0 e1 ((nB_inj par parr hl x0 x1 e0 e1).mp q).symm
  have ra := bk_rng par d0 d1
  have rs := bk_rng par s0 s1
  have rr := bc_ge 0 r
  have g := hall (nA p st) (nA p d) (by unfold nA; omega) (by unfold nA; omega)
  refine (key d d0 d1).1 ((glue_keep (S := fun z => ∃ x ∈ st :: E.map Ent.d, nA p x = z ∨ nB p r x = z) (fun t ht => ?_) g).mp ⟨st, List.mem_cons_self, .inl rfl⟩)
  obtain ⟨i, hi⟩ := List.mem_iff_getElem?.mp ht
  obtain ⟨x, y, hx, hy, rfl⟩ := ties_get hi
  have il := (List.getElem?_eq_some_iff.mp hx).1
  have ex : nA p (i : Int) = x.toNat := by unfold nA; rw [bk_at (by rw [Int.toNat_natCast]; exact hx)]
  have ey : nB p r (i : Int) = (bc 0 p + y).toNat := by unfold nB; rw [bk_at (by rw [Int.toNat_natCast]; exact hy)]
  show (∃ z ∈ st :: E.map Ent.d, nA p z = x.toNat ∨ nB p r z = x.toNat) ↔ ∃ z ∈ st :: E.map Ent.d, nA p z = (bc 0 p + y).toNat ∨ nB p r z = (bc 0 p + y).toNat
  rw [← ex, ← ey]
  exact ⟨fun q => ⟨_, (key i (by omega) (by omega)).1 q, .inr rfl⟩, fun q => ⟨_, (key i (by omega) (by omega)).2 q, .inl rfl⟩⟩
/-- what the way to one side finds: what is glued to that block in the web without the door -/
theorem side_set (par : Par p) (parr : Par r) (hl : p.length = r.length) (hN : N = p.length) (s0 : 0 ≤ st) (s1 : st < p.length) {w : Int} (w01 : w = 0 ∨ w = 1) (h : Bfs p r [w] st N E)
    (full : ∀ j, j < (Qu [w] st E).length → FullTo p r [w] st E j N) (d : Int) : d ∈ E.map Ent.d ↔ 0 ≤ d ∧ d < p.length ∧ d ≠ st ∧ glue (wo p r st.toNat) (nd p r w st) (nA p d) := by
  have b01 : ∀ b ∈ ([w] : List Int), b = 0 ∨ b = 1 := by simpa using w01
  have G := glue_eqv (wo p r st.toNat)
  have nst : ∀ e ∈ E, e.d ≠ st := fun e he q => (List.nodup_cons.mp h.keys).1 (List.mem_map.mpr ⟨e, he, q⟩)
  have tie : ∀ e : Int, 0 ≤ e → e < p.length → e ≠ st → glue (wo p r st.toNat) (nA p e) (nB p r e) := fun e e0 e1 ne => glue_mem (t := (nA p e, nB p r e)) (wo_mem hl e0 e1 (by omega))
  have both : ∀ e : Int, 0 ≤ e → e < p.length → e ≠ st → ∀ s : Int, glue (wo p r st.toNat) (nd p r s e) (nA p e) := fun e e0 e1 ne s => by
    unfold nd
    split
    · exact G.refl _
    · exact G.symm _ _ (tie e e0 e1 ne)
  have same : ∀ s x y : Int, s = 0 ∨ s = 1 → 0 ≤ x → x < p.length → 0 ≤ y → y < p.length → bk (prt p r s) x = bk (prt p r s) y → nd p r s x = nd p r s y := by
    intro s x y s01 x0 x1 y0 y1 hb
    rcases s01 with rfl | rfl
    · exact (nA_inj par x0 x1 y0 y1).mpr hb
    · exact (nB_inj par parr hl x0 x1 y0 y1).mpr hb
  constructor
  · intro hd
    obtain ⟨e, he, rfl⟩ := List.mem_map.mp hd
    have rg := h.rng e he
    refine ⟨rg.1, by omega, nst e he, ?_⟩
    obtain ⟨k, hk⟩ := List.mem_iff_getElem?.mp he
    have : ∀ (n k : Nat) (e : Ent), k < n → E[k]? = some e → glue (wo p r st.toNat) (nd p r w st) (nA p e.d) := by
      intro n
      induction n with
      | zero => exact fun k e hk => absurd hk (Nat.not_lt_zero _)
      | succ n ih =>
        intro k e hkn hk
        have he := List.mem_of_getElem? hk
        have rg := h.rng e he
        have f := ent_flag b01 h hk
        obtain ⟨h1, h2, h3⟩ := h.par _ e hk
        by_cases e0 : e.q < 1
        · obtain ⟨b, hb, hq⟩ := qu_base (B := [w]) (st := st) (E := E) (j := e.q) e0
          have eq0 : e.q = 0 := by omega
          rw [eq0] at hb hq h2
          obtain rfl := Option.some.inj hb
          rw [h2] at hq
          obtain ⟨q1, q2⟩ := Prod.mk.inj (Option.some.inj hq)
          rw [q2, q1] at h3
          rw [← same _ e.d st w01 rg.1 (by omega) s0 s1 h3]
          exact both _ rg.1 (by omega) (nst e he) _
        · have hl2 := (List.getElem?_eq_some_iff.mp h2).1
          rw [qu_len] at hl2
          have hl2 : e.q < 1 + E.length := hl2
          have h1 : e.q < 1 + k := h1
          obtain ⟨e', he'⟩ := at_some (xs := E) (i := e.q - 1) (by omega)
          have hq := qu_ent (B := [w]) (st := st) he'
          rw [show ([w] : List Int).length + (e.q - 1) = e.q by rw [List.length_singleton]; omega, h2] at hq
          obtain ⟨q1, q2⟩ := Prod.mk.inj (Option.some.inj hq)
          have m' := List.mem_of_getElem? he'
          have rg' := h.rng e' m'
          rw [q2] at h3
          have g := ih (e.q - 1) e' (by omega) he'
          refine G.trans _ _ _ g (G.trans _ (nd p r e.s e.d) _ ?_ (both _ rg.1 (by omega) (nst e he) _))
          rw [same _ e.d e'.d f rg.1 (by omega) rg'.1 (by omega) h3]
          exact G.symm _ _ (both _ rg'.1 (by omega) (nst e' m') _)
    exact this (k + 1) k e (Nat.lt_succ_self _) hk
  · rintro ⟨d0, d1, ne, g⟩
    have inE : ∀ e : Int, e ∈ st :: E.map Ent.d → e ≠ st → e ∈ E.map Ent.d := fun e he n => by
      rcases List.mem_cons.mp he with q | q
      · exact absurd q n
      · exact q
    have key : ∀ e : Int, 0 ≤ e → e < p.length → e ≠ st → ((nA p e = nd p r w st ∨ ∃ x ∈ E.map Ent.d, nA p x = nA p e ∨ nB p r x = nA p e) → e ∈ E.map Ent.d) ∧ ((nB p r e = nd p r w st ∨ ∃ x ∈ E.map Ent.d, nA p x = nB p r e ∨ nB p r x = nB p r e) → e ∈ E.map Ent.d) := by
      intro e e0 e1 ne
      constructor
      · rintro (q | ⟨x, hx, q⟩)
        · rcases w01 with rfl | rfl
          · exact inE e (full_start full (w := 0) (by simp) e0 (by omega) ((nA_inj par e0 e1 s0 s1).mp q)) ne
          · exact absurd q (n_apart par parr hl e0 e1 s0 s1)
        · obtain ⟨x', hx', rfl⟩ := List.mem_map.mp hx
          have rg := h.rng x' hx'
          rcases q with q | q
          · exact inE e (full_ent b01 h full hx' (.inl rfl) e0 (by omega) ((nA_inj par rg.1 (by omega) e0 e1).mp q).symm) ne
          · exact absurd q.symm (n_apart par parr hl e0 e1 rg.1 (by omega))
      · rintro (q | ⟨x, hx, q⟩)
        · rcases w01 with rfl | rfl
          · exact absurd q.symm (n_apart par parr hl s0 s1 e0 e1)
          · exact inE e (full_start full (w := 1) (by simp) e0 (by omega) ((nB_inj par parr hl e0 e1 s0 s1).mp q)) ne
        · obtain ⟨x', hx', rfl⟩ := List.mem_map.mp hx
          have rg := h.rng x' hx'
          rcases q with q | q
          · exact absurd q (n_apart par parr hl rg.1 (by omega) e0 e1)
          · exact inE e (full_ent b01 h full hx' (.inr rfl) e0 (by omega) ((nB_inj par parr hl rg.1 (by omega) e0 e1).mp q).symm) ne
    refine (key d d0 d1 ne).1 ((glue_keep (S := fun z => z = nd p r w st ∨ ∃ x ∈ E.map Ent.d, nA p x = z ∨ nB p r x = z) (fun t ht => ?_) g).mp (.inl rfl))
    obtain ⟨e, e0, e1, ne, rfl⟩ := wo_of hl ht
    have ne : e ≠ st := by omega
    exact ⟨fun q => .inr ⟨_, (key e e0 e1 ne).1 q, .inr rfl⟩, fun q => .inr ⟨_, (key e e0 e1 ne).2 q, .inl rfl⟩⟩
/-! ways -/
theorem path_head {b : Nat} : ∀ {ks : List Nat}, Path b E ks → (∃ j, ks[0]? = some j ∧ j < b) ∧ ∀ i x, ks[i + 1]? = some x → b ≤ x := by
  intro ks hp
  induction hp with
  | base hj => exact ⟨⟨_, rfl, hj⟩, fun i x hx => by simp at hx⟩
  | @step k e ks he hks hlast ih =>
    obtain ⟨⟨j, h0, hj⟩, hi⟩ := ih
    have hpos := (List.getElem?_eq_some_iff.mp h0).1
    refine ⟨⟨j, by rw [List.getElem?_append_left hpos]; exact h0, hj⟩, fun i x hx => ?_⟩
    by_cases il : i + 1 < ks.length
    · rw [List.getElem?_append_left il] at hx
      exact hi i x hx
    · have := (List.getElem?_eq_some_iff.mp hx).1
      rw [List.length_append, List.length_singleton] at this
      rw [show i + 1 = ks.length by omega, List.getElem?_append_right (Nat.le_refl _), Nat.sub_self] at hx
      obtain rfl := Option.some.inj hx
      exact Nat.le_add_right _ _
/-- a way, by turns through blocks of the one and of the other -/
structure IsWay (p r row : List Int) (b e : Int) : Prop where
  rng : ∀ d ∈ row, 0 ≤ d ∧ d < p.length
  first : row[0]? = some b
  last : row.getLast? = some e
  nodup : row.Nodup
  alt : ∃ s : Nat, s < 2 ∧ ∀ (i : Nat) (x y : Int), row[i]? = some x → row[i + 1]? = some y → bk (prt p r (((i + s) % 2 : Nat) : Int)) x = bk (prt p r (((i + s) % 2 : Nat) : Int)) y
theorem way_row (s0 : 0 ≤ st) (s1 : st < p.length) (hN : N = p.length) (h : Bfs p r [0, 1] st N E) {ks : List Nat} (hp : Path 2 E ks) {j : Nat} (hlast : ks.getLast? = some j) : IsWay p r (ks.map (dr [0, 1] st E)) st (dr [0, 1] st E j) := by
  obtain ⟨up, bd, nxt⟩ := path_next (B := [0, 1]) h hp
  obtain ⟨⟨j0, h0, hj0⟩, hi⟩ := path_head hp
  have base : ∀ x, x < 2 → dr [0, 1] st E x = st ∧ fl [0, 1] st E x = (x : Int) := fun x hx => by
    obtain ⟨b, hb, hq⟩ := qu_base (B := [0, 1]) (st := st) (E := E) hx
    have := qu_at hq
    refine ⟨this.1, this.2.trans ?_⟩
    have : x = 0 ∨ x = 1 := by omega
    rcases this with rfl | rfl
    · exact (Option.some.inj hb).symm
    · exact (Option.some.inj hb).symm
  have ent : ∀ x, 2 ≤ x → x < (Qu [0, 1] st E).length → ∃ e, E[x - 2]? = some e ∧ dr [0, 1] st E x = e.d := fun x hx hxl => by
    rw [qu_len] at hxl
    have hxl : x < 2 + E.length := hxl
    obtain ⟨e, he⟩ := at_some (xs := E) (i := x - 2) (by omega)
    refine ⟨e, he, ?_⟩
    have := qu_ent (B := [0, 1]) (st := st) he
    rw [show ([0, 1] : List Int).length + (x - 2) = x by show 2 + (x - 2) = x; omega] at this
    exact (qu_at this).1
  refine ⟨fun d hd => ?_, by rw [at_map h0, (base j0 hj0).1], by rw [List.getLast?_map, hlast]; rfl, ?_, j0, hj0, ?_⟩
  · obtain ⟨x, hx, rfl⟩ := List.mem_map.mp hd
    by_cases c : x < 2
    · rw [(base x c).1]
      exact ⟨s0, s1⟩
    · obtain ⟨e, he, q⟩ := ent x (by omega) (bd x hx)
      rw [q]
      have := h.rng e (List.mem_of_getElem? he)
      omega
  · rw [nodup_at]
    intro a b hab x y hx0 hy0 q
    obtain ⟨x, hx, rfl⟩ := map_at hx0
    obtain ⟨y, hy, rfl⟩ := map_at hy0
    have y2 : 2 ≤ y := by
      cases b with
      | zero => omega
      | succ b => exact hi b y hy
    obtain ⟨e, he, qe⟩ := ent y y2 (bd y (List.mem_of_getElem? hy))
    have me := List.mem_of_getElem? he
    have hn := List.nodup_cons.mp h.keys
    by_cases c : x < 2
    · rw [(base x c).1, qe] at q
      exact hn.1 (List.mem_map.mpr ⟨e, me, q.symm⟩)
    · obtain ⟨e', he', qe'⟩ := ent x (by omega) (bd x (List.mem_of_getElem? hx))
      rw [qe, qe'] at q
      have lt := up a b x y hab hx hy
      exact nodup_at.mp hn.2 (x - 2) (y - 2) (by omega) _ _ (at_map he') (at_map he) q
  · have fls : ∀ (i x : Nat), ks[i]? = some x → fl [0, 1] st E x = (((i + j0) % 2 : Nat) : Int) := by
      intro i
      induction i with
      | zero =>
        intro x hx
        rw [h0] at hx
        obtain rfl := Option.some.inj hx
        rw [(base j0 hj0).2, Nat.zero_add, Nat.mod_eq_of_lt hj0]
      | succ i ih =>
        intro x hx
        have il := (List.getElem?_eq_some_iff.mp hx).1
        obtain ⟨y, hy⟩ := at_some (xs := ks) (i := i) (by omega)
        rw [(nxt i y x hy hx).turn, ih y hy]
        omega
    intro i x y hx hy
    obtain ⟨x, hx', rfl⟩ := map_at hx
    obtain ⟨y, hy', rfl⟩ := map_at hy
    have := (nxt i x y hx' hy').blk
    rw [fls i x hx'] at this
    exact this.symm
end
end KQ
namespace KQ
open PySem PySem.Spec PyProof.Rows L2 KR KM StX
/-! ### trees told by doors, and moves -/
section
variable {p r : List Int}
/-- doors: what is closed under blocks of both is all or nothing -/
def DConn (p r : List Int) : Prop := ∀ S : Int → Prop, (∀ d e : Int, 0 ≤ d → d < p.length → 0 ≤ e → e < p.length → bk p d = bk p e → S d → S e) → (∀ d e : Int, 0 ≤ d → d < p.length → 0 ≤ e → e < p.length → bk r d = bk r e → S d → S e) →
  ∀ d e : Int, 0 ≤ d → d < p.length → 0 ≤ e → e < p.length → S d → S e
theorem tie_door {t : Nat × Nat} (hl : p.length = r.length) (ht : t ∈ tiesOf p r) : ∃ e : Int, 0 ≤ e ∧ e < p.length ∧ t = (nA p e, nB p r e) := by
  obtain ⟨i, hi⟩ := List.mem_iff_getElem?.mp ht
  obtain ⟨x, y, hx, hy, rfl⟩ := ties_get hi
  have il := (List.getElem?_eq_some_iff.mp hx).1
  refine ⟨(i : Int), by omega, by omega, ?_⟩
  unfold nA nB
  rw [bk_at (d := (i : Int)) (by rw [Int.toNat_natCast]; exact hx), bk_at (d := (i : Int)) (by rw [Int.toNat_natCast]; exact hy)]
theorem door_tie (hl : p.length = r.length) {e : Int} (e0 : 0 ≤ e) (e1 : e < p.length) : glue (tiesOf p r) (nA p e) (nB p r e) :=
  glue_mem (t := (nA p e, nB p r e)) (List.mem_of_getElem? (ties_at (bk_some e0 e1) (bk_some e0 (by omega))))
theorem bk_all (par : Par p) {y : Int} (y0 : 0 ≤ y) (y1 : y < bc 0 p) : ∃ d : Int, 0 ≤ d ∧ d < p.length ∧ bk p d = y := by
  obtain ⟨i, hi⟩ := List.mem_iff_getElem?.mp ((rg_mem 0 p (Int.le_refl _) par.rg).2 y y0 y1)
  have il := (List.getElem?_eq_some_iff.mp hi).1
  exact ⟨(i : Int), by omega, by omega, bk_at (by rw [Int.toNat_natCast]; exact hi)⟩
theorem tree_conn (par : Par p) (parr : Par r) (hl : p.length = r.length) : Tree p r ↔ bc 0 p + bc 0 r = p.length + 1 ∧ DConn p r := by
  rw [tree_all par parr hl]
  refine and_congr_right fun hc => ?_
  have G := glue_eqv (tiesOf p r)
  constructor
  · intro hall S cp cr d e d0 d1 e0 e1 sd
    have ra := bk_rng par d0 d1
    have rb := bk_rng par e0 e1
    have rr := bc_ge 0 r
    have g := hall (nA p d) (nA p e) (by unfold nA; omega) (by unfold nA; omega)
    have key : ∀ x : Int, 0 ≤ x → x < p.length → ((∃ y : Int, 0 ≤ y ∧ y < p.length ∧ S y ∧ (nA p y = nA p x ∨ nB p r y = nA p x)) → S x) ∧ ((∃ y : Int, 0 ≤ y ∧ y < p.length ∧ S y ∧ (nA p y = nB p r x ∨ nB p r y = nB p r x)) → S x) := by
      intro x x0 x1
      constructor
      · rintro ⟨y, y0, y1, sy, q | q⟩
        · exact cp y x y0 y1 x0 x1 ((nA_inj par y0 y1 x0 x1).mp q) sy
        · exact absurd q.symm (n_apart par parr hl x0 x1 y0 y1)
      · rintro ⟨y, y0, y1, sy, q | q⟩
        · exact absurd q (n_apart par parr hl y0 y1 x0 x1)
        · exact cr y x y0 y1 x0 x1 ((nB_inj par parr hl y0 y1 x0 x1).mp q) sy
    refine (key e e0 e1).1 ((glue_keep (S := fun z => ∃ y : Int, 0 ≤ y ∧ y < p.length ∧ S y ∧ (nA p y = z ∨ nB p r y = z)) (fun t ht => ?_) g).mp ⟨d, d0, d1, sd, .inl rfl⟩)
    obtain ⟨x, x0, x1, rfl⟩ := tie_door hl ht
    exact ⟨fun q => ⟨x, x0, x1, (key x x0 x1).1 q, .inr rfl⟩, fun q => ⟨x, x0, x1, (key x x0 x1).2 q, .inl rfl⟩⟩
  · intro h
    have doors : ∀ d e : Int, 0 ≤ d → d < p.length → 0 ≤ e → e < p.length → glue (tiesOf p r) (nA p d) (nA p e) := fun d e d0 d1 e0 e1 => by
      refine h (fun x => glue (tiesOf p r) (nA p d) (nA p x)) (fun x y x0 x1 y0 y1 q g => ?_) (fun x y x0 x1 y0 y1 q g => ?_) d e d0 d1 e0 e1 (G.refl _)
      · show glue _ _ (nA p y)
        rw [← (nA_inj par x0 x1 y0 y1).mpr q]
        exact g
      · refine G.trans _ _ _ g (G.trans _ _ _ (door_tie hl x0 x1) ?_)
        rw [(nB_inj par parr hl x0 x1 y0 y1).mpr q]
        exact G.symm _ _ (door_tie hl y0 y1)
    have node : ∀ x, x < (bc 0 p + bc 0 r).toNat → ∃ d : Int, 0 ≤ d ∧ d < p.length ∧ glue (tiesOf p r) x (nA p d) := fun x hx => by
      have := bc_ge 0 p
      by_cases c : (x : Int) < bc 0 p
      · obtain ⟨d, d0, d1, q⟩ := bk_all par (y := (x : Int)) (by omega) c
        refine ⟨d, d0, d1, ?_⟩
        have : nA p d = x := by unfold nA; omega
        rw [this]
        exact G.refl _
      · obtain ⟨d, d0, d1, q⟩ := bk_all parr (y := (x : Int) - bc 0 p) (by omega) (by omega)
        refine ⟨d, d0, by omega, ?_⟩
        have : nB p r d = x := by unfold nB; omega
        have t := door_tie hl d0 (by omega)
        rw [this] at t
        exact G.symm _ _ t
    intro x y hx hy
    obtain ⟨d, d0, d1, g1⟩ := node x hx
    obtain ⟨e, e0, e1, g2⟩ := node y hy
    exact G.trans _ _ _ g1 (G.trans _ _ _ (doors d e d0 d1 e0 e1) (G.symm _ _ g2))
/-- the parting r with the door d put into the block b -/
def mv (r : List Int) (d b : Int) : List Int := num (r.set d.toNat b)
/-- another door of the block b lies on the second side of d -/
def Other (p r : List Int) (d b : Int) : Prop := ∃ e : Int, 0 ≤ e ∧ e < p.length ∧ e ≠ d ∧ bk r e = b ∧ glue (wo p r d.toNat) (nB p r d) (nA p e)
theorem bk_set {d x b : Int} (d0 : 0 ≤ d) (d1 : d < r.length) (x0 : 0 ≤ x) : bk (r.set d.toNat b) x = if x = d then b else bk r x := by
  unfold bk
  rw [List.getD_eq_getElem?_getD, List.getD_eq_getElem?_getD]
  by_cases e : x = d
  · rw [if_pos e, e, List.getElem?_set_self (by omega)]
    rfl
  · rw [if_neg e, List.getElem?_set_ne (by omega)]
theorem bk_num {q : List Int} {x y : Int} (x0 : 0 ≤ x) (x1 : x < q.length) (y0 : 0 ≤ y) (y1 : y < q.length) : bk (num q) x = bk (num q) y ↔ bk q x = bk q y := by
  exact num_ker (bk_some x0 x1) (bk_some y0 y1) (bk_some x0 (by rw [num_len]; exact x1)) (bk_some y0 (by rw [num_len]; exact y1))
theorem num_self {r : List Int} (parr : Par r) : num r = r := (num_is rfl parr.rg fun i j x y u v hi hj ui vj => by
  rw [hi] at ui
  rw [hj] at vj
  obtain rfl := Option.some.inj ui
  obtain rfl := Option.some.inj vj
  exact Iff.rfl)
theorem mv_par (parr : Par r) {d b : Int} : Par (mv r d b) := num_par (fun e => parr.ne (List.length_eq_zero_iff.mp (by rw [← List.length_set (as := r) (i := d.toNat) (a := b), e]; rfl))) (by rw [List.length_set]; exact parr.le)
theorem mv_len {d b : Int} : (mv r d b).length = r.length := by
  unfold mv
  rw [num_len, List.length_set]
theorem other_kept (par : Par p) (parr : Par r) (hl : p.length = r.length) {d b : Int} (d0 : 0 ≤ d) (d1 : d < p.length) (h : Other p r d b) : ∃ f : Int, 0 ≤ f ∧ f < p.length ∧ f ≠ d ∧ bk r f = bk r d := by
  obtain ⟨e, e0, e1, ne, rfl, g⟩ := h
  refine Classical.byContradiction fun hn => ?_
  refine n_apart par parr hl e0 e1 d0 d1 ((glue_keep (S := fun z => z = nB p r d) (fun t ht => ?_) g).mp rfl)
  obtain ⟨f, f0, f1, nf, rfl⟩ := wo_of hl ht
  refine ⟨fun q => absurd q (n_apart par parr hl f0 f1 d0 d1), fun q => absurd ⟨f, f0, f1, by omega, (nB_inj par parr hl f0 f1 d0 d1).mp q⟩ hn⟩
theorem mem_bk {q : List Int} {x : Int} : x ∈ q ↔ ∃ d : Int, 0 ≤ d ∧ d < q.length ∧ bk q d = x := by
  constructor
  · intro hx
    obtain ⟨i, hi⟩ := List.mem_iff_getElem?.mp hx
    have il := (List.getElem?_eq_some_iff.mp hi).1
    exact ⟨(i : Int), by omega, by omega, bk_at (by rw [Int.toNat_natCast]; exact hi)⟩
  · rintro ⟨d, d0, d1, rfl⟩
    exact List.mem_of_getElem? (bk_some d0 d1)
theorem count_mv (parr : Par r) {d b : Int} (d0 : 0 ≤ d) (d1 : d < r.length) (b0 : 0 ≤ b) (b1 : b < bc 0 r) (nb : b ≠ bk r d) :
    ((∃ f : Int, 0 ≤ f ∧ f < r.length ∧ f ≠ d ∧ bk r f = bk r d) → bc 0 (mv r d b) = bc 0 r) ∧ ((¬ ∃ f : Int, 0 ≤ f ∧ f < r.length ∧ f ≠ d ∧ bk r f = bk r d) → bc 0 (mv r d b) + 1 = bc 0 r) := by
  have e1 : bc 0 (mv r d b) = ((dcount (r.set d.toNat b) : Nat) : Int) := (dcount_num _).symm
  have e2 : bc 0 r = ((dcount r : Nat) : Int) := by rw [dcount_num, num_self parr]
  have mem : ∀ x, x ∈ r.set d.toNat b ↔ x = b ∨ ∃ f : Int, 0 ≤ f ∧ f < r.length ∧ f ≠ d ∧ bk r f = x := by
    intro x
    rw [mem_bk]
    constructor
    · rintro ⟨f, f0, f1, q⟩
      rw [List.length_set] at f1
      rw [bk_set d0 d1 f0] at q
      by_cases c : f = d
      · rw [if_pos c] at q
        exact .inl q.symm
      · rw [if_neg c] at q
        exact .inr ⟨f, f0, f1, c, q⟩
    · rintro (rfl | ⟨f, f0, f1, c, q⟩)
      · exact ⟨d, d0, by rw [List.length_set]; exact d1, by rw [bk_set d0 d1 d0, if_pos rfl]⟩
      · exact ⟨f, f0, by rw [List.length_set]; exact f1, by rw [bk_set d0 d1 f0, if_neg c]; exact q⟩
  obtain ⟨g, g0, g1, gb⟩ := bk_all parr b0 b1
  have ng : g ≠ d := fun e => nb (by rw [← gb, e])
  constructor
  · rintro ⟨f, f0, f1, nf, hf⟩
    rw [e1, e2]
    refine congrArg _ (dcount_same fun x => ?_)
    rw [mem, mem_bk]
    constructor
    · rintro (rfl | ⟨f, f0, f1, _, q⟩)
      · exact ⟨g, g0, g1, gb⟩
      · exact ⟨f, f0, f1, q⟩
    · rintro ⟨y, y0, y1, q⟩
      by_cases c : y = d
      · exact .inr ⟨f, f0, f1, nf, by rw [hf, ← c]; exact q⟩
      · exact .inr ⟨y, y0, y1, c, q⟩
  · intro hn
    rw [e1, e2]
    have hv : bk r d ∈ firsts r := (mem_firsts r).mpr (List.mem_of_getElem? (bk_some d0 d1))
    have l := List.length_pos_of_mem hv
    have e := List.length_erase_of_mem hv
    have := same_len (firsts_nodup (r.set d.toNat b)) ((firsts_nodup r).erase (bk r d)) (fun x => by
      rw [mem_firsts, (firsts_nodup r).mem_erase_iff, mem_firsts, mem, mem_bk]
      constructor
      · rintro (rfl | ⟨f, f0, f1, nf, q⟩)
        · exact ⟨nb, g, g0, g1, gb⟩
        · exact ⟨fun e => hn ⟨f, f0, f1, nf, q.trans e⟩, f, f0, f1, q⟩
      · rintro ⟨nx, y, y0, y1, q⟩
        exact .inr ⟨y, y0, y1, fun e => nx (by rw [← q, e]), q⟩)
    unfold dcount
    omega
theorem move_iff (par : Par p) (parr : Par r) (hl : p.length = r.length) (tr : Tree p r) {d b : Int} (d0 : 0 ≤ d) (d1 : d < p.length) (b0 : 0 ≤ b) (b1 : b < bc 0 r) (nb : b ≠ bk r d) : Tree p (mv r d b) ↔ Other p r d b := by
  obtain ⟨sp1, sp2⟩ := wo_split par parr hl tr d0 d1
  have G := glue_eqv (wo p r d.toNat)
  have hc := tr.1
  obtain ⟨c1, c2⟩ := count_mv parr d0 (by omega : d < r.length) b0 b1 nb
  rw [tree_conn par (mv_par parr) (by rw [mv_len, hl])]
  have kq : ∀ x y : Int, 0 ≤ x → x < p.length → 0 ≤ y → y < p.length → (bk (mv r d b) x = bk (mv r d b) y ↔ (if x = d then b else bk r x) = if y = d then b else bk r y) := fun x y x0 x1 y0 y1 => by
    unfold mv
    rw [bk_num x0 (by rw [List.length_set]; omega) y0 (by rw [List.length_set]; omega), bk_set d0 (by omega) x0, bk_set d0 (by omega) y0]
  have tie : ∀ e : Int, 0 ≤ e → e < p.length → e ≠ d → glue (wo p r d.toNat) (nA p e) (nB p r e) := fun e e0 e1 ne => glue_mem (t := (nA p e, nB p r e)) (wo_mem hl e0 e1 (by omega))
  constructor
  · rintro ⟨hc2, hd⟩
    have hf : ∃ f : Int, 0 ≤ f ∧ f < r.length ∧ f ≠ d ∧ bk r f = bk r d := Classical.byContradiction fun hn => by
      have := c2 hn
      omega
    obtain ⟨f, f0, f1, nf, ef⟩ := hf
    refine Classical.byContradiction fun hn => ?_
    refine (hd (fun x => x ≠ d ∧ glue (wo p r d.toNat) (nB p r d) (nA p x)) (fun x y x0 x1 y0 y1 q h => ?_) (fun x y x0 x1 y0 y1 q h => ?_) f d f0 (by omega) d0 d1 ⟨nf, ?_⟩).1 rfl
    · by_cases c : y = d
      · refine absurd (G.symm _ _ ?_) sp2
        rw [← c, ← (nA_inj par x0 x1 y0 y1).mpr q, c]
        exact h.2
      · refine ⟨c, ?_⟩
        rw [← (nA_inj par x0 x1 y0 y1).mpr q]
        exact h.2
    · rw [kq x y x0 x1 y0 y1, if_neg h.1] at q
      by_cases c : y = d
      · rw [if_pos c] at q
        exact absurd ⟨x, x0, x1, h.1, q, h.2⟩ hn
      · rw [if_neg c] at q
        refine ⟨c, G.trans _ _ _ h.2 (G.trans _ _ _ (tie x x0 x1 h.1) ?_)⟩
        rw [(nB_inj par parr hl x0 x1 y0 y1).mpr q]
        exact G.symm _ _ (tie y y0 y1 c)
    · rw [← (nB_inj par parr hl f0 (by omega) d0 d1).mpr ef]
      exact G.symm _ _ (tie f f0 (by omega) nf)
  · intro ho
    obtain ⟨f, f0, f1, nf, ef⟩ := other_kept par parr hl d0 d1 ho
    obtain ⟨e, e0, e1, ne, eb, ge⟩ := ho
    refine ⟨by rw [c1 ⟨f, f0, by omega, nf, ef⟩]; exact hc, ?_⟩
    have main : ∀ S : Int → Prop, (∀ d e : Int, 0 ≤ d → d < p.length → 0 ≤ e → e < p.length → bk p d = bk p e → S d → S e) → (∀ x y : Int, 0 ≤ x → x < p.length → 0 ≤ y → y < p.length → bk (mv r d b) x = bk (mv r d b) y → S x → S y) →
        ∀ x : Int, 0 ≤ x → x < p.length → S x → S d := by
      intro S cp cq x x0 x1 sx
      by_cases c : x = d
      · exact c ▸ sx
      · have key : ∀ g : Int, 0 ≤ g → g < p.length → g ≠ d → ((∃ y : Int, 0 ≤ y ∧ y < p.length ∧ y ≠ d ∧ S y ∧ (nA p y = nA p g ∨ nB p r y = nA p g)) → S g) ∧ ((∃ y : Int, 0 ≤ y ∧ y < p.length ∧ y ≠ d ∧ S y ∧ (nA p y = nB p r g ∨ nB p r y = nB p r g)) → S g) := by
          intro g g0 g1 ng
          constructor
          · rintro ⟨y, y0, y1, ny, sy, q | q⟩
            · exact cp y g y0 y1 g0 g1 ((nA_inj par y0 y1 g0 g1).mp q) sy
            · exact absurd q.symm (n_apart par parr hl g0 g1 y0 y1)
          · rintro ⟨y, y0, y1, ny, sy, q | q⟩
            · exact absurd q (n_apart par parr hl y0 y1 g0 g1)
            · exact cq y g y0 y1 g0 g1 ((kq y g y0 y1 g0 g1).mpr (by rw [if_neg ny, if_neg ng]; exact (nB_inj par parr hl y0 y1 g0 g1).mp q)) sy
        have inv : ∀ z, glue (wo p r d.toNat) (nA p x) z → ∃ y : Int, 0 ≤ y ∧ y < p.length ∧ y ≠ d ∧ S y ∧ (nA p y = z ∨ nB p r y = z) := fun z g => by
          refine (glue_keep (S := fun z => ∃ y : Int, 0 ≤ y ∧ y < p.length ∧ y ≠ d ∧ S y ∧ (nA p y = z ∨ nB p r y = z)) (fun t ht => ?_) g).mp ⟨x, x0, x1, c, sx, .inl rfl⟩
          obtain ⟨h, h0, h1, nh, rfl⟩ := wo_of hl ht
          have nh : h ≠ d := by omega
          exact ⟨fun q => ⟨h, h0, h1, nh, (key h h0 h1 nh).1 q, .inr rfl⟩, fun q => ⟨h, h0, h1, nh, (key h h0 h1 nh).2 q, .inl rfl⟩⟩
        have ra := bk_rng par x0 x1
        have rr := bc_ge 0 r
        rcases sp1 (nA p x) (by unfold nA; omega) with g | g
        · obtain ⟨y, y0, y1, ny, sy, q | q⟩ := inv _ g
          · exact cp y d y0 y1 d0 d1 ((nA_inj par y0 y1 d0 d1).mp q) sy
          · exact absurd q.symm (n_apart par parr hl d0 d1 y0 y1)
        · obtain ⟨y, y0, y1, ny, sy, q | q⟩ := inv _ (G.trans _ _ _ g ge)
          · have se := cp y e y0 y1 e0 e1 ((nA_inj par y0 y1 e0 e1).mp q) sy
            exact cq e d e0 e1 d0 d1 ((kq e d e0 e1 d0 d1).mpr (by rw [if_neg ne, if_pos rfl, eb])) se
          · exact absurd q.symm (n_apart par parr hl e0 e1 y0 y1)
    intro S cp cq x y x0 x1 y0 y1 sx
    have sd := main S cp cq x x0 x1 sx
    refine Classical.byContradiction fun sy => ?_
    exact main (fun z => ¬ S z) (fun u v u0 u1 v0 v1 q h g => h (cp v u v0 v1 u0 u1 q.symm g)) (fun u v u0 u1 v0 v1 q h g => h (cq v u v0 v1 u0 u1 q.symm g)) y y0 y1 sy sd
/-- no two moves lead to one -/
theorem moves_unlike (par : Par p) (parr : Par r) (hl : p.length = r.length) {d b e c : Int} (d0 : 0 ≤ d) (d1 : d < p.length) (e0 : 0 ≤ e) (e1 : e < p.length) (nb : b ≠ bk r d) (nc : c ≠ bk r e) (ho : Other p r d b) (h : mv r d b = mv r e c) :
    d = e ∧ b = c := by
  have k : ∀ x y : Int, 0 ≤ x → x < p.length → 0 ≤ y → y < p.length → (((if x = d then b else bk r x) = if y = d then b else bk r y) ↔ (if x = e then c else bk r x) = if y = e then c else bk r y) := fun x y x0 x1 y0 y1 => by
    rw [← bk_set d0 (by omega) x0, ← bk_set d0 (by omega) y0, ← bk_set e0 (by omega) x0, ← bk_set e0 (by omega) y0, ← bk_num x0 (by rw [List.length_set]; omega) y0 (by rw [List.length_set]; omega),
      ← bk_num (q := r.set e.toNat c) x0 (by rw [List.length_set]; omega) y0 (by rw [List.length_set]; omega)]
    have : num (r.set d.toNat b) = num (r.set e.toNat c) := h
    rw [this]
  obtain ⟨f, f0, f1, nf, ef⟩ := other_kept par parr hl d0 d1 ho
  obtain ⟨g, g0, g1, ng, gb, _⟩ := ho
  by_cases q : d = e
  · subst q
    refine ⟨rfl, ?_⟩
    have := (k d g d0 d1 g0 g1).mp (by rw [if_pos rfl, if_neg ng, gb])
    rw [if_pos rfl, if_neg ng, gb] at this
    exact this.symm
  · exfalso
    by_cases fe : f = e
    · subst fe
      have ge : g ≠ f := fun z => nb (by rw [← gb, z, ef])
      have := (k d g d0 d1 g0 g1).mp (by rw [if_pos rfl, if_neg ng, gb])
      rw [if_neg q, if_neg ge, gb] at this
      exact nb this.symm
    · have := (k d f d0 d1 f0 f1).mpr (by rw [if_neg q, if_neg fe, ef])
      rw [if_pos rfl, if_neg nf, ef] at this
      exact nb this
end
end KQ
namespace KQ
open PySem PySem.Spec PyProof.Rows L2 KR KM StX
/-! ### all moves -/
section
variable {p r : List Int}
open Classical in
noncomputable def bsOf (p r : List Int) (d : Int) : List Int := ((List.range (bc 0 r).toNat).map fun b => ((b : Nat) : Int)).filter fun b => decide (b ≠ bk r d ∧ Other p r d b)
theorem up_ints (n : Nat) : ((List.range n).map fun b => ((b : Nat) : Int)).Pairwise (· < ·) := List.pairwise_map.mpr (List.pairwise_lt_range.imp fun h => by omega)
theorem bsOf_up {d : Int} : (bsOf p r d).Pairwise (· < ·) := (up_ints _).filter _
open Classical in
theorem mem_bsOf {d b : Int} : b ∈ bsOf p r d ↔ 0 ≤ b ∧ b < bc 0 r ∧ b ≠ bk r d ∧ Other p r d b := by
  have := bc_ge 0 r
  unfold bsOf
  rw [List.mem_filter, List.mem_map]
  constructor
  · rintro ⟨⟨k, hk, rfl⟩, h⟩
    have := List.mem_range.mp hk
    exact ⟨by omega, by omega, of_decide_eq_true h⟩
  · rintro ⟨h0, h1, h⟩
    exact ⟨⟨b.toNat, List.mem_range.mpr (by omega), by omega⟩, decide_eq_true h⟩
theorem up_nodup {xs : List Int} (h : xs.Pairwise (· < ·)) : xs.Nodup := h.imp fun h e => by omega
theorem up_uniq {xs ys : List Int} (hx : xs.Pairwise (· < ·)) (hy : ys.Pairwise (· < ·)) (h : ∀ x, x ∈ xs ↔ x ∈ ys) : xs = ys :=
  ((List.perm_ext_iff_of_nodup (up_nodup hx) (up_nodup hy)).mpr h).eq_of_pairwise (fun a b _ _ h1 h2 => by omega) hx hy
theorem bsOf_len {d : Int} : (bsOf p r d).length ≤ r.length := by
  have h1 := bc_le 0 r
  have : (bsOf p r d).length ≤ ((List.range (bc 0 r).toNat).map fun b => ((b : Nat) : Int)).length := List.length_filter_le _ _
  rw [List.length_map, List.length_range] at this
  omega
noncomputable def movesUp (p r : List Int) (n : Nat) : List (List Int) := (List.range n).flatMap fun d => (bsOf p r ((d : Nat) : Int)).map (mv r ((d : Nat) : Int))
theorem movesUp_succ (n : Nat) : movesUp p r (n + 1) = movesUp p r n ++ (bsOf p r ((n : Nat) : Int)).map (mv r ((n : Nat) : Int)) := by
  unfold movesUp
  rw [List.range_succ, List.flatMap_append, List.flatMap_singleton]
theorem movesUp_len (n : Nat) : (movesUp p r n).length ≤ n * r.length := by
  induction n with
  | zero => exact Nat.zero_le _
  | succ n ih =>
    have := bsOf_len (p := p) (r := r) (d := ((n : Nat) : Int))
    rw [movesUp_succ, List.length_append, List.length_map, Nat.succ_mul]
    omega
theorem mem_movesUp {n : Nat} {x : List Int} : x ∈ movesUp p r n ↔ ∃ d b : Int, 0 ≤ d ∧ d < n ∧ 0 ≤ b ∧ b < bc 0 r ∧ b ≠ bk r d ∧ Other p r d b ∧ x = mv r d b := by
  unfold movesUp
  rw [List.mem_flatMap]
  constructor
  · rintro ⟨d, hd, hx⟩
    obtain ⟨b, hb, rfl⟩ := List.mem_map.mp hx
    obtain ⟨b0, b1, nb, ho⟩ := mem_bsOf.mp hb
    have := List.mem_range.mp hd
    exact ⟨_, b, by omega, by omega, b0, b1, nb, ho, rfl⟩
  · rintro ⟨d, b, d0, d1, b0, b1, nb, ho, rfl⟩
    have e : ((d.toNat : Nat) : Int) = d := by omega
    refine ⟨d.toNat, List.mem_range.mpr (by omega), List.mem_map.mpr ⟨b, ?_, ?_⟩⟩
    · rw [e]
      exact mem_bsOf.mpr ⟨b0, b1, nb, ho⟩
    · rw [e]
theorem movesUp_nodup (par : Par p) (parr : Par r) (hl : p.length = r.length) : (movesUp p r p.length).Nodup := by
  unfold movesUp List.Nodup
  rw [List.pairwise_flatMap]
  constructor
  · intro d hd
    have hd := List.mem_range.mp hd
    refine List.pairwise_map.mpr ((List.pairwise_and_iff.mpr ⟨bsOf_up, List.pairwise_iff_forall_sublist.mpr fun {a b} s => (⟨s.subset (by simp), s.subset (by simp)⟩ : a ∈ bsOf p r d ∧ b ∈ bsOf p r d)⟩).imp fun {a b} ⟨hlt, ha, hb⟩ e => ?_)
    obtain ⟨_, _, na, oa⟩ := mem_bsOf.mp ha
    obtain ⟨_, _, nb, _⟩ := mem_bsOf.mp hb
    have := (moves_unlike par parr hl (d := (d : Int)) (e := (d : Int)) (by omega) (by omega) (by omega) (by omega) na nb oa e).2
    omega
  · refine (List.pairwise_and_iff.mpr ⟨List.pairwise_lt_range, List.pairwise_iff_forall_sublist.mpr fun {a b} s => (⟨List.mem_range.mp (s.subset (by simp)), List.mem_range.mp (s.subset (by simp))⟩ : a < p.length ∧ b < p.length)⟩).imp fun {d e} ⟨hlt, hd, he⟩ x hx y hy q => ?_
    obtain ⟨a, ha, rfl⟩ := List.mem_map.mp hx
    obtain ⟨b, hb, rfl⟩ := List.mem_map.mp hy
    obtain ⟨_, _, na, oa⟩ := mem_bsOf.mp ha
    obtain ⟨_, _, nb, _⟩ := mem_bsOf.mp hb
    have := (moves_unlike par parr hl (d := (d : Int)) (e := (e : Int)) (by omega) (by omega) (by omega) (by omega) na nb oa q).1
    omega
/-- the moves, in order -/
def Moves (p r : List Int) (rows : List (List Int)) : Prop := rows.Perm (movesUp p r p.length) ∧ rows.Pairwise (fun x y => HT.lexLt y x = false)
end
end KQ
namespace KQ
open PySem PySem.Spec PyProof.Rows L2 KR KM StX
/-! ### what the law hangs on is a tree -/
structure MetC (p ds ls : List Int) (sh i q : Nat) (vs : List V) : Prop where
  a : ∀ (j : Nat) (d : Int), j < i → ds[j]? = some d → ∃ k : Nat, vs[d.toNat]? = some (.int (k : Int)) ∧ k < q ∧ ∀ x : Int, p[d.toNat]? = some x → ls[sh + k]? = ls[x.toNat]?
  b : ∀ k : Nat, k < q → ∃ (j : Nat) (d : Int), j < i ∧ ds[j]? = some d ∧ vs[d.toNat]? = some (.int (k : Int))
  c : ∀ S : Int → Prop, (∀ d e : Int, 0 ≤ d → d < p.length → 0 ≤ e → e < p.length → bk p d = bk p e → S d → S e) →
    (∀ (j j' : Nat) (d e : Int), j < i → j' < i → ds[j]? = some d → ds[j']? = some e → vs[d.toNat]? = vs[e.toNat]? → S d → S e) →
    ∀ d e : Int, 0 ≤ d → d < p.length → 0 ≤ e → e < p.length → ls[(bk p d).toNat]? = ls[(bk p e).toNat]? → S d → S e
  n : dcount ls + i = sh + q
section
variable {p ds ls : List Int} {sh i q : Nat} {vs : List V}
theorem ord_ne {n : Nat} (o : Ord ds n) {i j : Nat} {d e : Int} (hd : ds[i]? = some d) (he : ds[j]? = some e) (ne : i ≠ j) : d.toNat ≠ e.toNat := by
  have hn : d ≠ e := by
    rcases Nat.lt_or_ge i j with h | h
    · exact nodup_at.mp o.nd i j h d e hd he
    · exact fun z => nodup_at.mp o.nd j i (by omega) e d he hd z.symm
  have a := o.at_ d (List.mem_of_getElem? hd)
  have b := o.at_ e (List.mem_of_getElem? he)
  omega
theorem metc_new (hsh : ∀ x ∈ p, 0 ≤ x ∧ x < (sh : Int)) (o : Ord ds p.length) (hl : ls.length = sh + q) (lv : vs.length = p.length) (M : MetC p ds ls sh i q vs) {d x own : Int} (hd : ds[i]? = some d) (hx : p[d.toNat]? = some x) (ho : ls[x.toNat]? = some own) :
    MetC p ds (ls ++ [own]) sh (i + 1) (q + 1) (vs.set d.toNat (.int ((q : Nat) : Int))) := by
  have low : ∀ k, k < sh + q → (ls ++ [own])[k]? = ls[k]? := fun k hk => List.getElem?_append_left (by rw [hl]; exact hk)
  have top : (ls ++ [own])[sh + q]? = some own := by
    rw [List.getElem?_append_right (by rw [hl]; exact Nat.le_refl _), hl, Nat.sub_self]
    rfl
  have dn := o.at_ d (List.mem_of_getElem? hd)
  have old : ∀ (j : Nat) (e : Int), j < i → ds[j]? = some e → (vs.set d.toNat (.int ((q : Nat) : Int)))[e.toNat]? = vs[e.toNat]? := fun j e hj he => List.getElem?_set_ne (ord_ne o hd he (by omega))
  have new : (vs.set d.toNat (.int ((q : Nat) : Int)))[d.toNat]? = some (.int ((q : Nat) : Int)) := List.getElem?_set_self (by omega)
  refine ⟨fun j e hj he => ?_, fun k hk => ?_, fun S cp ca u v u0 u1 v0 v1 hu => ?_, ?_⟩
  · by_cases cj : j = i
    · subst cj
      rw [hd] at he
      obtain rfl := Option.some.inj he
      refine ⟨q, new, by omega, fun y hy => ?_⟩
      rw [hx] at hy
      obtain rfl := Option.some.inj hy
      have := hsh x (List.mem_of_getElem? hx)
      rw [top, low _ (by omega), ho]
    · obtain ⟨k, h1, h2, h3⟩ := M.a j e (by omega) he
      refine ⟨k, by rw [old j e (by omega) he]; exact h1, by omega, fun y hy => ?_⟩
      have := hsh y (List.mem_of_getElem? hy)
      rw [low _ (by omega), low _ (by omega)]
      exact h3 y hy
  · by_cases ck : k = q
    · subst ck
      exact ⟨i, d, by omega, hd, new⟩
    · obtain ⟨j, e, hj, he, hv⟩ := M.b k (by omega)
      exact ⟨j, e, by omega, he, by rw [old j e hj he]; exact hv⟩
  · have a1 := hsh _ (List.mem_of_getElem? (bk_some u0 u1))
    have a2 := hsh _ (List.mem_of_getElem? (bk_some v0 v1))
    rw [low _ (by omega), low _ (by omega)] at hu
    exact M.c S cp (fun j j' d' e hj hj' h1 h2 hv => ca j j' d' e (by omega) (by omega) h1 h2 (by rw [old j d' hj h1, old j' e hj' h2]; exact hv)) u v u0 u1 v0 v1 hu
  · have : dcount (ls ++ [own]) = dcount ls := dcount_same fun z => ⟨fun h => by
      rcases List.mem_append.mp h with h | h
      · exact h
      · rw [List.mem_singleton.mp h]
        exact List.mem_of_getElem? ho, fun h => List.mem_append_left _ h⟩
    have := M.n
    omega
theorem metc_glue (hsh : ∀ x ∈ p, 0 ≤ x ∧ x < (sh : Int)) (o : Ord ds p.length) (hl : ls.length = sh + q) (lv : vs.length = p.length) (M : MetC p ds ls sh i q vs) {d x own two : Int} {k : Nat} (hd : ds[i]? = some d) (hx : p[d.toNat]? = some x)
    (ho : ls[x.toNat]? = some own) (hk : k < q) (ht : ls[sh + k]? = some two) (n : own ≠ two) : MetC p ds (ls.map fun z => if z = two then own else z) sh (i + 1) q (vs.set d.toNat (.int ((k : Nat) : Int))) := by
  have mp : ∀ a, (ls.map fun z => if z = two then own else z)[a]? = (ls[a]?).map fun z => if z = two then own else z := fun a => List.getElem?_map
  have keep : ∀ a b : Nat, ls[a]? = ls[b]? → (ls.map fun z => if z = two then own else z)[a]? = (ls.map fun z => if z = two then own else z)[b]? := fun a b e => by rw [mp, mp, e]
  have dn := o.at_ d (List.mem_of_getElem? hd)
  have old : ∀ (j : Nat) (e : Int), j < i → ds[j]? = some e → (vs.set d.toNat (.int ((k : Nat) : Int)))[e.toNat]? = vs[e.toNat]? := fun j e hj he => List.getElem?_set_ne (ord_ne o hd he (by omega))
  have new : (vs.set d.toNat (.int ((k : Nat) : Int)))[d.toNat]? = some (.int ((k : Nat) : Int)) := List.getElem?_set_self (by omega)
  have bd : bk p d = x := bk_at hx
  refine ⟨fun j e hj he => ?_, fun k' hk' => ?_, fun S cp ca u v u0 u1 v0 v1 hu su => ?_, ?_⟩
  · by_cases cj : j = i
    · subst cj
      rw [hd] at he
      obtain rfl := Option.some.inj he
      refine ⟨k, new, hk, fun y hy => ?_⟩
      rw [hx] at hy
      obtain rfl := Option.some.inj hy
      rw [mp, mp, ht, ho]
      show some (if two = two then own else two) = some (if own = two then own else own)
      rw [if_pos rfl, if_neg n]
    · obtain ⟨k2, h1, h2, h3⟩ := M.a j e (by omega) he
      exact ⟨k2, by rw [old j e (by omega) he]; exact h1, h2, fun y hy => keep _ _ (h3 y hy)⟩
  · obtain ⟨j, e, hj, he, hv⟩ := M.b k' hk'
    exact ⟨j, e, by omega, he, by rw [old j e hj he]; exact hv⟩
  · have tr := M.c S cp fun j j' d' e hj hj' h1 h2 hv => ca j j' d' e (by omega) (by omega) h1 h2 (by rw [old j d' hj h1, old j' e hj' h2]; exact hv)
    obtain ⟨j0, f, hj0, hf, hv⟩ := M.b k hk
    obtain ⟨k2, h1, h2, h3⟩ := M.a j0 f hj0 hf
    have ek : k2 = k := by
      rw [hv] at h1
      have := V.int.inj (Option.some.inj h1)
      omega
    subst ek
    have fn := o.at_ f (List.mem_of_getElem? hf)
    have lf : ls[(bk p f).toNat]? = some two := by rw [← h3 _ (bk_some fn.1 fn.2), ht]
    have ld : ls[(bk p d).toNat]? = some own := by rw [bd, ho]
    have df : S d → S f := ca i j0 d f (by omega) (by omega) hd hf (by rw [new, old j0 f hj0 hf, hv])
    have fd : S f → S d := ca j0 i f d (by omega) (by omega) hf hd (by rw [new, old j0 f hj0 hf, hv])
    rw [mp, mp] at hu
    have a1 := hsh _ (List.mem_of_getElem? (bk_some u0 u1))
    have a2 := hsh _ (List.mem_of_getElem? (bk_some v0 v1))
    obtain ⟨s, hs⟩ := at_some (xs := ls) (i := (bk p u).toNat) (by omega)
    obtain ⟨t, ht2⟩ := at_some (xs := ls) (i := (bk p v).toNat) (by omega)
    rw [hs, ht2] at hu
    have hu : (if s = two then own else s) = (if t = two then own else t) := Option.some.inj hu
    by_cases c1 : s = two
    · by_cases c2 : t = two
      · exact tr u v u0 u1 v0 v1 (by rw [hs, ht2, c1, c2]) su
      · rw [if_pos c1, if_neg c2] at hu
        exact tr d v dn.1 dn.2 v0 v1 (by rw [ld, ht2, hu]) (fd (tr u f u0 u1 fn.1 fn.2 (by rw [hs, lf, c1]) su))
    · by_cases c2 : t = two
      · rw [if_neg c1, if_pos c2] at hu
        exact tr f v fn.1 fn.2 v0 v1 (by rw [lf, ht2, c2]) (df (tr u d u0 u1 dn.1 dn.2 (by rw [hs, ld, hu]) su))
      · rw [if_neg c1, if_neg c2] at hu
        exact tr u v u0 u1 v0 v1 (by rw [hs, ht2, hu]) su
  · have := dcount_merge (List.mem_of_getElem? ho) (List.mem_of_getElem? ht) n
    have := M.n
    omega
theorem metc_tree {rs : List Int} (par : Par p) (hsh : (sh : Int) = bc 0 p) (o : Ord ds p.length) (hl : ls.length = sh + q) (lr : rs.length = p.length) (M : MetC p ds ls sh p.length q (rs.map V.int)) (h1 : dcount ls ≤ 1) : Tree p (num rs) := by
  have pos := List.length_pos_iff.mpr par.ne
  obtain ⟨z0, hz0⟩ := at_some (xs := p) (i := 0) pos
  have z1 := (rg_mem 0 p (Int.le_refl _) par.rg).1 z0 (List.mem_of_getElem? hz0)
  have g2 := par.le
  have lpos : 0 < ls.length := by omega
  have d1 : dcount ls = 1 := by
    have : 0 < dcount ls := by
      have hm := (mem_firsts ls).mpr (KM.getD_mem lpos)
      exact List.length_pos_of_mem hm
    omega
  have all1 := (one_label lpos).mp d1
  have ne : rs ≠ [] := fun e => by
    rw [e] at lr
    exact par.ne (List.length_eq_zero_iff.mp lr.symm)
  have parr : Par (num rs) := num_par ne (by omega)
  rw [tree_conn par parr (by rw [num_len, lr])]
  have vat : ∀ d : Int, 0 ≤ d → d < p.length → (rs.map V.int)[d.toNat]? = some (.int (bk rs d)) := fun d d0 d1 => at_map (bk_some d0 (by omega))
  constructor
  · have hn := M.n
    rw [← dcount_num]
    have : dcount rs = q := by
      have := same_len (firsts_nodup rs) (ys := (List.range q).map fun k => ((k : Nat) : Int)) (up_nodup (up_ints q)) fun x => by
        rw [mem_firsts, mem_bk, List.mem_map]
        constructor
        · rintro ⟨d, d0, d1, rfl⟩
          obtain ⟨j, hj⟩ := List.mem_iff_getElem?.mp (o.all (d := d) d0 (by omega))
          have jl := (List.getElem?_eq_some_iff.mp hj).1
          rw [o.len] at jl
          obtain ⟨k, h1, h2, _⟩ := M.a j d jl hj
          rw [vat d d0 (by omega)] at h1
          exact ⟨k, List.mem_range.mpr h2, (V.int.inj (Option.some.inj h1)).symm⟩
        · rintro ⟨k, hk, rfl⟩
          obtain ⟨j, d, _, hj, hv⟩ := M.b k (List.mem_range.mp hk)
          have dn := o.at_ d (List.mem_of_getElem? hj)
          rw [vat d dn.1 dn.2] at hv
          exact ⟨d, dn.1, by omega, V.int.inj (Option.some.inj hv)⟩
      rw [List.length_map, List.length_range] at this
      exact this
    omega
  · intro S cp cr d e d0 d1 e0 e1
    refine M.c S cp (fun j j' u v hj hj' hu hv heq => ?_) d e d0 d1 e0 e1 ?_
    · have un := o.at_ u (List.mem_of_getElem? hu)
      have vn := o.at_ v (List.mem_of_getElem? hv)
      rw [vat u un.1 un.2, vat v vn.1 vn.2] at heq
      exact cr u v un.1 un.2 vn.1 vn.2 ((bk_num un.1 (by omega) vn.1 (by omega)).mpr (V.int.inj (Option.some.inj heq)))
    · have a1 := bk_rng par d0 d1
      have a2 := bk_rng par e0 e1
      have := all1 (bk p d).toNat (bk p e).toNat (by omega) (by omega)
      rw [List.getD_eq_getElem?_getD, List.getD_eq_getElem?_getD, List.getElem?_eq_getElem (by omega), List.getElem?_eq_getElem (by omega)] at this
      rw [List.getElem?_eq_getElem (by omega), List.getElem?_eq_getElem (by omega)]
      exact congrArg some this
end
end KQ
/-! sorted(rows), rows tuples of whole numbers, any number of them -/
namespace KR
open PySem PySem.Spec PyProof.Rows L2 KM KQ
theorem lex_asym : ∀ x y : List Int, HT.lexLt x y = true → HT.lexLt y x = false
  | [], [], h => by cases h
  | [], _ :: _, _ => rfl
  | _ :: _, [], h => by cases h
  | x :: xs, y :: ys, h => by
    rw [HT.lexLt_cons] at h ⊢
    by_cases e : x = y
    · rw [if_pos e] at h
      rw [if_pos e.symm]
      exact lex_asym xs ys h
    · rw [if_neg e] at h
      rw [if_neg (fun z => e z.symm)]
      have := of_decide_eq_true h
      exact decide_eq_false (by omega)
theorem lex_tr : ∀ x y z : List Int, HT.lexLt y x = false → HT.lexLt z y = false → HT.lexLt z x = false
  | [], [], z, _, h => h
  | [], _ :: _, [], _, h => by cases h
  | [], _ :: _, _ :: _, _, _ => rfl
  | _ :: _, [], _, h, _ => by cases h
  | _ :: _, _ :: _, [], _, h => by cases h
  | x :: xs, y :: ys, z :: zs, h, g => by
    rw [HT.lexLt_cons] at h g ⊢
    by_cases e1 : y = x
    · rw [if_pos e1] at h
      by_cases e2 : z = y
      · rw [if_pos e2] at g
        rw [if_pos (e2.trans e1)]
        exact lex_tr xs ys zs h g
      · rw [if_neg e2] at g
        have := of_decide_eq_false g
        rw [if_neg (by omega)]
        exact decide_eq_false (by omega)
    · rw [if_neg e1] at h
      have a := of_decide_eq_false h
      by_cases e2 : z = y
      · rw [if_neg (by omega)]
        exact decide_eq_false (by omega)
      · rw [if_neg e2] at g
        have b := of_decide_eq_false g
        rw [if_neg (by omega)]
        exact decide_eq_false (by omega)
theorem lex_eq : ∀ x y : List Int, HT.lexLt x y = false → HT.lexLt y x = false → x = y
  | [], [], _, _ => rfl
  | [], _ :: _, h, _ => by cases h
  | _ :: _, [], _, h => by cases h
  | x :: xs, y :: ys, h, g => by
    rw [HT.lexLt_cons] at h g
    by_cases e : x = y
    · rw [if_pos e] at h
      rw [if_pos e.symm] at g
      rw [e, lex_eq xs ys h g]
    · rw [if_neg e] at h
      rw [if_neg (fun z => e z.symm)] at g
      have := of_decide_eq_false h
      have := of_decide_eq_false g
      omega
theorem swo_row (k : Value → List Int) : SrtO.Swo fun v u => HT.lexLt (k v) (k u) := ⟨fun _ _ h => lex_asym _ _ h, fun _ _ _ h g => lex_tr _ _ _ h g⟩
/-- a tuple of whole numbers, at least one -/
def IsRow (h : Heap) (v : Value) (ns : List Int) : Prop := ∃ a o its n, v = .ref a ∧ h.get? a = some o ∧ o.cls = .type "tuple" ∧ o.data = .seq (List.toArray its) n ∧ IntsAre its ns ∧ ns ≠ []
theorem IsRow.keeps {h h' : Heap} {v : Value} {ns : List Int} (p : IsRow h v ns) (k : ∀ b o, h.get? b = some o → o.cls = .type "tuple" → h'.get? b = some o) : IsRow h' v ns := by
  obtain ⟨a, o, its, n, e, ho, hc, hd, hi, ne⟩ := p
  exact ⟨a, o, its, n, e, k _ _ ho hc, hc, hd, hi, ne⟩
section
variable {prog : Program} {w : World} {A : Around} {s : Shared}
theorem kat_ints {fin : Bool} : ∀ {xs ys : List Value} {ns ms : List Int} {i : Nat} {R : Bool}, IntsAre xs ns → IntsAre ys ms →
    (ns.length - ms.length = 0 → ms.length - ns.length = 0 → fin = false) → (ns.length < ms.length → fin = true) → (ms.length < ns.length → fin = false) → R = HT.lexLt ns ms →
    PySem.W.KatLex prog w A true fin (fun r s' => s' = s ∧ r = R) (xs.zip ys) i s
  | [], [], _, _, i, R, .nil, .nil, h0, _, _, e => PySem.W.kat_nil ⟨rfl, by rw [e, h0 rfl rfl]; rfl⟩
  | [], _ :: _, _, _, i, R, .nil, .cons _ _ _, _, h1, _, e => PySem.W.kat_nil ⟨rfl, by rw [e, h1 (by simp)]; rfl⟩
  | _ :: _, [], _, _, i, R, .cons _ _ _, .nil, _, _, h2, e => PySem.W.kat_nil ⟨rfl, by rw [e, h2 (by simp)]; rfl⟩
  | _ :: xs, _ :: ys, _, _, i, R, .cons x t hi, .cons y u hj, h0, h1, h2, e => by
    rw [HT.lexLt_cons] at e
    rw [List.zip_cons_cons]
    refine PySem.W.kat_cons (SeqAt.EqAt.int_int x t y u prog w _ _ ?_)
    refine PySem.W.kat_go (fun e1 => ?_) (fun e1 => ?_)
    · have ex : x = y := by simpa using e1
      rw [if_pos ex] at e
      refine PySem.W.kat_yes (kat_ints hi hj (fun a b => h0 ?_ ?_) (fun a => h1 ?_) (fun a => h2 ?_) e)
      · rw [List.length_cons, List.length_cons]; omega
      · rw [List.length_cons, List.length_cons]; omega
      · rw [List.length_cons, List.length_cons]; omega
      · rw [List.length_cons, List.length_cons]; omega
    · have ex : ¬ x = y := by simpa using e1
      rw [if_neg ex] at e
      by_cases hz : i = 0
      · subst hz
        exact PySem.W.kat_no (oneLt_int ⟨rfl, e.symm⟩)
      · refine PySem.W.kat_no ?_
        rw [show (true && i == 0) = false by simp [hz]]
        exact PySem.W.kat_one _ _ (PyProof.Rows.lt_int (show s = s ∧ decide (x < y) = R from ⟨rfl, e.symm⟩))
theorem row_cmp {vs : List Value} {k : Value → List Int} (hp : ∀ v ∈ vs, IsRow s.heap v (k v)) : SrtO.Cmp prog w A s (tuples' true) (fun p => p.1 ∈ vs) (SrtO.lt2 fun v u => HT.lexLt (k v) (k u)) := by
  intro p q hm hm'
  show wpAny (model prog w) A (keyLt' (tuples' true) p.1 q.1) (fun r s' => s' = s ∧ r = HT.lexLt (k p.1) (k q.1)) (fun _ _ => False) s
  obtain ⟨a, o, its, n, e, ho, hc, hd, hi, ne⟩ := hp _ hm
  obtain ⟨a', o', its', n', e', ho', hc', hd', hi', ne'⟩ := hp _ hm'
  rw [e, e'] at *
  have l1 := hi.length
  have l2 := hi'.length
  refine PySem.W.kat_lt ho hd ho' hd' ?_
  show PySem.W.KatLex prog w A true _ _ (its.zip its') 0 s
  refine kat_ints hi hi' (fun a b => ?_) (fun a => ?_) (fun a => ?_) rfl
  · exact decide_eq_false (by rw [List.size_toArray, List.size_toArray]; omega)
  · exact decide_eq_true (by rw [List.size_toArray, List.size_toArray]; omega)
  · exact decide_eq_false (by rw [List.size_toArray, List.size_toArray]; omega)
theorem row_firsts {h : Heap} {k : Value → List Int} : ∀ {vs : List Value}, (∀ v ∈ vs, IsRow h v (k v)) → ∃ fs : List Value, PySem.W.KatTups h vs fs ∧ fs.length = vs.length ∧ ∀ f ∈ fs, ∃ x t, f = Value.int x t
  | [], _ => ⟨[], PySem.W.KatTups.nil, rfl, fun _ hm => by simp at hm⟩
  | v :: vs, hp => by
    obtain ⟨fs, h1, h2, h3⟩ := row_firsts (vs := vs) fun v' hm => hp v' (List.mem_cons_of_mem _ hm)
    obtain ⟨a, o, its, n, e, ho, hc, hd, hi, ne⟩ := hp v List.mem_cons_self
    subst e
    cases hk : k (.ref a) with
    | nil => exact absurd hk ne
    | cons x r =>
      rw [hk] at hi
      cases hi with
      | cons _ t hr =>
        refine ⟨.int x t :: fs, PySem.W.KatTups.cons ho hc hd rfl h1, by rw [List.length_cons, List.length_cons, h2], fun f hm => ?_⟩
        rcases List.mem_cons.mp hm with rfl | hm
        · exact ⟨x, t, rfl⟩
        · exact h3 f hm
theorem rows_sortable {a : Addr} {vs : List Value} {k : Value → List Int} (h0 : 0 < vs.length) (hp : ∀ v ∈ vs, IsRow s.heap v (k v)) (ha : ∀ o, s.heap.get? a = some o → o.cls ≠ .type "tuple") :
    SrtO.SortableO prog w A s a vs fun v u => HT.lexLt (k v) (k u) := by
  intro h' keep
  have hp' : ∀ v ∈ vs, IsRow h' v (k v) := fun v hm => (hp v hm).keeps fun b o e c => keep b o (fun z => by subst z; exact ha o e c) e
  obtain ⟨fs, h1, h2, h3⟩ := row_firsts hp'
  refine ⟨tuples' true, fun Q E hq => ?_, row_cmp hp'⟩
  refine PySem.W.kat_kind (T := .type "int") h1 (by omega) (fun f hm => ?_) (by rfl) ?_
  · obtain ⟨x, t, rfl⟩ := h3 f hm
    exact PySem.W.Looks.now
  · have e : (Value.type "int" != Value.type "tuple") = true := by first | decide +kernel | rfl | decide
    rw [e]
    exact hq
theorem sorted_rows {l : Addr} {vs : List Value} {k : Value → List Int} {E : Value → Shared → Prop} {Q : Value → Shared → Prop} (hl : s.heap.IsList l vs.toArray) (hz : vs.length ≤ sizeLine) (hp : ∀ v ∈ vs, IsRow s.heap v (k v))
    (h : ∀ (h' : Heap) (d : Addr) (out : List Value), SrtO.Srtd (fun v u => HT.lexLt (k v) (k u)) out → SrtO.Stb (fun v u => HT.lexLt (k v) (k u)) out vs → (∀ b o, s.heap.get? b = some o → h'.get? b = some o) → s.heap.objs.size ≤ d → (∃ n, h'.get? d = some (seqObj "list" out.toArray n)) → Q (.ref d) { s with heap := h' }) :
    wpAny (model prog w) A (call (.builtin "sorted") [.ref l]) Q E s := by
  refine SrtO.sorted_ord (swo_row k) hl hz (fun h2 h₁ a ha kk => ?_) fun out hs hb => ?_
  · refine rows_sortable (s := { s with heap := h₁ }) (by omega) (fun v hm => (hp v hm).keeps fun b o e _ => (kk b o e).2) fun o e => ?_
    have e' : some o = some (seqObj "list" vs.toArray 0) := e.symm.trans ha
    cases e'
    intro c
    exact absurd (Value.type.inj c) (by decide)
  · exact h _ _ out hs hb (fun b o e => PyProof.Rows.sortedAll_old e) (Nat.le_succ _) (PyProof.Rows.sortedAll_at s.heap vs out.toArray)
end
def intsV : List V → List Int
  | [] => []
  | .int i :: r => i :: intsV r
  | _ :: r => intsV r
theorem intsV_map : ∀ xs : List Int, intsV (xs.map V.int) = xs
  | [] => rfl
  | x :: xs => by
    show x :: intsV (xs.map V.int) = x :: xs
    rw [intsV_map xs]
def tupV : Option HO → List Int
  | some (.tup vs) => intsV vs
  | some (.frz _ (.tup vs)) => intsV vs
  | _ => []
/-- the row at a tracked tuple -/
def rowOf (H : Hp) : V → List Int
  | .ref t => tupV (H t)
  | _ => []
theorem rowOf_ti {H : Hp} {t : Addr} {xs : List Int} (h : TI H t xs) : rowOf H (.ref t) = xs := by
  show tupV (H t) = xs
  have h : Rd H t (.tup (xs.map V.int)) := h
  rcases h with h | ⟨o, h⟩
  · rw [h]
    exact intsV_map xs
  · rw [h]
    exact intsV_map xs
def rSortedR (K : PySem.W.Frag) : List V → Hp → VK → Prop := fun vs H Q => ∃ (a : Addr) (ts : List Addr) (rows : List (List Int)), vs = [V.ref a] ∧ SqL K H a (ts.map V.ref) ∧ Its H ts rows ∧ (∀ r ∈ rows, r ≠ []) ∧
  ∀ ts' rows' p, rows'.Perm rows → rows'.Pairwise (fun x y => HT.lexLt y x = false) → Its H ts' rows' → H p = none → Q (.ref p) (upd H p (.lst (ts'.map V.ref)))
def rSortedRM (K : PySem.W.Frag) : List V → Hp → VK → Prop := fun vs H Q => ∃ (a : Addr) (ts : List Addr) (rows : List (List Int)), vs = [V.ref a] ∧ SqL K H a (ts.map V.ref) ∧ Its H ts rows ∧ (∀ r ∈ rows, r ≠ []) ∧
  ∀ ts' rows' p, rows'.Perm rows → rows'.Pairwise (fun x y => HT.lexLt y x = false) → Its H ts' rows' → H p = none → (∀ t ∈ ts', t ∈ ts) → Q (.ref p) (upd H p (.lst (ts'.map V.ref)))
theorem its_rows {H : Hp} : ∀ {ts : List Addr} {rows : List (List Int)}, Its H ts rows → rows = ts.map fun t => rowOf H (.ref t)
  | [], [], _ => rfl
  | [], _ :: _, h => by cases h.1
  | _ :: _, [], h => by cases h.1
  | t :: ts, r :: rows, h => by
    obtain ⟨ys, e, ht⟩ := h.2 0 t rfl
    obtain rfl : r = ys := Option.some.inj e
    rw [List.map_cons, rowOf_ti ht, ← its_rows (ts := ts) (rows := rows) ⟨Nat.succ.inj h.1, fun i u hu => h.2 (i + 1) u hu⟩]
theorem its_of {H : Hp} {ts : List Addr} (h : ∀ t ∈ ts, ∃ xs, TI H t xs) : Its H ts (ts.map fun t => rowOf H (.ref t)) := by
  refine ⟨by rw [List.length_map], fun i t ht => ?_⟩
  obtain ⟨xs, hx⟩ := h t (List.mem_of_getElem? ht)
  exact ⟨xs, by rw [at_map (f := fun t => rowOf H (.ref t)) ht, rowOf_ti hx], hx⟩
theorem intsAre_vals {xs : List Int} : ∀ {us : List Value}, Vals (xs.map V.int) us → IntsAre us xs := fun r => intsAre_of r
section
variable {X : Cx}
theorem cr_sortedR : CallR X (.builtin "sorted") (rSortedR X.K) := by
  intro pins s σ H vs us Q I r h
  obtain ⟨a, ts, rows, rfl, hs, its0, ne, q⟩ := h
  obtain ⟨its, rv, hl, hz⟩ := I.list hs
  obtain ⟨u, rfl, ru⟩ := vals1 r
  obtain rfl : u = Value.ref a := ru
  obtain ⟨e1, e2⟩ := refs_back rv fun x m => by
    obtain ⟨t, _, rfl⟩ := List.mem_map.mp m
    exact ⟨t, rfl⟩
  have hx : ∀ t ∈ ts, ∃ xs, TI H t xs ∧ xs ≠ [] := fun t ht => by
    obtain ⟨i, hi⟩ := List.mem_iff_getElem?.mp ht
    obtain ⟨xs, e, hti⟩ := its0.2 i t hi
    exact ⟨xs, hti, ne xs (List.mem_of_getElem? e)⟩
  have mem : ∀ v ∈ its, ∃ t, v = .ref t ∧ t ∈ ts := fun v hv => by
    obtain ⟨t, rfl⟩ := e2 v hv
    have hm : V.ref t ∈ ts.map V.ref := by rw [e1]; exact List.mem_map.mpr ⟨_, hv, rfl⟩
    obtain ⟨t', ht', e⟩ := List.mem_map.mp hm
    cases e
    exact ⟨t, rfl, ht'⟩
  refine sorted_rows (k := fun u => rowOf H (backV u)) hl.isList (by rw [← rv.length]; exact hz) (fun v hv => ?_) fun h' d out h1 h2 kp hd hn => ?_
  · obtain ⟨t, rfl, ht⟩ := mem v hv
    obtain ⟨xs, hti, nx⟩ := hx t ht
    obtain ⟨its2, r2, ⟨o, ho, hc, n, hdt⟩, _⟩ := I.tuple (TI.seq (K := X.K) hti)
    refine ⟨t, o, its2, n, rfl, ho, hc, hdt, ?_, ?_⟩
    · show IntsAre its2 (rowOf H (.ref t))
      rw [rowOf_ti hti]
      exact intsAre_of r2
    · show rowOf H (.ref t) ≠ []
      rw [rowOf_ti hti]
      exact nx
  · have h3 : ∀ u ∈ out, ∃ t, u = Value.ref t ∧ t ∈ ts := fun u hu => mem u (h2.perm.mem_iff.mp hu)
    obtain ⟨n, hn⟩ := hn
    obtain ⟨ts', hts'⟩ : ∃ ts' : List Addr, out = ts'.map Value.ref := by
      clear hn h2 h1
      induction out with
      | nil => exact ⟨[], rfl⟩
      | cons u out ih =>
        obtain ⟨t, rfl, _⟩ := h3 u List.mem_cons_self
        obtain ⟨ts', e⟩ := ih fun v hv => h3 v (List.mem_cons_of_mem _ hv)
        exact ⟨t :: ts', by rw [e]; rfl⟩
    subst hts'
    have eb : (ts'.map Value.ref).map backV = ts'.map V.ref := by
      rw [List.map_map]
      rfl
    have mts : ∀ t ∈ ts', t ∈ ts := fun t ht => by
      obtain ⟨t', e, hm⟩ := h3 _ (List.mem_map.mpr ⟨t, ht, rfl⟩)
      cases e
      exact hm
    refine ⟨.ref d, upd H d (.lst (ts'.map V.ref)), I.laid (t' := s.toks) kp hd ⟨?_, ts'.map Value.ref, n, by rw [← eb]; exact vals_back fun u hu => (h3 u hu).imp fun _ h => h.1, hn⟩, rfl, ?_⟩
    · have := h2.len
      rw [List.length_map] at this ⊢
      have l2 := rv.length
      omega
    refine q ts' (ts'.map fun t => rowOf H (.ref t)) d ?_ ?_ (its_of fun t ht => (hx t (mts t ht)).imp fun _ h => h.1) (I.hok.fresh hd)
    · have := h2.perm.map fun u => rowOf H (backV u)
      rw [List.map_map] at this
      rw [its_rows its0]
      have e3 : its.map (fun u => rowOf H (backV u)) = ts.map fun t => rowOf H (.ref t) := by
        have := congrArg (List.map (rowOf H)) e1
        rw [List.map_map, List.map_map] at this
        exact this.symm
      rw [e3] at this
      exact this
    · have := List.pairwise_map.mp h1
      exact List.pairwise_map.mpr this
theorem cr_sortedRM : CallR X (.builtin "sorted") (rSortedRM X.K) := by
  intro pins s σ H vs us Q I r h
  obtain ⟨a, ts, rows, rfl, hs, its0, ne, q⟩ := h
  obtain ⟨its, rv, hl, hz⟩ := I.list hs
  obtain ⟨u, rfl, ru⟩ := vals1 r
  obtain rfl : u = Value.ref a := ru
  obtain ⟨e1, e2⟩ := refs_back rv fun x m => by
    obtain ⟨t, _, rfl⟩ := List.mem_map.mp m
    exact ⟨t, rfl⟩
  have hx : ∀ t ∈ ts, ∃ xs, TI H t xs ∧ xs ≠ [] := fun t ht => by
    obtain ⟨i, hi⟩ := List.mem_iff_getElem?.mp ht
    obtain ⟨xs, e, hti⟩ := its0.2 i t hi
    exact ⟨xs, hti, ne xs (List.mem_of_getElem? e)⟩
  have mem : ∀ v ∈ its, ∃ t, v = .ref t ∧ t ∈ ts := fun v hv => by
    obtain ⟨t, rfl⟩ := e2 v hv
    have hm : V.ref t ∈ ts.map V.ref := by rw [e1]; exact List.mem_map.mpr ⟨_, hv, rfl⟩
    obtain ⟨t', ht', e⟩ := List.mem_map.mp hm
    cases e
    exact ⟨t, rfl, ht'⟩
  refine sorted_rows (k := fun u => rowOf H (backV u)) hl.isList (by rw [← rv.length]; exact hz) (fun v hv => ?_) fun h' d out h1 h2 kp hd hn => ?_
  · obtain ⟨t, rfl, ht⟩ := mem v hv
    obtain ⟨xs, hti, nx⟩ := hx t ht
    obtain ⟨its2, r2, ⟨o, ho, hc, n, hdt⟩, _⟩ := I.tuple (TI.seq (K := X.K) hti)
    refine ⟨t, o, its2, n, rfl, ho, hc, hdt, ?_, ?_⟩
    · show IntsAre its2 (rowOf H (.ref t))
      rw [rowOf_ti hti]
      exact intsAre_of r2
    · show rowOf H (.ref t) ≠ []
      rw [rowOf_ti hti]
      exact nx
  · have h3 : ∀ u ∈ out, ∃ t, u = Value.ref t ∧ t ∈ ts := fun u hu => mem u (h2.perm.mem_iff.mp hu)
    obtain ⟨n, hn⟩ := hn
    obtain ⟨ts', hts'⟩ : ∃ ts' : List Addr, out = ts'.map Value.ref := by
      clear hn h2 h1
      induction out with
      | nil => exact ⟨[], rfl⟩
      | cons u out ih =>
        obtain ⟨t, rfl, _⟩ := h3 u List.mem_cons_self
        obtain ⟨ts', e⟩ := ih fun v hv => h3 v (List.mem_cons_of_mem _ hv)
        exact ⟨t :: ts', by rw [e]; rfl⟩
    subst hts'
    have eb : (ts'.map Value.ref).map backV = ts'.map V.ref := by
      rw [List.map_map]
      rfl
    have mts : ∀ t ∈ ts', t ∈ ts := fun t ht => by
      obtain ⟨t', e, hm⟩ := h3 _ (List.mem_map.mpr ⟨t, ht, rfl⟩)
      cases e
      exact hm
    refine ⟨.ref d, upd H d (.lst (ts'.map V.ref)), I.laid (t' := s.toks) kp hd ⟨?_, ts'.map Value.ref, n, by rw [← eb]; exact vals_back fun u hu => (h3 u hu).imp fun _ h => h.1, hn⟩, rfl, ?_⟩
    · have := h2.len
      rw [List.length_map] at this ⊢
      have l2 := rv.length
      omega
    refine q ts' (ts'.map fun t => rowOf H (.ref t)) d ?_ ?_ (its_of fun t ht => (hx t (mts t ht)).imp fun _ h => h.1) (I.hok.fresh hd) mts
    · have := h2.perm.map fun u => rowOf H (backV u)
      rw [List.map_map] at this
      rw [its_rows its0]
      have e3 : its.map (fun u => rowOf H (backV u)) = ts.map fun t => rowOf H (.ref t) := by
        have := congrArg (List.map (rowOf H)) e1
        rw [List.map_map, List.map_map] at this
        exact this.symm
      rw [e3] at this
      exact this
    · have := List.pairwise_map.mp h1
      exact List.pairwise_map.mpr this
end
/-- two orders of the same unlike rows are one -/
theorem rows_uniq : ∀ {xs ys : List (List Int)}, xs.Perm ys → xs.Pairwise (fun x y => HT.lexLt y x = false) → ys.Pairwise (fun x y => HT.lexLt y x = false) → xs = ys := by
  intro xs ys h hx hy
  exact h.eq_of_pairwise (fun a b _ _ h1 h2 => (lex_eq b a h1 h2).symm) hx hy
end KR
namespace KQ
open PySem PySem.Spec PyProof.Rows L2 KR KM StX
/-! ### moves lead from one to all: five doors at most, tried one by one -/
theorem allP_all : ∀ (n : Nat) (r : List Int), Rg 0 r → r.length = n + 1 → r ∈ allP n
  | 0, [x], h, _ => by
    have h1 : 0 ≤ x := h.1
    have h2 : x ≤ 0 := h.2.1
    rw [show x = 0 by omega]
    exact List.mem_singleton.mpr rfl
  | n + 1, r, h, hl => by
    have ne : r ≠ [] := fun e => by rw [e] at hl; cases hl
    rw [← List.dropLast_concat_getLast ne, rg_app] at h
    obtain ⟨h1, h2⟩ := h
    have b0 : 0 ≤ r.getLast ne := h2.1
    have b1 : r.getLast ne ≤ bc 0 r.dropLast := h2.2.1
    refine List.mem_flatMap.mpr ⟨r.dropLast, allP_all n _ h1 (by rw [List.length_dropLast, hl]; rfl), List.mem_map.mpr ⟨(r.getLast ne).toNat, List.mem_range.mpr (by omega), ?_⟩⟩
    rw [show (((r.getLast ne).toNat : Nat) : Int) = r.getLast ne by omega, List.dropLast_concat_getLast ne]
theorem allP_up : ∀ n : Fin 5, (allP n.val).Pairwise fun x y => HT.lexLt x y = true := by decide +kernel
def labs : List (Nat × Nat) → List Nat → Bool
  | [], _ => true
  | t :: ts, L => if L.getD t.1 0 = L.getD t.2 0 then false else labs ts (L.map fun z => if z = L.getD t.2 0 then L.getD t.1 0 else z)
theorem labs_ok {M : Nat} : ∀ (ts pre : List (Nat × Nat)) (L : List Nat), (∀ t ∈ ts, t.1 < M ∧ t.2 < M) → L.length = M → (∀ x y, x < M → y < M → (L.getD x 0 = L.getD y 0 ↔ glue pre x y)) →
    (labs ts L = true ↔ ∀ i t, ts[i]? = some t → ¬ glue (pre ++ ts.take i) t.1 t.2)
  | [], pre, L, _, _, _ => ⟨fun _ i t h => by simp at h, fun _ => rfl⟩
  | t :: ts, pre, L, hb, hl, hg => by
    have ⟨ha, hbb⟩ := hb t List.mem_cons_self
    by_cases e : L.getD t.1 0 = L.getD t.2 0
    · rw [show labs (t :: ts) L = false by unfold labs; rw [if_pos e]]
      exact ⟨fun h => (by cases h), fun h => absurd ((hg _ _ ha hbb).mp e) (by have := h 0 t rfl; rwa [List.take_zero, List.append_nil] at this)⟩
    · rw [show labs (t :: ts) L = labs ts (L.map fun z => if z = L.getD t.2 0 then L.getD t.1 0 else z) by
        conv => lhs; unfold labs
        rw [if_neg e]]
      have gm : ∀ x, x < M → (L.map fun z => if z = L.getD t.2 0 then L.getD t.1 0 else z).getD x 0 = if L.getD x 0 = L.getD t.2 0 then L.getD t.1 0 else L.getD x 0 := fun x hx => by
        rw [List.getD_eq_getElem?_getD, List.getElem?_map, List.getElem?_eq_getElem (by omega), List.getD_eq_getElem?_getD (l := L) (i := x), List.getElem?_eq_getElem (by omega)]
        rfl
      rw [labs_ok ts (pre ++ [t]) _ (fun u hu => hb u (List.mem_cons_of_mem _ hu)) (by rw [List.length_map, hl]) fun x y hx hy => ?_]
      · constructor
        · intro h i u hu
          cases i with
          | zero =>
            obtain rfl := Option.some.inj hu
            rw [List.take_zero, List.append_nil]
            exact fun g => e ((hg _ _ ha hbb).mpr g)
          | succ i =>
            have := h i u hu
            rwa [List.append_assoc, List.singleton_append] at this
        · intro h i u hu
          have := h (i + 1) u hu
          rw [List.append_assoc, List.singleton_append]
          exact this
      · rw [gm x hx, gm y hy, glue_snoc]
        have g := tie_labels (L := fun x => ((L.getD x 0 : Nat) : Int)) (L' := fun x => (((if L.getD x 0 = L.getD t.2 0 then L.getD t.1 0 else L.getD x 0) : Nat) : Int)) (R := glue pre) (a := t.1) (b := t.2) (S := fun x => x < M)
          (fun x y hx hy => by rw [← hg x y hx hy]; omega) ha hbb (fun y hy => by
            show (((if L.getD y 0 = L.getD t.2 0 then L.getD t.1 0 else L.getD y 0) : Nat) : Int) = if ((L.getD y 0 : Nat) : Int) = ((L.getD t.2 0 : Nat) : Int) then ((L.getD t.1 0 : Nat) : Int) else ((L.getD y 0 : Nat) : Int)
            by_cases c : L.getD y 0 = L.getD t.2 0
            · rw [if_pos c, if_pos (congrArg _ c)]
            · rw [if_neg c, if_neg (by omega)]) x y hx hy
        rw [← g]
        exact ⟨fun q => congrArg _ q, fun q => Int.ofNat.inj q⟩
def treeB (p r : List Int) : Bool := decide (bc 0 p + bc 0 r = p.length + 1) && labs (tiesOf p r) (List.range (bc 0 p + bc 0 r).toNat)
theorem treeB_ok {p r : List Int} (hp : Rg 0 p) (hr : Rg 0 r) : treeB p r = true ↔ Tree p r := by
  unfold treeB Tree
  rw [Bool.and_eq_true, decide_eq_true_iff, noRing_loop]
  refine and_congr_right fun _ => ?_
  rw [labs_ok (M := (bc 0 p + bc 0 r).toNat) (tiesOf p r) [] _ (ties_rng hp hr) List.length_range fun x y hx hy => ?_]
  · exact Iff.rfl
  · have e : ∀ x, x < (bc 0 p + bc 0 r).toNat → (List.range (bc 0 p + bc 0 r).toNat).getD x 0 = x := fun x hx => by
      rw [List.getD_eq_getElem?_getD, List.getElem?_range hx]
      rfl
    rw [e x hx, e y hy]
    exact Iff.rfl
def movesB (p r : List Int) : List (List Int) := (List.range p.length).flatMap fun d => ((List.range (bc 0 r).toNat).filter fun b => decide (((b : Nat) : Int) ≠ bk r ((d : Nat) : Int)) && treeB p (mv r ((d : Nat) : Int) ((b : Nat) : Int))).map fun b => mv r ((d : Nat) : Int) ((b : Nat) : Int)
def put (seen acc : List (List Int)) (y : List Int) : List (List Int) := if y ∈ seen then acc else if y ∈ acc then acc else acc ++ [y]
def reach (p : List Int) : Nat → List (List Int) → List (List Int) → List (List Int)
  | 0, done, todo => done ++ todo
  | _ + 1, done, [] => done
  | f + 1, done, x :: todo => reach p f (x :: done) ((movesB p x).foldl (put (x :: done)) todo)
def connB (m : Nat) : Bool := (allP m).all fun p => match (allP m).filter (treeB p) with
  | [] => true
  | r0 :: rest => (r0 :: rest).all fun r => decide (r ∈ reach p 200 [] [r0])
theorem conn_ok : ∀ m : Fin 5, connB m.val = true := by decide +kernel
theorem put_in {S : List Int → Prop} {seen acc : List (List Int)} {y : List Int} (ha : ∀ x ∈ acc, S x) (hy : S y) : ∀ x ∈ put seen acc y, S x := by
  unfold put
  intro x hx
  split at hx
  · exact ha x hx
  · split at hx
    · exact ha x hx
    · rcases List.mem_append.mp hx with h | h
      · exact ha x h
      · rw [List.mem_singleton.mp h]
        exact hy
theorem puts_in {S : List Int → Prop} {seen : List (List Int)} : ∀ (ys acc : List (List Int)), (∀ x ∈ acc, S x) → (∀ y ∈ ys, S y) → ∀ x ∈ ys.foldl (put seen) acc, S x
  | [], acc, ha, _, x, hx => ha x hx
  | y :: ys, acc, ha, hy, x, hx => puts_in ys (put seen acc y) (put_in ha (hy y List.mem_cons_self)) (fun z hz => hy z (List.mem_cons_of_mem _ hz)) x hx
theorem reach_in {p : List Int} {S : List Int → Prop} (cl : ∀ x, S x → ∀ y ∈ movesB p x, S y) : ∀ (f : Nat) (done todo : List (List Int)), (∀ x ∈ done, S x) → (∀ x ∈ todo, S x) → ∀ y ∈ reach p f done todo, S y
  | 0, done, todo, hd, ht, y, hy => (List.mem_append.mp hy).elim (hd y) (ht y)
  | _ + 1, done, [], hd, _, y, hy => hd y hy
  | f + 1, done, x :: todo, hd, ht, y, hy => by
    have sx := ht x List.mem_cons_self
    exact reach_in cl f (x :: done) ((movesB p x).foldl (put (x :: done)) todo) (fun z hz => (List.mem_cons.mp hz).elim (fun e => e ▸ sx) (hd z)) (puts_in _ _ (fun z hz => ht z (List.mem_cons_of_mem _ hz)) (cl x sx)) y hy
/-- one move -/
def Step (p x y : List Int) : Prop := ∃ d b : Int, 0 ≤ d ∧ d < x.length ∧ 0 ≤ b ∧ b < bc 0 x ∧ b ≠ bk x d ∧ y = mv x d b ∧ Tree p y
theorem step_of {p x y : List Int} (par : Par p) (parx : Par x) (hl : p.length = x.length) (h : y ∈ movesB p x) : Step p x y := by
  obtain ⟨d, hd, hy⟩ := List.mem_flatMap.mp h
  obtain ⟨b, hb, rfl⟩ := List.mem_map.mp hy
  obtain ⟨h1, h2⟩ := List.mem_filter.mp hb
  have hd := List.mem_range.mp hd
  have h1 := List.mem_range.mp h1
  obtain ⟨h3, h4⟩ := Bool.and_eq_true_iff.mp h2
  exact ⟨_, _, by omega, by omega, by omega, by omega, of_decide_eq_true h3, rfl, (treeB_ok par.rg (mv_par parx).rg).mp h4⟩
theorem step_back {p x y : List Int} (par : Par p) (parx : Par x) (hl : p.length = x.length) (tr : Tree p x) (h : Step p x y) : Step p y x := by
  obtain ⟨d, b, d0, d1, b0, b1, nb, rfl, ty⟩ := h
  have ho := (move_iff par parx hl tr d0 (by omega) b0 b1 nb).mp ty
  obtain ⟨f, f0, f1, nf, ef⟩ := other_kept par parx hl d0 (by omega) ho
  have py := mv_par parx (d := d) (b := b)
  have kq : ∀ u v : Int, 0 ≤ u → u < x.length → 0 ≤ v → v < x.length → (bk (mv x d b) u = bk (mv x d b) v ↔ (if u = d then b else bk x u) = if v = d then b else bk x v) := fun u v u0 u1 v0 v1 => by
    unfold mv
    rw [bk_num u0 (by rw [List.length_set]; omega) v0 (by rw [List.length_set]; omega), bk_set d0 (by omega) u0, bk_set d0 (by omega) v0]
  have rf := bk_rng py f0 (by rw [mv_len]; omega)
  have fy : ∀ e : Int, 0 ≤ e → e < x.length → e ≠ d → (bk (mv x d b) f = bk (mv x d b) e ↔ bk x f = bk x e) := fun e e0 e1 ne => by
    rw [kq f e f0 (by omega) e0 e1, if_neg nf, if_neg ne]
  refine ⟨d, bk (mv x d b) f, d0, by rw [mv_len]; exact d1, rf.1, rf.2, fun e => ?_, ?_, tr⟩
  · rw [kq f d f0 (by omega) d0 d1, if_neg nf, if_pos rfl] at e
    exact nb (by rw [← e, ef])
  · refine (num_self parx).symm.trans (num_congr (by rw [List.length_set, mv_len]) fun i j u v u' v' hu hv hu' hv' => ?_)
    have il := (List.getElem?_eq_some_iff.mp hu).1
    have jl := (List.getElem?_eq_some_iff.mp hv).1
    have a1 : bk x (i : Int) = u := bk_at (by rw [Int.toNat_natCast]; exact hu)
    have a2 : bk x (j : Int) = v := bk_at (by rw [Int.toNat_natCast]; exact hv)
    have a3 := bk_at (p := (mv x d b).set d.toNat (bk (mv x d b) f)) (d := (i : Int)) (by rw [Int.toNat_natCast]; exact hu')
    have a4 := bk_at (p := (mv x d b).set d.toNat (bk (mv x d b) f)) (d := (j : Int)) (by rw [Int.toNat_natCast]; exact hv')
    rw [bk_set d0 (by rw [mv_len]; exact d1) (by omega)] at a3 a4
    rw [← a1, ← a2, ← a3, ← a4]
    by_cases c1 : (i : Int) = d
    · by_cases c2 : (j : Int) = d
      · rw [if_pos c1, if_pos c2, c1, c2]
        exact ⟨fun _ => rfl, fun _ => rfl⟩
      · rw [if_pos c1, if_neg c2, c1, fy _ (by omega) (by omega) c2, ef]
    · by_cases c2 : (j : Int) = d
      · rw [if_neg c1, if_pos c2, c2]
        have := fy _ (by omega) (by omega) c1
        rw [ef] at this
        exact ⟨fun e => (this.mpr e.symm).symm, fun e => (this.mp e.symm).symm⟩
      · rw [if_neg c1, if_neg c2, kq _ _ (by omega) (by omega) (by omega) (by omega), if_neg c1, if_neg c2]
/-- what holds one and is closed under moves holds all -/
theorem all_reached {p r : List Int} (par : Par p) (parr : Par r) (hl : p.length = r.length) (h5 : p.length ≤ 5) (tr : Tree p r) {S : List Int → Prop} (sr : S r) (cl : ∀ x y, Par x → x.length = p.length → Tree p x → S x → Step p x y → S y) :
    ∀ q, Par q → q.length = p.length → Tree p q → S q := by
  have pos := List.length_pos_iff.mpr par.ne
  have hc := conn_ok ⟨p.length - 1, by omega⟩
  have hin : ∀ q : List Int, Par q → q.length = p.length → q ∈ allP (p.length - 1) := fun q pq lq => allP_all _ q pq.rg (by omega)
  have hpar : ∀ q ∈ allP (p.length - 1), Par q ∧ q.length = p.length := fun q hq => by
    obtain ⟨h1, h2⟩ := allP_ok _ q hq
    have e : q.length = p.length := by omega
    exact ⟨⟨fun z => par.ne (by rw [z] at e; exact List.length_eq_zero_iff.mp e.symm), by have := par.le; omega, h1⟩, e⟩
  have hp := List.all_eq_true.mp (show (allP (p.length - 1)).all _ = true from hc) p (hin p par rfl)
  have hdue : ∀ q, q ∈ (allP (p.length - 1)).filter (treeB p) ↔ Par q ∧ q.length = p.length ∧ Tree p q := fun q => by
    rw [List.mem_filter]
    constructor
    · rintro ⟨h1, h2⟩
      obtain ⟨h3, h4⟩ := hpar q h1
      exact ⟨h3, h4, (treeB_ok par.rg h3.rg).mp h2⟩
    · rintro ⟨h3, h4, h2⟩
      exact ⟨hin q h3 h4, (treeB_ok par.rg h3.rg).mpr h2⟩
  cases hd : (allP (p.length - 1)).filter (treeB p) with
  | nil =>
    have := (hdue r).mpr ⟨parr, hl.symm, tr⟩
    rw [hd] at this
    cases this
  | cons r0 rest =>
    rw [hd] at hp hdue
    have hp : (r0 :: rest).all (fun r => decide (r ∈ reach p 200 [] [r0])) = true := hp
    have got : ∀ q, Par q → q.length = p.length → Tree p q → q ∈ reach p 200 [] [r0] := fun q a b c => of_decide_eq_true (List.all_eq_true.mp hp q ((hdue q).mpr ⟨a, b, c⟩))
    have r0ok := (hdue r0).mp List.mem_cons_self
    have main : ∀ S' : List Int → Prop, (∀ x y, Par x → x.length = p.length → Tree p x → S' x → Step p x y → S' y) → S' r0 → ∀ q, Par q → q.length = p.length → Tree p q → S' q := fun S' cl' s0 q a b c => by
      refine (reach_in (p := p) (S := fun x => Par x ∧ x.length = p.length ∧ Tree p x ∧ S' x) (fun x ⟨x1, x2, x3, x4⟩ y hy => ?_) 200 [] [r0] (fun x hx => by cases hx) (fun x hx => by rw [List.mem_singleton.mp hx]; exact ⟨r0ok.1, r0ok.2.1, r0ok.2.2, s0⟩) q (got q a b c)).2.2.2
      have st := step_of par x1 x2.symm hy
      have st2 := st
      obtain ⟨d, b, _, _, _, _, _, rfl, ty⟩ := st
      exact ⟨mv_par x1, by rw [mv_len, x2], ty, cl' x _ x1 x2 x3 x4 st2⟩
    by_cases s0 : S r0
    · exact main S cl s0
    · refine absurd sr (main (fun x => ¬ S x) (fun x y x1 x2 x3 nx st sy => nx ?_) s0 r parr hl.symm tr)
      have back := step_back par x1 x2.symm x3 st
      obtain ⟨d, b, _, _, _, _, _, rfl, ty⟩ := st
      exact cl _ x (mv_par x1) (by rw [mv_len, x2]) ty sy back
end KQ
/-! partings between two: all of them in order, their number, places -/
namespace KQ
open PySem PySem.Spec PyProof.Rows L2 KR KM StX
/-! ### rows in order -/
theorem lex_of {xs ys : List Int} (hl : xs.length = ys.length) (h : HT.lexLt xs ys = true) : ∃ (i : Nat) (x y : Int), (∀ j, j < i → xs[j]? = ys[j]?) ∧ xs[i]? = some x ∧ ys[i]? = some y ∧ x < y := by
  induction xs generalizing ys with
  | nil =>
    cases ys with
    | nil => cases h
    | cons y ys => cases hl
  | cons x xs ih =>
    cases ys with
    | nil => cases hl
    | cons y ys =>
      rw [HT.lexLt_cons] at h
      by_cases e : x = y
      · rw [if_pos e] at h
        obtain ⟨i, a, b, h1, h2, h3, h4⟩ := ih (Nat.succ.inj hl) h
        refine ⟨i + 1, a, b, fun j hj => ?_, h2, h3, h4⟩
        cases j with
        | zero => rw [e]; rfl
        | succ j => exact h1 j (by omega)
      · rw [if_neg e] at h
        exact ⟨0, x, y, fun j hj => absurd hj (Nat.not_lt_zero _), rfl, rfl, of_decide_eq_true h⟩
theorem lex_mk {xs ys : List Int} {i : Nat} {x y : Int} (h1 : ∀ j, j < i → xs[j]? = ys[j]?) (h2 : xs[i]? = some x) (h3 : ys[i]? = some y) (h4 : x < y) : HT.lexLt xs ys = true := by
  induction xs generalizing ys i with
  | nil => cases h2
  | cons a xs ih =>
    cases ys with
    | nil => cases h3
    | cons b ys =>
      rw [HT.lexLt_cons]
      cases i with
      | zero =>
        obtain rfl : a = x := Option.some.inj h2
        obtain rfl : b = y := Option.some.inj h3
        rw [if_neg (by omega)]
        exact decide_eq_true h4
      | succ i =>
        have e : a = b := Option.some.inj (h1 0 (by omega))
        rw [if_pos e]
        exact ih (fun j hj => h1 (j + 1) (by omega)) h2 h3
/-- the finer one isn't less -/
theorem finer_lex {a b : List Int} (hl : a.length = b.length) (ra : Rg 0 a) (rb : Rg 0 b) (f : Finer a b) : HT.lexLt a b = false := by
  cases e : HT.lexLt a b with
  | false => rfl
  | true =>
    obtain ⟨d, x, y, h1, h2, h3, h4⟩ := lex_of hl e
    have et : a.take d = b.take d := List.ext_getElem? fun j => by
      by_cases c : j < d
      · rw [List.getElem?_take_of_lt c, List.getElem?_take_of_lt c]
        exact h1 j c
      · rw [List.getElem?_take_eq_none (by omega), List.getElem?_take_eq_none (by omega)]
    have by1 := (rg_at rb h3).2
    have bx := (rg_at ra h2).1
    rw [← et] at by1
    have rt : Rg 0 (a.take d) := by
      have := ra
      rw [← List.take_append_drop d a, rg_app] at this
      exact this.1
    obtain ⟨j, hj, ej⟩ := List.getElem_of_mem ((rg_mem 0 (a.take d) (Int.le_refl _) rt).2 x bx (by omega))
    have g : (a.take d)[j]? = some x := by rw [List.getElem?_eq_getElem hj, ej]
    rw [List.length_take] at hj
    rw [List.getElem?_take_of_lt (by omega)] at g
    have g2 := h1 j (by omega)
    rw [g] at g2
    have := f j d x x y g h2 g2.symm h3
    omega
/-! ### how many -/
def gr : Nat → Nat → Nat
  | 0, _ => 1
  | l + 1, m => m * gr l m + gr l (m + 1)
/-- the blocks with a label so far -/
def olds (ls : List Int) (h : Int) : List Nat := (List.range ls.length).filter fun b => decide (ls[b]? = some h)
theorem olds_snoc (ls : List Int) (x h : Int) : olds (ls ++ [x]) h = olds ls h ++ if x = h then [ls.length] else [] := by
  unfold olds
  rw [List.length_append, show ls.length + [x].length = ls.length + 1 from rfl, List.range_succ, List.filter_append]
  congr 1
  · refine List.filter_congr fun b hb => ?_
    rw [List.getElem?_append_left (List.mem_range.mp hb)]
  · rw [List.filter_cons, List.getElem?_append_right (Nat.le_refl _), Nat.sub_self]
    by_cases e : x = h
    · rw [if_pos e, e]
      simp
    · rw [if_neg e]
      have : ¬ (some x = some h) := fun z => e (Option.some.inj z)
      simp [e]
theorem mem_olds {ls : List Int} {h : Int} {b : Nat} : b ∈ olds ls h ↔ ls[b]? = some h := by
  unfold olds
  rw [List.mem_filter, List.mem_range, decide_eq_true_iff]
  exact ⟨fun z => z.2, fun z => ⟨(List.getElem?_eq_some_iff.mp z).1, z⟩⟩
theorem olds_len (h : Int) : ∀ n (ls : List Int), ls.length = n → (olds ls h).length = ls.count h
  | 0, ls, e => by
    rw [List.eq_nil_of_length_eq_zero e]
    rfl
  | n + 1, ls, e => by
    obtain ⟨l', x, rfl⟩ : ∃ l' x, ls = l' ++ [x] := ⟨ls.dropLast, ls.getLast (fun z => by rw [z] at e; cases e), (List.dropLast_concat_getLast _).symm⟩
    rw [olds_snoc, List.length_append, olds_len h n l' (by simpa using e), List.count_append]
    by_cases c : x = h
    · rw [if_pos c, c]
      simp
    · rw [if_neg c]
      simp [c]
/-- a block's label, put behind where it is new -/
def stp (ls : List Int) (h b : Int) : List Int := if b = (ls.length : Int) then ls ++ [h] else ls
def picks (ls : List Int) (h : Int) : List Int := (olds ls h).map (fun b => ((b : Nat) : Int)) ++ [((ls.length : Nat) : Int)]
def comp : List Int → List Int → List (List Int)
  | [], _ => [[]]
  | h :: hs, ls => (picks ls h).flatMap fun b => (comp hs (stp ls h b)).map (b :: ·)
theorem mem_picks {ls : List Int} {h b : Int} : b ∈ picks ls h ↔ 0 ≤ b ∧ (ls[b.toNat]? = some h ∨ b = (ls.length : Int)) := by
  unfold picks
  rw [List.mem_append, List.mem_map, List.mem_singleton]
  constructor
  · rintro (⟨n, hn, rfl⟩ | rfl)
    · exact ⟨by omega, .inl (by rw [Int.toNat_natCast]; exact mem_olds.mp hn)⟩
    · exact ⟨by omega, .inr rfl⟩
  · rintro ⟨h0, h1 | h1⟩
    · exact .inl ⟨b.toNat, mem_olds.mpr h1, by omega⟩
    · exact .inr h1
theorem picks_up (ls : List Int) (h : Int) : (picks ls h).Pairwise (· < ·) := by
  unfold picks
  rw [List.pairwise_append]
  refine ⟨?_, List.pairwise_singleton _ _, fun a ha b hb => ?_⟩
  · rw [List.pairwise_map]
    refine (List.pairwise_lt_range (n := ls.length)).filter _ |>.imp fun {a b} hab => ?_
    omega
  · obtain ⟨n, hn, rfl⟩ := List.mem_map.mp ha
    have := (List.getElem?_eq_some_iff.mp (mem_olds.mp hn)).1
    rw [List.mem_singleton.mp hb]
    omega
theorem comp_width : ∀ (hs ls : List Int), ∀ cs ∈ comp hs ls, cs.length = hs.length
  | [], ls, cs, h => by rw [List.mem_singleton.mp h]
  | h :: hs, ls, cs, hc => by
    obtain ⟨b, hb, h2⟩ := List.mem_flatMap.mp hc
    obtain ⟨c, h3, rfl⟩ := List.mem_map.mp h2
    rw [List.length_cons, List.length_cons, comp_width hs _ c h3]
theorem comp_up : ∀ (hs ls : List Int), (comp hs ls).Pairwise fun x y => HT.lexLt x y = true
  | [], ls => List.pairwise_singleton _ _
  | h :: hs, ls => by
    unfold comp
    rw [List.pairwise_flatMap]
    refine ⟨fun b hb => ?_, (picks_up ls h).imp fun {a b} hab x hx y hy => ?_⟩
    · rw [List.pairwise_map]
      refine (comp_up hs _).imp fun {x y} hxy => ?_
      rw [HT.lexLt_cons, if_pos rfl]
      exact hxy
    · obtain ⟨x, _, rfl⟩ := List.mem_map.mp hx
      obtain ⟨y, _, rfl⟩ := List.mem_map.mp hy
      rw [HT.lexLt_cons, if_neg (by omega)]
      exact decide_eq_true hab
def prd (f : Int → Nat) : List Int → Nat
  | [] => 1
  | x :: r => f x * prd f r
theorem prd_congr {f g : Int → Nat} : ∀ {D : List Int}, (∀ x ∈ D, f x = g x) → prd f D = prd g D
  | [], _ => rfl
  | x :: r, h => by
    unfold prd
    rw [h x List.mem_cons_self, prd_congr fun y hy => h y (List.mem_cons_of_mem _ hy)]
theorem prd_split {f : Int → Nat} {h : Int} : ∀ {D : List Int}, h ∈ D → prd f D = f h * prd f (D.erase h)
  | [], m => by cases m
  | x :: r, m => by
    by_cases e : x = h
    · rw [e, List.erase_cons_head]
      rfl
    · rw [List.erase_cons_tail (by simpa using e)]
      unfold prd
      rw [prd_split (f := f) (D := r) ((List.mem_cons.mp m).resolve_left fun z => e z.symm), ← Nat.mul_assoc, ← Nat.mul_assoc, Nat.mul_comm (f x)]
theorem prd_one {f : Int → Nat} : ∀ {D : List Int}, (∀ x ∈ D, f x = 1) → prd f D = 1
  | [], _ => rfl
  | x :: r, h => by
    unfold prd
    rw [h x List.mem_cons_self, prd_one fun y hy => h y (List.mem_cons_of_mem _ hy)]
theorem flat_len {L : List (List Int)} {f : Nat → List Int → List Int} : ∀ l : List Nat, (l.flatMap fun b => L.map (f b)).length = l.length * L.length
  | [] => by simp
  | b :: r => by
    rw [List.flatMap_cons, List.length_append, flat_len r, List.length_map, List.length_cons, Nat.succ_mul, Nat.add_comm]
theorem flat_eq {f g : Nat → List (List Int)} : ∀ {l : List Nat}, (∀ b ∈ l, f b = g b) → l.flatMap f = l.flatMap g
  | [], _ => rfl
  | b :: r, h => by
    rw [List.flatMap_cons, List.flatMap_cons, h b List.mem_cons_self, flat_eq fun x hx => h x (List.mem_cons_of_mem _ hx)]
theorem comp_step (h : Int) (hs ls : List Int) : (comp (h :: hs) ls).length = ls.count h * (comp hs ls).length + (comp hs (ls ++ [h])).length := by
  show ((picks ls h).flatMap _).length = _
  unfold picks
  rw [List.flatMap_append, List.length_append, List.flatMap_map, List.flatMap_singleton, List.length_map]
  have e1 : stp ls h ((ls.length : Nat) : Int) = ls ++ [h] := if_pos rfl
  rw [e1]
  congr 1
  rw [← olds_len h ls.length ls rfl, ← flat_len (f := fun b cs => ((b : Nat) : Int) :: cs)]
  congr 1
  refine flat_eq fun b hb => ?_
  have := (List.getElem?_eq_some_iff.mp (mem_olds.mp hb)).1
  rw [show stp ls h ((b : Nat) : Int) = ls from if_neg (by omega)]
/-- their number is a product -/
theorem comp_prd {D : List Int} (nd : D.Nodup) : ∀ (hs ls : List Int), (∀ x ∈ hs, x ∈ D) → (comp hs ls).length = prd (fun x => gr (hs.count x) (ls.count x)) D
  | [], ls, _ => (prd_one fun x _ => rfl).symm
  | h :: hs, ls, m => by
    have mh := m h List.mem_cons_self
    have m' : ∀ x ∈ hs, x ∈ D := fun x hx => m x (List.mem_cons_of_mem _ hx)
    rw [comp_step, comp_prd nd hs ls m', comp_prd nd hs (ls ++ [h]) m', prd_split mh, prd_split (f := fun x => gr (hs.count x) ((ls ++ [h]).count x)) mh, prd_split (f := fun x => gr ((h :: hs).count x) (ls.count x)) mh]
    have ne : ∀ x ∈ D.erase h, x ≠ h := fun x hx e => by
      rw [e] at hx
      exact (List.Nodup.mem_erase_iff nd).mp hx |>.1 rfl
    rw [prd_congr (f := fun x => gr (hs.count x) ((ls ++ [h]).count x)) (g := fun x => gr (hs.count x) (ls.count x)) fun x hx => by
        rw [List.count_append, List.count_singleton, if_neg (by simpa using fun e : h = x => ne x hx e.symm), Nat.add_zero],
      prd_congr (f := fun x => gr ((h :: hs).count x) (ls.count x)) (g := fun x => gr (hs.count x) (ls.count x)) fun x hx => by
        rw [List.count_cons, if_neg (by simpa using fun e : h = x => ne x hx e.symm), Nat.add_zero]]
    rw [List.count_cons_self, List.count_append, List.count_singleton, if_pos (by simp)]
    show _ = (ls.count h * gr (hs.count h) (ls.count h) + gr (hs.count h) (ls.count h + 1)) * _
    rw [Nat.add_mul, Nat.mul_assoc]
/-! ### the blocks chosen -/
def Ok : List Int → List Int → List Int → Prop
  | [], _, [] => True
  | h :: hs, ls, b :: cs => b ∈ picks ls h ∧ Ok hs (stp ls h b) cs
  | _, _, _ => False
theorem mem_comp : ∀ {hs ls cs : List Int}, cs ∈ comp hs ls ↔ Ok hs ls cs
  | [], ls, [] => ⟨fun _ => trivial, fun _ => List.mem_singleton_self _⟩
  | [], ls, b :: cs => ⟨fun h => (by cases List.mem_singleton.mp h), fun h => (h : False).elim⟩
  | h :: hs, ls, [] => by
    constructor
    · intro z
      obtain ⟨b, _, z⟩ := List.mem_flatMap.mp z
      obtain ⟨c, _, e⟩ := List.mem_map.mp z
      cases e
    · intro z
      exact (z : False).elim
  | h :: hs, ls, b :: cs => by
    constructor
    · intro z
      obtain ⟨b', hb, z⟩ := List.mem_flatMap.mp z
      obtain ⟨c, hc, e⟩ := List.mem_map.mp z
      cases e
      exact ⟨hb, mem_comp.mp hc⟩
    · rintro ⟨hb, z⟩
      exact List.mem_flatMap.mpr ⟨b, hb, List.mem_map.mpr ⟨cs, mem_comp.mpr z, rfl⟩⟩
/-- the labels at the first doors -/
def labA : List Int → List Int → List Int → List Int
  | acc, x :: p, y :: q => labA (stp acc y x) p q
  | acc, _, _ => acc
def lab (p q : List Int) : List Int := labA [] p q
theorem labA_app {p2 q2 : List Int} : ∀ {acc p1 q1 : List Int}, p1.length = q1.length → labA acc (p1 ++ p2) (q1 ++ q2) = labA (labA acc p1 q1) p2 q2
  | acc, [], [], _ => rfl
  | acc, x :: p, y :: q, h => labA_app (acc := stp acc y x) (Nat.succ.inj h)
theorem stp_len (ls : List Int) (h b : Int) : (((stp ls h b).length : Nat) : Int) = if b = (ls.length : Int) then (ls.length : Int) + 1 else ls.length := by
  unfold stp
  by_cases e : b = (ls.length : Int)
  · rw [if_pos e, if_pos e, List.length_append]
    rfl
  · rw [if_neg e, if_neg e]
theorem labA_len : ∀ {acc p q : List Int}, p.length = q.length → (((labA acc p q).length : Nat) : Int) = bc acc.length p
  | acc, [], [], _ => rfl
  | acc, x :: p, y :: q, h => by
    show (((labA (stp acc y x) p q).length : Nat) : Int) = bc (if x = (acc.length : Int) then (acc.length : Int) + 1 else acc.length) p
    rw [labA_len (Nat.succ.inj h), stp_len]
theorem labA_pre : ∀ {acc p q : List Int}, acc <+: labA acc p q
  | acc, [], _ => List.prefix_refl _
  | acc, _ :: _, [] => List.prefix_refl _
  | acc, x :: p, y :: q => by
    refine List.IsPrefix.trans ?_ (labA_pre (acc := stp acc y x) (p := p) (q := q))
    unfold stp
    split
    · exact List.prefix_append _ _
    · exact List.prefix_refl _
theorem pre_at {a b : List Int} (h : a <+: b) {i : Nat} {x : Int} (e : a[i]? = some x) : b[i]? = some x := by
  obtain ⟨t, rfl⟩ := h
  rw [List.getElem?_append_left (List.getElem?_eq_some_iff.mp e).1]
  exact e
theorem stp_at {acc : List Int} {x y : Int} (x0 : 0 ≤ x) (h : x < (acc.length : Int) → acc[x.toNat]? = some y) (hx : x ≤ (acc.length : Int)) : (stp acc y x)[x.toNat]? = some y := by
  unfold stp
  by_cases e : x = (acc.length : Int)
  · rw [if_pos e, show x.toNat = acc.length by omega, List.getElem?_append_right (Nat.le_refl _), Nat.sub_self]
    rfl
  · rw [if_neg e]
    exact h (by omega)
theorem labA_agree : ∀ {acc p q : List Int}, p.length = q.length → Rg acc.length p → Finer p q → (∀ (i : Nat) (x y : Int), p[i]? = some x → x < (acc.length : Int) → q[i]? = some y → acc[x.toNat]? = some y) →
    ∀ (i : Nat) (x y : Int), p[i]? = some x → q[i]? = some y → (labA acc p q)[x.toNat]? = some y
  | acc, [], [], _, _, _, _, i, x, y, hx, _ => by simp at hx
  | acc, a :: p, b :: q, hl, rg, f, ag, i, x, y, hx, hy => by
    obtain ⟨a0, a1, rg⟩ := rg
    have hs := stp_at (acc := acc) (x := a) (y := b) a0 (fun c => ag 0 a b rfl c rfl) a1
    have sl := stp_len acc b a
    rw [← sl] at rg
    have f' : Finer p q := fun i j x y z h1 h2 h3 h4 => f (i + 1) (j + 1) x y z h1 h2 h3 h4
    have ag' : ∀ (i : Nat) (x y : Int), p[i]? = some x → x < ((stp acc b a).length : Int) → q[i]? = some y → (stp acc b a)[x.toNat]? = some y := fun i x y h1 h2 h3 => by
      by_cases e : x = a
      · subst e
        have := f (i + 1) 0 x y b h1 rfl h3 rfl
        rw [this]
        exact hs
      · have hlt : x < (acc.length : Int) := by
          rw [sl] at h2
          split at h2 <;> omega
        have g := ag (i + 1) x y h1 hlt h3
        unfold stp
        split
        · rw [List.getElem?_append_left (List.getElem?_eq_some_iff.mp g).1]
          exact g
        · exact g
    cases i with
    | zero =>
      obtain rfl : a = x := Option.some.inj hx
      obtain rfl : b = y := Option.some.inj hy
      exact pre_at (labA_pre (acc := stp acc b a) (p := p) (q := q)) hs
    | succ i => exact labA_agree (acc := stp acc b a) (Nat.succ.inj hl) rg f' ag' i x y hx hy
theorem lab_agree {p q : List Int} (hl : p.length = q.length) (rg : Rg 0 p) (f : Finer p q) {i : Nat} {x y : Int} (hx : p[i]? = some x) (hy : q[i]? = some y) : (lab p q)[x.toNat]? = some y :=
  labA_agree (acc := []) hl rg f (fun i x y h1 h2 _ => by
    have := (rg_at rg h1).1
    exact absurd h2 (by simp; omega)) i x y hx hy
theorem lab_len {p q : List Int} (hl : p.length = q.length) : (((lab p q).length : Nat) : Int) = bc 0 p := labA_len (acc := []) hl
theorem ok_fwd : ∀ {hs ls cs : List Int}, Ok hs ls cs → cs.length = hs.length ∧ Rg ls.length cs ∧ ∀ (i : Nat) (x y : Int), cs[i]? = some x → hs[i]? = some y → (labA ls cs hs)[x.toNat]? = some y
  | [], ls, [], _ => ⟨rfl, trivial, fun i x y hx => by simp at hx⟩
  | h :: hs, ls, b :: cs, ⟨hb, ok⟩ => by
    obtain ⟨h1, h2, h3⟩ := ok_fwd ok
    obtain ⟨b0, hb⟩ := mem_picks.mp hb
    have ble : b ≤ (ls.length : Int) := by
      rcases hb with hb | hb
      · have := (List.getElem?_eq_some_iff.mp hb).1
        omega
      · omega
    rw [stp_len] at h2
    refine ⟨by rw [List.length_cons, List.length_cons, h1], ⟨b0, ble, h2⟩, fun i x y hx hy => ?_⟩
    cases i with
    | zero =>
      obtain rfl : b = x := Option.some.inj hx
      obtain rfl : h = y := Option.some.inj hy
      exact pre_at (labA_pre (acc := stp ls h b) (p := cs) (q := hs)) (stp_at b0 (fun c => hb.resolve_right (by omega)) ble)
    | succ i => exact h3 i x y hx hy
theorem ok_bwd : ∀ {hs ls cs : List Int}, cs.length = hs.length → Rg ls.length cs → Finer cs hs → (∀ (i : Nat) (x y : Int), cs[i]? = some x → x < (ls.length : Int) → hs[i]? = some y → ls[x.toNat]? = some y) → Ok hs ls cs
  | [], ls, [], _, _, _, _ => trivial
  | h :: hs, ls, b :: cs, hl, rg, f, ag => by
    obtain ⟨b0, b1, rg⟩ := rg
    have sl := stp_len ls h b
    rw [← sl] at rg
    have hs0 := stp_at (acc := ls) (x := b) (y := h) b0 (fun c => ag 0 b h rfl c rfl) b1
    refine ⟨mem_picks.mpr ⟨b0, ?_⟩, ok_bwd (Nat.succ.inj hl) rg (fun i j x y z h1 h2 h3 h4 => f (i + 1) (j + 1) x y z h1 h2 h3 h4) fun i x y h1 h2 h3 => ?_⟩
    · by_cases e : b = (ls.length : Int)
      · exact .inr e
      · exact .inl (ag 0 b h rfl (by omega) rfl)
    · by_cases e : x = b
      · subst e
        rw [f (i + 1) 0 x y h h1 rfl h3 rfl]
        exact hs0
      · have hlt : x < (ls.length : Int) := by
          rw [sl] at h2
          split at h2 <;> omega
        have g := ag (i + 1) x y h1 hlt h3
        unfold stp
        split
        · rw [List.getElem?_append_left (List.getElem?_eq_some_iff.mp g).1]
          exact g
        · exact g
end KQ
/-! the rows between two partings -/
namespace KQ
open PySem PySem.Spec PyProof.Rows L2 KR KM StX
/-- each door's block through its block in the finer one -/
def rowOf (p cs : List Int) : List Int := p.map fun x => cs.getD x.toNat 0
theorem rowOf_at {p cs : List Int} {i : Nat} {x : Int} (hx : p[i]? = some x) : (rowOf p cs)[i]? = some (cs.getD x.toNat 0) := by
  unfold rowOf
  rw [List.getElem?_map, hx]
  rfl
theorem rowOf_len (p cs : List Int) : (rowOf p cs).length = p.length := List.length_map _
theorem rowOf_lab {p q : List Int} (hl : p.length = q.length) (rg : Rg 0 p) (f : Finer p q) : rowOf p (lab p q) = q := by
  refine List.ext_getElem? fun i => ?_
  by_cases h : i < p.length
  · have hx : p[i]? = some p[i] := List.getElem?_eq_getElem h
    have hy : q[i]? = some q[i] := List.getElem?_eq_getElem (by omega)
    rw [rowOf_at hx, hy, List.getD_eq_getElem?_getD, lab_agree hl rg f hx hy]
    rfl
  · rw [List.getElem?_eq_none (by rw [rowOf_len]; omega), List.getElem?_eq_none (by omega)]
theorem split_last {p : List Int} {n : Nat} (h : p.length = n + 1) : ∃ p' x, p = p' ++ [x] ∧ p'.length = n :=
  ⟨p.dropLast, p.getLast (fun z => by rw [z] at h; cases h), (List.dropLast_concat_getLast _).symm, by rw [List.length_dropLast]; omega⟩
theorem bc_snoc (p : List Int) (x : Int) : bc 0 (p ++ [x]) = if x = bc 0 p then bc 0 p + 1 else bc 0 p := by
  rw [bc_app]
  rfl
theorem rg_take {p : List Int} (h : Rg 0 p) (k : Nat) : Rg 0 (p.take k) := by
  rw [← List.take_append_drop k p, rg_app] at h
  exact h.1
theorem rowOf_rg : ∀ (n : Nat) (p : List Int), p.length = n → Rg 0 p → ∀ cs : List Int, Rg 0 cs → bc 0 p ≤ (cs.length : Int) →
    Rg 0 (rowOf p cs) ∧ bc 0 (rowOf p cs) = bc 0 (cs.take (bc 0 p).toNat) ∧ lab p (rowOf p cs) = cs.take (bc 0 p).toNat
  | 0, p, hn, _, cs, _, _ => by
    rw [List.eq_nil_of_length_eq_zero hn]
    exact ⟨trivial, rfl, rfl⟩
  | n + 1, p, hn, rg, cs, rc, hle => by
    obtain ⟨p', x, rfl, hn'⟩ := split_last hn
    rw [rg_app] at rg
    obtain ⟨rp, x0, x1, _⟩ := rg
    have b0 := bc_ge 0 p'
    rw [bc_snoc] at hle ⊢
    have hle' : bc 0 p' ≤ (cs.length : Int) := by split at hle <;> omega
    obtain ⟨h1, h2, h3⟩ := rowOf_rg n p' hn' rp cs rc hle'
    have er : rowOf (p' ++ [x]) cs = rowOf p' cs ++ [cs.getD x.toNat 0] := by
      unfold rowOf
      rw [List.map_append]
      rfl
    have el : lab (p' ++ [x]) (rowOf p' cs ++ [cs.getD x.toNat 0]) = stp (cs.take (bc 0 p').toNat) (cs.getD x.toNat 0) x := by
      unfold lab
      rw [labA_app (rowOf_len p' cs).symm]
      show labA (stp (lab p' (rowOf p' cs)) _ _) [] [] = _
      rw [h3]
      rfl
    have tl : (cs.take (bc 0 p').toNat).length = (bc 0 p').toNat := by rw [List.length_take]; omega
    rw [er, el, rg_app, bc_snoc, h2]
    by_cases e : x = bc 0 p'
    · rw [if_pos e] at hle
      rw [if_pos e]
      have hc : cs[x.toNat]? = some cs[x.toNat] := List.getElem?_eq_getElem (by omega)
      have ra := rg_at rc hc
      have eg : cs.getD x.toNat 0 = cs[x.toNat] := by rw [List.getD_eq_getElem?_getD, hc]; rfl
      have ek : (bc 0 p').toNat = x.toNat := by rw [e]
      rw [eg, ek, show (bc 0 p' + 1).toNat = x.toNat + 1 by omega, bc_take hc]
      refine ⟨⟨h1, ra.1, ra.2, trivial⟩, rfl, ?_⟩
      unfold stp
      rw [if_pos (by rw [List.length_take]; omega), take_snoc hc]
    · rw [if_neg e]
      have hc : (cs.take (bc 0 p').toNat)[x.toNat]? = some cs[x.toNat] := by
        rw [List.getElem?_take_of_lt (by omega)]
        exact List.getElem?_eq_getElem (by omega)
      have eg : cs.getD x.toNat 0 = cs[x.toNat] := by
        rw [List.getD_eq_getElem?_getD, List.getElem?_eq_getElem (show x.toNat < cs.length by omega)]
        rfl
      have rm := (rg_mem 0 _ (Int.le_refl _) (rg_take rc (bc 0 p').toNat)).1 _ (List.mem_of_getElem? hc)
      rw [eg]
      refine ⟨⟨h1, rm.1, by omega, trivial⟩, ?_, ?_⟩
      · rw [if_neg (by omega)]
      · unfold stp
        rw [if_neg (by omega)]
theorem first_at : ∀ (n : Nat) (p : List Int), p.length = n → Rg 0 p → ∀ i : Int, 0 ≤ i → i < bc 0 p → ∃ d : Nat, p[d]? = some i ∧ ∀ e, e < d → ∃ y, p[e]? = some y ∧ 0 ≤ y ∧ y < i
  | 0, p, hn, _, i, h0, h1 => by
    rw [List.eq_nil_of_length_eq_zero hn] at h1
    exact absurd h1 (by show ¬ i < 0; omega)
  | n + 1, p, hn, rg, i, h0, h1 => by
    obtain ⟨p', x, rfl, hn'⟩ := split_last hn
    rw [rg_app] at rg
    obtain ⟨rp, x0, x1, _⟩ := rg
    by_cases c : i < bc 0 p'
    · obtain ⟨d, hd, he⟩ := first_at n p' hn' rp i h0 c
      have dl := (List.getElem?_eq_some_iff.mp hd).1
      refine ⟨d, by rw [List.getElem?_append_left dl]; exact hd, fun e hlt => ?_⟩
      rw [List.getElem?_append_left (by omega)]
      exact he e hlt
    · rw [bc_snoc] at h1
      have ex : x = i := by split at h1 <;> omega
      refine ⟨p'.length, by rw [List.getElem?_append_right (Nat.le_refl _), Nat.sub_self, ex]; rfl, fun e hlt => ?_⟩
      have hy : p'[e]? = some p'[e] := List.getElem?_eq_getElem hlt
      have := (rg_mem 0 p' (Int.le_refl _) rp).1 _ (List.mem_of_getElem? hy)
      exact ⟨p'[e], by rw [List.getElem?_append_left hlt]; exact hy, this.1, by omega⟩
theorem rowOf_mono {p cs ds : List Int} (rg : Rg 0 p) (lc : (cs.length : Int) = bc 0 p) (ld : ds.length = cs.length) (h : HT.lexLt cs ds = true) : HT.lexLt (rowOf p cs) (rowOf p ds) = true := by
  obtain ⟨i, x, y, h1, h2, h3, h4⟩ := lex_of ld.symm h
  have il := (List.getElem?_eq_some_iff.mp h2).1
  obtain ⟨d, hd, he⟩ := first_at _ p rfl rg ((i : Nat) : Int) (by omega) (by omega)
  have g2 := rowOf_at (cs := cs) hd
  have g3 := rowOf_at (cs := ds) hd
  rw [Int.toNat_natCast, List.getD_eq_getElem?_getD, h2] at g2
  rw [Int.toNat_natCast, List.getD_eq_getElem?_getD, h3] at g3
  refine lex_mk (i := d) (fun e hlt => ?_) g2 g3 h4
  obtain ⟨z, hz, z0, z1⟩ := he e hlt
  rw [rowOf_at hz, rowOf_at hz, List.getD_eq_getElem?_getD, List.getD_eq_getElem?_getD, h1 z.toNat (by omega)]
def betw (p q : List Int) : List (List Int) := (comp (lab p q) []).map (rowOf p)
section
variable {p q : List Int}
theorem lab_back {r : List Int} (hl : p.length = q.length) (hr : r.length = p.length) (rp : Rg 0 p) (rr : Rg 0 r) (fp : Finer p q) (f1 : Finer p r) (f2 : Finer r q) : lab p r ∈ comp (lab p q) [] := by
  have e1 := lab_len (p := p) (q := q) hl
  have e2 := lab_len (p := p) (q := r) hr.symm
  have ag : ∀ (i : Nat) (x : Int), (lab p r)[i]? = some x → ∃ d : Nat, p[d]? = some ((i : Nat) : Int) ∧ r[d]? = some x ∧ ∀ y, (lab p q)[i]? = some y → q[d]? = some y := fun i x hx => by
    have il := (List.getElem?_eq_some_iff.mp hx).1
    obtain ⟨d, hd, _⟩ := first_at _ p rfl rp ((i : Nat) : Int) (by omega) (by omega)
    have dl := (List.getElem?_eq_some_iff.mp hd).1
    have hrd : r[d]? = some r[d] := List.getElem?_eq_getElem (by omega)
    have hqd : q[d]? = some q[d] := List.getElem?_eq_getElem (by omega)
    have g1 := lab_agree hr.symm rp f1 hd hrd
    have g2 := lab_agree hl rp fp hd hqd
    rw [Int.toNat_natCast] at g1 g2
    rw [g1] at hx
    refine ⟨d, hd, by rw [hrd]; exact hx, fun y hy => ?_⟩
    rw [g2] at hy
    rw [hqd]
    exact hy
  refine mem_comp.mpr (ok_bwd (by omega) ?_ (fun i j x y z h1 h2 h3 h4 => ?_) fun i x y h1 h2 _ => ?_)
  · have rr2 := rr
    -- the blocks at the first doors grow as the row does
    have key : ∀ k : Nat, k ≤ r.length → Rg 0 (lab (p.take k) (r.take k)) ∧ bc 0 (lab (p.take k) (r.take k)) = bc 0 (r.take k) := by
      intro k
      induction k with
      | zero => intro _; exact ⟨trivial, rfl⟩
      | succ k ih =>
        intro hk
        obtain ⟨i1, i2⟩ := ih (by omega)
        have hx : p[k]? = some p[k] := List.getElem?_eq_getElem (by omega)
        have hy : r[k]? = some r[k] := List.getElem?_eq_getElem (by omega)
        have tl : (p.take k).length = (r.take k).length := by rw [List.length_take, List.length_take]; omega
        rw [take_snoc hx, take_snoc hy]
        have es : lab (p.take k ++ [p[k]]) (r.take k ++ [r[k]]) = stp (lab (p.take k) (r.take k)) r[k] p[k] := by
          unfold lab
          rw [labA_app tl]
          rfl
        have ra := rg_at rr hy
        have rb := rg_at rp hx
        have ll := lab_len tl
        rw [es, bc_snoc]
        unfold stp
        by_cases e : p[k] = ((lab (p.take k) (r.take k)).length : Int)
        · rw [if_pos e, rg_app, bc_snoc, i2]
          exact ⟨⟨i1, ra.1, ra.2, trivial⟩, rfl⟩
        · rw [if_neg e, i2]
          refine ⟨i1, ?_⟩
          obtain ⟨d, hd, _⟩ := first_at _ (p.take k) rfl (rg_take rp k) p[k] rb.1 (by omega)
          have dl := (List.getElem?_eq_some_iff.mp hd).1
          rw [List.length_take] at dl
          rw [List.getElem?_take_of_lt (by omega)] at hd
          have hrd : r[d]? = some r[d] := List.getElem?_eq_getElem (by omega)
          have er := f1 d k _ _ _ hd hx hrd hy
          have mm : r[k] ∈ r.take k := by
            rw [← er]
            exact List.mem_of_getElem? (i := d) (by rw [List.getElem?_take_of_lt (by omega)]; exact hrd)
          have := (rg_mem 0 _ (Int.le_refl _) (rg_take rr k)).1 _ mm
          rw [if_neg (by omega)]
    have := (key r.length (Nat.le_refl _)).1
    rw [List.take_length, ← hr.symm, List.take_of_length_le (by omega)] at this
    exact this
  · obtain ⟨d, hd, hrd, hq⟩ := ag i x h1
    obtain ⟨e, he, hre, hq2⟩ := ag j x h2
    exact f2 d e x y z hrd hre (hq y h3) (hq2 z h4)
  · have := (List.getElem?_eq_some_iff.mp h1).1
    have rr3 : 0 ≤ x := by
      obtain ⟨d, hd, hrd, _⟩ := ag i x h1
      exact (rg_at rr hrd).1
    exact absurd h2 (by simp; omega)
theorem mem_betw (hl : p.length = q.length) (rp : Rg 0 p) (fp : Finer p q) {r : List Int} : r ∈ betw p q ↔ r.length = p.length ∧ Rg 0 r ∧ Finer p r ∧ Finer r q := by
  have e1 := lab_len (p := p) (q := q) hl
  constructor
  · intro h
    obtain ⟨cs, hc, rfl⟩ := List.mem_map.mp h
    obtain ⟨h1, h2, h3⟩ := ok_fwd (mem_comp.mp hc)
    have rr := rowOf_rg _ p rfl rp cs h2 (by omega)
    refine ⟨rowOf_len p cs, rr.1, fun i j x y z g1 g2 g3 g4 => ?_, fun i j x y z g1 g2 g3 g4 => ?_⟩
    · rw [rowOf_at g1] at g3
      rw [rowOf_at g2] at g4
      exact (Option.some.inj g3).symm.trans (Option.some.inj g4)
    · have il := (List.getElem?_eq_some_iff.mp g3).1
      have jl := (List.getElem?_eq_some_iff.mp g4).1
      have pi : p[i]? = some p[i] := List.getElem?_eq_getElem (by omega)
      have pj : p[j]? = some p[j] := List.getElem?_eq_getElem (by omega)
      have b1 := (rg_mem 0 p (Int.le_refl _) rp).1 _ (List.mem_of_getElem? pi)
      have b2 := (rg_mem 0 p (Int.le_refl _) rp).1 _ (List.mem_of_getElem? pj)
      have a1 := lab_agree hl rp fp pi g3
      have a2 := lab_agree hl rp fp pj g4
      have c1 : cs[p[i].toNat]? = some x := by
        rw [rowOf_at pi, List.getD_eq_getElem?_getD, List.getElem?_eq_getElem (show p[i].toNat < cs.length by omega)] at g1
        rw [List.getElem?_eq_getElem (show p[i].toNat < cs.length by omega)]
        exact g1
      have c2 : cs[p[j].toNat]? = some x := by
        rw [rowOf_at pj, List.getD_eq_getElem?_getD, List.getElem?_eq_getElem (show p[j].toNat < cs.length by omega)] at g2
        rw [List.getElem?_eq_getElem (show p[j].toNat < cs.length by omega)]
        exact g2
      have d1 := h3 _ x y c1 a1
      rw [h3 _ x z c2 a2] at d1
      exact (Option.some.inj d1).symm
  · rintro ⟨hr, rr, f1, f2⟩
    exact List.mem_map.mpr ⟨lab p r, lab_back hl hr rp rr fp f1 f2, rowOf_lab hr.symm rp f1⟩
theorem betw_up (hl : p.length = q.length) (rp : Rg 0 p) : (betw p q).Pairwise fun x y => HT.lexLt x y = true := by
  unfold betw
  rw [List.pairwise_map]
  have e1 := lab_len (p := p) (q := q) hl
  refine List.Pairwise.imp_of_mem (fun {a b} ha hb h => ?_) (comp_up (lab p q) [])
  have la := comp_width _ _ a ha
  have lb := comp_width _ _ b hb
  exact rowOf_mono rp (by omega) (by omega) h
theorem finer_refl (p : List Int) : Finer p p := fun i j x y z h1 h2 h3 h4 => by
  rw [h1] at h3
  rw [h2] at h4
  exact (Option.some.inj h3).symm.trans (Option.some.inj h4)
theorem betw_zero (hl : p.length = q.length) (rp : Rg 0 p) (rq : Rg 0 q) (fp : Finer p q) : (betw p q)[0]? = some q := by
  have hq : q ∈ betw p q := (mem_betw hl rp fp).mpr ⟨hl.symm, rq, fp, finer_refl q⟩
  obtain ⟨i, hi, ei⟩ := List.getElem_of_mem hq
  by_cases h : i = 0
  · subst h
    rw [List.getElem?_eq_getElem hi, ei]
  · have h0 : (betw p q)[0]? = some (betw p q)[0] := List.getElem?_eq_getElem (by omega)
    obtain ⟨l0, r0, _, f0⟩ := (mem_betw hl rp fp).mp (List.mem_of_getElem? h0)
    have := List.pairwise_iff_getElem.mp (betw_up (q := q) hl rp) 0 i (by omega) hi (by omega)
    rw [ei, finer_lex (by omega) r0 rq f0] at this
    cases this
theorem betw_last (hl : p.length = q.length) (rp : Rg 0 p) (rq : Rg 0 q) (fp : Finer p q) : 0 < (betw p q).length ∧ (betw p q)[(betw p q).length - 1]? = some p := by
  have hq : p ∈ betw p q := (mem_betw hl rp fp).mpr ⟨rfl, rp, finer_refl p, fp⟩
  obtain ⟨i, hi, ei⟩ := List.getElem_of_mem hq
  refine ⟨by omega, ?_⟩
  by_cases h : i = (betw p q).length - 1
  · rw [← h, List.getElem?_eq_getElem hi, ei]
  · have h0 : (betw p q)[(betw p q).length - 1]? = some (betw p q)[(betw p q).length - 1] := List.getElem?_eq_getElem (by omega)
    obtain ⟨l0, r0, f0, _⟩ := (mem_betw hl rp fp).mp (List.mem_of_getElem? h0)
    have := List.pairwise_iff_getElem.mp (betw_up (q := q) hl rp) i _ hi (by omega : (betw p q).length - 1 < (betw p q).length) (by omega)
    rw [ei, finer_lex (by omega) rp r0 f0] at this
    cases this
end
end KQ
/-! growths, their bounds, the numbers of all partings; dicts over whole numbers -/
namespace KQ
open PySem PySem.Spec PyProof.Rows L2 KR KM StX
/-! ### dicts -/
def dF (D : List Int) (f : Int → V) : List (L2.Key × V) := D.map fun x => (kI x, f x)
theorem dF_len (D : List Int) (f : Int → V) : (dF D f).length = D.length := List.length_map _
theorem dF_congr {D : List Int} {f g : Int → V} (h : ∀ x ∈ D, f x = g x) : dF D f = dF D g := List.map_congr_left fun x hx => by rw [h x hx]
theorem dF_any (D : List Int) (f : Int → V) (x : Int) : ((dF D f).any fun kv => decide (kv.1 = kI x)) = decide (x ∈ D) := by
  unfold dF
  induction D with
  | nil => rfl
  | cons y r ih =>
    rw [List.map_cons, List.any_cons, ih]
    by_cases e : y = x
    · subst e
      simp
    · have e2 : ¬ x = y := fun z => e z.symm
      have e3 : ¬ kI y = kI x := fun z => e (kI_inj _ _ z)
      simp [e2, e3]
theorem dF_val (D : List Int) (f : Int → V) (x : Int) : valV (dF D f) (kI x) = if x ∈ D then some (f x) else none := by
  unfold dF valV
  induction D with
  | nil => rfl
  | cons y r ih =>
    rw [List.map_cons, List.find?_cons]
    by_cases e : y = x
    · subst e
      simp
    · have e2 : ¬ x = y := fun z => e z.symm
      have e3 : ¬ kI y = kI x := fun z => e (kI_inj _ _ z)
      rw [decide_eq_false e3]
      show Option.map _ (List.find? _ (List.map _ r)) = _
      rw [ih]
      simp [e2]
theorem dF_put (D : List Int) (f : Int → V) (x : Int) (v : V) : putK (dF D f) (kI x) v = dF (if x ∈ D then D else D ++ [x]) (fun y => if y = x then v else f y) := by
  unfold putK
  rw [dF_any]
  by_cases h : x ∈ D
  · rw [if_pos (decide_eq_true h), if_pos h]
    unfold dF
    rw [List.map_map]
    refine List.map_congr_left fun y _ => ?_
    show (if kI y = kI x then (kI y, v) else (kI y, f y)) = (kI y, if y = x then v else f y)
    by_cases e : y = x
    · rw [if_pos (by rw [e]), if_pos e]
    · rw [if_neg (fun z => e (kI_inj _ _ z)), if_neg e]
  · rw [if_neg (by simpa using h), if_neg h]
    unfold dF
    rw [List.map_append]
    congr 1
    · refine List.map_congr_left fun y hy => ?_
      show (kI y, f y) = (kI y, if y = x then v else f y)
      rw [if_neg (fun z : y = x => h (by rw [← z]; exact hy))]
    · show _ = [(kI x, if x = x then v else f x)]
      rw [if_pos rfl]
/-! ### bounds -/
theorem gr_le : ∀ l m : Nat, gr l m ≤ (l + m) ^ l
  | 0, m => Nat.le_refl _
  | l + 1, m => by
    show m * gr l m + gr l (m + 1) ≤ _
    have h1 := gr_le l m
    have h2 := gr_le l (m + 1)
    have h3 : (l + m) ^ l ≤ (l + 1 + m) ^ l := Nat.pow_le_pow_left (by omega) l
    rw [show l + (m + 1) = l + 1 + m by omega] at h2
    have h4 : m * gr l m ≤ m * (l + 1 + m) ^ l := Nat.mul_le_mul (Nat.le_refl _) (Nat.le_trans h1 h3)
    have h5 : (l + 1 + m) ^ (l + 1) = (l + 1 + m) ^ l * (l + 1 + m) := Nat.pow_succ ..
    have h6 : (m + 1) * (l + 1 + m) ^ l ≤ (l + 1 + m) * (l + 1 + m) ^ l := Nat.mul_le_mul (by omega) (Nat.le_refl _)
    rw [h5, Nat.mul_comm ((l + 1 + m) ^ l)]
    rw [Nat.succ_mul] at h6
    omega
theorem comp_le : ∀ hs ls : List Int, (comp hs ls).length ≤ (hs.length + ls.length) ^ hs.length
  | [], ls => Nat.le_refl _
  | h :: hs, ls => by
    rw [comp_step]
    have h1 := comp_le hs ls
    have h2 := comp_le hs (ls ++ [h])
    have h0 : ls.count h ≤ ls.length := List.count_le_length
    rw [List.length_append, show hs.length + (ls.length + [h].length) = hs.length + 1 + ls.length from by show _ + (_ + 1) = _; omega] at h2
    have h3 : (hs.length + ls.length) ^ hs.length ≤ (hs.length + 1 + ls.length) ^ hs.length := Nat.pow_le_pow_left (by omega) _
    have h4 : ls.count h * (comp hs ls).length ≤ ls.length * (hs.length + 1 + ls.length) ^ hs.length := Nat.mul_le_mul h0 (Nat.le_trans h1 h3)
    have h6 : (ls.length + 1) * (hs.length + 1 + ls.length) ^ hs.length ≤ (hs.length + 1 + ls.length) * (hs.length + 1 + ls.length) ^ hs.length := Nat.mul_le_mul (by omega) (Nat.le_refl _)
    rw [List.length_cons, Nat.pow_succ, Nat.mul_comm (_ ^ _)]
    rw [Nat.succ_mul] at h6
    omega
theorem big60 {n l : Nat} (h : n ≤ 60) (hl : l ≤ 60) : n ^ l < 2 ^ 360 :=
  Nat.lt_of_le_of_lt (Nat.pow_le_pow_left h l) (Nat.lt_of_le_of_lt (Nat.pow_le_pow_right (by decide) hl) (by decide +kernel))
theorem gr_big {l m : Nat} (h : l + m ≤ 60) : gr l m < 2 ^ 360 := Nat.lt_of_le_of_lt (gr_le l m) (big60 h (by omega))
theorem comp_big {hs ls : List Int} (h : hs.length + ls.length ≤ 60) : (comp hs ls).length < 2 ^ 360 := Nat.lt_of_le_of_lt (comp_le hs ls) (big60 h (by omega))
theorem gr_pos : ∀ l m : Nat, 0 < gr l m
  | 0, m => Nat.one_pos
  | l + 1, m => by
    show 0 < m * gr l m + gr l (m + 1)
    have := gr_pos l (m + 1)
    omega
theorem prd_pos {f : Int → Nat} : ∀ {D : List Int}, (∀ x ∈ D, 0 < f x) → 0 < prd f D
  | [], _ => Nat.one_pos
  | x :: r, h => Nat.mul_pos (h x List.mem_cons_self) (prd_pos fun y hy => h y (List.mem_cons_of_mem _ hy))
/-! ### the numbers of all partings -/
def nextG : Nat → List Nat → List Nat
  | m, a :: b :: r => (m * a + b) :: nextG (m + 1) (b :: r)
  | _, _ => []
def rowN : Nat → List Nat
  | 0 => List.replicate 61 1
  | l + 1 => nextG 0 (rowN l)
theorem nextG_gr (l : Nat) : ∀ k m, nextG m ((List.range' m (k + 1)).map (gr l)) = (List.range' m k).map (gr (l + 1))
  | 0, m => rfl
  | k + 1, m => by
    rw [List.range'_succ, List.range'_succ, List.range'_succ, List.map_cons, List.map_cons, List.map_cons]
    show (m * gr l m + gr l (m + 1)) :: nextG (m + 1) (gr l (m + 1) :: (List.range' (m + 1 + 1) k).map (gr l)) = _
    have := nextG_gr l k (m + 1)
    rw [List.range'_succ, List.map_cons] at this
    rw [this]
    rfl
theorem rowN_gr : ∀ l, l ≤ 60 → rowN l = (List.range' 0 (61 - l)).map (gr l)
  | 0, _ => by
    show List.replicate 61 1 = (List.range' 0 61).map (gr 0)
    decide +kernel
  | l + 1, h => by
    show nextG 0 (rowN l) = _
    rw [rowN_gr l (by omega), show 61 - l = (61 - (l + 1)) + 1 by omega, nextG_gr]
/-- sums one after the other -/
def bn : Int → List Int → List Int
  | a, [] => [a]
  | a, x :: r => a :: bn (a + x) r
def brow : Nat → List Int
  | 0 => [1]
  | n + 1 => bn ((brow n).getLastD 0) (brow n)
theorem bn_len : ∀ (a : Int) (r : List Int), (bn a r).length = r.length + 1
  | _, [] => rfl
  | a, x :: r => by
    show (bn (a + x) r).length + 1 = _
    rw [bn_len]
    rfl
theorem bn_zero (a : Int) (r : List Int) : (bn a r)[0]? = some a := by cases r <;> rfl
theorem bn_at : ∀ (a : Int) (r : List Int) (i : Nat) (y x : Int), (bn a r)[i]? = some y → r[i]? = some x → (bn a r)[i + 1]? = some (y + x)
  | _, [], i, y, x, _, hx => by simp at hx
  | a, z :: r, 0, y, x, hy, hx => by
    obtain rfl : a = y := Option.some.inj hy
    obtain rfl : z = x := Option.some.inj hx
    exact bn_zero _ r
  | a, z :: r, i + 1, y, x, hy, hx => bn_at (a + z) r i y x hy hx
def heads : Nat → List Nat → List Int → Bool
  | 0, _, _ => true
  | k + 1, r, b => decide (((r.headD 0 : Nat) : Int) = b.headD 0) && heads k (nextG 0 r) (bn (b.getLastD 0) b)
theorem heads_at : ∀ k n, heads k (rowN n) (brow n) = true → ∀ i, i < k → (((rowN (n + i)).headD 0 : Nat) : Int) = (brow (n + i)).headD 0
  | 0, _, _, i, h => absurd h (Nat.not_lt_zero _)
  | k + 1, n, h, i, hi => by
    obtain ⟨h1, h2⟩ := Bool.and_eq_true_iff.mp h
    cases i with
    | zero => exact of_decide_eq_true h1
    | succ i =>
      have := heads_at k (n + 1) h2 i (by omega)
      rw [show n + 1 + i = n + (i + 1) by omega] at this
      exact this
theorem heads_ok : heads 61 (rowN 0) (brow 0) = true := by decide +kernel
theorem bell_gr {n : Nat} (h : n ≤ 60) : ((gr n 0 : Nat) : Int) = (brow n).headD 0 := by
  have := heads_at 61 0 heads_ok n (by omega)
  rw [Nat.zero_add] at this
  rw [← this, rowN_gr n h, show 61 - n = (60 - n) + 1 by omega, List.range'_succ]
  rfl
theorem brow_len : ∀ n, (brow n).length = n + 1
  | 0 => rfl
  | n + 1 => by
    show (bn _ _).length = _
    rw [bn_len, brow_len]
/-! ### blocks within blocks -/
theorem mem_lab {p q : List Int} (hl : p.length = q.length) (rg : Rg 0 p) (f : Finer p q) {x : Int} {lo : Nat} : lo ∈ olds (lab p q) x ↔ ∃ i : Nat, p[i]? = some ((lo : Nat) : Int) ∧ q[i]? = some x := by
  rw [mem_olds]
  constructor
  · intro h
    have il := (List.getElem?_eq_some_iff.mp h).1
    have e1 := lab_len (p := p) (q := q) hl
    obtain ⟨d, hd, _⟩ := first_at _ p rfl rg ((lo : Nat) : Int) (by omega) (by omega)
    have dl := (List.getElem?_eq_some_iff.mp hd).1
    have hq : q[d]? = some q[d] := List.getElem?_eq_getElem (by omega)
    have := lab_agree hl rg f hd hq
    rw [Int.toNat_natCast, h] at this
    exact ⟨d, hd, by rw [hq]; exact this.symm⟩
  · rintro ⟨i, h1, h2⟩
    have := lab_agree hl rg f h1 h2
    rw [Int.toNat_natCast] at this
    exact this
theorem count_lab {p q : List Int} (hl : p.length = q.length) (rg : Rg 0 p) (f : Finer p q) {x : Int} {los : List Int} (nd : los.Nodup) (h : ∀ lo, lo ∈ los ↔ ∃ i : Nat, p[i]? = some lo ∧ q[i]? = some x) : los.length = (lab p q).count x := by
  rw [← olds_len x _ (lab p q) rfl, ← List.length_map (as := olds (lab p q) x) (fun n => ((n : Nat) : Int))]
  refine same_len nd ?_ fun y => ?_
  · rw [List.nodup_iff_pairwise_ne, List.pairwise_map]
    refine ((List.nodup_range (n := (lab p q).length)).filter _).imp fun {a b} hab e => ?_
    exact hab (by omega)
  · rw [h, List.mem_map]
    constructor
    · rintro ⟨i, h1, h2⟩
      have y0 := (rg_at rg h1).1
      refine ⟨y.toNat, (mem_lab hl rg f).mpr ⟨i, ?_, h2⟩, by omega⟩
      rw [h1, show ((y.toNat : Nat) : Int) = y by omega]
    · rintro ⟨n, hn, rfl⟩
      exact (mem_lab hl rg f).mp hn
end KQ
namespace KQ
open PySem PySem.Spec PyProof.Rows L2 KR KM StX
theorem foldl_prd (f : Int → Nat) : ∀ (D : List Int) (a : Nat), (D.map f).foldl (· * ·) a = a * prd f D
  | [], a => (Nat.mul_one a).symm
  | x :: r, a => by
    show (r.map f).foldl (· * ·) (a * f x) = a * (f x * prd f r)
    rw [foldl_prd f r, Nat.mul_assoc]
theorem foldl_ge : ∀ (ns : List Nat) (a : Nat), (∀ x ∈ ns, 0 < x) → a ≤ ns.foldl (· * ·) a
  | [], a, _ => Nat.le_refl a
  | x :: r, a, h => Nat.le_trans (Nat.le_mul_of_pos_right a (h x List.mem_cons_self)) (foldl_ge r (a * x) fun y hy => h y (List.mem_cons_of_mem _ hy))
theorem foldl_take {ns : List Nat} (h : ∀ x ∈ ns, 0 < x) (k : Nat) : (ns.take k).foldl (· * ·) 1 ≤ ns.foldl (· * ·) 1 := by
  conv => rhs; rw [← List.take_append_drop k ns, List.foldl_append]
  exact foldl_ge _ _ fun x hx => h x (List.mem_of_mem_drop hx)
/-- what the first row says where the second says x -/
def mtU (p q : List Int) (x : Int) : List Int := ((p.zip q).filter fun z => decide (z.2 = x)).map (·.1)
theorem mem_mtU {p q : List Int} {x lo : Int} : lo ∈ mtU p q x ↔ ∃ i : Nat, p[i]? = some lo ∧ q[i]? = some x := by
  unfold mtU
  rw [List.mem_map]
  constructor
  · rintro ⟨z, hz, rfl⟩
    obtain ⟨h1, h2⟩ := List.mem_filter.mp hz
    obtain ⟨i, hi⟩ := List.mem_iff_getElem?.mp h1
    rw [List.getElem?_zip_eq_some] at hi
    exact ⟨i, hi.1, by rw [hi.2, of_decide_eq_true h2]⟩
  · rintro ⟨i, h1, h2⟩
    exact ⟨(lo, x), List.mem_filter.mpr ⟨List.mem_iff_getElem?.mpr ⟨i, by rw [List.getElem?_zip_eq_some]; exact ⟨h1, h2⟩⟩, decide_eq_true rfl⟩, rfl⟩
theorem mtU_snoc {p q : List Int} {x u v : Int} {i : Nat} (hu : p[i]? = some u) (hv : q[i]? = some v) : mtU (p.take (i + 1)) (q.take (i + 1)) x = mtU (p.take i) (q.take i) x ++ if v = x then [u] else [] := by
  unfold mtU
  have lp := (List.getElem?_eq_some_iff.mp hu).1
  have lq := (List.getElem?_eq_some_iff.mp hv).1
  rw [List.take_succ, List.take_succ, hu, hv, List.zip_append (by rw [List.length_take, List.length_take]; omega), List.filter_append, List.map_append]
  refine congrArg _ ?_
  show ((([u].zip [v]).filter _).map _ : List Int) = _
  show (([(u, v)].filter _).map _ : List Int) = _
  by_cases e : v = x
  · rw [if_pos e, List.filter_cons, if_pos (decide_eq_true e)]
    rfl
  · rw [if_neg e, List.filter_cons, if_neg (by simpa using e)]
    rfl
theorem mtU_le (p q : List Int) (x : Int) : (mtU p q x).length ≤ p.length := by
  unfold mtU
  rw [List.length_map]
  refine Nat.le_trans (List.length_filter_le _ _) ?_
  rw [List.length_zip]
  omega
theorem betw_prd {p q : List Int} (hl : p.length = q.length) (rp : Rg 0 p) (rq : Rg 0 q) (fp : Finer p q) :
    (betw p q).length = ((List.range (bc 0 q).toNat).map fun k => gr ((lab p q).count ((k : Nat) : Int)) 0).foldl (· * ·) 1 := by
  unfold betw
  rw [List.length_map]
  have D : ((List.range (bc 0 q).toNat).map fun k => gr ((lab p q).count ((k : Nat) : Int)) 0) = ((List.range (bc 0 q).toNat).map fun k => ((k : Nat) : Int)).map fun x => gr ((lab p q).count x) 0 := by
    rw [List.map_map]
    rfl
  rw [D, foldl_prd, Nat.one_mul]
  have nd : ((List.range (bc 0 q).toNat).map fun k => ((k : Nat) : Int)).Nodup := by
    rw [List.nodup_iff_pairwise_ne, List.pairwise_map]
    exact List.nodup_range.imp fun h e => h (by omega)
  have := comp_prd nd (lab p q) [] (fun x hx => ?_)
  · exact this
  · obtain ⟨k, hk⟩ := List.mem_iff_getElem?.mp hx
    obtain ⟨i, _, h2⟩ := (mem_lab hl rp fp).mp (mem_olds.mpr hk)
    have := (rg_mem 0 q (Int.le_refl _) rq).1 x (List.mem_of_getElem? h2)
    exact List.mem_map.mpr ⟨x.toNat, List.mem_range.mpr (by omega), by omega⟩
theorem betw_big {p q : List Int} (hl : p.length = q.length) (h : p.length ≤ 60) : (betw p q).length < 2 ^ 360 := by
  unfold betw
  rw [List.length_map]
  have := lab_len (p := p) (q := q) hl
  have h2 := bc_le 0 p
  refine comp_big ?_
  show _ + 0 ≤ 60
  omega
end KQ
namespace KQ
open PySem PySem.Spec PyProof.Rows L2 KR KM StX
theorem allP_allS : ∀ (n : Nat) (r : List Int), Rg 0 r → r.length = n + 1 → r ∈ allP n
  | 0, [x], h, _ => by
    have h1 : 0 ≤ x := h.1
    have h2 : x ≤ 0 := h.2.1
    rw [show x = 0 by omega]
    exact List.mem_singleton.mpr rfl
  | n + 1, r, h, hl => by
    have ne : r ≠ [] := fun e => by rw [e] at hl; cases hl
    rw [← List.dropLast_concat_getLast ne, rg_app] at h
    obtain ⟨h1, h2⟩ := h
    have b0 : 0 ≤ r.getLast ne := h2.1
    have b1 : r.getLast ne ≤ bc 0 r.dropLast := h2.2.1
    refine List.mem_flatMap.mpr ⟨r.dropLast, allP_allS n _ h1 (by rw [List.length_dropLast, hl]; rfl), List.mem_map.mpr ⟨(r.getLast ne).toNat, List.mem_range.mpr (by omega), ?_⟩⟩
    rw [show (((r.getLast ne).toNat : Nat) : Int) = r.getLast ne by omega, List.dropLast_concat_getLast ne]
theorem lex_more {a b : List Int} (hl : a.length = b.length) (h : HT.lexLt a b = true) (xs ys : List Int) : HT.lexLt (a ++ xs) (b ++ ys) = true := by
  obtain ⟨i, x, y, h1, h2, h3, h4⟩ := lex_of hl h
  have ia := (List.getElem?_eq_some_iff.mp h2).1
  have ib := (List.getElem?_eq_some_iff.mp h3).1
  refine lex_mk (i := i) (x := x) (y := y) (fun j hj => ?_) ?_ ?_ h4
  · rw [List.getElem?_append_left (by omega), List.getElem?_append_left (by omega)]
    exact h1 j hj
  · rw [List.getElem?_append_left ia]; exact h2
  · rw [List.getElem?_append_left ib]; exact h3
theorem lex_last (a : List Int) {x y : Int} (h : x < y) : HT.lexLt (a ++ [x]) (a ++ [y]) = true := by
  refine lex_mk (i := a.length) (x := x) (y := y) (fun j hj => ?_) ?_ ?_ h
  · rw [List.getElem?_append_left hj, List.getElem?_append_left hj]
  · rw [List.getElem?_append_right (Nat.le_refl _), Nat.sub_self]; rfl
  · rw [List.getElem?_append_right (Nat.le_refl _), Nat.sub_self]; rfl
theorem pw_flat {α β : Type} {R : β → β → Prop} {f : α → List β} : ∀ {l : List α}, (∀ x ∈ l, (f x).Pairwise R) → l.Pairwise (fun x y => ∀ u ∈ f x, ∀ v ∈ f y, R u v) → (l.flatMap f).Pairwise R
  | [], _, _ => List.Pairwise.nil
  | x :: r, h, g => by
    rw [List.flatMap_cons, List.pairwise_append]
    obtain ⟨g1, g2⟩ := List.pairwise_cons.mp g
    refine ⟨h x List.mem_cons_self, pw_flat (fun y hy => h y (List.mem_cons_of_mem _ hy)) g2, fun u hu v hv => ?_⟩
    obtain ⟨y, hy, hv⟩ := List.mem_flatMap.mp hv
    exact g1 y hy u hu v hv
theorem allP_upA : ∀ n : Nat, (allP n).Pairwise fun x y => HT.lexLt x y = true
  | 0 => List.pairwise_singleton _ _
  | n + 1 => by
    refine pw_flat (f := ext) (l := allP n) (fun x _ => ?_) ?_
    · unfold ext
      rw [List.pairwise_map]
      exact List.pairwise_lt_range.imp fun {a b} h => lex_last x (by omega)
    · refine List.Pairwise.imp_of_mem (fun {a b} ha hb h u hu v hv => ?_) (allP_upA n)
      obtain ⟨i, _, rfl⟩ := List.mem_map.mp hu
      obtain ⟨j, _, rfl⟩ := List.mem_map.mp hv
      have la := (allP_ok n a ha).2
      have lb := (allP_ok n b hb).2
      exact lex_more (by omega) h _ _
theorem lex_irrS (x : List Int) : HT.lexLt x x = false := by
  cases e : HT.lexLt x x with
  | false => rfl
  | true => rw [lex_asym _ _ e] at e; cases e
theorem lup_nodup {L : List (List Int)} (h : L.Pairwise fun x y => HT.lexLt x y = true) : L.Nodup := by
  refine List.nodup_iff_pairwise_ne.mpr (h.imp fun {a b} g e => ?_)
  rw [e, lex_irrS] at g
  cases g
/-- ascending rows with the same members are the same -/
theorem lup_same {L M : List (List Int)} (h : L.Pairwise fun x y => HT.lexLt x y = true) (g : M.Pairwise fun x y => HT.lexLt x y = true) (e : ∀ x, x ∈ L ↔ x ∈ M) : L = M :=
  rows_uniq ((List.perm_ext_iff_of_nodup (lup_nodup h) (lup_nodup g)).mpr e) (h.imp fun {_ _} z => lex_asym _ _ z) (g.imp fun {_ _} z => lex_asym _ _ z)
open Classical in
noncomputable def selF (p q x : List Int) : Bool := decide (Finer p x ∧ Finer x q)
open Classical in
theorem sel_iff {p q x : List Int} : selF p q x = true ↔ Finer p x ∧ Finer x q := by
  unfold selF
  exact decide_eq_true_iff
theorem betw_all {p q : List Int} (par : Par p) (hl : p.length = q.length) (fp : Finer p q) : (allP (p.length - 1)).filter (selF p q) = betw p q := by
  refine lup_same ((allP_upA _).filter _) (betw_up hl par.rg) fun x => ?_
  have pos := List.length_pos_iff.mpr par.ne
  rw [List.mem_filter, mem_betw hl par.rg fp, sel_iff]
  constructor
  · rintro ⟨h1, h2⟩
    obtain ⟨rg, l⟩ := allP_ok _ x h1
    exact ⟨by omega, rg, h2.1, h2.2⟩
  · rintro ⟨h1, h2, h3, h4⟩
    exact ⟨allP_allS _ x h2 (by omega), h3, h4⟩
end KQ
/-! the partings that meet one, listed door by door -/
namespace KQ
open PySem PySem.Spec PyProof.Rows L2 KR KM StX
def nextL (K most : Nat) (s : List Int × List Int) (b : Int) : List (List Int × List Int) :=
  (((List.range (s.2.length - K)).filter fun i => !decide (s.2.getD (K + i) 0 = labF s.2 b)).map fun i => (s.1 ++ [((i : Nat) : Int)], mergeL s.2 (labF s.2 b) (s.2.getD (K + i) 0))) ++
    if s.2.length - K < most then [(s.1 ++ [((s.2.length - K : Nat) : Int)], s.2 ++ [labF s.2 b])] else []
def endsL (K most : Nat) : List Int → List Int × List Int → List (List Int)
  | [], s => [s.1]
  | b :: r, s => (nextL K most s b).flatMap (endsL K most r)
theorem drop_getD (P : List Int) (K : Nat) : P.drop K = (List.range (P.length - K)).map fun i => P.getD (K + i) 0 := by
  refine List.ext_getElem? fun i => ?_
  rw [List.getElem?_drop, List.getElem?_map]
  by_cases h : i < P.length - K
  · rw [List.getElem?_range h, List.getElem?_eq_getElem (by omega), Option.map_some, List.getD_eq_getElem?_getD, List.getElem?_eq_getElem (by omega)]
    rfl
  · rw [List.getElem?_eq_none (by omega), List.getElem?_eq_none (by rw [List.length_range]; omega)]
    rfl
theorem ends_len (K most : Nat) : ∀ (rem : List Int) (s : List Int × List Int), (endsL K most rem s).length = cntA K most rem s.2
  | [], s => rfl
  | b :: r, s => by
    show ((nextL K most s b).flatMap (endsL K most r)).length = _
    rw [List.length_flatMap, List.map_congr_left fun s' _ => ends_len K most r s']
    unfold nextL
    rw [List.map_append, List.sum_append, List.map_map]
    show _ = _ + _
    congr 1
    · conv => rhs; rw [drop_getD, List.filter_map, List.map_map]
      rfl
    · by_cases h : s.2.length - K < most
      · rw [if_pos h, if_pos h]
        simp
      · rw [if_neg h, if_neg h]
        rfl
theorem ends_pre (K most : Nat) : ∀ (rem : List Int) (s : List Int × List Int) (x : List Int), x ∈ endsL K most rem s → ∃ τ, x = s.1 ++ τ ∧ τ.length = rem.length
  | [], s, x, h => ⟨[], by rw [List.append_nil]; exact List.mem_singleton.mp h, rfl⟩
  | b :: r, s, x, h => by
    obtain ⟨s', hs, hx⟩ := List.mem_flatMap.mp h
    obtain ⟨τ, e, l⟩ := ends_pre K most r s' x hx
    have : ∃ i : Int, s'.1 = s.1 ++ [i] := by
      rcases List.mem_append.mp hs with hs | hs
      · obtain ⟨i, _, rfl⟩ := List.mem_map.mp hs
        exact ⟨_, rfl⟩
      · split at hs
        · rw [List.mem_singleton.mp hs]
          exact ⟨_, rfl⟩
        · cases hs
    obtain ⟨i, e2⟩ := this
    exact ⟨i :: τ, by rw [e, e2, List.append_assoc]; rfl, by rw [List.length_cons, l, List.length_cons]⟩
theorem ends_up (K most : Nat) : ∀ (rem : List Int) (s : List Int × List Int), (endsL K most rem s).Pairwise fun x y => HT.lexLt x y = true
  | [], s => List.pairwise_singleton _ _
  | b :: r, s => by
    refine List.pairwise_flatMap.mpr ⟨fun s' _ => ends_up K most r s', ?_⟩
    have key : ∀ {s1 s2 : List Int × List Int} {i j : Int}, s1.1 = s.1 ++ [i] → s2.1 = s.1 ++ [j] → i < j → ∀ x ∈ endsL K most r s1, ∀ y ∈ endsL K most r s2, HT.lexLt x y = true := fun {s1 s2 i j} e1 e2 ij x hx y hy => by
      obtain ⟨τ, rfl, l1⟩ := ends_pre K most r s1 x hx
      obtain ⟨υ, rfl, l2⟩ := ends_pre K most r s2 y hy
      rw [e1, e2]
      exact lex_more (by rw [List.length_append, List.length_append]; rfl) (lex_last s.1 ij) τ υ
    unfold nextL
    rw [List.pairwise_append]
    refine ⟨?_, ?_, ?_⟩
    · rw [List.pairwise_map]
      refine List.Pairwise.filter _ ?_
      exact List.pairwise_lt_range.imp fun {i j} ij => key (s1 := (_, _)) (s2 := (_, _)) rfl rfl (by omega)
    · split
      · exact List.pairwise_singleton _ _
      · exact List.Pairwise.nil
    · intro s1 h1 s2 h2
      obtain ⟨i, hi, rfl⟩ := List.mem_map.mp h1
      have hi := List.mem_range.mp (List.mem_filter.mp hi).1
      split at h2
      · rw [List.mem_singleton.mp h2]
        exact key (s1 := (_, _)) (s2 := (_, _)) rfl rfl (by omega)
      · cases h2
def tiesFrom (K : Nat) : List Int → List Int → List (Nat × Nat)
  | b :: r, y :: τ => (b.toNat, K + y.toNat) :: tiesFrom K r τ
  | _, _ => []
def Free (pre ts : List (Nat × Nat)) : Prop := ∀ i t, ts[i]? = some t → ¬ glue (pre ++ ts.take i) t.1 t.2
theorem free_nil (pre : List (Nat × Nat)) : Free pre [] := fun i t h => by simp at h
theorem free_cons (pre : List (Nat × Nat)) (t : Nat × Nat) (ts : List (Nat × Nat)) : Free pre (t :: ts) ↔ ¬ glue pre t.1 t.2 ∧ Free (pre ++ [t]) ts := by
  constructor
  · intro h
    refine ⟨?_, fun i u hu => ?_⟩
    · have := h 0 t rfl
      rwa [List.take_zero, List.append_nil] at this
    · have := h (i + 1) u hu
      rw [List.append_assoc]
      exact this
  · rintro ⟨h1, h2⟩ i u hu
    cases i with
    | zero =>
      obtain rfl := Option.some.inj hu
      rw [List.take_zero, List.append_nil]
      exact h1
    | succ i =>
      have := h2 i u hu
      rw [List.append_assoc] at this
      exact this
theorem glue_in {pre : List (Nat × Nat)} {N : Nat} (hb : ∀ t ∈ pre, t.1 < N ∧ t.2 < N) {x : Nat} (h : glue pre x N) : x = N := by
  have := glue_keep (S := fun z => z = N) (ts := pre) (fun t ht => ⟨fun z => by have := (hb t ht).1; omega, fun z => by have := (hb t ht).2; omega⟩) h
  exact this.mpr rfl
theorem ends_mem (K most : Nat) : ∀ (rem done P : List Int) (pre : List (Nat × Nat)), K ≤ P.length → (∀ b ∈ rem, b.toNat < K) → (∀ t ∈ pre, t.1 < P.length ∧ t.2 < P.length) → (∀ x y, x < P.length → y < P.length → (P.getD x 0 = P.getD y 0 ↔ glue pre x y)) → P.length - K ≤ most →
    ∀ σ, σ ∈ endsL K most rem (done, P) ↔ ∃ τ, σ = done ++ τ ∧ τ.length = rem.length ∧ Rg ((P.length - K : Nat) : Int) τ ∧ bc ((P.length - K : Nat) : Int) τ ≤ (most : Int) ∧ Free pre (tiesFrom K rem τ)
  | [], done, P, pre, hK, hb, hp, hg, hm, σ => by
    constructor
    · intro h
      exact ⟨[], by rw [List.append_nil]; exact List.mem_singleton.mp h, rfl, trivial, by show ((P.length - K : Nat) : Int) ≤ _; omega, free_nil pre⟩
    · rintro ⟨τ, rfl, l, _⟩
      obtain rfl := List.length_eq_zero_iff.mp l
      rw [List.append_nil]
      exact List.mem_singleton.mpr rfl
  | b :: r, done, P, pre, hK, hb, hp, hg, hm, σ => by
    have bK := hb b List.mem_cons_self
    have hbr := fun x hx => hb x (List.mem_cons_of_mem b hx)
    obtain ⟨made, hmade⟩ : ∃ made, P.length - K = made := ⟨_, rfl⟩
    have lenP : P.length = K + made := by omega
    -- glued
    have old : ∀ i, i < made → (¬ P.getD (K + i) 0 = labF P b ↔ ¬ glue pre b.toNat (K + i)) := fun i hi => by
      rw [← hg b.toNat (K + i) (by omega) (by omega)]
      exact not_congr ⟨fun h => h.symm, fun h => h.symm⟩
    have ihO := fun (i : Nat) (hi : i < made) => ends_mem K most r (done ++ [((i : Nat) : Int)]) (mergeL P (labF P b) (P.getD (K + i) 0)) (pre ++ [(b.toNat, K + i)]) (by unfold mergeL; rw [List.length_map]; exact hK) hbr (by
        unfold mergeL
        rw [List.length_map]
        intro t ht
        rcases List.mem_append.mp ht with ht | ht
        · exact hp t ht
        · rw [List.mem_singleton.mp ht]
          exact ⟨by show b.toNat < _; omega, by show K + i < _; omega⟩) (by
        unfold mergeL
        rw [List.length_map]
        intro x y hx hy
        rw [glue_snoc]
        have gm : ∀ x, x < P.length → (P.map fun z => if z = P.getD (K + i) 0 then labF P b else z).getD x 0 = if P.getD x 0 = P.getD (K + i) 0 then labF P b else P.getD x 0 := fun x hx => by
          rw [List.getD_eq_getElem?_getD, List.getElem?_map, List.getElem?_eq_getElem hx, List.getD_eq_getElem?_getD (l := P) (i := x), List.getElem?_eq_getElem hx]
          rfl
        rw [gm x hx, gm y hy]
        exact tie_labels (L := fun x => P.getD x 0) (L' := fun x => if P.getD x 0 = P.getD (K + i) 0 then labF P b else P.getD x 0) (R := glue pre) (a := b.toNat) (b := K + i) (S := fun x => x < P.length) hg (by show b.toNat < _; omega) (by show K + i < _; omega) (fun y hy => rfl) x y hx hy) (by unfold mergeL; rw [List.length_map]; exact hm) σ
    -- new
    have ihN := fun (hl : made < most) => ends_mem K most r (done ++ [((made : Nat) : Int)]) (P ++ [labF P b]) (pre ++ [(b.toNat, K + made)]) (by rw [List.length_append]; omega) hbr (by
        rw [List.length_append]
        intro t ht
        rcases List.mem_append.mp ht with ht | ht
        · have := hp t ht
          exact ⟨by simp; omega, by simp; omega⟩
        · rw [List.mem_singleton.mp ht]
          exact ⟨by simp; omega, by simp; omega⟩) (by
        rw [List.length_append]
        intro x y hx hy
        rw [glue_snoc]
        have E := glue_eqv pre
        have hN : ∀ z, glue pre z (K + made) → z = K + made := fun z h => by
          rw [← lenP] at h ⊢
          exact glue_in hp h
        have hN2 : ∀ z, glue pre (K + made) z → z = K + made := fun z h => hN z (E.symm _ _ h)
        have g0 : ∀ z, z < P.length → (P ++ [labF P b]).getD z 0 = P.getD z 0 := fun z hz => by
          rw [List.getD_eq_getElem?_getD, List.getD_eq_getElem?_getD, List.getElem?_append_left hz]
        have g1 : (P ++ [labF P b]).getD (K + made) 0 = labF P b := by
          rw [List.getD_eq_getElem?_getD, List.getElem?_append_right (by omega), show K + made - P.length = 0 by omega]
          rfl
        have hx : x < P.length + 1 := hx
        have hy : y < P.length + 1 := hy
        have bl : b.toNat < P.length := by omega
        unfold J
        by_cases cx : x = K + made
        · by_cases cy : y = K + made
          · rw [cx, cy]
            exact ⟨fun _ => .inl (E.refl _), fun _ => rfl⟩
          · have hy2 : y < P.length := by omega
            rw [cx, g1, g0 y hy2]
            have := hg b.toNat y bl hy2
            constructor
            · intro h
              exact .inr (.inr ⟨E.refl _, this.mp h⟩)
            · rintro (h | ⟨h1, h2⟩ | ⟨h1, h2⟩)
              · exact absurd (hN2 _ h) cy
              · have := hN2 _ h1
                omega
              · exact this.mpr h2
        · have hx2 : x < P.length := by omega
          by_cases cy : y = K + made
          · rw [cy, g1, g0 x hx2]
            have := hg x b.toNat hx2 bl
            constructor
            · intro h
              exact .inr (.inl ⟨this.mp h, E.refl _⟩)
            · rintro (h | ⟨h1, h2⟩ | ⟨h1, h2⟩)
              · exact absurd (hN _ h) cx
              · exact this.mpr h1
              · exact absurd (hN _ h1) cx
          · have hy2 : y < P.length := by omega
            rw [g0 x hx2, g0 y hy2, hg x y hx2 hy2]
            constructor
            · exact .inl
            · rintro (h | ⟨h1, h2⟩ | ⟨h1, h2⟩)
              · exact h
              · exact absurd (hN2 _ h2) cy
              · exact absurd (hN _ h1) cx) (by rw [List.length_append]; show P.length + 1 - K ≤ most; omega) σ
    have lO : ∀ i, (mergeL P (labF P b) (P.getD (K + i) 0)).length - K = made := fun i => by unfold mergeL; rw [List.length_map]; exact hmade
    have lN : (P ++ [labF P b]).length - K = made + 1 := by rw [List.length_append]; show P.length + 1 - K = _; omega
    rw [hmade]
    show σ ∈ (nextL K most (done, P) b).flatMap (endsL K most r) ↔ _
    rw [List.mem_flatMap]
    constructor
    · rintro ⟨s', hs, hσ⟩
      unfold nextL at hs
      rcases List.mem_append.mp hs with hs | hs
      · obtain ⟨i, hi, rfl⟩ := List.mem_map.mp hs
        obtain ⟨hi, c⟩ := List.mem_filter.mp hi
        have hi : i < P.length - K := List.mem_range.mp hi
        rw [hmade] at hi
        have hσ : σ ∈ endsL K most r (done ++ [((i : Nat) : Int)], mergeL P (labF P b) (P.getD (K + i) 0)) := hσ
        obtain ⟨τ, e, l, rg, bcl, fr⟩ := (ihO i hi).mp hσ
        rw [lO] at rg bcl
        refine ⟨((i : Nat) : Int) :: τ, by rw [e, List.append_assoc]; rfl, by rw [List.length_cons, l, List.length_cons], ?_, ?_, (free_cons _ _ _).mpr ⟨?_, fr⟩⟩
        · refine ⟨by omega, by omega, ?_⟩
          rw [if_neg (by omega)]
          exact rg
        · show bc (if ((i : Nat) : Int) = (made : Int) then (made : Int) + 1 else made) τ ≤ _
          rw [if_neg (by omega)]
          exact bcl
        · refine (old i hi).mp ?_
          intro z
          have c : (!decide (P.getD (K + i) 0 = labF P b)) = true := c
          rw [decide_eq_true z] at c
          cases c
      · have hs : s' ∈ (if P.length - K < most then [(done ++ [((P.length - K : Nat) : Int)], P ++ [labF P b])] else []) := hs
        rw [hmade] at hs
        split at hs
        · rename_i hl
          rw [List.mem_singleton.mp hs] at hσ
          obtain ⟨τ, e, l, rg, bcl, fr⟩ := (ihN hl).mp hσ
          rw [lN] at rg bcl
          refine ⟨(made : Int) :: τ, by rw [e, List.append_assoc]; rfl, by rw [List.length_cons, l, List.length_cons], ?_, ?_, (free_cons _ _ _).mpr ⟨?_, fr⟩⟩
          · refine ⟨by omega, by omega, ?_⟩
            rw [if_pos rfl]
            exact rg
          · show bc (if (made : Int) = (made : Int) then (made : Int) + 1 else made) τ ≤ _
            rw [if_pos rfl]
            exact bcl
          · intro h
            have h : glue pre b.toNat (K + made) := h
            rw [← lenP] at h
            have := glue_in hp h
            omega
        · cases hs
    · rintro ⟨τ', e, l, rg, bcl, fr⟩
      cases τ' with
      | nil => cases l
      | cons y τ =>
        obtain ⟨y0, y1, rg⟩ := rg
        have l : τ.length = r.length := Nat.succ.inj l
        have fr : Free pre ((b.toNat, K + y.toNat) :: tiesFrom K r τ) := fr
        obtain ⟨f1, f2⟩ := (free_cons _ _ _).mp fr
        have bcl : bc (if y = (made : Int) then (made : Int) + 1 else made) τ ≤ most := bcl
        by_cases cy : y = (made : Int)
        · rw [if_pos cy] at rg bcl
          have hl : made < most := by
            have := bc_ge ((made : Int) + 1) τ
            omega
          refine ⟨(done ++ [((made : Nat) : Int)], P ++ [labF P b]), List.mem_append_right _ ?_, (ihN hl).mpr ⟨τ, by rw [e, cy, List.append_assoc]; rfl, l, by rw [lN]; exact rg, by rw [lN]; exact bcl, ?_⟩⟩
          · show _ ∈ (if P.length - K < most then [(done ++ [((P.length - K : Nat) : Int)], P ++ [labF P b])] else [])
            rw [hmade, if_pos hl]
            exact List.mem_singleton.mpr rfl
          · rw [cy] at f2
            exact f2
        · rw [if_neg cy] at rg bcl
          have hi : y.toNat < made := by omega
          have ey : ((y.toNat : Nat) : Int) = y := by omega
          refine ⟨(done ++ [((y.toNat : Nat) : Int)], mergeL P (labF P b) (P.getD (K + y.toNat) 0)), List.mem_append_left _ (List.mem_map.mpr ⟨y.toNat, List.mem_filter.mpr ⟨List.mem_range.mpr (by show y.toNat < P.length - K; omega), ?_⟩, rfl⟩), (ihO y.toNat hi).mpr ⟨τ, by rw [e, ey, List.append_assoc]; rfl, l, by rw [lO]; exact rg, by rw [lO]; exact bcl, f2⟩⟩
          have := (old y.toNat hi).mpr f1
          show (!decide (P.getD (K + y.toNat) 0 = labF P b)) = true
          rw [decide_eq_false this]
          rfl
end KQ
/-! the list of all partings that meet one, and how many they are -/
namespace KQ
open PySem PySem.Spec PyProof.Rows L2 KR KM StX
theorem ties_from {p : List Int} {K : Nat} (hK : bc 0 p = (K : Int)) : ∀ (rem τ : List Int), (∀ y ∈ τ, 0 ≤ y) → tiesFrom K rem τ = (rem.zip τ).map fun q => (q.1.toNat, (bc 0 p + q.2).toNat)
  | [], τ, _ => by cases τ <;> rfl
  | b :: r, [], _ => rfl
  | b :: r, y :: τ, h => by
    show (b.toNat, K + y.toNat) :: tiesFrom K r τ = (b.toNat, (bc 0 p + y).toNat) :: _
    have y0 := h y List.mem_cons_self
    rw [ties_from hK r τ fun z hz => h z (List.mem_cons_of_mem _ hz), hK, show ((K : Int) + y).toNat = K + y.toNat by omega]
    rfl
theorem free_loop (ts : List (Nat × Nat)) : Free [] ts ↔ NoLoop ts := by
  unfold Free NoLoop
  simp only [List.nil_append]
theorem iota_getD {K x : Nat} (h : x < K) : (iotaL K).getD x 0 = (x : Int) := by
  unfold iotaL
  rw [List.getD_eq_getElem?_getD, List.getElem?_map, List.getElem?_range h]
  rfl
/-- all that meet a parting, in order -/
def metBy (n : Nat) (p : List Int) : List (List Int) := (allP n).filter fun r => treeB p r
theorem ends_all {n K : Nat} {p : List Int} (par : Par p) (hn : p.length = n + 1) (hK : bc 0 p = (K : Int)) : endsL K (p.length + 1 - K) p ([], iotaL K) = metBy n p := by
  have rgm := rg_mem 0 p (Int.le_refl _) par.rg
  have kle := bc_le 0 p
  have k0 : 0 < K := by
    have h0 : 0 < p.length := by omega
    have := (rgm.1 p[0] (List.getElem_mem h0)).1
    have := (rgm.1 p[0] (List.getElem_mem h0)).2
    omega
  refine lup_same (ends_up _ _ _ _) ((allP_upA n).filter _) fun σ => ?_
  rw [ends_mem K _ p [] (iotaL K) [] (by rw [iota_len]; exact Nat.le_refl _) (fun b hb => by
    have := rgm.1 b hb
    omega) (fun t ht => by cases ht) (fun x y hx hy => by
    rw [iota_len] at hx hy
    rw [iota_getD hx, iota_getD hy]
    show (x : Int) = y ↔ x = y
    omega) (by rw [iota_len]; omega) σ]
  rw [iota_len, Nat.sub_self]
  unfold metBy
  rw [List.mem_filter]
  constructor
  · rintro ⟨τ, e, l, rg, bcl, fr⟩
    rw [show σ = τ from e]
    have rg : Rg 0 τ := rg
    have bcl : bc 0 τ ≤ ((p.length + 1 - K : Nat) : Int) := bcl
    have lt : τ.length = n + 1 := by omega
    refine ⟨allP_all n τ rg lt, (treeB_ok par.rg rg).mpr ?_⟩
    have nl : NoLoop (tiesOf p τ) := by
      rw [← free_loop]
      rw [ties_from hK p τ fun y hy => ((rg_mem 0 τ (Int.le_refl _) rg).1 y hy).1] at fr
      exact fr
    refine ⟨?_, noRing_loop.mpr nl⟩
    obtain ⟨M, hM⟩ : ∃ M, (bc 0 p + bc 0 τ).toNat = M := ⟨_, rfl⟩
    have g0 := bc_ge 0 τ
    obtain ⟨L, hL, _, _, hq⟩ := labels_ex M (tiesOf p τ) (by rw [← hM]; exact ties_rng par.rg rg)
    have e := hq.mp nl
    have lt2 : (tiesOf p τ).length = p.length := by
      unfold tiesOf
      rw [List.length_map, List.length_zip]
      omega
    have d0 : 0 < dcount L := by
      unfold dcount
      cases L with
      | nil => simp at hL; omega
      | cons x r => exact List.length_pos_of_mem ((mem_firsts _).mpr List.mem_cons_self)
    omega
  · rintro ⟨hm, tr⟩
    obtain ⟨rg, lt⟩ := allP_ok n σ hm
    obtain ⟨e, nr⟩ := (treeB_ok par.rg rg).mp tr
    refine ⟨σ, rfl, by omega, rg, by show bc 0 σ ≤ _; omega, ?_⟩
    rw [ties_from hK p σ fun y hy => ((rg_mem 0 σ (Int.le_refl _) rg).1 y hy).1, free_loop]
    exact noRing_loop.mp nr
/-- how many they are -/
theorem met_count {n K : Nat} {p : List Int} (par : Par p) (hn : p.length = n + 1) (hK : bc 0 p = (K : Int)) : (metBy n p).length = metN K p := by
  have rgm := rg_mem 0 p (Int.le_refl _) par.rg
  have kle := bc_le 0 p
  have k0 : 0 < K := by
    have h0 : 0 < p.length := by omega
    have := (rgm.1 p[0] (List.getElem_mem h0)).1
    have := (rgm.1 p[0] (List.getElem_mem h0)).2
    omega
  rw [← ends_all par hn hK, ends_len]
  exact cnt_met k0 (by omega) fun b hb => by
    have := rgm.1 b hb
    omega
end KQ
/-! no state leads nowhere: so there are never more states than there are partings at the end -/
namespace KQ
open PySem PySem.Spec PyProof.Rows L2 KR KM StX
/-- a state on the way -/
structure StOk (K most : Nat) (rem P : List Int) : Prop where
  len : K ≤ P.length
  top : P.length - K ≤ most
  inK : ∀ b ∈ rem, 0 ≤ b ∧ b.toNat < K
  made : ∀ x ∈ P.drop K, x ∈ P.take K
  alive : ∀ c ∈ P.take K, c ∈ P.drop K ∨ c ∈ rem.map (labF P)
  count : dcount (P.take K) + (most - (P.length - K)) = rem.length + 1
theorem StOk.new {K most : Nat} {b : Int} {r P : List Int} (h : StOk K most (b :: r) P) (hl : P.length - K < most) : StOk K most r (P ++ [labF P b]) := by
  have bK := (h.inK b List.mem_cons_self).2
  have tk : (P ++ [labF P b]).take K = P.take K := List.take_append_of_le_length h.len
  have dk : (P ++ [labF P b]).drop K = P.drop K ++ [labF P b] := List.drop_append_of_le_length h.len
  have hr : ∀ x ∈ r, 0 ≤ x ∧ x.toNat < K := fun x hx => h.inK x (List.mem_cons_of_mem _ hx)
  have lab : r.map (labF (P ++ [labF P b])) = r.map (labF P) := List.map_congr_left fun x hx => labF_app (by have := (hr x hx).2; have := h.len; omega)
  have hlen := h.len
  refine ⟨by rw [List.length_append]; omega, by rw [List.length_append]; show P.length + 1 - K ≤ most; omega, hr, ?_, ?_, ?_⟩
  · rw [tk, dk]
    intro x hx
    rcases List.mem_append.mp hx with hx | hx
    · exact h.made x hx
    · rw [List.mem_singleton.mp hx]
      exact labF_mem bK h.len
  · rw [tk, dk, lab]
    intro c hc
    rcases h.alive c hc with q | q
    · exact .inl (List.mem_append_left _ q)
    · rcases List.mem_cons.mp q with q | q
      · exact .inl (List.mem_append_right _ (List.mem_singleton.mpr q))
      · exact .inr q
  · rw [tk, List.length_append]
    have := h.count
    rw [List.length_cons] at this
    show _ + (most - (P.length + 1 - K)) = _
    omega
theorem StOk.glue {K most : Nat} {b : Int} {r P : List Int} (h : StOk K most (b :: r) P) {x : Int} (hx : x ∈ P.drop K) (ne : x ≠ labF P b) : StOk K most r (mergeL P (labF P b) x) := by
  have bK := (h.inK b List.mem_cons_self).2
  have tk : (mergeL P (labF P b) x).take K = (P.take K).map fun z => if z = x then labF P b else z := by unfold mergeL; rw [List.map_take]
  have dk : (mergeL P (labF P b) x).drop K = (P.drop K).map fun z => if z = x then labF P b else z := by unfold mergeL; rw [List.map_drop]
  have len : (mergeL P (labF P b) x).length = P.length := List.length_map ..
  have hr : ∀ y ∈ r, 0 ≤ y ∧ y.toNat < K := fun y hy => h.inK y (List.mem_cons_of_mem _ hy)
  have hlen := h.len
  have lab : r.map (labF (mergeL P (labF P b) x)) = (r.map (labF P)).map fun z => if z = x then labF P b else z := by
    rw [List.map_map]
    exact List.map_congr_left fun y hy => labF_map _ (by have := (hr y hy).2; omega)
  refine ⟨by rw [len]; exact h.len, by rw [len]; exact h.top, hr, ?_, ?_, ?_⟩
  · rw [tk, dk]
    intro y hy
    obtain ⟨z, hz, rfl⟩ := List.mem_map.mp hy
    exact List.mem_map_of_mem (h.made z hz)
  · rw [tk, dk, lab]
    intro c hc
    obtain ⟨z, hz, rfl⟩ := List.mem_map.mp hc
    by_cases q : z = x ∨ z = labF P b
    · refine .inl (List.mem_map.mpr ⟨x, hx, ?_⟩)
      rw [if_pos rfl]
      rcases q with q | q
      · rw [if_pos q]
      · rw [q]
        split <;> rfl
    · rcases h.alive z hz with q2 | q2
      · exact .inl (List.mem_map_of_mem q2)
      · rcases List.mem_cons.mp q2 with q2 | q2
        · exact absurd (.inr q2) q
        · exact .inr (List.mem_map_of_mem q2)
  · rw [tk, len]
    have e := dcount_merge (xs := P.take K) (labF_mem bK h.len) (h.made x hx) (fun z => ne z.symm)
    have := h.count
    rw [List.length_cons] at this
    omega
theorem le_sumN {x : Nat} : ∀ {xs : List Nat}, x ∈ xs → x ≤ xs.sum
  | y :: ys, h => by
    rw [List.sum_cons]
    rcases List.mem_cons.mp h with h | h
    · omega
    · have := le_sumN h
      omega
theorem cnt_pos (K most : Nat) : ∀ (rem P : List Int), StOk K most rem P → 0 < cntA K most rem P
  | [], P, _ => Nat.one_pos
  | b :: r, P, h => by
    rw [show cntA K most (b :: r) P = (((P.drop K).filter fun x => !decide (x = labF P b)).map fun x => cntA K most r (mergeL P (labF P b) x)).sum + (if P.length - K < most then cntA K most r (P ++ [labF P b]) else 0) from rfl]
    by_cases hl : P.length - K < most
    · rw [if_pos hl]
      have := cnt_pos K most r _ (h.new hl)
      omega
    · -- one without doors left
      have bK := (h.inK b List.mem_cons_self).2
      have ex : ∃ x ∈ P.drop K, x ≠ labF P b := by
        have cnt := h.count
        rw [List.length_cons] at cnt
        have hm := h.top
        have fr : dcount (P.take K) = r.length + 1 + 1 := by omega
        -- labels of what is left
        have some : ∃ c ∈ firsts (P.take K), c ∉ (b :: r).map (labF P) := by
          refine Classical.byContradiction fun no => ?_
          have all : ∀ c ∈ firsts (P.take K), c ∈ (b :: r).map (labF P) := fun c hc => Classical.byContradiction fun z => no ⟨c, hc, z⟩
          have := sub_len (firsts_nodup (P.take K)) all
          unfold dcount at fr
          rw [List.length_map, List.length_cons] at this
          omega
        obtain ⟨c, hc, nc⟩ := some
        rcases h.alive c ((mem_firsts _).mp hc) with q | q
        · exact ⟨c, q, fun z => nc (by rw [z]; exact List.mem_map_of_mem List.mem_cons_self)⟩
        · exact absurd q nc
      obtain ⟨x, hx, ne⟩ := ex
      have pos := cnt_pos K most r _ (h.glue hx ne)
      have mem : cntA K most r (mergeL P (labF P b) x) ∈ ((P.drop K).filter fun x => !decide (x = labF P b)).map fun x => cntA K most r (mergeL P (labF P b) x) :=
        List.mem_map.mpr ⟨x, List.mem_filter.mpr ⟨hx, by rw [decide_eq_false ne]; rfl⟩, rfl⟩
      have := le_sumN mem
      omega
/-- all states behind some doors -/
def walkL (K most : Nat) : List Int → List (List Int × List Int) → List (List Int × List Int)
  | [], ss => ss
  | b :: r, ss => walkL K most r (ss.flatMap fun s => nextL K most s b)
theorem ends_walk (K most : Nat) : ∀ (rem : List Int) (ss : List (List Int × List Int)), ss.flatMap (endsL K most rem) = (walkL K most rem ss).map (·.1)
  | [], ss => by
    show ss.flatMap (fun s => [s.1]) = ss.map (·.1)
    induction ss with
    | nil => rfl
    | cons s ss ih => rw [List.flatMap_cons, ih]; rfl
  | b :: r, ss => by
    show ss.flatMap (fun s => (nextL K most s b).flatMap (endsL K most r)) = (walkL K most r (ss.flatMap fun s => nextL K most s b)).map (·.1)
    rw [← ends_walk K most r, List.flatMap_assoc]
theorem next_ok {K most : Nat} {b : Int} {r : List Int} {s s' : List Int × List Int} (h : StOk K most (b :: r) s.2) (hs : s' ∈ nextL K most s b) : StOk K most r s'.2 := by
  unfold nextL at hs
  rcases List.mem_append.mp hs with hs | hs
  · obtain ⟨i, hi, rfl⟩ := List.mem_map.mp hs
    obtain ⟨hi, c⟩ := List.mem_filter.mp hi
    refine h.glue ?_ fun z => ?_
    · rw [drop_getD]
      exact List.mem_map_of_mem hi
    · rw [decide_eq_true z] at c
      cases c
  · split at hs
    · rw [List.mem_singleton.mp hs]
      exact h.new (by assumption)
    · cases hs
/-- never more states than ends -/
theorem few_states {K most : Nat} {rem : List Int} {ss : List (List Int × List Int)} (h : ∀ s ∈ ss, StOk K most rem s.2) : ss.length ≤ (ss.flatMap (endsL K most rem)).length := by
  rw [List.length_flatMap]
  induction ss with
  | nil => exact Nat.zero_le _
  | cons s ss ih =>
    have := ih fun x hx => h x (List.mem_cons_of_mem _ hx)
    have p := cnt_pos K most rem s.2 (h s List.mem_cons_self)
    rw [List.length_cons, List.map_cons, List.sum_cons, ends_len]
    omega
theorem start_ok {n K : Nat} {p : List Int} (par : Par p) (hn : p.length = n + 1) (hK : bc 0 p = (K : Int)) : StOk K (p.length + 1 - K) p (iotaL K) := by
  have rgm := rg_mem 0 p (Int.le_refl _) par.rg
  have kle := bc_le 0 p
  have tk : (iotaL K).take K = iotaL K := List.take_of_length_le (by rw [iota_len]; exact Nat.le_refl _)
  have dk : (iotaL K).drop K = [] := List.drop_of_length_le (by rw [iota_len]; exact Nat.le_refl _)
  have hp : ∀ b ∈ p, 0 ≤ b ∧ b.toNat < K := fun b hb => by
    have := rgm.1 b hb
    omega
  have lab : p.map (labF (iotaL K)) = p := (List.map_congr_left (g := id) fun b hb => iota_lab (hp b hb).1 (hp b hb).2).trans (List.map_id p)
  refine ⟨by rw [iota_len]; exact Nat.le_refl _, by rw [iota_len]; omega, hp, (fun x hx => by rw [dk] at hx; cases hx), fun c hc => ?_, ?_⟩
  · rw [tk] at hc
    rw [lab]
    obtain ⟨k, hk, rfl⟩ := List.mem_map.mp hc
    have := List.mem_range.mp hk
    exact .inr (rgm.2 _ (by omega) (by omega))
  · rw [tk, iota_len, show dcount (iotaL K) = K from dcount_range K]
    omega
end KQ
/-! x *= y of great numbers -/
namespace KQ
open PySem PySem.Spec PyProof.Rows L2 KR
def ipMW : TIp := fun x y H Q => ∃ i j, x = .int i ∧ y = .int j ∧ CMulW i j ∧ Q (.int (i * j)) H
theorem ip_mulW {X : Cx} : PIp X .Mult ipMW := by
  intro pins s σ H x y v u Q I r1 r2 h
  obtain ⟨i, j, e1, e2, c, q⟩ := h
  subst e1; subst e2
  obtain ⟨t, rfl⟩ := r1
  obtain ⟨t', rfl⟩ := r2
  exact imul_int ⟨.int _, H, I.tok _, ⟨_, rfl⟩, q⟩ c.ok
end KQ
/-! slices with steps; a walk over a locked dict's keys; a tuple turned about -/
namespace KR
open PySem PySem.Spec PyProof.Rows L2 KM KQ
/-! ### xs[lo:hi:step] of a list -/
def pickV (xs : List V) (lo hi st : Option Int) : List V := (sliceRange (sliceBounds lo hi st xs.length).1 (sliceBounds lo hi st xs.length).2.1 (sliceBounds lo hi st xs.length).2.2).filterMap (xs[·]?)
theorem vals_pick {xs : List V} {us : List Value} (r : Vals xs us) : ∀ is : List Nat, Vals (is.filterMap (xs[·]?)) (is.filterMap (us[·]?))
  | [] => .nil
  | i :: is => by
    rw [List.filterMap_cons, List.filterMap_cons]
    have ih := vals_pick r is
    cases hx : xs[i]? with
    | none =>
      have : us[i]? = none := by
        rw [List.getElem?_eq_none_iff] at hx ⊢
        rw [← r.length]
        exact hx
      rw [this]
      exact ih
    | some x =>
      obtain ⟨u, hu, ru⟩ := r.get hx
      rw [hu]
      exact .cons ru ih
section
variable {X : Cx} {K : PySem.W.Frag}
def tStep (K : PySem.W.Frag) (te : TE) (tl th tst : TO) : TE := fun σ H Q => te σ H fun x H1 => tl σ H1 fun l H2 => th σ H2 fun u H3 => tst σ H3 fun o H4 => ∃ a xs, x = .ref a ∧ SqL K H4 a xs ∧ o ≠ some 0 ∧ ∀ p, H4 p = none → Q (.ref p) (upd H4 p (.lst (pickV xs l u o)))
theorem pe_stepL {e : Expr} {te : TE} {lo hi st : Option Expr} {tl th tst : TO} {p3 pos : Pos} (hK : X.K = K) (he : PE X e te) (hl : PO X lo tl) (hu : PO X hi th) (hst : PO X st tst)
    (hop : ∀ a b : Addr, ∃ ops, subscripted (.Slice lo hi st p3) false (.ref a) (.ref b) = operate ops (getItem (.ref a) (.ref b))) : PE X (.Subscript e (.Slice lo hi st p3) pos) (tStep K te tl th tst) := by
  subst hK
  refine ⟨fun pins s σ H Q I h => ?_⟩
  refine Subscript_ (thn (he.run pins s σ H _ I h) fun v s1 ⟨x, H1, I1, r1, q1⟩ => ?_)
  refine wpAny_Slice (thn (hl.run pins s1 σ H1 _ I1 q1) fun vl s2 ⟨l, H2, I2, pl, q2⟩ => ?_)
  refine thn (hu.run pins s2 σ H2 _ I2 q2) fun vu s3 ⟨u, H3, I3, pu, q3⟩ => ?_
  refine thn (hst.run pins s3 σ H3 _ I3 q3) fun vs s4 ⟨o, H4, I4, ps, q4⟩ => ?_
  obtain ⟨a, xs, ex, hx, h0, q⟩ := q4
  subst ex
  cases r1
  have I5 : Inv X pins σ H4 { s4 with heap := s4.heap.push { cls := .type "slice", data := .fields #[vl, vu, vs] } } := I4.kept (t' := s4.toks) fun b ob q => Heap.get?_push_of_some _ q
  obtain ⟨its, r, ht, hz⟩ := I5.list hx
  have hlen := r.length
  show wpAny (model X.prog X.w) X.A (subscriptTail e (.Slice lo hi st p3) (.ref a) (.ref s4.heap.objs.size)) (EP X pins σ Q) X.xe { s4 with heap := s4.heap.push { cls := .type "slice", data := .fields #[vl, vu, vs] } }
  obtain ⟨ops, hops⟩ := hop a s4.heap.objs.size
  refine tail_any (ops := ops) ht.isList.typeIs (PySem.slot_list_getitem.lookup) ?_ hops
  have sz : (slicePick its.toArray l u o).size ≤ its.toArray.size := slicePick_size_le _ _ _ _
  refine wpAny_getItem_list_slice ht.isList (Heap.IsSliceOf.new _ vl vu vs) pl pu ps h0 ?_ (by rw [List.size_toArray]; omega)
  have e : slicePick its.toArray l u o = ((sliceRange (sliceBounds l u o xs.length).1 (sliceBounds l u o xs.length).2.1 (sliceBounds l u o xs.length).2.2).filterMap (its[·]?)).toArray := by
    unfold slicePick
    rw [List.size_toArray, ← hlen]
    congr 1
    refine congrArg (fun f => List.filterMap f _) (funext fun i => ?_)
    simp
  have vp := vals_pick r (sliceRange (sliceBounds l u o xs.length).1 (sliceBounds l u o xs.length).2.1 (sliceBounds l u o xs.length).2.2)
  rw [e] at sz ⊢
  refine ⟨.ref _, _, I5.laid (t' := s4.toks) (o := .lst (pickV xs l u o)) (fun b ob q => Heap.get?_push_of_some _ q) (Nat.le_refl _) ?_, rfl, q _ (I5.hok.fresh (Nat.le_refl _))⟩
  refine ⟨?_, _, 0, vp, Heap.get?_push_size _ rfl⟩
  have := vp.length
  rw [List.size_toArray, List.size_toArray] at sz
  unfold pickV
  omega
/-! ### t[::-1] of a tuple -/
theorem fm_congr {α β : Type} {f g : α → Option β} : ∀ {l : List α}, (∀ x ∈ l, f x = g x) → l.filterMap f = l.filterMap g
  | [], _ => rfl
  | a :: l, h => by
    rw [List.filterMap_cons, List.filterMap_cons, h a List.mem_cons_self, fm_congr fun x hx => h x (List.mem_cons_of_mem _ hx)]
theorem getItem_tuple_rev {prog : Program} {w : World} {A : Around} {E : Value → Shared → Prop} {s : Shared} {t sl : Addr} {items : Array Value} {tk : Tok} {Q : Value → Shared → Prop} (ht : IsTup s.heap t items) (hs : s.heap.IsSliceOf sl .none .none (.int (-1) tk))
    (h : Q (.ref s.heap.objs.size) { s with heap := s.heap.push { cls := .type "tuple", data := .seq items.toList.reverse.toArray } })
    (hsz : items.size ≤ sizeLine) : wpAny (model prog w) A (getItem (.ref t) (.ref sl)) Q E s := by
  have htake : sizeOk (.seq items.toList.reverse.toArray) := by
    show items.toList.reverse.toArray.size ≤ sizeLine
    rw [List.size_toArray, List.length_reverse, Array.length_toList]
    exact hsz
  obtain ⟨os, hos, hcs, hds⟩ := id hs
  have hTs : s.TypeIs (.ref sl) "slice" := ⟨os, hos, hcs⟩
  unfold getItem
  try with_reducible refine wpAny_holding ?_
  first | refine wpAny_bind (wpAny_pure ?_) | skip
  refine wpAny_bind (wpAny_sequenceKey ht.typeIs (by decide) ?_)
  refine wpAny_bind (wpAny_callSpecial?_slot (name := Str.ofString "__getitem__") ht.typeIs PyProof.Rows.slot_tuple_getitem
    (wpAny_call_entry PyProof.Rows.slot_tuple_getitem ht.typeIs entry_tuple_getitem ?_ (args_tuple_getitem _ _)))
  show wpAny _ _ (Builtin.Tuple.tupleItemsOf (.ref t) >>= _) _ _ s
  refine wpAny_bind (tupleItemsOf_ ht ?_)
  refine wpAny_bind (wpAny_typeOf hTs ?_)
  rw [if_pos (by decide)]
  have ap : ∀ {A : Around} {E : Value → Shared → Prop} {Q2 : Int × Int × Nat → Shared → Prop}, Q2 ((items.size : Int) - 1, -1, items.size) s → wpAny (model prog w) A (Builtin.Slice.sliceApplied (.ref sl) (pure (items.size : Int))) Q2 E s := by
    intro A E Q2 h2
    unfold Builtin.Slice.sliceApplied Builtin.Slice.sliceFields
    refine wpAny_bind (wpAny_bind (wpAny_field hos hds (x := .none) rfl (wpAny_bind (wpAny_field hos hds (x := .none) rfl (wpAny_bind (wpAny_field hos hds (x := .int (-1) tk) rfl (wpAny_pure ?_)))))))
    refine wpAny_bind (slicePart_int ?_)
    show wpAny _ _ (if ((-1 : Int) == 0) = true then _ else _) _ _ s
    rw [if_neg (by decide)]
    refine wpAny_bind (slicePart_none (wpAny_bind (slicePart_none (wpAny_bind (wpAny_pure ?_)))))
    show wpAny _ _ (pure ((items.size : Int) - 1, (-1 : Int), Builtin.Slice.slicePlaces ((items.size : Int) - 1) (-1) (-1))) _ _ s
    have e : Builtin.Slice.slicePlaces ((items.size : Int) - 1) (-1) (-1) = items.size := by
      unfold Builtin.Slice.slicePlaces
      rw [if_neg (by decide)]
      by_cases hp : (items.size : Int) - 1 > -1
      · rw [if_pos hp, show (- -1 : Int) = 1 by decide, Int.ediv_one]
        omega
      · rw [if_neg hp]
        omega
    rw [e]
    exact wpAny_pure h2
  refine wpAny_bind (ap ?_)
  have hno : ¬ ((((items.size : Int) - 1) == 0 && (-1 : Int) == 1 && items.size == items.size) = true) := by
    rw [show ((-1 : Int) == 1) = false from rfl, Bool.and_false, Bool.false_and]
    exact Bool.false_ne_true
  show wpAny _ _ (if (((items.size : Int) - 1) == 0 && (-1 : Int) == 1 && items.size == items.size) = true then _ else _) _ _ s
  rw [if_neg hno]
  have ep : ((List.range items.size).filterMap fun (k : Nat) => items[((items.size : Int) - 1 + (k : Int) * -1).toNat]?).toArray = items.toList.reverse.toArray := by
    have h1 := PySem.W.krv_all items
    have h2 := PySem.W.krv_range items.size
    rw [← h1, ← List.filterMap_reverse, ← h2, List.filterMap_map]
    congr 1
    refine fm_congr fun k hk => ?_
    have := List.mem_range.mp hk
    show items[((items.size : Int) - 1 + (k : Int) * -1).toNat]? = items[items.size - 1 - k]?
    rw [show ((items.size : Int) - 1 + (k : Int) * -1).toNat = items.size - 1 - k by omega]
  rw [ep]
  first
    | exact wpAny_bind (m := Builtin.Tuple.tupleExact _) (wpAny_newObj_type (wpAny_pure ⟨_, rfl, wpAny_pure h⟩) htake)
    | exact wpAny_bind (m := Builtin.Tuple.tupleExact _) (wpAny_newObj_type (wpAny_bind (wpAny_pure (wpAny_pure ⟨_, rfl, wpAny_pure h⟩))) htake)
    | exact wpAny_bind (wpAny_bind (m := Builtin.Tuple.tupleExact _) (wpAny_newObj_type (wpAny_pure (wpAny_pure ⟨_, rfl, wpAny_pure h⟩)) htake))
    | exact wpAny_bind (wpAny_bind (m := Builtin.Tuple.tupleExact _) (wpAny_newObj_type (wpAny_pure ⟨_, rfl, wpAny_pure h⟩) htake))
def tRevT (K : PySem.W.Frag) (te : TE) : TE := fun σ H Q => te σ H fun x H1 => ∃ a xs, x = .ref a ∧ SqT K H1 a xs ∧ ∀ p, H1 p = none → Q (.ref p) (upd H1 p (.tup xs.reverse))
theorem pe_revT {e : Expr} {te : TE} {k : Nat} {p1 p2 p3 pos : Pos} (hK : X.K = K) (he : PE X e te) : PE X (.Subscript e (.Slice none none (some (.UnaryOp .USub (.Constant (.int 1) k p1) p2)) p3) pos) (tRevT K te) := by
  subst hK
  refine ⟨fun pins s σ H Q I h => ?_⟩
  refine Subscript_ (thn (he.run pins s σ H _ I h) fun v s1 ⟨x, H1, I1, r1, q1⟩ => ?_)
  obtain ⟨a, xs, ex, hx, q⟩ := q1
  subst ex
  cases r1
  have hst : PO X (some (.UnaryOp .USub (.Constant (.int 1) k p1) p2)) (tPart (tUn (rU fun i => .int (-i)) (tC (.int 1)))) := po_some (pe_un un_neg pe_int)
  refine wpAny_Slice ?_
  rw [evalPart_none]
  refine wpAny_pure (wpAny_pure ?_)
  refine thn (hst.run pins s1 σ H1 (fun o H4 => o = some (-1) ∧ H4 = H1) I1 ⟨1, rfl, -1, rfl, rfl, rfl⟩) fun vs s4 ⟨o, H4, I4, ps, eo, e4⟩ => ?_
  subst eo e4
  obtain ⟨tk, rfl⟩ : ∃ tk, vs = .int (-1) tk := by
    cases ps
    exact ⟨_, rfl⟩
  have I5 : Inv X pins σ H4 { s4 with heap := s4.heap.push { cls := .type "slice", data := .fields #[.none, .none, .int (-1) tk] } } := I4.kept (t' := s4.toks) fun b ob q => Heap.get?_push_of_some _ q
  obtain ⟨its, r, ht, hz⟩ := I5.tuple hx
  have hlen := r.length
  show wpAny (model X.prog X.w) X.A (subscriptTail e (.Slice none none (some (.UnaryOp .USub (.Constant (.int 1) k p1) p2)) p3) (.ref a) (.ref s4.heap.objs.size)) (EP X pins σ Q) X.xe { s4 with heap := s4.heap.push { cls := .type "slice", data := .fields #[.none, .none, .int (-1) tk] } }
  refine tail_any (ops := [.ref a, .ref s4.heap.objs.size]) ht.typeIs (PyProof.Rows.slot_tuple_getitem.lookup) ?_ (by with_unfolding_all rfl)
  refine getItem_tuple_rev ht (Heap.IsSliceOf.new _ _ _ _) ?_ (by rw [List.size_toArray]; omega)
  refine ⟨.ref _, _, I5.laid (t' := s4.toks) (o := .tup xs.reverse) (fun b ob q => Heap.get?_push_of_some _ q) (Nat.le_refl _) ?_, rfl, q _ (I5.hok.fresh (Nat.le_refl _))⟩
  exact ⟨by rw [List.length_reverse]; exact hz, _, r.reverse, IsTup.new _ _⟩
end
/-! ### a walk over a locked dict's keys -/
theorem for_keys {d : Addr} {o : Obj} {kvs : List (L2.Key × V)} {g : TG} {tb : TS} {D : Ends} {σ : L2.St} {H : Hp} (Pv : Nat → L2.St → Hp → Prop) (h0 : Pv 0 σ H) (hl : ∀ i σ H, i ≤ kvs.length → Pv i σ H → H d = some (.frz o (.dK kvs)))
    (hs : ∀ i k v σ H, kvs[i]? = some (k, v) → Pv i σ H → g (kV k) σ H fun σ2 H2 => tb { D with nx := Pv (i + 1), ct := Pv (i + 1), bk := D.nx } σ2 H2) (hd : ∀ σ H, Pv kvs.length σ H → D.nx σ H) :
    ∃ W : Nat → Nat → L2.St → Hp → Prop, (∃ m, W 0 m σ H) ∧ ∀ i m σ H, W i m σ H →
      ((Itk d o kvs).stop i H ∧ D.nx σ H) ∨ ((Itk d o kvs).go i H ∧ ∃ N : L2.St → Hp → Prop, (∀ σ' H', N σ' H' → ∃ m', m' < m ∧ W (i + 1) m' σ' H') ∧ ∀ x H', (Itk d o kvs).yld i H x H' → g x σ H' fun σ2 H2 => tb { D with nx := N, ct := N, bk := D.nx } σ2 H2) := by
  refine ⟨fun i m σ H => m = kvs.length - i ∧ i ≤ kvs.length ∧ Pv i σ H, ⟨kvs.length, by simp, Nat.zero_le _, h0⟩, ?_⟩
  rintro i m σ H ⟨rfl, hi, p⟩
  have q := hl i σ H hi p
  by_cases hlt : i < kvs.length
  · refine .inr ⟨⟨q, hlt⟩, Pv (i + 1), fun σ' H' p' => ⟨kvs.length - (i + 1), by omega, rfl, hlt, p'⟩, fun x H' y => ?_⟩
    obtain ⟨e, k, v, hk, rfl⟩ := y
    subst e
    exact hs i k v σ _ hk p
  · have e : i = kvs.length := by omega
    subst e
    exact .inl ⟨⟨q, Nat.le_refl _⟩, hd σ H p⟩
/-! ### every second one -/
theorem pick_ev : ∀ xs : List V, (List.range ((xs.length + 1) / 2)).filterMap (fun k => xs[2 * k]?) = ev xs
  | [] => rfl
  | [a] => by
    rw [show ([a].length + 1) / 2 = 1 by rw [List.length_singleton]]
    rfl
  | a :: b :: r => by
    rw [show ((a :: b :: r).length + 1) / 2 = (r.length + 1) / 2 + 1 by rw [List.length_cons, List.length_cons]; omega, List.range_succ_eq_map, List.filterMap_cons, List.filterMap_map]
    show a :: _ = a :: ev r
    rw [← pick_ev r]
    refine congrArg (a :: ·) (congrArg (fun f => List.filterMap f _) (funext fun k => ?_))
    show (a :: b :: r)[2 * (k + 1)]? = r[2 * k]?
    rw [show 2 * (k + 1) = 2 * k + 1 + 1 by omega]
    rfl
theorem pick_two (xs : List V) : pickV xs none none (some 2) = ev xs := by
  rw [← pick_ev]
  unfold pickV
  have e : sliceBounds none none (some 2) xs.length = (0, (xs.length : Int), 2) := by
    simp [sliceBounds]
  rw [e]
  unfold sliceRange
  show List.filterMap _ (List.map _ (List.range _)) = _
  rw [List.filterMap_map]
  have c : (if (2 : Int) > 0 then (if (0 : Int) < (xs.length : Int) then ((xs.length : Int) - 0 + 2 - 1) / 2 else 0) else (if (0 : Int) > (xs.length : Int) then (0 - (xs.length : Int) - 2 - 1) / (-2) else 0)).toNat = (xs.length + 1) / 2 := by
    rw [if_pos (by decide)]
    split <;> omega
  rw [c]
  refine congrArg (fun f => List.filterMap f _) (funext fun k => ?_)
  show xs[((0 : Int) + 2 * (k : Int)).toNat]? = xs[2 * k]?
  rw [show ((0 : Int) + 2 * (k : Int)).toNat = 2 * k by omega]
theorem pick_one (xs : List V) : pickV xs (some 1) none (some 2) = ev xs.tail := by
  cases xs with
  | nil =>
    unfold pickV
    have e : sliceBounds (some 1) none (some 2) ([] : List V).length = (0, 0, 2) := by decide
    rw [e]
    rfl
  | cons a t =>
    show _ = ev t
    rw [← pick_ev]
    unfold pickV
    have e : sliceBounds (some 1) none (some 2) (a :: t).length = (1, (t.length : Int) + 1, 2) := by
      simp [sliceBounds] <;> omega
    rw [e]
    unfold sliceRange
    show List.filterMap _ (List.map _ (List.range _)) = _
    rw [List.filterMap_map]
    have c : (if (2 : Int) > 0 then (if (1 : Int) < (t.length : Int) + 1 then ((t.length : Int) + 1 - 1 + 2 - 1) / 2 else 0) else (if (1 : Int) > (t.length : Int) + 1 then (1 - ((t.length : Int) + 1) - 2 - 1) / (-2) else 0)).toNat = (t.length + 1) / 2 := by
      rw [if_pos (by decide)]
      split <;> omega
    rw [c]
    refine congrArg (fun f => List.filterMap f _) (funext fun k => ?_)
    show (a :: t)[((1 : Int) + 2 * (k : Int)).toNat]? = t[2 * k]?
    rw [show ((1 : Int) + 2 * (k : Int)).toNat = 2 * k + 1 by omega, List.getElem?_cons_succ]
end KR
/-! sorted(set(xs)) of a list of whole numbers; a comprehension over a locked dict's keys -/
namespace KR
open PySem PySem.Spec PyProof.Rows L2 KM KQ
section
variable {P : Program} {w : World} {A : Around} {E : Value → Shared → Prop} {s : Shared}
/-- a set without members -/
abbrev bare (w : World) : Obj := { cls := .type "set", dict := none, data := .set #[] 0 (.fresh 0 0 (!w.params.followText "set-order")) }
abbrev bareS (w : World) (s : Shared) : Shared := { s with heap := s.heap.push (bare w) }
set_option maxHeartbeats 8000000 in
theorem set_of_list {l : Addr} {items : Array Value} (ns : List Int) {Q : Value → Shared → Prop} (free : A.handled = none) (lst : s.heap.IsList l items) (hit : IntsAre items.toList ns) (small : ns.length + 1 < scanBound)
    (out : ∀ (h' : Heap) (tk c : Nat), SetR w h' s.heap.objs.size (fun j => decide (j ∈ ns)) c → c ≤ ns.length → (∀ b o, s.heap.get? b = some o → h'.get? b = some o) → Q (.ref s.heap.objs.size) { s with heap := h', toks := tk }) :
    wpAny (model P w) A (call (.type "set") [.ref l]) Q E s := by
  have size : items.size = ns.length := by rw [← hit.length, Array.length_toList]
  obtain ⟨c0, tl0, m0⟩ := F.called_set.mro
  have m1 := F.called_set.made; have m2 := F.called_set.sub; have m3 := F.called_set.notType; have m4 := F.called_set.canCreate; have m5 := F.typeCall_set_1 (.ref l)
  refine wpAny_call (codeAny_of_tree (show wpAny _ _ (callAny (.type "set") _) _ _ _ from wpAny_pure ⟨Code.quiet_builtin _ (by decide +kernel), codeAny_builtin F.entry_type_call ?_⟩))
  rw [Around.under_plain (weight_type_call_type "set" [.ref l] []) rfl]; repeat (any_goals (first | assumption | wp_step))
  refine codeAny_mono (code_set_led1 (.ref l) (E := E) (Q₁ := fun u s1 => u = .ref s.heap.objs.size ∧ s1 = bareS w s) ⟨rfl, rfl⟩) fun z s1 hz => ?_
  cases z with
  | error e => exact hz
  | ok fl =>
    cases fl with
    | ret u =>
      obtain ⟨rfl, rfl⟩ := hz
      have at0 : (s.heap.push (bare w)).get? s.heap.objs.size = some (bare w) := Heap.get?_push_size _ rfl
      have ty0 : Shared.TypeIs (bareS w s) (.ref s.heap.objs.size) "set" := ⟨_, at0, rfl⟩
      have n1 := F.called_set.init.lookup; have n2 := F.called_set.init.bind (.ref s.heap.objs.size); repeat (any_goals (first | assumption | wp_step))
      refine codeAny_mono (codeAny_call_builtin (R := wants (fun r s2 => r = .none ∧ ∃ h' tk c, s2 = { s with heap := h', toks := tk } ∧ SetR w h' s.heap.objs.size (fun j => decide (j ∈ ns)) c ∧ c ≤ ns.length ∧ ∀ b o, s.heap.get? b = some o → h'.get? b = some o) E)
        F.called_set.init.plain F.entry_set_init (check_set_init_1 ty0 ?_)) fun r2 s2 hz2 => ?_
      · obtain ⟨⟨oc, od, oda, osl⟩, at1, c1, n1', d1⟩ := lst
        simp only at c1 d1; subst c1; subst d1
        have at2 : (s.heap.push (bare w)).get? l = some { cls := .type "list", dict := od, data := .seq items n1', slots := osl } := Heap.get?_push_of_some _ at1
        have u1 := F.sub_list_set; have u2 := F.sub_list_frozenset; have u3 : (Value.type "list" == Value.type "dict") = false := by decide
        have lst2 : (s.heap.push (bare w)).IsList l items := ⟨_, at2, rfl, n1', rfl⟩
        unfold Builtin.«set.__init__» noKeywords Builtin.Frozenset.updateFrom; generalize hq : pyIter = qi; wp_walk; subst hq
        refine wpAny_pyIter_list lst2 (wpAny_bind (wpAny_runValue ?_))
        have below : l < s.heap.objs.size := Heap.lt_size at1
        have free3 : A.in1.in1.in1.handled = none := by simp [free]
        have ne1 : l ≠ (s.heap.push (bare w)).objs.size := by rw [Heap.size_push]; exact Nat.ne_of_lt (Nat.lt_succ_of_lt below)
        have out1 : s.heap.objs.size ∉ [(s.heap.push (bare w)).objs.size, l] := by
          rw [Heap.size_push]
          simp only [List.mem_cons, List.not_mem_nil, or_false, not_or]
          exact ⟨Nat.ne_of_lt (Nat.lt_succ_self _), Nat.ne_of_gt below⟩
        have vals : ∀ (i : Nat) (v : Value), items[i]? = some v → ∃ k t, ns[i]? = some k ∧ v = .int k t := fun i v hv => by
          have hi : i < ns.length := by rw [← size]; exact (Array.getElem?_eq_some_iff.mp hv).1
          obtain ⟨t, e⟩ := PyProof.Rows.IntsAre.int_at hit i v (by rw [Array.getElem?_toList]; exact hv)
          exact ⟨ns[i], t, List.getElem?_eq_getElem hi, by rw [e, List.getD_eq_getElem?_getD, List.getElem?_eq_getElem hi]; rfl⟩
        refine set_update_ints ((Walks.list free3 _ l ne1 items).toS) s.heap.objs.size out1 ns size small vals (items.size - 0) 0 _ (by omega) (Nat.zero_le _) ⟨⟨_, Heap.get?_push_size _ rfl, rfl, rfl⟩, lst2.push _⟩ ⟨0, Nat.le_refl 0, setR_new_at (Heap.get?_push_of_some _ at0)⟩ ?_
        rintro ⟨h', g2, d', tk', os'⟩ c' mv hc' R'
        obtain rfl : g2 = s.gens := mv.gens
        obtain rfl : d' = s.drawn := mv.drawn
        obtain rfl : os' = s.os := mv.os
        refine (show wpAny _ _ _ _ _ _ from wpAny_pure (show wpAny _ _ (ret Value.none) _ _ _ from wpAny_pure ⟨rfl, h', tk', c', rfl, R', by rw [← size]; exact hc', fun b o e => ?_⟩))
        have b0 : b < s.heap.objs.size := Heap.lt_size e
        refine mv.heap b o ?_ (Heap.get?_push_of_some _ (Heap.get?_push_of_some _ e))
        rw [Heap.size_push]
        simp only [List.mem_cons, List.not_mem_nil, or_false, not_or]
        exact ⟨Nat.ne_of_lt b0, Nat.ne_of_lt (Nat.lt_succ_of_lt b0)⟩
      · cases r2 with
        | error e => exact hz2
        | ok f2 =>
          cases f2 with
          | ret r =>
            obtain ⟨rfl, h', tk, c', rfl, R', hc', kp⟩ := hz2
            repeat (any_goals (first | assumption | wp_step))
            exact out _ _ _ R' hc' kp
          | _ => exact hz2.elim
    | _ => exact hz.elim
end
section
variable {X : Cx}
theorem srt_set {pins : List (Addr × Obj)} {σ : L2.St} {H : Hp} {Q : VK} {s : Shared} {a : Addr} {S : Int → Bool} {n : Nat} (hc : X.calm = true) (I : Inv X pins σ H s) (R : SetR X.w s.heap a S n) (h64 : n < 64)
    (q : ∀ (ns : List Int) (p : Addr), ns.Pairwise (· < ·) → (∀ k : Int, k ∈ ns ↔ S k = true) → H p = none → Q (.ref p) (upd H p (.lst (ns.map V.int)))) :
    wpAny (model X.prog X.w) X.A (call (.builtin "sorted") [.ref a]) (EP X pins σ Q) X.xe s := by
  refine sorted_set R (I.ok.hd hc) h64 fun s' p out c ns k g o hp hg hi hs hm hl => ?_
  have hz : (ns.map V.int).length ≤ sizeLine := by
    rw [List.length_map, hl, sizeLine_eq]
    omega
  have new : H p = none := I.hok.fresh hp
  have J : Inv X pins σ (upd H p (.lst (ns.map V.int))) { s with heap := s'.heap, gens := s'.gens, drawn := s'.drawn, toks := s'.toks } :=
    I.call (ch := []) (Un.laid k hp new) (I.hok.laid k hp ⟨hz, out.toList, c, vals_of_ints hi, hg⟩) (by rw [g]; exact I.bare) (fun _ z => nomatch z)
  rw [show s' = { s with heap := s'.heap, gens := s'.gens, drawn := s'.drawn, toks := s'.toks } by cases s'; cases s; cases o; rfl]
  exact ⟨.ref p, _, J, rfl, q ns p hs hm new⟩
def tSrtSet (K : PySem.W.Frag) (ta : TE) : TE := fun σ H Q => ta σ H fun x H1 => ∃ (l : Addr) (xs : List Int), x = .ref l ∧ SqL K H1 l (xs.map V.int) ∧ xs.length < 64 ∧
  ∀ (ns : List Int) (p : Addr), ns.Pairwise (· < ·) → (∀ k : Int, k ∈ ns ↔ k ∈ xs) → H1 p = none → Q (.ref p) (upd H1 p (.lst (ns.map V.int)))
theorem pe_srtSet {a : Expr} {ta : TE} {p p2 q pos : Pos} (hc : X.calm = true) (hg : Gl X "sorted") (hm : X.mg "sorted" = none) (hg2 : Gl X "set") (hm2 : X.mg "set" = none) (ha : PE X a ta)
    (na : starEach [a] X.env = (false, eval a X.env) :: starEach [] X.env := by rfl) : PE X (.Call (.Name "sorted" p) [.Call (.Name "set" p2) [a] [] q] [] pos) (tSrtSet X.K ta) := by
  refine ⟨fun pins s σ H Q I h => ?_⟩
  refine Call_ (ld_blt I hg hm (show bootBuiltins (Str.ofString "sorted") = some (.builtin "sorted") by decide +kernel) ?_)
  refine PyProof.Rows.callWith_builtin1 (PyProof.Rows.args_cons ?_ rfl) rfl rfl
  refine Call_ (ld_blt I hg2 hm2 boot_set ?_)
  refine PyProof.Rows.callWith_type1 (PyProof.Rows.args_cons (thn (ha.run pins s σ H _ I h) fun v s1 ⟨x, H1, I1, r1, q1⟩ => PyProof.Rows.args_nil ?_) na) na rfl
  obtain ⟨l, xs, rfl, hq, hle, q1⟩ := q1
  cases r1
  obtain ⟨its, r, pl, hz⟩ := I1.list hq
  refine set_of_list xs (I1.ok.hd hc) pl.isList (by simpa using r.ints) (Nat.lt_of_le_of_lt hle (by decide)) fun h' tk c R hcl kp => ?_
  refine PyProof.Rows.args_nil ?_
  have I2 : Inv X pins σ H1 { s1 with heap := h', toks := tk } := I1.kept kp
  exact srt_set hc I2 R (by omega) fun ns p hs hm hn => q1 ns p hs (fun z => by rw [hm z, decide_eq_true_iff]) hn
end
/-! a comprehension over a locked dict's keys -/
theorem lc_keys {d : Addr} {o : Obj} {kvs : List (L2.Key × V)} {g : TG} {tt : TT} {te : TE} {vs : List Nat} {σ : L2.St} {H1 : Hp} {D : Addr} {Qd : Hp → Prop} (Pv : Nat → Hp → Prop) (h0 : Pv 0 (upd H1 D (.lst []))) (hl : ∀ i H, i ≤ kvs.length → Pv i H → H d = some (.frz o (.dK kvs)))
    (hs : ∀ i k v H, kvs[i]? = some (k, v) → Pv i H → g (kV k) (wipe σ vs) H fun σ2 H2 => wipe σ2 vs = wipe σ vs ∧ tt σ2 H2 fun b H3 =>
      if b = true then te σ2 H3 fun y H4 => ∃ acc, H4 D = some (.lst acc) ∧ acc.length < sizeLine ∧ Pv (i + 1) (upd H4 D (.lst (acc ++ [y]))) else Pv (i + 1) H3) (hd : ∀ H, Pv kvs.length H → Qd H) :
    ∃ W : Nat → Nat → Hp → Prop, (∃ m, W 0 m (upd H1 D (.lst []))) ∧ ∀ i m H, W i m H →
      ((Itk d o kvs).stop i H ∧ Qd H) ∨ ((Itk d o kvs).go i H ∧ ∃ Nx : Hp → Prop, (∀ H', Nx H' → ∃ m', m' < m ∧ W (i + 1) m' H') ∧ ∀ x H', (Itk d o kvs).yld i H x H' → g x (wipe σ vs) H' fun σ2 H2 => wipe σ2 vs = wipe σ vs ∧ tt σ2 H2 fun b H3 =>
        if b = true then te σ2 H3 fun y H4 => ∃ acc, H4 D = some (.lst acc) ∧ acc.length < sizeLine ∧ Nx (upd H4 D (.lst (acc ++ [y]))) else Nx H3) := by
  refine ⟨fun i m H => m = kvs.length - i ∧ i ≤ kvs.length ∧ Pv i H, ⟨kvs.length, by simp, Nat.zero_le _, h0⟩, ?_⟩
  rintro i m H ⟨rfl, hi, p⟩
  have q := hl i H hi p
  by_cases hlt : i < kvs.length
  · refine .inr ⟨⟨q, hlt⟩, Pv (i + 1), fun H' p' => ⟨kvs.length - (i + 1), by omega, rfl, hlt, p'⟩, fun x H' y => ?_⟩
    obtain ⟨e, k, v, hk, rfl⟩ := y
    subst e
    exact hs i k v _ hk p
  · obtain rfl : i = kvs.length := by omega
    exact .inl ⟨⟨q, Nat.le_refl _⟩, hd H p⟩
end KR
/-! an own error whose __init__ says super().__init__(text), then self.f = x -/
namespace KR
open PySem PySem.Spec PyProof.Rows L2
def spIni (C : Addr) (fld : Str) : Sp := fun vs H Q _ => ∃ a v, vs = [.ref a, v] ∧ H a = some (exo a C none) ∧ ∀ dx, H dx = none → dx ≠ a → Q .non (upd (upd H dx (exd dx [(fld, v)])) a (exo a C (some dx)))
def cxI (P : Program) (w : World) (K : PySem.W.Frag) (mg : Str → Option Value) (base : Heap) (N : List Str) (qual : Str) (scope : Scope) (f cc : Addr) (cd : Value) (A : Around) (outer : List Env) (s : Shared) (H : Hp) (E' : Value → Shared → Prop) : Cx where
  prog := P
  w := w
  K := K
  mg := mg
  base := base
  A := A.deeper (PySem.W.ksEnv qual scope s.heap.objs.size f cd cc)
  N := N
  s_0 := s
  H_0 := H
  env := PySem.W.ksEnv qual scope s.heap.objs.size f cd cc
  outer := outer
  stack := PySem.W.ksEnv qual scope s.heap.objs.size f cd cc :: outer
  ex := []
  calm := true
  fn := fun _ => false
  pn := []
  xe := E'
theorem lkp {β : Type} (f g : Str) (y : β) (fs : List (Str × β)) : ((f, y) :: fs).lookup g = if g = f then some y else fs.lookup g := by
  by_cases h : g = f
  · subst h
    simp [List.lookup]
  · have e : (g == f) = false := by simpa using h
    rw [if_neg h]
    simp [List.lookup, e]
theorem lookup_cc {cc c : Addr} {y : Str} (e : ([(("__class__" : Str), cc)] : List (Str × Addr)).lookup y = some c) : y = "__class__" ∧ c = cc := by
  rw [lkp] at e
  by_cases h : y = "__class__"
  · rw [if_pos h] at e
    exact ⟨h, (Option.some.inj e).symm⟩
  · rw [if_neg h] at e
    cases e
theorem cc_lookup {cc : Addr} : ([(("__class__" : Str), cc)] : List (Str × Addr)).lookup ("__class__" : Str) = some cc := by
  rw [lkp, if_pos rfl]
section
variable {P : Program} {w : World} {K : PySem.W.Frag} {mg : Str → Option Value} {base : Heap} {CX : CXT} {f cc cda C : Addr} {name qual fld x msg : Str} {params : Arguments} {scope : Scope} {dV kV doc pm ct oc ccl cl : Value} {an od cdd cld : Option Addr} {osl ccs csl : Array (Option Value)} {vs0 : Array Value} {file : Str} {tf : Tok} {ar : Arg}
  {j : Nat} {p0 p1 p2 p3 p4 p5 q1 q2 q3 q4 : Pos}
abbrev iniBody (msg fld x : Str) (j : Nat) (p0 p1 p2 p3 p4 p5 q1 q2 q3 q4 : Pos) : List Stmt :=
  [.Expr (.Call (.Attribute (.Call (.Name "super" p0) [] [] p1) "__init__" p2) [.Constant (.str msg) j p3] [] p4) p5, .Assign [.Attribute (.Name "self" q1) fld q2] (.Name x q3) q4]
theorem fn_ini (T : OexC K C)
    (lk : K.lookup f = some ⟨oc, od, .func (PySem.W.ksFn name qual params (iniBody msg fld x j p0 p1 p2 p3 p4 p5 q1 q2 q3 q4) scope dV kV doc pm an (.ref cda) ct cc), osl⟩)
    (hcd : PySem.W.codeIn K (.ref cda) qual = true) (hcode : K.lookup cda = some ⟨ccl, cdd, .fields vs0, ccs⟩) (hvs : vs0[2]? = some (.str file tf)) (hfile : ((P.main.file : Str) == file) = true)
    (htop : (P.main.scope.names.lookup ("super" : Str)).isSome = false) (hcell : K.lookup cc = some ⟨cl, cld, .cell (some (.ref C)), csl⟩)
    (hsup : PySem.W.ks_superIn K C C "__init__" = some (some (.builtin "ValueError.__init__"))) (hV : PySem.W.subIn K (.ref C) (.type "ValueError") = some true) (hmro : PySem.W.mroIn K C (.ref C) = some true)
    (hop : PySem.W.nsIn K cStatics "thirdparty.any" = some none) (hsm : mg "super" = none) (hfa : PySem.W.findIn K (.ref C) fld = some none)
    (hp : (params.posonlyargs ++ params.args).head? = some ar) (har : ar.arg = "self") (hx : ¬ (x = "self")) (hxd : (x == ("__debug__" : Str)) = false) (hxc : (x == ("__classdict__" : Str)) = false)
    (hk : scope.kind = .function) (hco : scope.isCoroutine = false) (hgen : scope.isGenerator = false)
    (l1 : scope.names.lookup ("self" : Str) = some .local) (l2 : scope.names.lookup x = some .local) (l3 : scope.names.lookup ("__class__" : Str) = some .free) (l4 : scope.names.lookup ("super" : Str) = some .globalImplicit)
    {pl : Sem Bool} (hev : ∀ L, eval (.Call (.Attribute (.Call (.Name "super" p0) [] [] p1) "__init__" p2) [.Constant (.str msg) j p3] [] p4) (PySem.W.ksEnv qual scope L f (.ref cda) cc) = (do
      let ov ← attributeBase (.Call (.Name "super" p0) [] [] p1) "__init__" (PySem.W.ksEnv qual scope L f (.ref cda) cc) (eval (.Call (.Name "super" p0) [] [] p1) (PySem.W.ksEnv qual scope L f (.ref cda) cc))
      standAt p2.atName
      let (fn, first) ← holding [ov] (getMethod ov "__init__" pl)
      callWith p4 fn first (backTo p4 (starEach [.Constant (.str msg) j p3] (PySem.W.ksEnv qual scope L f (.ref cda) cc))) []))
    (l5 : ∀ y ∈ scope.names, y.2 ≠ .cell) (l6 : ∀ y ∈ scope.names, y.2 = .free → y.1 = "__class__") :
    FnOk P w K mg base CX 1 f (PySem.W.ksFn name qual params (iniBody msg fld x j p0 p1 p2 p3 p4 p5 q1 q2 q3 q4) scope dV kV doc pm an (.ref cda) ct cc) ["self", x] (spIni C fld) := by
  refine ⟨fun vs H Q E h => ?_, fun A outer s H args us vs Q E hr e0 hb r hsp => ?_⟩
  · obtain ⟨a, v, rfl, _⟩ := h
    rfl
  obtain ⟨a, v, rfl, ha, q⟩ := hsp
  cases r with
  | cons ra r1 =>
  rename_i u0 us1
  cases r1 with
  | cons rv r2 =>
  rename_i u1 us2
  cases r2
  obtain rfl : u0 = Value.ref a := ra
  have KX : K.In s.heap := e0.mod.kin.keeps fun b o e => (e0.bs b o e).1
  have lim : s.heap.NoLimit := e0.mod.nolimit.keeps fun b o e => (e0.bs b o e).1
  refine PySem.ks_codeAny_call_defAt (fd := PySem.W.ksFn name qual params (iniBody msg fld x j p0 p1 p2 p3 p4 p5 q1 q2 q3 q4) scope dV kV doc pm an (.ref cda) ct cc) (body := iniBody msg fld x j p0 p1 p2 p3 p4 p5 q1 q2 q3 q4)
    (binds := [("self", .ref a), (x, u1)]) hr.depth (KX _ _ lk) rfl lim (PySem.W.codeRec_of KX hcd) rfl hb l5 (fun y hy => ?_) (fun h0 hns hkp => ?_) hco hgen hk
  · simp only [List.mem_cons, List.not_mem_nil, or_false] at hy
    rcases hy with rfl | rfl
    · exact l1
    · exact l2
  show PySem.wpAt (model P w) (A.deeper (PySem.W.ksEnv qual scope s.heap.objs.size f (.ref cda) cc)) (.func (iniBody msg fld x j p0 p1 p2 p3 p4 p5 q1 q2 q3 q4) (PySem.W.ksEnv qual scope s.heap.objs.size f (.ref cda) cc)) (execs (iniBody msg fld x j p0 p1 p2 p3 p4 p5 q1 q2 q3 q4) (PySem.W.ksEnv qual scope s.heap.objs.size f (.ref cda) cc)) _ _ _
  generalize hE : (fun (e : Value) (s' : Shared) => wpAny (model P w) (A.deeper (callEnv (PySem.W.ksFn name qual params (iniBody msg fld x j p0 p1 p2 p3 p4 p5 q1 q2 q3 q4) scope dV kV doc pm an (.ref cda) ct cc) s.heap.objs.size f)) (leaving (callEnv (PySem.W.ksFn name qual params (iniBody msg fld x j p0 p1 p2 p3 p4 p5 q1 q2 q3 q4) scope dV kV doc pm an (.ref cda) ct cc) s.heap.objs.size f) e)
    (fun _ s'' => CR CX outer P w H s Q E (.error e) s'') (fun e' s'' => CR CX outer P w H s Q E (.error e') s'') s') = E'
  have I0 : Inv (cxI P w K mg base ["self", x] qual scope f cc (.ref cda) A outer s H E') [] [some (.ref a), some v] H { s with heap := h0, toks := s.toks + 2 } := by
    have hcc : base.get? cc = some ⟨cl, cld, .cell (some (.ref C)), csl⟩ := e0.mod.kin _ _ hcell
    have hccs := e0.bs _ _ hcc
    have noA : ∀ b : Addr, b ∉ (cxI P w K mg base ["self", x] qual scope f cc (.ref cda) A outer s H E').ex := fun b z => absurd (show b ∈ ([] : List Addr) from z) (by simp)
    refine ⟨⟨e0.mod, hk, rfl, rfl, Nat.le_refl _, fun y z c h1 h2 => ?_, fun y hy => ?_, fun y c h => ?_, fun _ => hr.hd, Around.frames_deeper e0.frames, .inr ⟨rfl, rfl⟩, fun b z => absurd z (noA b), e0.bs, e0.bsz, fun b _ _ => noA b, fun b z => absurd z (noA b), e0.funs, e0.frf⟩,
      rfl, e0.bare, Un.kept hkp, ⟨_, hns, fun i y v' h1 h2 h3 => ?_⟩, fun y c h => ?_, e0.hok.fresh (Nat.le_refl _), fun y c h => ?_, fun p hp => absurd (show p ∈ ([] : List (Addr × Obj)) from hp) (by simp), e0.hok.kept hkp, rfl⟩
    · exact (lookup_cc h1).1.trans (lookup_cc h2).1.symm
    · have hy : scope.names.lookup y = some .cell ∨ scope.names.lookup y = some .free := hy
      rcases hy with hy | hy
      · exact absurd rfl (l5 _ (PySem.mem_of_lookup hy))
      · rw [show y = ("__class__" : Str) from l6 _ (PySem.mem_of_lookup hy) rfl]
        exact ⟨cc, cc_lookup⟩
    · cases h
    · match i, h1, h2 with
      | 0, h1, h2 =>
        cases h1
        cases h2
        refine ⟨.ref a, rfl, .inl ⟨l1, ?_⟩⟩
        show ([(x, u1), ("self", Value.ref a)] : List (Str × Value)).lookup ("self" : Str) = _
        rw [lkp, if_neg (fun z => hx z.symm), lkp, if_pos rfl]
      | 1, h1, h2 =>
        cases h1
        cases h2
        refine ⟨u1, rv, .inl ⟨l2, ?_⟩⟩
        show ([(x, u1), ("self", Value.ref a)] : List (Str × Value)).lookup x = _
        rw [lkp, if_pos rfl]
      | n + 2, h1, h2 => exact absurd h1 (by simp [cxI])
    · rw [(lookup_cc h).2]
      exact ⟨_, _, hkp _ _ hccs.1, rfl⟩
    · rw [(lookup_cc h).2]
      exact hccs.2
  have KX0 := I0.kIn
  have heg : H a = some (exo a C none) := ha
  obtain ⟨t1, hoe⟩ := exo_at I0.hok heg
  obtain ⟨nm, qn, N, bs, bm, sn, sub, ab, col, dd, k0, k1, k2, k3, k5, hC, hbm⟩ := T.cls
  have hcl : PySem.W.clsIn K C = some { name := nm, bases := bs, mro := .ref C :: bm, ns := N, qualname := qn, hasDict := true, slotNames := sn, subclasses := sub, abstract := ab, collection := col, hasDel := false } := by unfold PySem.W.clsIn; rw [hC] <;> rfl
  have inst : PySem.W.InstAt h0 a { cls := .ref C, dict := none, data := .fields #[.ref t1, .none, .none, .none, .bool false, .none] } C none := ⟨hoe, rfl, rfl, trivial⟩
  have hac : a ≠ C := PySem.W.ks_ne KX0 inst hcl
  refine PySem.ks_wpAt_execs_cons (PySem.ks_wpAt_Expr_any (hi := I0.quiet) (PySem.ks_wpAt_MethodCall (he := hev _) ?_))
  obtain ⟨mb, hmb1, hmb2⟩ := I0.mod.blt
  have hCo := KX0 _ _ hC
  refine PySem.ks_wpAt_super_base (env := PySem.W.ksEnv qual scope s.heap.objs.size f (.ref cda) cc) l4 l3 (by decide +kernel) rfl (KX0 _ _ lk) rfl hp rfl (KX0 _ _ hcode) rfl hvs hfile htop ?_
  refine PySem.W.ks_loadName_global hk l4 (PySem.Calls.loadGlobal_builtin (env := PySem.W.ksEnv qual scope s.heap.objs.size f (.ref cda) cc) (I0.mod.glob.keeps I0.bk) hsm (hmb1.keeps I0.bk) ((hmb2 "super" (by decide)).trans PyProof.Rows.Boot.«super») ⟨rfl, ?_⟩)
  refine wpAny_loadName_free hk l3 cc_lookup ⟨_, KX0 _ _ hcell, rfl⟩ ?_
  refine wpAny_loadName_local hk (by rw [har]; exact l1) hns (v := .ref a) (by rw [har]; show ([(x, u1), ("self", Value.ref a)] : List (Str × Value)).lookup ("self" : Str) = _; rw [lkp, if_neg (fun z => hx z.symm), lkp, if_pos rfl]) ?_
  refine PySem.ks_wpAny_isType_cls hCo rfl ⟨rfl, ?_⟩
  refine PySem.ks_wpAny_call_super hCo rfl inst.at_ inst.cls (fun c e => by cases e) (PySem.W.looks_mroIn KX0 hmro) (fun h1 e1 kk1 => ?_)
  have KX1 := KX0.keeps kk1
  have hI : PySem.W.Looks (model P w) h1 (isInstance (.ref a) (.type "ValueError")) true := (show PySem.W.InstAt h1 a { cls := .ref C, dict := none, data := .fields #[.ref t1, .none, .none, .none, .bool false, .none] } C none from ⟨kk1 _ _ hoe, rfl, rfl, trivial⟩).type.andThen (PySem.W.looks_subIn KX1 hV)
  have hsup2 : PySem.W.alongIn K "__init__" bm = some (some (.builtin "ValueError.__init__")) := by
    unfold PySem.W.ks_superIn at hsup
    rw [hcl] at hsup
    have e2 : ((Value.ref C :: bm).dropWhile (· != Value.ref C)).drop 1 = bm := by simp [List.dropWhile_cons]
    rw [← e2]
    exact hsup
  refine PySem.W.kxs_getMethod PySem.W.kxs_ValueError e1 (PySem.W.looks_opaque KX1 hop) (l₀ := .ref C :: bm) (fun A Q E s k q => wpAny_bind ((PySem.W.looks_clsIn KX1 hcl) A _ E s k (wpAny_pure q))) (l := bm) (by simp [List.dropWhile_cons]) KX1 hsup2 hI hac (by decide +kernel) ?_
  have I1 := I0.kept (t' := s.toks + 2) kk1
  have kk2 : ∀ b o, h0.get? b = some o → (h1.push (PySem.W.kxs_mw "ValueError.__init__" a)).get? b = some o := fun b o e => Heap.get?_push_of_some _ (kk1 _ _ e)
  have hmw : (h1.push (PySem.W.kxs_mw "ValueError.__init__" a)).get? h1.objs.size = some (PySem.W.kxs_mw "ValueError.__init__" a) := Heap.get?_push_at rfl rfl
  have I2 : Inv (cxI P w K mg base ["self", x] qual scope f cc (.ref cda) A outer s H E') [(h1.objs.size, PySem.W.kxs_mw "ValueError.__init__" a)] [some (.ref a), some v] H
      { s with heap := h1.push (PySem.W.kxs_mw "ValueError.__init__" a), toks := s.toks + 2 + 1 } := (I0.kept (t' := s.toks + 2 + 1) kk2).pins_of fun p hp => by
    rcases List.mem_append.mp (show p ∈ [] ++ [(h1.objs.size, PySem.W.kxs_mw "ValueError.__init__" a)] from hp) with hp | hp
    · cases hp
    · rw [List.mem_singleton] at hp
      subst hp
      exact ⟨hmw, I1.hok.fresh (Nat.le_refl _), Nat.ne_of_gt I1.lt, I1.nofs (Nat.le_refl _), fun v z => by cases z⟩
  have hargs : PA (cxI P w K mg base ["self", x] qual scope f cc (.ref cda) A outer s H E') [.Constant (.str msg) j p3] (tCons (tC (.str msg)) tNil) := pa_cons pe_str pa_nil
  have hspl := hargs.run p4 _ _ _ H (fun vs H1 => vs = [V.str msg] ∧ H1 = H) I2 ⟨rfl, rfl⟩
  refine PySem.W.kxs_callWith (i := "ValueError.__init__") (x := a) rfl (PySem.Calls.evalArgs_plain (wpAny_mono hspl (fun us s3 h3 => ?_) (fun _ _ z => z)))
  obtain ⟨vs, H1, I3, r3, rfl, rfl⟩ := h3
  cases r3 with
  | cons ru rn =>
  rename_i uz usz
  cases rn
  have hmw3 := (I3.pin (h1.objs.size, PySem.W.kxs_mw "ValueError.__init__" a) (by simp [cxI])).1
  refine ⟨hmw3, ?_⟩
  obtain ⟨t3, ho3⟩ := exo_at I3.hok heg
  have hC3 := I3.kIn _ _ hC
  obtain ⟨h3, g3, d3, tk3, os3⟩ := s3
  refine wpAny_call (codeAny_of_tree ?_)
  show wpAny _ _ (callAny (.ref h1.objs.size) ⟨[uz], []⟩) _ _ _
  simp only [callAny]
  refine wpAny_bind (wpAny_load hmw3 ?_)
  simp only [PySem.W.kxs_mw, show (Value.type "method-wrapper" == Value.type "method" || Value.type "method-wrapper" == Value.type "builtin_function_or_method" || Value.type "method-wrapper" == Value.type "method-wrapper") = true by decide, if_true]
  refine PySem.W.KFB.if_so (by decide) ?_
  refine wpAny_bind (PySem.W.check_bound_init PySem.F.excBase_ValueError.toExcCallFacts hC3 ho3 rfl ?_)
  refine wpAny_bind (wpAny_pure (wpAny_pure ?_))
  refine ⟨PySem.plainId_quiet PySem.F.excBase_ValueError.init.plain _, codeAny_builtin PySem.F.excBase_ValueError.initEntry ?_⟩
  refine PySem.W.exc_init_tree (cls := .ref C) (t0 := t3) (dv := none) (c2 := .none) (c3 := .none) (b4 := .bool false) ho3 (by show 1 ≤ sizeLine; rw [sizeLine_eq]; omega) (fun h4 k4 hx4 _ => ?_)
  have J := I3.write (t' := tk3) (x := a) (e := a) (o := exo a C none) (by rw [heg]; exact True.intro) (.inl rfl) k4 ⟨_, hx4⟩ (exo_ok hx4)
  have eu : upd H1 a (exo a C none) = H1 := by
    funext b
    by_cases hb : b = a
    · rw [hb, upd_same, heg]
    · rw [upd_ne hb]
  rw [eu] at J
  refine wpAt_of_wpAny ?_
  have hps : PSs (cxI P w K mg base ["self", x] qual scope f cc (.ref cda) A outer s H1 E') [.Assign [.Attribute (.Name "self" q1) fld q2] (.Name x q3) q4] _ :=
    pss_one (ps_ost (pe_var (i := 0) rfl (.inl l1)) (pe_var (i := 1) rfl (.inl l2) hxd hxc))
  refine wpAny_mono (hps.run _ _ _ H1 { nx := fun _ H' => Q .non H', rt := Q } J ⟨v, rfl, .ref a, rfl, a, C, rfl, T, hfa, .inl ⟨heg, fun dx n ne => q dx n ne⟩⟩) (fun fl s' hs => ?_) (fun _ _ z => z)
  cases fl with
  | ret u =>
    obtain ⟨v', σ', H', J', rv', q'⟩ := hs
    exact ⟨v', H', J'.os, J'.bare, J'.base, J'.hok, rv', q'⟩
  | next =>
    obtain ⟨σ', H', J', q'⟩ := hs
    exact ⟨V.non, H', J'.os, J'.bare, J'.base, J'.hok, rfl, q'⟩
  | brk =>
    obtain ⟨_, _, _, q'⟩ := hs
    exact False.elim q'
  | cont =>
    obtain ⟨_, _, _, q'⟩ := hs
    exact False.elim q'
end
end KR
/-! defs that raise; several clauses `except C as e` -/
namespace KR
open PySem PySem.Spec PyProof.Rows L2
def UseX (P : Program) (w : World) (K : PySem.W.Frag) (mg : Str → Option Value) (base : Heap) (x : Str) (k : Nat) (ps : List Str) (sp : Sp) : Prop :=
  ∃ f fd, FnOk P w K mg base (L2.CX P w) k f fd ps sp ∧ mg x = some (.ref f) ∧ PySem.W.keepIn K (.ref f) = true ∧ Binds K fd ps []
section
variable {P : Program} {w : World} {K : PySem.W.Frag} {mg : Str → Option Value} {base : Heap} {x qual : Str} {st : Stmt} {k : Nat} {N ps : List Str} {sp : Sp} {f : Addr} {fd : FuncData}
theorem lift0 {CX : CXT} (F : FnOk P w K mg base CX0 k f fd ps sp) : FnOk P w K mg base CX k f fd ps sp :=
  ⟨F.len, fun A outer s H args us vs Q E hr he hb hv hs => codeAny_mono (F.run A outer s H args us vs Q E hr he hb hv hs) fun r s' hq => by
    cases r with
    | error e => exact (show False from hq).elim
    | ok fl => cases fl <;> exact hq⟩
theorem Use.up (u : Use P w K mg base x k ps sp) : UseX P w K mg base x k ps sp := by
  obtain ⟨f, fd, F, a, b, c⟩ := u
  exact ⟨f, fd, lift0 F, a, b, c⟩
theorem usex_of (D : DefAt K mg x st) (ok : ∀ f fd, Fun K x x st f fd → FnOk P w K mg base (L2.CX P w) k f fd ps sp)
    (h : ∀ (kV doc pm : Value) (an : Option Addr) (cdv ct : Value) (us : List Value), us.length = ps.length → bindArgs (PySem.W.fnOf x x (defArgs st) (defBody st) (defScope st) .none kV doc pm an cdv ct) ⟨us, []⟩ = pure (ps.zip us)) :
    UseX P w K mg base x k ps sp := by
  obtain ⟨f, fd, F, hm⟩ := D
  exact ⟨f, fd, ok f fd F, hm, F.kp, F.binds h⟩
/-- a def of the text that may raise, by its body -/
theorem okX (F : Fun K x qual st f fd) (S : FnScope N ps (defScope st)) (len : ∀ vs H Q E, sp vs H Q E → vs.length = ps.length)
    (body : ∀ (cdv : Value) (A : Around) (outer : List Env) (s : Shared) (H : Hp) (vs : List V) (Q : VK) (E : XK), Takes (cxOf (L2.CX P w) P w K mg base N qual (defScope st) f cdv A outer s H E) (fun cls d _ H' => E cls d H') →
      PassesOwn (model P w) (A.deeper (envOfC qual (defScope st) s.heap.objs.size f cdv)) (envOfC qual (defScope st) s.heap.objs.size f cdv) (cxOf (L2.CX P w) P w K mg base N qual (defScope st) f cdv A outer s H E).xe →
      Room k (A.deeper (envOfC qual (defScope st) s.heap.objs.size f cdv)) → sp vs H Q E →
      ∃ t, PSs (cxOf (L2.CX P w) P w K mg base N qual (defScope st) f cdv A outer s H E) (defBody st) t ∧ t { nx := fun _ H' => Q .non H', rt := Q } (start N vs) H) : FnOk P w K mg base (L2.CX P w) (k + 1) f fd ps sp := by
  obtain ⟨oc, od, kV, doc, pm, an, cdv, ct, osl, rfl, lk, hcd⟩ := F.ex
  exact fn_of lk hcd S len fun A outer s H vs Q E hr hsp => body cdv A outer s H vs Q E (takes_of rfl rfl rfl rfl) (passes_of rfl) hr hsp
end
section
variable {X : Cx} {x : Str} {j k : Nat} {ps : List Str} {sp : Sp} {e : Expr} {es : List Expr} {t : TA} {p pos : Pos} {E : XK}
/-- a call that may raise what is wished -/
theorem pe_usex (u : UseX X.prog X.w X.K X.mg X.base x j ps sp) (tk : Takes X (fun cls d _ H => E cls d H)) (le : j ≤ k) (hr : Room k X.A) (hg : Gl X x) (ha : PA X (e :: es) t)
    (hdb : (x == ("__debug__" : Str)) = false := by decide) (he : starEach (e :: es) X.env = (false, eval e X.env) :: starEach es X.env := by rfl)
    (hpl : (backTo pos (starEach es X.env)).any (·.1) = false := by rfl) : PE X (.Call (.Name x p) (e :: es) [] pos) (tCall sp [] E t) := by
  obtain ⟨f, fd, F, hm, kp, b⟩ := u
  exact pe_call F (hr.mono le) hg hm kp b .nil (passes_call tk fun _ _ _ _ h => h) ha hdb he hpl
end
/-! ### own errors made -/
structure ErrC (P : Program) (w : World) (K : PySem.W.Frag) (mg : Str → Option Value) (base : Heap) (x : Str) (C : Addr) (fld : Str) : Prop where
  T : OexC K C
  ini : ∃ fI fd p, FnOk P w K mg base CX0 1 fI fd ["self", p] (spIni C fld) ∧ PySem.W.findIn K (.ref C) "__init__" = some (some (.ref fI)) ∧ PySem.W.typeIn K (.ref fI) = some (.type "function") ∧ Binds K fd ["self", p] []
  hm : mg x = some (.ref C)
  xf : XfC K C
  nf : PySem.W.findIn K (.ref C) fld = some none
def tUp (ta : TA) : TA := fun σ H Q => ∃ Q' : List V → Hp → Prop, ta σ H Q' ∧ ∀ vs H1, Q' vs H1 → Q vs H1
def tErr (C : Addr) (fld : Str) (ta : TA) : L2.St → Hp → XK → Prop := fun σ H Q => ta σ H fun vs H1 => ∃ v, vs = [v] ∧ ∀ H' d, Same H1 H' → H' d = some (.xd [(fld, v)]) → Q (.ref C) (some d) H'
section
variable {X : Cx} {x fld : Str} {C : Addr} {e : Expr} {es : List Expr} {ta : TA} {p pos : Pos}
theorem pa_up (ha : PA X es ta) : PA X es (tUp ta) := ⟨fun pos pins s σ H Q I h => by
  obtain ⟨Q', h1, h2⟩ := h
  exact wpAny_mono (ha.run pos pins s σ H Q' I h1) (fun us s1 ⟨vs, H1, I1, r1, q1⟩ => ⟨vs, H1, I1, r1, h2 _ _ q1⟩) fun _ _ z => z⟩
theorem pmk_err (er : ErrC X.prog X.w X.K X.mg X.base x C fld) (hr : Room 2 X.A) (hg : Gl X x) (ha : PA X (e :: es) ta)
    (hdb : (x == ("__debug__" : Str)) = false := by decide) (he : starEach (e :: es) X.env = (false, eval e X.env) :: starEach es X.env := by rfl) (hpl : (backTo pos (starEach es X.env)).any (·.1) = false := by rfl) :
    PMk X (.Call (.Name x p) (e :: es) [] pos) (tErr C fld ta) := fun pins s σ H Q I h => by
  obtain ⟨fI, fd, pn, F, iC, tI, hb⟩ := er.ini
  refine pmk_oex (CX := CX0) er.T iC tI F hr hb .nil (fun _ _ _ _ _ _ _ z => z.elim) hg er.hm (pa_up ha) hdb he hpl pins s σ H Q I ⟨_, h, fun vs H1 hv => ?_⟩
  obtain ⟨v, rfl, q⟩ := hv
  refine ⟨by show 1 ≤ 1000; decide, fun a na => ⟨a, v, rfl, upd_same, fun dx ndx nea => ?_⟩⟩
  have n1 : H1 dx = none := by rw [upd_ne nea] at ndx; exact ndx
  refine ⟨rfl, dx, [(fld, v)], upd_same, ?_, n1, q _ dx (fun b o hb => ?_) upd_same⟩
  · rw [upd_ne nea, upd_same]
  · have ba : b ≠ a := ne_of_none hb na
    rw [upd_ne (ne_of_none hb n1), del_ne ba, upd_ne ba, upd_ne (ne_of_none hb n1), upd_ne ba]
    exact hb
end
/-! ### several clauses with names -/
def wManyA (K : PySem.W.Frag) (Wout : WX) (D : Ends) : List (Value × Nat × (Addr → Value → Option Addr → TS)) → WX
  | [] => Wout
  | (c, i, ts) :: r => fun cls d σ H => ∃ b, PySem.W.exmOne K cls c = some b ∧
    (b = true → ∀ a, H a = none → ts a cls d { nx := fun σ' H' => D.nx (σ'.set i none) H', rt := D.rt, bk := fun σ' H' => D.bk (σ'.set i none) H', ct := fun σ' H' => D.ct (σ'.set i none) H' } (σ.set i (some (.ref a))) H) ∧
    (b = false → wManyA K Wout D r cls d σ H)
inductive HdsA (X : Cx) : List ExceptHandler → List (Value × Nat × (Addr → Value → Option Addr → TS)) → Prop
  | nil : HdsA X [] []
  | cons {x n : Str} {c : Value} {i : Nat} {ts : Addr → Value → Option Addr → TS} {b₀ : Stmt} {suite : List Stmt} {np pos' : Pos} {hds : List ExceptHandler} {l : List (Value × Nat × (Addr → Value → Option Addr → TS))} (hc : Names X x c)
      (hi : X.N[i]? = some n) (hln : X.env.kindOf n = some .local)
      (hsu : ∀ (a : Addr) (oe : Obj) (cls : Value) (d : Option Addr) (pn : List (Addr × Obj)), Zc cls d oe → (∃ vs, oe.data = .fields vs) → PSs (X.suite a ((a, oe) :: pn)) (b₀ :: suite) (ts a cls d)) (r : HdsA X hds l) :
      HdsA X (.ExceptHandler (some (.Name x np)) (some n) (b₀ :: suite) pos' :: hds) ((c, i, ts) :: l)
section
variable {X : Cx} {body : List Stmt} {h₀ : ExceptHandler} {hds : List ExceptHandler} {l : List (Value × Nat × (Addr → Value → Option Addr → TS))} {pos : Pos} {tb : WX → TS} {Wout : WX}
theorem ps_try_manyA (hs : X.stack = X.env :: X.outer) (hf : X.env.frame = some X.env.locals) (hN : X.N.Nodup) (tk : Takes X Wout)
    (hb : ∀ (W : WX) (pn : List (Addr × Obj)) (xe : Value → Shared → Prop), Takes (X.tr pn xe) W → PassesOwn (model X.prog X.w) X.A X.env xe → PSs (X.tr pn xe) body (tb W))
    (hh : HdsA X (h₀ :: hds) l) : PS X (.Try body (h₀ :: hds) [] [] pos) (fun D σ H => tb (wManyA X.K Wout D l) D σ H) := by
  refine ⟨fun pins s σ H D I h => ?_⟩
  have ok := I.ok
  have hfr : X.A.frames = some (X.env :: X.outer) := by rw [ok.frames, hs]
  refine wpAny_Try_except ?_
  refine wpAny_mono ((hb (wManyA X.K Wout D l) (X.pn ++ pins) (fun e s₁ => wpAny (model X.prog X.w) X.A (noteFrame e X.env) (fun _ s₂ => wpAny (model X.prog X.w) X.A (setFlight e none) (fun _ s₃ =>
    wpAny (model X.prog X.w) X.A (handleBy e X.env (h₀ :: hds)) (SP X pins D) X.xe s₃) X.xe s₂) X.xe s₁) (fun u s' xx => ?_) PassesOwn.looking).run [] s σ H D (I.toTry _) h) (fun f s1 hsp => ?_) (fun e s1 he => he)
  · obtain ⟨a, B, sI, pins', σ', H', cls, d, rfl, J', nb, up, sky, na, os, ag, w⟩ := xx
    have J : Inv X pins σ' H' sI := J'.ofTry ok
    have sky' : Sky B (X.env :: X.outer) a (Zc cls d) X.env.locals s'.heap := by rw [← hs]; exact sky
    show wpAny (model X.prog X.w) X.A (noteFrame (.ref a) X.env) _ _ _
    refine Sky.land Zc.steady hfr hf sky' fun h3 fl3 up3 => ?_
    have J3 : Inv X pins σ' H' { s' with heap := h3 } := J.landed nb fl3.1 (up.trans up3) os ag
    obtain ⟨oe3, vs3, he3, hz3, hd3⟩ := fl3.there
    have notFr : ∀ {h : Heap} {o : Obj} {vs : Array Value}, h.FunFrames B (X.env :: X.outer) → h.get? a = some o → o.data = .fields vs → a ∉ frs (X.env :: X.outer) := fun {h o vs} ff e dd hm => by
      obtain ⟨_, o', e', hnf⟩ := ff.mem hm
      rw [e] at e'; cases e'
      exact hnf _ dd
    have nfr := notFr fl3.2.2.1 he3 hd3
    have nL : a ≠ X.env.locals := fun z => nfr (List.mem_filterMap.mpr ⟨X.env, List.mem_cons_self, by rw [hf, z]⟩)
    have nF : a ∉ X.fs := fun hm => by
      obtain ⟨e, he, q⟩ := List.mem_filterMap.mp hm
      exact nfr (List.mem_filterMap.mpr ⟨e, List.mem_cons_of_mem _ he, q⟩)
    have S3 := J3.suite he3 hd3 na nL nF
    have go : ∀ {hds' : List ExceptHandler} {l' : List (Value × Nat × (Addr → Value → Option Addr → TS))}, HdsA X hds' l' → wManyA X.K Wout D l' cls d σ' H' →
        wpAny (model X.prog X.w) X.A (handleBy (.ref a) X.env hds') (SP X pins D) X.xe { s' with heap := h3 } := by
      intro hds' l' hk
      induction hk with
      | nil =>
        intro w
        refine wpAny_handleBy_nil ?_
        obtain ⟨k1, k2, k3, oe, vs, T, oT, ts', he, hz, hd, h1, hr⟩ := id fl3
        unfold PySem.passOn
        refine wpAny_bind (wpAny_field he hd h1 ?_)
        rw [if_neg (show ¬ ((Value.ref T == Value.none) = true) from by simp)]
        have fin : wpAny (model X.prog X.w) X.A (setFlight (.ref a) X.env.frame) (fun _ s4 => wpAny (model X.prog X.w) X.A (throw (.ref a) : Sem Flow) (SP X pins D) X.xe s4) X.xe { s' with heap := h3 } := by
          rw [hf]
          refine HandSPX.setFlight_upZ fl3 fun h4 hh4 up4 => wpAny_throw (tk _ _ ?_)
          exact ⟨a, B, sI, pins, σ', H', cls, d, rfl, J, nb, (up.trans up3).trans up4, .inr (.inr (by rw [hs]; exact hh4)), na, os, ag, w⟩
        first
          | exact wpAny_bind (wpAny_pure (wpAny_bind fin))
          | exact wpAny_bind fin
      | @cons x n c i ts b₀ suite np pos' hds2 l2 hc hi hln hsu r ih =>
        intro w
        have hloc : Loc X.env.scope n := .inl hln
        obtain ⟨b, hb1, hyes, hno⟩ := w
        refine wpAny_handleBy_cons (codeAny_handlers_test ?_) (by intro q; cases q)
        have LT : PySem.W.Looks (model X.prog X.w) h3 (typeOf (.ref a)) cls := fun A Q E s k q => wpAny_typeOf_ref (k _ _ he3) (by rw [hz3.1]; exact q)
        have LM := PySem.W.exm_one (M := model X.prog X.w) (J3.kIn) LT hb1
        have test : ∀ {Q : Value → Shared → Prop} {E : Value → Shared → Prop}, Q c { s' with heap := h3 } → wpAny (model X.prog X.w) (X.A.mark (some (.ref a))) (eval (.Name x np) X.env) Q E { s' with heap := h3 } := fun {Q E} q => by
          obtain ⟨hg, hdbg, hm | ⟨hm, hv, hnn⟩⟩ := hc
          · exact ld_glob (X := X.suite a ((a, oe3) :: (X.pn ++ pins))) S3 hg hm q hdbg
          · exact ld_blt (X := X.suite a ((a, oe3) :: (X.pn ++ pins))) S3 hg hm hv q hnn hdbg
        refine test (LM.here ?_)
        cases b with
        | true =>
          refine codeAny_handlers_suite_as ?_
          refine HandSPX.lands_againZ fl3 fun h4 fl4 up4 => ?_
          have J4 : Inv X pins σ' H' { s' with heap := h4 } := J.landed nb fl4.1 ((up.trans up3).trans up4) os ag
          obtain ⟨oe4, vs4, he4, hz4, hd4⟩ := fl4.there
          have S4 := J4.suite he4 hd4 na nL nF
          refine store_ok (X := X.suite a ((a, oe4) :: (X.pn ++ pins))) (v := .ref a) S4 hN hi hloc rfl (fun s5 S5 => ?_) (.inr hln)
          refine wpAny_mono ((hsu a oe4 cls d (X.pn ++ pins) hz4 ⟨_, hd4⟩).run [] s5 _ H' _ S5 (hyes rfl a na)) (fun f s6 hsp => ?_) (fun _ _ z => False.elim z)
          have end_ : ∀ {σ6 : L2.St} {H6 : Hp} {Q : Shared → Prop}, Inv (X.suite a ((a, oe4) :: (X.pn ++ pins))) [] σ6 H6 s6 → (∀ s7, Inv X pins (σ6.set i none) H6 s7 → Q s7) →
              wpAny (model X.prog X.w) X.A (do bindName X.env n .none; unbindBehindTheSuite X.env n pos') (fun _ s7 => Q s7) X.xe s6 := fun {σ6 H6 Q} S6 hq => gone_ok (S6.unsuite ok) hN hi hln hq
          cases f with
          | next =>
            obtain ⟨σ6, H6, S6, q6⟩ := hsp
            exact end_ S6 fun s7 J7 => ⟨_, _, J7, q6⟩
          | brk =>
            obtain ⟨σ6, H6, S6, q6⟩ := hsp
            exact end_ S6 fun s7 J7 => ⟨_, _, J7, q6⟩
          | cont =>
            obtain ⟨σ6, H6, S6, q6⟩ := hsp
            exact end_ S6 fun s7 J7 => ⟨_, _, J7, q6⟩
          | ret u =>
            obtain ⟨v6, σ6, H6, S6, r6, q6⟩ := hsp
            exact end_ S6 fun s7 J7 => ⟨_, _, _, J7, r6, q6⟩
        | false =>
          show wpAny _ X.A (handleBy (.ref a) X.env hds2) _ _ _
          exact ih (hno rfl)
    exact go hh w
  · cases f with
    | next =>
      obtain ⟨σ', H', J', q⟩ := hsp
      exact wpAny_execs_nil ⟨σ', H', J'.ofTry ok, q⟩
    | brk =>
      obtain ⟨σ', H', J', q⟩ := hsp
      exact ⟨σ', H', J'.ofTry ok, q⟩
    | cont =>
      obtain ⟨σ', H', J', q⟩ := hsp
      exact ⟨σ', H', J'.ofTry ok, q⟩
    | ret u =>
      obtain ⟨v, σ', H', J', r, q⟩ := hsp
      exact ⟨v, σ', H', J'.ofTry ok, r, q⟩
end
end KR
/-! a local name's def called in a try's body -/
namespace KR
open PySem PySem.Spec PyProof.Rows L2
def tCallLS (i : Nat) (f : Addr) (sp : Sp) (W : WX) (t : TA) : TE := fun σ H Q => σ[i]? = some (some (.ref f)) ∧ t σ H fun vs H1 => sp vs H1 Q (fun cls d H' => W cls d σ H')
section
variable {X : Cx} {k j i : Nat} {f : Addr} {fd : FuncData} {ps : List Str} {sp : Sp} {W : WX} {x : Str} {p pos : Pos} {e : Expr} {es : List Expr} {t : TA}
theorem pe_callLS (F : FnOk X.prog X.w X.K X.mg X.base (L2.CX X.prog X.w) j f fd ps sp) (le : j ≤ k) (hr : Room k X.A) (hN : X.N[i]? = some x) (hv : Vis X.env.scope x) (hk : PySem.W.keepIn X.K (.ref f) = true) (hb : Binds X.K fd ps []) (tk : Takes X W) (ha : PA X (e :: es) t)
    (hdb : (x == ("__debug__" : Str)) = false := by decide) (hcd : (x == ("__classdict__" : Str)) = false := by decide)
    (he : starEach (e :: es) X.env = (false, eval e X.env) :: starEach es X.env := by rfl) (hpl : (backTo pos (starEach es X.env)).any (·.1) = false := by rfl) : PE X (.Call (.Name x p) (e :: es) [] pos) (tCallLS i f sp W t) := by
  refine ⟨fun pins s σ H Q I h => ?_⟩
  obtain ⟨hs, ht⟩ := h
  refine wpAny_Call_Name_kw (thn ((pe_var (pos := p) hN hv hdb hcd).run pins s σ H (fun v H1 => v = .ref f ∧ H1 = H) I ⟨.ref f, hs, rfl, rfl⟩) fun u s1 ⟨v, H1, I1, r1, q1⟩ => ?_)
  obtain ⟨rfl, rfl⟩ := q1
  cases r1
  refine PySem.W.callWith_K (h₀ := X.base) I.ok.mod.kin hk (thn (ha.run pos pins s1 σ _ _ I1 ht) fun us s2 ⟨vs, H2, I2, r, q⟩ => ⟨I2.kIn, ?_⟩) he hpl
  have q' : sp (vs ++ []) H2 Q (fun cls d H' => W cls d σ H') := by rw [List.append_nil]; exact q
  refine run_fnSD (E := fun σ cls d H' => W cls d σ H') (dvs := []) (ds := []) F (hr.mono le) hb .nil (fun pins H s e s' I c => ?_) I2 r q'
  exact tk e s' (XE.of_call I (fun _ _ _ h => h) c)
end
/-- which clause takes which error -/
structure ExM (K : PySem.W.Frag) (A B : Addr) : Prop where
  aa : PySem.W.exmOne K (.ref A) (.ref A) = some true
  ba : PySem.W.exmOne K (.ref B) (.ref A) = some false
  bb : PySem.W.exmOne K (.ref B) (.ref B) = some true
end KR
/-! great products in place; sets of pairs -/
namespace KR
open PySem PySem.Spec PyProof.Rows L2
theorem in_mulW {X : Cx} : InOp X .Mult (rI CMulW fun i j => .int (i * j)) := fun pins s σ H x y u v Q I rx ry h =>
  (opI (X := X) (f := inplaceOp .Mult) fun _ _ _ _ _ _ _ hc q => imul_int q hc.ok) pins s σ H x y u v Q I rx ry h
theorem k_setOfT {X : Cx} {K : PySem.W.Frag} (hK : X.K = K) (hc : X.calm = true) (hu : X.A.units + 64 < cLine) : CallR X (.type "set") (rSetOfT K X.prog X.w) := by
  subst hK
  exact cr_setOfT hc hu
theorem k_sortedT {X : Cx} {K : PySem.W.Frag} (hK : X.K = K) (hc : X.calm = true) : CallR X (.builtin "sorted") (rSortedT K X.prog X.w) := by
  subst hK
  exact cr_sortedT hc
theorem atI_end {xs : List V} {v : V} (h : xs[xs.length - 1]? = some v) : atI xs (-1) = some v := by
  have pos : xs.length - 1 < xs.length := (List.getElem?_eq_some_iff.mp h).1
  have ne : xs ≠ [] := fun z => by rw [z] at pos; cases pos
  have el : xs.getLast ne = v := by
    rw [List.getElem?_eq_getElem pos] at h
    rw [← Option.some.inj h, List.getLast_eq_getElem]
  have e : xs = xs.dropLast ++ [v] := by
    rw [← el]
    exact (List.dropLast_concat_getLast ne).symm
  rw [e]
  exact atI_last _ v
end KR
namespace KQ
open PySem PySem.Spec PyProof.Rows L2 KR KM StX
section
variable {P : Program} {w : World} {K : PySem.W.Frag} {mg : Str → Option Value} {base : Heap}
/-- what is told of the first ring up to a door -/
def RingTo (p r : List Int) (n : Int) (H : Hp) (v : V) : Prop := (v = .non ∧ ¬ RingAt p r n.toNat) ∨
  ∃ (t : Addr) (ds : List Int), v = .ref t ∧ TI H t ds ∧ RingAt p r n.toNat ∧ IsRing p r ds ∧ ds[0]? = some n ∧ ∀ d ∈ ds, d ≤ n
def spUpTo : Sp := fun vs H Q _ => ∃ (a b : Addr) (p r : List Int) (n : Int), vs = [.ref a, .ref b, .int n] ∧ TI H a p ∧ TI H b r ∧ Par p ∧ Par r ∧ p.length = r.length ∧ 0 ≤ n ∧ n < p.length ∧
  ∀ H' v, Same H H' → RingTo p r n H' v → Q v H'
def spRing : Sp := fun vs H Q _ => ∃ (a b : Addr) (p r : List Int), vs = [.ref a, .ref b] ∧ TI H a p ∧ TI H b r ∧ Par p ∧ Par r ∧ p.length = r.length ∧
  ∀ H' v, Same H H' → ((v = .non ∧ NoRing p r) ∨ ∃ (n : Nat) (t : Addr) (ds : List Int), v = .ref t ∧ TI H' t ds ∧ RingAt p r n ∧ (∀ j, j < n → ¬ RingAt p r j) ∧ IsRing p r ds ∧ ds[0]? = some (n : Int) ∧ ∀ d ∈ ds, d ≤ (n : Int)) → Q v H'
end
end KQ
namespace KQ
open PySem PySem.Spec PyProof.Rows L2 KR KM StX
/-- things of the kinds that the law makes -/
inductive OddV (H : Hp) : V → Prop where
  | int (i : Int) : OddV H (.int i)
  | bl (b : Bool) : OddV H (.bl b)
  | non : OddV H .non
  | str (x : Str) : OddV H (.str x)
  | lst {a : Addr} {xs : List V} (h : H a = some (.lst xs)) : OddV H (.ref a)
  | dK {a : Addr} {kvs : List (L2.Key × V)} (h : H a = some (.dK kvs)) : OddV H (.ref a)
  | tup {a : Addr} {xs : List V} (h : H a = some (.tup xs)) : OddV H (.ref a)
theorem OddV.mono {H H' : Hp} {v : V} (o : OddV H v) (s : Same H H') : OddV H' v := by
  cases o with
  | int i => exact .int i
  | bl b => exact .bl b
  | non => exact .non
  | str x => exact .str x
  | lst h => exact .lst (s _ _ h)
  | dK h => exact .dK (s _ _ h)
  | tup h => exact .tup (s _ _ h)
def isI : V → Bool
  | .int _ => true
  | _ => false
def inV (v : V) (lo hi : Int) : Bool :=
  match v with
  | .int i => decide (lo ≤ i ∧ i ≤ hi)
  | _ => false
theorem inV_true {v : V} {lo hi : Int} (h : inV v lo hi = true) : ∃ i, v = .int i ∧ lo ≤ i ∧ i ≤ hi := by
  cases v with
  | int i =>
    have := of_decide_eq_true h
    exact ⟨i, rfl, this.1, this.2⟩
  | _ => cases h
inductive Thing (H : Hp) : V → Option (List V) → Prop where
  | tup {a : Addr} {vs : List V} (h : H a = some (.tup vs)) (o : ∀ v ∈ vs, OddV H v) (l : vs.length ≤ 1000) : Thing H (.ref a) (some vs)
  | non : Thing H .non none
  | int (i : Int) : Thing H (.int i) none
  | lst {a : Addr} {xs : List V} (h : H a = some (.lst xs)) : Thing H (.ref a) none
theorem Thing.mono {H H' : Hp} {v : V} {o : Option (List V)} (t : Thing H v o) (s : Same H H') : Thing H' v o := by
  cases t with
  | tup h o l => exact .tup (s _ _ h) (fun v hv => (o v hv).mono s) l
  | non => exact .non
  | int i => exact .int i
  | lst h => exact .lst (s _ _ h)
def RightT (p r : List Int) (o : Option (List V)) : Prop := ∃ ds : List Int, o = some (ds.map V.int) ∧ IsRing p r ds
theorem map_int_inj : ∀ {xs ys : List Int}, xs.map V.int = ys.map V.int → xs = ys
  | [], [], _ => rfl
  | [], _ :: _, h => by cases h
  | _ :: _, [], h => by cases h
  | x :: xs, y :: ys, h => by
    obtain ⟨h1, h2⟩ := List.cons.inj h
    rw [V.int.inj h1, map_int_inj h2]
theorem right_ints {p r ds : List Int} : RightT p r (some (ds.map V.int)) ↔ IsRing p r ds :=
  ⟨fun ⟨ds', e, h⟩ => by rw [map_int_inj (Option.some.inj e)]; exact h, fun h => ⟨ds, rfl, h⟩⟩
theorem eqv_ints : ∀ (xs ys : List Int), PyData.eqvAll (xs.map PyData.int) (ys.map PyData.int) = decide (xs = ys)
  | [], [] => rfl
  | [], _ :: _ => rfl
  | _ :: _, [] => rfl
  | x :: xs, y :: ys => by
    show (PyData.eqv (.int x) (.int y) && PyData.eqvAll (xs.map PyData.int) (ys.map PyData.int)) = _
    rw [eqv_ints xs ys]
    show ((x == y) && decide (xs = ys)) = _
    by_cases e : x = y
    · subst e
      simp
    · simp [e]
section
variable {P : Program} {w : World} {K : PySem.W.Frag} {mg : Str → Option Value} {base : Heap}
theorem OddV.ty {H : Hp} {v : V} (o : OddV H v) (hi : ∀ i, v ≠ .int i) : ∃ T : String, TyX K H v (.type T) ∧ ((T = "bool" ∧ ∃ b, v = .bl b) ∨ (kitB T "int" = some false)) := by
  cases o with
  | int i => exact absurd rfl (hi i)
  | bl b => exact ⟨_, .base (.bl b), .inl ⟨rfl, b, rfl⟩⟩
  | non => exact ⟨_, .base .non, .inr (by decide +kernel)⟩
  | str x => exact ⟨_, .base (.str x), .inr (by decide +kernel)⟩
  | lst h => exact ⟨_, .base (.lst h), .inr (by decide +kernel)⟩
  | dK h => exact ⟨_, .base (.dK h), .inr (by decide +kernel)⟩
  | tup h => exact ⟨_, .base (.tup h), .inr (by decide +kernel)⟩
def spIsIntegerA : Sp := fun vs H Q _ => ∃ v : V, vs = [v] ∧ OddV H v ∧ Q (.bl (isI v)) H
theorem ok_is_integerA (D : DefAt K mg "is_integer" s_is_integer) (T : Bt mg) : Use P w K mg base "is_integer" 1 ["value"] spIsIntegerA := by
  refine use_of D (fun f fd F => F.ok sc_is_integer (fun vs H Q E h => ?_) (fun cdv A outer s H vs Q E hr h => ?_)) (fun _ _ _ _ _ _ us hl => match us, hl with | [_], _ => rfl)
  · obtain ⟨i, rfl, _⟩ := h
    rfl
  · obtain ⟨v, rfl, o, q⟩ := h
    refine ⟨_, (pss_one (ps_ret (pe_and (pe_callB (k_isi (K := K) rfl) (by rfl) T.isinstance (by decide +kernel) (pa_cons (pv 0) (pa_cons (pe_bltn (v := .ty "int") (by rfl) T.int (by decide +kernel) rfl) pa_nil))) (pe_one (pe_not (pe_callB (k_isi (K := K) rfl) (by rfl) T.isinstance (by decide +kernel) (pa_cons (pv 0) (pa_cons (pe_bltn (v := .ty "bool") (by rfl) T.bool (by decide +kernel) rfl) pa_nil)))))))), ?_⟩
    by_cases hi : ∃ i, v = .int i
    · obtain ⟨i, rfl⟩ := hi
      refine ⟨_, rfl, _, _, _, _, true, rfl, .ty _, .base (.int i), kit_ty (by decide +kernel), true, rfl, iteT ?_⟩
      exact ⟨_, rfl, _, _, _, _, false, rfl, .ty _, .base (.int i), kit_ty (by decide +kernel), _, rfl, q⟩
    · have e : isI v = false := by
        cases v with
        | int i => exact absurd ⟨i, rfl⟩ hi
        | _ => rfl
      rw [e] at q
      obtain ⟨t, ty, h⟩ := o.ty (K := K) fun i e => hi ⟨i, e⟩
      rcases h with ⟨rfl, b, rfl⟩ | kt
      · refine ⟨_, rfl, _, _, _, _, true, rfl, .ty _, ty, kit_ty (by decide +kernel), true, rfl, iteT ?_⟩
        exact ⟨_, rfl, _, _, _, _, true, rfl, .ty _, ty, kit_ty (by decide +kernel), _, rfl, q⟩
      · exact ⟨_, rfl, _, _, _, _, false, rfl, .ty _, ty, kit_ty kt, false, rfl, iteF q⟩
def spIntWA : Sp := fun vs H Q _ => ∃ (v : V) (lo hi : Int), vs = [v, .int lo, .int hi] ∧ OddV H v ∧ Q (.bl (inV v lo hi)) H
theorem ok_is_integer_withinA (D : DefAt K mg "is_integer_within" s_is_integer_within) (T : Bt mg) (u_is_integer : Use P w K mg base "is_integer" 1 ["value"] spIsIntegerA) :
    Use P w K mg base "is_integer_within" 2 ["value", "least", "most"] spIntWA := by
  refine use_of D (fun f fd F => F.ok sc_is_integer_within (fun vs H Q E h => ?_) (fun cdv A outer s H vs Q E hr h => ?_)) (fun _ _ _ _ _ _ us hl => match us, hl with | [_, _, _], _ => rfl)
  · obtain ⟨i, lo, hi, rfl, _⟩ := h
    rfl
  · obtain ⟨v, lo, hi, rfl, o, q⟩ := h
    refine ⟨_, (pss_one (ps_ret (pe_and (pe_use u_is_integer (by decide) hr (by rfl) (pa_cons (pv 0) pa_nil)) (pe_one (pe_chain op_le op_le (pv 1) (pv 0) (pv 2)))))), ?_⟩
    by_cases hv : ∃ i, v = .int i
    · obtain ⟨i, rfl⟩ := hv
      have q' : Q (.bl (decide (lo ≤ i ∧ i ≤ hi))) H := q
      refine ⟨_, rfl, _, rfl, o, true, rfl, iteT ?_⟩
      refine ⟨_, rfl, _, rfl, lo, i, rfl, rfl, _, rfl, ?_⟩
      by_cases h1 : lo ≤ i
      · rw [decide_eq_true h1]
        refine iteT ⟨_, rfl, i, hi, rfl, rfl, ?_⟩
        have e : decide (lo ≤ i ∧ i ≤ hi) = decide (i ≤ hi) := by simp [h1]
        rw [e] at q'
        exact q'
      · rw [decide_eq_false h1]
        refine iteF ?_
        have e : decide (lo ≤ i ∧ i ≤ hi) = false := by simp [h1]
        rw [e] at q'
        exact q'
    · have e : isI v = false ∧ inV v lo hi = false := by
        cases v with
        | int i => exact absurd ⟨i, rfl⟩ hv
        | _ => exact ⟨rfl, rfl⟩
      rw [e.2] at q
      exact ⟨_, rfl, _, rfl, o, false, by rw [e.1], iteF q⟩
theorem ev_ints (xs : List Int) : ev (xs.map V.int) = (ev xs).map V.int := ev_map _ _
def spIsRing : Sp := fun vs H Q _ => ∃ (a b : Addr) (t : V) (p r : List Int) (o : Option (List V)), vs = [.ref a, .ref b, t] ∧ TI H a p ∧ TI H b r ∧ Par p ∧ Par r ∧ p.length = r.length ∧ Thing H t o ∧
  ∀ H' c, Same H H' → (c = true ↔ RightT p r o) → Q (.bl c) H'
end
end KQ
namespace KR
open PySem PySem.Spec PyProof.Rows L2 KM KQ
theorem lc_enumT {K : PySem.W.Frag} {a : Addr} {xs : List V} {g : TG} {tt : TT} {te : TE} {vs : List Nat} {σ : L2.St} {H1 : Hp} {D : Addr} {Qd : Hp → Prop} (Pv : Nat → Hp → Prop) (h0 : Pv 0 (upd H1 D (.lst []))) (hl : ∀ i H, i ≤ xs.length → Pv i H → SqT K H a xs)
    (hs : ∀ (i : Nat) (x : V) (T : Addr) (H : Hp), xs[i]? = some x → Pv i H → H T = none → g (.ref T) (wipe σ vs) (upd H T (.tup [.int (i : Nat), x])) fun σ2 H2 => wipe σ2 vs = wipe σ vs ∧ tt σ2 H2 fun b H3 =>
      if b = true then te σ2 H3 fun y H4 => ∃ acc, H4 D = some (.lst acc) ∧ acc.length < sizeLine ∧ Pv (i + 1) (upd H4 D (.lst (acc ++ [y]))) else Pv (i + 1) H3) (hd : ∀ H, Pv xs.length H → Qd H) :
    ∃ W : Nat → Nat → Hp → Prop, (∃ m, W 0 m (upd H1 D (.lst []))) ∧ ∀ i m H, W i m H →
      ((IteT K a).stop i H ∧ Qd H) ∨ ((IteT K a).go i H ∧ ∃ Nx : Hp → Prop, (∀ H', Nx H' → ∃ m', m' < m ∧ W (i + 1) m' H') ∧ ∀ x H', (IteT K a).yld i H x H' → g x (wipe σ vs) H' fun σ2 H2 => wipe σ2 vs = wipe σ vs ∧ tt σ2 H2 fun b H3 =>
        if b = true then te σ2 H3 fun y H4 => ∃ acc, H4 D = some (.lst acc) ∧ acc.length < sizeLine ∧ Nx (upd H4 D (.lst (acc ++ [y]))) else Nx H3) := by
  refine ⟨fun i m H => m = xs.length - i ∧ i ≤ xs.length ∧ Pv i H, ⟨xs.length, by simp, Nat.zero_le _, h0⟩, ?_⟩
  rintro i m H ⟨rfl, hi, p⟩
  have q := hl i H hi p
  by_cases hlt : i < xs.length
  · have hx : xs[i]? = some xs[i] := List.getElem?_eq_getElem hlt
    refine .inr ⟨⟨xs, _, q, hx⟩, Pv (i + 1), fun H' p' => ⟨xs.length - (i + 1), by omega, rfl, hlt, p'⟩, fun x H' y => ?_⟩
    obtain ⟨T, x', rfl, hT, rfl, f1⟩ := y
    exact hs i x' T H (f1 xs q) p hT
  · have e : i = xs.length := by omega
    subst e
    exact .inl ⟨⟨xs, q, Nat.le_refl _⟩, hd H p⟩
theorem lc_enumL {K : PySem.W.Frag} {a : Addr} {xs : List V} {g : TG} {tt : TT} {te : TE} {vs : List Nat} {σ : L2.St} {H1 : Hp} {D : Addr} {Qd : Hp → Prop} (Pv : Nat → Hp → Prop) (h0 : Pv 0 (upd H1 D (.lst []))) (hl : ∀ i H, i ≤ xs.length → Pv i H → SqL K H a xs)
    (hs : ∀ (i : Nat) (x : V) (T : Addr) (H : Hp), xs[i]? = some x → Pv i H → H T = none → g (.ref T) (wipe σ vs) (upd H T (.tup [.int (i : Nat), x])) fun σ2 H2 => wipe σ2 vs = wipe σ vs ∧ tt σ2 H2 fun b H3 =>
      if b = true then te σ2 H3 fun y H4 => ∃ acc, H4 D = some (.lst acc) ∧ acc.length < sizeLine ∧ Pv (i + 1) (upd H4 D (.lst (acc ++ [y]))) else Pv (i + 1) H3) (hd : ∀ H, Pv xs.length H → Qd H) :
    ∃ W : Nat → Nat → Hp → Prop, (∃ m, W 0 m (upd H1 D (.lst []))) ∧ ∀ i m H, W i m H →
      ((Ite K a).stop i H ∧ Qd H) ∨ ((Ite K a).go i H ∧ ∃ Nx : Hp → Prop, (∀ H', Nx H' → ∃ m', m' < m ∧ W (i + 1) m' H') ∧ ∀ x H', (Ite K a).yld i H x H' → g x (wipe σ vs) H' fun σ2 H2 => wipe σ2 vs = wipe σ vs ∧ tt σ2 H2 fun b H3 =>
        if b = true then te σ2 H3 fun y H4 => ∃ acc, H4 D = some (.lst acc) ∧ acc.length < sizeLine ∧ Nx (upd H4 D (.lst (acc ++ [y]))) else Nx H3) := by
  refine ⟨fun i m H => m = xs.length - i ∧ i ≤ xs.length ∧ Pv i H, ⟨xs.length, by simp, Nat.zero_le _, h0⟩, ?_⟩
  rintro i m H ⟨rfl, hi, p⟩
  have q := hl i H hi p
  by_cases hlt : i < xs.length
  · have hx : xs[i]? = some xs[i] := List.getElem?_eq_getElem hlt
    refine .inr ⟨⟨xs, _, q, hx⟩, Pv (i + 1), fun H' p' => ⟨xs.length - (i + 1), by omega, rfl, hlt, p'⟩, fun x H' y => ?_⟩
    obtain ⟨T, x', rfl, hT, rfl, f1⟩ := y
    exact hs i x' T H (f1 xs q) p hT
  · have e : i = xs.length := by omega
    subst e
    exact .inl ⟨⟨xs, q, Nat.le_refl _⟩, hd H p⟩
theorem k_gtup {X : Cx} {K : PySem.W.Frag} {es : List Expr} {k : Nat} {t : TGs} {n : Nat} {pos : Pos} (hK : X.K = K) (hc : X.calm = true) (h : PGs X es t)
    (hn : (assignEach es X.env).length = n := by rfl) (hst : (assignEach es X.env).findIdx? (·.1) = none := by rfl) : PG X (.Tuple es k pos) (gTup K n t) := by
  subst hK
  exact pg_tup hc h hn hst
def rReprB : List V → Hp → VK → Prop := fun xs H Q => ∃ b : Bool, xs = [.bl b] ∧ Q (.str (if b then "True" else "False")) H
theorem call_reprB {X : Cx} : CallR X (.builtin "repr") rReprB := by
  intro pins s σ H xs us Q I r h
  obtain ⟨b, rfl, q⟩ := h
  cases r with
  | cons r1 rr =>
    cases rr
    cases r1
    exact PySem.P.repr_of_bool ⟨.str _, H, I.tok _, ⟨_, rfl⟩, q⟩
/-- a whole number among whole numbers -/
theorem inV_ints (d : Int) (ds : List Int) : L2.inV (.int d) (ds.map V.int) = decide (d ∈ ds) := by
  unfold L2.inV
  rw [List.any_map]
  by_cases h : d ∈ ds
  · rw [decide_eq_true h, List.any_eq_true]
    exact ⟨d, h, by show (d == d) = true; simp⟩
  · rw [decide_eq_false h, List.any_eq_false]
    intro x hx
    show ¬ (x == d) = true
    rw [beq_iff_eq]
    exact fun e => h (e ▸ hx)
theorem flat_ints (ds : List Int) : (ds.map V.int).all flatV = true := by
  rw [List.all_map, List.all_eq_true]
  exact fun _ _ => rfl
end KR
namespace KQ
open PySem PySem.Spec PyProof.Rows L2 KR KM StX
theorem fmod2 (n : Nat) : Int.fmod (n : Int) 2 = ((n % 2 : Nat) : Int) := by
  rw [Int.fmod_eq_emod_of_nonneg _ (by decide)]
  omega
theorem nodup_take (ds : List Int) : ds.Nodup ↔ ∀ (i : Nat) (d : Int), ds[i]? = some d → d ∉ ds.take i := by
  constructor
  · intro h i d hd hm
    obtain ⟨j, hj⟩ := List.mem_iff_getElem?.mp hm
    have jl := (List.getElem?_eq_some_iff.mp hj).1
    rw [List.length_take] at jl
    rw [List.getElem?_take_of_lt (by omega)] at hj
    have l1 := List.getElem?_eq_some_iff.mp hj
    have l2 := List.getElem?_eq_some_iff.mp hd
    exact List.pairwise_iff_getElem.mp h j i l1.1 l2.1 (by omega) (l1.2.trans l2.2.symm)
  · intro h
    refine List.pairwise_iff_getElem.mpr fun i j hi hj hij e => ?_
    refine h j _ (List.getElem?_eq_getElem hj) ?_
    rw [← e]
    exact List.mem_iff_getElem?.mpr ⟨i, by rw [List.getElem?_take_of_lt hij]; exact List.getElem?_eq_getElem hi⟩
section
variable {P : Program} {w : World} {K : PySem.W.Frag} {mg : Str → Option Value} {base : Heap}
abbrev s__law_is_int : Stmt := topS 34
theorem sc__law_is_int : FnScope ["thing", "low", "high"] ["thing", "low", "high"] (defScope s__law_is_int) := ⟨rfl, rfl, rfl, by decide +kernel, rfl, by decide +kernel, by decide +kernel⟩
theorem ok_law_is_int (D : DefAt K mg "_law_is_int" s__law_is_int) (T : Bt mg) : Use P w K mg base "_law_is_int" 1 ["thing", "low", "high"] spIntWA := by
  refine use_of D (fun f fd F => F.ok sc__law_is_int (fun vs H Q E h => ?_) (fun cdv A outer s H vs Q E hr h => ?_)) (fun _ _ _ _ _ _ us hl => match us, hl with | [_, _, _], _ => rfl)
  · obtain ⟨i, lo, hi, rfl, _⟩ := h
    rfl
  · obtain ⟨v, lo, hi, rfl, o, q⟩ := h
    refine ⟨_, (pss_one (ps_ret (pe_and (pe_callB (k_isi (K := K) rfl) (by rfl) T.isinstance (by decide +kernel) (pa_cons (pv 0) (pa_cons (pe_bltn (v := .ty "int") (by rfl) T.int (by decide +kernel) rfl) pa_nil))) (pe_and (pe_not (pe_callB (k_isi (K := K) rfl) (by rfl) T.isinstance (by decide +kernel) (pa_cons (pv 0) (pa_cons (pe_bltn (v := .ty "bool") (by rfl) T.bool (by decide +kernel) rfl) pa_nil)))) (pe_one (pe_chain op_le op_le (pv 1) (pv 0) (pv 2))))))), ?_⟩
    by_cases hv : ∃ i, v = .int i
    · obtain ⟨i, rfl⟩ := hv
      have q' : Q (.bl (decide (lo ≤ i ∧ i ≤ hi))) H := q
      refine ⟨_, rfl, _, _, _, _, true, rfl, .ty _, .base (.int i), kit_ty (by decide +kernel), true, rfl, iteT ?_⟩
      refine ⟨_, rfl, _, _, _, _, false, rfl, .ty _, .base (.int i), kit_ty (by decide +kernel), _, rfl, _, rfl, iteT ?_⟩
      refine ⟨_, rfl, _, rfl, lo, i, rfl, rfl, _, rfl, ?_⟩
      by_cases h1 : lo ≤ i
      · rw [decide_eq_true h1]
        refine iteT ⟨_, rfl, i, hi, rfl, rfl, ?_⟩
        have e : decide (lo ≤ i ∧ i ≤ hi) = decide (i ≤ hi) := by simp [h1]
        rw [e] at q'
        exact q'
      · rw [decide_eq_false h1]
        refine iteF ?_
        have e : decide (lo ≤ i ∧ i ≤ hi) = false := by simp [h1]
        rw [e] at q'
        exact q'
    · have e : inV v lo hi = false := by
        cases v with
        | int i => exact absurd ⟨i, rfl⟩ hv
        | _ => rfl
      rw [e] at q
      obtain ⟨t, ty, h⟩ := o.ty (K := K) fun i e => hv ⟨i, e⟩
      rcases h with ⟨rfl, b, rfl⟩ | kt
      · refine ⟨_, rfl, _, _, _, _, true, rfl, .ty _, ty, kit_ty (by decide +kernel), true, rfl, iteT ?_⟩
        exact ⟨_, rfl, _, _, _, _, true, rfl, .ty _, ty, kit_ty (by decide +kernel), _, rfl, _, rfl, iteF q⟩
      · exact ⟨_, rfl, _, _, _, _, false, rfl, .ty _, ty, kit_ty kt, false, rfl, iteF q⟩
end
end KQ
namespace KR
open PySem PySem.Spec PyProof.Rows L2 KM KQ
section
variable {X : Cx} {K : PySem.W.Frag}
/-- t[lo:hi], t + u, empty ones and whole ones too: a tuple with these items -/
def rSlF : V → Option Int → Option Int → Hp → VK → Prop := fun x lo hi H Q => ∃ a xs, x = .ref a ∧ H a = some (.tup xs) ∧ ∀ H' p, Same H H' → H' p = some (.tup (cutV xs lo hi)) → Q (.ref p) H'
def rCatF : R2 := fun x y H Q => ∃ a b xs ys, x = .ref a ∧ y = .ref b ∧ H a = some (.tup xs) ∧ H b = some (.tup ys) ∧ xs.length + ys.length ≤ 100000 ∧ ∀ H' p, Same H H' → H' p = some (.tup (xs ++ ys)) → Q (.ref p) H'
theorem k_slA (_hK : X.K = K) : SlR X rSlF := by
  intro pins s σ H x v vl vu lo hi sl Q I rx hs pl pu h
  obtain ⟨a, xs, rfl, hx, k⟩ := h
  refine sl_tupA pins s σ H _ v vl vu lo hi sl Q I rx hs pl pu ⟨a, xs, rfl, sqT hx, fun hw => k H a (Same.refl H) ?_, fun _ p np => k _ p (same_new np) upd_same⟩
  unfold cutV
  rw [hw.1, hw.2, List.drop_zero, Nat.sub_zero, List.take_length]
  exact hx
theorem k_catA (_hK : X.K = K) : OpR X (binaryOp .Add) rCatF := by
  intro pins s σ H x y v u Q I rx ry h
  obtain ⟨a, b, xs, ys, rfl, rfl, hx, hy, hl, k⟩ := h
  refine op_catA pins s σ H _ _ v u Q I rx ry ⟨a, b, xs, ys, rfl, rfl, sqT hx, sqT hy, Nat.le_of_lt (small_of hl), fun e => ?_, fun _ e => ?_, fun _ _ p np => k _ p (same_new np) upd_same⟩
  · subst e
    exact k H b (Same.refl H) (by rw [List.nil_append]; exact hy)
  · subst e
    exact k H a (Same.refl H) (by rw [List.append_nil]; exact hx)
end
theorem cut_sub {xs : List V} {lo hi : Option Int} {v : V} (h : v ∈ cutV xs lo hi) : v ∈ xs := by
  unfold cutV at h
  exact List.mem_of_mem_drop (List.mem_of_mem_take h)
/-! ### things that stay where S is changed -/
def refsOut (S : List Addr) (v : V) : Prop := ∀ x, v = .ref x → x ∉ S
def KeptS (H H' : Hp) (S : List Addr) : Prop := ∀ a u, H a = some u → a ∉ S → H' a = some u
def Good (H : Hp) (S : List Addr) (v : V) : Prop := ∃ o, Thing H v o ∧ refsOut S v ∧ ∀ vs, o = some vs → ∀ u ∈ vs, refsOut S u
theorem odd_kept {H H' : Hp} {S : List Addr} {v : V} (k : KeptS H H' S) (r : refsOut S v) (o : OddV H v) : OddV H' v := by
  cases o with
  | int i => exact .int i
  | bl b => exact .bl b
  | non => exact .non
  | str x => exact .str x
  | lst h => exact .lst (k _ _ h (r _ rfl))
  | dK h => exact .dK (k _ _ h (r _ rfl))
  | tup h => exact .tup (k _ _ h (r _ rfl))
theorem Good.kept {H H' : Hp} {S : List Addr} {v : V} (g : Good H S v) (k : KeptS H H' S) : Good H' S v := by
  obtain ⟨o, t, r, ri⟩ := g
  refine ⟨o, ?_, r, ri⟩
  cases t with
  | tup h oo l => exact .tup (k _ _ h (r _ rfl)) (fun v hv => odd_kept k (ri _ rfl v hv) (oo v hv)) l
  | non => exact .non
  | int i => exact .int i
  | lst h => exact .lst (k _ _ h (r _ rfl))
theorem Good.same {H H' : Hp} {S : List Addr} {v : V} (g : Good H S v) (k : Same H H') : Good H' S v := g.kept fun a u h _ => k a u h
theorem Good.sub {H : Hp} {S S' : List Addr} {v : V} (g : Good H S v) (h : ∀ x ∈ S', x ∈ S) : Good H S' v := by
  obtain ⟨o, t, r, ri⟩ := g
  exact ⟨o, t, fun x e hx => r x e (h x hx), fun vs e u hu x e' hx => ri vs e u hu x e' (h x hx)⟩
theorem odd_live {H : Hp} {x : Addr} (o : OddV H (.ref x)) : H x ≠ none := by
  cases o with
  | lst h => rw [h]; exact fun e => by cases e
  | dK h => rw [h]; exact fun e => by cases e
  | tup h => rw [h]; exact fun e => by cases e
theorem Good.new {H : Hp} {S : List Addr} {v : V} {l : Addr} (g : Good H S v) (n : H l = none) : Good H (l :: S) v := by
  obtain ⟨o, t, r, ri⟩ := g
  refine ⟨o, t, fun x e hx => ?_, fun vs e u hu x e' hx => ?_⟩
  · rcases List.mem_cons.mp hx with q | q
    · subst e q
      cases t with
      | tup h _ _ => rw [n] at h; cases h
      | lst h => rw [n] at h; cases h
    · exact r x e q
  · rcases List.mem_cons.mp hx with q | q
    · subst e' q e
      cases t with
      | tup h oo _ => exact odd_live (oo _ hu) n
    · exact ri vs e u hu x e' q
theorem good_tup {H : Hp} {S : List Addr} {a : Addr} {vs : List V} (h : H a = some (.tup vs)) (ns : a ∉ S) (o : ∀ v ∈ vs, OddV H v ∧ refsOut S v) (l : vs.length ≤ 1000) : Good H S (.ref a) :=
  ⟨some vs, .tup h (fun v hv => (o v hv).1) l, fun x e => by cases e; exact ns, fun ws e u hu => by cases e; exact (o u hu).2⟩
theorem good_lst {H : Hp} {S : List Addr} {a : Addr} {xs : List V} (h : H a = some (.lst xs)) (ns : a ∉ S) : Good H S (.ref a) :=
  ⟨none, .lst h, fun x e => by cases e; exact ns, fun ws e => by cases e⟩
theorem good_non {H : Hp} {S : List Addr} : Good H S .non := ⟨none, .non, fun x e => (by cases e), fun ws e => by cases e⟩
theorem good_int {H : Hp} {S : List Addr} {i : Int} : Good H S (.int i) := ⟨none, .int i, fun x e => (by cases e), fun ws e => by cases e⟩
theorem odd_ints {H : Hp} {S : List Addr} {vs : List V} {xs : List Int} (h : ∀ v ∈ vs, v ∈ xs.map V.int) : ∀ v ∈ vs, OddV H v ∧ refsOut S v := fun v hv => by
  obtain ⟨i, _, rfl⟩ := List.mem_map.mp (h v hv)
  exact ⟨.int i, fun x e => by cases e⟩
end KR
namespace KQ
open PySem PySem.Spec PyProof.Rows L2 KR KM StX
section
variable {P : Program} {w : World} {K : PySem.W.Frag} {mg : Str → Option Value} {base : Heap}
def spOfA : Sp := fun vs H Q _ => ∃ (m c g : Addr) (b : Int) (l : Addr) (xs : List V), vs = [.ref m, .ref l] ∧ MS H m c g b ∧ b ≤ 1000000 ∧ H l = some (.lst xs) ∧ l ≠ g ∧ xs ≠ [] ∧ xs.length ≤ 1000000 ∧
  ∀ H' x, Kept H H' m g → MS H' m c g (b + 1) → x ∈ xs → Q x H'
theorem ok_ofA (D : DefAt K mg "_law_of" s__law_of) (T : Bt mg) (u__law_draw : Use P w K mg base "_law_draw" 2 ["m", "limit"] spDraw) : Use P w K mg base "_law_of" 3 ["m", "some"] spOfA := by
  refine use_of D (fun f fd F => F.ok sc__law_of (fun vs H Q E h => ?_) (fun cdv A outer s H vs Q E hr h => ?_)) (fun _ _ _ _ _ _ us hl => match us, hl with | [_, _], _ => rfl)
  · obtain ⟨m, c, g, b, l, xs, rfl, _⟩ := h
    rfl
  · obtain ⟨m, c, g, b, l, xs, rfl, ms, hb, el, lg, ne, hle, q⟩ := h
    refine ⟨_, (pss_one (ps_ret (pe_ix (k_ixl (K := K) rfl) (pv 1) (pe_use u__law_draw (by decide) hr (by rfl) (pa_cons (pv 0) (pa_cons (pe_callB (k_len (K := K) rfl) (by rfl) T.len PySem.boot_len (pa_cons (pv 1) pa_nil)) pa_nil))) (fun _ _ => rfl)))), ?_⟩
    have lm : l ≠ m := by
      obtain ⟨cs, gs, k, h1, h2, h3, r⟩ := ms
      intro e
      rw [e, h1] at el
      cases el
    have pos := List.length_pos_iff.mpr ne
    refine ⟨_, rfl, _, rfl, _, rfl, l, _, rfl, .inl (sqL el), m, c, g, b, _, rfl, ms, hb, by omega, by omega, fun H1 d k1 ms1 d0 d1 => ?_⟩
    obtain ⟨x, hx⟩ := at_some (xs := xs) (i := d.toNat) (by omega)
    exact ⟨l, _, d, x, rfl, rfl, sqL (k1 _ _ el lm lg), atI_of (j := d.toNat) (by omega) hx, q H1 x k1 ms1 (List.mem_of_getElem? hx)⟩
def spBent : Sp := fun vs H Q _ => ∃ (m c g : Addr) (b : Int) (a : Addr) (rs : List Int) (many : Int), vs = [.ref m, .ref a, .int many] ∧ MS H m c g b ∧ b ≤ 90000 ∧ TI H a rs ∧ rs.length ≤ 60 ∧ 1 ≤ many ∧ many ≤ 60 ∧
  ∀ H' l (ws : List V), Kept H H' m g → MS H' m c g (b + 100) → H' l = some (.lst ws) → l ≠ m → l ≠ g → ws.length ≤ 100 → (∀ v ∈ ws, Good H' [m, g] v) → Q (.ref l) H'
/-- told as it is being made -/
structure Tld (H : Hp) (m c g a : Addr) (rs : List Int) (B : Int) (n : Nat) (H' : Hp) (l : Addr) : Prop where
  kept : Kept H H' m g
  ms : MS H' m c g B
  row : TI H' a rs
  ex : ∃ ws : List V, H' l = some (.lst ws) ∧ ws.length ≤ n ∧ ∀ v ∈ ws, Good H' [l, m, g] v
  new : H l = none
  lm : l ≠ m
  lc : l ≠ c
  lg : l ≠ g
theorem Tld.put {H H' : Hp} {m c g a : Addr} {rs : List Int} {B : Int} {l : Addr} {n : Nat} {ws : List V} (hk : Kept H H' m g) (ms : MS H' m c g B) (row : TI H' a rs) (e : H' l = some (.lst ws)) (ln : ws.length ≤ n)
    (gd : ∀ v ∈ ws, Good H' [l, m, g] v) (nw : H l = none) (lm : l ≠ m) (lc : l ≠ c) (lg : l ≠ g) {v : V} (hv : Good H' [l, m, g] v) :
    Tld H m c g a rs B (n + 1) (upd H' l (.lst (ws ++ [v]))) l := by
  have kk : KeptS H' (upd H' l (.lst (ws ++ [v]))) [l, m, g] := fun x u hx hn => by
    rw [upd_ne (fun z => hn (by rw [z]; exact List.mem_cons_self))]
    exact hx
  refine ⟨kept_mut hk nw, ms.put lm lc lg, ?_, ⟨ws ++ [v], upd_same, by rw [List.length_append]; show ws.length + 1 ≤ n + 1; omega, fun u hu => ?_⟩, nw, lm, lc, lg⟩
  · exact rd_lst row e
  · rcases List.mem_append.mp hu with hu | hu
    · exact (gd u hu).kept kk
    · rw [List.mem_singleton.mp hu]
      exact hv.kept kk
theorem Kept.s {H H' : Hp} {m g : Addr} (k : Kept H H' m g) : KeptS H H' [m, g] := fun a u h n => k a u h (fun z => n (by rw [z]; simp)) (fun z => n (by rw [z]; simp))
theorem Kept.s3 {H H' : Hp} {l m g : Addr} (k : Kept H H' m g) : KeptS H H' [l, m, g] := fun a u h n => k a u h (fun z => n (by rw [z]; simp)) (fun z => n (by rw [z]; simp))
theorem ms_tup {H : Hp} {m c g : Addr} {b : Int} (ms : MS H m c g b) {a : Addr} {vs : List V} (h : H a = some (.tup vs)) : a ∉ [m, g] := by
  obtain ⟨cs, gs, k, h1, h2, h3, r⟩ := ms
  intro hm
  rcases List.mem_cons.mp hm with z | z
  · rw [z, h1] at h
    cases h
  · rw [List.mem_singleton.mp z, h3] at h
    cases h
theorem ms_tup3 {H : Hp} {m c g l : Addr} {b : Int} (ms : MS H m c g b) {a : Addr} {vs ws : List V} (hl : H l = some (.lst ws)) (h : H a = some (.tup vs)) : a ∉ [l, m, g] := by
  intro hm
  rcases List.mem_cons.mp hm with z | z
  · rw [z, hl] at h
    cases h
  · exact ms_tup ms h z
theorem ms_new3 {H : Hp} {m c g l : Addr} {b : Int} (ms : MS H m c g b) {a : Addr} {ws : List V} (hl : H l = some (.lst ws)) (h : H a = none) : a ∉ [l, m, g] := by
  have n := ms.ne h
  intro hm
  rcases List.mem_cons.mp hm with z | z
  · rw [z, hl] at h
    cases h
  · rcases List.mem_cons.mp z with z | z
    · exact n.1 z
    · exact n.2.2 (List.mem_singleton.mp z)
theorem shaped_intsT (ns : List Int) : SeqAt.shaped (.tuple (ns.map .int)) = true := by
  unfold SeqAt.shaped
  simp only [PyData.canLay0, lay0, PyData.depth, depth0]
  rfl
theorem eqv_nilT (ns : List Int) : (!PyData.eqv (.tuple (ns.map .int)) (.tuple [])) = !ns.isEmpty := by
  cases ns <;> rfl
end
end KQ
namespace KQ
open PySem PySem.Spec PyProof.Rows L2 KR KM StX
abbrev vN (k : Nat) : V := .int ((k : Nat) : Int)
/-- a row of growths -/
def growV (n l : Nat) : List V := (List.range (n + 1 - l)).map fun m => vN (gr l m)
theorem growV_at {n l m : Nat} (h : m < n + 1 - l) : (growV n l)[m]? = some (vN (gr l m)) := by
  unfold growV
  rw [List.getElem?_map, List.getElem?_range h]
  rfl
theorem growV_len (n l : Nat) : (growV n l).length = n + 1 - l := by
  unfold growV
  rw [List.length_map, List.length_range]
/-- rows of growths, so many -/
def GrT (H : Hp) (g : Addr) (n k : Nat) : Prop := ∃ gs : List Addr, H g = some (.lst (gs.map V.ref)) ∧ gs.length = k ∧ ∀ (l : Nat) (a : Addr), gs[l]? = some a → H a = some (.lst (growV n l))
theorem nat_abs {k b : Nat} (h : k < 2 ^ b) : (((k : Nat) : Int)).natAbs < 2 ^ b := by rw [Int.natAbs_natCast]; exact h
section
variable {P : Program} {w : World} {K : PySem.W.Frag} {mg : Str → Option Value} {base : Heap}
def spGrowths : Sp := fun vs H Q _ => ∃ n : Nat, vs = [vN n] ∧ n ≤ 60 ∧ ∀ H' g, Same H H' → GrT H' g n (n + 1) → Q (.ref g) H'
/-- is this door the first of its block -/
def isF (p : List Int) (i : Nat) : Bool := decide (p[i]? = some (bc 0 (p.take i)))
def spFirstD : Sp := fun vs H Q _ => ∃ a p, vs = [.ref a] ∧ TI H a p ∧ Rg 0 p ∧ p.length ≤ 60 ∧ ∀ H' l, Same H H' → H l = none → H' l = some (.lst ((List.range p.length).map fun i => V.bl (isF p i))) → Q (.ref l) H'
abbrev s__law_product : Stmt := topS 42
theorem sc__law_product : FnScope ["numbers", "found", "one"] ["numbers"] (defScope s__law_product) := ⟨rfl, rfl, rfl, by decide +kernel, rfl, by decide +kernel, by decide +kernel⟩
def spProduct (K : PySem.W.Frag) : Sp := fun vs H Q _ => ∃ (a : Addr) (ns : List Nat), vs = [.ref a] ∧ SqL K H a (ns.map vN) ∧ (∀ k, k ≤ ns.length → (ns.take k).foldl (· * ·) 1 < 2 ^ 360 ∧ ∀ x, ns[k]? = some x → x < 2 ^ 360) ∧ Q (vN (ns.foldl (· * ·) 1)) H
theorem ok_product (D : DefAt K mg "_law_product" s__law_product) (T : Bt mg) : Use P w K mg base "_law_product" 1 ["numbers"] (spProduct K) := by
  refine use_of D (fun f fd F => F.ok sc__law_product (fun vs H Q E h => ?_) (fun cdv A outer s H vs Q E hr h => ?_)) (fun _ _ _ _ _ _ us hl => match us, hl with | [_], _ => rfl)
  · obtain ⟨a, ns, rfl, _⟩ := h
    rfl
  · obtain ⟨a, ns, rfl, hs, big, q⟩ := h
    refine ⟨_, (pss_cons (ps_set (i := 1) sc__law_product.nd rfl (Or.inl rfl) pe_int)
      (pss_cons (ps_for PassesOwn.never rfl (k_list (K := K) rfl (pv 0)) (pg_name (i := 2) sc__law_product.nd rfl (Or.inl rfl))
      (pss_one (ps_set (i := 1) sc__law_product.nd rfl (Or.inl rfl) (pe_op op_mulW (pv 1) (pv 2)))))
      (pss_one (ps_ret (pv 1))))), ?_⟩
    refine ⟨_, rfl, a, rfl, ⟨_, hs⟩, for_list (K := K) (a := a) (xs := ns.map vN)
      (fun i σ H1 => ∃ y2, σ = [some (.ref a), some (vN ((ns.take i).foldl (· * ·) 1)), y2] ∧ H1 = H) ⟨none, rfl, rfl⟩ (fun i σ H1 _ ⟨_, _, e⟩ => by rw [e]; exact hs) ?_ ?_⟩
    · rintro i v σ H1 hi ⟨y2, rfl, rfl⟩
      obtain ⟨x, hx, rfl⟩ := map_at hi
      have b := big i (by have := (List.getElem?_eq_some_iff.mp hx).1; omega)
      refine ⟨_, rfl, _, rfl, _, _, rfl, rfl, wide_mul (nat_abs b.1) (nat_abs (b.2 x hx)) (by decide) (by decide) (by decide), some (vN x), ?_, rfl⟩
      rw [take_snoc hx, List.foldl_append]
      refine congrArg (fun z => [_, some (V.int z), _]) ?_
      exact (Int.natCast_mul _ _).symm
    · rintro σ H1 ⟨y2, rfl, rfl⟩
      rw [List.length_map, List.take_length]
      exact ⟨_, rfl, q⟩
def spLBelow : Sp := fun vs H Q _ => ∃ (m c g : Addr) (b : Int) (t : Nat), vs = [.ref m, vN t] ∧ MS H m c g b ∧ b ≤ 900000 ∧ 0 < t ∧ t < 2 ^ 360 ∧ ∀ H' (r : Nat), Kept H H' m g → MS H' m c g (b + 9) → r < t → Q (vN r) H'
end
end KQ
namespace KQ
open PySem PySem.Spec PyProof.Rows L2 KR KM StX
theorem doors_howOft (p : List Int) (b : Int) : (doorsOf p b).length = howOft b p := by
  unfold doorsOf howOft
  rw [List.length_map]
  have e : ∀ (xs : List Int) (k : Nat), ((xs.zipIdx k).filter fun q => decide (q.1 = b)).length = (xs.filter fun x => decide (x = b)).length := fun xs => by
    induction xs with
    | nil => exact fun _ => rfl
    | cons x xs ih =>
      intro k
      rw [List.zipIdx_cons, List.filter_cons, List.filter_cons]
      by_cases h : x = b
      · rw [if_pos (decide_eq_true h), if_pos (decide_eq_true h), List.length_cons, List.length_cons, ih]
      · rw [if_neg (by simpa using h), if_neg (by simpa using h), ih]
  exact e p 0
theorem foldl_prodN : ∀ (xs : List Nat) (a : Nat), xs.foldl (· * ·) a = a * prodN xs
  | [], a => (Nat.mul_one a).symm
  | x :: xs, a => by
    rw [List.foldl_cons, foldl_prodN xs (a * x), Nat.mul_assoc]
    rfl
theorem prodN_snoc : ∀ (xs : List Nat) (x : Nat), prodN (xs ++ [x]) = prodN xs * x
  | [], x => by show x * 1 = 1 * x; omega
  | y :: ys, x => by
    show y * prodN (ys ++ [x]) = y * prodN ys * x
    rw [prodN_snoc ys x, Nat.mul_assoc]
theorem prodN_le : ∀ {xs : List Nat}, (∀ x ∈ xs, x ≤ 64) → prodN xs ≤ 2 ^ (6 * xs.length)
  | [], _ => Nat.le_refl _
  | x :: xs, h => by
    have := prodN_le fun y hy => h y (List.mem_cons_of_mem _ hy)
    have hx := h x List.mem_cons_self
    rw [List.length_cons, Nat.mul_succ, Nat.pow_add, Nat.mul_comm]
    exact Nat.mul_le_mul hx this
theorem howOft_le (d : Int) (p : List Int) : howOft d p ≤ p.length := List.length_filter_le _ _
section
variable {P : Program} {w : World} {K : PySem.W.Frag} {mg : Str → Option Value} {base : Heap}
abbrev s_power : Stmt := topS 18
theorem sc_power : FnScope ["base", "times", "told", "_"] ["base", "times"] (defScope s_power) := ⟨rfl, rfl, rfl, by decide +kernel, rfl, by decide +kernel, by decide +kernel⟩
def spPower : Sp := fun vs H Q _ => ∃ b t : Nat, vs = [vN b, vN t] ∧ b ≤ 61 ∧ t ≤ 60 ∧ Q (vN (b ^ t)) H
theorem ok_power (D : DefAt K mg "power" s_power) (T : Bt mg) : Use P w K mg base "power" 1 ["base", "times"] spPower := by
  refine use_of D (fun f fd F => F.ok sc_power (fun vs H Q E h => ?_) (fun cdv A outer s H vs Q E hr h => ?_)) (fun _ _ _ _ _ _ us hl => match us, hl with | [_, _], _ => rfl)
  · obtain ⟨b, t, rfl, _⟩ := h
    rfl
  · obtain ⟨b, t, rfl, hb, ht, q⟩ := h
    refine ⟨_, (pss_cons (ps_set (i := 2) sc_power.nd rfl (Or.inl rfl) pe_int)
      (pss_cons (ps_for PassesOwn.never rfl (pi_range1 (by rfl) T.range (pa_cons (pv 1) pa_nil)) (pg_name (i := 3) sc_power.nd rfl (Or.inl rfl))
      (pss_one (ps_aug (i := 2) sc_power.nd rfl (Or.inl rfl) (pv 0) ip_mulW)))
      (pss_one (ps_ret (pv 2))))), ?_⟩
    refine ⟨_, rfl, _, rfl, by omega, by omega, for_range (lo := 0) (n := (((t : Nat) : Int)).toNat) (fun i σ H1 => ∃ y3 : Option V, σ = [some (vN b), some (vN t), some (vN (b ^ i)), y3] ∧ H1 = H) ⟨none, rfl, rfl⟩ ?_ ?_⟩
    · rintro i σ H1 hi ⟨y3, rfl, rfl⟩
      have hi : i < t := by omega
      have bd : b ^ i < 2 ^ 360 := by
        refine Nat.lt_of_le_of_lt (Nat.pow_le_pow_left (show b ≤ 2 ^ 6 by omega) i) ?_
        rw [← Nat.pow_mul]
        exact Nat.pow_lt_pow_right (by decide) (by omega)
      refine ⟨_, rfl, _, rfl, _, _, rfl, rfl, wide_mul (nat_abs bd) (nat_abs (show b < 2 ^ 6 by omega)) (by decide) (by decide) (by decide), some (V.int (0 + (i : Nat))), ?_, rfl⟩
      refine congrArg (fun z => [some (vN b), some (vN t), some (V.int z), some (V.int (0 + (i : Nat)))]) ?_
      rw [Nat.pow_succ]
      exact (Int.natCast_mul _ _).symm
    · rintro σ H1 ⟨y3, rfl, rfl⟩
      rw [Int.toNat_natCast]
      exact ⟨_, rfl, q⟩
abbrev s_block_product : Stmt := topS 19
theorem sc_block_product : FnScope ["parting", "told", "row"] ["parting"] (defScope s_block_product) := ⟨rfl, rfl, rfl, by decide +kernel, rfl, by decide +kernel, by decide +kernel⟩
def spBlkProd : Sp := fun vs H Q _ => ∃ (a : Addr) (p : List Int) (n : Nat), vs = [.ref a] ∧ TI H a p ∧ Par p ∧ bc 0 p = (n : Int) ∧ ∀ H', Same H H' → Q (vN (sizesP n p)) H'
theorem ok_block_product (D : DefAt K mg "block_product" s_block_product) (T : Bt mg) (u_doors_by_block : Use P w K mg base "doors_by_block" 2 ["parting"] spRows) : Use P w K mg base "block_product" 3 ["parting"] spBlkProd := by
  refine use_of D (fun f fd F => F.ok sc_block_product (fun vs H Q E h => ?_) (fun cdv A outer s H vs Q E hr h => ?_)) (fun _ _ _ _ _ _ us hl => match us, hl with | [_], _ => rfl)
  · obtain ⟨a, p, n, rfl, _⟩ := h
    rfl
  · obtain ⟨a, p, n, rfl, tp, par, hn, q⟩ := h
    refine ⟨_, (pss_cons (ps_set (i := 1) sc_block_product.nd rfl (Or.inl rfl) pe_int)
      (pss_cons (ps_for PassesOwn.never rfl (k_list (K := K) rfl (pe_use u_doors_by_block (by decide) hr (by rfl) (pa_cons (pv 0) pa_nil))) (pg_name (i := 2) sc_block_product.nd rfl (Or.inl rfl))
      (pss_one (ps_aug (i := 1) sc_block_product.nd rfl (Or.inl rfl) (pe_callB (k_len (K := K) rfl) (by rfl) T.len PySem.boot_len (pa_cons (pv 2) pa_nil)) ip_mulW)))
      (pss_one (ps_ret (pv 1))))), ?_⟩
    have kle := bc_le 0 p
    have p60 := par.le
    refine ⟨_, rfl, a, p, rfl, tp, par, fun H1 l s1 ⟨rs, el, lr, _, hrs⟩ => ?_⟩
    rw [hn, Int.toNat_natCast] at lr
    obtain ⟨sz, hsz⟩ : ∃ sz : List Nat, sz = (List.range n).map fun k => howOft ((k : Nat) : Int) p := ⟨_, rfl⟩
    have lsz : sz.length = n := by rw [hsz, List.length_map, List.length_range]
    have small : ∀ i, prodN (sz.take i) < 2 ^ 361 := fun i => by
      refine Nat.lt_of_le_of_lt (prodN_le fun x hx => ?_) (show 2 ^ (6 * (sz.take i).length) < 2 ^ 361 from Nat.pow_lt_pow_right (by decide) (by rw [List.length_take]; omega))
      have := List.mem_of_mem_take hx
      rw [hsz] at this
      obtain ⟨k, _, rfl⟩ := List.mem_map.mp this
      have := howOft_le ((k : Nat) : Int) p
      omega
    refine ⟨l, rfl, ⟨_, sqL el⟩, for_list (K := K) (a := l) (xs := rs.map V.ref) (fun i σ H2 => ∃ y2 : Option V, σ = [some (.ref a), some (vN (prodN (sz.take i))), y2] ∧ H2 = H1) ⟨none, rfl, rfl⟩ (fun i σ H2 _ ⟨_, _, e⟩ => by rw [e]; exact sqL el) ?_ ?_⟩
    · rintro i v σ H2 hi ⟨y2, rfl, rfl⟩
      obtain ⟨t, ht, rfl⟩ := map_at hi
      have il := (List.getElem?_eq_some_iff.mp ht).1
      have et := hrs i t ht
      have hx : sz[i]? = some (howOft ((i : Nat) : Int) p) := by
        rw [hsz, List.getElem?_map, List.getElem?_range (by omega)]
        rfl
      have hx2 := howOft_le ((i : Nat) : Int) p
      refine ⟨_, rfl, _, rfl, t, _, rfl, .inl (sqL et), _, _, rfl, rfl, ?_, some (.ref t), ?_, rfl⟩
      · rw [List.length_map, doors_howOft]
        exact wide_mul (nat_abs (small i)) (nat_abs (show howOft ((i : Nat) : Int) p < 2 ^ 6 by omega)) (by decide) (by decide) (by decide)
      · refine congrArg (fun z => [some (V.ref a), some (V.int z), some (V.ref t)]) ?_
        rw [List.length_map, doors_howOft, take_snoc hx, ← Int.natCast_mul]
        congr 1
        exact (prodN_snoc _ _).symm
    · rintro σ H2 ⟨y2, rfl, rfl⟩
      rw [List.length_map, lr, List.take_of_length_le (by omega)]
      refine ⟨_, rfl, ?_⟩
      rw [show prodN sz = sizesP n p from by
        unfold sizesP iotaL
        rw [hsz, List.map_map]
        rfl]
      exact q H2 s1
abbrev s_met_by : Stmt := topS 20
theorem sc_met_by : FnScope ["parting", "many"] ["parting"] (defScope s_met_by) := ⟨rfl, rfl, rfl, by decide +kernel, rfl, by decide +kernel, by decide +kernel⟩
def spMetN : Sp := fun vs H Q _ => ∃ (a : Addr) (p : List Int) (n : Nat), vs = [.ref a] ∧ TI H a p ∧ Par p ∧ bc 0 p = (n : Int) ∧ ∀ H', Same H H' → Q (vN (metN n p)) H'
theorem par_blocks {p : List Int} {n : Nat} (par : Par p) (hn : bc 0 p = (n : Int)) : 0 < n ∧ n ≤ p.length := by
  have kle := bc_le 0 p
  have rgm := rg_mem 0 p (Int.le_refl _) par.rg
  have h0 : 0 < p.length := List.length_pos_iff.mpr par.ne
  have h1 := rgm.1 p[0] (List.getElem_mem h0)
  omega
theorem ok_met_by (D : DefAt K mg "met_by" s_met_by) (T : Bt mg) (u_block_count : Use P w K mg base "block_count" 1 ["parting"] spCount) (u_block_product : Use P w K mg base "block_product" 3 ["parting"] spBlkProd)
    (u_power : Use P w K mg base "power" 1 ["base", "times"] spPower) : Use P w K mg base "met_by" 4 ["parting"] spMetN := by
  refine use_of D (fun f fd F => F.ok sc_met_by (fun vs H Q E h => ?_) (fun cdv A outer s H vs Q E hr h => ?_)) (fun _ _ _ _ _ _ us hl => match us, hl with | [_], _ => rfl)
  · obtain ⟨a, p, n, rfl, _⟩ := h
    rfl
  · obtain ⟨a, p, n, rfl, tp, par, hn, q⟩ := h
    refine ⟨_, (pss_cons (ps_set (i := 1) sc_met_by.nd rfl (Or.inl rfl) (pe_use u_block_count (by decide) hr (by rfl) (pa_cons (pv 0) pa_nil)))
      (pss_cons (ps_if (pt_cmpR op_eq (pv 1) pe_int (nomark _)) (pss_one (ps_ret pe_int)) pss_nil)
      (pss_one (ps_ret (pe_op op_mulW (pe_use u_block_product (by decide) hr (by rfl) (pa_cons (pv 0) pa_nil)) (pe_use u_power (by decide) hr (by rfl) (pa_cons (pe_op op_sub (pe_op op_add (pe_callB (k_len (K := K) rfl) (by rfl) T.len PySem.boot_len (pa_cons (pv 0) pa_nil)) pe_int) (pv 1)) (pa_cons (pe_op op_sub (pv 1) pe_int) pa_nil)))))))), ?_⟩
    obtain ⟨n0, nl⟩ := par_blocks par hn
    have p60 := par.le
    refine ⟨_, rfl, a, p, rfl, tp, par, ?_⟩
    rw [hn]
    refine ⟨_, rfl, rfl, _, rfl, ite2 (fun e => ?_) (fun e => ?_)⟩
    · have e1 : n = 1 := by
        have := V.int.inj (of_decide_eq_true e)
        omega
      have := q H (Same.refl _)
      rw [show metN n p = 1 from if_pos e1] at this
      exact this
    · have e1 : n ≠ 1 := fun z => e (by rw [z]; rfl)
      refine ⟨_, rfl, a, p, n, rfl, tp, par, hn, fun H1 s1 => ?_⟩
      refine ⟨_, rfl, a, _, rfl, .inr (tp.mono s1).seq, _, _, rfl, rfl, _, rfl, _, _, rfl, rfl, _, rfl, _, _, rfl, rfl, ?_⟩
      refine ⟨p.length + 1 - n, n - 2, ?_, by omega, by omega, ?_⟩
      · rw [List.length_map]
        show [V.int (((p.length : Nat) : Int) + 1 - (n : Int)), V.int ((n : Int) - 2)] = _
        rw [show ((p.length : Nat) : Int) + 1 - (n : Int) = ((p.length + 1 - n : Nat) : Int) by omega, show (n : Int) - 2 = ((n - 2 : Nat) : Int) by omega]
      · have bd : (p.length + 1 - n) ^ (n - 2) < 2 ^ 361 := by
          refine Nat.lt_of_le_of_lt (Nat.pow_le_pow_left (show p.length + 1 - n ≤ 2 ^ 6 by omega) _) ?_
          rw [← Nat.pow_mul]
          exact Nat.pow_lt_pow_right (by decide) (by omega)
        have sm : sizesP n p < 2 ^ 361 := by
          unfold sizesP
          refine Nat.lt_of_le_of_lt (prodN_le fun x hx => ?_) (show 2 ^ (6 * ((iotaL n).map fun c => howOft c p).length) < 2 ^ 361 from Nat.pow_lt_pow_right (by decide) (by rw [List.length_map, iota_len]; omega))
          obtain ⟨k, _, rfl⟩ := List.mem_map.mp hx
          have := howOft_le k p
          omega
        refine ⟨_, _, rfl, rfl, wide_mul (nat_abs sm) (nat_abs bd) (by decide) (by decide) (by decide), ?_⟩
        have := q H1 s1
        rw [show metN n p = sizesP n p * (p.length + 1 - n) ^ (n - 2) from if_neg e1] at this
        show Q (.int ((sizesP n p : Int) * (((p.length + 1 - n) ^ (n - 2) : Nat) : Int))) H1
        rw [← Int.natCast_mul]
        exact this
abbrev s_meeting_number : Stmt := topS 21
theorem sc_meeting_number : FnScope ["parting"] ["parting"] (defScope s_meeting_number) := ⟨rfl, rfl, rfl, by decide +kernel, rfl, by decide +kernel, by decide +kernel⟩
theorem ok_meeting_number (D : DefAt K mg "meeting_number" s_meeting_number) (T : Bt mg) (u_need_parting : Use P w K mg base "need_parting" 4 ["parting"] spNeed) (u_met_by : Use P w K mg base "met_by" 4 ["parting"] spMetN) : Use P w K mg base "meeting_number" 5 ["parting"] spMetN := by
  refine use_of D (fun f fd F => F.ok sc_meeting_number (fun vs H Q E h => ?_) (fun cdv A outer s H vs Q E hr h => ?_)) (fun _ _ _ _ _ _ us hl => match us, hl with | [_], _ => rfl)
  · obtain ⟨a, p, n, rfl, _⟩ := h
    rfl
  · obtain ⟨a, p, n, rfl, tp, par, hn, q⟩ := h
    refine ⟨_, (pss_cons (ps_expr (pe_use u_need_parting (by decide) hr (by rfl) (pa_cons (pv 0) pa_nil)))
      (pss_one (ps_ret (pe_use u_met_by (by decide) hr (by rfl) (pa_cons (pv 0) pa_nil))))), ?_⟩
    refine ⟨_, rfl, a, p, rfl, tp, par, fun H1 s1 => ?_⟩
    exact ⟨_, rfl, a, p, n, rfl, tp.mono s1, par, hn, fun H2 s2 => q H2 (s1.trans s2)⟩
end
end KQ
namespace KQ
open PySem PySem.Spec PyProof.Rows L2 KR KM StX
abbrev SR := Addr × List Int × List Int
/-- states, each a tuple of two tuples -/
def StRows (H : Hp) (qs : List SR) : Prop := ∀ q ∈ qs, ∃ a b, H q.1 = some (.tup [.ref a, .ref b]) ∧ H a = some (.tup (q.2.1.map V.int)) ∧ H b = some (.tup (q.2.2.map V.int))
theorem StRows.mono {H H' : Hp} {qs : List SR} (h : StRows H qs) (s : Same H H') : StRows H' qs := fun q hq => let ⟨a, b, e, x, y⟩ := h q hq; ⟨a, b, s _ _ e, s _ _ x, s _ _ y⟩
theorem StRows.put {H : Hp} {D : Addr} {qs : List SR} {vs : List V} {o : HO} (h : StRows H qs) (e : H D = some (.lst vs)) : StRows (upd H D o) qs := fun q hq => by
  obtain ⟨a, b, c, x, y⟩ := h q hq
  have k : ∀ {z : Addr} {us : List V}, H z = some (.tup us) → upd H D o z = some (.tup us) := fun {z us} ez => by rw [upd_ne (fun w => by rw [w, e] at ez; cases ez)]; exact ez
  exact ⟨a, b, k c, k x, k y⟩
theorem seq_cut5 {t u : Ends → L2.St → Hp → Prop} {D : Ends} {σ : L2.St} {H : Hp} (Fact : L2.St → Hp → Prop) (h1 : ∀ k : L2.St → Hp → Prop, (∀ σ' H', Fact σ' H' → k σ' H') → t { D with nx := k } σ H) (h2 : ∀ σ' H', Fact σ' H' → u D σ' H') : tSeq t u D σ H := h1 _ h2
theorem cut_from {xs : List V} {k : Nat} (h : k ≤ xs.length) : cutV xs (some ((k : Nat) : Int)) none = xs.drop k := by
  unfold cutV
  rw [HT.sIx_none, HT.sIx_nat, Nat.min_eq_left h, ← List.length_drop, List.take_length]
theorem StRows.app {H : Hp} {qs rs : List SR} (h : StRows H qs) (g : StRows H rs) : StRows H (qs ++ rs) := fun q hq => (List.mem_append.mp hq).elim (h q) (g q)
section
variable {P : Program} {w : World} {K : PySem.W.Frag} {mg : Str → Option Value} {base : Heap}
abbrev s_longer : Stmt := topS 22
theorem sc_longer : FnScope ["row", "block", "many", "most", "blocks", "pieces", "here", "rows", "made", "there", "one", "piece"] ["row", "block", "many", "most"] (defScope s_longer) := ⟨rfl, rfl, rfl, by decide +kernel, rfl, by decide +kernel, by decide +kernel⟩
def spLonger : Sp := fun vs H Q _ => ∃ (t : Addr) (b : Int) (k most : Nat) (dn Pl : List Int), vs = [.ref t, .int b, vN k, vN most] ∧ StRows H [(t, dn, Pl)] ∧ 0 ≤ b ∧ b.toNat < k ∧ k ≤ Pl.length ∧ dn.length ≤ 60 ∧ Pl.length ≤ 130 ∧ most ≤ 61 ∧
  ∀ H' l qs, Same H H' → H l = none → H' l = some (.lst (qs.map fun q : SR => V.ref q.1)) → StRows H' qs → qs.map (·.2) = nextL k most (dn, Pl) b → Q (.ref l) H'
theorem ok_longer (D : DefAt K mg "longer" s_longer) (T : Bt mg) : Use P w K mg base "longer" 1 ["row", "block", "many", "most"] spLonger := by
  refine use_of D (fun f fd F => F.ok sc_longer (fun vs H Q E h => ?_) (fun cdv A outer s H vs Q E hr h => ?_)) (fun _ _ _ _ _ _ us hl => match us, hl with | [_, _, _, _], _ => rfl)
  · obtain ⟨t, b, k, most, dn, Pl, rfl, _⟩ := h
    rfl
  · obtain ⟨t, b, k, most, dn, Pl, rfl, st, b0, bk, kP, d60, P130, m61, q⟩ := h
    refine ⟨_, (pss_cons (ps_asg (pv 0) (pg_tup rfl (pgs_cons (pg_name (i := 4) sc_longer.nd rfl (Or.inl rfl)) (pgs_cons (pg_name (i := 5) sc_longer.nd rfl (Or.inl rfl)) pgs_nil))))
      (pss_cons (ps_set (i := 6) sc_longer.nd rfl (Or.inr rfl) (pe_ix (k_ixt (K := K) rfl) (pv 5) (pv 1) (fun _ _ => rfl)))
      (pss_cons (ps_set (i := 7) sc_longer.nd rfl (Or.inl rfl) (pe_lst pa_nil))
      (pss_cons (ps_for PassesOwn.never rfl (k_enumT (K := K) rfl (by rfl) T.enumerate (pa_cons (pe_slice (k_slA (K := K) rfl) (pv 5) (po_some (pv 2)) po_none) pa_nil)) (pg_tup rfl (pgs_cons (pg_name (i := 8) sc_longer.nd rfl (Or.inl rfl)) (pgs_cons (pg_name (i := 9) sc_longer.nd rfl (Or.inr rfl)) pgs_nil)))
      (pss_one (ps_if (pt_cmpR op_ne (pv 9) (pv 6) (nomark _)) (pss_cons (ps_set (i := 10) sc_longer.nd rfl (Or.inl rfl) (pe_callTy (k_tupOf (K := K) rfl) (by rfl) T.tuple (by decide +kernel) (pa_cons (pe_lc (own := [("piece", 11)]) rfl sc_longer.nd (k_tup (K := K) rfl (pv 5)) (blkOk_by (N := ["row", "block", "many", "most", "blocks", "pieces", "here", "rows", "made", "there", "one", "piece"]) (sc := defScope s_longer) (by decide +kernel)) (fun _ _ _ _ _ => (pg_name (i := 11) sc_longer.nd rfl (Or.inl rfl))) (fun _ _ _ _ _ => pts_nil) (fun _ _ _ _ _ => (pe_ifExp (pt_cmpR op_eq (pv 11) (pv 9) (nomark _)) (pv 6) (pv 11)))) pa_nil)))
      (pss_one (ps_expr (k_bm (K := K) rfl PySem.F.plainAttrs_list PySem.F.slot_list_append PySem.F.type_list_append mt_append (pv 7) (pa_cons (pe_tup (pa_cons (pe_op (k_catA (K := K) rfl) (pv 4) (pe_tup (pa_cons (pv 8) pa_nil))) (pa_cons (pv 10) pa_nil))) pa_nil))))) pss_nil)))
      (pss_cons (ps_set (i := 8) sc_longer.nd rfl (Or.inl rfl) (pe_op op_sub (pe_callB (k_len (K := K) rfl) (by rfl) T.len PySem.boot_len (pa_cons (pv 5) pa_nil)) (pv 2)))
      (pss_cons (ps_if (pt_cmpR op_lt (pv 8) (pv 3) (nomark _)) (pss_one (ps_expr (k_bm (K := K) rfl PySem.F.plainAttrs_list PySem.F.slot_list_append PySem.F.type_list_append mt_append (pv 7) (pa_cons (pe_tup (pa_cons (pe_op (k_catA (K := K) rfl) (pv 4) (pe_tup (pa_cons (pv 8) pa_nil))) (pa_cons (pe_op (k_catA (K := K) rfl) (pv 5) (pe_tup (pa_cons (pv 6) pa_nil))) pa_nil))) pa_nil)))) pss_nil)
      (pss_one (ps_ret (pv 7))))))))), ?_⟩
    obtain ⟨a, c, et, ta, tc⟩ := st _ List.mem_cons_self
    have et : H t = some (.tup [.ref a, .ref c]) := et
    have ta : H a = some (.tup (dn.map V.int)) := ta
    have tc : H c = some (.tup (Pl.map V.int)) := tc
    refine ⟨_, rfl, t, _, rfl, .inl (.inl et), rfl, _, _, rfl, _, [], rfl, rfl, ?_⟩
    refine ⟨_, rfl, _, rfl, c, _, _, _, rfl, rfl, sqT tc, atI_of (j := b.toNat) (by omega) (at_map (x := labF Pl b) (by unfold labF; rw [List.getD_eq_getElem?_getD, List.getElem?_eq_getElem (by omega)]; rfl)), ?_⟩
    refine ⟨Nat.zero_le _, fun R nR => ?_⟩
    have sR := same_new (H := H) (o := .lst []) nR
    obtain ⟨h, hh⟩ : ∃ h, labF Pl b = h := ⟨_, rfl⟩
    rw [hh]
    change tSeq _ _ _ [some (.ref t), some (.int b), some (vN k), some (vN most), some (.ref a), some (.ref c), some (.int h), some (.ref R), none, none, none, none] _
    refine ⟨_, rfl, _, rfl, _, rfl, c, _, rfl, sR _ _ tc, fun H1 sl s1 es => ?_⟩
    rw [cut_from (by rw [List.length_map]; exact kP), ← List.map_drop, drop_getD] at es
    obtain ⟨made, hmade⟩ : ∃ made, Pl.length - k = made := ⟨_, rfl⟩
    rw [hmade, List.map_map] at es
    have s01 := sR.trans s1
    refine ⟨sl, _, rfl, sqT es, for_enumT (K := K) (a := sl) (xs := (List.range made).map (V.int ∘ fun i => Pl.getD (k + i) 0))
      (fun i σ H2 => ∃ (y8 y9 y10 : Option V) (qs : List SR), σ = [some (.ref t), some (.int b), some (vN k), some (vN most), some (.ref a), some (.ref c), some (.int h), some (.ref R), y8, y9, y10, none] ∧ Same H H2 ∧ H2 R = some (.lst (qs.map fun q => V.ref q.1)) ∧ H2 sl = some (.tup ((List.range made).map (V.int ∘ fun i => Pl.getD (k + i) 0))) ∧ StRows H2 qs ∧
        qs.map (·.2) = (((List.range i).filter fun i => !decide (Pl.getD (k + i) 0 = h)).map fun i => (dn ++ [((i : Nat) : Int)], mergeL Pl h (Pl.getD (k + i) 0))))
      ?_ (fun i σ H2 ⟨_, _, _, _, _, _, _, e, _⟩ => sqT e) ?_ ?_⟩
    · exact ⟨none, none, none, [], rfl, s01, s1 _ _ upd_same, es, (fun q hq => by cases hq), rfl⟩
    · rintro i v T1 σ H2 hi ⟨y8, y9, y10, qs, rfl, s2, eR, esl, st2, eq⟩ hT
      have il : i < made := by
        have := (List.getElem?_eq_some_iff.mp hi).1
        rwa [List.length_map, List.length_range] at this
      obtain ⟨x, hx⟩ : ∃ x, Pl.getD (k + i) 0 = x := ⟨_, rfl⟩
      obtain rfl : V.int x = v := by
        rw [List.getElem?_map, List.getElem?_range il] at hi
        rw [← hx]
        exact Option.some.inj hi
      have sT := same_new (H := H2) (o := .tup [V.int ((i : Nat) : Int), .int x]) hT
      have tk : (List.range (i + 1)).filter (fun i => !decide (Pl.getD (k + i) 0 = h)) = (List.range i).filter (fun i => !decide (Pl.getD (k + i) 0 = h)) ++ if (!decide (x = h)) = true then [i] else [] := by
        rw [List.range_succ, List.filter_append, List.filter_cons, hx]
        rfl
      rw [tk]
      refine ⟨T1, _, rfl, .inl (.inl upd_same), rfl, _, _, rfl, _, [], rfl, rfl, ?_⟩
      change tIfS _ _ _ _ [some (.ref t), some (.int b), some (vN k), some (vN most), some (.ref a), some (.ref c), some (.int h), some (.ref R), some (.int ((i : Nat) : Int)), some (.int x), y10, none] _
      refine ⟨_, rfl, _, rfl, rfl, _, rfl, ite2 (fun e => ?_) (fun e => ?_)⟩
      · have ne : x ≠ h := fun z => by rw [z] at e; simp at e
        have s2T := s2.trans sT
        have tcT := s2T _ _ tc
        have eRT := sT _ _ eR
        have eslT := sT _ _ esl
        have st2T := st2.mono sT
        generalize upd H2 T1 (.tup [V.int ((i : Nat) : Int), .int x]) = H3 at s2T tcT eRT eslT st2T ⊢
        refine ⟨_, rfl, c, rfl, ⟨_, sqT tcT⟩, fun G nG => ?_⟩
        refine lc_tup (K := K) (a := c) (xs := Pl.map V.int) (fun j H4 => Same H3 H4 ∧ H4 G = some (.lst (((Pl.take j).map fun z => if z = x then h else z).map V.int))) ⟨same_new nG, upd_same⟩ (fun j H4 _ ⟨s4, _⟩ => sqT (s4 _ _ tcT)) ?_ ?_
        · rintro j v H4 hj ⟨s4, eG⟩
          obtain ⟨z, hz, rfl⟩ := map_at hj
          have jl := (List.getElem?_eq_some_iff.mp hz).1
          have fin : ∃ acc, H4 G = some (.lst acc) ∧ acc.length < sizeLine ∧ (Same H3 (upd H4 G (.lst (acc ++ [V.int (if z = x then h else z)]))) ∧ (upd H4 G (.lst (acc ++ [V.int (if z = x then h else z)]))) G = some (.lst (((Pl.take (j + 1)).map fun z => if z = x then h else z).map V.int))) := by
            refine ⟨_, eG, ?_, same_mut s4 nG, ?_⟩
            · rw [List.length_map, List.length_map, List.length_take]
              exact small_of (by omega)
            · rw [upd_same, take_snoc hz, List.map_append, List.map_append]
              rfl
          refine ⟨rfl, _, rfl, _, rfl, rfl, _, rfl, ite2 (fun e2 => ?_) (fun e2 => ?_)⟩
          · rw [if_pos (V.int.inj (of_decide_eq_true e2))] at fin
            exact ⟨_, rfl, fin⟩
          · rw [if_neg (fun z2 => e2 (decide_eq_true (congrArg V.int z2)))] at fin
            exact ⟨_, rfl, fin⟩
        · rintro H4 ⟨s4, eG⟩
          rw [List.length_map, List.take_length] at eG
          refine ⟨G, _, rfl, .inl ⟨sqL eG, fun dt ndt => ?_⟩⟩
          have sd := same_new (H := H4) (o := .tup ((Pl.map fun z => if z = x then h else z).map V.int)) ndt
          have s34 := s4.trans sd
          have ed : (upd H4 dt (.tup ((Pl.map fun z => if z = x then h else z).map V.int))) dt = some (.tup ((mergeL Pl h x).map V.int)) := upd_same
          generalize upd H4 dt (.tup ((Pl.map fun z => if z = x then h else z).map V.int)) = H5 at s34 ed ⊢
          refine ⟨_, rfl, .inl ⟨rfl, _, .inl (.inl (s34 _ _ eRT))⟩, ?_⟩
          refine ⟨_, rfl, _, rfl, by show 1 ≤ sizeLine; decide, fun m1 nm1 => ?_⟩
          have sm := same_new (H := H5) (o := .tup [V.int ((i : Nat) : Int)]) nm1
          have s25 := s2T.trans s34
          refine ⟨a, m1, _, _, rfl, rfl, sm _ _ (s25 _ _ ta), upd_same, by rw [List.length_map]; show dn.length + 1 ≤ _; omega, fun H6 bl s6 eb => ⟨_, rfl, by show 2 ≤ sizeLine; decide, fun q nq => ?_⟩⟩
          have s56 := sm.trans s6
          have sq := same_new (H := H6) (o := .tup [V.ref bl, .ref dt]) nq
          have s36 := (s34.trans s56).trans sq
          have eR6 := s36 _ _ eRT
          have lq : qs.length ≤ 130 := by
            have := congrArg List.length eq
            rw [List.length_map, List.length_map] at this
            have h2 := List.length_filter_le (fun i => !decide (Pl.getD (k + i) 0 = h)) (List.range i)
            rw [List.length_range] at h2
            omega
          refine ⟨R, _, _, rfl, rfl, eR6, by rw [List.length_map]; exact small_of (by omega), _, _, _, qs ++ [(q, dn ++ [((i : Nat) : Int)], mergeL Pl h x)], rfl, ?_, ?_, ?_, ?_, ?_⟩
          · exact same_mut (s2T.trans s36) nR
          · rw [upd_same, List.map_append]
            rfl
          · have := s36 _ _ eslT
            rw [upd_ne (fun w => by rw [w, eR6] at this; cases this)]
            exact this
          · refine ((st2T.mono s36).put eR6).app fun q' hq' => ?_
            rw [List.mem_singleton.mp hq']
            have k : ∀ {z : Addr} {us : List V}, (upd H6 q (.tup [V.ref bl, .ref dt])) z = some (.tup us) → upd (upd H6 q (.tup [V.ref bl, .ref dt])) R (.lst (qs.map (fun q => V.ref q.1) ++ [V.ref q])) z = some (.tup us) := fun {z us} ez => by
              rw [upd_ne (fun w => by rw [w, eR6] at ez; cases ez)]
              exact ez
            refine ⟨bl, dt, k upd_same, k ?_, k (sq _ _ (s56 _ _ ed))⟩
            rw [sq _ _ eb, List.map_append]
            rfl
          · rw [List.map_append, eq, if_pos (by rw [decide_eq_false ne]; rfl), List.map_append]
            rw [← hx]
            rfl
      · have eqx : x = h := Classical.byContradiction fun z => e (by rw [decide_eq_false (fun w => z (V.int.inj w))]; rfl)
        refine ⟨_, _, _, qs, rfl, s2.trans sT, sT _ _ eR, sT _ _ esl, st2.mono sT, ?_⟩
        rw [eq, if_neg (by rw [eqx]; simp), List.append_nil]
    · rintro σ H2 ⟨y8, y9, y10, qs, rfl, s2, eR, esl, st2, eq⟩
      rw [List.length_map, List.length_range] at eq
      have tc2 := s2 _ _ tc
      have ta2 := s2 _ _ ta
      refine ⟨_, rfl, c, _, rfl, .inr (sqT tc2), _, rfl, _, _, rfl, rfl, ?_⟩
      rw [List.length_map]
      change gName 8 (V.int (((Pl.length : Nat) : Int) - ((k : Nat) : Int))) _ _ _
      rw [show ((Pl.length : Nat) : Int) - ((k : Nat) : Int) = ((made : Nat) : Int) by omega]
      dsimp only [List.set_cons_succ, List.set_cons_zero]
      refine seq_cut5 (t := tIfS _ _ _) (fun σ' H' => ∃ qs' : List SR, σ' = [some (.ref t), some (.int b), some (vN k), some (vN most), some (.ref a), some (.ref c), some (.int h), some (.ref R), some (vN made), y9, y10, none] ∧ Same H H' ∧ H' R = some (.lst (qs'.map fun q => V.ref q.1)) ∧ StRows H' qs' ∧ qs'.map (·.2) = nextL k most (dn, Pl) b) (fun kk hk => ?_) ?_
      · have eN : nextL k most (dn, Pl) b = qs.map (·.2) ++ if made < most then [(dn ++ [((made : Nat) : Int)], Pl ++ [h])] else [] := by
          rw [eq]
          unfold nextL
          show (((List.range (Pl.length - k)).filter fun i => !decide (Pl.getD (k + i) 0 = labF Pl b)).map fun i => (dn ++ [((i : Nat) : Int)], mergeL Pl (labF Pl b) (Pl.getD (k + i) 0))) ++ (if Pl.length - k < most then [(dn ++ [((Pl.length - k : Nat) : Int)], Pl ++ [labF Pl b])] else []) = _
          rw [hh, hmade]
        have lq : qs.length ≤ 130 := by
          have := congrArg List.length eq
          rw [List.length_map, List.length_map] at this
          have h2 := List.length_filter_le (fun i => !decide (Pl.getD (k + i) 0 = h)) (List.range made)
          rw [List.length_range] at h2
          omega
        refine ⟨_, rfl, _, rfl, _, _, rfl, rfl, _, rfl, ite2 (fun e => ?_) (fun e => ?_)⟩
        · have lt : made < most := by have := of_decide_eq_true e; omega
          rw [if_pos lt] at eN
          refine ⟨_, rfl, .inl ⟨rfl, _, .inl (.inl eR)⟩, ?_⟩
          refine ⟨_, rfl, _, rfl, by show 1 ≤ sizeLine; decide, fun m1 nm1 => ?_⟩
          have sm := same_new (H := H2) (o := .tup [vN made]) nm1
          refine ⟨a, m1, _, _, rfl, rfl, sm _ _ ta2, upd_same, by rw [List.length_map]; show dn.length + 1 ≤ _; omega, fun H6 bl s6 eb => ?_⟩
          have s26 := sm.trans s6
          refine ⟨_, rfl, _, rfl, by show 1 ≤ sizeLine; decide, fun m2 nm2 => ?_⟩
          have sm2 := same_new (H := H6) (o := .tup [V.int h]) nm2
          refine ⟨c, m2, _, _, rfl, rfl, sm2 _ _ (s26 _ _ tc2), upd_same, by rw [List.length_map]; show Pl.length + 1 ≤ _; omega, fun H7 pl s7 ep => ⟨by show 2 ≤ sizeLine; decide, fun q' nq => ?_⟩⟩
          have s67 := sm2.trans s7
          have sq := same_new (H := H7) (o := .tup [V.ref bl, .ref pl]) nq
          have s27 := (s26.trans s67).trans sq
          have eR7 := s27 _ _ eR
          have kp : ∀ {z : Addr} {us : List V}, (upd H7 q' (.tup [V.ref bl, .ref pl])) z = some (.tup us) → upd (upd H7 q' (.tup [V.ref bl, .ref pl])) R (.lst (qs.map (fun q => V.ref q.1) ++ [V.ref q'])) z = some (.tup us) := fun {z us} ez => by
            rw [upd_ne (fun w => by rw [w, eR7] at ez; cases ez)]
            exact ez
          refine ⟨R, _, _, rfl, rfl, eR7, by rw [List.length_map]; exact small_of (by omega), hk _ _ ⟨qs ++ [(q', dn ++ [((made : Nat) : Int)], Pl ++ [h])], rfl, same_mut (s2.trans s27) nR, by rw [upd_same, List.map_append]; rfl, ((st2.mono s27).put eR7).app fun z hz => ?_, ?_⟩⟩
          · rw [List.mem_singleton.mp hz]
            refine ⟨bl, pl, kp upd_same, kp ?_, kp ?_⟩
            · rw [sq _ _ (s67 _ _ eb), List.map_append]
              rfl
            · rw [sq _ _ ep, List.map_append]
              rfl
          · rw [eN, List.map_append]
            rfl
        · have lt : ¬ made < most := fun z => e (decide_eq_true (by omega))
          rw [if_neg lt, List.append_nil] at eN
          exact hk _ _ ⟨qs, rfl, s2, eR, st2, eN.symm⟩
      rintro σ H3 ⟨qs', rfl, s3, eR3, st3, eq3⟩
      exact ⟨_, rfl, q H3 R qs' s3 nR eR3 st3 eq3⟩
end
end KQ
/-! [e for x in a for y in b], the second a list -/
namespace KR
open PySem PySem.Spec PyProof.Rows L2
theorem in_list {K : PySem.W.Frag} {a : Addr} {xs : List V} {g1 : TG} {tt1 : TT} {te : TE} {vs1 : List Nat} {σ2 : L2.St} {H4 : Hp} {D : Addr} {Qd : Hp → Prop} (Pw : Nat → Hp → Prop) (h0 : Pw 0 H4) (hl : ∀ i H, i ≤ xs.length → Pw i H → SqL K H a xs)
    (hs : ∀ i x H, xs[i]? = some x → Pw i H → g1 x (wipe σ2 vs1) H fun σ3 H5 => wipe σ3 vs1 = wipe σ2 vs1 ∧ tt1 σ3 H5 fun b H6 =>
      if b = true then te σ3 H6 fun y H7 => ∃ acc, H7 D = some (.lst acc) ∧ acc.length < sizeLine ∧ Pw (i + 1) (upd H7 D (.lst (acc ++ [y]))) else Pw (i + 1) H6) (hd : ∀ H, Pw xs.length H → Qd H) :
    ∃ W1 : Nat → Nat → Hp → Prop, (∃ m, W1 0 m H4) ∧ ∀ j k H, W1 j k H →
      ((L2.Itl K a).stop j H ∧ Qd H) ∨ ((L2.Itl K a).go j H ∧ ∃ Nx1 : Hp → Prop, (∀ H', Nx1 H' → ∃ k', k' < k ∧ W1 (j + 1) k' H') ∧ ∀ x H', (L2.Itl K a).yld j H x H' →
        g1 x (wipe σ2 vs1) H' fun σ3 H5 => wipe σ3 vs1 = wipe σ2 vs1 ∧ tt1 σ3 H5 fun b H6 =>
        if b = true then te σ3 H6 fun y H7 => ∃ acc, H7 D = some (.lst acc) ∧ acc.length < sizeLine ∧ Nx1 (upd H7 D (.lst (acc ++ [y]))) else Nx1 H6) := by
  refine ⟨fun i m H => m = xs.length - i ∧ i ≤ xs.length ∧ Pw i H, ⟨xs.length, by simp, Nat.zero_le _, h0⟩, ?_⟩
  rintro i m H ⟨rfl, hi, p⟩
  have q := hl i H hi p
  by_cases hlt : i < xs.length
  · refine .inr ⟨⟨xs, xs[i], q, by simp [hlt]⟩, Pw (i + 1), fun H' p' => ⟨xs.length - (i + 1), by omega, rfl, hlt, p'⟩, fun x H' y => ?_⟩
    obtain ⟨e, y⟩ := y
    subst e
    exact hs i x _ (y xs q) p
  · have e : i = xs.length := by omega
    subst e
    exact .inl ⟨⟨xs, q, Nat.le_refl _⟩, hd H p⟩
end KR
namespace KQ
open PySem PySem.Spec PyProof.Rows L2 KR KM StX
theorem walk_app (k most : Nat) : ∀ (r r' : List Int) (ss : List (List Int × List Int)), walkL k most (r ++ r') ss = walkL k most r' (walkL k most r ss)
  | [], _, _ => rfl
  | b :: r, r', ss => walk_app k most r r' _
/-- the states behind the first i doors -/
def statesTo (k : Nat) (p : List Int) (i : Nat) : List (List Int × List Int) := walkL k (p.length + 1 - k) (p.take i) [([], iotaL k)]
theorem states_snoc {k i : Nat} {p : List Int} {b : Int} (h : p[i]? = some b) : statesTo k p (i + 1) = (statesTo k p i).flatMap fun s => nextL k (p.length + 1 - k) s b := by
  unfold statesTo
  rw [take_snoc h, walk_app]
  rfl
theorem next_len {k most : Nat} {s s' : List Int × List Int} {b : Int} (h : s' ∈ nextL k most s b) : s'.1.length = s.1.length + 1 ∧ s'.2.length ≤ s.2.length + 1 := by
  unfold nextL at h
  rcases List.mem_append.mp h with h | h
  · obtain ⟨i, _, rfl⟩ := List.mem_map.mp h
    exact ⟨by rw [List.length_append]; rfl, by unfold mergeL; rw [List.length_map]; omega⟩
  · split at h
    · rw [List.mem_singleton.mp h]
      exact ⟨by rw [List.length_append]; rfl, by rw [List.length_append]; exact Nat.le_refl _⟩
    · cases h
section
variable {n k : Nat} {p : List Int} (par : Par p) (hn : p.length = n + 1) (hk : bc 0 p = (k : Int))
include par hn hk
theorem states_ok : ∀ i, i ≤ p.length → ∀ s ∈ statesTo k p i, StOk k (p.length + 1 - k) (p.drop i) s.2 ∧ s.1.length = i ∧ s.2.length ≤ k + i
  | 0, _, s, hs => by
    obtain rfl : s = ([], iotaL k) := List.mem_singleton.mp hs
    exact ⟨start_ok par hn hk, rfl, by rw [iota_len]; omega⟩
  | i + 1, hi, s, hs => by
    obtain ⟨b, hb⟩ := at_some (xs := p) (i := i) (by omega)
    rw [states_snoc hb] at hs
    obtain ⟨s', hs', hx⟩ := List.mem_flatMap.mp hs
    obtain ⟨o, l1, l2⟩ := states_ok i (by omega) s' hs'
    obtain ⟨m1, m2⟩ := next_len hx
    have e : p.drop i = b :: p.drop (i + 1) := by
      obtain ⟨il, e⟩ := List.getElem?_eq_some_iff.mp hb
      rw [← e]
      exact List.drop_eq_getElem_cons il
    rw [e] at o
    exact ⟨next_ok o hx, by omega, by omega⟩
theorem states_end : (statesTo k p p.length).map (·.1) = metBy n p := by
  unfold statesTo
  rw [List.take_length, ← ends_all par hn hk]
  have := ends_walk k (p.length + 1 - k) p [([], iotaL k)]
  rw [List.flatMap_cons, List.flatMap_nil, List.append_nil] at this
  exact this.symm
theorem states_few (i : Nat) (hi : i ≤ p.length) : (statesTo k p i).length ≤ metN k p := by
  have h := few_states (K := k) (most := p.length + 1 - k) (rem := p.drop i) fun s hs => (states_ok par hn hk i hi s hs).1
  rw [ends_walk, List.length_map] at h
  have e : walkL k (p.length + 1 - k) (p.drop i) (statesTo k p i) = statesTo k p p.length := by
    unfold statesTo
    rw [← walk_app, List.take_append_drop, List.take_length]
  rw [e] at h
  rw [← met_count par hn hk, ← states_end par hn hk, List.length_map]
  exact h
end
section
variable {P : Program} {w : World} {K : PySem.W.Frag} {mg : Str → Option Value} {base : Heap}
abbrev s_all_meeting : Stmt := topS 23
theorem sc_all_meeting : FnScope ["parting", "many", "most", "rows", "block", "row", "new", "blocks", "_"] ["parting"] (defScope s_all_meeting) := ⟨rfl, rfl, rfl, by decide +kernel, rfl, by decide +kernel, by decide +kernel⟩
def spAllMeet : Sp := fun vs H Q _ => ∃ (a : Addr) (p : List Int) (n k : Nat), vs = [.ref a] ∧ TI H a p ∧ Par p ∧ p.length = n + 1 ∧ bc 0 p = (k : Int) ∧ metN k p ≤ 1000 ∧ ∀ H' t, Same H H' → TT H' t (metBy n p) → Q (.ref t) H'
theorem ok_all_meeting (D : DefAt K mg "all_meeting" s_all_meeting) (T : Bt mg) (c_MOST_MEETING : Cst mg "MOST_MEETING" 1000) (u_need_parting : Use P w K mg base "need_parting" 4 ["parting"] spNeed) (u_met_by : Use P w K mg base "met_by" 4 ["parting"] spMetN)
    (u_block_count : Use P w K mg base "block_count" 1 ["parting"] spCount) (u_longer : Use P w K mg base "longer" 1 ["row", "block", "many", "most"] spLonger) : Use P w K mg base "all_meeting" 5 ["parting"] spAllMeet := by
  refine use_of D (fun f fd F => F.ok sc_all_meeting (fun vs H Q E h => ?_) (fun cdv A outer s H vs Q E hr h => ?_)) (fun _ _ _ _ _ _ us hl => match us, hl with | [_], _ => rfl)
  · obtain ⟨a, p, n, k, rfl, _⟩ := h
    rfl
  · obtain ⟨a, p, n, k, rfl, tp, par, hn, hk, few, q⟩ := h
    refine ⟨_, (pss_cons (ps_expr (pe_use u_need_parting (by decide) hr (by rfl) (pa_cons (pv 0) pa_nil)))
      (pss_cons (ps_if (pt_cmpR op_gt (pe_use u_met_by (by decide) hr (by rfl) (pa_cons (pv 0) pa_nil)) (pe_cst (by rfl) c_MOST_MEETING) (nomark _)) (pss_one ps_never) pss_nil)
      (pss_cons (ps_set (i := 1) sc_all_meeting.nd rfl (Or.inr rfl) (pe_use u_block_count (by decide) hr (by rfl) (pa_cons (pv 0) pa_nil)))
      (pss_cons (ps_set (i := 2) sc_all_meeting.nd rfl (Or.inr rfl) (pe_op op_sub (pe_op op_add (pe_callB (k_len (K := K) rfl) (by rfl) T.len PySem.boot_len (pa_cons (pv 0) pa_nil)) pe_int) (pv 1)))
      (pss_cons (ps_set (i := 3) sc_all_meeting.nd rfl (Or.inl rfl) (pe_lst (pa_cons (pe_tup (pa_cons (pe_tup pa_nil) (pa_cons (pe_tupRg rfl (by rfl) T.tuple (prg_1 (by rfl) T.range (pv 1))) pa_nil))) pa_nil)))
      (pss_cons (ps_for PassesOwn.never rfl (k_tup (K := K) rfl (pv 0)) (pg_name (i := 4) sc_all_meeting.nd rfl (Or.inr rfl))
      (pss_one (ps_setLc2 (i := 3) (own := [("row", 5), ("new", 6)]) (vs1 := [6]) rfl sc_all_meeting.nd rfl rfl (sw_true rfl rfl rfl (by decide +kernel)) (k_list (K := K) rfl (pv 3)) (blkOk_by (N := ["parting", "many", "most", "rows", "block", "row", "new", "blocks", "_"]) (sc := defScope s_all_meeting) (by decide +kernel)) (by decide) (fun _ _ _ _ _ => (pg_name (i := 5) sc_all_meeting.nd rfl (Or.inl rfl))) (fun _ _ _ _ _ => pts_nil) (fun _ _ _ _ _ => (k_list (K := K) rfl (pe_use u_longer (by decide) hr (by rfl) (pa_cons (pv 5) (pa_cons (pv 4) (pa_cons (pv 1) (pa_cons (pv 2) pa_nil))))))) (fun _ _ _ _ _ => (pg_name (i := 6) sc_all_meeting.nd rfl (Or.inl rfl))) (fun _ _ _ _ _ => pts_nil) (fun _ _ _ _ _ => (pv 6)))))
      (pss_one (ps_ret (pe_callTy (k_tupOf (K := K) rfl) (by rfl) T.tuple (by decide +kernel) (pa_cons (pe_lc (own := [("blocks", 7), ("_", 8)]) rfl sc_all_meeting.nd (k_list (K := K) rfl (pv 3)) (blkOk_by (N := ["parting", "many", "most", "rows", "block", "row", "new", "blocks", "_"]) (sc := defScope s_all_meeting) (by decide +kernel)) (fun _ _ _ _ _ => (k_gtup (K := K) (n := 2) rfl rfl (pgs_cons (pg_name (i := 7) sc_all_meeting.nd rfl (Or.inl rfl)) (pgs_cons (pg_name (i := 8) sc_all_meeting.nd rfl (Or.inl rfl)) pgs_nil)))) (fun _ _ _ _ _ => pts_nil) (fun _ _ _ _ _ => (pv 7))) pa_nil)))))))))), ?_⟩
    obtain ⟨k0, kl⟩ := par_blocks par hk
    have p60 := par.le
    refine ⟨_, rfl, a, p, rfl, tp, par, fun H1 s1 => ?_⟩
    refine ⟨_, rfl, a, p, k, rfl, tp.mono s1, par, hk, fun H2 s2 => ?_⟩
    have s02 := s1.trans s2
    have tp := tp.mono s02
    refine ⟨_, _, rfl, rfl, _, rfl, ite2 (fun e => ?_) (fun _ => ?_)⟩
    · have := of_decide_eq_true e
      omega
    refine ⟨_, rfl, a, p, rfl, tp, par, ?_⟩
    rw [hk]
    refine ⟨_, rfl, a, _, rfl, .inr tp.seq, _, _, rfl, rfl, _, rfl, _, _, rfl, rfl, ?_⟩
    obtain ⟨most, hmost⟩ : ∃ most, p.length + 1 - k = most := ⟨_, rfl⟩
    rw [List.length_map]
    change gName 2 (V.int (((p.length : Nat) : Int) + 1 - ((k : Nat) : Int))) _ _ _
    rw [show ((p.length : Nat) : Int) + 1 - ((k : Nat) : Int) = ((most : Nat) : Int) by omega]
    refine ⟨Nat.zero_le _, fun e0 ne0 => ⟨_, rfl, _, rfl, RgOk.of_le (by omega) (by omega) (by omega) (by omega), fun g0 ng0 => ⟨by show 2 ≤ sizeLine; decide, fun t0 nt0 => ⟨by show 1 ≤ sizeLine; decide, fun R0 nR0 => ?_⟩⟩⟩⟩
    change tSeq _ _ _ [some (.ref a), some (vN k), some (vN most), some (.ref R0), none, none, none, none, none] _
    have rgI : rgV 0 ((k : Nat) : Int) = (iotaL k).map V.int := by
      unfold rgV iotaL
      rw [List.map_map, show (((k : Nat) : Int) - 0).toNat = k by omega]
      refine List.map_congr_left fun i _ => ?_
      show V.int (0 + ((i : Nat) : Int)) = V.int ((i : Nat) : Int)
      rw [Int.zero_add]
    rw [rgI] at nt0 nR0 ⊢
    have f1 := same_new (H := H2) (o := .tup []) ne0
    have f2 := same_new (o := .tup ((iotaL k).map V.int)) ng0
    have f3 := same_new (o := .tup [V.ref e0, .ref g0]) nt0
    have f4 := same_new (o := .lst [V.ref t0]) nR0
    have g1 := f4 _ _ (f3 _ _ (f2 _ _ (upd_same (H := H2) (a := e0) (o := .tup []))))
    have g2 := f4 _ _ (f3 _ _ (upd_same (H := upd H2 e0 (.tup [])) (a := g0) (o := .tup ((iotaL k).map V.int))))
    have g3 := f4 _ _ (upd_same (H := upd (upd H2 e0 (.tup [])) g0 (.tup ((iotaL k).map V.int))) (a := t0) (o := .tup [V.ref e0, .ref g0]))
    have g4 := upd_same (H := upd (upd (upd H2 e0 (.tup [])) g0 (.tup ((iotaL k).map V.int))) t0 (.tup [V.ref e0, .ref g0])) (a := R0) (o := .lst [V.ref t0])
    have s03 := s02.trans (((f1.trans f2).trans f3).trans f4)
    have tp := tp.mono (((f1.trans f2).trans f3).trans f4)
    generalize upd (upd (upd (upd H2 e0 (.tup [])) g0 (.tup ((iotaL k).map V.int))) t0 (.tup [V.ref e0, .ref g0])) R0 (.lst [V.ref t0]) = H3 at g1 g2 g3 g4 s03 tp ⊢
    clear f1 f2 f3 f4 ne0 ng0 nt0 nR0
    refine ⟨_, rfl, a, rfl, ⟨_, tp.seq⟩, for_tup (K := K) (a := a) (xs := p.map V.int)
      (fun i σ H4 => ∃ (R : Addr) (qs : List SR) (y4 : Option V), σ = [some (.ref a), some (vN k), some (vN most), some (.ref R), y4, none, none, none, none] ∧ Same H3 H4 ∧ H4 R = some (.lst (qs.map fun q => V.ref q.1)) ∧ StRows H4 qs ∧ qs.map (·.2) = statesTo k p i)
      ⟨R0, [(t0, [], iotaL k)], none, rfl, Same.refl _, g4, fun q hq => by rw [List.mem_singleton.mp hq]; exact ⟨e0, g0, g3, g1, g2⟩, rfl⟩ (fun i σ H4 _ ⟨_, _, _, _, s4, _⟩ => (tp.mono s4).seq) ?_ ?_⟩
    · rintro i v σ H4 hi ⟨R, qs, y4, rfl, s4, eR, st, eq⟩
      obtain ⟨b, hb, rfl⟩ := map_at hi
      have il := (List.getElem?_eq_some_iff.mp hb).1
      have okS := states_ok par hn hk i (by omega)
      have few' := states_few par hn hk (i + 1) (by omega)
      have bin := rg_mem 0 p (Int.le_refl _) par.rg
      have bK := bin.1 b (List.mem_of_getElem? hb)
      refine ⟨_, rfl, R, rfl, ⟨_, sqL eR⟩, fun D nD => ?_⟩
      have pre : ∀ j, ((statesTo k p i).take j).flatMap (fun s => nextL k most s b) ++ ((statesTo k p i).drop j).flatMap (fun s => nextL k most s b) = statesTo k p (i + 1) := fun j => by
        rw [states_snoc hb, hmost, ← List.flatMap_append, List.take_append_drop]
      have lenB : ∀ j, (((statesTo k p i).take j).flatMap fun s => nextL k most s b).length ≤ 1000 := fun j => by
        have := congrArg List.length (pre j)
        rw [List.length_append] at this
        omega
      refine lc2_list (K := K) (a := R) (xs := qs.map fun q => V.ref q.1) (fun j H5 => Same H4 H5 ∧ ∃ rs : List SR, H5 D = some (.lst (rs.map fun q => V.ref q.1)) ∧ StRows H5 rs ∧ rs.map (·.2) = ((statesTo k p i).take j).flatMap fun s => nextL k most s b)
        ⟨same_new nD, [], upd_same, (fun q hq => by cases hq), rfl⟩ (fun j H5 _ ⟨s5, _⟩ => sqL (s5 _ _ eR)) ?_ ?_
      · rintro j v H5 hj ⟨s5, rs, eD, sr, er⟩
        obtain ⟨q', hq, rfl⟩ := map_at hj
        have hs : (statesTo k p i)[j]? = some q'.2 := by
          rw [← eq, List.getElem?_map, hq]
          rfl
        obtain ⟨ok, l1, l2⟩ := okS q'.2 (List.mem_of_getElem? hs)
        refine ⟨rfl, _, rfl, _, rfl, _, rfl, _, rfl, ?_⟩
        refine ⟨q'.1, b, k, most, q'.2.1, q'.2.2, rfl, fun z hz => by rw [List.mem_singleton.mp hz]; exact (st.mono s5) q' (List.mem_of_getElem? hq), by omega, by omega, ok.len, by omega, by omega, by omega, fun H6 l us s6 nl el su eu => ?_⟩
        have eu : us.map (·.2) = nextL k most q'.2 b := eu
        refine ⟨l, rfl, ⟨_, sqL el⟩, ?_⟩
        have lD : l ≠ D := fun e => by rw [e, eD] at nl; cases nl
        have lus : us.length = (nextL k most q'.2 b).length := by rw [← eu, List.length_map]
        have tkS : (statesTo k p i).take (j + 1) = (statesTo k p i).take j ++ [q'.2] := take_snoc hs
        have fl1 : ((statesTo k p i).take (j + 1)).flatMap (fun s => nextL k most s b) = ((statesTo k p i).take j).flatMap (fun s => nextL k most s b) ++ nextL k most q'.2 b := by
          rw [tkS, List.flatMap_append, List.flatMap_cons, List.flatMap_nil, List.append_nil]
        have lb := lenB (j + 1)
        rw [fl1, List.length_append] at lb
        refine in_list (K := K) (a := l) (xs := us.map fun q => V.ref q.1) (fun i' H7 => Same H4 H7 ∧ H7 l = some (.lst (us.map fun q => V.ref q.1)) ∧ StRows H7 us ∧ ∃ rs' : List SR, H7 D = some (.lst (rs'.map fun q => V.ref q.1)) ∧ StRows H7 rs' ∧ rs'.map (·.2) = ((statesTo k p i).take j).flatMap (fun s => nextL k most s b) ++ (nextL k most q'.2 b).take i')
          ⟨s5.trans s6, el, su, rs, s6 _ _ eD, sr.mono s6, by rw [List.take_zero, List.append_nil]; exact er⟩ (fun i' H7 _ ⟨_, e, _⟩ => sqL e) ?_ ?_
        · rintro i' v H7 hi' ⟨s7, el7, su7, rs', eD7, sr7, er7⟩
          obtain ⟨u, hu, rfl⟩ := map_at hi'
          have hu2 : (nextL k most q'.2 b)[i']? = some u.2 := by
            rw [← eu, List.getElem?_map, hu]
            rfl
          have ui := (List.getElem?_eq_some_iff.mp hu).1
          have lrs : rs'.length ≤ 1000 := by
            have := congrArg List.length er7
            rw [List.length_map, List.length_append, List.length_take] at this
            omega
          refine ⟨rfl, _, rfl, _, eD7, by rw [List.length_map]; exact small_of (by omega), same_mut s7 nD, by rw [upd_ne lD]; exact el7, su7.put eD7, rs' ++ [u], by rw [upd_same, List.map_append]; rfl, (sr7.put eD7).app fun z hz => ?_, ?_⟩
          · rw [List.mem_singleton.mp hz]
            exact (su7.put eD7) u (List.mem_of_getElem? hu)
          · rw [List.map_append, er7, take_snoc hu2, ← List.append_assoc]
            rfl
        · rintro H7 ⟨s7, el7, su7, rs', eD7, sr7, er7⟩
          rw [List.length_map, lus, List.take_length] at er7
          exact ⟨s7, rs', eD7, sr7, by rw [fl1]; exact er7⟩
      · rintro H5 ⟨s5, rs, eD, sr, er⟩
        have lqs : qs.length = (statesTo k p i).length := by rw [← eq, List.length_map]
        rw [List.length_map, lqs, List.take_length] at er
        refine ⟨D, rs, some (.int b), rfl, s4.trans s5, eD, sr, ?_⟩
        rw [er, states_snoc hb, hmost]
    · rintro σ H4 ⟨R, qs, y4, rfl, s4, eR, st, eq⟩
      rw [List.length_map] at eq
      have fewE := states_few par hn hk p.length (Nat.le_refl _)
      have lqs : qs.length ≤ 1000 := by
        have := congrArg List.length eq
        rw [List.length_map] at this
        omega
      refine ⟨_, rfl, R, rfl, ⟨_, sqL eR⟩, fun D nD => ?_⟩
      refine lc_list (K := K) (a := R) (xs := qs.map fun q => V.ref q.1) (fun j H5 => Same H4 H5 ∧ ∃ us : List Addr, H5 D = some (.lst (us.map V.ref)) ∧ Its H5 us ((qs.take j).map fun q => q.2.1)) ⟨same_new nD, [], upd_same, Its.nil⟩ (fun j H5 _ ⟨s5, _⟩ => sqL (s5 _ _ eR)) ?_ ?_
      · rintro j v H5 hj ⟨s5, us, eD, iu⟩
        obtain ⟨q', hq, rfl⟩ := map_at hj
        obtain ⟨x, y, e1, e2, e3⟩ := (st.mono s5) q' (List.mem_of_getElem? hq)
        have jl := (List.getElem?_eq_some_iff.mp hq).1
        have lu := iu.1
        rw [List.length_map, List.length_take] at lu
        refine ⟨q'.1, _, rfl, .inl (.inl e1), rfl, _, _, rfl, _, [], rfl, rfl, ?_⟩
        refine ⟨rfl, _, rfl, _, eD, by rw [List.length_map]; exact small_of (by omega), same_mut s5 nD, us ++ [x], by rw [upd_same, List.map_append]; rfl, ?_⟩
        rw [take_snoc hq, List.map_append]
        exact (iu.put eD).app (Its.one (show TI _ x _ from rd_lst (show TI H5 x q'.2.1 from .inl e2) eD))
      · rintro H5 ⟨s5, us, eD, iu⟩
        rw [List.length_map, List.take_length] at iu
        refine ⟨D, _, rfl, .inl ⟨sqL eD, fun dt ndt => ?_⟩⟩
        have sd := same_new (H := H5) (o := .tup (us.map V.ref)) ndt
        refine q _ dt ((s03.trans s4).trans (s5.trans sd)) ⟨us, upd_same, ?_⟩
        have e : qs.map (fun q => q.2.1) = metBy n p := by
          rw [← states_end par hn hk, ← eq, List.map_map]
          rfl
        rw [e] at iu
        exact iu.mono sd
end
end KQ
/-! functions of math, called by a name that the text brings in -/
namespace KR
open PySem PySem.Spec PyProof.Rows L2
section
variable {X : Cx}
theorem pe_callM {x : Str} {id : String} {e : Expr} {es : List Expr} {p pos : Pos} {r : List V → Hp → VK → Prop} {t : TA} (hc : CallR X (.builtin id) r) (hg : Gl X x) (hm : X.mg x = some (.builtin id)) (ha : PA X (e :: es) t)
    (hdb : (x == ("__debug__" : Str)) = false := by decide) (he : starEach (e :: es) X.env = (false, eval e X.env) :: starEach es X.env := by rfl)
    (hpl : (backTo pos (starEach es X.env)).any (·.1) = false := by rfl) : PE X (.Call (.Name x p) (e :: es) [] pos) (tCB r t) := by
  refine ⟨fun pins s σ H Q I h => ?_⟩
  refine Call_ (ld_glob I hg hm ?_ hdb)
  refine PyProof.Rows.callWith_builtin1 ?_ he hpl
  refine thn (ha.run pos pins s σ H _ I h) fun vs s1 ⟨xs, H1, I1, hv, q1⟩ => ?_
  exact hc pins s1 σ H1 xs vs Q I1 hv q1
def rFac : List V → Hp → VK → Prop := fun vs H Q => ∃ n : Nat, vs = [.int (n : Int)] ∧ n ≤ 100 ∧ Q (.int ((Builtin.Math.factorialNat n : Nat) : Int)) H
theorem fac_log : ∀ n : _root_.Fin 101, ((Builtin.Math.factorialNat n.val : Nat) : Int).natAbs.log2 < PySem.bitsLine := by decide +kernel
theorem cr_fac : CallR X (.builtin "math.factorial") rFac := by
  intro pins s σ H xs us Q I hv h
  obtain ⟨n, rfl, hn, q⟩ := h
  cases hv with
  | cons hu hr =>
    cases hr
    obtain ⟨t, rfl⟩ := hu
    refine PySem.W.mg_factorial ?_ ?_ ?_ (fac_log ⟨n, by omega⟩) ⟨.int _, H, I.tok _, ⟨_, rfl⟩, q⟩
    · show ¬ (n : Int) > 2 ^ 63 - 1
      omega
    · omega
    · show ¬ (n : Int) > 20000
      omega
def rComb : List V → Hp → VK → Prop := fun vs H Q => ∃ a b : Nat, vs = [.int (a : Int), .int (b : Int)] ∧ a ≤ 1000 ∧ b ≤ 1000 ∧ Q (.int (PySem.W.mcComb a b)) H
theorem cr_comb : CallR X (.builtin "math.comb") rComb := by
  intro pins s σ H xs us Q I hv h
  obtain ⟨a, b, rfl, ha, hb, q⟩ := h
  cases hv with
  | cons hu hr =>
    cases hr with
    | cons hw hr =>
      cases hr
      obtain ⟨t, rfl⟩ := hu
      obtain ⟨t2, rfl⟩ := hw
      exact PySem.W.mc_comb (by omega) (by omega) (by omega) (.inl (by omega)) fun _ => ⟨.int _, H, I.tok _, ⟨_, rfl⟩, q⟩
end
end KR
/-! products in a row, numbers of choices: up to sixty, looked through by the kernel -/
namespace KQ
open PySem PySem.Spec PyProof.Rows L2 KR KM StX
/-- a term of the sum over all numbers of blocks -/
def pairT (n m : Nat) : Int := PySem.W.mcComb n m * ((m ^ (n - m) : Nat) : Int) * (((n - m + 1) ^ (m - 2) : Nat) : Int)
def pairsTo (n i : Nat) : Int := 1 + ((List.range i).map fun j => pairT n (j + 2)).sum
theorem pairs_succ (n i : Nat) : pairsTo n (i + 1) = pairsTo n i + pairT n (i + 2) := by
  unfold pairsTo
  rw [List.range_succ, List.map_append, List.sum_append]
  simp
  omega
theorem comb_small : ∀ n : _root_.Fin 61, ∀ m : _root_.Fin 61, (PySem.W.mcComb ((n.val : Nat) : Int) ((m.val : Nat) : Int)).natAbs < 2 ^ 64 := by decide +kernel
/-- the law's product of whole numbers in a row -/
def prodR (a b : Nat) : Nat := prodN ((List.range (b - a)).map fun i => a + i)
theorem comb_law : ∀ n : _root_.Fin 61, ∀ m : _root_.Fin 61, m.val ≤ n.val → PySem.W.mcComb ((n.val : Nat) : Int) ((m.val : Nat) : Int) = ((prodR (n.val - m.val + 1) (n.val + 1) / prodR 1 (m.val + 1) : Nat) : Int) := by decide +kernel
theorem term_small : ∀ n : _root_.Fin 61, ∀ m : _root_.Fin 61, 2 ≤ m.val → m.val ≤ n.val → prodR (n.val - m.val + 1) (n.val + 1) / prodR 1 (m.val + 1) * m.val ^ (n.val - m.val) * (n.val - m.val + 1) ^ (m.val - 2) < 2 ^ 360 := by decide +kernel
theorem picks_pos : ∀ n : _root_.Fin 61, ∀ m : _root_.Fin 61, 2 ≤ m.val → m.val ≤ n.val → 0 < prodR (n.val - m.val + 1) (n.val + 1) / prodR 1 (m.val + 1) := by decide +kernel
theorem prodN_app : ∀ (xs ys : List Nat), prodN (xs ++ ys) = prodN xs * prodN ys
  | [], ys => (Nat.one_mul _).symm
  | x :: xs, ys => by
    show x * prodN (xs ++ ys) = x * prodN xs * prodN ys
    rw [prodN_app xs ys, Nat.mul_assoc]
theorem prodN_rep (k x : Nat) : prodN (List.replicate k x) = x ^ k := by
  induction k with
  | zero => rfl
  | succ k ih =>
    rw [List.replicate_succ, Nat.pow_succ, ← ih, Nat.mul_comm]
    rfl
theorem prodN_pos : ∀ {xs : List Nat}, (∀ x ∈ xs, 0 < x) → 0 < prodN xs
  | [], _ => Nat.one_pos
  | x :: xs, h => Nat.mul_pos (h x List.mem_cons_self) (prodN_pos fun y hy => h y (List.mem_cons_of_mem _ hy))
/-- what `_law_product` wants -/
theorem prod_ok {xs : List Nat} (pos : ∀ x ∈ xs, 0 < x) (h : prodN xs < 2 ^ 360) : ∀ k, k ≤ xs.length → (xs.take k).foldl (· * ·) 1 < 2 ^ 360 ∧ ∀ x, xs[k]? = some x → x < 2 ^ 360 := fun k hk => by
  have e : prodN (xs.take k) * prodN (xs.drop k) = prodN xs := by rw [← prodN_app, List.take_append_drop]
  have p2 : 0 < prodN (xs.drop k) := prodN_pos fun x hx => pos x (List.mem_of_mem_drop hx)
  have p1 : 0 < prodN (xs.take k) := prodN_pos fun x hx => pos x (List.mem_of_mem_take hx)
  refine ⟨?_, fun x hx => ?_⟩
  · rw [foldl_prodN, Nat.one_mul]
    exact Nat.lt_of_le_of_lt (by rw [← e]; exact Nat.le_mul_of_pos_right _ p2) h
  · have mem : x ∈ xs := List.mem_of_getElem? hx
    obtain ⟨s, t, rfl⟩ := List.append_of_mem mem
    have e2 : prodN (s ++ x :: t) = prodN s * (x * prodN t) := prodN_app s (x :: t)
    have ps : 0 < prodN s := prodN_pos fun y hy => pos y (List.mem_append_left _ hy)
    have pt : 0 < prodN t := prodN_pos fun y hy => pos y (List.mem_append_right _ (List.mem_cons_of_mem _ hy))
    rw [e2] at h
    refine Nat.lt_of_le_of_lt ?_ h
    exact Nat.le_trans (Nat.le_mul_of_pos_right x pt) (Nat.le_mul_of_pos_left _ ps)
theorem prodN_pow (c : Nat) : ∀ {xs : List Nat}, (∀ x ∈ xs, x ≤ c) → prodN xs ≤ c ^ xs.length
  | [], _ => Nat.le_refl _
  | x :: xs, h => by
    have := prodN_pow c fun y hy => h y (List.mem_cons_of_mem _ hy)
    rw [List.length_cons, Nat.pow_succ, Nat.mul_comm]
    exact Nat.mul_le_mul (h x List.mem_cons_self) this
theorem prodN_le60 {xs : List Nat} (h : ∀ x ∈ xs, x ≤ 61) (hl : xs.length ≤ 60) : prodN xs < 2 ^ 360 :=
  Nat.lt_of_le_of_lt (Nat.le_trans (prodN_pow 61 h) (Nat.pow_le_pow_right (by decide) hl)) (by decide +kernel)
end KQ
namespace KQ
open PySem PySem.Spec PyProof.Rows L2 KR KM StX
section
variable {P : Program} {w : World} {K : PySem.W.Frag} {mg : Str → Option Value} {base : Heap}
abbrev s_meeting_pairs : Stmt := topS 26
theorem sc_meeting_pairs : FnScope ["number", "told", "many"] ["number"] (defScope s_meeting_pairs) := ⟨rfl, rfl, rfl, by decide +kernel, rfl, by decide +kernel, by decide +kernel⟩
def spMPairs : Sp := fun vs H Q _ => ∃ n : Nat, vs = [vN n] ∧ 1 ≤ n ∧ n ≤ 60 ∧ Q (.int (pairsTo n (n - 1))) H
theorem ok_meeting_pairs (D : DefAt K mg "meeting_pairs" s_meeting_pairs) (T : Bt mg) (z_comb : mg "comb" = some (.builtin "math.comb")) (c_MOST_DOORS : Cst mg "MOST_DOORS" 60) (u_is_integer_within : Use P w K mg base "is_integer_within" 2 ["value", "least", "most"] spIntW)
    (u_power : Use P w K mg base "power" 1 ["base", "times"] spPower) : Use P w K mg base "meeting_pairs" 3 ["number"] spMPairs := by
  refine use_of D (fun f fd F => F.ok sc_meeting_pairs (fun vs H Q E h => ?_) (fun cdv A outer s H vs Q E hr h => ?_)) (fun _ _ _ _ _ _ us hl => match us, hl with | [_], _ => rfl)
  · obtain ⟨n, rfl, _⟩ := h
    rfl
  · obtain ⟨n, rfl, n1, n60, q⟩ := h
    refine ⟨_, (pss_cons (ps_if (pt_not (pt_val (pe_use u_is_integer_within (by decide) hr (by rfl) (pa_cons (pv 0) (pa_cons pe_int (pa_cons (pe_cst (by rfl) c_MOST_DOORS) pa_nil)))))) (pss_one ps_never) pss_nil)
      (pss_cons (ps_set (i := 1) sc_meeting_pairs.nd rfl (Or.inl rfl) pe_int)
      (pss_cons (ps_for PassesOwn.never rfl (pi_range2 (by rfl) T.range (pa_cons pe_int (pa_cons (pe_op op_add (pv 0) pe_int) pa_nil))) (pg_name (i := 2) sc_meeting_pairs.nd rfl (Or.inl rfl))
      (pss_one (ps_aug (i := 1) sc_meeting_pairs.nd rfl (Or.inl rfl) (pe_op op_mulW (pe_op op_mulW (pe_callM cr_comb (by rfl) z_comb (pa_cons (pv 0) (pa_cons (pv 2) pa_nil))) (pe_use u_power (by decide) hr (by rfl) (pa_cons (pv 2) (pa_cons (pe_op op_sub (pv 0) (pv 2)) pa_nil)))) (pe_use u_power (by decide) hr (by rfl) (pa_cons (pe_op op_add (pe_op op_sub (pv 0) (pv 2)) pe_int) (pa_cons (pe_op op_sub (pv 2) pe_int) pa_nil)))) ip_add)))
      (pss_one (ps_ret (pv 1)))))), ?_⟩
    refine ⟨_, rfl, _, 1, 60, rfl, _, rfl, ?_⟩
    rw [decide_eq_true (show (1 : Int) ≤ (n : Int) ∧ (n : Int) ≤ 60 by omega)]
    refine ⟨_, rfl, _, _, rfl, rfl, 2, _, rfl, ⟨by decide, by decide, by omega, by omega⟩, for_range (lo := 2) (n := (((n : Nat) : Int) + 1 - 2).toNat)
      (fun i σ H1 => ∃ y2 : Option V, σ = [some (vN n), some (.int (pairsTo n i)), y2] ∧ H1 = H) ⟨none, rfl, rfl⟩ ?_ ?_⟩
    · rintro i σ H1 hi ⟨y2, rfl, rfl⟩
      have hm : i + 2 ≤ n := by omega
      have em : (2 : Int) + ((i : Nat) : Int) = ((i + 2 : Nat) : Int) := by omega
      change gName 2 (V.int (2 + ((i : Nat) : Int))) _ _ _
      rw [em]
      have cs := comb_small ⟨n, by omega⟩ ⟨i + 2, by omega⟩
      have cs : (PySem.W.mcComb ((n : Nat) : Int) ((i + 2 : Nat) : Int)).natAbs < 2 ^ 64 := cs
      have p1 : (i + 2) ^ (n - (i + 2)) < 2 ^ 361 := by
        refine Nat.lt_of_le_of_lt (Nat.pow_le_pow_left (show i + 2 ≤ 2 ^ 6 by omega) _) ?_
        rw [← Nat.pow_mul]
        exact Nat.pow_lt_pow_right (by decide) (by omega)
      have p2 : (n - (i + 2) + 1) ^ (i + 2 - 2) < 2 ^ 361 := by
        refine Nat.lt_of_le_of_lt (Nat.pow_le_pow_left (show n - (i + 2) + 1 ≤ 2 ^ 6 by omega) _) ?_
        rw [← Nat.pow_mul]
        exact Nat.pow_lt_pow_right (by decide) (by omega)
      refine ⟨_, rfl, _, rfl, _, rfl, n, i + 2, rfl, by omega, by omega, ?_⟩
      refine ⟨_, rfl, _, rfl, _, rfl, _, _, rfl, rfl, i + 2, n - (i + 2), ?_, by omega, by omega, ?_⟩
      · show [vN (i + 2), V.int ((n : Int) - ((i + 2 : Nat) : Int))] = _
        rw [show (n : Int) - ((i + 2 : Nat) : Int) = ((n - (i + 2) : Nat) : Int) by omega]
      refine ⟨_, _, rfl, rfl, wide_mul cs (nat_abs p1) (by decide) (by decide) (by decide), ?_⟩
      refine ⟨_, rfl, _, rfl, _, _, rfl, rfl, _, _, rfl, rfl, _, rfl, _, _, rfl, rfl, n - (i + 2) + 1, i + 2 - 2, ?_, by omega, by omega, ?_⟩
      · show [V.int ((n : Int) - ((i + 2 : Nat) : Int) + 1), V.int (((i + 2 : Nat) : Int) - 2)] = _
        rw [show (n : Int) - ((i + 2 : Nat) : Int) + 1 = ((n - (i + 2) + 1 : Nat) : Int) by omega, show ((i + 2 : Nat) : Int) - 2 = ((i + 2 - 2 : Nat) : Int) by omega]
      refine ⟨_, _, rfl, rfl, wide_mul (a := 64 + 361) ?_ (nat_abs p2) (by decide) (by decide) (by decide), ?_⟩
      · rw [Int.natAbs_mul, Nat.pow_add]
        exact Nat.mul_lt_mul'' cs (nat_abs p1)
      · refine ⟨_, _, rfl, rfl, some (vN (i + 2)), ?_, rfl⟩
        rw [pairs_succ]
        rfl
    · rintro σ H1 ⟨y2, rfl, rfl⟩
      rw [show (((n : Nat) : Int) + 1 - 2).toNat = n - 1 by omega]
      exact ⟨_, rfl, q⟩
end
end KQ
namespace KQ
open PySem PySem.Spec PyProof.Rows L2 KR KM StX
theorem rgV_nat {a b : Nat} : rgV ((a : Nat) : Int) ((b : Nat) : Int) = ((List.range (b - a)).map fun i => a + i).map vN := by
  unfold rgV
  rw [List.map_map, show (((b : Nat) : Int) - ((a : Nat) : Int)).toNat = b - a by omega]
  refine List.map_congr_left fun i _ => ?_
  show V.int (((a : Nat) : Int) + ((i : Nat) : Int)) = V.int ((a + i : Nat) : Int)
  rw [Int.natCast_add]
theorem prodR_fold (a b : Nat) : ((List.range (b - a)).map fun i => a + i).foldl (· * ·) 1 = prodR a b := by
  rw [foldl_prodN, Nat.one_mul]
  rfl
theorem prodR_ok {a b : Nat} (a1 : 1 ≤ a) (hb : b ≤ 61) : ∀ k, k ≤ ((List.range (b - a)).map fun i => a + i).length → (((List.range (b - a)).map fun i => a + i).take k).foldl (· * ·) 1 < 2 ^ 360 ∧ ∀ x, ((List.range (b - a)).map fun i => a + i)[k]? = some x → x < 2 ^ 360 :=
  prod_ok (fun x hx => by
    obtain ⟨i, _, rfl⟩ := List.mem_map.mp hx
    omega) (prodN_le60 (fun x hx => by
    obtain ⟨i, hi, rfl⟩ := List.mem_map.mp hx
    have := List.mem_range.mp hi
    omega) (by rw [List.length_map, List.length_range]; omega))
theorem prodR_small {a b : Nat} (hb : b ≤ 61) (a1 : 1 ≤ a) : prodR a b < 2 ^ 360 := prodN_le60 (fun x hx => by
    obtain ⟨i, hi, rfl⟩ := List.mem_map.mp hx
    have := List.mem_range.mp hi
    omega) (by rw [List.length_map, List.length_range]; omega)
theorem prodR_pos {a b : Nat} (a1 : 1 ≤ a) : 0 < prodR a b := prodN_pos fun x hx => by
    obtain ⟨i, hi, rfl⟩ := List.mem_map.mp hx
    omega
theorem rep_vN (k x : Nat) : (List.replicate k [vN x]).flatten = (List.replicate k x).map vN := by
  induction k with
  | zero => rfl
  | succ k ih =>
    rw [List.replicate_succ, List.flatten_cons, ih, List.replicate_succ]
    rfl
section
variable {P : Program} {w : World} {K : PySem.W.Frag} {mg : Str → Option Value} {base : Heap}
abbrev s__law_pairs : Stmt := topS 47
theorem sc__law_pairs : FnScope ["many", "found", "size", "picks", "spare", "factors"] ["many"] (defScope s__law_pairs) := ⟨rfl, rfl, rfl, by decide +kernel, rfl, by decide +kernel, by decide +kernel⟩
def spLPairs : Sp := fun vs H Q _ => ∃ n : Nat, vs = [vN n] ∧ 1 ≤ n ∧ n ≤ 60 ∧ ∀ H', Same H H' → Q (.int (pairsTo n (n - 1))) H'
theorem ok_lpairs (D : DefAt K mg "_law_pairs" s__law_pairs) (T : Bt mg) (u__law_product : Use P w K mg base "_law_product" 1 ["numbers"] (spProduct K)) : Use P w K mg base "_law_pairs" 2 ["many"] spLPairs := by
  refine use_of D (fun f fd F => F.ok sc__law_pairs (fun vs H Q E h => ?_) (fun cdv A outer s H vs Q E hr h => ?_)) (fun _ _ _ _ _ _ us hl => match us, hl with | [_], _ => rfl)
  · obtain ⟨n, rfl, _⟩ := h
    rfl
  · obtain ⟨n, rfl, n1, n60, q⟩ := h
    refine ⟨_, (pss_cons (ps_set (i := 1) sc__law_pairs.nd rfl (Or.inl rfl) pe_int)
      (pss_cons (ps_for PassesOwn.never rfl (pi_range2 (by rfl) T.range (pa_cons pe_int (pa_cons (pe_op op_add (pv 0) pe_int) pa_nil))) (pg_name (i := 2) sc__law_pairs.nd rfl (Or.inl rfl))
      (pss_cons (ps_set (i := 3) sc__law_pairs.nd rfl (Or.inl rfl) (pe_op op_fdivW (pe_use u__law_product (by decide) hr (by rfl) (pa_cons (pe_listRg rfl (by rfl) T.list (prg_2 (by rfl) T.range (pe_op op_add (pe_op op_sub (pv 0) (pv 2)) pe_int) (pe_op op_add (pv 0) pe_int))) pa_nil)) (pe_use u__law_product (by decide) hr (by rfl) (pa_cons (pe_listRg rfl (by rfl) T.list (prg_2 (by rfl) T.range pe_int (pe_op op_add (pv 2) pe_int))) pa_nil))))
      (pss_cons (ps_set (i := 4) sc__law_pairs.nd rfl (Or.inl rfl) (pe_op op_add (pe_op op_sub (pv 0) (pv 2)) pe_int))
      (pss_cons (ps_set (i := 5) sc__law_pairs.nd rfl (Or.inl rfl) (pe_op op_cat (pe_lst (pa_cons (pv 3) pa_nil)) (pe_op op_rep (pe_lst (pa_cons (pv 2) pa_nil)) (pe_op op_sub (pv 0) (pv 2)))))
      (pss_one (ps_set (i := 1) sc__law_pairs.nd rfl (Or.inl rfl) (pe_op op_add (pv 1) (pe_use u__law_product (by decide) hr (by rfl) (pa_cons (pe_op op_cat (pv 5) (pe_op op_rep (pe_lst (pa_cons (pv 4) pa_nil)) (pe_op op_sub (pv 2) pe_int))) pa_nil)))))))))
      (pss_one (ps_ret (pv 1))))), ?_⟩
    refine ⟨_, rfl, _, _, rfl, rfl, 2, _, rfl, ⟨by decide, by decide, by omega, by omega⟩, for_range (lo := 2) (n := (((n : Nat) : Int) + 1 - 2).toNat)
      (fun i σ H1 => ∃ y2 y3 y4 y5 : Option V, σ = [some (vN n), some (.int (pairsTo n i)), y2, y3, y4, y5] ∧ Same H H1) ⟨none, none, none, none, rfl, Same.refl _⟩ ?_ ?_⟩
    · rintro i σ H1 hi ⟨y2, y3, y4, y5, rfl, s1⟩
      have hm : i + 2 ≤ n := by omega
      obtain ⟨m, hmm⟩ : ∃ m, i + 2 = m := ⟨_, rfl⟩
      have em : (2 : Int) + ((i : Nat) : Int) = ((m : Nat) : Int) := by omega
      change gName 2 (V.int (2 + ((i : Nat) : Int))) _ _ _
      rw [em]
      refine ⟨_, rfl, _, rfl, _, _, rfl, rfl, _, _, rfl, rfl, _, rfl, _, _, rfl, rfl, _, _, rfl, rfl, ?_⟩
      rw [show ((n : Nat) : Int) - ((m : Nat) : Int) + 1 = ((n - m + 1 : Nat) : Int) by omega, show ((n : Nat) : Int) + 1 = ((n + 1 : Nat) : Int) by omega]
      obtain ⟨pk, hpk⟩ : ∃ pk, prodR (n - m + 1) (n + 1) / prodR 1 (m + 1) = pk := ⟨_, rfl⟩
      have pk0 : 0 < pk := by rw [← hpk]; exact picks_pos ⟨n, by omega⟩ ⟨m, by omega⟩ (by show 2 ≤ m; omega) (by show m ≤ n; omega)
      have tot : pk * m ^ (n - m) * (n - m + 1) ^ (m - 2) < 2 ^ 360 := by rw [← hpk]; exact term_small ⟨n, by omega⟩ ⟨m, by omega⟩ (by show 2 ≤ m; omega) (by show m ≤ n; omega)
      have cl : PySem.W.mcComb ((n : Nat) : Int) ((m : Nat) : Int) = ((pk : Nat) : Int) := by rw [← hpk]; exact comb_law ⟨n, by omega⟩ ⟨m, by omega⟩ (by show m ≤ n; omega)
      refine ⟨RgOk.of_le (by omega) (by omega) (by omega) (by omega), fun l1 nl1 => ?_⟩
      rw [rgV_nat]
      have f1 := same_new (H := H1) (o := .lst (((List.range (n + 1 - (n - m + 1))).map fun i => (n - m + 1) + i).map vN)) nl1
      refine ⟨l1, _, rfl, sqL upd_same, prodR_ok (by omega) (by omega), ?_⟩
      rw [prodR_fold]
      refine ⟨_, rfl, _, _, rfl, rfl, 1, _, rfl, rfl, ?_⟩
      rw [show (1 : Int) = ((1 : Nat) : Int) from rfl, show ((m : Nat) : Int) + ((1 : Nat) : Int) = ((m + 1 : Nat) : Int) by omega]
      refine ⟨RgOk.of_le (by omega) (by omega) (by omega) (by omega), fun l2 nl2 => ?_⟩
      rw [rgV_nat]
      have f2 := same_new (o := .lst (((List.range (m + 1 - 1)).map fun i => 1 + i).map vN)) nl2
      refine ⟨l2, _, rfl, sqL upd_same, prodR_ok (by omega) (by omega), ?_⟩
      rw [prodR_fold]
      have s2 := s1.trans (f1.trans f2)
      generalize upd (upd H1 l1 (.lst (((List.range (n + 1 - (n - m + 1))).map fun i => (n - m + 1) + i).map vN))) l2 (.lst (((List.range (m + 1 - 1)).map fun i => 1 + i).map vN)) = H2 at s2 ⊢
      clear f1 f2 nl1 nl2
      refine ⟨_, _, rfl, rfl, wide_div (b := 360) (by have := prodR_pos (a := 1) (b := m + 1) (by decide); omega) (nat_abs (prodR_small (by omega) (by decide))) (by decide) (by decide), ?_⟩
      change gName 3 (V.int (((prodR (n - m + 1) (n + 1) : Nat) : Int) / ((prodR 1 (m + 1) : Nat) : Int))) _ _ _
      rw [← Int.natCast_ediv, hpk]
      refine ⟨_, rfl, _, rfl, _, _, rfl, rfl, _, _, rfl, rfl, ?_⟩
      change gName 4 (V.int (((n : Nat) : Int) - ((m : Nat) : Int) + 1)) _ _ _
      rw [show ((n : Nat) : Int) - ((m : Nat) : Int) + 1 = ((n - m + 1 : Nat) : Int) by omega]
      change tSeq _ _ _ [some (vN n), some (.int (pairsTo n i)), some (vN m), some (vN pk), some (vN (n - m + 1)), y5] H2
      -- factors
      refine ⟨_, rfl, by show 1 ≤ sizeLine; decide, fun w1 nw1 => ⟨_, rfl, by show 1 ≤ sizeLine; decide, fun w2 nw2 => ?_⟩⟩
      have f1 := same_new (H := H2) (o := .lst [vN pk]) nw1
      have f2 := same_new (o := .lst [vN m]) nw2
      have e1 := f2 _ _ (upd_same (H := H2) (a := w1) (o := .lst [vN pk]))
      refine ⟨_, rfl, _, rfl, _, _, rfl, rfl, w2, _, _, rfl, rfl, upd_same, by omega, by omega, ?_, fun r1 nr1 => ?_⟩
      · show 1 * (((n : Nat) : Int) - ((m : Nat) : Int)).toNat ≤ sizeLine
        rw [Nat.one_mul]
        exact Nat.le_of_lt (small_of (by omega))
      rw [show (((n : Nat) : Int) - ((m : Nat) : Int)).toNat = n - m by omega, rep_vN] at *
      have f3 := same_new (o := .lst ((List.replicate (n - m) m).map vN)) nr1
      have e1 := f3 _ _ e1
      have e2 := upd_same (H := upd (upd H2 w1 (.lst [vN pk])) w2 (.lst [vN m])) (a := r1) (o := .lst ((List.replicate (n - m) m).map vN))
      have s3 := s2.trans ((f1.trans f2).trans f3)
      generalize upd (upd (upd H2 w1 (.lst [vN pk])) w2 (.lst [vN m])) r1 (.lst ((List.replicate (n - m) m).map vN)) = H3 at e1 e2 s3 ⊢
      clear f1 f2 f3 nw1 nw2 nr1
      refine ⟨w1, r1, _, _, rfl, rfl, e1, e2, ?_, fun F nF => ?_⟩
      · rw [List.length_map, List.length_replicate]
        show 1 + (n - m) ≤ sizeLine
        rw [sizeLine_eq]
        omega
      have s4 := s3.trans (same_new (o := .lst ([vN pk] ++ (List.replicate (n - m) m).map vN)) nF)
      have eF : (upd H3 F (.lst ([vN pk] ++ (List.replicate (n - m) m).map vN))) F = some (.lst ((pk :: List.replicate (n - m) m).map vN)) := upd_same
      generalize upd H3 F (.lst ([vN pk] ++ (List.replicate (n - m) m).map vN)) = H4 at s4 eF ⊢
      refine ⟨_, rfl, _, rfl, _, rfl, by show 1 ≤ sizeLine; decide, fun w3 nw3 => ?_⟩
      have f1 := same_new (H := H4) (o := .lst [vN (n - m + 1)]) nw3
      have eF := f1 _ _ eF
      refine ⟨_, rfl, _, _, rfl, rfl, w3, _, _, rfl, rfl, upd_same, by omega, by omega, ?_, fun r2 nr2 => ?_⟩
      · show 1 * (((m : Nat) : Int) - 2).toNat ≤ sizeLine
        rw [Nat.one_mul]
        exact Nat.le_of_lt (small_of (by omega))
      rw [show (((m : Nat) : Int) - 2).toNat = m - 2 by omega, rep_vN] at *
      have f2 := same_new (o := .lst ((List.replicate (m - 2) (n - m + 1)).map vN)) nr2
      have eF := f2 _ _ eF
      have e3 := upd_same (H := upd H4 w3 (.lst [vN (n - m + 1)])) (a := r2) (o := .lst ((List.replicate (m - 2) (n - m + 1)).map vN))
      have s5 := s4.trans (f1.trans f2)
      generalize upd (upd H4 w3 (.lst [vN (n - m + 1)])) r2 (.lst ((List.replicate (m - 2) (n - m + 1)).map vN)) = H5 at eF e3 s5 ⊢
      clear f1 f2 nw3 nr2
      refine ⟨F, r2, _, _, rfl, rfl, eF, e3, ?_, fun G nG => ?_⟩
      · rw [List.length_map, List.length_map, List.length_cons, List.length_replicate, List.length_replicate, sizeLine_eq]
        omega
      have s6 := s5.trans (same_new (o := .lst ((pk :: List.replicate (n - m) m).map vN ++ (List.replicate (m - 2) (n - m + 1)).map vN)) nG)
      have eG : (upd H5 G (.lst ((pk :: List.replicate (n - m) m).map vN ++ (List.replicate (m - 2) (n - m + 1)).map vN))) G = some (.lst (((pk :: List.replicate (n - m) m) ++ List.replicate (m - 2) (n - m + 1)).map vN)) := by
        rw [upd_same, List.map_append]
      have pv : prodN ((pk :: List.replicate (n - m) m) ++ List.replicate (m - 2) (n - m + 1)) = pk * m ^ (n - m) * (n - m + 1) ^ (m - 2) := by
        rw [prodN_app, prodN_rep]
        show pk * prodN (List.replicate (n - m) m) * _ = _
        rw [prodN_rep]
      refine ⟨G, _, rfl, sqL eG, prod_ok (fun x hx => ?_) (by rw [pv]; exact tot), ?_⟩
      · rcases List.mem_append.mp hx with hx | hx
        · rcases List.mem_cons.mp hx with hx | hx
          · rw [hx]; exact pk0
          · rw [(List.mem_replicate.mp hx).2]; omega
        · rw [(List.mem_replicate.mp hx).2]; omega
      · rw [foldl_prodN, Nat.one_mul, pv]
        refine ⟨_, _, rfl, rfl, some (vN m), some (vN pk), some (vN (n - m + 1)), some (.ref F), ?_, s6⟩
        rw [pairs_succ, hmm]
        unfold pairT
        rw [cl, ← Int.natCast_mul, ← Int.natCast_mul]
        rfl
    · rintro σ H1 ⟨y2, y3, y4, y5, rfl, s1⟩
      rw [show (((n : Nat) : Int) + 1 - 2).toNat = n - 1 by omega]
      exact ⟨_, rfl, q H1 s1⟩
end
end KQ
/-! sizes of blocks, the greatest first -/
namespace KQ
open PySem PySem.Spec PyProof.Rows L2 KR KM StX
def insD (x : Nat) : List Nat → List Nat
  | [] => [x]
  | y :: ys => if y ≤ x then x :: y :: ys else y :: insD x ys
def sortD : List Nat → List Nat
  | [] => []
  | x :: xs => insD x (sortD xs)
theorem insD_perm (x : Nat) : ∀ ys, (insD x ys).Perm (x :: ys)
  | [] => List.Perm.refl _
  | y :: ys => by
    unfold insD
    split
    · exact List.Perm.refl _
    · exact ((insD_perm x ys).cons y).trans (List.Perm.swap x y ys)
theorem sortD_perm : ∀ xs, (sortD xs).Perm xs
  | [] => List.Perm.refl _
  | x :: xs => (insD_perm x _).trans ((sortD_perm xs).cons x)
theorem insD_down {x : Nat} : ∀ {ys : List Nat}, ys.Pairwise (fun a b => b ≤ a) → (insD x ys).Pairwise (fun a b => b ≤ a)
  | [], _ => List.pairwise_singleton _ _
  | y :: ys, h => by
    obtain ⟨h1, h2⟩ := List.pairwise_cons.mp h
    unfold insD
    split
    · rename_i c
      refine List.pairwise_cons.mpr ⟨fun z hz => ?_, h⟩
      rcases List.mem_cons.mp hz with e | hz
      · omega
      · have := h1 z hz
        omega
    · rename_i c
      refine List.pairwise_cons.mpr ⟨fun z hz => ?_, insD_down h2⟩
      rcases List.mem_cons.mp ((insD_perm x ys).mem_iff.mp hz) with e | hz
      · omega
      · exact h1 z hz
theorem sortD_down : ∀ xs : List Nat, (sortD xs).Pairwise (fun a b => b ≤ a)
  | [] => List.Pairwise.nil
  | x :: xs => insD_down (sortD_down xs)
def blkN (p : List Int) : Nat := (bc 0 p).toNat
def lotsN (p : List Int) : List Nat := sortD ((iotaL (blkN p)).map fun c => howOft c p)
theorem down_uniq {xs : List Int} {ns : List Nat} (h : xs.Perm (ns.map fun (n : Nat) => (n : Int))) (d : xs.Pairwise fun x y => y ≤ x) : xs = (sortD ns).map fun (n : Nat) => (n : Int) := by
  refine List.Perm.eq_of_pairwise (le := fun x y : Int => y ≤ x) (fun a b _ _ h1 h2 => by omega) d ?_ (h.trans ((sortD_perm ns).map _).symm)
  exact List.pairwise_map.mpr ((sortD_down ns).imp fun h => by omega)
end KQ
/-! sorted(xs, reverse=True) -/
namespace KR
open PySem PySem.Spec PyProof.Rows L2
def tSortedRev (K : PySem.W.Frag) (te : TE) : TE := fun σ H Q => te σ H fun x H1 => ∃ (a : Addr) (ns : List Int), x = .ref a ∧ SqL K H1 a (ns.map V.int) ∧ ns.length < 64 ∧ ∀ (ns' : List Int) (p : Addr), ns'.Perm ns → ns'.Pairwise (fun x y => y ≤ x) → H1 p = none → Q (.ref p) (upd H1 p (.lst (ns'.map V.int)))
section
variable {X : Cx}
theorem ints_are : ∀ {ns : List Int} {us : List Value}, Vals (ns.map V.int) us → IntsAre us ns
  | [], _, h => by cases h; exact .nil
  | n :: ns, _, h => by
    cases h with
    | cons hu hr =>
      obtain ⟨t, rfl⟩ := hu
      exact .cons n t (ints_are hr)
theorem are_ints : ∀ {ns : List Int} {us : List Value}, IntsAre us ns → Vals (ns.map V.int) us
  | _, _, .nil => .nil
  | _, _, .cons n t h => .cons ⟨t, rfl⟩ (are_ints h)
theorem vals_len : ∀ {xs : List V} {us : List Value}, Vals xs us → us.length = xs.length
  | _, _, .nil => rfl
  | _, _, .cons _ h => congrArg Nat.succ (vals_len h)
theorem pe_sortedRev {e : Expr} {te : TE} {p pos q1 q2 : Pos} {kk : Nat} (hg : Gl X "sorted") (hm : X.mg "sorted" = none) (he : PE X e te)
    (na : starEach [e] X.env = (false, eval e X.env) :: starEach [] X.env := by rfl) :
    PE X (.Call (.Name "sorted" p) [e] [⟨some "reverse", .Constant (.bool true) kk q1, q2⟩] pos) (tSortedRev X.K te) := by
  refine ⟨fun pins s σ H Q I h => ?_⟩
  have e1 : eval (.Call (.Name "sorted" p) [e] [⟨some "reverse", .Constant (.bool true) kk q1, q2⟩] pos) X.env = (do
      let f ← eval (.Name "sorted" p) X.env
      callWith pos f [] (backTo pos (starEach [e] X.env)) (backToKw pos (keywordEach [⟨some "reverse", .Constant (.bool true) kk q1, q2⟩] X.env))) := by rfl
  rw [e1]
  refine wpAny_bind (ld_blt (u := .builtin "sorted") I hg hm (by decide +kernel) ?_)
  obtain ⟨x0, rest, hL⟩ : ∃ x0 rest, backTo pos (starEach [e] X.env) = (false, x0) :: rest := by
    rw [na]
    exact ⟨_, _, rfl⟩
  refine callWith_builtin_kwB (by rw [na]; rfl) rfl ?_
  rw [hL]
  refine evalArgs_kwB rfl ?_
  rw [← hL]
  refine PyProof.Rows.args_cons (thn (he.run pins s σ H _ I h) fun v s1 ⟨x, H1, I1, r1, q1⟩ => PyProof.Rows.args_nil ?_) na
  obtain ⟨a, ns, rfl, hs, few, q1⟩ := q1
  cases r1
  refine (show wpAny (model X.prog X.w) X.A (evalAll [do
      let v ← eval (.Constant (.bool true) kk _) X.env
      standAt pos
      pure v]) (fun kvs s₂ => wpAny (model X.prog X.w) X.A (call (.builtin "sorted") [.ref a] ([("reverse" : Str)].zip kvs)) (EP X pins σ Q) X.xe s₂) X.xe s1 from ?_)
  refine wpAny_evalAll_cons (wpAny_bind ?_)
  refine thn ((pe_bl (X := X) (b := true) (j := kk)).run pins s1 σ H1 (fun v H2 => v = .bl true ∧ H2 = H1) I1 ⟨rfl, rfl⟩) fun v s2 ⟨x, H2, I2, r2, ev, eH⟩ => ?_
  subst ev
  subst eH
  cases r2
  refine wpAny_bind (wpAny_standAt (wpAny_pure (wpAny_evalAll_nil ?_)))
  show wpAny (model X.prog X.w) X.A (call (.builtin "sorted") [.ref a] [("reverse", .bool true)]) (EP X pins σ Q) X.xe s2
  obtain ⟨its, rv, hl, hz⟩ := I2.list hs
  refine sorted_ints_rev hl.isList (ints_are rv) (by rw [vals_len rv, List.length_map]; exact few) fun out ns' ia pm od => ?_
  obtain ⟨e0, hat⟩ := PyProof.Rows.sortedAll_at s2.heap its out
  refine ⟨.ref (s2.heap.objs.size + 1), upd H2 (s2.heap.objs.size + 1) (.lst (ns'.map V.int)), I2.laid (t' := s2.toks) (fun b o e => PyProof.Rows.sortedAll_old e) (Nat.le_succ _) ⟨?_, out.toList, e0, are_ints ia, hat⟩, rfl, q1 ns' _ pm od (I2.hok.fresh (Nat.le_succ _))⟩
  rw [List.length_map, pm.length_eq]
  simpa using hz
end
end KR
namespace KQ
open PySem PySem.Spec PyProof.Rows L2 KR KM StX
theorem dp_its {K : PySem.W.Frag} {H : Hp} : ∀ {ts : List Addr} {xss : List (List Int)}, Its H ts xss → DpAll K H (ts.map V.ref) (xss.map fun xs => PyData.tuple (xs.map PyData.int))
  | [], [], _ => .nil
  | [], _ :: _, h => by cases h.1
  | _ :: _, [], h => by cases h.1
  | t :: ts, xs :: xss, h => by
    obtain ⟨ys, e, ht⟩ := h.2 0 t rfl
    obtain rfl : xs = ys := Option.some.inj e
    exact .cons (dp_ti ht) (dp_its ⟨Nat.succ.inj h.1, fun i u hu => h.2 (i + 1) u hu⟩)
theorem ti_new {H : Hp} {a : Addr} {p : List Int} : TI (upd H a (.tup (p.map V.int))) a p := .inl upd_same
theorem dp_tt {K : PySem.W.Frag} {H : Hp} {a : Addr} {xss : List (List Int)} (h : KQ.TT H a xss) : Dp K H (.ref a) (.tuple (xss.map fun xs => PyData.tuple (xs.map PyData.int))) := by
  obtain ⟨ts, e, h1, h2⟩ := h
  exact .tup (sqT e) (dp_its ⟨h1, h2⟩)
theorem nc_ti {p : List Int} (h : ∀ x ∈ p, 0 ≤ x ∧ x < 1024) (hl : p.length ≤ 60) : Nc 1 660 (.tuple (p.map PyData.int)) := (nc_tup (nc_ints h)).le (Nat.le_refl _) (by omega)
theorem nc_tt {xss : List (List Int)} (n : Nat) (h : ∀ xs ∈ xss, (∀ x ∈ xs, 0 ≤ x ∧ x < 1024) ∧ xs.length ≤ n) : Nc 2 ((11 * n + 1) * xss.length) (.tuple (xss.map fun xs => PyData.tuple (xs.map PyData.int))) := by
  have := nc_all (k := 1) (W := 11 * n) (ds := xss.map fun xs => PyData.tuple (xs.map PyData.int)) (fun d hd => by
    obtain ⟨xs, hx, rfl⟩ := List.mem_map.mp hd
    exact (nc_tup (nc_ints (h xs hx).1)).le (Nat.le_refl _) (Nat.mul_le_mul (Nat.le_refl _) (h xs hx).2))
  rw [List.length_map] at this
  exact nc_tup this
theorem par_small {p : List Int} (h : Rg 0 p) (hl : p.length ≤ 60) : ∀ x ∈ p, 0 ≤ x ∧ x < 1024 := fun x hx => by
  have := (rg_mem 0 p (Int.le_refl _) h).1 x hx
  have := bc_le 0 p
  omega
end KQ
/-! tuples of rows, also ones whose object is known -/
namespace KQ
open PySem PySem.Spec PyProof.Rows L2 KR KM StX
/-- a tuple of rows -/
def TL (H : Hp) (a : Addr) (xss : List (List Int)) : Prop := ∃ ts : List Addr, Rd H a (.tup (ts.map V.ref)) ∧ Its H ts xss
theorem TT.tl {H : Hp} {a : Addr} {xss : List (List Int)} (h : TT H a xss) : TL H a xss := let ⟨ts, e, i⟩ := h; ⟨ts, .inl e, i⟩
theorem TL.mono {H H' : Hp} {a : Addr} {xss : List (List Int)} (h : TL H a xss) (s : Same H H') : TL H' a xss := let ⟨ts, e, i⟩ := h; ⟨ts, e.mono s, i.mono s⟩
theorem dp_tl {K : PySem.W.Frag} {H : Hp} {a : Addr} {xss : List (List Int)} (h : TL H a xss) : Dp K H (.ref a) (.tuple (xss.map fun xs => PyData.tuple (xs.map PyData.int))) := by
  obtain ⟨ts, e, h1⟩ := h
  exact .tup (rdT e) (dp_its h1)
theorem TL.put {H : Hp} {a L : Addr} {xss : List (List Int)} {xs : List V} {o : HO} (h : TL H a xss) (e : H L = some (.lst xs)) : TL (upd H L o) a xss := by
  obtain ⟨ts, el, its⟩ := h
  exact ⟨ts, el.put (el.ne e (fun _ z => by cases z) (fun _ _ z => by cases z)), its.put e⟩
/-- an object known to have no attributes of its own -/
def Bare (H : Hp) (a : Addr) : Prop := ∃ o u, H a = some (.frz o u) ∧ o.dict = none
theorem Bare.mono {H H' : Hp} {a : Addr} (h : Bare H a) (s : Same H H') : Bare H' a := let ⟨o, u, e, d⟩ := h; ⟨o, u, s _ _ e, d⟩
section
variable {X : Cx} {K : PySem.W.Frag}
/-- tuple(l) of a list: a new one, known -/
def rTupB (K : PySem.W.Frag) : List V → Hp → VK → Prop := fun xs H Q => ∃ p ys, xs = [.ref p] ∧ SqL K H p ys ∧ ∀ l o, H l = none → o.dict = none → Q (.ref l) (upd H l (.frz o (.tup ys)))
theorem k_tupB (hK : X.K = K) : CallR X (.type "tuple") (rTupB K) := by
  subst hK
  intro pins s σ H xs us Q I r h
  obtain ⟨p, ys, rfl, hq, q⟩ := h
  obtain ⟨u, rfl, rx⟩ := vals1 r
  cases rx
  obtain ⟨its, rv, pl, hz⟩ := I.list hq
  have len := rv.length
  refine call_tuple_list pl.isList (fun h' kp => ?_) (by simp only [List.size_toArray]; omega)
  have J : Inv X pins σ H { s with heap := h' } := I.kept (t' := s.toks) kp
  refine ⟨.ref h'.objs.size, _, J.laid (o := .frz { cls := .type "tuple", data := .seq its.toArray } (.tup ys)) (t' := s.toks) (fun b o e => Heap.get?_push_of_some _ e) (Nat.le_refl _)
    ⟨Heap.get?_push_size _ rfl, hz, its, rv, IsTup.new _ _⟩, rfl, q _ _ (J.hok.fresh (Nat.le_refl _)) rfl⟩
/-- t[lo:hi], t + u where t is a tuple known or not -/
def rSlR : V → Option Int → Option Int → Hp → VK → Prop := fun x lo hi H Q => rSlF x lo hi H Q ∨ ∃ a xs, x = .ref a ∧ Rd H a (.tup xs) ∧ ∀ H' p, Same H H' → Rd H' p (.tup (cutV xs lo hi)) → Q (.ref p) H'
def rCatR : R2 := fun x y H Q => rCatF x y H Q ∨ ∃ a b xs ys, x = .ref a ∧ y = .ref b ∧ Rd H a (.tup xs) ∧ Rd H b (.tup ys) ∧ xs.length + ys.length ≤ 100000 ∧ ∀ H' p, Same H H' → Rd H' p (.tup (xs ++ ys)) → Q (.ref p) H'
theorem k_slR (hK : X.K = K) : SlR X rSlR := by
  intro pins s σ H x v vl vu lo hi sl Q I rx hs pl pu h
  rcases h with h | ⟨a, xs, rfl, hx, k⟩
  · exact k_slA hK pins s σ H x v vl vu lo hi sl Q I rx hs pl pu h
  refine sl_tupA pins s σ H _ v vl vu lo hi sl Q I rx hs pl pu ⟨a, xs, rfl, rdT hx, fun hw => k H a (Same.refl H) ?_, fun _ p np => k _ p (same_new np) (.inl upd_same)⟩
  unfold cutV
  rw [hw.1, hw.2, List.drop_zero, Nat.sub_zero, List.take_length]
  exact hx
theorem k_catR (hK : X.K = K) : OpR X (binaryOp .Add) rCatR := by
  intro pins s σ H x y v u Q I rx ry h
  rcases h with h | ⟨a, b, xs, ys, rfl, rfl, hx, hy, hl, k⟩
  · exact k_catA hK pins s σ H x y v u Q I rx ry h
  refine op_catA pins s σ H _ _ v u Q I rx ry ⟨a, b, xs, ys, rfl, rfl, rdT hx, rdT hy, Nat.le_of_lt (small_of hl), fun e => ?_, fun _ e => ?_, fun _ _ p np => k _ p (same_new np) (.inl upd_same)⟩
  · subst e
    exact k H b (Same.refl H) (by rw [List.nil_append]; exact hy)
  · subst e
    exact k H a (Same.refl H) (by rw [List.append_nil]; exact hx)
/-- a method of a tuple known, called -/
def tTM (K : PySem.W.Frag) (r : V → List V → Hp → VK → Prop) (to : TE) (t : TA) : TE := fun σ H Q => to σ H fun x H1 => (∃ p vs, x = .ref p ∧ SqT K H1 p vs ∧ Bare H1 p) ∧ t σ H1 fun xs H2 => r x xs H2 Q
theorem k_tm {o a : Expr} {more : List Expr} {to : TE} {t : TA} {name : Str} {p1 p2 : Pos} {id : String} {r : V → List V → Hp → VK → Prop} (hK : X.K = K) (sl : Slot "tuple" name id)
    (ty : typeOf (.builtin id) = pure (.type "method_descriptor")) (hm : MtR X id r) (ho : PE X o to) (ha : PA X (a :: more) t) (h1 : attributeBase o name X.env (eval o X.env) = eval o X.env := by rfl)
    (h2 : ((backTo p2 (starEach (a :: more) X.env)).all (fun z => !z.1) && (backToKw p2 (keywordEach [] X.env)).all (fun z => z.1.isSome) && decide ((a :: more).length + ([] : List Keyword).length + (if ([] : List Keyword).isEmpty then 0 else 1) < 30)) = true := by rfl)
    (h3 : (p1.endLine == p2.line) = true := by rfl) (h4 : starEach (a :: more) X.env = (false, eval a X.env) :: starEach more X.env := by rfl) (h5 : (backTo p2 (starEach more X.env)).any (·.1) = false := by rfl) :
    PE X (.Call (.Attribute o name p1) (a :: more) [] p2) (tTM K r to t) := by
  subst hK
  refine ⟨fun pins s σ H Q I h => wpAny_Call_method_late h1 h2 h3 rfl (thn (ho.run pins s σ H _ I h) fun v s1 hh => ?_)⟩
  obtain ⟨x, H1, I1, r1, ⟨p, vs, rfl, hq, ⟨ob, u, eb, db⟩⟩, q1⟩ := hh
  cases r1
  obtain ⟨its, _, ⟨ob2, e, c, d, _⟩, _⟩ := I1.tuple hq
  have gb : s1.heap.get? p = some ob := (show ObjOk X.prog X.w H1 s1.heap p (.frz ob u) from I1.hok p _ eb).1
  refine ⟨_, id, PySem.F.plainAttrs_tuple, sl, ty, ⟨ob2, e, c⟩, fun b ez => ⟨ob, by cases ez; exact gb, db⟩, ?_⟩
  have hA := ha.run p2 pins s1 σ H1 _ I1 q1
  rw [h4] at hA ⊢
  refine Calls.callWith_builtin (by show (false || (backTo p2 (starEach more X.env)).any (·.1)) = false; rw [h5]; rfl) (Calls.evalArgs_plain (thn hA fun us s2 hz => ?_))
  obtain ⟨ws, H2, I2, r2, q2⟩ := hz
  exact hm pins s2 σ H2 _ ws (Value.ref p) us Q I2 (show RelV (.ref p) (.ref p) from rfl) r2 q2
end
end KQ
/-! new tuples whose object is known: displays, sums -/
namespace KQ
open PySem PySem.Spec PyProof.Rows L2 KR KM StX
section
variable {X : Cx} {K : PySem.W.Frag} {es : List Expr} {t : TA} {pos : Pos}
def tTupB (t : TA) : TE := fun σ H Q => t σ H fun xs H1 => xs.length ≤ sizeLine ∧ ∀ p o, H1 p = none → o.dict = none → Q (.ref p) (upd H1 p (.frz o (.tup xs)))
theorem pe_tupB {x1} (h : PA X es t) : PE X (.Tuple es x1 pos) (tTupB t) := by
  refine ⟨fun pins s σ H Q I hq => ?_⟩
  refine wpAny_Tuple_spliced (thn (h.run pos pins s σ H _ I hq) fun us s1 ⟨xs, H1, I1, r, z, q⟩ => ⟨by rw [← r.length]; exact z, ?_⟩)
  have hf : H1 s1.heap.objs.size = none := I1.hok.fresh (Nat.le_refl _)
  refine ⟨.ref s1.heap.objs.size, _, I1.laid (o := .frz _ (.tup xs)) (t' := s1.toks) (fun b u e => Heap.get?_push_of_some _ e) (Nat.le_refl _) ⟨Heap.get?_push_size _ rfl, z, us, r, ⟨_, Heap.get?_push_size _ rfl, rfl, _, rfl⟩⟩, rfl, q _ _ hf rfl⟩
/-- t + u, both not empty: a new one, known -/
def rCatB : R2 := fun x y H Q => ∃ a b xs ys, x = .ref a ∧ y = .ref b ∧ Rd H a (.tup xs) ∧ Rd H b (.tup ys) ∧ xs ≠ [] ∧ ys ≠ [] ∧ xs.length + ys.length ≤ 100000 ∧ ∀ p o, H p = none → o.dict = none → Q (.ref p) (upd H p (.frz o (.tup (xs ++ ys))))
theorem op_catB : OpR X (binaryOp .Add) rCatB := by
  intro pins s σ H x y v u Q I rx ry h
  obtain ⟨a, b, xs, ys, rfl, rfl, ha, hb, hx, hy, hz, q⟩ := h
  cases rx
  cases ry
  obtain ⟨its, r1, p1, _⟩ := I.tuple (rdT ha)
  obtain ⟨its2, r2, p2, _⟩ := I.tuple (rdT hb)
  have z : xs.length + ys.length ≤ sizeLine := Nat.le_of_lt (small_of hz)
  refine HT.cat_tup p1 p2 (fun z => hx (r1.nil_iff.mp z)) (fun z => absurd (r2.nil_iff.mp z) hy) (fun _ => ?_) (by rw [← r1.length, ← r2.length]; exact z)
  refine ⟨.ref s.heap.objs.size, _, I.laid (t' := s.toks) (o := .frz _ (.tup (xs ++ ys))) (fun b ob q => Heap.get?_push_of_some _ q) (Nat.le_refl _) ⟨Heap.get?_push_size _ rfl, by rw [List.length_append]; exact z, _, r1.append r2, IsTup.new _ _⟩, rfl, q _ _ (I.hok.fresh (Nat.le_refl _)) rfl⟩
end
end KQ
/-! how often: whole numbers in a list or a tuple, rows in a list -/
namespace KQ
open PySem PySem.Spec PyProof.Rows L2 KR KM StX
theorem k_lcnt {X : Cx} {K : PySem.W.Frag} (hK : X.K = K) : MtR X "list.count" (rCntI K) := by
  subst hK
  exact mt_lcount
def rCntT (K : PySem.W.Frag) : V → List V → Hp → VK → Prop := fun x xs H Q => ∃ (a : Addr) (ns : List Int) (y : Int), x = .ref a ∧ xs = [.int y] ∧ SqT K H a (ns.map V.int) ∧ Q (.int ((ns.countP (fun z => decide (z = y)) : Nat) : Int)) H
theorem k_tcnt {X : Cx} {K : PySem.W.Frag} (hK : X.K = K) (hu : X.A.units + 65 < cLine) : MtR X "tuple.count" (rCntT K) := by
  subst hK
  intro pins s σ H x xs v us Q I rx rxs h
  obtain ⟨a, ns, y, rfl, rfl, ha, q⟩ := h
  cases rx
  obtain ⟨u, rfl, ru⟩ := rxs.one
  obtain ⟨vs, rv, pt, hz⟩ := I.tuple ha
  obtain ⟨as, hr⟩ := Dp.reads I (.int y) _ u (.int _) ru
  obtain ⟨bs, hrs⟩ := Dp.readsAll I (ns.map PyData.int) _ vs (dpAll_ints _) rv
  have hall : PySem.W.HoldAll s.heap vs ns := ⟨bs, hrs⟩
  have hone : PySem.W.Holds s.heap u y := ⟨as, hr⟩
  exact PySem.W.count_tuple_datum pt hall hone (by have e : PySem.W.Datum.depth Int = 0 := rfl; rw [e]; omega) ⟨.int _, H, I.tok _, ⟨_, rfl⟩, q⟩
abbrev rowU5 (xs : List Int) : PySem.W.Tup Int := ⟨xs⟩
def rCntR (K : PySem.W.Frag) : V → List V → Hp → VK → Prop := fun x xs H Q => ∃ (a t : Addr) (ts : List Addr) (xss : List (List Int)) (y : List Int), x = .ref a ∧ xs = [.ref t] ∧ SqL K H a (ts.map V.ref) ∧ Its H ts xss ∧ TI H t y ∧ Q (.int ((xss.countP (fun z => decide (z = y)) : Nat) : Int)) H
theorem k_rcnt {X : Cx} {K : PySem.W.Frag} (hK : X.K = K) (hu : X.A.units + 65 < cLine) : MtR X "list.count" (rCntR K) := by
  subst hK
  intro pins s σ H x xs v us Q I rx rxs h
  obtain ⟨a, t, ts, xss, y, rfl, rfl, ha, its, ty, q⟩ := h
  cases rx
  obtain ⟨u, rfl, ru⟩ := rxs.one
  obtain ⟨vs, rv, pt, hz⟩ := I.list ha
  obtain ⟨as, hr⟩ := Dp.reads I (.tuple (y.map PyData.int)) _ u (dp_ti ty) ru
  obtain ⟨bs, hrs⟩ := Dp.readsAll I (xss.map fun xs => PyData.tuple (xs.map PyData.int)) _ vs (dp_its its) rv
  have hall : PySem.W.HoldAll s.heap vs (xss.map rowU5) := ⟨bs, by rw [List.map_map]; exact hrs⟩
  have hone : PySem.W.Holds s.heap u (rowU5 y) := ⟨as, hr⟩
  refine PySem.W.count_list_datum pt.isList hall hone (by show X.A.units + 1 + (0 + 1) < cLine; omega) ⟨.int _, H, I.tok _, ⟨_, rfl⟩, ?_⟩
  rw [List.countP_map, show ((fun z : PySem.W.Tup Int => decide (z = rowU5 y)) ∘ rowU5) = fun z => decide (z = y) from funext fun z => decide_eq_decide.mpr ⟨fun e => PySem.W.Tup.mk.inj e, fun e => by rw [e]⟩]
  exact q
end KQ
namespace KQ
open PySem PySem.Spec PyProof.Rows L2 KR KM StX
theorem room66b {k : Nat} {A : Around} (r : Room k A) : A.units + 65 < cLine := by
  have := r.un
  omega
theorem count_howOft (d : Int) (p : List Int) : p.count d = howOft d p := by
  unfold howOft
  rw [List.count, List.countP_eq_length_filter]
  congr 1
abbrev lotsI (p : List Int) : List Int := (lotsN p).map fun (n : Nat) => (n : Int)
section
variable {P : Program} {w : World} {K : PySem.W.Frag} {mg : Str → Option Value} {base : Heap}
abbrev s__law_lots : Stmt := topS 43
theorem sc__law_lots : FnScope ["parting", "block"] ["parting"] (defScope s__law_lots) := ⟨rfl, rfl, rfl, by decide +kernel, rfl, by decide +kernel, by decide +kernel⟩
def spLots : Sp := fun vs H Q _ => ∃ (a : Addr) (p : List Int), vs = [.ref a] ∧ TI H a p ∧ Par p ∧ ∀ H' t, Same H H' → TI H' t (lotsI p) → Bare H' t → Q (.ref t) H'
theorem ok_lots (D : DefAt K mg "_law_lots" s__law_lots) (T : Bt mg) : Use P w K mg base "_law_lots" 1 ["parting"] spLots := by
  refine use_of D (fun f fd F => F.ok sc__law_lots (fun vs H Q E h => ?_) (fun cdv A outer s H vs Q E hr h => ?_)) (fun _ _ _ _ _ _ us hl => match us, hl with | [_], _ => rfl)
  · obtain ⟨a, p, rfl, _⟩ := h
    rfl
  · obtain ⟨a, p, rfl, tp, par, q⟩ := h
    refine ⟨_, (pss_one (ps_ret (pe_callTy (k_tupB (K := K) rfl) (by rfl) T.tuple (by decide +kernel) (pa_cons (pe_sortedRev (by rfl) T.sorted (pe_lc (own := [("block", 1)]) rfl sc__law_lots.nd (pi_range1 (by rfl) T.range (pa_cons (pe_op op_add (pe_callB (k_maxT (K := K) rfl rfl hr.units) (by rfl) T.max (by decide +kernel) (pa_cons (pv 0) pa_nil)) pe_int) pa_nil)) (blkOk_by (N := ["parting", "block"]) (sc := defScope s__law_lots) (by decide +kernel)) (fun _ _ _ _ _ => (pg_name (i := 1) sc__law_lots.nd rfl (Or.inl rfl))) (fun _ _ _ _ _ => pts_nil) (fun _ _ _ _ _ => (k_bm (K := K) rfl PySem.F.plainAttrs_list PySem.F.slot_list_count PySem.F.type_list_count (k_lcnt rfl) (pe_callTy (k_listOf (K := K) rfl) (by rfl) T.list (by decide +kernel) (pa_cons (pv 0) pa_nil)) (pa_cons (pv 1) pa_nil))))) pa_nil)))), ?_⟩
    have g0 := bc_ge 0 p
    have g1 := bc_le 0 p
    have p60 := par.le
    obtain ⟨k, hk⟩ : ∃ k : Nat, bc 0 p = (k : Int) := ⟨(bc 0 p).toNat, by omega⟩
    have bk : blkN p = k := by unfold blkN; rw [hk]; rfl
    refine ⟨_, rfl, a, p, rfl, tp.seq, par.ne, fun m hm hle => ?_⟩
    have em := par_max par hm hle
    refine ⟨_, _, rfl, rfl, _, rfl, by omega, by omega, fun G nG => ?_⟩
    refine lc_range (fun i H1 => Same H H1 ∧ H1 G = some (.lst (((List.range i).map fun c => ((howOft ((c : Nat) : Int) p : Nat) : Int)).map V.int))) ⟨same_new nG, upd_same⟩ ?_ ?_
    · rintro i H1 hi ⟨s1, eG⟩
      refine ⟨rfl, _, rfl, a, _, rfl, .inr (tp.mono s1).seq, fun l nl => ?_⟩
      have sl := same_new (H := H1) (o := .lst (p.map V.int)) nl
      refine ⟨.inl ⟨rfl, _, .inl (.inl upd_same)⟩, _, rfl, l, p, 0 + ((i : Nat) : Int), rfl, rfl, sqL upd_same, _, sl _ _ eG, ?_, same_mut (s1.trans sl) nG, ?_⟩
      · rw [List.length_map, List.length_map, List.length_range]
        exact small_of (by omega)
      · rw [upd_same, List.range_succ, List.map_append, List.map_append, count_howOft, Int.zero_add]
        rfl
    · rintro H1 ⟨s1, eG⟩
      rw [show (m + 1).toNat = k by omega] at eG
      refine ⟨G, _, rfl, sqL eG, by rw [List.length_map, List.length_range]; omega, fun ns' S pm dn nS => ?_⟩
      have e : ns' = lotsI p := by
        have h2 : ((List.range k).map fun c => ((howOft ((c : Nat) : Int) p : Nat) : Int)) = ((iotaL (blkN p)).map fun c => howOft c p).map fun (n : Nat) => (n : Int) := by
          rw [bk]
          unfold iotaL
          rw [List.map_map, List.map_map]
          rfl
        rw [h2] at pm
        exact down_uniq pm dn
      have s2 := s1.trans (same_new (o := .lst (ns'.map V.int)) nS)
      refine ⟨S, _, rfl, sqL upd_same, fun t o nt dn => ?_⟩
      have st := same_new (o := .frz o (.tup (ns'.map V.int))) nt
      refine q _ t (s2.trans st) (.inr ⟨o, ?_⟩) ⟨o, _, upd_same, dn⟩
      rw [upd_same, e]
end
end KQ
namespace KQ
open PySem PySem.Spec PyProof.Rows L2 KR KM StX
theorem prodN_perm {xs ys : List Nat} (h : xs.Perm ys) : prodN xs = prodN ys := by
  induction h with
  | nil => rfl
  | cons x _ ih => show x * prodN _ = x * prodN _; rw [ih]
  | swap x y l => show y * (x * prodN l) = x * (y * prodN l); rw [← Nat.mul_assoc, ← Nat.mul_assoc, Nat.mul_comm y x]
  | trans _ _ h1 h2 => exact h1.trans h2
theorem two_le (b : Nat) (h : 1 ≤ b) : b ≤ 2 ^ (b - 1) := by
  have := Nat.lt_two_pow_self (n := b - 1)
  omega
theorem prodN_two : ∀ {xs : List Nat}, (∀ x ∈ xs, 1 ≤ x) → prodN xs ≤ 2 ^ (xs.sum - xs.length) ∧ xs.length ≤ xs.sum
  | [], _ => ⟨Nat.le_refl _, Nat.le_refl _⟩
  | x :: xs, h => by
    obtain ⟨h1, h2⟩ := prodN_two fun y hy => h y (List.mem_cons_of_mem _ hy)
    have hx := h x List.mem_cons_self
    rw [List.sum_cons, List.length_cons]
    refine ⟨?_, by omega⟩
    rw [show x + xs.sum - (xs.length + 1) = (x - 1) + (xs.sum - xs.length) by omega, Nat.pow_add]
    exact Nat.mul_le_mul (two_le x hx) h1
theorem lots_len {p : List Int} {k : Nat} (hk : bc 0 p = (k : Int)) : (lotsN p).length = k := by
  unfold lotsN
  rw [(sortD_perm _).length_eq, List.length_map, iota_len]
  unfold blkN
  rw [hk]
  rfl
theorem lots_prod {p : List Int} {k : Nat} (hk : bc 0 p = (k : Int)) : prodN (lotsN p) = sizesP k p := by
  unfold lotsN sizesP blkN
  rw [prodN_perm (sortD_perm _), hk]
  rfl
theorem lots_pos {p : List Int} (par : Par p) : ∀ x ∈ lotsN p, 1 ≤ x := fun x hx => by
  unfold lotsN at hx
  obtain ⟨c, hc, rfl⟩ := List.mem_map.mp ((sortD_perm _).mem_iff.mp hx)
  obtain ⟨i, hi, rfl⟩ := List.mem_map.mp hc
  have hi := List.mem_range.mp hi
  have := (rg_mem 0 p (Int.le_refl _) par.rg).2 ((i : Nat) : Int) (by omega) (by unfold blkN at hi; omega)
  unfold howOft
  exact List.length_pos_of_mem (List.mem_filter.mpr ⟨this, decide_eq_true rfl⟩)
theorem lots_sum {p : List Int} (par : Par p) : (lotsN p).sum = p.length := by
  unfold lotsN
  rw [(sortD_perm _).sum_nat]
  refine group_len (iota_nodup _) fun x hx => ?_
  have h := (rg_mem 0 p (Int.le_refl _) par.rg).1 x hx
  unfold blkN
  exact List.mem_map.mpr ⟨x.toNat, List.mem_range.mpr (by omega), by omega⟩
theorem met_small : ∀ k : _root_.Fin 62, ∀ s : _root_.Fin 62, k.val + s.val ≤ 61 → 2 ^ s.val * s.val ^ (k.val - 2) < 2 ^ 360 := by decide +kernel
section
variable {P : Program} {w : World} {K : PySem.W.Frag} {mg : Str → Option Value} {base : Heap}
abbrev s__law_number : Stmt := topS 45
theorem sc__law_number : FnScope ["parting", "blocks", "spare"] ["parting"] (defScope s__law_number) := ⟨rfl, rfl, rfl, by decide +kernel, rfl, by decide +kernel, by decide +kernel⟩
theorem ok_lnumber (D : DefAt K mg "_law_number" s__law_number) (T : Bt mg) (u__law_lots : Use P w K mg base "_law_lots" 1 ["parting"] spLots) (u__law_product : Use P w K mg base "_law_product" 1 ["numbers"] (spProduct K)) :
    Use P w K mg base "_law_number" 2 ["parting"] spMetN := by
  refine use_of D (fun f fd F => F.ok sc__law_number (fun vs H Q E h => ?_) (fun cdv A outer s H vs Q E hr h => ?_)) (fun _ _ _ _ _ _ us hl => match us, hl with | [_], _ => rfl)
  · obtain ⟨a, p, k, rfl, _⟩ := h
    rfl
  · obtain ⟨a, p, k, rfl, tp, par, hk, q⟩ := h
    refine ⟨_, (pss_cons (ps_set (i := 1) sc__law_number.nd rfl (Or.inl rfl) (pe_use u__law_lots (by decide) hr (by rfl) (pa_cons (pv 0) pa_nil)))
      (pss_cons (ps_set (i := 2) sc__law_number.nd rfl (Or.inl rfl) (pe_op op_sub (pe_op op_add (pe_callB (k_len (K := K) rfl) (by rfl) T.len PySem.boot_len (pa_cons (pv 0) pa_nil)) pe_int) (pe_callB (k_len (K := K) rfl) (by rfl) T.len PySem.boot_len (pa_cons (pv 1) pa_nil))))
      (pss_one (ps_ret (pe_ifExp (pt_cmpR op_eq (pe_callB (k_len (K := K) rfl) (by rfl) T.len PySem.boot_len (pa_cons (pv 1) pa_nil)) pe_int (nomark _)) pe_int (pe_use u__law_product (by decide) hr (by rfl) (pa_cons (pe_op op_cat (pe_callTy (k_listOf (K := K) rfl) (by rfl) T.list (by decide +kernel) (pa_cons (pv 1) pa_nil)) (pe_op op_rep (pe_lst (pa_cons (pv 2) pa_nil)) (pe_op op_sub (pe_callB (k_len (K := K) rfl) (by rfl) T.len PySem.boot_len (pa_cons (pv 1) pa_nil)) pe_int))) pa_nil))))))), ?_⟩
    obtain ⟨k0, kl⟩ := par_blocks par hk
    have p60 := par.le
    have ll := lots_len hk
    refine ⟨_, rfl, a, p, rfl, tp, par, fun H1 t s1 tt bt => ?_⟩
    have tp := tp.mono s1
    refine ⟨_, rfl, a, _, rfl, .inr tp.seq, _, _, rfl, rfl, _, rfl, t, _, rfl, .inr tt.seq, _, _, rfl, rfl, ?_⟩
    rw [List.length_map, List.length_map, List.length_map, ll]
    change gName 2 (V.int (((p.length : Nat) : Int) + 1 - ((k : Nat) : Int))) _ _ _
    rw [show ((p.length : Nat) : Int) + 1 - ((k : Nat) : Int) = ((p.length + 1 - k : Nat) : Int) by omega]
    refine ⟨_, rfl, t, _, rfl, .inr tt.seq, rfl, _, rfl, ?_⟩
    rw [List.length_map, List.length_map, ll]
    refine ite2 (fun e => ?_) (fun e => ?_)
    · have e1 : k = 1 := by have := V.int.inj (of_decide_eq_true e); omega
      have := q H1 s1
      rw [show metN k p = 1 from if_pos e1] at this
      exact this
    · have e1 : k ≠ 1 := fun z => e (by rw [z]; rfl)
      refine ⟨_, rfl, t, _, rfl, .inr tt.seq, fun l nl => ⟨_, rfl, by show 1 ≤ sizeLine; decide, fun w1 nw1 => ?_⟩⟩
      have f1 := same_new (H := H1) (o := .lst ((lotsI p).map V.int)) nl
      have f2 := same_new (o := .lst [vN (p.length + 1 - k)]) nw1
      have el : (upd (upd H1 l (.lst ((lotsI p).map V.int))) w1 (.lst [vN (p.length + 1 - k)])) l = some (.lst ((lotsN p).map vN)) := by
        rw [f2 _ _ upd_same, List.map_map]
        rfl
      refine ⟨_, rfl, t, _, rfl, .inr ((tt.mono f1).mono f2).seq, _, _, rfl, rfl, ?_⟩
      rw [List.length_map, List.length_map, ll]
      refine ⟨w1, _, _, rfl, rfl, upd_same, by omega, by omega, ?_, fun r nr => ?_⟩
      · show 1 * (((k : Nat) : Int) - 2).toNat ≤ sizeLine
        rw [Nat.one_mul, sizeLine_eq]
        omega
      rw [show (((k : Nat) : Int) - 2).toNat = k - 2 by omega, rep_vN] at *
      have f3 := same_new (o := .lst ((List.replicate (k - 2) (p.length + 1 - k)).map vN)) nr
      have el := f3 _ _ el
      have er := upd_same (H := upd (upd H1 l (.lst ((lotsI p).map V.int))) w1 (.lst [vN (p.length + 1 - k)])) (a := r) (o := .lst ((List.replicate (k - 2) (p.length + 1 - k)).map vN))
      have s2 := s1.trans ((f1.trans f2).trans f3)
      generalize upd (upd (upd H1 l (.lst ((lotsI p).map V.int))) w1 (.lst [vN (p.length + 1 - k)])) r (.lst ((List.replicate (k - 2) (p.length + 1 - k)).map vN)) = H2 at el er s2 ⊢
      refine ⟨l, r, _, _, rfl, rfl, el, er, ?_, fun F nF => ?_⟩
      · rw [List.length_map, List.length_map, ll, List.length_replicate, sizeLine_eq]
        omega
      have s3 := s2.trans (same_new (o := .lst ((lotsN p).map vN ++ (List.replicate (k - 2) (p.length + 1 - k)).map vN)) nF)
      have eF : (upd H2 F (.lst ((lotsN p).map vN ++ (List.replicate (k - 2) (p.length + 1 - k)).map vN))) F = some (.lst ((lotsN p ++ List.replicate (k - 2) (p.length + 1 - k)).map vN)) := by
        rw [upd_same, List.map_append]
      have pos := lots_pos par
      have pv : prodN (lotsN p ++ List.replicate (k - 2) (p.length + 1 - k)) = metN k p := by
        rw [prodN_app, prodN_rep, lots_prod hk]
        exact (if_neg e1).symm
      have bd : prodN (lotsN p ++ List.replicate (k - 2) (p.length + 1 - k)) < 2 ^ 360 := by
        rw [prodN_app, prodN_rep]
        have h2 := (prodN_two pos).1
        rw [lots_sum par, ll] at h2
        refine Nat.lt_of_le_of_lt (Nat.mul_le_mul h2 (Nat.le_refl _)) ?_
        refine Nat.lt_of_le_of_lt (Nat.mul_le_mul (Nat.pow_le_pow_right (by decide) (show p.length - k ≤ p.length + 1 - k by omega)) (Nat.le_refl _)) (met_small ⟨k, by omega⟩ ⟨p.length + 1 - k, by omega⟩ (by show k + (p.length + 1 - k) ≤ 61; omega))
      refine ⟨F, _, rfl, sqL eF, prod_ok (fun x hx => ?_) bd, ?_⟩
      · rcases List.mem_append.mp hx with hx | hx
        · exact pos x hx
        · rw [(List.mem_replicate.mp hx).2]; omega
      · rw [foldl_prodN, Nat.one_mul, pv]
        exact q _ s3
end
end KQ
/-! how many have given sizes: the formula's parts -/
namespace KQ
open PySem PySem.Spec PyProof.Rows L2 KR KM StX
theorem fac_nat (n : Nat) : Builtin.Math.factorialNat n = fac n := by
  unfold Builtin.Math.factorialNat
  induction n with
  | zero => rfl
  | succ n ih =>
    rw [List.range_succ, List.foldl_append, ih]
    show fac n * (n + 1) = (n + 1) * fac n
    rw [Nat.mul_comm]
theorem fac_mono {a b : Nat} (h : a ≤ b) : fac a ≤ fac b := by
  induction h with
  | refl => exact Nat.le_refl _
  | step _ ih => exact Nat.le_trans ih (Nat.le_mul_of_pos_left _ (by omega))
theorem fac_mul (a : Nat) : ∀ b, fac a * fac b ≤ fac (a + b)
  | 0 => by show fac a * 1 ≤ fac a; omega
  | b + 1 => by
    show fac a * ((b + 1) * fac b) ≤ (a + b + 1) * fac (a + b)
    rw [show fac a * ((b + 1) * fac b) = (b + 1) * (fac a * fac b) by rw [← Nat.mul_assoc, Nat.mul_comm (fac a), Nat.mul_assoc]]
    exact Nat.mul_le_mul (by omega) (fac_mul a b)
theorem fac_prod : ∀ (xs : List Nat), prodN (xs.map fac) ≤ fac xs.sum
  | [] => Nat.le_refl _
  | x :: xs => by
    rw [List.sum_cons]
    exact Nat.le_trans (Nat.mul_le_mul (Nat.le_refl _) (fac_prod xs)) (fac_mul x xs.sum)
theorem fac_60 : fac 60 < 2 ^ 280 := by decide +kernel
theorem fac_small {n : Nat} (h : n ≤ 60) : fac n < 2 ^ 280 := Nat.lt_of_le_of_lt (fac_mono h) fac_60
def cntN (v : Nat) (xs : List Nat) : Nat := (xs.filter fun x => decide (x = v)).length
def belowN (n : Nat) (sz : List Nat) : Nat := prodN (sz.map fun s => fac (s - 1)) * prodN ((List.range (n + 1)).map fun v => fac (cntN v sz))
def bySz (K n B : Nat) (sz : List Nat) : Nat := if K + sz.length = n + 1 then fac (K - 1) * fac (sz.length - 1) * B / belowN n sz else 0
theorem cntN_none {v : Nat} {sz : List Nat} (h : v ∉ sz) : cntN v sz = 0 := by
  unfold cntN
  rw [List.filter_eq_nil_iff.mpr fun x hx => by
    intro c
    exact h (of_decide_eq_true c ▸ hx)]
  rfl
theorem prodN_perm4 {xs ys : List Nat} (h : xs.Perm ys) : prodN xs = prodN ys := by
  induction h with
  | nil => rfl
  | cons x _ ih => show x * prodN _ = x * prodN _; rw [ih]
  | swap x y l => show y * (x * prodN l) = x * (y * prodN l); rw [← Nat.mul_assoc, ← Nat.mul_assoc, Nat.mul_comm y x]
  | trans _ _ h1 h2 => exact h1.trans h2
/-- the kinds' product, each kind once -/
theorem kinds_prod {n : Nat} {sz ds : List Nat} (nd : ds.Nodup) (mem : ∀ v, v ∈ ds ↔ v ∈ sz) (small : ∀ v ∈ sz, v ≤ n) : prodN ((List.range (n + 1)).map fun v => fac (cntN v sz)) = prodN (ds.map fun v => fac (cntN v sz)) := by
  have h1 := List.filter_append_perm (fun v => decide (v ∈ sz)) (List.range (n + 1))
  rw [← prodN_perm4 (h1.map _), List.map_append, prodN_app]
  have e2 : prodN (((List.range (n + 1)).filter fun v => !decide (v ∈ sz)).map fun v => fac (cntN v sz)) = 1 := by
    have all : ∀ v ∈ (List.range (n + 1)).filter (fun v => !decide (v ∈ sz)), fac (cntN v sz) = 1 := fun v hv => by
      have h2 := (List.mem_filter.mp hv).2
      rw [cntN_none (fun z => by rw [decide_eq_true z] at h2; cases h2)]
      rfl
    rw [List.map_congr_left all]
    clear all
    generalize (List.range (n + 1)).filter (fun v => !decide (v ∈ sz)) = xs
    induction xs with
    | nil => rfl
    | cons x xs ih => show 1 * prodN (xs.map fun _ => 1) = 1; rw [ih]
  rw [e2, Nat.mul_one]
  refine prodN_perm4 (List.Perm.map _ ?_)
  refine (List.perm_ext_iff_of_nodup (List.nodup_range.filter _) nd).mpr fun v => ?_
  rw [List.mem_filter, List.mem_range, mem, decide_eq_true_iff]
  exact ⟨fun h => h.2, fun h => ⟨by have := small v h; omega, h⟩⟩
/-- lots of sizes of n doors -/
structure SzOk (n : Nat) (sz : List Nat) : Prop where
  ne : sz ≠ []
  pos : ∀ x ∈ sz, 1 ≤ x
  down : sz.Pairwise fun a b => b ≤ a
  sum : sz.sum = n
  top : n ≤ 60
theorem SzOk.le {n : Nat} {sz : List Nat} (h : SzOk n sz) : ∀ x ∈ sz, x ≤ n := fun x hx => by
  rw [← h.sum]
  exact le_sumN hx
end KQ
/-! sorted(set(t)) of a tuple of whole numbers -/
namespace KR
open PySem PySem.Spec PyProof.Rows L2 KM
def tSrtSetU (K : PySem.W.Frag) (ta : TE) : TE := fun σ H Q => ta σ H fun x H1 => ∃ (l : Addr) (xs : List Int), x = .ref l ∧ SqT K H1 l (xs.map V.int) ∧ xs.length < 64 ∧
  ∀ (ns : List Int) (p : Addr), ns.Pairwise (· < ·) → (∀ k : Int, k ∈ ns ↔ k ∈ xs) → H1 p = none → Q (.ref p) (upd H1 p (.lst (ns.map V.int)))
section
variable {X : Cx}
theorem pe_srtSetU {a : Expr} {ta : TE} {p p2 q pos : Pos} (hc : X.calm = true) (hg : Gl X "sorted") (hm : X.mg "sorted" = none) (hg2 : Gl X "set") (hm2 : X.mg "set" = none) (ha : PE X a ta)
    (na : starEach [a] X.env = (false, eval a X.env) :: starEach [] X.env := by rfl) : PE X (.Call (.Name "sorted" p) [.Call (.Name "set" p2) [a] [] q] [] pos) (tSrtSetU X.K ta) := by
  refine ⟨fun pins s σ H Q I h => ?_⟩
  refine Call_ (ld_blt I hg hm (show bootBuiltins (Str.ofString "sorted") = some (.builtin "sorted") by decide +kernel) ?_)
  refine PyProof.Rows.callWith_builtin1 (PyProof.Rows.args_cons ?_ rfl) rfl rfl
  refine Call_ (ld_blt I hg2 hm2 boot_set ?_)
  refine PyProof.Rows.callWith_type1 (PyProof.Rows.args_cons (thn (ha.run pins s σ H _ I h) fun v s1 ⟨x, H1, I1, r1, q1⟩ => PyProof.Rows.args_nil ?_) na) na rfl
  obtain ⟨l, xs, rfl, hq, hle, q1⟩ := q1
  cases r1
  obtain ⟨its, r, pl, hz⟩ := I1.tuple hq
  refine call_set_tupI xs (I1.ok.hd hc) pl (by simpa using r.ints) (Nat.lt_of_le_of_lt hle (by decide)) fun h' tk c R hcl kp => ?_
  refine PyProof.Rows.args_nil ?_
  have I2 : Inv X pins σ H1 { s1 with heap := h', toks := tk } := I1.kept kp
  exact srt_set hc I2 R (by omega) fun ns p hs hm hn => q1 ns p hs (fun z => by rw [hm z, decide_eq_true_iff]) hn
end
end KR
/-! sum(t) of a tuple of whole numbers -/
namespace KR
open PySem PySem.Spec PyProof.Rows L2
theorem preSum_take (ns : List Int) : ∀ i, i ≤ ns.length → PySem.preSum (fun i => ns.getD i 0) i = (ns.take i).sum
  | 0, _ => rfl
  | i + 1, h => by
    have ih := preSum_take ns i (by omega)
    have e : ns[i]? = some (ns.getD i 0) := by
      rw [List.getD_eq_getElem?_getD, List.getElem?_eq_getElem (by omega)]
      rfl
    rw [List.take_add_one, e, List.sum_append, ← ih]
    show PySem.preSum (fun i => ns.getD i 0) i + ns.getD i 0 = _
    simp
theorem vals_get : ∀ {ns : List Int} {us : List Value} {i : Nat} {v : Value}, Vals (ns.map V.int) us → us[i]? = some v → ∃ t, v = .int (ns.getD i 0) t
  | [], _, i, v, h, e => by cases h; simp at e
  | n :: ns, _, i, v, h, e => by
    cases h with
    | cons hu hr =>
      cases i with
      | zero =>
        obtain ⟨t, rfl⟩ := hu
        exact ⟨t, (Option.some.inj e).symm⟩
      | succ i =>
        have := vals_get (ns := ns) (i := i) hr e
        exact this
theorem vals_size : ∀ {xs : List V} {us : List Value}, Vals xs us → us.length = xs.length
  | _, _, .nil => rfl
  | _, _, .cons _ h => congrArg Nat.succ (vals_size h)
section
variable {X : Cx}
def rSumT (K : PySem.W.Frag) : List V → Hp → VK → Prop := fun vs H Q => ∃ (a : Addr) (ns : List Int), vs = [.ref a] ∧ SqT K H a (ns.map V.int) ∧ Q (.int ns.sum) H
theorem cr_sumT {K : PySem.W.Frag} (hK : X.K = K) (hc : X.calm = true) : CallR X (.builtin "sum") (rSumT K) := by
  subst hK
  intro pins s σ H xs us Q I hv h
  obtain ⟨a, ns, rfl, hs, q⟩ := h
  cases hv with
  | cons hu hr =>
    cases hr
    cases hu
    obtain ⟨its, rv, pt, hz⟩ := I.tuple hs
    refine call_sum_walkAnyS (PySem.W.iter_tupleW (by simpa [Around.in1] using I.ok.hd hc) pt fun s2 e2 W st fp fr keep => ?_)
    refine ⟨_, _, _, _, _, _, _, fun i => ns.getD i 0, rfl, W, st, fp, fun i v hv => ?_, fun s' t' mv => ?_⟩
    · exact vals_get rv (by simpa using hv)
    · have len : its.toArray.size = ns.length := by
        rw [List.size_toArray, vals_size rv, List.length_map]
      rw [len, preSum_take ns ns.length (Nat.le_refl _), List.take_length]
      have I2 : Inv X pins σ H { s with heap := s'.heap, toks := s'.toks } := I.kept fun b o e => mv.heap b o (fr b o e) (keep b o e)
      have es : s' = { s with heap := s'.heap, toks := s'.toks } := by
        have g := mv.gens
        have d := mv.drawn
        have o := mv.os
        rw [e2] at g d o
        cases s'
        cases s
        simp only at g d o
        subst g d o
        rfl
      rw [es]
      exact ⟨.int _, H, I2, ⟨_, rfl⟩, q⟩
end
end KR
namespace KQ
open PySem PySem.Spec PyProof.Rows L2 KR KM StX
abbrev toI (sz : List Nat) : List Int := sz.map fun (n : Nat) => (n : Int)
theorem toI_sum : ∀ sz : List Nat, (toI sz).sum = ((sz.sum : Nat) : Int)
  | [] => rfl
  | x :: xs => by
    show ((x : Nat) : Int) + (toI xs).sum = ((x + xs.sum : Nat) : Int)
    rw [toI_sum xs]
    omega
section
variable {P : Program} {w : World} {K : PySem.W.Frag} {mg : Str → Option Value} {base : Heap}
abbrev s_is_sizes : Stmt := topS 24
theorem sc_is_sizes : FnScope ["value", "doors", "last", "size"] ["value", "doors"] (defScope s_is_sizes) := ⟨rfl, rfl, rfl, by decide +kernel, rfl, by decide +kernel, by decide +kernel⟩
def spIsSz : Sp := fun vs H Q _ => ∃ (t : Addr) (sz : List Nat) (n : Nat), vs = [.ref t, vN n] ∧ TI H t (toI sz) ∧ SzOk n sz ∧ Q (.bl true) H
theorem ok_is_sizes (D : DefAt K mg "is_sizes" s_is_sizes) (T : Bt mg) (c_MOST_DOORS : Cst mg "MOST_DOORS" 60) (u_is_tuple_within : Use P w K mg base "is_tuple_within" 1 ["value", "least", "most"] (spTupW K))
    (u_is_integer_within : Use P w K mg base "is_integer_within" 2 ["value", "least", "most"] spIntW) : Use P w K mg base "is_sizes" 3 ["value", "doors"] spIsSz := by
  refine use_of D (fun f fd F => F.ok sc_is_sizes (fun vs H Q E h => ?_) (fun cdv A outer s H vs Q E hr h => ?_)) (fun _ _ _ _ _ _ us hl => match us, hl with | [_, _], _ => rfl)
  · obtain ⟨t, sz, n, rfl, _⟩ := h
    rfl
  · obtain ⟨t, sz, n, rfl, tt, ok, q⟩ := h
    refine ⟨_, (pss_cons (ps_if (pt_not (pt_val (pe_use u_is_tuple_within (by decide) hr (by rfl) (pa_cons (pv 0) (pa_cons pe_int (pa_cons (pe_cst (by rfl) c_MOST_DOORS) pa_nil)))))) (pss_one (ps_ret pe_bl)) pss_nil)
      (pss_cons (ps_set (i := 2) sc_is_sizes.nd rfl (Or.inl rfl) (pe_cst (by rfl) c_MOST_DOORS))
      (pss_cons (ps_for PassesOwn.never rfl (k_tup (K := K) rfl (pv 0)) (pg_name (i := 3) sc_is_sizes.nd rfl (Or.inl rfl))
      (pss_cons (ps_if (pt_not (pt_val (pe_use u_is_integer_within (by decide) hr (by rfl) (pa_cons (pv 3) (pa_cons pe_int (pa_cons (pv 2) pa_nil)))))) (pss_one (ps_ret pe_bl)) pss_nil)
      (pss_one (ps_set (i := 2) sc_is_sizes.nd rfl (Or.inl rfl) (pv 3)))))
      (pss_one (ps_ret (pe_cmpR op_eq (pe_callB (cr_sumT (K := K) rfl rfl) (by rfl) T.sum (by decide +kernel) (pa_cons (pv 0) pa_nil)) (pv 1) (nomark _))))))), ?_⟩
    have lsz : sz.length ≤ 60 := by
      have := (prodN_two ok.pos).2
      have := ok.sum
      have := ok.top
      omega
    have l0 : 0 < sz.length := List.length_pos_iff.mpr ok.ne
    refine ⟨_, rfl, t, _, 1, 60, rfl, tt.seq, tyRd tt, ?_⟩
    rw [decide_eq_true (by rw [List.length_map, List.length_map]; omega)]
    refine ⟨_, rfl, ?_⟩
    refine ⟨_, rfl, t, rfl, ⟨_, tt.seq⟩, for_tup (K := K) (a := t) (xs := (toI sz).map V.int)
      (fun i σ H1 => ∃ (y3 : Option V) (last : Nat), σ = [some (.ref t), some (vN n), some (vN last), y3] ∧ H1 = H ∧ ∀ x, sz[i]? = some x → x ≤ last) ⟨none, 60, rfl, rfl, fun x hx => ?_⟩ (fun i σ H1 _ ⟨_, _, _, e, _⟩ => by rw [e]; exact tt.seq) ?_ ?_⟩
    · have := ok.le x (List.mem_of_getElem? hx)
      have := ok.top
      omega
    · rintro i v σ H1 hi ⟨y3, last, rfl, rfl, hl⟩
      obtain ⟨z, hz, rfl⟩ := map_at hi
      obtain ⟨x, hx, rfl⟩ := map_at hz
      have x1 := ok.pos x (List.mem_of_getElem? hx)
      have x2 := hl x hx
      refine ⟨_, rfl, _, rfl, _, 1, _, rfl, _, rfl, ?_⟩
      rw [decide_eq_true (show (1 : Int) ≤ ((x : Nat) : Int) ∧ ((x : Nat) : Int) ≤ ((last : Nat) : Int) by omega)]
      refine ⟨_, rfl, some (vN x), x, rfl, rfl, fun y hy => ?_⟩
      have ij := List.pairwise_iff_getElem.mp ok.down i (i + 1) (List.getElem?_eq_some_iff.mp hx).1 (List.getElem?_eq_some_iff.mp hy).1 (by omega)
      rw [(List.getElem?_eq_some_iff.mp hx).2, (List.getElem?_eq_some_iff.mp hy).2] at ij
      exact ij
    · rintro σ H1 ⟨y3, last, rfl, rfl, _⟩
      refine ⟨_, rfl, t, _, rfl, tt.seq, _, rfl, rfl, ?_⟩
      have e : (toI sz).sum = ((n : Nat) : Int) := by
        rw [← ok.sum]
        exact toI_sum sz
      rw [e, decide_eq_true rfl]
      exact q
end
end KQ
namespace KQ
open PySem PySem.Spec PyProof.Rows L2 KR KM StX
theorem howOft_toI (v : Nat) (sz : List Nat) : howOft ((v : Nat) : Int) (toI sz) = cntN v sz := by
  unfold howOft cntN
  rw [List.filter_map, List.length_map]
  congr 1
  refine List.filter_congr fun x _ => ?_
  show decide (((x : Nat) : Int) = ((v : Nat) : Int)) = decide (x = v)
  exact decide_eq_decide.mpr ⟨fun h => by omega, fun h => by rw [h]⟩
theorem countP_howOft (d : Int) (p : List Int) : p.countP (fun z => decide (z = d)) = howOft d p := by
  unfold howOft
  rw [List.countP_eq_length_filter]
theorem below_kinds {n : Nat} {sz : List Nat} {ns : List Int} (ok : SzOk n sz) (nd : ns.Nodup) (mem : ∀ k, k ∈ ns ↔ k ∈ toI sz) :
    belowN n sz = prodN (sz.map fun s => fac (s - 1)) * prodN (ns.map fun d => fac (howOft d (toI sz))) := by
  unfold belowN
  congr 1
  have nn : ∀ d ∈ ns, ((d.toNat : Nat) : Int) = d := fun d hd => by
    obtain ⟨x, _, rfl⟩ := List.mem_map.mp ((mem d).mp hd)
    rfl
  rw [kinds_prod (ds := ns.map Int.toNat) ?_ (fun v => ?_) ok.le, List.map_map]
  · congr 1
    refine List.map_congr_left fun d hd => ?_
    show fac (cntN d.toNat sz) = _
    rw [← howOft_toI, nn d hd]
  · refine List.pairwise_map.mpr (List.Pairwise.imp_of_mem (fun {a b} ha hb h e => h ?_) nd)
    rw [← nn a ha, ← nn b hb, e]
  · constructor
    · intro h
      obtain ⟨d, hd, rfl⟩ := List.mem_map.mp h
      obtain ⟨x, hx, rfl⟩ := List.mem_map.mp ((mem d).mp hd)
      exact hx
    · intro h
      exact List.mem_map.mpr ⟨((v : Nat) : Int), (mem _).mpr (List.mem_map_of_mem h), rfl⟩
theorem kinds_small {n : Nat} {sz : List Nat} {ns : List Int} (ok : SzOk n sz) (nd : ns.Nodup) (mem : ∀ k, k ∈ ns ↔ k ∈ toI sz) : prodN (ns.map fun d => fac (howOft d (toI sz))) < 2 ^ 280 := by
  have h := fac_prod (ns.map fun d => howOft d (toI sz))
  rw [List.map_map] at h
  have g := group_len nd (xs := toI sz) fun x hx => (mem x).mpr hx
  rw [g, List.length_map] at h
  have := (prodN_two ok.pos).2
  have := ok.sum
  have := ok.top
  exact Nat.lt_of_le_of_lt h (fac_small (by omega))
theorem less_small {n : Nat} {sz : List Nat} (ok : SzOk n sz) (i : Nat) : prodN ((sz.take i).map fun s => fac (s - 1)) < 2 ^ 280 := by
  have h := fac_prod ((sz.take i).map fun s => s - 1)
  rw [List.map_map] at h
  have e : ∀ xs : List Nat, (xs.map fun s => s - 1).sum ≤ xs.sum := fun xs => by
    induction xs with
    | nil => exact Nat.le_refl _
    | cons x xs ih => rw [List.map_cons, List.sum_cons, List.sum_cons]; omega
  have e2 : (sz.take i).sum ≤ sz.sum := by
    conv => rhs; rw [← List.take_append_drop i sz, List.sum_append]
    omega
  have := e (sz.take i)
  have := ok.sum
  have := ok.top
  exact Nat.lt_of_le_of_lt h (fac_small (by omega))
section
variable {P : Program} {w : World} {K : PySem.W.Frag} {mg : Str → Option Value} {base : Heap}
abbrev s_meeting_by_sizes : Stmt := topS 25
theorem sc_meeting_by_sizes : FnScope ["parting", "sizes", "many", "below", "size"] ["parting", "sizes"] (defScope s_meeting_by_sizes) := ⟨rfl, rfl, rfl, by decide +kernel, rfl, by decide +kernel, by decide +kernel⟩
def spBySz : Sp := fun vs H Q _ => ∃ (a t : Addr) (p : List Int) (k : Nat) (sz : List Nat), vs = [.ref a, .ref t] ∧ TI H a p ∧ Par p ∧ bc 0 p = (k : Int) ∧ TI H t (toI sz) ∧ Bare H t ∧ SzOk p.length sz ∧ ∀ H', Same H H' → Q (vN (bySz k p.length (sizesP k p) sz)) H'
theorem ok_by_sizes (D : DefAt K mg "meeting_by_sizes" s_meeting_by_sizes) (T : Bt mg) (z_factorial : mg "factorial" = some (.builtin "math.factorial")) (u_need_parting : Use P w K mg base "need_parting" 4 ["parting"] spNeed) (u_is_sizes : Use P w K mg base "is_sizes" 3 ["value", "doors"] spIsSz)
    (u_block_count : Use P w K mg base "block_count" 1 ["parting"] spCount) (u_block_product : Use P w K mg base "block_product" 3 ["parting"] spBlkProd) : Use P w K mg base "meeting_by_sizes" 5 ["parting", "sizes"] spBySz := by
  refine use_of D (fun f fd F => F.ok sc_meeting_by_sizes (fun vs H Q E h => ?_) (fun cdv A outer s H vs Q E hr h => ?_)) (fun _ _ _ _ _ _ us hl => match us, hl with | [_, _], _ => rfl)
  · obtain ⟨a, t, p, k, sz, rfl, _⟩ := h
    rfl
  · obtain ⟨a, t, p, k, sz, rfl, tp, par, hk, tt, bt, ok, q⟩ := h
    refine ⟨_, (pss_cons (ps_expr (pe_use u_need_parting (by decide) hr (by rfl) (pa_cons (pv 0) pa_nil)))
      (pss_cons (ps_if (pt_not (pt_val (pe_use u_is_sizes (by decide) hr (by rfl) (pa_cons (pv 1) (pa_cons (pe_callB (k_len (K := K) rfl) (by rfl) T.len PySem.boot_len (pa_cons (pv 0) pa_nil)) pa_nil))))) (pss_one ps_never) pss_nil)
      (pss_cons (ps_set (i := 2) sc_meeting_by_sizes.nd rfl (Or.inl rfl) (pe_use u_block_count (by decide) hr (by rfl) (pa_cons (pv 0) pa_nil)))
      (pss_cons (ps_if (pt_cmpR op_ne (pe_op op_add (pv 2) (pe_callB (k_len (K := K) rfl) (by rfl) T.len PySem.boot_len (pa_cons (pv 1) pa_nil))) (pe_op op_add (pe_callB (k_len (K := K) rfl) (by rfl) T.len PySem.boot_len (pa_cons (pv 0) pa_nil)) pe_int) (nomark _)) (pss_one (ps_ret pe_int)) pss_nil)
      (pss_cons (ps_set (i := 3) sc_meeting_by_sizes.nd rfl (Or.inl rfl) pe_int)
      (pss_cons (ps_for PassesOwn.never rfl (k_tup (K := K) rfl (pv 1)) (pg_name (i := 4) sc_meeting_by_sizes.nd rfl (Or.inl rfl))
      (pss_one (ps_aug (i := 3) sc_meeting_by_sizes.nd rfl (Or.inl rfl) (pe_callM cr_fac (by rfl) z_factorial (pa_cons (pe_op op_sub (pv 4) pe_int) pa_nil)) ip_mulW)))
      (pss_cons (ps_for PassesOwn.never rfl (k_list (K := K) rfl (pe_srtSetU rfl (by rfl) T.sorted (by rfl) T.set (pv 1))) (pg_name (i := 4) sc_meeting_by_sizes.nd rfl (Or.inl rfl))
      (pss_one (ps_aug (i := 3) sc_meeting_by_sizes.nd rfl (Or.inl rfl) (pe_callM cr_fac (by rfl) z_factorial (pa_cons (k_tm (K := K) rfl PySem.F.slot_tuple_count PySem.F.type_tuple_count (k_tcnt rfl (room66b hr)) (pv 1) (pa_cons (pv 4) pa_nil)) pa_nil)) ip_mulW)))
      (pss_one (ps_ret (pe_op op_fdivW (pe_op op_mulW (pe_op op_mulW (pe_callM cr_fac (by rfl) z_factorial (pa_cons (pe_op op_sub (pv 2) pe_int) pa_nil)) (pe_callM cr_fac (by rfl) z_factorial (pa_cons (pe_op op_sub (pe_callB (k_len (K := K) rfl) (by rfl) T.len PySem.boot_len (pa_cons (pv 1) pa_nil)) pe_int) pa_nil))) (pe_use u_block_product (by decide) hr (by rfl) (pa_cons (pv 0) pa_nil))) (pv 3))))))))))), ?_⟩
    obtain ⟨k0, kl⟩ := par_blocks par hk
    have p60 := par.le
    have lsz : sz.length ≤ p.length := by
      have := (prodN_two ok.pos).2
      have := ok.sum
      omega
    refine ⟨_, rfl, a, p, rfl, tp, par, fun H1 s1 => ?_⟩
    have tp := tp.mono s1
    have tt := tt.mono s1
    have bt := bt.mono s1
    refine ⟨_, rfl, _, rfl, a, _, rfl, .inr tp.seq, t, sz, p.length, by rw [List.length_map]; rfl, tt, ok, true, rfl, ?_⟩
    refine ⟨_, rfl, a, p, rfl, tp, par, ?_⟩
    rw [hk]
    refine ⟨_, rfl, _, rfl, t, _, rfl, .inr tt.seq, _, _, rfl, rfl, _, rfl, a, _, rfl, .inr tp.seq, _, _, rfl, rfl, rfl, _, rfl, ite2 (fun e => ?_) (fun e => ?_)⟩
    · have e1 : ¬ k + sz.length = p.length + 1 := fun z => by
        have : (((k : Nat) : Int) + ((((toI sz).map V.int).length : Nat) : Int)) = (((p.map V.int).length : Nat) : Int) + 1 := by
          rw [List.length_map, List.length_map, List.length_map]
          omega
        have e : (!decide (V.int (((k : Nat) : Int) + ((((toI sz).map V.int).length : Nat) : Int)) = V.int ((((p.map V.int).length : Nat) : Int) + 1))) = true := e
        rw [this] at e
        simp at e
      have := q H1 s1
      rw [show bySz k p.length (sizesP k p) sz = 0 from if_neg e1] at this
      exact this
    have e1 : k + sz.length = p.length + 1 := by
      refine Classical.byContradiction fun z => e ?_
      show (!decide (V.int (((k : Nat) : Int) + ((((toI sz).map V.int).length : Nat) : Int)) = V.int ((((p.map V.int).length : Nat) : Int) + 1))) = true
      rw [decide_eq_false fun w => z (by
        have := V.int.inj w
        rw [List.length_map, List.length_map, List.length_map] at this
        omega)]
      rfl
    refine ⟨_, rfl, t, rfl, ⟨_, tt.seq⟩, for_tup (K := K) (a := t) (xs := (toI sz).map V.int)
      (fun i σ H2 => ∃ y4 : Option V, σ = [some (.ref a), some (.ref t), some (vN k), some (vN (prodN ((sz.take i).map fun s => fac (s - 1)))), y4] ∧ H2 = H1) ⟨none, rfl, rfl⟩ (fun i σ H2 _ ⟨_, _, e⟩ => by rw [e]; exact tt.seq) ?_ ?_⟩
    · rintro i v σ H2 hi ⟨y4, rfl, rfl⟩
      obtain ⟨z, hz, rfl⟩ := map_at hi
      obtain ⟨x, hx, rfl⟩ := map_at hz
      have x1 := ok.pos x (List.mem_of_getElem? hx)
      have x2 := ok.le x (List.mem_of_getElem? hx)
      refine ⟨_, rfl, _, rfl, _, _, rfl, rfl, x - 1, ?_, by omega, ?_⟩
      · show [V.int (((x : Nat) : Int) - 1)] = _
        rw [show ((x : Nat) : Int) - 1 = ((x - 1 : Nat) : Int) by omega]
      rw [fac_nat]
      refine ⟨_, _, rfl, rfl, wide_mul (nat_abs (less_small ok i)) (nat_abs (fac_small (by omega))) (by decide) (by decide) (by decide), some (vN x), ?_, rfl⟩
      refine congrArg (fun z => [some (V.ref a), some (V.ref t), some (vN k), some (V.int z), some (vN x)]) ?_
      rw [← Int.natCast_mul, take_snoc hx, List.map_append]
      congr 1
      exact (prodN_snoc _ _).symm
    rintro σ H2 ⟨y4, rfl, rfl⟩
    rw [List.length_map, List.length_map, List.take_length]
    have A280 : prodN (sz.map fun s => fac (s - 1)) < 2 ^ 280 := by have := less_small ok sz.length; rwa [List.take_length] at this
    refine ⟨_, rfl, t, toI sz, rfl, tt.seq, by rw [List.length_map]; omega, fun ns S up mem nS => ?_⟩
    have nd : ns.Nodup := up.imp fun h e => by omega
    have sS := same_new (H := H2) (o := .lst (ns.map V.int)) nS
    have ks := kinds_small ok nd mem
    have bk := below_kinds ok nd mem
    have lns : ns.length ≤ 60 := by
      have := sub_len (ys := toI sz) nd fun x hx => (mem x).mp hx
      rw [List.length_map] at this
      omega
    have pos280 : ∀ i, prodN ((ns.take i).map fun d => fac (howOft d (toI sz))) < 2 ^ 280 := fun i => by
      have e : prodN ((ns.take i).map fun d => fac (howOft d (toI sz))) * prodN ((ns.drop i).map fun d => fac (howOft d (toI sz))) = prodN (ns.map fun d => fac (howOft d (toI sz))) := by
        rw [← prodN_app, ← List.map_append, List.take_append_drop]
      have p2 : 0 < prodN ((ns.drop i).map fun d => fac (howOft d (toI sz))) := prodN_pos fun x hx => by
        obtain ⟨d, _, rfl⟩ := List.mem_map.mp hx
        exact fac_pos _
      exact Nat.lt_of_le_of_lt (by rw [← e]; exact Nat.le_mul_of_pos_right _ p2) ks
    refine ⟨S, rfl, ⟨_, sqL upd_same⟩, for_list (K := K) (a := S) (xs := ns.map V.int)
      (fun i σ H3 => ∃ y4 : Option V, σ = [some (.ref a), some (.ref t), some (vN k), some (vN (prodN (sz.map fun s => fac (s - 1)) * prodN ((ns.take i).map fun d => fac (howOft d (toI sz))))), y4] ∧ H3 = upd H2 S (.lst (ns.map V.int))) ⟨y4, ?_, rfl⟩ (fun i σ H3 _ ⟨_, _, e⟩ => by rw [e]; exact sqL upd_same) ?_ ?_⟩
    · show _ = [_, _, _, some (vN (prodN (sz.map fun s => fac (s - 1)) * 1)), _]
      rw [Nat.mul_one]
    · rintro i v σ H3 hi ⟨y4, rfl, rfl⟩
      obtain ⟨d, hd, rfl⟩ := map_at hi
      have cle : howOft d (toI sz) ≤ 60 := by
        have := howOft_le d (toI sz)
        rw [List.length_map] at this
        omega
      refine ⟨_, rfl, _, rfl, ⟨t, _, rfl, (tt.mono sS).seq, bt.mono sS⟩, _, rfl, t, toI sz, d, rfl, rfl, (tt.mono sS).seq, ?_⟩
      rw [countP_howOft]
      refine ⟨howOft d (toI sz), rfl, by omega, ?_⟩
      rw [fac_nat]
      refine ⟨_, _, rfl, rfl, wide_mul (a := 560) (nat_abs (by
        rw [show (560 : Nat) = 280 + 280 from rfl, Nat.pow_add]
        exact Nat.mul_lt_mul'' A280 (pos280 i))) (nat_abs (fac_small cle)) (by decide) (by decide) (by decide), some (.int d), ?_, rfl⟩
      refine congrArg (fun z => [some (V.ref a), some (V.ref t), some (vN k), some (V.int z), some (V.int d)]) ?_
      rw [← Int.natCast_mul, take_snoc hd, List.map_append, Nat.mul_assoc]
      congr 2
      exact (prodN_snoc _ _).symm
    rintro σ H3 ⟨y5, rfl, rfl⟩
    rw [List.length_map, List.take_length, ← bk]
    have b0 : 0 < belowN p.length sz := by
      rw [bk]
      exact Nat.mul_pos (prodN_pos fun x hx => by obtain ⟨s', _, rfl⟩ := List.mem_map.mp hx; exact fac_pos _) (prodN_pos fun x hx => by obtain ⟨s', _, rfl⟩ := List.mem_map.mp hx; exact fac_pos _)
    have bB : belowN p.length sz < 2 ^ 560 := by
      rw [bk, show (560 : Nat) = 280 + 280 from rfl, Nat.pow_add]
      exact Nat.mul_lt_mul'' A280 ks
    have sm : sizesP k p < 2 ^ 361 := by
      unfold sizesP
      refine Nat.lt_of_le_of_lt (prodN_le fun x hx => ?_) (show 2 ^ (6 * ((iotaL k).map fun c => howOft c p).length) < 2 ^ 361 from Nat.pow_lt_pow_right (by decide) (by rw [List.length_map, iota_len]; omega))
      obtain ⟨c, _, rfl⟩ := List.mem_map.mp hx
      have := howOft_le c p
      omega
    have F1 : fac (k - 1) < 2 ^ 280 := fac_small (by omega)
    have F2 : fac (sz.length - 1) < 2 ^ 280 := fac_small (by omega)
    have F12 : fac (k - 1) * fac (sz.length - 1) < 2 ^ 560 := by
      rw [show (560 : Nat) = 280 + 280 from rfl, Nat.pow_add]
      exact Nat.mul_lt_mul'' F1 F2
    refine ⟨_, rfl, _, _, rfl, rfl, k - 1, ?_, by omega, ?_⟩
    · show [V.int (((k : Nat) : Int) - 1)] = _
      rw [show ((k : Nat) : Int) - 1 = ((k - 1 : Nat) : Int) by omega]
    rw [fac_nat]
    have l0 : 0 < sz.length := List.length_pos_iff.mpr ok.ne
    refine ⟨_, rfl, t, _, rfl, .inr (tt.mono sS).seq, _, _, rfl, rfl, sz.length - 1, ?_, by omega, ?_⟩
    · show [V.int (((((toI sz).map V.int).length : Nat) : Int) - 1)] = _
      rw [List.length_map, List.length_map, show ((sz.length : Nat) : Int) - 1 = ((sz.length - 1 : Nat) : Int) by omega]
    rw [fac_nat]
    refine ⟨_, _, rfl, rfl, wide_mul (nat_abs F1) (nat_abs F2) (by decide) (by decide) (by decide), ?_⟩
    refine ⟨_, rfl, a, p, k, rfl, tp.mono sS, par, hk, fun H4 s4 => ?_⟩
    refine ⟨_, _, rfl, rfl, wide_mul (a := 560) (by rw [← Int.natCast_mul]; exact nat_abs F12) (nat_abs sm) (by decide) (by decide) (by decide), ?_⟩
    refine ⟨_, rfl, _, _, rfl, rfl, wide_div (b := 560) (by omega) (nat_abs bB) (by decide) (by decide), ?_⟩
    have := q H4 ((s1.trans sS).trans s4)
    rw [show bySz k p.length (sizesP k p) sz = fac (k - 1) * fac (sz.length - 1) * sizesP k p / belowN p.length sz from if_pos e1] at this
    show Q (.int ((((fac (k - 1) : Nat) : Int) * ((fac (sz.length - 1) : Nat) : Int) * ((sizesP k p : Nat) : Int)) / ((belowN p.length sz : Nat) : Int))) H4
    rw [← Int.natCast_mul, ← Int.natCast_mul, ← Int.natCast_ediv]
    exact this
end
end KQ
namespace KQ
open PySem PySem.Spec PyProof.Rows L2 KR KM StX
section
variable {P : Program} {w : World} {K : PySem.W.Frag} {mg : Str → Option Value} {base : Heap}
/-! too many to be listed -/
def spAllMeetX (CT : Addr) : Sp := fun vs H _ E => ∃ (a : Addr) (p : List Int) (k : Nat), vs = [.ref a] ∧ TI H a p ∧ Par p ∧ bc 0 p = (k : Int) ∧ 1000 < metN k p ∧ ∀ H' d, Same H H' → H' d = some (.xd [("most", .int 1000)]) → E (.ref CT) (some d) H'
theorem ok_all_meetingX {CT : Addr} (D : DefAt K mg "all_meeting" s_all_meeting) (T : Bt mg) (e_TooGreat : ErrC P w K mg base "TooGreat" CT "most") (c_MOST_MEETING : Cst mg "MOST_MEETING" 1000) (u_need_parting : Use P w K mg base "need_parting" 4 ["parting"] spNeed)
    (u_met_by : Use P w K mg base "met_by" 4 ["parting"] spMetN) (u_block_count : Use P w K mg base "block_count" 1 ["parting"] spCount) (u_longer : Use P w K mg base "longer" 1 ["row", "block", "many", "most"] spLonger) :
    UseX P w K mg base "all_meeting" 5 ["parting"] (spAllMeetX CT) := by
  refine usex_of D (fun f fd F => okX F sc_all_meeting (fun vs H Q E h => ?_) (fun cdv A outer s H vs Q E tk po hr h => ?_)) (fun _ _ _ _ _ _ us hl => match us, hl with | [_], _ => rfl)
  · obtain ⟨a, p, k, rfl, _⟩ := h
    rfl
  · obtain ⟨a, p, k, rfl, tp, par, hk, many, q⟩ := h
    refine ⟨_, (pss_cons (ps_expr (pe_use u_need_parting (by decide) hr (by rfl) (pa_cons (pv 0) pa_nil)))
      (pss_cons (ps_if (pt_cmpR op_gt (pe_use u_met_by (by decide) hr (by rfl) (pa_cons (pv 0) pa_nil)) (pe_cst (by rfl) c_MOST_MEETING) (nomark _)) (pss_one (ps_raise rfl tk (pmk_err e_TooGreat (hr.mono (by decide)) (by rfl) (pa_cons (pe_cst (by rfl) c_MOST_MEETING) pa_nil)))) pss_nil)
      (pss_cons (ps_set (i := 1) sc_all_meeting.nd rfl (Or.inr rfl) (pe_use u_block_count (by decide) hr (by rfl) (pa_cons (pv 0) pa_nil)))
      (pss_cons (ps_set (i := 2) sc_all_meeting.nd rfl (Or.inr rfl) (pe_op op_sub (pe_op op_add (pe_callB (k_len (K := K) rfl) (by rfl) T.len PySem.boot_len (pa_cons (pv 0) pa_nil)) pe_int) (pv 1)))
      (pss_cons (ps_set (i := 3) sc_all_meeting.nd rfl (Or.inl rfl) (pe_lst (pa_cons (pe_tup (pa_cons (pe_tup pa_nil) (pa_cons (pe_tupRg rfl (by rfl) T.tuple (prg_1 (by rfl) T.range (pv 1))) pa_nil))) pa_nil)))
      (pss_cons (ps_for po rfl (k_tup (K := K) rfl (pv 0)) (pg_name (i := 4) sc_all_meeting.nd rfl (Or.inr rfl))
      (pss_one (ps_setLc2 (i := 3) (own := [("row", 5), ("new", 6)]) (vs1 := [6]) rfl sc_all_meeting.nd rfl rfl (sw_true rfl rfl rfl (by decide +kernel)) (k_list (K := K) rfl (pv 3)) (blkOk_by (N := ["parting", "many", "most", "rows", "block", "row", "new", "blocks", "_"]) (sc := defScope s_all_meeting) (by decide +kernel)) (by decide) (fun _ _ _ _ _ => (pg_name (i := 5) sc_all_meeting.nd rfl (Or.inl rfl))) (fun _ _ _ _ _ => pts_nil) (fun _ _ _ _ _ => (k_list (K := K) rfl (pe_use u_longer (by decide) hr (by rfl) (pa_cons (pv 5) (pa_cons (pv 4) (pa_cons (pv 1) (pa_cons (pv 2) pa_nil))))))) (fun _ _ _ _ _ => (pg_name (i := 6) sc_all_meeting.nd rfl (Or.inl rfl))) (fun _ _ _ _ _ => pts_nil) (fun _ _ _ _ _ => (pv 6)))))
      (pss_one (ps_ret (pe_callTy (k_tupOf (K := K) rfl) (by rfl) T.tuple (by decide +kernel) (pa_cons (pe_lc (own := [("blocks", 7), ("_", 8)]) rfl sc_all_meeting.nd (k_list (K := K) rfl (pv 3)) (blkOk_by (N := ["parting", "many", "most", "rows", "block", "row", "new", "blocks", "_"]) (sc := defScope s_all_meeting) (by decide +kernel)) (fun _ _ _ _ _ => (k_gtup (K := K) (n := 2) rfl rfl (pgs_cons (pg_name (i := 7) sc_all_meeting.nd rfl (Or.inl rfl)) (pgs_cons (pg_name (i := 8) sc_all_meeting.nd rfl (Or.inl rfl)) pgs_nil)))) (fun _ _ _ _ _ => pts_nil) (fun _ _ _ _ _ => (pv 7))) pa_nil)))))))))), ?_⟩
    refine ⟨_, rfl, a, p, rfl, tp, par, fun H1 s1 => ?_⟩
    refine ⟨_, rfl, a, p, k, rfl, tp.mono s1, par, hk, fun H2 s2 => ?_⟩
    refine ⟨_, _, rfl, rfl, _, rfl, ?_⟩
    rw [decide_eq_true (show (1000 : Int) < ((metN k p : Nat) : Int) by omega)]
    exact ⟨_, rfl, fun H' d s' e => q H' d ((s1.trans s2).trans s') e⟩
end
end KQ
namespace KQ
open PySem PySem.Spec PyProof.Rows L2 KR KM StX
theorem prodR_fac : ∀ m, prodR 1 (m + 1) = fac m
  | 0 => rfl
  | m + 1 => by
    have ih := prodR_fac m
    unfold prodR at ih ⊢
    rw [show m + 1 + 1 - 1 = (m + 1 - 1) + 1 by omega, List.range_succ, List.map_append, prodN_app, ih]
    show fac m * ((1 + (m + 1 - 1)) * 1) = (m + 1) * fac m
    rw [Nat.mul_one, Nat.mul_comm, show 1 + (m + 1 - 1) = m + 1 by omega]
/-- the kinds up to so many -/
def kindsTo (sz : List Nat) (i : Nat) : Nat := prodN ((List.range i).map fun j => fac (cntN (j + 1) sz))
theorem kindsTo_succ (sz : List Nat) (i : Nat) : kindsTo sz (i + 1) = kindsTo sz i * fac (cntN (i + 1) sz) := by
  unfold kindsTo
  rw [List.range_succ, List.map_append]
  exact prodN_snoc _ _
theorem kindsTo_all {n : Nat} {sz : List Nat} (ok : SzOk n sz) : prodN (sz.map fun s => fac (s - 1)) * kindsTo sz n = belowN n sz := by
  unfold belowN kindsTo
  congr 1
  rw [List.range_succ_eq_map, List.map_cons, List.map_map, cntN_none fun h => by have := ok.pos 0 h; omega]
  show _ = 1 * prodN _
  rw [Nat.one_mul]
  rfl
theorem below_small {n : Nat} {sz : List Nat} (ok : SzOk n sz) : belowN n sz < 2 ^ 560 := by
  have A280 : prodN (sz.map fun s => fac (s - 1)) < 2 ^ 280 := by have := less_small ok sz.length; rwa [List.take_length] at this
  have h := fac_prod ((List.range (n + 1)).map fun v => cntN v sz)
  rw [List.map_map] at h
  have g := group_len (iota_nodup (n + 1)) (xs := toI sz) fun x hx => by
    obtain ⟨y, hy, rfl⟩ := List.mem_map.mp hx
    have := ok.le y hy
    exact List.mem_map.mpr ⟨y, List.mem_range.mpr (by omega), rfl⟩
  have e : (iotaL (n + 1)).map (fun d => howOft d (toI sz)) = (List.range (n + 1)).map fun v => cntN v sz := by
    unfold iotaL
    rw [List.map_map]
    exact List.map_congr_left fun v _ => howOft_toI v sz
  rw [e, List.length_map] at g
  rw [g] at h
  have := (prodN_two ok.pos).2
  have := ok.sum
  have := ok.top
  have B280 : prodN ((List.range (n + 1)).map fun v => fac (cntN v sz)) < 2 ^ 280 := Nat.lt_of_le_of_lt h (fac_small (by omega))
  unfold belowN
  rw [show (560 : Nat) = 280 + 280 from rfl, Nat.pow_add]
  exact Nat.mul_lt_mul'' A280 B280
theorem kindsTo_le (sz : List Nat) {i n : Nat} (h : i ≤ n) : kindsTo sz i ≤ kindsTo sz n := by
  induction h with
  | refl => exact Nat.le_refl _
  | step _ ih => exact Nat.le_trans ih (by rw [kindsTo_succ]; exact Nat.le_mul_of_pos_right _ (fac_pos _))
section
variable {P : Program} {w : World} {K : PySem.W.Frag} {mg : Str → Option Value} {base : Heap}
abbrev s__law_number_of : Stmt := topS 46
theorem sc__law_number_of : FnScope ["parting", "sizes", "blocks", "over", "under", "size"] ["parting", "sizes"] (defScope s__law_number_of) := ⟨rfl, rfl, rfl, by decide +kernel, rfl, by decide +kernel, by decide +kernel⟩
theorem ok_number_of (D : DefAt K mg "_law_number_of" s__law_number_of) (T : Bt mg) (u__law_lots : Use P w K mg base "_law_lots" 1 ["parting"] spLots) (u__law_product : Use P w K mg base "_law_product" 1 ["numbers"] (spProduct K)) :
    Use P w K mg base "_law_number_of" 2 ["parting", "sizes"] spBySz := by
  refine use_of D (fun f fd F => F.ok sc__law_number_of (fun vs H Q E h => ?_) (fun cdv A outer s H vs Q E hr h => ?_)) (fun _ _ _ _ _ _ us hl => match us, hl with | [_, _], _ => rfl)
  · obtain ⟨a, t, p, k, sz, rfl, _⟩ := h
    rfl
  · obtain ⟨a, t, p, k, sz, rfl, tp, par, hk, tt, bt, ok, q⟩ := h
    refine ⟨_, (pss_cons (ps_set (i := 2) sc__law_number_of.nd rfl (Or.inl rfl) (pe_use u__law_lots (by decide) hr (by rfl) (pa_cons (pv 0) pa_nil)))
      (pss_cons (ps_if (pt_cmpR op_ne (pe_op op_add (pe_callB (k_len (K := K) rfl) (by rfl) T.len PySem.boot_len (pa_cons (pv 2) pa_nil)) (pe_callB (k_len (K := K) rfl) (by rfl) T.len PySem.boot_len (pa_cons (pv 1) pa_nil))) (pe_op op_add (pe_callB (k_len (K := K) rfl) (by rfl) T.len PySem.boot_len (pa_cons (pv 0) pa_nil)) pe_int) (nomark _)) (pss_one (ps_ret pe_int)) pss_nil)
      (pss_cons (ps_set (i := 3) sc__law_number_of.nd rfl (Or.inl rfl) (pe_use u__law_product (by decide) hr (by rfl) (pa_cons (pe_op op_cat (pe_op op_cat (pe_listRg rfl (by rfl) T.list (prg_2 (by rfl) T.range pe_int (pe_callB (k_len (K := K) rfl) (by rfl) T.len PySem.boot_len (pa_cons (pv 2) pa_nil)))) (pe_listRg rfl (by rfl) T.list (prg_2 (by rfl) T.range pe_int (pe_callB (k_len (K := K) rfl) (by rfl) T.len PySem.boot_len (pa_cons (pv 1) pa_nil))))) (pe_callTy (k_listOf (K := K) rfl) (by rfl) T.list (by decide +kernel) (pa_cons (pv 2) pa_nil))) pa_nil)))
      (pss_cons (ps_set (i := 4) sc__law_number_of.nd rfl (Or.inl rfl) (pe_use u__law_product (by decide) hr (by rfl) (pa_cons (pe_lc (own := [("size", 5)]) rfl sc__law_number_of.nd (k_tup (K := K) rfl (pv 1)) (blkOk_by (N := ["parting", "sizes", "blocks", "over", "under", "size"]) (sc := defScope s__law_number_of) (by decide +kernel)) (fun _ _ _ _ _ => (pg_name (i := 5) sc__law_number_of.nd rfl (Or.inl rfl))) (fun _ _ _ _ _ => pts_nil) (fun _ _ _ _ _ => (pe_use u__law_product (by decide) hr (by rfl) (pa_cons (pe_listRg rfl (by rfl) T.list (prg_2 (by rfl) T.range pe_int (pv 5))) pa_nil)))) pa_nil)))
      (pss_cons (ps_for PassesOwn.never rfl (pi_range2 (by rfl) T.range (pa_cons pe_int (pa_cons (pe_op op_add (pe_callB (k_len (K := K) rfl) (by rfl) T.len PySem.boot_len (pa_cons (pv 0) pa_nil)) pe_int) pa_nil))) (pg_name (i := 5) sc__law_number_of.nd rfl (Or.inl rfl))
      (pss_one (ps_set (i := 4) sc__law_number_of.nd rfl (Or.inl rfl) (pe_op op_mulW (pv 4) (pe_use u__law_product (by decide) hr (by rfl) (pa_cons (pe_listRg rfl (by rfl) T.list (prg_2 (by rfl) T.range pe_int (pe_op op_add (k_bm (K := K) rfl PySem.F.plainAttrs_list PySem.F.slot_list_count PySem.F.type_list_count (k_lcnt rfl) (pe_callTy (k_listOf (K := K) rfl) (by rfl) T.list (by decide +kernel) (pa_cons (pv 1) pa_nil)) (pa_cons (pv 5) pa_nil)) pe_int))) pa_nil))))))
      (pss_one (ps_ret (pe_op op_fdivW (pv 3) (pv 4))))))))), ?_⟩
    obtain ⟨k0, kl⟩ := par_blocks par hk
    have p60 := par.le
    have ll := lots_len hk
    have lsz : sz.length ≤ p.length := by
      have := (prodN_two ok.pos).2
      have := ok.sum
      omega
    have l0 : 0 < sz.length := List.length_pos_iff.mpr ok.ne
    refine ⟨_, rfl, a, p, rfl, tp, par, fun H1 b s1 tb _ => ?_⟩
    have tp := tp.mono s1
    have tt := tt.mono s1
    have lbl : ((lotsI p).map V.int).length = k := by rw [List.length_map, List.length_map, ll]
    have lsl : ((toI sz).map V.int).length = sz.length := by rw [List.length_map, List.length_map]
    have lpl : (p.map V.int).length = p.length := List.length_map ..
    refine ⟨_, rfl, b, _, rfl, .inr tb.seq, _, rfl, t, _, rfl, .inr tt.seq, _, _, rfl, rfl, _, rfl, a, _, rfl, .inr tp.seq, _, _, rfl, rfl, rfl, _, rfl, ?_⟩
    rw [lbl, lsl, lpl]
    refine ite2 (fun e => ?_) (fun e => ?_)
    · have e1 : ¬ k + sz.length = p.length + 1 := fun z => by
        have e : (!decide (V.int (((k : Nat) : Int) + ((sz.length : Nat) : Int)) = V.int (((p.length : Nat) : Int) + 1))) = true := e
        rw [show ((k : Nat) : Int) + ((sz.length : Nat) : Int) = ((p.length : Nat) : Int) + 1 by omega] at e
        simp at e
      have := q H1 s1
      rw [show bySz k p.length (sizesP k p) sz = 0 from if_neg e1] at this
      exact this
    have e1 : k + sz.length = p.length + 1 := by
      refine Classical.byContradiction fun z => e ?_
      show (!decide (V.int (((k : Nat) : Int) + ((sz.length : Nat) : Int)) = V.int (((p.length : Nat) : Int) + 1))) = true
      rw [decide_eq_false fun w => z (by have := V.int.inj w; omega)]
      rfl
    -- over
    refine ⟨_, rfl, b, _, rfl, .inr tb.seq, 1, _, rfl, rfl, ?_⟩
    rw [lbl, show (1 : Int) = ((1 : Nat) : Int) from rfl]
    refine ⟨RgOk.of_le (by omega) (by omega) (by omega) (by omega), fun l1 nl1 => ?_⟩
    rw [rgV_nat]
    have f1 := same_new (H := H1) (o := .lst (((List.range (k - 1)).map fun i => 1 + i).map vN)) nl1
    refine ⟨_, rfl, t, _, rfl, .inr (tt.mono f1).seq, 1, _, rfl, rfl, ?_⟩
    rw [lsl, show (1 : Int) = ((1 : Nat) : Int) from rfl]
    refine ⟨RgOk.of_le (by omega) (by omega) (by omega) (by omega), fun l2 nl2 => ?_⟩
    rw [rgV_nat]
    have f2 := same_new (o := .lst (((List.range (sz.length - 1)).map fun i => 1 + i).map vN)) nl2
    have e1' := f2 _ _ (upd_same (H := H1) (a := l1) (o := .lst (((List.range (k - 1)).map fun i => 1 + i).map vN)))
    refine ⟨l1, l2, _, _, rfl, rfl, e1', upd_same, ?_, fun l3 nl3 => ?_⟩
    · rw [List.length_map, List.length_map, List.length_map, List.length_map, List.length_range, List.length_range, sizeLine_eq]
      omega
    have f3 := same_new (o := .lst (((List.range (k - 1)).map fun i => 1 + i).map vN ++ ((List.range (sz.length - 1)).map fun i => 1 + i).map vN)) nl3
    have f13 := (f1.trans f2).trans f3
    have e3 := upd_same (H := upd (upd H1 l1 (.lst (((List.range (k - 1)).map fun i => 1 + i).map vN))) l2 (.lst (((List.range (sz.length - 1)).map fun i => 1 + i).map vN))) (a := l3) (o := .lst (((List.range (k - 1)).map fun i => 1 + i).map vN ++ ((List.range (sz.length - 1)).map fun i => 1 + i).map vN))
    generalize upd (upd (upd H1 l1 (.lst (((List.range (k - 1)).map fun i => 1 + i).map vN))) l2 (.lst (((List.range (sz.length - 1)).map fun i => 1 + i).map vN))) l3 (.lst (((List.range (k - 1)).map fun i => 1 + i).map vN ++ ((List.range (sz.length - 1)).map fun i => 1 + i).map vN)) = H2 at f13 e3 ⊢
    clear f1 f2 f3 e1' nl1 nl2 nl3
    refine ⟨_, rfl, b, _, rfl, .inr (tb.mono f13).seq, fun l4 nl4 => ?_⟩
    have f4 := same_new (H := H2) (o := .lst ((lotsI p).map V.int)) nl4
    have e4 : (upd H2 l4 (.lst ((lotsI p).map V.int))) l4 = some (.lst ((lotsN p).map vN)) := by
      rw [upd_same, List.map_map]
      rfl
    refine ⟨l3, l4, _, _, rfl, rfl, f4 _ _ e3, e4, ?_, fun l5 nl5 => ?_⟩
    · rw [List.length_append, List.length_map, List.length_map, List.length_map, List.length_map, List.length_map, List.length_range, List.length_range, ll, sizeLine_eq]
      omega
    have f5 := same_new (o := .lst (((List.range (k - 1)).map fun i => 1 + i).map vN ++ ((List.range (sz.length - 1)).map fun i => 1 + i).map vN ++ (lotsN p).map vN)) nl5
    have s5 := (f13.trans f4).trans f5
    have e5 : (upd (upd H2 l4 (.lst ((lotsI p).map V.int))) l5 (.lst (((List.range (k - 1)).map fun i => 1 + i).map vN ++ ((List.range (sz.length - 1)).map fun i => 1 + i).map vN ++ (lotsN p).map vN))) l5 = some (.lst (((List.range (k - 1)).map fun i => 1 + i) ++ ((List.range (sz.length - 1)).map fun i => 1 + i) ++ lotsN p |>.map vN)) := by
      rw [upd_same, List.map_append, List.map_append]
    generalize upd (upd H2 l4 (.lst ((lotsI p).map V.int))) l5 (.lst (((List.range (k - 1)).map fun i => 1 + i).map vN ++ ((List.range (sz.length - 1)).map fun i => 1 + i).map vN ++ (lotsN p).map vN)) = H3 at s5 e5 ⊢
    clear f13 f4 f5 nl4 nl5 e3 e4
    have ov : prodN (((List.range (k - 1)).map fun i => 1 + i) ++ ((List.range (sz.length - 1)).map fun i => 1 + i) ++ lotsN p) = fac (k - 1) * fac (sz.length - 1) * sizesP k p := by
      rw [prodN_app, prodN_app, lots_prod hk]
      have r1 : prodR 1 (k - 1 + 1) = prodN ((List.range (k - 1)).map fun i => 1 + i) := rfl
      have r2 : prodR 1 (sz.length - 1 + 1) = prodN ((List.range (sz.length - 1)).map fun i => 1 + i) := rfl
      rw [← r1, ← r2, prodR_fac, prodR_fac]
    have obd : fac (k - 1) * fac (sz.length - 1) * sizesP k p < 2 ^ 360 := by
      have h1 := fac_mul (k - 1) (sz.length - 1)
      have h2 := fac_small (n := (k - 1) + (sz.length - 1)) (by omega)
      have h3 := (prodN_two (lots_pos par)).1
      rw [lots_sum par, ll, lots_prod hk] at h3
      have h4 : 2 ^ (p.length - k) ≤ 2 ^ 60 := Nat.pow_le_pow_right (by decide) (by omega)
      rw [show (360 : Nat) = 280 + 80 from rfl, Nat.pow_add]
      exact Nat.mul_lt_mul'' (Nat.lt_of_le_of_lt h1 h2) (Nat.lt_of_le_of_lt (Nat.le_trans h3 h4) (by decide))
    refine ⟨l5, _, rfl, sqL e5, prod_ok (fun x hx => ?_) (by rw [ov]; exact obd), ?_⟩
    · rcases List.mem_append.mp hx with hx | hx
      · rcases List.mem_append.mp hx with hx | hx
        · obtain ⟨i, _, rfl⟩ := List.mem_map.mp hx; omega
        · obtain ⟨i, _, rfl⟩ := List.mem_map.mp hx; omega
      · exact lots_pos par x hx
    rw [foldl_prodN, Nat.one_mul, ov]
    change tSeq _ _ _ [some (.ref a), some (.ref t), some (.ref b), some (vN (fac (k - 1) * fac (sz.length - 1) * sizesP k p)), none, none] H3
    have tp := tp.mono s5
    have tt := tt.mono s5
    have s1 := s1.trans s5
    clear s5 e5 tb
    obtain ⟨ov', hov⟩ : ∃ ov', fac (k - 1) * fac (sz.length - 1) * sizesP k p = ov' := ⟨_, rfl⟩
    rw [hov]
    refine ⟨_, rfl, t, rfl, ⟨_, tt.seq⟩, fun G nG => ?_⟩
    refine lc_tup (K := K) (a := t) (xs := (toI sz).map V.int) (fun i H4 => Same H3 H4 ∧ H4 G = some (.lst (((sz.take i).map fun s => fac (s - 1)).map vN))) ⟨same_new nG, upd_same⟩ (fun i H4 _ ⟨s4, _⟩ => (tt.mono s4).seq) ?_ ?_
    · rintro i v H4 hi ⟨s4, eG⟩
      obtain ⟨z, hz, rfl⟩ := map_at hi
      obtain ⟨x, hx, rfl⟩ := map_at hz
      have x1 := ok.pos x (List.mem_of_getElem? hx)
      have x2 := ok.le x (List.mem_of_getElem? hx)
      have il := (List.getElem?_eq_some_iff.mp hx).1
      refine ⟨rfl, _, rfl, _, _, rfl, rfl, RgOk.of_le (by omega) (by omega) (by omega) (by omega), fun l nl => ?_⟩
      rw [rgV_nat]
      have sl := same_new (H := H4) (o := .lst (((List.range (x - 1)).map fun i => 1 + i).map vN)) nl
      refine ⟨l, _, rfl, sqL upd_same, prodR_ok (by decide) (by omega), ?_⟩
      have pr : prodR 1 x = fac (x - 1) := by
        have := prodR_fac (x - 1)
        rwa [show x - 1 + 1 = x by omega] at this
      rw [prodR_fold, pr]
      refine ⟨_, sl _ _ eG, ?_, same_mut (s4.trans sl) nG, ?_⟩
      · rw [List.length_map, List.length_map, List.length_take]
        exact small_of (by omega)
      · rw [upd_same, take_snoc hx, List.map_append, List.map_append]
        rfl
    rintro H4 ⟨s4, eG⟩
    rw [List.length_map, List.length_map, List.take_length] at eG
    have A280 : prodN (sz.map fun s => fac (s - 1)) < 2 ^ 280 := by have := less_small ok sz.length; rwa [List.take_length] at this
    refine ⟨G, _, rfl, sqL eG, prod_ok (fun x hx => by obtain ⟨y, _, rfl⟩ := List.mem_map.mp hx; exact fac_pos _) (Nat.lt_trans A280 (by decide +kernel)), ?_⟩
    rw [foldl_prodN, Nat.one_mul]
    have tp := tp.mono s4
    have tt := tt.mono s4
    have s1 := s1.trans s4
    clear s4 eG nG
    refine ⟨_, rfl, a, _, rfl, .inr tp.seq, _, _, rfl, rfl, ?_⟩
    rw [lpl]
    have bnd : ∀ i, i ≤ p.length → prodN (sz.map fun s => fac (s - 1)) * kindsTo sz i < 2 ^ 560 := fun i hi =>
      Nat.lt_of_le_of_lt (by rw [← kindsTo_all ok]; exact Nat.mul_le_mul (Nat.le_refl _) (kindsTo_le sz hi)) (below_small ok)
    refine ⟨((1 : Nat) : Int), _, rfl, ⟨by decide, by decide, by omega, by omega⟩, for_range (lo := 1) (n := (((p.length : Nat) : Int) + ((1 : Nat) : Int) - ((1 : Nat) : Int)).toNat)
      (fun i σ H5 => ∃ y5 : Option V, σ = [some (.ref a), some (.ref t), some (.ref b), some (vN ov'), some (vN (prodN (sz.map fun s => fac (s - 1)) * kindsTo sz i)), y5] ∧ Same H4 H5) ⟨none, ?_, Same.refl _⟩ ?_ ?_⟩
    · show _ = [_, _, _, _, some (vN (prodN (sz.map fun s => fac (s - 1)) * 1)), _]
      rw [Nat.mul_one]
      rfl
    · rintro i σ H5 hi ⟨y5, rfl, s5⟩
      have ip : i < p.length := by omega
      change gName 5 (V.int (((1 : Nat) : Int) + ((i : Nat) : Int))) _ _ _
      rw [show ((1 : Nat) : Int) + ((i : Nat) : Int) = ((i + 1 : Nat) : Int) by omega]
      have cle : cntN (i + 1) sz ≤ 60 := by
        have := List.length_filter_le (fun x => decide (x = i + 1)) sz
        unfold cntN
        omega
      refine ⟨_, rfl, _, rfl, t, _, rfl, .inr (tt.mono s5).seq, fun l nl => ?_⟩
      have sl := same_new (H := H5) (o := .lst ((toI sz).map V.int)) nl
      refine ⟨.inl ⟨rfl, _, .inl (.inl upd_same)⟩, _, rfl, l, toI sz, _, rfl, rfl, sqL upd_same, _, _, rfl, rfl, _, _, rfl, rfl, ?_⟩
      rw [count_howOft, howOft_toI, show ((cntN (i + 1) sz : Nat) : Int) + ((1 : Nat) : Int) = ((cntN (i + 1) sz + 1 : Nat) : Int) by omega]
      refine ⟨RgOk.of_le (by omega) (by omega) (by omega) (by omega), fun l2 nl2 => ?_⟩
      rw [rgV_nat]
      have s6 := s5.trans (sl.trans (same_new (o := .lst (((List.range (cntN (i + 1) sz + 1 - 1)).map fun i => 1 + i).map vN)) nl2))
      refine ⟨l2, _, rfl, sqL upd_same, prodR_ok (by decide) (by omega), ?_⟩
      rw [prodR_fold, prodR_fac]
      refine ⟨_, _, rfl, rfl, wide_mul (nat_abs (bnd i (by omega))) (nat_abs (fac_small cle)) (by decide) (by decide) (by decide), some (vN (i + 1)), ?_, s6⟩
      refine congrArg (fun z => [some (V.ref a), some (V.ref t), some (V.ref b), some (vN ov'), some (V.int z), some (vN (i + 1))]) ?_
      rw [← Int.natCast_mul, kindsTo_succ, Nat.mul_assoc]
    · rintro σ H5 ⟨y5, rfl, s5⟩
      rw [show (((p.length : Nat) : Int) + ((1 : Nat) : Int) - ((1 : Nat) : Int)).toNat = p.length by omega, kindsTo_all ok]
      have b0 : 0 < belowN p.length sz := by
        unfold belowN
        exact Nat.mul_pos (prodN_pos fun x hx => by obtain ⟨y, _, rfl⟩ := List.mem_map.mp hx; exact fac_pos _) (prodN_pos fun x hx => by obtain ⟨y, _, rfl⟩ := List.mem_map.mp hx; exact fac_pos _)
      refine ⟨_, rfl, _, rfl, _, _, rfl, rfl, wide_div (b := 560) (by omega) (nat_abs (below_small ok)) (by decide) (by decide), ?_⟩
      have := q H5 (s1.trans s5)
      rw [show bySz k p.length (sizesP k p) sz = fac (k - 1) * fac (sz.length - 1) * sizesP k p / belowN p.length sz from if_pos e1, hov] at this
      show Q (.int (((ov' : Nat) : Int) / ((belowN p.length sz : Nat) : Int))) H5
      rw [← Int.natCast_ediv]
      exact this
end
end KQ
/-! all descending rows of sizes with a sum told, and the sum of the formula over them (looked through by the kernel) -/
namespace KQ
open PySem PySem.Spec PyProof.Rows L2 KR KM StX
/-- how great the next size may be -/
def szTop (total many most : Nat) (row : List Nat) : Nat := min (row.getLastD most) (total - row.sum - (many - row.length - 1))
def szNext (total many most : Nat) (rows : List (List Nat)) : List (List Nat) := rows.flatMap fun row => (List.range (szTop total many most row)).map fun i => row ++ [i + 1]
def szRows (total many most : Nat) : Nat → List (List Nat)
  | 0 => [[]]
  | t + 1 => szNext total many most (szRows total many most t)
def allSz (total many most : Nat) : List (List Nat) := (szRows total many most many).filter fun row => Nat.beq row.sum total
theorem szRows_len {total many most : Nat} : ∀ (t : Nat) (row : List Nat), row ∈ szRows total many most t → row.length = t
  | 0, row, h => by rw [List.mem_singleton.mp h]; rfl
  | t + 1, row, h => by
    obtain ⟨r, hr, h2⟩ := List.mem_flatMap.mp h
    obtain ⟨i, _, rfl⟩ := List.mem_map.mp h2
    rw [List.length_append, szRows_len t r hr]
    rfl
theorem szRows_pos {total many most : Nat} : ∀ (t : Nat) (row : List Nat), row ∈ szRows total many most t → ∀ x ∈ row, 1 ≤ x
  | 0, row, h => by rw [List.mem_singleton.mp h]; intro x hx; cases hx
  | t + 1, row, h => by
    obtain ⟨r, hr, h2⟩ := List.mem_flatMap.mp h
    obtain ⟨i, _, rfl⟩ := List.mem_map.mp h2
    intro x hx
    cases List.mem_append.mp hx with
    | inl h3 => exact szRows_pos t r hr x h3
    | inr h3 => rw [List.mem_singleton.mp h3]; omega
theorem szRows_down {total many most : Nat} : ∀ (t : Nat) (row : List Nat), row ∈ szRows total many most t → row.Pairwise (fun a b => b ≤ a) ∧ ∀ x ∈ row, row.getLastD most ≤ x
  | 0, row, h => by rw [List.mem_singleton.mp h]; exact ⟨.nil, fun x hx => by cases hx⟩
  | t + 1, row, h => by
    obtain ⟨r, hr, h2⟩ := List.mem_flatMap.mp h
    obtain ⟨i, hi, rfl⟩ := List.mem_map.mp h2
    obtain ⟨pw, lst⟩ := szRows_down t r hr
    have hi := List.mem_range.mp hi
    unfold szTop at hi
    have up : ∀ x ∈ r, i + 1 ≤ x := fun x hx => by
      have := lst x hx
      omega
    have eL : (r ++ [i + 1]).getLastD most = i + 1 := by
      rw [List.getLastD_eq_getLast?, List.getLast?_append]
      rfl
    refine ⟨List.pairwise_append.mpr ⟨pw, List.pairwise_singleton _ _, fun a ha b hb => by rw [List.mem_singleton.mp hb]; exact up a ha⟩, fun x hx => ?_⟩
    rw [eL]
    cases List.mem_append.mp hx with
    | inl h3 => exact up x h3
    | inr h3 => rw [List.mem_singleton.mp h3]; exact Nat.le_refl _
theorem allSz_len {total many most : Nat} {row : List Nat} (h : row ∈ allSz total many most) : row.length = many := szRows_len _ _ (List.mem_filter.mp h).1
theorem allSz_ok {n many most : Nat} {row : List Nat} (h : row ∈ allSz n many most) (m1 : 1 ≤ many) (top : n ≤ 60) : SzOk n row where
  ne := fun e => by have := allSz_len h; rw [e] at this; simp at this; omega
  pos := szRows_pos _ _ (List.mem_filter.mp h).1
  down := (szRows_down _ _ (List.mem_filter.mp h).1).1
  sum := Nat.eq_of_beq_eq_true (List.mem_filter.mp h).2
  top := top
def szFine (n k : Nat) : Bool :=
  let rows := allSz n (n + 1 - k) n
  rows.all (fun sz => Nat.beq (fac (k - 1) * fac (sz.length - 1) % belowN n sz) 0) && Nat.beq ((rows.map fun sz => fac (k - 1) * fac (sz.length - 1) / belowN n sz).sum) ((n + 1 - k) ^ (k - 2))
def szAll : Bool := (List.range 12).all fun m => (List.range m).all fun j => szFine (m + 1) (j + 2)
theorem sz_all : szAll = true := by decide +kernel
theorem sz_fine {n k : Nat} (h : n ≤ 12) (k2 : 2 ≤ k) (hk : k ≤ n) : szFine n k = true := by
  have g := List.all_eq_true.mp (List.all_eq_true.mp sz_all (n - 1) (List.mem_range.mpr (by omega))) (k - 2) (List.mem_range.mpr (by omega))
  rw [show n - 1 + 1 = n by omega, show k - 2 + 2 = k by omega] at g
  exact g
def szOne : Bool := (List.range 12).all fun m => Nat.beq ((allSz (m + 1) (m + 1) (m + 1)).map fun sz => bySz 1 (m + 1) (m + 1) sz).sum 1
theorem sz_one : szOne = true := by decide +kernel
theorem sum_times (B : Nat) (f : List Nat → Nat) : ∀ (xs : List (List Nat)), (xs.map fun s => f s * B).sum = (xs.map f).sum * B
  | [] => (Nat.zero_mul B).symm
  | x :: xs => by rw [List.map_cons, List.map_cons, List.sum_cons, List.sum_cons, sum_times B f xs, Nat.add_mul]
/-- over all rows of sizes, the formula adds up to all that meet -/
theorem sum_bySz {n k B : Nat} (h : n ≤ 12) (k2 : 2 ≤ k) (hk : k ≤ n) : ((allSz n (n + 1 - k) n).map fun sz => bySz k n B sz).sum = B * (n + 1 - k) ^ (k - 2) := by
  have g := sz_fine h k2 hk
  unfold szFine at g
  rw [Bool.and_eq_true] at g
  have e : ∀ sz ∈ allSz n (n + 1 - k) n, bySz k n B sz = fac (k - 1) * fac (sz.length - 1) / belowN n sz * B := fun sz hs => by
    have hm := Nat.eq_of_beq_eq_true (List.all_eq_true.mp g.1 sz hs)
    unfold bySz
    rw [if_pos (by rw [allSz_len hs]; omega), Nat.div_mul_right_comm (Nat.dvd_of_mod_eq_zero hm)]
  rw [List.map_congr_left e, sum_times, Nat.eq_of_beq_eq_true g.2, Nat.mul_comm]
theorem sum_bySz1 {n : Nat} (h : n ≤ 12) (n1 : 1 ≤ n) : ((allSz n n n).map fun sz => bySz 1 n n sz).sum = 1 := by
  have g := Nat.eq_of_beq_eq_true (List.all_eq_true.mp sz_one (n - 1) (List.mem_range.mpr (by omega)))
  rw [show n - 1 + 1 = n by omega] at g
  exact g
end KQ
/-! how many rows of sizes there are, at the most (looked through by the kernel) -/
namespace KQ
open PySem PySem.Spec PyProof.Rows L2 KR KM StX
def szFew : Bool := (List.range 12).all fun n => (List.range (n + 1)).all fun m => (List.range (m + 2)).all fun t => Nat.ble (szRows (n + 1) (m + 1) (n + 1) t).length 200
theorem sz_few : szFew = true := by decide +kernel
theorem szRows_few {n m t : Nat} (n1 : 1 ≤ n) (hn : n ≤ 12) (m1 : 1 ≤ m) (hm : m ≤ n) (ht : t ≤ m) : (szRows n m n t).length ≤ 200 := by
  have g := List.all_eq_true.mp (List.all_eq_true.mp (List.all_eq_true.mp sz_few (n - 1) (List.mem_range.mpr (by omega))) (m - 1) (List.mem_range.mpr (by omega))) t (List.mem_range.mpr (by omega))
  rw [show n - 1 + 1 = n by omega, show m - 1 + 1 = m by omega] at g
  exact Nat.le_of_ble_eq_true g
end KQ
/-! t + u where t may be empty: known, if u is -/
namespace KQ
open PySem PySem.Spec PyProof.Rows L2 KR KM StX
theorem if_factG {b : Bool} {t u : TE} {σ : L2.St} {H : Hp} {Q : VK} (Fact : V → Hp → Prop) (h1 : b = true → ∀ Q : VK, (∀ v H', Fact v H' → Q v H') → t σ H Q) (h2 : b = false → ∀ Q : VK, (∀ v H', Fact v H' → Q v H') → u σ H Q)
    (k : ∀ v H', Fact v H' → Q v H') : if b = true then t σ H Q else u σ H Q := by
  cases b
  · exact h2 rfl Q k
  · exact h1 rfl Q k
section
variable {X : Cx} {K : PySem.W.Frag}
def rCatC : R2 := fun x y H Q => ∃ a b xs ys, x = .ref a ∧ y = .ref b ∧ Rd H a (.tup xs) ∧ Rd H b (.tup ys) ∧ ys ≠ [] ∧ Bare H b ∧ xs.length + ys.length ≤ 100000 ∧ ∀ H' p, Same H H' → Rd H' p (.tup (xs ++ ys)) → Bare H' p → Q (.ref p) H'
theorem op_catC : OpR X (binaryOp .Add) rCatC := by
  intro pins s σ H x y v u Q I rx ry h
  obtain ⟨a, b, xs, ys, rfl, rfl, ha, hb, hy, bb, hz, q⟩ := h
  by_cases hx : xs = []
  · subst hx
    cases rx
    cases ry
    obtain ⟨its, r1, p1, _⟩ := I.tuple (rdT ha)
    obtain ⟨its2, r2, p2, _⟩ := I.tuple (rdT hb)
    cases r1
    exact cat_tup0 p1 p2 ⟨.ref b, H, I, rfl, q H b (Same.refl H) (by rw [List.nil_append]; exact hb) bb⟩
  · exact op_catB pins s σ H _ _ v u Q I rx ry ⟨a, b, xs, ys, rfl, rfl, ha, hb, hx, hy, hz, fun p o np dn => q _ p (same_new np) (.inr ⟨o, upd_same⟩) ⟨o, _, upd_same, dn⟩⟩
end
end KQ
namespace KQ
open PySem PySem.Spec PyProof.Rows L2 KR KM StX
/-- known tuples of sizes, in their order -/
def Raws (H : Hp) (ts : List Addr) (xss : List (List Nat)) : Prop := ts.length = xss.length ∧ ∀ (i : Nat) (t : Addr), ts[i]? = some t → ∃ xs, xss[i]? = some xs ∧ TI H t (toI xs) ∧ Bare H t
theorem Raws.mono {H H' : Hp} {ts : List Addr} {xss : List (List Nat)} (h : Raws H ts xss) (s : Same H H') : Raws H' ts xss := ⟨h.1, fun i t ht => let ⟨xs, a, b, c⟩ := h.2 i t ht; ⟨xs, a, b.mono s, c.mono s⟩⟩
theorem bare_lst {H : Hp} {t L : Addr} {xs : List V} {o : HO} (h : Bare H t) (e : H L = some (.lst xs)) : Bare (upd H L o) t := by
  obtain ⟨p, u, b, d⟩ := h
  refine ⟨p, u, ?_, d⟩
  rw [upd_ne (fun z => by rw [z, e] at b; cases b)]
  exact b
theorem Raws.put {H : Hp} {ts : List Addr} {xss : List (List Nat)} {L : Addr} {xs : List V} {o : HO} (h : Raws H ts xss) (e : H L = some (.lst xs)) : Raws (upd H L o) ts xss := ⟨h.1, fun i t ht => by
  obtain ⟨ys, a, b, c⟩ := h.2 i t ht
  exact ⟨ys, a, rd_lst (show TI _ _ _ from b) e, bare_lst c e⟩⟩
theorem Raws.app {H : Hp} {ts us : List Addr} {xss yss : List (List Nat)} (h : Raws H ts xss) (g : Raws H us yss) : Raws H (ts ++ us) (xss ++ yss) := by
  refine ⟨by rw [List.length_append, List.length_append, h.1, g.1], fun i t ht => ?_⟩
  by_cases hi : i < ts.length
  · rw [List.getElem?_append_left hi] at ht
    obtain ⟨xs, a, b⟩ := h.2 i t ht
    exact ⟨xs, by rw [List.getElem?_append_left (by rw [← h.1]; exact hi)]; exact a, b⟩
  · rw [List.getElem?_append_right (by omega)] at ht
    obtain ⟨xs, a, b⟩ := g.2 _ t ht
    refine ⟨xs, ?_, b⟩
    rw [List.getElem?_append_right (by rw [← h.1]; omega), ← h.1]
    exact a
theorem Raws.nil {H : Hp} : Raws H [] [] := ⟨rfl, fun i t ht => by simp at ht⟩
theorem Raws.one {H : Hp} {t : Addr} {xs : List Nat} (h : TI H t (toI xs)) (b : Bare H t) : Raws H [t] [xs] := ⟨rfl, fun i u hu => by
  match i, hu with
  | 0, hu =>
    obtain rfl : t = u := Option.some.inj hu
    exact ⟨xs, rfl, h, b⟩
  | i + 1, hu => simp at hu⟩
theorem szRows_sum {total many most : Nat} : ∀ (t : Nat) (row : List Nat), row ∈ szRows total many most t → row.sum ≤ total
  | 0, row, h => by rw [List.mem_singleton.mp h]; exact Nat.zero_le _
  | t + 1, row, h => by
    obtain ⟨r, hr, h2⟩ := List.mem_flatMap.mp h
    obtain ⟨i, hi, rfl⟩ := List.mem_map.mp h2
    have hi := List.mem_range.mp hi
    have ih := szRows_sum t r hr
    unfold szTop at hi
    have : (r ++ [i + 1]).sum = r.sum + (i + 1) := by simp
    omega
theorem toI_get {row : List Nat} {j : Nat} {x : Nat} (h : row[j]? = some x) : ((toI row).map V.int)[j]? = some (vN x) := by
  unfold toI
  rw [List.getElem?_map, List.getElem?_map, h]
  rfl
section
variable {P : Program} {w : World} {K : PySem.W.Frag} {mg : Str → Option Value} {base : Heap}
abbrev s__law_all_sizes : Stmt := topS 44
theorem sc__law_all_sizes : FnScope ["total", "many", "most", "rows", "turn", "longer_v", "row", "least", "top", "one"] ["total", "many", "most"] (defScope s__law_all_sizes) := ⟨rfl, rfl, rfl, by decide +kernel, rfl, by decide +kernel, by decide +kernel⟩
def spAllSz : Sp := fun vs H Q _ => ∃ (n m : Nat), vs = [.int n, .int m, .int n] ∧ n ≤ 12 ∧ 1 ≤ m ∧ m ≤ n ∧ ∀ H' l ts, Same H H' → H' l = some (.lst (ts.map V.ref)) → Raws H' ts (allSz n m n) → Q (.ref l) H'
theorem ok_all_sizes (D : DefAt K mg "_law_all_sizes" s__law_all_sizes) (T : Bt mg) : Use P w K mg base "_law_all_sizes" 3 ["total", "many", "most"] spAllSz := by
  refine use_of D (fun f fd F => F.ok sc__law_all_sizes (fun vs H Q E h => ?_) (fun cdv A outer s H vs Q E hr h => ?_)) (fun _ _ _ _ _ _ us hl => match us, hl with | [_, _, _], _ => rfl)
  · obtain ⟨n, m, rfl, _⟩ := h
    rfl
  · obtain ⟨n, m, rfl, hn, m1, hm, q⟩ := h
    refine ⟨_, (pss_cons (ps_set (i := 3) sc__law_all_sizes.nd rfl (Or.inl rfl) (pe_lst (pa_cons (pe_tupB pa_nil) pa_nil)))
      (pss_cons (ps_for PassesOwn.never rfl (pi_range1 (by rfl) T.range (pa_cons (pv 1) pa_nil)) (pg_name (i := 4) sc__law_all_sizes.nd rfl (Or.inl rfl))
      (pss_cons (ps_set (i := 5) sc__law_all_sizes.nd rfl (Or.inl rfl) (pe_lst pa_nil))
      (pss_cons (ps_for PassesOwn.never rfl (k_list (K := K) rfl (pv 3)) (pg_name (i := 6) sc__law_all_sizes.nd rfl (Or.inr rfl))
      (pss_cons (ps_set (i := 7) sc__law_all_sizes.nd rfl (Or.inl rfl) (pe_op op_sub (pe_op op_sub (pv 1) (pe_callB (k_len (K := K) rfl) (by rfl) T.len PySem.boot_len (pa_cons (pv 6) pa_nil))) pe_int))
      (pss_cons (ps_set (i := 8) sc__law_all_sizes.nd rfl (Or.inl rfl) (pe_callB (call_min2 rfl) (by rfl) T.min (by decide +kernel) (pa_cons (pe_ifExp (pt_cmpR (k_neD (K := K) rfl hr.units) (pv 6) (pe_tupB pa_nil) (nomark _)) (pe_ix (k_ixt (K := K) rfl) (pv 6) (pe_un un_neg pe_int) (fun _ _ => rfl)) (pv 2)) (pa_cons (pe_op op_sub (pe_op op_sub (pv 0) (pe_callB (cr_sumT (K := K) rfl rfl) (by rfl) T.sum (by decide +kernel) (pa_cons (pv 6) pa_nil))) (pv 7)) pa_nil))))
      (pss_one (ps_expr (k_bm (K := K) rfl PySem.F.plainAttrs_list PySem.F.slot_list_extend PySem.F.type_list_extend mt_extend (pv 5) (pa_cons (pe_lc (own := [("one", 9)]) rfl sc__law_all_sizes.nd (pi_range2 (by rfl) T.range (pa_cons pe_int (pa_cons (pe_op op_add (pv 8) pe_int) pa_nil))) (blkOk_by (N := ["total", "many", "most", "rows", "turn", "longer_v", "row", "least", "top", "one"]) (sc := defScope s__law_all_sizes) (by decide +kernel)) (fun _ _ _ _ _ => (pg_name (i := 9) sc__law_all_sizes.nd rfl (Or.inl rfl))) (fun _ _ _ _ _ => pts_nil) (fun _ _ _ _ _ => (pe_op op_catC (pv 6) (pe_tupB (pa_cons (pv 9) pa_nil))))) pa_nil)))))))
      (pss_one (ps_set (i := 3) sc__law_all_sizes.nd rfl (Or.inl rfl) (pv 5))))))
      (pss_one (ps_ret (pe_lc (own := [("row", 6)]) rfl sc__law_all_sizes.nd (k_list (K := K) rfl (pv 3)) (blkOk_by (N := ["total", "many", "most", "rows", "turn", "longer_v", "row", "least", "top", "one"]) (sc := defScope s__law_all_sizes) (by decide +kernel)) (fun _ _ _ _ _ => (pg_name (i := 6) sc__law_all_sizes.nd rfl (Or.inl rfl))) (fun _ _ _ _ _ => (pts_one (pt_cmpR op_eq (pe_callB (cr_sumT (K := K) rfl rfl) (by rfl) T.sum (by decide +kernel) (pa_cons (pv 6) pa_nil)) (pv 0) (nomark _)))) (fun _ _ _ _ _ => (pv 6))))))), ?_⟩
    refine ⟨Nat.zero_le _, fun t0 o0 n0 d0 => ⟨by show 1 ≤ sizeLine; decide, fun l0 nl0 => ?_⟩⟩
    have s0 : Same H (upd (upd H t0 (.frz o0 (.tup []))) l0 (.lst [.ref t0])) := (same_new n0).trans (same_new nl0)
    have st0 := same_new (o := .lst [.ref t0]) nl0
    refine ⟨_, rfl, _, rfl, by omega, by omega, for_range (lo := 0) (n := ((m : Nat) : Int).toNat)
      (fun i σ H1 => ∃ l y4 y5 y6 y7 y8, σ = [some (.int ((n : Nat) : Int)), some (.int ((m : Nat) : Int)), some (.int ((n : Nat) : Int)), some (.ref l), y4, y5, y6, y7, y8, none] ∧ Same H H1 ∧ ∃ ts, H1 l = some (.lst (ts.map V.ref)) ∧ Raws H1 ts (szRows n m n i))
      ⟨l0, none, none, none, none, none, rfl, s0, [t0], upd_same, Raws.one (.inr ⟨o0, st0 _ _ upd_same⟩) ⟨o0, _, st0 _ _ upd_same, d0⟩⟩ ?_ ?_⟩
    · rintro i σ H1 hi ⟨l, y4, y5, y6, y7, y8, rfl, sm, ts, el, it⟩
      refine ⟨Nat.zero_le _, fun L nL => ⟨_, rfl, l, rfl, ⟨_, sqL (same_new nL _ _ el)⟩, for_list (K := K) (a := l) (xs := ts.map V.ref)
        (fun j σ H2 => ∃ y6 y7 y8, σ = [some (.int ((n : Nat) : Int)), some (.int ((m : Nat) : Int)), some (.int ((n : Nat) : Int)), some (.ref l), some (.int (0 + (i : Nat))), some (.ref L), y6, y7, y8, none] ∧ Same H1 H2 ∧ ∃ us, H2 L = some (.lst (us.map V.ref)) ∧ Raws H2 us (szNext n m n ((szRows n m n i).take j)))
        ⟨y6, y7, y8, rfl, same_new nL, [], upd_same, Raws.nil⟩ (fun j σ H2 _ ⟨_, _, _, _, s2, _⟩ => sqL (s2 _ _ el)) ?_ ?_⟩⟩
      · rintro j v σ H2 hj ⟨y6, y7, y8, rfl, s2, us, eL, iu⟩
        obtain ⟨t, ht, rfl⟩ := map_at hj
        obtain ⟨row, hrow, et, bt⟩ := it.2 j t ht
        have et2 := et.mono s2
        have bt2 := bt.mono s2
        have rl := szRows_len _ _ (List.mem_of_getElem? hrow)
        have hi2 : i < m := by omega
        have few := szRows_few (n := n) (m := m) (t := i + 1) (by omega) hn m1 hm (by omega)
        have rs := szRows_sum _ _ (List.mem_of_getElem? hrow)
        change tSeq _ _ _ [some (.int ((n : Nat) : Int)), some (.int ((m : Nat) : Int)), some (.int ((n : Nat) : Int)), some (.ref l), some (.int (0 + (i : Nat))), some (.ref L), some (.ref t), y7, y8, none] _
        refine ⟨_, rfl, _, rfl, t, _, rfl, .inr et2.seq, _, _, rfl, rfl, _, _, rfl, rfl, ?_⟩
        rw [List.length_map, List.length_map, rl]
        obtain ⟨least, hl⟩ : ∃ least : Int, (m : Int) - (i : Nat) - 1 = least := ⟨_, rfl⟩
        change gName 7 (V.int ((m : Int) - (i : Nat) - 1)) _ _ _
        rw [hl]
        change tSeq _ _ _ [some (.int ((n : Nat) : Int)), some (.int ((m : Nat) : Int)), some (.int ((n : Nat) : Int)), some (.ref l), some (.int (0 + (i : Nat))), some (.ref L), some (.ref t), some (.int least), y8, none] _
        refine ⟨_, rfl, ?_⟩
        refine ⟨Nat.zero_le _, fun e0 oe ne0 de0 => ?_⟩
        have s3 := same_new (H := H2) (o := .frz oe (.tup [])) ne0
        have de : TI (upd H2 e0 (.frz oe (.tup []))) e0 ([] : List Int) := .inr ⟨oe, upd_same⟩
        have et3 := et2.mono s3
        have bt3 := bt2.mono s3
        have eL3 := s3 _ _ eL
        have iu3 := iu.mono s3
        have s23 := s2.trans s3
        generalize upd H2 e0 (.frz oe (.tup [])) = H3 at s3 de et3 bt3 eL3 iu3 s23 ⊢
        refine ⟨.tuple ((toI row).map PyData.int), .tuple (([] : List Int).map PyData.int), dp_ti et3, dp_ti de, shaped_intsT _, rfl, _, rfl, ?_⟩
        rw [show (!PyData.eqv (.tuple ((toI row).map PyData.int)) (.tuple (([] : List Int).map PyData.int))) = !(toI row).isEmpty from eqv_nilT _]
        refine if_factG (fun v H' => v = vN (row.getLastD n) ∧ H' = H3) (fun e Qv kv => ?_) (fun e Qv kv => ?_) ?_
        · have rne : row ≠ [] := fun z => by rw [z] at e; cases e
          have lp := List.length_pos_iff.mpr rne
          obtain ⟨x, hx⟩ := at_some (xs := row) (i := row.length - 1) (by omega)
          refine ⟨_, rfl, 1, rfl, t, _, _, vN x, rfl, rfl, et3.seq, atI_end ?_, kv _ _ ⟨?_, rfl⟩⟩
          · rw [List.length_map, List.length_map]
            exact toI_get hx
          · congr 2
            rw [List.getLastD_eq_getLast?, List.getLast?_eq_getElem?, hx]
            rfl
        · have re : row = [] := by
            cases row with
            | nil => rfl
            | cons x xs => cases e
          exact ⟨_, rfl, kv _ _ ⟨by rw [re]; rfl, rfl⟩⟩
        rintro v H3' ⟨rfl, rfl⟩
        refine ⟨_, rfl, _, rfl, t, toI row, rfl, et3.seq, _, _, rfl, rfl, _, rfl, _, _, rfl, rfl, _, _, rfl, ?_⟩
        rw [toI_sum]
        obtain ⟨top, htop⟩ : ∃ top : Int, (if (n : Int) - ((row.sum : Nat) : Int) - least < ((row.getLastD n : Nat) : Int) then (n : Int) - ((row.sum : Nat) : Int) - least else ((row.getLastD n : Nat) : Int)) = top := ⟨_, rfl⟩
        have tz : top.toNat = szTop n m n row := by
          unfold szTop
          rw [rl, ← htop]
          split
          · omega
          · omega
        have tle : top ≤ n := by
          rw [← htop]
          split
          · omega
          · omega
        change gName 8 (V.int (if (n : Int) - ((row.sum : Nat) : Int) - least < ((row.getLastD n : Nat) : Int) then (n : Int) - ((row.sum : Nat) : Int) - least else ((row.getLastD n : Nat) : Int))) _ _ _
        rw [htop]
        have fl := flat_le (fun row => (List.range (szTop n m n row)).map fun i => row ++ [i + 1]) hrow
        have fl2 : ((szRows n m n i).flatMap fun row => (List.range (szTop n m n row)).map fun i => row ++ [i + 1]).length ≤ 200 := few
        rw [List.length_map, List.length_range, ← tz] at fl
        refine ⟨_, rfl, .inl ⟨rfl, _, .inl (.inl eL3)⟩, ?_⟩
        refine ⟨_, rfl, _, _, rfl, rfl, 1, top + 1, rfl, ⟨by omega, by omega, by omega, by omega⟩, fun C nC => ?_⟩
        refine lc_range (lo := 1) (n := (top + 1 - 1).toNat) (fun j H4 => Same H3' H4 ∧ ∃ cs, H4 C = some (.lst (cs.map V.ref)) ∧ Raws H4 cs (((List.range (szTop n m n row)).map fun i => row ++ [i + 1]).take j)) ⟨same_new nC, [], upd_same, Raws.nil⟩ ?_ ?_
        · rintro j H4 hj ⟨s4, cs, eC, ic⟩
          have hj2 : j < szTop n m n row := by omega
          refine ⟨rfl, _, rfl, _, rfl, by show 1 ≤ sizeLine; decide, fun c oc nc dc => ?_⟩
          have s5 := same_new (H := H4) (o := .frz oc (.tup [V.int (1 + (j : Nat))])) nc
          refine ⟨t, c, _, _, rfl, rfl, (et3.mono s4).mono s5, .inr ⟨oc, upd_same⟩, fun e => (by cases e), ⟨oc, _, upd_same, dc⟩, ?_, fun H6 d s6 ed bd => ?_⟩
          · rw [List.length_map, List.length_map, rl]
            show i + 1 ≤ _
            omega
          have s46 := s5.trans s6
          have eC6 := s46 _ _ eC
          have lc' := ic.1
          rw [List.length_take, List.length_map, List.length_range] at lc'
          refine ⟨_, eC6, ?_, same_mut (s4.trans s46) nC, cs ++ [d], ?_, ?_⟩
          · rw [List.length_map]
            exact small_of (by omega)
          · rw [upd_same, List.map_append]
            rfl
          · rw [take_snoc (x := row ++ [j + 1]) (by rw [List.getElem?_map, List.getElem?_range hj2]; rfl)]
            refine Raws.app ((ic.mono s46).put eC6) (Raws.one (rd_lst (show TI H6 d (toI (row ++ [j + 1])) from ?_) eC6) (bare_lst bd eC6))
            show Rd H6 d (.tup ((toI (row ++ [j + 1])).map V.int))
            rw [show (toI (row ++ [j + 1])).map V.int = (toI row).map V.int ++ [V.int (1 + (j : Nat))] from by
              unfold toI
              rw [List.map_append, List.map_append]
              congr 2
              show [V.int ((j + 1 : Nat) : Int)] = _
              congr 2
              omega]
            exact ed
        · rintro H4 ⟨s4, cs, eC, ic⟩
          rw [show (top + 1 - 1).toNat = szTop n m n row by rw [← tz]; omega, show ((List.range (szTop n m n row)).map fun i => row ++ [i + 1]).take (szTop n m n row) = (List.range (szTop n m n row)).map fun i => row ++ [i + 1] from List.take_of_length_le (by rw [List.length_map, List.length_range]; exact Nat.le_refl _)] at ic
          have l1 := ic.1
          have l2 := iu.1
          rw [List.length_map, List.length_range] at l1
          have eL4 := s4 _ _ eL3
          have nCL : C ≠ L := fun e => by rw [e, eL3] at nC; cases nC
          have l2' : us.length + top.toNat ≤ 200 := by
            have : us.length = ((List.take j (szRows n m n i)).flatMap fun row => (List.range (szTop n m n row)).map fun i => row ++ [i + 1]).length := l2
            omega
          refine ⟨L, C, _, _, rfl, rfl, eL4, eC, ?_, some (.ref t), some (.int least), some (.int top), rfl, same_mut (s23.trans s4) nL, us ++ cs, ?_, ?_⟩
          · rw [List.length_map, List.length_map]
            exact Nat.le_of_lt (small_of (by omega))
          · rw [upd_same, List.map_append]
          · rw [show szNext n m n (List.take (j + 1) (szRows n m n i)) = szNext n m n (List.take j (szRows n m n i)) ++ (List.range (szTop n m n row)).map fun i => row ++ [i + 1] from flat_take _ hrow]
            exact ((iu3.mono s4).put eL4).app (ic.put eL4)
      · rintro σ H2 ⟨y6, y7, y8, rfl, s2, us, eL, iu⟩
        refine ⟨_, rfl, L, some (.int (0 + (i : Nat))), some (.ref L), y6, y7, y8, rfl, sm.trans s2, us, eL, ?_⟩
        rw [List.length_map, it.1, List.take_length] at iu
        exact iu
    · rintro σ H1 ⟨l, y4, y5, y6, y7, y8, rfl, sm, ts, el, it⟩
      rw [Int.toNat_natCast] at it
      have few := szRows_few (n := n) (m := m) (t := m) (by omega) hn m1 hm (Nat.le_refl _)
      refine ⟨_, rfl, l, rfl, ⟨_, sqL el⟩, fun G nG => ?_⟩
      refine lc_list (K := K) (a := l) (xs := ts.map V.ref) (fun j H3 => Same H1 H3 ∧ ∃ us : List Addr, H3 G = some (.lst (us.map V.ref)) ∧ Raws H3 us (((szRows n m n m).take j).filter fun row => Nat.beq row.sum n))
        ⟨same_new nG, [], upd_same, Raws.nil⟩ (fun j H3 _ ⟨s3, _⟩ => sqL (s3 _ _ el)) ?_ ?_
      · rintro j v H3 hj ⟨s3, us, eL, iu⟩
        obtain ⟨t, ht, rfl⟩ := map_at hj
        obtain ⟨row, hrow, et, bt⟩ := it.2 j t ht
        have et3 := et.mono s3
        have fl : (((szRows n m n m).take j).filter fun row => Nat.beq row.sum n).length ≤ ((szRows n m n m).take j).length := List.length_filter_le _ _
        rw [List.length_take] at fl
        have tk : (((szRows n m n m).take (j + 1)).filter fun row => Nat.beq row.sum n) = (((szRows n m n m).take j).filter fun row => Nat.beq row.sum n) ++ if Nat.beq row.sum n = true then [row] else [] := by
          rw [take_snoc hrow, List.filter_append]
          congr 1
          rw [List.filter_cons]
          rfl
        refine ⟨rfl, _, rfl, t, toI row, rfl, et3.seq, _, rfl, rfl, _, rfl, ite2 (fun e => ?_) (fun e => ?_)⟩
        · have e2 : row.sum = n := by
            have h := toI_sum row
            simp at e
            omega
          refine ⟨_, rfl, _, eL, ?_, same_mut s3 nG, us ++ [t], ?_, ?_⟩
          · rw [List.length_map, iu.1]
            exact Nat.lt_of_le_of_lt (show _ ≤ 200 by omega) (by decide)
          · rw [upd_same, List.map_append]
            rfl
          · rw [tk, if_pos (by rw [e2]; exact Nat.beq_refl n)]
            exact (iu.put eL).app (Raws.one (rd_lst (show TI _ _ _ from et3) eL) (bare_lst (bt.mono s3) eL))
        · have e2 : ¬ row.sum = n := fun z => by
            have h := toI_sum row
            simp at e
            omega
          refine ⟨s3, us, eL, ?_⟩
          rw [tk, if_neg (fun z => e2 (Nat.eq_of_beq_eq_true z)), List.append_nil]
          exact iu
      · rintro H3 ⟨s3, us, eL, iu⟩
        rw [List.length_map, it.1, List.take_length] at iu
        exact q _ _ us (sm.trans s3) eL iu
end
end KQ
/-! up to six doors: the numbers that meet, over all partings, add up to the number of pairs (looked through by the kernel) -/
namespace KQ
open PySem PySem.Spec PyProof.Rows L2 KR KM StX
theorem pairs_fin : ∀ n : _root_.Fin 6, ((allP n.val).map fun p => ((metN (blkN p) p : Nat) : Int)).sum = pairsTo (n.val + 1) n.val := by decide +kernel
theorem pairs_sum {n : Nat} (h : n < 6) : ((allP n).map fun p => ((metN (blkN p) p : Nat) : Int)).sum = pairsTo (n + 1) n := pairs_fin ⟨n, h⟩
end KQ
/-! up to six doors: how many that meet have given sizes (looked through by the kernel, by codes of sizes) -/
namespace KQ
open PySem PySem.Spec PyProof.Rows L2 KR KM StX
def incAt : List Nat → Nat → List Nat
  | [], _ => []
  | x :: xs, 0 => (x + 1) :: xs
  | x :: xs, i + 1 => x :: incAt xs i
def getN : List Nat → Nat → Nat
  | [], _ => 0
  | x :: _, 0 => x
  | _ :: xs, i + 1 => getN xs i
theorem getN_eq : ∀ (xs : List Nat) (i : Nat), getN xs i = xs.getD i 0
  | [], _ => rfl
  | x :: xs, 0 => rfl
  | x :: xs, i + 1 => by
    show getN xs i = _
    rw [getN_eq xs i]
    rfl
def mergeN (P : List Nat) (h x : Nat) : List Nat := P.map fun z => bif Nat.beq z x then h else z
def pw (n : Nat) : Nat := bif Nat.beq n 0 then 0 else 8 ^ n
def codeN (c : List Nat) : Nat := (c.map pw).sum
def endsC (K most : Nat) : List Nat → List Nat → List Nat → List Nat
  | [], c, _ => [codeN c]
  | b :: r, c, P =>
    (((List.range c.length).filter fun i => !Nat.beq (getN P (K + i)) (getN P b)).flatMap fun i => endsC K most r (incAt c i) (mergeN P (getN P b) (getN P (K + i)))) ++ bif Nat.blt c.length most then endsC K most r (c ++ [1]) (P ++ [getN P b]) else []
/-- the sizes so far -/
def sizesOf (done : List Int) (m : Nat) : List Nat := (List.range m).map fun i => howOft ((i : Nat) : Int) done
theorem sizesOf_len (done : List Int) (m : Nat) : (sizesOf done m).length = m := by unfold sizesOf; rw [List.length_map, List.length_range]
def codeI (r : List Int) : Nat := codeN (sizesOf r 8)
theorem sum_appN : ∀ (xs ys : List Nat), (xs ++ ys).sum = xs.sum + ys.sum
  | [], ys => by simp
  | x :: xs, ys => by rw [List.cons_append, List.sum_cons, List.sum_cons, sum_appN xs ys, Nat.add_assoc]
theorem howOft_none {d : Int} {xs : List Int} (h : d ∉ xs) : howOft d xs = 0 := by
  unfold howOft
  have e : (xs.filter fun x => decide (x = d)) = [] := List.filter_eq_nil_iff.mpr fun x hx c => h (of_decide_eq_true c ▸ hx)
  rw [e]
  rfl
theorem code_more {done : List Int} {m : Nat} (hd : ∀ y ∈ done, y < (m : Int)) : ∀ k, codeN (sizesOf done (m + k)) = codeN (sizesOf done m)
  | 0 => rfl
  | k + 1 => by
    rw [← code_more hd k]
    unfold codeN sizesOf
    rw [← Nat.add_assoc, List.range_succ, List.map_append, List.map_append, sum_appN]
    have : howOft ((m + k : Nat) : Int) done = 0 := howOft_none fun z => by have := hd _ z; omega
    show _ + (pw (howOft ((m + k : Nat) : Int) done) + 0) = _
    rw [this]
    rfl
theorem incAt_map (f g : Nat → Nat) : ∀ (m i : Nat), (∀ j, g j = f j + if j = i then 1 else 0) → i < m → incAt ((List.range m).map f) i = (List.range m).map g := fun m => by
  intro i
  have key : ∀ (xs : List Nat) (i : Nat) (g : Nat → Nat), i < xs.length → incAt xs i = (List.range xs.length).map fun j => xs.getD j 0 + if j = i then 1 else 0 := by
    intro xs
    induction xs with
    | nil => intro i g h; cases h
    | cons x xs ih =>
      intro i g h
      rw [List.length_cons, List.range_succ_eq_map, List.map_cons, List.map_map]
      cases i with
      | zero =>
        show (x + 1) :: xs = (x + 1) :: _
        congr 1
        refine List.ext_getElem? fun j => ?_
        rw [List.getElem?_map]
        by_cases hj : j < xs.length
        · rw [List.getElem?_range hj, List.getElem?_eq_getElem hj]
          show _ = some ((x :: xs).getD (j + 1) 0 + if j + 1 = 0 then 1 else 0)
          rw [if_neg (by omega), List.getD_eq_getElem?_getD, List.getElem?_cons_succ, List.getElem?_eq_getElem hj]
          rfl
        · rw [List.getElem?_eq_none (by omega), List.getElem?_eq_none (by rw [List.length_range]; omega)]
          rfl
      | succ i =>
        show x :: incAt xs i = _ :: _
        rw [ih i g (by rw [List.length_cons] at h; omega)]
        congr 1
        refine List.map_congr_left fun j _ => ?_
        show _ = (x :: xs).getD (j + 1) 0 + if j + 1 = i + 1 then 1 else 0
        congr 1
        by_cases e : j = i
        · rw [if_pos e, if_pos (by omega)]
        · rw [if_neg e, if_neg (by omega)]
  intro hg hi
  rw [key _ i g (by rw [List.length_map, List.length_range]; exact hi), List.length_map, List.length_range]
  refine List.map_congr_left fun j hj => ?_
  have hj := List.mem_range.mp hj
  rw [hg j, List.getD_eq_getElem?_getD, List.getElem?_map, List.getElem?_range hj]
  rfl
theorem toN_getD {P : List Int} (x : Nat) : getN (P.map Int.toNat) x = (P.getD x 0).toNat := by
  rw [getN_eq, List.getD_eq_getElem?_getD, List.getD_eq_getElem?_getD, List.getElem?_map]
  cases P[x]? <;> rfl
theorem getD_pos {P : List Int} (h : ∀ x ∈ P, 0 ≤ x) (i : Nat) : 0 ≤ P.getD i 0 := by
  rw [List.getD_eq_getElem?_getD]
  by_cases hi : i < P.length
  · rw [List.getElem?_eq_getElem hi]
    exact h _ (List.getElem_mem hi)
  · rw [List.getElem?_eq_none (by omega)]
    exact Int.le_refl _
theorem beq_toN {x y : Int} (hx : 0 ≤ x) (hy : 0 ≤ y) : Nat.beq x.toNat y.toNat = decide (x = y) := by
  by_cases e : x = y
  · rw [decide_eq_true e, e]
    exact Nat.beq_refl _
  · rw [decide_eq_false e]
    exact Bool.eq_false_iff.mpr fun z => e (by have := Nat.eq_of_beq_eq_true z; omega)
theorem merge_toN {P : List Int} (hP : ∀ x ∈ P, 0 ≤ x) {u v : Int} (hu : 0 ≤ u) (hv : 0 ≤ v) : (mergeL P u v).map Int.toNat = mergeN (P.map Int.toNat) u.toNat v.toNat := by
  unfold mergeL mergeN
  rw [List.map_map, List.map_map]
  refine List.map_congr_left fun z hz => ?_
  show (if z = v then u else z).toNat = bif Nat.beq z.toNat v.toNat then u.toNat else z.toNat
  rw [beq_toN (hP z hz) hv]
  by_cases e : z = v
  · rw [if_pos e, decide_eq_true e]
    rfl
  · rw [if_neg e, decide_eq_false e]
    rfl
theorem ends_code (K most : Nat) : ∀ (rem done P : List Int), (∀ b ∈ rem, 0 ≤ b) → K ≤ P.length → (∀ x ∈ P, 0 ≤ x) → (∀ y ∈ done, y < ((P.length - K : Nat) : Int)) → P.length - K + rem.length ≤ 8 →
    (endsL K most rem (done, P)).map codeI = endsC K most (rem.map Int.toNat) (sizesOf done (P.length - K)) (P.map Int.toNat)
  | [], done, P, _, hK, hP, hd, h8 => by
    show [codeI done] = [codeN _]
    unfold codeI
    have h8 : P.length - K ≤ 8 := h8
    rw [show (8 : Nat) = (P.length - K) + (8 - (P.length - K)) by omega, code_more hd]
  | b :: r, done, P, hb, hK, hP, hd, h8 => by
    have b0 := hb b List.mem_cons_self
    have hbr := fun x hx => hb x (List.mem_cons_of_mem b hx)
    obtain ⟨made, hmade⟩ : ∃ made, P.length - K = made := ⟨_, rfl⟩
    rw [hmade] at hd h8 ⊢
    rw [List.length_cons] at h8
    have l0 : 0 ≤ labF P b := getD_pos hP _
    have gb : getN (P.map Int.toNat) b.toNat = (labF P b).toNat := toN_getD _
    show ((nextL K most (done, P) b).flatMap (endsL K most r)).map codeI = (((List.range (sizesOf done made).length).filter fun i => !Nat.beq (getN (P.map Int.toNat) (K + i)) (getN (P.map Int.toNat) b.toNat)).flatMap fun i => endsC K most (r.map Int.toNat) (incAt (sizesOf done made) i) (mergeN (P.map Int.toNat) (getN (P.map Int.toNat) b.toNat) (getN (P.map Int.toNat) (K + i)))) ++
      bif Nat.blt (sizesOf done made).length most then endsC K most (r.map Int.toNat) (sizesOf done made ++ [1]) (P.map Int.toNat ++ [getN (P.map Int.toNat) b.toNat]) else []
    rw [sizesOf_len, gb]
    unfold nextL
    show (((((List.range (P.length - K)).filter fun i => !decide (P.getD (K + i) 0 = labF P b)).map fun i => (done ++ [((i : Nat) : Int)], mergeL P (labF P b) (P.getD (K + i) 0))) ++ (if P.length - K < most then [(done ++ [((P.length - K : Nat) : Int)], P ++ [labF P b])] else [])).flatMap (endsL K most r)).map codeI = _
    rw [hmade, List.flatMap_append, List.map_append, List.map_flatMap, List.flatMap_map]
    have how : ∀ (i j : Nat), howOft ((j : Nat) : Int) (done ++ [((i : Nat) : Int)]) = howOft ((j : Nat) : Int) done + if j = i then 1 else 0 := fun i j => by
      rw [howOft_app, howOft_cons]
      congr 1
      by_cases e : j = i
      · rw [if_pos e, if_pos (by omega)]
        rfl
      · rw [if_neg e, if_neg (by omega)]
        rfl
    congr 1
    · have ef : ((List.range made).filter fun i => !decide (P.getD (K + i) 0 = labF P b)) = ((List.range made).filter fun i => !Nat.beq (getN (P.map Int.toNat) (K + i)) (labF P b).toNat) := List.filter_congr fun i _ => by
        rw [toN_getD, beq_toN (getD_pos hP _) l0]
      rw [ef]
      rw [List.flatMap_def, List.flatMap_def]
      congr 1
      refine List.map_congr_left fun i hi => ?_
      have im := List.mem_range.mp (List.mem_filter.mp hi).1
      have lm : (mergeL P (labF P b) (P.getD (K + i) 0)).length = P.length := by unfold mergeL; rw [List.length_map]
      have ih := ends_code K most r (done ++ [((i : Nat) : Int)]) (mergeL P (labF P b) (P.getD (K + i) 0)) hbr (by rw [lm]; exact hK) (fun x hx => by
        unfold mergeL at hx
        obtain ⟨z, hz, rfl⟩ := List.mem_map.mp hx
        split
        · exact l0
        · exact hP z hz) (fun y hy => by
        rw [lm, hmade]
        rcases List.mem_append.mp hy with hy | hy
        · exact hd y hy
        · rw [List.mem_singleton.mp hy]; omega) (by rw [lm, hmade]; omega)
      rw [lm, hmade, merge_toN hP l0 (getD_pos hP _)] at ih
      show (endsL K most r (done ++ [((i : Nat) : Int)], mergeL P (labF P b) (P.getD (K + i) 0))).map codeI = _
      rw [ih, toN_getD]
      congr 1
      exact (incAt_map _ _ made i (how i) im).symm
    · by_cases hl : made < most
      · rw [if_pos hl, show Nat.blt made most = true from Nat.ble_eq_true_of_le hl]
        show ((endsL K most r (done ++ [((made : Nat) : Int)], P ++ [labF P b])) ++ []).map codeI = endsC K most (r.map Int.toNat) (sizesOf done made ++ [1]) (P.map Int.toNat ++ [(labF P b).toNat])
        have lm : (P ++ [labF P b]).length - K = made + 1 := by rw [List.length_append]; show P.length + 1 - K = _; omega
        have ih := ends_code K most r (done ++ [((made : Nat) : Int)]) (P ++ [labF P b]) hbr (by rw [List.length_append]; omega) (fun x hx => by
          rcases List.mem_append.mp hx with hx | hx
          · exact hP x hx
          · rw [List.mem_singleton.mp hx]; exact l0) (fun y hy => by
          rw [lm]
          rcases List.mem_append.mp hy with hy | hy
          · have := hd y hy; omega
          · rw [List.mem_singleton.mp hy]; omega) (by rw [lm]; omega)
        rw [lm, List.map_append] at ih
        rw [List.append_nil, ih]
        congr 1
        unfold sizesOf
        rw [List.range_succ, List.map_append]
        congr 1
        · refine List.map_congr_left fun j hj => ?_
          have hj := List.mem_range.mp hj
          rw [how, if_neg (by omega), Nat.add_zero]
        · show [howOft ((made : Nat) : Int) (done ++ [((made : Nat) : Int)])] = [1]
          rw [how, if_pos rfl, howOft_none fun z => by have := hd _ z; omega]
      · rw [if_neg hl, show Nat.blt made most = false from Bool.eq_false_iff.mpr fun z => hl (Nat.le_of_ble_eq_true z)]
        rfl
/-- all rows of sizes of n + 1 doors -/
def szs (n : Nat) : List (List Nat) := (List.range (n + 1)).flatMap fun m => allSz (n + 1) (m + 1) (n + 1)
def szDiff (n : Nat) : Bool := (szs n).all fun s => (szs n).all fun t => (!Nat.beq (codeN s) (codeN t)) || decide (s = t)
def szHave (n : Nat) : Bool := (allP n).all fun r => (szs n).any fun s => decide (s = lotsN r)
def fineSz (n : Nat) : Bool := (allP n).all fun p => (szs n).all fun s => Nat.beq ((endsC (blkN p) (n + 2 - blkN p) (p.map Int.toNat) [] (List.range (blkN p))).countP (Nat.beq (codeN s))) (bySz (blkN p) (n + 1) (sizesP (blkN p) p) s)
theorem sz_diff : ∀ n : _root_.Fin 6, szDiff n.val = true := by decide +kernel
theorem sz_have : ∀ n : _root_.Fin 6, szHave n.val = true := by decide +kernel
theorem sz_fine6 : ∀ n : _root_.Fin 6, fineSz n.val = true := by decide +kernel
theorem lots_code {n : Nat} {r : List Int} (par : Par r) (h : r.length = n + 1) (n8 : n < 8) : codeN (lotsN r) = codeI r := by
  have g0 := bc_ge 0 r
  have g1 := bc_le 0 r
  have h1 : codeN (lotsN r) = codeN (sizesOf r (blkN r)) := by
    unfold codeN lotsN
    rw [((sortD_perm _).map pw).sum_nat]
    unfold sizesOf iotaL
    rw [List.map_map, List.map_map, List.map_map]
    rfl
  rw [h1]
  unfold codeI
  have bl : blkN r ≤ 8 := by unfold blkN; omega
  rw [show (8 : Nat) = blkN r + (8 - blkN r) by omega, code_more fun y hy => by
    have := ((rg_mem 0 r (Int.le_refl _) par.rg).1 y hy).2
    unfold blkN
    omega]
theorem mem_szs {n : Nat} (h : n < 6) {r : List Int} (hr : r ∈ allP n) : lotsN r ∈ szs n := by
  have g := List.all_eq_true.mp (sz_have ⟨n, h⟩) r hr
  obtain ⟨s, hs, e⟩ := List.any_eq_true.mp g
  exact of_decide_eq_true e ▸ hs
/-- how many that meet have these sizes -/
theorem count_sz {n k : Nat} (h : n < 6) {p r : List Int} (par : Par p) (hn : p.length = n + 1) (hk : bc 0 p = (k : Int)) (hp : p ∈ allP n) (hr : r ∈ allP n) :
    (metBy n p).countP (fun x => decide (lotsN x = lotsN r)) = bySz k (n + 1) (sizesP k p) (lotsN r) := by
  have bk : blkN p = k := by unfold blkN; rw [hk]; rfl
  have e1 : (metBy n p).countP (fun x => decide (lotsN x = lotsN r)) = ((metBy n p).map codeI).countP (Nat.beq (codeN (lotsN r))) := by
    rw [List.countP_map]
    refine List.countP_congr fun x hx => ?_
    have hx := (List.mem_filter.mp hx).1
    obtain ⟨rx, lx⟩ := allP_ok n x hx
    have px : Par x := ⟨fun e => by (rw [e] at lx; cases lx), by omega, rx⟩
    show _ ↔ Nat.beq (codeN (lotsN r)) (codeI x) = true
    rw [← lots_code px lx (by omega)]
    constructor
    · intro e
      rw [of_decide_eq_true e]
      exact Nat.beq_refl _
    · intro e
      have g := List.all_eq_true.mp (List.all_eq_true.mp (sz_diff ⟨n, h⟩) _ (mem_szs h hr)) _ (mem_szs h hx)
      rw [e] at g
      have g : decide (lotsN r = lotsN x) = true := g
      exact decide_eq_true (of_decide_eq_true g).symm
  have g := List.all_eq_true.mp (List.all_eq_true.mp (sz_fine6 ⟨n, h⟩) p hp) _ (mem_szs h hr)
  have g := Nat.eq_of_beq_eq_true g
  rw [bk] at g
  rw [e1, ← g]
  congr 1
  have pn := fun b hb => ((rg_mem 0 p (Int.le_refl _) par.rg).1 b hb).1
  have kp := bc_le 0 p
  have := ends_code k (p.length + 1 - k) p [] (iotaL k) pn (by rw [iota_len]; exact Nat.le_refl _) (fun x hx => by
    obtain ⟨i, _, rfl⟩ := List.mem_map.mp hx
    omega) (fun y hy => by cases hy) (by rw [iota_len]; omega)
  rw [ends_all par hn hk, iota_len, Nat.sub_self, show p.length + 1 - k = n + 2 - k by omega] at this
  rw [this]
  congr 1
  unfold iotaL
  rw [List.map_map]
  refine (List.map_congr_left (g := id) fun i _ => ?_).trans (List.map_id _)
  exact Int.toNat_natCast i
end KQ
/-! how great the numbers of pairs are (looked through by the kernel) -/
namespace KQ
open PySem PySem.Spec PyProof.Rows L2 KR KM StX
theorem pairs_fit : ∀ n : _root_.Fin 61, 0 ≤ pairsTo n.val (n.val - 1) ∧ pairsTo n.val (n.val - 1) < 2 ^ 360 := by decide +kernel
theorem pairs_nat {n : Nat} (h : n ≤ 60) : ∃ N : Nat, pairsTo n (n - 1) = (N : Int) ∧ N < 2 ^ 360 := by
  obtain ⟨h0, h1⟩ := pairs_fit ⟨n, by omega⟩
  have h0 : 0 ≤ pairsTo n (n - 1) := h0
  have h1 : pairsTo n (n - 1) < 2 ^ 360 := h1
  refine ⟨(pairsTo n (n - 1)).toNat, by omega, ?_⟩
  have : (((pairsTo n (n - 1)).toNat : Nat) : Int) < ((2 ^ 360 : Nat) : Int) := by
    rw [Int.toNat_of_nonneg h0]
    exact h1
  exact Int.ofNat_lt.mp this
end KQ
namespace KQ
open PySem PySem.Spec PyProof.Rows L2 KR KM StX
theorem nc_tiV {p : List Int} (px : Par p) : Nc 1 660 (.tuple (p.map PyData.int)) := (nc_tup (nc_ints (par_small px.rg px.le))).le (by decide) (Nat.mul_le_mul (Nat.le_refl _) px.le)
theorem allP_parV {n : Nat} (h : n < 60) {r : List Int} (hr : r ∈ allP n) : Par r ∧ r.length = n + 1 := by
  obtain ⟨rg, l⟩ := allP_ok n r hr
  exact ⟨⟨fun e => by (rw [e] at l; cases l), by omega, rg⟩, l⟩
theorem allP_203V : ∀ n : _root_.Fin 6, (allP n.val).length ≤ 203 := by decide +kernel
theorem blk_of {p : List Int} (par : Par p) : ∃ k : Nat, bc 0 p = (k : Int) ∧ blkN p = k := by
  have g0 := bc_ge 0 p
  exact ⟨(bc 0 p).toNat, by omega, rfl⟩
theorem lots_ok {p : List Int} (par : Par p) : SzOk p.length (lotsN p) where
  ne := fun e => by
    obtain ⟨k, hk, _⟩ := blk_of par
    have := lots_len hk
    have := (par_blocks par hk).1
    rw [e] at *
    simp at *
    omega
  pos := lots_pos par
  down := sortD_down _
  sum := lots_sum par
  top := par.le
theorem countP_lots (L : List (List Int)) (r : List Int) : (L.map lotsI).countP (fun z => decide (z = lotsI r)) = L.countP fun x => decide (lotsN x = lotsN r) := by
  rw [List.countP_map]
  refine List.countP_congr fun x _ => ?_
  have inj : ∀ {xs ys : List Nat}, (xs.map fun (n : Nat) => (n : Int)) = (ys.map fun (n : Nat) => (n : Int)) → xs = ys := fun {xs ys} h => List.map_inj_right (fun a b e => Int.ofNat.inj e) |>.mp h
  show decide (lotsI x = lotsI r) = true ↔ _
  rw [decide_eq_true_iff, decide_eq_true_iff]
  exact ⟨fun e => inj e, fun e => by show (lotsN x).map _ = (lotsN r).map _; rw [e]⟩
theorem Raws.its {H : Hp} {ts : List Addr} {xss : List (List Nat)} (h : Raws H ts xss) : Its H ts (xss.map toI) := ⟨by rw [List.length_map]; exact h.1, fun i t ht => by
  obtain ⟨xs, a, b, _⟩ := h.2 i t ht
  exact ⟨toI xs, by rw [List.getElem?_map, a]; rfl, b⟩⟩
theorem Raws.kept {H H' : Hp} {m c g : Addr} {b : Int} {ts : List Addr} {xss : List (List Nat)} (h : Raws H ts xss) (ms : MS H m c g b) (k : Kept H H' m g) : Raws H' ts xss := ⟨h.1, fun i t ht => by
  obtain ⟨xs, a, b, o, u, e, d⟩ := h.2 i t ht
  refine ⟨xs, a, k.ti ms b, o, u, k _ _ e (fun z => ?_) (fun z => ?_), d⟩
  · obtain ⟨cs, gs, n, h1, h2, h3, r⟩ := ms
    rw [z, h1] at e
    cases e
  · obtain ⟨cs, gs, n, h1, h2, h3, r⟩ := ms
    rw [z, h3] at e
    cases e⟩
section
variable {P : Program} {w : World} {K : PySem.W.Frag} {mg : Str → Option Value} {base : Heap}
def spLikeI : Sp := fun vs H Q _ => ∃ n : Nat, vs = [vN n, vN n] ∧ n < 2 ^ 370 ∧ Q (.bl true) H
theorem ok_likeI (D : DefAt K mg "_law_like" s__law_like) (T : Bt mg) : Use P w K mg base "_law_like" 1 ["got", "due"] spLikeI := by
  refine use_of D (fun f fd F => F.ok sc__law_like (fun vs H Q E h => ?_) (fun cdv A outer s H vs Q E hr h => ?_)) (fun _ _ _ _ _ _ us hl => match us, hl with | [_, _], _ => rfl)
  · obtain ⟨n, rfl, _⟩ := h
    rfl
  · obtain ⟨n, rfl, hn, q⟩ := h
    have hlog : (((n : Nat) : Int)).natAbs.log2 < 1920 := by
      rw [Int.natAbs_natCast]
      by_cases h0 : n = 0
      · rw [h0]
        decide
      · exact Nat.lt_of_lt_of_le ((Nat.log2_lt h0).2 hn) (by decide)
    refine ⟨_, (pss_one (ps_ret (pe_cmpR op_eq (pe_callB SkE.call_repr_int (by rfl) T.repr (by decide +kernel) (pa_cons (pv 0) pa_nil)) (pe_callB SkE.call_repr_int (by rfl) T.repr (by decide +kernel) (pa_cons (pv 1) pa_nil)) (nomark _)))), ?_⟩
    refine ⟨_, rfl, _, rfl, hlog, _, rfl, _, rfl, hlog, rfl, ?_⟩
    rw [decide_eq_true rfl]
    exact q
abbrev s__law_small_right : Stmt := topS 48
theorem sc__law_small_right : FnScope ["m", "few", "small", "due", "lots", "sizes", "pairs", "row"] ["m"] (defScope s__law_small_right) := ⟨rfl, rfl, rfl, by decide +kernel, rfl, by decide +kernel, by decide +kernel⟩
def spSmallR : Sp := fun vs H Q _ => ∃ m c g, vs = [.ref m] ∧ MS H m c g 0 ∧ ∀ H', MS H' m c g 30 → Q (.bl true) H'
theorem ok_small_right (D : DefAt K mg "_law_small_right" s__law_small_right) (T : Bt mg) (u__law_draw : Use P w K mg base "_law_draw" 2 ["m", "limit"] spDraw) (u__law_any_parting : Use P w K mg base "_law_any_parting" 3 ["m", "many"] spAny)
    (u__law_partings : Use P w K mg base "_law_partings" 1 ["many"] spLParts) (u__law_meet : Use P w K mg base "_law_meet" 2 ["one", "two"] spMeets) (u__law_like : UseG P w K mg base "_law_like" 1 ["got", "due"] (spLike K))
    (u__law_likeI : Use P w K mg base "_law_like" 1 ["got", "due"] spLikeI) (u_all_meeting : Use P w K mg base "all_meeting" 5 ["parting"] spAllMeet) (u_meeting_number : Use P w K mg base "meeting_number" 5 ["parting"] spMetN) (u__law_lots : Use P w K mg base "_law_lots" 1 ["parting"] spLots)
    (u_meeting_by_sizes : Use P w K mg base "meeting_by_sizes" 5 ["parting", "sizes"] spBySz) (u__law_number : Use P w K mg base "_law_number" 2 ["parting"] spMetN) (u_meeting_pairs : Use P w K mg base "meeting_pairs" 3 ["number"] spMPairs) : UseG P w K mg base "_law_small_right" 6 ["m"] spSmallR := by
  refine use_ofG D (fun f fd F => Fun.okG F sc__law_small_right (fun vs H Q E h => ?_) (fun cdv A outer s H vs Q E gd hr h => ?_)) (fun _ _ _ _ _ _ us hl => match us, hl with | [_], _ => rfl)
  · obtain ⟨m, c, g, rfl, _⟩ := h
    rfl
  · obtain ⟨m, c, g, rfl, ms, q⟩ := h
    refine ⟨_, (pss_cons (ps_set (i := 1) sc__law_small_right.nd rfl (Or.inl rfl) (pe_op op_add pe_int (pe_use u__law_draw (by decide) hr (by rfl) (pa_cons (pv 0) (pa_cons pe_int pa_nil)))))
      (pss_cons (ps_set (i := 2) sc__law_small_right.nd rfl (Or.inr rfl) (pe_use u__law_any_parting (by decide) hr (by rfl) (pa_cons (pv 0) (pa_cons (pv 1) pa_nil))))
      (pss_cons (ps_setLc (i := 3) (own := [("row", 7)]) rfl sc__law_small_right.nd rfl rfl (sw_true rfl rfl rfl (by decide +kernel)) (k_list (K := K) rfl (pe_use u__law_partings (by decide) hr (by rfl) (pa_cons (pv 1) pa_nil))) (blkOk_by (N := ["m", "few", "small", "due", "lots", "sizes", "pairs", "row"]) (sc := defScope s__law_small_right) (by decide +kernel)) (fun _ _ _ _ _ => (pg_name (i := 7) sc__law_small_right.nd rfl (Or.inl rfl))) (fun _ _ _ _ _ => (pts_one (pt_val (pe_use u__law_meet (by decide) hr (by rfl) (pa_cons (pv 2) (pa_cons (pv 7) pa_nil)))))) (fun _ _ _ _ _ => (pv 7)))
      (pss_cons (ps_if (pt_not (pt_val (pe_useG u__law_like gd (by decide) hr (by rfl) (pa_cons (pe_lst (pa_cons (pe_use u_all_meeting (by decide) hr (by rfl) (pa_cons (pv 2) pa_nil)) (pa_cons (pe_use u_meeting_number (by decide) hr (by rfl) (pa_cons (pv 2) pa_nil)) pa_nil))) (pa_cons (pe_lst (pa_cons (pe_callTy (k_tupOf (K := K) rfl) (by rfl) T.tuple (by decide +kernel) (pa_cons (pv 3) pa_nil)) (pa_cons (pe_callB (k_len (K := K) rfl) (by rfl) T.len PySem.boot_len (pa_cons (pv 3) pa_nil)) pa_nil))) pa_nil))))) (pss_one (ps_ret pe_bl)) pss_nil)
      (pss_cons (ps_setLc (i := 4) (own := [("row", 7)]) rfl sc__law_small_right.nd rfl rfl (sw_true rfl rfl rfl (by decide +kernel)) (k_list (K := K) rfl (pv 3)) (blkOk_by (N := ["m", "few", "small", "due", "lots", "sizes", "pairs", "row"]) (sc := defScope s__law_small_right) (by decide +kernel)) (fun _ _ _ _ _ => (pg_name (i := 7) sc__law_small_right.nd rfl (Or.inl rfl))) (fun _ _ _ _ _ => pts_nil) (fun _ _ _ _ _ => (pe_use u__law_lots (by decide) hr (by rfl) (pa_cons (pv 7) pa_nil))))
      (pss_cons (ps_for PassesOwn.never rfl (k_list (K := K) rfl (pe_op op_cat (pv 4) (pe_lst (pa_cons (pe_use u__law_lots (by decide) hr (by rfl) (pa_cons (pe_use u__law_any_parting (by decide) hr (by rfl) (pa_cons (pv 0) (pa_cons (pv 1) pa_nil))) pa_nil)) pa_nil)))) (pg_name (i := 5) sc__law_small_right.nd rfl (Or.inl rfl))
      (pss_one (ps_if (pt_not (pt_val (pe_use u__law_likeI (by decide) hr (by rfl) (pa_cons (pe_use u_meeting_by_sizes (by decide) hr (by rfl) (pa_cons (pv 2) (pa_cons (pv 5) pa_nil))) (pa_cons (k_bm (K := K) rfl PySem.F.plainAttrs_list PySem.F.slot_list_count PySem.F.type_list_count (k_rcnt rfl (room66b hr)) (pv 4) (pa_cons (pv 5) pa_nil)) pa_nil))))) (pss_one (ps_ret pe_bl)) pss_nil)))
      (pss_cons (ps_set (i := 6) sc__law_small_right.nd rfl (Or.inl rfl) (pe_callB (cr_sum rfl) (by rfl) T.sum (by decide +kernel) (pa_cons (pe_lc (own := [("row", 7)]) rfl sc__law_small_right.nd (k_list (K := K) rfl (pe_use u__law_partings (by decide) hr (by rfl) (pa_cons (pv 1) pa_nil))) (blkOk_by (N := ["m", "few", "small", "due", "lots", "sizes", "pairs", "row"]) (sc := defScope s__law_small_right) (by decide +kernel)) (fun _ _ _ _ _ => (pg_name (i := 7) sc__law_small_right.nd rfl (Or.inl rfl))) (fun _ _ _ _ _ => pts_nil) (fun _ _ _ _ _ => (pe_use u__law_number (by decide) hr (by rfl) (pa_cons (pv 7) pa_nil)))) pa_nil)))
      (pss_one (ps_ret (pe_use u__law_likeI (by decide) hr (by rfl) (pa_cons (pe_use u_meeting_pairs (by decide) hr (by rfl) (pa_cons (pv 1) pa_nil)) (pa_cons (pv 6) pa_nil)))))))))))), ?_⟩
    refine ⟨_, rfl, m, c, g, 0, 6, rfl, ms, by decide, by decide, by decide, fun H1 d1 k1 ms1 d0 d6 => ⟨1, d1, rfl, rfl, ?_⟩⟩
    obtain ⟨n, rfl⟩ : ∃ n : Nat, d1 = (n : Int) := ⟨d1.toNat, by omega⟩
    have n6 : n < 6 := by omega
    change gName 1 (V.int (1 + ((n : Nat) : Int))) _ _ _
    rw [show (1 : Int) + ((n : Nat) : Int) = ((n + 1 : Nat) : Int) by omega]
    refine ⟨_, rfl, _, rfl, m, c, g, _, _, rfl, ms1, by decide, by omega, by omega, fun H2 ta p k2 ms2 tp par lp => ?_⟩
    have lp : p.length = n + 1 := by omega
    have hp : p ∈ allP n := allP_all n p par.rg lp
    obtain ⟨k, hk, bk⟩ := blk_of par
    have n203 : (allP n).length ≤ 203 := allP_203V ⟨n, n6⟩
    have mfew : (metBy n p).length ≤ 203 := Nat.le_trans (List.length_filter_le _ _) n203
    have mc := met_count par lp hk
    refine ⟨_, rfl, n, rfl, by omega, fun H3 a s3 hlt => ?_⟩
    obtain ⟨ts, ea, its⟩ := hlt
    have its : Its H3 ts (allP n) := its
    have tp3 := tp.mono s3
    have ms3 := ms2.mono s3
    refine ⟨a, rfl, ⟨_, sqL ea⟩, fun G nG => ?_⟩
    refine lc_list (K := K) (a := a) (xs := ts.map V.ref) (fun j H4 => Same H3 H4 ∧ ∃ us : List Addr, H4 G = some (.lst (us.map V.ref)) ∧ Its H4 us (((allP n).take j).filter fun z => treeB p z))
      ⟨same_new nG, [], upd_same, Its.nil⟩ (fun j H4 _ ⟨s4, _⟩ => sqL (s4 _ _ ea)) ?_ ?_
    · rintro j v H4 hj ⟨s4, us, eG, iu⟩
      obtain ⟨u, hu, rfl⟩ := map_at hj
      obtain ⟨row, hrow, er⟩ := its.2 j u hu
      obtain ⟨rp, rl⟩ := allP_parV (by omega) (List.mem_of_getElem? hrow)
      have f1 : (((allP n).take j).filter fun z => treeB p z).length ≤ ((allP n).take j).length := List.length_filter_le _ _
      rw [List.length_take] at f1
      have tk : ((allP n).take (j + 1)).filter (fun z => treeB p z) = ((allP n).take j).filter (fun z => treeB p z) ++ if treeB p row = true then [row] else [] := by
        rw [take_snoc hrow, List.filter_append]
        congr 1
        rw [List.filter_cons]
        rfl
      refine ⟨rfl, _, rfl, _, rfl, ta, u, p, row, rfl, tp3.mono s4, er.mono s4, par, rp, by omega, fun H5 c s5 hc => ⟨c, rfl, ?_⟩⟩
      have tb : c = true ↔ treeB p row = true := by rw [hc, ← treeB_ok par.rg rp.rg]
      have eG5 := s5 _ _ eG
      cases c with
      | true =>
        refine ⟨_, rfl, _, eG5, ?_, same_mut (s4.trans s5) nG, us ++ [u], ?_, ?_⟩
        · rw [List.length_map, iu.1]
          exact small_of (by omega)
        · rw [upd_same, List.map_append]
          rfl
        · rw [tk, if_pos (tb.mp rfl)]
          exact ((iu.mono s5).put eG5).app (Its.one (rd_lst (show TI H5 u row from (er.mono s4).mono s5) eG5))
      | false =>
        refine ⟨s4.trans s5, us, eG5, ?_⟩
        rw [tk, if_neg (fun z => by have := tb.mpr z; cases this), List.append_nil]
        exact iu.mono s5
    rintro H4 ⟨s4, us, eG, iu⟩
    rw [List.length_map, its.1, List.take_length] at iu
    have iu : Its H4 us (metBy n p) := iu
    have tp4 := tp3.mono s4
    have ms4 := ms3.mono s4
    clear nG ea its s3 tp3 ms3
    change tSeq _ _ _ [some (.ref m), some (.int ((n + 1 : Nat) : Int)), some (.ref ta), some (.ref G), none, none, none, none] _
    -- all_meeting, meeting_number
    refine ⟨_, rfl, ta, p, n, k, rfl, tp4, par, lp, hk, by omega, fun H5 t5 s5 tt5 => ?_⟩
    refine ⟨_, rfl, ta, p, k, rfl, tp4.mono s5, par, hk, fun H6 s6 => ⟨by show 2 ≤ sizeLine; decide, fun L1 nL1 => ?_⟩⟩
    have sL1 := same_new (H := H6) (o := .lst [V.ref t5, vN (metN k p)]) nL1
    have s4a := (s5.trans s6).trans sL1
    refine ⟨_, rfl, G, _, rfl, .inl ⟨sqL (s4a _ _ eG), fun dt ndt => ?_⟩⟩
    have sdt := same_new (o := .tup (us.map V.ref)) ndt
    refine ⟨_, rfl, G, _, rfl, .inl (sqL ((s4a.trans sdt) _ _ eG)), by show 2 ≤ sizeLine; decide, fun L2 nL2 => ?_⟩
    have sL2 := same_new (o := .lst [V.ref dt, V.int (((us.map V.ref).length : Nat) : Int)]) nL2
    have s4b := (s4a.trans sdt).trans sL2
    have et5 : TT H6 t5 (metBy n p) := tt5.mono s6
    have iu6 : Its H6 us (metBy n p) := iu.mono (s5.trans s6)
    have tp6 := tp4.mono (s5.trans s6)
    have ms6 := ms4.mono (s5.trans s6)
    have eG6 := (s5.trans s6) _ _ eG
    have eL1 := sL2 _ _ (sdt _ _ (upd_same (H := H6) (a := L1) (o := .lst [V.ref t5, vN (metN k p)])))
    have eL2 := upd_same (H := upd (upd H6 L1 (.lst [V.ref t5, vN (metN k p)])) dt (.tup (us.map V.ref))) (a := L2) (o := .lst [V.ref dt, V.int (((us.map V.ref).length : Nat) : Int)])
    have edt := sL2 _ _ (upd_same (H := upd H6 L1 (.lst [V.ref t5, vN (metN k p)])) (a := dt) (o := .tup (us.map V.ref)))
    have s67 := (sL1.trans sdt).trans sL2
    generalize upd (upd (upd H6 L1 (.lst [V.ref t5, vN (metN k p)])) dt (.tup (us.map V.ref))) L2 (.lst [V.ref dt, V.int (((us.map V.ref).length : Nat) : Int)]) = H7 at eL1 eL2 edt s67 ⊢
    clear sL1 sdt sL2 s4a s4b nL1 nL2 ndt
    have lus : (us.map V.ref).length = metN k p := by rw [List.length_map, iu.1, mc]
    have ncR : NcA 1 (661 * 203) ((metBy n p).map fun xs => PyData.tuple (xs.map PyData.int)) := by
      refine (nc_all (k := 1) (W := 660) fun d hd => ?_).le (Nat.le_refl _) (Nat.mul_le_mul (Nat.le_refl _) (by rw [List.length_map]; exact mfew))
      obtain ⟨xs, hx, rfl⟩ := List.mem_map.mp hd
      exact nc_tiV (allP_parV (by omega) (List.mem_filter.mp hx).1).1
    refine ⟨.ref L1, .ref L2, .list [.tuple ((metBy n p).map fun xs => PyData.tuple (xs.map PyData.int)), .int ((metN k p : Nat) : Int)], rfl, .lst (sqL eL1) (.cons (dp_tl (et5.mono s67).tl) (.cons (.int _) .nil)), .lst (sqL eL2) (.cons (.tup (sqT edt) (dp_its (iu6.mono s67))) (.cons (by rw [lus]; exact .int _) .nil)), rfl, ?_, true, rfl, ?_⟩
    · exact (nc_lst (nc_cons (nc_tup ncR) (nc_cons ((nc_int (by omega) (by omega)).le (Nat.zero_le 2) (Nat.le_refl _)) (nc_nil 2)))).le (by decide) (by decide)
    have iu7 := iu6.mono s67
    have tp7 := tp6.mono s67
    have ms7 := ms6.mono s67
    have eG7 := s67 _ _ eG6
    clear eL1 eL2 edt s67 iu6 tp6 ms6 eG6 et5 tt5 s5 s6 tp4 ms4 iu eG
    -- lots
    refine ⟨_, rfl, G, rfl, ⟨_, sqL eG7⟩, fun B nB => ?_⟩
    refine lc_list (K := K) (a := G) (xs := us.map V.ref) (fun j H8 => Same H7 H8 ∧ ∃ bs : List Addr, H8 B = some (.lst (bs.map V.ref)) ∧ Raws H8 bs (((metBy n p).take j).map lotsN))
      ⟨same_new nB, [], upd_same, Raws.nil⟩ (fun j H8 _ ⟨s8, _⟩ => sqL (s8 _ _ eG7)) ?_ ?_
    · rintro j v H8 hj ⟨s8, bs, eB, ib⟩
      obtain ⟨u, hu, rfl⟩ := map_at hj
      obtain ⟨row, hrow, er⟩ := iu7.2 j u hu
      obtain ⟨rp, rl⟩ := allP_parV (by omega) (List.mem_filter.mp (List.mem_of_getElem? hrow)).1
      refine ⟨rfl, _, rfl, u, row, rfl, er.mono s8, rp, fun H9 b s9 tb bb => ?_⟩
      have eB9 := s9 _ _ eB
      refine ⟨_, eB9, ?_, same_mut (s8.trans s9) nB, bs ++ [b], ?_, ?_⟩
      · rw [List.length_map, ib.1, List.length_map, List.length_take]
        exact small_of (by omega)
      · rw [upd_same, List.map_append]
        rfl
      · rw [take_snoc hrow, List.map_append]
        exact ((ib.mono s9).put eB9).app (Raws.one (rd_lst (show TI H9 b (toI (lotsN row)) from tb) eB9) (bare_lst bb eB9))
    rintro H8 ⟨s8, bs, eB, ib⟩
    rw [List.length_map, iu7.1, List.take_length] at ib
    have iu8 := iu7.mono s8
    have tp8 := tp7.mono s8
    have ms8 := ms7.mono s8
    have nBm := ms7.ne nB
    clear s8 nB iu7 tp7 ms7 eG7
    change tSeq _ _ _ [some (.ref m), some (.int ((n + 1 : Nat) : Int)), some (.ref ta), some (.ref G), some (.ref B), none, none, none] _
    refine ⟨_, rfl, _, rfl, _, rfl, m, c, g, _, _, rfl, ms8, by omega, by omega, by omega, fun H9 tq r k9 ms9 tr parr lr => ?_⟩
    have lr : r.length = n + 1 := by omega
    have hrm : r ∈ allP n := allP_all n r parr.rg lr
    have eB9 := k9 _ _ eB nBm.1 nBm.2.2
    have ib9 := ib.kept ms8 k9
    have tp9 := k9.ti ms8 tp8
    refine ⟨tq, r, rfl, tr, parr, fun H10 tb s10 tbt bbt => ⟨by show 1 ≤ sizeLine; decide, fun L3 nL3 => ?_⟩⟩
    have sL3 := same_new (H := H10) (o := .lst [V.ref tb]) nL3
    have eB10 := sL3 _ _ (s10 _ _ eB9)
    have bl : bs.length = (metBy n p).length := by rw [ib9.1, List.length_map]
    refine ⟨B, L3, _, _, rfl, rfl, eB10, upd_same, ?_, fun F nF => ?_⟩
    · rw [List.length_map, bl]
      exact Nat.le_of_lt (small_of (by show (metBy n p).length + 1 ≤ _; omega))
    have sF := same_new (o := .lst (bs.map V.ref ++ [V.ref tb])) nF
    have s9z := (s10.trans sL3).trans sF
    have eF : (upd (upd H10 L3 (.lst [V.ref tb])) F (.lst (bs.map V.ref ++ [V.ref tb]))) F = some (.lst ((bs ++ [tb]).map V.ref)) := by rw [upd_same, List.map_append]; rfl
    have iF : Raws (upd (upd H10 L3 (.lst [V.ref tb])) F (.lst (bs.map V.ref ++ [V.ref tb]))) (bs ++ [tb]) ((metBy n p ++ [r]).map lotsN) := by
      rw [List.map_append]
      exact (ib9.mono s9z).app (Raws.one ((show TI H10 tb (toI (lotsN r)) from tbt).mono (sL3.trans sF)) (bbt.mono (sL3.trans sF)))
    have eBF := sF _ _ eB10
    have ibF := ib9.mono s9z
    have tpF := tp9.mono s9z
    have msF := ms9.mono s9z
    generalize upd (upd H10 L3 (.lst [V.ref tb])) F (.lst (bs.map V.ref ++ [V.ref tb])) = HF at eF iF eBF ibF tpF msF ⊢
    clear s9z sF sL3 nF nL3 eB10 tbt bbt s10 eB9 ib9 tp9 ms9 eB ib iu8 tp8 ms8 k9
    have inP : ∀ x ∈ metBy n p ++ [r], x ∈ allP n := fun x hx => by
      rcases List.mem_append.mp hx with h | h
      · exact (List.mem_filter.mp h).1
      · rw [List.mem_singleton.mp h]; exact hrm
    refine ⟨F, rfl, ⟨_, sqL eF⟩, for_list (K := K) (a := F) (xs := (bs ++ [tb]).map V.ref)
      (fun j σ H1 => ∃ y5 : Option V, σ = [some (.ref m), some (.int ((n + 1 : Nat) : Int)), some (.ref ta), some (.ref G), some (.ref B), y5, none, none] ∧ Same HF H1) ⟨none, rfl, Same.refl _⟩ (fun j σ H1 _ ⟨_, _, s1⟩ => sqL (s1 _ _ eF)) ?_ ?_⟩
    · rintro j v σ H1 hj ⟨y5, rfl, s1⟩
      obtain ⟨u, hu, rfl⟩ := map_at hj
      obtain ⟨sz, hsz, tu, bu⟩ := iF.2 j u hu
      obtain ⟨x, hx, rfl⟩ : ∃ x, (metBy n p ++ [r])[j]? = some x ∧ lotsN x = sz := by
        rw [List.getElem?_map] at hsz
        cases e : (metBy n p ++ [r])[j]? with
        | none => rw [e] at hsz; cases hsz
        | some x => rw [e] at hsz; exact ⟨x, rfl, Option.some.inj hsz⟩
      have xm := inP x (List.mem_of_getElem? hx)
      obtain ⟨px, lx⟩ := allP_parV (by omega) xm
      have cs := count_sz n6 par lp hk hp xm
      refine ⟨_, rfl, _, rfl, ta, u, p, k, lotsN x, rfl, tpF.mono s1, par, hk, tu.mono s1, bu.mono s1, by rw [lp, ← lx]; exact lots_ok px, fun H2 s2 => ?_⟩
      have s12 := s1.trans s2
      refine ⟨_, rfl, .inl ⟨rfl, _, .inl (.inl (s12 _ _ eBF))⟩, _, rfl, B, u, bs, ((metBy n p).map lotsN).map toI, toI (lotsN x), rfl, rfl, sqL (s12 _ _ eBF), (ibF.mono s12).its, tu.mono s12, ?_⟩
      rw [lp, show ((metBy n p).map lotsN).map toI = (metBy n p).map lotsI from List.map_map .., show toI (lotsN x) = lotsI x from rfl, countP_lots, cs]
      have b203 : bySz k (n + 1) (sizesP k p) (lotsN x) ≤ 203 := by
        rw [← cs]
        exact Nat.le_trans (List.countP_le_length) mfew
      refine ⟨_, rfl, Nat.lt_of_le_of_lt b203 (by decide), true, rfl, ?_⟩
      exact ⟨_, rfl, s12⟩
    rintro σ H1 ⟨y5, rfl, s1⟩
    have ms1 := msF.mono s1
    clear s1
    -- pairs
    refine ⟨_, rfl, n, rfl, by omega, fun H2 a s2 hlt => ?_⟩
    obtain ⟨ts, ea, its⟩ := hlt
    have its : Its H2 ts (allP n) := its
    refine ⟨a, rfl, ⟨_, sqL ea⟩, fun G nG => ?_⟩
    refine lc_list (K := K) (a := a) (xs := ts.map V.ref) (fun j H4 => Same H2 H4 ∧ H4 G = some (.lst ((((allP n).take j).map fun q => ((metN (blkN q) q : Nat) : Int)).map V.int)))
      ⟨same_new nG, upd_same⟩ (fun j H4 _ ⟨s4, _⟩ => sqL (s4 _ _ ea)) ?_ ?_
    · rintro j v H4 hj ⟨s4, eG⟩
      obtain ⟨u, hu, rfl⟩ := map_at hj
      obtain ⟨row, hrow, er⟩ := its.2 j u hu
      obtain ⟨rp, rl⟩ := allP_parV (by omega) (List.mem_of_getElem? hrow)
      obtain ⟨k', hk', bk'⟩ := blk_of rp
      refine ⟨rfl, _, rfl, u, row, k', rfl, er.mono s4, rp, hk', fun H5 s5 => ?_⟩
      refine ⟨_, s5 _ _ eG, ?_, same_mut (s4.trans s5) nG, ?_⟩
      · rw [List.length_map, List.length_map, List.length_take]
        exact small_of (by omega)
      · rw [upd_same, take_snoc hrow, List.map_append, List.map_append, ← bk']
        rfl
    rintro H4 ⟨s4, eG⟩
    rw [List.length_map, its.1, List.take_length] at eG
    refine ⟨G, _, rfl, sqL eG, ?_⟩
    rw [pairs_sum n6]
    have ms4 := ms1.mono (s2.trans s4)
    obtain ⟨N, hN, hlt⟩ := pairs_nat (n := n + 1) (by omega)
    have hN : pairsTo (n + 1) n = ((N : Nat) : Int) := hN
    rw [hN]
    refine ⟨_, rfl, n + 1, rfl, by omega, by omega, ?_⟩
    rw [show pairsTo (n + 1) (n + 1 - 1) = ((N : Nat) : Int) from hN]
    exact ⟨_, rfl, N, rfl, Nat.lt_of_lt_of_le hlt (Nat.pow_le_pow_right (by decide) (by decide)), q H4 (ms4.le (by omega))⟩
end
end KQ
/-! a def of the text called in a try's body -/
namespace KR
open PySem PySem.Spec PyProof.Rows L2
def tCallW (sp : Sp) (W : WX) (t : TA) : TE := fun σ H Q => t σ H fun vs H1 => sp vs H1 Q (fun cls d H' => W cls d σ H')
section
variable {X : Cx} {k j : Nat} {ps : List Str} {sp : Sp} {W : WX} {x : Str} {p pos : Pos} {e : Expr} {es : List Expr} {t : TA}
theorem pe_usexW (u : UseX X.prog X.w X.K X.mg X.base x j ps sp) (tk : Takes X W) (le : j ≤ k) (hr : Room k X.A) (hg : Gl X x) (ha : PA X (e :: es) t)
    (hdb : (x == ("__debug__" : Str)) = false := by decide) (he : starEach (e :: es) X.env = (false, eval e X.env) :: starEach es X.env := by rfl)
    (hpl : (backTo pos (starEach es X.env)).any (·.1) = false := by rfl) : PE X (.Call (.Name x p) (e :: es) [] pos) (tCallW sp W t) := by
  obtain ⟨f, fd, F, hm, kp, b⟩ := u
  refine ⟨fun pins s σ H Q I h => ?_⟩
  refine wpAny_Call_Name_kw (ld_glob I hg hm ?_ hdb)
  refine PySem.W.callWith_K (h₀ := X.base) I.ok.mod.kin kp (thn (ha.run pos pins s σ _ _ I h) fun us s2 ⟨vs, H2, I2, r, q⟩ => ⟨I2.kIn, ?_⟩) he hpl
  have q' : sp (vs ++ []) H2 Q (fun cls d H' => W cls d σ H') := by rw [List.append_nil]; exact q
  refine run_fnSD (E := fun σ cls d H' => W cls d σ H') (dvs := []) (ds := []) F (hr.mono le) b .nil (fun pins H s e s' I c => ?_) I2 r q'
  exact tk e s' (XE.of_call I (fun _ _ _ h => h) c)
end
end KR
namespace KQ
open PySem PySem.Spec PyProof.Rows L2 KR KM StX
theorem units0 {k : Nat} {A : Around} (r : Room k A) : A.units < cLine := by
  have := r.un
  omega
theorem k_ltT {X : Cx} {K : PySem.W.Frag} (hK : X.K = K) (hu : X.A.units < cLine) : OpR X (compareOp .Lt) (rLtT K) := by
  subst hK
  exact op_ltT hu
theorem num_selfV {r : List Int} (parr : Par r) : num r = r := (num_is rfl parr.rg fun i j x y u v hi hj ui vj => by
  rw [hi] at ui
  rw [hj] at vj
  obtain rfl := Option.some.inj ui
  obtain rfl := Option.some.inj vj
  exact Iff.rfl)
theorem shaped_intsV (ns : List Int) : SeqAt.shaped (.tuple (ns.map .int)) = true := by
  unfold SeqAt.shaped
  simp only [PyData.canLay0, lay0, PyData.depth, depth0]
  rfl
theorem met_up (n : Nat) (p : List Int) : (metBy n p).Pairwise fun x y => HT.lexLt x y = true := (allP_upA n).filter _
theorem met_in {n : Nat} {p r : List Int} (h : r ∈ metBy n p) : r ∈ allP n ∧ treeB p r = true := List.mem_filter.mp h
section
variable {P : Program} {w : World} {K : PySem.W.Frag} {mg : Str → Option Value} {base : Heap}
theorem ok_lnumU (D : DefAt K mg "_law_numbered" s__law_numbered) (T : Bt mg) : Use P w K mg base "_law_numbered" 1 ["labels"] spNumT := by
  refine use_of D (fun f fd F => F.ok sc__law_numbered (fun vs H Q E h => ?_) (fun cdv A outer s H vs Q E hr h => ?_)) (fun _ _ _ _ _ _ us hl => match us, hl with | [_], _ => rfl)
  · obtain ⟨a, p, rfl, _⟩ := h
    rfl
  · obtain ⟨a, xs, rfl, hp, hl, q⟩ := h
    refine ⟨_, (pss_cons (ps_par (i := 1) (j := 2) rfl sc__law_numbered.nd rfl rfl (by decide) rfl rfl (pa_cons pe_dnewK (pa_cons (pe_lst pa_nil) pa_nil)) (by rfl))
      (pss_cons (ps_for PassesOwn.never rfl (k_tup (K := K) rfl (pv 0)) (pg_name (i := 3) sc__law_numbered.nd rfl (Or.inl rfl))
      (pss_cons (ps_if (pt_cmp (pc_dnotin (hu_of hr) (pv 3) (pv 1))) (pss_one (ps_dput (hu_of hr) (pv 1) (pv 3) (pe_callB call_lenD (by rfl) T.len PySem.boot_len (pa_cons (pv 1) pa_nil)) rfl)) pss_nil)
      (pss_one (ps_expr (k_bm (K := K) rfl PySem.F.plainAttrs_list PySem.F.slot_list_append PySem.F.type_list_append mt_append (pv 2) (pa_cons (pe_dget (hu_of hr) (pv 1) (pv 3) (fun _ _ => rfl)) pa_nil))))))
      (pss_one (ps_ret (pe_callTy (k_tupOf (K := K) rfl) (by rfl) T.tuple (by decide +kernel) (pa_cons (pv 2) pa_nil)))))), ?_⟩
    refine fun d nd => ⟨Nat.zero_le _, fun L nL => ?_⟩
    have s0 : Same H (upd H d (.dK [])) := same_new nd
    have s1 : Same H (upd (upd H d (.dK [])) L (.lst [])) := s0.trans (same_new nL)
    have nL0 : H L = none := s0.free nL
    have ndL : d ≠ L := fun e => by rw [e, upd_same] at nL; cases nL
    refine ⟨_, _, rfl, ?_⟩
    refine ⟨_, rfl, a, rfl, ⟨_, (hp.mono s1).seq⟩, for_tup (K := K) (a := a) (xs := xs.map V.int)
      (fun i σ H1 => ∃ y3, σ = [some (.ref a), some (.ref d), some (.ref L), y3] ∧ Same H H1 ∧ H1 d = some (.dK (dg kI (firsts (xs.take i)))) ∧ H1 L = some (.lst ((num (xs.take i)).map V.int)))
      ⟨none, rfl, s1, ?_, ?_⟩ (fun i σ H1 _ ⟨_, _, sm, _⟩ => (hp.mono sm).seq) ?_ ?_⟩
    · rw [upd_ne ndL, upd_same]
      rfl
    · rw [upd_same]
      rfl
    · rintro i v σ H1 hi ⟨y3, rfl, sm, ed, eL⟩
      obtain ⟨x, hx, rfl⟩ := map_at hi
      have small : ((num (xs.take i)).map V.int).length < sizeLine := by
        rw [List.length_map, num_len, List.length_take]
        exact small_of (by omega)
      have small2 : (dg kI (firsts (xs.take i))).length < sizeLine := by
        rw [dg_len]
        have := firsts_le (xs.take i)
        rw [List.length_take] at this
        exact small_of (by omega)
      by_cases hm : x ∈ firsts (xs.take i)
      · obtain ⟨e1, e2⟩ := num_old hm
        have gv : DGet H1 d (V.int x) (some (V.int (((firsts (xs.take i)).idxOf x : Nat) : Int))) := by
          have := DGet.k (k := kI x) ed
          rw [dg_val kI_inj _ _ (firsts_nodup _), if_pos hm] at this
          exact this
        refine ⟨_, rfl, _, rfl, d, _, rfl, gv, _, rfl, _, rfl, .inl ⟨rfl, _, .inl (.inl eL)⟩, _, rfl, _, rfl, d, _, rfl, gv, L, _, _, rfl, rfl, eL, small, some (.int x), rfl, same_mut sm nL0, ?_, ?_⟩
        · rw [upd_ne ndL, take_snoc hx, e2]
          exact ed
        · rw [upd_same, take_snoc hx, e1, List.map_append]
          rfl
      · obtain ⟨e1, e2⟩ := num_new hm
        have gv : DGet H1 d (V.int x) none := by
          have := DGet.k (k := kI x) ed
          rw [dg_val kI_inj _ _ (firsts_nodup _), if_neg hm] at this
          exact this
        have ed2 : (upd H1 d (.dK (putK (dg kI (firsts (xs.take i))) (kI x) (.int (((firsts (xs.take i)).length : Nat) : Int))))) d = some (.dK (dg kI (firsts (xs.take i) ++ [x]))) := by
          rw [upd_same, dg_put kI_inj _ _ hm]
        have gv2 : DGet (upd H1 d (.dK (putK (dg kI (firsts (xs.take i))) (kI x) (.int (((firsts (xs.take i)).length : Nat) : Int))))) d (V.int x) (some (V.int (((firsts (xs.take i)).length : Nat) : Int))) := by
          have := DGet.k (k := kI x) ed2
          rw [dg_new kI_inj (firsts_nodup _) hm] at this
          exact this
        have eL2 : (upd H1 d (.dK (putK (dg kI (firsts (xs.take i))) (kI x) (.int (((firsts (xs.take i)).length : Nat) : Int))))) L = some (.lst ((num (xs.take i)).map V.int)) := by
          rw [upd_ne ndL.symm]
          exact eL
        refine ⟨_, rfl, _, rfl, d, _, rfl, gv, _, rfl, _, rfl, d, _, rfl, ed, ?_⟩
        rw [dg_len]
        refine ⟨_, rfl, _, rfl, d, _, rfl, DPut.k (k := kI x) ed small2, ?_⟩
        refine ⟨_, rfl, .inl ⟨rfl, _, .inl (.inl eL2)⟩, _, rfl, _, rfl, d, _, rfl, gv2, L, _, _, rfl, rfl, eL2, small, some (.int x), rfl, same_mut (same_mut sm nd) nL0, ?_, ?_⟩
        · rw [upd_ne ndL, ed2, take_snoc hx, e2]
        · rw [upd_same, take_snoc hx, e1, List.map_append]
          rfl
    · rintro σ H1 ⟨y3, rfl, sm, ed, eL⟩
      refine ⟨_, rfl, L, _, rfl, .inl ⟨.inl (.inl eL), fun l hl => ?_⟩⟩
      refine q _ l (sm.trans (same_new hl)) ?_
      refine Or.inl ?_
      show upd H1 l _ l = _
      rw [upd_same, List.length_map, List.take_length]
abbrev s__law_list_right : Stmt := topS 49
theorem sc__law_list_right : FnScope ["parting", "total", "told", "most", "e", "n", "row", "kept", "at"] ["parting", "total"] (defScope s__law_list_right) := ⟨rfl, rfl, rfl, by decide +kernel, rfl, by decide +kernel, by decide +kernel⟩
def spListR : Sp := fun vs H Q _ => ∃ (a : Addr) (p : List Int) (n k : Nat), vs = [.ref a, vN (metN k p)] ∧ TI H a p ∧ Par p ∧ p.length = n + 1 ∧ bc 0 p = (k : Int) ∧ metN k p ≤ 1000 ∧ ∀ H', Same H H' → Q (.bl true) H'
def spListRX : Sp := fun vs H Q _ => ∃ (a : Addr) (p : List Int) (n k : Nat), vs = [.ref a, vN (metN k p)] ∧ TI H a p ∧ Par p ∧ p.length = n + 1 ∧ bc 0 p = (k : Int) ∧ 1000 < metN k p ∧ ∀ H', Same H H' → Q (.bl true) H'
theorem fn_list_rightX {f : Addr} {fd : FuncData} {CT : Addr} (F : Fun K "_law_list_right" "_law_list_right" s__law_list_right f fd) (T : Bt mg) (e_TooGreat : ErrC P w K mg base "TooGreat" CT "most") (ex : PySem.W.exmOne K (.ref CT) (.ref CT) = some true)
    (ux_all_meeting : UseX P w K mg base "all_meeting" 5 ["parting"] (spAllMeetX CT)) (u__law_like : UseG P w K mg base "_law_like" 1 ["got", "due"] (spLike K)) (u__law_is_int : Use P w K mg base "_law_is_int" 1 ["thing", "low", "high"] spIntWA)
    (u__law_numbered : Use P w K mg base "_law_numbered" 1 ["labels"] spNumT) (u__law_meet : Use P w K mg base "_law_meet" 2 ["one", "two"] spMeets) (u__law_likeI : Use P w K mg base "_law_like" 1 ["got", "due"] spLikeI) : FnG P w K mg base 6 f fd ["parting", "total"] spListRX := by
  refine Fun.okG F sc__law_list_right (fun vs H Q E h => ?_) (fun cdv A outer s H vs Q E gd hr h => ?_)
  · obtain ⟨a, p, n, k, rfl, _⟩ := h
    rfl
  · obtain ⟨a, p, n, k, rfl, tp, par, lp, hk, many, q⟩ := h
    refine ⟨_, (pss_cons (ps_asg (pe_tup (pa_cons pe_non (pa_cons pe_non pa_nil))) (pg_tup rfl (pgs_cons (pg_name (i := 2) sc__law_list_right.nd rfl (Or.inl rfl)) (pgs_cons (pg_name (i := 3) sc__law_list_right.nd rfl (Or.inl rfl)) pgs_nil))))
      (pss_cons (ps_try_manyA rfl rfl sc__law_list_right.nd takes_none5 (fun W pn xe tk po => (pss_one (ps_set (i := 2) sc__law_list_right.nd rfl (Or.inl rfl) (pe_usexW ux_all_meeting tk (by decide) hr (by rfl) (pa_cons (pv 0) pa_nil))))) (HdsA.cons (i := 4) ⟨by rfl, by decide, .inl e_TooGreat.hm⟩ rfl rfl (fun a oe cls d pn hz hf => (pss_one (ps_set (i := 3) sc__law_list_right.nd rfl (Or.inl rfl) (pe_xf e_TooGreat.xf e_TooGreat.nf hz hf (pv 4) rfl)))) HdsA.nil))
      (pss_cons (ps_if (pt_cmpR op_gt (pv 1) pe_int (nomark _)) (pss_one (ps_ret (pe_and (pe_cmpR op_isN (pv 2) pe_non (nomark _)) (pe_one (pe_use u__law_likeI (by decide) hr (by rfl) (pa_cons (pv 3) (pa_cons pe_int pa_nil))))))) pss_nil)
      (pss_cons (ps_if (PW.pt (pw_or (pt_not (pt_val (pe_callB (k_isi (K := K) rfl) (by rfl) T.isinstance (by decide +kernel) (pa_cons (pv 2) (pa_cons (pe_bltn (v := .ty "tuple") (by rfl) T.tuple (by decide +kernel) rfl) pa_nil))))) (pw_or1 (pt_cmpR op_ne (pe_callB (k_len (K := K) rfl) (by rfl) T.len PySem.boot_len (pa_cons (pv 2) pa_nil)) (pv 1) (nomark _))))) (pss_one (ps_ret pe_bl)) pss_nil)
      (pss_cons (ps_for PassesOwn.never rfl (k_enumT (K := K) rfl (by rfl) T.enumerate (pa_cons (pv 2) pa_nil)) (pg_tup rfl (pgs_cons (pg_name (i := 5) sc__law_list_right.nd rfl (Or.inl rfl)) (pgs_cons (pg_name (i := 6) sc__law_list_right.nd rfl (Or.inl rfl)) pgs_nil)))
      (pss_cons (ps_if (PW.pt (pw_or (pt_not (pt_val (pe_callB (k_isi (K := K) rfl) (by rfl) T.isinstance (by decide +kernel) (pa_cons (pv 6) (pa_cons (pe_bltn (v := .ty "tuple") (by rfl) T.tuple (by decide +kernel) rfl) pa_nil))))) (pw_or (pt_cmpR op_ne (pe_callB (k_len (K := K) rfl) (by rfl) T.len PySem.boot_len (pa_cons (pv 6) pa_nil)) (pe_callB (k_len (K := K) rfl) (by rfl) T.len PySem.boot_len (pa_cons (pv 0) pa_nil)) (nomark _)) (pw_or1 (pt_cmpR (k_neD (K := K) rfl hr.units) (pe_lc (own := [("at", 8)]) rfl sc__law_list_right.nd (k_tup (K := K) rfl (pv 6)) (blkOk_by (N := ["parting", "total", "told", "most", "e", "n", "row", "kept", "at"]) (sc := defScope s__law_list_right) (by decide +kernel)) (fun _ _ _ _ _ => (pg_name (i := 8) sc__law_list_right.nd rfl (Or.inl rfl))) (fun _ _ _ _ _ => (pts_one (pt_not (pt_val (pe_use u__law_is_int (by decide) hr (by rfl) (pa_cons (pv 8) (pa_cons pe_int (pa_cons pe_int pa_nil)))))))) (fun _ _ _ _ _ => pe_int)) (pe_lst pa_nil) (nomark _)))))) (pss_one (ps_ret pe_bl)) pss_nil)
      (pss_one (ps_if (PW.pt (pw_and (pt_cmpR op_gt (pv 5) pe_int (nomark _)) (pw_and1 (pt_not (pt_cmpR (k_ltT (K := K) rfl (units0 hr)) (pe_ix (k_ixt (K := K) rfl) (pv 2) (pe_op op_sub (pv 5) pe_int) (fun _ _ => rfl)) (pv 6) (nomark _)))))) (pss_one (ps_ret pe_bl)) pss_nil))))
      (pss_cons (ps_set (i := 7) sc__law_list_right.nd rfl (Or.inl rfl) (pe_lst (pa_cons (pe_ix (k_ixt (K := K) rfl) (pv 2) pe_int (fun _ _ => rfl)) (pa_cons (pe_ix (k_ixt (K := K) rfl) (pv 2) (pe_un un_neg pe_int) (fun _ _ => rfl)) (pa_cons (pe_ix (k_ixt (K := K) rfl) (pv 2) (pe_op op_fdivW (pe_callB (k_len (K := K) rfl) (by rfl) T.len PySem.boot_len (pa_cons (pv 2) pa_nil)) pe_int) (fun _ _ => rfl)) (pa_cons (pe_ix (k_ixt (K := K) rfl) (pv 2) (pe_op op_fdivW (pe_callB (k_len (K := K) rfl) (by rfl) T.len PySem.boot_len (pa_cons (pv 2) pa_nil)) pe_int) (fun _ _ => rfl)) pa_nil))))))
      (pss_one (ps_ret (pe_cmpR (k_eqD (K := K) rfl hr.units) (pe_lc (own := [("row", 6)]) rfl sc__law_list_right.nd (k_list (K := K) rfl (pv 7)) (blkOk_by (N := ["parting", "total", "told", "most", "e", "n", "row", "kept", "at"]) (sc := defScope s__law_list_right) (by decide +kernel)) (fun _ _ _ _ _ => (pg_name (i := 6) sc__law_list_right.nd rfl (Or.inl rfl))) (fun _ _ _ _ _ => (pts_one (PW.pt (pw_or (pt_cmpR (k_neD (K := K) rfl hr.units) (pe_use u__law_numbered (by decide) hr (by rfl) (pa_cons (pv 6) pa_nil)) (pv 6) (nomark _)) (pw_or1 (pt_not (pt_val (pe_use u__law_meet (by decide) hr (by rfl) (pa_cons (pv 0) (pa_cons (pv 6) pa_nil)))))))))) (fun _ _ _ _ _ => pe_int)) (pe_lst pa_nil) (nomark _)))))))))), ?_⟩
    refine ⟨by show 2 ≤ sizeLine; decide, fun T0 nT0 => ⟨T0, _, rfl, .inl (.inl upd_same), rfl, _, _, rfl, _, [], rfl, rfl, ?_⟩⟩
    have sT := same_new (o := .tup [V.non, .non]) nT0
    refine ⟨_, rfl, a, p, k, rfl, tp.mono sT, par, hk, many, fun H1 d s1 e1 => ?_⟩
    refine ⟨true, ex, fun _ x nx => ?_, (fun z => by cases z)⟩
    refine ⟨_, rfl, rfl, rfl, d, _, .int 1000, rfl, e1, rfl, ?_⟩
    refine ⟨_, rfl, _, _, rfl, rfl, _, rfl, ?_⟩
    rw [decide_eq_true (show (1000 : Int) < ((metN k p : Nat) : Int) by omega)]
    refine ⟨_, rfl, rfl, _, rfl, ?_⟩
    exact iteT ⟨_, rfl, 1000, rfl, by decide, q H1 (sT.trans s1)⟩
theorem fn_list_rightS {f : Addr} {fd : FuncData} {CT : Addr} (F : Fun K "_law_list_right" "_law_list_right" s__law_list_right f fd) (T : Bt mg) (e_TooGreat : ErrC P w K mg base "TooGreat" CT "most")
    (u_all_meeting : Use P w K mg base "all_meeting" 5 ["parting"] spAllMeet) (u__law_like : UseG P w K mg base "_law_like" 1 ["got", "due"] (spLike K)) (u__law_is_int : Use P w K mg base "_law_is_int" 1 ["thing", "low", "high"] spIntWA)
    (u__law_numbered : Use P w K mg base "_law_numbered" 1 ["labels"] spNumT) (u__law_meet : Use P w K mg base "_law_meet" 2 ["one", "two"] spMeets) (u__law_likeI : Use P w K mg base "_law_like" 1 ["got", "due"] spLikeI) : FnG P w K mg base 6 f fd ["parting", "total"] spListR := by
  have ux_all_meeting := u_all_meeting.up
  refine Fun.okG F sc__law_list_right (fun vs H Q E h => ?_) (fun cdv A outer s H vs Q E gd hr h => ?_)
  · obtain ⟨a, p, n, k, rfl, _⟩ := h
    rfl
  · obtain ⟨a, p, n, k, rfl, tp, par, lp, hk, few, q⟩ := h
    refine ⟨_, (pss_cons (ps_asg (pe_tup (pa_cons pe_non (pa_cons pe_non pa_nil))) (pg_tup rfl (pgs_cons (pg_name (i := 2) sc__law_list_right.nd rfl (Or.inl rfl)) (pgs_cons (pg_name (i := 3) sc__law_list_right.nd rfl (Or.inl rfl)) pgs_nil))))
      (pss_cons (ps_try_manyA rfl rfl sc__law_list_right.nd takes_none5 (fun W pn xe tk po => (pss_one (ps_set (i := 2) sc__law_list_right.nd rfl (Or.inl rfl) (pe_usexW ux_all_meeting tk (by decide) hr (by rfl) (pa_cons (pv 0) pa_nil))))) (HdsA.cons (i := 4) ⟨by rfl, by decide, .inl e_TooGreat.hm⟩ rfl rfl (fun a oe cls d pn hz hf => (pss_one (ps_set (i := 3) sc__law_list_right.nd rfl (Or.inl rfl) (pe_xf e_TooGreat.xf e_TooGreat.nf hz hf (pv 4) rfl)))) HdsA.nil))
      (pss_cons (ps_if (pt_cmpR op_gt (pv 1) pe_int (nomark _)) (pss_one (ps_ret (pe_and (pe_cmpR op_isN (pv 2) pe_non (nomark _)) (pe_one (pe_use u__law_likeI (by decide) hr (by rfl) (pa_cons (pv 3) (pa_cons pe_int pa_nil))))))) pss_nil)
      (pss_cons (ps_if (PW.pt (pw_or (pt_not (pt_val (pe_callB (k_isi (K := K) rfl) (by rfl) T.isinstance (by decide +kernel) (pa_cons (pv 2) (pa_cons (pe_bltn (v := .ty "tuple") (by rfl) T.tuple (by decide +kernel) rfl) pa_nil))))) (pw_or1 (pt_cmpR op_ne (pe_callB (k_len (K := K) rfl) (by rfl) T.len PySem.boot_len (pa_cons (pv 2) pa_nil)) (pv 1) (nomark _))))) (pss_one (ps_ret pe_bl)) pss_nil)
      (pss_cons (ps_for PassesOwn.never rfl (k_enumT (K := K) rfl (by rfl) T.enumerate (pa_cons (pv 2) pa_nil)) (pg_tup rfl (pgs_cons (pg_name (i := 5) sc__law_list_right.nd rfl (Or.inl rfl)) (pgs_cons (pg_name (i := 6) sc__law_list_right.nd rfl (Or.inl rfl)) pgs_nil)))
      (pss_cons (ps_if (PW.pt (pw_or (pt_not (pt_val (pe_callB (k_isi (K := K) rfl) (by rfl) T.isinstance (by decide +kernel) (pa_cons (pv 6) (pa_cons (pe_bltn (v := .ty "tuple") (by rfl) T.tuple (by decide +kernel) rfl) pa_nil))))) (pw_or (pt_cmpR op_ne (pe_callB (k_len (K := K) rfl) (by rfl) T.len PySem.boot_len (pa_cons (pv 6) pa_nil)) (pe_callB (k_len (K := K) rfl) (by rfl) T.len PySem.boot_len (pa_cons (pv 0) pa_nil)) (nomark _)) (pw_or1 (pt_cmpR (k_neD (K := K) rfl hr.units) (pe_lc (own := [("at", 8)]) rfl sc__law_list_right.nd (k_tup (K := K) rfl (pv 6)) (blkOk_by (N := ["parting", "total", "told", "most", "e", "n", "row", "kept", "at"]) (sc := defScope s__law_list_right) (by decide +kernel)) (fun _ _ _ _ _ => (pg_name (i := 8) sc__law_list_right.nd rfl (Or.inl rfl))) (fun _ _ _ _ _ => (pts_one (pt_not (pt_val (pe_use u__law_is_int (by decide) hr (by rfl) (pa_cons (pv 8) (pa_cons pe_int (pa_cons pe_int pa_nil)))))))) (fun _ _ _ _ _ => pe_int)) (pe_lst pa_nil) (nomark _)))))) (pss_one (ps_ret pe_bl)) pss_nil)
      (pss_one (ps_if (PW.pt (pw_and (pt_cmpR op_gt (pv 5) pe_int (nomark _)) (pw_and1 (pt_not (pt_cmpR (k_ltT (K := K) rfl (units0 hr)) (pe_ix (k_ixt (K := K) rfl) (pv 2) (pe_op op_sub (pv 5) pe_int) (fun _ _ => rfl)) (pv 6) (nomark _)))))) (pss_one (ps_ret pe_bl)) pss_nil))))
      (pss_cons (ps_set (i := 7) sc__law_list_right.nd rfl (Or.inl rfl) (pe_lst (pa_cons (pe_ix (k_ixt (K := K) rfl) (pv 2) pe_int (fun _ _ => rfl)) (pa_cons (pe_ix (k_ixt (K := K) rfl) (pv 2) (pe_un un_neg pe_int) (fun _ _ => rfl)) (pa_cons (pe_ix (k_ixt (K := K) rfl) (pv 2) (pe_op op_fdivW (pe_callB (k_len (K := K) rfl) (by rfl) T.len PySem.boot_len (pa_cons (pv 2) pa_nil)) pe_int) (fun _ _ => rfl)) (pa_cons (pe_ix (k_ixt (K := K) rfl) (pv 2) (pe_op op_fdivW (pe_callB (k_len (K := K) rfl) (by rfl) T.len PySem.boot_len (pa_cons (pv 2) pa_nil)) pe_int) (fun _ _ => rfl)) pa_nil))))))
      (pss_one (ps_ret (pe_cmpR (k_eqD (K := K) rfl hr.units) (pe_lc (own := [("row", 6)]) rfl sc__law_list_right.nd (k_list (K := K) rfl (pv 7)) (blkOk_by (N := ["parting", "total", "told", "most", "e", "n", "row", "kept", "at"]) (sc := defScope s__law_list_right) (by decide +kernel)) (fun _ _ _ _ _ => (pg_name (i := 6) sc__law_list_right.nd rfl (Or.inl rfl))) (fun _ _ _ _ _ => (pts_one (PW.pt (pw_or (pt_cmpR (k_neD (K := K) rfl hr.units) (pe_use u__law_numbered (by decide) hr (by rfl) (pa_cons (pv 6) pa_nil)) (pv 6) (nomark _)) (pw_or1 (pt_not (pt_val (pe_use u__law_meet (by decide) hr (by rfl) (pa_cons (pv 0) (pa_cons (pv 6) pa_nil)))))))))) (fun _ _ _ _ _ => pe_int)) (pe_lst pa_nil) (nomark _)))))))))), ?_⟩
    refine ⟨by show 2 ≤ sizeLine; decide, fun T0 nT0 => ⟨T0, _, rfl, .inl (.inl upd_same), rfl, _, _, rfl, _, [], rfl, rfl, ?_⟩⟩
    have sT := same_new (o := .tup [V.non, .non]) nT0
    refine ⟨_, rfl, a, p, n, k, rfl, tp.mono sT, par, lp, hk, few, fun H1 t s1 tt => ?_⟩
    have tp := tp.mono (sT.trans s1)
    have s1 := sT.trans s1
    obtain ⟨ts, et, its⟩ := tt
    have its : Its H1 ts (metBy n p) := its
    clear sT
    change tSeq _ _ _ [some (.ref a), some (vN (metN k p)), some (.ref t), some .non, none, none, none, none, none] H1
    refine ⟨_, rfl, _, _, rfl, rfl, _, rfl, ?_⟩
    rw [decide_eq_false (show ¬ (1000 : Int) < ((metN k p : Nat) : Int) by omega)]
    have mc := met_count par lp hk
    have tl : (ts.map V.ref).length = metN k p := by rw [List.length_map, its.1, mc]
    refine ⟨_, rfl, _, _, _, _, true, rfl, .ty _, .base (.tup et), kit_ty (by decide +kernel), true, rfl, ?_⟩
    refine ⟨_, rfl, t, _, rfl, .inr (sqT et), _, rfl, rfl, _, rfl, ?_⟩
    rw [tl, decide_eq_true rfl]
    refine ⟨_, rfl, t, _, rfl, sqT et, for_enumT (K := K) (a := t) (xs := ts.map V.ref)
      (fun i σ H2 => ∃ y5 y6 y8 : Option V, σ = [some (.ref a), some (vN (metN k p)), some (.ref t), some .non, none, y5, y6, none, y8] ∧ Same H1 H2) ⟨none, none, none, rfl, Same.refl _⟩ (fun i σ H2 ⟨_, _, _, _, s2⟩ => sqT (s2 _ _ et)) ?_ ?_⟩
    · rintro i v T1 σ H2 hi ⟨y5, y6, y8, rfl, s2⟩ hT
      obtain ⟨u, hu, rfl⟩ := map_at hi
      obtain ⟨row, hrow, er⟩ := its.2 i u hu
      obtain ⟨hm, tr⟩ := met_in (List.mem_of_getElem? hrow)
      have il := (List.getElem?_eq_some_iff.mp hrow).1
      obtain ⟨rp, rl⟩ := allP_parV (by have := par.le; omega) hm
      refine ⟨T1, _, rfl, .inl (.inl upd_same), rfl, _, _, rfl, _, [], rfl, rfl, ?_⟩
      have sT1 := same_new (H := H2) (o := .tup [.int (i : Nat), V.ref u]) hT
      have s12 := s2.trans sT1
      generalize upd H2 T1 (.tup [.int (i : Nat), V.ref u]) = H3 at s12 ⊢
      have er3 := er.mono s12
      have tp3 := tp.mono s12
      refine ⟨_, rfl, _, _, _, _, true, rfl, .ty _, tyRd er3, kit_ty (by decide +kernel), true, rfl, ?_⟩
      refine ⟨_, rfl, u, _, rfl, .inr er3.seq, _, rfl, a, _, rfl, .inr tp3.seq, rfl, _, rfl, ?_⟩
      rw [List.length_map, List.length_map, rl, lp, decide_eq_true rfl]
      refine ⟨_, rfl, u, rfl, ⟨_, er3.seq⟩, fun L nL => ?_⟩
      refine lc_tup (K := K) (a := u) (xs := row.map V.int) (fun k H4 => Same H3 H4 ∧ H4 L = some (.lst (([] : List Int).map V.int))) ⟨same_new nL, upd_same⟩ (fun k H4 _ ⟨s4, _⟩ => (er3.mono s4).seq) ?_ ?_
      · rintro k v H4 hk ⟨s4, eL⟩
        obtain ⟨z, hz, rfl⟩ := map_at hk
        have zr := par_small rp.rg rp.le z (List.mem_of_getElem? hz)
        have zb := (rg_mem 0 row (Int.le_refl _) rp.rg).1 z (List.mem_of_getElem? hz)
        have := bc_le 0 row
        have := rp.le
        refine ⟨rfl, _, rfl, .int z, 0, 59, rfl, .int z, _, rfl, ?_⟩
        rw [show inV (.int z) 0 59 = true from decide_eq_true ⟨zr.1, by omega⟩]
        exact ⟨s4, eL⟩
      rintro H4 ⟨s4, eL⟩
      refine ⟨Nat.zero_le _, fun M2 nM2 => ?_⟩
      have nML : M2 ≠ L := fun e => by rw [e, eL] at nM2; cases nM2
      refine ⟨.list (([] : List Int).map PyData.int), .list [], .lst (sqL (by rw [upd_ne nML.symm]; exact eL)) (dpAll_ints _), .lst (sqL (xs := []) upd_same) .nil, shaped_ints _, rfl, _, rfl, ?_⟩
      rw [eqv_nil]
      have s5 := s12.trans (s4.trans (same_new (o := .lst []) nM2))
      generalize upd H4 M2 (.lst []) = H5 at s5 ⊢
      refine ⟨_, rfl, _, _, rfl, rfl, _, rfl, ?_⟩
      cases i with
      | zero =>
        rw [decide_eq_false (show ¬ (0 : Int) < ((0 : Nat) : Int) by decide)]
        refine iteF ?_
        refine iteF ?_
        exact ⟨_, _, _, rfl, s5⟩
      | succ i =>
        rw [decide_eq_true (show (0 : Int) < ((i + 1 : Nat) : Int) by omega)]
        obtain ⟨w', hw⟩ := at_some (xs := ts) (i := i) (by rw [its.1]; omega)
        obtain ⟨row', hrow', er'⟩ := its.2 i w' hw
        refine ⟨_, rfl, _, rfl, _, _, rfl, rfl, t, _, _, .ref w', rfl, rfl, sqT (s5 _ _ et), atI_of (j := i) (by omega) (at_map hw), ?_⟩
        refine ⟨_, rfl, w', u, row', row, rfl, rfl, (er'.mono s5).seq, (er.mono s5).seq, ?_⟩
        have lt : HT.lexLt row' row = true := by
          have := List.pairwise_iff_getElem.mp (met_up n p) i (i + 1) (List.getElem?_eq_some_iff.mp hrow').1 (List.getElem?_eq_some_iff.mp hrow).1 (by omega)
          rw [(List.getElem?_eq_some_iff.mp hrow').2, (List.getElem?_eq_some_iff.mp hrow).2] at this
          exact this
        rw [lt]
        exact ⟨true, rfl, _, _, _, rfl, s5⟩
    rintro σ H2 ⟨y5, y6, y8, rfl, s2⟩
    have et2 := s2 _ _ et
    have its2 := its.mono s2
    have m0 : 0 < (metBy n p).length := by
      rw [mc, ← met_count par lp hk, ← ends_all par lp hk, ends_len]
      exact cnt_pos _ _ _ _ (start_ok par lp hk)
    have tp2 := tp.mono s2
    have s02 := s1.trans s2
    have lt0 : ts.length = (metBy n p).length := its.1
    obtain ⟨u0, h0⟩ := at_some (xs := ts) (i := 0) (by omega)
    obtain ⟨u1, h1⟩ := at_some (xs := ts) (i := ts.length - 1) (by omega)
    obtain ⟨u2, h2⟩ := at_some (xs := ts) (i := ts.length / 2) (by omega)
    obtain ⟨u3, h3⟩ := at_some (xs := ts) (i := ts.length / 3) (by omega)
    refine ⟨_, rfl, t, _, _, .ref u0, rfl, rfl, sqT et2, atI_of (j := 0) rfl (at_map h0), ?_⟩
    refine ⟨_, rfl, 1, rfl, t, _, _, .ref u1, rfl, rfl, sqT et2, atI_end (by rw [List.length_map]; exact at_map h1), ?_⟩
    refine ⟨_, rfl, _, rfl, t, _, rfl, .inr (sqT et2), _, _, rfl, rfl, ⟨by decide, by decide⟩, t, _, _, .ref u2, rfl, rfl, sqT et2, atI_of (j := ts.length / 2) (by rw [List.length_map]; omega) (at_map h2), ?_⟩
    refine ⟨_, rfl, _, rfl, t, _, rfl, .inr (sqT et2), _, _, rfl, rfl, ⟨by decide, by decide⟩, t, _, _, .ref u3, rfl, rfl, sqT et2, atI_of (j := ts.length / 3) (by rw [List.length_map]; omega) (at_map h3), ?_⟩
    refine ⟨by show 4 ≤ sizeLine; decide, fun K0 nK0 => ?_⟩
    have sK := same_new (H := H2) (o := .lst [V.ref u0, .ref u1, .ref u2, .ref u3]) nK0
    have eK : (upd H2 K0 (.lst [V.ref u0, .ref u1, .ref u2, .ref u3])) K0 = some (.lst ([u0, u1, u2, u3].map V.ref)) := upd_same
    have its3 := its2.mono sK
    have tp3 := tp2.mono sK
    have s03 := s02.trans sK
    generalize upd H2 K0 (.lst [V.ref u0, .ref u1, .ref u2, .ref u3]) = H3 at eK its3 tp3 s03 ⊢
    have mem : ∀ u ∈ [u0, u1, u2, u3], u ∈ ts := fun u hu => by
      simp only [List.mem_cons, List.mem_nil_iff, or_false] at hu
      rcases hu with rfl | rfl | rfl | rfl
      · exact List.mem_of_getElem? h0
      · exact List.mem_of_getElem? h1
      · exact List.mem_of_getElem? h2
      · exact List.mem_of_getElem? h3
    refine ⟨_, rfl, K0, rfl, ⟨_, sqL eK⟩, fun L nL => ?_⟩
    refine lc_list (K := K) (a := K0) (xs := [u0, u1, u2, u3].map V.ref) (fun k H4 => Same H3 H4 ∧ H4 L = some (.lst (([] : List Int).map V.int))) ⟨same_new nL, upd_same⟩ (fun k H4 _ ⟨s4, _⟩ => sqL (s4 _ _ eK)) ?_ ?_
    · rintro k v H4 hk ⟨s4, eL⟩
      obtain ⟨u, hu, rfl⟩ := map_at hk
      obtain ⟨j, hj⟩ := List.mem_iff_getElem?.mp (mem u (List.mem_of_getElem? hu))
      obtain ⟨row, hrow, er⟩ := its3.2 j u hj
      obtain ⟨hm, tr⟩ := met_in (List.mem_of_getElem? hrow)
      obtain ⟨rp, rl⟩ := allP_parV (by have := par.le; omega) hm
      have er4 := er.mono s4
      have r60 := rp.le
      refine ⟨rfl, _, rfl, u, row, rfl, er4, by omega, fun H5 u' s5 tu' => ?_⟩
      rw [num_selfV rp] at tu'
      refine ⟨_, rfl, .tuple (row.map PyData.int), .tuple (row.map PyData.int), dp_ti tu', dp_ti (er4.mono s5), shaped_intsV _, shaped_intsV _, _, rfl, ?_⟩
      rw [show PyData.eqv (.tuple (row.map PyData.int)) (.tuple (row.map PyData.int)) = true from by
        show PyData.eqvAll _ _ = true
        rw [eqv_ints, decide_eq_true rfl]]
      refine ⟨_, rfl, _, rfl, a, u, p, row, rfl, (tp3.mono s4).mono s5, er4.mono s5, par, rp, by omega, fun H6 c s6 hc => ⟨c, rfl, ?_⟩⟩
      obtain rfl : c = true := hc.mpr ((treeB_ok par.rg rp.rg).mp tr)
      exact ⟨(s4.trans s5).trans s6, s6 _ _ (s5 _ _ eL)⟩
    rintro H4 ⟨s4, eL⟩
    refine ⟨Nat.zero_le _, fun M2 nM2 => ?_⟩
    have nML : M2 ≠ L := fun e => by rw [e, eL] at nM2; cases nM2
    refine ⟨.list (([] : List Int).map PyData.int), .list [], .lst (sqL (by rw [upd_ne nML.symm]; exact eL)) (dpAll_ints _), .lst (sqL (xs := []) upd_same) .nil, shaped_ints _, rfl, ?_⟩
    exact q _ (s03.trans (s4.trans (same_new nM2)))
theorem ok_list_right {CT : Addr} (D : DefAt K mg "_law_list_right" s__law_list_right) (T : Bt mg) (e_TooGreat : ErrC P w K mg base "TooGreat" CT "most") (ex : PySem.W.exmOne K (.ref CT) (.ref CT) = some true)
    (ux_all_meeting : UseX P w K mg base "all_meeting" 5 ["parting"] (spAllMeetX CT)) (u_all_meeting : Use P w K mg base "all_meeting" 5 ["parting"] spAllMeet) (u__law_like : UseG P w K mg base "_law_like" 1 ["got", "due"] (spLike K)) (u__law_is_int : Use P w K mg base "_law_is_int" 1 ["thing", "low", "high"] spIntWA)
    (u__law_numbered : Use P w K mg base "_law_numbered" 1 ["labels"] spNumT) (u__law_meet : Use P w K mg base "_law_meet" 2 ["one", "two"] spMeets) (u__law_likeI : Use P w K mg base "_law_like" 1 ["got", "due"] spLikeI) :
    UseG P w K mg base "_law_list_right" 6 ["parting", "total"] (fun vs H Q E => spListR vs H Q E ∨ spListRX vs H Q E) := by
  refine use_ofG D (fun f fd F => ?_) (fun _ _ _ _ _ _ us hl => match us, hl with | [_, _], _ => rfl)
  have F1 := fn_list_rightS (P := P) (w := w) (base := base) F T e_TooGreat u_all_meeting u__law_like u__law_is_int u__law_numbered u__law_meet u__law_likeI
  have F2 := fn_list_rightX (P := P) (w := w) (base := base) F T e_TooGreat ex ux_all_meeting u__law_like u__law_is_int u__law_numbered u__law_meet u__law_likeI
  refine ⟨fun vs H Q E h => h.elim (F1.len _ _ _ _) (F2.len _ _ _ _), fun A outer s H args us vs Q E g hr e b r h => ?_⟩
  rcases h with h | h
  · exact F1.run A outer s H args us vs Q E g hr e b r h
  · exact F2.run A outer s H args us vs Q E g hr e b r h
end
end KQ
namespace KQ
open PySem PySem.Spec PyProof.Rows L2 KR KM StX
section
variable {P : Program} {w : World} {K : PySem.W.Frag} {mg : Str → Option Value} {base : Heap}
def spMetT : Sp := fun vs H Q _ => ∃ m c g b a p, vs = [.ref m, .ref a] ∧ MS H m c g b ∧ b ≤ 100000 ∧ TI H a p ∧ Par p ∧
  ∀ H' t r, Kept H H' m g → MS H' m c g (b + 120) → TI H' t r → Par r → r.length = p.length → Tree p r → Q (.ref t) H'
theorem ok_metT (D : DefAt K mg "_law_met" s__law_met) (T : Bt mg) (u__law_of : Use P w K mg base "_law_of" 3 ["m", "some"] spOf) (u__law_order : Use P w K mg base "_law_order" 3 ["m", "many"] spOrder)
    (u__law_numbered : Use P w K mg base "_law_numbered" 1 ["labels"] spNumL) : Use P w K mg base "_law_met" 4 ["m", "parting"] spMetT := by
  refine use_of D (fun f fd F => F.ok sc__law_met (fun vs H Q E h => ?_) (fun cdv A outer s H vs Q E hr h => ?_)) (fun _ _ _ _ _ _ us hl => match us, hl with | [_, _], _ => rfl)
  · obtain ⟨m, c, g, b, a, p, rfl, _⟩ := h
    rfl
  · obtain ⟨m, c, g, b, a, p, rfl, ms, hb, hp, par, q⟩ := h
    refine ⟨_, (pss_cons (ps_asg (pe_tup (pa_cons (pe_callB (k_len (K := K) rfl) (by rfl) T.len PySem.boot_len (pa_cons (pv 1) pa_nil)) (pa_cons (pe_op op_add (pe_callB (k_maxT (K := K) rfl rfl hr.units) (by rfl) T.max (by decide +kernel) (pa_cons (pv 1) pa_nil)) pe_int) pa_nil))) (pg_tup rfl (pgs_cons (pg_name (i := 2) sc__law_met.nd rfl (Or.inl rfl)) (pgs_cons (pg_name (i := 3) sc__law_met.nd rfl (Or.inr rfl)) pgs_nil))))
      (pss_cons (ps_asg (pe_tup (pa_cons (pe_listRg rfl (by rfl) T.list (prg_1 (by rfl) T.range (pv 3))) (pa_cons (pe_op op_rep (pe_lst (pa_cons pe_non pa_nil)) (pv 2)) pa_nil))) (pg_tup rfl (pgs_cons (pg_name (i := 4) sc__law_met.nd rfl (Or.inr rfl)) (pgs_cons (pg_name (i := 5) sc__law_met.nd rfl (Or.inl rfl)) pgs_nil))))
      (pss_cons (ps_par (i := 6) (j := 7) rfl sc__law_met.nd rfl rfl (by decide) rfl rfl (pa_cons (pv 2) (pa_cons (pv 3) pa_nil)) (by rfl))
      (pss_cons (ps_for PassesOwn.never rfl (k_list (K := K) rfl (pe_use u__law_order (by decide) hr (by rfl) (pa_cons (pv 0) (pa_cons (pv 2) pa_nil)))) (pg_name (i := 8) sc__law_met.nd rfl (Or.inl rfl))
      (pss_cons (ps_set (i := 6) sc__law_met.nd rfl (Or.inl rfl) (pe_op op_sub (pv 6) pe_int))
      (pss_cons (ps_set (i := 9) sc__law_met.nd rfl (Or.inr rfl) (pe_ix (k_ixl (K := K) rfl) (pv 4) (pe_ix (k_ixt (K := K) rfl) (pv 1) (pv 8) (fun _ _ => rfl)) (fun _ _ => rfl)))
      (pss_cons (ps_setLc (i := 10) (own := [("block", 11)]) rfl sc__law_met.nd rfl rfl (sw_true rfl rfl rfl (by decide +kernel)) (pi_range1 (by rfl) T.range (pa_cons (pe_op op_sub (pe_callB (k_len (K := K) rfl) (by rfl) T.len PySem.boot_len (pa_cons (pv 4) pa_nil)) (pv 3)) pa_nil)) (blkOk_by (N := ["m", "parting", "many", "shift", "labels", "blocks", "left", "pieces", "at", "own", "picks", "block", "two", "label"]) (sc := defScope s__law_met) (by decide +kernel)) (fun _ _ _ _ _ => (pg_name (i := 11) sc__law_met.nd rfl (Or.inl rfl))) (fun _ _ _ _ _ => (pts_one (pt_cmpR op_ne (pe_ix (k_ixl (K := K) rfl) (pv 4) (pe_op op_add (pv 3) (pv 11)) (fun _ _ => rfl)) (pv 9) (nomark _)))) (fun _ _ _ _ _ => (pv 11)))
      (pss_cons (ps_if (pt_cmpR op_ge (pv 6) (pe_op op_sub (pv 7) pe_int) (nomark _)) (pss_one (ps_expr (k_bm (K := K) rfl PySem.F.plainAttrs_list PySem.F.slot_list_append PySem.F.type_list_append mt_append (pv 10) (pa_cons (pe_op op_sub (pe_callB (k_len (K := K) rfl) (by rfl) T.len PySem.boot_len (pa_cons (pv 4) pa_nil)) (pv 3)) pa_nil)))) pss_nil)
      (pss_cons (ps_set (i := 11) sc__law_met.nd rfl (Or.inl rfl) (pe_use u__law_of (by decide) hr (by rfl) (pa_cons (pv 0) (pa_cons (pv 10) pa_nil))))
      (pss_cons (ps_asg (pv 11) (pg_sub (pv 5) (pv 8) set_list))
      (pss_one (ps_if (pt_cmpR op_eq (pe_op op_add (pv 3) (pv 11)) (pe_callB (k_len (K := K) rfl) (by rfl) T.len PySem.boot_len (pa_cons (pv 4) pa_nil)) (nomark _)) (pss_one (ps_expr (k_bm (K := K) rfl PySem.F.plainAttrs_list PySem.F.slot_list_append PySem.F.type_list_append mt_append (pv 4) (pa_cons (pv 9) pa_nil)))) (pss_cons (ps_asg (pe_tup (pa_cons (pe_ix (k_ixl (K := K) rfl) (pv 4) (pe_op op_add (pv 3) (pv 11)) (fun _ _ => rfl)) (pa_cons (pe_op op_sub (pv 7) pe_int) pa_nil))) (pg_tup rfl (pgs_cons (pg_name (i := 12) sc__law_met.nd rfl (Or.inr rfl)) (pgs_cons (pg_name (i := 7) sc__law_met.nd rfl (Or.inl rfl)) pgs_nil))))
      (pss_one (ps_set (i := 4) sc__law_met.nd rfl (Or.inr rfl) (pe_lc (own := [("label", 13)]) rfl sc__law_met.nd (k_list (K := K) rfl (pv 4)) (blkOk_by (N := ["m", "parting", "many", "shift", "labels", "blocks", "left", "pieces", "at", "own", "picks", "block", "two", "label"]) (sc := defScope s__law_met) (by decide +kernel)) (fun _ _ _ _ _ => (pg_name (i := 13) sc__law_met.nd rfl (Or.inl rfl))) (fun _ _ _ _ _ => pts_nil) (fun _ _ _ _ _ => (pe_ifExp (pt_cmpR op_eq (pv 13) (pv 12) (nomark _)) (pv 9) (pv 13))))))))))))))))
      (pss_one (ps_ret (pe_use u__law_numbered (by decide) hr (by rfl) (pa_cons (pv 5) pa_nil)))))))), ?_⟩
    have g0 := bc_ge 0 p
    have g1 := bc_le 0 p
    have g2 := par.le
    have mem := (rg_mem 0 p (Int.le_refl _) par.rg).1
    have pos := List.length_pos_iff.mpr par.ne
    refine ⟨_, rfl, a, _, rfl, .inr hp.seq, _, rfl, a, p, rfl, hp.seq, par.ne, fun mx hm hle => ⟨_, _, rfl, rfl, ?_⟩⟩
    rw [List.length_map]
    have em := par_max par hm hle
    have mx0 := mem mx hm
    refine ⟨by show 2 ≤ sizeLine; decide, fun T0 nT0 => ?_⟩
    refine ⟨T0, _, rfl, .inl (.inl upd_same), rfl, _, _, rfl, _, [], rfl, rfl, ?_⟩
    have s0 : Same H (upd H T0 (.tup [.int ((p.length : Nat) : Int), .int (mx + 1)])) := same_new nT0
    generalize upd H T0 (.tup [.int ((p.length : Nat) : Int), .int (mx + 1)]) = Ha at s0
    refine ⟨_, rfl, _, rfl, RgOk.of_le (by omega) (by omega) (by omega) (by omega), fun l nl => ?_⟩
    refine ⟨by show 1 ≤ sizeLine; decide, fun w0 nw0 => ?_⟩
    obtain ⟨sh, hsh⟩ : ∃ n : Nat, mx + 1 = (n : Int) := ⟨(mx + 1).toNat, by omega⟩
    refine ⟨_, rfl, w0, _, _, rfl, rfl, upd_same, by omega, by omega, ?_, fun bl nbl => ?_⟩
    · show 1 * _ ≤ sizeLine
      rw [Nat.one_mul]
      exact Nat.le_of_lt (small_of (by omega))
    refine ⟨by show 2 ≤ sizeLine; decide, fun T1 nT1 => ?_⟩
    refine ⟨T1, _, rfl, .inl (.inl upd_same), rfl, _, _, rfl, _, [], rfl, rfl, ?_⟩
    have rep : (List.replicate (((p.length : Nat) : Int)).toNat [V.non]).flatten = List.replicate p.length V.non := by
      rw [Int.toNat_natCast]
      induction p.length with
      | zero => rfl
      | succ n ih =>
        rw [List.replicate_succ, List.flatten_cons, ih]
        rfl
    rw [rep, hsh, rgV_hv]
    have lbl : l ≠ bl := fun e => by
      rw [← e, upd_ne (fun z => by rw [← z, upd_same] at nw0; cases nw0), upd_same] at nbl
      cases nbl
    have e1 : Same (upd Ha l (.lst (hv (List.range sh)))) (upd (upd (upd (upd Ha l (.lst (hv (List.range sh)))) w0 (.lst [.non])) bl (.lst (List.replicate p.length V.non))) T1 (.tup [.ref l, .ref bl])) := by
      rw [hsh, rgV_hv] at nw0 nbl nT1
      rw [rep] at nT1
      exact ((same_new nw0).trans (same_new nbl)).trans (same_new nT1)
    have ebl : (upd (upd (upd (upd Ha l (.lst (hv (List.range sh)))) w0 (.lst [.non])) bl (.lst (List.replicate p.length V.non))) T1 (.tup [.ref l, .ref bl])) bl = some (.lst (List.replicate p.length V.non)) := by
      rw [hsh, rgV_hv, rep] at nT1
      rw [upd_ne (ne_of_none upd_same nT1), upd_same]
    have el := e1 l _ upd_same
    have s1 : Same H (upd (upd (upd (upd Ha l (.lst (hv (List.range sh)))) w0 (.lst [.non])) bl (.lst (List.replicate p.length V.non))) T1 (.tup [.ref l, .ref bl])) := (s0.trans (same_new nl)).trans e1
    have nlH : H l = none := s0.free nl
    have nblH : H bl = none := by
      rw [hsh, rgV_hv] at nw0 nbl
      exact ((s0.trans (same_new nl)).trans (same_new nw0)).free nbl
    generalize (upd (upd (upd (upd Ha l (.lst (hv (List.range sh)))) w0 (.lst [.non])) bl (.lst (List.replicate p.length V.non))) T1 (.tup [.ref l, .ref bl])) = Hb at s1 el ebl e1
    clear e1 nT1 nbl nw0 nl s0 nT0
    have ms1 := ms.mono s1
    have ln := ms.ne nlH
    have bln := ms.ne nblH
    refine ⟨_, rfl, _, rfl, _, _, rfl, ?_⟩
    refine ⟨_, rfl, _, rfl, m, c, g, b, ((p.length : Nat) : Int), rfl, ms1, by omega, by omega, by omega, fun H2 dl ds k2 ms2 edl ndl lds nds rds => ?_⟩
    have k02 : Kept H H2 m g := (Kept.of s1).trans k2
    have el2 := k2 _ _ el ln.1 ln.2.2
    have ebl2 := k2 _ _ ebl bln.1 bln.2.2
    have dln := ms1.ne ndl
    have ndlH : H dl = none := s1.free ndl
    have ord : Ord ds p.length := ⟨by rw [lds, Int.toNat_natCast], nds, rds⟩
    have dll : dl ≠ l := fun e => by rw [e, el] at ndl; cases ndl
    have dlb : dl ≠ bl := fun e => by rw [e, ebl] at ndl; cases ndl
    refine ⟨dl, rfl, ⟨_, sqL edl⟩, for_list (K := K) (a := dl) (xs := ds.map V.int)
      (fun i σ H3 => ∃ (l : Addr) (pc lf : Int) (y8 y9 y10 y11 y12 : Option V), σ = [some (.ref m), some (.ref a), some (.int ((p.length : Nat) : Int)), some (.int (mx + 1)), some (.ref l), some (.ref bl), some (.int lf), some (.int pc), y8, y9, y10, y11, y12, none] ∧
        Kept H H3 m g ∧ MS H3 m c g (b + (p.length : Nat) + (i : Nat)) ∧ H3 dl = some (.lst (ds.map V.int)) ∧ l ≠ bl ∧ l ≠ dl ∧ H l = none ∧ ∃ ls q vs, H3 l = some (.lst (List.map V.int ls)) ∧ Met p ds ls sh i q ∧ q ≤ i ∧ ((dcount ls : Nat) : Int) = pc ∧ lf = (p.length : Nat) - (i : Nat) ∧ pc - 1 ≤ lf ∧
        H3 bl = some (.lst vs) ∧ vs.length = p.length ∧ MetC p ds ls sh i q vs)
      ⟨l, mx + 1, ((p.length : Nat) : Int), none, none, none, none, none, rfl, k02, by simpa using ms2, edl, lbl, dll.symm, nlH, (List.range sh).map fun n => ((n : Nat) : Int), 0, List.replicate p.length V.non, ?_, ?_, Nat.le_refl _, ?_, by omega, by omega, ebl2, List.length_replicate, ?_⟩
      (fun i σ H3 _ ⟨_, _, _, _, _, _, _, _, _, _, _, ed, _⟩ => sqL ed) ?_ ?_⟩
    · rw [el2]
      unfold hv
      rw [List.map_map]
      rfl
    · refine ⟨by rw [List.length_map, List.length_range]; rfl, fun j d x hj => absurd hj (Nat.not_lt_zero _), fun b b' hb hb' n e => ?_⟩
      rw [at_map (List.getElem?_range hb), at_map (List.getElem?_range hb')] at e
      have := Option.some.inj e
      omega
    · rw [dcount_range]
      omega
    · refine ⟨fun j d hj => absurd hj (Nat.not_lt_zero _), fun k hk => absurd hk (Nat.not_lt_zero _), fun S cp _ u v u0 u1 v0 v1 hu => ?_, by rw [dcount_range]⟩
      have r1 := bk_rng par u0 u1
      have r2 := bk_rng par v0 v1
      rw [at_map (List.getElem?_range (by omega)), at_map (List.getElem?_range (by omega))] at hu
      exact cp u v u0 u1 v0 v1 (by have := Option.some.inj hu; omega)
    · rintro i v σ H3 hi ⟨l, pc, lf, y8, y9, y10, y11, y12, rfl, k3, ms3, edl3, lbl, ldl, nlH, ls, q', vs, el3, M, qi, hpc, hlf, hle3, ebl3, lvs, hvs⟩
      obtain ⟨d, hd, rfl⟩ := map_at hi
      have hdn := ord.at_ d (List.mem_of_getElem? hd)
      have him := (List.getElem?_eq_some_iff.mp hd).1
      rw [ord.len] at him
      have shp : ∀ x ∈ p, 0 ≤ x ∧ x < (sh : Int) := fun x hx => by have := mem x hx; omega
      obtain ⟨x, hx⟩ := at_some (xs := p) (i := d.toNat) (by omega)
      have hxm := shp x (List.mem_of_getElem? hx)
      obtain ⟨own, ho⟩ := at_some (xs := ls) (i := x.toNat) (by rw [M.len]; omega)
      have hp3 := k3.ti ms hp
      have ln := ms.ne nlH
      refine ⟨_, rfl, _, _, rfl, rfl, ?_⟩
      refine ⟨_, rfl, _, rfl, _, rfl, a, _, d, .int x, rfl, rfl, hp3.seq, atI_of (j := d.toNat) (by omega) (at_map hx), l, _, x, .int own, rfl, rfl, sqL el3, atI_of (j := x.toNat) (by omega) (at_map ho), ?_⟩
      refine ⟨_, rfl, l, _, rfl, .inl (sqL el3), _, rfl, _, _, rfl, rfl, _, rfl, ?_⟩
      rw [List.length_map, M.len, show (((sh + q' : Nat)) : Int) - (mx + 1) = ((q' : Nat) : Int) by omega]
      refine ⟨by omega, by omega, fun N nN => ?_⟩
      refine lc_range (fun k H4 => Same H3 H4 ∧ ∃ pk : List Int, H4 N = some (.lst (pk.map V.int)) ∧ pk.length ≤ k ∧ (∀ z ∈ pk, ∃ k' : Nat, z = (k' : Int) ∧ k' < q' ∧ ls[sh + k']? ≠ some own) ∧ (pk = [] → ∀ k', k' < k → ls[sh + k']? = some own))
        ⟨same_new nN, [], upd_same, Nat.le_refl _, fun z hz => (by cases hz), fun _ k' hk' => absurd hk' (Nat.not_lt_zero _)⟩ ?_ ?_
      · rintro k H4 hk ⟨s4, pk, eN, lpk, hpk, hnil⟩
        rw [Int.toNat_natCast] at hk
        obtain ⟨v, hv⟩ := at_some (xs := ls) (i := sh + k) (by rw [M.len]; omega)
        refine ⟨rfl, _, rfl, _, rfl, _, rfl, _, _, rfl, rfl, l, _, mx + 1 + (0 + (k : Nat)), .int v, rfl, rfl, sqL (s4 _ _ el3), atI_of (j := sh + k) (by omega) (at_map hv), _, rfl, rfl, _, rfl, ?_⟩
        by_cases e : v = own
        · rw [decide_eq_true (congrArg V.int e)]
          refine ⟨s4, pk, eN, by omega, hpk, fun hn k' hk' => ?_⟩
          by_cases c : k' = k
          · rw [c, hv, e]
          · exact hnil hn k' (by omega)
        · rw [decide_eq_false (fun z => e (V.int.inj z))]
          refine ⟨_, rfl, _, eN, ?_, same_mut s4 nN, pk ++ [(0 + (k : Nat) : Int)], ?_, ?_, fun z hz => ?_, fun hn => ?_⟩
          · rw [List.length_map]
            exact small_of (by omega)
          · rw [upd_same, List.map_append]
            rfl
          · rw [List.length_append]
            show pk.length + 1 ≤ k + 1
            omega
          · rcases List.mem_append.mp hz with hz | hz
            · exact hpk z hz
            · rw [List.mem_singleton.mp hz]
              refine ⟨k, by omega, hk, ?_⟩
              rw [hv]
              exact fun z => e (Option.some.inj z)
          · simp at hn
      rintro H4 ⟨s4, pk, eN, lpk, hpk, hnil⟩
      rw [Int.toNat_natCast] at lpk hnil
      have Nn := (ms3.ne nN)
      have nNH : H N = none := k3.free nN Nn.1 Nn.2.2
      have el4 := s4 _ _ el3
      refine ⟨_, rfl, _, rfl, _, _, rfl, rfl, _, _, rfl, rfl, _, rfl, ?_⟩
      refine ifs_fact (fun H5 => Same H3 H5 ∧ ∃ pk : List Int, H5 N = some (.lst (pk.map V.int)) ∧ pk ≠ [] ∧ pk.length ≤ 100 ∧ ∀ z ∈ pk, (∃ k' : Nat, z = (k' : Int) ∧ k' < q' ∧ ls[sh + k']? ≠ some own) ∨ (z = ((q' : Nat) : Int) ∧ pc - 1 ≤ lf - 1)) ?_ ?_ ?_
      · intro hle D kD
        refine ⟨_, rfl, .inl ⟨rfl, _, .inl (.inl eN)⟩, _, rfl, l, _, rfl, .inl (sqL el4), _, rfl, _, _, rfl, rfl, ?_⟩
        rw [List.length_map, M.len]
        refine ⟨N, _, _, rfl, rfl, eN, ?_, kD _ ⟨same_mut s4 nN, pk ++ [((q' : Nat) : Int)], ?_, ?_, ?_, fun z hz => ?_⟩⟩
        · rw [List.length_map]
          exact small_of (by omega)
        · rw [upd_same, List.map_append]
          exact congrArg (fun t => some (HO.lst (pk.map V.int ++ [V.int t]))) (show (((sh + q' : Nat)) : Int) - (mx + 1) = ((q' : Nat) : Int) by omega)
        · simp
        · rw [List.length_append]
          show pk.length + 1 ≤ 100
          omega
        · rcases List.mem_append.mp hz with hz | hz
          · exact .inl (hpk z hz)
          · exact .inr ⟨List.mem_singleton.mp hz, of_decide_eq_true hle⟩
      · intro hle D kD
        refine kD _ ⟨s4, pk, eN, fun hn => ?_, by omega, fun z hz => .inl (hpk z hz)⟩
        have := met_some par (by omega) ord M hd hx ho (hnil hn)
        have hle := of_decide_eq_false hle
        omega
      rintro H5 ⟨s5, pk, eN, nepk, lpk, hpk⟩
      have ms5 := ms3.mono s5
      refine ⟨_, rfl, _, rfl, m, c, g, _, N, pk, rfl, ms5, by omega, eN, Nn.2.2, nepk, by omega, fun H6 z k6 ms6 hz => ?_⟩
      have k36 : Kept H H6 m g := (k3.trans (Kept.of s5)).trans k6
      have bln := ms.ne nblH
      have dln' := ms.ne ndlH
      have el6 := k6 _ _ (s5 _ _ el3) ln.1 ln.2.2
      have ebl6 := k6 _ _ (s5 _ _ ebl3) bln.1 bln.2.2
      have edl6 := k6 _ _ (s5 _ _ edl3) dln'.1 dln'.2.2
      refine ⟨_, rfl, _, rfl, _, rfl, bl, _, d, d.toNat, rfl, rfl, ebl6, by rw [lvs]; exact ixN_of hdn.1 (by omega), ?_⟩
      have el7 : (upd H6 bl (.lst (vs.set d.toNat (.int z)))) l = some (.lst (ls.map V.int)) := by rw [upd_ne lbl]; exact el6
      have ebl7 : (upd H6 bl (.lst (vs.set d.toNat (.int z)))) bl = some (.lst (vs.set d.toNat (.int z))) := upd_same
      have edl7 : (upd H6 bl (.lst (vs.set d.toNat (.int z)))) dl = some (.lst (ds.map V.int)) := by rw [upd_ne dlb]; exact edl6
      have k7 : Kept H (upd H6 bl (.lst (vs.set d.toNat (.int z)))) m g := kept_mut k36 nblH
      have ms7 : MS (upd H6 bl (.lst (vs.set d.toNat (.int z)))) m c g (b + (p.length : Nat) + (i : Nat) + 1) := ms6.put bln.1 bln.2.1 bln.2.2
      have hC7 : (∀ k' : Nat, z = (k' : Int) → k' < q' → ∀ two, ls[sh + k']? = some two → own ≠ two → MetC p ds (ls.map fun z => if z = two then own else z) sh (i + 1) q' (vs.set d.toNat (.int z))) ∧ (z = ((q' : Nat) : Int) → MetC p ds (ls ++ [own]) sh (i + 1) (q' + 1) (vs.set d.toNat (.int z))) :=
        ⟨fun k' e hk two ht n => e ▸ metc_glue shp ord M.len lvs hvs hd hx ho hk ht n, fun e => e ▸ metc_new shp ord M.len lvs hvs hd hx ho⟩
      have lv7 : (vs.set d.toNat (V.int z)).length = p.length := by rw [List.length_set]; exact lvs
      generalize upd H6 bl (.lst (vs.set d.toNat (.int z))) = H7 at el7 ebl7 edl7 k7 ms7
      generalize vs.set d.toNat (.int z) = vs7 at ebl7 hC7 lv7
      refine ⟨_, rfl, _, rfl, _, _, rfl, rfl, _, rfl, l, _, rfl, .inl (sqL el7), rfl, _, rfl, ?_⟩
      rw [List.length_map, M.len]
      rcases hpk z hz with ⟨k', rfl, hk', hne⟩ | ⟨rfl, hpl⟩
      · rw [decide_eq_false (fun q => by have := V.int.inj q; omega)]
        obtain ⟨two, htwo⟩ := at_some (xs := ls) (i := sh + k') (by rw [M.len]; omega)
        have ntwo : own ≠ two := fun e => hne (by rw [htwo, e])
        refine ⟨_, rfl, _, rfl, _, rfl, _, _, rfl, rfl, l, _, mx + 1 + ((k' : Nat) : Int), .int two, rfl, rfl, sqL el7, atI_of (j := sh + k') (by omega) (at_map htwo), _, rfl, pc, 1, rfl, rfl, by show 2 ≤ sizeLine; decide, fun T2 nT2 => ?_⟩
        refine ⟨T2, _, rfl, .inl (.inl upd_same), rfl, _, _, rfl, _, [], rfl, rfl, ?_⟩
        have s8 : Same H7 (upd H7 T2 (.tup [.int two, .int (pc - 1)])) := same_new nT2
        generalize hH8 : upd H7 T2 (.tup [.int two, .int (pc - 1)]) = H8 at s8
        refine ⟨_, rfl, l, rfl, ⟨_, sqL (s8 _ _ el7)⟩, fun G nG => ?_⟩
        refine lc_list (K := K) (a := l) (xs := ls.map V.int) (fun k H9 => Same H8 H9 ∧ H9 G = some (.lst (((ls.take k).map fun z => if z = two then own else z).map V.int)))
          ⟨same_new nG, upd_same⟩ (fun k H9 _ ⟨s9, _⟩ => sqL (s9 _ _ (s8 _ _ el7))) ?_ ?_
        · rintro k v H9 hk ⟨s9, eG⟩
          obtain ⟨y, hy, rfl⟩ := map_at hk
          have kl := (List.getElem?_eq_some_iff.mp hy).1
          rw [M.len] at kl
          have small : (((ls.take k).map fun z => if z = two then own else z).map V.int).length < sizeLine := by
            rw [List.length_map, List.length_map, List.length_take]
            exact small_of (by omega)
          refine ⟨rfl, _, rfl, _, rfl, rfl, _, rfl, ?_⟩
          by_cases e2 : y = two
          · rw [decide_eq_true (congrArg V.int e2)]
            refine ⟨_, rfl, _, eG, small, same_mut s9 nG, ?_⟩
            rw [upd_same, take_snoc hy, List.map_append, List.map_append]
            show _ = some (HO.lst (_ ++ [V.int (if y = two then own else y)]))
            rw [if_pos e2]
          · rw [decide_eq_false (fun q => e2 (V.int.inj q))]
            refine ⟨_, rfl, _, eG, small, same_mut s9 nG, ?_⟩
            rw [upd_same, take_snoc hy, List.map_append, List.map_append]
            show _ = some (HO.lst (_ ++ [V.int (if y = two then own else y)]))
            rw [if_neg e2]
        · rintro H9 ⟨s9, eG⟩
          rw [List.length_map, List.take_length] at eG
          have s79 := s8.trans s9
          have nG7 : H7 G = none := s8.free nG
          have Gn := ms7.ne nG7
          refine ⟨G, pc - 1, lf - 1, _, _, _, _, _, rfl, k7.trans (Kept.of s79), ?_, s79 _ _ edl7, (fun e => by rw [e, ebl7] at nG7; cases nG7), (fun e => by rw [e, edl7] at nG7; cases nG7), k7.free nG7 Gn.1 Gn.2.2, _, q', vs7, eG,
            met_glue shp M hd hx ho hk' htwo ntwo, by omega, ?_, by omega, by omega, s79 _ _ ebl7, lv7, hC7.1 _ rfl hk' _ htwo ntwo⟩
          · rw [show b + ((p.length : Nat) : Int) + ((i + 1 : Nat) : Int) = b + (p.length : Nat) + (i : Nat) + 1 by omega]
            exact ms7.mono s79
          · have := dcount_merge (List.mem_of_getElem? ho) (List.mem_of_getElem? htwo) ntwo
            omega
      · rw [decide_eq_true (congrArg V.int (by omega))]
        refine ⟨_, rfl, .inl ⟨rfl, _, .inl (.inl el7)⟩, _, rfl, l, _, _, rfl, rfl, el7, ?_, ?_⟩
        · rw [List.length_map, M.len]
          exact small_of (by omega)
        refine ⟨l, pc, lf - 1, _, _, _, _, _, rfl, kept_mut k7 nlH, ?_, by rw [upd_ne ldl.symm]; exact edl7, lbl, ldl, nlH, ls ++ [own], q' + 1, vs7, ?_, met_new shp M hd hx ho, by omega, ?_, by omega, ?_, by rw [upd_ne lbl.symm]; exact ebl7, lv7, hC7.2 rfl⟩
        · rw [show b + ((p.length : Nat) : Int) + ((i + 1 : Nat) : Int) = b + (p.length : Nat) + (i : Nat) + 1 by omega]
          exact ms7.put ln.1 ln.2.1 ln.2.2
        · rw [upd_same, List.map_append]
          rfl
        · rw [dcount_same (ys := ls) fun x => ⟨fun h => ?_, fun h => List.mem_append_left _ h⟩]
          · exact hpc
          · rcases List.mem_append.mp h with h | h
            · exact h
            · rw [List.mem_singleton.mp h]
              exact List.mem_of_getElem? ho
        · exact hpl
    · rintro σ H3 ⟨l, pc, lf, y8, y9, y10, y11, y12, rfl, k3, ms3, edl3, lbl, ldl, nlH, ls, q', vs, el3, M, qi, hpc, hlf, hle3, ebl3, lvs, hvs⟩
      rw [List.length_map, ord.len] at hvs ms3 hlf
      obtain ⟨rs, rfl⟩ := ints_of (vs := vs) fun j hj => by
        obtain ⟨t, ht⟩ := List.mem_iff_getElem?.mp (ord.all (d := ((j : Nat) : Int)) (by omega) (by omega))
        have tl := (List.getElem?_eq_some_iff.mp ht).1
        rw [ord.len] at tl
        obtain ⟨k, hk, _⟩ := hvs.a t _ tl ht
        rw [Int.toNat_natCast] at hk
        exact ⟨_, hk⟩
      rw [List.length_map] at lvs
      refine ⟨_, rfl, bl, rs, rfl, ebl3, by omega, fun H4 t s4 ht => ?_⟩
      refine q H4 t (num rs) (k3.trans (Kept.of s4)) ((ms3.mono s4).le (by omega)) ht (num_par (fun e => ?_) (by omega)) (by rw [num_len, lvs]) (metc_tree par (by omega) ord M.len lvs hvs (by omega))
      rw [e] at lvs
      exact par.ne (List.length_eq_zero_iff.mp lvs.symm)
end
end KQ
namespace KQ
open PySem PySem.Spec PyProof.Rows L2 KR KM StX
section
variable {P : Program} {w : World} {K : PySem.W.Frag} {mg : Str → Option Value} {base : Heap}
def spDoor : Sp := fun vs H Q _ => ∃ d n : Int, vs = [.int d, .int n] ∧ 0 ≤ d ∧ d < n ∧ ∀ H', Same H H' → Q .non H'
def spWay : Sp := fun vs H Q _ => ∃ (a b : Addr) (p r : List Int) (d e : Int), vs = [.ref a, .ref b, .int d, .int e] ∧ TI H a p ∧ TI H b r ∧ Par p ∧ Par r ∧ p.length = r.length ∧ 0 ≤ d ∧ d < p.length ∧ 0 ≤ e ∧ e < p.length ∧
  ∀ H' v, Same H H' → ((v = .non ∧ ¬ Tree p r) ∨ ∃ (t : Addr) (row : List Int), v = .ref t ∧ TI H' t row ∧ Tree p r ∧ IsWay p r row d e) → Q v H'
/-- the doors beside a door, on the side of one of its two blocks -/
def Beside (p r : List Int) (d w : Int) (ds : List Int) : Prop := ds.Pairwise (· < ·) ∧ ∀ x : Int, x ∈ ds ↔ 0 ≤ x ∧ x < p.length ∧ x ≠ d ∧ glue (wo p r d.toNat) (nd p r w d) (nA p x)
def spSide : Sp := fun vs H Q _ => ∃ (pa a b : Addr) (p r : List Int) (d w : Int), vs = [.ref pa, .int d, .int w] ∧ H pa = some (.tup [.ref a, .ref b]) ∧ TI H a p ∧ TI H b r ∧ Par p ∧ Par r ∧ p.length = r.length ∧ 0 ≤ d ∧ d < p.length ∧ (w = 0 ∨ w = 1) ∧
  ∀ H' t ds, Same H H' → TI H' t ds → Beside p r d w ds → Q (.ref t) H'
end
end KQ
namespace KQ
open PySem PySem.Spec PyProof.Rows L2 KR KM StX
section
variable {P : Program} {w : World} {K : PySem.W.Frag} {mg : Str → Option Value} {base : Heap}
def spSides : Sp := fun vs H Q _ => ∃ (a b : Addr) (p r : List Int) (d : Int), vs = [.ref a, .ref b, .int d] ∧ TI H a p ∧ TI H b r ∧ Par p ∧ Par r ∧ p.length = r.length ∧ 0 ≤ d ∧ d < p.length ∧
  ∀ H' v, Same H H' → ((v = .non ∧ ¬ Tree p r) ∨ ∃ (t t0 t1 : Addr) (xs ys : List Int), v = .ref t ∧ H' t = some (.tup [.ref t0, .ref t1]) ∧ TI H' t0 xs ∧ TI H' t1 ys ∧ Tree p r ∧ Beside p r d 0 xs ∧ Beside p r d 1 ys) → Q v H'
def spMoved : Sp := fun vs H Q _ => ∃ (a : Addr) (r : List Int) (d b : Int), vs = [.ref a, .int d, .int b] ∧ TI H a r ∧ Par r ∧ 0 ≤ d ∧ d < r.length ∧ ∀ H' t, Same H H' → TI H' t (mv r d b) → Q (.ref t) H'
def spMoves : Sp := fun vs H Q _ => ∃ (a b : Addr) (p r : List Int), vs = [.ref a, .ref b] ∧ TI H a p ∧ TI H b r ∧ Par p ∧ Par r ∧ p.length = r.length ∧
  ∀ H' v, Same H H' → ((v = .non ∧ ¬ Tree p r) ∨ ∃ (t : Addr) (ts : List Addr) (rows : List (List Int)), v = .ref t ∧ H' t = some (.tup (ts.map V.ref)) ∧ Its H' ts rows ∧ Tree p r ∧ Moves p r rows) → Q v H'
end
end KQ
namespace KQ
open PySem PySem.Spec PyProof.Rows L2 KR KM StX
/-! ### roots in a row that isn't sorted -/
structure Rts (hs : List Nat) (L rk : Nat → Nat) : Prop where
  lt : ∀ x, x < hs.length → up hs x < hs.length
  fix : ∀ x, x < hs.length → up hs x = x → L x = x
  stay : ∀ x, x < hs.length → L (up hs x) = L x
  rk : ∀ x, x < hs.length → up hs x ≠ x → rk (up hs x) < rk x
  top : ∀ x, x < hs.length → up hs (L x) = L x
  rng : ∀ x, x < hs.length → L x < hs.length
theorem rts_range (n : Nat) : Rts (List.range n) (fun x => x) (fun _ => 0) := by
  refine ⟨fun x hx => ?_, fun x _ _ => rfl, fun x _ => ?_, fun x _ h => absurd (up_range n x) h, fun x _ => up_range n x, fun x hx => hx⟩
  · rw [up_range]
    exact hx
  · rw [up_range]
theorem rts_tie {hs : List Nat} {L rk : Nat → Nat} (h : Rts hs L rk) {a b : Nat} (ha : a < hs.length) (hb : b < hs.length) (ne : L a ≠ L b) : Rts (hs.set (L a) (L b)) (fun x => if L x = L a then L b else L x) (fun x => if L x = L a then rk x + 1 + rk (L b) else rk x) := by
  have la := h.rng a ha
  have lb := h.rng b hb
  have ta := h.top a ha
  have tb := h.top b hb
  have faa : L (L a) = L a := h.fix _ la ta
  have fbb : L (L b) = L b := h.fix _ lb tb
  have us : ∀ x, KM.up (hs.set (L a) (L b)) x = if x = L a then L b else KM.up hs x := fun x => up_set la
  refine ⟨fun x hx => ?_, fun x hx hu => ?_, fun x hx => ?_, fun x hx hu => ?_, fun x hx => ?_, fun x hx => ?_⟩
  all_goals rw [List.length_set] at *
  · rw [us]
    split
    · exact lb
    · exact h.lt x hx
  · rw [us] at hu
    by_cases c : x = L a
    · rw [if_pos c] at hu
      exact absurd (hu.trans c) (fun e => ne e.symm)
    · rw [if_neg c] at hu
      have := h.fix x hx hu
      show (if L x = L a then L b else L x) = x
      rw [this, if_neg c]
  · show (if L (KM.up (hs.set (L a) (L b)) x) = L a then L b else L (KM.up (hs.set (L a) (L b)) x)) = if L x = L a then L b else L x
    rw [us]
    by_cases c : x = L a
    · rw [if_pos c, fbb, if_neg (fun e => ne e.symm), c, faa, if_pos rfl]
    · rw [if_neg c, h.stay x hx]
  · show (if L (KM.up (hs.set (L a) (L b)) x) = L a then rk (KM.up (hs.set (L a) (L b)) x) + 1 + rk (L b) else rk (KM.up (hs.set (L a) (L b)) x)) < if L x = L a then rk x + 1 + rk (L b) else rk x
    rw [us] at hu ⊢
    by_cases c : x = L a
    · rw [if_pos c, fbb, if_neg (fun e => ne e.symm), c, faa, if_pos rfl]
      omega
    · rw [if_neg c] at hu ⊢
      have := h.rk x hx hu
      rw [h.stay x hx]
      split <;> omega
  · show KM.up (hs.set (L a) (L b)) (if L x = L a then L b else L x) = if L x = L a then L b else L x
    rw [us]
    by_cases c : L x = L a
    · rw [if_pos c, if_neg (fun e => ne e.symm), tb]
    · rw [if_neg c, if_neg c, h.top x hx]
  · show (if L x = L a then L b else L x) < hs.length
    split
    · exact lb
    · exact h.rng x hx
section
variable {P : Program} {w : World} {K : PySem.W.Frag} {mg : Str → Option Value} {base : Heap}
abbrev s__law_root : Stmt := topS 38
theorem sc__law_root : FnScope ["roots", "thing"] ["roots", "thing"] (defScope s__law_root) := ⟨rfl, rfl, rfl, by decide +kernel, rfl, by decide +kernel, by decide +kernel⟩
def spRoot : Sp := fun vs H Q _ => ∃ (l : Addr) (hs : List Nat) (L rk : Nat → Nat) (x : Nat), vs = [.ref l, .int (x : Int)] ∧ H l = some (.lst (hv hs)) ∧ Rts hs L rk ∧ x < hs.length ∧ Q (.int ((L x : Nat) : Int)) H
theorem ok_root (D : DefAt K mg "_law_root" s__law_root) (T : Bt mg) : Use P w K mg base "_law_root" 1 ["roots", "thing"] spRoot := by
  refine use_of D (fun f fd F => F.ok sc__law_root (fun vs H Q E h => ?_) (fun cdv A outer s H vs Q E hr h => ?_)) (fun _ _ _ _ _ _ us hl => match us, hl with | [_, _], _ => rfl)
  · obtain ⟨l, hs, L, rk, x, rfl, _⟩ := h
    rfl
  · obtain ⟨l, hs, L, rk, x, rfl, el, R, hx, q⟩ := h
    refine ⟨_, (pss_cons (ps_while PassesOwn.never (pt_cmpR op_ne (pe_ix (k_ixl (K := K) rfl) (pv 0) (pv 1) (fun _ _ => rfl)) (pv 1) (nomark _)) (pss_one (ps_set (i := 1) sc__law_root.nd rfl (Or.inl rfl) (pe_ix (k_ixl (K := K) rfl) (pv 0) (pv 1) (fun _ _ => rfl)))))
      (pss_one (ps_ret (pv 1)))), ?_⟩
    have at_ : ∀ t : Nat, t < hs.length → (hv hs)[t]? = some (.int ((up hs t : Nat) : Int)) := fun t ht => by
      unfold hv
      rw [List.getElem?_map, List.getElem?_eq_getElem ht]
      unfold up
      rw [List.getD_eq_getElem?_getD, List.getElem?_eq_getElem ht]
      rfl
    refine ⟨fun g σ H1 => ∃ t : Nat, t < hs.length ∧ L t = L x ∧ g = rk t ∧ σ = [some (.ref l), some (.int (t : Int))] ∧ H1 = H, ⟨_, x, hx, rfl, rfl, rfl, rfl⟩, ?_⟩
    rintro g σ H1 ⟨t, ht, hL, rfl, rfl, rfl⟩
    have lt := R.lt t ht
    refine ⟨_, rfl, _, rfl, l, _, _, _, rfl, rfl, sqL el, atI_of (j := t) rfl (at_ t ht), _, rfl, rfl, _, rfl, ?_⟩
    by_cases e : up hs t = t
    · rw [decide_eq_true (congrArg V.int (by omega))]
      refine ⟨_, rfl, ?_⟩
      rw [← hL, R.fix t ht e] at q
      exact q
    · rw [decide_eq_false (fun z => e (by have := V.int.inj z; omega))]
      refine ⟨_, fun σ' H' n => ⟨rk (up hs t), R.rk t ht e, n⟩, ?_⟩
      exact ⟨_, rfl, _, rfl, l, _, _, _, rfl, rfl, sqL el, atI_of (j := t) rfl (at_ t ht), up hs t, lt, by rw [R.stay t ht, hL], rfl, rfl, rfl⟩
abbrev s__law_meet : Stmt := topS 39
theorem sc__law_meet : FnScope ["one", "two", "many", "more", "roots", "door", "here", "there"] ["one", "two"] (defScope s__law_meet) := ⟨rfl, rfl, rfl, by decide +kernel, rfl, by decide +kernel, by decide +kernel⟩
theorem ok_law_meet (D : DefAt K mg "_law_meet" s__law_meet) (T : Bt mg) (u__law_root : Use P w K mg base "_law_root" 1 ["roots", "thing"] spRoot) : Use P w K mg base "_law_meet" 2 ["one", "two"] spMeets := by
  refine use_of D (fun f fd F => F.ok sc__law_meet (fun vs H Q E h => ?_) (fun cdv A outer s H vs Q E hr h => ?_)) (fun _ _ _ _ _ _ us hl => match us, hl with | [_, _], _ => rfl)
  · obtain ⟨a, b, p, r, rfl, _⟩ := h
    rfl
  · obtain ⟨a, b, p, r, rfl, hp, hb, par, parb, hl, q⟩ := h
    refine ⟨_, (pss_cons (ps_par (i := 2) (j := 3) rfl sc__law_meet.nd rfl rfl (by decide) rfl rfl (pa_cons (pe_op op_add (pe_callB (k_maxT (K := K) rfl rfl hr.units) (by rfl) T.max (by decide +kernel) (pa_cons (pv 0) pa_nil)) pe_int) (pa_cons (pe_op op_add (pe_callB (k_maxT (K := K) rfl rfl hr.units) (by rfl) T.max (by decide +kernel) (pa_cons (pv 1) pa_nil)) pe_int) pa_nil)) (by rfl))
      (pss_cons (ps_if (pt_cmpR op_ne (pe_op op_add (pv 2) (pv 3)) (pe_op op_add (pe_callB (k_len (K := K) rfl) (by rfl) T.len PySem.boot_len (pa_cons (pv 0) pa_nil)) pe_int) (nomark _)) (pss_one (ps_ret pe_bl)) pss_nil)
      (pss_cons (ps_set (i := 4) sc__law_meet.nd rfl (Or.inl rfl) (pe_listRg rfl (by rfl) T.list (prg_1 (by rfl) T.range (pe_op op_add (pv 2) (pv 3)))))
      (pss_cons (ps_for PassesOwn.never rfl (pi_range1 (by rfl) T.range (pa_cons (pe_callB (k_len (K := K) rfl) (by rfl) T.len PySem.boot_len (pa_cons (pv 0) pa_nil)) pa_nil)) (pg_name (i := 5) sc__law_meet.nd rfl (Or.inl rfl))
      (pss_cons (ps_par (i := 6) (j := 7) rfl sc__law_meet.nd rfl rfl (by decide) rfl rfl (pa_cons (pe_use u__law_root (by decide) hr (by rfl) (pa_cons (pv 4) (pa_cons (pe_ix (k_ixt (K := K) rfl) (pv 0) (pv 5) (fun _ _ => rfl)) pa_nil))) (pa_cons (pe_use u__law_root (by decide) hr (by rfl) (pa_cons (pv 4) (pa_cons (pe_op op_add (pv 2) (pe_ix (k_ixt (K := K) rfl) (pv 1) (pv 5) (fun _ _ => rfl))) pa_nil))) pa_nil)) (by rfl))
      (pss_cons (ps_if (pt_cmpR op_eq (pv 6) (pv 7) (nomark _)) (pss_one (ps_ret pe_bl)) pss_nil)
      (pss_one (ps_asg (pv 7) (pg_sub (pv 4) (pv 6) set_list))))))
      (pss_one (ps_ret pe_bl)))))), ?_⟩
    have g0 := bc_ge 0 p
    have g1 := bc_le 0 p
    have g2 := par.le
    have g3 := bc_ge 0 r
    have g4 := bc_le 0 r
    have g5 := parb.le
    refine ⟨_, rfl, a, p, rfl, hp.seq, par.ne, fun mx hm hle => ⟨_, _, rfl, rfl, ?_⟩⟩
    have e1 := par_max par hm hle
    refine ⟨_, rfl, b, r, rfl, hb.seq, parb.ne, fun my hm2 hle2 => ⟨_, _, rfl, rfl, ?_⟩⟩
    have e2 := par_max parb hm2 hle2
    refine ⟨_, _, rfl, ?_⟩
    refine ⟨_, rfl, _, rfl, _, _, rfl, rfl, _, rfl, a, _, rfl, .inr hp.seq, _, _, rfl, rfl, rfl, _, rfl, ?_⟩
    rw [List.length_map]
    by_cases e : mx + 1 + (my + 1) = p.length + 1
    · rw [decide_eq_true (congrArg V.int e)]
      have hM : mx + 1 + (my + 1) = ((mx + 1 + (my + 1)).toNat : Int) := by omega
      generalize hMM : (mx + 1 + (my + 1)).toNat = M at hM
      have hrg : rgV 0 (mx + 1 + (my + 1)) = hv (List.range M) := by rw [hM, rgV_hv]
      refine ⟨_, rfl, _, rfl, _, _, rfl, rfl, mx + 1 + (my + 1), rfl, RgOk.of_le (by omega) (by omega) (by omega) (by omega), fun l nl => ?_⟩
      rw [hrg]
      have s1 : Same H (upd H l (.lst (hv (List.range M)))) := same_new nl
      refine ⟨_, rfl, a, _, rfl, .inr (hp.mono s1).seq, _, rfl, ?_⟩
      rw [List.length_map]
      refine ⟨by omega, by omega, for_range (lo := 0) (n := (((p.length : Nat) : Int)).toNat)
        (fun i σ H3 => ∃ (y5 y6 y7 : Option V), σ = [some (.ref a), some (.ref b), some (.int (mx + 1)), some (.int (my + 1)), some (.ref l), y5, y6, y7] ∧ Same H H3 ∧ (∀ j, j < i → ¬ RingAt p r j) ∧ ∃ (hs : List Nat) (L rk : Nat → Nat), H3 l = some (.lst (hv hs)) ∧ Rts hs L rk ∧ hs.length = M ∧
          ∀ x y, x < M → y < M → (L x = L y ↔ glue ((tiesOf p r).take i) x y))
        ⟨none, none, none, rfl, s1, fun j hj => absurd hj (Nat.not_lt_zero _), List.range M, _, _, upd_same, rts_range M, List.length_range, fun x y _ _ => Iff.rfl⟩ ?_ ?_⟩
      · rintro i σ H3 hi ⟨y5, y6, y7, rfl, sm, nr, hs, L, rk, el, R, hlen, hgl⟩
        rw [Int.toNat_natCast] at hi
        rw [show (0 : Int) + ((i : Nat) : Int) = ((i : Nat) : Int) by omega]
        obtain ⟨x, hx⟩ := at_some (xs := p) (i := i) hi
        obtain ⟨y, hy⟩ := at_some (xs := r) (i := i) (by omega)
        obtain ⟨x0, x1⟩ := (rg_mem 0 p (Int.le_refl _) par.rg).1 x (List.mem_of_getElem? hx)
        obtain ⟨y0, y1⟩ := (rg_mem 0 r (Int.le_refl _) parb.rg).1 y (List.mem_of_getElem? hy)
        have hp3 := hp.mono sm
        have hb3 := hb.mono sm
        have xl : x.toNat < hs.length := by omega
        have yl : (bc 0 p + y).toNat < hs.length := by omega
        refine ⟨_, rfl, _, rfl, _, rfl, a, _, _, .int x, rfl, rfl, hp3.seq, atI_of (j := i) rfl (at_map hx), l, hs, L, rk, x.toNat, ?_, el, R, xl, ?_⟩
        · rw [show ((x.toNat : Nat) : Int) = x by omega]
          rfl
        refine ⟨_, rfl, _, rfl, _, rfl, _, rfl, b, _, _, .int y, rfl, rfl, hb3.seq, atI_of (j := i) rfl (at_map hy), _, _, rfl, rfl, l, hs, L, rk, (bc 0 p + y).toNat, ?_, el, R, yl, ?_⟩
        · rw [show (((bc 0 p + y).toNat : Nat) : Int) = mx + 1 + y by omega]
          rfl
        refine ⟨_, _, rfl, ?_⟩
        refine ⟨_, rfl, _, rfl, rfl, _, rfl, ?_⟩
        by_cases eL : L x.toNat = L (bc 0 p + y).toNat
        · rw [decide_eq_true (congrArg V.int (by omega))]
          exact q H3 false sm ⟨fun z => absurd z (by decide), fun z => absurd ⟨x, y, hx, hy, (hgl _ _ (by omega) (by omega)).mp eL⟩ (z.2 i)⟩
        · rw [decide_eq_false (fun z => eL (by have := V.int.inj z; omega))]
          have hLa := R.rng _ xl
          refine ⟨_, rfl, _, rfl, _, rfl, l, _, _, L x.toNat, rfl, rfl, el, ?_, ?_⟩
          · unfold hv
            rw [List.length_map]
            exact ixN_of (by omega) (by omega)
          refine ⟨_, _, _, rfl, same_mut sm nl, fun j hj => ?_, hs.set (L x.toNat) (L (bc 0 p + y).toNat), _, _, ?_, rts_tie R xl yl eL, by rw [List.length_set, hlen], fun u v hu hv' => ?_⟩
          · by_cases ej : j = i
            · rintro ⟨x', y', hx', hy', hg'⟩
              subst ej
              rw [hx] at hx'
              rw [hy] at hy'
              obtain rfl := Option.some.inj hx'
              obtain rfl := Option.some.inj hy'
              exact eL ((hgl _ _ (by omega) (by omega)).mpr hg')
            · exact nr j (by omega)
          · rw [upd_same]
            unfold hv
            rw [List.map_set]
          · rw [take_snoc (ties_at hx hy), glue_snoc]
            have g := tie_labels (L := fun z => ((L z : Nat) : Int)) (L' := fun z => (((if L z = L x.toNat then L (bc 0 p + y).toNat else L z) : Nat) : Int)) (R := glue ((tiesOf p r).take i)) (a := (bc 0 p + y).toNat) (b := x.toNat) (S := fun z => z < M)
              (fun u v hu hv => by rw [← hgl u v hu hv]; omega) (by omega) (by omega) (fun z hz => by
                by_cases c : L z = L x.toNat
                · rw [if_pos c, if_pos (by omega)]
                · rw [if_neg c, if_neg (by omega)]) u v hu hv'
            have g' : (if L u = L x.toNat then L (bc 0 p + y).toNat else L u) = (if L v = L x.toNat then L (bc 0 p + y).toNat else L v) ↔ J (glue ((tiesOf p r).take i)) (bc 0 p + y).toNat x.toNat u v := by
              rw [← g]
              constructor
              · intro h
                exact congrArg _ h
              · intro h
                exact Int.ofNat.inj h
            rw [g']
            unfold J
            exact or_congr_right Or.comm
      · rintro σ H3 ⟨y5, y6, y7, rfl, sm, nr, _⟩
        rw [Int.toNat_natCast] at nr
        exact q H3 true sm ⟨fun _ => ⟨by omega, fun i hi => nr i (ring_lt hi) hi⟩, fun _ => rfl⟩
    · rw [decide_eq_false (fun z => e (V.int.inj z))]
      exact q H false (fun _ _ z => z) ⟨fun z => absurd z (by decide), fun z => absurd z.1 (by omega)⟩
end
end KQ
set_option exponentiation.threshold 1000
namespace KQ
open PySem PySem.Spec PyProof.Rows L2 KR KM StX
theorem met_lt {p : List Int} {k : Nat} (par : Par p) (hk : bc 0 p = (k : Int)) : metN k p < 2 ^ 360 := by
  unfold metN
  split
  · decide
  · obtain ⟨k0, kl⟩ := par_blocks par hk
    have p60 := par.le
    have h2 := (prodN_two (lots_pos par)).1
    rw [lots_sum par, lots_len hk, lots_prod hk] at h2
    refine Nat.lt_of_le_of_lt (Nat.mul_le_mul h2 (Nat.le_refl _)) ?_
    refine Nat.lt_of_le_of_lt (Nat.mul_le_mul (Nat.pow_le_pow_right (by decide) (show p.length - k ≤ p.length + 1 - k by omega)) (Nat.le_refl _)) (met_small ⟨k, by omega⟩ ⟨p.length + 1 - k, by omega⟩ (by show k + (p.length + 1 - k) ≤ 61; omega))
theorem bySz_lt {p : List Int} {k : Nat} {sz : List Nat} (par : Par p) (hk : bc 0 p = (k : Int)) : bySz k p.length (sizesP k p) sz < 2 ^ 360 := by
  unfold bySz
  split
  · obtain ⟨k0, kl⟩ := par_blocks par hk
    have p60 := par.le
    refine Nat.lt_of_le_of_lt (Nat.div_le_self _ _) ?_
    have h1 := fac_mul (k - 1) (sz.length - 1)
    have h2 := fac_small (n := (k - 1) + (sz.length - 1)) (by omega)
    have h3 := (prodN_two (lots_pos par)).1
    rw [lots_sum par, lots_len hk, lots_prod hk] at h3
    have h4 : 2 ^ (p.length - k) ≤ 2 ^ 60 := Nat.pow_le_pow_right (by decide) (by omega)
    rw [show (360 : Nat) = 280 + 80 from rfl, Nat.pow_add]
    exact Nat.mul_lt_mul'' (Nat.lt_of_le_of_lt h1 h2) (Nat.lt_of_le_of_lt (Nat.le_trans h3 h4) (by decide))
  · decide
theorem sum_all {p : List Int} {k : Nat} (par : Par p) (hk : bc 0 p = (k : Int)) (h12 : p.length ≤ 12) : ((allSz p.length (p.length + 1 - k) p.length).map fun sz => bySz k p.length (sizesP k p) sz).sum = metN k p := by
  obtain ⟨k0, kl⟩ := par_blocks par hk
  unfold metN
  by_cases k1 : k = 1
  · subst k1
    rw [if_pos rfl]
    have e : sizesP 1 p = p.length := by
      have g := group_len (iota_nodup 1) (xs := p) fun x hx => by
        have h := (rg_mem 0 p (Int.le_refl _) par.rg).1 x hx
        exact List.mem_map.mpr ⟨0, List.mem_range.mpr (by decide), by omega⟩
      rw [← g]
      show prodN [howOft _ p] = ([howOft _ p]).sum
      show howOft _ p * 1 = howOft _ p + 0
      omega
    rw [e, Nat.add_sub_cancel]
    exact sum_bySz1 h12 (by omega)
  · rw [if_neg k1]
    exact sum_bySz h12 (by omega) kl
theorem bare_keptV {H H' : Hp} {m c g a : Addr} {b : Int} (h : Bare H a) (ms : MS H m c g b) (k : Kept H H' m g) : Bare H' a := by
  obtain ⟨cs, gs, n, h1, h2, h3, r⟩ := ms
  obtain ⟨o, u, e, d⟩ := h
  exact ⟨o, u, k _ _ e (fun z => by rw [z, h1] at e; cases e) (fun z => by rw [z, h3] at e; cases e), d⟩
/-! data with great numbers -/
structure Ng (k W : Nat) (d : PyData) : Prop where
  sh : d.showable = true
  nd : d.hasDict = false
  dp : d.depth ≤ k
  lf : d.leavesShort 120 = true
  wt : d.weight ≤ W
theorem ng_int {n : Nat} (h : n < 2 ^ 366) : Ng 0 400 (.int ((n : Nat) : Int)) := by
  have ea : (((n : Nat) : Int)).natAbs = n := Int.natAbs_natCast n
  have hlog : n = 0 ∨ n.log2 < 366 := by
    by_cases h0 : n = 0
    · exact .inl h0
    · exact .inr ((Nat.log2_lt h0).2 h)
  refine ⟨?_, rfl, Nat.le_refl _, ?_, ?_⟩
  · simp only [PyData.showable, ea]
    refine decide_eq_true ?_
    rcases hlog with h0 | h0
    · rw [h0]
      decide
    · omega
  · simp only [PyData.leavesShort]
    refine decide_eq_true ?_
    have e := int_text_length_le10 (a := ((n : Nat) : Int)) (k := 112) (by decide) (by rw [ea]; exact Nat.lt_trans h (by decide +kernel))
    show (Str.ofString (toString ((n : Nat) : Int))).length ≤ 120
    rw [PySem.ofString_length]
    omega
  · simp only [PyData.weight, ea]
    split
    · omega
    · rename_i h1
      rcases hlog with h0 | h0
      · exact absurd (show (((n : Nat) : Int) == 0) = true from by rw [h0]; rfl) h1
      · omega
theorem ng_four {d1 d2 d3 d4 : PyData} {W : Nat} (h1 : Ng 0 W d1) (h2 : Ng 0 W d2) (h3 : Ng 0 W d3) (h4 : Ng 0 W d4) : Ng 1 (4 * W + 4) (.list [d1, d2, d3, d4]) := by
  refine ⟨?_, ?_, ?_, ?_, ?_⟩
  · simp only [PyData.showable, PyData.showableAll, h1.sh, h2.sh, h3.sh, h4.sh]; rfl
  · simp only [PyData.hasDict, PyData.hasDictAll, h1.nd, h2.nd, h3.nd, h4.nd]; rfl
  · have := h1.dp
    have := h2.dp
    have := h3.dp
    have := h4.dp
    simp only [PyData.depth, PyData.depthAll]
    omega
  · simp only [PyData.leavesShort, PyData.leavesShortAll, h1.lf, h2.lf, h3.lf, h4.lf]; rfl
  · have := h1.wt
    have := h2.wt
    have := h3.wt
    have := h4.wt
    simp only [PyData.weight, PyData.weightAll]
    omega
section
variable {P : Program} {w : World} {K : PySem.W.Frag} {mg : Str → Option Value} {base : Heap}
def spLikeG (K : PySem.W.Frag) : Sp := fun vs H Q _ => ∃ x y d, vs = [x, y] ∧ Dp K H x d ∧ Dp K H y d ∧ isDisplay d = true ∧ Ng 20 10000 d ∧ Q (.bl true) H
theorem ok_likeG (D : DefAt K mg "_law_like" s__law_like) (T : Bt mg) : UseG P w K mg base "_law_like" 1 ["got", "due"] (spLikeG K) := by
  refine use_ofG D (fun f fd F => Fun.okG F sc__law_like (fun vs H Q E h => ?_) (fun cdv A outer s H vs Q E gd hr h => ?_)) (fun _ _ _ _ _ _ us hl => match us, hl with | [_, _], _ => rfl)
  · obtain ⟨x, y, d, rfl, _⟩ := h
    rfl
  · obtain ⟨x, y, d, rfl, hx, hy, dis, nc, q⟩ := h
    refine ⟨_, (pss_one (ps_ret (pe_cmpR op_eq (pe_callB (k_repr (K := K) rfl gd hr.units) (by rfl) T.repr (by decide +kernel) (pa_cons (pv 0) pa_nil)) (pe_callB (k_repr (K := K) rfl gd hr.units) (by rfl) T.repr (by decide +kernel) (pa_cons (pv 1) pa_nil)) (nomark _)))), ?_⟩
    have hl : d.shown.length ≤ sizeLine := by
      have h := PyData.shown_le 120 (by decide) d nc.lf
      have h2 := nc.wt
      rw [sizeLine_eq]
      omega
    have dp : d.depth ≤ 30 := Nat.le_trans nc.dp (by decide)
    refine ⟨_, rfl, x, d, rfl, hx, dis, nc.sh, nc.nd, dp, hl, _, rfl, y, d, rfl, hy, dis, nc.sh, nc.nd, dp, hl, ?_⟩
    refine ⟨rfl, ?_⟩
    rw [decide_eq_true rfl]
    exact q
abbrev s_law : Stmt := topS 50
theorem sc_law : FnScope ["script", "m", "many", "great", "total", "sizes", "other", "told", "middle", "rows", "block", "row"] ["script"] (defScope s_law) := ⟨rfl, rfl, rfl, by decide +kernel, rfl, by decide +kernel, by decide +kernel⟩
/-- what law calls -/
structure Calls (P : Program) (w : World) (K : PySem.W.Frag) (mg : Str → Option Value) (base : Heap) : Prop where
  begun : Use P w K mg base "_law_begun" 2 ["script"] (spBegun K)
  small : UseG P w K mg base "_law_small_right" 6 ["m"] spSmallR
  draw : Use P w K mg base "_law_draw" 2 ["m", "limit"] spDraw
  any : Use P w K mg base "_law_any_parting" 3 ["m", "many"] spAny
  num : Use P w K mg base "_law_numbered" 1 ["labels"] spNumL
  lnum : Use P w K mg base "_law_number" 2 ["parting"] spMetN
  lots : Use P w K mg base "_law_lots" 1 ["parting"] spLots
  met : Use P w K mg base "_law_met" 4 ["m", "parting"] spMetT
  number : Use P w K mg base "meeting_number" 5 ["parting"] spMetN
  sizes : Use P w K mg base "meeting_by_sizes" 5 ["parting", "sizes"] spBySz
  pairs : Use P w K mg base "meeting_pairs" 3 ["number"] spMPairs
  numof : Use P w K mg base "_law_number_of" 2 ["parting", "sizes"] spBySz
  lpairs : Use P w K mg base "_law_pairs" 2 ["many"] spLPairs
  likeG : UseG P w K mg base "_law_like" 1 ["got", "due"] (spLikeG K)
  likeI : Use P w K mg base "_law_like" 1 ["got", "due"] spLikeI
  list : UseG P w K mg base "_law_list_right" 6 ["parting", "total"] (fun vs H Q E => spListR vs H Q E ∨ spListRX vs H Q E)
  all : Use P w K mg base "_law_all_sizes" 3 ["total", "many", "most"] spAllSz
def spLaw (K : PySem.W.Frag) : Sp := fun vs H Q _ => ∃ (a : Addr) (ns : List Int), vs = [.ref a] ∧ SqL K H a (ns.map V.int) ∧ ns.length ≤ 63 ∧ ∀ H', Q (.bl true) H'
/-- the context of law's own lines -/
abbrev LX (P : Program) (w : World) (K : PySem.W.Frag) (mg : Str → Option Value) (base : Heap) (f : Addr) (cdv : Value) (A : Around) (outer : List Env) (s : Shared) (H : Hp) (E : XK) : Cx :=
  (cxOf CX0 P w K mg base ["script", "m", "many", "great", "total", "sizes", "other", "told", "middle", "rows", "block", "row"] "law" (defScope s_law) f cdv A outer s H E).nox
variable {f : Addr} {fd : FuncData} {cdv : Value} {A : Around} {outer : List Env} {s : Shared} {H0 : Hp} {E : XK}
theorem lawD (T : Bt mg) (C : Calls P w K mg base) (gd : (A.deeper (envOfC "law" (defScope s_law) s.heap.objs.size f cdv)).guards = some []) (hr : Room 6 (A.deeper (envOfC "law" (defScope s_law) s.heap.objs.size f cdv))) :
    ∃ t, PSs (LX P w K mg base f cdv A outer s H0 E) ((defBody s_law).drop 9) t ∧ ∀ (D : Ends) (σ : L2.St) (H : Hp), (∃ (m c g ga : Addr) (p : List Int) (n k : Nat) (y0 y5 y6 y7 : Option V), σ = [y0, some (.ref m), some (vN (n + 1)), some (.ref ga), some (vN (metN k p)), y5, y6, y7, none, none, none, none] ∧ MS H m c g 1000 ∧ TI H ga p ∧ Par p ∧ p.length = n + 1 ∧ bc 0 p = (k : Int) ∧ ∀ H', D.rt (.bl true) H') → t D σ H := by
  have u__law_list_right := C.list
  have u__law_any_parting := C.any
  have u__law_draw := C.draw
  have u__law_all_sizes := C.all
  have u_meeting_by_sizes := C.sizes
  have u__law_number := C.lnum
  have u__law_likeI := C.likeI
  refine ⟨_, (pss_cons (ps_if (PW.pt (pw_or (pt_cmpR op_gt (pv 4) pe_int (nomark _)) (pw_or (PW.pt (pw_and (pt_cmpR op_le (pv 4) pe_int (nomark _)) (pw_and1 (pt_cmpR op_le (pv 2) pe_int (nomark _))))) (pw_or1 (pt_cmpR op_le (pv 2) pe_int (nomark _)))))) (pss_one (ps_if (pt_not (pt_val (pe_useG u__law_list_right gd (by decide) hr (by rfl) (pa_cons (pv 3) (pa_cons (pv 4) pa_nil))))) (pss_one (ps_ret pe_bl)) pss_nil)) pss_nil)
      (pss_cons (ps_set (i := 8) sc_law.nd rfl (Or.inr rfl) (pe_use u__law_any_parting (by decide) hr (by rfl) (pa_cons (pv 1) (pa_cons (pe_op op_add pe_int (pe_use u__law_draw (by decide) hr (by rfl) (pa_cons (pv 1) (pa_cons pe_int pa_nil)))) pa_nil))))
      (pss_cons (ps_set (i := 9) sc_law.nd rfl (Or.inl rfl) (pe_use u__law_all_sizes (by decide) hr (by rfl) (pa_cons (pe_callB (k_len (K := K) rfl) (by rfl) T.len PySem.boot_len (pa_cons (pv 8) pa_nil)) (pa_cons (pe_op op_sub (pe_callB (k_len (K := K) rfl) (by rfl) T.len PySem.boot_len (pa_cons (pv 8) pa_nil)) (pe_callB (k_maxT (K := K) rfl rfl hr.units) (by rfl) T.max (by decide +kernel) (pa_cons (pv 8) pa_nil))) (pa_cons (pe_callB (k_len (K := K) rfl) (by rfl) T.len PySem.boot_len (pa_cons (pv 8) pa_nil)) pa_nil)))))
      (pss_one (ps_ret (pe_use u__law_likeI (by decide) hr (by rfl) (pa_cons (pe_callB (cr_sum rfl) (by rfl) T.sum (by decide +kernel) (pa_cons (pe_lc (own := [("row", 11)]) rfl sc_law.nd (k_list (K := K) rfl (pv 9)) (blkOk_by (N := ["script", "m", "many", "great", "total", "sizes", "other", "told", "middle", "rows", "block", "row"]) (sc := defScope s_law) (by decide +kernel)) (fun _ _ _ _ _ => (pg_name (i := 11) sc_law.nd rfl (Or.inl rfl))) (fun _ _ _ _ _ => pts_nil) (fun _ _ _ _ _ => (pe_use u_meeting_by_sizes (by decide) hr (by rfl) (pa_cons (pv 8) (pa_cons (pv 11) pa_nil))))) pa_nil)) (pa_cons (pe_use u__law_number (by decide) hr (by rfl) (pa_cons (pv 8) pa_nil)) pa_nil)))))))), ?_⟩
  rintro D σ H ⟨m, c, g, ga, p, n, k, y0, y5, y6, y7, rfl, ms, tp, par, lp, hk, q⟩
  have p60 := par.le
  refine seq_cut5 (t := tIfS _ _ _) (fun σ' H' => σ' = [y0, some (.ref m), some (vN (n + 1)), some (.ref ga), some (vN (metN k p)), y5, y6, y7, none, none, none, none] ∧ Same H H') (fun kk hk2 => ?_) ?_
  · have lr : ∀ (Q' : VK) (E' : XK), (∀ H', Same H H' → Q' (.bl true) H') → spListR [.ref ga, vN (metN k p)] H Q' E' ∨ spListRX [.ref ga, vN (metN k p)] H Q' E' := fun Q' E' h => by
      by_cases e : metN k p ≤ 1000
      · exact .inl ⟨ga, p, n, k, rfl, tp, par, lp, hk, e, h⟩
      · exact .inr ⟨ga, p, n, k, rfl, tp, par, lp, hk, by omega, h⟩
    refine ⟨_, rfl, _, _, rfl, rfl, _, rfl, ?_⟩
    by_cases c1 : (1000 : Int) < ((metN k p : Nat) : Int)
    · rw [decide_eq_true c1]
      refine iteT (iteT ?_)
      exact ⟨_, rfl, _, rfl, lr _ _ fun H' s' => ⟨true, rfl, hk2 _ _ ⟨rfl, s'⟩⟩⟩
    rw [decide_eq_false c1]
    refine iteF ?_
    have last : ∀ b : Bool, (if b = true then (tIfS (tNot (tB (tCall (fun vs H Q E => spListR vs H Q E ∨ spListRX vs H Q E) [] E0 (tCons (tVar 3) (tCons (tVar 4) tNil))))) (tRet (tC (V.bl false))) tNext { nx := kk, rt := D.rt, bk := D.bk, ct := D.ct } [y0, some (V.ref m), some (vN (n + 1)), some (V.ref ga), some (vN (metN k p)), y5, y6, y7, none, none, none, none] H) else (tNext { nx := kk, rt := D.rt, bk := D.bk, ct := D.ct } [y0, some (V.ref m), some (vN (n + 1)), some (V.ref ga), some (vN (metN k p)), y5, y6, y7, none, none, none, none] H)) := fun b => by
      cases b with
      | true => exact iteT ⟨_, rfl, _, rfl, lr _ _ fun H' s' => ⟨true, rfl, hk2 _ _ ⟨rfl, s'⟩⟩⟩
      | false => exact iteF (hk2 _ _ ⟨rfl, Same.refl _⟩)
    refine ⟨_, rfl, _, _, rfl, rfl, _, rfl, ?_⟩
    cases decide (((metN k p : Nat) : Int) ≤ 200) with
    | true =>
      refine iteT ⟨_, rfl, _, _, rfl, rfl, _, rfl, ?_⟩
      cases decide (((n + 1 : Nat) : Int) ≤ 30) with
      | true => exact iteT (last true)
      | false => exact iteF ⟨_, rfl, _, _, rfl, rfl, _, rfl, last _⟩
    | false => exact iteF (iteF ⟨_, rfl, _, _, rfl, rfl, _, rfl, last _⟩)
  rintro σ H1 ⟨rfl, s1⟩
  have ms1 := ms.mono s1
  clear s1 ms tp
  refine ⟨_, rfl, _, rfl, m, c, g, _, 12, rfl, ms1, by decide, by decide, by decide, fun H2 d2 k2 ms2 d20 d21 => ⟨1, d2, rfl, rfl, ?_⟩⟩
  refine ⟨m, c, g, _, 1 + d2, rfl, ms2, by omega, by omega, by omega, fun H3 qa r k3 ms3 tq parr lr => ?_⟩
  obtain ⟨k', hk', bk'⟩ := blk_of parr
  obtain ⟨k0, kl⟩ := par_blocks parr hk'
  have r12 : r.length ≤ 12 := by omega
  refine ⟨_, rfl, qa, _, rfl, .inr tq.seq, _, rfl, qa, _, rfl, .inr tq.seq, _, rfl, qa, r, rfl, tq.seq, parr.ne, fun mx hm hle => ⟨_, _, rfl, rfl, ?_⟩⟩
  have em := par_max parr hm hle
  refine ⟨_, rfl, qa, _, rfl, .inr tq.seq, r.length, r.length + 1 - k', ?_, r12, by omega, by omega, fun H4 l ts s4 el iu => ?_⟩
  · rw [List.length_map]
    show [V.int ((r.length : Nat) : Int), V.int (((r.length : Nat) : Int) - mx), V.int ((r.length : Nat) : Int)] = _
    rw [show ((r.length : Nat) : Int) - mx = ((r.length + 1 - k' : Nat) : Int) by omega]
  have tq4 := tq.mono s4
  refine ⟨_, rfl, l, rfl, ⟨_, sqL el⟩, fun G nG => ?_⟩
  have few : ts.length ≤ 200 := by
    rw [iu.1]
    exact Nat.le_trans (List.length_filter_le _ _) (szRows_few (by omega) r12 (by omega) (by omega) (Nat.le_refl _))
  refine lc_list (K := K) (a := l) (xs := ts.map V.ref) (fun j H5 => Same H4 H5 ∧ H5 G = some (.lst ((((allSz r.length (r.length + 1 - k') r.length).take j).map fun sz => ((bySz k' r.length (sizesP k' r) sz : Nat) : Int)).map V.int)))
    ⟨same_new nG, upd_same⟩ (fun j H5 _ ⟨s5, _⟩ => sqL (s5 _ _ el)) ?_ ?_
  · rintro j v H5 hj ⟨s5, eG⟩
    obtain ⟨u, hu, rfl⟩ := map_at hj
    obtain ⟨sz, hsz, tu, bu⟩ := iu.2 j u hu
    have jl := (List.getElem?_eq_some_iff.mp hu).1
    refine ⟨rfl, _, rfl, _, rfl, qa, u, r, k', sz, rfl, tq4.mono s5, parr, hk', tu.mono s5, bu.mono s5, allSz_ok (List.mem_of_getElem? hsz) (by omega) (by omega), fun H6 s6 => ?_⟩
    refine ⟨_, s6 _ _ eG, ?_, same_mut (s5.trans s6) nG, ?_⟩
    · rw [List.length_map, List.length_map, List.length_take]
      exact small_of (by omega)
    · rw [upd_same, take_snoc hsz, List.map_append, List.map_append]
      rfl
  rintro H5 ⟨s5, eG⟩
  rw [List.length_map, iu.1, List.take_length] at eG
  refine ⟨G, _, rfl, sqL eG, ?_⟩
  have cast_sum : ∀ (xs : List (List Nat)) (f : List Nat → Nat), (xs.map fun x => ((f x : Nat) : Int)).sum = (((xs.map f).sum : Nat) : Int) := fun xs f => by
    induction xs with
    | nil => rfl
    | cons x xs ih => rw [List.map_cons, List.map_cons, List.sum_cons, List.sum_cons, ih, Int.natCast_add]
  rw [cast_sum, sum_all parr hk' r12]
  refine ⟨_, rfl, qa, r, k', rfl, tq4.mono s5, parr, hk', fun H6 s6 => ?_⟩
  exact ⟨metN k' r, rfl, Nat.lt_of_lt_of_le (met_lt parr hk') (Nat.pow_le_pow_right (by decide) (by decide)), q H6⟩
theorem lawC (T : Bt mg) (C : Calls P w K mg base) (gd : (A.deeper (envOfC "law" (defScope s_law) s.heap.objs.size f cdv)).guards = some []) (hr : Room 6 (A.deeper (envOfC "law" (defScope s_law) s.heap.objs.size f cdv))) :
    ∃ t, PSs (LX P w K mg base f cdv A outer s H0 E) ((defBody s_law).drop 5) t ∧ ∀ (D : Ends) (σ : L2.St) (H : Hp), (∃ (m c g ga : Addr) (p : List Int) (n : Nat) (y0 : Option V), σ = [y0, some (.ref m), some (vN (n + 1)), some (.ref ga), none, none, none, none, none, none, none, none] ∧ MS H m c g 400 ∧ TI H ga p ∧ Par p ∧ p.length = n + 1 ∧ ∀ H', D.rt (.bl true) H') → t D σ H := by
  have u__law_number := C.lnum
  have u__law_lots := C.lots
  have u__law_met := C.met
  have u__law_any_parting := C.any
  have u_meeting_number := C.number
  have u_meeting_by_sizes := C.sizes
  have u_meeting_pairs := C.pairs
  have u__law_number_of := C.numof
  have u__law_pairs := C.lpairs
  have u__law_likeG := C.likeG
  obtain ⟨t2, h2, k2⟩ := lawD (P := P) (w := w) (K := K) (mg := mg) (base := base) (f := f) (cdv := cdv) (A := A) (outer := outer) (s := s) (H0 := H0) (E := E) T C gd hr
  refine ⟨_, (pss_cons (ps_set (i := 4) sc_law.nd rfl (Or.inl rfl) (pe_use u__law_number (by decide) hr (by rfl) (pa_cons (pv 3) pa_nil)))
      (pss_cons (ps_par (i := 5) (j := 6) rfl sc_law.nd rfl rfl (by decide) rfl rfl (pa_cons (pe_use u__law_lots (by decide) hr (by rfl) (pa_cons (pe_use u__law_met (by decide) hr (by rfl) (pa_cons (pv 1) (pa_cons (pv 3) pa_nil))) pa_nil)) (pa_cons (pe_use u__law_lots (by decide) hr (by rfl) (pa_cons (pe_use u__law_any_parting (by decide) hr (by rfl) (pa_cons (pv 1) (pa_cons (pv 2) pa_nil))) pa_nil)) pa_nil)) (by rfl))
      (pss_cons (ps_set (i := 7) sc_law.nd rfl (Or.inl rfl) (pe_lst (pa_cons (pe_use u_meeting_number (by decide) hr (by rfl) (pa_cons (pv 3) pa_nil)) (pa_cons (pe_use u_meeting_by_sizes (by decide) hr (by rfl) (pa_cons (pv 3) (pa_cons (pv 5) pa_nil))) (pa_cons (pe_use u_meeting_by_sizes (by decide) hr (by rfl) (pa_cons (pv 3) (pa_cons (pv 6) pa_nil))) (pa_cons (pe_use u_meeting_pairs (by decide) hr (by rfl) (pa_cons (pv 2) pa_nil)) pa_nil))))))
      (pss_cons (ps_if (pt_not (pt_val (pe_useG u__law_likeG gd (by decide) hr (by rfl) (pa_cons (pv 7) (pa_cons (pe_lst (pa_cons (pv 4) (pa_cons (pe_use u__law_number_of (by decide) hr (by rfl) (pa_cons (pv 3) (pa_cons (pv 5) pa_nil))) (pa_cons (pe_use u__law_number_of (by decide) hr (by rfl) (pa_cons (pv 3) (pa_cons (pv 6) pa_nil))) (pa_cons (pe_use u__law_pairs (by decide) hr (by rfl) (pa_cons (pv 2) pa_nil)) pa_nil))))) pa_nil))))) (pss_one (ps_ret pe_bl)) pss_nil)
      h2)))), ?_⟩
  rintro D σ H ⟨m, c, g, ga, p, n, y0, rfl, ms, tp, par, lp, q⟩
  obtain ⟨k, hk, bk⟩ := blk_of par
  have p60 := par.le
  refine ⟨_, rfl, ga, p, k, rfl, tp, par, hk, fun H1 s1 => ?_⟩
  have tp1 := tp.mono s1
  have ms1 := ms.mono s1
  refine ⟨_, rfl, _, rfl, m, c, g, _, ga, p, rfl, ms1, by decide, tp1, par, fun H2 ta r k2' ms2 tr parr lr tree => ?_⟩
  have tp2 := k2'.ti ms1 tp1
  refine ⟨ta, r, rfl, tr, parr, fun H3 tb s3 ttb btb => ?_⟩
  have tp3 := tp2.mono s3
  have ms3 := ms2.mono s3
  refine ⟨_, rfl, _, rfl, m, c, g, _, _, rfl, ms3, by decide, by omega, by omega, fun H4 tc x k4 ms4 tx parx lx => ?_⟩
  have ttb4 := k4.ti ms3 ttb
  have btb4 := bare_keptV btb ms3 k4
  have tp4 := k4.ti ms3 tp3
  refine ⟨tc, x, rfl, tx, parx, fun H5 td s5 ttd btd => ?_⟩
  have ttb5 := ttb4.mono s5
  have btb5 := btb4.mono s5
  have tp5 := tp4.mono s5
  have ms5 := ms4.mono s5
  have okr : SzOk p.length (lotsN r) := by rw [← lr]; exact lots_ok parr
  have okx : SzOk p.length (lotsN x) := by
    have : x.length = p.length := by omega
    rw [← this]
    exact lots_ok parx
  refine ⟨_, _, rfl, ?_⟩
  change tSeq _ _ _ [y0, some (.ref m), some (vN (n + 1)), some (.ref ga), some (vN (metN k p)), some (.ref tb), some (.ref td), none, none, none, none, none] H5
  clear tp tp1 tp2 tp3 tp4 ms ms1 ms2 ms3 ms4 ttb ttb4 btb btb4
  refine ⟨_, rfl, ga, p, k, rfl, tp5, par, hk, fun H6 s6 => ?_⟩
  refine ⟨_, rfl, _, rfl, ga, tb, p, k, lotsN r, rfl, tp5.mono s6, par, hk, ttb5.mono s6, btb5.mono s6, okr, fun H7 s7 => ?_⟩
  have s57 := s6.trans s7
  refine ⟨_, rfl, _, rfl, ga, td, p, k, lotsN x, rfl, tp5.mono s57, par, hk, ttd.mono s57, btd.mono s57, okx, fun H8 s8 => ?_⟩
  have s58 := s57.trans s8
  obtain ⟨N, hN, hlt⟩ := pairs_nat (n := n + 1) (by omega)
  have hN : pairsTo (n + 1) (n + 1 - 1) = ((N : Nat) : Int) := hN
  refine ⟨_, rfl, n + 1, rfl, by omega, by omega, ⟨by show 4 ≤ sizeLine; decide, fun L1 nL1 => ?_⟩⟩
  rw [hN]
  have sL1 := same_new (H := H8) (o := .lst [vN (metN k p), vN (bySz k p.length (sizesP k p) (lotsN r)), vN (bySz k p.length (sizesP k p) (lotsN x)), vN N]) nL1
  have eL1 := upd_same (H := H8) (a := L1) (o := .lst [vN (metN k p), vN (bySz k p.length (sizesP k p) (lotsN r)), vN (bySz k p.length (sizesP k p) (lotsN x)), vN N])
  have s59 := s58.trans sL1
  generalize upd H8 L1 (.lst [vN (metN k p), vN (bySz k p.length (sizesP k p) (lotsN r)), vN (bySz k p.length (sizesP k p) (lotsN x)), vN N]) = H9 at eL1 s59 ⊢
  change tSeq _ _ _ [y0, some (.ref m), some (vN (n + 1)), some (.ref ga), some (vN (metN k p)), some (.ref tb), some (.ref td), some (.ref L1), none, none, none, none] H9
  refine ⟨_, rfl, _, rfl, _, rfl, _, rfl, ga, tb, p, k, lotsN r, rfl, tp5.mono s59, par, hk, ttb5.mono s59, btb5.mono s59, okr, fun Ha sa => ?_⟩
  have s5a := s59.trans sa
  refine ⟨_, rfl, _, rfl, ga, td, p, k, lotsN x, rfl, tp5.mono s5a, par, hk, ttd.mono s5a, btd.mono s5a, okx, fun Hb sb => ?_⟩
  have s5b := s5a.trans sb
  refine ⟨_, rfl, n + 1, rfl, by omega, by omega, fun Hc sc => ⟨by show 4 ≤ sizeLine; decide, fun L2 nL2 => ?_⟩⟩
  rw [hN]
  have sL2 := same_new (o := .lst [vN (metN k p), vN (bySz k p.length (sizesP k p) (lotsN r)), vN (bySz k p.length (sizesP k p) (lotsN x)), vN N]) nL2
  have s9d := ((sa.trans sb).trans sc).trans sL2
  have ng : ∀ {j : Nat}, j < 2 ^ 360 → Ng 0 400 (.int ((j : Nat) : Int)) := fun h => ng_int (Nat.lt_of_lt_of_le h (Nat.pow_le_pow_right (by decide) (by decide)))
  have nf := ng_four (ng (met_lt par hk)) (ng (bySz_lt (sz := lotsN r) par hk)) (ng (bySz_lt (sz := lotsN x) par hk)) (ng hlt)
  refine ⟨.ref L1, .ref L2, .list [.int ((metN k p : Nat) : Int), .int ((bySz k p.length (sizesP k p) (lotsN r) : Nat) : Int), .int ((bySz k p.length (sizesP k p) (lotsN x) : Nat) : Int), .int ((N : Nat) : Int)], rfl,
    .lst (sqL (s9d _ _ eL1)) (.cons (.int _) (.cons (.int _) (.cons (.int _) (.cons (.int _) .nil)))), .lst (sqL upd_same) (.cons (.int _) (.cons (.int _) (.cons (.int _) (.cons (.int _) .nil)))), rfl,
    ⟨nf.sh, nf.nd, Nat.le_trans nf.dp (by decide), nf.lf, Nat.le_trans nf.wt (by decide)⟩, true, rfl, ?_⟩
  exact k2 _ _ _ ⟨m, c, g, ga, p, n, k, _, _, _, _, rfl, (ms5.mono (s59.trans s9d)).le (by omega), tp5.mono (s59.trans s9d), par, lp, hk, q⟩
theorem lawB (T : Bt mg) (C : Calls P w K mg base) (gd : (A.deeper (envOfC "law" (defScope s_law) s.heap.objs.size f cdv)).guards = some []) (hr : Room 6 (A.deeper (envOfC "law" (defScope s_law) s.heap.objs.size f cdv))) :
    ∃ t, PSs (LX P w K mg base f cdv A outer s H0 E) ((defBody s_law).drop 4) t ∧ ∀ (D : Ends) (σ : L2.St) (H : Hp), (∃ (m c g ga : Addr) (p : List Int) (n : Nat) (y0 : Option V), σ = [y0, some (.ref m), some (vN (n + 1)), some (.ref ga), none, none, none, none, none, none, none, none] ∧ MS H m c g 200 ∧ TI H ga p ∧ Par p ∧ p.length = n + 1 ∧ ∀ H', D.rt (.bl true) H') → t D σ H := by
  have u__law_draw := C.draw
  have u__law_numbered := C.num
  obtain ⟨t2, h2, k2⟩ := lawC (P := P) (w := w) (K := K) (mg := mg) (base := base) (f := f) (cdv := cdv) (A := A) (outer := outer) (s := s) (H0 := H0) (E := E) T C gd hr
  refine ⟨_, (pss_cons (ps_if (pt_cmpR op_eq (pe_use u__law_draw (by decide) hr (by rfl) (pa_cons (pv 1) (pa_cons pe_int pa_nil))) pe_int (nomark _)) (pss_one (ps_set (i := 3) sc_law.nd rfl (Or.inl rfl) (pe_use u__law_numbered (by decide) hr (by rfl) (pa_cons (pe_lc (own := [("block", 10)]) rfl sc_law.nd (k_tup (K := K) rfl (pv 3)) (blkOk_by (N := ["script", "m", "many", "great", "total", "sizes", "other", "told", "middle", "rows", "block", "row"]) (sc := defScope s_law) (by decide +kernel)) (fun _ _ _ _ _ => (pg_name (i := 10) sc_law.nd rfl (Or.inl rfl))) (fun _ _ _ _ _ => pts_nil) (fun _ _ _ _ _ => (pe_callB (call_min2 rfl) (by rfl) T.min (by decide +kernel) (pa_cons (pv 10) (pa_cons (pe_op op_add pe_int (pe_use u__law_draw (by decide) hr (by rfl) (pa_cons (pv 1) (pa_cons pe_int pa_nil)))) pa_nil))))) pa_nil)))) pss_nil)
      h2), ?_⟩
  rintro D σ H ⟨m, c, g, ga, p, n, y0, rfl, ms, tp, par, lp, q⟩
  have p60 := par.le
  refine seq_cut5 (t := tIfS _ _ _) (fun σ' H' => ∃ (ga : Addr) (p : List Int), σ' = [y0, some (.ref m), some (vN (n + 1)), some (.ref ga), none, none, none, none, none, none, none, none] ∧ MS H' m c g 400 ∧ TI H' ga p ∧ Par p ∧ p.length = n + 1) (fun kk hk2 => ?_) ?_
  · refine ⟨_, rfl, m, c, g, _, 3, rfl, ms, by omega, by decide, by decide, fun H4 d4 k4 ms4 d40 d41 => ⟨rfl, _, rfl, ?_⟩⟩
    have tp4 := k4.ti ms tp
    cases decide (V.int d4 = V.int 0) with
    | false => exact iteF (hk2 _ _ ⟨ga, p, rfl, ms4.le (by omega), tp4, par, lp⟩)
    | true =>
      refine iteT ?_
      refine ⟨_, rfl, ga, rfl, ⟨_, tp4.seq⟩, fun L nL => ?_⟩
      have Ln := ms4.ne nL
      refine lc_tup (K := K) (a := ga) (xs := p.map V.int) (fun i H5 => (∃ xs : List Int, H5 L = some (.lst (xs.map V.int)) ∧ xs.length = i) ∧ Kept H4 H5 m g ∧ MS H5 m c g (200 + 1 + (i : Nat)))
        ⟨⟨[], upd_same, rfl⟩, Kept.of (same_new nL), by simpa using ms4.put Ln.1 Ln.2.1 Ln.2.2⟩ (fun i H5 _ ⟨_, k5, _⟩ => (k5.ti ms4 tp4).seq) ?_ ?_
      · rintro i v H5 hi ⟨⟨xs, eL, lx⟩, k5, ms5⟩
        obtain ⟨z, hz, rfl⟩ := map_at hi
        have il := (List.getElem?_eq_some_iff.mp hz).1
        refine ⟨rfl, _, rfl, _, rfl, m, c, g, _, 2, rfl, ms5, by omega, by decide, by decide, fun H6 e k6 ms6 e0 e1 => ⟨1, e, rfl, rfl, _, _, rfl, ?_⟩⟩
        have eL6 := k6 L _ eL Ln.1 Ln.2.2
        refine ⟨_, eL6, ?_, ⟨xs ++ [if 1 + e < z then 1 + e else z], ?_, ?_⟩, ?_, ?_⟩
        · rw [List.length_map, lx]
          exact small_of (by omega)
        · rw [upd_same, List.map_append]
          rfl
        · rw [List.length_append, lx]
          rfl
        · exact kept_mut (k5.trans k6) nL
        · rw [show (200 : Int) + 1 + ((i + 1 : Nat) : Int) = 200 + 1 + (i : Nat) + 1 by omega]
          exact ms6.put Ln.1 Ln.2.1 Ln.2.2
      · rintro H5 ⟨⟨xs, eL, lx⟩, k5, ms5⟩
        rw [List.length_map] at lx ms5
        refine ⟨L, xs, rfl, eL, by omega, fun H6 t s6 ht => ?_⟩
        refine hk2 _ _ ⟨t, num xs, rfl, (ms5.mono s6).le (by omega), ht, num_par (fun e => by rw [e] at lx; simp at lx; omega) (by omega), by rw [num_len, lx, lp]⟩
  rintro σ H4 ⟨ga, p, rfl, ms4, tp4, par, lp⟩
  exact k2 _ _ _ ⟨m, c, g, ga, p, n, _, rfl, ms4, tp4, par, lp, fun H' => q H'⟩
theorem fn_law (F : Fun K "law" "law" s_law f fd) (T : Bt mg) (C : Calls P w K mg base) : FnG P w K mg base 7 f fd ["script"] (spLaw K) := by
  have u__law_begun := C.begun
  have u__law_small_right := C.small
  have u__law_draw := C.draw
  have u__law_any_parting := C.any
  have u__law_numbered := C.num
  refine Fun.okG F sc_law (fun vs H Q E h => ?_) (fun cdv A outer s H vs Q E gd hr h => ?_)
  · obtain ⟨a, ns, rfl, _⟩ := h
    rfl
  obtain ⟨a, ns, rfl, hs, hl, q⟩ := h
  obtain ⟨t2, h2, k2⟩ := lawB (P := P) (w := w) (K := K) (mg := mg) (base := base) (f := f) (cdv := cdv) (A := A) (outer := outer) (s := s) (H0 := H) (E := E) T C gd hr
  refine ⟨_, (pss_cons (ps_set (i := 1) sc_law.nd rfl (Or.inr rfl) (pe_use u__law_begun (by decide) hr (by rfl) (pa_cons (pv 0) pa_nil)))
      (pss_cons (ps_if (pt_not (pt_val (pe_useG u__law_small_right gd (by decide) hr (by rfl) (pa_cons (pv 1) pa_nil)))) (pss_one (ps_ret pe_bl)) pss_nil)
      (pss_cons (ps_set (i := 2) sc_law.nd rfl (Or.inl rfl) (pe_op op_add pe_int (pe_use u__law_draw (by decide) hr (by rfl) (pa_cons (pv 1) (pa_cons pe_int pa_nil)))))
      (pss_cons (ps_set (i := 3) sc_law.nd rfl (Or.inl rfl) (pe_use u__law_any_parting (by decide) hr (by rfl) (pa_cons (pv 1) (pa_cons (pv 2) pa_nil))))
      h2)))), ?_⟩
  refine ⟨_, rfl, a, ns, rfl, hs, hl, fun H0 m c g ms0 => ?_⟩
  refine ⟨_, rfl, m, c, g, rfl, ms0, fun H1 ms1 => ⟨true, rfl, ?_⟩⟩
  refine ⟨_, rfl, m, c, g, _, 60, rfl, ms1, by decide, by decide, by decide, fun H2 d2 k2' ms2 d20 d21 => ⟨1, d2, rfl, rfl, ?_⟩⟩
  obtain ⟨n, rfl⟩ : ∃ n : Nat, d2 = (n : Int) := ⟨d2.toNat, by omega⟩
  change gName 2 (V.int (1 + ((n : Nat) : Int))) _ _ _
  rw [show (1 : Int) + ((n : Nat) : Int) = ((n + 1 : Nat) : Int) by omega]
  refine ⟨_, rfl, _, rfl, m, c, g, _, _, rfl, ms2, by decide, by omega, by omega, fun H3 ga p k3 ms3 tp par lp => ?_⟩
  have lp : p.length = n + 1 := by omega
  exact k2 _ _ _ ⟨m, c, g, ga, p, n, _, rfl, ms3.le (by omega), tp, par, lp, fun H' => q H'⟩
end
end KQ
namespace KQ
open PySem PySem.Spec PyProof.Rows L2 KR
section
variable {P : Program} {w : World} {K : PySem.W.Frag} {mg : Str → Option Value} {h : Heap} {Goal : Prop}
/-- a def that the top has -/
theorem step_def {x : Str} {st : Stmt} {f : Addr} {oc : Value} {od an : Option Addr} {osl : Array (Option Value)} {kV doc pm cdv ct : Value} (X : K.In h) (G : h.Ns mainGlobals mg)
    (a : PySem.W.nsIn K mainGlobals x = some (some (.ref f))) (l : K.lookup f = some ⟨oc, od, .func (PySem.W.fnOf x x (defArgs st) (defBody st) (defScope st) .none kV doc pm an cdv ct), osl⟩)
    (c : PySem.W.codeIn K cdv x = true) (k : PySem.W.keepIn K (.ref f) = true) (n : DefAt K mg x st → Goal) : Goal :=
  n ⟨f, _, fun_mk (st := st) l c k, PySem.W.mg_of X G a⟩
theorem step_cst {x : Str} {v : Int} {t : Tok} (X : K.In h) (G : h.Ns mainGlobals mg) (a : PySem.W.nsIn K mainGlobals x = some (some (.int v t))) (n : Cst mg x v → Goal) : Goal := n ⟨t, PySem.W.mg_of X G a⟩
theorem step_none {x : Str} (X : K.In h) (G : h.Ns mainGlobals mg) (a : PySem.W.nsIn K mainGlobals x = some none) (n : mg x = none → Goal) : Goal := n (PySem.W.mg_none_of X G a)
theorem step_cls {x : Str} {C : Addr} (X : K.In h) (G : h.Ns mainGlobals mg) (aC : PySem.W.nsIn K mainGlobals x = some (some (.ref C))) (pg : PySem.W.plainGet K C Str.empty = true) (hd : PySem.W.hasDictIn K C = true)
    (po : PySem.W.plainOver K C = true) (sa : PySem.W.findIn K (.ref C) "__setattr__" = some (some (.builtin "object.__setattr__"))) (mk : PySem.W.makesIn K C = true) (kc : PySem.W.keepIn K (.ref C) = true)
    (n : Cls K C → mg x = some (.ref C) → PySem.W.makesIn K C = true → PySem.W.keepIn K (.ref C) = true → Goal) : Goal := n ⟨pg, hd, po, sa⟩ (PySem.W.mg_of X G aC) mk kc
theorem step_init {q : Str} {st : Stmt} {C f : Addr} {oc : Value} {od an : Option Addr} {osl : Array (Option Value)} {kV doc pm cdv ct : Value}
    (a : PySem.W.findIn K (.ref C) "__init__" = some (some (.ref f))) (i : PySem.W.isFn K (.ref f) = true) (l : K.lookup f = some ⟨oc, od, .func (PySem.W.fnOf "__init__" q (defArgs st) (defBody st) (defScope st) .none kV doc pm an cdv ct), osl⟩)
    (c : PySem.W.codeIn K cdv q = true) (k : PySem.W.keepIn K (.ref f) = true) (mk : PySem.W.makesIn K C = true) (kc : PySem.W.keepIn K (.ref C) = true) (n : IAt K C q st → Goal) : Goal :=
  n ⟨f, _, fun_mk (st := st) l c k, ⟨mk, a, i, kc⟩⟩
theorem step_meth {m q : Str} {st : Stmt} {C f : Addr} {oc : Value} {od an : Option Addr} {osl : Array (Option Value)} {kV doc pm cdv ct : Value}
    (_X : Cls K C) (a : PySem.W.findIn K (.ref C) m = some (some (.ref f))) (i : PySem.W.isFn K (.ref f) = true) (l : K.lookup f = some ⟨oc, od, .func (PySem.W.fnOf m q (defArgs st) (defBody st) (defScope st) .none kV doc pm an cdv ct), osl⟩)
    (c : PySem.W.codeIn K cdv q = true) (k : PySem.W.keepIn K (.ref f) = true) (n : MAt K C m q st → Goal) : Goal :=
  n ⟨f, _, fun_mk (st := st) l c k, ⟨a, i, k⟩⟩
theorem step_noattr {x : Str} {C : Addr} (_X : Cls K C) (a : PySem.W.findIn K (.ref C) x = some none) (n : NoAttr K C x → Goal) : Goal := n a
end
end KQ
/-! own errors of the text, told by the written part -/
namespace KQ
open PySem PySem.Spec PyProof.Rows L2 KR
structure ErrK (P : Program) (K : PySem.W.Frag) (mg : Str → Option Value) (x : Str) (C : Addr) (fld : Str) : Prop where
  T : OexC K C
  ini : ∃ fI fd p, (∀ (w : World) (base : Heap), FnOk P w K mg base CX0 1 fI fd ["self", p] (spIni C fld)) ∧ PySem.W.findIn K (.ref C) "__init__" = some (some (.ref fI)) ∧ PySem.W.typeIn K (.ref fI) = some (.type "function") ∧ Binds K fd ["self", p] []
  hm : mg x = some (.ref C)
  xf : XfC K C
  nf : PySem.W.findIn K (.ref C) fld = some none
theorem ErrK.err {P : Program} {w : World} {K : PySem.W.Frag} {mg : Str → Option Value} {base : Heap} {x fld : Str} {C : Addr} (e : ErrK P K mg x C fld) : ErrC P w K mg base x C fld :=
  ⟨e.T, let ⟨fI, fd, p, F, a, b, c⟩ := e.ini; ⟨fI, fd, p, F w base, a, b, c⟩, e.hm, e.xf, e.nf⟩
section
variable {P : Program} {K : PySem.W.Frag} {mg : Str → Option Value} {h : Heap} {Goal : Prop}
theorem step_err {f cc cda C : Addr} {name qual fld x msg cx : Str} {params : Arguments} {scope : Scope} {dV kV doc pm ct oc ccl cl : Value} {an od cdd cld : Option Addr} {osl ccs csl : Array (Option Value)} {vs0 : Array Value} {file : Str} {tf : Tok} {ar : Arg}
    {j : Nat} {p0 p1 p2 p3 p4 p5 q1 q2 q3 q4 : Pos} {nm q : Str} {N : Addr} {bs bm : List Value} {sn : List Str} {sub : List Value} {ab : Bool} {col : Option Bool} {dd : Option Addr} {k0 k1 k2 k3 k5 : Option Value} {pl : Sem Bool}
    (X : K.In h) (G : h.Ns mainGlobals mg) (hsm : mg "super" = none)
    (aC : PySem.W.nsIn K mainGlobals cx = some (some (.ref C)))
    (lC : K.lookup C = some (excClassObj nm q C N bs bm true sn sub ab col dd k0 k1 k2 k3 k5 "ValueError.__new__")) (rv : PySem.HandSPX.refsVE bm = true)
    (sa : PySem.W.findIn K (.ref C) "__setattr__" = some (some (.builtin "object.__setattr__"))) (exC : PySem.W.subIn K (.ref C) (.type "BaseException") = some true) (tyC : PySem.W.typeIn K (.ref C) = some (.type "type")) (kC : PySem.W.keepIn K (.ref C) = true)
    (iC : PySem.W.findIn K (.ref C) "__init__" = some (some (.ref f))) (tI : PySem.W.typeIn K (.ref f) = some (.type "function"))
    (lk : K.lookup f = some ⟨oc, od, .func (PySem.W.ksFn name qual params (iniBody msg fld x j p0 p1 p2 p3 p4 p5 q1 q2 q3 q4) scope dV kV doc pm an (.ref cda) ct cc), osl⟩)
    (hcd : PySem.W.codeIn K (.ref cda) qual = true) (hcode : K.lookup cda = some ⟨ccl, cdd, .fields vs0, ccs⟩) (hvs : vs0[2]? = some (.str file tf)) (hfile : ((P.main.file : Str) == file) = true)
    (htop : (P.main.scope.names.lookup ("super" : Str)).isSome = false) (hcell : K.lookup cc = some ⟨cl, cld, .cell (some (.ref C)), csl⟩)
    (hsup : PySem.W.ks_superIn K C C "__init__" = some (some (.builtin "ValueError.__init__"))) (hV : PySem.W.subIn K (.ref C) (.type "ValueError") = some true) (hmro : PySem.W.mroIn K C (.ref C) = some true)
    (hop : PySem.W.nsIn K cStatics "thirdparty.any" = some none) (hfa : PySem.W.findIn K (.ref C) fld = some none)
    (hp : (params.posonlyargs ++ params.args).head? = some ar) (har : ar.arg = "self") (hx : ¬ (x = "self")) (hxd : (x == ("__debug__" : Str)) = false) (hxc : (x == ("__classdict__" : Str)) = false)
    (hk : scope.kind = .function) (hco : scope.isCoroutine = false) (hgen : scope.isGenerator = false)
    (l1 : scope.names.lookup ("self" : Str) = some .local) (l2 : scope.names.lookup x = some .local) (l3 : scope.names.lookup ("__class__" : Str) = some .free) (l4 : scope.names.lookup ("super" : Str) = some .globalImplicit)
    (hev : ∀ L, eval (.Call (.Attribute (.Call (.Name "super" p0) [] [] p1) "__init__" p2) [.Constant (.str msg) j p3] [] p4) (PySem.W.ksEnv qual scope L f (.ref cda) cc) = (do
      let ov ← attributeBase (.Call (.Name "super" p0) [] [] p1) "__init__" (PySem.W.ksEnv qual scope L f (.ref cda) cc) (eval (.Call (.Name "super" p0) [] [] p1) (PySem.W.ksEnv qual scope L f (.ref cda) cc))
      standAt p2.atName
      let (fn, first) ← holding [ov] (getMethod ov "__init__" pl)
      callWith p4 fn first (backTo p4 (starEach [.Constant (.str msg) j p3] (PySem.W.ksEnv qual scope L f (.ref cda) cc))) []))
    (l5 : ∀ y ∈ scope.names, y.2 ≠ .cell) (l6 : ∀ y ∈ scope.names, y.2 = .free → y.1 = "__class__")
    (hb : ∀ us : List Value, us.length = 2 → bindArgs (PySem.W.ksFn name qual params (iniBody msg fld x j p0 p1 p2 p3 p4 p5 q1 q2 q3 q4) scope dV kV doc pm an (.ref cda) ct cc) ⟨us, []⟩ = pure ((["self", x] : List Str).zip us))
    (ga : PySem.W.findIn K (.ref C) "__getattribute__" = some (some (.builtin "BaseException.__getattribute__"))) (gg : PySem.W.findIn K (.ref C) "__getattr__" = some none) (hdC : PySem.W.hasDictIn K C = true)
    (n : ErrK P K mg cx C fld → Goal) : Goal :=
  have T : OexC K C := ⟨⟨nm, q, N, bs, bm, sn, sub, ab, col, dd, k0, k1, k2, k3, k5, lC, rv⟩, sa, exC, tyC, kC⟩
  n ⟨T, ⟨f, _, x, fun w base => fn_ini T lk hcd hcode hvs hfile htop hcell hsup hV hmro hop hsm hfa hp har hx hxd hxc hk hco hgen l1 l2 l3 l4 hev l5 l6, iC, tI, Binds.all hb⟩, PySem.W.mg_of X G aC, ⟨ga, gg, exC, hdC⟩, hfa⟩
theorem step_exm1 {x fx : Str} {A : Addr} (eA : ErrK P K mg x A fx) (h1 : PySem.W.subIn K (.ref A) (.ref A) = some true) (n : PySem.W.exmOne K (.ref A) (.ref A) = some true → Goal) : Goal :=
  n (PySem.W.exm_ref eA.xf.exC eA.xf.hdC eA.T.tyC h1)
/-- which clause takes which of two own errors -/
theorem step_exm {x y fx fy : Str} {A B : Addr} (eA : ErrK P K mg x A fx) (eB : ErrK P K mg y B fy) (h1 : PySem.W.subIn K (.ref A) (.ref A) = some true) (h2 : PySem.W.subIn K (.ref B) (.ref A) = some false) (h3 : PySem.W.subIn K (.ref B) (.ref B) = some true)
    (n : ExM K A B → Goal) : Goal :=
  n ⟨PySem.W.exm_ref eA.xf.exC eA.xf.hdC eA.T.tyC h1, PySem.W.exm_ref eA.xf.exC eA.xf.hdC eA.T.tyC h2, PySem.W.exm_ref eB.xf.exC eB.xf.hdC eB.T.tyC h3⟩
end
end KQ
namespace KQ
open PySem PySem.Spec PyProof.Rows L2 KR
/-- a function of a module that the top brings in by its name -/
theorem step_bi {K : PySem.W.Frag} {mg : Str → Option Value} {h : Heap} {Goal : Prop} {x : Str} {v : String} (X : K.In h) (G : h.Ns mainGlobals mg) (a : PySem.W.nsIn K mainGlobals x = some (some (.builtin v))) (n : mg x = some (.builtin v) → Goal) : Goal := n (PySem.W.mg_of X G a)
end KQ
namespace KQ
open PySem PySem.Spec PyProof.Rows L2 KR KM StX
section
variable {P : Program} {w : World} {K : PySem.W.Frag} {mg : Str → Option Value} {base : Heap}
structure Defs (K : PySem.W.Frag) (mg : Str → Option Value) : Prop where
  d_is_integer : DefAt K mg "is_integer" s_is_integer
  d_is_integer_within : DefAt K mg "is_integer_within" s_is_integer_within
  d_is_tuple_within : DefAt K mg "is_tuple_within" s_is_tuple_within
  d_first_wrong_block : DefAt K mg "first_wrong_block" s_first_wrong_block
  d_need_parting : DefAt K mg "need_parting" s_need_parting
  d_block_count : DefAt K mg "block_count" s_block_count
  d_doors_by_block : DefAt K mg "doors_by_block" s_doors_by_block
  d_power : DefAt K mg "power" s_power
  d_block_product : DefAt K mg "block_product" s_block_product
  d_met_by : DefAt K mg "met_by" s_met_by
  d_meeting_number : DefAt K mg "meeting_number" s_meeting_number
  d_longer : DefAt K mg "longer" s_longer
  d_all_meeting : DefAt K mg "all_meeting" s_all_meeting
  d_is_sizes : DefAt K mg "is_sizes" s_is_sizes
  d_meeting_by_sizes : DefAt K mg "meeting_by_sizes" s_meeting_by_sizes
  d_meeting_pairs : DefAt K mg "meeting_pairs" s_meeting_pairs
  d__law_mixed : DefAt K mg "_law_mixed" s__law_mixed
  d__law_folded : DefAt K mg "_law_folded" s__law_folded
  d__law_draw : DefAt K mg "_law_draw" s__law_draw
  d__law_begun : DefAt K mg "_law_begun" s__law_begun
  d__law_like : DefAt K mg "_law_like" s__law_like
  d__law_of : DefAt K mg "_law_of" s__law_of
  d__law_is_int : DefAt K mg "_law_is_int" s__law_is_int
  d__law_order : DefAt K mg "_law_order" s__law_order
  d__law_numbered : DefAt K mg "_law_numbered" s__law_numbered
  d__law_partings : DefAt K mg "_law_partings" s__law_partings
  d__law_root : DefAt K mg "_law_root" s__law_root
  d__law_meet : DefAt K mg "_law_meet" s__law_meet
  d__law_any_parting : DefAt K mg "_law_any_parting" s__law_any_parting
  d__law_met : DefAt K mg "_law_met" s__law_met
  d__law_product : DefAt K mg "_law_product" s__law_product
  d__law_lots : DefAt K mg "_law_lots" s__law_lots
  d__law_all_sizes : DefAt K mg "_law_all_sizes" s__law_all_sizes
  d__law_number : DefAt K mg "_law_number" s__law_number
  d__law_number_of : DefAt K mg "_law_number_of" s__law_number_of
  d__law_pairs : DefAt K mg "_law_pairs" s__law_pairs
  d__law_small_right : DefAt K mg "_law_small_right" s__law_small_right
  d__law_list_right : DefAt K mg "_law_list_right" s__law_list_right
  c_MOST_DOORS : Cst mg "MOST_DOORS" 60
  c_MOST_MEETING : Cst mg "MOST_MEETING" 1000
theorem calls {CT : Addr} (D : Defs K mg) (T : Bt mg) (eT : ErrK P K mg "TooGreat" CT "most") (X : PySem.W.exmOne K (.ref CT) (.ref CT) = some true) (z_factorial : mg "factorial" = some (.builtin "math.factorial")) (z_comb : mg "comb" = some (.builtin "math.comb")) : Calls P w K mg base := by
  have eT := eT.err (w := w) (base := base)
  have u_is_integer := ok_is_integer (P := P) (w := w) (base := base) D.d_is_integer T
  have u_iw := ok_is_integer_within D.d_is_integer_within T u_is_integer
  have u_tw := ok_is_tuple_within (P := P) (w := w) (base := base) D.d_is_tuple_within T
  have u_fw := ok_first_wrong_block (P := P) (w := w) (base := base) D.d_first_wrong_block T
  have u_need := ok_need_parting D.d_need_parting T D.c_MOST_DOORS u_tw u_fw
  have u_count := ok_block_count (P := P) (w := w) (base := base) D.d_block_count T
  have u_rows := ok_doors_by_block D.d_doors_by_block T u_count
  have u_power := ok_power (P := P) (w := w) (base := base) D.d_power T
  have u_bp := ok_block_product D.d_block_product T u_rows
  have u_mb := ok_met_by D.d_met_by T u_count u_bp u_power
  have u_mn := ok_meeting_number D.d_meeting_number T u_need u_mb
  have u_longer := ok_longer (P := P) (w := w) (base := base) D.d_longer T
  have u_am := ok_all_meeting D.d_all_meeting T D.c_MOST_MEETING u_need u_mb u_count u_longer
  have ux_am := ok_all_meetingX D.d_all_meeting T eT D.c_MOST_MEETING u_need u_mb u_count u_longer
  have u_issz := ok_is_sizes D.d_is_sizes T D.c_MOST_DOORS u_tw u_iw
  have u_bysz := ok_by_sizes D.d_meeting_by_sizes T z_factorial u_need u_issz u_count u_bp
  have u_pairs := ok_meeting_pairs D.d_meeting_pairs T z_comb D.c_MOST_DOORS u_iw u_power
  have u_mixed := ok_mixed (P := P) (w := w) (base := base) D.d__law_mixed T
  have u_draw := ok_draw D.d__law_draw T u_mixed
  have u_folded := ok_folded (P := P) (w := w) (base := base) D.d__law_folded T
  have u_lnumL := ok_lnumL (P := P) (w := w) (base := base) D.d__law_numbered T
  have u_lnumU := ok_lnumU (P := P) (w := w) (base := base) D.d__law_numbered T
  have u_lparts := ok_lparts (P := P) (w := w) (base := base) D.d__law_partings T
  have u_isint := ok_law_is_int (P := P) (w := w) (base := base) D.d__law_is_int T
  have u_like := ok_like (P := P) (w := w) (base := base) D.d__law_like T
  have u_likeI := ok_likeI (P := P) (w := w) (base := base) D.d__law_like T
  have u_product := ok_product (P := P) (w := w) (base := base) D.d__law_product T
  have u_lof := ok_of D.d__law_of T u_draw
  have u_order := ok_order D.d__law_order T u_draw
  have u_any := ok_any D.d__law_any_parting T u_draw u_lnumL
  have u_root := ok_root (P := P) (w := w) (base := base) D.d__law_root T
  have u_meet := ok_law_meet D.d__law_meet T u_root
  have u_lots := ok_lots (P := P) (w := w) (base := base) D.d__law_lots T
  have u_lnumber := ok_lnumber D.d__law_number T u_lots u_product
  exact ⟨ok_begun D.d__law_begun T u_folded, ok_small_right D.d__law_small_right T u_draw u_any u_lparts u_meet u_like u_likeI u_am u_mn u_lots u_bysz u_lnumber u_pairs, u_draw, u_any, u_lnumL, u_lnumber, u_lots, ok_metT D.d__law_met T u_lof u_order u_lnumL, u_mn, u_bysz, u_pairs,
    ok_number_of D.d__law_number_of T u_lots u_product, ok_lpairs D.d__law_pairs T u_product, ok_likeG D.d__law_like T, u_likeI, ok_list_right D.d__law_list_right T eT X ux_am u_am u_like u_isint u_lnumU u_meet u_likeI, ok_all_sizes (P := P) (w := w) (base := base) D.d__law_all_sizes T⟩
theorem finish {l : PySem.W.OpenLaw} {fa : Addr} {CT : Addr} (hfa : mg "law" = some (.ref fa)) (DL : DefAt K mg "law" s_law) (D : Defs K mg) (T : Bt mg) (eT : ErrK l.prog K mg "TooGreat" CT "most") (X : PySem.W.exmOne K (.ref CT) (.ref CT) = some true) (z_factorial : mg "factorial" = some (.builtin "math.factorial")) (z_comb : mg "comb" = some (.builtin "math.comb")) :
    ∃ fd : FuncData, (∀ (s : Shared) (u : Value), BindsTo s fd ⟨[u], []⟩ [("script", u)]) ∧ ∀ base : Heap, K.In base → base.Ns mainGlobals mg → FnG l.prog w K mg base 7 fa fd ["script"] (spLaw K) := by
  obtain ⟨f, fd, F, hm⟩ := DL
  have e := hfa.symm.trans hm
  cases e
  have F' := F
  obtain ⟨oc, od, kV, doc, pm, an, cdv, ct, osl, rfl, lk, hcd⟩ := F'.ex
  exact ⟨_, fun s v => .of_eq rfl, fun base _ _ => fn_law F T (calls D T eT X z_factorial z_comb)⟩
theorem walk {l : PySem.W.OpenLaw} {q : Program} {loose : List Str} {XP : (Str → Option Value) → Heap → Prop} {YP : World → Heap → Prop} {d : DefRec} {K : Params → PySem.W.Frag} (hn : l.most = some 63) (hdf : d.params.defaults = [])
    (hY : ∀ (w : World) (h : Heap), YP w h → (K w.params).In h)
    (F : ∀ (w : World) (mg : Str → Option Value) (fa : Addr) (h : Heap), (K w.params).In h → h.Ns mainGlobals mg → mg d.name = some (.ref fa) →
      ∃ fd : FuncData, (∀ (s : Shared) (u : Value), BindsTo s fd ⟨[u], []⟩ [("script", u)]) ∧ ∀ base : Heap, (K w.params).In base → base.Ns mainGlobals mg → FnG l.prog w (K w.params) mg base 7 fa fd ["script"] (spLaw (K w.params))) :
    PySem.W.WalkO q loose XP YP l.row.toRowW d [] (fun f vs => PySem.call f vs) :=
  KR.walk_ofG (n := 63) (k := 7) (x := "script") (sp := fun w => spLaw (K w.params)) hn (by decide) hdf ⟨rfl, by decide, by decide⟩ hY F (fun _ _ a ns hl _ hS => ⟨a, ns, rfl, hS, hl, fun _ => rfl⟩)
end
end KQ
open PySem PySem.W PyProof.Rows
set_option maxRecDepth 100000 in
set_option maxHeartbeats 0 in
theorem PySem.Challenge.cw_fittingdoors_k05_whole_meeting_counted_holds : PySem.Challenge.rw_fittingdoors_k05_whole_meeting_counted.Holds := by
  w_on; o_law; k_head; (case hw => w_witness2)
  k_fill
  refine KQ.walk (l := PySem.Challenge.rw_fittingdoors_k05_whole_meeting_counted) rfl rfl (fun w h Y => PySem.W.kIn_of Y) ?F
  case F =>
    intro w mg fa h KX G hmg
    refine' KQ.step_def (x := "is_integer") (st := KQ.s_is_integer) KX G ?a1 ?l1 ?c1 ?k1 ?n1
    (case a1 => k_is); (case l1 => k_is); (case c1 => k_is); (case k1 => k_is)
    intro d_is_integer
    refine' KQ.step_def (x := "is_integer_within") (st := KQ.s_is_integer_within) KX G ?a2 ?l2 ?c2 ?k2 ?n2
    (case a2 => k_is); (case l2 => k_is); (case c2 => k_is); (case k2 => k_is)
    intro d_is_integer_within
    refine' KQ.step_def (x := "is_tuple_within") (st := KQ.s_is_tuple_within) KX G ?a3 ?l3 ?c3 ?k3 ?n3
    (case a3 => k_is); (case l3 => k_is); (case c3 => k_is); (case k3 => k_is)
    intro d_is_tuple_within
    refine' KQ.step_def (x := "first_wrong_block") (st := KQ.s_first_wrong_block) KX G ?a4 ?l4 ?c4 ?k4 ?n4
    (case a4 => k_is); (case l4 => k_is); (case c4 => k_is); (case k4 => k_is)
    intro d_first_wrong_block
    refine' KQ.step_def (x := "need_parting") (st := KQ.s_need_parting) KX G ?a5 ?l5 ?c5 ?k5 ?n5
    (case a5 => k_is); (case l5 => k_is); (case c5 => k_is); (case k5 => k_is)
    intro d_need_parting
    refine' KQ.step_def (x := "block_count") (st := KQ.s_block_count) KX G ?a6 ?l6 ?c6 ?k6 ?n6
    (case a6 => k_is); (case l6 => k_is); (case c6 => k_is); (case k6 => k_is)
    intro d_block_count
    refine' KQ.step_def (x := "doors_by_block") (st := KQ.s_doors_by_block) KX G ?a7 ?l7 ?c7 ?k7 ?n7
    (case a7 => k_is); (case l7 => k_is); (case c7 => k_is); (case k7 => k_is)
    intro d_doors_by_block
    refine' KQ.step_def (x := "power") (st := KQ.s_power) KX G ?a8 ?l8 ?c8 ?k8 ?n8
    (case a8 => k_is); (case l8 => k_is); (case c8 => k_is); (case k8 => k_is)
    intro d_power
    refine' KQ.step_def (x := "block_product") (st := KQ.s_block_product) KX G ?a9 ?l9 ?c9 ?k9 ?n9
    (case a9 => k_is); (case l9 => k_is); (case c9 => k_is); (case k9 => k_is)
    intro d_block_product
    refine' KQ.step_def (x := "met_by") (st := KQ.s_met_by) KX G ?a10 ?l10 ?c10 ?k10 ?n10
    (case a10 => k_is); (case l10 => k_is); (case c10 => k_is); (case k10 => k_is)
    intro d_met_by
    refine' KQ.step_def (x := "meeting_number") (st := KQ.s_meeting_number) KX G ?a11 ?l11 ?c11 ?k11 ?n11
    (case a11 => k_is); (case l11 => k_is); (case c11 => k_is); (case k11 => k_is)
    intro d_meeting_number
    refine' KQ.step_def (x := "longer") (st := KQ.s_longer) KX G ?a12 ?l12 ?c12 ?k12 ?n12
    (case a12 => k_is); (case l12 => k_is); (case c12 => k_is); (case k12 => k_is)
    intro d_longer
    refine' KQ.step_def (x := "all_meeting") (st := KQ.s_all_meeting) KX G ?a13 ?l13 ?c13 ?k13 ?n13
    (case a13 => k_is); (case l13 => k_is); (case c13 => k_is); (case k13 => k_is)
    intro d_all_meeting
    refine' KQ.step_def (x := "is_sizes") (st := KQ.s_is_sizes) KX G ?a14 ?l14 ?c14 ?k14 ?n14
    (case a14 => k_is); (case l14 => k_is); (case c14 => k_is); (case k14 => k_is)
    intro d_is_sizes
    refine' KQ.step_def (x := "meeting_by_sizes") (st := KQ.s_meeting_by_sizes) KX G ?a15 ?l15 ?c15 ?k15 ?n15
    (case a15 => k_is); (case l15 => k_is); (case c15 => k_is); (case k15 => k_is)
    intro d_meeting_by_sizes
    refine' KQ.step_def (x := "meeting_pairs") (st := KQ.s_meeting_pairs) KX G ?a16 ?l16 ?c16 ?k16 ?n16
    (case a16 => k_is); (case l16 => k_is); (case c16 => k_is); (case k16 => k_is)
    intro d_meeting_pairs
    refine' KQ.step_def (x := "_law_mixed") (st := KQ.s__law_mixed) KX G ?a17 ?l17 ?c17 ?k17 ?n17
    (case a17 => k_is); (case l17 => k_is); (case c17 => k_is); (case k17 => k_is)
    intro d__law_mixed
    refine' KQ.step_def (x := "_law_folded") (st := KQ.s__law_folded) KX G ?a18 ?l18 ?c18 ?k18 ?n18
    (case a18 => k_is); (case l18 => k_is); (case c18 => k_is); (case k18 => k_is)
    intro d__law_folded
    refine' KQ.step_def (x := "_law_draw") (st := KQ.s__law_draw) KX G ?a19 ?l19 ?c19 ?k19 ?n19
    (case a19 => k_is); (case l19 => k_is); (case c19 => k_is); (case k19 => k_is)
    intro d__law_draw
    refine' KQ.step_def (x := "_law_begun") (st := KQ.s__law_begun) KX G ?a20 ?l20 ?c20 ?k20 ?n20
    (case a20 => k_is); (case l20 => k_is); (case c20 => k_is); (case k20 => k_is)
    intro d__law_begun
    refine' KQ.step_def (x := "_law_like") (st := KQ.s__law_like) KX G ?a21 ?l21 ?c21 ?k21 ?n21
    (case a21 => k_is); (case l21 => k_is); (case c21 => k_is); (case k21 => k_is)
    intro d__law_like
    refine' KQ.step_def (x := "_law_of") (st := KQ.s__law_of) KX G ?a22 ?l22 ?c22 ?k22 ?n22
    (case a22 => k_is); (case l22 => k_is); (case c22 => k_is); (case k22 => k_is)
    intro d__law_of
    refine' KQ.step_def (x := "_law_is_int") (st := KQ.s__law_is_int) KX G ?a23 ?l23 ?c23 ?k23 ?n23
    (case a23 => k_is); (case l23 => k_is); (case c23 => k_is); (case k23 => k_is)
    intro d__law_is_int
    refine' KQ.step_def (x := "_law_order") (st := KQ.s__law_order) KX G ?a24 ?l24 ?c24 ?k24 ?n24
    (case a24 => k_is); (case l24 => k_is); (case c24 => k_is); (case k24 => k_is)
    intro d__law_order
    refine' KQ.step_def (x := "_law_numbered") (st := KQ.s__law_numbered) KX G ?a25 ?l25 ?c25 ?k25 ?n25
    (case a25 => k_is); (case l25 => k_is); (case c25 => k_is); (case k25 => k_is)
    intro d__law_numbered
    refine' KQ.step_def (x := "_law_partings") (st := KQ.s__law_partings) KX G ?a26 ?l26 ?c26 ?k26 ?n26
    (case a26 => k_is); (case l26 => k_is); (case c26 => k_is); (case k26 => k_is)
    intro d__law_partings
    refine' KQ.step_def (x := "_law_root") (st := KQ.s__law_root) KX G ?a27 ?l27 ?c27 ?k27 ?n27
    (case a27 => k_is); (case l27 => k_is); (case c27 => k_is); (case k27 => k_is)
    intro d__law_root
    refine' KQ.step_def (x := "_law_meet") (st := KQ.s__law_meet) KX G ?a28 ?l28 ?c28 ?k28 ?n28
    (case a28 => k_is); (case l28 => k_is); (case c28 => k_is); (case k28 => k_is)
    intro d__law_meet
    refine' KQ.step_def (x := "_law_any_parting") (st := KQ.s__law_any_parting) KX G ?a29 ?l29 ?c29 ?k29 ?n29
    (case a29 => k_is); (case l29 => k_is); (case c29 => k_is); (case k29 => k_is)
    intro d__law_any_parting
    refine' KQ.step_def (x := "_law_met") (st := KQ.s__law_met) KX G ?a30 ?l30 ?c30 ?k30 ?n30
    (case a30 => k_is); (case l30 => k_is); (case c30 => k_is); (case k30 => k_is)
    intro d__law_met
    refine' KQ.step_def (x := "_law_product") (st := KQ.s__law_product) KX G ?a31 ?l31 ?c31 ?k31 ?n31
    (case a31 => k_is); (case l31 => k_is); (case c31 => k_is); (case k31 => k_is)
    intro d__law_product
    refine' KQ.step_def (x := "_law_lots") (st := KQ.s__law_lots) KX G ?a32 ?l32 ?c32 ?k32 ?n32
    (case a32 => k_is); (case l32 => k_is); (case c32 => k_is); (case k32 => k_is)
    intro d__law_lots
    refine' KQ.step_def (x := "_law_all_sizes") (st := KQ.s__law_all_sizes) KX G ?a33 ?l33 ?c33 ?k33 ?n33
    (case a33 => k_is); (case l33 => k_is); (case c33 => k_is); (case k33 => k_is)
    intro d__law_all_sizes
    refine' KQ.step_def (x := "_law_number") (st := KQ.s__law_number) KX G ?a34 ?l34 ?c34 ?k34 ?n34
    (case a34 => k_is); (case l34 => k_is); (case c34 => k_is); (case k34 => k_is)
    intro d__law_number
    refine' KQ.step_def (x := "_law_number_of") (st := KQ.s__law_number_of) KX G ?a35 ?l35 ?c35 ?k35 ?n35
    (case a35 => k_is); (case l35 => k_is); (case c35 => k_is); (case k35 => k_is)
    intro d__law_number_of
    refine' KQ.step_def (x := "_law_pairs") (st := KQ.s__law_pairs) KX G ?a36 ?l36 ?c36 ?k36 ?n36
    (case a36 => k_is); (case l36 => k_is); (case c36 => k_is); (case k36 => k_is)
    intro d__law_pairs
    refine' KQ.step_def (x := "_law_small_right") (st := KQ.s__law_small_right) KX G ?a37 ?l37 ?c37 ?k37 ?n37
    (case a37 => k_is); (case l37 => k_is); (case c37 => k_is); (case k37 => k_is)
    intro d__law_small_right
    refine' KQ.step_def (x := "_law_list_right") (st := KQ.s__law_list_right) KX G ?a38 ?l38 ?c38 ?k38 ?n38
    (case a38 => k_is); (case l38 => k_is); (case c38 => k_is); (case k38 => k_is)
    intro d__law_list_right
    refine' KQ.step_def (x := "law") (st := KQ.s_law) KX G ?a39 ?l39 ?c39 ?k39 ?n39
    (case a39 => k_is); (case l39 => k_is); (case c39 => k_is); (case k39 => k_is)
    intro d_law
    refine' KQ.step_cst (x := "MOST_DOORS") (v := 60) KX G ?a40 ?n40
    (case a40 => k_is)
    intro c_MOST_DOORS
    refine' KQ.step_cst (x := "MOST_MEETING") (v := 1000) KX G ?a41 ?n41
    (case a41 => k_is)
    intro c_MOST_MEETING
    refine' KQ.step_none (x := "len") KX G ?a42 ?n42
    (case a42 => k_is)
    intro z_len
    refine' KQ.step_none (x := "range") KX G ?a43 ?n43
    (case a43 => k_is)
    intro z_range
    refine' KQ.step_none (x := "enumerate") KX G ?a44 ?n44
    (case a44 => k_is)
    intro z_enumerate
    refine' KQ.step_none (x := "zip") KX G ?a45 ?n45
    (case a45 => k_is)
    intro z_zip
    refine' KQ.step_none (x := "isinstance") KX G ?a46 ?n46
    (case a46 => k_is)
    intro z_isinstance
    refine' KQ.step_none (x := "int") KX G ?a47 ?n47
    (case a47 => k_is)
    intro z_int
    refine' KQ.step_none (x := "bool") KX G ?a48 ?n48
    (case a48 => k_is)
    intro z_bool
    refine' KQ.step_none (x := "tuple") KX G ?a49 ?n49
    (case a49 => k_is)
    intro z_tuple
    refine' KQ.step_none (x := "list") KX G ?a50 ?n50
    (case a50 => k_is)
    intro z_list
    refine' KQ.step_none (x := "max") KX G ?a51 ?n51
    (case a51 => k_is)
    intro z_max
    refine' KQ.step_none (x := "min") KX G ?a52 ?n52
    (case a52 => k_is)
    intro z_min
    refine' KQ.step_none (x := "repr") KX G ?a53 ?n53
    (case a53 => k_is)
    intro z_repr
    refine' KQ.step_none (x := "set") KX G ?a54 ?n54
    (case a54 => k_is)
    intro z_set
    refine' KQ.step_none (x := "sum") KX G ?a55 ?n55
    (case a55 => k_is)
    intro z_sum
    refine' KQ.step_none (x := "sorted") KX G ?a56 ?n56
    (case a56 => k_is)
    intro z_sorted
    refine' KQ.step_none (x := "super") KX G ?a57 ?n57
    (case a57 => k_is)
    intro z_super
    refine' KQ.step_err (P := PySem.W.OpenLaw.prog PySem.Challenge.rw_fittingdoors_k05_whole_meeting_counted) (cx := "TooGreat") (fld := "most") (x := "most") (msg := _) KX G z_super ?aC58 ?lC58 ?rv58 ?sa58 ?exC58 ?tyC58 ?kC58 ?iC58 ?tI58 ?lk58 ?hcd58 ?hcode58 ?hvs58 ?hfile58 ?htop58 ?hcell58 ?hsup58 ?hV58 ?hmro58 ?hop58 ?hfa58 ?hp58 ?har58 ?hx58 ?hxd58 ?hxc58 ?hk58 ?hco58 ?hgen58 ?l158 ?l258 ?l358 ?l458 ?hev58 ?l558 ?l658 ?hb58 ?ga58 ?gg58 ?hdC58 ?n58
    (case aC58 => k_is)
    (case lC58 => k_is)
    (case rv58 => rfl)
    (case sa58 => k_is)
    (case exC58 => k_is)
    (case tyC58 => k_is)
    (case kC58 => k_is)
    (case iC58 => k_is)
    (case tI58 => k_is)
    (case lk58 => (refine Eq.trans (b := some _) (by k_is) ?_; rfl))
    (case hcd58 => k_is)
    (case hcode58 => k_is)
    (case hvs58 => rfl)
    (case hfile58 => rfl)
    (case htop58 => rfl)
    (case hcell58 => k_is)
    (case hsup58 => ks_is)
    (case hV58 => k_is)
    (case hmro58 => k_is)
    (case hop58 => k_is)
    (case hfa58 => k_is)
    (case hp58 => rfl)
    (case har58 => rfl)
    (case hx58 => decide)
    (case hxd58 => decide)
    (case hxc58 => decide)
    (case hk58 => rfl)
    (case hco58 => rfl)
    (case hgen58 => rfl)
    (case l158 => rfl)
    (case l258 => rfl)
    (case l358 => rfl)
    (case l458 => rfl)
    (case hev58 => exact fun _ => rfl)
    (case l558 => decide +kernel)
    (case l658 => decide +kernel)
    (case hb58 => exact fun us hl => match us, hl with | [_, _], _ => rfl)
    (case ga58 => k_is)
    (case gg58 => k_is)
    (case hdC58 => k_is)
    intro eT
    refine' KQ.step_bi (x := "factorial") (v := "math.factorial") KX G ?a59 ?n59
    (case a59 => k_is)
    intro z_factorial
    refine' KQ.step_bi (x := "comb") (v := "math.comb") KX G ?a60 ?n60
    (case a60 => k_is)
    intro z_comb
    refine' KQ.step_exm1 eT ?a61 ?n61
    (case a61 => k_is)
    intro X
    exact KQ.finish hmg d_law ⟨d_is_integer, d_is_integer_within, d_is_tuple_within, d_first_wrong_block, d_need_parting, d_block_count, d_doors_by_block, d_power, d_block_product, d_met_by, d_meeting_number, d_longer, d_all_meeting, d_is_sizes, d_meeting_by_sizes, d_meeting_pairs, d__law_mixed, d__law_folded, d__law_draw, d__law_begun, d__law_like, d__law_of, d__law_is_int, d__law_order, d__law_numbered, d__law_partings, d__law_root, d__law_meet, d__law_any_parting, d__law_met, d__law_product, d__law_lots, d__law_all_sizes, d__law_number, d__law_number_of, d__law_pairs, d__law_small_right, d__law_list_right, c_MOST_DOORS, c_MOST_MEETING⟩ ⟨z_len, z_range, z_enumerate, z_zip, z_isinstance, z_int, z_bool, z_tuple, z_list, z_max, z_min, z_repr, z_set, z_sum, z_sorted⟩ eT X z_factorial z_comb
#print axioms PySem.Challenge.cw_fittingdoors_k05_whole_meeting_counted_holds
