import PyProof.Rows.All
import Wide.All
import OpenK.AllK
import Wide.FinOn
import KE.KIsAll
import KE.KTryMore
import HandS.ForMost
import HandS.ForExc
import HandS.Defaults
import HandS.ExcIs
import HandS.Lambda
import HandS.Codes
import HandS.Conv
import HandS.More
import HandS.Walk
import HandS.EndTab
import HandS.HeadWalk
import PyProof.ReprRoads
import PyProof.ListRange
import HandS.HeadHook1
import HandS.HeadHook2
import HandS.HeadHook3
import HandS.HeadHook4
import KE.KStateDown
import Lean
import HandS.IsInst
import HandS.Head0
import HandS.Head1
import HandS.Head2
import HandS.HeadEnd
import KE.GoesMore
import KE.GoesEnum
import KE.KFmtOwn
import PyProof.InstEq
import HandS.OwnEq
import HandS.Wide
import HandS.WideMore
import HandS.DictComp
import HandS.TupAny
import HandS.SortInts
import HandS.List
import HandS.Base
import HandS.Star
import HandS.RevRange
import HandS.Style
import PyProof.ReprLen
import HandS.FStr
import OpenK.KOps
import HandS.RaiseMore
import PyProof.Rows.SumAny
import HandS.Dict
import KE.KeyNested
import HandS.Iter
import KE.KDictWalk
import PyProof.DictItems
import PyProof.DictFindH
import PyProof.MaxThree
import HandS.TryOnly
import PySem.Challenge.RW_turncouple_k30_threes_by_powers_refused
set_option Elab.async false
set_option linter.all false
set_option maxRecDepth 100000
set_option maxHeartbeats 4000000
/-! roots of factorials: a square times a number free of squares, in one way only. -/
namespace TCX
/-- free of squares -/
def SqF (r : Nat) : Prop := ∀ d : Nat, d * d ∣ r → d = 1
theorem SqF.dvd {r s : Nat} (h : SqF r) (e : s ∣ r) : SqF s := fun d hd => h d (Nat.dvd_trans hd e)
theorem SqF.pos {r : Nat} (h : SqF r) : 0 < r := by
  refine Nat.pos_of_ne_zero fun e => ?_
  have := h 0 (by rw [e]; exact Nat.dvd_refl 0)
  cases this
/-- for coprime x, y: x x r = y y f with both free of squares makes x = y = 1 -/
theorem sq_cop {x y r f : Nat} (c : Nat.Coprime x y) (hr : SqF r) (hf : SqF f) (e : x * x * r = y * y * f) : x = 1 ∧ y = 1 := by
  have c2 : Nat.Coprime (x * x) (y * y) := Nat.Coprime.mul_left (Nat.Coprime.mul_right c c) (Nat.Coprime.mul_right c c)
  refine ⟨hf x ?_, hr y ?_⟩
  · exact Nat.Coprime.dvd_of_dvd_mul_left c2 (by rw [← e]; exact Nat.dvd_mul_right _ _)
  · exact Nat.Coprime.dvd_of_dvd_mul_left c2.symm (by rw [e]; exact Nat.dvd_mul_right _ _)
theorem sq_uniq {x y r f : Nat} (hx : 0 < x) (hr : SqF r) (hf : SqF f) (e : x * x * r = y * y * f) : x = y ∧ r = f := by
  have g0 : 0 < Nat.gcd x y := Nat.gcd_pos_of_pos_left _ hx
  obtain ⟨a, ha⟩ := Nat.gcd_dvd_left x y
  obtain ⟨b, hb⟩ := Nat.gcd_dvd_right x y
  have cop : Nat.Coprime a b := by
    have z := Nat.gcd_mul_left (Nat.gcd x y) a b
    rw [← ha, ← hb] at z
    have z2 : Nat.gcd x y * 1 = Nat.gcd x y * Nat.gcd a b := by rw [Nat.mul_one]; exact z
    exact (Nat.eq_of_mul_eq_mul_left g0 z2).symm
  have e2 : a * a * r = b * b * f := by
    have h1 : x * x * r = (Nat.gcd x y * Nat.gcd x y) * (a * a * r) := by
      conv => lhs; rw [ha]
      simp only [Nat.mul_assoc, Nat.mul_left_comm, Nat.mul_comm]
    have h2 : y * y * f = (Nat.gcd x y * Nat.gcd x y) * (b * b * f) := by
      conv => lhs; rw [hb]
      simp only [Nat.mul_assoc, Nat.mul_left_comm, Nat.mul_comm]
    rw [h1, h2] at e
    exact Nat.eq_of_mul_eq_mul_left (Nat.mul_pos g0 g0) e
  obtain ⟨ea, eb⟩ := sq_cop cop hr hf e2
  subst ea eb
  refine ⟨?_, by simpa using e2⟩
  rw [ha]
  conv => rhs; rw [hb]
/-! ### primes -/
def IsP (p : Nat) : Prop := 1 < p ∧ ∀ d, d ∣ p → d = 1 ∨ d = p
def pr30 : List Nat := [2, 3, 5, 7, 11, 13, 17, 19, 23, 29, 31, 37, 41, 43, 47, 53, 59, 61, 67, 71, 73, 79, 83, 89, 97, 101, 103, 107, 109, 113]
theorem pr30_b : ∀ p ∈ pr30, 1 < p ∧ ∀ d, d < p + 1 → d ∣ p → d = 1 ∨ d = p := by decide +kernel
theorem pr30_p : ∀ p ∈ pr30, IsP p := fun p hp => by
  obtain ⟨h1, h2⟩ := pr30_b p hp
  exact ⟨h1, fun d hd => h2 d (Nat.lt_succ_of_le (Nat.le_of_dvd (by omega) hd)) hd⟩
theorem pr30_nd : pr30.Nodup := by decide +kernel
theorem IsP.cop {p d : Nat} (h : IsP p) (hd : ¬ p ∣ d) : Nat.Coprime p d := by
  rcases h.2 _ (Nat.gcd_dvd_left p d) with e | e
  · exact e
  · exact absurd (e ▸ Nat.gcd_dvd_right p d) hd
theorem SqF.one : SqF 1 := fun d hd => by
  have := Nat.eq_one_of_dvd_one hd
  exact Nat.eq_one_of_mul_eq_one_left this
theorem SqF.mul {p m : Nat} (hp : IsP p) (hm : SqF m) (hn : ¬ p ∣ m) : SqF (p * m) := fun d hd => by
  by_cases h : p ∣ d
  · obtain ⟨k, rfl⟩ := h
    refine absurd ?_ hn
    have z : p * (p * (k * k)) ∣ p * m := by
      have e : p * k * (p * k) = p * (p * (k * k)) := by
        simp only [Nat.mul_assoc, Nat.mul_left_comm, Nat.mul_comm]
      rw [e] at hd
      exact hd
    have z2 := Nat.dvd_of_mul_dvd_mul_left (by have := hp.1; omega) z
    exact Nat.dvd_trans (Nat.dvd_mul_right _ _) z2
  · have c := hp.cop h
    have c2 : Nat.Coprime (d * d) p := (Nat.Coprime.mul_right c c).symm
    exact hm d (Nat.Coprime.dvd_of_dvd_mul_left c2 hd)
theorem IsP.dvd_mul {p a b : Nat} (h : IsP p) (hd : p ∣ a * b) : p ∣ a ∨ p ∣ b := by
  by_cases z : p ∣ a
  · exact .inl z
  · exact .inr (Nat.Coprime.dvd_of_dvd_mul_left (h.cop z) hd)
/-- the product of those of a list that are asked for -/
def pickP (f : Nat → Bool) (l : List Nat) : Nat := l.foldr (fun p m => if f p then p * m else m) 1
theorem pick_not {f : Nat → Bool} {q : Nat} (hq : IsP q) : ∀ {l : List Nat}, (∀ p ∈ l, IsP p) → q ∉ l → ¬ q ∣ pickP f l
  | [], _, _ => fun h => by
    have := Nat.eq_one_of_dvd_one h
    have := hq.1
    omega
  | p :: l, hp, hn => fun h => by
    have ih := pick_not (f := f) hq (fun r hr => hp r (List.mem_cons_of_mem _ hr)) (fun z => hn (List.mem_cons_of_mem _ z))
    have e : pickP f (p :: l) = if f p then p * pickP f l else pickP f l := rfl
    rw [e] at h
    split at h
    · rcases hq.dvd_mul h with h | h
      · rcases (hp p (by simp)).2 q h with e | e
        · have := hq.1
          omega
        · exact hn (by rw [e]; simp)
      · exact ih h
    · exact ih h
theorem pick_sqF {f : Nat → Bool} : ∀ {l : List Nat}, (∀ p ∈ l, IsP p) → l.Nodup → SqF (pickP f l)
  | [], _, _ => SqF.one
  | p :: l, hp, nd => by
    have n := List.nodup_cons.mp nd
    have hl : ∀ r ∈ l, IsP r := fun r hr => hp r (List.mem_cons_of_mem _ hr)
    have ih := pick_sqF (f := f) hl n.2
    have e : pickP f (p :: l) = if f p then p * pickP f l else pickP f l := rfl
    rw [e]
    split
    · exact SqF.mul (hp p (by simp)) ih (pick_not (hp p (by simp)) hl n.1)
    · exact ih
/-! ### factorials -/
def factN : Nat → Nat
  | 0 => 1
  | n + 1 => (n + 1) * factN n
/-- how often p is in n!, by the powers of p to 122 -/
def legN (n p : Nat) : Nat := n / p + n / (p * p) + n / (p * p * p) + n / (p * p * p * p) + n / (p * p * p * p * p) + n / (p * p * p * p * p * p)
def powP (e : Nat → Nat) (l : List Nat) : Nat := l.foldr (fun p m => p ^ e p * m) 1
theorem fact_leg : ∀ n, n < 123 → factN n = powP (legN n) pr30 := by decide +kernel
theorem powP_mul (e f : Nat → Nat) : ∀ l : List Nat, powP e l * powP f l = powP (fun p => e p + f p) l
  | [] => rfl
  | p :: l => by
    show p ^ e p * powP e l * (p ^ f p * powP f l) = p ^ (e p + f p) * powP (fun p => e p + f p) l
    rw [← powP_mul e f l, Nat.pow_add]
    simp only [Nat.mul_assoc, Nat.mul_left_comm, Nat.mul_comm]
theorem powP_congr {e f : Nat → Nat} : ∀ {l : List Nat}, (∀ p ∈ l, e p = f p) → powP e l = powP f l
  | [], _ => rfl
  | p :: l, h => by
    show p ^ e p * powP e l = p ^ f p * powP f l
    rw [h p (by simp), powP_congr fun r hr => h r (List.mem_cons_of_mem _ hr)]
theorem powP_pos {e : Nat → Nat} : ∀ {l : List Nat}, (∀ p ∈ l, IsP p) → 0 < powP e l
  | [], _ => Nat.one_pos
  | p :: l, h => by
    have h1 := (h p (by simp)).1
    exact Nat.mul_pos (Nat.pow_pos (by omega)) (powP_pos fun r hr => h r (List.mem_cons_of_mem _ hr))
theorem pick_pow (f : Nat → Bool) : ∀ l : List Nat, pickP f l = powP (fun p => if f p then 1 else 0) l
  | [] => rfl
  | p :: l => by
    have e : pickP f (p :: l) = if f p then p * pickP f l else pickP f l := rfl
    rw [e, pick_pow f l]
    show _ = p ^ (if f p then 1 else 0) * powP (fun p => if f p then 1 else 0) l
    split
    · rw [Nat.pow_one]
    · rw [Nat.pow_zero, Nat.one_mul]
/-- the factorials of a list, multiplied -/
def prodF (l : List Nat) : Nat := l.foldr (fun n m => factN n * m) 1
def sumL (l : List Nat) (p : Nat) : Nat := l.foldr (fun n m => legN n p + m) 0
theorem powP_zero : ∀ l : List Nat, powP (fun _ => 0) l = 1
  | [] => rfl
  | p :: l => by
    show p ^ 0 * powP (fun _ => 0) l = 1
    rw [powP_zero l]
    rfl
theorem prodF_leg : ∀ {l : List Nat}, (∀ n ∈ l, n < 123) → prodF l = powP (sumL l) pr30
  | [], _ => (powP_zero pr30).symm
  | n :: l, h => by
    show factN n * prodF l = _
    rw [fact_leg n (h n (by simp)), prodF_leg fun m hm => h m (List.mem_cons_of_mem _ hm), powP_mul]
    rfl
/-- the power of p in the quotient of two products of factorials -/
def expE (above below : List Nat) (p : Nat) : Int := (sumL above p : Int) - (sumL below p : Int)
def topE (above below : List Nat) : Nat := powP (fun p => (expE above below p / 2).toNat) pr30
def botE (above below : List Nat) : Nat := powP (fun p => (-(expE above below p / 2)).toNat) pr30
def rootE (above below : List Nat) : Nat := pickP (fun p => decide (expE above below p % 2 = 1)) pr30
theorem rootE_sqF (above below : List Nat) : SqF (rootE above below) := pick_sqF pr30_p pr30_nd
theorem topE_pos (above below : List Nat) : 0 < topE above below := powP_pos pr30_p
theorem botE_pos (above below : List Nat) : 0 < botE above below := powP_pos pr30_p
/-- (top / bottom) squared times the root is the quotient -/
theorem rootE_ok {above below : List Nat} (ha : ∀ n ∈ above, n < 123) (hb : ∀ n ∈ below, n < 123) :
    topE above below * topE above below * rootE above below * prodF below = botE above below * botE above below * prodF above := by
  unfold topE botE rootE
  rw [pick_pow, prodF_leg ha, prodF_leg hb]
  simp only [powP_mul]
  refine powP_congr fun p _ => ?_
  have e : expE above below p = (sumL above p : Int) - (sumL below p : Int) := rfl
  generalize sumL above p = A at e ⊢
  generalize sumL below p = B at e ⊢
  generalize expE above below p = x at e ⊢
  by_cases h : x % 2 = 1
  · rw [decide_eq_true h]
    simp only [if_true]
    omega
  · rw [decide_eq_false h]
    show _ + _ + 0 + _ = _
    omega
/-- powers of different primes have no divisor in common -/
theorem cop_pow {q : Nat} (hq : IsP q) {e : Nat → Nat} : ∀ {l : List Nat}, (∀ p ∈ l, IsP p) → q ∉ l → Nat.Coprime q (powP e l)
  | [], _, _ => Nat.coprime_one_right q
  | p :: l, hp, hn => by
    have ih := cop_pow hq (e := e) (fun r hr => hp r (List.mem_cons_of_mem _ hr)) (fun z => hn (List.mem_cons_of_mem _ z))
    have c : Nat.Coprime q p := hq.cop fun z => by
      rcases (hp p (by simp)).2 q z with e | e
      · have := hq.1
        omega
      · exact hn (by rw [e]; simp)
    exact Nat.Coprime.mul_right (Nat.Coprime.pow_right _ c) ih
theorem powP_cop {e f : Nat → Nat} : ∀ {l : List Nat}, (∀ p ∈ l, IsP p) → l.Nodup → (∀ p ∈ l, e p = 0 ∨ f p = 0) → Nat.Coprime (powP e l) (powP f l)
  | [], _, _, _ => Nat.coprime_one_right 1
  | p :: l, hp, nd, h => by
    have n := List.nodup_cons.mp nd
    have hl : ∀ r ∈ l, IsP r := fun r hr => hp r (List.mem_cons_of_mem _ hr)
    have ih := powP_cop hl n.2 fun r hr => h r (List.mem_cons_of_mem _ hr)
    have hpp := hp p (by simp)
    show Nat.Coprime (p ^ e p * powP e l) (p ^ f p * powP f l)
    rcases h p (by simp) with z | z
    · rw [z, Nat.pow_zero, Nat.one_mul]
      exact Nat.Coprime.mul_right (Nat.Coprime.pow_right _ (cop_pow hpp hl n.1).symm) ih
    · rw [z, Nat.pow_zero, Nat.one_mul]
      exact Nat.Coprime.mul_left (Nat.Coprime.pow_left _ (cop_pow hpp hl n.1)) ih
theorem topE_cop (above below : List Nat) : Nat.Coprime (topE above below) (botE above below) := powP_cop pr30_p pr30_nd fun p _ => by omega
end TCX
/-! the powers of primes by counts. -/
namespace TCX
/-- how many of l are at least m -/
def geL (l : List Nat) (m : Nat) : Int := l.foldr (fun n k => (if m ≤ n then 1 else 0) + k) 0
/-- how many of l are m -/
def eqL (l : List Nat) (m : Nat) : Int := l.foldr (fun n k => (if n = m then 1 else 0) + k) 0
theorem ge_step (l : List Nat) (m : Nat) : geL l m = eqL l m + geL l (m + 1) := by
  induction l with
  | nil => rfl
  | cons n l ih =>
    show (if m ≤ n then 1 else 0) + geL l m = (if n = m then 1 else 0) + eqL l m + ((if m + 1 ≤ n then 1 else 0) + geL l (m + 1))
    rw [ih]
    split <;> split <;> split <;> omega
theorem ge_top {l : List Nat} {h m : Nat} (hl : ∀ n ∈ l, n ≤ h) (hm : h < m) : geL l m = 0 := by
  induction l with
  | nil => rfl
  | cons n l ih =>
    show (if m ≤ n then 1 else 0) + geL l m = 0
    rw [ih fun r hr => hl r (List.mem_cons_of_mem _ hr), if_neg (by have := hl n (by simp); omega)]
    rfl
/-- the quotients by s, summed -/
def divS (l : List Nat) (s : Nat) : Int := l.foldr (fun n k => ((n / s : Nat) : Int) + k) 0
theorem one_mult (n s : Nat) (s0 : 0 < s) : ∀ J : Nat, ((List.range J).map fun j => if (j + 1) * s ≤ n then (1 : Int) else 0).sum = ((min J (n / s) : Nat) : Int)
  | 0 => by simp
  | J + 1 => by
    rw [List.range_succ, List.map_append, List.sum_append, one_mult n s s0 J]
    show _ + ((if (J + 1) * s ≤ n then (1 : Int) else 0) + 0) = _
    have e : (J + 1) * s ≤ n ↔ J + 1 ≤ n / s := (Nat.le_div_iff_mul_le s0).symm
    by_cases h : (J + 1) * s ≤ n
    · have h2 := e.mp h
      rw [if_pos h]
      omega
    · have h2 : ¬ J + 1 ≤ n / s := fun z => h (e.mpr z)
      rw [if_neg h]
      omega
theorem sum_add (f g : Nat → Int) : ∀ l : List Nat, (l.map fun j => f j + g j).sum = (l.map f).sum + (l.map g).sum
  | [] => rfl
  | x :: l => by
    rw [List.map_cons, List.sum_cons, List.map_cons, List.sum_cons, List.map_cons, List.sum_cons, sum_add f g l]
    omega
theorem mult_sum {h s : Nat} (s0 : 0 < s) : ∀ {l : List Nat}, (∀ n ∈ l, n ≤ h) → ((List.range (h / s)).map fun j => geL l ((j + 1) * s)).sum = divS l s
  | [], _ => by
    have : ∀ J : Nat, ((List.range J).map fun j => geL [] ((j + 1) * s)).sum = 0 := fun J => by
      induction J with
      | zero => rfl
      | succ J ih =>
        rw [List.range_succ, List.map_append, List.sum_append, ih]
        rfl
    exact this _
  | n :: l, hl => by
    show ((List.range (h / s)).map fun j => (if (j + 1) * s ≤ n then (1 : Int) else 0) + geL l ((j + 1) * s)).sum = ((n / s : Nat) : Int) + divS l s
    rw [sum_add, mult_sum s0 fun r hr => hl r (List.mem_cons_of_mem _ hr), one_mult n s s0]
    have := Nat.div_le_div_right (c := s) (hl n (by simp))
    rw [Nat.min_eq_right this]
theorem divS_zero {h s : Nat} {l : List Nat} (hl : ∀ n ∈ l, n ≤ h) (hs : h < s) : divS l s = 0 := by
  induction l with
  | nil => rfl
  | cons n l ih =>
    show ((n / s : Nat) : Int) + divS l s = 0
    rw [ih fun r hr => hl r (List.mem_cons_of_mem _ hr), Nat.div_eq_of_lt (by have := hl n (by simp); omega)]
    rfl
theorem sumL_div (l : List Nat) (p : Nat) : (sumL l p : Int) = divS l p + divS l (p * p) + divS l (p * p * p) + divS l (p * p * p * p) + divS l (p * p * p * p * p) + divS l (p * p * p * p * p * p) := by
  induction l with
  | nil => rfl
  | cons n l ih =>
    show ((legN n p + sumL l p : Nat) : Int) = _
    unfold legN
    show _ = (((n / p : Nat) : Int) + divS l p) + (((n / (p * p) : Nat) : Int) + divS l (p * p)) + (((n / (p * p * p) : Nat) : Int) + divS l (p * p * p)) + (((n / (p * p * p * p) : Nat) : Int) + divS l (p * p * p * p)) + (((n / (p * p * p * p * p) : Nat) : Int) + divS l (p * p * p * p * p)) + (((n / (p * p * p * p * p * p) : Nat) : Int) + divS l (p * p * p * p * p * p))
    omega
/-- what is counted at s -/
def atS (above below : List Nat) (s : Nat) : Int := divS above s - divS below s
def runE (above below : List Nat) (p : Nat) : Nat → Int
  | 0 => 0
  | k + 1 => runE above below p k + atS above below (p ^ (k + 1))
theorem runE_all (above below : List Nat) (p : Nat) : runE above below p 6 = expE above below p := by
  unfold expE
  rw [sumL_div, sumL_div]
  show 0 + atS above below (p ^ 1) + atS above below (p ^ 2) + atS above below (p ^ 3) + atS above below (p ^ 4) + atS above below (p ^ 5) + atS above below (p ^ 6) = _
  have e1 : p ^ 1 = p := Nat.pow_one p
  have e2 : p ^ 2 = p * p := by rw [Nat.pow_succ, e1]
  have e3 : p ^ 3 = p * p * p := by rw [Nat.pow_succ, e2]
  have e4 : p ^ 4 = p * p * p * p := by rw [Nat.pow_succ, e3]
  have e5 : p ^ 5 = p * p * p * p * p := by rw [Nat.pow_succ, e4]
  have e6 : p ^ 6 = p * p * p * p * p * p := by rw [Nat.pow_succ, e5]
  rw [e1, e2, e3, e4, e5, e6]
  unfold atS
  omega
/-- nothing more is counted beyond the highest -/
theorem runE_end {above below : List Nat} {h p k : Nat} (p1 : 1 < p) (ha : ∀ n ∈ above, n ≤ h) (hb : ∀ n ∈ below, n ≤ h) (hk : h < p ^ (k + 1)) (k6 : k ≤ 6) : runE above below p k = expE above below p := by
  rw [← runE_all]
  have key : ∀ d, runE above below p (k + d) = runE above below p k := fun d => by
    induction d with
    | zero => rfl
    | succ d ih =>
      show runE above below p (k + d) + atS above below (p ^ (k + d + 1)) = _
      have : p ^ (k + 1) ≤ p ^ (k + d + 1) := Nat.pow_le_pow_right (by omega) (by omega)
      unfold atS
      rw [ih, divS_zero ha (by omega), divS_zero hb (by omega)]
      omega
  have e := key (6 - k)
  rw [show k + (6 - k) = 6 by omega] at e
  exact e.symm
end TCX
/-! a number parted into a square and what is free of squares, by trying. -/
namespace TCX
structure RootI (N left free square p : Nat) : Prop where
  eq : left * free * (square * square) = N
  l0 : 0 < left
  s0 : 0 < square
  p1 : 1 < p
  sf : SqF free
  i1 : ∀ d, 1 < d → d < p → ¬ d ∣ left
  i2 : p ∣ free → ¬ p ∣ left
  i3 : ∀ d, 1 < d → d ∣ free → ∃ q, 1 < q ∧ q ≤ p ∧ q ∣ d
theorem RootI.start {N : Nat} (h : 0 < N) : RootI N N 1 1 2 :=
  ⟨by simp, h, by decide, by decide, SqF.one, fun d h1 h2 => by omega, fun z => by have := Nat.eq_one_of_dvd_one z; omega, fun d h1 h2 => by have := Nat.eq_one_of_dvd_one h2; omega⟩
/-- where p divides what is left, it is a prime -/
theorem RootI.prime {N left free square p : Nat} (h : RootI N left free square p) (hd : p ∣ left) : IsP p := by
  refine ⟨h.p1, fun d dp => ?_⟩
  by_cases h1 : d = 1
  · exact .inl h1
  · by_cases h2 : d = p
    · exact .inr h2
    · have h3 := Nat.le_of_dvd (by have := h.p1; omega) dp
      have h4 : 0 < d := Nat.pos_of_dvd_of_pos dp (by have := h.p1; omega)
      exact absurd (Nat.dvd_trans dp hd) (h.i1 d (by omega) (by omega))
theorem RootI.le {N left free square p : Nat} (h : RootI N left free square p) (hl : 1 < left) : p ≤ left := by
  refine Nat.le_of_not_lt fun z => ?_
  exact h.i1 left hl z (Nat.dvd_refl _)
theorem RootI.sq {N left free square p : Nat} (h : RootI N left free square p) (hd : p * p ∣ left) : RootI N (left / (p * p)) free (square * p) p := by
  have pp : 0 < p * p := Nat.mul_pos (by have := h.p1; omega) (by have := h.p1; omega)
  obtain ⟨k, rfl⟩ := hd
  rw [Nat.mul_div_cancel_left k pp]
  have kd : ∀ d, d ∣ k → d ∣ p * p * k := fun d z => Nat.dvd_trans z (Nat.dvd_mul_left _ _)
  have k0 : 0 < k := Nat.pos_of_ne_zero fun e => by
    have := h.l0
    rw [e, Nat.mul_zero] at this
    omega
  refine ⟨?_, k0, Nat.mul_pos h.s0 (by have := h.p1; omega), h.p1, h.sf, fun d h1 h2 z => h.i1 d h1 h2 (kd d z), fun z y => h.i2 z (kd p y), h.i3⟩
  rw [← h.eq]
  simp only [Nat.mul_assoc, Nat.mul_left_comm, Nat.mul_comm]
theorem RootI.once {N left free square p : Nat} (h : RootI N left free square p) (hn : ¬ p * p ∣ left) (hd : p ∣ left) : RootI N (left / p) (free * p) square p := by
  have hp := h.prime hd
  have p0 : 0 < p := by have := h.p1; omega
  have nf : ¬ p ∣ free := fun z => h.i2 z hd
  obtain ⟨k, rfl⟩ := hd
  rw [Nat.mul_div_cancel_left k p0]
  have kd : ∀ d, d ∣ k → d ∣ p * k := fun d z => Nat.dvd_trans z (Nat.dvd_mul_left _ _)
  have k0 : 0 < k := Nat.pos_of_ne_zero fun e => by
    have := h.l0
    rw [e, Nat.mul_zero] at this
    omega
  refine ⟨?_, k0, h.s0, h.p1, ?_, fun d h1 h2 z => h.i1 d h1 h2 (kd d z), fun _ y => hn (Nat.mul_dvd_mul_left p y), fun d h1 h2 => ?_⟩
  · rw [← h.eq]
    simp only [Nat.mul_assoc, Nat.mul_left_comm, Nat.mul_comm]
  · rw [Nat.mul_comm]
    exact SqF.mul hp h.sf nf
  · by_cases z : p ∣ d
    · exact ⟨p, h.p1, Nat.le_refl _, z⟩
    · have c := (hp.cop z).symm
      rw [Nat.mul_comm] at h2
      exact h.i3 d h1 (Nat.Coprime.dvd_of_dvd_mul_left c h2)
theorem RootI.up {N left free square p : Nat} (h : RootI N left free square p) (hd : ¬ p ∣ left) : RootI N left free square (p + 1) := by
  have i1 : ∀ d, 1 < d → d < p + 1 → ¬ d ∣ left := fun d h1 h2 => by
    by_cases e : d = p
    · rw [e]
      exact hd
    · exact h.i1 d h1 (by omega)
  refine ⟨h.eq, h.l0, h.s0, by have := h.p1; omega, h.sf, i1, fun z y => ?_, fun d h1 h2 => ?_⟩
  · obtain ⟨q, q1, q2, q3⟩ := h.i3 (p + 1) (by have := h.p1; omega) z
    exact i1 q q1 (by omega) (Nat.dvd_trans q3 y)
  · obtain ⟨q, q1, q2, q3⟩ := h.i3 d h1 h2
    exact ⟨q, q1, by omega, q3⟩
theorem RootI.done {N left free square p : Nat} (h : RootI N left free square p) (hl : ¬ 1 < left) : N = square * square * free ∧ SqF free ∧ 0 < square := by
  have e : left = 1 := by have := h.l0; omega
  refine ⟨?_, h.sf, h.s0⟩
  rw [← h.eq, e, Nat.one_mul, Nat.mul_comm]
/-- the root by the primes and the root by trying are one: root and fraction -/
theorem root_one {above below : List Nat} (ha : ∀ n ∈ above, n < 123) (hb : ∀ n ∈ below, n < 123) {up under free square : Nat} (hu : 0 < under) (hq : up * prodF below = under * prodF above) (hN : up * under = square * square * free) (hs : 0 < square) (hf : SqF free) :
    rootE above below = free ∧ topE above below * under = square * botE above below := by
  have pb : 0 < prodF below := by
    rw [prodF_leg hb]
    exact powP_pos pr30_p
  have pa : 0 < prodF above := by
    rw [prodF_leg ha]
    exact powP_pos pr30_p
  have e := rootE_ok ha hb
  -- (top * under)^2 root = (square * bot)^2 free
  have key : (topE above below * under) * (topE above below * under) * rootE above below = (square * botE above below) * (square * botE above below) * free := by
    have z : (topE above below * under) * (topE above below * under) * rootE above below * prodF below = (square * botE above below) * (square * botE above below) * free * prodF below := by
      calc (topE above below * under) * (topE above below * under) * rootE above below * prodF below
          = under * under * (topE above below * topE above below * rootE above below * prodF below) := by simp only [Nat.mul_assoc, Nat.mul_left_comm, Nat.mul_comm]
        _ = under * under * (botE above below * botE above below * prodF above) := by rw [e]
        _ = (botE above below * botE above below * under) * (under * prodF above) := by simp only [Nat.mul_assoc, Nat.mul_left_comm, Nat.mul_comm]
        _ = (botE above below * botE above below * under) * (up * prodF below) := by rw [hq]
        _ = (botE above below * botE above below) * (up * under) * prodF below := by simp only [Nat.mul_assoc, Nat.mul_left_comm, Nat.mul_comm]
        _ = (botE above below * botE above below) * (square * square * free) * prodF below := by rw [hN]
        _ = _ := by simp only [Nat.mul_assoc, Nat.mul_left_comm, Nat.mul_comm]
    exact Nat.eq_of_mul_eq_mul_right pb z
  obtain ⟨h1, h2⟩ := sq_uniq (Nat.mul_pos (topE_pos _ _) hu) (rootE_sqF _ _) hf key
  exact ⟨h2, h1⟩
end TCX
/-! the sum of two joined: by whole terms over one bottom. -/
namespace TCX
theorem fact_pos : ∀ n, 0 < factN n
  | 0 => Nat.one_pos
  | n + 1 => Nat.mul_pos (Nat.succ_pos n) (fact_pos n)
theorem fact_dvdS : ∀ s m n, m + n = s → factN m * factN n ∣ factN (m + n) := by
  intro s
  induction s with
  | zero =>
    intro m n h
    obtain ⟨rfl, rfl⟩ : m = 0 ∧ n = 0 := by omega
    exact Nat.dvd_refl _
  | succ s ih =>
    intro m n h
    match m, n with
    | 0, n =>
      rw [show factN 0 = 1 from rfl, Nat.one_mul, Nat.zero_add]
      exact Nat.dvd_refl _
    | m + 1, 0 =>
      rw [show factN 0 = 1 from rfl, Nat.mul_one, Nat.add_zero]
      exact Nat.dvd_refl _
    | m + 1, n + 1 =>
      have h1 := ih m (n + 1) (by omega)
      have h2 := ih (m + 1) n (by omega)
      have e : factN (m + 1 + (n + 1)) = (m + 1) * factN (m + (n + 1)) + (n + 1) * factN (m + 1 + n) := by
        rw [show m + 1 + (n + 1) = (m + n + 1) + 1 by omega]
        show (m + n + 1 + 1) * factN (m + n + 1) = _
        rw [show m + (n + 1) = m + n + 1 by omega, show m + 1 + n = m + n + 1 by omega, ← Nat.add_mul]
        congr 1
        omega
      rw [e]
      refine Nat.dvd_add ?_ ?_
      · show (m + 1) * factN m * factN (n + 1) ∣ _
        rw [Nat.mul_assoc]
        exact Nat.mul_dvd_mul_left _ h1
      · have z : factN (m + 1) * factN (n + 1) = (n + 1) * (factN (m + 1) * factN n) := by
          show factN (m + 1) * ((n + 1) * factN n) = _
          simp only [Nat.mul_assoc, Nat.mul_left_comm, Nat.mul_comm]
        rw [z]
        exact Nat.mul_dvd_mul_left _ h2
theorem fact_dvd (m n : Nat) : factN m * factN n ∣ factN (m + n) := fact_dvdS _ m n rfl
def okK (A B C : Nat) (D E : Int) (k : Nat) : Bool := decide (k ≤ A ∧ k ≤ B ∧ k ≤ C ∧ 0 ≤ D + k ∧ 0 ≤ E + k)
def botK (A B C : Nat) (D E : Int) (k : Nat) : Nat := factN k * factN (A - k) * factN (B - k) * factN (C - k) * factN (D + k).toNat * factN (E + k).toNat
def comK (A B C : Nat) (D E : Int) : Nat := factN A * factN (B + D).toNat * factN (C + E).toNat
theorem botK_pos (A B C : Nat) (D E : Int) (k : Nat) : 0 < botK A B C D E k := by
  unfold botK
  exact Nat.mul_pos (Nat.mul_pos (Nat.mul_pos (Nat.mul_pos (Nat.mul_pos (fact_pos _) (fact_pos _)) (fact_pos _)) (fact_pos _)) (fact_pos _)) (fact_pos _)
theorem comK_pos (A B C : Nat) (D E : Int) : 0 < comK A B C D E := Nat.mul_pos (Nat.mul_pos (fact_pos _) (fact_pos _)) (fact_pos _)
theorem botK_dvd {A B C : Nat} {D E : Int} {k : Nat} (h : okK A B C D E k = true) : botK A B C D E k ∣ comK A B C D E := by
  obtain ⟨h1, h2, h3, h4, h5⟩ := of_decide_eq_true h
  have e : botK A B C D E k = (factN k * factN (A - k)) * (factN (B - k) * factN (D + k).toNat) * (factN (C - k) * factN (E + k).toNat) := by
    unfold botK
    simp only [Nat.mul_assoc, Nat.mul_left_comm, Nat.mul_comm]
  rw [e]
  unfold comK
  have a1 := fact_dvd k (A - k)
  have a2 := fact_dvd (B - k) (D + k).toNat
  have a3 := fact_dvd (C - k) (E + k).toNat
  rw [show k + (A - k) = A by omega] at a1
  rw [show B - k + (D + k).toNat = (B + D).toNat by omega] at a2
  rw [show C - k + (E + k).toNat = (C + E).toNat by omega] at a3
  exact Nat.mul_dvd_mul (Nat.mul_dvd_mul a1 a2) a3
def sgK (k : Nat) : Int := if k % 2 = 1 then -1 else 1
def tmK (A B C : Nat) (D E : Int) (k : Nat) : Int := if okK A B C D E k = true then sgK k * ((comK A B C D E / botK A B C D E k : Nat) : Int) else 0
def sumK (f : Nat → Int) (n : Nat) : Int := ((List.range n).map f).sum
theorem sumK_succ (f : Nat → Int) (n : Nat) : sumK f (n + 1) = sumK f n + f n := by
  unfold sumK
  rw [List.range_succ, List.map_append, List.sum_append]
  show _ + (f n + 0) = _
  omega
theorem sumK_add (f : Nat → Int) (a : Nat) : ∀ b, sumK f (a + b) = sumK f a + sumK (fun i => f (a + i)) b
  | 0 => by
    show sumK f a = sumK f a + 0
    omega
  | b + 1 => by
    rw [← Nat.add_assoc, sumK_succ, sumK_succ, sumK_add f a b]
    omega
theorem sumK_zero {f : Nat → Int} : ∀ {n : Nat}, (∀ i, i < n → f i = 0) → sumK f n = 0
  | 0, _ => rfl
  | n + 1, h => by
    rw [sumK_succ, sumK_zero fun i hi => h i (by omega), h n (by omega)]
    rfl
/-- the sum is that of those k that are let -/
theorem sumK_let {A B C : Nat} {D E lo hi : Int} (l0 : 0 ≤ lo) (h1 : ∀ k : Nat, okK A B C D E k = true ↔ lo ≤ k ∧ (k : Int) ≤ hi) (hA : hi ≤ A) :
    sumK (tmK A B C D E) (A + 1) = sumK (fun i => tmK A B C D E (lo.toNat + i)) (hi + 1 - lo).toNat := by
  have out : ∀ k : Nat, ¬ (lo ≤ k ∧ (k : Int) ≤ hi) → tmK A B C D E k = 0 := fun k hk => if_neg fun z => hk ((h1 k).mp z)
  by_cases h : lo ≤ hi
  · have e : A + 1 = lo.toNat + ((hi + 1 - lo).toNat + (A - hi.toNat)) := by omega
    rw [e, sumK_add, sumK_add, sumK_zero fun i hi' => out i (by omega), sumK_zero (n := A - hi.toNat) fun i hi' => out _ (by omega)]
    omega
  · rw [show (hi + 1 - lo).toNat = 0 by omega, sumK_zero fun i _ => out i (by omega)]
    rfl
/-- one term more, as fractions in lowest terms -/
theorem frac_step (q : Rat) (low sg : Int) (h : low ≠ 0) : Rat.divInt (q.num * low + (q.den : Int) * sg) ((q.den : Int) * low) = q + Rat.divInt sg low := by
  have d0 : (q.den : Int) ≠ 0 := by have := q.den_pos; omega
  have e := Rat.divInt_add_divInt q.num sg d0 h
  rw [Rat.num_divInt_den] at e
  rw [e, Int.mul_comm sg]
theorem frac_com {A B C : Nat} {D E : Int} {k : Nat} (h : okK A B C D E k = true) : Rat.divInt (sgK k) ((botK A B C D E k : Nat) : Int) = Rat.divInt (tmK A B C D E k) ((comK A B C D E : Nat) : Int) := by
  have b0 := botK_pos A B C D E k
  have c0 := comK_pos A B C D E
  rw [Rat.divInt_eq_divInt_iff (by omega) (by omega)]
  unfold tmK
  rw [if_pos h, Int.mul_assoc, ← Int.natCast_mul, Nat.div_mul_cancel (botK_dvd h)]
theorem divInt_sum (x y : Int) {c : Int} (h : c ≠ 0) : Rat.divInt x c + Rat.divInt y c = Rat.divInt (x + y) c := by
  rw [Rat.divInt_add_divInt _ _ h h, ← Int.add_mul, Rat.divInt_mul_right h]
/-- the law's sum, step by step -/
theorem total_step {A B C : Nat} {D E : Int} {k : Nat} (h : okK A B C D E k = true) {q : Rat} (hq : q = Rat.divInt (sumK (tmK A B C D E) k) ((comK A B C D E : Nat) : Int)) :
    Rat.divInt (q.num * ((botK A B C D E k : Nat) : Int) + (q.den : Int) * sgK k) ((q.den : Int) * ((botK A B C D E k : Nat) : Int)) = Rat.divInt (sumK (tmK A B C D E) (k + 1)) ((comK A B C D E : Nat) : Int) := by
  have b0 := botK_pos A B C D E k
  have c0 := comK_pos A B C D E
  rw [frac_step q _ _ (by omega), frac_com h]
  conv => lhs; rw [hq]
  rw [divInt_sum _ _ (by omega), sumK_succ]
theorem total_skip {A B C : Nat} {D E : Int} {k : Nat} (h : ¬ okK A B C D E k = true) : sumK (tmK A B C D E) (k + 1) = sumK (tmK A B C D E) k := by
  rw [sumK_succ]
  have : tmK A B C D E k = 0 := if_neg h
  omega
/-- the root by the primes and the root by trying, a square of a common one beside -/
theorem root_two {above below : List Nat} (ha : ∀ n ∈ above, n < 123) (hb : ∀ n ∈ below, n < 123) {up under free square com : Nat} (hu : 0 < under) (hc : 0 < com) (hq : up * prodF below = under * prodF above * (com * com)) (hN : up * under = square * square * free) (hf : SqF free) :
    rootE above below = free ∧ topE above below * under * com = square * botE above below := by
  have pb : 0 < prodF below := by
    rw [prodF_leg hb]
    exact powP_pos pr30_p
  have e := rootE_ok ha hb
  have key : (topE above below * under * com) * (topE above below * under * com) * rootE above below = (square * botE above below) * (square * botE above below) * free := by
    have z : (topE above below * under * com) * (topE above below * under * com) * rootE above below * prodF below = (square * botE above below) * (square * botE above below) * free * prodF below := by
      calc (topE above below * under * com) * (topE above below * under * com) * rootE above below * prodF below
          = under * under * (com * com) * (topE above below * topE above below * rootE above below * prodF below) := by simp only [Nat.mul_assoc, Nat.mul_left_comm, Nat.mul_comm]
        _ = under * under * (com * com) * (botE above below * botE above below * prodF above) := by rw [e]
        _ = (botE above below * botE above below * under) * (under * prodF above * (com * com)) := by simp only [Nat.mul_assoc, Nat.mul_left_comm, Nat.mul_comm]
        _ = (botE above below * botE above below * under) * (up * prodF below) := by rw [hq]
        _ = (botE above below * botE above below) * (up * under) * prodF below := by simp only [Nat.mul_assoc, Nat.mul_left_comm, Nat.mul_comm]
        _ = (botE above below * botE above below) * (square * square * free) * prodF below := by rw [hN]
        _ = _ := by simp only [Nat.mul_assoc, Nat.mul_left_comm, Nat.mul_comm]
    exact Nat.eq_of_mul_eq_mul_right pb z
  obtain ⟨h1, h2⟩ := sq_uniq (Nat.mul_pos (Nat.mul_pos (topE_pos _ _) hu) hc) (rootE_sqF _ _) hf key
  exact ⟨h2, h1⟩
/-- both answers are one: top / bot times the whole sum, square / under times the sum's fraction -/
theorem both_one {top bot under square com : Nat} {W : Int} (hb : 0 < bot) (hu : 0 < under) (hc : 0 < com) (h : top * under * com = square * bot) :
    Rat.divInt W 1 * Rat.divInt (top : Int) (bot : Int) = Rat.divInt (square : Int) (under : Int) * Rat.divInt W (com : Int) := by
  rw [Rat.divInt_mul_divInt, Rat.divInt_mul_divInt, Rat.divInt_eq_divInt_iff (by omega) (by
    intro z
    rcases Int.mul_eq_zero.mp z with z | z <;> omega)]
  have h' : (top : Int) * under * com = square * bot := by
    have := congrArg (Nat.cast : Nat → Int) h
    push_cast at this
    exact this
  grind
end TCX
namespace TCX
set_option exponentiation.threshold 20000
/-! ### binomials -/
def binN (n k : Nat) : Nat := factN n / (factN k * factN (n - k))
theorem bin_mul {n k : Nat} (h : k ≤ n) : binN n k * (factN k * factN (n - k)) = factN n := by
  have d := fact_dvd k (n - k)
  rw [show k + (n - k) = n by omega] at d
  exact Nat.div_mul_cancel d
theorem bin_succ {n k : Nat} (h : k < n) : binN n (k + 1) * (k + 1) = binN n k * (n - k) := by
  have e1 := bin_mul (n := n) (k := k + 1) h
  have e2 := bin_mul (n := n) (k := k) (by omega)
  have p1 := fact_pos k
  have p2 := fact_pos (n - (k + 1))
  have e3 : factN (n - k) = (n - k) * factN (n - (k + 1)) := by
    rw [show n - k = (n - (k + 1)) + 1 by omega]
    rfl
  have e4 : factN (k + 1) = (k + 1) * factN k := rfl
  rw [e4] at e1
  rw [e3] at e2
  refine Nat.eq_of_mul_eq_mul_right (Nat.mul_pos p1 p2) ?_
  calc binN n (k + 1) * (k + 1) * (factN k * factN (n - (k + 1))) = binN n (k + 1) * ((k + 1) * factN k * factN (n - (k + 1))) := by simp only [Nat.mul_assoc]
    _ = factN n := e1
    _ = binN n k * (factN k * ((n - k) * factN (n - (k + 1)))) := e2.symm
    _ = _ := by simp only [Nat.mul_assoc, Nat.mul_left_comm, Nat.mul_comm]
theorem bin_zero (n : Nat) : binN n 0 = 1 := by
  unfold binN
  rw [show factN 0 = 1 from rfl, Nat.one_mul, Nat.sub_zero]
  exact Nat.div_self (fact_pos n)
theorem bin_step {n k : Nat} (h : k < n) : ((binN n k : Nat) : Int) * ((n : Int) - (k : Int)) / ((k : Int) + 1) = ((binN n (k + 1) : Nat) : Int) := by
  have e : ((binN n k : Nat) : Int) * ((n : Int) - (k : Int)) = ((binN n (k + 1) : Nat) : Int) * ((k : Int) + 1) := by
    have z := congrArg (Nat.cast : Nat → Int) (bin_succ h)
    rw [Int.natCast_mul, Int.natCast_mul, Int.natCast_sub (by omega)] at z
    rw [← z]
    congr 1
  rw [e]
  exact Int.mul_ediv_cancel _ (by omega)
theorem fact_lt2P : ∀ n, n < 42 → factN n < 2 ^ 166 := by decide +kernel
theorem bin_lt {n k : Nat} (h : n < 42) : binN n k < 2 ^ 166 := Nat.lt_of_le_of_lt (Nat.div_le_self _ _) (fact_lt2P n h)
end TCX
/-! Exceptions that are caught, kept in a name and asked of later. -/
namespace TCX
open PySem PySem.Spec PyProof.Rows L2
/-! ### a clause that names five classes -/
section
open PySem.W
variable {M : Model} {K : Frag}
theorem exm_tup5 {c1 c2 c3 c4 c5 cls : Value} {tp e : Addr} {b : Bool} {h : Heap} (X : K.In h) (LT : Looks M h (typeOf (.ref e)) cls) (hp : h.get? tp = some { cls := .type "tuple", data := .seq [c1, c2, c3, c4, c5].toArray }) (hx : exmAny K cls [c1, c2, c3, c4, c5] = some b) :
    Looks M h (excMatches (.ref e) (.ref tp)) b := by
  intro A Q E s k₀ q
  obtain ⟨hh, g, d, tk, os⟩ := s
  have k : ∀ b o, h.get? b = some o → hh.get? b = some o := k₀
  have T0 : Looks M h (isInstance (.ref tp) (.type "tuple")) true := ((Looks.ld hp).andThen .now).andThen (Looks.of_pure isSubtype_tuple_tuple)
  have T1 := T0.keeps k
  have TY := LT.keeps k
  have hp' := k _ _ hp
  obtain ⟨b1, d1, x1, y1, z1⟩ := exmAny_cons hx
  obtain ⟨b2, d2, x2, y2, z2⟩ := exmAny_cons y1
  obtain ⟨b3, d3, x3, y3, z3⟩ := exmAny_cons y2
  obtain ⟨b4, d4, x4, y4, z4⟩ := exmAny_cons y3
  obtain ⟨b5, d5, x5, y5, z5⟩ := exmAny_cons y4
  have u1 := (exm_cls (M := M) X x1).1.keeps k
  have v1 := (exm_cls (M := M) X x1).2.keeps k
  have u2 := (exm_cls (M := M) X x2).1.keeps k
  have v2 := (exm_cls (M := M) X x2).2.keeps k
  have u3 := (exm_cls (M := M) X x3).1.keeps k
  have v3 := (exm_cls (M := M) X x3).2.keeps k
  have u4 := (exm_cls (M := M) X x4).1.keeps k
  have v4 := (exm_cls (M := M) X x4).2.keeps k
  have u5 := (exm_cls (M := M) X x5).1.keeps k
  have v5 := (exm_cls (M := M) X x5).2.keeps k
  have w5 : some false = some d5 := y5
  cases w5
  subst z1 z2 z3 z4 z5
  unfold excMatches
  refine wpAny_bind (T1.at ?_)
  dsimp only
  rw [if_pos rfl]
  first
    | refine wpAny_bind (wpAny_seqItems hp' rfl ?_)
    | refine wpAny_bind (wpAny_bind (wpAny_seqItems hp' rfl (wpAny_pure ?_)))
  dsimp only [Option.getD_some, Option.getD]
  cases b1 <;> cases b2 <;> cases b3 <;> cases b4 <;> cases b5 <;> ((repeat (first | simp only [List.forIn_cons, List.forIn_nil, Bool.not_true, Bool.false_eq_true, if_false, if_true] | lk)); exact q)
end
/-- the test t of a clause, asked while an exception of the class cls is handled: it says b -/
def Tst (X : Cx) (t : Expr) (cls : Value) (b : Bool) : Prop :=
  ∀ (a : Addr) (oe : Obj) (pn : List (Addr × Obj)) (σ : L2.St) (H : Hp) (s : Shared) (Q : Bool → Shared → Prop) (E : Value → Shared → Prop),
    Inv (X.suite a ((a, oe) :: pn)) [] σ H s → oe.cls = cls → (∀ h', (∀ q o, s.heap.get? q = some o → h'.get? q = some o) → Q b { s with heap := h' }) →
    wpAny (model X.prog X.w) (X.A.mark (some (.ref a))) (eval t X.env) (fun c s₁ => wpAny (model X.prog X.w) (X.A.mark (some (.ref a))) (excMatches (.ref a) c) Q E s₁) E s
section
variable {X : Cx}
theorem suite_ty {a : Addr} {oe : Obj} {pn : List (Addr × Obj)} {σ : L2.St} {H : Hp} {s : Shared} (I : Inv (X.suite a ((a, oe) :: pn)) [] σ H s) : PySem.W.Looks (model X.prog X.w) s.heap (typeOf (.ref a)) oe.cls := by
  obtain ⟨hget, _⟩ := I.pin (a, oe) (List.mem_append.mpr (.inl List.mem_cons_self))
  exact fun A Q E s k q => wpAny_typeOf_ref (k _ _ hget) q
theorem ld_names {a : Addr} {oe : Obj} {pn : List (Addr × Obj)} {σ : L2.St} {H : Hp} {s : Shared} {x : Str} {c : Value} {np : Pos} {Q : Value → Shared → Prop} {E : Value → Shared → Prop} (hc : Names X x c) (I : Inv (X.suite a ((a, oe) :: pn)) [] σ H s) (q : Q c s) :
    wpAny (model X.prog X.w) (X.A.mark (some (.ref a))) (eval (.Name x np) X.env) Q E s := by
  obtain ⟨hg, hdbg, hm | ⟨hm, hv, hnn⟩⟩ := hc
  · exact ld_glob (X := X.suite a ((a, oe) :: pn)) I hg hm q hdbg
  · exact ld_blt (X := X.suite a ((a, oe) :: pn)) I hg hm hv q hnn hdbg
theorem tst_name {x : Str} {c cls : Value} {np : Pos} {b : Bool} (hc : Names X x c) (he : PySem.W.exmOne X.K cls c = some b) : Tst X (.Name x np) cls b := by
  intro a oe pn σ H s Q E I e q
  subst e
  exact ld_names hc I ((PySem.W.exm_one I.kIn (suite_ty I) he).here (q s.heap fun _ _ z => z))
theorem tst_tup4 {x1 x2 x3 x4 : Str} {c1 c2 c3 c4 cls : Value} {p1 p2 p3 p4 tpos : Pos} {kk : Nat} {b : Bool} (n1 : Names X x1 c1) (n2 : Names X x2 c2) (n3 : Names X x3 c3) (n4 : Names X x4 c4) (he : PySem.W.exmAny X.K cls [c1, c2, c3, c4] = some b) :
    Tst X (.Tuple [.Name x1 p1, .Name x2 p2, .Name x3 p3, .Name x4 p4] kk tpos) cls b := by
  intro a oe pn σ H s Q E I e q
  subst e
  refine wpAny_Tuple ?_
  refine wpAny_items_cons (ld_names n1 I ?_)
  refine wpAny_items_cons (ld_names n2 I ?_)
  refine wpAny_items_cons (ld_names n3 I ?_)
  refine wpAny_items_cons (ld_names n4 I ?_)
  refine wpAny_items_nil ⟨by size_fits, ?_⟩
  have kp : ∀ q o, s.heap.get? q = some o → (s.heap.push { cls := .type "tuple", data := .seq [c1, c2, c3, c4].toArray }).get? q = some o := fun _ _ z => Heap.get?_push_of_some _ z
  exact (PySem.W.exm_tup4 (I.kIn.keeps kp) ((suite_ty I).keeps kp) (Heap.get?_push_size s.heap rfl) he).here (q _ kp)
theorem tst_tup5 {x1 x2 x3 x4 x5 : Str} {c1 c2 c3 c4 c5 cls : Value} {p1 p2 p3 p4 p5 tpos : Pos} {kk : Nat} {b : Bool} (n1 : Names X x1 c1) (n2 : Names X x2 c2) (n3 : Names X x3 c3) (n4 : Names X x4 c4) (n5 : Names X x5 c5) (he : PySem.W.exmAny X.K cls [c1, c2, c3, c4, c5] = some b) :
    Tst X (.Tuple [.Name x1 p1, .Name x2 p2, .Name x3 p3, .Name x4 p4, .Name x5 p5] kk tpos) cls b := by
  intro a oe pn σ H s Q E I e q
  subst e
  refine wpAny_Tuple ?_
  refine wpAny_items_cons (ld_names n1 I ?_)
  refine wpAny_items_cons (ld_names n2 I ?_)
  refine wpAny_items_cons (ld_names n3 I ?_)
  refine wpAny_items_cons (ld_names n4 I ?_)
  refine wpAny_items_cons (ld_names n5 I ?_)
  refine wpAny_items_nil ⟨by size_fits, ?_⟩
  have kp : ∀ q o, s.heap.get? q = some o → (s.heap.push { cls := .type "tuple", data := .seq [c1, c2, c3, c4, c5].toArray }).get? q = some o := fun _ _ z => Heap.get?_push_of_some _ z
  exact (exm_tup5 (I.kIn.keeps kp) ((suite_ty I).keeps kp) (Heap.get?_push_size s.heap rfl) he).here (q _ kp)
end
/-! ### a caught exception that is tracked from now on -/
/-- at a stands an exception of the class cls, its own dict d -/
def ExV (cls : Value) (d : Option Addr) (a : Addr) : HO := .ext fun h => ∃ (oe : Obj) (vs : Array Value), h.get? a = some oe ∧ Zc cls d oe ∧ oe.data = .fields vs
theorem exV_ok {P : Program} {w : World} {H : Hp} {h : Heap} {a : Addr} {cls : Value} {d : Option Addr} {oe : Obj} {vs : Array Value} (e : h.get? a = some oe) (z : Zc cls d oe) (hd : oe.data = .fields vs) : ObjOk P w H h a (ExV cls d a) :=
  ⟨⟨oe, vs, e, z, hd⟩, ⟨oe, e⟩, fun _ _ ⟨o, v, q, r⟩ k => ⟨o, v, k o q, r⟩⟩
theorem flyZ_keeps {B h h' : Heap} {l : List Env} {e : Addr} {Z : Obj → Prop} (R : HandSPX.FlyingZ B l e Z h) (k : ∀ b o, h.get? b = some o → h'.get? b = some o) : HandSPX.FlyingZ B l e Z h' := by
  obtain ⟨f1, f2, f3, oe, ws, T, oT, ts, he, hz, hd, h1, hn, hne, hT, hdT, h3⟩ := R
  exact ⟨fun b o q => k b o (f1 b o q), f2, f3.of_keeps fun b o q _ => ⟨o, k b o q, rfl⟩, oe, ws, T, oT, ts, k _ _ he, hz, hd, h1, hn, hne, k _ _ hT, hdT, h3⟩
section
variable {X : Cx} {pins : List (Addr × Obj)} {σ : L2.St} {H : Hp} {s : Shared}
theorem Inv_track {a : Addr} {cls : Value} {d : Option Addr} {oe : Obj} {vs : Array Value} (I : Inv X pins σ H s) (h0 : X.s_0.heap.get? a = none) (na : H a = none) (he : s.heap.get? a = some oe) (hz : Zc cls d oe) (hd : oe.data = .fields vs) (nL : a ≠ X.env.locals) (nP : ∀ p ∈ X.pn ++ pins, p.1 ≠ a) :
    Inv X pins σ (upd H a (ExV cls d a)) s := by
  have nS : ∀ b u, H b = some u → b ≠ a := fun b u e => ne_of_none e na
  refine ⟨I.ok, I.os, I.bare, ⟨I.base.keep, I.base.slot, fun b o e n hx => ?_, I.base.there, fun b xs e => ?_, fun b o u e => ?_, fun b ps e => ?_⟩, I.loc, I.cell, ?_, fun x c e => ?_, fun p hp => ?_, fun b u e => ?_, I.len⟩
  · rw [upd_ne (fun z => by rw [z, h0] at e; cases e)]
    exact I.base.free b o e n hx
  · have q := I.base.tups b xs e
    rw [upd_ne (nS _ _ q)]
    exact q
  · have q := I.base.frzs b o u e
    rw [upd_ne (nS _ _ q)]
    exact q
  · obtain ⟨m, q⟩ := I.base.tbls b ps e
    exact ⟨m, by rw [upd_ne (nS _ _ q)]; exact q⟩
  · rw [upd_ne (Ne.symm nL)]
    exact I.free
  · obtain ⟨v, o, ho, hdc⟩ := I.cell x c e
    rw [upd_ne (fun z => by
      rw [z, he] at ho
      cases ho
      rw [hd] at hdc
      cases hdc)]
    exact I.freeC x c e
  · obtain ⟨e, n, ne, nf, dd⟩ := I.pin p hp
    exact ⟨e, by rw [upd_ne (nP p hp)]; exact n, ne, nf, dd⟩
  · by_cases hb : b = a
    · subst hb
      rw [upd_same] at e
      cases e
      exact exV_ok he hz hd
    · rw [upd_ne hb] at e
      exact (I.hok b u e).stay (fun c v _ q => q) (fun c q => by rw [upd_ne (nS _ _ q)]; exact q) fun c xs q => by rw [upd_ne (nS _ _ q)]; exact q
theorem Inv_suite0 {a : Addr} (I : Inv X pins σ H s) : Inv (X.suite a (X.pn ++ pins)) [] σ H s :=
  ⟨I.ok.suite _ _, I.os, I.bare, I.base, I.loc, I.cell, I.free, I.freeC, fun p hp => I.pin p (by rw [List.append_nil] at hp; exact hp), I.hok, I.len⟩
theorem Inv_unsuite0 {a : Addr} {pn' : List (Addr × Obj)} (I : Inv (X.suite a (X.pn ++ pins)) pn' σ H s) (ok : X.Ok) : Inv X pins σ H s :=
  ⟨ok, I.os, I.bare, I.base, I.loc, I.cell, I.free, I.freeC, fun p hp => I.pin p (List.mem_append_left _ hp), I.hok, I.len⟩
end
/-- the ends of a suite whose name's slot i is emptied behind it -/
def endsAs (i : Nat) (D : Ends) : Ends := { nx := fun σ' H' => D.nx (σ'.set i none) H', rt := D.rt, bk := fun σ' H' => D.bk (σ'.set i none) H', ct := fun σ' H' => D.ct (σ'.set i none) H' }
/-- what the clauses wish: each has its classes, its name's slot, its suite -/
def wKeep (K : PySem.W.Frag) (D : Ends) : List (List Value × Nat × (Addr → Value → Option Addr → TS)) → WX
  | [] => fun _ _ _ _ => False
  | (cs, i, ts) :: r => fun cls d σ H => ∃ b, PySem.W.exmAny K cls cs = some b ∧ (b = true → ∀ a, H a = none → ts a cls d (endsAs i D) (σ.set i (some (.ref a))) (upd H a (ExV cls d a))) ∧ (b = false → wKeep K D r cls d σ H)
inductive HdK (X : Cx) : List ExceptHandler → List (List Value × Nat × (Addr → Value → Option Addr → TS)) → Prop
  | nil : HdK X [] []
  | cons {t : Expr} {n : Str} {i : Nat} {cs : List Value} {ts : Addr → Value → Option Addr → TS} {b₀ : Stmt} {suite : List Stmt} {pos' : Pos} {hds : List ExceptHandler} {l : List (List Value × Nat × (Addr → Value → Option Addr → TS))}
      (ht : ∀ cls b, PySem.W.exmAny X.K cls cs = some b → Tst X t cls b) (hi : X.N[i]? = some n) (hln : X.env.kindOf n = some .local)
      (hsu : ∀ (a : Addr) (cls : Value) (d : Option Addr) (pn : List (Addr × Obj)), PSs (X.suite a pn) (b₀ :: suite) (ts a cls d)) (r : HdK X hds l) :
      HdK X (.ExceptHandler (some t) (some n) (b₀ :: suite) pos' :: hds) ((cs, i, ts) :: l)
section
variable {X : Cx} {body : List Stmt} {h₀ : ExceptHandler} {hds : List ExceptHandler} {l : List (List Value × Nat × (Addr → Value → Option Addr → TS))} {pos : Pos} {tb : WX → TS}
theorem ps_try_keep (hs : X.stack = X.env :: X.outer) (hf : X.env.frame = some X.env.locals) (hex : X.ex = []) (hN : X.N.Nodup)
    (hb : ∀ (W : WX) (pn : List (Addr × Obj)) (xe : Value → Shared → Prop), Takes (X.tr pn xe) W → PassesOwn (model X.prog X.w) X.A X.env xe → PSs (X.tr pn xe) body (tb W))
    (hh : HdK X (h₀ :: hds) l) : PS X (.Try body (h₀ :: hds) [] [] pos) (fun D σ H => tb (fun cls d σ' H' => σ'.length = X.N.length → wKeep X.K D l cls d σ' H') D σ H) := by
  refine ⟨fun pins s σ H D I h => ?_⟩
  have ok := I.ok
  have hfr : X.A.frames = some (X.env :: X.outer) := by rw [ok.frames, hs]
  refine wpAny_Try_except ?_
  refine wpAny_mono ((hb (fun cls d σ' H' => σ'.length = X.N.length → wKeep X.K D l cls d σ' H') (X.pn ++ pins) (fun e s₁ => wpAny (model X.prog X.w) X.A (noteFrame e X.env) (fun _ s₂ => wpAny (model X.prog X.w) X.A (setFlight e none) (fun _ s₃ =>
    wpAny (model X.prog X.w) X.A (handleBy e X.env (h₀ :: hds)) (SP X pins D) X.xe s₃) X.xe s₂) X.xe s₁) (fun u s' xx => ?_) PassesOwn.looking).run [] s σ H D (I.toTry _) h) (fun f s1 hsp => ?_) (fun e s1 he => he)
  · obtain ⟨a, B, sI, pins', σ', H', cls, d, rfl, J', nb, up, sky, na, os, ag, w⟩ := xx
    have J : Inv X pins σ' H' sI := J'.ofTry ok
    have sky' : Sky B (X.env :: X.outer) a (Zc cls d) X.env.locals s'.heap := by rw [← hs]; exact sky
    show wpAny (model X.prog X.w) X.A (noteFrame (.ref a) X.env) _ _ _
    refine Sky.land Zc.steady hfr hf sky' fun h3 fl3 up3 => ?_
    have notFr : ∀ {h : Heap} {o : Obj} {vs : Array Value}, h.FunFrames B (X.env :: X.outer) → h.get? a = some o → o.data = .fields vs → a ∉ frs (X.env :: X.outer) := fun {h o vs} ff e dd hm => by
      obtain ⟨_, o', e', hnf⟩ := ff.mem hm
      rw [e] at e'; cases e'
      exact hnf _ dd
    have nfr : a ∉ frs (X.env :: X.outer) := by
      obtain ⟨oe3, vs3, he3, hz3, hd3⟩ := fl3.there
      exact notFr fl3.2.2.1 he3 hd3
    have nL : a ≠ X.env.locals := fun z => nfr (List.mem_filterMap.mpr ⟨X.env, List.mem_cons_self, by rw [hf, z]⟩)
    have nF : a ∉ X.fs := fun hm => by
      obtain ⟨e, he, q⟩ := List.mem_filterMap.mp hm
      exact nfr (List.mem_filterMap.mpr ⟨e, List.mem_cons_of_mem _ he, q⟩)
    have nI : sI.heap.get? a = none := by
      cases e : sI.heap.get? a with
      | none => rfl
      | some o =>
        have z := nb a o e (by rw [hs]; exact nfr)
        rw [fl3.2.1] at z
        cases z
    have n0 : X.s_0.heap.get? a = none := by
      cases e : X.s_0.heap.get? a with
      | none => rfl
      | some o =>
        obtain ⟨o', z⟩ := J.base.there a o e (by rw [hex]; exact fun z => nomatch z)
        rw [nI] at z
        cases z
    have nP : ∀ p ∈ X.pn ++ pins, p.1 ≠ a := fun p hp z => by
      obtain ⟨e, _⟩ := J.pin p hp
      rw [z, nI] at e
      cases e
    have go : ∀ {hds' : List ExceptHandler} {l' : List (List Value × Nat × (Addr → Value → Option Addr → TS))}, HdK X hds' l' → wKeep X.K D l' cls d σ' H' → ∀ h3 : Heap, HandSPX.FlyingZ B (X.env :: X.outer) a (Zc cls d) h3 → sI.heap.UpToSlots h3 →
        wpAny (model X.prog X.w) X.A (handleBy (.ref a) X.env hds') (SP X pins D) X.xe { s' with heap := h3 } := by
      intro hds' l' hk
      induction hk with
      | nil =>
        intro w
        exact w.elim
      | @cons t n i cs ts b₀ suite pos' hds2 l2 ht hi hln hsu r ih =>
        intro w h3 fl3 up3
        obtain ⟨b, hb1, hyes, hno⟩ := w
        have J3 : Inv X pins σ' H' { s' with heap := h3 } := J.landed nb fl3.1 up3 os ag
        obtain ⟨oe3, vs3, he3, hz3, hd3⟩ := fl3.there
        have S3 := J3.suite he3 hd3 na nL nF
        refine wpAny_handleBy_cons (codeAny_handlers_test (ht cls b hb1 a oe3 _ _ _ _ _ _ S3 hz3.1 fun h4 kp => ?_)) (by intro q; cases q)
        have fl4 := flyZ_keeps fl3 kp
        have up4 : sI.heap.UpToSlots h4 := up3.trans (Heap.UpToSlots.of_keeps kp)
        cases b with
        | true =>
          refine codeAny_handlers_suite_as ?_
          refine HandSPX.lands_againZ (s := { s' with heap := h4 }) fl4 fun h5 fl5 up5 => ?_
          have J5 : Inv X pins σ' H' { s' with heap := h5 } := J.landed nb fl5.1 (up4.trans up5) os ag
          obtain ⟨oe5, vs5, he5, hz5, hd5⟩ := fl5.there
          have K5 : Inv X pins σ' (upd H' a (ExV cls d a)) { s' with heap := h5 } := Inv_track J5 n0 na he5 hz5 hd5 nL nP
          have S5 : Inv (X.suite a (X.pn ++ pins)) [] σ' (upd H' a (ExV cls d a)) { s' with heap := h5 } := Inv_suite0 K5
          refine store_ok (X := X.suite a (X.pn ++ pins)) (v := .ref a) S5 hN hi (.inl hln) rfl (fun s6 S6 => ?_) (.inr hln)
          refine wpAny_mono ((hsu a cls d (X.pn ++ pins)).run [] s6 _ _ _ S6 (hyes rfl a na)) (fun f s7 hsp => ?_) (fun _ _ z => False.elim z)
          have end_ : ∀ {σ6 : L2.St} {H6 : Hp} {Q : Shared → Prop}, Inv (X.suite a (X.pn ++ pins)) [] σ6 H6 s7 → (∀ s8, Inv X pins (σ6.set i none) H6 s8 → Q s8) →
              wpAny (model X.prog X.w) X.A (do bindName X.env n .none; unbindBehindTheSuite X.env n pos') (fun _ s8 => Q s8) X.xe s7 := fun {σ6 H6 Q} S6 hq => gone_ok (Inv_unsuite0 S6 ok) hN hi hln hq
          cases f with
          | next =>
            obtain ⟨σ6, H6, S6, q6⟩ := hsp
            exact end_ S6 fun s7 J7 => ⟨_, _, J7, q6⟩
          | brk =>
            obtain ⟨σ6, H6, S6, q6⟩ := hsp
            exact end_ S6 fun s7 J7 => ⟨_, _, J7, q6⟩
          | cont =>
            obtain ⟨σ6, H6, S6, q6⟩ := hsp
            exact end_ S6 fun s7 J7 => ⟨_, _, J7, q6⟩
          | ret u =>
            obtain ⟨v6, σ6, H6, S6, r6, q6⟩ := hsp
            exact end_ S6 fun s7 J7 => ⟨_, _, _, J7, r6, q6⟩
        | false =>
          show wpAny _ X.A (handleBy (.ref a) X.env hds2) _ _ _
          exact ih (hno rfl) h4 fl4 up4
    exact go hh (w J.len) h3 fl3 (up.trans up3)
  · cases f with
    | next =>
      obtain ⟨σ', H', J', q⟩ := hsp
      exact wpAny_execs_nil ⟨σ', H', J'.ofTry ok, q⟩
    | brk =>
      obtain ⟨σ', H', J', q⟩ := hsp
      exact ⟨σ', H', J'.ofTry ok, q⟩
    | cont =>
      obtain ⟨σ', H', J', q⟩ := hsp
      exact ⟨σ', H', J'.ofTry ok, q⟩
    | ret u =>
      obtain ⟨v, σ', H', J', r, q⟩ := hsp
      exact ⟨v, σ', H', J'.ofTry ok, r, q⟩
end
/-! ### isinstance of it -/
section
variable {X : Cx}
/-- isinstance(e, c), e a kept exception of an own class without fields -/
def rIsV (K : PySem.W.Frag) : List V → Hp → VK → Prop := fun xs H Q => ∃ (a D : Addr) (c : V) (cv : Value) (b : Bool), xs = [.ref a, c] ∧ H a = some (ExV (.ref D) none a) ∧ ExcC K D ∧ (∀ u, RelV c u → u = cv) ∧ PySem.W.kitOne K (.ref D) cv = some b ∧ Q (.bl b) H
theorem inst_of {pins : List (Addr × Obj)} {σ : L2.St} {H : Hp} {s : Shared} {a D : Addr} (I : Inv X pins σ H s) (h : H a = some (ExV (.ref D) none a)) : ∃ oe, PySem.W.InstAt s.heap a oe D none := by
  obtain ⟨⟨oe, vs, hget, hz, hv⟩, _, _⟩ := I.hok a _ h
  refine ⟨oe, ?_⟩
  obtain ⟨oc, od, oda, osl⟩ := oe
  obtain ⟨h1, h2⟩ := hz
  dsimp only at h1 h2 hv
  subst h1 h2 hv
  exact ⟨hget, rfl, rfl, trivial⟩
theorem call_isV : CallR X (.builtin "isinstance") (rIsV X.K) := by
  intro pins s σ H xs us Q I r h
  obtain ⟨a, D, c, cv, b, rfl, hH, C, hcv, e, q⟩ := h
  cases r with
  | cons rx rr =>
    cases rr with
    | cons rt rr =>
      cases rr
      cases rx
      have ec := hcv _ rt
      subst ec
      obtain ⟨oe, J⟩ := inst_of I hH
      exact PySem.W.kia_one (PySem.W.handS_kitx_exc C.hg C.hk C.hs C.hd C.ha C.hn C.ht C.hm) I.kIn J e (fun z => nomatch z) fun tk => ⟨.bl b, H, I.kept (t' := tk) fun _ _ z => z, rfl, q⟩
/-- xs.count(y), flat items -/
def rCount (K : PySem.W.Frag) : V → List V → Hp → VK → Prop := fun x xs H Q => ∃ (a : Addr) (ys : List V) (y : V), x = V.ref a ∧ xs = [y] ∧ SqL K H a ys ∧ flatV y = true ∧ ys.all flatV = true ∧ Q (.int ((ys.countP fun z => eqV z y : Nat) : Int)) H
theorem count_eqU {y : V} : ∀ {xs : List V} {us : List Value}, Vals xs us → xs.all flatV = true → us.countP (eqU y) = xs.countP fun z => eqV z y
  | _, _, .nil, _ => rfl
  | x :: xs, u :: us, .cons r t, f => by
    rw [List.all_cons, Bool.and_eq_true] at f
    rw [List.countP_cons, List.countP_cons, eqU_of r f.1, count_eqU t f.2]
theorem mt_count : MtR X "list.count" (rCount X.K) := by
  intro pins s σ H x xs v us Q I rx rxs h
  obtain ⟨a, ys, y, rfl, rfl, hs, fy, fys, q⟩ := h
  cases rx
  cases rxs with
  | cons ry rt =>
    rename_i uy ut
    cases rt
    obtain ⟨its, rv, ⟨⟨cls, dd, data, sl⟩, n, ho, hc, hdn, hd⟩, hlen⟩ := I.list hs
    simp only at hc hd
    subst hc hd
    refine call_meets PySem.F.slot_list_count ⟨_, ho, rfl⟩ PySem.F.entry_list_count (PySem.F.args_list_count_2 _ _)
      (SeqAt.list_countAt a its.toArray n dd sl uy (eqU y)) ⟨ho, fun u' hu' => mem_eqAt ry fy rv fys u' (by simpa using hu'), ?_⟩
    have ec : its.toArray.toList.countP (eqU y) = ys.countP fun z => eqV z y := count_eqU rv fys
    refine ⟨.int ((ys.countP fun z => eqV z y : Nat) : Int), H, I.tok _, ⟨s.toks, ?_⟩, q⟩
    rw [ec]
end
end TCX
/-! Defs that ask repr of lists and tuples: the guards of the calls around are told. -/
namespace TCX
open PySem PySem.Spec PyProof.Rows L2
/-- FnOk where no repr is under way -/
structure FnG (P : Program) (w : World) (K : PySem.W.Frag) (mg : Str → Option Value) (base : Heap) (CX : CXT) (k : Nat) (f : Addr) (fd : FuncData) (ps : List Str) (sp : Sp) : Prop where
  glen : ∀ vs H Q E, sp vs H Q E → vs.length = ps.length
  grun : ∀ (A : Around) (outer : List Env) (s : Shared) (H : Hp) (args : Args) (us : List Value) (vs : List V) (Q : VK) (E : XK), A.guards = some [] → Room k A → Env0 P w K mg base A outer s H → BindsTo s fd args (ps.zip us) → Vals vs us → sp vs H Q E →
    codeAny (model P w) A (.call (.ref f) args) (CR CX outer P w H s Q E) s
section
variable {P : Program} {w : World} {K : PySem.W.Frag} {mg : Str → Option Value} {base : Heap} {x qual : Str} {params : Arguments} {body : List Stmt} {scope : Scope} {dvs : List V} {kws : List (Str × V)} {f : Addr} {fd : FuncData} {CX : CXT} {N ps : List Str} {k : Nat} {sp : Sp}
theorem okG (F : FunD K x qual params body scope dvs kws f fd) (S : FnScope N ps scope) (len : ∀ vs H Q E, sp vs H Q E → vs.length = ps.length)
    (hbody : ∀ (cdv : Value) (A : Around) (outer : List Env) (s : Shared) (H : Hp) (vs : List V) (Q : VK) (E : XK), A.guards = some [] → Room k (A.deeper (envOfC qual scope s.heap.objs.size f cdv)) → sp vs H Q E →
      ∃ t, PSs (cxOf CX P w K mg base N qual scope f cdv A outer s H E) body t ∧ t { nx := fun _ H' => Q .non H', rt := Q } (L2.start N vs) H) : FnG P w K mg base CX (k + 1) f fd ps sp := by
  obtain ⟨oc, od, dV, kV, doc, pm, an, cdv, ct, osl, rfl, lk, hcd, _, _⟩ := F.ex
  exact ⟨len, fun A outer s H args us vs Q E hg hr e0 hb r hsp => LamX.run_ofS lk hcd S hr e0 hb r (len _ _ _ _ hsp) fun hr' => hbody cdv A outer s H vs Q E hg hr' hsp⟩
end
section
variable {X : Cx} {CX : CXT} {k : Nat} {f : Addr} {fd : FuncData} {ps : List Str} {sp : Sp} {E : XK} {x : Str} {p pos : Pos} {e : Expr} {es : List Expr} {t : TA} {dvs : List V} {ds : List Value}
/-- f(e, ..) of such a def -/
theorem pe_callG (F : FnG X.prog X.w X.K X.mg X.base CX k f fd ps sp) (hG : X.A.guards = some []) (hr : Room k X.A) (hg : Gl X x) (hm : X.mg x = some (.ref f)) (hk : PySem.W.keepIn X.K (.ref f) = true) (hb : L2.Binds X.K fd ps ds) (hd : Vals dvs ds) (hx : Passes CX X E)
    (ha : PA X (e :: es) t) (hdb : (x == ("__debug__" : Str)) = false := by decide) (he : starEach (e :: es) X.env = (false, eval e X.env) :: starEach es X.env := by rfl) (hpl : (backTo pos (starEach es X.env)).any (·.1) = false := by rfl) :
    PE X (.Call (.Name x p) (e :: es) [] pos) (tCall sp dvs E t) := by
  refine ⟨fun pins s σ H Q I h => wpAny_Call_Name_kw (ld_glob I hg hm ?_ hdb)⟩
  refine PySem.W.callWith_K (h₀ := X.base) I.ok.mod.kin hk (thn (ha.run pos pins s σ H _ I h) fun us s1 z => ?_) he hpl
  obtain ⟨vs, H1, I1, r, q⟩ := z
  refine ⟨I1.kIn, wpAny_call (codeAny_mono (F.grun X.A X.stack s1 H1 ⟨us, []⟩ (us ++ ds) (vs ++ dvs) Q E hG hr I1.env0 (hb s1 us I1.kIn ?_) (r.append hd) q) fun y s' hq => ?_)⟩
  · rw [← (r.append hd).length]
    exact F.glen _ _ _ _ q
  · match y, hq with
    | .error u, hq => exact hx pins σ H1 s1 u s' I1 hq
    | .ok (.ret u), hq => exact I1.after hq
    | .ok .next, hq => exact False.elim hq
    | .ok .brk, hq => exact False.elim hq
    | .ok .cont, hq => exact False.elim hq
/-- repr(x) of lists and tuples of data -/
theorem call_reprD (hG : X.A.guards = some []) (hu : X.A.units + 64 < cLine) : CallR X (.builtin "repr") (fun xs H Q => ∃ (a : Addr) (d : PyData), xs = [.ref a] ∧ Dp X.K H (.ref a) d ∧ d.showable = true ∧ d.hasDict = false ∧ d.depth ≤ 60 ∧ d.shown.length ≤ sizeLine ∧ Q (.str d.shown) H) := by
  intro pins s σ H xs us Q I r h
  obtain ⟨a, d, rfl, hd, hs, hn, hdp, hz, q⟩ := h
  rw [Vals.ref1 r]
  obtain ⟨as, hr⟩ := Dp.reads I d (.ref a) (.ref a) hd rfl
  exact repr_of_reads' hr hs (fun z => by rw [hn] at z; cases z) hG (by omega) (fun _ _ z => z) (fun h' u tk hk => ⟨.str d.shown, H, I.kept (t' := tk) hk, ⟨u, rfl⟩, q⟩) hz
theorem call_reprB : CallR X (.builtin "repr") (fun xs H Q => ∃ b : Bool, xs = [.bl b] ∧ Q (.str (if b then "True" else "False")) H) := by
  intro pins s σ H xs us Q I r h
  obtain ⟨b, rfl, q⟩ := h
  obtain ⟨u, rfl, rfl⟩ := vals1 r
  exact P.repr_of_bool ⟨.str (if b then "True" else "False"), H, I.tok _, ⟨_, rfl⟩, q⟩
end
/-! ### list(range(a, b, 2)) -/
theorem size2 {a b : Int} {n : Nat} (h : a < b) (hn : (b - a - 1) / 2 + 1 = n) : Builtin.Range.rangeSize a b 2 = n := by
  unfold Builtin.Range.rangeSize
  rw [if_pos (by decide), if_pos h, hn]
theorem size2_0 {a b : Int} (h : ¬ a < b) : Builtin.Range.rangeSize a b 2 = (0 : Nat) := by
  unfold Builtin.Range.rangeSize
  rw [if_pos (by decide), if_neg h]
  rfl
theorem small2 {a b : Int} (ha : -100000 ≤ a) (ha' : a < 100000) (hb : -100000 ≤ b) (hb' : b < 100000) : Builtin.Range.small a b 2 = true := by
  unfold Builtin.Range.small
  by_cases h : a < b
  · rw [size2 (n := ((b - a - 1) / 2 + 1).toNat) h (by omega)]
    simp only [Builtin.Range.rangeFitsLong, Bool.and_eq_true, Bool.or_eq_true, decide_eq_true_eq, beq_iff_eq, show (2 : Int) > 0 by decide, if_true]
    omega
  · rw [size2_0 h]
    simp only [Builtin.Range.rangeFitsLong, Bool.and_eq_true, Bool.or_eq_true, decide_eq_true_eq, beq_iff_eq, show (2 : Int) > 0 by decide, if_true]
    omega
/-- a, a + 2, .. : n of them -/
def upV (a : Int) (n : Nat) : List V := (List.range n).map fun i => V.int (a + (i : Nat) * 2)
theorem upV_length (a : Int) (n : Nat) : (upV a n).length = n := by rw [upV, List.length_map, List.length_range]
section
variable {X : Cx} {a b : Expr} {ta : TA}
def tLst2 (ta : TA) : TE := fun σ H Q => ta σ H fun vs H1 => ∃ (i j : Int) (n : Nat), vs = [.int i, .int j, .int 2] ∧ -100000 ≤ i ∧ i < 100000 ∧ -100000 ≤ j ∧ j < 100000 ∧ Builtin.Range.rangeSize i j 2 = n ∧ ∀ q, H1 q = none → Q (.ref q) (upd H1 q (.lst (upV i n)))
theorem pe_list2 {c : Expr} {p pos p2 pos2 : Pos} (hc : X.calm = true) (hgl : Gl X "list") (hml : X.mg "list" = none) (hgr : Gl X "range") (hmr : X.mg "range" = none) (ha : PA X [a, b, c] ta)
    (hs : starEach [a, b, c] X.env = (false, eval a X.env) :: starEach [b, c] X.env := by rfl) (hpl : (backTo pos2 (starEach [b, c] X.env)).any (·.1) = false := by rfl)
    (hs2 : starEach [Expr.Call (.Name "range" p2) [a, b, c] [] pos2] X.env = (false, eval (.Call (.Name "range" p2) [a, b, c] [] pos2) X.env) :: starEach [] X.env := by rfl) :
    PE X (.Call (.Name "list" p) [.Call (.Name "range" p2) [a, b, c] [] pos2] [] pos) (tLst2 ta) := by
  refine ⟨fun pins s σ H Q I h => ?_⟩
  refine Call_ (ld_blt I hgl hml boot_list (PyProof.Rows.callWith_type1 (args_cons ?_ hs2) hs2))
  refine Call_ (ld_blt I hgr hmr boot_range (PyProof.Rows.callWith_type1 (thn (ha.run pos2 pins s σ H _ I h) fun us s1 z => ?_) hs hpl))
  obtain ⟨vs, H1, I1, r1, i, j, n, rfl, i1, i2, j1, j2, hn, q⟩ := z
  match us, r1 with
  | [_, _, _], .cons ⟨t, rfl⟩ (.cons ⟨t', rfl⟩ (.cons ⟨t'', rfl⟩ .nil)) =>
    refine call_range_3 (by decide) (args_nil ?_) (Or.inl (PyProof.noPylong_of_log2 (by decide +kernel)))
    have I2 : Inv X pins σ H1 { s1 with heap := s1.heap.push { cls := .type "range", data := .fields #[.int i t, .int j t', .int 2 t''] } } := I1.kept (t' := s1.toks) fun b u e => Heap.get?_push_of_some _ e
    have nle : n ≤ 2 ^ 24 := by
      unfold Builtin.Range.rangeSize at hn
      rw [if_pos (by decide)] at hn
      by_cases z : i < j
      · rw [if_pos z] at hn
        omega
      · rw [if_neg z] at hn
        omega
    refine call_list_range (n := n) (I2.ok.hd hc) (IsRange.new _ _ _ _ _ _ _) (small2 i1 i2 j1 j2) hn nle fun h' tk acc c' hk e' hi => ?_
    have hv : Vals (upV i n) acc.toList := by
      have e : acc.toList.length = n := by rw [Array.length_toList]; exact hi.1
      rw [upV, ← e]
      refine vals_of_get acc.toList _ fun k u hj => ?_
      obtain ⟨y, rfl⟩ := hi.2 k u (by rw [← hj, Array.getElem?_toList])
      exact ⟨y, rfl⟩
    refine ⟨.ref _, upd H1 _ (.lst (upV i n)), I2.laid hk (Nat.le_refl _) (show ObjOk X.prog X.w _ _ _ (.lst (upV i n)) from ⟨?_, acc.toList, c', hv, ?_⟩), rfl, q _ (I2.hok.fresh (Nat.le_refl _))⟩
    · rw [upV_length, sizeLine_eq]
      omega
    · rw [Array.toArray_toList]
      exact e'
end
end TCX
/-! What the head tells of the program's exception classes. -/
namespace TCX
open PySem PySem.Spec PyProof.Rows L2
/-- what isinstance asks of the class at D -/
def excB (K : PySem.W.Frag) (D : Addr) : Bool :=
  He.eqO (PySem.W.findIn K (.ref D) "__getattribute__") (some (some (.builtin "BaseException.__getattribute__"))) && (He.eqO (PySem.W.findIn K (.ref D) "__getattr__") (some none) && (decide (PySem.W.subIn K (.ref D) (.type "BaseException") = some true) &&
    (PySem.W.hasDictIn K D && (He.eqO (PySem.W.findIn K (.ref D) "__class__") (some (some (.builtin "object.__class__"))) && (He.eqO (PySem.W.specialIn K (.builtin "object.__class__") "__get__") (some (some (.builtin "getset_descriptor.__get__"))) &&
      (decide (PySem.W.takesIn K (.builtin "object.__class__") = some true) && decide (PySem.W.mroIn K D (.type "object") = some true)))))))
theorem excB_ok {K : PySem.W.Frag} {D : Addr} (h : excB K D = true) : ExcC K D := by
  obtain ⟨h1, h⟩ := He.ba h
  obtain ⟨h2, h⟩ := He.ba h
  obtain ⟨h3, h⟩ := He.ba h
  obtain ⟨h4, h⟩ := He.ba h
  obtain ⟨h5, h⟩ := He.ba h
  obtain ⟨h6, h⟩ := He.ba h
  obtain ⟨h7, h8⟩ := He.ba h
  exact ⟨He.eqO_ok h1, He.eqO_ok h2, of_decide_eq_true h3, h4, He.eqO_ok h5, He.eqO_ok h6, of_decide_eq_true h7, of_decide_eq_true h8⟩
/-- the classes in the order in which _law_word asks for them -/
def clsN : List Str := (["Empty", "NoDeed", "NoHalf", "NoLinking", "NoNet", "NoNumber", "NoOffset", "NoQuestion", "NoRow", "NoSize", "NoStanding"] : List Str) ++ (["NoTable", "NoText", "NotParted", "NoTree", "NoTriple", "NoWay", "TooWide", "ByNought", "NoName", "NoPlace", "NothingDone"] : List Str)
def words : List Str := (["empty", "deed", "half", "linking", "net", "number", "offset", "question", "row", "size", "standing"] : List Str) ++ (["table", "text", "parted", "tree", "triple", "way", "wide", "nought", "name", "place", "done"] : List Str)
/-- of the 22 classes the at-th one alone is D's -/
def Kits (K : PySem.W.Frag) (D : Addr) (at_ : Nat) : Prop := clsN.map (fun x => PySem.W.kitOne K (.ref D) (.ref (He.ga K x))) = (List.range 22).map fun i => some (i == at_)
instance {K : PySem.W.Frag} {D : Addr} {n : Nat} : Decidable (Kits K D n) := inferInstanceAs (Decidable (_ = _))
theorem Kits.at {K : PySem.W.Frag} {D : Addr} {n : Nat} (h : Kits K D n) (i : Nat) {x : Str} (hx : clsN[i]? = some x) : PySem.W.kitOne K (.ref D) (.ref (He.ga K x)) = some (i == n) := by
  have e := congrArg (fun l : List (Option Bool) => l[i]?) h
  have hi : i < 22 := by
    obtain ⟨z, _⟩ := List.getElem?_eq_some_iff.mp hx
    exact Nat.lt_of_lt_of_eq z rfl
  simp only [List.getElem?_map, hx, Option.map_some] at e
  rw [List.getElem?_range hi] at e
  exact Option.some.inj e
structure Kind (K : PySem.W.Frag) (D : Addr) (n : Nat) : Prop where
  ec : ExcC K D
  kits : Kits K D n
  te : PySem.W.kitOne K (.ref D) (.ref (He.ga K "TurnError")) = some (decide (n < 18))
  ve : PySem.W.kitOne K (.ref D) (.type "ValueError") = some (decide (n < 18))
def excAll (K : PySem.W.Frag) (x : Str) (n : Nat) : Bool := excB K (He.ga K x) && (decide (Kits K (He.ga K x) n) && (decide (PySem.W.kitOne K (.ref (He.ga K x)) (.ref (He.ga K "TurnError")) = some (decide (n < 18))) && (decide (PySem.W.kitOne K (.ref (He.ga K x)) (.type "ValueError") = some (decide (n < 18))) &&
  decide (PySem.W.exmAny K (.ref (He.ga K x)) [.ref (He.ga K "TurnError")] = some (decide (n < 18))))))
theorem excAll_ok {K : PySem.W.Frag} {x : Str} {n : Nat} (h : excAll K x n = true) : Kind K (He.ga K x) n ∧ PySem.W.exmAny K (.ref (He.ga K x)) [.ref (He.ga K "TurnError")] = some (decide (n < 18)) := by
  obtain ⟨h1, h⟩ := He.ba h
  obtain ⟨h2, h⟩ := He.ba h
  obtain ⟨h3, h⟩ := He.ba h
  obtain ⟨h4, h5⟩ := He.ba h
  exact ⟨⟨excB_ok h1, of_decide_eq_true h2, of_decide_eq_true h3, of_decide_eq_true h4⟩, of_decide_eq_true h5⟩
/-- as Kind, of all the classes -/
structure KindF (K : PySem.W.Frag) (D : Addr) (n : Nat) : Prop where
  ec : ExcC K D
  kits : Kits K D n
  te : PySem.W.kitOne K (.ref D) (.ref (He.ga K "TurnError")) = some (decide (n < 18))
  ve : PySem.W.kitOne K (.ref D) (.type "ValueError") = some (decide (n < 18))
  kz : PySem.W.kitOne K (.ref D) (.type "ZeroDivisionError") = some (n == 18)
  ky : PySem.W.kitOne K (.ref D) (.type "KeyError") = some (n == 19)
  ki : PySem.W.kitOne K (.ref D) (.type "IndexError") = some (n == 20)
  kl : PySem.W.kitOne K (.ref D) (.type "LookupError") = some (decide (19 ≤ n))
  kt : PySem.W.kitAny K (.ref D) [.type "KeyError", .type "IndexError"] = some (n == 19 || n == 20)
  x5 : PySem.W.exmAny K (.ref D) [.ref (He.ga K "TurnError"), .ref (He.ga K "ByNought"), .ref (He.ga K "NoName"), .ref (He.ga K "NoPlace"), .ref (He.ga K "NothingDone")] = some true
def excAllF (K : PySem.W.Frag) (x : Str) (n : Nat) : Bool := excB K (He.ga K x) && (decide (Kits K (He.ga K x) n) && (decide (PySem.W.kitOne K (.ref (He.ga K x)) (.ref (He.ga K "TurnError")) = some (decide (n < 18))) && (decide (PySem.W.kitOne K (.ref (He.ga K x)) (.type "ValueError") = some (decide (n < 18))) &&
  (decide (PySem.W.kitOne K (.ref (He.ga K x)) (.type "ZeroDivisionError") = some (n == 18)) && (decide (PySem.W.kitOne K (.ref (He.ga K x)) (.type "KeyError") = some (n == 19)) && (decide (PySem.W.kitOne K (.ref (He.ga K x)) (.type "IndexError") = some (n == 20)) && (decide (PySem.W.kitOne K (.ref (He.ga K x)) (.type "LookupError") = some (decide (19 ≤ n))) &&
  (decide (PySem.W.kitAny K (.ref (He.ga K x)) [.type "KeyError", .type "IndexError"] = some (n == 19 || n == 20)) && decide (PySem.W.exmAny K (.ref (He.ga K x)) [.ref (He.ga K "TurnError"), .ref (He.ga K "ByNought"), .ref (He.ga K "NoName"), .ref (He.ga K "NoPlace"), .ref (He.ga K "NothingDone")] = some true)))))))))
theorem excAllF_ok {K : PySem.W.Frag} {x : Str} {n : Nat} (h : excAllF K x n = true) : KindF K (He.ga K x) n := by
  obtain ⟨h1, h⟩ := He.ba h
  obtain ⟨h2, h⟩ := He.ba h
  obtain ⟨h3, h⟩ := He.ba h
  obtain ⟨h4, h⟩ := He.ba h
  obtain ⟨h5, h⟩ := He.ba h
  obtain ⟨h6, h⟩ := He.ba h
  obtain ⟨h7, h⟩ := He.ba h
  obtain ⟨h8, h⟩ := He.ba h
  obtain ⟨h9, ha⟩ := He.ba h
  exact ⟨excB_ok h1, of_decide_eq_true h2, of_decide_eq_true h3, of_decide_eq_true h4, of_decide_eq_true h5, of_decide_eq_true h6, of_decide_eq_true h7, of_decide_eq_true h8, of_decide_eq_true h9, of_decide_eq_true ha⟩
/-- an own class over ZeroDivisionError -/
def zBase : List Value := [.type "ZeroDivisionError", .type "ArithmeticError", .type "Exception", .type "BaseException", .type "object"]
def excZ (K : PySem.W.Frag) (x : Str) : Bool := PySem.W.excIn K (He.ga K x) zBase "ZeroDivisionError.__new__" && (PySem.W.keepIn K (.ref (He.ga K x)) && (decide (PySem.W.subIn K (.ref (He.ga K x)) (.type "BaseException") = some true) && decide (PySem.W.typeIn K (.ref (He.ga K x)) = some (.type "type"))))
theorem excZ_ok {K : PySem.W.Frag} {x : Str} (h : excZ K x = true) : PySem.W.excIn K (He.ga K x) zBase "ZeroDivisionError.__new__" = true ∧ PySem.W.keepIn K (.ref (He.ga K x)) = true ∧ PySem.W.subIn K (.ref (He.ga K x)) (.type "BaseException") = some true ∧ PySem.W.typeIn K (.ref (He.ga K x)) = some (.type "type") := by
  obtain ⟨h1, h⟩ := He.ba h
  obtain ⟨h2, h⟩ := He.ba h
  obtain ⟨h3, h4⟩ := He.ba h
  exact ⟨h1, h2, of_decide_eq_true h3, of_decide_eq_true h4⟩
end TCX
namespace TC
open PySem PySem.Spec PyProof.Rows L2
/-! the text by places -/
def top (i : Nat) : Stmt := PySem.Challenge.pw_turncouple_k30_threes_by_powers_refused.main.body.getD i (.Pass ⟨0, 0, 0, 0⟩)
abbrev sWhole : Stmt := top 28
abbrev sShared : Stmt := top 29
abbrev sLowest : Stmt := top 30
abbrev sSquares : Stmt := top 31
abbrev sOdd : Stmt := top 33
abbrev sBinom : Stmt := top 34
abbrev sPrimesF : Stmt := top 35
abbrev sTimes : Stmt := top 40
abbrev sRootF : Stmt := top 41
abbrev sNeed : Stmt := top 42
abbrev sOneBottom : Stmt := top 43
abbrev sLowered : Stmt := top 44
abbrev sProducts : Stmt := top 45
abbrev sIsSize : Stmt := top 50
abbrev sIsOffset : Stmt := top 51
abbrev sNeedSizes : Stmt := top 52
abbrev sNeedPairs : Stmt := top 53
abbrev sCanJoin : Stmt := top 54
abbrev sPowers : Stmt := top 57
abbrev sThreeByPowers : Stmt := top 58
abbrev sSignedBinomials : Stmt := top 59
abbrev sPen : Stmt := top 61
abbrev sDraw : Stmt := top 62
abbrev sWord : Stmt := top 63
abbrev sTold : Stmt := top 64
abbrev sLPair : Stmt := top 65
abbrev sLDue : Stmt := top 66
abbrev sLaw : Stmt := top 67
abbrev sExact : Stmt := top 39
abbrev sInit : Stmt := inClass (top 38) 0
abbrev sEq : Stmt := inClass (top 38) 1
abbrev sStr : Stmt := inClass (top 38) 2
abbrev sRepr : Stmt := inClass (top 38) 3
abbrev FnP (K : PySem.W.Frag) (x : Str) (st : Stmt) (f : Addr) (fd : FuncData) : Prop := FunD K x x (defArgs st) (defBody st) (defScope st) [] [] f fd
/-- the primes below 1000 -/
def primes : List Int := [2, 3, 5, 7, 11, 13, 17, 19, 23, 29, 31, 37, 41, 43, 47, 53, 59, 61, 67, 71, 73, 79, 83, 89, 97, 101, 103, 107, 109, 113, 127, 131, 137, 139, 149, 151, 157, 163, 167, 173, 179, 181, 191, 193, 197, 199, 211, 223, 227, 229, 233, 239, 241, 251, 257, 263, 269, 271, 277, 281, 283, 293, 307, 311, 313, 317, 331, 337, 347, 349, 353, 359, 367, 373, 379, 383, 389, 397, 401, 409, 419, 421, 431, 433, 439, 443, 449, 457, 461, 463, 467, 479, 487, 491, 499, 503, 509, 521, 523, 541, 547, 557, 563, 569, 571, 577, 587, 593, 599, 601, 607, 613, 617, 619, 631, 641, 643, 647, 653, 659, 661, 673, 677, 683, 691, 701, 709, 719, 727, 733, 739, 743, 751, 757, 761, 769, 773, 787, 797, 809, 811, 821, 823, 827, 829, 839, 853, 857, 859, 863, 877, 881, 883, 887, 907, 911, 919, 929, 937, 941, 947, 953, 967, 971, 977, 983, 991, 997]
/-! the head: facts by names -/
def dd (x : Str) (st : Stmt) : He.DefD := ⟨(x, none), x, x, defArgs st, defBody st, defScope st, [], []⟩
def dm (m q : Str) (st : Stmt) : He.DefD := ⟨("Exact", some m), m, q, defArgs st, defBody st, defScope st, [], []⟩
def dExact : He.DefD := ⟨("exact", none), "exact", "exact", defArgs sExact, defBody sExact, defScope sExact, [], [("bottom", .int 1), ("root", .int 1)]⟩
def fn : List He.DefD := ([dm "__init__" "Exact.__init__" sInit, dm "__eq__" "Exact.__eq__" sEq, dExact, dd "is_whole" sWhole, dd "shared" sShared, dd "in_lowest" sLowest, dd "squares_out" sSquares, dd "is_odd" sOdd, dd "binomials" sBinom, dd "primes_of_factorials" sPrimesF, dd "times" sTimes, dd "root_of_factorials" sRootF, dd "need_exact" sNeed, dd "on_one_bottom" sOneBottom, dd "lowered" sLowered, dd "products" sProducts] : List He.DefD) ++ ([dd "is_size" sIsSize, dd "is_offset" sIsOffset, dd "need_sizes" sNeedSizes, dd "need_pairs" sNeedPairs, dd "can_join" sCanJoin, dd "powers" sPowers, dd "three_by_powers" sThreeByPowers, dd "signed_binomials" sSignedBinomials, dd "_law_pen" sPen, dd "_law_draw" sDraw, dd "_law_word" sWord, dd "_law_told" sTold, dd "_law_pair" sLPair, dd "_law_due" sLDue, dd "law" sLaw] : List He.DefD)
def fa : List He.Fa := ([.glo "Exact", .glo "exact", .glo "PRIMES", .int "HIGHEST_ROOT" 1000000, .int "HIGHEST_SIZE" 40, .int "HIGHEST_POWER" 12, .cls "Exact", .noat "Exact" "parts", .mkr "Exact", .meth "Exact" "__eq__", .glo "is_whole", .glo "shared", .glo "in_lowest", .glo "squares_out", .glo "is_odd", .glo "binomials"] : List He.Fa) ++ ([.glo "primes_of_factorials", .glo "times", .glo "root_of_factorials", .glo "need_exact", .glo "on_one_bottom", .glo "lowered", .glo "products", .glo "is_size", .glo "is_offset", .glo "need_sizes", .glo "need_pairs", .glo "can_join", .glo "powers", .glo "three_by_powers", .glo "signed_binomials", .glo "_law_pen"] : List He.Fa) ++ ([.glo "_law_draw", .glo "_law_word", .glo "_law_told", .glo "_law_pair", .glo "_law_due", .glo "law", .glo "TurnError", .glo "NoNumber", .glo "NoSize", .glo "NoOffset", .glo "NoTriple", .glo "NoTable", .glo "TooWide", .glo "NoNet", .glo "NoRow", .glo "NoStanding"] : List He.Fa) ++ ([.glo "NoTree", .glo "NoWay", .glo "NoHalf", .glo "NoLinking", .glo "NoDeed", .glo "NoQuestion", .glo "Empty", .glo "NotParted", .glo "NoText", .glo "NoName", .glo "NoPlace", .glo "ByNought", .glo "NothingDone", .exc "NoNumber", .exc "NoSize", .exc "NoOffset"] : List He.Fa) ++ ([.exc "TooWide", .free "isinstance", .free "int", .free "bool", .free "abs", .free "sorted", .free "list", .free "tuple", .free "len", .free "range", .free "reversed", .free "max", .free "min", .free "sum", .free "divmod", .free "enumerate"] : List He.Fa) ++ ([.free "repr", .free "str", .free "ValueError", .free "ZeroDivisionError", .free "KeyError", .free "IndexError", .free "LookupError"] : List He.Fa)
def others : List String := ["int", "NoneType", "str", "tuple", "list", "bool", "dict"]
/-- more facts: the tuple of primes, what == and isinstance ask of Exact -/
def exN (K : PySem.W.Frag) : Bool :=
  He.tupB K "PRIMES" (primes.map He.Dv.int) &&
  (He.eqO (PySem.W.findIn K (.ref (He.ga K "Exact")) "__ne__") (some (some (.builtin "object.__ne__"))) &&
  (He.eqO (PySem.W.findIn K (.ref (He.ga K "Exact")) "__class__") (some (some (.builtin "object.__class__"))) &&
  (He.eqO (PySem.W.specialIn K (.builtin "object.__class__") "__get__") (some (some (.builtin "getset_descriptor.__get__"))) &&
  (decide (PySem.W.takesIn K (.builtin "object.__class__") = some true) &&
  (decide (PySem.W.mroIn K (He.ga K "Exact") (.type "object") = some true) &&
  (others.all fun t => decide (PySem.W.subIn K (.type t) (.ref (He.ga K "Exact")) = some false) && decide (PySem.W.kitOne K (.type t) (.ref (He.ga K "Exact")) = some false)))))))
def exB (K : PySem.W.Frag) : Bool := exN K && (TCX.excAllF K "NoSize" 9 && (TCX.excAllF K "NoOffset" 6 && (TCX.excAllF K "TooWide" 17 && TCX.excZ K "ByNought")))
def tf : List He.Defn := []
def hk : PySem.W.Hook := He.hookX 5 fa fn [] tf exB
abbrev R : PySem.W.OpenRow := PySem.W.OpenLaw.row PySem.Challenge.rw_turncouple_k30_threes_by_powers_refused
def ob (s : PySem.W.SharedT) : He.AlX := He.obsX 5 fa fn [] tf exB (HandSHeadRun.getT s)
theorem ob_eq (s : PySem.W.SharedT) : ob s = hk.obs s.abs := He.obsX_eq (s := s.abs) (HandSHeadRun.getT_eq s)
def loose : List PySem.Str := (["TurnError", "NoNumber", "NoSize", "NoOffset", "NoTriple", "NoTable", "TooWide", "NoNet", "NoRow", "NoStanding", "NoTree", "NoWay", "NoHalf", "NoLinking", "NoDeed", "NoQuestion"] : List PySem.Str) ++ (["Empty", "NotParted", "NoText", "NoName", "NoPlace", "ByNought", "NothingDone", "PRIMES", "BLOCK_FIGURES", "BLOCK", "is_whole", "shared", "in_lowest", "squares_out", "figures", "is_odd"] : List PySem.Str) ++ (["binomials", "primes_of_factorials", "HIGHEST_ROOT", "Exact", "exact", "times", "root_of_factorials", "need_exact", "on_one_bottom", "lowered", "products", "text_of", "text_of_part", "HIGHEST_SIZE", "is_size", "is_offset"] : List PySem.Str) ++ (["need_sizes", "need_pairs", "can_join", "HIGHEST_POWER", "powers", "three_by_powers", "signed_binomials", "_law_pen", "_law_draw", "_law_word", "_law_told", "_law_pair", "_law_due"] : List PySem.Str)
end TC
namespace TC
open PySem PySem.Spec PyProof.Rows L2
theorem run (w : World) : HandSHeadRun.RunEq R (PySem.W.view R.prog [67]) hk ob 30000 loose w := by
  intro os
  kernel_rfl
end TC
/-! Rules of my own: == and != by an own __eq__ with either answer, str of an instance, enumerate of a tuple. -/
namespace TCA
open PySem PySem.Spec PyProof.Rows L2
/-! ### enumerate(tuple) -/
theorem meets_enum1 {v : Value} {o : Obj} {H : Heap → Prop} (B : Begins v o H) :
    Meets (Builtin.«enumerate.__new__» ⟨[.type "enumerate", v], []⟩) (fun _ R s => H s.heap ∧
      R (.ok (.ret (.ref (s.heap.push o).objs.size))) { s with heap := (s.heap.push o).push { cls := .type "enumerate", data := .fields #[.none, .bool false, .ref s.heap.objs.size, rawInt 0, .none, .none] } }) :=
  .of_wp fun prog w A R s h => by
    obtain ⟨hp, g, d, tk, os⟩ := s; obtain ⟨h1, h⟩ := h
    have hsub := sub_enumerate
    have q1 : ∀ {A' : Around} {E : Value → Shared → Prop} {Q : Value → Shared → Prop}, Q (.ref hp.objs.size) ⟨hp.push o, g, d, tk, os⟩ → wpAny (model prog w) A' (pyIter v) Q E ⟨hp, g, d, tk, os⟩ :=
      fun q => B.iter prog w _ _ ⟨hp, g, d, tk, os⟩ _ h1 q
    wp_walk using q1
    refine wpAny_stack_any fun st => wpAny_pure ?_
    split
    · rename_i c _ _ _ _ _
      cases (c == Value.type "enumerate")
      · wp_walk using q1
        exact ⟨_, rfl, h⟩
      · wp_walk using q1
        exact ⟨_, rfl, h⟩
    · wp_walk using q1
      exact ⟨_, rfl, h⟩
theorem enum_begins1 {prog : Program} {w : World} {A : Around} {E : Value → Shared → Prop} {s : Shared} {v : Value} {o : Obj} {H : Heap → Prop} {Q : Value → Shared → Prop} (B : Begins v o H) (h1 : H s.heap)
    (h : ∀ h', IsEnum h' (s.heap.objs.size + 1) s.heap.objs.size 0 .none → h'.get? s.heap.objs.size = some o → h'.objs.size = s.heap.objs.size + 2 →
      (∀ b o, s.heap.get? b = some o → h'.get? b = some o) → Q (.ref (s.heap.objs.size + 1)) { s with heap := h' }) :
    wpAny (model prog w) A (call (.type "enumerate") [v]) Q E s := by
  refine callType_new F.called_enumerate (by decide) (F.typeCall_enumerate_1 _) (F.newCall_enumerate_1 _) (fun obj => F.args_object_init_2 obj _) F.entry_enumerate_new
    (meets_enum1 B) ⟨h1, ?_⟩
  have hz : (s.heap.push o).objs.size = s.heap.objs.size + 1 := Heap.size_push ..
  show _ ∧ _
  rw [hz]
  have he : IsEnum ((s.heap.push o).push { cls := .type "enumerate", data := .fields #[.none, .bool false, .ref s.heap.objs.size, rawInt 0, .none, .none] }) (s.heap.objs.size + 1) s.heap.objs.size 0 .none := by
    have := Heap.get?_push_size (s.heap.push o) (o := { cls := .type "enumerate", data := .fields #[.none, .bool false, .ref s.heap.objs.size, rawInt 0, .none, .none] }) rfl
    rw [hz] at this; exact this
  refine ⟨⟨_, he, rfl⟩, h _ he (Heap.get?_push_of_some _ (Heap.get?_push_size _ B.free)) (by rw [Heap.size_push, hz]) fun b o x => Heap.get?_push_of_some _ (Heap.get?_push_of_some _ x)⟩
/-- the tuple at a of xs, each item in a new pair -/
def Iet (K : PySem.W.Frag) (a : Addr) (xs : List V) : It :=
  ⟨fun i H => i < xs.length ∧ SqT K H a xs, fun i H v H' => ∃ T x, v = .ref T ∧ H T = none ∧ H' = upd H T (.tup [.int (i : Nat), x]) ∧ xs[i]? = some x, fun i H => xs.length ≤ i ∧ SqT K H a xs⟩
theorem turn_enumT {P : Program} {w : World} {K : PySem.W.Frag} {elts : List Expr} {kk : Nat} {tpos : Pos} (a e it : Addr) (xs : List V) :
    Turn P w K (.Tuple elts kk tpos) (Iet K a xs) [e, it] e (fun i h => (∃ old, IsEnum h e it ((i : Nat) : Int) old) ∧ h.IsTupleIter it a i ∧ e ≠ it ∧ a ≠ it ∧ e ≠ a ∧ i ≤ xs.length) where
  mem := by simp
  obj := fun i h st b hb => by
    obtain ⟨⟨old, he⟩, ⟨o, ho, hc, hd⟩, _⟩ := st
    have e' : b = e ∨ b = it := by simpa using hb
    rcases e' with z | z
    · rw [z]; exact ⟨_, he, fun v q => nomatch q⟩
    · rw [z]; exact ⟨o, ho, fun v q => by rw [hd] at q; cases q⟩
  keep := fun i h h' st k => let ⟨⟨old, he⟩, hi, hne⟩ := st; ⟨⟨old, k e (by simp) _ he⟩, hi.at fun o q => k it (by simp) o q, hne⟩
  item := by
    intro X hP hw hK hc i pins s σ H E I hf st hg
    subst hP hw hK
    obtain ⟨⟨old, he⟩, hit, hne, hai, hea, hle⟩ := st
    obtain ⟨hlt, hq⟩ := hg
    obtain ⟨its, rv, p, hz⟩ := I.tuple hq
    have hl := rv.length
    have hel : e < s.heap.objs.size := Heap.lt_size he
    have hil : it < s.heap.objs.size := by obtain ⟨_, q, _⟩ := hit; exact Heap.lt_size q
    have hh : X.A.in1.handled = none := I.ok.hd hc
    have D := Draws.tuple (prog := X.prog) (w := X.w) hh it a hai its.toArray
    refine wpAny_pyNext_enum_itemD D he ⟨hit, p⟩ (by simp; omega) hne (by simp; exact ⟨hne, hea⟩) fun u h' tk hu ho hst hT hsz hk => ?_
    obtain ⟨hit', _⟩ := hst
    have hu2 : its[i]? = some u := by simpa using hu
    have hx : xs[i]? = some xs[i] := List.getElem?_eq_getElem hlt
    obtain ⟨u2, hu3, ru⟩ := rv.get hx
    have eu : u2 = u := Option.some.inj (hu3.symm.trans hu2)
    subst eu
    refine ⟨_, rfl, wpAny_letOwnedTupleGo_enum (s := { s with heap := h', toks := tk + 1 }) ho fun h'' he' sb => ?_⟩
    have hT2 : h''.get? s.heap.objs.size = some { cls := .type "tuple", data := .seq #[.int i tk, u2] } := (sb.2 _ (Nat.ne_of_gt hel)).trans hT
    have new : ObjOk X.prog X.w (upd H s.heap.objs.size (.tup [.int (i : Nat), xs[i]])) h'' s.heap.objs.size (.tup [.int (i : Nat), xs[i]]) :=
      ⟨by show 2 ≤ sizeLine; decide, [.int i tk, u2], .cons ⟨_, rfl⟩ (.cons ru .nil), ⟨_, hT2, rfl, _, rfl⟩⟩
    have I1 : Inv X pins σ (upd H s.heap.objs.size (.tup [.int (i : Nat), xs[i]])) { s with heap := h'', toks := tk + 1 } :=
      I.turnedNew (ch := [e, it]) (fun b ob hb q => (sb.2 b (fun z => hb (by simp [z]))).trans (hk b ob (fun z => hb (by simp [z])) (fun z => hb (by simp [z])) q)) hf (Nat.le_refl _) new
    refine ⟨.ref s.heap.objs.size, _, I1, rfl, ⟨_, xs[i], rfl, I.hok.fresh (Nat.le_refl _), rfl, hx⟩, ⟨⟨u2, ?_⟩, hit'.at fun o q => (sb.2 it (Ne.symm hne)).trans q, hne, hai, hea, hlt⟩, fun b hb => ?_⟩
    · have e1 : ((i + 1 : Nat) : Int) = (i : Int) + 1 := by omega
      rw [e1]; exact he'
    · have hb' : b < s.heap.objs.size := by
        have e' : b = e ∨ b = it := by simpa using hb
        rcases e' with z | z
        · rw [z]; exact hel
        · rw [z]; exact hil
      rw [upd_ne (Nat.ne_of_lt hb')]
      exact (hf b hb).1
  done := by
    intro X hP hw hK hc i pins s σ H E I hf st hg
    subst hP hw hK
    obtain ⟨⟨old, he⟩, hit, hne, hai, hea, hle⟩ := st
    obtain ⟨hge, hq⟩ := hg
    obtain ⟨its, rv, p, hz⟩ := I.tuple hq
    obtain ⟨f0, f1, f2, f3, f4, f5⟩ := hf it (by simp)
    have hl := rv.length
    have hh : X.A.in1.handled = none := I.ok.hd hc
    have D := Draws.tuple (prog := X.prog) (w := X.w) hh it a hai its.toArray
    have ei : i = its.toArray.size := by simp; omega
    subst ei
    exact wpAny_pyNext_enum_endD D he ⟨hit, p⟩ fun h' eb => ⟨rfl, I.turned (t' := s.toks) (fun b o hb q => eb b o hb q) f0 f1 f3 f4 f5⟩
  self := fun A i s Q E st h => let ⟨⟨_, he⟩, _⟩ := st; wpAny_pyIter_enum he h
def iEnumT (K : PySem.W.Frag) (ta : TA) : TI := fun σ H R => ta σ H fun vs H1 => ∃ a xs, vs = [.ref a] ∧ SqT K H1 a xs ∧ R (Iet K a xs) H1
theorem pi_enumT {X : Cx} {e : Expr} {ta : TA} {p pos tpos : Pos} {elts : List Expr} {kk : Nat} (hg : Gl X "enumerate") (hm : X.mg "enumerate" = none) (ha : PA X [e] ta) (hs : starEach [e] X.env = [(false, eval e X.env)] := by rfl) :
    PI X (.Tuple elts kk tpos) (.Call (.Name "enumerate" p) [e] [] pos) (iEnumT X.K ta) := by
  refine ⟨fun pins s σ H R I h => ?_⟩
  refine Call_ (ld_blt I hg hm boot_enumerate (PyProof.Rows.callWith_type1 (thn (ha.run pos pins s σ H _ I h) fun us s1 ⟨vs, H1, I1, r1, q1⟩ => ?_) hs rfl))
  obtain ⟨a, xs, ex, hq, q⟩ := q1
  subst ex
  cases r1 with
  | cons r rr =>
    cases rr
    cases r
    obtain ⟨its, rv, p', hz⟩ := I1.tuple hq
    have hal : a < s1.heap.objs.size := by obtain ⟨o, h1, _⟩ := p'; exact Heap.lt_size h1
    refine enum_begins1 (begins_tuple a its.toArray) p' fun h' he hit hsz hk => wpAny_pyIter_enum he ?_
    have I2 : Inv X pins σ H1 { s1 with heap := h' } := I1.kept (t' := s1.toks) hk
    refine ⟨s1.heap.objs.size + 1, [s1.heap.objs.size + 1, s1.heap.objs.size], _, _, H1, rfl, I2, turn_enumT a (s1.heap.objs.size + 1) s1.heap.objs.size xs, ⟨⟨.none, he⟩, ⟨_, hit, rfl, rfl⟩, Nat.succ_ne_self _, Nat.ne_of_lt hal, Nat.ne_of_gt (Nat.lt_succ_of_lt hal), Nat.zero_le _⟩, fun b hb => ?_, q⟩
    have e' : b = s1.heap.objs.size + 1 ∨ b = s1.heap.objs.size := by simpa using hb
    have hle : s1.heap.objs.size ≤ b := by
      rcases e' with z | z
      · rw [z]; exact Nat.le_add_right _ _
      · rw [z]; exact Nat.le_refl _
    exact I1.fpOk hle (I1.hok.fresh hle)
/-! ### == and != by an own __eq__ -/
section
variable {X : Cx} {CX : CXT} {n : Nat} {C f : Addr} {fd : FuncData} {ps : List Str} {sp : Sp} {E : XK}
/-- the own method runs somewhere below -/
theorem run_sub {A : Around} {pins : List (Addr × Obj)} {σ : L2.St} {H : Hp} {s : Shared} {Q : VK} {us : List Value} {vs : List V} (F : FnOk X.prog X.w X.K X.mg X.base CX n f fd ps sp) (hb : Binds X.K fd ps []) (hx : Passes CX X E)
    (sb : Sub X n A) (I : Inv X pins σ H s) (r : Vals vs us) (h : sp vs H Q E) : wpAny (model X.prog X.w) A (call (.ref f) us) (EP X pins σ Q) X.xe s := by
  have e0 : Env0 X.prog X.w X.K X.mg X.base A X.stack s H := by
    have e := I.env0
    exact ⟨by rw [sb.fr]; exact e.frames, e.mod, e.bs, e.bsz, e.funs, e.frf, e.hok, e.bare⟩
  have hl : us.length = ps.length := by rw [← r.length]; exact F.len _ _ _ _ h
  refine wpAny_call (codeAny_mono (F.run A X.stack s H ⟨us, []⟩ us vs Q E sb.room e0 (by
    have := hb s us I.kIn (by simpa using hl)
    simpa using this) r h) fun r s' hq => ?_)
  cases r with
  | error e => exact hx pins σ H s e s' I hq
  | ok fl =>
    cases fl with
    | ret w => exact I.after hq
    | next => exact False.elim hq
    | brk => exact False.elim hq
    | cont => exact False.elim hq
/-- x == y, x an instance of the class at C with an own __eq__ that hands back a truth -/
def rEqO (K : PySem.W.Frag) (C : Addr) (sp : Sp) (E : XK) : R2 := fun x y H Q => ∃ a dx fs t, x = .ref a ∧ H a = some (.ins C dx fs) ∧ TyX K H y t ∧ PySem.W.notFirst K C t = true ∧
  sp [x, y] H (fun v H' => ∃ b, v = .bl b ∧ Q (.bl b) H') E
theorem op_eqO (F : FnOk X.prog X.w X.K X.mg X.base CX n f fd ps sp) (hs : PySem.W.findIn X.K (.ref C) "__eq__" = some (some (.ref f))) (hf : PySem.W.isFn X.K (.ref f) = true) (hb : Binds X.K fd ps []) (hx : Passes CX X E)
    (hr : Room n X.A) : OpR X (compareOp .Eq) (rEqO X.K C sp E) := by
  intro pins s σ H x y v u Q I rx ry hq
  obtain ⟨a, dx, fs, t, rfl, ha, ty, nf, q⟩ := hq
  cases (show v = Value.ref a from rx)
  obtain ⟨mA, J, _⟩ := ins_get I.hok ha
  obtain ⟨od, J, _⟩ := J.look
  obtain ⟨m, hF⟩ := I.fr
  obtain ⟨Pz, Z, pz, _⟩ := kit_of I ry ty
  have hu : X.A.units < cLine := Nat.lt_of_succ_lt (hu_of hr)
  refine PySem.W.cmp_K (op := .Eq) (tb := t) hu hF I.ok.mod.kin J (Z.ty _ _ I.kIn pz) nf hs hf ?_
  refine wpAny_mono (run_sub F hb hx ⟨hr, rfl⟩ I (.cons rx (.cons ry .nil)) q) (fun r s' hz => ?_) fun _ _ z => z
  obtain ⟨z, H', I', rz, b, rfl, qb⟩ := hz
  cases (show r = Value.bool b from rz)
  exact ⟨.bl b, H', I', rfl, qb⟩
/-- x != y: the default __ne__ asks the own __eq__ -/
def rNeO (K : PySem.W.Frag) (C : Addr) (sp : Sp) (E : XK) : R2 := fun x y H Q => ∃ a dx fs t, x = .ref a ∧ H a = some (.ins C dx fs) ∧ TyX K H y t ∧ PySem.W.notFirst K C t = true ∧
  sp [x, y] H (fun v H' => ∃ b, v = .bl b ∧ Q (.bl (!b)) H') E
theorem ifBound_B {M : Model} {A : Around} {E : Value → Shared → Prop} {s : Shared} {K : PySem.W.Frag} {x C : Addr} {ox : Obj} {od : Option Obj} {name : Str} {id : String} {args : List Value} {Q : Option Value → Shared → Prop} (X : K.In s.heap) (I : PySem.W.InstAt s.heap x ox C od)
    (hs : PySem.W.findIn K (.ref C) name = some (some (.builtin id))) (hb : ∀ self, bindSpecial (.builtin id) self = pure (.builtin id, [self]))
    (h : wpAny M A (call (.builtin id) (.ref x :: args)) (fun v => Q (some v)) E s) : wpAny M A (callSpecialIfBound? (.ref x) name args) Q E s := by
  simp only [callSpecialIfBound?, bindSpecialIfBound?]
  refine wpAny_holding (wpAny_bind (wpAny_bind (wpAny_bind (I.type.here ((PySem.W.looks_findIn X hs).here ?_)))))
  refine wpAny_bind (wpAny_askSetting (wpAny_ite ?_))
  have fin : wpAny M A (call (.builtin id) ([.ref x] ++ args) >>= fun v => pure (some v)) Q E s := wpAny_bind (wpAny_mono h (fun v s' h' => wpAny_pure h') fun _ _ h' => h')
  have L := (PySem.W.Looks.of_pure (M := M) (h := s.heap) (hb (.ref x)))
  split
  · exact wpAny_bind (L.here (wpAny_pure (by exact fin)))
  · exact wpAny_tryCatch (wpAny_bind (L.here (wpAny_pure (by exact fin))))
theorem op_neO (F : FnOk X.prog X.w X.K X.mg X.base CX n f fd ps sp) (hs : PySem.W.findIn X.K (.ref C) "__eq__" = some (some (.ref f))) (hf : PySem.W.isFn X.K (.ref f) = true) (hb : Binds X.K fd ps []) (hx : Passes CX X E)
    (hn : PySem.W.findIn X.K (.ref C) "__ne__" = some (some (.builtin "object.__ne__"))) (hm : PySem.W.mroIn X.K C (.type "object") = some true)
    (hr : Room (n + 1) X.A) : OpR X (compareOp .NotEq) (rNeO X.K C sp E) := by
  intro pins s σ H x y v u Q I rx ry hq
  obtain ⟨a, dx, fs, t, rfl, ha, ty, nf, q⟩ := hq
  cases (show v = Value.ref a from rx)
  obtain ⟨mA, J, _⟩ := ins_get I.hok ha
  obtain ⟨od, J, _⟩ := J.look
  obtain ⟨Pz, Z, pz, _⟩ := kit_of I ry ty
  have hu : X.A.units < cLine := Nat.lt_of_succ_lt (hu_of hr)
  have hu1 : X.A.in1.units < cLine := hu_of hr
  have K0 := I.kIn
  have run := run_sub F hb hx (A := X.A.in1) ⟨hr.in1, rfl⟩ I (.cons rx (.cons ry .nil)) q
  have one : wpAny (model X.prog X.w) X.A (tryCompare (.ref a) "__ne__" u) (fun r s' => ∃ v, r = some v ∧ EP X pins σ Q v s') X.xe s := by
    unfold tryCompare
    refine wpAny_bind (ifBound_B K0 J hn PySem.F.cmp_object.ne.bind ?_)
    refine wpAny_call (codeAny_call_builtin PySem.F.cmp_object.ne.plain PySem.F.cmpEntry_ne (PySem.W.check_slot (i := "object.__ne__") (owner := "object") (n := "__ne__") PySem.F.cmpKind_ne PySem.F.cmpSplit_ne (J.type.andThen (PySem.W.looks_mroIn K0 hm)) (PySem.F.cmpArgs_ne _ _) ?_))
    unfold Builtin.«object.__ne__»
    refine wpAny_bind (m := slotArgs "__ne__" 1 _) (wpAny_pure ?_)
    refine wpAny_bind (m := cRoomFor _ _) (wpAny_cRoomFor hu1 ?_)
    refine wpAny_bind (m := callSpecialIfBound? (.ref a) (Str.ofString "__eq__") _) (PySem.W.ifBound_K K0 J hs hf (wpAny_mono run (fun r s' hz => ?_) fun _ _ z => z))
    obtain ⟨z, H', I', rz, b, rfl, qb⟩ := hz
    cases (show r = Value.bool b from rz)
    refine wpAny_bind (wpAny_truthy_bool ?_)
    exact wpAny_pure (wpAny_pure ⟨_, rfl, .bl (!b), H', I', rfl, qb⟩)
  show wpAny (model X.prog X.w) X.A (richCompare .NotEq (.ref a) u) (EP X pins σ Q) X.xe s
  unfold richCompare
  simp only [oneThing_ref]
  refine wpAny_holding (wpAny_bind (wpAny_cRoomFor hu ?_))
  refine wpAny_bind (J.type.here (wpAny_bind ((Z.ty _ _ I.kIn pz).here ?_)))
  split
  · rename_i q2
    have e : PySem.W.subIn X.K t (.ref C) = some false := by
      rcases Bool.or_eq_true_iff.mp nf with e | e
      · rw [beq_iff_eq.mp e] at q2; simp at q2
      · exact beq_iff_eq.mp e
    refine wpAny_bind ((PySem.W.looks_subIn K0 e).here ?_)
    simp only [Bool.false_eq_true, if_false]
    refine wpAny_bind (wpAny_mono one (fun r s' z => ?_) fun _ _ e => e)
    obtain ⟨v, rfl, hq⟩ := z
    exact wpAny_pure hq
  · refine wpAny_bind (wpAny_pure ?_)
    simp only [Bool.false_eq_true, if_false]
    refine wpAny_bind (wpAny_mono one (fun r s' z => ?_) fun _ _ e => e)
    obtain ⟨v, rfl, hq⟩ := z
    exact wpAny_pure hq
/-! ### str(x) by an own __str__ -/
def rStrO (C : Addr) (sp : Sp) (E : XK) : List V → Hp → VK → Prop := fun xs H Q => ∃ a dx fs, xs = [.ref a] ∧ H a = some (.ins C dx fs) ∧ sp [.ref a] H (fun v H' => ∃ z, v = .str z ∧ Q (.str z) H') E
theorem call_strO (F : FnOk X.prog X.w X.K X.mg X.base CX n f fd ps sp) (hs : PySem.W.findIn X.K (.ref C) "__str__" = some (some (.ref f))) (hf : PySem.W.isFn X.K (.ref f) = true) (hb : Binds X.K fd ps []) (hx : Passes CX X E)
    (hr : Room (n + 2) X.A) : CallR X (.type "str") (rStrO C sp E) := by
  intro pins s σ H xs us Q I r hq
  obtain ⟨a, dx, fs, rfl, ha, q⟩ := hq
  obtain ⟨u, rfl, rx⟩ : ∃ u, us = [u] ∧ RelV (.ref a) u := by
    cases r with
    | cons r rr => cases rr; exact ⟨_, rfl, r⟩
  cases (show u = Value.ref a from rx)
  obtain ⟨mA, J, _⟩ := ins_get I.hok ha
  obtain ⟨od, J, _⟩ := J.look
  have hr2 : Room n X.A.in1.in1 := hr.in1.in1
  have hu : X.A.in1.in1.units < cLine := Nat.lt_of_succ_lt (hu_of hr2)
  refine PySem.W.kso_call hu I.kIn J hs hf ?_
  refine wpAny_mono (run_sub F hb hx (A := X.A.in1.in1) ⟨hr2, rfl⟩ I (.cons rx .nil) q) (fun r s' hz => ?_) fun _ _ z => z
  obtain ⟨z, H', I', rz, x, rfl, qb⟩ := hz
  obtain ⟨t, e⟩ := (show ∃ t, r = Value.str x t from rz)
  cases e
  exact ⟨.str x, H', I', ⟨t, rfl⟩, qb⟩
/-! ### // by a number of either sign -/
def CDivNW (_ j : Int) : Prop := j ≠ 0 ∧ j.natAbs.log2 < 9000
theorem op_fdivNW : OpR X (binaryOp .FloorDiv) (rI CDivNW fun i j => .int (i.fdiv j)) := opI fun _ _ _ _ _ _ _ hc q => floordiv_int hc.1 q (.inl (PyProof.noPylong_of_log2 hc.2))
end
end TCA
/-! The mathematics, in plain Lean. -/
namespace TCM
/-! ### the greatest common divisor, by steps with Python's remainder -/
theorem gcd_fmod (a b : Int) : Int.gcd b (a.fmod b) = Int.gcd a b := by
  have e : a.fmod b = a - b * a.fdiv b := by
    have := Int.fmod_add_mul_fdiv a b
    omega
  rw [e, Int.gcd_comm a b]
  apply Nat.dvd_antisymm
  · refine Int.dvd_gcd (Int.gcd_dvd_left ..) ?_
    have h1 : ((Int.gcd b (a - b * a.fdiv b) : Nat) : Int) ∣ b := Int.gcd_dvd_left ..
    have h2 : ((Int.gcd b (a - b * a.fdiv b) : Nat) : Int) ∣ a - b * a.fdiv b := Int.gcd_dvd_right ..
    have h3 := Int.dvd_add h2 (Int.dvd_mul_of_dvd_left (c := a.fdiv b) h1)
    have e2 : a - b * a.fdiv b + b * a.fdiv b = a := by omega
    rw [e2] at h3
    exact h3
  · refine Int.dvd_gcd (Int.gcd_dvd_left ..) ?_
    have h1 : ((Int.gcd b a : Nat) : Int) ∣ b := Int.gcd_dvd_left ..
    have h2 : ((Int.gcd b a : Nat) : Int) ∣ a := Int.gcd_dvd_right ..
    exact Int.dvd_sub h2 (Int.dvd_mul_of_dvd_left (c := a.fdiv b) h1)
theorem fmod_lt (a b : Int) (h : b ≠ 0) : (a.fmod b).natAbs < b.natAbs := by
  rcases Int.lt_or_gt_of_ne h with hb | hb
  · have h1 : a.fmod b = a % b + if 0 ≤ b ∨ b ∣ a then 0 else b := Int.fmod_eq_emod
    have := Int.emod_nonneg a h
    have := Int.emod_lt_of_pos a (b := -b) (by omega)
    rw [Int.emod_neg] at this
    rw [h1]
    split
    · omega
    · rename_i z
      have : a % b ≠ 0 := fun e => z (.inr (Int.dvd_of_emod_eq_zero e))
      omega
  · have h1 := Int.fmod_nonneg_of_pos a hb
    have h2 := Int.fmod_lt_of_pos a hb
    omega
theorem abs_eq (i : Int) : (if i < 0 then -i else i) = ((i.natAbs : Nat) : Int) := by
  split <;> omega
/-! ### a fraction in lowest terms -/
def sgn (t b : Int) : Int := if b < 0 then -((Int.gcd t b : Nat) : Int) else ((Int.gcd t b : Nat) : Int)
def low (t b : Int) : Int × Int := (t.fdiv (sgn t b), b.fdiv (sgn t b))
/-- as the law says it -/
def lowL (t b : Int) : Int × Int := if 0 < b then (t.fdiv ((Int.gcd t b : Nat) : Int), b.fdiv ((Int.gcd t b : Nat) : Int)) else ((-t).fdiv ((Int.gcd t b : Nat) : Int), (-b).fdiv ((Int.gcd t b : Nat) : Int))
theorem low_eq (t b : Int) (h : b ≠ 0) : low t b = lowL t b := by
  unfold low lowL sgn
  by_cases hb : b < 0
  · rw [if_pos hb, if_neg (by omega)]
    have e1 := Int.neg_fdiv_neg (-t) ((Int.gcd t b : Nat) : Int)
    have e2 := Int.neg_fdiv_neg (-b) ((Int.gcd t b : Nat) : Int)
    rw [Int.neg_neg] at e1 e2
    rw [e1, e2]
  · rw [if_neg hb, if_pos (by omega)]
theorem gcd_pos (t b : Int) (h : b ≠ 0) : 0 < Int.gcd t b := by
  have : Int.gcd t b ≠ 0 := fun e => h (Int.gcd_eq_zero_iff.mp e).2
  omega
theorem gcd_le (t b : Int) (h : b ≠ 0) : Int.gcd t b ≤ b.natAbs := by
  show Nat.gcd t.natAbs b.natAbs ≤ b.natAbs
  exact Nat.gcd_le_right _ (by omega)
theorem sgn_ne (t b : Int) (h : b ≠ 0) : sgn t b ≠ 0 := by
  have := gcd_pos t b h
  unfold sgn
  split <;> omega
theorem sgn_abs (t b : Int) : (sgn t b).natAbs = Int.gcd t b := by
  unfold sgn
  split <;> omega
/-- the quotients are no larger -/
theorem fdiv_abs (t d : Int) (h : d ≠ 0) (hd : d ∣ t) : (t.fdiv d).natAbs ≤ t.natAbs := by
  obtain ⟨k, rfl⟩ := hd
  rw [Int.mul_fdiv_cancel_left k h, Int.natAbs_mul]
  exact Nat.le_mul_of_pos_left _ (by omega)
theorem sgn_dvd (t b : Int) : sgn t b ∣ t ∧ sgn t b ∣ b := by
  have h1 : ((Int.gcd t b : Nat) : Int) ∣ t := Int.gcd_dvd_left ..
  have h2 : ((Int.gcd t b : Nat) : Int) ∣ b := Int.gcd_dvd_right ..
  unfold sgn
  split
  · exact ⟨Int.neg_dvd.mpr h1, Int.neg_dvd.mpr h2⟩
  · exact ⟨h1, h2⟩
theorem low_abs (t b : Int) (h : b ≠ 0) : (low t b).1.natAbs ≤ t.natAbs ∧ (low t b).2.natAbs ≤ b.natAbs :=
  ⟨fdiv_abs t _ (sgn_ne t b h) (sgn_dvd t b).1, fdiv_abs b _ (sgn_ne t b h) (sgn_dvd t b).2⟩
theorem low_pos (t b : Int) (h : b ≠ 0) : 0 < (low t b).2 := by
  obtain ⟨k, hk⟩ := (sgn_dvd t b).2
  have hs := sgn_ne t b h
  have e : (low t b).2 = k := by
    show b.fdiv (sgn t b) = k
    rw [hk, ← hk]
    have e2 : b.fdiv (sgn t b) = (sgn t b * k).fdiv (sgn t b) := by rw [← hk]
    rw [e2]
    exact Int.mul_fdiv_cancel_left k hs
  rw [e]
  have g0 := gcd_pos t b h
  unfold sgn at hk
  by_cases hb : b < 0
  · rw [if_pos hb] at hk
    rcases Int.lt_trichotomy k 0 with z | z | z
    · exfalso
      have := Int.mul_nonneg_of_nonpos_of_nonpos (a := -((Int.gcd t b : Nat) : Int)) (b := k) (by omega) (by omega)
      omega
    · rw [z] at hk
      omega
    · exact z
  · rw [if_neg hb] at hk
    rcases Int.lt_trichotomy k 0 with z | z | z
    · exfalso
      have := Int.mul_nonneg (a := ((Int.gcd t b : Nat) : Int)) (b := -k) (by omega) (by omega)
      rw [Int.mul_neg] at this
      omega
    · rw [z] at hk
      omega
    · exact z
theorem low_one (t : Int) : low t 1 = (t, 1) := by
  unfold low sgn
  rw [if_neg (by decide), Int.gcd_one]
  show (t.fdiv 1, (1 : Int).fdiv 1) = (t, 1)
  rw [Int.fdiv_one]
  rfl
/-! ### squares taken out -/
/-- while n % (p * p) == 0: n //= p * p; o *= p -/
def whl : Nat → Int → Int → Int → Int × Int
  | 0, _, n, o => (n, o)
  | k + 1, p, n, o => if n % (p * p) = 0 then whl k p (n / (p * p)) (o * p) else (n, o)
/-- as squares_out goes on: over the primes, until 1 is left: (outside, inside, rest) -/
def sqL : List Int → Int → Int → Int → Int × Int × Int
  | [], n, o, i => (o, i, n)
  | p :: ps, n, o, i => if n = 1 then (o, i, n) else
    if (whl 10 p n o).1 % p = 0 then sqL ps ((whl 10 p n o).1 / p) (whl 10 p n o).2 (i * p) else sqL ps (whl 10 p n o).1 (whl 10 p n o).2 i
/-- as the law goes on: over all numbers -/
def fr : Nat → Int → Int → Int → Int × Int
  | 0, _, n, s => (s, n)
  | k + 1, p, n, s => if p * p ≤ n then fr k (p + 1) (whl 10 p n s).1 (whl 10 p n s).2 else (s, n)
theorem sq_div {n q : Int} (h0 : 0 < n) (hq : 4 ≤ q) (h : n % q = 0) : 0 < n / q ∧ n / q * 4 ≤ n ∧ n / q < n := by
  have e := Int.mul_ediv_add_emod n q
  rw [h, Int.add_zero] at e
  have h1 : 0 < n / q := by
    rcases Int.lt_or_le 0 (n / q) with z | z
    · exact z
    · have := Int.mul_le_mul_of_nonneg_left z (show 0 ≤ q by omega)
      rw [Int.mul_zero] at this
      omega
  have h2 : n / q * 4 ≤ n / q * q := Int.mul_le_mul_of_nonneg_left hq (by omega)
  rw [Int.mul_comm q] at e
  exact ⟨h1, by omega, by omega⟩
theorem pp4 {p : Int} (h : 2 ≤ p) : 4 ≤ p * p := by
  have := Int.mul_le_mul h h (by omega) (by omega)
  omega
theorem whl_ok : ∀ (k : Nat) (p n o : Int), 2 ≤ p → 0 < n → 0 < (whl k p n o).1 ∧ (whl k p n o).1 ≤ n
  | 0, p, n, o, _, h => ⟨h, Int.le_refl _⟩
  | k + 1, p, n, o, hp, h => by
    unfold whl
    split
    · rename_i z
      obtain ⟨a, b, c⟩ := sq_div h (pp4 hp) z
      obtain ⟨d, e⟩ := whl_ok k p (n / (p * p)) (o * p) hp a
      exact ⟨d, by omega⟩
    · exact ⟨h, Int.le_refl _⟩
/-- the loop's measure: whl with more fuel is the same -/
theorem whl_fuel : ∀ (k j : Nat) (p n o : Int), 2 ≤ p → 0 < n → n < 4 ^ k → whl (k + j) p n o = whl k p n o
  | 0, j, p, n, o, _, h, h2 => by
    have : n < 1 := h2
    omega
  | k + 1, j, p, n, o, hp, h, h2 => by
    rw [Nat.add_right_comm]
    show (if n % (p * p) = 0 then whl (k + j) p (n / (p * p)) (o * p) else (n, o)) = (if n % (p * p) = 0 then whl k p (n / (p * p)) (o * p) else (n, o))
    split
    · rename_i z
      obtain ⟨a, b, c⟩ := sq_div h (pp4 hp) z
      exact whl_fuel k j p _ _ hp a (by
        have e : (4 : Int) ^ (k + 1) = 4 ^ k * 4 := Int.pow_succ ..
        omega)
    · rfl
def primes : List Int := [2, 3, 5, 7, 11, 13, 17, 19, 23, 29, 31, 37, 41, 43, 47, 53, 59, 61, 67, 71, 73, 79, 83, 89, 97, 101, 103, 107, 109, 113, 127, 131, 137, 139, 149, 151, 157, 163, 167, 173, 179, 181, 191, 193, 197, 199, 211, 223, 227, 229, 233, 239, 241, 251, 257, 263, 269, 271, 277, 281, 283, 293, 307, 311, 313, 317, 331, 337, 347, 349, 353, 359, 367, 373, 379, 383, 389, 397, 401, 409, 419, 421, 431, 433, 439, 443, 449, 457, 461, 463, 467, 479, 487, 491, 499, 503, 509, 521, 523, 541, 547, 557, 563, 569, 571, 577, 587, 593, 599, 601, 607, 613, 617, 619, 631, 641, 643, 647, 653, 659, 661, 673, 677, 683, 691, 701, 709, 719, 727, 733, 739, 743, 751, 757, 761, 769, 773, 787, 797, 809, 811, 821, 823, 827, 829, 839, 853, 857, 859, 863, 877, 881, 883, 887, 907, 911, 919, 929, 937, 941, 947, 953, 967, 971, 977, 983, 991, 997]
def sqOut (n : Int) : Int × Int × Int := if n = 0 then (0, 1, 1) else sqL primes n 1 1
def free (n : Int) : Int × Int := fr 1000 2 n 1
/-- the roots that the law takes -/
def chk (r : Int) : Bool := match sqOut r, free r with
  | (o, i, m), (s, f) => decide (m = 1) && (decide (0 ≤ o) && (decide (o ≤ 1000) && (decide (1 ≤ i) && (decide (i ≤ 1000000) && (decide (r = 0) || (decide (0 < o) && (decide (s = o) && decide (f = i))))))))
def some11 : List Int := [0, 1, 4, 12, 997, 997 * 997, 2 ^ 19, 510510, 720720, 1000000, 30 * 30 * 7]
theorem chk_11 : some11.all chk = true := by decide +kernel
theorem chk_900 : (List.range 900).all (fun k => chk (1 + (k : Int))) = true := by decide +kernel
def Ok (r : Int) : Prop := 0 ≤ r ∧ r ≤ 1000000 ∧ chk r = true
theorem ok_11 {r : Int} (h : r ∈ some11) : Ok r := by
  refine ⟨?_, ?_, List.all_eq_true.mp chk_11 r h⟩
  · revert r; decide
  · revert r; decide
theorem ok_900 {d : Int} (h0 : 0 ≤ d) (h1 : d < 900) : Ok (1 + d) := by
  refine ⟨by omega, by omega, ?_⟩
  have := List.all_eq_true.mp chk_900 d.toNat (List.mem_range.mpr (by omega))
  rw [Int.toNat_of_nonneg h0] at this
  exact this
theorem Ok.all {r : Int} (h : Ok r) : (sqOut r).2.2 = 1 ∧ 0 ≤ (sqOut r).1 ∧ (sqOut r).1 ≤ 1000 ∧ 1 ≤ (sqOut r).2.1 ∧ (sqOut r).2.1 ≤ 1000000 ∧ (r ≠ 0 → 0 < (sqOut r).1 ∧ free r = ((sqOut r).1, (sqOut r).2.1)) := by
  obtain ⟨_, _, h⟩ := h
  unfold chk at h
  generalize sqOut r = a at h ⊢
  generalize free r = b at h ⊢
  obtain ⟨o, i, m⟩ := a
  obtain ⟨s, f⟩ := b
  simp only [Bool.and_eq_true, Bool.or_eq_true, decide_eq_true_eq] at h
  obtain ⟨h1, h2, h3, h4, h5, h6⟩ := h
  refine ⟨h1, h2, h3, h4, h5, fun hr => ?_⟩
  rcases h6 with h6 | ⟨h6, h7, h8⟩
  · exact absurd h6 hr
  · exact ⟨h6, by rw [h7, h8]⟩
/-- what exact comes to: no part, or one -/
def ex (top bottom root : Int) : Option (Int × Int × Int) :=
  if top * (sqOut root).1 = 0 then none else some ((sqOut root).2.1, (low (top * (sqOut root).1) bottom).1, (low (top * (sqOut root).1) bottom).2)
/-- what is due, as the law says it -/
def due (up under r : Int) : Option (Int × Int × Int) :=
  if up = 0 ∨ r = 0 then none else some ((free r).2, (lowL (up * (free r).1) under).1, (lowL (up * (free r).1) under).2)
theorem ex_due {t b r : Int} (hb : b ≠ 0) (h : Ok r) : ex t b r = due t b r := by
  obtain ⟨h1, h2, h3, h4, h5, h6⟩ := h.all
  unfold ex due
  by_cases hr : r = 0
  · subst hr
    rw [if_pos (show t * (sqOut 0).1 = 0 from Int.mul_zero _), if_pos (Or.inr rfl)]
  · obtain ⟨h7, h8⟩ := h6 hr
    rw [h8, ← low_eq _ _ hb]
    by_cases ht : t = 0
    · subst ht
      rw [if_pos (Int.zero_mul _), if_pos (Or.inl rfl)]
    · rw [if_neg (show ¬ t * (sqOut r).1 = 0 from fun e => by
        rcases Int.mul_eq_zero.mp e with e | e <;> omega), if_neg (show ¬ (t = 0 ∨ r = 0) by omega)]
theorem ok_one : Ok 1 := ok_11 (by decide)
theorem sq_one : sqOut 1 = (1, 1, 1) := by decide +kernel
theorem ex_one (t : Int) : ex t 1 1 = if t = 0 then none else some (1, t, 1) := by
  unfold ex
  rw [sq_one]
  show (if t * 1 = 0 then none else some ((1 : Int), (low (t * 1) 1).1, (low (t * 1) 1).2)) = _
  rw [Int.mul_one, low_one]
theorem ex_succ (t : Int) : ex t 1 1 ≠ ex (t + 1) 1 1 := by
  rw [ex_one, ex_one]
  split <;> split
  · omega
  · simp
  · simp
  · simp only [ne_eq, Option.some.injEq, Prod.mk.injEq, not_and]
    omega
end TCM
/-! Sums of fractions times roots, as lists of (root, fraction). -/
namespace TCR
open TCM
/-! ### fractions -/
theorem low_rat (t b : Int) (h : b ≠ 0) : low t b = ((Rat.divInt t b).num, ((Rat.divInt t b).den : Int)) := by
  have gp := gcd_pos t b h
  have e1 : (Rat.divInt t b).num = b.sign * t / ((b.gcd t : Nat) : Int) := Rat.num_divInt t b
  have e2 : (Rat.divInt t b).den = b.natAbs / b.gcd t := by rw [Rat.den_divInt, if_neg h]
  rw [e1, e2, Int.gcd_comm b t]
  obtain ⟨k, hk⟩ : ((Int.gcd t b : Nat) : Int) ∣ t := Int.gcd_dvd_left ..
  obtain ⟨m, hm⟩ : ((Int.gcd t b : Nat) : Int) ∣ b := Int.gcd_dvd_right ..
  have g0 : ((Int.gcd t b : Nat) : Int) ≠ 0 := by omega
  have x1 : low t b = (if b < 0 then (-k, -m) else (k, m)) := by
    unfold low sgn
    by_cases hb : b < 0
    · rw [if_pos hb, if_pos hb]
      have a1 : t.fdiv (-((Int.gcd t b : Nat) : Int)) = -k := by
        have z : t = (-((Int.gcd t b : Nat) : Int)) * (-k) := by rw [Int.neg_mul_neg]; exact hk
        have z2 := Int.mul_fdiv_cancel_left (-k) (show (-((Int.gcd t b : Nat) : Int)) ≠ 0 by omega)
        rw [← z] at z2
        exact z2
      have a2 : b.fdiv (-((Int.gcd t b : Nat) : Int)) = -m := by
        have z : b = (-((Int.gcd t b : Nat) : Int)) * (-m) := by rw [Int.neg_mul_neg]; exact hm
        have z2 := Int.mul_fdiv_cancel_left (-m) (show (-((Int.gcd t b : Nat) : Int)) ≠ 0 by omega)
        rw [← z] at z2
        exact z2
      rw [a1, a2]
    · rw [if_neg hb, if_neg hb]
      have a1 : t.fdiv ((Int.gcd t b : Nat) : Int) = k := by
        have z2 := Int.mul_fdiv_cancel_left k g0
        rw [← hk] at z2
        exact z2
      have a2 : b.fdiv ((Int.gcd t b : Nat) : Int) = m := by
        have z2 := Int.mul_fdiv_cancel_left m g0
        rw [← hm] at z2
        exact z2
      rw [a1, a2]
  rw [x1]
  have y2 : ((b.natAbs / Int.gcd t b : Nat) : Int) = (m.natAbs : Int) := by
    have : b.natAbs = Int.gcd t b * m.natAbs := by
      have z := congrArg Int.natAbs hm
      rw [Int.natAbs_mul] at z
      simpa using z
    rw [this, Nat.mul_div_cancel_left _ gp]
  have y1 : b.sign * t / ((Int.gcd t b : Nat) : Int) = b.sign * k := by
    have : b.sign * t = ((Int.gcd t b : Nat) : Int) * (b.sign * k) := by
      rw [Int.mul_left_comm, ← hk]
    rw [this, Int.mul_ediv_cancel_left _ g0]
  rw [y1, y2]
  have gn : (0 : Int) < ((Int.gcd t b : Nat) : Int) := by omega
  by_cases hb : b < 0
  · rw [if_pos hb, Int.sign_eq_neg_one_of_neg hb]
    have : m < 0 := by
      rcases Int.lt_or_le m 0 with z | z
      · exact z
      · have := Int.mul_nonneg (Int.le_of_lt gn) z
        omega
    rw [Int.neg_mul, Int.one_mul]
    congr 1
    omega
  · rw [if_neg hb, Int.sign_eq_one_of_pos (by omega)]
    have : 0 ≤ m := by
      rcases Int.lt_or_le m 0 with z | z
      · have := Int.mul_nonneg (Int.le_of_lt gn) (show 0 ≤ -m by omega)
        rw [Int.mul_neg] at this
        omega
      · exact z
    rw [Int.one_mul]
    congr 1
    omega
theorem lowL_rat (t b : Int) (h : b ≠ 0) : lowL t b = ((Rat.divInt t b).num, ((Rat.divInt t b).den : Int)) := by
  rw [← low_eq t b h, low_rat t b h]
/-- the sum as sum_in_lowest makes it -/
theorem sum_low (a b : Rat) :
    let g := Nat.gcd a.den b.den
    let num := a.num * ((b.den / g : Nat) : Int) + b.num * ((a.den / g : Nat) : Int)
    let l := Nat.gcd num.natAbs g
    (a + b).num = num / (l : Int) ∧ (a + b).den = (a.den / g) * (b.den / l) ∧ 0 < g ∧ 0 < l ∧ g ∣ a.den ∧ g ∣ b.den ∧ (l : Int) ∣ num ∧ l ∣ b.den := by
  intro g num l
  have ga : g ∣ a.den := Nat.gcd_dvd_left ..
  have gb : g ∣ b.den := Nat.gcd_dvd_right ..
  have g0 : 0 < g := Nat.gcd_pos_of_pos_left _ a.den_pos
  have l0 : 0 < l := Nat.gcd_pos_of_pos_right _ g0
  have lb : l ∣ b.den := Nat.dvd_trans (Nat.gcd_dvd_right ..) gb
  have aux : Nat.gcd num.natAbs g = Nat.gcd num.natAbs ((a.den / g) * b.den) := Rat.add.aux a b rfl rfl rfl
  have dn : (a.den / g) * b.den ≠ 0 := by
    have h1 : 0 < a.den / g := Nat.div_pos (Nat.le_of_dvd a.den_pos ga) g0
    exact Nat.ne_of_gt (Nat.mul_pos h1 b.den_pos)
  have es : a + b = mkRat num ((a.den / g) * b.den) := by
    rw [Rat.add_def' a b]
    rw [Rat.mkRat_eq_iff (Nat.mul_ne_zero a.den_nz b.den_nz) dn]
    obtain ⟨u, hu⟩ := ga
    obtain ⟨v, hv⟩ := gb
    have u1 : a.den / g = u := by rw [hu]; exact Nat.mul_div_cancel_left _ g0
    have v1 : b.den / g = v := by rw [hv]; exact Nat.mul_div_cancel_left _ g0
    show _ = (a.num * ((b.den / g : Nat) : Int) + b.num * ((a.den / g : Nat) : Int)) * _
    rw [u1, v1, hu, hv]
    push_cast
    grind
  have en : mkRat num ((a.den / g) * b.den) = Rat.normalize num ((a.den / g) * b.den) dn := by
    rw [Rat.normalize_eq_mkRat]
  have en2 := Rat.normalize_eq (num := num) dn
  refine ⟨?_, ?_, g0, l0, ga, gb, ?_, lb⟩
  · rw [es, en, en2]
    show num / ((Nat.gcd num.natAbs ((a.den / g) * b.den) : Nat) : Int) = num / ((Nat.gcd num.natAbs g : Nat) : Int)
    rw [aux]
  · rw [es, en, en2]
    show (a.den / g) * b.den / (Nat.gcd num.natAbs ((a.den / g) * b.den)) = (a.den / g) * (b.den / l)
    rw [← aux, Nat.mul_div_assoc _ lb]
  · exact Int.ofNat_dvd_left.mpr (Nat.gcd_dvd_left ..)
/-! ### sizes -/
def Sz (B : Nat) (q : Rat) : Prop := q.num.natAbs < 2 ^ B ∧ q.den < 2 ^ B
theorem Sz.mono {B C : Nat} {q : Rat} (h : Sz B q) (hc : B ≤ C) : Sz C q := by
  have := Nat.pow_le_pow_right (show 0 < 2 by decide) hc
  exact ⟨Nat.lt_of_lt_of_le h.1 this, Nat.lt_of_lt_of_le h.2 this⟩
theorem Sz.neg {B : Nat} {q : Rat} (h : Sz B q) : Sz B (-q) := by
  refine ⟨?_, ?_⟩
  · rw [Rat.neg_num, Int.natAbs_neg]
    exact h.1
  · rw [Rat.neg_den]
    exact h.2
theorem Sz.zero {B : Nat} (h : 0 < B) : Sz B 0 := ⟨Nat.pow_pos (by decide), Nat.one_lt_two_pow (by omega)⟩
theorem Sz.add {A B : Nat} {p q : Rat} (h : Sz A p) (k : Sz B q) : Sz (A + B + 1) (p + q) := by
  obtain ⟨e1, e2, g0, l0, ga, gb, ln, lb⟩ := sum_low p q
  have b1 : q.den / Nat.gcd p.den q.den ≤ q.den := Nat.div_le_self ..
  have a1 : p.den / Nat.gcd p.den q.den ≤ p.den := Nat.div_le_self ..
  have P1 : p.num.natAbs * q.den < 2 ^ A * 2 ^ B := Nat.mul_lt_mul'' h.1 k.2
  have P2 : q.num.natAbs * p.den < 2 ^ A * 2 ^ B := by
    rw [Nat.mul_comm (2 ^ A)]
    exact Nat.mul_lt_mul'' k.1 h.2
  have P3 : p.den * q.den < 2 ^ A * 2 ^ B := Nat.mul_lt_mul'' h.2 k.2
  have ep : 2 ^ (A + B + 1) = 2 ^ A * 2 ^ B * 2 := by rw [Nat.pow_succ, Nat.pow_add]
  refine ⟨?_, ?_⟩
  · rw [e1]
    have d1 := Int.natAbs_ediv_le_natAbs (p.num * ((q.den / Nat.gcd p.den q.den : Nat) : Int) + q.num * ((p.den / Nat.gcd p.den q.den : Nat) : Int)) ((Nat.gcd (p.num * ((q.den / Nat.gcd p.den q.den : Nat) : Int) + q.num * ((p.den / Nat.gcd p.den q.den : Nat) : Int)).natAbs (Nat.gcd p.den q.den) : Nat) : Int)
    have d2 := Int.natAbs_add_le (p.num * ((q.den / Nat.gcd p.den q.den : Nat) : Int)) (q.num * ((p.den / Nat.gcd p.den q.den : Nat) : Int))
    rw [Int.natAbs_mul, Int.natAbs_mul] at d2
    have m1 : p.num.natAbs * ((q.den / Nat.gcd p.den q.den : Nat) : Int).natAbs ≤ p.num.natAbs * q.den := Nat.mul_le_mul (Nat.le_refl _) (by rw [Int.natAbs_natCast]; exact b1)
    have m2 : q.num.natAbs * ((p.den / Nat.gcd p.den q.den : Nat) : Int).natAbs ≤ q.num.natAbs * p.den := Nat.mul_le_mul (Nat.le_refl _) (by rw [Int.natAbs_natCast]; exact a1)
    omega
  · rw [e2]
    have m1 := Nat.mul_le_mul a1 (Nat.div_le_self q.den (Nat.gcd (p.num * ((q.den / Nat.gcd p.den q.den : Nat) : Int) + q.num * ((p.den / Nat.gcd p.den q.den : Nat) : Int)).natAbs (Nat.gcd p.den q.den)))
    omega
theorem Sz.divInt {B : Nat} {t b : Int} (h : b ≠ 0) (ht : t.natAbs < 2 ^ B) (hb : b.natAbs < 2 ^ B) : Sz B (Rat.divInt t b) := by
  obtain ⟨l1, l2⟩ := low_abs t b h
  rw [low_rat t b h] at l1 l2
  exact ⟨Nat.lt_of_le_of_lt l1 ht, Nat.lt_of_le_of_lt (by simpa using l2) hb⟩
/-! ### lists of roots and fractions -/
def val : List (Int × Rat) → Int → Rat
  | [], _ => 0
  | (a, q) :: L, r => if a = r then q else val L r
structure Canon (L : List (Int × Rat)) : Prop where
  srt : L.Pairwise (fun x y => x.1 < y.1)
  nz : ∀ x ∈ L, x.2 ≠ 0
theorem val_not : ∀ {L : List (Int × Rat)} {r : Int}, (∀ x ∈ L, x.1 ≠ r) → val L r = 0
  | [], _, _ => rfl
  | (a, q) :: L, r, h => by
    show (if a = r then q else val L r) = 0
    rw [if_neg (h _ (List.mem_cons_self ..)), val_not fun x hx => h x (List.mem_cons_of_mem _ hx)]
theorem Canon.tail {x : Int × Rat} {L : List (Int × Rat)} (c : Canon (x :: L)) : Canon L := ⟨(List.pairwise_cons.mp c.srt).2, fun y hy => c.nz y (List.mem_cons_of_mem _ hy)⟩
theorem Canon.mem {L : List (Int × Rat)} (c : Canon L) {x : Int × Rat} (h : x ∈ L) : val L x.1 = x.2 := by
  induction L with
  | nil => cases h
  | cons y L ih =>
    obtain ⟨a, q⟩ := y
    rcases List.mem_cons.mp h with e | e
    · subst e
      exact if_pos rfl
    · have lt := (List.pairwise_cons.mp c.srt).1 x e
      show (if a = x.1 then q else val L x.1) = x.2
      rw [if_neg (by simp at lt; omega), ih c.tail e]
theorem Canon.val_ne {L : List (Int × Rat)} (c : Canon L) {r : Int} : val L r ≠ 0 ↔ ∃ q, (r, q) ∈ L := by
  refine ⟨fun h => ?_, fun ⟨q, h⟩ => ?_⟩
  · rcases Classical.em (∃ q, (r, q) ∈ L) with z | z
    · exact z
    · exact absurd (val_not fun x hx e => z ⟨x.2, by rw [← e]; exact hx⟩) h
  · rw [c.mem h]
    exact c.nz _ h
theorem canon_eq : ∀ {L M : List (Int × Rat)}, Canon L → Canon M → (∀ r, val L r = val M r) → L = M
  | [], [], _, _, _ => rfl
  | [], y :: M, _, c, h => by
    have z := h y.1
    rw [c.mem (List.mem_cons_self ..)] at z
    exact absurd z.symm (c.nz y (List.mem_cons_self ..))
  | x :: L, [], c, _, h => by
    have z := h x.1
    rw [c.mem (List.mem_cons_self ..)] at z
    exact absurd z (c.nz x (List.mem_cons_self ..))
  | x :: L, y :: M, c, d, h => by
    have key : x.1 = y.1 := by
      have lx : ∀ z ∈ L, x.1 < z.1 := (List.pairwise_cons.mp c.srt).1
      have ly : ∀ z ∈ M, y.1 < z.1 := (List.pairwise_cons.mp d.srt).1
      rcases Int.lt_trichotomy x.1 y.1 with z | z | z
      · have e := h x.1
        rw [c.mem (List.mem_cons_self ..), val_not (L := y :: M) (fun w hw => by
          rcases List.mem_cons.mp hw with e | e
          · rw [e]
            omega
          · have := ly w e
            omega)] at e
        exact absurd e (c.nz x (List.mem_cons_self ..))
      · exact z
      · have e := h y.1
        rw [d.mem (List.mem_cons_self ..), val_not (L := x :: L) (fun w hw => by
          rcases List.mem_cons.mp hw with e | e
          · rw [e]
            omega
          · have := lx w e
            omega)] at e
        exact absurd e.symm (d.nz y (List.mem_cons_self ..))
    have v : x.2 = y.2 := by
      have e := h x.1
      rw [c.mem (List.mem_cons_self ..), key, d.mem (List.mem_cons_self ..)] at e
      exact e
    have exy : x = y := Prod.ext key v
    subst exy
    rw [canon_eq c.tail d.tail fun r => ?_]
    by_cases e : x.1 = r
    · have lx : ∀ z ∈ L, x.1 < z.1 := (List.pairwise_cons.mp c.srt).1
      have ly : ∀ z ∈ M, x.1 < z.1 := (List.pairwise_cons.mp d.srt).1
      rw [val_not (fun w hw => by have := lx w hw; omega), val_not (fun w hw => by have := ly w hw; omega)]
    · have z := h r
      obtain ⟨a, q⟩ := x
      have z2 : (if a = r then q else val L r) = (if a = r then q else val M r) := z
      rw [if_neg e, if_neg e] at z2
      exact z2
/-! ### from a sorted list of keys -/
def kept (g : Int → Rat) (ns : List Int) : List (Int × Rat) := (ns.filter fun r => decide (g r ≠ 0)).map fun r => (r, g r)
theorem val_kept (g : Int → Rat) : ∀ {ns : List Int} (r : Int), (r ∉ ns → g r = 0) → val (kept g ns) r = g r
  | [], r, h => (h (by simp)).symm
  | n :: ns, r, h => by
    unfold kept
    by_cases hn : g n ≠ 0
    · rw [List.filter_cons, if_pos (by simpa using hn), List.map_cons]
      show (if n = r then g n else val (kept g ns) r) = g r
      by_cases e : n = r
      · rw [if_pos e, e]
      · rw [if_neg e, val_kept g r fun z => h (by
          rw [List.mem_cons]
          rintro (w | w)
          · exact e w.symm
          · exact z w)]
    · rw [List.filter_cons, if_neg (by simpa using hn)]
      show val (kept g ns) r = g r
      by_cases e : n = r
      · subst e
        have e0 : g n = 0 := Classical.not_not.mp hn
        by_cases m : n ∈ ns
        · exact val_kept g n fun z => absurd m z
        · rw [e0]
          refine val_not fun x hx => ?_
          unfold kept at hx
          obtain ⟨s, hs, rfl⟩ := List.mem_map.mp hx
          intro z
          have : s = n := z
          subst this
          exact m (List.mem_filter.mp hs).1
      · exact val_kept g r fun z => h (by
          rw [List.mem_cons]
          rintro (w | w)
          · exact e w.symm
          · exact z w)
theorem canon_kept (g : Int → Rat) {ns : List Int} (nd : ns.Nodup) (srt : ns.Pairwise (· ≤ ·)) : Canon (kept g ns) := by
  refine ⟨?_, fun x hx => ?_⟩
  · unfold kept
    rw [List.pairwise_map]
    have lt : ns.Pairwise (fun a b => a < b) := (List.pairwise_and_iff.mpr ⟨srt, nd⟩).imp fun {a b} h => by
      have h1 : a ≤ b := h.1
      have h2 : a ≠ b := h.2
      omega
    exact lt.filter _
  · unfold kept at hx
    obtain ⟨r, hr, rfl⟩ := List.mem_map.mp hx
    simpa using (List.mem_filter.mp hr).2
theorem kept_len (g : Int → Rat) (ns : List Int) : (kept g ns).length ≤ ns.length := by
  unfold kept
  rw [List.length_map]
  exact List.length_filter_le ..
theorem kept_snoc (g : Int → Rat) (ns : List Int) (r : Int) : kept g (ns ++ [r]) = kept g ns ++ (if g r ≠ 0 then [(r, g r)] else []) := by
  unfold kept
  rw [List.filter_append, List.map_append]
  congr 1
  by_cases h : g r ≠ 0
  · rw [if_pos h, List.filter_cons, if_pos (by simpa using h)]
    rfl
  · rw [if_neg h, List.filter_cons, if_neg (by simpa using h)]
    rfl
theorem val_take {M : List (Int × Rat)} (c : Canon M) : ∀ {i : Nat} {x : Int × Rat} (s : Int), M[i]? = some x → val (M.take i) x.1 = 0 ∧ val (M.take (i + 1)) s = if s = x.1 then x.2 else val (M.take i) s := by
  induction M with
  | nil =>
    intro i x s h
    simp at h
  | cons y M ih =>
    intro i x s h
    obtain ⟨a, q⟩ := y
    cases i with
    | zero =>
      have e : (a, q) = x := Option.some.inj h
      subst e
      refine ⟨rfl, ?_⟩
      show (if a = s then q else 0) = if s = a then q else 0
      by_cases e : a = s
      · rw [if_pos e, if_pos e.symm]
      · rw [if_neg e, if_neg fun z => e z.symm]
    | succ i =>
      have h' : M[i]? = some x := h
      obtain ⟨h1, h2⟩ := ih c.tail s h'
      have lt : a < x.1 := (List.pairwise_cons.mp c.srt).1 x (List.mem_of_getElem? h')
      refine ⟨?_, ?_⟩
      · show (if a = x.1 then q else val (M.take i) x.1) = 0
        rw [if_neg (by omega), h1]
      · show (if a = s then q else val (M.take (i + 1)) s) = if s = x.1 then x.2 else (if a = s then q else val (M.take i) s)
        rw [h2]
        by_cases e : a = s
        · rw [if_pos e, if_neg (by omega), if_pos e]
        · rw [if_neg e, if_neg e]
theorem Sz.val {B : Nat} {L : List (Int × Rat)} (h0 : 0 < B) (h : ∀ x ∈ L, Sz B x.2) (r : Int) : Sz B (val L r) := by
  induction L with
  | nil => exact Sz.zero h0
  | cons y L ih =>
    obtain ⟨a, q⟩ := y
    show Sz B (if a = r then q else TCR.val L r)
    split
    · exact h _ (List.mem_cons_self ..)
    · exact ih fun x hx => h x (List.mem_cons_of_mem _ hx)
def negL (L : List (Int × Rat)) : List (Int × Rat) := L.map fun x => (x.1, -x.2)
theorem val_neg : ∀ (L : List (Int × Rat)) (r : Int), val (negL L) r = -val L r
  | [], r => by
    show (0 : Rat) = -0
    rfl
  | (a, q) :: L, r => by
    show (if a = r then -q else val (negL L) r) = -(if a = r then q else val L r)
    split
    · rfl
    · exact val_neg L r
theorem canon_neg {L : List (Int × Rat)} (c : Canon L) : Canon (negL L) := by
  refine ⟨?_, fun x hx => ?_⟩
  · unfold negL
    rw [List.pairwise_map]
    exact c.srt
  · obtain ⟨y, hy, rfl⟩ := List.mem_map.mp hx
    have z := c.nz y hy
    show -y.2 ≠ 0
    grind
theorem canon_one {r : Int} {q : Rat} (h : q ≠ 0) : Canon [(r, q)] := ⟨List.pairwise_singleton .., fun x hx => by rw [List.mem_singleton.mp hx]; exact h⟩
theorem canon_nil : Canon [] := ⟨List.Pairwise.nil, fun x hx => by cases hx⟩
end TCR
namespace TC
open PySem PySem.Spec PyProof.Rows L2 TCA
theorem iteNT {c A B : Prop} [Decidable c] (hc : ¬ c) (h : A) : if (!decide c) = true then A else B := by
  rw [decide_eq_false hc]
  exact iteT h
theorem iteD1 {c A B : Prop} [Decidable c] (hc : c) (h : A) : if decide c = true then A else B := by
  rw [decide_eq_true hc]
  exact iteT h
theorem iteD0 {c A B : Prop} [Decidable c] (hc : ¬ c) (h : B) : if decide c = true then A else B := by
  rw [decide_eq_false hc]
  exact iteF h
theorem ine {a b : Int} (h : a ≠ b) : ¬ (V.int a = V.int b) := fun e => h (V.int.inj e)
theorem same_upd {H : Hp} {p : Addr} {o : HO} (h : H p = none) : Same H (upd H p o) := fun b x e => by
  rw [upd_ne (ne_of_none e h)]
  exact e
section
variable {P : Program} {w : World} {K : PySem.W.Frag} {mg : Str → Option Value} {base : Heap} {f : Addr} {fd : FuncData}
/-! ### is_whole -/
def spWhole : Sp := fun vs H Q _ => ∃ n : Int, vs = [.int n] ∧ Q (.bl true) H
theorem scWhole : FnScope ["thing"] ["thing"] (defScope sWhole) := ⟨rfl, rfl, rfl, by decide +kernel, rfl, by decide +kernel, by decide +kernel⟩
theorem ok_whole (F : FnP K "is_whole" sWhole f fd) (gI : mg "isinstance" = none) (gi : mg "int" = none) (gb : mg "bool" = none) : FnOk P w K mg base CX0 1 f fd ["thing"] spWhole := by
  refine F.ok scWhole (fun vs H Q E h => ?_) (fun cdv A outer s H vs Q E hr h => ?_)
  · obtain ⟨n, rfl, _⟩ := h
    rfl
  · obtain ⟨n, rfl, q⟩ := h
    refine ⟨_, PSs.nox (pss_one (ps_ret (pe_and (pe_callB call_isi (by rfl) gI (by decide +kernel) (pa_cons (pv 0) (pa_cons (pe_bltn (v := .ty "int") (by rfl) gi (by decide +kernel) rfl) pa_nil)))
      (pe_one (pe_not (pe_callB call_isi (by rfl) gI (by decide +kernel) (pa_cons (pv 0) (pa_cons (pe_bltn (v := .ty "bool") (by rfl) gb (by decide +kernel) rfl) pa_nil)))))))), ?_⟩
    refine ⟨_, rfl, _, _, _, _, true, rfl, .ty "int", .base (.int n), kit_ty (by decide +kernel), true, rfl, iteT ?_⟩
    refine ⟨_, rfl, _, _, _, _, false, rfl, .ty "bool", .base (.int n), kit_ty (by decide +kernel), false, rfl, q⟩
/-! ### shared -/
def spShared : Sp := fun vs H Q _ => ∃ a b : Int, vs = [.int a, .int b] ∧ Q (.int ((Int.gcd a b : Nat) : Int)) H
theorem scShared : FnScope ["one", "other"] ["one", "other"] (defScope sShared) := ⟨rfl, rfl, rfl, by decide +kernel, rfl, by decide +kernel, by decide +kernel⟩
theorem ok_shared (F : FnP K "shared" sShared f fd) (gA : mg "abs" = none) : FnOk P w K mg base CX0 1 f fd ["one", "other"] spShared := by
  refine F.ok scShared (fun vs H Q E h => ?_) (fun cdv A outer s H vs Q E hr h => ?_)
  · obtain ⟨a, b, rfl, _⟩ := h
    rfl
  · obtain ⟨a, b, rfl, q⟩ := h
    refine ⟨_, PSs.nox (pss_cons (ps_while PassesOwn.never (pt_cmpR op_ne (pv 1) pe_int (nomark _))
        (pss_one (ps_par (i := 0) (j := 1) rfl scShared.nd rfl rfl (by decide) rfl rfl (pa_cons (pv 1) (pa_cons (pe_op op_modN (pv 0) (pv 1)) pa_nil)) (by rfl))))
      (pss_one (ps_ret (pe_callB call_abs (by rfl) gA (by decide +kernel) (pa_cons (pv 0) pa_nil))))), ?_⟩
    refine ⟨fun m σ H' => ∃ x y : Int, σ = [some (.int x), some (.int y)] ∧ H' = H ∧ Int.gcd x y = Int.gcd a b ∧ y.natAbs = m, ⟨_, a, b, rfl, rfl, rfl, rfl⟩, fun m σ H' hW => ?_⟩
    obtain ⟨x, y, rfl, rfl, eg, em⟩ := hW
    refine ⟨_, rfl, rfl, _, rfl, ?_⟩
    by_cases hy : y = 0
    · subst hy
      refine iteNS rfl ?_
      refine ⟨_, rfl, x, rfl, ?_⟩
      rw [TCM.abs_eq, ← show Int.gcd x 0 = x.natAbs from Int.gcd_zero_right x, eg]
      exact q
    · refine iteNT (ine hy) ?_
      refine ⟨fun σ' H'' => ∃ x' y' : Int, σ' = [some (.int x'), some (.int y')] ∧ H'' = H' ∧ Int.gcd x' y' = Int.gcd a b ∧ y'.natAbs < m, fun σ' H'' hN => ?_, ?_⟩
      · obtain ⟨x', y', e1, e2, e3, e4⟩ := hN
        exact ⟨_, e4, x', y', e1, e2, e3, rfl⟩
      · refine ⟨_, rfl, _, rfl, _, rfl, x, y, rfl, rfl, hy, _, _, rfl, y, x.fmod y, rfl, rfl, ?_, ?_⟩
        · rw [TCM.gcd_fmod, eg]
        · rw [← em]
          exact TCM.fmod_lt x y hy
/-! ### in_lowest -/
def spLowest : Sp := fun vs H Q _ => ∃ (t b : Int) (A : Nat), vs = [.int t, .int b] ∧ b ≠ 0 ∧ b.natAbs < 2 ^ A ∧ 0 < A ∧ A ≤ 8000 ∧ ∀ p, H p = none → Q (.ref p) (upd H p (.tup [.int (TCM.low t b).1, .int (TCM.low t b).2]))
theorem scLowest : FnScope ["top", "bottom", "common"] ["top", "bottom"] (defScope sLowest) := ⟨rfl, rfl, rfl, by decide +kernel, rfl, by decide +kernel, by decide +kernel⟩
theorem log_lt {d : Int} {n : Nat} (h : n ≤ 9000) (hn : 0 < n) (hd : d.natAbs < 2 ^ n) : d.natAbs.log2 < 9000 := Nat.lt_of_lt_of_le (PySem.Flt.log2_lt_of hn hd) h
theorem ok_lowest {fS : Addr} {fdS : FuncData} (F : FnP K "in_lowest" sLowest f fd) (GS : FnOk P w K mg base CX0 1 fS fdS ["one", "other"] spShared) (bS : L2.Binds K fdS ["one", "other"] []) (kS : PySem.W.keepIn K (.ref fS) = true) (gS : mg "shared" = some (.ref fS)) :
    FnOk P w K mg base CX0 2 f fd ["top", "bottom"] spLowest := by
  refine F.ok scLowest (fun vs H Q E h => ?_) (fun cdv A outer s H vs Q E hr h => ?_)
  · obtain ⟨a, b, _, rfl, _⟩ := h
    rfl
  · obtain ⟨t, b, Ab, rfl, hb, hz, hA0, hA8, q⟩ := h
    refine ⟨_, PSs.nox (pss_cons (ps_set (i := 2) scLowest.nd rfl (.inl rfl) (pe_call GS hr (by rfl) gS kS bS .nil pass0 (pa_cons (pv 0) (pa_cons (pv 1) pa_nil))))
      (pss_cons (ps_if (pt_cmpR op_lt (pv 1) pe_int (nomark _)) (pss_one (ps_set (i := 2) scLowest.nd rfl (.inl rfl) (pe_un un_neg (pv 2)))) pss_nil)
      (pss_one (ps_ret (pe_tup (pa_cons (pe_op op_fdivNW (pv 0) (pv 2)) (pa_cons (pe_op op_fdivNW (pv 1) (pv 2)) pa_nil))))))), ?_⟩
    refine ⟨_, rfl, _, rfl, t, b, rfl, ?_⟩
    have fin : ∀ σ : L2.St, σ = [some (.int t), some (.int b), some (.int (TCM.sgn t b))] → tRet (tTup (tCons (tOp (rI CDivNW fun i j => .int (i.fdiv j)) (tVar 0) (tVar 2)) (tCons (tOp (rI CDivNW fun i j => .int (i.fdiv j)) (tVar 1) (tVar 2)) tNil))) { nx := fun _ H' => Q .non H', rt := Q } σ H := by
      rintro σ rfl
      have hs : CDivNW t (TCM.sgn t b) := ⟨TCM.sgn_ne t b hb, log_lt (n := Ab) (by omega) hA0 (Nat.lt_of_le_of_lt (by rw [TCM.sgn_abs]; exact TCM.gcd_le t b hb) hz)⟩
      exact ⟨_, rfl, _, rfl, t, _, rfl, rfl, hs, _, rfl, _, rfl, b, _, rfl, rfl, hs, by show 2 ≤ sizeLine; decide, fun p hp => q p hp⟩
    refine ⟨_, rfl, b, 0, rfl, rfl, _, rfl, ?_⟩
    by_cases hb0 : b < 0
    · refine iteD1 hb0 ?_
      refine ⟨_, rfl, _, rfl, ?_⟩
      refine fin _ ?_
      show [some (V.int t), some (V.int b), some (V.int (-((Int.gcd t b : Nat) : Int)))] = _
      rw [show TCM.sgn t b = -((Int.gcd t b : Nat) : Int) from if_pos hb0]
    · refine iteD0 hb0 ?_
      refine fin _ ?_
      show [some (V.int t), some (V.int b), some (V.int ((Int.gcd t b : Nat) : Int))] = _
      rw [show TCM.sgn t b = ((Int.gcd t b : Nat) : Int) from if_neg hb0]
end
theorem primes_ok : ∀ p ∈ TCM.primes, 2 ≤ p ∧ p ≤ 997 := by decide
theorem pp_le {p : Int} {m : Int} (h : 2 ≤ p) (h2 : p ≤ m) : 4 ≤ p * p ∧ p * p ≤ m * m := ⟨TCM.pp4 h, Int.mul_le_mul h2 h2 (by omega) (by omega)⟩
/-- the inner loop's word: k more turns -/
def WInn (p n0 o0 n o : Int) (k : Nat) : Prop := 0 < n ∧ n ≤ 1000000 ∧ n < 4 ^ k ∧ TCM.whl k p n o = TCM.whl 10 p n0 o0
theorem WInn.start {p n o : Int} (h : 0 < n) (h2 : n ≤ 1000000) : WInn p n o n o 10 := ⟨h, h2, Int.lt_of_le_of_lt h2 (by decide), rfl⟩
theorem WInn.turn {p n0 o0 n o : Int} {k : Nat} (w : WInn p n0 o0 n o k) (hp : 2 ≤ p) (h : n % (p * p) = 0) : ∃ j, WInn p n0 o0 (n / (p * p)) (o * p) j ∧ (n / (p * p)).toNat < n.toNat := by
  obtain ⟨h0, h1, h2, h3⟩ := w
  obtain ⟨a, b, c⟩ := TCM.sq_div h0 (TCM.pp4 hp) h
  cases k with
  | zero =>
    have : n < 1 := h2
    omega
  | succ k =>
    refine ⟨k, ⟨a, by omega, ?_, ?_⟩, by omega⟩
    · have e : (4 : Int) ^ (k + 1) = 4 ^ k * 4 := Int.pow_succ ..
      omega
    · rw [← h3]
      show _ = (if n % (p * p) = 0 then TCM.whl k p (n / (p * p)) (o * p) else (n, o))
      rw [if_pos h]
theorem WInn.stop {p n0 o0 n o : Int} {k : Nat} (w : WInn p n0 o0 n o k) (h : ¬ n % (p * p) = 0) : TCM.whl 10 p n0 o0 = (n, o) := by
  obtain ⟨h0, h1, h2, h3⟩ := w
  rw [← h3]
  cases k with
  | zero => rfl
  | succ k =>
    show (if n % (p * p) = 0 then TCM.whl k p (n / (p * p)) (o * p) else (n, o)) = _
    rw [if_neg h]
theorem cmul_r {i j : Int} (h1 : -1000000 ≤ j) (h2 : j ≤ 1000000) : CMul i j := .inr ⟨by omega, by omega⟩
section
variable {P : Program} {w : World} {K : PySem.W.Frag} {mg : Str → Option Value} {base : Heap} {f : Addr} {fd : FuncData}
/-! ### squares_out -/
def spSquares : Sp := fun vs H Q _ => ∃ n : Int, vs = [.int n] ∧ 0 ≤ n ∧ n ≤ 1000000 ∧ ∀ p H', Same H H' → H p = none → H' p = some (.tup [.int (TCM.sqOut n).1, .int (TCM.sqOut n).2.1, .int (TCM.sqOut n).2.2]) → Q (.ref p) H'
theorem scSquares : FnScope ["number", "outside", "inside", "prime"] ["number"] (defScope sSquares) := ⟨rfl, rfl, rfl, by decide +kernel, rfl, by decide +kernel, by decide +kernel⟩
theorem ok_squares {aP : Addr} (F : FnP K "squares_out" sSquares f fd) (gP : mg "PRIMES" = some (.ref aP)) (hT : ∀ H, SqT K H aP (TCM.primes.map V.int)) : FnOk P w K mg base CX0 1 f fd ["number"] spSquares := by
  refine F.ok scSquares (fun vs H Q E h => ?_) (fun cdv A outer s H vs Q E hr h => ?_)
  · obtain ⟨a, rfl, _⟩ := h
    rfl
  · obtain ⟨n, rfl, h0, h1, q⟩ := h
    refine ⟨_, PSs.nox (pss_cons (ps_if (pt_cmpR op_eq (pv 0) pe_int (nomark _)) (pss_one (ps_ret (pe_tup (pa_cons pe_int (pa_cons pe_int (pa_cons pe_int pa_nil)))))) pss_nil)
      (pss_cons (ps_asg (pe_tup (pa_cons pe_int (pa_cons pe_int pa_nil))) (pg_tup rfl (pgs_cons (pg_name (i := 1) scSquares.nd rfl (.inl rfl)) (pgs_cons (pg_name (i := 2) scSquares.nd rfl (.inl rfl)) pgs_nil))))
      (pss_cons (ps_for PassesOwn.never rfl (pi_tup (pe_glob (v := .ref aP) (by rfl) gP rfl)) (pg_name (i := 3) scSquares.nd rfl (.inl rfl))
        (pss_cons (ps_if (pt_cmpR op_eq (pv 0) pe_int (nomark _)) (pss_one ps_break) pss_nil)
        (pss_cons (ps_while PassesOwn.never (pt_cmpR op_eq (pe_op op_mod (pv 0) (pe_op op_mul (pv 3) (pv 3))) pe_int (nomark _))
          (pss_cons (ps_aug (i := 0) scSquares.nd rfl (.inl rfl) (pe_op op_mul (pv 3) (pv 3)) iop_fdiv) (pss_one (ps_aug (i := 1) scSquares.nd rfl (.inl rfl) (pv 3) iop_mul))))
        (pss_one (ps_if (pt_cmpR op_eq (pe_op op_mod (pv 0) (pv 3)) pe_int (nomark _))
          (pss_cons (ps_aug (i := 0) scSquares.nd rfl (.inl rfl) (pv 3) iop_fdiv) (pss_one (ps_aug (i := 2) scSquares.nd rfl (.inl rfl) (pv 3) iop_mul))) pss_nil)))))
      (pss_one (ps_ret (pe_tup (pa_cons (pv 1) (pa_cons (pv 2) (pa_cons (pv 0) pa_nil))))))))), ?_⟩
    refine ⟨_, rfl, rfl, _, rfl, ?_⟩
    by_cases hn : n = 0
    · subst hn
      refine iteD1 rfl ?_
      exact ⟨by show 3 ≤ sizeLine; decide, fun p hp => q p _ (same_upd hp) hp upd_same⟩
    · refine iteD0 (ine hn) ?_
      have eq0 : TCM.sqOut n = TCM.sqL TCM.primes n 1 1 := if_neg hn
      refine ⟨by show 2 ≤ sizeLine; decide, fun c hc => ?_⟩
      refine ⟨c, _, rfl, SqT.of upd_same, rfl, _, _, rfl, _, _, rfl, rfl, ?_⟩
      have sm1 : Same H (upd H c (.tup [.int 1, .int 1])) := same_upd hc
      replace q : ∀ p, (upd H c (.tup [.int 1, .int 1])) p = none → Q (.ref p) (upd (upd H c (.tup [.int 1, .int 1])) p (.tup [.int (TCM.sqOut n).1, .int (TCM.sqOut n).2.1, .int (TCM.sqOut n).2.2])) := fun p hp => q p _ (sm1.trans (same_upd hp)) (sm1.free hp) upd_same
      generalize upd H c (.tup [.int 1, .int 1]) = H at q ⊢
      refine ⟨aP, rfl, ⟨_, hT H⟩, for_tup (xs := TCM.primes.map V.int) (fun j σ H' => ∃ (n' o i : Int) (pr : Option V), σ = [some (.int n'), some (.int o), some (.int i), pr] ∧ H' = H ∧ 0 < n' ∧ n' ≤ 1000000 ∧ TCM.sqL (TCM.primes.drop j) n' o i = TCM.sqOut n)
        ⟨n, 1, 1, none, rfl, rfl, by omega, h1, eq0.symm⟩ (fun j σ H' _ hP => ?_) (fun j x σ H' hx hP => ?_) (fun σ H' hP => ?_)⟩
      · obtain ⟨_, _, _, _, _, rfl, _⟩ := hP
        exact hT _
      · obtain ⟨n', o, i, pr, rfl, rfl, g0, g1, ge⟩ := hP
        rw [List.getElem?_map] at hx
        obtain ⟨p, hp, rfl⟩ : ∃ p, TCM.primes[j]? = some p ∧ V.int p = x := by
          cases e : TCM.primes[j]? with
          | none =>
            rw [e] at hx
            cases hx
          | some p =>
            rw [e] at hx
            exact ⟨p, rfl, Option.some.inj hx⟩
        obtain ⟨p2, p9⟩ := primes_ok p (List.mem_of_getElem? hp)
        have hdrop : TCM.primes.drop j = p :: TCM.primes.drop (j + 1) := by
          obtain ⟨hl, e⟩ := List.getElem?_eq_some_iff.mp hp
          rw [List.drop_eq_getElem_cons hl, e]
        rw [hdrop] at ge
        obtain ⟨pp1, pp2⟩ := pp_le p2 p9
        have cd : CDiv n' (p * p) := ⟨by omega, by omega⟩
        refine ⟨_, rfl, rfl, _, rfl, ?_⟩
        by_cases hn1 : n' = 1
        · subst hn1
          refine iteD1 rfl ?_
          have e2 : (o, i, (1 : Int)) = TCM.sqOut n := by
            rw [← ge]
            show _ = (if (1 : Int) = 1 then (o, i, (1 : Int)) else _)
            rw [if_pos rfl]
          rw [← e2] at q
          exact ⟨_, rfl, _, rfl, _, rfl, by show 3 ≤ sizeLine; decide, fun p hp => q p hp⟩
        · refine iteD0 (ine hn1) ?_
          refine ⟨fun m σ H'' => ∃ (n2 o2 : Int) (k : Nat), σ = [some (.int n2), some (.int o2), some (.int i), some (.int p)] ∧ H'' = H' ∧ WInn p n' o n2 o2 k ∧ n2.toNat = m,
            ⟨_, n', o, 10, rfl, rfl, WInn.start g0 g1, rfl⟩, fun m σ H'' hW => ?_⟩
          obtain ⟨n2, o2, k, rfl, rfl, hw, hm⟩ := hW
          refine ⟨_, rfl, _, rfl, _, rfl, p, p, rfl, rfl, cmul_r (by omega) (by omega), n2, p * p, rfl, rfl, by show 0 < p * p; omega, rfl, _, rfl, ?_⟩
          by_cases hz : n2 % (p * p) = 0
          · refine iteD1 (congrArg V.int hz) ?_
            obtain ⟨k2, hw2, hlt⟩ := hw.turn p2 hz
            refine ⟨fun σ' H3 => σ' = [some (.int (n2 / (p * p))), some (.int (o2 * p)), some (.int i), some (.int p)] ∧ H3 = H'', fun σ' H3 hN => ?_, ?_⟩
            · obtain ⟨rfl, rfl⟩ := hN
              exact ⟨_, hm ▸ hlt, _, _, k2, rfl, rfl, hw2, rfl⟩
            · exact ⟨_, rfl, _, rfl, _, rfl, p, p, rfl, rfl, cmul_r (by omega) (by omega), n2, p * p, rfl, rfl, ⟨by omega, by omega⟩, _, rfl, _, rfl, o2, p, rfl, rfl, cmul_r (by omega) (by omega), rfl, rfl⟩
          · refine iteD0 (ine hz) ?_
            have ew := hw.stop hz
            obtain ⟨w0, w1, _, _⟩ := hw
            have ge2 : (if n2 % p = 0 then TCM.sqL (TCM.primes.drop (j + 1)) (n2 / p) o2 (i * p) else TCM.sqL (TCM.primes.drop (j + 1)) n2 o2 i) = TCM.sqOut n := by
              rw [← ge]
              show _ = (if n' = 1 then (o, i, n') else if (TCM.whl 10 p n' o).1 % p = 0 then TCM.sqL (TCM.primes.drop (j + 1)) ((TCM.whl 10 p n' o).1 / p) (TCM.whl 10 p n' o).2 (i * p) else TCM.sqL (TCM.primes.drop (j + 1)) (TCM.whl 10 p n' o).1 (TCM.whl 10 p n' o).2 i)
              rw [if_neg hn1, ew]
            refine ⟨_, rfl, _, rfl, n2, p, rfl, rfl, by show 0 < p; omega, rfl, _, rfl, ?_⟩
            by_cases hz2 : n2 % p = 0
            · refine iteD1 (congrArg V.int hz2) ?_
              rw [if_pos hz2] at ge2
              have e3 := Int.mul_ediv_add_emod n2 p
              have l1 : 0 < n2 / p := by
                rcases Int.lt_or_le 0 (n2 / p) with z | z
                · exact z
                · have := Int.mul_le_mul_of_nonneg_left z (show 0 ≤ p by omega)
                  rw [Int.mul_zero] at this
                  omega
              have l2 : n2 / p ≤ 1000000 := Int.le_trans (Int.ediv_le_self _ (by omega)) w1
              exact ⟨_, rfl, _, rfl, n2, p, rfl, rfl, ⟨by omega, by omega⟩, _, rfl, _, rfl, i, p, rfl, rfl, cmul_r (by omega) (by omega), n2 / p, o2, i * p, some (.int p), rfl, rfl, l1, l2, ge2⟩
            · refine iteD0 (ine hz2) ?_
              rw [if_neg hz2] at ge2
              exact ⟨n2, o2, i, some (.int p), rfl, rfl, w0, w1, ge2⟩
      · obtain ⟨n', o, i, pr, rfl, rfl, g0, g1, ge⟩ := hP
        rw [List.length_map, List.drop_length] at ge
        have e2 : (o, i, n') = TCM.sqOut n := ge
        rw [← e2] at q
        exact ⟨_, rfl, _, rfl, _, rfl, by show 3 ≤ sizeLine; decide, fun p hp => q p hp⟩
/-! ### _law_low -/
def spLowL : Sp := fun vs H Q _ => ∃ (t b : Int) (A : Nat), vs = [.int t, .int b] ∧ b ≠ 0 ∧ b.natAbs < 2 ^ A ∧ 0 < A ∧ A ≤ 8000 ∧ ∀ p, H p = none → Q (.ref p) (upd H p (.tup [.int (TCM.lowL t b).1, .int (TCM.lowL t b).2]))
/-! ### _law_pen -/
def spPen (K : PySem.W.Frag) : Sp := fun vs H Q _ => ∃ (a : Addr) (ns : List Int), vs = [.ref a] ∧ SqL K H a (ns.map V.int) ∧ ns.length ≤ 63 ∧
  ∀ (p c : Addr) (ms : List Int) H', Same H H' → H p = none → H' p = some (.lst [.ref c, .int 0, .int 0]) → H' c = some (.lst (ms.map V.int)) → p ≠ c → Q (.ref p) H'
theorem scPen : FnScope ["_law_script"] ["_law_script"] (defScope sPen) := ⟨rfl, rfl, rfl, by decide +kernel, rfl, by decide +kernel, by decide +kernel⟩
theorem ok_pen (F : FnP K "_law_pen" sPen f fd) (gl : mg "list" = none) : FnOk P w K mg base CX0 1 f fd ["_law_script"] (spPen K) := by
  refine F.ok scPen (fun vs H Q E h => ?_) (fun cdv A outer s H vs Q E hr h => ?_)
  · obtain ⟨a, ns, rfl, _⟩ := h
    rfl
  · obtain ⟨a, ns, rfl, hS, hn, q⟩ := h
    refine ⟨_, PSs.nox (pss_one (ps_ret (pe_lst (pa_cons (pe_callTy call_list_of (by rfl) gl (by decide +kernel) (pa_cons (pe_slice sl_list (pv 0) po_none (po_some pe_int)) pa_nil)) (pa_cons pe_int (pa_cons pe_int pa_nil)))))), ?_⟩
    refine ⟨_, rfl, _, rfl, a, _, rfl, hS, fun c1 hc1 => ?_⟩
    have sm1 := same_upd (o := .lst (cutV (ns.map V.int) none (some 63))) hc1
    refine ⟨c1, _, rfl, .inl (SqL.of upd_same), fun c hc => ?_⟩
    have sm2 := same_upd (o := .lst (cutV (ns.map V.int) none (some 63))) hc
    refine ⟨by show 3 ≤ sizeLine; decide, fun p hp => ?_⟩
    have sm3 := same_upd (o := .lst [.ref c, .int 0, .int 0]) hp
    have ec : cutV (ns.map V.int) none (some 63) = ((ns.drop (HT.sIx (ns.map V.int).length 0 none)).take (HT.sIx (ns.map V.int).length (ns.map V.int).length (some 63) - HT.sIx (ns.map V.int).length 0 none)).map V.int := by
      rw [List.map_take, List.map_drop]
      rfl
    refine q p c ((ns.drop (HT.sIx (ns.map V.int).length 0 none)).take (HT.sIx (ns.map V.int).length (ns.map V.int).length (some 63) - HT.sIx (ns.map V.int).length 0 none)) _ ((sm1.trans sm2).trans sm3) ((sm1.trans sm2).free hp) upd_same ?_ ?_
    · rw [← ec]
      exact sm3 _ _ upd_same
    · exact fun e => by
        rw [e, upd_same] at hp
        cases hp
/-! ### _law_draw -/
/-- the pen: its cells at c, where it stands, what is left of a great cell -/
def PenAt (H : Hp) (p c : Addr) (ms : List Int) (n : Int) : Prop := ∃ left : Int, H p = some (.lst [.ref c, .int n, .int left]) ∧ H c = some (.lst (ms.map V.int)) ∧ p ≠ c
/-- all but the pen is as it was -/
def SameBut (p : Addr) (H H' : Hp) : Prop := ∀ b o, b ≠ p → H b = some o → H' b = some o
def spDraw : Sp := fun vs H Q _ => ∃ (p c : Addr) (ms : List Int) (n m : Int), vs = [.ref p, .int m] ∧ PenAt H p c ms n ∧ 0 ≤ n ∧ n ≤ 1000000 ∧ 0 < m ∧ m < 2 ^ 1000 ∧
  ∀ (d n' : Int) H', 0 ≤ d → d < m → n ≤ n' → n' ≤ n + 1 → PenAt H' p c ms n' → SameBut p H H' → Q (.int d) H'
theorem scDraw : FnScope ["_law_pen_here", "_law_many", "_law_found", "_law_at", "_law_cell", "_law_number"] ["_law_pen_here", "_law_many"] (defScope sDraw) := ⟨rfl, rfl, rfl, by decide +kernel, rfl, by decide +kernel, by decide +kernel⟩
theorem but_upd {p : Addr} {H H1 : Hp} {o : HO} (s : SameBut p H H1) : SameBut p H (upd H1 p o) := fun b x hb e => by
  rw [upd_ne hb]
  exact s b x hb e
set_option exponentiation.threshold 2000 in
theorem wdiv {i m : Int} (h : 0 < m) (h2 : m < 2 ^ 1000) : CDivW i m := ⟨h, Nat.lt_of_lt_of_le (PySem.Flt.log2_lt_of (show 0 < 1000 by decide) (show m.natAbs < 2 ^ 1000 by omega)) (by decide)⟩
theorem ok_draw (F : FnP K "_law_draw" sDraw f fd) (gl : mg "len" = none) : FnOk P w K mg base CX0 1 f fd ["_law_pen_here", "_law_many"] spDraw := by
  refine F.ok scDraw (fun vs H Q E h => ?_) (fun cdv A outer s H vs Q E hr h => ?_)
  · obtain ⟨p, c, ms, n, m, rfl, _⟩ := h
    rfl
  · obtain ⟨p, c, ms, n, m, rfl, ⟨left, hp, hc, hpc⟩, n0, n1, m0, m1, q⟩ := h
    refine ⟨_, PSs.nox (pss_cons (ps_if (pt_cmpR op_gt (pe_ix ix_list (pv 0) pe_int (fun _ _ => rfl)) pe_int (nomark _))
        (pss_cons (ps_set (i := 2) scDraw.nd rfl (.inl rfl) (pe_op op_mod (pe_ix ix_list (pv 0) pe_int (fun _ _ => rfl)) (pv 1)))
        (pss_cons (ps_asg (pe_op op_fdivW (pe_ix ix_list (pv 0) pe_int (fun _ _ => rfl)) (pv 1)) (pg_sub (pv 0) pe_int set_list))
        (pss_one (ps_ret (pv 2))))) pss_nil)
      (pss_cons (ps_set (i := 3) scDraw.nd rfl (.inl rfl) (pe_ix ix_list (pv 0) pe_int (fun _ _ => rfl)))
      (pss_cons (ps_asg (pe_op op_add (pv 3) pe_int) (pg_sub (pv 0) pe_int set_list))
      (pss_cons (ps_set (i := 4) scDraw.nd rfl (.inl rfl) pe_int)
      (C8.pss_cut (ps_if (pt_cmpR op_gt (pe_callB call_len_seq (by rfl) gl PySem.boot_len (pa_cons (pe_ix ix_list (pv 0) pe_int (fun _ _ => rfl)) pa_nil)) pe_int (nomark _))
        (pss_one (ps_set (i := 4) scDraw.nd rfl (.inl rfl) (pe_ix ix_list (pe_ix ix_list (pv 0) pe_int (fun _ _ => rfl)) (pe_op op_mod (pv 3) (pe_callB call_len_seq (by rfl) gl PySem.boot_len (pa_cons (pe_ix ix_list (pv 0) pe_int (fun _ _ => rfl)) pa_nil))) (fun _ _ => rfl)))) pss_nil)
      (C8.pss_cut (ps_if (PW.pt (pw_and (pt_cmpR op_lt (pv 3) (pe_callB call_len_seq (by rfl) gl PySem.boot_len (pa_cons (pe_ix ix_list (pv 0) pe_int (fun _ _ => rfl)) pa_nil)) (nomark _)) (pw_and1 (pt_cmpR op_ge (pv 4) (pe_op op_pow pe_int pe_int) (nomark _)))))
        (pss_cons (ps_asg (pe_op op_fdivW (pv 4) (pv 1)) (pg_sub (pv 0) pe_int set_list)) (pss_one (ps_ret (pe_op op_mod (pv 4) (pv 1))))) pss_nil)
      (pss_cons (ps_set (i := 5) scDraw.nd rfl (.inl rfl) (pe_op op_mod (pe_op op_mul (pe_op op_add (pe_op op_mod (pv 4) pe_int) pe_int) (pe_op op_add (pe_op op_add (pe_op op_mul (pv 3) (pv 3)) (pe_op op_mul pe_int (pv 3))) pe_int)) pe_int))
      (pss_cons (ps_set (i := 5) scDraw.nd rfl (.inl rfl) (pe_op op_mod (pe_op op_mul (pe_op op_mod (pe_op op_add (pe_op op_pow (pv 5) pe_int) (pe_op op_mul pe_int (pv 3))) pe_int) pe_int) pe_int))
      (C8.pss_cut (ps_if (pt_cmpR op_gt (pv 1) (pe_op op_pow pe_int pe_int) (nomark _))
        (pss_one (ps_set (i := 5) scDraw.nd rfl (.inl rfl) (pe_op op_add (pe_op op_mul (pv 5) pe_int) (pe_op op_mod (pe_op op_mul (pe_op op_mod (pv 5) pe_int) pe_int) pe_int)))) pss_nil)
      (pss_one (ps_ret (pe_op op_mod (pe_op op_fdiv (pv 5) pe_int) (pv 1))))))))))))), ?_⟩
    have i2 : atI ([.ref c, .int n, .int left] : List V) 2 = some (.int left) := atI_nat (j := 2) rfl
    have i1 : atI ([.ref c, .int n, .int left] : List V) 1 = some (.int n) := atI_nat (j := 1) rfl
    refine ⟨_, rfl, p, _, 2, _, rfl, rfl, SqL.of hp, i2, left, 0, rfl, rfl, _, rfl, ?_⟩
    by_cases hl : 0 < left
    · refine iteD1 hl ?_
      refine ⟨_, rfl, p, _, 2, _, rfl, rfl, SqL.of hp, i2, _, rfl, left, m, rfl, rfl, m0, ?_⟩
      refine ⟨_, rfl, p, _, 2, _, rfl, rfl, SqL.of hp, i2, _, rfl, left, m, rfl, rfl, wdiv m0 m1, ?_⟩
      refine ⟨_, rfl, p, _, 2, 2, rfl, rfl, hp, rfl, ?_⟩
      refine ⟨_, rfl, ?_⟩
      exact q _ n _ (Int.emod_nonneg _ (by omega)) (Int.emod_lt_of_pos _ m0) (by omega) (by omega) ⟨left / m, upd_same, by rw [upd_ne hpc.symm]; exact hc, hpc⟩ (but_upd fun _ _ _ e => e)
    · refine iteD0 hl ?_
      refine ⟨_, rfl, p, _, 1, _, rfl, rfl, SqL.of hp, i1, ?_⟩
      refine ⟨_, rfl, n, 1, rfl, rfl, _, rfl, p, _, 1, 1, rfl, rfl, hp, rfl, ?_⟩
      have hp2u : (upd H p (.lst [.ref c, .int (n + 1), .int left])) p = some (.lst [.ref c, .int (n + 1), .int left]) := upd_same
      have hc2u : (upd H p (.lst [.ref c, .int (n + 1), .int left])) c = some (.lst (ms.map V.int)) := by
        rw [upd_ne hpc.symm]
        exact hc
      obtain ⟨H2, eH2⟩ : ∃ H2 : Hp, upd H p (.lst [.ref c, .int (n + 1), .int left]) = H2 := ⟨_, rfl⟩
      have hp2 : H2 p = some (.lst [.ref c, .int (n + 1), .int left]) := by
        rw [← eH2]
        exact hp2u
      have hc2 : H2 c = some (.lst (ms.map V.int)) := by
        rw [← eH2]
        exact hc2u
      have sb : SameBut p H H2 := by
        rw [← eH2]
        exact but_upd fun _ _ _ e => e
      have j0 : atI ([.ref c, .int (n + 1), .int left] : List V) 0 = some (.ref c) := atI_nat (j := 0) rfl
      refine ⟨fun σ H' => ∃ cell : Int, σ = [some (.ref p), some (.int m), none, some (.int n), some (.int cell), none] ∧ H' = H2, ?_, fun σ' H' hM => ?_⟩
      · refine ⟨_, rfl, p, _, 0, _, rfl, rfl, SqL.of hp2u, j0, c, _, rfl, .inl (SqL.of hc2u), _, 0, rfl, rfl, _, rfl, ite2 (fun e => ?_) (fun e => ?_)⟩
        · have e2 : 0 < ((ms.map V.int).length : Int) := of_decide_eq_true e
          rw [List.length_map] at e2
          have hk0 := Int.emod_nonneg n (show (ms.length : Int) ≠ 0 by omega)
          have hk1 := Int.emod_lt_of_pos n e2
          have hk : (n % (ms.length : Int)).toNat < ms.length := by omega
          refine ⟨_, rfl, p, _, 0, _, rfl, rfl, SqL.of hp2u, j0, _, rfl, _, rfl, p, _, 0, _, rfl, rfl, SqL.of hp2u, j0, c, _, rfl, .inl (SqL.of hc2u), n, _, rfl, rfl, by
            show 0 < ((ms.map V.int).length : Int)
            rw [List.length_map]
            exact e2, c, _, _, .int (ms[(n % (ms.length : Int)).toNat]), rfl, rfl, SqL.of hc2u, ?_, ?_⟩
          · rw [List.length_map]
            exact at_of (j := (n % (ms.length : Int)).toNat) (by omega) (by rw [List.getElem?_map, List.getElem?_eq_getElem hk]; rfl)
          · exact ⟨_, rfl, eH2⟩
        · exact ⟨7, rfl, eH2⟩
      · obtain ⟨cell, rfl, eM⟩ := hM
        replace eM := eM.symm
        subst eM
        refine ⟨fun σ H' => σ = [some (.ref p), some (.int m), none, some (.int n), some (.int cell), none] ∧ H' = H2, ?_, fun σ' H' hM => ?_⟩
        · refine ⟨_, rfl, _, rfl, p, _, 0, _, rfl, rfl, SqL.of hp2, j0, c, _, rfl, .inl (SqL.of hc2), n, _, rfl, rfl, _, rfl, ite2 (fun _ => ?_) (fun _ => iteF ⟨rfl, rfl⟩)⟩
          refine ⟨_, rfl, 10, 18, rfl, rfl, ⟨by decide, by decide, by decide⟩, cell, _, rfl, rfl, _, rfl, ite2 (fun _ => ?_) (fun _ => ⟨rfl, rfl⟩)⟩
          refine ⟨_, rfl, _, rfl, cell, m, rfl, rfl, wdiv m0 m1, _, rfl, p, _, 2, 2, rfl, rfl, hp2, rfl, ?_⟩
          refine ⟨_, rfl, _, rfl, cell, m, rfl, rfl, m0, ?_⟩
          exact q _ (n + 1) _ (Int.emod_nonneg _ (by omega)) (Int.emod_lt_of_pos _ m0) (by omega) (by omega) ⟨cell / m, upd_same, by rw [upd_ne hpc.symm]; exact hc2, hpc⟩ (but_upd sb)
        · obtain ⟨rfl, eM⟩ := hM
          replace eM := eM.symm
          subst eM
          have c0 := Int.emod_nonneg cell (show (2147483629 : Int) ≠ 0 by decide)
          have c1 := Int.emod_lt_of_pos cell (show (0 : Int) < 2147483629 by decide)
          refine ⟨_, rfl, cell, 2147483629, rfl, rfl, (show (0 : Int) < 2147483629 by decide), _, 11, rfl, rfl, _, rfl, _, rfl, n, n, rfl, rfl, .inl ⟨by omega, by omega⟩, _, rfl, 5, n, rfl, rfl, .inl ⟨by decide, by decide⟩, _, _, rfl, rfl, _, 3, rfl, rfl, _, _, rfl, rfl, .inl ⟨by omega, by omega⟩, _, 2147483647, rfl, rfl, (show (0 : Int) < 2147483647 by decide), ?_⟩
          have hz2 : ∀ z : Int, (z % 2147483647).natAbs < 2 ^ 64 := fun z => by
            have d0 := Int.emod_nonneg z (show (2147483647 : Int) ≠ 0 by decide)
            have d1 := Int.emod_lt_of_pos z (show (0 : Int) < 2147483647 by decide)
            omega
          refine ⟨_, rfl, _, 3, rfl, rfl, ⟨by decide, by decide, hz2 _⟩, _, rfl, 69621, n, rfl, rfl, .inl ⟨by decide, by decide⟩, _, _, rfl, rfl, _, 2147483587, rfl, rfl, (show (0 : Int) < 2147483587 by decide), _, 40692, rfl, rfl, .inr ⟨by decide, by decide⟩, _, 2147483399, rfl, rfl, (show (0 : Int) < 2147483399 by decide), ?_⟩
          refine ⟨fun σ H' => ∃ z : Int, σ = [some (.ref p), some (.int m), none, some (.int n), some (.int cell), some (.int z)] ∧ H' = H2, ?_, fun σ' H' hM => ?_⟩
          · refine ⟨_, rfl, 10, 6, rfl, rfl, ⟨by decide, by decide, by decide⟩, m, _, rfl, rfl, _, rfl, ite2 (fun _ => ?_) (fun _ => ⟨_, rfl, rfl⟩)⟩
            exact ⟨_, rfl, _, 2147483629, rfl, rfl, .inr ⟨by decide, by decide⟩, _, rfl, _, 1000003, rfl, rfl, (show (0 : Int) < 1000003 by decide), _, 48271, rfl, rfl, .inr ⟨by decide, by decide⟩, _, 2147483587, rfl, rfl, (show (0 : Int) < 2147483587 by decide), _, _, rfl, rfl, _, rfl, rfl⟩
          · obtain ⟨z, rfl, eM⟩ := hM
            replace eM := eM.symm
            subst eM
            refine ⟨_, rfl, z, 64, rfl, rfl, ⟨by decide, by decide⟩, _, rfl, _, m, rfl, rfl, m0, ?_⟩
            exact q _ (n + 1) _ (Int.emod_nonneg _ (by omega)) (Int.emod_lt_of_pos _ m0) (by omega) (by omega) ⟨left, hp2, hc2, hpc⟩ sb
end
end TC
/-! name = {k: v for ..}, the name a local: the dict is stored while the comprehension's block still stands. -/
namespace TCA
open PySem PySem.Spec PyProof.Rows L2
section
variable {X : Cx}
theorem sw_dict {kx vx : Expr} {gs : List Comprehension} {scope : Scope} {pos py : Pos} {y : Str} {l : Nat} {env : Env} (hk : env.scope.kind = .function) (hy : env.scope.names.lookup y = some .local) (hl : (py.line == pos.line) = true)
    (ha : (scope.names.any fun (n, k) => n == y && (k == .local || k == .cell)) = false) : swapsWith (.DictComp kx vx gs scope pos) (some (.Name y py)) l env = pure true := by
  have e1 : env.kindOf y = some .local := hy
  have e2 : env.blockKind = .function := by
    unfold Env.blockKind
    rw [hk]
    rfl
  unfold swapsWith
  simp only [e2, e1, ha, Expr.pos, hl]
  rfl
theorem ps_setDc {i : Nat} {y : Str} {py : Pos} {kx vx tg iter : Expr} {ifs : List Expr} {scope : Scope} {own : List (Str × Nat)} {pos spos : Pos} {wi : TI} {g : TG} {tt : TT} {tk tv : TE} (hc : X.calm = true) (hN : X.N.Nodup) (hy : X.N[i]? = some y) (hyl : X.env.scope.names.lookup y = some .local)
    (hsw : swapsWith (.DictComp kx vx [⟨tg, iter, ifs, 0⟩] scope pos) (some (.Name y py)) spos.line X.env = pure true) (hi : PI X tg iter wi) (ok : BlkOk X.N X.env.scope scope own)
    (hg : ∀ (s : Shared) (H : Hp) (C : Addr) (cl : List (Str × Addr)) (fp : List Addr), PG (X.blk s H scope (compEnvC scope cl C X.env) fp) tg g)
    (ht : ∀ (s : Shared) (H : Hp) (C : Addr) (cl : List (Str × Addr)) (fp : List Addr), PTs (X.blk s H scope (compEnvC scope cl C X.env) fp) ifs tt)
    (hk : ∀ (s : Shared) (H : Hp) (C : Addr) (cl : List (Str × Addr)) (fp : List Addr), PE (X.blk s H scope (compEnvC scope cl C X.env) fp) kx tk)
    (hv : ∀ (s : Shared) (H : Hp) (C : Addr) (cl : List (Str × Addr)) (fp : List Addr), PE (X.blk s H scope (compEnvC scope cl C X.env) fp) vx tv)
    (hs : ∀ x, foldedSetIterable iter X.env x = pure x := by intro _; rfl) :
    PS X (.Assign [.Name y py] (.DictComp kx vx [⟨tg, iter, ifs, 0⟩] scope pos) spos) (tAsg (tDc wi g tt tk tv (own.map (·.2))) (gName i)) := by
  refine ⟨fun pins s σ H D I h => ?_⟩
  rw [exec_Assign_Name_used _ _ _ _ hsw]
  refine wpAny_bind (wpAny_standAt (wpAny_bind ?_))
  show wpAny _ X.A (do let _ ← comprehension (.DictComp kx vx [⟨tg, iter, ifs, 0⟩] scope pos) scope X.env (firstIterPos [⟨tg, iter, ifs, 0⟩] pos) newDict false (eval iter X.env) (some (assign (.Name y py) X.env))) _ _ s
  have h' : tDc wi g tt tk tv (own.map (·.2)) σ H (fun x H1 => gName i x σ H1 D.nx) := h
  have core := dc_core (Qf := fun _ s' => SP X pins D .next s') (pos := pos) (pos' := firstIterPos [⟨tg, iter, ifs, 0⟩] pos) (use := some (assign (.Name y py) X.env)) hc hN I hi ok hg ht hk hv hs h' fun d C s' m H' I' q hn fp => by
    show wpAny _ _ (assign (.Name y py) X.env (.ref d)) _ _ _
    refine wpAny_assign_Name (store_ok2 (v := V.ref d) I' hN hy (.inl hyl) rfl (fun s2 I2 ⟨a, sb, ha⟩ => ?_) (.inr hyl))
    obtain ⟨f0, f1, f2, f3, f4, f5⟩ := fp
    have hCa : C ≠ a := by
      rcases ha with z | z
      · rw [z]
        exact f1
      · exact fun e => f4 y a z e.symm
    exact ⟨m, hn.sameBut sb hCa, fun h3 sb3 => ⟨_, H', I2.turned (t' := s2.toks) (fun b o hb e => (sb3.2 b hb).trans e) f0 f1 f3 f4 f5, q⟩⟩
  exact wpAny_bind (thn core fun _ s' hq => wpAny_pure (wpAny_pure hq))
/-! a for over a list or a tuple, whichever it is -/
theorem seqL_at {K : PySem.W.Frag} {H H' : Hp} {a : Addr} {xs : List V} (e : ∀ u, H a = some u → H' a = some u) (h : SqL K H a xs) : SqL K H' a xs := by
  rcases h with (h | ⟨o, h⟩) | h
  · exact .inl (.inl (e _ h))
  · exact .inl (.inr ⟨o, e _ h⟩)
  · exact .inr h
theorem seqT_at {K : PySem.W.Frag} {H H' : Hp} {a : Addr} {xs : List V} (e : ∀ u, H a = some u → H' a = some u) (h : SqT K H a xs) : SqT K H' a xs := by
  rcases h with (h | ⟨o, h⟩) | h
  · exact .inl (.inl (e _ h))
  · exact .inl (.inr ⟨o, e _ h⟩)
  · exact .inr h
def iSeq (K : PySem.W.Frag) (tl : TE) : TI := fun σ H R => tl σ H fun x H1 => ∃ a xs, x = .ref a ∧ (SqL K H1 a xs ∨ SqT K H1 a xs) ∧ ∀ (J : It) (G : Hp → Prop), (∀ H', (∀ u, H1 a = some u → H' a = some u) → G H') → Walk J xs.length G (YAt xs) → R J H1
theorem pi_seq {tg l : Expr} {tl : TE} (hl : PE X l tl) : PI X tg l (iSeq X.K tl) := by
  refine ⟨fun pins s σ H R I h => thn (hl.run pins s σ H _ I h) fun v s1 ⟨x, H1, I1, r1, q1⟩ => ?_⟩
  obtain ⟨a, xs, ex, hq, q⟩ := q1
  subst ex
  cases r1
  have own : ∀ b ∈ [s1.heap.objs.size], FpOk X pins H1 b := fun b hb => by
    rw [List.mem_singleton.mp hb]
    exact I1.fpOk (Nat.le_refl _) (I1.hok.fresh (Nat.le_refl _))
  rcases hq with hq | hq
  · obtain ⟨its, _, pl, _⟩ := I1.list hq
    exact wpAny_pyIter_list pl.isList ⟨s1.heap.objs.size, [s1.heap.objs.size], _, _, H1, rfl, I1.kept (t' := s1.toks) fun b o e => Heap.get?_push_of_some _ e, turn_list a _, ⟨_, Heap.get?_push_size _ rfl, rfl, rfl⟩, own, q _ _ (fun H' e => seqL_at e hq) walk_list⟩
  · obtain ⟨its, _, pl, _⟩ := I1.tuple hq
    exact wpAny_pyIter_tuple (show s1.heap.IsTuple a its.toArray from pl) ⟨s1.heap.objs.size, [s1.heap.objs.size], _, _, H1, rfl, I1.kept (t' := s1.toks) fun b o e => Heap.get?_push_of_some _ e, turn_tuple a _, ⟨_, Heap.get?_push_size _ rfl, rfl, rfl⟩, own, q _ _ (fun H' e => seqT_at e hq) walk_tup⟩
end
end TCA
namespace TC
open PySem PySem.Spec PyProof.Rows L2 TCA
/-! ### what stands in the heap -/
abbrev Part : Type := Int × Rat
def parV (x : Part) : HO := .tup [.int x.1, .int x.2.num, .int (x.2.den : Int)]
def fraV (q : Rat) : HO := .tup [.int q.num, .int (q.den : Int)]
def Refs (H : Hp) : List Addr → List Part → Prop
  | [], [] => True
  | u :: us, x :: L => H u = some (parV x) ∧ Refs H us L
  | _, _ => False
theorem Refs.same {H H' : Hp} (e : Same H H') : ∀ {us : List Addr} {L : List Part}, Refs H us L → Refs H' us L
  | [], [], _ => trivial
  | u :: us, x :: L, h => ⟨e _ _ h.1, Refs.same e h.2⟩
  | [], _ :: _, h => h.elim
  | _ :: _, [], h => h.elim
theorem Refs.len {H : Hp} : ∀ {us : List Addr} {L : List Part}, Refs H us L → us.length = L.length
  | [], [], _ => rfl
  | u :: us, x :: L, h => congrArg Nat.succ (Refs.len h.2)
  | [], _ :: _, h => h.elim
  | _ :: _, [], h => h.elim
theorem Refs.get {H : Hp} : ∀ {us : List Addr} {L : List Part} {i : Nat} {v : V}, Refs H us L → (us.map V.ref)[i]? = some v → ∃ u x, v = .ref u ∧ us[i]? = some u ∧ L[i]? = some x ∧ H u = some (parV x)
  | [], [], i, v, _, e => by simp at e
  | u :: us, x :: L, 0, v, h, e => ⟨u, x, (Option.some.inj e).symm, rfl, rfl, h.1⟩
  | u :: us, x :: L, i + 1, v, h, e => by
    have e' : (us.map V.ref)[i]? = some v := e
    obtain ⟨u', x', a, b, c, d⟩ := Refs.get h.2 e'
    exact ⟨u', x', a, b, c, d⟩
  | [], _ :: _, _, _, h, _ => h.elim
  | _ :: _, [], _, _, h, _ => h.elim
theorem Refs.snoc {H : Hp} {u : Addr} {x : Part} (hu : H u = some (parV x)) : ∀ {us : List Addr} {L : List Part}, Refs H us L → Refs H (us ++ [u]) (L ++ [x])
  | [], [], _ => ⟨hu, trivial⟩
  | v :: us, y :: L, h => ⟨h.1, Refs.snoc hu h.2⟩
  | [], _ :: _, h => h.elim
  | _ :: _, [], h => h.elim
theorem Refs.all {H : Hp} : ∀ {us : List Addr} {L : List Part}, Refs H us L → ∀ u ∈ us, ∃ x, H u = some (parV x)
  | [], [], _, u, hu => by cases hu
  | v :: us, y :: L, h, u, hu => by
    rcases List.mem_cons.mp hu with e | e
    · rw [e]
      exact ⟨y, h.1⟩
    · exact Refs.all h.2 u e
  | [], _ :: _, h, _, _ => h.elim
  | _ :: _, [], h, _, _ => h.elim
theorem Refs.upd {H : Hp} {l : Addr} {o : HO} (hl : ∀ x, H l ≠ some (parV x)) : ∀ {us : List Addr} {L : List Part}, Refs H us L → Refs (L2.upd H l o) us L
  | [], [], _ => trivial
  | u :: us, x :: L, h => ⟨by
    rw [upd_ne fun e => hl x (by rw [← e]; exact h.1)]
    exact h.1, Refs.upd hl h.2⟩
  | [], _ :: _, h => h.elim
  | _ :: _, [], h => h.elim
def PartsL (H : Hp) (p : Addr) (L : List Part) : Prop := ∃ us, H p = some (.tup (us.map V.ref)) ∧ Refs H us L
theorem PartsL.same {H H' : Hp} {p : Addr} {L : List Part} (e : Same H H') (h : PartsL H p L) : PartsL H' p L := by
  obtain ⟨us, h1, h2⟩ := h
  exact ⟨us, e _ _ h1, h2.same e⟩
def NumAt (C : Addr) (H : Hp) (x : Addr) (L : List Part) : Prop := ∃ dx p, H x = some (.ins C dx [("parts", .ref p)]) ∧ PartsL H p L
theorem NumAt.same {C : Addr} {H H' : Hp} {x : Addr} {L : List Part} (e : Same H H') (h : NumAt C H x L) : NumAt C H' x L := by
  obtain ⟨dx, p, h1, h2⟩ := h
  exact ⟨dx, p, e _ _ h1, h2.same e⟩
/-! ### as data -/
def parD (x : Part) : PyData := .tuple [.int x.1, .int x.2.num, .int (x.2.den : Int)]
def toD (L : List Part) : PyData := .tuple (L.map parD)
theorem Refs.dp {K : PySem.W.Frag} {H : Hp} : ∀ {us : List Addr} {L : List Part}, Refs H us L → DpAll K H (us.map V.ref) (L.map parD)
  | [], [], _ => .nil
  | u :: us, x :: L, h => .cons (.tup (SqT.of h.1) (.cons (.int _) (.cons (.int _) (.cons (.int _) .nil)))) (Refs.dp h.2)
  | [], _ :: _, h => h.elim
  | _ :: _, [], h => h.elim
theorem PartsL.dp {K : PySem.W.Frag} {H : Hp} {p : Addr} {L : List Part} (h : PartsL H p L) : Dp K H (.ref p) (toD L) := by
  obtain ⟨us, h1, h2⟩ := h
  exact .tup (SqT.of h1) h2.dp
theorem toD_shaped (L : List Part) : SeqAt.shaped (toD L) = true := by
  have h1 : ∀ L : List Part, PyData.canLayAll0 (L.map parD) = true := fun L => by
    induction L with
    | nil => rfl
    | cons x L ih =>
      show (PyData.canLay0 (parD x) && PyData.canLayAll0 (L.map parD)) = true
      rw [ih]
      rfl
  have h2 : ∀ L : List Part, PyData.depthAll (L.map parD) ≤ 1 := fun L => by
    induction L with
    | nil => exact Nat.zero_le _
    | cons x L ih =>
      show max (PyData.depth (parD x)) (PyData.depthAll (L.map parD)) ≤ 1
      exact Nat.max_le.mpr ⟨Nat.le_refl 1, ih⟩
  show (PyData.canLayAll0 (L.map parD) && decide (PyData.depthAll (L.map parD) + 1 ≤ 64)) = true
  rw [h1, decide_eq_true (by have := h2 L; omega)]
  rfl
theorem parD_eqv (x y : Part) : PyData.eqv (parD x) (parD y) = decide (x = y) := by
  obtain ⟨r, q⟩ := x
  obtain ⟨s, p⟩ := y
  simp only [parD, PyData.eqv, PyData.eqvAll]
  by_cases h1 : r = s
  · by_cases h2 : q = p
    · subst h1
      subst h2
      simp
    · have h3 : ¬ (q.num = p.num ∧ (q.den : Int) = (p.den : Int)) := fun z => h2 (Rat.ext z.1 (by omega))
      have h4 : ¬ ((r, q) = (s, p)) := fun z => h2 (Prod.ext_iff.mp z).2
      rw [decide_eq_false h4]
      rcases Classical.not_and_iff_not_or_not.mp h3 with z | z
      · simp [z]
      · have z2 : ¬ q.den = p.den := fun w => z (by rw [w])
        simp [z2]
        exact fun _ _ => z
  · have h4 : ¬ ((r, q) = (s, p)) := fun z => h1 (Prod.ext_iff.mp z).1
    rw [decide_eq_false h4]
    simp [h1]
theorem toD_eqv (L M : List Part) : PyData.eqv (toD L) (toD M) = decide (L = M) := by
  show PyData.eqvAll (L.map parD) (M.map parD) = decide (L = M)
  induction L generalizing M with
  | nil =>
    cases M with
    | nil => rfl
    | cons y M => rfl
  | cons x L ih =>
    cases M with
    | nil => rfl
    | cons y M =>
      show (PyData.eqv (parD x) (parD y) && PyData.eqvAll (L.map parD) (M.map parD)) = _
      rw [parD_eqv, ih]
      by_cases h1 : x = y <;> by_cases h2 : L = M <;> simp [h1, h2]
/-! ### dicts from roots to fractions -/
def DictAt (H : Hp) (d : Addr) (ks : List Int) (g : Int → Rat) : Prop := ∃ kvs, H d = some (.dK kvs) ∧ kvs.map (·.1) = ks.map (Sum.inl : Int → Key) ∧
  (∀ r ∈ ks, ∃ u, valV kvs (Sum.inl r : Key) = some (.ref u) ∧ H u = some (fraV (g r))) ∧ ks.Nodup ∧ ∀ r, r ∉ ks → g r = 0
theorem DictAt.same {H H' : Hp} {d : Addr} {ks : List Int} {g : Int → Rat} (e : Same H H') (h : DictAt H d ks g) : DictAt H' d ks g := by
  obtain ⟨kvs, h1, h2, h3, h4⟩ := h
  exact ⟨kvs, e _ _ h1, h2, fun r hr => by
    obtain ⟨u, a, b⟩ := h3 r hr
    exact ⟨u, a, e _ _ b⟩, h4⟩
theorem DictAt.imp {H : Hp} {d : Addr} {ks : List Int} {g g' : Int → Rat} (h : DictAt H d ks g) (e : ∀ r, g r = g' r) : DictAt H d ks g' := by
  have : g = g' := funext e
  rw [← this]
  exact h
def addKey (ks : List Int) (r : Int) : List Int := if r ∈ ks then ks else ks ++ [r]
def setF (g : Int → Rat) (r : Int) (q : Rat) : Int → Rat := fun s => if s = r then q else g s
theorem addKey_len (ks : List Int) (r : Int) : (addKey ks r).length ≤ ks.length + 1 := by
  unfold addKey
  split
  · omega
  · rw [List.length_append, List.length_singleton]
    exact Nat.le_refl _
theorem mem_addKey {ks : List Int} {r s : Int} : s ∈ addKey ks r ↔ s ∈ ks ∨ s = r := by
  unfold addKey
  split
  · rename_i h
    exact ⟨.inl, fun z => z.elim id fun e => e ▸ h⟩
  · simp
theorem inl_ne {a b : Int} (h : a ≠ b) : (Sum.inl a : Key) ≠ Sum.inl b := fun e => h (Sum.inl.inj e)
theorem valV_out {kvs : List (Key × V)} {ks : List Int} {r : Int} (e : kvs.map (·.1) = ks.map (Sum.inl : Int → Key)) (h : r ∉ ks) : valV kvs (Sum.inl r : Key) = none := by
  cases z : valV kvs (Sum.inl r : Key) with
  | none => rfl
  | some v =>
    have m := valV_in z
    rw [e] at m
    obtain ⟨s, hs, es⟩ := List.mem_map.mp m
    exact absurd (Sum.inl.inj es ▸ hs) h
theorem keys_put {kvs : List (Key × V)} {ks : List Int} {r : Int} {v : V} (e : kvs.map (·.1) = ks.map (Sum.inl : Int → Key)) : (putK kvs (Sum.inl r : Key) v).map (·.1) = (addKey ks r).map (Sum.inl : Int → Key) := by
  unfold putK addKey
  by_cases h : r ∈ ks
  · have a : (kvs.any fun kv => decide (kv.1 = (Sum.inl r : Key))) = true := by
      have m : (Sum.inl r : Key) ∈ kvs.map (·.1) := by
        rw [e]
        exact List.mem_map.mpr ⟨r, h, rfl⟩
      obtain ⟨p, hp, ep⟩ := List.mem_map.mp m
      exact List.any_eq_true.mpr ⟨p, hp, decide_eq_true ep⟩
    rw [if_pos a, if_pos h, List.map_map, ← e]
    refine List.map_congr_left fun kv _ => ?_
    show (if kv.1 = (Sum.inl r : Key) then (kv.1, v) else kv).1 = kv.1
    split <;> rfl
  · have a : ¬ (kvs.any fun kv => decide (kv.1 = (Sum.inl r : Key))) = true := by
      rw [valV_any, valV_out e h]
      decide
    rw [if_neg a, if_neg h, List.map_append, List.map_append, e]
    rfl
theorem nd_addKey {ks : List Int} {r : Int} (h : ks.Nodup) : (addKey ks r).Nodup := by
  unfold addKey
  split
  · exact h
  · rename_i z
    rw [List.nodup_append]
    refine ⟨h, by simp, fun a ha b hb => ?_⟩
    rw [List.mem_singleton.mp hb]
    exact fun e => z (e ▸ ha)
theorem put_ok {H : Hp} {d u : Addr} {kvs : List (Key × V)} {ks : List Int} {g : Int → Rat} {r : Int} {q : Rat} (e : H d = some (.dK kvs)) (ek : kvs.map (·.1) = ks.map (Sum.inl : Int → Key))
    (hv : ∀ r ∈ ks, ∃ u, valV kvs (Sum.inl r : Key) = some (.ref u) ∧ H u = some (fraV (g r))) (nd : ks.Nodup) (out : ∀ r, r ∉ ks → g r = 0) (hu : H u = some (fraV q)) :
    DictAt (upd H d (.dK (putK kvs (Sum.inl r : Key) (.ref u)))) d (addKey ks r) (setF g r q) := by
  have nu : ∀ {v : Addr} {p : Rat}, H v = some (fraV p) → v ≠ d := fun {v p} hv z => by
    rw [z, e] at hv
    cases hv
  refine ⟨_, upd_same, keys_put ek, fun s hs => ?_, nd_addKey nd, fun s hs => ?_⟩
  · rw [valV_put]
    by_cases es : s = r
    · subst es
      refine ⟨u, if_pos rfl, ?_⟩
      rw [upd_ne (nu hu)]
      show H u = some (fraV (if s = s then q else g s))
      rw [if_pos rfl]
      exact hu
    · have hs' : s ∈ ks := (mem_addKey.mp hs).resolve_right es
      obtain ⟨v, a, b⟩ := hv s hs'
      refine ⟨v, by rw [if_neg (inl_ne es)]; exact a, ?_⟩
      rw [upd_ne (nu b)]
      show H v = some (fraV (if s = r then q else g s))
      rw [if_neg es]
      exact b
  · have h1 : s ∉ ks := fun z => hs (mem_addKey.mpr (.inl z))
    have h2 : s ≠ r := fun z => hs (mem_addKey.mpr (.inr z))
    show (if s = r then q else g s) = 0
    rw [if_neg h2, out s h1]
theorem dget_in {H : Hp} {d : Addr} {kvs : List (Key × V)} {r : Int} {v : V} (e : H d = some (.dK kvs)) (h : valV kvs (Sum.inl r : Key) = some v) : DGet H d (.int r) (some v) := by
  have z := DGet.k (k := (Sum.inl r : Key)) e
  rw [h] at z
  exact z
theorem dget_out {H : Hp} {d : Addr} {kvs : List (Key × V)} {r : Int} (e : H d = some (.dK kvs)) (h : valV kvs (Sum.inl r : Key) = none) : DGet H d (.int r) none := by
  have z := DGet.k (k := (Sum.inl r : Key)) e
  rw [h] at z
  exact z
theorem len_keys {kvs : List (Key × V)} {ks : List Int} (e : kvs.map (·.1) = ks.map (Sum.inl : Int → Key)) : kvs.length = ks.length := by
  have := congrArg List.length e
  simpa using this
end TC
namespace TC
open PySem PySem.Spec PyProof.Rows L2 TCA
theorem fdiv_nat (m n : Nat) : (m : Int).fdiv (n : Int) = ((m / n : Nat) : Int) := by
  rw [Int.fdiv_eq_ediv_of_nonneg _ (by omega)]
  rfl
theorem cdivn {i : Int} {n B : Nat} (h0 : 0 < n) (h : n < 2 ^ B) (hB : 0 < B) (hB2 : B ≤ 8000) : CDivNW i (n : Int) := ⟨by omega, log_lt (n := B) (by omega) hB (by rw [Int.natAbs_natCast]; exact h)⟩
theorem cmulw {i j : Int} {A B : Nat} (h1 : i.natAbs < 2 ^ A) (h2 : j.natAbs < 2 ^ B) (hA : 0 < A) (hB : 0 < B) (h : A + B ≤ 100000) : CMulW i j := wide_mul h1 h2 hA hB (by omega)
/-- what is asked of the class Exact as the top has made it -/
structure TxtN (K : PySem.W.Frag) (mg : Str → Option Value) (C fI fQ : Addr) : Prop where
  cl : Cls K C
  nP : NoAttr K C "parts"
  mkr : Mk K C fI
  mq : Meth K C "__eq__" fQ
  mgC : mg "Exact" = some (.ref C)
  ne : PySem.W.findIn K (.ref C) "__ne__" = some (some (.builtin "object.__ne__"))
  ca : PySem.W.findIn K (.ref C) "__class__" = some (some (.builtin "object.__class__"))
  cn : PySem.W.specialIn K (.builtin "object.__class__") "__get__" = some (some (.builtin "getset_descriptor.__get__"))
  ct : PySem.W.takesIn K (.builtin "object.__class__") = some true
  cm : PySem.W.mroIn K C (.type "object") = some true
abbrev kwE : List (Str × V) := [("bottom", .int 1), ("root", .int 1)]
abbrev psE : List Str := ["top", "bottom", "root"]
abbrev FnE (K : PySem.W.Frag) (f : Addr) (fd : FuncData) : Prop := FunD K "exact" "exact" (defArgs sExact) (defBody sExact) (defScope sExact) [] kwE f fd
abbrev FnM (K : PySem.W.Frag) (m q : Str) (st : Stmt) (f : Addr) (fd : FuncData) : Prop := FunD K m q (defArgs st) (defBody st) (defScope st) [] [] f fd
/-- the parts of top / bottom times the root of a number with the squares taken out -/
def oneL (r t b : Int) : List Part := if t = 0 then [] else [(r, Rat.divInt t b)]
def exL (t b r : Int) : List Part := oneL (TCM.sqOut r).2.1 (t * (TCM.sqOut r).1) b
def RootOk (r : Int) : Prop := 0 ≤ r ∧ r ≤ 1000000 ∧ (TCM.sqOut r).2.2 = 1 ∧ 0 ≤ (TCM.sqOut r).1 ∧ (TCM.sqOut r).1 ≤ 1000
section
variable {P : Program} {w : World} {K : PySem.W.Frag} {mg : Str → Option Value} {base : Heap} {f : Addr} {fd : FuncData} {C fI fQ : Addr}
theorem TxtN.ty (T : TxtN K mg C fI fQ) {H : Hp} {a dx : Addr} {fs : List (Str × V)} (e : H a = some (.ins C dx fs)) : TyX K H (.ref a) (.ref C) := .base (.ins e T.cl T.ca T.cn T.ct T.cm)
theorem kit_self : PySem.W.kitOne K (.ref C) (.ref C) = some true := by
  show (if ((Value.ref C) == (Value.ref C)) = true then some true else _) = some true
  rw [if_pos (by simp)]
/-! ### sum_in_lowest -/
def spSumLow : Sp := fun vs H Q _ => ∃ (p q : Rat) (A B : Nat), vs = [.int p.num, .int (p.den : Int), .int q.num, .int (q.den : Int)] ∧ TCR.Sz A p ∧ TCR.Sz B q ∧ 0 < A ∧ 0 < B ∧ A + B ≤ 8000 ∧ ∀ c, H c = none → Q (.ref c) (upd H c (fraV (p + q)))
/-! ### __init__ -/
def spInit (C : Addr) : Sp := fun vs H Q _ => ∃ (x dx : Addr) (v : V), vs = [.ref x, v] ∧ H x = some (.ins C dx []) ∧ Q .non (upd H x (.ins C dx [("parts", v)]))
theorem scInit : FnScope ["self", "parts"] ["self", "parts"] (defScope sInit) := ⟨rfl, rfl, rfl, by decide +kernel, rfl, by decide +kernel, by decide +kernel⟩
theorem ok_init (F : FnM K "__init__" "Exact.__init__" sInit f fd) (T : TxtN K mg C fI fQ) : FnOk P w K mg base CX0 1 f fd ["self", "parts"] (spInit C) := by
  refine F.ok scInit (fun vs H Q E h => ?_) (fun cdv A outer s H vs Q E hr h => ?_)
  · obtain ⟨x, dx, v, rfl, _⟩ := h
    rfl
  · obtain ⟨x, dx, v, rfl, hx, q⟩ := h
    refine ⟨_, PSs.nox (pss_one (ps_fld (pv 0) (pv 1) rfl)), ?_⟩
    exact ⟨_, rfl, _, rfl, x, C, dx, [], rfl, hx, T.cl, T.nP, (by show 0 < 1000; decide), q⟩
/-- Exact(p) behind its making -/
theorem made_num {H : Hp} {p : Addr} {L : List Part} {Q : VK} (hp : PartsL H p L) (q : ∀ x H', Same H H' → H x = none → NumAt C H' x L → Q (.ref x) H') :
    ∀ x dx, H x = none → H dx = none → dx ≠ x → spInit C (.ref x :: ([.ref p] ++ [])) (upd (upd H dx (.own x)) x (.ins C dx [])) (fun v H2 => v = .non ∧ Q (.ref x) H2) E0 := by
  intro x dx hx hdx hne
  refine ⟨x, dx, .ref p, rfl, upd_same, rfl, ?_⟩
  have smx : Same H (upd (upd (upd H dx (.own x)) x (.ins C dx [])) x (.ins C dx [("parts", .ref p)])) := fun b o e => by
    rw [upd_ne (ne_of_none e hx), upd_ne (ne_of_none e hx), upd_ne (ne_of_none e hdx)]
    exact e
  exact q x _ smx hx ⟨dx, p, upd_same, hp.same smx⟩
/-! ### __eq__ -/
def spEqN (C : Addr) : Sp := fun vs H Q _ => ∃ (x y : Addr) (L M : List Part), vs = [.ref x, .ref y] ∧ NumAt C H x L ∧ NumAt C H y M ∧ Q (.bl (decide (L = M))) H
theorem scEq : FnScope ["self", "other"] ["self", "other"] (defScope sEq) := ⟨rfl, rfl, rfl, by decide +kernel, rfl, by decide +kernel, by decide +kernel⟩
theorem ok_eq (F : FnM K "__eq__" "Exact.__eq__" sEq f fd) (T : TxtN K mg C fI fQ) (gI : mg "isinstance" = none) : FnOk P w K mg base CX0 1 f fd ["self", "other"] (spEqN C) := by
  refine F.ok scEq (fun vs H Q E h => ?_) (fun cdv A outer s H vs Q E hr h => ?_)
  · obtain ⟨x, y, L, M, rfl, _⟩ := h
    rfl
  · obtain ⟨x, y, L, M, rfl, ⟨dx, p, hx, hp⟩, ⟨dy, p', hy, hp'⟩, q⟩ := h
    have hu : (A.deeper (envOfC "Exact.__eq__" (defScope sEq) s.heap.objs.size f cdv)).units + 64 < cLine := by
      have := hr.un
      omega
    refine ⟨_, PSs.nox (pss_one (ps_ret (pe_and (pe_callB call_isi (by rfl) gI (by decide +kernel) (pa_cons (pv 1) (pa_cons (pe_glob (v := .ref C) (by rfl) T.mgC rfl) pa_nil)))
      (pe_one (pe_cmpR (op_eqD hu) (pe_fld (pv 0) rfl) (pe_fld (pv 1) rfl) (nomark _)))))), ?_⟩
    refine ⟨_, rfl, _, _, _, _, true, rfl, .own C, T.ty hy, kit_self, true, rfl, iteT ?_⟩
    refine ⟨_, rfl, x, C, dx, _, _, rfl, hx, T.cl, T.nP, rfl, _, rfl, y, C, dy, _, _, rfl, hy, T.cl, T.nP, rfl, toD L, toD M, hp.dp, hp'.dp, toD_shaped L, toD_shaped M, ?_⟩
    rw [toD_eqv]
    exact q
/-! ### need_exact -/
def spNeed (C : Addr) : Sp := fun vs H Q _ => ∃ (x : Addr) (L : List Part), vs = [.ref x] ∧ NumAt C H x L ∧ Q .non H
theorem scNeed : FnScope ["thing"] ["thing"] (defScope sNeed) := ⟨rfl, rfl, rfl, by decide +kernel, rfl, by decide +kernel, by decide +kernel⟩
theorem ok_need (F : FnP K "need_exact" sNeed f fd) (T : TxtN K mg C fI fQ) (gI : mg "isinstance" = none) : FnOk P w K mg base CX0 1 f fd ["thing"] (spNeed C) := by
  refine F.ok scNeed (fun vs H Q E h => ?_) (fun cdv A outer s H vs Q E hr h => ?_)
  · obtain ⟨x, L, rfl, _⟩ := h
    rfl
  · obtain ⟨x, L, rfl, ⟨dx, p, hx, hp⟩, q⟩ := h
    refine ⟨_, PSs.nox (pss_one (ps_if (pt_not (pt_val (pe_callB call_isi (by rfl) gI (by decide +kernel) (pa_cons (pv 0) (pa_cons (pe_glob (v := .ref C) (by rfl) T.mgC rfl) pa_nil))))) pss_never pss_nil)), ?_⟩
    exact ⟨_, rfl, _, _, _, _, true, rfl, .own C, T.ty hx, kit_self, true, rfl, iteF q⟩
/-! ### lowered, of one root -/
end
end TC
namespace TC
open PySem PySem.Spec PyProof.Rows L2 TCA
theorem same_at {H H1 : Hp} {d : Addr} {o : HO} (s : Same H H1) (h : H d = none) : Same H (upd H1 d o) := fun b x e => by
  rw [upd_ne (ne_of_none e h)]
  exact s _ _ e
theorem rfst (x : Part) : parV x = .tup [.int x.1, .int x.2.num, .int (x.2.den : Int)] := rfl
section
variable {P : Program} {w : World} {K : PySem.W.Frag} {mg : Str → Option Value} {base : Heap} {f : Addr} {fd : FuncData} {C fI fQ : Addr}
/-! ### merged -/
def spMerged : Sp := fun vs H Q _ => ∃ (a o : Addr) (L M : List Part) (us : List Addr) (A B : Nat), vs = [.ref a, .ref o] ∧ PartsL H a L ∧ TCR.Canon L ∧ (H o = some (.tup (us.map V.ref)) ∨ H o = some (.lst (us.map V.ref))) ∧ Refs H us M ∧ TCR.Canon M ∧
  (∀ x ∈ L, TCR.Sz A x.2) ∧ (∀ x ∈ M, TCR.Sz B x.2) ∧ 0 < A ∧ 0 < B ∧ A + B ≤ 7000 ∧ L.length + M.length ≤ 60 ∧
  ∀ p N H', Same H H' → H p = none → PartsL H' p N → TCR.Canon N → (∀ r, TCR.val N r = TCR.val L r + TCR.val M r) → N.length ≤ L.length + M.length → Q (.ref p) H'
end
end TC
namespace TC
open PySem PySem.Spec PyProof.Rows L2 TCA
def Good (A : Nat) (L : List Part) : Prop := TCR.Canon L ∧ ∀ x ∈ L, TCR.Sz A x.2
theorem good_of {N : List Part} {A : Nat} (c : TCR.Canon N) (h : ∀ r, TCR.Sz A (TCR.val N r)) : Good A N := ⟨c, fun x hx => by
  rw [← c.mem hx]
  exact h _⟩
theorem Good.val {N : List Part} {A : Nat} (h : Good A N) (h0 : 0 < A) (r : Int) : TCR.Sz A (TCR.val N r) := TCR.Sz.val h0 h.2 r
theorem Good.mono {N : List Part} {A B : Nat} (h : Good A N) (l : A ≤ B) : Good B N := ⟨h.1, fun x hx => (h.2 x hx).mono l⟩
theorem Good.nil {A : Nat} : Good A [] := ⟨TCR.canon_nil, fun x hx => by cases hx⟩
theorem negL_len (L : List Part) : (TCR.negL L).length = L.length := List.length_map ..
theorem negL_snoc (L : List Part) (x : Part) : TCR.negL (L ++ [x]) = TCR.negL L ++ [(x.1, -x.2)] := List.map_append ..
section
variable {P : Program} {w : World} {K : PySem.W.Frag} {mg : Str → Option Value} {base : Heap} {f : Addr} {fd : FuncData} {C fI fQ : Addr}
/-! ### plus, minus -/
def spPlus (C : Addr) : Sp := fun vs H Q _ => ∃ (x y : Addr) (L M : List Part) (A B : Nat), vs = [.ref x, .ref y] ∧ NumAt C H x L ∧ NumAt C H y M ∧ Good A L ∧ Good B M ∧ 0 < A ∧ 0 < B ∧ A + B ≤ 7000 ∧ L.length + M.length ≤ 60 ∧
  ∀ z N H', Same H H' → H z = none → NumAt C H' z N → Good (A + B + 1) N → (∀ r, TCR.val N r = TCR.val L r + TCR.val M r) → N.length ≤ L.length + M.length → Q (.ref z) H'
end
end TC
namespace TC
open PySem PySem.Spec PyProof.Rows L2 TCA
/-- a dict of roots to whole tops -/
def IntD (H : Hp) (d : Addr) (ks : List Int) (t : Int → Int) : Prop := ∃ kvs, H d = some (.dK kvs) ∧ kvs.map (·.1) = ks.map (Sum.inl : Int → Key) ∧ (∀ r ∈ ks, valV kvs (Sum.inl r : Key) = some (.int (t r))) ∧ ks.Nodup ∧ ∀ r, r ∉ ks → t r = 0
theorem IntD.same {H H' : Hp} {d : Addr} {ks : List Int} {t : Int → Int} (e : Same H H') (h : IntD H d ks t) : IntD H' d ks t := by
  obtain ⟨kvs, h1, h2⟩ := h
  exact ⟨kvs, e _ _ h1, h2⟩
theorem IntD.upd {H : Hp} {d l : Addr} {o : HO} {ks : List Int} {t : Int → Int} (n : d ≠ l) (h : IntD H d ks t) : IntD (L2.upd H l o) d ks t := by
  obtain ⟨kvs, h1, h2⟩ := h
  exact ⟨kvs, by rw [upd_ne n]; exact h1, h2⟩
theorem IntD.imp {H : Hp} {d : Addr} {ks : List Int} {t t' : Int → Int} (h : IntD H d ks t) (e : ∀ r, t r = t' r) : IntD H d ks t' := by
  have : t = t' := funext e
  rw [← this]
  exact h
theorem divInt_zero (b : Int) : Rat.divInt 0 b = 0 := Rat.zero_divInt b
theorem divInt_ne {t b : Int} (hb : b ≠ 0) (ht : t ≠ 0) : Rat.divInt t b ≠ 0 := fun e => by
  rw [← divInt_zero 1, Rat.divInt_eq_divInt_iff hb (by decide)] at e
  simp at e
  exact ht e
section
variable {P : Program} {w : World} {K : PySem.W.Frag} {mg : Str → Option Value} {base : Heap} {f : Addr} {fd : FuncData} {C fI fQ : Addr}
/-! ### lowered, of many roots -/
def spLowered (C : Addr) : Sp := fun vs H Q _ => ∃ (d : Addr) (ks : List Int) (t : Int → Int) (b : Int) (A : Nat), vs = [.ref d, .int b] ∧ IntD H d ks t ∧ b ≠ 0 ∧ b.natAbs < 2 ^ A ∧ 0 < A ∧ A ≤ 8000 ∧ ks.length ≤ 900 ∧
  ∀ x N H', Same H H' → H x = none → NumAt C H' x N → TCR.Canon N → (∀ r, TCR.val N r = Rat.divInt (t r) b) → N.length ≤ ks.length → Q (.ref x) H'
theorem scLowered : FnScope ["tops", "bottom", "parts", "root", "top", "below"] ["tops", "bottom"] (defScope sLowered) := ⟨rfl, rfl, rfl, by decide +kernel, rfl, by decide +kernel, by decide +kernel⟩
theorem ok_lowered {fL : Addr} {fdL fdI : FuncData} (F : FnP K "lowered" sLowered f fd) (T : TxtN K mg C fI fQ) (GL : FnOk P w K mg base CX0 2 fL fdL ["top", "bottom"] spLowest) (bL : L2.Binds K fdL ["top", "bottom"] []) (kL : PySem.W.keepIn K (.ref fL) = true) (gL : mg "in_lowest" = some (.ref fL))
    (GI : FnOk P w K mg base CX0 1 fI fdI ["self", "parts"] (spInit C)) (bI : L2.Binds K fdI ["self", "parts"] []) (gs : mg "sorted" = none) (gl : mg "list" = none) (gt : mg "tuple" = none) : FnOk P w K mg base CX0 3 f fd ["tops", "bottom"] (spLowered C) := by
  refine F.ok scLowered (fun vs H Q E h => ?_) (fun cdv Ar outer s H vs Q E hr h => ?_)
  · obtain ⟨d, ks, t, b, A, rfl, _⟩ := h
    rfl
  · obtain ⟨d, ks, t, b, A, rfl, hd, hb, hz, A0, A8, len, q⟩ := h
    have hu := hu_of hr
    refine ⟨_, PSs.nox (pss_cons (ps_set (i := 2) scLowered.nd rfl (.inl rfl) (pe_lst pa_nil))
      (pss_cons (ps_for PassesOwn.never rfl (pi_list (pe_callB cr_sortedI (by rfl) gs (by decide +kernel) (pa_cons (pe_callTy (call_listD rfl) (by rfl) gl (by decide +kernel) (pa_cons (pv 0) pa_nil)) pa_nil))) (pg_name (i := 3) scLowered.nd rfl (.inl rfl))
        (pss_one (ps_if (pt_cmpR op_ne (pe_dget hu (pv 0) (pv 3) (fun _ _ => rfl)) pe_int (nomark _))
          (pss_cons (ps_asg (pe_call GL hr (by rfl) gL kL bL .nil pass0 (pa_cons (pe_dget hu (pv 0) (pv 3) (fun _ _ => rfl)) (pa_cons (pv 1) pa_nil))) (pg_tup rfl (pgs_cons (pg_name (i := 4) scLowered.nd rfl (.inl rfl)) (pgs_cons (pg_name (i := 5) scLowered.nd rfl (.inl rfl)) pgs_nil))))
          (pss_one (ps_expr (pe_bm PySem.F.plainAttrs_list PySem.F.slot_list_append PySem.F.type_list_append mt_append (pv 2) (pa_cons (pe_tup (pa_cons (pv 3) (pa_cons (pv 4) (pa_cons (pv 5) pa_nil)))) pa_nil))))) pss_nil)))
      (pss_one (ps_ret (pe_make T.mkr GI (hr.mono (by decide)) (by rfl) T.mgC bI .nil pass0 (pa_cons (pe_callTy call_tuple_of (by rfl) gt (by decide +kernel) (pa_cons (pv 2) pa_nil)) pa_nil)))))), ?_⟩
    refine ⟨Nat.zero_le _, fun l hl => ?_⟩
    have sm3 := same_upd (o := .lst []) hl
    obtain ⟨kvs, e1, e2, e3, e4, e5⟩ := hd.same sm3
    have elist : kvs.map (fun kv => kV kv.1) = ks.map V.int := by
      have z := congrArg (List.map kV) e2
      rw [List.map_map, List.map_map] at z
      exact z
    refine ⟨_, rfl, d, kvs, rfl, .inl e1, fun l2 hl2 => ?_⟩
    rw [elist]
    have sm4 := same_upd (o := .lst (ks.map V.int)) hl2
    refine ⟨l2, ks, rfl, SqL.of upd_same, fun ns l3 hperm hsort hl3 => ?_⟩
    have sm5 := same_upd (o := .lst (ns.map V.int)) hl3
    have ndn : ns.Nodup := hperm.nodup_iff.mpr e4
    have nl3 : l ≠ l3 := ne_of_none (sm4 l _ (upd_same (H := H))) hl3
    have ndl : d ≠ l := by
      obtain ⟨_, z, _⟩ := hd
      exact ne_of_none z hl
    have smA := sm3.trans (sm4.trans sm5)
    refine ⟨l3, rfl, ⟨_, SqL.of upd_same⟩, for_list (xs := ns.map V.int) (fun i σ H' => ∃ (w3 w4 w5 : Option V) (vs : List Addr), σ = [some (.ref d), some (.int b), some (.ref l), w3, w4, w5] ∧ Same H H' ∧ H' l = some (.lst (vs.map V.ref)) ∧ H' l3 = some (.lst (ns.map V.int)) ∧ IntD H' d ks t ∧ Refs H' vs (TCR.kept (fun r => Rat.divInt (t r) b) (ns.take i)))
      ⟨none, none, none, [], rfl, smA, sm5 _ _ (sm4 _ _ upd_same), upd_same, hd.same smA, trivial⟩ (fun i σ H' _ hP => ?_) (fun i x σ H' hx hP => ?_) (fun σ H' hP => ?_)⟩
    · obtain ⟨_, _, _, _, _, _, _, z, _⟩ := hP
      exact SqL.of z
    · obtain ⟨w3, w4, w5, vs, rfl, sm, el, el3, hD3, hR⟩ := hP
      rw [List.getElem?_map] at hx
      obtain ⟨r, hr', rfl⟩ : ∃ r, ns[i]? = some r ∧ V.int r = x := by
        cases e : ns[i]? with
        | none =>
          rw [e] at hx
          cases hx
        | some p =>
          rw [e] at hx
          exact ⟨p, rfl, Option.some.inj hx⟩
      have rk : r ∈ ks := hperm.mem_iff.mp (List.mem_of_getElem? hr')
      have etake : ns.take (i + 1) = ns.take i ++ [r] := by
        rw [List.take_add_one, hr']
        rfl
      obtain ⟨kvs3, d1, d2, d3, d4, d5⟩ := id hD3
      have dg := dget_in d1 (d3 r rk)
      refine ⟨_, rfl, _, rfl, d, _, rfl, dg, rfl, _, rfl, ?_⟩
      by_cases ht : t r = 0
      · refine iteNS (congrArg V.int ht) ?_
        refine ⟨_, _, _, vs, rfl, sm, el, el3, hD3, ?_⟩
        rw [etake, TCR.kept_snoc, if_neg (by rw [ht, divInt_zero]; simp), List.append_nil]
        exact hR
      · refine iteNT (ine ht) ?_
        refine ⟨_, rfl, _, rfl, d, _, rfl, dg, _, rfl, t r, b, A, rfl, hb, hz, A0, A8, fun c hc => ?_⟩
        refine ⟨c, _, rfl, SqT.of upd_same, rfl, _, _, rfl, _, _, rfl, rfl, ?_⟩
        have smc : Same H' (upd H' c (.tup [.int (TCM.low (t r) b).1, .int (TCM.low (t r) b).2])) := same_upd hc
        refine ⟨_, rfl, .inl ⟨rfl, _, SqL.of (smc _ _ el)⟩, _, rfl, _, rfl, _, rfl, by show 3 ≤ sizeLine; decide, fun u hu2 => ?_⟩
        have epar : HO.tup [.int r, .int (TCM.low (t r) b).1, .int (TCM.low (t r) b).2] = parV (r, Rat.divInt (t r) b) := by
          rw [TCR.low_rat (t r) b hb]
          rfl
        rw [epar]
        have smu := same_upd (o := parV (r, Rat.divInt (t r) b)) hu2
        have vlen : vs.length ≤ 900 := by
          have z1 := hR.len
          have z2 := TCR.kept_len (fun r => Rat.divInt (t r) b) (ns.take i)
          have z3 : (ns.take i).length ≤ ns.length := by
            rw [List.length_take]
            exact Nat.min_le_right ..
          have z4 := hperm.length_eq
          omega
        have elu := smu _ _ (smc _ _ el)
        refine ⟨l, _, _, rfl, rfl, elu, small1000 (by rw [List.length_map]; omega), ?_⟩
        have hl' : ∀ x, (upd (upd H' c (.tup [.int (TCM.low (t r) b).1, .int (TCM.low (t r) b).2])) u (parV (r, Rat.divInt (t r) b))) l ≠ some (parV x) := fun x e => by
          rw [elu] at e
          cases e
        refine ⟨_, _, _, vs ++ [u], rfl, same_at ((sm.trans smc).trans smu) hl, ?_, ?_, ((hD3.same smc).same smu).upd ndl, ?_⟩
        · rw [upd_same, List.map_append]
          rfl
        · rw [upd_ne nl3.symm]
          exact smu _ _ (smc _ _ el3)
        · rw [etake, TCR.kept_snoc, if_pos (divInt_ne hb ht)]
          exact Refs.upd hl' (Refs.snoc upd_same ((hR.same smc).same smu))
    · obtain ⟨w3, w4, w5, vs, rfl, sm, el, el3, hD3, hR⟩ := hP
      rw [List.length_map, List.take_length] at hR
      refine ⟨_, rfl, l, _, rfl, .inl ⟨SqL.of el, fun p hp => ?_⟩⟩
      have smp := same_upd (o := .tup (vs.map V.ref)) hp
      refine made_num (C := C) (L := TCR.kept (fun r => Rat.divInt (t r) b) ns) ⟨vs, upd_same, hR.same smp⟩ fun x H2 sm2 hx hN => q x _ H2 ((sm.trans smp).trans sm2) ((sm.trans smp).free hx) hN (TCR.canon_kept _ ndn hsort) (fun r => ?_) ?_
      · refine TCR.val_kept (fun r => Rat.divInt (t r) b) r fun z => ?_
        show Rat.divInt (t r) b = 0
        rw [e5 r fun m => z (hperm.mem_iff.mpr m), divInt_zero]
      · have z2 := TCR.kept_len (fun r => Rat.divInt (t r) b) ns
        have z4 := hperm.length_eq
        omega
end
end TC
namespace TC
open PySem PySem.Spec PyProof.Rows L2 TCA
def setI (t : Int → Int) (r z : Int) : Int → Int := fun s => if s = r then z else t s
theorem putI_ok {H : Hp} {d : Addr} {kvs : List (Key × V)} {ks : List Int} {t : Int → Int} {r z : Int} (ek : kvs.map (·.1) = ks.map (Sum.inl : Int → Key))
    (hv : ∀ r ∈ ks, valV kvs (Sum.inl r : Key) = some (.int (t r))) (nd : ks.Nodup) (out : ∀ r, r ∉ ks → t r = 0) :
    IntD (upd H d (.dK (putK kvs (Sum.inl r : Key) (.int z)))) d (addKey ks r) (setI t r z) := by
  refine ⟨_, upd_same, keys_put ek, fun s hs => ?_, nd_addKey nd, fun s hs => ?_⟩
  · rw [valV_put]
    by_cases es : s = r
    · rw [es, if_pos rfl]
      show some (V.int z) = some (V.int (if r = r then z else t r))
      rw [if_pos rfl]
    · have hs' : s ∈ ks := (mem_addKey.mp hs).resolve_right es
      rw [if_neg (inl_ne es), hv s hs']
      show _ = some (V.int (if s = r then z else t s))
      rw [if_neg es]
  · have h1 : s ∉ ks := fun z => hs (mem_addKey.mpr (.inl z))
    have h2 : s ≠ r := fun z => hs (mem_addKey.mpr (.inr z))
    show (if s = r then z else t s) = 0
    rw [if_neg h2, out s h1]
/-- the tops over one bottom -/
def topsOf (L : List Part) (c : Nat) (r : Int) : Int := (TCR.val L r).num * ((c / (TCR.val L r).den : Nat) : Int)
theorem topsOf_div {L : List Part} {c : Nat} (hc : 0 < c) (r : Int) (h : (TCR.val L r).den ∣ c) : Rat.divInt (topsOf L c r) (c : Int) = TCR.val L r := by
  have dp := (TCR.val L r).den_pos
  have d0 : ((TCR.val L r).den : Int) ≠ 0 := by omega
  have c0 : ((c : Nat) : Int) ≠ 0 := by omega
  have e : Rat.divInt (topsOf L c r) (c : Int) = Rat.divInt (TCR.val L r).num ((TCR.val L r).den : Int) := by
    rw [Rat.divInt_eq_divInt_iff c0 d0]
    unfold topsOf
    rw [Int.mul_assoc]
    congr 1
    rw [← Int.natCast_mul, Nat.div_mul_cancel h]
  rw [e, Rat.num_divInt_den]
theorem den_val {L : List Part} {D : Nat} (h : ∀ x ∈ L, x.2.den ∣ D) (c : TCR.Canon L) (r : Int) : (TCR.val L r).den ∣ D := by
  rcases Classical.em (∃ q, (r, q) ∈ L) with ⟨q, z⟩ | z
  · rw [c.mem z]
    exact h _ z
  · rw [TCR.val_not fun x hx e => z ⟨x.2, by rw [← e]; exact hx⟩]
    exact Nat.one_dvd _
section
variable {P : Program} {w : World} {K : PySem.W.Frag} {mg : Str → Option Value} {base : Heap} {f : Addr} {fd : FuncData} {C fI fQ : Addr}
/-! ### on_one_bottom -/
def spOneB : Sp := fun vs H Q _ => ∃ (p : Addr) (L : List Part) (D A B : Nat), vs = [.ref p] ∧ PartsL H p L ∧ TCR.Canon L ∧ (∀ x ∈ L, x.2.den ∣ D) ∧ 0 < D ∧ D < 2 ^ B ∧ 0 < B ∧ B ≤ 8000 ∧ (∀ x ∈ L, x.2.num.natAbs < 2 ^ A) ∧ 0 < A ∧ A ≤ 20000 ∧ L.length ≤ 60 ∧
  ∀ (v d : Addr) (c : Nat) H', Same H H' → H v = none → H' v = some (.tup [.ref d, .int (c : Int)]) → H d = none → IntD H' d (L.map (·.1)) (topsOf L c) → 0 < c → c ∣ D → (∀ x ∈ L, x.2.den ∣ c) → Q (.ref v) H'
theorem scOneB : FnScope ["parts", "common", "root", "top", "bottom"] ["parts"] (defScope sOneBottom) := ⟨rfl, rfl, rfl, by decide +kernel, rfl, by decide +kernel, by decide +kernel⟩
theorem ok_oneB {fS : Addr} {fdS : FuncData} (F : FnP K "on_one_bottom" sOneBottom f fd) (GS : FnOk P w K mg base CX0 1 fS fdS ["one", "other"] spShared) (bS : L2.Binds K fdS ["one", "other"] []) (kS : PySem.W.keepIn K (.ref fS) = true) (gS : mg "shared" = some (.ref fS)) :
    FnOk P w K mg base CX0 2 f fd ["parts"] spOneB := by
  refine F.ok scOneB (fun vs H Q E h => ?_) (fun cdv Ar outer s H vs Q E hr h => ?_)
  · obtain ⟨p, L, D, A, B, rfl, _⟩ := h
    rfl
  · obtain ⟨p, L, D, A, B, rfl, ⟨us, hp, hL⟩, cL, dD, D0, DB, B0, B8, zA, A0, A2, len, q⟩ := h
    have hu := hu_of hr
    refine ⟨_, PSs.nox (pss_cons (ps_set (i := 1) scOneB.nd rfl (.inr rfl) pe_int)
      (pss_cons (ps_for PassesOwn.never rfl (pi_tup (pv 0)) (pg_tup rfl (pgs_cons (pg_name (i := 2) scOneB.nd rfl (.inl rfl)) (pgs_cons (pg_name (i := 3) scOneB.nd rfl (.inl rfl)) (pgs_cons (pg_name (i := 4) scOneB.nd rfl (.inl rfl)) pgs_nil))))
        (pss_one (ps_set (i := 1) scOneB.nd rfl (.inr rfl) (pe_op op_mulW (pe_op op_fdivNW (pv 1) (pe_call GS hr (by rfl) gS kS bS .nil pass0 (pa_cons (pv 1) (pa_cons (pv 4) pa_nil)))) (pv 4)))))
      (pss_one (ps_ret (pe_tup (pa_cons (pe_dc (own := [("root", 2), ("top", 3), ("bottom", 4)]) (g := gTup K 3 (gCons (gName 2) (gCons (gName 3) (gCons (gName 4) gNil)))) (tt := tYes) (tk := tVar 2) (tv := tOp (rI CMulW fun i j => .int (i * j)) (tVar 3) (tOp (rI CDivNW fun i j => .int (i.fdiv j)) (tVar 1) (tVar 4))) rfl scOneB.nd (pi_tup (pv 0))
          (blkOk_by (N := ["parts", "common", "root", "top", "bottom"]) (sc := defScope sOneBottom) (by decide +kernel))
          (fun _ _ _ _ _ => pg_tup rfl (pgs_cons (pg_name (i := 2) scOneB.nd rfl (.inl rfl)) (pgs_cons (pg_name (i := 3) scOneB.nd rfl (.inl rfl)) (pgs_cons (pg_name (i := 4) scOneB.nd rfl (.inl rfl)) pgs_nil)))) (fun _ _ _ _ _ => pts_nil) (fun _ _ _ _ _ => pv 2) (fun _ _ _ _ _ => pe_op op_mulW (pv 3) (pe_op op_fdivNW (pv 1) (pv 4))))
          (pa_cons (pv 1) pa_nil))))))), ?_⟩
    refine ⟨_, rfl, p, rfl, ⟨_, SqT.of hp⟩, for_tup (xs := us.map V.ref) (fun i σ H' => ∃ (v2 v3 v4 : Option V) (c : Nat), σ = [some (.ref p), some (.int (c : Int)), v2, v3, v4] ∧ H' = H ∧ 0 < c ∧ (∀ x ∈ L.take i, x.2.den ∣ c) ∧ (∀ E, (∀ x ∈ L.take i, x.2.den ∣ E) → c ∣ E))
      ⟨none, none, none, 1, rfl, rfl, by decide, (fun x hx => by simp at hx), fun E _ => Nat.one_dvd E⟩ (fun i σ H' _ hP => ?_) (fun i x σ H' hx hP => ?_) (fun σ H' hP => ?_)⟩
    · obtain ⟨_, _, _, _, _, rfl, _⟩ := hP
      exact SqT.of hp
    · obtain ⟨v2, v3, v4, c, rfl, rfl, c0, cd, cm⟩ := hP
      obtain ⟨u, y, rfl, hu', hy, hyv⟩ := hL.get hx
      have hyL : y ∈ L := List.mem_of_getElem? hy
      have et : L.take (i + 1) = L.take i ++ [y] := by
        rw [List.take_add_one, hy]
        rfl
      have cD : c ∣ D := cm D fun x hx => dD x (List.mem_of_mem_take hx)
      have cB : c < 2 ^ B := Nat.lt_of_le_of_lt (Nat.le_of_dvd D0 cD) DB
      have yB : y.2.den < 2 ^ B := Nat.lt_of_le_of_lt (Nat.le_of_dvd D0 (dD y hyL)) DB
      have dp := y.2.den_pos
      have gp : 0 < Nat.gcd c y.2.den := Nat.gcd_pos_of_pos_left _ c0
      have gB : Nat.gcd c y.2.den < 2 ^ B := Nat.lt_of_le_of_lt (Nat.le_of_dvd c0 (Nat.gcd_dvd_left ..)) cB
      have eg : Int.gcd (c : Int) (y.2.den : Int) = Nat.gcd c y.2.den := by
        rw [Int.gcd_natCast_natCast]
      have el : c / Nat.gcd c y.2.den * y.2.den = Nat.lcm c y.2.den := by
        rw [Nat.lcm, Nat.div_mul_right_comm (Nat.gcd_dvd_left ..)]
      refine ⟨u, _, rfl, SqT.of hyv, rfl, _, _, rfl, _, _, rfl, _, _, rfl, rfl, ?_⟩
      refine ⟨_, rfl, _, rfl, _, rfl, (c : Int), (y.2.den : Int), rfl, ?_⟩
      rw [eg]
      refine ⟨(c : Int), ((Nat.gcd c y.2.den : Nat) : Int), rfl, rfl, cdivn gp gB B0 B8, _, rfl, _, (y.2.den : Int), rfl, rfl, ?_, ?_⟩
      · show CMulW ((c : Int).fdiv ((Nat.gcd c y.2.den : Nat) : Int)) (y.2.den : Int)
        rw [fdiv_nat]
        exact cmulw (A := B) (B := B) (by rw [Int.natAbs_natCast]; exact Nat.lt_of_le_of_lt (Nat.div_le_self ..) cB) (by rw [Int.natAbs_natCast]; exact yB) B0 B0 (by omega)
      · refine ⟨some (.int y.1), some (.int y.2.num), some (.int (y.2.den : Int)), Nat.lcm c y.2.den, ?_, rfl, Nat.pos_of_ne_zero (fun z => ?_), fun x hx => ?_, fun E hE => ?_⟩
        · show [some (V.ref p), some (V.int ((c : Int).fdiv ((Nat.gcd c y.2.den : Nat) : Int) * (y.2.den : Int))), some (V.int y.1), some (V.int y.2.num), some (V.int (y.2.den : Int))] = _
          rw [fdiv_nat, ← Int.natCast_mul, el]
        · rcases Nat.lcm_eq_zero_iff.mp z with z | z <;> omega
        · rw [et] at hx
          rcases List.mem_append.mp hx with z | z
          · exact Nat.dvd_trans (cd x z) (Nat.dvd_lcm_left ..)
          · rw [List.mem_singleton.mp z]
            exact Nat.dvd_lcm_right ..
        · rw [et] at hE
          exact Nat.lcm_dvd (cm E fun x hx => hE x (List.mem_append_left _ hx)) (hE y (List.mem_append_right _ (List.mem_singleton.mpr rfl)))
    · obtain ⟨v2, v3, v4, c, rfl, rfl, c0, cd, cm⟩ := hP
      rw [List.length_map, hL.len, List.take_length] at cd cm
      have cD : c ∣ D := cm D dD
      have cB : c < 2 ^ B := Nat.lt_of_le_of_lt (Nat.le_of_dvd D0 cD) DB
      refine ⟨_, rfl, p, rfl, ⟨_, SqT.of hp⟩, fun d hd => dc_tup (xs := us.map V.ref) (fun i H2 => Same H' H2 ∧ IntD H2 d ((L.take i).map (·.1)) (topsOf (L.take i) c)) ?_ (fun i H2 _ hP => SqT.of (hP.1 _ _ hp)) (fun i x H2 hx hP => ?_) (fun H2 hP => ?_)⟩
      · exact ⟨same_upd hd, [], upd_same, rfl, (fun r hr => by cases hr), List.nodup_nil, fun r _ => by unfold topsOf; exact Int.zero_mul _⟩
      · obtain ⟨sm, kvs, e1, e2, e3, e4, e5⟩ := hP
        obtain ⟨u, y, rfl, hu', hy, hyv⟩ := (hL.same sm).get hx
        have hyL : y ∈ L := List.mem_of_getElem? hy
        have il : i < L.length := (List.getElem?_eq_some_iff.mp hy).1
        have et : L.take (i + 1) = L.take i ++ [y] := by
          rw [List.take_add_one, hy]
          rfl
        have dp := y.2.den_pos
        have yB : y.2.den < 2 ^ B := Nat.lt_of_le_of_lt (Nat.le_of_dvd D0 (dD y hyL)) DB
        have t0 := (TCR.val_take cL y.1 hy).1
        have t1 := fun s => (TCR.val_take cL s hy).2
        have nin : y.1 ∉ (L.take i).map (·.1) := fun m => by
          obtain ⟨z, hz, ez⟩ := List.mem_map.mp m
          have cT : TCR.Canon (L.take i) := ⟨cL.srt.sublist (List.take_sublist ..), fun x hx => cL.nz x (List.mem_of_mem_take hx)⟩
          have := cT.mem hz
          rw [ez, t0] at this
          exact cT.nz z hz this.symm
        refine ⟨u, _, rfl, SqT.of hyv, rfl, _, _, rfl, _, _, rfl, _, _, rfl, rfl, rfl, ?_⟩
        refine ⟨_, rfl, _, rfl, _, rfl, _, rfl, (c : Int), (y.2.den : Int), rfl, rfl, cdivn dp yB B0 B8, y.2.num, _, rfl, rfl, ?_, ?_⟩
        · show CMulW y.2.num ((c : Int).fdiv (y.2.den : Int))
          rw [fdiv_nat]
          exact cmulw (A := A) (B := B) (zA y hyL) (by rw [Int.natAbs_natCast]; exact Nat.lt_of_le_of_lt (Nat.div_le_self ..) cB) A0 B0 (by omega)
        · refine ⟨kvs, Sum.inl y.1, rfl, e1, small1000 (by rw [len_keys e2, List.length_map, List.length_take]; omega), same_at sm hd, ?_⟩
          show IntD (upd H2 d (.dK (putK kvs (Sum.inl y.1) (.int (y.2.num * (c : Int).fdiv (y.2.den : Int)))))) d _ _
          rw [fdiv_nat]
          have z := putI_ok (H := H2) (d := d) (r := y.1) (z := y.2.num * ((c / y.2.den : Nat) : Int)) e2 e3 e4 e5
          have ek : addKey ((L.take i).map (·.1)) y.1 = (L.take (i + 1)).map (·.1) := by
            unfold addKey
            rw [if_neg nin, et, List.map_append]
            rfl
          rw [ek] at z
          refine z.imp fun s => ?_
          unfold setI topsOf
          rw [t1 s]
          by_cases es : s = y.1
          · rw [if_pos es, if_pos es]
          · rw [if_neg es, if_neg es]
      · obtain ⟨sm, hI⟩ := hP
        rw [List.length_map, hL.len, List.take_length] at hI
        refine ⟨_, rfl, by show 2 ≤ sizeLine; decide, fun v hv => ?_⟩
        have sv := same_upd (o := .tup [.ref d, .int (c : Int)]) hv
        exact q v d c _ (sm.trans sv) (sm.free hv) upd_same hd (hI.same sv) c0 cD cd
end
end TC
namespace TC
open PySem PySem.Spec PyProof.Rows L2 TCA
theorem dget_rd {H : Hp} {d : Addr} {kvs : List (Key × V)} {r : Int} {v : V} (e : Rd H d (.dK kvs)) (h : valV kvs (Sum.inl r : Key) = some v) : DGet H d (.int r) (some v) := by
  have z : DGet H d (kV (Sum.inl r : Key)) (valV kvs (Sum.inl r : Key)) := .inl ⟨kvs, Sum.inl r, e, rfl, rfl⟩
  rw [h] at z
  exact z
theorem key_at {kvs : List (Key × V)} {ks : List Int} {i : Nat} {k : Key} {v : V} (e : kvs.map (·.1) = ks.map (Sum.inl : Int → Key)) (h : kvs[i]? = some (k, v)) : ∃ r, ks[i]? = some r ∧ k = Sum.inl r := by
  have z : (kvs.map (·.1))[i]? = some k := by
    rw [List.getElem?_map, h]
    rfl
  rw [e, List.getElem?_map] at z
  cases q : ks[i]? with
  | none =>
    rw [q] at z
    cases z
  | some r =>
    rw [q] at z
    exact ⟨r, rfl, (Option.some.inj z).symm⟩
theorem valV_drop {kvs : List (Key × V)} {k j : Key} : valV (dropK kvs k) j = if j = k then none else valV kvs j := by
  induction kvs with
  | nil => simp [dropK, valV]
  | cons p r ih =>
    by_cases e : p.1 = k
    · rw [dropK_pos e, ih]
      by_cases ej : j = k
      · rw [if_pos ej, if_pos ej]
      · rw [if_neg ej, if_neg ej, valV_neg (p := p) fun z => ej (z.symm.trans e)]
    · rw [dropK_neg e]
      by_cases ep : p.1 = j
      · rw [valV_pos ep, valV_pos ep, if_neg fun z => e (ep.trans z)]
      · rw [valV_neg ep, valV_neg ep, ih]
theorem keys_drop {kvs : List (Key × V)} {ks : List Int} {r : Int} (e : kvs.map (·.1) = ks.map (Sum.inl : Int → Key)) : (dropK kvs (Sum.inl r : Key)).map (·.1) = (ks.filter fun s => decide (s ≠ r)).map (Sum.inl : Int → Key) := by
  induction kvs generalizing ks with
  | nil =>
    cases ks with
    | nil => rfl
    | cons a ks => cases e
  | cons p kvs ih =>
    cases ks with
    | nil => cases e
    | cons a ks =>
      have e1 : p.1 = Sum.inl a := (List.cons.inj e).1
      have e2 : kvs.map (·.1) = ks.map (Sum.inl : Int → Key) := (List.cons.inj e).2
      by_cases h : a = r
      · rw [dropK_pos (by rw [e1, h]), List.filter_cons, if_neg (by simp [h])]
        exact ih e2
      · rw [dropK_neg (by rw [e1]; exact inl_ne h), List.filter_cons, if_pos (by simp [h]), List.map_cons, List.map_cons, ih e2, e1]
theorem mem_take_succ {ks : List Int} {i : Nat} {r s : Int} (h : ks[i]? = some r) : s ∈ ks.take (i + 1) ↔ s ∈ ks.take i ∨ s = r := by
  rw [List.take_add_one, h]
  simp
theorem mem_drop_of {ks : List Int} {i : Nat} {r : Int} (h : ks[i]? = some r) : ks.drop i = r :: ks.drop (i + 1) := by
  obtain ⟨hl, e⟩ := List.getElem?_eq_some_iff.mp h
  rw [List.drop_eq_getElem_cons hl, e]
theorem nd_not_take {ks : List Int} (nd : ks.Nodup) {i : Nat} {r : Int} (h : ks[i]? = some r) : r ∉ ks.take i := fun m => by
  obtain ⟨j, hj, e⟩ := List.mem_iff_getElem.mp m
  rw [List.length_take] at hj
  rw [List.getElem_take] at e
  obtain ⟨hl, e2⟩ := List.getElem?_eq_some_iff.mp h
  have := (List.getElem_inj nd (h₀ := by omega) (h₁ := hl)).mp (e.trans e2.symm)
  omega
def Clear (ks : List Int) (g : Int → Rat) : Prop := ∀ r ∈ ks, g r ≠ 0
section
variable {P : Program} {w : World} {K : PySem.W.Frag} {mg : Str → Option Value} {base : Heap} {f : Addr} {fd : FuncData} {C fI fQ : Addr}
/-! ### _law_cleared -/
def spCleared : Sp := fun vs H Q _ => ∃ (d : Addr) (ks : List Int) (g : Int → Rat), vs = [.ref d] ∧ DictAt H d ks g ∧ ks.length ≤ 900 ∧
  ∀ d' ks' H', Same H H' → H d' = none → DictAt H' d' ks' g → Clear ks' g → ks'.length ≤ ks.length → (∀ r ∈ ks', r ∈ ks) → Q (.ref d') H'
end
end TC
namespace TC
open PySem PySem.Spec PyProof.Rows L2 TCA
/-! ### sums over pairs of roots -/
def sumI : List Int → Int
  | [] => 0
  | a :: l => a + sumI l
theorem sumI_append : ∀ (l m : List Int), sumI (l ++ m) = sumI l + sumI m
  | [], m => by show sumI m = 0 + sumI m; omega
  | a :: l, m => by
    show a + sumI (l ++ m) = a + sumI l + sumI m
    rw [sumI_append l m]
    omega
def gR (r s : Int) : Int := ((Int.gcd r s : Nat) : Int)
def mulR (r s : Int) : Int := r.fdiv (gR r s) * s.fdiv (gR r s)
def rowI (r z : Int) (k2 : List Int) (t2 : Int → Int) (u : Int) : Int := sumI (k2.map fun s => if mulR r s = u then z * t2 s * gR r s else 0)
def prodI (k1 k2 : List Int) (t1 t2 : Int → Int) (u : Int) : Int := sumI (k1.map fun r => rowI r (t1 r) k2 t2 u)
theorem rowI_succ {r z : Int} {k2 : List Int} {t2 : Int → Int} {j : Nat} {s : Int} (h : k2[j]? = some s) (u : Int) : rowI r z (k2.take (j + 1)) t2 u = rowI r z (k2.take j) t2 u + if mulR r s = u then z * t2 s * gR r s else 0 := by
  unfold rowI
  rw [List.take_add_one, h, List.map_append, sumI_append]
  show _ + (_ + 0) = _
  rw [Int.add_zero]
theorem prodI_succ {k1 k2 : List Int} {t1 t2 : Int → Int} {i : Nat} {r : Int} (h : k1[i]? = some r) (u : Int) : prodI (k1.take (i + 1)) k2 t1 t2 u = prodI (k1.take i) k2 t1 t2 u + rowI r (t1 r) k2 t2 u := by
  unfold prodI
  rw [List.take_add_one, h, List.map_append, sumI_append]
  show _ + (_ + 0) = _
  rw [Int.add_zero]
theorem valV_get : ∀ {kvs : List (Key × V)} {i : Nat} {k : Key} {v : V}, (kvs.map (·.1)).Nodup → kvs[i]? = some (k, v) → valV kvs k = some v
  | [], i, k, v, _, h => by simp at h
  | p :: kvs, 0, k, v, _, h => by
    have e : p = (k, v) := by simpa using h
    rw [e]
    exact valV_pos rfl
  | p :: kvs, i + 1, k, v, nd, h => by
    have h' : kvs[i]? = some (k, v) := by simpa using h
    have n := List.nodup_cons.mp nd
    rw [valV_neg fun e => n.1 (by
      show p.1 ∈ _
      rw [e]
      exact List.mem_map.mpr ⟨_, List.mem_of_getElem? h', rfl⟩)]
    exact valV_get n.2 h'
theorem int_at {kvs : List (Key × V)} {ks : List Int} {t : Int → Int} {i : Nat} {x y : V} (e2 : kvs.map (·.1) = ks.map (Sum.inl : Int → Key)) (e3 : ∀ r ∈ ks, valV kvs (Sum.inl r : Key) = some (.int (t r))) (nd : ks.Nodup)
    (hx : (kvs[i]?.map fun kv => kV kv.1) = some x) (hy : (kvs[i]?.map Prod.snd) = some y) : ∃ r, ks[i]? = some r ∧ x = .int r ∧ y = .int (t r) := by
  cases e : kvs[i]? with
  | none =>
    rw [e] at hx
    cases hx
  | some kv =>
    obtain ⟨k, v⟩ := kv
    rw [e] at hx hy
    obtain ⟨r, hr, rfl⟩ := key_at e2 e
    have ndk : (kvs.map (·.1)).Nodup := by
      rw [e2]
      exact List.pairwise_map.mpr (nd.imp fun {a b} z => inl_ne z)
    have hv := valV_get ndk e
    rw [e3 r (List.mem_of_getElem? hr)] at hv
    refine ⟨r, hr, (Option.some.inj hx).symm, ?_⟩
    rw [Option.some.inj hv]
    exact (Option.some.inj hy).symm
section
variable {J : It} {n : Nat} {G : Hp → Prop} {Y : Nat → Hp → V → Hp → Prop}
theorem dc_it (w : Walk J n G Y) {g : TG} {tt : TT} {tk tv : TE} {vs : List Nat} {σ : L2.St} {H1 : Hp} {D : Addr} {Qd : Hp → Prop} (Pv : Nat → Hp → Prop) (h0 : Pv 0 (upd H1 D (.dK []))) (hG : ∀ i H, i ≤ n → Pv i H → G H)
    (hs : ∀ i x H H', i < n → Pv i H → Y i H x H' → g x (wipe σ vs) H' fun σ2 H2 => wipe σ2 vs = wipe σ vs ∧ tt σ2 H2 fun b H3 =>
      if b = true then tk σ2 H3 fun y H4 => tv σ2 H4 fun z H5 => ∃ kvs k, y = kV k ∧ H5 D = some (.dK kvs) ∧ kvs.length < sizeLine ∧ Pv (i + 1) (upd H5 D (.dK (putK kvs k z))) else Pv (i + 1) H3) (hd : ∀ H, Pv n H → Qd H) :
    ∃ W : Nat → Nat → Hp → Prop, (∃ m, W 0 m (upd H1 D (.dK []))) ∧ ∀ i m H, W i m H →
      (J.stop i H ∧ Qd H) ∨ (J.go i H ∧ ∃ Nx : Hp → Prop, (∀ H', Nx H' → ∃ m', m' < m ∧ W (i + 1) m' H') ∧ ∀ x H', J.yld i H x H' → g x (wipe σ vs) H' fun σ2 H2 => wipe σ2 vs = wipe σ vs ∧ tt σ2 H2 fun b H3 =>
        if b = true then tk σ2 H3 fun y H4 => tv σ2 H4 fun z H5 => ∃ kvs k, y = kV k ∧ H5 D = some (.dK kvs) ∧ kvs.length < sizeLine ∧ Nx (upd H5 D (.dK (putK kvs k z))) else Nx H3) := by
  refine ⟨fun i m H => m = n - i ∧ i ≤ n ∧ Pv i H, ⟨n, by simp, Nat.zero_le _, h0⟩, ?_⟩
  rintro i m H ⟨rfl, hi, p⟩
  have q := hG i H hi p
  by_cases hlt : i < n
  · exact .inr ⟨w.goes i H hlt q, Pv (i + 1), fun H' p' => ⟨n - (i + 1), by omega, rfl, hlt, p'⟩, fun x H' y => hs i x H H' hlt p (w.yields i H x H' hlt q y)⟩
  · have e : i = n := by omega
    subst e
    exact .inl ⟨w.stops H q, hd H p⟩
end
section
variable {P : Program} {w : World} {K : PySem.W.Frag} {mg : Str → Option Value} {base : Heap} {f : Addr} {fd : FuncData} {C fI fQ : Addr}
/-! ### products -/
def spProducts : Sp := fun vs H Q _ => ∃ (d1 d2 : Addr) (k1 k2 : List Int) (t1 t2 : Int → Int) (A B R : Nat), vs = [.ref d1, .ref d2] ∧ d1 ≠ d2 ∧ IntD H d1 k1 t1 ∧ IntD H d2 k2 t2 ∧ (∀ r ∈ k1, 0 < r ∧ r.natAbs < 2 ^ R) ∧ (∀ r ∈ k2, 0 < r ∧ r.natAbs < 2 ^ R) ∧
  (∀ r, (t1 r).natAbs < 2 ^ A) ∧ (∀ r, (t2 r).natAbs < 2 ^ B) ∧ 0 < A ∧ 0 < B ∧ A + B ≤ 80000 ∧ 0 < R ∧ R ≤ 5000 ∧ k1.length * k2.length ≤ 900 ∧
  ∀ d ks H', Same H H' → H d = none → IntD H' d ks (prodI k1 k2 t1 t2) → ks.length ≤ k1.length * k2.length → (∀ u ∈ ks, ∃ r ∈ k1, ∃ s ∈ k2, u = mulR r s) → Q (.ref d) H'
theorem scProducts : FnScope ["tops", "others", "found", "root", "top", "by", "number", "common", "left"] ["tops", "others"] (defScope sProducts) := ⟨rfl, rfl, rfl, by decide +kernel, rfl, by decide +kernel, by decide +kernel⟩
theorem ok_products {fS : Addr} {fdS : FuncData} (F : FnP K "products" sProducts f fd) (GS : FnOk P w K mg base CX0 1 fS fdS ["one", "other"] spShared) (bS : L2.Binds K fdS ["one", "other"] []) (kS : PySem.W.keepIn K (.ref fS) = true) (gS : mg "shared" = some (.ref fS)) :
    FnOk P w K mg base CX0 2 f fd ["tops", "others"] spProducts := by
  refine F.ok scProducts (fun vs H Q E h => ?_) (fun cdv Ar outer s H vs Q E hr h => ?_)
  · obtain ⟨d1, d2, k1, k2, t1, t2, A, B, R, rfl, _⟩ := h
    rfl
  · obtain ⟨d1, d2, k1, k2, t1, t2, A, B, R, rfl, ndd, h1, h2, r1, r2, z1, z2, A0, B0, AB, R0, R5, len, q⟩ := h
    have hu := hu_of hr
    refine ⟨_, PSs.nox (pss_cons (ps_set (i := 2) scProducts.nd rfl (.inl rfl) pe_dnewK)
      (pss_cons (ps_lock (ps_for PassesOwn.never rfl (pi_items (pv 0)) (pg_tup rfl (pgs_cons (pg_name (i := 3) scProducts.nd rfl (.inl rfl)) (pgs_cons (pg_name (i := 4) scProducts.nd rfl (.inl rfl)) pgs_nil)))
        (pss_one (ps_lock (ps_for PassesOwn.never rfl (pi_items (pv 1)) (pg_tup rfl (pgs_cons (pg_name (i := 5) scProducts.nd rfl (.inl rfl)) (pgs_cons (pg_name (i := 6) scProducts.nd rfl (.inl rfl)) pgs_nil)))
          (pss_cons (ps_set (i := 7) scProducts.nd rfl (.inl rfl) (pe_call GS hr (by rfl) gS kS bS .nil pass0 (pa_cons (pv 3) (pa_cons (pv 5) pa_nil))))
          (pss_cons (ps_set (i := 8) scProducts.nd rfl (.inl rfl) (pe_op op_mulW (pe_op op_fdivNW (pv 3) (pv 7)) (pe_op op_fdivNW (pv 5) (pv 7))))
          (pss_one (ps_dput hu (pv 2) (pv 8) (pe_op op_add (pe_dget2 hu (pv 2) (pv 8) pe_int ⟨rfl, rfl, rfl, rfl⟩) (pe_op op_mulW (pe_op op_mulW (pv 4) (pv 6)) (pv 7))) rfl)))))))))
      (pss_one (ps_ret (pe_lock (pe_dc (own := [("root", 3), ("top", 4)]) (g := gTup K 2 (gCons (gName 3) (gCons (gName 4) gNil))) (tt := tTest (tOp rNe (tVar 4) (tC (.int 0)))) (tk := tVar 3) (tv := tVar 4) rfl scProducts.nd (pi_items (pv 2))
          (blkOk_by (N := ["tops", "others", "found", "root", "top", "by", "number", "common", "left"]) (sc := defScope sProducts) (by decide +kernel))
          (fun _ _ _ _ _ => pg_tup rfl (pgs_cons (pg_name (i := 3) scProducts.nd rfl (.inl rfl)) (pgs_cons (pg_name (i := 4) scProducts.nd rfl (.inl rfl)) pgs_nil))) (fun _ _ _ _ _ => pts_one (pt_cmpR op_ne (pv 4) pe_int (nomark _))) (fun _ _ _ _ _ => pv 3) (fun _ _ _ _ _ => pv 4))))))), ?_⟩
    obtain ⟨kv1, a1, a2, a3, a4, a5⟩ := id h1
    obtain ⟨kv2, b1, b2, b3, b4, b5⟩ := id h2
    have lk1 := len_keys a2
    have lk2 := len_keys b2
    intro p hp
    have smp := same_upd (o := .dK []) hp
    have np1 : p ≠ d1 := (ne_of_none a1 hp).symm
    have np2 : p ≠ d2 := (ne_of_none b1 hp).symm
    refine ⟨d1, .dK kv1, smp _ _ a1, trivial, fun o1 => ?_⟩
    refine ⟨_, rfl, d1, o1, kv1, rfl, upd_same, ?_⟩
    refine for_it (walk_items (d := d1) (o := o1) (kvs := kv1)) (fun i σ H' => ∃ (v3 v4 v5 v6 v7 v8 : Option V) (ks : List Int), σ = [some (.ref d1), some (.ref d2), some (.ref p), v3, v4, v5, v6, v7, v8] ∧ H' d1 = some (.frz o1 (.dK kv1)) ∧ (∀ b o, H b = some o → b ≠ d1 → H' b = some o) ∧
        IntD H' p ks (prodI (k1.take i) k2 t1 t2) ∧ ks.length ≤ i * k2.length ∧ (∀ u ∈ ks, ∃ r ∈ k1, ∃ s ∈ k2, u = mulR r s))
      ⟨none, none, none, none, none, none, [], rfl, upd_same, fun b o e hb => by rw [upd_ne hb]; exact smp _ _ e, ⟨[], by rw [upd_ne np1, upd_same], rfl, (fun r hr => by cases hr), List.nodup_nil, fun r _ => rfl⟩, Nat.zero_le _, (fun u hu => by cases hu)⟩ (fun i σ H' _ hP => ?_) (fun i x σ H' H2 hi hP hy => ?_) (fun σ H' hP => ?_)
    · obtain ⟨_, _, _, _, _, _, _, _, z, _⟩ := hP
      exact z
    · obtain ⟨T, x, y, rfl, hT, rfl, hx, hy⟩ := hy
      obtain ⟨v3, v4, v5, v6, v7, v8, ks, rfl, hf1, keep, hI, lks, sub⟩ := hP
      obtain ⟨r, hr', rfl, rfl⟩ := int_at a2 a3 a4 hx hy
      have rk : r ∈ k1 := List.mem_of_getElem? hr'
      have smT := same_upd (o := .tup [.int r, .int (t1 r)]) hT
      refine ⟨T, _, rfl, SqT.of upd_same, rfl, _, _, rfl, _, _, rfl, rfl, ?_⟩
      refine ⟨d2, .dK kv2, smT _ _ (keep _ _ b1 ndd.symm), trivial, fun o2 => ?_⟩
      refine ⟨_, rfl, d2, o2, kv2, rfl, upd_same, ?_⟩
      refine for_it (walk_items (d := d2) (o := o2) (kvs := kv2)) (fun j σ H3 => ∃ (v5 v6 v7 v8 : Option V) (ks : List Int), σ = [some (.ref d1), some (.ref d2), some (.ref p), some (.int r), some (.int (t1 r)), v5, v6, v7, v8] ∧ H3 d1 = some (.frz o1 (.dK kv1)) ∧ H3 d2 = some (.frz o2 (.dK kv2)) ∧ (∀ b o, H b = some o → b ≠ d1 → b ≠ d2 → H3 b = some o) ∧
          IntD H3 p ks (fun u => prodI (k1.take i) k2 t1 t2 u + rowI r (t1 r) (k2.take j) t2 u) ∧ ks.length ≤ i * k2.length + j ∧ (∀ u ∈ ks, ∃ r ∈ k1, ∃ s ∈ k2, u = mulR r s))
        ⟨v5, v6, v7, v8, ks, rfl, by rw [upd_ne ndd]; exact smT _ _ hf1, upd_same, fun b o e hb hb2 => by rw [upd_ne hb2]; exact smT _ _ (keep _ _ e hb), ((hI.same smT).upd np2).imp fun u => (Int.add_zero _).symm, by omega, sub⟩ (fun j σ H3 _ hP => ?_) (fun j x σ H3 H4 hj hP hy => ?_) (fun σ H3 hP => ?_)
      · obtain ⟨_, _, _, _, _, _, _, z, _⟩ := hP
        exact z
      · obtain ⟨T2, x, y, rfl, hT2, rfl, hx, hy⟩ := hy
        obtain ⟨v5, v6, v7, v8, ks, rfl, hf1', hf2', keep', hI', lks', sub'⟩ := hP
        obtain ⟨s, hs', rfl, rfl⟩ := int_at b2 b3 b4 hx hy
        have sk : s ∈ k2 := List.mem_of_getElem? hs'
        have il : j < k2.length := (List.getElem?_eq_some_iff.mp hs').1
        have il1 : i < k1.length := (List.getElem?_eq_some_iff.mp hr').1
        have smT2 := same_upd (o := .tup [.int s, .int (t2 s)]) hT2
        obtain ⟨r0, rR⟩ := r1 r rk
        obtain ⟨s0, sR⟩ := r2 s sk
        have gp : 0 < Int.gcd r s := Int.gcd_pos_iff.mpr (.inl (by omega))
        have gle : Int.gcd r s ≤ r.natAbs := Nat.le_of_dvd (by omega) (Int.gcd_dvd_natAbs_left r s)
        have gB : Int.gcd r s < 2 ^ R := Nat.lt_of_le_of_lt gle rR
        have gRB : (gR r s).natAbs < 2 ^ R := by
          unfold gR
          rw [Int.natAbs_natCast]
          exact gB
        have cdv' : ∀ z, CDivNW z (gR r s) := fun z => cdivn gp gB R0 (by omega)
        have fB : ∀ z : Int, 0 < z → z.natAbs < 2 ^ R → (z.fdiv (gR r s)).natAbs < 2 ^ R := fun z hz hzR => by
          have e : z = ((z.natAbs : Nat) : Int) := by omega
          rw [e]
          unfold gR
          rw [fdiv_nat, Int.natAbs_natCast]
          exact Nat.lt_of_le_of_lt (Nat.div_le_self ..) hzR
        refine ⟨T2, _, rfl, SqT.of upd_same, rfl, _, _, rfl, _, _, rfl, rfl, ?_⟩
        refine ⟨_, rfl, _, rfl, r, s, rfl, ?_⟩
        refine ⟨_, rfl, _, rfl, r, gR r s, rfl, rfl, cdv' _, _, rfl, _, rfl, s, gR r s, rfl, rfl, cdv' _, _, _, rfl, rfl, cmulw (fB r r0 rR) (fB s s0 sR) R0 R0 (by omega), ?_⟩
        obtain ⟨kvp, p1, p2, p3, p4, p5⟩ := hI'.same smT2
        have len9 : ks.length ≤ 900 := by
          have : (i + 1) * k2.length ≤ k1.length * k2.length := Nat.mul_le_mul_right _ il1
          rw [Nat.succ_mul] at this
          omega
        have got : ∃ o, DGet (upd H3 T2 (.tup [.int s, .int (t2 s)])) p (.int (mulR r s)) o ∧ o.getD (.int 0) = .int (prodI (k1.take i) k2 t1 t2 (mulR r s) + rowI r (t1 r) (k2.take j) t2 (mulR r s)) := by
          by_cases hk : mulR r s ∈ ks
          · exact ⟨_, dget_in p1 (p3 _ hk), rfl⟩
          · refine ⟨none, dget_out p1 (valV_out p2 hk), ?_⟩
            have z := p5 _ hk
            show V.int 0 = _
            rw [show prodI (k1.take i) k2 t1 t2 (mulR r s) + rowI r (t1 r) (k2.take j) t2 (mulR r s) = 0 from z]
        obtain ⟨o, dg, eo⟩ := got
        refine ⟨_, rfl, p, rfl, .inl ⟨_, .inl p1⟩, _, rfl, o, dg, ?_⟩
        rw [eo]
        refine ⟨_, rfl, _, rfl, t1 r, t2 s, rfl, rfl, cmulw (z1 r) (z2 s) A0 B0 (by omega), _, rfl, _, gR r s, rfl, rfl, cmulw (wide_lt (z1 r) (z2 s)) gRB (by omega) R0 (by omega), _, _, rfl, rfl, ?_⟩
        refine ⟨_, rfl, _, rfl, p, _, rfl, DPut.k (k := Sum.inl (mulR r s)) p1 (small1000 (by rw [len_keys p2]; omega)), ?_⟩
        have hfp : ∀ {b : Addr} {o : HO}, b ≠ p → (upd H3 T2 (.tup [.int s, .int (t2 s)])) b = some o → (upd (upd H3 T2 (.tup [.int s, .int (t2 s)])) p (.dK (putK kvp (Sum.inl (mulR r s)) (.int (prodI (k1.take i) k2 t1 t2 (mulR r s) + rowI r (t1 r) (k2.take j) t2 (mulR r s) + t1 r * t2 s * gR r s))))) b = some o := fun {b o} hb e => by
          rw [upd_ne hb]
          exact e
        refine ⟨_, _, _, _, addKey ks (mulR r s), rfl, hfp np1.symm (smT2 _ _ hf1'), hfp np2.symm (smT2 _ _ hf2'), fun b o e hb hb2 => hfp (ne_of_none e hp) (smT2 _ _ (keep' _ _ e hb hb2)), ?_, Nat.le_trans (addKey_len ks _) (by omega), fun u hu' => ?_⟩
        · refine (putI_ok (H := upd H3 T2 (.tup [.int s, .int (t2 s)])) (d := p) (r := mulR r s) p2 p3 p4 p5).imp fun u => ?_
          unfold setI
          show (if u = mulR r s then _ else prodI (k1.take i) k2 t1 t2 u + rowI r (t1 r) (k2.take j) t2 u) = prodI (k1.take i) k2 t1 t2 u + rowI r (t1 r) (k2.take (j + 1)) t2 u
          rw [rowI_succ hs' u]
          by_cases es : u = mulR r s
          · rw [if_pos es, if_pos es.symm, es, Int.add_assoc]
          · rw [if_neg es, if_neg fun z => es z.symm, Int.add_zero]
        · rcases mem_addKey.mp hu' with m | m
          · exact sub' u m
          · exact ⟨r, rk, s, sk, m⟩
      · obtain ⟨v5, v6, v7, v8, ks, rfl, hf1', hf2', keep', hI', lks', sub'⟩ := hP
        refine ⟨hf2', _, _, _, _, _, _, ks, rfl, by rw [upd_ne ndd]; exact hf1', fun b o e hb => ?_, (hI'.upd np2).imp fun u => ?_, ?_, sub'⟩
        · by_cases hb2 : b = d2
          · rw [hb2, upd_same]
            rw [hb2, b1] at e
            exact e
          · rw [upd_ne hb2]
            exact keep' _ _ e hb hb2
        · show _ + rowI r (t1 r) (k2.take kv2.length) t2 u = _
          rw [lk2, List.take_length, prodI_succ hr' u]
        · rw [Nat.succ_mul]
          omega
    · obtain ⟨v3, v4, v5, v6, v7, v8, ks, rfl, hf1, keep, hI, lks, sub⟩ := hP
      refine ⟨hf1, ?_⟩
      rw [lk1, List.take_length] at hI
      rw [lk1] at lks
      have smq : Same H (upd H' d1 (.dK kv1)) := fun b o e => by
        by_cases hb : b = d1
        · rw [hb, upd_same]
          rw [hb, a1] at e
          exact e
        · rw [upd_ne hb]
          exact keep _ _ e hb
      have hIq := hI.upd (o := .dK kv1) np1
      generalize upd H' d1 (.dK kv1) = Hq at smq hIq ⊢
      obtain ⟨kvp, p1, p2, p3, p4, p5⟩ := hIq
      have lkp := len_keys p2
      refine ⟨p, .dK kvp, p1, trivial, fun o3 => ?_⟩
      refine ⟨_, rfl, p, o3, kvp, rfl, upd_same, fun D hD => dc_it (walk_items (d := p) (o := o3) (kvs := kvp)) (fun i H2 => (∀ b o, Hq b = some o → b ≠ p → H2 b = some o) ∧ H2 p = some (.frz o3 (.dK kvp)) ∧ ∃ ks', IntD H2 D ks' (fun u => if u ∈ ks.take i then prodI k1 k2 t1 t2 u else 0) ∧ ks'.length ≤ i ∧ ∀ u ∈ ks', u ∈ ks) ?_ (fun i H2 _ hP => hP.2.1) (fun i x H2 H3 hi hP hy => ?_) (fun H2 hP => ?_)⟩
      · have nDp : p ≠ D := ne_of_none (upd_same (H := Hq) (a := p) (o := .frz o3 (.dK kvp))) hD
        refine ⟨fun b o e hb => ?_, by rw [upd_ne nDp]; exact upd_same, [], ⟨[], upd_same, rfl, (fun r hr => by cases hr), List.nodup_nil, fun r _ => by simp⟩, Nat.le_refl _, (fun u hu => by cases hu)⟩
        exact same_upd hD _ _ (by rw [upd_ne hb]; exact e)
      · obtain ⟨T3, x, y, rfl, hT3, rfl, hx, hy⟩ := hy
        obtain ⟨keep3, hfp, ks', hI3, l3, sub3⟩ := hP
        obtain ⟨u, hu', rfl, rfl⟩ := int_at p2 p3 p4 hx hy
        have uk : u ∈ ks := List.mem_of_getElem? hu'
        have iu : i < ks.length := (List.getElem?_eq_some_iff.mp hu').1
        have sm3 := same_upd (o := .tup [.int u, .int (prodI k1 k2 t1 t2 u)]) hT3
        have nDp : p ≠ D := fun z => by
          obtain ⟨kvD, q1, _⟩ := hI3
          rw [← z, hfp] at q1
          cases q1
        refine ⟨T3, _, rfl, SqT.of upd_same, rfl, _, _, rfl, _, _, rfl, rfl, rfl, ?_⟩
        refine ⟨_, rfl, rfl, _, rfl, ?_⟩
        by_cases hz : prodI k1 k2 t1 t2 u = 0
        · refine iteNS (congrArg V.int hz) ?_
          refine ⟨fun b o e hb => sm3 _ _ (keep3 _ _ e hb), sm3 _ _ hfp, ks', (hI3.same sm3).imp fun s => ?_, Nat.le_succ_of_le l3, sub3⟩
          show (if s ∈ ks.take i then prodI k1 k2 t1 t2 s else 0) = (if s ∈ ks.take (i + 1) then prodI k1 k2 t1 t2 s else 0)
          by_cases m : s ∈ ks.take i
          · rw [if_pos m, if_pos ((mem_take_succ hu').mpr (.inl m))]
          · rw [if_neg m]
            by_cases es : s = u
            · rw [es, hz]
              split <;> rfl
            · rw [if_neg fun z => ((mem_take_succ hu').mp z).elim m es]
        · refine iteNT (ine hz) ?_
          obtain ⟨kvD, q1, q2, q3, q4, q5⟩ := hI3.same sm3
          refine ⟨_, rfl, _, rfl, kvD, Sum.inl u, rfl, q1, small1000 (by rw [len_keys q2]; omega), fun b o e hb => ?_, ?_, addKey ks' u, (putI_ok (r := u) q2 q3 q4 q5).imp fun s => ?_, Nat.le_trans (addKey_len ks' u) (by omega), fun s hs => ?_⟩
          · have nb : b ≠ D := fun z => by
              rw [z] at e hb
              have := (by rw [upd_ne hb]; exact e : (upd Hq p (.frz o3 (.dK kvp))) D = some o)
              rw [hD] at this
              cases this
            rw [upd_ne nb]
            exact sm3 _ _ (keep3 _ _ e hb)
          · rw [upd_ne nDp]
            exact sm3 _ _ hfp
          · unfold setI
            show (if s = u then _ else if s ∈ ks.take i then prodI k1 k2 t1 t2 s else 0) = (if s ∈ ks.take (i + 1) then prodI k1 k2 t1 t2 s else 0)
            by_cases es : s = u
            · rw [if_pos es, if_pos ((mem_take_succ hu').mpr (.inr es)), es]
            · rw [if_neg es]
              by_cases m : s ∈ ks.take i
              · rw [if_pos m, if_pos ((mem_take_succ hu').mpr (.inl m))]
              · rw [if_neg m, if_neg fun z => ((mem_take_succ hu').mp z).elim m es]
          · rcases mem_addKey.mp hs with m | m
            · exact sub3 s m
            · rw [m]
              exact uk
      · obtain ⟨keep3, hfp, ks', hI3, l3, sub3⟩ := hP
        have nDp : D ≠ p := fun z => by
          obtain ⟨kvD, q1, _⟩ := hI3
          rw [z, hfp] at q1
          cases q1
        refine ⟨hfp, q D ks' _ (fun b o e => ?_) ?_ ((hI3.upd nDp).imp fun u => ?_) (by omega) fun u hu' => sub u (sub3 u hu')⟩
        · rw [upd_ne (ne_of_none e hp)]
          exact keep3 _ _ (smq _ _ e) (ne_of_none e hp)
        · refine smq.free ?_
          have z := hD
          rw [upd_ne nDp] at z
          exact z
        · show (if u ∈ ks.take kvp.length then prodI k1 k2 t1 t2 u else 0) = _
          rw [lkp, List.take_length]
          by_cases m : u ∈ ks
          · rw [if_pos m]
          · rw [if_neg m, p5 u m]
end
end TC
namespace TC
open PySem PySem.Spec PyProof.Rows L2 TCA
/-! ### products of numbers, as fractions -/
def sumQ : List Rat → Rat
  | [] => 0
  | a :: l => a + sumQ l
/-- the product at a root, by the roots of both -/
def prodG (k1 k2 : List Int) (g1 g2 : Int → Rat) (u : Int) : Rat := sumQ (k1.map fun r => sumQ (k2.map fun s => if mulR r s = u then g1 r * g2 s * ((gR r s : Int) : Rat) else 0))
/-- the tops over one bottom D -/
def topsG (g : Int → Rat) (D : Nat) (r : Int) : Int := (g r).num * ((D / (g r).den : Nat) : Int)
theorem topsG_div {g : Int → Rat} {c : Nat} (hc : 0 < c) (r : Int) (h : (g r).den ∣ c) : Rat.divInt (topsG g c r) (c : Int) = g r := by
  have dp := (g r).den_pos
  have d0 : ((g r).den : Int) ≠ 0 := by omega
  have c0 : ((c : Nat) : Int) ≠ 0 := by omega
  have e : Rat.divInt (topsG g c r) (c : Int) = Rat.divInt (g r).num ((g r).den : Int) := by
    rw [Rat.divInt_eq_divInt_iff c0 d0]
    unfold topsG
    rw [Int.mul_assoc]
    congr 1
    rw [← Int.natCast_mul, Nat.div_mul_cancel h]
  rw [e, Rat.num_divInt_den]
theorem divInt_add {d : Int} (hd : d ≠ 0) (a b : Int) : Rat.divInt (a + b) d = Rat.divInt a d + Rat.divInt b d := by
  rw [Rat.divInt_add_divInt a b hd hd, Rat.divInt_eq_divInt_iff hd (Int.mul_ne_zero hd hd), ← Int.add_mul, Int.mul_assoc]
theorem sum_div {α : Type} {d : Int} (hd : d ≠ 0) {f : α → Int} {g : α → Rat} : ∀ {l : List α}, (∀ a ∈ l, Rat.divInt (f a) d = g a) → Rat.divInt (sumI (l.map f)) d = sumQ (l.map g)
  | [], _ => Rat.zero_divInt d
  | a :: l, h => by
    show Rat.divInt (f a + sumI (l.map f)) d = g a + sumQ (l.map g)
    rw [divInt_add hd, h a (List.mem_cons_self ..), sum_div hd fun b hb => h b (List.mem_cons_of_mem _ hb)]
theorem divInt_of_one (g : Int) : Rat.divInt g 1 = (g : Rat) := by
  rw [Rat.divInt_eq_div]
  grind
theorem term_div (a b g c1 c2 : Int) : Rat.divInt (a * b * g) (c1 * c2) = Rat.divInt a c1 * Rat.divInt b c2 * (g : Rat) := by
  rw [← divInt_of_one g, Rat.divInt_mul_divInt, Rat.divInt_mul_divInt, Int.mul_one]
theorem row_divG {k2 : List Int} {g1 g2 : Int → Rat} {c1 c2 : Nat} (h1 : 0 < c1) (h2 : 0 < c2) (d1 : ∀ r, (g1 r).den ∣ c1) (d2 : ∀ r, (g2 r).den ∣ c2) (r u : Int) :
    Rat.divInt (rowI r (topsG g1 c1 r) k2 (topsG g2 c2) u) ((c1 : Int) * (c2 : Int)) = sumQ (k2.map fun s => if mulR r s = u then g1 r * g2 s * ((gR r s : Int) : Rat) else 0) := by
  have c0 : (c1 : Int) * (c2 : Int) ≠ 0 := Int.mul_ne_zero (by omega) (by omega)
  unfold rowI
  refine sum_div c0 fun s hs => ?_
  by_cases e : mulR r s = u
  · rw [if_pos e, if_pos e, term_div, topsG_div h1 r (d1 r), topsG_div h2 s (d2 s)]
  · rw [if_neg e, if_neg e, Rat.zero_divInt]
theorem prod_divG {k1 k2 : List Int} {g1 g2 : Int → Rat} {c1 c2 : Nat} (h1 : 0 < c1) (h2 : 0 < c2) (d1 : ∀ r, (g1 r).den ∣ c1) (d2 : ∀ r, (g2 r).den ∣ c2) (u : Int) :
    Rat.divInt (prodI k1 k2 (topsG g1 c1) (topsG g2 c2) u) ((c1 : Int) * (c2 : Int)) = prodG k1 k2 g1 g2 u := by
  have c0 : (c1 : Int) * (c2 : Int) ≠ 0 := Int.mul_ne_zero (by omega) (by omega)
  unfold prodI prodG
  exact sum_div c0 fun r hr => row_divG h1 h2 d1 d2 r u
theorem den_divInt {t : Int} {c : Nat} (hc : 0 < c) : (Rat.divInt t (c : Int)).den ∣ c := by
  have e2 := congrArg Prod.snd (TCR.low_rat t (c : Int) (by omega))
  have es : TCM.sgn t (c : Int) = ((Int.gcd t (c : Int) : Nat) : Int) := if_neg (by omega)
  have e3 : (c : Int).fdiv ((Int.gcd t (c : Int) : Nat) : Int) = ((Rat.divInt t (c : Int)).den : Int) := by
    rw [← es]
    exact e2
  rw [fdiv_nat] at e3
  have e4 : c / Int.gcd t (c : Int) = (Rat.divInt t (c : Int)).den := Int.ofNat.inj e3
  rw [← e4]
  exact Nat.div_dvd_of_dvd (by
    have := Int.gcd_dvd_natAbs_right t (c : Int)
    rwa [Int.natAbs_natCast] at this)
theorem sumI_le {α : Type} {K : Nat} {f : α → Int} : ∀ {l : List α}, (∀ a ∈ l, (f a).natAbs ≤ K) → (sumI (l.map f)).natAbs ≤ l.length * K
  | [], _ => Nat.zero_le _
  | a :: l, h => by
    have e1 := h a (List.mem_cons_self ..)
    have e2 := sumI_le (f := f) fun b hb => h b (List.mem_cons_of_mem _ hb)
    show (f a + sumI (l.map f)).natAbs ≤ (l.length + 1) * K
    rw [Nat.succ_mul]
    omega
theorem prodI_le {k1 k2 : List Int} {t1 t2 : Int → Int} {K : Nat} (h : ∀ r ∈ k1, ∀ s ∈ k2, (t1 r * t2 s * gR r s).natAbs ≤ K) (u : Int) : (prodI k1 k2 t1 t2 u).natAbs ≤ k1.length * k2.length * K := by
  rw [Nat.mul_assoc]
  refine sumI_le fun r hr => sumI_le fun s hs => ?_
  split
  · exact h r hr s hs
  · exact Nat.zero_le _
theorem tops_lt {L : List Part} {c A B : Nat} (hc : c < 2 ^ B) (zA : ∀ r, (TCR.val L r).num.natAbs < 2 ^ A) (r : Int) : (topsOf L c r).natAbs < 2 ^ (A + B) := wide_lt (zA r) (by rw [Int.natAbs_natCast]; exact Nat.lt_of_le_of_lt (Nat.div_le_self ..) hc)
/-- how large a number's parts are: bottoms that divide D, tops and roots below a power of 2 -/
structure Fit (D A R : Nat) (L : List Part) : Prop where
  can : TCR.Canon L
  den : ∀ x ∈ L, x.2.den ∣ D
  num : ∀ x ∈ L, x.2.num.natAbs < 2 ^ A
  pos : ∀ x ∈ L, 0 < x.1 ∧ x.1.natAbs < 2 ^ R
theorem Fit.val {D A R : Nat} {L : List Part} (h : Fit D A R L) (r : Int) : (TCR.val L r).num.natAbs < 2 ^ A := by
  rcases Classical.em (∃ q, (r, q) ∈ L) with ⟨q, z⟩ | z
  · rw [h.can.mem z]
    exact h.num _ z
  · rw [TCR.val_not fun x hx e => z ⟨x.2, by rw [← e]; exact hx⟩]
    exact Nat.pow_pos (by decide)
section
variable {P : Program} {w : World} {K : PySem.W.Frag} {mg : Str → Option Value} {base : Heap} {f : Addr} {fd : FuncData} {C fI fQ : Addr}
/-! ### times -/
def spTimes (C : Addr) : Sp := fun vs H Q _ => ∃ (x y : Addr) (L M : List Part) (D1 D2 A1 A2 B1 B2 R : Nat), vs = [.ref x, .ref y] ∧ NumAt C H x L ∧ NumAt C H y M ∧ Fit D1 A1 R L ∧ Fit D2 A2 R M ∧ 0 < D1 ∧ 0 < D2 ∧ D1 < 2 ^ B1 ∧ D2 < 2 ^ B2 ∧ 0 < A1 ∧ 0 < A2 ∧ 0 < B1 ∧ 0 < B2 ∧ B1 + B2 ≤ 8000 ∧ A1 + A2 ≤ 20000 ∧ 0 < R ∧ R ≤ 5000 ∧
  L.length ≤ 60 ∧ M.length ≤ 60 ∧ L.length * M.length ≤ 900 ∧
  ∀ z N H', Same H H' → H z = none → NumAt C H' z N → Fit (D1 * D2) (A1 + B1 + (A2 + B2) + R + 10) (R + R) N → (∀ u, TCR.val N u = prodG (L.map (·.1)) (M.map (·.1)) (TCR.val L) (TCR.val M) u) → N.length ≤ L.length * M.length → Q (.ref z) H'
theorem scTimes : FnScope ["one", "other", "tops", "bottom", "others", "below"] ["one", "other"] (defScope sTimes) := ⟨rfl, rfl, rfl, by decide +kernel, rfl, by decide +kernel, by decide +kernel⟩
theorem fdiv_pos {z g : Int} (hz : 0 < z) (hg : 0 < g) (h : g ∣ z) : 0 < z.fdiv g := by
  obtain ⟨k, rfl⟩ := h
  rw [Int.mul_fdiv_cancel_left _ (by omega)]
  rcases Int.lt_trichotomy 0 k with h | h | h
  · exact h
  · rw [← h] at hz
    omega
  · have := Int.mul_neg_of_pos_of_neg hg h
    omega
theorem mulR_pos {r s : Int} {R : Nat} (hr : 0 < r) (hs : 0 < s) (zr : r.natAbs < 2 ^ R) (zs : s.natAbs < 2 ^ R) : 0 < mulR r s ∧ (mulR r s).natAbs < 2 ^ (R + R) := by
  have gp : 0 < Int.gcd r s := Int.gcd_pos_iff.mpr (.inl (by omega))
  have gp' : 0 < gR r s := by
    unfold gR
    omega
  have fB : ∀ z : Int, 0 < z → z.natAbs < 2 ^ R → (z.fdiv (gR r s)).natAbs < 2 ^ R := fun z hz hzR => by
    have e : z = ((z.natAbs : Nat) : Int) := by omega
    rw [e]
    unfold gR
    rw [fdiv_nat, Int.natAbs_natCast]
    exact Nat.lt_of_le_of_lt (Nat.div_le_self ..) hzR
  exact ⟨Int.mul_pos (fdiv_pos hr gp' (Int.gcd_dvd_left ..)) (fdiv_pos hs gp' (Int.gcd_dvd_right ..)), wide_lt (fB r hr zr) (fB s hs zs)⟩
theorem ok_times {fN fO fP fW : Addr} {fdN fdO fdP fdW : FuncData} (F : FnP K "times" sTimes f fd) (T : TxtN K mg C fI fQ) (GN : FnOk P w K mg base CX0 1 fN fdN ["thing"] (spNeed C)) (bN : L2.Binds K fdN ["thing"] []) (kN : PySem.W.keepIn K (.ref fN) = true) (gN : mg "need_exact" = some (.ref fN))
    (GO : FnOk P w K mg base CX0 2 fO fdO ["parts"] spOneB) (bO : L2.Binds K fdO ["parts"] []) (kO : PySem.W.keepIn K (.ref fO) = true) (gO : mg "on_one_bottom" = some (.ref fO))
    (GP : FnOk P w K mg base CX0 2 fP fdP ["tops", "others"] spProducts) (bP : L2.Binds K fdP ["tops", "others"] []) (kP : PySem.W.keepIn K (.ref fP) = true) (gP : mg "products" = some (.ref fP))
    (GW : FnOk P w K mg base CX0 3 fW fdW ["tops", "bottom"] (spLowered C)) (bW : L2.Binds K fdW ["tops", "bottom"] []) (kW : PySem.W.keepIn K (.ref fW) = true) (gW : mg "lowered" = some (.ref fW)) :
    FnOk P w K mg base CX0 4 f fd ["one", "other"] (spTimes C) := by
  refine F.ok scTimes (fun vs H Q E h => ?_) (fun cdv Ar outer s H vs Q E hr h => ?_)
  · obtain ⟨x, y, L, M, D1, D2, A1, A2, B1, B2, R, rfl, _⟩ := h
    rfl
  · obtain ⟨x, y, L, M, D1, D2, A1, A2, B1, B2, R, rfl, hx, hy, fL, fM, D10, D20, z1, z2, A10, A20, B10, B20, BB, AA, R0, R5, l1, l2, l12, q⟩ := h
    have hr1 := hr.mono (j := 1) (by decide)
    have hr2 := hr.mono (j := 2) (by decide)
    refine ⟨_, PSs.nox (pss_cons (ps_expr (pe_call GN hr1 (by rfl) gN kN bN .nil pass0 (pa_cons (pv 0) pa_nil)))
      (pss_cons (ps_expr (pe_call GN hr1 (by rfl) gN kN bN .nil pass0 (pa_cons (pv 1) pa_nil)))
      (pss_cons (ps_asg (pe_call GO hr2 (by rfl) gO kO bO .nil pass0 (pa_cons (pe_fld (pv 0) rfl) pa_nil)) (pg_tup rfl (pgs_cons (pg_name (i := 2) scTimes.nd rfl (.inl rfl)) (pgs_cons (pg_name (i := 3) scTimes.nd rfl (.inl rfl)) pgs_nil))))
      (pss_cons (ps_asg (pe_call GO hr2 (by rfl) gO kO bO .nil pass0 (pa_cons (pe_fld (pv 1) rfl) pa_nil)) (pg_tup rfl (pgs_cons (pg_name (i := 4) scTimes.nd rfl (.inl rfl)) (pgs_cons (pg_name (i := 5) scTimes.nd rfl (.inl rfl)) pgs_nil))))
      (pss_one (ps_ret (pe_call GW hr (by rfl) gW kW bW .nil pass0 (pa_cons (pe_call GP hr2 (by rfl) gP kP bP .nil pass0 (pa_cons (pv 2) (pa_cons (pv 4) pa_nil))) (pa_cons (pe_op op_mulW (pv 3) (pv 5)) pa_nil))))))))), ?_⟩
    refine ⟨_, rfl, x, L, rfl, hx, ?_⟩
    refine ⟨_, rfl, y, M, rfl, hy, ?_⟩
    obtain ⟨dx, p1, hx1, hp1⟩ := id hx
    obtain ⟨dy, p2, hy1, hp2⟩ := id hy
    refine ⟨_, rfl, x, C, dx, _, _, rfl, hx1, T.cl, T.nP, rfl, p1, L, D1, A1, B1, rfl, hp1, fL.can, fL.den, D10, z1, B10, by omega, fL.num, A10, by omega, l1, fun v1 d1 c1 H1 s1 hv1 ev1 hd1 i1 c10 c1D c1d => ?_⟩
    refine ⟨v1, _, rfl, SqT.of ev1, rfl, _, _, rfl, _, _, rfl, rfl, ?_⟩
    refine ⟨_, rfl, y, C, dy, _, _, rfl, s1 _ _ hy1, T.cl, T.nP, rfl, p2, M, D2, A2, B2, rfl, hp2.same s1, fM.can, fM.den, D20, z2, B20, by omega, fM.num, A20, by omega, l2, fun v2 d2 c2 H2 s2 hv2 ev2 hd2 i2 c20 c2D c2d => ?_⟩
    refine ⟨v2, _, rfl, SqT.of ev2, rfl, _, _, rfl, _, _, rfl, rfl, ?_⟩
    have c1B : c1 < 2 ^ B1 := Nat.lt_of_le_of_lt (Nat.le_of_dvd D10 c1D) z1
    have c2B : c2 < 2 ^ B2 := Nat.lt_of_le_of_lt (Nat.le_of_dvd D20 c2D) z2
    have ndd : d1 ≠ d2 := by
      obtain ⟨_, z, _⟩ := i1
      exact ne_of_none z hd2
    have kp : ∀ {N : List Part} {D A : Nat}, Fit D A R N → ∀ r ∈ N.map (·.1), 0 < r ∧ r.natAbs < 2 ^ R := fun {N D A} h r hr => by
      obtain ⟨z, hz, e⟩ := List.mem_map.mp hr
      rw [← e]
      exact h.pos z hz
    have tl1 := tops_lt c1B fL.val
    have tl2 := tops_lt c2B fM.val
    refine ⟨_, rfl, _, rfl, d1, d2, L.map (·.1), M.map (·.1), _, _, A1 + B1, A2 + B2, R, rfl, ndd, i1.same s2, i2, kp fL, kp fM, tl1, tl2, by omega, by omega, by omega, R0, R5, by rw [List.length_map, List.length_map]; exact l12, fun d ks H3 s3 hd i3 lk sub => ?_⟩
    rw [List.length_map, List.length_map] at lk
    have b0 : (c1 : Int) * (c2 : Int) ≠ 0 := Int.mul_ne_zero (by omega) (by omega)
    have n1 : ((c1 : Nat) : Int).natAbs < 2 ^ B1 := by rw [Int.natAbs_natCast]; exact c1B
    have n2 : ((c2 : Nat) : Int).natAbs < 2 ^ B2 := by rw [Int.natAbs_natCast]; exact c2B
    refine ⟨_, rfl, _, rfl, (c1 : Int), (c2 : Int), rfl, rfl, cmulw n1 n2 B10 B20 (by omega), ?_⟩
    refine ⟨d, ks, _, _, B1 + B2, rfl, i3, b0, wide_lt n1 n2, by omega, BB, by omega, fun z N H4 s4 hz hN cN vN lN => ?_⟩
    have vQ : ∀ u, TCR.val N u = prodG (L.map (·.1)) (M.map (·.1)) (TCR.val L) (TCR.val M) u := fun u => (vN u).trans (prod_divG (g1 := TCR.val L) (g2 := TCR.val M) c10 c20 (den_val c1d fL.can) (den_val c2d fM.can) u)
    refine q z N H4 (((s1.trans s2).trans s3).trans s4) ((((s1.trans s2).trans s3)).free hz) hN ⟨cN, fun e he => ?_, fun e he => ?_, fun e he => ?_⟩ vQ (Nat.le_trans lN lk)
    · rw [← cN.mem he, vN e.1, ← Int.natCast_mul]
      exact Nat.dvd_trans (den_divInt (Nat.mul_pos c10 c20)) (Nat.mul_dvd_mul c1D c2D)
    · rw [← cN.mem he, vN e.1]
      have lo := (TCM.low_abs (prodI (L.map (·.1)) (M.map (·.1)) (topsOf L c1) (topsOf M c2) e.1) _ b0).1
      rw [TCR.low_rat _ _ b0] at lo
      refine Nat.lt_of_le_of_lt lo ?_
      have bt : ∀ r ∈ L.map (·.1), ∀ s ∈ M.map (·.1), (topsOf L c1 r * topsOf M c2 s * gR r s).natAbs ≤ 2 ^ (A1 + B1 + (A2 + B2) + R) := fun r hr s hs => by
        refine Nat.le_of_lt (wide_lt (wide_lt (tl1 r) (tl2 s)) ?_)
        unfold gR
        rw [Int.natAbs_natCast]
        obtain ⟨r0, rR⟩ := kp fL r hr
        exact Nat.lt_of_le_of_lt (Nat.le_of_dvd (by omega) (Int.gcd_dvd_natAbs_left r s)) rR
      refine Nat.lt_of_le_of_lt (prodI_le bt e.1) ?_
      rw [List.length_map, List.length_map, Nat.pow_add 2 _ 10, Nat.mul_comm]
      exact Nat.mul_lt_mul_of_pos_left (show L.length * M.length < 2 ^ 10 by omega) (Nat.pow_pos (by decide))
    · have nz : TCR.val N e.1 ≠ 0 := by
        rw [cN.mem he]
        exact cN.nz e he
      have uk : e.1 ∈ ks := Classical.byContradiction fun m => nz (by
        rw [vN e.1]
        obtain ⟨_, _, _, _, _, out⟩ := i3
        rw [out e.1 m, Rat.zero_divInt])
      obtain ⟨r, hr', s, hs', eu⟩ := sub e.1 uk
      obtain ⟨r0, rR⟩ := kp fL r hr'
      obtain ⟨s0, sR⟩ := kp fM s hs'
      rw [eu]
      exact mulR_pos r0 s0 rR sR
end
end TC
namespace TC
/-! ### facts of the product, as fractions -/
theorem sumQ_zero {α : Type} {f : α → Rat} : ∀ {l : List α}, (∀ a ∈ l, f a = 0) → sumQ (l.map f) = 0
  | [], _ => rfl
  | a :: l, h => by
    show f a + sumQ (l.map f) = 0
    rw [h a (List.mem_cons_self ..), sumQ_zero fun b hb => h b (List.mem_cons_of_mem _ hb)]
    grind
theorem sumQ_add {α : Type} (f g : α → Rat) : ∀ l : List α, sumQ (l.map fun a => f a + g a) = sumQ (l.map f) + sumQ (l.map g)
  | [] => by show (0 : Rat) = 0 + 0; grind
  | a :: l => by
    show f a + g a + sumQ (l.map fun a => f a + g a) = f a + sumQ (l.map f) + (g a + sumQ (l.map g))
    rw [sumQ_add f g l]
    grind
theorem sumQ_mul {α : Type} (c : Rat) (f : α → Rat) : ∀ l : List α, sumQ (l.map fun a => c * f a) = c * sumQ (l.map f)
  | [] => by show (0 : Rat) = c * 0; grind
  | a :: l => by
    show c * f a + sumQ (l.map fun a => c * f a) = c * (f a + sumQ (l.map f))
    rw [sumQ_mul c f l]
    grind
theorem sumQ_congr {α : Type} {f g : α → Rat} {l : List α} (h : ∀ a ∈ l, f a = g a) : sumQ (l.map f) = sumQ (l.map g) := by
  rw [List.map_congr_left h]
theorem sumQ_swap {α β : Type} (f : α → β → Rat) (m : List β) : ∀ l : List α, sumQ (l.map fun a => sumQ (m.map fun b => f a b)) = sumQ (m.map fun b => sumQ (l.map fun a => f a b))
  | [] => (sumQ_zero fun b _ => rfl).symm
  | a :: l => by
    show sumQ (m.map fun b => f a b) + sumQ (l.map fun a => sumQ (m.map fun b => f a b)) = sumQ (m.map fun b => f a b + sumQ (l.map fun a => f a b))
    rw [sumQ_add (fun b => f a b) (fun b => sumQ (l.map fun a => f a b)) m, sumQ_swap f m l]
theorem sumQ_perm {l m : List Rat} (h : l.Perm m) : sumQ l = sumQ m := by
  induction h with
  | nil => rfl
  | cons a _ ih =>
    show a + _ = a + _
    rw [ih]
  | swap a b l =>
    show b + (a + sumQ l) = a + (b + sumQ l)
    grind
  | trans _ _ h1 h2 => exact h1.trans h2
theorem sumQ_filter {f : Int → Rat} : ∀ l : List Int, sumQ (l.map f) = sumQ ((l.filter fun r => decide (f r ≠ 0)).map f)
  | [] => rfl
  | a :: l => by
    rw [List.filter_cons]
    by_cases h : f a = 0
    · rw [if_neg (by simp [h])]
      show f a + sumQ (l.map f) = _
      rw [h, sumQ_filter l]
      grind
    · rw [if_pos (by simp [h])]
      show f a + sumQ (l.map f) = f a + sumQ ((l.filter fun r => decide (f r ≠ 0)).map f)
      rw [sumQ_filter l]
theorem sum_supp {k k' : List Int} {f : Int → Rat} (nd : k.Nodup) (nd' : k'.Nodup) (h : ∀ r, f r ≠ 0 → r ∈ k) (h' : ∀ r, f r ≠ 0 → r ∈ k') : sumQ (k.map f) = sumQ (k'.map f) := by
  rw [sumQ_filter k, sumQ_filter k']
  refine sumQ_perm (List.Perm.map f ((List.perm_ext_iff_of_nodup (nd.filter _) (nd'.filter _)).mpr fun r => ?_))
  rw [List.mem_filter, List.mem_filter]
  refine ⟨fun z => ⟨h' r (of_decide_eq_true z.2), z.2⟩, fun z => ⟨h r (of_decide_eq_true z.2), z.2⟩⟩
theorem sum_pick {k : List Int} {f : Int → Rat} (nd : k.Nodup) (u : Int) (h : f u ≠ 0 → u ∈ k) : sumQ (k.map fun r => if r = u then f r else 0) = f u := by
  have z := sum_supp (k' := [u]) (f := fun r => if r = u then f r else 0) nd (by simp) (fun r hr => ?_) (fun r hr => ?_)
  · rw [z]
    show (if u = u then f u else 0) + 0 = f u
    rw [if_pos rfl]
    grind
  · by_cases e : r = u
    · rw [e]
      refine h fun z => hr ?_
      rw [e, if_pos rfl]
      exact z
    · exact absurd (if_neg e) hr
  · by_cases e : r = u
    · exact List.mem_singleton.mpr e
    · exact absurd (if_neg e) hr
/-- where a function's support lies -/
def Cov (g : Int → Rat) (k : List Int) : Prop := k.Nodup ∧ ∀ r, g r ≠ 0 → r ∈ k
theorem prodG_supp {k1 k1' k2 k2' : List Int} {g1 g2 : Int → Rat} (h1 : Cov g1 k1) (h1' : Cov g1 k1') (h2 : Cov g2 k2) (h2' : Cov g2 k2') (u : Int) : prodG k1 k2 g1 g2 u = prodG k1' k2' g1 g2 u := by
  have inner : ∀ r, sumQ (k2.map fun s => if mulR r s = u then g1 r * g2 s * ((gR r s : Int) : Rat) else 0) = sumQ (k2'.map fun s => if mulR r s = u then g1 r * g2 s * ((gR r s : Int) : Rat) else 0) := fun r => by
    have nz : ∀ s, (if mulR r s = u then g1 r * g2 s * ((gR r s : Int) : Rat) else 0) ≠ 0 → g2 s ≠ 0 := fun s hs e => hs (by
      split
      · rw [e]
        grind
      · rfl)
    exact sum_supp h2.1 h2'.1 (fun s hs => h2.2 s (nz s hs)) fun s hs => h2'.2 s (nz s hs)
  unfold prodG
  rw [sumQ_congr fun r _ => inner r]
  have nz : ∀ r, sumQ (k2'.map fun s => if mulR r s = u then g1 r * g2 s * ((gR r s : Int) : Rat) else 0) ≠ 0 → g1 r ≠ 0 := fun r hr e => hr (sumQ_zero fun s _ => by
    split
    · rw [e]
      grind
    · rfl)
  exact sum_supp h1.1 h1'.1 (fun r hr => h1.2 r (nz r hr)) fun r hr => h1'.2 r (nz r hr)
theorem gR_comm (r s : Int) : gR r s = gR s r := by
  unfold gR
  rw [Int.gcd_comm]
theorem mulR_comm (r s : Int) : mulR r s = mulR s r := by
  unfold mulR
  rw [gR_comm r s, Int.mul_comm]
theorem prodG_comm (k1 k2 : List Int) (g1 g2 : Int → Rat) (u : Int) : prodG k1 k2 g1 g2 u = prodG k2 k1 g2 g1 u := by
  unfold prodG
  rw [sumQ_swap]
  refine sumQ_congr fun s _ => sumQ_congr fun r _ => ?_
  rw [mulR_comm r s, gR_comm r s, Rat.mul_comm (g1 r) (g2 s)]
theorem prodG_add (k1 k2 : List Int) (g1 g2 h2 : Int → Rat) (u : Int) : prodG k1 k2 g1 (fun s => g2 s + h2 s) u = prodG k1 k2 g1 g2 u + prodG k1 k2 g1 h2 u := by
  unfold prodG
  rw [← sumQ_add]
  refine sumQ_congr fun r _ => ?_
  rw [← sumQ_add]
  refine sumQ_congr fun s _ => ?_
  split <;> grind
theorem prodG_zero (k1 k2 : List Int) (g1 g2 : Int → Rat) (u : Int) (h : ∀ s, g2 s = 0) : prodG k1 k2 g1 g2 u = 0 := by
  refine sumQ_zero fun r _ => sumQ_zero fun s _ => ?_
  rw [h s]
  split <;> grind
theorem mulR_one {r : Int} (h : 0 < r) : mulR r 1 = r ∧ gR r 1 = 1 := by
  have e : gR r 1 = 1 := by
    unfold gR
    rw [Int.gcd_one_right]
    rfl
  refine ⟨?_, e⟩
  unfold mulR
  rw [e, Int.fdiv_one, Int.fdiv_one, Int.mul_one]
/-- times a fraction -/
theorem prodG_one {k : List Int} {g : Int → Rat} (c : Rat) (hk : Cov g k) (pos : ∀ r ∈ k, 0 < r) (u : Int) : prodG k [1] g (fun s => if s = 1 then c else 0) u = c * g u := by
  have z : prodG k [1] g (fun s => if s = 1 then c else 0) u = sumQ (k.map fun r => if r = u then c * g r else 0) := by
    refine sumQ_congr fun r hr => ?_
    obtain ⟨e1, e2⟩ := mulR_one (pos r hr)
    show (if mulR r 1 = u then g r * (if (1 : Int) = 1 then c else 0) * ((gR r 1 : Int) : Rat) else 0) + 0 = _
    rw [e1, e2, if_pos rfl]
    split <;> grind
  rw [z]
  exact sum_pick (f := fun r => c * g r) hk.1 u fun h => hk.2 u fun e => h (by
    show c * g u = 0
    rw [e]
    grind)
/-- a number by its twin has no root left that p divides -/
theorem prodG_twin {k : List Int} {g : Int → Rat} {p u : Int} (ep : ∀ r ∈ k, ∀ s ∈ k, mulR r s = u → ((r % p = 0) ↔ ¬ (s % p = 0))) : prodG k k g (fun s => g s * (if s % p = 0 then -1 else 1)) u = 0 := by
  have e1 := prodG_comm k k g (fun s => g s * (if s % p = 0 then -1 else 1)) u
  have e2 : prodG k k g (fun s => g s * (if s % p = 0 then -1 else 1)) u + prodG k k (fun s => g s * (if s % p = 0 then -1 else 1)) g u = 0 := by
    unfold prodG
    rw [← sumQ_add]
    refine sumQ_zero fun r hr => ?_
    show sumQ _ + sumQ _ = 0
    rw [← sumQ_add]
    refine sumQ_zero fun s hs => ?_
    show (if mulR r s = u then _ else (0 : Rat)) + (if mulR r s = u then _ else 0) = 0
    by_cases e : mulR r s = u
    · rw [if_pos e, if_pos e]
      show g r * (g s * (if s % p = 0 then (-1 : Rat) else 1)) * ((gR r s : Int) : Rat) + g r * (if r % p = 0 then (-1 : Rat) else 1) * g s * ((gR r s : Int) : Rat) = 0
      have := ep r hr s hs e
      by_cases a : r % p = 0
      · rw [if_pos a, if_neg (this.mp a)]
        grind
      · have b : s % p = 0 := Classical.byContradiction fun z => a (this.mpr z)
        rw [if_neg a, if_pos b]
        grind
    · rw [if_neg e, if_neg e]
      grind
  grind
end TC
namespace TC
open PySem PySem.Spec PyProof.Rows L2 TCX
section
variable {P : Program} {w : World} {K : PySem.W.Frag} {mg : Str → Option Value} {base : Heap} {f : Addr} {fd : FuncData}
/-! ### is_odd -/
def spOdd : Sp := fun vs H Q _ => ∃ n : Int, vs = [.int n] ∧ Q (.bl (decide (n % 2 = 1))) H
abbrev nOdd : List Str := ["number"]
theorem scOdd : FnScope nOdd ["number"] (defScope sOdd) := ⟨rfl, rfl, rfl, by decide +kernel, rfl, by decide +kernel, by decide +kernel⟩
theorem ok_odd (F : FnP K "is_odd" sOdd f fd) : FnOk P w K mg base CX0 1 f fd ["number"] spOdd := by
  refine F.ok scOdd (fun vs H Q E h => ?_) (fun cdv A outer s H vs Q E hr h => ?_)
  · obtain ⟨_, rfl, _⟩ := h
    rfl
  · obtain ⟨n, rfl, q⟩ := h
    refine ⟨_, PSs.nox (pss_one (ps_ret (pe_cmpR op_eq (pe_op op_mod (pv 0) pe_int) pe_int (nomark _)))), ?_⟩
    refine ⟨_, rfl, n, 2, rfl, rfl, (by show (0 : Int) < 2; decide), rfl, ?_⟩
    have e : decide (V.int (n % 2) = V.int 1) = decide (n % 2 = 1) := by
      by_cases h : n % 2 = 1
      · rw [h]
        rfl
      · rw [decide_eq_false h, decide_eq_false fun z => h (V.int.inj z)]
    show Q (.bl (decide (V.int (n % 2) = V.int 1))) _
    rw [e]
    exact q
/-! ### _law_factorial -/
def spFactL : Sp := fun vs H Q _ => ∃ n : Nat, vs = [.int n] ∧ n ≤ 200 ∧ Q (.int (factN n : Nat)) H
abbrev nFactorial : List Str := ["_law_n", "_law_found", "_law_k"]
/-! ### factorials -/
def spFacts : Sp := fun vs H Q _ => ∃ n : Nat, vs = [.int n] ∧ n ≤ 200 ∧ ∀ l, H l = none → Q (.ref l) (upd H l (.lst ((List.range (n + 1)).map fun m => V.int (factN m : Nat))))
abbrev nFacts : List Str := ["high", "found", "number"]
end
end TC
namespace TC
set_option exponentiation.threshold 20000
open PySem PySem.Spec PyProof.Rows L2 TCX
theorem iteB {b : Bool} {A B : Prop} (h1 : b = true → A) (h2 : b = false → B) : if b = true then A else B := by
  cases b
  · exact iteF (h2 rfl)
  · exact iteT (h1 rfl)
theorem nat_bits {n : Nat} {A : Nat} (h : n < 2 ^ A) : (n : Int).natAbs < 2 ^ A := by
  rw [Int.natAbs_natCast]
  exact h
def muR : L2.St → Nat
  | [_, _, some (.int l), _, _, some (.int p)] => (2 * l - p).toNat
  | _ => 0
theorem RootI.bound {N left free square p : Nat} (h : RootI N left free square p) (h0 : 0 < N) : left ≤ N ∧ free ≤ N ∧ square ≤ N := by
  have e := h.eq
  have f0 := h.sf.pos
  have s0 := h.s0
  have l0 := h.l0
  refine ⟨Nat.le_of_dvd h0 ⟨free * (square * square), by rw [← e, Nat.mul_assoc]⟩, Nat.le_of_dvd h0 ⟨left * (square * square), ?_⟩, Nat.le_of_dvd h0 ⟨left * free * square, ?_⟩⟩
  · rw [← e]
    simp only [Nat.mul_assoc, Nat.mul_left_comm, Nat.mul_comm]
  · rw [← e]
    simp only [Nat.mul_assoc, Nat.mul_left_comm, Nat.mul_comm]
theorem mod_dvd {a b : Nat} : decide (V.int ((a : Int) % (b : Int)) = V.int 0) = decide (b ∣ a) := by
  by_cases h : b ∣ a
  · rw [decide_eq_true h]
    refine decide_eq_true ?_
    obtain ⟨k, rfl⟩ := h
    rw [Int.natCast_mul, Int.mul_emod_right]
  · rw [decide_eq_false h]
    refine decide_eq_false fun z => h ?_
    have z2 : (a : Int) % (b : Int) = 0 := V.int.inj z
    exact Int.natCast_dvd_natCast.mp (Int.dvd_of_emod_eq_zero z2)
section
variable {P : Program} {w : World} {K : PySem.W.Frag} {mg : Str → Option Value} {base : Heap} {f : Addr} {fd : FuncData}
/-! ### _law_rooted -/
def spRooted : Sp := fun vs H Q _ => ∃ up under : Nat, vs = [.int up, .int under] ∧ 0 < up ∧ 0 < under ∧ up < 2 ^ 3000 ∧ under < 2 ^ 3000 ∧
  ∀ (sq fr : Nat) (d T : Addr) H', H d = none → up * under = sq * sq * fr → SqF fr → 0 < sq → Same H H' → H' d = some (.dK [((Sum.inl (fr : Int) : Key), .ref T)]) → H' T = some (.tup [.int (TCM.lowL sq under).1, .int (TCM.lowL sq under).2]) → Q (.ref d) H'
abbrev nRooted : List Str := ["_law_up", "_law_under", "_law_left", "_law_free", "_law_square", "_law_p"]
end
end TC
/-! xs[i] op= e: the reading of a list's item. -/
namespace TCX
open PySem PySem.Spec PyProof.Rows L2
def rGetL (K : PySem.W.Frag) : V → V → Hp → VK → Prop := fun o i H Q => ∃ (p : Addr) (xs : List V) (j : Nat) (v : V), o = .ref p ∧ i = .int (j : Nat) ∧ SqL K H p xs ∧ xs[j]? = some v ∧ Q v H
theorem get_list {X : Cx} : PGet X (rGetL X.K) := by
  intro pins s σ H o i ov iv Q I ro ri h
  obtain ⟨p, xs, j, z, rfl, rfl, hq, he, q⟩ := h
  cases ro
  obtain ⟨t, rfl⟩ := ri
  obtain ⟨its, r, pl, hz⟩ := I.list hq
  obtain ⟨w, ew, rw'⟩ := r.get he
  have hl := r.length
  have hn := line63
  have jl : j < xs.length := (List.getElem?_eq_some_iff.mp he).1
  exact wpAny_getItem_list pl.isList (by omega) (by omega) (by simpa using ew) ⟨z, H, I, rw', q⟩
end TCX
namespace TCX
open PySem PySem.Spec PyProof.Rows L2 HT
theorem same_new {H : Hp} {p : Addr} {o : HO} (h : H p = none) : Same H (upd H p o) := fun b x e => by
  rw [upd_ne (ne_of_none e h)]
  exact e
section
variable {X : Cx}
/-- t + u, whatever they hold: some tuple of both -/
def rCatS : R2 := fun x y H Q => ∃ a b xs ys, x = .ref a ∧ y = .ref b ∧ H a = some (.tup xs) ∧ H b = some (.tup ys) ∧ xs.length + ys.length ≤ sizeLine ∧ ∀ p H', Same H H' → H' p = some (.tup (xs ++ ys)) → Q (.ref p) H'
theorem op_catS : OpR X (binaryOp .Add) (rCatS) := by
  intro pins s σ H x y v u Q I rx ry h
  obtain ⟨a, b, xs, ys, rfl, rfl, ha, hb, hz, q⟩ := h
  refine op_catA pins s σ H _ _ v u Q I rx ry ⟨a, b, xs, ys, rfl, rfl, SqT.of ha, SqT.of hb, hz, fun e => ?_, fun _ e => ?_, fun _ _ p hp => ?_⟩
  · subst e
    exact q b H (fun _ _ z => z) hb
  · subst e
    exact q a H (fun _ _ z => z) (by rw [List.append_nil]; exact ha)
  · exact q p _ (same_new hp) upd_same
/-- t[lo:hi], whatever it is: some tuple of the part -/
def rSlS : V → Option Int → Option Int → Hp → VK → Prop := fun x lo hi H Q => ∃ a xs, x = .ref a ∧ H a = some (.tup xs) ∧ ∀ p H', Same H H' → H' p = some (.tup (cutV xs lo hi)) → Q (.ref p) H'
theorem sl_tupS : SlR X (rSlS) := by
  intro pins s σ H x v vl vu lo hi sl Q I rx hs pl pu h
  obtain ⟨a, xs, rfl, hx, q⟩ := h
  refine sl_tupA pins s σ H _ v vl vu lo hi sl Q I rx hs pl pu ⟨a, xs, rfl, SqT.of hx, fun e => ?_, fun _ p hp => ?_⟩
  · refine q a H (fun _ _ z => z) ?_
    unfold cutV
    rw [e.1, e.2]
    simpa using hx
  · exact q p _ (same_new hp) upd_same
end
theorem cut_take {xs : List V} {k : Nat} : cutV xs none (some (k : Int)) = xs.take k := by
  unfold cutV
  rw [sIx_nat, sIx_none]
  show xs.take (min k xs.length) = xs.take k
  by_cases h : k ≤ xs.length
  · rw [Nat.min_eq_left h]
  · rw [Nat.min_eq_right (by omega), List.take_length, List.take_of_length_le (by omega)]
theorem cut_drop {xs : List V} {k : Nat} : cutV xs (some (k : Int)) none = xs.drop k := by
  unfold cutV
  rw [sIx_nat, sIx_none]
  by_cases h : k ≤ xs.length
  · rw [Nat.min_eq_left h, List.take_of_length_le (by rw [List.length_drop]; omega)]
  · rw [Nat.min_eq_right (by omega), List.drop_length, List.drop_of_length_le (by omega)]
    exact List.take_nil
end TCX
/-! slices of a list with a step. -/
namespace TCX
open PySem PySem.Spec PyProof.Rows L2
theorem vals_at {xs : List V} {us : List Value} (h : Vals xs us) : ∀ i : Nat, (xs[i]? = none ∧ us[i]? = none) ∨ ∃ x u, xs[i]? = some x ∧ us[i]? = some u ∧ RelV x u := by
  induction h with
  | nil => exact fun i => .inl ⟨rfl, rfl⟩
  | cons r t ih =>
    intro i
    cases i with
    | zero => exact .inr ⟨_, _, rfl, rfl, r⟩
    | succ i => exact ih i
theorem vals_pick {xs : List V} {us : List Value} (h : Vals xs us) : ∀ is : List Nat, Vals (is.filterMap (xs[·]?)) (is.filterMap (us[·]?))
  | [] => .nil
  | i :: is => by
    rcases vals_at h i with ⟨e1, e2⟩ | ⟨x, u, e1, e2, r⟩
    · rw [List.filterMap_cons, List.filterMap_cons, e1, e2]
      exact vals_pick h is
    · rw [List.filterMap_cons, List.filterMap_cons, e1, e2]
      exact .cons r (vals_pick h is)
/-- the items of xs[lo:hi:st] -/
def stepV (xs : List V) (lo hi st : Option Int) : List V := (sliceRange (sliceBounds lo hi st xs.length).1 (sliceBounds lo hi st xs.length).2.1 (sliceBounds lo hi st xs.length).2.2).filterMap (xs[·]?)
section
variable {X : Cx} {e : Expr} {te : TE} {lo hi : Option Expr} {se : Expr} {tl th ts : TO} {pos p2 : Pos}
def tSl3 (K : PySem.W.Frag) (te : TE) (tl th ts : TO) : TE := fun σ H Q => te σ H fun x H1 => tl σ H1 fun l H2 => th σ H2 fun u H3 => ts σ H3 fun c H4 => ∃ a xs, x = .ref a ∧ SqL K H4 a xs ∧ c ≠ some 0 ∧ (stepV xs l u c).length ≤ sizeLine ∧ ∀ p, H4 p = none → Q (.ref p) (upd H4 p (.lst (stepV xs l u c)))
theorem pe_slice3 (he : PE X e te) (hl : PO X lo tl) (hu : PO X hi th) (hs : PO X (some se) ts) : PE X (.Subscript e (.Slice lo hi (some se) p2) pos) (tSl3 X.K te tl th ts) := by
  refine ⟨fun pins s σ H Q I h => ?_⟩
  refine Subscript_ (thn (he.run pins s σ H _ I h) fun v s1 ⟨x, H1, I1, r1, q1⟩ => ?_)
  refine wpAny_Slice (thn (hl.run pins s1 σ H1 _ I1 q1) fun vl s2 ⟨l, H2, I2, pl, q2⟩ => thn (hu.run pins s2 σ H2 _ I2 q2) fun vu s3 ⟨u, H3, I3, pu, q3⟩ => thn (hs.run pins s3 σ H3 _ I3 q3) fun vs s4 ⟨c, H4, I4, ps, q4⟩ => ?_)
  obtain ⟨a, xs, rfl, hx, hc, hz, q⟩ := q4
  have I5 : Inv X pins σ H4 { s4 with heap := s4.heap.push { cls := .type "slice", data := .fields #[vl, vu, vs] } } := I4.kept (t' := s4.toks) fun b ob q => Heap.get?_push_of_some _ q
  cases r1
  obtain ⟨its, r, ht, hz'⟩ := I5.list hx
  have hlen := r.length
  refine tail_any (ops := [.ref a, .ref s4.heap.objs.size]) (T := "list") ht.isList.typeIs slot_list_getitem.lookup ?_ (by with_unfolding_all rfl)
  refine wpAny_getItem_list_slice ht.isList (Heap.IsSliceOf.new ..) pl pu ps hc ?_ (by rw [List.size_toArray] <;> omega)
  have e : slicePick its.toArray l u c = ((sliceRange (sliceBounds l u c its.length).1 (sliceBounds l u c its.length).2.1 (sliceBounds l u c its.length).2.2).filterMap (its[·]?)).toArray := by
    unfold slicePick
    rw [List.size_toArray]
    simp only [List.getElem?_toArray]
  rw [e, ← hlen]
  refine ⟨.ref _, _, I5.laid (t' := s4.toks) (o := .lst (stepV xs l u c)) (fun b ob q => Heap.get?_push_of_some _ q) (Nat.le_refl _) ?_, rfl, q _ (I5.hok.fresh (Nat.le_refl _))⟩
  exact ⟨hz, _, 0, vals_pick r _, Heap.get?_push_size _ rfl⟩
end
end TCX
namespace TCX
open PySem PySem.Spec PyProof.Rows L2
theorem range_down (n : Nat) (hi : Nat) (h : hi ≤ n) : sliceRange ((n : Int) - 1) ((hi : Int) - 1) (-1) = (List.range (n - hi)).map fun k => n - 1 - k := by
  unfold sliceRange
  by_cases hn : hi < n
  · have e : ((n : Int) - 1 - ((hi : Int) - 1) - -1 - 1) / (- -1) = ((n - hi : Nat) : Int) := by
      rw [show (- -1 : Int) = 1 from rfl, Int.ediv_one]
      omega
    simp only [show ¬ ((-1 : Int) > 0) by decide, if_false, show ((n : Int) - 1 > (hi : Int) - 1) by omega, if_true, e, Int.toNat_natCast]
    refine List.map_congr_left fun k hk => ?_
    have := List.mem_range.mp hk
    omega
  · have e : n - hi = 0 := by omega
    simp only [show ¬ ((-1 : Int) > 0) by decide, if_false, show ¬ ((n : Int) - 1 > (hi : Int) - 1) by omega, e]
    rfl
theorem pick_down {α : Type} (xs : List α) : ∀ k : Nat, k ≤ xs.length → ((List.range k).map fun i => xs.length - 1 - i).filterMap (xs[·]?) = (xs.drop (xs.length - k)).reverse
  | 0, _ => by simp
  | k + 1, h => by
    rw [List.range_succ, List.map_append, List.filterMap_append, pick_down xs k (by omega)]
    have h1 : xs.length - 1 - k < xs.length := by omega
    have e : xs.length - (k + 1) = xs.length - 1 - k := by omega
    rw [e, List.drop_eq_getElem_cons h1, List.reverse_cons]
    have e2 : xs.length - 1 - k + 1 = xs.length - k := by omega
    rw [e2]
    congr 1
    simp [List.getElem?_eq_getElem h1]
/-- xs[::-1] -/
theorem step_rev (xs : List V) : stepV xs none none (some (-1)) = xs.reverse := by
  unfold stepV
  have e : sliceBounds none none (some (-1)) xs.length = ((xs.length : Int) - 1, ((0 : Nat) : Int) - 1, -1) := by
    unfold sliceBounds
    simp
  rw [e, range_down xs.length 0 (Nat.zero_le _), Nat.sub_zero, pick_down xs xs.length (Nat.le_refl _), Nat.sub_self]
  rfl
/-- xs[:0:-1] -/
theorem step_tail (xs : List V) : stepV xs none (some 0) (some (-1)) = (xs.drop 1).reverse := by
  unfold stepV
  cases xs with
  | nil => rfl
  | cons x xs =>
    have e : sliceBounds none (some 0) (some (-1)) (x :: xs).length = (((x :: xs).length : Int) - 1, ((1 : Nat) : Int) - 1, -1) := by
      unfold sliceBounds
      simp
      omega
    rw [e, range_down (x :: xs).length 1 (by simp), pick_down (x :: xs) _ (by omega)]
    have e2 : (x :: xs).length - ((x :: xs).length - 1) = 1 := by simp
    rw [e2]
end TCX
/-! xs[s::s] of a list told by a function. -/
namespace TCX
open PySem PySem.Spec PyProof.Rows L2
theorem fm_all {α β : Type} {g : α → Option β} {f : α → β} : ∀ {l : List α}, (∀ x ∈ l, g x = some (f x)) → l.filterMap g = l.map f
  | [], _ => rfl
  | x :: l, h => by
    rw [List.filterMap_cons, h x (by simp), List.map_cons, fm_all fun y hy => h y (List.mem_cons_of_mem _ hy)]
theorem step_up (f : Nat → Int) (h s : Nat) (s0 : 0 < s) (hs : s ≤ h) : stepV ((List.range (h + 1)).map fun m => V.int (f m)) (some (s : Int)) none (some (s : Int)) = ((List.range (h / s)).map fun j => f ((j + 1) * s)).map V.int := by
  unfold stepV
  rw [List.length_map, List.length_range]
  have e : sliceBounds (some (s : Int)) none (some (s : Int)) (h + 1) = ((s : Int), ((h + 1 : Nat) : Int), (s : Int)) := by
    unfold sliceBounds
    have h1 : (0 : Int) < (s : Int) := by omega
    have h2 : ¬ ((s : Int) < 0) := by omega
    have h3 : ¬ (((h + 1 : Nat) : Int) < (s : Int)) := by omega
    simp [h1, h2, h3]
    omega
  rw [e]
  have er : sliceRange (s : Int) ((h + 1 : Nat) : Int) (s : Int) = (List.range (h / s)).map fun k => (k + 1) * s := by
    unfold sliceRange
    have h1 : (s : Int) > 0 := by omega
    have h2 : (s : Int) < ((h + 1 : Nat) : Int) := by omega
    have e1 : (((h + 1 : Nat) : Int) - (s : Int) + (s : Int) - 1) / (s : Int) = ((h / s : Nat) : Int) := by
      rw [show ((h + 1 : Nat) : Int) - (s : Int) + (s : Int) - 1 = (h : Int) by omega]
      exact (Int.natCast_ediv h s).symm
    simp only [h1, if_true, h2, e1, Int.toNat_natCast]
    refine List.map_congr_left fun k _ => ?_
    have : (s : Int) + (s : Int) * (k : Int) = (((k + 1) * s : Nat) : Int) := by
      rw [Nat.add_mul, Nat.one_mul, Nat.mul_comm k s]
      push_cast
      omega
    rw [this, Int.toNat_natCast]
  rw [er, List.map_map]
  rw [List.filterMap_map]
  refine fm_all fun k hk => ?_
  have hk' := List.mem_range.mp hk
  have hb : (k + 1) * s ≤ h := by
    have := Nat.mul_le_mul_right s (show k + 1 ≤ h / s by omega)
    exact Nat.le_trans this (Nat.div_mul_le_self h s)
  show ((List.range (h + 1)).map fun m => V.int (f m))[(k + 1) * s]? = _
  rw [List.getElem?_map, List.getElem?_range (by omega)]
  rfl
end TCX
namespace TC
open PySem PySem.Spec PyProof.Rows L2 TCX
/-! ### a list told by a function -/
def natV (l : List Nat) : List V := l.map fun n : Nat => V.int (n : Int)
def lisF (h : Nat) (f : Nat → Int) : List V := (List.range (h + 1)).map fun m => V.int (f m)
theorem lisF_len (h : Nat) (f : Nat → Int) : (lisF h f).length = h + 1 := by rw [lisF, List.length_map, List.length_range]
theorem lisF_get {h : Nat} {f : Nat → Int} {j : Nat} (hj : j ≤ h) : (lisF h f)[j]? = some (.int (f j)) := by
  rw [lisF, List.getElem?_map, List.getElem?_range (by omega)]
  rfl
theorem lisF_set {h : Nat} {f : Nat → Int} {j : Nat} {z : Int} : (lisF h f).set j (.int z) = lisF h fun m => if m = j then z else f m := by
  refine List.ext_getElem? fun i => ?_
  rw [List.getElem?_set]
  by_cases e : j = i
  · subst e
    rw [if_pos rfl, lisF_len]
    by_cases hj : j < h + 1
    · rw [if_pos hj, lisF_get (by omega), if_pos rfl]
    · rw [if_neg hj, List.getElem?_eq_none (by rw [lisF_len]; omega)]
  · rw [if_neg e]
    by_cases hi : i ≤ h
    · rw [lisF_get hi, lisF_get hi, if_neg fun z => e z.symm]
    · rw [List.getElem?_eq_none (by rw [lisF_len]; omega), List.getElem?_eq_none (by rw [lisF_len]; omega)]
theorem lisF_rep (h : Nat) : (List.replicate (h + 1) ([V.int 0] : List V)).flatten = lisF h fun _ => 0 := by
  unfold lisF
  rw [List.map_const', List.length_range]
  induction h + 1 with
  | zero => rfl
  | succ n ih =>
    rw [List.replicate_succ, List.flatten_cons, ih, List.replicate_succ]
    rfl
theorem lisF_congr {h : Nat} {f g : Nat → Int} (e : ∀ m, m ≤ h → f m = g m) : lisF h f = lisF h g := by
  unfold lisF
  refine List.map_congr_left fun m hm => ?_
  rw [e m (by have := List.mem_range.mp hm; omega)]
theorem eqL_snoc (l : List Nat) (n m : Nat) : eqL (l ++ [n]) m = eqL l m + (if n = m then 1 else 0) := by
  induction l with
  | nil =>
    show (if n = m then (1 : Int) else 0) + 0 = 0 + _
    omega
  | cons a l ih =>
    show (if a = m then (1 : Int) else 0) + eqL (l ++ [n]) m = (if a = m then (1 : Int) else 0) + eqL l m + _
    rw [ih]
    omega
theorem ixN_nat {n j : Nat} (h : j < n) : ixN n (j : Int) = some j := by
  unfold ixN
  simp
  omega
theorem sum_sub (f g : Nat → Int) : ∀ l : List Nat, (l.map fun j => f j - g j).sum = (l.map f).sum - (l.map g).sum
  | [] => rfl
  | x :: l => by
    rw [List.map_cons, List.sum_cons, List.map_cons, List.sum_cons, List.map_cons, List.sum_cons, sum_sub f g l]
    omega
theorem at_sum {above below : List Nat} {h s : Nat} (s0 : 0 < s) (ha : ∀ n ∈ above, n ≤ h) (hb : ∀ n ∈ below, n ≤ h) : ((List.range (h / s)).map fun j => geL above ((j + 1) * s) - geL below ((j + 1) * s)).sum = atS above below s := by
  rw [sum_sub (fun j => geL above ((j + 1) * s)) (fun j => geL below ((j + 1) * s)), mult_sum s0 ha, mult_sum s0 hb]
  rfl
theorem legN_zero {n p : Nat} (h : n < p) : legN n p = 0 := by
  have z : ∀ q, p ≤ q → n / q = 0 := fun q hq => Nat.div_eq_of_lt (by omega)
  have p1 : 1 ≤ p := by omega
  have m1 : p ≤ p * p := Nat.le_mul_of_pos_right p p1
  have m2 : p ≤ p * p * p := Nat.le_trans m1 (Nat.le_mul_of_pos_right _ p1)
  have m3 : p ≤ p * p * p * p := Nat.le_trans m2 (Nat.le_mul_of_pos_right _ p1)
  have m4 : p ≤ p * p * p * p * p := Nat.le_trans m3 (Nat.le_mul_of_pos_right _ p1)
  have m5 : p ≤ p * p * p * p * p * p := Nat.le_trans m4 (Nat.le_mul_of_pos_right _ p1)
  unfold legN
  rw [z _ (Nat.le_refl p), z _ m1, z _ m2, z _ m3, z _ m4, z _ m5]
theorem sumL_zero {l : List Nat} {p : Nat} (h : ∀ n ∈ l, n < p) : sumL l p = 0 := by
  induction l with
  | nil => rfl
  | cons n l ih =>
    show legN n p + sumL l p = 0
    rw [legN_zero (h n (by simp)), ih fun m hm => h m (List.mem_cons_of_mem _ hm)]
theorem expE_zero {above below : List Nat} {p : Nat} (ha : ∀ n ∈ above, n < p) (hb : ∀ n ∈ below, n < p) : expE above below p = 0 := by
  unfold expE
  rw [sumL_zero ha, sumL_zero hb]
  rfl
theorem pr_at : ∀ i, i < 30 → primes[i]? = (pr30[i]?).map (Nat.cast : Nat → Int) := by decide +kernel
theorem pr_far : ∀ x ∈ primes.drop 30, 122 < x := by decide +kernel
theorem pr_up : ∀ i, i < 30 → ∀ q ∈ pr30.drop i, pr30.getD i 0 ≤ q := by decide +kernel
theorem pr_len : pr30.length = 30 ∧ primes.length = 168 := by decide +kernel
/-- pairs of a prime and its power -/
def PwR (H : Hp) (e : Nat → Int) : List Addr → List Nat → Prop
  | [], [] => True
  | u :: us, p :: ps => H u = some (.tup [.int (p : Int), .int (e p)]) ∧ PwR H e us ps
  | _, _ => False
theorem PwR.same {H H' : Hp} {e : Nat → Int} (s : Same H H') : ∀ {us : List Addr} {ps : List Nat}, PwR H e us ps → PwR H' e us ps
  | [], [], _ => trivial
  | _ :: _, _ :: _, h => ⟨s _ _ h.1, PwR.same s h.2⟩
  | [], _ :: _, h => h.elim
  | _ :: _, [], h => h.elim
theorem PwR.len {H : Hp} {e : Nat → Int} : ∀ {us : List Addr} {ps : List Nat}, PwR H e us ps → us.length = ps.length
  | [], [], _ => rfl
  | _ :: _, _ :: _, h => congrArg Nat.succ (PwR.len h.2)
  | [], _ :: _, h => h.elim
  | _ :: _, [], h => h.elim
theorem PwR.upd {H : Hp} {e : Nat → Int} {l : Addr} {o : HO} (hl : ∀ x, H l ≠ some (.tup x)) : ∀ {us : List Addr} {ps : List Nat}, PwR H e us ps → PwR (L2.upd H l o) e us ps
  | [], [], _ => trivial
  | u :: us, p :: ps, h => ⟨by
    rw [upd_ne fun z => hl _ (by rw [← z]; exact h.1)]
    exact h.1, PwR.upd hl h.2⟩
  | [], _ :: _, h => h.elim
  | _ :: _, [], h => h.elim
theorem PwR.snoc {H : Hp} {e : Nat → Int} {u : Addr} {p : Nat} (hu : H u = some (.tup [.int (p : Int), .int (e p)])) : ∀ {us : List Addr} {ps : List Nat}, PwR H e us ps → PwR H e (us ++ [u]) (ps ++ [p])
  | [], [], _ => ⟨hu, trivial⟩
  | _ :: _, _ :: _, h => ⟨h.1, PwR.snoc hu h.2⟩
  | [], _ :: _, h => h.elim
  | _ :: _, [], h => h.elim
theorem PwR.get {H : Hp} {e : Nat → Int} : ∀ {us : List Addr} {ps : List Nat} {i : Nat} {v : V}, PwR H e us ps → (us.map V.ref)[i]? = some v → ∃ u p, v = .ref u ∧ ps[i]? = some p ∧ H u = some (.tup [.int (p : Int), .int (e p)])
  | [], [], i, v, _, z => by simp at z
  | u :: us, p :: ps, 0, v, h, z => ⟨u, p, (Option.some.inj z).symm, rfl, h.1⟩
  | u :: us, p :: ps, i + 1, v, h, z => by
    have z' : (us.map V.ref)[i]? = some v := z
    obtain ⟨u', p', a, b, c⟩ := PwR.get h.2 z'
    exact ⟨u', p', a, b, c⟩
  | [], _ :: _, _, _, h, _ => h.elim
  | _ :: _, [], _, _, h, _ => h.elim
theorem nat_at {l : List Nat} {i : Nat} {x : V} (h : (natV l)[i]? = some x) : ∃ n : Nat, l[i]? = some n ∧ x = .int (n : Int) := by
  unfold natV at h
  rw [List.getElem?_map] at h
  cases e : l[i]? with
  | none =>
    rw [e] at h
    cases h
  | some n =>
    rw [e] at h
    exact ⟨n, rfl, (Option.some.inj h).symm⟩
theorem natV_len (l : List Nat) : (natV l).length = l.length := List.length_map ..
theorem take_at {l : List Nat} {i n : Nat} (h : l[i]? = some n) : l.take (i + 1) = l.take i ++ [n] := by
  rw [List.take_add_one, h]
  rfl
def muP (h : Nat) : L2.St → Nat
  | [_, _, _, _, _, _, _, _, some (.int s)] => (h + 1 - s).toNat
  | _ => 0
section
variable {P : Program} {w : World} {K : PySem.W.Frag} {mg : Str → Option Value} {base : Heap} {f : Addr} {fd : FuncData}
/-! ### primes_of_factorials -/
def spPrimesF (K : PySem.W.Frag) : Sp := fun vs H Q _ => ∃ (a b : Addr) (above below : List Nat), vs = [.ref a, .ref b] ∧ H a = some (.lst (natV above)) ∧ H b = some (.lst (natV below)) ∧ 0 < above.length ∧ above.length ≤ 50 ∧ below.length ≤ 50 ∧ (∀ n ∈ above, n < 123) ∧ (∀ n ∈ below, n < 123) ∧
  ∀ (l : Addr) (us : List Addr) (i : Nat) H', Same H H' → H' l = some (.lst (us.map V.ref)) → PwR H' (expE above below) us (pr30.take i) → i ≤ 30 → (∀ p ∈ pr30.drop i, expE above below p = 0) → Q (.ref l) H'
abbrev nPrimesF : List Str := ["above", "below", "high", "counts", "number", "found", "prime", "power", "step"]
theorem scPrimesF : FnScope nPrimesF ["above", "below"] (defScope sPrimesF) := ⟨rfl, rfl, rfl, by decide +kernel, rfl, by decide +kernel, by decide +kernel⟩
theorem ok_primesF {aP : Addr} (F : FnP K "primes_of_factorials" sPrimesF f fd) (gP : mg "PRIMES" = some (.ref aP)) (kP : ∀ H : Hp, SqT K H aP (primes.map V.int)) (gmax : mg "max" = none) (grange : mg "range" = none) (grev : mg "reversed" = none) (gsum : mg "sum" = none) :
    FnOk P w K mg base CX0 1 f fd ["above", "below"] (spPrimesF K) := by
  refine F.ok scPrimesF (fun vs H Q E h => ?_) (fun cdv A outer s H vs Q E hr h => ?_)
  · obtain ⟨_, _, _, _, rfl, _⟩ := h
    rfl
  obtain ⟨a, b, above, below, rfl, hA, hB, la0, la, lb, ha, hb, q⟩ := h
  refine ⟨_, PSs.nox (C8.pss_cut (ps_set (i := 2) scPrimesF.nd rfl (.inl rfl) (pe_callB (cr_max rfl) (by rfl) gmax (by decide +kernel) (pa_cons (pe_lst (StX.pa_star (pv 0) (StX.pa_star (pv 1) pa_nil))) pa_nil)))
    (C8.pss_cut (ps_set (i := 3) scPrimesF.nd rfl (.inl rfl) (pe_op op_rep (pe_lst (pa_cons pe_int pa_nil)) (pe_op op_add (pv 2) pe_int)))
    (C8.pss_cut (ps_for PassesOwn.never rfl (pi_list (pv 0)) (pg_name (i := 4) scPrimesF.nd rfl (.inl rfl)) (pss_one (ps_augS (pv 3) (pv 4) get_list pe_int ip_add set_list)))
    (C8.pss_cut (ps_for PassesOwn.never rfl (pi_list (pv 1)) (pg_name (i := 4) scPrimesF.nd rfl (.inl rfl)) (pss_one (ps_augS (pv 3) (pv 4) get_list pe_int ip_sub set_list)))
    (C8.pss_cut (ps_for PassesOwn.never rfl (pi_revR (by rfl) grev (prg_1 (by rfl) grange (pv 2))) (pg_name (i := 4) scPrimesF.nd rfl (.inl rfl)) (pss_one (ps_augS (pv 3) (pv 4) get_list (pe_ix ix_list (pv 3) (pe_op op_add (pv 4) pe_int) (fun _ _ => rfl)) ip_add set_list)))
    (pss_cons (ps_set (i := 5) scPrimesF.nd rfl (.inl rfl) (pe_lst pa_nil))
    (C8.pss_cut (ps_for PassesOwn.never rfl (pi_tup (pe_glob (v := .ref aP) (by rfl) gP rfl)) (pg_name (i := 6) scPrimesF.nd rfl (.inl rfl))
      (pss_cons (ps_if (pt_cmpR op_gt (pv 6) (pv 2) (nomark _)) (pss_one ps_break) pss_nil)
      (pss_cons (ps_par (i := 7) (j := 8) (by rfl) scPrimesF.nd rfl rfl (by decide) rfl rfl (pa_cons pe_int (pa_cons (pv 6) pa_nil)) (by rfl))
      (C8.pss_cut (ps_while PassesOwn.never (pt_cmpR op_le (pv 8) (pv 2) (nomark _))
        (pss_cons (ps_aug (i := 7) scPrimesF.nd rfl (.inl rfl) (pe_callB (cr_sum rfl) (by rfl) gsum (by decide +kernel) (pa_cons (pe_slice3 (pv 3) (po_some (pv 8)) po_none (po_some (pv 8))) pa_nil)) ip_add)
        (pss_one (ps_aug (i := 8) scPrimesF.nd rfl (.inl rfl) (pv 6) iop_mul))))
      (pss_one (ps_expr (pe_bm PySem.F.plainAttrs_list PySem.F.slot_list_append PySem.F.type_list_append mt_append (pv 5) (pa_cons (pe_tup (pa_cons (pv 6) (pa_cons (pv 7) pa_nil))) pa_nil))))))))
    (pss_one (ps_ret (pv 5)))))))))), ?_⟩
  -- high
  refine ⟨fun σ H' => ∃ h : Nat, σ = [some (.ref a), some (.ref b), some (.int (h : Int)), none, none, none, none, none, none] ∧ Same H H' ∧ h < 123 ∧ (∀ n ∈ above, n ≤ h) ∧ (∀ n ∈ below, n ≤ h), ?_, fun σ H1 hM => ?_⟩
  · refine ⟨_, rfl, a, _, rfl, .inr (SqL.of hA), _, rfl, b, _, rfl, .inr (SqL.of hB), ?_, fun l hl => ?_⟩
    · rw [List.append_nil, List.length_append, natV_len, natV_len, sizeLine_eq]
      omega
    · have eL : natV above ++ (natV below ++ []) = ((above ++ below).map (Nat.cast : Nat → Int)).map V.int := by
        rw [List.append_nil, List.map_append, List.map_append, List.map_map, List.map_map]
        rfl
      rw [eL]
      refine ⟨l, (above ++ below).map (Nat.cast : Nat → Int), rfl, SqL.of upd_same, ?_, fun m hm hmax => ?_⟩
      · rw [List.length_map, List.length_append]
        omega
      · obtain ⟨h, hh, rfl⟩ := List.mem_map.mp hm
        have hle : ∀ n, n ∈ above ++ below → n ≤ h := fun n hn => by
          have := hmax (n : Int) (List.mem_map.mpr ⟨n, hn, rfl⟩)
          omega
        refine ⟨h, rfl, same_upd hl, ?_, fun n hn => hle n (List.mem_append_left _ hn), fun n hn => hle n (List.mem_append_right _ hn)⟩
        rcases List.mem_append.mp hh with z | z
        · exact ha h z
        · exact hb h z
  obtain ⟨h, rfl, s1, h1, hav, hbv⟩ := hM
  have hA1 := s1 _ _ hA
  have hB1 := s1 _ _ hB
  -- counts
  refine ⟨fun σ H' => ∃ c : Addr, σ = [some (.ref a), some (.ref b), some (.int (h : Int)), some (.ref c), none, none, none, none, none] ∧ H1 c = none ∧ Same H1 H' ∧ H' c = some (.lst (lisF h fun _ => 0)), ?_, fun σ H2 hM => ?_⟩
  · refine ⟨by show 1 ≤ sizeLine; decide, fun l hl => ?_⟩
    have s2 := same_upd (o := .lst [V.int 0]) hl
    refine ⟨_, rfl, h, 1, rfl, rfl, l, _, _, rfl, rfl, upd_same, by omega, by omega, ?_, fun c hc => ?_⟩
    · show 1 * ((h : Int) + 1).toNat ≤ _
      rw [sizeLine_eq]
      omega
    · have e : ((h : Int) + 1).toNat = h + 1 := by omega
      rw [e, lisF_rep]
      exact ⟨c, rfl, s2.free hc, s2.trans (same_upd hc), upd_same⟩
  obtain ⟨c, rfl, hc1, s2, hc2⟩ := hM
  have keep : ∀ {G : Hp} {o : HO}, Same H1 G → Same H1 (upd G c o) := fun {G o} sg x y e => by
    rw [upd_ne (ne_of_none e hc1)]
    exact sg _ _ e
  have nA : ∀ {G : Hp}, Same H1 G → SqL K G a (natV above) := fun sg => SqL.of (sg _ _ hA1)
  have nB : ∀ {G : Hp}, Same H1 G → SqL K G b (natV below) := fun sg => SqL.of (sg _ _ hB1)
  -- one more for each above
  refine ⟨fun σ H' => ∃ v4 : Option V, σ = [some (.ref a), some (.ref b), some (.int (h : Int)), some (.ref c), v4, none, none, none, none] ∧ Same H1 H' ∧ H' c = some (.lst (lisF h (eqL above))), ?_, fun σ H3 hM => ?_⟩
  · refine ⟨_, rfl, a, rfl, ⟨_, nA s2⟩, for_list (xs := natV above) (fun i σ H' => ∃ v4 : Option V, σ = [some (.ref a), some (.ref b), some (.int (h : Int)), some (.ref c), v4, none, none, none, none] ∧ Same H1 H' ∧ H' c = some (.lst (lisF h (eqL (above.take i))))) ⟨none, rfl, s2, hc2⟩ (fun i σ H' _ hP => ?_) (fun i x σ H' hx hP => ?_) (fun σ H' hP => ?_)⟩
    · obtain ⟨_, _, sg, _⟩ := hP
      exact nA sg
    · obtain ⟨v4, rfl, sg, hcc⟩ := hP
      obtain ⟨n, hn, rfl⟩ := nat_at hx
      have nh : n ≤ h := hav n (List.mem_of_getElem? hn)
      refine ⟨_, rfl, _, rfl, c, _, n, _, rfl, rfl, SqL.of hcc, lisF_get nh, _, 1, rfl, rfl, c, _, n, n, rfl, rfl, hcc, ?_, _, rfl, keep sg, ?_⟩
      · rw [lisF_len]
        exact ixN_nat (by omega)
      · rw [upd_same, lisF_set, take_at hn]
        refine congrArg (fun z => some (HO.lst z)) (lisF_congr fun m _ => ?_)
        rw [eqL_snoc]
        by_cases e : m = n
        · rw [if_pos e, if_pos e.symm, e]
        · rw [if_neg e, if_neg fun z => e z.symm]
          omega
    · obtain ⟨v4, rfl, sg, hcc⟩ := hP
      rw [natV_len, List.take_length] at hcc
      exact ⟨v4, rfl, sg, hcc⟩
  obtain ⟨v4, rfl, s3, hc3⟩ := hM
  -- one less for each below
  refine ⟨fun σ H' => ∃ v4 : Option V, σ = [some (.ref a), some (.ref b), some (.int (h : Int)), some (.ref c), v4, none, none, none, none] ∧ Same H1 H' ∧ H' c = some (.lst (lisF h fun m => eqL above m - eqL below m)), ?_, fun σ H4 hM => ?_⟩
  · refine ⟨_, rfl, b, rfl, ⟨_, nB s3⟩, for_list (xs := natV below) (fun i σ H' => ∃ v4 : Option V, σ = [some (.ref a), some (.ref b), some (.int (h : Int)), some (.ref c), v4, none, none, none, none] ∧ Same H1 H' ∧ H' c = some (.lst (lisF h fun m => eqL above m - eqL (below.take i) m))) ⟨v4, rfl, s3, ?_⟩ (fun i σ H' _ hP => ?_) (fun i x σ H' hx hP => ?_) (fun σ H' hP => ?_)⟩
    · rw [hc3]
      refine congrArg (fun z => some (HO.lst z)) (lisF_congr fun m _ => ?_)
      show _ = eqL above m - 0
      omega
    · obtain ⟨_, _, sg, _⟩ := hP
      exact nB sg
    · obtain ⟨v4, rfl, sg, hcc⟩ := hP
      obtain ⟨n, hn, rfl⟩ := nat_at hx
      have nh : n ≤ h := hbv n (List.mem_of_getElem? hn)
      refine ⟨_, rfl, _, rfl, c, _, n, _, rfl, rfl, SqL.of hcc, lisF_get nh, _, 1, rfl, rfl, c, _, n, n, rfl, rfl, hcc, ?_, _, rfl, keep sg, ?_⟩
      · rw [lisF_len]
        exact ixN_nat (by omega)
      · rw [upd_same, lisF_set, take_at hn]
        refine congrArg (fun z => some (HO.lst z)) (lisF_congr fun m _ => ?_)
        rw [eqL_snoc]
        by_cases e : m = n
        · rw [if_pos e, if_pos e.symm, e]
          dsimp only
          omega
        · rw [if_neg e, if_neg fun z => e z.symm]
          omega
    · obtain ⟨v4, rfl, sg, hcc⟩ := hP
      rw [natV_len, List.take_length] at hcc
      exact ⟨v4, rfl, sg, hcc⟩
  clear v4
  obtain ⟨v4, rfl, s4, hc4⟩ := hM
  -- summed from the end
  refine ⟨fun σ H' => ∃ v4 : Option V, σ = [some (.ref a), some (.ref b), some (.int (h : Int)), some (.ref c), v4, none, none, none, none] ∧ Same H1 H' ∧ H' c = some (.lst (lisF h fun m => geL above m - geL below m)), ?_, fun σ H5 hM => ?_⟩
  · have top : ∀ l : List Nat, (∀ n ∈ l, n ≤ h) → geL l h = eqL l h := fun l hl => by
      rw [ge_step, ge_top hl (Nat.lt_succ_self h)]
      omega
    refine ⟨_, rfl, h, rfl, by omega, by omega, by omega, by omega, for_rangeC (fun i σ H' => ∃ v4 : Option V, σ = [some (.ref a), some (.ref b), some (.int (h : Int)), some (.ref c), v4, none, none, none, none] ∧ Same H1 H' ∧ H' c = some (.lst (lisF h fun m => if h - i ≤ m then geL above m - geL below m else eqL above m - eqL below m))) ⟨v4, rfl, s4, ?_⟩ (fun i σ H' hi hP => ?_) (fun σ H' hP => ?_)⟩
    · rw [hc4]
      refine congrArg (fun z => some (HO.lst z)) (lisF_congr fun m hm => ?_)
      by_cases e : h - 0 ≤ m
      · rw [if_pos e, show m = h by omega, top above hav, top below hbv]
      · rw [if_neg e]
    · obtain ⟨v4, rfl, sg, hcc⟩ := hP
      have hi' : i < h := by omega
      have ej : (0 : Int) + ((((h : Int) - 0).toNat : Nat) : Int) - 1 + (i : Nat) * (-1) = ((h - 1 - i : Nat) : Int) := by omega
      rw [ej]
      refine ⟨_, rfl, _, rfl, c, _, h - 1 - i, _, rfl, rfl, SqL.of hcc, lisF_get (by omega), _, rfl, _, rfl, _, 1, rfl, rfl, c, _, _, _, rfl, rfl, SqL.of hcc, at_of (j := h - i) (by omega) (lisF_get (by omega)), _, _, rfl, rfl, c, _, _, h - 1 - i, rfl, rfl, hcc, ?_, _, rfl, keep sg, ?_⟩
      · rw [lisF_len]
        exact ixN_nat (by omega)
      · rw [upd_same, lisF_set]
        refine congrArg (fun z => some (HO.lst z)) (lisF_congr fun m hm => ?_)
        by_cases e : m = h - 1 - i
        · rw [if_pos e, if_pos (show h - (i + 1) ≤ m by omega), if_neg (show ¬ h - i ≤ h - 1 - i by omega), if_pos (show h - i ≤ h - i by omega), ge_step above m, ge_step below m, e, show h - 1 - i + 1 = h - i by omega]
          dsimp only
          omega
        · rw [if_neg e]
          by_cases e2 : h - i ≤ m
          · rw [if_pos e2, if_pos (by omega)]
          · rw [if_neg e2, if_neg (by omega)]
    · obtain ⟨v4, rfl, sg, hcc⟩ := hP
      refine ⟨v4, rfl, sg, ?_⟩
      rw [hcc]
      refine congrArg (fun z => some (HO.lst z)) (lisF_congr fun m _ => ?_)
      rw [if_pos (by omega)]
  clear v4
  obtain ⟨v4, rfl, s5, hc5⟩ := hM
  refine ⟨by show 0 ≤ sizeLine; decide, fun l hl => ?_⟩
  have s6 := same_upd (o := .lst []) hl
  have cl : c ≠ l := ne_of_none hc5 hl
  have lH1 : H1 l = none := s5.free hl
  -- the primes
  refine ⟨fun σ H' => ∃ (v4 v6 v7 v8 : Option V) (us : List Addr) (i : Nat), σ = [some (.ref a), some (.ref b), some (.int (h : Int)), some (.ref c), v4, some (.ref l), v6, v7, v8] ∧ Same H1 H' ∧ H' l = some (.lst (us.map V.ref)) ∧ PwR H' (expE above below) us (pr30.take i) ∧ i ≤ 30 ∧ ∀ p ∈ pr30.drop i, expE above below p = 0, ?_, fun σ H7 hM => ?_⟩
  · refine ⟨aP, rfl, ⟨_, kP _⟩, for_tup (xs := primes.map V.int) (fun i σ H' => ∃ (v6 v7 v8 : Option V) (us : List Addr), σ = [some (.ref a), some (.ref b), some (.int (h : Int)), some (.ref c), v4, some (.ref l), v6, v7, v8] ∧ Same H1 H' ∧ H' l = some (.lst (us.map V.ref)) ∧ H' c = some (.lst (lisF h fun m => geL above m - geL below m)) ∧ PwR H' (expE above below) us (pr30.take i) ∧ i ≤ 30)
      ⟨none, none, none, [], rfl, s5.trans s6, upd_same, s6 _ _ hc5, trivial, by omega⟩ (fun i σ H' _ hP => kP _) (fun i x σ H' hx hP => ?_) (fun σ H' hP => ?_)⟩
    rotate_left
    · obtain ⟨_, _, _, _, _, _, _, _, _, z⟩ := hP
      rw [List.length_map, pr_len.2] at z
      omega
    obtain ⟨v6, v7, v8, us, rfl, sg, hll, hcc, hR, hi⟩ := hP
    rw [List.getElem?_map] at hx
    obtain ⟨x, hx', rfl⟩ : ∃ y, primes[i]? = some y ∧ x = V.int y := by
      cases e : primes[i]? with
      | none =>
        rw [e] at hx
        cases hx
      | some y =>
        rw [e] at hx
        exact ⟨y, rfl, (Option.some.inj hx).symm⟩
    refine ⟨_, rfl, _, rfl, x, h, rfl, rfl, _, rfl, ?_⟩
    by_cases hi3 : i = 30
    · have hf : 122 < x := pr_far x (by
        rw [List.mem_iff_getElem?]
        exact ⟨0, by rw [List.getElem?_drop, ← hx', hi3]⟩)
      refine iteD1 (show x > (h : Int) by omega) ?_
      exact ⟨v4, _, _, _, us, i, rfl, sg, hll, hR, hi, fun p hp => by
        rw [hi3, List.drop_eq_nil_of_le (by rw [pr_len.1]; omega)] at hp
        cases hp⟩
    have hi2 : i < 30 := by omega
    rw [pr_at i hi2] at hx'
    obtain ⟨p, hp, rfl⟩ : ∃ p, pr30[i]? = some p ∧ x = (p : Int) := by
      cases e : pr30[i]? with
      | none =>
        rw [e] at hx'
        cases hx'
      | some y =>
        rw [e] at hx'
        exact ⟨y, rfl, (Option.some.inj hx').symm⟩
    have pmem : p ∈ pr30 := List.mem_of_getElem? hp
    have p1 := (pr30_p p pmem).1
    have pd : pr30.getD i 0 = p := by
      rw [List.getD_eq_getElem?_getD, hp]
      rfl
    by_cases hph : (p : Int) > (h : Int)
    · refine iteD1 hph ?_
      refine ⟨v4, _, _, _, us, i, rfl, sg, hll, hR, hi, fun r hr' => ?_⟩
      have := pr_up i hi2 r hr'
      rw [pd] at this
      exact expE_zero (fun n hn => by have := hav n hn; omega) fun n hn => by have := hbv n hn; omega
    refine iteD0 hph ?_
    refine ⟨_, rfl, _, _, rfl, ?_⟩
    refine ⟨fun σ H'' => ∃ v8 : Option V, σ = [some (.ref a), some (.ref b), some (.int (h : Int)), some (.ref c), v4, some (.ref l), some (.int (p : Int)), some (.int (expE above below p)), v8] ∧ H'' l = some (.lst (us.map V.ref)) ∧ Same H' H'', ?_, fun σ H8 hM => ?_⟩
    · refine while_by (fun σ H'' => ∃ k : Nat, σ = [some (.ref a), some (.ref b), some (.int (h : Int)), some (.ref c), v4, some (.ref l), some (.int (p : Int)), some (.int (runE above below p k)), some (.int ((p ^ (k + 1) : Nat) : Int))] ∧ Same H' H'' ∧ p ^ k ≤ h) (fun σ _ => muP h σ) ⟨0, ?_, fun _ _ e => e, by show 1 ≤ h; omega⟩ (fun σ H'' hP => ?_) (fun σ H Q Q' m h => by
        obtain ⟨x, hx, y, hy, i, j, e1, e2, k, ek, hq⟩ := h
        exact ⟨x, hx, y, hy, i, j, e1, e2, k, ek, m _ _ hq⟩)
      · rw [Nat.zero_add, Nat.pow_one]
        rfl
      obtain ⟨k, rfl, sw, pk⟩ := hP
      refine ⟨_, rfl, _, rfl, _, _, rfl, rfl, _, rfl, iteB (fun y => ?_) fun y => ?_⟩
      rotate_left
      · have y' := of_decide_eq_false y
        have k6 : k ≤ 6 := Nat.le_of_not_lt fun z => by
          have z1 : 2 ^ 7 ≤ p ^ k := Nat.le_trans (Nat.pow_le_pow_left p1 7) (Nat.pow_le_pow_right (by omega) z)
          omega
        refine ⟨some (.int ((p ^ (k + 1) : Nat) : Int)), ?_, sw _ _ hll, sw⟩
        rw [runE_end p1 hav hbv (by omega) k6]
      · have y' := of_decide_eq_true y
        have ple : p ^ (k + 1) ≤ h := by omega
        have s0 : 0 < p ^ (k + 1) := Nat.pow_pos (by omega)
        obtain ⟨st, est⟩ : ∃ st, p ^ (k + 1) = st := ⟨_, rfl⟩
        rw [est] at ple s0
        have eV := step_up (fun m => geL above m - geL below m) h st s0 ple
        rw [est]
        refine ⟨_, rfl, _, rfl, _, rfl, st, rfl, _, rfl, st, rfl, c, _, rfl, SqL.of (sw _ _ hcc), ?_, ?_, fun v hv => ?_⟩
        · intro z
          have := Option.some.inj z
          omega
        · show (stepV ((List.range (h + 1)).map fun m => V.int (geL above m - geL below m)) (some (st : Int)) none (some (st : Int))).length ≤ _
          rw [eV, List.length_map, List.length_map, List.length_range, sizeLine_eq]
          have := Nat.div_le_self h st
          omega
        have eV' : stepV (lisF h fun m => geL above m - geL below m) (some (st : Int)) none (some (st : Int)) = _ := eV
        rw [eV']
        refine ⟨v, _, rfl, SqL.of upd_same, _, _, rfl, rfl, ?_⟩
        rw [at_sum s0 hav hbv]
        refine ⟨_, rfl, _, rfl, _, _, rfl, rfl, .inr ⟨by omega, by omega⟩, ⟨k + 1, ?_, sw.trans (same_upd hv), by rw [est]; exact ple⟩, ?_⟩
        · show [some (V.ref a), some (V.ref b), some (V.int (h : Int)), some (V.ref c), v4, some (V.ref l), some (V.int (p : Int)), some (V.int (runE above below p k + atS above below st)), some (V.int ((st : Int) * (p : Int)))] = _
          have e1 : runE above below p (k + 1) = runE above below p k + atS above below st := by
            rw [← est]
            rfl
          have e2 : ((p ^ (k + 1 + 1) : Nat) : Int) = (st : Int) * (p : Int) := by
            rw [Nat.pow_succ, est, Int.natCast_mul]
          rw [e1, e2]
        · show ((h : Int) + 1 - (st : Int) * (p : Int)).toNat < ((h : Int) + 1 - (st : Int)).toNat
          have : (st : Int) * 2 ≤ (st : Int) * (p : Int) := Int.mul_le_mul_of_nonneg_left (by omega) (by omega)
          omega
    obtain ⟨w8, rfl, hl8, s8⟩ := hM
    refine ⟨_, rfl, .inl ⟨rfl, _, SqL.of hl8⟩, _, rfl, _, rfl, by show 2 ≤ sizeLine; decide, fun u hu => ?_⟩
    have s9 := same_upd (o := .tup [.int (p : Int), .int (expE above below p)]) hu
    have hl9 := s9 _ _ hl8
    refine ⟨l, _, _, rfl, rfl, hl9, ?_, _, _, _, us ++ [u], rfl, ?_, ?_, ?_, ?_, by omega⟩
    · have := hR.len
      rw [List.length_take] at this
      rw [List.length_map, sizeLine_eq]
      omega
    · intro x y e
      rw [upd_ne (ne_of_none e lH1)]
      exact s9 _ _ (s8 _ _ (sg _ _ e))
    · rw [upd_same, List.map_append]
      rfl
    · rw [upd_ne cl]
      exact s9 _ _ (s8 _ _ hcc)
    · rw [take_at hp]
      exact PwR.upd (fun x e => by rw [hl9] at e; cases e) (PwR.snoc upd_same ((hR.same s8).same s9))
  obtain ⟨w4, v6, v7, v8, us, i, rfl, s7, hl7, hR, hi, hz⟩ := hM
  exact ⟨_, rfl, q l us i H7 (s1.trans s7) hl7 hR hi hz⟩
end
end TC
namespace TCX
theorem powP_append (e : Nat → Nat) : ∀ l m : List Nat, powP e (l ++ m) = powP e l * powP e m
  | [], m => (Nat.one_mul _).symm
  | p :: l, m => by
    show p ^ e p * powP e (l ++ m) = p ^ e p * powP e l * powP e m
    rw [powP_append e l m, Nat.mul_assoc]
theorem powP_snoc (e : Nat → Nat) (l : List Nat) (p : Nat) : powP e (l ++ [p]) = powP e l * p ^ e p := by
  rw [powP_append]
  show powP e l * (p ^ e p * 1) = _
  rw [Nat.mul_one]
theorem powP_none {e : Nat → Nat} {l : List Nat} (h : ∀ p ∈ l, e p = 0) : powP e l = 1 := by
  rw [powP_congr (f := fun _ => 0) h, powP_zero]
theorem pick_append (f : Nat → Bool) (l m : List Nat) : pickP f (l ++ m) = pickP f l * pickP f m := by
  rw [pick_pow, pick_pow, pick_pow, powP_append]
theorem pick_snoc (f : Nat → Bool) (l : List Nat) (p : Nat) : pickP f (l ++ [p]) = pickP f l * (if f p then p else 1) := by
  rw [pick_append]
  congr 1
  show (if f p then p * 1 else 1) = _
  rw [Nat.mul_one]
theorem pick_none {f : Nat → Bool} {l : List Nat} (h : ∀ p ∈ l, f p = false) : pickP f l = 1 := by
  rw [pick_pow]
  exact powP_none fun p hp => by rw [h p hp]; rfl
theorem legN_le (n p : Nat) : legN n p ≤ 6 * n := by
  have h : ∀ q, n / q ≤ n := fun q => Nat.div_le_self n q
  unfold legN
  have h1 := h p
  have h2 := h (p * p)
  have h3 := h (p * p * p)
  have h4 := h (p * p * p * p)
  have h5 := h (p * p * p * p * p)
  have h6 := h (p * p * p * p * p * p)
  omega
theorem sumL_le {l : List Nat} (h : ∀ n ∈ l, n < 123) (p : Nat) : sumL l p ≤ 738 * l.length := by
  induction l with
  | nil => exact Nat.le_refl _
  | cons n l ih =>
    have h1 := ih fun m hm => h m (List.mem_cons_of_mem _ hm)
    have h2 := legN_le n p
    have h3 := h n (by simp)
    show legN n p + sumL l p ≤ 738 * (l.length + 1)
    omega
theorem rat_cop {t b : Nat} (hb : 0 < b) (c : Nat.Coprime t b) : (Rat.divInt (t : Int) (b : Int)).num = (t : Int) ∧ (Rat.divInt (t : Int) (b : Int)).den = b := by
  have e : (⟨(t : Int), b, by omega, by rw [Int.natAbs_natCast]; exact c⟩ : Rat) = Rat.divInt (t : Int) (b : Int) := Rat.mk_eq_divInt ..
  rw [← e]
  exact ⟨rfl, rfl⟩
end TCX
namespace TC
open PySem PySem.Spec PyProof.Rows L2 TCX
section
variable {P : Program} {w : World} {K : PySem.W.Frag} {mg : Str → Option Value} {base : Heap} {f : Addr} {fd : FuncData} {C fI fQ : Addr}
/-! ### root_of_factorials -/
def rootL (above below : List Nat) : List Part := [((rootE above below : Nat), Rat.divInt ((topE above below : Nat) : Int) ((botE above below : Nat) : Int))]
def spRootF (C : Addr) : Sp := fun vs H Q _ => ∃ (a b : Addr) (above below : List Nat), vs = [.ref a, .ref b] ∧ H a = some (.lst (natV above)) ∧ H b = some (.lst (natV below)) ∧ 0 < above.length ∧ above.length ≤ 50 ∧ below.length ≤ 50 ∧ (∀ n ∈ above, n < 123) ∧ (∀ n ∈ below, n < 123) ∧
  ∀ x H', Same H H' → H x = none → NumAt C H' x (rootL above below) → Q (.ref x) H'
abbrev nRootF : List Str := ["above", "below", "root", "top", "bottom", "prime", "power", "half", "turn"]
theorem scRootF : FnScope nRootF ["above", "below"] (defScope sRootF) := ⟨rfl, rfl, rfl, by decide +kernel, rfl, by decide +kernel, by decide +kernel⟩
theorem ok_rootF {fP fO : Addr} {fdP fdO fdI : FuncData} (F : FnP K "root_of_factorials" sRootF f fd) (T : TxtN K mg C fI fQ) (GP : FnOk P w K mg base CX0 1 fP fdP ["above", "below"] (spPrimesF K)) (bP : L2.Binds K fdP ["above", "below"] []) (kP : PySem.W.keepIn K (.ref fP) = true) (gP : mg "primes_of_factorials" = some (.ref fP))
    (GO : FnOk P w K mg base CX0 1 fO fdO ["number"] spOdd) (bO : L2.Binds K fdO ["number"] []) (kO : PySem.W.keepIn K (.ref fO) = true) (gO : mg "is_odd" = some (.ref fO))
    (GI : FnOk P w K mg base CX0 1 fI fdI ["self", "parts"] (spInit C)) (bI : L2.Binds K fdI ["self", "parts"] []) (grange : mg "range" = none) : FnOk P w K mg base CX0 3 f fd ["above", "below"] (spRootF C) := by
  refine F.ok scRootF (fun vs H Q E h => ?_) (fun cdv A outer s H vs Q E hr h => ?_)
  · obtain ⟨_, _, _, _, rfl, _⟩ := h
    rfl
  obtain ⟨a, b, above, below, rfl, hA, hB, la0, la, lb, ha, hb, q⟩ := h
  have hr1 := hr.mono (j := 1) (by decide)
  refine ⟨_, PSs.nox (C8.pss_cut (ps_asg (pe_tup (pa_cons pe_int (pa_cons pe_int (pa_cons pe_int pa_nil)))) (pg_tup rfl (pgs_cons (pg_name (i := 2) scRootF.nd rfl (.inl rfl)) (pgs_cons (pg_name (i := 3) scRootF.nd rfl (.inl rfl)) (pgs_cons (pg_name (i := 4) scRootF.nd rfl (.inl rfl)) pgs_nil)))))
    (C8.pss_cut (ps_for PassesOwn.never rfl (pi_list (pe_call GP hr1 (by rfl) gP kP bP .nil pass0 (pa_cons (pv 0) (pa_cons (pv 1) pa_nil)))) (pg_tup rfl (pgs_cons (pg_name (i := 5) scRootF.nd rfl (.inl rfl)) (pgs_cons (pg_name (i := 6) scRootF.nd rfl (.inl rfl)) pgs_nil)))
      (pss_cons (ps_set (i := 7) scRootF.nd rfl (.inl rfl) (pe_op op_fdiv (pv 6) pe_int))
      (C8.pss_cut (ps_for PassesOwn.never rfl (pi_range1 (by rfl) grange (pa_cons (pv 7) pa_nil)) (pg_name (i := 8) scRootF.nd rfl (.inl rfl)) (pss_one (ps_aug (i := 3) scRootF.nd rfl (.inl rfl) (pv 5) iop_mul)))
      (C8.pss_cut (ps_for PassesOwn.never rfl (pi_range1 (by rfl) grange (pa_cons (pe_un un_neg (pv 7)) pa_nil)) (pg_name (i := 8) scRootF.nd rfl (.inl rfl)) (pss_one (ps_aug (i := 4) scRootF.nd rfl (.inl rfl) (pv 5) iop_mul)))
      (pss_one (ps_if (pt_val (pe_call GO hr1 (by rfl) gO kO bO .nil pass0 (pa_cons (pv 6) pa_nil))) (pss_one (ps_aug (i := 2) scRootF.nd rfl (.inl rfl) (pv 5) iop_mul)) pss_nil))))))
    (pss_one (ps_ret (pe_make T.mkr GI (hr.mono (by decide)) (by rfl) T.mgC bI .nil pass0 (pa_cons (pe_tup (pa_cons (pe_tup (pa_cons (pv 2) (pa_cons (pv 3) (pa_cons (pv 4) pa_nil)))) pa_nil)) pa_nil)))))), ?_⟩
  refine ⟨fun σ H' => σ = [some (.ref a), some (.ref b), some (.int 1), some (.int 1), some (.int 1), none, none, none, none] ∧ Same H H', ?_, fun σ H1 hM => ?_⟩
  · refine ⟨by show 3 ≤ sizeLine; decide, fun l hl => ?_⟩
    exact ⟨l, _, rfl, SqT.of upd_same, rfl, _, _, rfl, _, _, rfl, _, _, rfl, rfl, rfl, same_upd hl⟩
  obtain ⟨rfl, s1⟩ := hM
  obtain ⟨eT, heT⟩ : ∃ e : Nat → Nat, (fun p => (expE above below p / 2).toNat) = e := ⟨_, rfl⟩
  obtain ⟨eB, heB⟩ : ∃ e : Nat → Nat, (fun p => (-(expE above below p / 2)).toNat) = e := ⟨_, rfl⟩
  obtain ⟨eR, heR⟩ : ∃ e : Nat → Bool, (fun p => decide (expE above below p % 2 = 1)) = e := ⟨_, rfl⟩
  refine ⟨fun σ H' => ∃ v5 v6 v7 v8 : Option V, σ = [some (.ref a), some (.ref b), some (.int ((rootE above below : Nat) : Int)), some (.int ((topE above below : Nat) : Int)), some (.int ((botE above below : Nat) : Int)), v5, v6, v7, v8] ∧ Same H H', ?_, fun σ H2 hM => ?_⟩
  · refine ⟨_, rfl, _, rfl, a, b, above, below, rfl, s1 _ _ hA, s1 _ _ hB, la0, la, lb, ha, hb, fun l us i H2 s2 hl hR hi hz => ?_⟩
    refine ⟨l, rfl, ⟨_, SqL.of hl⟩, for_list (xs := us.map V.ref) (fun j σ H' => ∃ v5 v6 v7 v8 : Option V, σ = [some (.ref a), some (.ref b), some (.int ((pickP eR ((pr30.take i).take j) : Nat) : Int)), some (.int ((powP eT ((pr30.take i).take j) : Nat) : Int)), some (.int ((powP eB ((pr30.take i).take j) : Nat) : Int)), v5, v6, v7, v8] ∧ H' = H2)
      ⟨none, none, none, none, rfl, rfl⟩ (fun j σ H' _ hP => ?_) (fun j x σ H' hx hP => ?_) (fun σ H' hP => ?_)⟩
    · obtain ⟨_, _, _, _, _, rfl⟩ := hP
      exact SqL.of hl
    · obtain ⟨v5, v6, v7, v8, rfl, rfl⟩ := hP
      obtain ⟨u, p, rfl, hp, hu⟩ := hR.get hx
      rw [take_at hp]
      have pm : p ∈ pr30 := List.mem_of_mem_take (List.mem_of_getElem? hp)
      have pb : p < 123 := (show ∀ p ∈ pr30, p < 123 by decide +kernel) p pm
      have sa := sumL_le ha p
      have sb := sumL_le hb p
      have ex : expE above below p = (sumL above p : Int) - (sumL below p : Int) := rfl
      refine ⟨u, _, rfl, SqT.of hu, rfl, _, _, rfl, _, _, rfl, rfl, ?_⟩
      refine ⟨_, rfl, expE above below p, 2, rfl, rfl, ⟨by decide, by decide⟩, ?_⟩
      have hm1 : ∀ z : Int, CMul z (p : Int) := fun z => .inr ⟨by omega, by omega⟩
      refine ⟨fun σ G => ∃ v8 : Option V, σ = [some (.ref a), some (.ref b), some (.int ((pickP eR ((pr30.take i).take j) : Nat) : Int)), some (.int ((powP eT ((pr30.take i).take j ++ [p]) : Nat) : Int)), some (.int ((powP eB ((pr30.take i).take j) : Nat) : Int)), some (.int (p : Int)), some (.int (expE above below p)), some (.int (expE above below p / 2)), v8] ∧ G = H', ?_, fun σ H3' hM => ?_⟩
      · refine ⟨_, rfl, expE above below p / 2, rfl, by omega, by omega, for_range (fun k σ G => ∃ v8 : Option V, σ = [some (.ref a), some (.ref b), some (.int ((pickP eR ((pr30.take i).take j) : Nat) : Int)), some (.int ((powP eT ((pr30.take i).take j) * p ^ k : Nat) : Int)), some (.int ((powP eB ((pr30.take i).take j) : Nat) : Int)), some (.int (p : Int)), some (.int (expE above below p)), some (.int (expE above below p / 2)), v8] ∧ G = H') ⟨v8, ?_, rfl⟩ (fun k σ H' hk hP => ?_) (fun σ H' hP => ?_)⟩
        · rw [Nat.pow_zero, Nat.mul_one]
          rfl
        · obtain ⟨v8, rfl, rfl⟩ := hP
          refine ⟨_, rfl, _, rfl, _, _, rfl, rfl, hm1 _, some (.int (0 + (k : Int))), ?_, rfl⟩
          rw [Nat.pow_succ, ← Nat.mul_assoc, Int.natCast_mul _ p]
          rfl
        · obtain ⟨v8, rfl, rfl⟩ := hP
          refine ⟨v8, ?_, rfl⟩
          rw [powP_snoc, ← heT]
      obtain ⟨w8, rfl, e3⟩ := hM
      replace e3 := e3.symm
      subst e3
      refine ⟨fun σ G => ∃ v8 : Option V, σ = [some (.ref a), some (.ref b), some (.int ((pickP eR ((pr30.take i).take j) : Nat) : Int)), some (.int ((powP eT ((pr30.take i).take j ++ [p]) : Nat) : Int)), some (.int ((powP eB ((pr30.take i).take j ++ [p]) : Nat) : Int)), some (.int (p : Int)), some (.int (expE above below p)), some (.int (expE above below p / 2)), v8] ∧ G = H', ?_, fun σ H4 hM => ?_⟩
      · refine ⟨_, rfl, _, rfl, -(expE above below p / 2), rfl, by omega, by omega, for_range (fun k σ G => ∃ v8 : Option V, σ = [some (.ref a), some (.ref b), some (.int ((pickP eR ((pr30.take i).take j) : Nat) : Int)), some (.int ((powP eT ((pr30.take i).take j ++ [p]) : Nat) : Int)), some (.int ((powP eB ((pr30.take i).take j) * p ^ k : Nat) : Int)), some (.int (p : Int)), some (.int (expE above below p)), some (.int (expE above below p / 2)), v8] ∧ G = H') ⟨w8, ?_, rfl⟩ (fun k σ H' hk hP => ?_) (fun σ H' hP => ?_)⟩
        · rw [Nat.pow_zero, Nat.mul_one]
        · obtain ⟨v8, rfl, rfl⟩ := hP
          refine ⟨_, rfl, _, rfl, _, _, rfl, rfl, hm1 _, some (.int (0 + (k : Int))), ?_, rfl⟩
          rw [Nat.pow_succ, ← Nat.mul_assoc, Int.natCast_mul _ p]
          rfl
        · obtain ⟨v8, rfl, rfl⟩ := hP
          refine ⟨v8, ?_, rfl⟩
          rw [powP_snoc eB, ← heB]
      clear w8
      obtain ⟨w8, rfl, e4⟩ := hM
      replace e4 := e4.symm
      subst e4
      refine ⟨_, rfl, expE above below p, rfl, _, rfl, ?_⟩
      by_cases ho : expE above below p % 2 = 1
      · refine iteD1 ho ?_
        refine ⟨_, rfl, _, rfl, _, _, rfl, rfl, hm1 _, some (.int (p : Int)), some (.int (expE above below p)), some (.int (expE above below p / 2)), w8, ?_, rfl⟩
        rw [pick_snoc, ← heR, if_pos (decide_eq_true ho), Int.natCast_mul _ p]
        rfl
      · refine iteD0 ho ?_
        refine ⟨some (.int (p : Int)), some (.int (expE above below p)), some (.int (expE above below p / 2)), w8, ?_, rfl⟩
        rw [pick_snoc, ← heR, if_neg (by dsimp only; rw [decide_eq_false ho]; exact Bool.false_ne_true), Nat.mul_one]
    · obtain ⟨v5, v6, v7, v8, rfl, rfl⟩ := hP
      refine ⟨v5, v6, v7, v8, ?_, s1.trans s2⟩
      have lu := hR.len
      have et : (pr30.take i).take (us.map V.ref).length = pr30.take i := by
        rw [List.length_map, lu, List.take_length]
      rw [et]
      have e1 : rootE above below = pickP eR (pr30.take i) := by
        unfold rootE
        rw [heR]
        conv => lhs; rw [← List.take_append_drop i pr30]
        rw [pick_append, pick_none (l := pr30.drop i) fun p hp => by rw [← heR]; dsimp only; rw [hz p hp]; rfl, Nat.mul_one]
      have e2 : topE above below = powP eT (pr30.take i) := by
        unfold topE
        rw [heT]
        conv => lhs; rw [← List.take_append_drop i pr30]
        rw [powP_append, powP_none (l := pr30.drop i) fun p hp => by rw [← heT]; dsimp only; rw [hz p hp]; rfl, Nat.mul_one]
      have e3 : botE above below = powP eB (pr30.take i) := by
        unfold botE
        rw [heB]
        conv => lhs; rw [← List.take_append_drop i pr30]
        rw [powP_append, powP_none (l := pr30.drop i) fun p hp => by rw [← heB]; dsimp only; rw [hz p hp]; rfl, Nat.mul_one]
      rw [e1, e2, e3]
  obtain ⟨v5, v6, v7, v8, rfl, s2⟩ := hM
  refine ⟨_, rfl, _, rfl, _, rfl, by show 3 ≤ sizeLine; decide, fun u hu => ?_⟩
  refine ⟨by show 1 ≤ sizeLine; decide, fun p hp => ?_⟩
  have s3 := same_upd (o := .tup [.int ((rootE above below : Nat) : Int), .int ((topE above below : Nat) : Int), .int ((botE above below : Nat) : Int)]) hu
  have s4 := same_upd (o := .tup [.ref u]) hp
  obtain ⟨c1, c2⟩ := rat_cop (botE_pos above below) (topE_cop above below)
  have hpar : parV ((rootE above below : Nat), Rat.divInt ((topE above below : Nat) : Int) ((botE above below : Nat) : Int)) = .tup [.int ((rootE above below : Nat) : Int), .int ((topE above below : Nat) : Int), .int ((botE above below : Nat) : Int)] := by
    unfold parV
    dsimp only
    rw [c1, c2]
  refine made_num (C := C) (L := rootL above below) ⟨[u], upd_same, ?_, trivial⟩ fun x H5 s5 hx hN => q x H5 ((s2.trans (s3.trans s4)).trans s5) ((s2.trans (s3.trans s4)).free hx) hN
  rw [hpar]
  exact s4 _ _ upd_same
end
end TC
namespace TC
open PySem PySem.Spec PyProof.Rows L2 TCX
def canB (a b c : Int) : Bool := !decide ((a + b + c) % 2 = 1) && (decide (a ≤ b + c) && (decide (b ≤ a + c) && decide (c ≤ a + b)))
theorem canB_iff {a b c : Int} : canB a b c = true ↔ (a + b + c) % 2 = 0 ∧ a ≤ b + c ∧ b ≤ a + c ∧ c ≤ a + b := by
  unfold canB
  simp only [Bool.and_eq_true, Bool.not_eq_true', decide_eq_true_eq, decide_eq_false_iff_not]
  omega
/-- a size and an offset of it -/
structure PairP (t o : Int) : Prop where
  t0 : 0 ≤ t
  t1 : t ≤ 40
  lo : -t ≤ o
  hi : o ≤ t
  ev : (t - o) % 2 = 0
section
variable {X : Cx}
theorem iop_mulW : OpR X (inplaceOp .Mult) (rI CMulW fun i j => .int (i * j)) := opI fun _ _ _ _ _ _ _ hc q => imul_int q hc.ok
end
section
variable {P : Program} {w : World} {K : PySem.W.Frag} {mg : Str → Option Value} {base : Heap} {f : Addr} {fd : FuncData} {C fI fQ : Addr}
/-! ### can_join -/
def spCanJoin : Sp := fun vs H Q _ => ∃ a b c : Int, vs = [.int a, .int b, .int c] ∧ Q (.bl (canB a b c)) H
abbrev nCanJoin : List Str := ["one", "other", "third"]
theorem scCanJoin : FnScope nCanJoin ["one", "other", "third"] (defScope sCanJoin) := ⟨rfl, rfl, rfl, by decide +kernel, rfl, by decide +kernel, by decide +kernel⟩
theorem ok_canJoin {fO : Addr} {fdO : FuncData} (F : FnP K "can_join" sCanJoin f fd) (GO : FnOk P w K mg base CX0 1 fO fdO ["number"] spOdd) (bO : L2.Binds K fdO ["number"] []) (kO : PySem.W.keepIn K (.ref fO) = true) (gO : mg "is_odd" = some (.ref fO)) :
    FnOk P w K mg base CX0 2 f fd ["one", "other", "third"] spCanJoin := by
  refine F.ok scCanJoin (fun vs H Q E h => ?_) (fun cdv A outer s H vs Q E hr h => ?_)
  · obtain ⟨_, _, _, rfl, _⟩ := h
    rfl
  obtain ⟨a, b, c, rfl, q⟩ := h
  have hr1 := hr.mono (j := 1) (by decide)
  refine ⟨_, PSs.nox (pss_cons (ps_if (pt_val (pe_call GO hr1 (by rfl) gO kO bO .nil pass0 (pa_cons (pe_op op_add (pe_op op_add (pv 0) (pv 1)) (pv 2)) pa_nil))) (pss_one (ps_ret pe_bl)) pss_nil)
      (pss_one (ps_ret (pe_and (pe_cmpR op_le (pv 0) (pe_op op_add (pv 1) (pv 2)) (nomark _)) (pe_and (pe_cmpR op_le (pv 1) (pe_op op_add (pv 0) (pv 2)) (nomark _)) (pe_one (pe_cmpR op_le (pv 2) (pe_op op_add (pv 0) (pv 1)) (nomark _)))))))), ?_⟩
  refine ⟨_, rfl, _, rfl, a, b, rfl, rfl, _, rfl, a + b, c, rfl, rfl, a + b + c, rfl, _, rfl, ?_⟩
  unfold canB at q
  by_cases h1 : (a + b + c) % 2 = 1
  · refine iteD1 h1 ?_
    rw [decide_eq_true h1] at q
    exact q
  refine iteD0 h1 ?_
  rw [decide_eq_false h1, show (!false) = true from rfl, Bool.true_and] at q
  refine ⟨_, rfl, _, rfl, _, rfl, b, c, rfl, rfl, a, b + c, rfl, rfl, _, rfl, ?_⟩
  by_cases h2 : a ≤ b + c
  · refine iteD1 h2 ?_
    rw [decide_eq_true h2, Bool.true_and] at q
    refine ⟨_, rfl, _, rfl, _, rfl, a, c, rfl, rfl, b, a + c, rfl, rfl, _, rfl, ?_⟩
    by_cases h3 : b ≤ a + c
    · refine iteD1 h3 ?_
      rw [decide_eq_true h3, Bool.true_and] at q
      exact ⟨_, rfl, _, rfl, _, rfl, a, b, rfl, rfl, c, a + b, rfl, rfl, q⟩
    · refine iteD0 h3 ?_
      rw [decide_eq_false h3, Bool.false_and] at q
      exact q
  · refine iteD0 h2 ?_
    rw [decide_eq_false h2, Bool.false_and] at q
    exact q
/-! ### is_size, is_offset, need_sizes, need_pairs, of what is right -/
def spIsSize : Sp := fun vs H Q _ => ∃ n : Int, vs = [.int n] ∧ 0 ≤ n ∧ n ≤ 40 ∧ Q (.bl true) H
abbrev nIsSize : List Str := ["thing"]
theorem scIsSize : FnScope nIsSize ["thing"] (defScope sIsSize) := ⟨rfl, rfl, rfl, by decide +kernel, rfl, by decide +kernel, by decide +kernel⟩
theorem ok_isSize {fW : Addr} {fdW : FuncData} {tH : Tok} (F : FnP K "is_size" sIsSize f fd) (GW : FnOk P w K mg base CX0 1 fW fdW ["thing"] spWhole) (bW : L2.Binds K fdW ["thing"] []) (kW : PySem.W.keepIn K (.ref fW) = true) (gW : mg "is_whole" = some (.ref fW)) (gH : mg "HIGHEST_SIZE" = some (.int 40 tH)) :
    FnOk P w K mg base CX0 2 f fd ["thing"] spIsSize := by
  refine F.ok scIsSize (fun vs H Q E h => ?_) (fun cdv A outer s H vs Q E hr h => ?_)
  · obtain ⟨_, rfl, _⟩ := h
    rfl
  obtain ⟨n, rfl, n0, n1, q⟩ := h
  have hr1 := hr.mono (j := 1) (by decide)
  refine ⟨_, PSs.nox (pss_one (ps_ret (pe_and (pe_call GW hr1 (by rfl) gW kW bW .nil pass0 (pa_cons (pv 0) pa_nil)) (pe_one (pe_chain op_le op_le pe_int (pv 0) (pe_glob (v := .int 40) (by rfl) gH ⟨_, rfl⟩)))))), ?_⟩
  refine ⟨_, rfl, n, rfl, true, rfl, iteT ?_⟩
  refine ⟨_, rfl, 0, n, rfl, rfl, true, congrArg V.bl (decide_eq_true n0), iteT ?_⟩
  refine ⟨n, 40, rfl, rfl, ?_⟩
  show Q (.bl (decide (n ≤ 40))) _
  rw [decide_eq_true n1]
  exact q
def spIsOffset : Sp := fun vs H Q _ => ∃ t o : Int, vs = [.int o, .int t] ∧ PairP t o ∧ Q (.bl true) H
abbrev nIsOffset : List Str := ["thing", "size"]
theorem scIsOffset : FnScope nIsOffset ["thing", "size"] (defScope sIsOffset) := ⟨rfl, rfl, rfl, by decide +kernel, rfl, by decide +kernel, by decide +kernel⟩
theorem ok_isOffset {fW fO : Addr} {fdW fdO : FuncData} (F : FnP K "is_offset" sIsOffset f fd) (GW : FnOk P w K mg base CX0 1 fW fdW ["thing"] spWhole) (bW : L2.Binds K fdW ["thing"] []) (kW : PySem.W.keepIn K (.ref fW) = true) (gW : mg "is_whole" = some (.ref fW))
    (GO : FnOk P w K mg base CX0 1 fO fdO ["number"] spOdd) (bO : L2.Binds K fdO ["number"] []) (kO : PySem.W.keepIn K (.ref fO) = true) (gO : mg "is_odd" = some (.ref fO)) :
    FnOk P w K mg base CX0 2 f fd ["thing", "size"] spIsOffset := by
  refine F.ok scIsOffset (fun vs H Q E h => ?_) (fun cdv A outer s H vs Q E hr h => ?_)
  · obtain ⟨_, _, rfl, _⟩ := h
    rfl
  obtain ⟨t, o, rfl, ⟨t0, t1, h1, h2, h3⟩, q⟩ := h
  have hr1 := hr.mono (j := 1) (by decide)
  refine ⟨_, PSs.nox (pss_one (ps_ret (pe_and (pe_call GW hr1 (by rfl) gW kW bW .nil pass0 (pa_cons (pv 0) pa_nil)) (pe_and (pe_chain op_le op_le (pe_un un_neg (pv 1)) (pv 0) (pv 1)) (pe_one (pe_not (pe_call GO hr1 (by rfl) gO kO bO .nil pass0 (pa_cons (pe_op op_sub (pv 1) (pv 0)) pa_nil)))))))), ?_⟩
  refine ⟨_, rfl, o, rfl, true, rfl, iteT ?_⟩
  refine ⟨_, rfl, t, rfl, _, rfl, -t, o, rfl, rfl, true, congrArg V.bl (decide_eq_true h1), iteT ?_⟩
  refine ⟨_, rfl, o, t, rfl, rfl, true, congrArg V.bl (decide_eq_true h2), iteT ?_⟩
  refine ⟨_, rfl, _, rfl, t, o, rfl, rfl, t - o, rfl, false, congrArg V.bl (decide_eq_false (by omega)), q⟩
def spNeedSizes : Sp := fun vs H Q _ => ∃ (l : Addr) (ns : List Int), vs = [.ref l] ∧ H l = some (.lst (ns.map V.int)) ∧ (∀ n ∈ ns, 0 ≤ n ∧ n ≤ 40) ∧ Q .non H
abbrev nNeedSizes : List Str := ["things", "thing"]
theorem scNeedSizes : FnScope nNeedSizes ["things"] (defScope sNeedSizes) := ⟨rfl, rfl, rfl, by decide +kernel, rfl, by decide +kernel, by decide +kernel⟩
theorem ok_needSizes {fS : Addr} {fdS : FuncData} (F : FnP K "need_sizes" sNeedSizes f fd) (GS : FnOk P w K mg base CX0 2 fS fdS ["thing"] spIsSize) (bS : L2.Binds K fdS ["thing"] []) (kS : PySem.W.keepIn K (.ref fS) = true) (gS : mg "is_size" = some (.ref fS)) :
    FnOk P w K mg base CX0 3 f fd ["things"] spNeedSizes := by
  refine F.ok scNeedSizes (fun vs H Q E h => ?_) (fun cdv A outer s H vs Q E hr h => ?_)
  · obtain ⟨_, _, rfl, _⟩ := h
    rfl
  obtain ⟨l, ns, rfl, hl, hn, q⟩ := h
  have hr2 := hr.mono (j := 2) (by decide)
  refine ⟨_, PSs.nox (pss_one (ps_for PassesOwn.never rfl (pi_list (pv 0)) (pg_name (i := 1) scNeedSizes.nd rfl (.inl rfl))
        (pss_one (ps_if (pt_not (pt_val (pe_call GS hr2 (by rfl) gS kS bS .nil pass0 (pa_cons (pv 1) pa_nil)))) pss_never pss_nil)))), ?_⟩
  refine ⟨_, rfl, l, rfl, ⟨_, SqL.of hl⟩, for_list (xs := ns.map V.int) (fun i σ H' => (∃ v, σ = [some (.ref l), v]) ∧ H' = H) ⟨⟨none, rfl⟩, rfl⟩ (fun i σ H' _ hP => by rw [hP.2]; exact SqL.of hl) (fun i x σ H' hx hP => ?_) (fun σ H' hP => by rw [hP.2]; exact q)⟩
  obtain ⟨⟨v, rfl⟩, rfl⟩ := hP
  rw [List.getElem?_map] at hx
  cases e : ns[i]? with
  | none =>
    rw [e] at hx
    cases hx
  | some n =>
    rw [e] at hx
    obtain rfl := Option.some.inj hx
    obtain ⟨n0, n1⟩ := hn n (List.mem_of_getElem? e)
    exact ⟨_, rfl, n, rfl, n0, n1, true, rfl, iteF ⟨⟨_, rfl⟩, rfl⟩⟩
/-- pairs on the heap -/
def pairO (x : Int × Int) : HO := .tup [.int x.1, .int x.2]
def PrsAt (H : Hp) : List Addr → List (Int × Int) → Prop
  | [], [] => True
  | u :: us, x :: L => H u = some (pairO x) ∧ PrsAt H us L
  | _, _ => False
theorem PrsAt.get {H : Hp} : ∀ {us : List Addr} {L : List (Int × Int)} {i : Nat} {v : V}, PrsAt H us L → (us.map V.ref)[i]? = some v → ∃ u x, v = .ref u ∧ L[i]? = some x ∧ H u = some (pairO x)
  | [], [], i, v, _, z => by simp at z
  | u :: us, p :: ps, 0, v, h, z => ⟨u, p, (Option.some.inj z).symm, rfl, h.1⟩
  | u :: us, p :: ps, i + 1, v, h, z => by
    have z' : (us.map V.ref)[i]? = some v := z
    obtain ⟨u', p', a, b, c⟩ := PrsAt.get h.2 z'
    exact ⟨u', p', a, b, c⟩
  | [], _ :: _, _, _, h, _ => h.elim
  | _ :: _, [], _, _, h, _ => h.elim
theorem PrsAt.same {H H' : Hp} (s : Same H H') : ∀ {us : List Addr} {L : List (Int × Int)}, PrsAt H us L → PrsAt H' us L
  | [], [], _ => trivial
  | _ :: _, _ :: _, h => ⟨s _ _ h.1, PrsAt.same s h.2⟩
  | [], _ :: _, h => h.elim
  | _ :: _, [], h => h.elim
def spNeedPairs : Sp := fun vs H Q _ => ∃ (l : Addr) (us : List Addr) (L : List (Int × Int)), vs = [.ref l] ∧ H l = some (.lst (us.map V.ref)) ∧ PrsAt H us L ∧ (∀ x ∈ L, PairP x.1 x.2) ∧ ∀ H', Same H H' → Q .non H'
abbrev nNeedPairs : List Str := ["things", "thing", "size", "offset"]
theorem scNeedPairs : FnScope nNeedPairs ["things"] (defScope sNeedPairs) := ⟨rfl, rfl, rfl, by decide +kernel, rfl, by decide +kernel, by decide +kernel⟩
theorem ok_needPairs {fN fF : Addr} {fdN fdF : FuncData} (F : FnP K "need_pairs" sNeedPairs f fd) (GN : FnOk P w K mg base CX0 3 fN fdN ["things"] spNeedSizes) (bN : L2.Binds K fdN ["things"] []) (kN : PySem.W.keepIn K (.ref fN) = true) (gN : mg "need_sizes" = some (.ref fN))
    (GF : FnOk P w K mg base CX0 2 fF fdF ["thing", "size"] spIsOffset) (bF : L2.Binds K fdF ["thing", "size"] []) (kF : PySem.W.keepIn K (.ref fF) = true) (gF : mg "is_offset" = some (.ref fF)) (gisinstance : mg "isinstance" = none) (gtuple : mg "tuple" = none) (glen : mg "len" = none) :
    FnOk P w K mg base CX0 4 f fd ["things"] spNeedPairs := by
  refine F.ok scNeedPairs (fun vs H Q E h => ?_) (fun cdv A outer s H vs Q E hr h => ?_)
  · obtain ⟨_, _, _, rfl, _⟩ := h
    rfl
  obtain ⟨l, us, L, rfl, hl, hp, hL, q⟩ := h
  have hr2 := hr.mono (j := 2) (by decide)
  have hr3 := hr.mono (j := 3) (by decide)
  refine ⟨_, PSs.nox (pss_cons (ps_for PassesOwn.never rfl (pi_list (pv 0)) (pg_name (i := 1) scNeedPairs.nd rfl (.inl rfl))
        (pss_cons (ps_if (PW.pt (pw_or (pt_not (pt_val (pe_callB call_isi (by rfl) gisinstance (by decide +kernel) (pa_cons (pv 1) (pa_cons (pe_bltn (v := .ty "tuple") (by rfl) gtuple (by decide +kernel) rfl) pa_nil))))) (pw_or1 (pt_cmpR op_ne (pe_callB call_len_seq (by rfl) glen PySem.boot_len (pa_cons (pv 1) pa_nil)) pe_int (nomark _))))) pss_never pss_nil)
      (pss_one (ps_expr (pe_call GN hr3 (by rfl) gN kN bN .nil pass0 (pa_cons (pe_lst (pa_cons (pe_ix ix_tup (pv 1) pe_int (fun _ _ => rfl)) pa_nil)) pa_nil))))))
      (pss_one (ps_for PassesOwn.never rfl (pi_list (pv 0)) (pg_tup rfl (pgs_cons (pg_name (i := 2) scNeedPairs.nd rfl (.inl rfl)) (pgs_cons (pg_name (i := 3) scNeedPairs.nd rfl (.inl rfl)) pgs_nil)))
        (pss_one (ps_if (pt_not (pt_val (pe_call GF hr2 (by rfl) gF kF bF .nil pass0 (pa_cons (pv 3) (pa_cons (pv 2) pa_nil))))) pss_never pss_nil))))), ?_⟩
  refine ⟨_, rfl, l, rfl, ⟨_, SqL.of hl⟩, for_list (xs := us.map V.ref) (fun i σ H' => (∃ v, σ = [some (.ref l), v, none, none]) ∧ Same H H') ⟨⟨none, rfl⟩, fun _ _ e => e⟩ (fun i σ H' _ hP => SqL.of (hP.2 _ _ hl)) (fun i x σ H' hx hP => ?_) (fun σ H' hP => ?_)⟩
  · obtain ⟨⟨v, rfl⟩, sm⟩ := hP
    obtain ⟨u, y, rfl, hy, hu⟩ := (hp.same sm).get hx
    have hpair := hL y (List.mem_of_getElem? hy)
    refine ⟨_, rfl, _, _, _, _, true, rfl, .ty "tuple", .base (.tup hu), kit_ty (by decide +kernel), true, rfl, iteF ?_⟩
    refine ⟨_, rfl, u, _, rfl, .inr (SqT.of hu), rfl, _, rfl, iteF ?_⟩
    refine ⟨_, rfl, u, _, 0, _, rfl, rfl, SqT.of hu, atI_nat (j := 0) rfl, by show 1 ≤ sizeLine; decide, fun l2 hl2 => ?_⟩
    exact ⟨l2, [y.1], rfl, upd_same, (fun n hn => by rw [List.mem_singleton.mp hn]; exact ⟨hpair.t0, hpair.t1⟩), ⟨_, rfl⟩, sm.trans (same_upd hl2)⟩
  · obtain ⟨⟨v, rfl⟩, sm⟩ := hP
    refine ⟨_, rfl, l, rfl, ⟨_, SqL.of (sm _ _ hl)⟩, for_list (xs := us.map V.ref) (fun i σ G => (∃ v2 v3, σ = [some (.ref l), v, v2, v3]) ∧ G = H') ⟨⟨none, none, rfl⟩, rfl⟩ (fun i σ G _ hP => by rw [hP.2]; exact SqL.of (sm _ _ hl)) (fun i x σ G hx hP => ?_) (fun σ G hP => by rw [hP.2]; exact q H' sm)⟩
    obtain ⟨⟨v2, v3, rfl⟩, rfl⟩ := hP
    obtain ⟨u, y, rfl, hy, hu⟩ := (hp.same sm).get hx
    have hpair := hL y (List.mem_of_getElem? hy)
    exact ⟨u, _, rfl, SqT.of hu, rfl, _, _, rfl, _, _, rfl, rfl, _, rfl, _, rfl, y.1, y.2, rfl, hpair, true, rfl, iteF ⟨⟨_, _, rfl⟩, rfl⟩⟩
end
end TC
namespace TCX
set_option exponentiation.threshold 20000
theorem fact_lt : ∀ n, n < 62 → factN n < 2 ^ 280 := by decide +kernel
def foldF (g : Int → Nat) (m : Nat) (l : List Int) : Nat := l.foldl (fun m x => m * factN (g x)) m
theorem foldF_snoc (g : Int → Nat) (m : Nat) (l : List Int) (x : Int) : foldF g m (l ++ [x]) = foldF g m l * factN (g x) := by
  unfold foldF
  rw [List.foldl_append]
  rfl
theorem foldF_lt {g : Int → Nat} : ∀ {l : List Int} {m B : Nat}, (∀ x ∈ l, g x < 62) → m < 2 ^ B → foldF g m l < 2 ^ (B + 280 * l.length)
  | [], m, B, _, hm => hm
  | x :: l, m, B, h, hm => by
    have h1 : m * factN (g x) < 2 ^ (B + 280) := by
      rw [Nat.pow_add]
      exact Nat.mul_lt_mul'' hm (fact_lt _ (h x (by simp)))
    have h2 := foldF_lt (l := l) (fun y hy => h y (List.mem_cons_of_mem _ hy)) h1
    show foldF g (m * factN (g x)) l < 2 ^ (B + 280 * (l.length + 1))
    rw [show B + 280 * (l.length + 1) = B + 280 + 280 * l.length by omega]
    exact h2
end TCX
namespace TC
set_option exponentiation.threshold 20000
open PySem PySem.Spec PyProof.Rows L2 TCX
theorem PrsAt.snoc {H : Hp} {u : Addr} {x : Int × Int} (hu : H u = some (pairO x)) : ∀ {us : List Addr} {L : List (Int × Int)}, PrsAt H us L → PrsAt H (us ++ [u]) (L ++ [x])
  | [], [], _ => ⟨hu, trivial⟩
  | _ :: _, _ :: _, h => ⟨h.1, PrsAt.snoc hu h.2⟩
  | [], _ :: _, h => h.elim
  | _ :: _, [], h => h.elim
theorem PrsAt.upd {H : Hp} {l : Addr} {o : HO} (hl : ∀ x, H l ≠ some (.tup x)) : ∀ {us : List Addr} {L : List (Int × Int)}, PrsAt H us L → PrsAt (L2.upd H l o) us L
  | [], [], _ => trivial
  | u :: us, p :: ps, h => ⟨by
    rw [upd_ne fun z => hl _ (by rw [← z]; exact h.1)]
    exact h.1, PrsAt.upd hl h.2⟩
  | [], _ :: _, h => h.elim
  | _ :: _, [], h => h.elim
theorem PrsAt.len {H : Hp} : ∀ {us : List Addr} {L : List (Int × Int)}, PrsAt H us L → us.length = L.length
  | [], [], _ => rfl
  | _ :: _, _ :: _, h => congrArg Nat.succ (PrsAt.len h.2)
  | [], _ :: _, h => h.elim
  | _ :: _, [], h => h.elim
theorem ints_at {l : List Int} {i : Nat} {x : V} (h : (l.map V.int)[i]? = some x) : ∃ n : Int, l[i]? = some n ∧ x = .int n := by
  rw [List.getElem?_map] at h
  cases e : l[i]? with
  | none =>
    rw [e] at h
    cases h
  | some n =>
    rw [e] at h
    exact ⟨n, rfl, (Option.some.inj h).symm⟩
theorem take_atI {l : List Int} {i : Nat} {n : Int} (h : l[i]? = some n) : l.take (i + 1) = l.take i ++ [n] := by
  rw [List.take_add_one, h]
  rfl
def factsL (n : Nat) : List V := (List.range (n + 1)).map fun m => V.int (factN m : Nat)
theorem facts_at {n : Nat} {i : Int} (h0 : 0 ≤ i) (h1 : i ≤ n) : atI (factsL n) i = some (.int (factN i.toNat : Nat)) := by
  refine at_of (j := i.toNat) (by omega) ?_
  unfold factsL
  rw [List.getElem?_map, List.getElem?_range (by omega)]
  rfl
/-- signs and bottoms -/
def tmL (A B C : Nat) (D E : Int) (lo n : Nat) : List (Int × Int) := (List.range n).map fun i => (sgK (lo + i), ((botK A B C D E (lo + i) : Nat) : Int))
theorem tmL_succ (A B C : Nat) (D E : Int) (lo n : Nat) : tmL A B C D E lo (n + 1) = tmL A B C D E lo n ++ [(sgK (lo + n), ((botK A B C D E (lo + n) : Nat) : Int))] := by
  unfold tmL
  rw [List.range_succ, List.map_append]
  rfl
section
variable {P : Program} {w : World} {K : PySem.W.Frag} {mg : Str → Option Value} {base : Heap} {f : Addr} {fd : FuncData} {C fI fQ : Addr}
/-! ### terms_of_joined -/
structure TmP (a u b v c : Int) (A B C : Nat) (D E : Int) (s : Nat) : Prop where
  eA : (a + b - c) / 2 = A
  eB : (a - u) / 2 = B
  eC : (b + v) / 2 = C
  eD : (c - b + u) / 2 = D
  eE : (c - a - v) / 2 = E
  eS : (a + b + c) / 2 = s
  lA : A ≤ s
  lB : B ≤ s
  lC : C ≤ s
  lD : B + D ≤ s
  lE : C + E ≤ s
  s1 : s < 62
def spTerms : Sp := fun vs H Q _ => ∃ (p1 p2 : Addr) (a u b v c : Int) (A B C : Nat) (D E : Int) (s : Nat), vs = [.ref p1, .ref p2, .int c] ∧ H p1 = some (pairO (a, u)) ∧ H p2 = some (pairO (b, v)) ∧ TmP a u b v c A B C D E s ∧
  ∀ (l : Addr) (us : List Addr) (lo hi : Int) H', Same H H' → H' l = some (.lst (us.map V.ref)) → 0 ≤ lo → (∀ k : Nat, okK A B C D E k = true ↔ lo ≤ k ∧ (k : Int) ≤ hi) → hi ≤ A → PrsAt H' us (tmL A B C D E lo.toNat (hi + 1 - lo).toNat) → Q (.ref l) H'
abbrev nTerms : List Str := ["one", "other", "c", "a", "u", "b", "v", "falling", "rising", "known", "terms", "k", "bottom", "number"]
end
end TC
namespace TC
open PySem PySem.Spec PyProof.Rows L2 TCA
section
variable {K : PySem.W.Frag} {x qual : Str} {params : Arguments} {body : List Stmt} {scope : Scope} {kws : List (Str × V)} {f : Addr} {fd : FuncData} {ps : List Str}
/-- a call with keywords of a def without other defaults -/
theorem kbinds0 (F : FunD K x qual params body scope [] kws f fd) (n : Nat) (ks : List Str) (ms : List (Str × V)) (g : {α : Type} → List α → List α → List α → List α) (hk : kws ≠ []) (hms : ∀ q ∈ ms, q ∈ kws)
    (hrel : ∀ {vs mz zs : List V} {us mv ws : List Value}, Vals vs us → Vals mz mv → Vals zs ws → Vals (g vs mz zs) (g us mv ws))
    (h : ∀ (D : Addr) (doc pm : Value) (an : Option Addr) (cdv ct : Value) (us mv ws : List Value), us.length = n → mv.length = ms.length → ws.length = ks.length →
      KwChain D ((ms.map (·.1)).zip mv) (bindArgs (PySem.W.fnOf x qual params body scope .none (.ref D) doc pm an cdv ct) ⟨us, ks.zip ws⟩) (ps.zip (g us mv ws))) :
    ∃ mv : List Value, KBn K fd ps n ks (fun us ws => g us mv ws) (fun vs zs => g vs (ms.map (·.2)) zs) := by
  obtain ⟨oc, od, dV, kV, doc, pm, an, cdv, ct, osl, rfl, lk, hcd, hD, hK⟩ := F.ex
  rcases hD with ⟨_, rfl⟩ | ⟨e, _⟩
  · rcases hK with e | ⟨D, rfl, hq⟩
    · exact absurd e hk
    · obtain ⟨mv, hl, rk, hks⟩ := kwd_vals (ms := ms) fun q hm => hq q (hms q hm)
      refine ⟨mv, ⟨fun s us ws X l1 l2 => ?_, fun r1 r2 => hrel r1 rk r2⟩⟩
      exact BindsTo.of_looks fun M => KwChain.looks X hks (h D doc pm an cdv ct us mv ws l1 hl l2)
  · exact absurd rfl e
end
theorem Vals.rev : ∀ {xs : List V} {us : List Value}, Vals xs us → Vals xs.reverse us.reverse
  | _, _, .nil => .nil
  | _, _, .cons r t => by
    rw [List.reverse_cons, List.reverse_cons]
    exact (Vals.rev t).append (.cons r .nil)
section
variable {K : PySem.W.Frag} {f : Addr} {fd : FuncData}
theorem bE0 (F : FnE K f fd) : ∃ ds, Vals [.int 1, .int 1] ds ∧ L2.Binds K fd psE ds :=
  F.binds0 1 (by intro z; cases z) rfl fun D doc pm an cdv ct us ks h1 h2 => match us, ks, h1, h2 with
    | [_], [_, _], _, _ => ⟨_, _, _, _, _, _, rfl, rfl, ⟨_, _, _, _, _, _, rfl, rfl, rfl⟩⟩
theorem bEbr (F : FnE K f fd) : ∃ mv : List Value, KBn K fd psE 1 ["bottom", "root"] (fun us ws => us ++ ws) (fun vs zs => vs ++ zs) := by
  obtain ⟨mv, h⟩ := kbinds0 F (ps := psE) 1 ["bottom", "root"] [] (fun us _ ws => us ++ ws) (by intro z; cases z) (fun q hq => by cases hq) (fun a _ c => a.append c) fun D doc pm an cdv ct us mv ws h1 h2 h3 => match us, mv, ws, h1, h2, h3 with
    | [_], [], [_, _], _, _, _ => rfl
  exact ⟨mv, h⟩
theorem bErb (F : FnE K f fd) : ∃ mv : List Value, KBn K fd psE 1 ["root", "bottom"] (fun us ws => us ++ ws.reverse) (fun vs zs => vs ++ zs.reverse) := by
  obtain ⟨mv, h⟩ := kbinds0 F (ps := psE) 1 ["root", "bottom"] [] (fun us _ ws => us ++ ws.reverse) (by intro z; cases z) (fun q hq => by cases hq) (fun a _ c => a.append (Vals.rev c)) fun D doc pm an cdv ct us mv ws h1 h2 h3 => match us, mv, ws, h1, h2, h3 with
    | [_], [], [_, _], _, _, _ => rfl
  exact ⟨mv, h⟩
end
theorem val_one (r s : Int) (q : Rat) : TCR.val [(r, q)] s = if s = r then q else 0 := by
  show (if r = s then q else 0) = _
  by_cases h : s = r
  · rw [if_pos h, if_pos h.symm]
  · rw [if_neg h, if_neg fun z => h z.symm]
theorem val_oneL (r t b s : Int) : TCR.val (oneL r t b) s = if s = r then Rat.divInt t b else 0 := by
  unfold oneL
  by_cases h : t = 0
  · rw [if_pos h, h, divInt_zero]
    split <;> rfl
  · rw [if_neg h, val_one]
theorem good_oneL {A : Nat} {r t b : Int} (hb : b ≠ 0) (h1 : t.natAbs < 2 ^ A) (h2 : b.natAbs < 2 ^ A) : Good A (oneL r t b) := by
  unfold oneL
  by_cases h : t = 0
  · rw [if_pos h]
    exact Good.nil
  · rw [if_neg h]
    exact ⟨TCR.canon_one (divInt_ne hb h), fun x hx => by
      rw [List.mem_singleton.mp hx]
      exact TCR.Sz.divInt hb h1 h2⟩
theorem len_oneL (r t b : Int) : (oneL r t b).length ≤ 1 := by
  unfold oneL
  split
  · exact Nat.zero_le _
  · exact Nat.le_refl _
theorem len_ex (t b r : Int) : (exL t b r).length ≤ 1 := len_oneL ..
theorem canon_oneL {r t b : Int} (hb : b ≠ 0) : TCR.Canon (oneL r t b) := by
  unfold oneL
  by_cases h : t = 0
  · rw [if_pos h]
    exact TCR.canon_nil
  · rw [if_neg h]
    exact TCR.canon_one (divInt_ne hb h)
section
variable {P : Program} {w : World} {K : PySem.W.Frag} {mg : Str → Option Value} {base : Heap} {f : Addr} {fd : FuncData} {C fI fQ : Addr}
/-! ### exact -/
def spExact (C : Addr) : Sp := fun vs H Q _ => ∃ (t b r : Int) (A : Nat), vs = [.int t, .int b, .int r] ∧ b ≠ 0 ∧ b.natAbs < 2 ^ A ∧ 0 < A ∧ A ≤ 8000 ∧ RootOk r ∧ ∀ x H', Same H H' → H x = none → NumAt C H' x (exL t b r) → Q (.ref x) H'
theorem scExact : FnScope ["top", "bottom", "root", "outside", "inside", "rest"] ["top", "bottom", "root"] (defScope sExact) := ⟨rfl, rfl, rfl, by decide +kernel, rfl, by decide +kernel, by decide +kernel⟩
theorem ok_exact {fW fSq fLw : Addr} {fdW fdSq fdLw : FuncData} {tH : Tok} (F : FnE K f fd) (GW : FnOk P w K mg base CX0 1 fW fdW ["thing"] spWhole) (bW : L2.Binds K fdW ["thing"] []) (kW : PySem.W.keepIn K (.ref fW) = true) (gW : mg "is_whole" = some (.ref fW))
    (GSq : FnOk P w K mg base CX0 1 fSq fdSq ["number"] spSquares) (bSq : L2.Binds K fdSq ["number"] []) (kSq : PySem.W.keepIn K (.ref fSq) = true) (gSq : mg "squares_out" = some (.ref fSq))
    (GLw : FnOk P w K mg base CX0 3 fLw fdLw ["tops", "bottom"] (spLowered C)) (bLw : L2.Binds K fdLw ["tops", "bottom"] []) (kLw : PySem.W.keepIn K (.ref fLw) = true) (gLw : mg "lowered" = some (.ref fLw))
    (gH : mg "HIGHEST_ROOT" = some (.int 1000000 tH)) : FnOk P w K mg base CX0 4 f fd psE (spExact C) := by
  refine F.ok scExact (fun vs H Q E h => ?_) (fun cdv A outer s H vs Q E hr h => ?_)
  · obtain ⟨t, b, r, _, rfl, _⟩ := h
    rfl
  · obtain ⟨t, b, r, A8, rfl, hb, hz, A0, A88, ⟨R0, R1, a1, a2, a3⟩, q⟩ := h
    have hr1 := hr.mono (j := 1) (by decide)
    refine ⟨_, PSs.nox (pss_cons (ps_if (pt_not (PW.pt (pw_and (pt_val (pe_call GW hr1 (by rfl) gW kW bW .nil pass0 (pa_cons (pv 0) pa_nil))) (pw_and (pt_val (pe_call GW hr1 (by rfl) gW kW bW .nil pass0 (pa_cons (pv 1) pa_nil))) (pw_and (pt_val (pe_call GW hr1 (by rfl) gW kW bW .nil pass0 (pa_cons (pv 2) pa_nil)))
        (pw_and1 (pt_chain op_le op_le pe_int (pv 2) (pe_glob (v := .int 1000000) (by rfl) gH ⟨_, rfl⟩)))))))) pss_never pss_nil)
      (pss_cons (ps_asg (pe_call GSq hr1 (by rfl) gSq kSq bSq .nil pass0 (pa_cons (pv 2) pa_nil)) (pg_tup rfl (pgs_cons (pg_name (i := 3) scExact.nd rfl (.inl rfl)) (pgs_cons (pg_name (i := 4) scExact.nd rfl (.inl rfl)) (pgs_cons (pg_name (i := 5) scExact.nd rfl (.inl rfl)) pgs_nil)))))
      (pss_cons (ps_if (pt_cmpR op_ne (pv 5) pe_int (nomark _)) pss_never pss_nil)
      (pss_cons (ps_if (pt_cmpR op_eq (pv 1) pe_int (nomark _)) pss_never pss_nil)
      (pss_one (ps_ret (pe_call GLw hr (by rfl) gLw kLw bLw .nil pass0 (pa_cons (pe_disp (pps_cons (pv 4) (pe_op op_mul (pv 0) (pv 3)) pps_nil) rfl rfl (by intro z; cases z) (by decide)) (pa_cons (pv 1) pa_nil))))))))), ?_⟩
    refine ⟨_, rfl, t, rfl, true, rfl, iteT ?_⟩
    refine ⟨_, rfl, b, rfl, true, rfl, iteT ?_⟩
    refine ⟨_, rfl, r, rfl, true, rfl, iteT ?_⟩
    refine ⟨_, rfl, 0, r, rfl, rfl, _, rfl, iteD1 R0 ?_⟩
    refine ⟨r, 1000000, rfl, rfl, _, rfl, iteNS R1 ?_⟩
    refine ⟨_, rfl, r, rfl, R0, R1, fun p H1 sm1 hp e1 => ?_⟩
    refine ⟨p, _, rfl, SqT.of e1, rfl, _, _, rfl, _, _, rfl, _, _, rfl, rfl, ?_⟩
    refine ⟨_, rfl, rfl, _, rfl, iteNS (congrArg V.int a1) ?_⟩
    refine ⟨_, rfl, rfl, _, rfl, iteD0 (ine hb) ?_⟩
    intro d hd
    refine ⟨_, rfl, _, rfl, _, rfl, t, _, rfl, rfl, .inr ⟨by omega, by omega⟩, upd_same, [(Sum.inl _, _)], rfl, by show 1 ≤ 15; decide, ?_⟩
    rw [upd_upd]
    have sm2 := same_upd (o := .dK (mergeK [] [((Sum.inl (TCM.sqOut r).2.1 : Key), V.int (t * (TCM.sqOut r).1))])) hd
    have hI : IntD (upd H1 d (.dK (mergeK [] [((Sum.inl (TCM.sqOut r).2.1 : Key), V.int (t * (TCM.sqOut r).1))]))) d [(TCM.sqOut r).2.1] (fun s => if s = (TCM.sqOut r).2.1 then t * (TCM.sqOut r).1 else 0) := by
      refine ⟨_, upd_same, rfl, fun s hs => ?_, by simp, fun s hs => if_neg fun z => hs (List.mem_singleton.mpr z)⟩
      rw [List.mem_singleton.mp hs]
      show valV [((Sum.inl (TCM.sqOut r).2.1 : Key), V.int (t * (TCM.sqOut r).1))] (Sum.inl (TCM.sqOut r).2.1) = some (V.int (if (TCM.sqOut r).2.1 = (TCM.sqOut r).2.1 then t * (TCM.sqOut r).1 else 0))
      rw [if_pos rfl]
      exact valV_pos rfl
    refine ⟨_, rfl, d, _, _, b, A8, rfl, hI, hb, hz, A0, A88, by show 1 ≤ 900; decide, fun x N H' sm3 hx hN cN vN lN => ?_⟩
    have eN : N = exL t b r := TCR.canon_eq cN (canon_oneL hb) fun s => by
      rw [vN]
      unfold exL
      rw [val_oneL]
      split
      · rfl
      · exact divInt_zero b
    rw [eN] at hN
    exact q x H' ((sm1.trans sm2).trans sm3) ((sm1.trans sm2).free hx) hN
end
end TC
namespace TCX
set_option exponentiation.threshold 20000
theorem powP_le {e g : Nat → Nat} : ∀ {l : List Nat}, (∀ p ∈ l, IsP p) → (∀ p ∈ l, e p ≤ g p) → powP e l ≤ powP g l
  | [], _, _ => Nat.le_refl _
  | p :: l, hp, h => by
    have p1 := (hp p (by simp)).1
    exact Nat.mul_le_mul (Nat.pow_le_pow_right (by omega) (h p (by simp))) (powP_le (fun r hr => hp r (List.mem_cons_of_mem _ hr)) fun r hr => h r (List.mem_cons_of_mem _ hr))
theorem topE_le {above below : List Nat} (ha : ∀ n ∈ above, n < 123) : topE above below ≤ prodF above := by
  rw [prodF_leg ha]
  refine powP_le pr30_p fun p _ => ?_
  have e : expE above below p = (sumL above p : Int) - (sumL below p : Int) := rfl
  omega
theorem botE_le {above below : List Nat} (hb : ∀ n ∈ below, n < 123) : botE above below ≤ prodF below := by
  rw [prodF_leg hb]
  refine powP_le pr30_p fun p _ => ?_
  have e : expE above below p = (sumL above p : Int) - (sumL below p : Int) := rfl
  omega
theorem prodF_lt : ∀ {l : List Nat}, (∀ n ∈ l, n < 62) → prodF l < 2 ^ (280 * l.length + 1)
  | [], _ => by decide
  | n :: l, h => by
    have h1 := prodF_lt (l := l) fun m hm => h m (List.mem_cons_of_mem _ hm)
    show factN n * prodF l < 2 ^ (280 * (l.length + 1) + 1)
    rw [show 280 * (l.length + 1) + 1 = 280 + (280 * l.length + 1) by omega, Nat.pow_add]
    exact Nat.mul_lt_mul'' (fact_lt n (h n (by simp))) h1
theorem rootE_lt (above below : List Nat) : rootE above below < 2 ^ 200 := by
  have h1 : rootE above below ≤ powP (fun _ => 1) pr30 := by
    unfold rootE
    rw [pick_pow]
    exact powP_le pr30_p fun p _ => by split <;> omega
  exact Nat.lt_of_le_of_lt h1 (by decide +kernel)
theorem tmK_le (A B C : Nat) (D E : Int) (k : Nat) : (tmK A B C D E k).natAbs ≤ comK A B C D E := by
  unfold tmK
  split
  · rw [Int.natAbs_mul, Int.natAbs_natCast]
    have : (sgK k).natAbs = 1 := by
      unfold sgK
      split <;> rfl
    rw [this, Nat.one_mul]
    exact Nat.div_le_self _ _
  · exact Nat.zero_le _
theorem sumK_le {f : Nat → Int} {M : Nat} (h : ∀ i, (f i).natAbs ≤ M) : ∀ n, (sumK f n).natAbs ≤ n * M
  | 0 => Nat.zero_le _
  | n + 1 => by
    have h1 := sumK_le h n
    have h2 := h n
    rw [sumK_succ, Nat.add_mul, Nat.one_mul]
    omega
theorem comK_lt {A B C : Nat} {D E : Int} (h1 : A < 62) (h2 : B + D < 62) (h3 : C + E < 62) : comK A B C D E < 2 ^ 840 := by
  unfold comK
  have a1 := fact_lt A h1
  have a2 := fact_lt (B + D).toNat (by omega)
  have a3 := fact_lt (C + E).toNat (by omega)
  have z := Nat.mul_lt_mul'' (Nat.mul_lt_mul'' a1 a2) a3
  rw [← Nat.pow_add, ← Nat.pow_add] at z
  exact z
end TCX
namespace TC
set_option exponentiation.threshold 20000
open PySem PySem.Spec PyProof.Rows L2 TCX
def oneQ (r : Int) (q : Rat) : List Part := if q = 0 then [] else [(r, q)]
theorem val_oneQ (r : Int) (q : Rat) (s : Int) : TCR.val (oneQ r q) s = if s = r then q else 0 := by
  unfold oneQ
  by_cases h : q = 0
  · rw [if_pos h, h]
    split <;> rfl
  · rw [if_neg h, val_one]
theorem canon_oneQ (r : Int) (q : Rat) : TCR.Canon (oneQ r q) := by
  unfold oneQ
  split
  · exact TCR.canon_nil
  · exact TCR.canon_one (by assumption)
def jA (a b c : Int) : Nat := ((a + b - c) / 2).toNat
def jB (a u : Int) : Nat := ((a - u) / 2).toNat
def jC (b v : Int) : Nat := ((b + v) / 2).toNat
def jD (b u c : Int) : Int := (c - b + u) / 2
def jE (a v c : Int) : Int := (c - a - v) / 2
def jAb (a u b v c w : Int) : List Nat := [(c + 1).toNat, ((a + u) / 2).toNat, ((a - u) / 2).toNat, ((b + v) / 2).toNat, ((b - v) / 2).toNat, ((c + w) / 2).toNat, ((c - w) / 2).toNat]
def jBe (a b c : Int) : List Nat := [c.toNat, ((a + b + c) / 2 + 1).toNat, ((a + b - c) / 2).toNat, ((a - b + c) / 2).toNat, ((b - a + c) / 2).toNat]
def jT (a u b v c : Int) : Nat → Int := tmK (jA a b c) (jB a u) (jC b v) (jD b u c) (jE a v c)
def jCom (a u b v c : Int) : Nat := comK (jA a b c) (jB a u) (jC b v) (jD b u c) (jE a v c)
def jSum (a u b v c : Int) : Int := sumK (jT a u b v c) (jA a b c + 1)
def JoinP (a b c u v w : Int) : Prop := canB a b c = true ∧ u + v = w
instance (a b c u v w : Int) : Decidable (JoinP a b c u v w) := inferInstanceAs (Decidable (_ ∧ _))
def joinL (a u b v c w : Int) : List Part := if JoinP a b c u v w then oneQ ((rootE (jAb a u b v c w) (jBe a b c) : Nat) : Int) (Rat.divInt (jSum a u b v c) 1 * Rat.divInt ((topE (jAb a u b v c w) (jBe a b c) : Nat) : Int) ((botE (jAb a u b v c w) (jBe a b c) : Nat) : Int)) else []
theorem canon_joinL (a u b v c w : Int) : TCR.Canon (joinL a u b v c w) := by
  unfold joinL
  split
  · exact canon_oneQ _ _
  · exact TCR.canon_nil
section
variable {a u b v c w : Int}
theorem tmp_of (h1 : PairP a u) (h2 : PairP b v) (h3 : PairP c w) (j : JoinP a b c u v w) : TmP a u b v c (jA a b c) (jB a u) (jC b v) (jD b u c) (jE a v c) ((a + b + c) / 2).toNat := by
  obtain ⟨a0, a1, a2, a3, a4⟩ := h1
  obtain ⟨b0, b1, b2, b3, b4⟩ := h2
  obtain ⟨c0, c1, c2, c3, c4⟩ := h3
  obtain ⟨k1, k2, k3, k4⟩ := canB_iff.mp j.1
  have k5 := j.2
  unfold jA jB jC jD jE
  refine ⟨by omega, by omega, by omega, rfl, rfl, by omega, by omega, by omega, by omega, by omega, by omega, by omega⟩
theorem jAb_lt (h1 : PairP a u) (h2 : PairP b v) (h3 : PairP c w) : ∀ n ∈ jAb a u b v c w, n < 62 := by
  obtain ⟨a0, a1, a2, a3, a4⟩ := h1
  obtain ⟨b0, b1, b2, b3, b4⟩ := h2
  obtain ⟨c0, c1, c2, c3, c4⟩ := h3
  intro n hn
  unfold jAb at hn
  simp only [List.mem_cons, List.not_mem_nil, or_false] at hn
  omega
theorem jBe_lt (h1 : PairP a u) (h2 : PairP b v) (h3 : PairP c w) : ∀ n ∈ jBe a b c, n < 62 := by
  obtain ⟨a0, a1, a2, a3, a4⟩ := h1
  obtain ⟨b0, b1, b2, b3, b4⟩ := h2
  obtain ⟨c0, c1, c2, c3, c4⟩ := h3
  intro n hn
  unfold jBe at hn
  simp only [List.mem_cons, List.not_mem_nil, or_false] at hn
  omega
theorem jSum_lt (h1 : PairP a u) (h2 : PairP b v) (h3 : PairP c w) (j : JoinP a b c u v w) : (jSum a u b v c).natAbs < 2 ^ 900 := by
  have T := tmp_of h1 h2 h3 j
  have s1 := T.s1
  have cl := comK_lt (A := jA a b c) (B := jB a u) (C := jC b v) (D := jD b u c) (E := jE a v c) (by have := T.lA; omega) (by have := T.lD; omega) (by have := T.lE; omega)
  have z := sumK_le (f := jT a u b v c) (tmK_le _ _ _ _ _) (jA a b c + 1)
  refine Nat.lt_of_le_of_lt z ?_
  have y : jA a b c + 1 < 2 ^ 60 := Nat.lt_of_le_of_lt (show _ ≤ 62 by have := T.lA; omega) (by decide)
  have x := Nat.mul_lt_mul'' y cl
  rw [← Nat.pow_add] at x
  exact x
end
theorem root_ok1 : RootOk 1 := by
  unfold RootOk
  decide +kernel
theorem exL_one (t : Int) : exL t 1 1 = oneL 1 t 1 := by
  unfold exL
  rw [show TCM.sqOut 1 = (1, 1, 1) by decide +kernel, Int.mul_one]
theorem fit_abs {r t b : Nat} {A R : Nat} (r0 : 0 < r) (t0 : 0 < t) (b0 : 0 < b) (cp : Nat.Coprime t b) (tl : t < 2 ^ A) (rl : r < 2 ^ R) : Fit b A R [((r : Int), Rat.divInt (t : Int) (b : Int))] := by
  obtain ⟨c1, c2⟩ := rat_cop b0 cp
  refine ⟨TCR.canon_one (divInt_ne (by omega) (by omega)), fun x hx => ?_, fun x hx => ?_, fun x hx => ?_⟩
  · rw [List.mem_singleton.mp hx]
    show (Rat.divInt (t : Int) (b : Int)).den ∣ b
    rw [c2]
    exact Nat.dvd_refl _
  · rw [List.mem_singleton.mp hx]
    show (Rat.divInt (t : Int) (b : Int)).num.natAbs < 2 ^ A
    rw [c1, Int.natAbs_natCast]
    exact tl
  · rw [List.mem_singleton.mp hx]
    show 0 < (r : Int) ∧ (r : Int).natAbs < 2 ^ R
    exact ⟨by omega, by rw [Int.natAbs_natCast]; exact rl⟩
theorem fit_rootL {above below : List Nat} (la : ∀ n ∈ above, n < 62) (hl : above.length ≤ 7) : Fit (botE above below) 2000 200 (rootL above below) := by
  refine fit_abs (rootE_sqF above below).pos (topE_pos above below) (botE_pos above below) (topE_cop above below) ?_ (rootE_lt above below)
  exact Nat.lt_of_le_of_lt (topE_le fun n hn => by have := la n hn; omega) (Nat.lt_of_lt_of_le (prodF_lt la) (Nat.pow_le_pow_right (by decide) (by omega)))
theorem botE_lt {a u b v c w : Int} (h1 : PairP a u) (h2 : PairP b v) (h3 : PairP c w) : botE (jAb a u b v c w) (jBe a b c) < 2 ^ 1500 := by
  have lb := jBe_lt h1 h2 h3
  exact Nat.lt_of_le_of_lt (botE_le fun n hn => by have := lb n hn; omega) (Nat.lt_of_lt_of_le (prodF_lt lb) (Nat.pow_le_pow_right (by decide) (by rw [show (jBe a b c).length = 5 from rfl]; decide)))
theorem fit_one {t : Int} {A R : Nat} (ht : t.natAbs < 2 ^ A) (R0 : 1 < 2 ^ R) : Fit 1 A R (exL t 1 1) := by
  rw [exL_one]
  refine ⟨canon_oneL (by decide), ?_, ?_, ?_⟩ <;> unfold oneL <;> intro x hx <;> split at hx
  · cases hx
  · rw [List.mem_singleton.mp hx]
    exact den_divInt (c := 1) (by decide)
  · cases hx
  · rw [List.mem_singleton.mp hx]
    show (Rat.divInt t 1).num.natAbs < _
    have := (TCM.low_abs t 1 (by decide)).1
    rw [TCR.low_rat t 1 (by decide)] at this
    exact Nat.lt_of_le_of_lt this ht
  · cases hx
  · rw [List.mem_singleton.mp hx]
    exact ⟨by show (0 : Int) < 1; decide, R0⟩
/-- a root times a whole number -/
theorem times_one {r t : Int} {q : Rat} (hr : 0 < r) (hq : q ≠ 0) {N : List Part} (cN : TCR.Canon N) (hv : ∀ u, TCR.val N u = prodG ([((r, q) : Part)].map (·.1)) ((exL t 1 1).map (·.1)) (TCR.val [(r, q)]) (TCR.val (exL t 1 1)) u) : N = oneQ r (Rat.divInt t 1 * q) := by
  refine TCR.canon_eq cN (canon_oneQ _ _) fun u => ?_
  rw [hv u, val_oneQ, exL_one]
  unfold oneL
  by_cases ht : t = 0
  · rw [if_pos ht, ht, divInt_zero, prodG_zero _ _ _ (TCR.val []) u fun s => rfl]
    split <;> grind
  · rw [if_neg ht]
    have e : TCR.val [((1, Rat.divInt t 1) : Part)] = fun s => if s = 1 then Rat.divInt t 1 else 0 := funext fun s => val_one _ _ _
    rw [e]
    show prodG [r] [1] (TCR.val [(r, q)]) _ u = _
    rw [prodG_one (Rat.divInt t 1) ⟨by simp, fun s hs => ?_⟩ (fun s hs => by rw [List.mem_singleton.mp hs]; exact hr) u, val_one]
    · split <;> grind
    · rw [val_one] at hs
      exact List.mem_singleton.mpr (Classical.byContradiction fun z => hs (if_neg z))
end TC
namespace TC
set_option exponentiation.threshold 20000
open PySem PySem.Spec PyProof.Rows L2 TCX
theorem com_eq {a u b v c w : Int} (h1 : PairP a u) (h2 : PairP b v) (h3 : PairP c w) (j : JoinP a b c u v w) : jCom a u b v c = factN ((a + b - c) / 2).toNat * factN ((a - b + c) / 2).toNat * factN ((b - a + c) / 2).toNat := by
  obtain ⟨a0, a1, a2, a3, a4⟩ := h1
  obtain ⟨b0, b1, b2, b3, b4⟩ := h2
  obtain ⟨c0, c1, c2, c3, c4⟩ := h3
  obtain ⟨k1, k2, k3, k4⟩ := canB_iff.mp j.1
  have k5 := j.2
  unfold jCom comK jA jB jC jD jE
  have e1 : ((((a - u) / 2).toNat : Int) + (c - b + u) / 2).toNat = ((a - b + c) / 2).toNat := by omega
  have e2 : ((((b + v) / 2).toNat : Int) + (c - a - v) / 2).toNat = ((b - a + c) / 2).toNat := by omega
  rw [e1, e2]
/-- the terms, summed -/
theorem tm_sum {A B C : Nat} {D E : Int} {lo n : Nat} (ok : ∀ i, i < n → okK A B C D E (lo + i) = true) : ((tmL A B C D E lo n).map fun x => x.1 * (((comK A B C D E : Nat) : Int) / x.2)).sum = sumK (fun i => tmK A B C D E (lo + i)) n := by
  induction n with
  | zero => rfl
  | succ n ih =>
    rw [tmL_succ, List.map_append, List.sum_append, ih fun i hi => ok i (by omega), sumK_succ]
    show _ + (sgK (lo + n) * (((comK A B C D E : Nat) : Int) / ((botK A B C D E (lo + n) : Nat) : Int)) + 0) = _
    unfold tmK
    rw [if_pos (ok n (by omega)), ← Int.natCast_ediv]
    omega
section
variable {P : Program} {w : World} {K : PySem.W.Frag} {mg : Str → Option Value} {base : Heap} {f : Addr} {fd : FuncData} {C fI fQ : Addr}
/-! ### joined_number -/
def spJoinedN (C : Addr) : Sp := fun vs H Q _ => ∃ (p1 p2 p3 : Addr) (a u b v c w : Int), vs = [.ref p1, .ref p2, .ref p3] ∧ H p1 = some (pairO (a, u)) ∧ H p2 = some (pairO (b, v)) ∧ H p3 = some (pairO (c, w)) ∧ PairP a u ∧ PairP b v ∧ PairP c w ∧
  ∀ x H', Same H H' → H x = none → NumAt C H' x (joinL a u b v c w) → Q (.ref x) H'
abbrev nJoinedN : List Str := ["one", "other", "to", "a", "u", "b", "v", "c", "w", "reaches", "heights", "known", "common", "whole", "top", "bottom", "root"]
end
end TC
namespace TC
open PySem PySem.Spec PyProof.Rows L2 TCA TCX
theorem dec_int (a b : Int) : decide (V.int a = V.int b) = decide (a = b) := by
  by_cases h : a = b
  · rw [h, decide_eq_true rfl, decide_eq_true rfl]
  · rw [decide_eq_false h, decide_eq_false fun z => h (V.int.inj z)]
theorem Same.but {H H' : Hp} {p : Addr} (s : Same H H') : SameBut p H H' := fun b o _ e => s b o e
theorem SameBut.trans {H H1 H2 : Hp} {p : Addr} (s : SameBut p H H1) (t : SameBut p H1 H2) : SameBut p H H2 := fun b o n e => t b o n (s b o n e)
theorem SameBut.refl {H : Hp} {p : Addr} : SameBut p H H := fun _ _ _ e => e
theorem SameBut.new {H H1 : Hp} {p q : Addr} {o : HO} (s : SameBut p H H1) (n : H1 q = none) : SameBut p H (upd H1 q o) := s.trans (Same.but (same_upd n))
theorem PenAt.same {H H' : Hp} {p c : Addr} {ms : List Int} {n : Int} (h : PenAt H p c ms n) (s : Same H H') : PenAt H' p c ms n := by
  obtain ⟨l, h1, h2, h3⟩ := h
  exact ⟨l, s _ _ h1, s _ _ h2, h3⟩
theorem PenAt.new {H : Hp} {p c q : Addr} {ms : List Int} {n : Int} {o : HO} (h : PenAt H p c ms n) (hq : H q = none) : PenAt (upd H q o) p c ms n := h.same (same_upd hq)
theorem PenAt.ne {H : Hp} {p c q : Addr} {ms : List Int} {n : Int} (h : PenAt H p c ms n) (hq : H q = none) : q ≠ p := by
  obtain ⟨l, h1, h2, h3⟩ := h
  exact fun e => by rw [e, h1] at hq; cases hq
end TC
namespace TC
open PySem PySem.Spec PyProof.Rows L2 TCA TCX
section
variable {P : Program} {w : World} {K : PySem.W.Frag} {mg : Str → Option Value} {base : Heap} {f fD : Addr} {fd fdD : FuncData}
/-! ### _law_size -/
theorem at4 {a b c d : V} {i : Int} (h0 : 0 ≤ i) (h1 : i < 4) : atI [a, b, c, d] i = some ([a, b, c, d].getD i.toNat a) := by
  have : i = 0 ∨ i = 1 ∨ i = 2 ∨ i = 3 := by omega
  rcases this with rfl | rfl | rfl | rfl <;> exact atI_nat rfl
/-! ### _law_fits -/
def fitsB (a b c : Int) : Bool := decide ((a + b + c) % 2 = 0) && (decide (c ≤ a + b) && (decide (a ≤ b + c) && decide (b ≤ a + c)))
def spFits : Sp := fun vs H Q _ => ∃ a b c : Int, vs = [.int a, .int b, .int c] ∧ Q (.bl (fitsB a b c)) H
end
end TC
namespace TC
open PySem PySem.Spec PyProof.Rows L2 TCA TCX
section
variable {P : Program} {w : World} {K : PySem.W.Frag} {mg : Str → Option Value} {base : Heap} {f fD fF : Addr} {fd fdD fdF : FuncData}
/-! ### _law_third -/
/-- the whole numbers from 0 to k - 1 that fit -/
def fitL (a b : Int) (k : Nat) : List Int := ((List.range k).map fun i => (0 : Int) + (i : Nat)).filter (fitsB a b)
theorem fitL_succ (a b : Int) (k : Nat) : fitL a b (k + 1) = fitL a b k ++ (if fitsB a b (0 + (k : Nat)) = true then [0 + ((k : Nat) : Int)] else []) := by
  unfold fitL
  rw [List.range_succ, List.map_append, List.filter_append]
  congr 1
  show List.filter (fitsB a b) [0 + ((k : Nat) : Int)] = _
  by_cases h : fitsB a b (0 + (k : Nat)) = true
  · rw [if_pos h, List.filter_cons_of_pos h]
    rfl
  · rw [if_neg h, List.filter_cons_of_neg h]
    rfl
theorem fitL_len (a b : Int) (k : Nat) : (fitL a b k).length ≤ k := by
  unfold fitL
  refine Nat.le_trans (List.length_filter_le _ _) ?_
  rw [List.length_map, List.length_range]
  exact Nat.le_refl _
theorem fitL_mem {a b : Int} {k : Nat} {c : Int} : c ∈ fitL a b k ↔ 0 ≤ c ∧ c < k ∧ fitsB a b c = true := by
  unfold fitL
  rw [List.mem_filter, List.mem_map]
  constructor
  · rintro ⟨⟨i, hi, rfl⟩, h⟩
    have := List.mem_range.mp hi
    exact ⟨by omega, by omega, h⟩
  · rintro ⟨h0, h1, h2⟩
    exact ⟨⟨c.toNat, List.mem_range.mpr (by omega), by omega⟩, h2⟩
def thirdL (a b h : Int) : List Int := fitL a b (h + 1).toNat ++ (if (if a - b < 0 then -(a - b) else a - b) > h then [h] else [])
theorem thirdL_ne {a b h : Int} (ha : 0 ≤ a) (hb : 0 ≤ b) (hh : 0 ≤ h) : 0 < (thirdL a b h).length := by
  unfold thirdL
  by_cases z : (if a - b < 0 then -(a - b) else a - b) > h
  · rw [if_pos z, List.length_append]
    show 0 < _ + 1
    omega
  · rw [if_neg z, List.append_nil]
    refine List.length_pos_of_mem (a := if a - b < 0 then -(a - b) else a - b) (fitL_mem.mpr ⟨?_, ?_, ?_⟩)
    · split <;> omega
    · split at z <;> split <;> omega
    · unfold fitsB
      have e : ∀ c : Int, (c = a - b ∨ c = b - a) → 0 ≤ c → (decide ((a + b + c) % 2 = 0) && (decide (c ≤ a + b) && (decide (a ≤ b + c) && decide (b ≤ a + c)))) = true := fun c hc h0 => by
        rw [decide_eq_true (by omega), decide_eq_true (by omega), decide_eq_true (by omega), decide_eq_true (by omega)]
        rfl
      split
      · exact e _ (by omega) (by omega)
      · exact e _ (by omega) (by omega)
def spThird : Sp := fun vs H Q _ => ∃ (p c : Addr) (ms : List Int) (n a b h : Int), vs = [.ref p, .int a, .int b, .int h] ∧ PenAt H p c ms n ∧ 0 ≤ n ∧ n ≤ 900000 ∧ 0 ≤ a ∧ 0 ≤ b ∧ 0 ≤ h ∧ h ≤ 1000 ∧
  ∀ (d n' : Int) H', d ∈ thirdL a b h → n ≤ n' → n' ≤ n + 1 → PenAt H' p c ms n' → SameBut p H H' → Q (.int d) H'
abbrev nThird : List Str := ["_law_pen_here", "_law_a", "_law_b", "_law_high", "_law_some", "_law_c"]
end
end TC
namespace TC
open PySem PySem.Spec PyProof.Rows L2 TCA TCX
theorem fits_iff {a b c : Int} : fitsB a b c = true ↔ (a + b + c) % 2 = 0 ∧ c ≤ a + b ∧ a ≤ b + c ∧ b ≤ a + c := by
  unfold fitsB
  simp only [Bool.and_eq_true, decide_eq_true_eq]
theorem third_fits {a b h d : Int} (a0 : 0 ≤ a) (a1 : a ≤ h) (b0 : 0 ≤ b) (b1 : b ≤ h) (hd : d ∈ thirdL a b h) : 0 ≤ d ∧ d ≤ h ∧ fitsB a b d = true := by
  unfold thirdL at hd
  have n : ¬ (if a - b < 0 then -(a - b) else a - b) > h := by
    split <;> omega
  rw [if_neg n, List.append_nil] at hd
  obtain ⟨h0, h1, h2⟩ := fitL_mem.mp hd
  exact ⟨h0, by omega, h2⟩
theorem lt_1000 {m : Int} (h : m ≤ 1000) : m < 2 ^ 1000 := Int.lt_of_le_of_lt h (by decide +kernel)
section
variable {P : Program} {w : World} {K : PySem.W.Frag} {mg : Str → Option Value} {base : Heap} {f fD fT fZ fP fS : Addr} {fd fdD fdT fdZ fdP fdS : FuncData}
end
end TC
namespace TC
open PySem PySem.Spec PyProof.Rows L2 TCA
section
variable {X : Cx}
/-- sorted(d), the keys whole numbers, up to a thousand of them -/
theorem call_sortedMany (cm : X.calm = true) : CallR X (.builtin "sorted") (fun xs H Q => ∃ (d : Addr) (es : List (Key × V)) (js : List Int), xs = [.ref d] ∧ Rd H d (.dK es) ∧ es.map (·.1) = js.map Sum.inl ∧
    js.length ≤ 1000 ∧ ∀ (zs : List Int) (l : Addr), zs.Perm js → zs.Pairwise (· ≤ ·) → H l = none → Q (.ref l) (upd H l (.lst (zs.map V.int)))) := by
  intro pins st σ H xs us Q Iv rv hh
  obtain ⟨d, es, js, rfl, rd, ek, small, q⟩ := hh
  obtain ⟨w0, rfl, rw0⟩ := vals1 rv
  cases rw0
  obtain ⟨_, low, ws, rl, da⟩ := dk_rd Iv.hok rd
  obtain ⟨spot, at0⟩ := da.dictAt
  have kk : ws.map (·.1) = js.map Sum.inl := (rl.keys.symm).trans ek
  have wl : ws.length = js.length := by
    have := congrArg List.length kk
    simpa using this
  have fits : ∀ {n : Nat}, n = js.length → n ≤ sizeLine := fun {n} e => by
    rw [e]
    exact Nat.le_trans small (by decide)
  refine Calls.call_function_entry kind_sorted plain_sorted entry_sorted (args_sorted1 _) ?_
  unfold Builtin.«sorted»
  refine wpAny_bind (m := checkCount "sorted" 1 1 _) (wpAny_pure (wpAny_bind ?_))
  refine PySem.W.kdu_collect (A := X.A.in1) (PySem.W.kdl_dict (knd := mixKind X.prog X.w) (kvs := ws) (ep := spot) low) (Iv.ok.hd cm) at0 (fits wl) fun g tk got gk gg => ?_
  have gl : got.toList.length = js.length := by
    rw [Array.length_toList, gg.1, wl]
  have inS : IntsAre got.toList js := by
    refine ints_each gl fun n v e => ?_
    rw [Array.getElem?_toList] at e
    obtain ⟨key, _, f1, f2⟩ := gg.2 n v e
    have f3 := congrArg (fun z => z[n]?) kk
    simp only [List.getElem?_map, f1, Option.map_some] at f3
    cases f4 : js[n]? with
    | none =>
      rw [f4] at f3
      cases f3
    | some y =>
      rw [f4] at f3
      have f5 : key = Sum.inl y := Option.some.inj f3
      rw [f5] at f2
      rcases keyIs_shape (show keyIs (Sum.inl y) v = true from f2) with ⟨i, t, g1, g2⟩ | ⟨_, _, g1, _⟩
      · cases g1
        exact ⟨y, t, rfl, g2⟩
      · cases g1
  have Iv2 : Inv X pins σ H { st with heap := g, toks := tk } := Iv.kept gk
  refine wpAny_bind (wpAny_newList ?_ (fits gl))
  have lay := Heap.get?_push_size g (o := seqObj "list" got.toList.toArray 0) rfl
  show wpAny _ _ _ _ _ { st with heap := g.push (seqObj "list" got.toList.toArray 0), toks := tk }
  refine wpAny_bind (wpAny_holding (wpAny_call_entry slot_list_sort ⟨_, lay, rfl⟩ entry_list_sort ?_ (args_list_sort _)))
  refine SrtO.list_sort_ord SrtO.swo_int lay (fits gl) (fun two => SrtO.ints_sortable inS two) fun out s1 s2 => ⟨_, rfl, ?_⟩
  obtain ⟨o1, o2, o3⟩ := SrtO.ints_out inS s1 s2
  obtain ⟨c, at1⟩ := sortedHeap_at (vs := got.toList) (out := out.toArray) lay
  have inl := fits (show ((out.map SrtO.iv).map V.int).length = js.length by rw [List.length_map, o2.length_eq])
  refine wpAny_pure ⟨_, rfl, .ref g.objs.size, upd H g.objs.size (.lst ((out.map SrtO.iv).map V.int)), Iv2.laid (t' := tk) (fun b x e => ?_) (Nat.le_refl _)
      (show ObjOk X.prog X.w _ _ _ (.lst ((out.map SrtO.iv).map V.int)) from ⟨inl, out, c, vals_of_ints o1, at1⟩), rfl, q _ _ o2 o3 (Iv2.hok.fresh (Nat.le_refl _))⟩
  have less := Heap.lt_size e
  rw [sortedHeap_old (Nat.ne_of_lt less) (by rw [size_push']; exact Nat.lt_succ_of_lt less)]
  exact Heap.get?_push_of_some _ e
end
end TC
/-! repr of lists of ints; the end of a law whose own def asks repr. -/
namespace TCX
open PySem PySem.Spec PyProof.Rows L2
/-! ### data of lists of ints -/
def dInts (ns : List Int) : List PyData := ns.map PyData.int
theorem dpAll_ints {K : PySem.W.Frag} {H : Hp} : ∀ ns : List Int, DpAll K H (ns.map V.int) (dInts ns)
  | [] => .nil
  | n :: r => .cons (.int n) (dpAll_ints r)
theorem dp_ints {K : PySem.W.Frag} {H : Hp} {a : Addr} {ns : List Int} (h : H a = some (.lst (ns.map V.int))) : Dp K H (.ref a) (.list (dInts ns)) := .lst (SqL.of h) (dpAll_ints ns)
theorem log_small {i : Int} (h : i.natAbs < 10 ^ 9) : i.natAbs.log2 < 30 := Nat.lt_of_lt_of_le (PySem.Flt.log2_lt_of (show 0 < 30 by decide) (Nat.lt_trans h (by decide))) (by decide)
theorem ints_show : ∀ ns : List Int, (∀ n ∈ ns, n.natAbs < 10 ^ 9) → PyData.showableAll (dInts ns) = true ∧ PyData.hasDictAll (dInts ns) = false ∧ PyData.depthAll (dInts ns) = 0 ∧ PyData.leavesShortAll 13 (dInts ns) = true ∧ PyData.weightAll (dInts ns) ≤ 40 * ns.length
  | [], _ => ⟨rfl, rfl, rfl, rfl, Nat.le_refl _⟩
  | n :: r, h => by
    obtain ⟨h1, h2, h3, h4, h5⟩ := ints_show r fun m hm => h m (List.mem_cons_of_mem _ hm)
    have hn := h n List.mem_cons_self
    have hl := log_small hn
    refine ⟨?_, ?_, ?_, ?_, ?_⟩
    · show (PyData.showable (.int n) && PyData.showableAll (dInts r)) = true
      rw [h1, Bool.and_true]
      simp only [PyData.showable, decide_eq_true_eq]
      omega
    · show (PyData.hasDict (.int n) || PyData.hasDictAll (dInts r)) = false
      rw [h2]
      rfl
    · show max (PyData.depth (.int n)) (PyData.depthAll (dInts r)) = 0
      rw [h3]
      rfl
    · show (PyData.leavesShort 13 (.int n) && PyData.leavesShortAll 13 (dInts r)) = true
      rw [h4, Bool.and_true]
      exact decide_eq_true (PyData.shown_int_le (Nat.lt_trans hn (by decide)))
    · show PyData.weight (.int n) + 1 + PyData.weightAll (dInts r) ≤ 40 * (r.length + 1)
      have : PyData.weight (.int n) ≤ 31 := by
        show (if n == 0 then 0 else n.natAbs.log2 + 1) ≤ 31
        split <;> omega
      omega
structure Shows (d : PyData) : Prop where
  s : d.showable = true
  h : d.hasDict = false
  dp : d.depth ≤ 60
  z : d.shown.length ≤ sizeLine
theorem shows_ints {ns : List Int} (h : ∀ n ∈ ns, n.natAbs < 10 ^ 9) (hl : ns.length ≤ 10000) : Shows (.list (dInts ns)) := by
  obtain ⟨h1, h2, h3, h4, h5⟩ := ints_show ns h
  refine ⟨h1, h2, ?_, PyData.shown_fits (B := 13) (by decide) (by decide) (d := .list (dInts ns)) h4 ?_⟩
  · show PyData.depthAll (dInts ns) + 1 ≤ 60
    omega
  · show PyData.weightAll (dInts ns) ≤ 2 ^ 20
    omega
/-! ### the end of a law, by FnG -/
section
variable {P : Program} {w : World} {K : PySem.W.Frag} {mg mb : Str → Option Value} {CX : CXT} {k : Nat} {fa a : Addr} {cs : List (Addr × Addr)} {fd : FuncData} {x : Str} {sp : Sp} {s₁ : Shared} {vs : List Value} {ns : List Int}
/-- the script (where K doesn't hold it) and the tables are tracked at the law's call -/
def hLaw (K : PySem.W.Frag) (T : List Addr) (a : Addr) (ob : Obj) (xs : List V) : Hp := fun b =>
  if b ∈ T then some (.tbl #[]) else if b = a ∧ K.lookup a = none then some (.frz ob (.lst xs)) else none
theorem hLaw_tab {T : List Addr} {ob : Obj} {xs : List V} {b : Addr} (h : b ∈ T) : hLaw K T a ob xs b = some (.tbl #[]) := if_pos h
theorem hLaw_inv {T : List Addr} {ob : Obj} {xs : List V} {b : Addr} {u : HO} (h : hLaw K T a ob xs b = some u) : (b ∈ T ∧ u = .tbl #[]) ∨ (b = a ∧ K.lookup a = none ∧ u = .frz ob (.lst xs)) := by
  unfold hLaw at h
  by_cases hT : b ∈ T
  · rw [if_pos hT] at h
    exact .inl ⟨hT, (Option.some.inj h).symm⟩
  · rw [if_neg hT] at h
    by_cases ha : b = a ∧ K.lookup a = none
    · rw [if_pos ha] at h
      exact .inr ⟨ha.1, ha.2, (Option.some.inj h).symm⟩
    · rw [if_neg ha] at h
      cases h
theorem law_callG (KX : K.In s₁.heap) (hns : s₁.heap.Ns mainGlobals mg) (hb : s₁.heap.Ns builtinsNs mb) (hbb : ∀ x : Str, x ≠ "__name__" → mb x = bootBuiltins x) (hlim : s₁.heap.NoLimit) (hg : s₁.gens = #[])
    (hT : ∀ p ∈ cs, s₁.heap.get? p.2 = some { cls := .none, data := .fields #[] }) (nT : ∀ p ∈ cs, K.lookup p.2 = none) (C : ∀ p ∈ cs, PySem.W.CodeHd s₁.heap p.1 p.2)
    (hbm : ∃ (bm : Addr) (ob : Obj), mg "__builtins__" = some (.ref bm) ∧ bm ≠ builtinsNs ∧ s₁.heap.get? bm = some ob ∧ ob.cls = .type "module" ∧ ob.dict = some builtinsNs ∧ ob.data = .plain)
    (ha : s₁.heap.get? a = some { cls := .type "list", data := .seq vs.toArray }) (hi : IntsAre vs ns) (hl : ns.length ≤ sizeLine) (hr : Room k callerA)
    (F : ∀ base : Heap, K.In base → base.Ns mainGlobals mg → (∀ p ∈ cs, LamX.TabB base mg p.1 p.2) → FnG P w K mg base CX k fa fd [x] sp) (hbind : ∀ (s : Shared) (u : Value), BindsTo s fd ⟨[u], []⟩ [(x, u)])
    (hsp : ∀ H : Hp, (∀ p ∈ cs, H p.2 = some (.tbl #[])) → SqL K H a (ns.map V.int) → sp [.ref a] H (fun v _ => v = .bl true) fun _ _ _ => False)
    (hCX : ∀ H e s', CX [] H s₁ (fun _ _ _ => False) e s' → False) :
    codeAny (model P w) callerA (.call (.ref fa) ⟨[.ref a], []⟩) (fun r s' => r = .ok (.ret (.bool true)) ∧ OldK s₁.heap s'.heap ∧ s'.os = s₁.os ∧ AllBare s'.gens) s₁ := by
  have rv := vals_ints hi
  have lenV := hi.length
  obtain ⟨T, eT⟩ : ∃ T : List Addr, cs.map (·.2) = T := ⟨_, rfl⟩
  have tIn : ∀ p ∈ cs, p.2 ∈ T := fun p hp => by
    rw [← eT]
    exact List.mem_map.mpr ⟨p, hp, rfl⟩
  have tOut : ∀ b, b ∈ T → ∃ p ∈ cs, p.2 = b := fun b h => by
    rw [← eT] at h
    exact List.mem_map.mp h
  have tGet : ∀ b, b ∈ T → s₁.heap.get? b = some { cls := .none, data := .fields #[] } := fun b h => by
    obtain ⟨p, hp, rfl⟩ := tOut b h
    exact hT p hp
  have aOut : a ∉ T := fun z => by
    have q := ha.symm.trans (tGet a z)
    cases q
  obtain ⟨H, eH⟩ : ∃ H : Hp, hLaw K T a { cls := .type "list", data := .seq vs.toArray } (ns.map V.int) = H := ⟨_, rfl⟩
  have inv : ∀ {b : Addr} {u : HO}, H b = some u → (b ∈ T ∧ u = .tbl #[]) ∨ (b = a ∧ K.lookup a = none ∧ u = .frz { cls := .type "list", data := .seq vs.toArray } (.lst (ns.map V.int))) := fun h => by
    rw [← eH] at h
    exact hLaw_inv h
  have hH : ∀ p ∈ cs, H p.2 = some (.tbl #[]) := fun p hp => by
    rw [← eH]
    exact hLaw_tab (tIn p hp)
  have hS : SqL K H a (ns.map V.int) := by
    cases hk : K.lookup a with
    | none => exact .inl (.inr ⟨_, by rw [← eH]; exact (if_neg aOut).trans (if_pos ⟨rfl, hk⟩)⟩)
    | some o =>
      have e := (KX a o hk).symm.trans ha
      cases e
      exact .inr ⟨_, vs.toArray, _, hk, rfl, rfl, rfl, by rw [List.size_toArray, lenV]; exact hl, by simpa using rv⟩
  have hok : HOk P w H s₁.heap := fun b u e => by
    rcases inv e with ⟨h1, rfl⟩ | ⟨rfl, _, rfl⟩
    · exact tGet b h1
    · exact ⟨ha, by rw [List.length_map]; exact hl, vs, _, rv, ha⟩
  -- what is neither the script nor a table isn't tracked
  have off : ∀ {b : Addr} {o : Obj}, s₁.heap.get? b = some o → (∀ us n, o.data ≠ .seq us n) → o.data ≠ .fields #[] → H b = none := fun {b o} e h1 h2 => by
    cases q : H b with
    | none => rfl
    | some u =>
      rcases inv q with ⟨g1, _⟩ | ⟨rfl, _, _⟩
      · rw [tGet b g1] at e
        cases e
        exact absurd rfl h2
      · rw [ha] at e
        cases e
        exact absurd rfl (h1 _ _)
  have nsK : ∀ {b : Addr} {m : Str → Option Value}, s₁.heap.Ns b m → (hidT s₁.heap H).Ns b m := fun {b m} z => by
    obtain ⟨o, es, ep, e, d, r⟩ := z
    exact ⟨o, es, ep, hidT_get e (off e (fun us n y => by rw [d] at y; cases y) fun y => by rw [d] at y; cases y), d, r⟩
  have hKb : K.In (hidT s₁.heap H) := fun b o e => hidT_get (KX b o e) (by
    cases q : H b with
    | none => rfl
    | some u =>
      rcases inv q with ⟨g1, _⟩ | ⟨rfl, g2, _⟩
      · obtain ⟨p, hp, rfl⟩ := tOut b g1
        rw [nT p hp] at e
        cases e
      · rw [g2] at e
        cases e)
  have hM : L2.Mod K mg (hidT s₁.heap H) := ⟨hKb, nsK hns, ⟨mb, nsK hb, hbb⟩, let ⟨mc, h1, h2⟩ := hlim; ⟨mc, nsK h1, h2⟩⟩
  have TB : ∀ p ∈ cs, LamX.TabB (hidT s₁.heap H) mg p.1 p.2 := fun p hp => by
    have hTp := hT p hp
    refine ⟨?_, ?_, fun z => ?_⟩
    · obtain ⟨o, us, file, tf, flags, tg, inF, text, tt, e1, r1, r2, r3, r4⟩ := C p hp
      exact ⟨o, us, file, tf, flags, tg, inF, text, tt, hidT_get e1 (off e1 (fun _ _ z => by rw [r2] at z; cases z) fun z => by
        rw [r2] at z
        cases z
        simp at r3), r1, r2, r3, r4⟩
    · obtain ⟨bm, ob, b1, b2, b3, b4, b5, b6⟩ := hbm
      refine ⟨bm, ob, b1, b2, fun y => ?_, fun y => ?_, hidT_get b3 (off b3 (fun _ _ z => by rw [b6] at z; cases z) fun z => by rw [b6] at z; cases z), b4, b5, b6⟩
      · obtain ⟨o, es, ep, e, hd, _⟩ := hns
        rw [y, e] at b3
        cases b3
        rw [hd] at b6
        cases b6
      · rw [y, hTp] at b3
        cases b3
        cases b6
    · obtain ⟨o, es, ep, e, hd, _⟩ := hns
      rw [z, hTp] at e
      cases e
      cases hd
  have e0 : Env0 P w K mg (hidT s₁.heap H) callerA [] s₁ H := ⟨rfl, hM, fun b o e => of_hidT e, Nat.le_of_eq (hidT_size _ _), trivial, fun b hb => absurd (show b ∈ ([] : List Addr) from hb) (by simp), hok, .of_eq hg⟩
  refine codeAny_mono ((F _ hKb (nsK hns) TB).grun callerA [] s₁ H ⟨[.ref a], []⟩ [.ref a] [.ref a] _ _ rfl hr e0 (hbind s₁ (.ref a)) (.cons rfl .nil) (hsp H hH hS)) fun r s' h => ?_
  match r, h with
  | .error e, h => exact (hCX H e s' h).elim
  | .ok .next, h => exact False.elim h
  | .ok .brk, h => exact False.elim h
  | .ok .cont, h => exact False.elim h
  | .ok (.ret u), h =>
    obtain ⟨v, H', os, bare, un, hok', r', q'⟩ := h
    cases (show v = .bl true from q')
    cases (show u = Value.bool true from r')
    have noF : ∀ b : Addr, b ∉ frs ([] : List Env) := fun b z => nomatch (show b ∈ ([] : List Addr) from z)
    have key : ∀ b o, b ∉ T → s₁.heap.get? b = some o → s'.heap.get? b = some o := fun b o nb e => by
      cases q : H b with
      | none => exact un.keep b o e q (noF b) (fun z => nomatch z)
      | some u =>
        rcases inv q with ⟨g1, _⟩ | ⟨rfl, _, rfl⟩
        · exact absurd g1 nb
        · obtain ⟨e2, _⟩ := hok' b _ (un.frzs b _ _ q)
          rw [ha] at e
          cases e
          exact e2
    have grown : ∀ p ∈ cs, ∃ more : Array Value, s'.heap.get? p.2 = some { cls := .none, data := .fields more } := fun p hp => by
      obtain ⟨more, z⟩ := un.tbls p.2 #[] (hH p hp)
      exact ⟨_, hok' p.2 _ z⟩
    refine ⟨rfl, ⟨fun b o e => ?_, fun b o e => ?_⟩, os, bare⟩
    · by_cases hb : b ∈ T
      · obtain ⟨p, hp, rfl⟩ := tOut b hb
        obtain ⟨more, hm⟩ := grown p hp
        rw [hT p hp] at e
        cases e
        exact .inr (.inl ⟨((C p hp).tab (hT p hp)).isCodeTable, rfl, #[], more, rfl, by rw [Array.empty_append]; exact hm⟩)
      · exact .inl (key b o hb e)
    · by_cases hb : b ∈ T
      · obtain ⟨p, hp, rfl⟩ := tOut b hb
        obtain ⟨more, hm⟩ := grown p hp
        exact ⟨_, hm⟩
      · exact ⟨o, key b o hb e⟩
end
/-- what is known of the law's promise at the head's heap -/
def LawAtG (l : PySem.W.OpenLaw) (w : World) (K : PySem.W.Frag) (CX : CXT) (k n : Nat) (x : Str) (mg : Str → Option Value) (fa : Addr) (h : Heap) : Prop :=
  ∃ (fd : FuncData) (cs : List (Addr × Addr)) (sp : Sp), (∀ p ∈ cs, h.get? p.2 = some { cls := .none, data := .fields #[] }) ∧ (∀ p ∈ cs, K.lookup p.2 = none) ∧ (∀ p ∈ cs, PySem.W.CodeHd h p.1 p.2) ∧ (∀ (s : Shared) (u : Value), BindsTo s fd ⟨[u], []⟩ [(x, u)]) ∧
    (∀ (H : Hp) (a : Addr) (ns : List Int), ns.length ≤ n → (∀ p ∈ cs, H p.2 = some (.tbl #[])) → SqL K H a (ns.map V.int) → sp [.ref a] H (fun v _ => v = .bl true) fun _ _ _ => False) ∧
    ∀ base : Heap, K.In base → base.Ns mainGlobals mg → (∀ p ∈ cs, LamX.TabB base mg p.1 p.2) → FnG l.prog w K mg base CX k fa fd [x] sp
theorem walk_ofG {l : PySem.W.OpenLaw} {n k : Nat} {q : Program} {loose : List Str} {XP : (Str → Option Value) → Heap → Prop} {YP : World → Heap → Prop} {d : DefRec} {CX : World → CXT} {x : Str}
    (hn : l.most = some n) (hn2 : n ≤ sizeLine) (hdf : d.params.defaults = []) (hr : Room k callerA)
    (F : ∀ (w : World) (mg : Str → Option Value) (fa : Addr) (h : Heap), YP w h → h.Ns mainGlobals mg → mg d.name = some (.ref fa) → ∃ K : PySem.W.Frag, K.In h ∧ LawAtG l w K (CX w) k n x mg fa h)
    (hCX : ∀ (w : World) (H : Hp) (s : Shared) (e : Value) (s' : Shared), CX w [] H s (fun _ _ _ => False) e s' → False) :
    PySem.W.WalkO q loose XP YP l.row.toRowW d [] (fun f vs => PySem.call f vs) := by
  refine Att.attach_callB hn hdf fun w s₀ s₁ mg mb fa o pm cd doc a vs ns G Y ho hd hcd hmg hobj hints hlen hbits hg => ?_
  obtain ⟨K, KX, fd, cs, sp, hT, nT, C, hb, hsp, hF⟩ := F w mg fa _ Y G.T.g hmg
  exact law_callG KX G.T.g G.T.b G.T.builtins G.T.nolimit hg hT nT C G.T.bmain hobj hints (Nat.le_trans hlen hn2) hr hF hb (fun H hH hS => hsp H a ns hlen hH hS) fun H e s' => hCX w H s₁ e s'
end TCX
/-! repr(x) by an own __repr__; a dict == {}. -/
namespace TCX
open PySem PySem.Spec PyProof.Rows L2 TCA
section
variable {X : Cx} {CX : CXT} {n : Nat} {f C : Addr} {fd : FuncData} {ps : List Str} {sp : Sp} {E : XK}
theorem call_reprO (F : FnOk X.prog X.w X.K X.mg X.base CX n f fd ps sp) (hs : PySem.W.findIn X.K (.ref C) "__repr__" = some (some (.ref f))) (hf : PySem.W.isFn X.K (.ref f) = true) (hb : Binds X.K fd ps []) (hx : Passes CX X E)
    (hr : Room (n + 1) X.A) : CallR X (.builtin "repr") (rStrO C sp E) := by
  intro pins s σ H xs us Q I r hq
  obtain ⟨a, dx, fs, rfl, ha, q⟩ := hq
  obtain ⟨u, rfl, rx⟩ : ∃ u, us = [u] ∧ RelV (.ref a) u := by
    cases r with
    | cons r rr => cases rr; exact ⟨_, rfl, r⟩
  cases (show u = Value.ref a from rx)
  obtain ⟨mA, J, _⟩ := ins_get I.hok ha
  obtain ⟨od, J, _⟩ := J.look
  have hr2 : Room n X.A.in1 := hr.in1
  have hu : X.A.in1.units < cLine := Nat.lt_of_succ_lt (hu_of hr2)
  have KI := I.kIn
  refine Calls.call_function_entry PySem.F.kind_repr PySem.F.plain_repr PySem.F.entry_repr (PySem.F.args_repr1 _) ?_
  unfold Builtin.«repr»
  refine wpAny_bind (m := oneArg "repr" _) (wpAny_pure (wpAny_bind (wpAny_cRoomFor hu (wpAny_bind (wpAny_bind (J.type.here ((PySem.W.looks_findIn KI hs).here ?_)))))))
  show wpAny _ _ (if (some (Value.ref f)).isNone = true then _ else _) _ _ _
  rw [if_neg (by simp)]
  refine wpAny_bind (m := callSpecialIfBound? (.ref a) (Str.ofString "__repr__") _) (PySem.W.ifBound_K KI J hs hf ?_)
  refine wpAny_mono (run_sub F hb hx (A := X.A.in1) ⟨hr2, rfl⟩ I (.cons rx .nil) q) (fun r s' hz => ?_) fun _ _ z => z
  obtain ⟨z, H', I', rz, x, rfl, qb⟩ := hz
  obtain ⟨t, e⟩ := (show ∃ t, r = Value.str x t from rz)
  cases e
  refine wpAny_bind (wpAny_isInstance (typeIs_str _ _ _) isSubtype_str_str ?_)
  first
    | exact wpAny_pure ⟨_, rfl, .str x, H', I', ⟨t, rfl⟩, qb⟩
    | (rw [if_pos rfl]; exact wpAny_pure ⟨_, rfl, .str x, H', I', ⟨t, rfl⟩, qb⟩)
    | (simp only [if_true]; exact wpAny_pure ⟨_, rfl, .str x, H', I', ⟨t, rfl⟩, qb⟩)
/-- a dict == {} -/
def rEqE : R2 := fun x y H Q => ∃ a b ks, x = .ref a ∧ y = .ref b ∧ H a = some (.dK ks) ∧ H b = some (.dK []) ∧ Q (.bl (decide (ks.length = 0))) H
theorem op_eqE (hu : X.A.units < cLine) : OpR X (compareOp .Eq) rEqE := by
  intro pins s σ H x y v u Q I rx ry h
  obtain ⟨a, b, ks, rfl, rfl, ea, eb, q⟩ := h
  obtain rfl : v = Value.ref a := rx
  obtain rfl : u = Value.ref b := ry
  obtain ⟨_, ya, va, ra, da⟩ := (show ObjOk X.prog X.w H s.heap a (.dK ks) from I.hok a _ ea)
  obtain ⟨_, yb, vb, rb, db⟩ := (show ObjOk X.prog X.w H s.heap b (.dK []) from I.hok b _ eb)
  have l1 : ks.length = va.length := ra.length
  have l2 : vb.length = 0 := by rw [← rb.length]; rfl
  refine PySem.W.keq_eq (knd := mixKind X.prog X.w) (r := true) ya yb da db hu (fun hl => ?_) (fin_bl I q ?_)
  · have e0 : ks = [] := List.length_eq_zero_iff.mp (by omega)
    subst e0
    exact hits_all rb ra (fun p hp => by cases hp)
  · by_cases h0 : ks.length = 0
    · have e : va.length = vb.length := by omega
      simp [h0, e]
    · have e : ¬ va.length = vb.length := by omega
      simp [h0, e]
end
end TCX
namespace TC
open PySem PySem.Spec PyProof.Rows L2 TCA TCX
theorem mul_frac (q : Rat) (t b : Int) : Rat.divInt (q.num * t) ((q.den : Int) * b) = q * Rat.divInt t b := by
  have e := Rat.divInt_mul_divInt q.num t (d₁ := (q.den : Int)) (d₂ := b)
  rw [← e, Rat.num_divInt_den]
theorem low_mul {q : Rat} {t b : Int} (h : (q.den : Int) * b ≠ 0) : HO.tup [.int (TCM.lowL (q.num * t) ((q.den : Int) * b)).1, .int (TCM.lowL (q.num * t) ((q.den : Int) * b)).2] = fraV (q * Rat.divInt t b) := by
  rw [TCR.lowL_rat _ _ h, mul_frac]
  rfl
section
variable {P : Program} {w : World} {K : PySem.W.Frag} {mg : Str → Option Value} {base : Heap} {f : Addr} {fd : FuncData} {C fI fQ : Addr}
/-! ### _law_by -/
def spBy : Sp := fun vs H Q _ => ∃ (d : Addr) (ks : List Int) (g : Int → Rat) (t b : Int) (A : Nat), vs = [.ref d, .int t, .int b] ∧ DictAt H d ks g ∧ (∀ r, TCR.Sz A (g r)) ∧ b ≠ 0 ∧ t.natAbs < 2 ^ A ∧ b.natAbs < 2 ^ A ∧ 0 < A ∧ A ≤ 4000 ∧ ks.length ≤ 60 ∧
  ∀ d' ks' H', Same H H' → H d' = none → DictAt H' d' ks' (fun r => g r * Rat.divInt t b) → Clear ks' (fun r => g r * Rat.divInt t b) → ks'.length ≤ ks.length → (∀ r ∈ ks', r ∈ ks) → Q (.ref d') H'
/-! ### _law_parts -/
def spParts : Sp := fun vs H Q _ => ∃ (d : Addr) (ks : List Int) (g : Int → Rat), vs = [.ref d] ∧ DictAt H d ks g ∧ Clear ks g ∧ ks.length ≤ 900 ∧
  ∀ p N H', Same H H' → H p = none → PartsL H' p N → TCR.Canon N → (∀ r, TCR.val N r = g r) → N.length = ks.length → Q (.ref p) H'
end
end TC
namespace TCX
set_option exponentiation.threshold 20000
theorem fact_lt2 : ∀ n, n < 42 → factN n < 2 ^ 166 := by decide +kernel
theorem prodF_lt2 : ∀ {l : List Nat}, (∀ n ∈ l, n < 42) → prodF l < 2 ^ (166 * l.length + 1)
  | [], _ => by decide
  | n :: l, h => by
    have h1 := prodF_lt2 (l := l) fun m hm => h m (List.mem_cons_of_mem _ hm)
    show factN n * prodF l < 2 ^ (166 * (l.length + 1) + 1)
    rw [show 166 * (l.length + 1) + 1 = 166 + (166 * l.length + 1) by omega, Nat.pow_add]
    exact Nat.mul_lt_mul'' (fact_lt2 n (h n (by simp))) h1
theorem comK_lt2 {A B C : Nat} {D E : Int} (h1 : A < 42) (h2 : B + D < 42) (h3 : C + E < 42) : comK A B C D E < 2 ^ 498 := by
  unfold comK
  have a1 := fact_lt2 A h1
  have a2 := fact_lt2 (B + D).toNat (by omega)
  have a3 := fact_lt2 (C + E).toNat (by omega)
  have z := Nat.mul_lt_mul'' (Nat.mul_lt_mul'' a1 a2) a3
  rw [← Nat.pow_add, ← Nat.pow_add] at z
  exact z
end TCX
namespace TC
set_option exponentiation.threshold 20000
open PySem PySem.Spec PyProof.Rows L2 TCA TCX
/-- small enough to be shown -/
structure SmallP (x : Part) : Prop where
  r : x.1.natAbs < 2 ^ 1900
  n : x.2.num.natAbs < 2 ^ 1900
  d : x.2.den < 2 ^ 1900
theorem log1920 {i : Int} (h : i.natAbs < 2 ^ 1900) : i.natAbs.log2 < 1920 := Nat.lt_of_lt_of_le (PySem.Flt.log2_lt_of (show 0 < 1900 by decide) h) (by decide)
theorem w1901 {i : Int} (h : i.natAbs < 2 ^ 1900) : PyData.weight (.int i) ≤ 1901 := by
  show (if i == 0 then 0 else i.natAbs.log2 + 1) ≤ 1901
  have := PySem.Flt.log2_lt_of (show 0 < 1900 by decide) h
  split <;> omega
theorem shown700 {i : Int} (h : i.natAbs < 2 ^ 1900) : (PyData.shown (.int i)).length ≤ 701 := by
  have e := int_text_length_le10 (a := i) (k := 700) (by decide) (Nat.lt_of_lt_of_le h (by decide +kernel))
  show (Str.ofString (toString i)).length ≤ 701
  rw [PySem.ofString_length]
  exact e
theorem shows_parts {L : List Part} (hl : L.length ≤ 1) (h : ∀ x ∈ L, SmallP x) : Shows (toD L) := by
  match L, hl with
  | [], _ => exact ⟨rfl, rfl, by decide, by show (PyData.shown (.tuple [])).length ≤ sizeLine; decide +kernel⟩
  | [x], _ =>
    have hx := h x (by simp)
    have hd : ((x.2.den : Nat) : Int).natAbs < 2 ^ 1900 := by rw [Int.natAbs_natCast]; exact hx.d
    have s1 := shown700 hx.r
    have s2 := shown700 hx.n
    have s3 := shown700 hd
    have w1 := w1901 hx.r
    have w2 := w1901 hx.n
    have w3 := w1901 hd
    have sl : (toD [x]).leavesShort 701 = true := by
      simp only [toD, parD, List.map_cons, List.map_nil, PyData.leavesShort, PyData.leavesShortAll, Bool.and_true, Bool.and_eq_true, decide_eq_true_eq]
      exact ⟨s1, s2, s3⟩
    have wl : (toD [x]).weight ≤ 6000 := by
      simp only [toD, parD, List.map_cons, List.map_nil, PyData.weight, PyData.weightAll] at w1 w2 w3 ⊢
      omega
    refine ⟨?_, ?_, ?_, ?_⟩
    · simp only [toD, parD, List.map_cons, List.map_nil, PyData.showable, PyData.showableAll, Bool.and_true, Bool.and_eq_true, decide_eq_true_eq]
      exact ⟨log1920 hx.r, log1920 hx.n, log1920 hd⟩
    · rfl
    · show (2 : Nat) ≤ 60
      decide
    · have z := PyData.shown_le 701 (by decide) (toD [x]) sl
      rw [sizeLine_eq]
      omega
theorem join_fit {a u b v c w : Int} (h1 : PairP a u) (h2 : PairP b v) (h3 : PairP c w) : ∃ D : Nat, 0 < D ∧ D < 2 ^ 1500 ∧ Fit D 1667 200 (joinL a u b v c w) ∧ (joinL a u b v c w).length ≤ 1 := by
  unfold joinL
  by_cases J : JoinP a b c u v w
  · rw [if_pos J]
    have la := jAb_lt h1 h2 h3
    have lb := jBe_lt h1 h2 h3
    have T := tmp_of h1 h2 h3 J
    have l42 : ∀ n ∈ jAb a u b v c w, n < 42 := by
      obtain ⟨a0, a1, a2, a3, a4⟩ := h1
      obtain ⟨b0, b1, b2, b3, b4⟩ := h2
      obtain ⟨c0, c1, c2, c3, c4⟩ := h3
      intro n hn
      unfold jAb at hn
      simp only [List.mem_cons, List.not_mem_nil, or_false] at hn
      omega
    have cl : jCom a u b v c < 2 ^ 498 := by
      obtain ⟨a0, a1, a2, a3, a4⟩ := h1
      obtain ⟨b0, b1, b2, b3, b4⟩ := h2
      obtain ⟨c0, c1, c2, c3, c4⟩ := h3
      obtain ⟨k1, k2, k3, k4⟩ := canB_iff.mp J.1
      have k5 := J.2
      unfold jCom
      exact comK_lt2 (by unfold jA; omega) (by unfold jB jD; omega) (by unfold jC jE; omega)
    have A41 : jA a b c < 63 := by have := T.lA; have := T.s1; omega
    have Wl : (jSum a u b v c).natAbs < 2 ^ 504 := by
      have z := sumK_le (f := jT a u b v c) (tmK_le _ _ _ _ _) (jA a b c + 1)
      refine Nat.lt_of_le_of_lt z ?_
      have y : jA a b c + 1 < 2 ^ 6 := by omega
      have x := Nat.mul_lt_mul'' y cl
      rw [← Nat.pow_add] at x
      exact x
    have tl : topE (jAb a u b v c w) (jBe a b c) < 2 ^ 1163 := Nat.lt_of_le_of_lt (topE_le fun n hn => by have := la n hn; omega) (prodF_lt2 l42)
    have bl : botE (jAb a u b v c w) (jBe a b c) < 2 ^ 1500 := botE_lt h1 h2 h3
    have rl := rootE_lt (jAb a u b v c w) (jBe a b c)
    have bp := botE_pos (jAb a u b v c w) (jBe a b c)
    generalize topE (jAb a u b v c w) (jBe a b c) = t at tl ⊢
    generalize botE (jAb a u b v c w) (jBe a b c) = bo at bl bp ⊢
    generalize jSum a u b v c = W at Wl ⊢
    have rp := (rootE_sqF (jAb a u b v c w) (jBe a b c)).pos
    generalize rootE (jAb a u b v c w) (jBe a b c) = r at rl rp ⊢
    rw [Rat.divInt_mul_divInt, Int.one_mul]
    refine ⟨bo, bp, bl, ?_, by unfold oneQ; split <;> simp⟩
    have can := canon_oneQ ((r : Nat) : Int) (Rat.divInt (W * (t : Int)) (bo : Int))
    have lo := (TCM.low_abs (W * (t : Int)) (bo : Int) (by omega)).1
    rw [TCR.low_rat (W * (t : Int)) (bo : Int) (by omega)] at lo
    have mem : ∀ x ∈ oneQ ((r : Nat) : Int) (Rat.divInt (W * (t : Int)) (bo : Int)), x = (((r : Nat) : Int), Rat.divInt (W * (t : Int)) (bo : Int)) := fun x hx => by
      unfold oneQ at hx
      split at hx
      · cases hx
      · exact List.mem_singleton.mp hx
    refine ⟨can, fun x hx => ?_, fun x hx => ?_, fun x hx => ?_⟩
    · rw [mem x hx]
      exact den_divInt bp
    · rw [mem x hx]
      exact Nat.lt_of_le_of_lt lo (wide_lt Wl (nat_bits tl))
    · rw [mem x hx]
      show 0 < ((r : Nat) : Int) ∧ ((r : Nat) : Int).natAbs < 2 ^ 200
      exact ⟨by omega, by rw [Int.natAbs_natCast]; exact rl⟩
  · rw [if_neg J]
    exact ⟨1, by decide, by decide, ⟨TCR.canon_nil, (fun x hx => by cases hx), (fun x hx => by cases hx), (fun x hx => by cases hx)⟩, Nat.zero_le _⟩
section
variable {P : Program} {w : World} {K : PySem.W.Frag} {mg : Str → Option Value} {base : Heap} {f : Addr} {fd : FuncData} {C fI fQ : Addr}
/-! ### _law_is -/
def spIs (C : Addr) : Sp := fun vs H Q _ => ∃ (x d : Addr) (L : List Part) (ks : List Int), vs = [.ref x, .ref d] ∧ NumAt C H x L ∧ DictAt H d ks (TCR.val L) ∧ Clear ks (TCR.val L) ∧ ks.length ≤ 900 ∧ TCR.Canon L ∧ L.length ≤ 1 ∧ (∀ y ∈ L, SmallP y) ∧ ∀ H', Same H H' → Q (.bl true) H'
abbrev nIs : List Str := ["_law_number", "_law_due"]
end
end TC
namespace TC
set_option exponentiation.threshold 20000
open PySem PySem.Spec PyProof.Rows L2 TCA TCX
/-! ### the root of a small number, both ways -/
def sqfB (i : Nat) : Bool := (List.range 50).all fun d => decide (d * d ∣ i → d = 1)
theorem sqf_of {i : Nat} (h : sqfB i = true) (h1 : 0 < i) (h2 : i < 50) : SqF i := fun d hd => by
  have le : d * d ≤ i := Nat.le_of_dvd h1 hd
  have d50 : d < 50 := by
    rcases Nat.lt_or_ge d 50 with z | z
    · exact z
    · have := Nat.mul_le_mul z z
      omega
  exact of_decide_eq_true (List.all_eq_true.mp h d (List.mem_range.mpr d50)) hd
def sqO (n : Nat) : Nat := (TCM.sqOut (n : Int)).1.toNat
def sqI (n : Nat) : Nat := (TCM.sqOut (n : Int)).2.1.toNat
theorem sq42 : ∀ n : Nat, n < 42 → 0 < n → TCM.sqOut (n : Int) = ((sqO n : Int), (sqI n : Int), 1) ∧ sqO n * sqO n * sqI n = n ∧ 0 < sqO n ∧ sqO n < 8 ∧ 0 < sqI n ∧ sqI n < 42 ∧ sqfB (sqI n) = true := by decide +kernel
theorem sq_both {n sq fr : Nat} (h : n < 42) (h0 : 0 < n) (e : 1 * n = sq * sq * fr) (hf : SqF fr) : sq = sqO n ∧ fr = sqI n := by
  obtain ⟨_, e1, o0, _, i0, i1, hb⟩ := sq42 n h h0
  have e2 : sqO n * sqO n * sqI n = sq * sq * fr := by rw [e1, ← e, Nat.one_mul]
  obtain ⟨a, b⟩ := sq_uniq o0 (sqf_of hb i0 (by omega)) hf e2
  exact ⟨a.symm, b.symm⟩
theorem rootOk42 {n : Nat} (h : n < 42) (h0 : 0 < n) : RootOk (n : Int) := by
  obtain ⟨e, _, o0, o1, _, _, _⟩ := sq42 n h h0
  refine ⟨by omega, by omega, ?_, ?_, ?_⟩ <;> rw [e] <;> dsimp only <;> omega
/-- what a number is multiplied by -/
def sgT (a b w : Int) : Int := if ((a - b - w) / 2) % 2 = 1 then -1 else 1
def byT (c : Int) : Rat := Rat.divInt ((sqO (c + 1).toNat : Nat) : Int) (c + 1)
def threeL (a u b v c w : Int) : List Part := (joinL a u b v c (-w)).map fun x => (mulR x.1 ((sqI (c + 1).toNat : Nat) : Int), x.2 * (byT c * (sgT a b w : Int)) * ((gR x.1 ((sqI (c + 1).toNat : Nat) : Int) : Int) : Rat))
theorem sgT_ne (a b w : Int) : sgT a b w ≠ 0 := by
  unfold sgT
  split <;> decide
theorem mapL_val {L : List Part} {i : Int} {q : Rat} (hl : L.length ≤ 1) (u : Int) : TCR.val (L.map fun x => (mulR x.1 i, x.2 * q * ((gR x.1 i : Int) : Rat))) u = prodG (L.map (·.1)) [i] (TCR.val L) (fun s => if s = i then q else 0) u := by
  match L, hl with
  | [], _ => rfl
  | [x], _ =>
    show TCR.val [((mulR x.1 i, x.2 * q * ((gR x.1 i : Int) : Rat)) : Part)] u = prodG [x.1] [i] (TCR.val [x]) _ u
    rw [val_one]
    have e1 : TCR.val [x] x.1 = x.2 := by
      have := val_one x.1 x.1 x.2
      rw [if_pos rfl] at this
      exact this
    show _ = (((if mulR x.1 i = u then TCR.val [x] x.1 * (if i = i then q else 0) * ((gR x.1 i : Int) : Rat) else 0) + 0) + 0)
    rw [e1, if_pos rfl, Rat.add_zero, Rat.add_zero]
    by_cases h : u = mulR x.1 i
    · rw [if_pos h, if_pos h.symm]
    · rw [if_neg h, if_neg fun z => h z.symm]
theorem mapL_canon {L : List Part} {i : Int} {q : Rat} {D A R : Nat} (hl : L.length ≤ 1) (F : Fit D A R L) (hq : q ≠ 0) (hi : i ≠ 0) : TCR.Canon (L.map fun x => (mulR x.1 i, x.2 * q * ((gR x.1 i : Int) : Rat))) := by
  match L, hl with
  | [], _ => exact TCR.canon_nil
  | [x], _ =>
    refine TCR.canon_one ?_
    have h1 : x.2 ≠ 0 := F.can.nz x (by simp)
    have h2 : ((gR x.1 i : Int) : Rat) ≠ 0 := by
      intro z
      have z2 : gR x.1 i = 0 := by exact_mod_cast z
      unfold gR at z2
      have := Int.gcd_eq_zero_iff.mp (show Int.gcd x.1 i = 0 by omega)
      exact hi this.2
    intro z
    rcases Rat.mul_eq_zero.mp z with z | z
    · rcases Rat.mul_eq_zero.mp z with z | z
      · exact h1 z
      · exact hq z
    · exact h2 z
theorem mapL_small {L : List Part} {i : Int} {t b : Int} {D : Nat} (hl : L.length ≤ 1) (F : Fit D 1667 200 L) (D0 : 0 < D) (D1 : D < 2 ^ 1500) (hb : 0 < b) (b1 : b.natAbs < 2 ^ 6) (ht : t.natAbs < 2 ^ 6) (hi : 0 < i) (i1 : i.natAbs < 2 ^ 6) :
    ∀ y ∈ L.map (fun x => ((mulR x.1 i, x.2 * Rat.divInt t b * ((gR x.1 i : Int) : Rat)) : Part)), SmallP y := by
  match L, hl with
  | [], _ => exact fun y hy => by cases hy
  | [x], _ =>
    intro y hy
    rw [List.mem_singleton.mp hy]
    obtain ⟨r0, r1⟩ := F.pos x (by simp)
    have nx := F.num x (by simp)
    have dx := F.den x (by simp)
    have g1 : (gR x.1 i).natAbs < 2 ^ 6 := by
      unfold gR
      rw [Int.natAbs_natCast]
      exact Nat.lt_of_le_of_lt (Nat.le_of_dvd (by omega) (Int.gcd_dvd_natAbs_right x.1 i)) i1
    have e : x.2 * Rat.divInt t b * ((gR x.1 i : Int) : Rat) = Rat.divInt (x.2.num * t * gR x.1 i) ((x.2.den : Int) * b) := by
      have z1 := mul_frac x.2 t b
      have z2 := mul_frac x.2 t b
      have z3 : Rat.divInt (x.2.num * t) ((x.2.den : Int) * b) * Rat.divInt (gR x.1 i) 1 = Rat.divInt (x.2.num * t * gR x.1 i) ((x.2.den : Int) * b * 1) := Rat.divInt_mul_divInt ..
      rw [Int.mul_one, z1] at z3
      rw [← z3]
      congr 1
      exact (Rat.num_divInt_den ((gR x.1 i : Int) : Rat)).symm
    have dp := x.2.den_pos
    have b0 : (x.2.den : Int) * b ≠ 0 := Int.mul_ne_zero (by omega) (by omega)
    have lo := TCM.low_abs (x.2.num * t * gR x.1 i) ((x.2.den : Int) * b) b0
    rw [TCR.low_rat _ _ b0, ← e] at lo
    have xd : (x.2.den : Int).natAbs < 2 ^ 1500 := by
      rw [Int.natAbs_natCast]
      exact Nat.lt_of_le_of_lt (Nat.le_of_dvd D0 dx) D1
    refine ⟨?_, ?_, ?_⟩
    · exact Nat.lt_of_lt_of_le (mulR_pos (R := 200) r0 hi r1 (Nat.lt_of_lt_of_le i1 (Nat.pow_le_pow_right (by decide) (by decide)))).2 (Nat.pow_le_pow_right (by decide) (by decide))
    · exact Nat.lt_of_le_of_lt lo.1 (Nat.lt_of_lt_of_le (wide_lt (wide_lt nx ht) g1) (Nat.pow_le_pow_right (by decide) (by decide)))
    · have z := Nat.lt_of_le_of_lt lo.2 (wide_lt xd b1)
      rw [Int.natAbs_natCast] at z
      exact Nat.lt_of_lt_of_le z (Nat.pow_le_pow_right (by decide) (by decide))
section
variable {a u b v c w : Int}
theorem byT_sg (a b w : Int) (c0 : 0 ≤ c) : byT c * (sgT a b w : Int) = Rat.divInt (sgT a b w * ((sqO (c + 1).toNat : Nat) : Int)) (c + 1) := by
  unfold byT
  have e : ((sgT a b w : Int) : Rat) = Rat.divInt (sgT a b w) 1 := (Rat.num_divInt_den ((sgT a b w : Int) : Rat)).symm
  rw [e, Rat.divInt_mul_divInt, Int.mul_one, Int.mul_comm]
theorem three_facts (h1 : PairP a u) (h2 : PairP b v) (h3 : PairP c w) : TCR.Canon (threeL a u b v c w) ∧ (threeL a u b v c w).length ≤ 1 ∧ (∀ y ∈ threeL a u b v c w, SmallP y) ∧
    ∀ r, TCR.val (threeL a u b v c w) r = prodG ((joinL a u b v c (-w)).map (·.1)) [((sqI (c + 1).toNat : Nat) : Int)] (TCR.val (joinL a u b v c (-w))) (fun s => if s = ((sqI (c + 1).toNat : Nat) : Int) then byT c * (sgT a b w : Int) else 0) r := by
  have c0 := h3.t0
  have c1 := h3.t1
  have h3' : PairP c (-w) := ⟨h3.t0, h3.t1, by have := h3.hi; omega, by have := h3.lo; omega, by have := h3.ev; omega⟩
  obtain ⟨D, D0, D1, F, l⟩ := join_fit h1 h2 h3'
  obtain ⟨_, e1, o0, o1, i0, i1, _⟩ := sq42 (c + 1).toNat (by omega) (by omega)
  have bs := byT_sg (c := c) a b w c0
  have sg0 := sgT_ne a b w
  have qne : byT c * (sgT a b w : Int) ≠ 0 := by
    rw [bs]
    exact divInt_ne (by omega) (Int.mul_ne_zero sg0 (by omega))
  refine ⟨mapL_canon l F qne (by omega), ?_, ?_, mapL_val l⟩
  · unfold threeL
    rw [List.length_map]
    exact l
  · unfold threeL
    rw [bs]
    refine mapL_small l F D0 D1 (by omega) ?_ ?_ (by omega) ?_
    · have : (c + 1).natAbs < 64 := by omega
      exact this
    · rw [Int.natAbs_mul, Int.natAbs_natCast]
      have : (sgT a b w).natAbs = 1 := by
        unfold sgT
        split <;> rfl
      rw [this, Nat.one_mul]
      have : sqO (c + 1).toNat < 64 := by omega
      exact this
    · rw [Int.natAbs_natCast]
      have : sqI (c + 1).toNat < 64 := by omega
      exact this
end
section
variable {P : Program} {w : World} {K : PySem.W.Frag} {mg : Str → Option Value} {base : Heap} {f : Addr} {fd : FuncData} {C fI fQ : Addr}
/-! ### three_number -/
def spThreeN (C : Addr) : Sp := fun vs H Q _ => ∃ (p1 p2 p3 : Addr) (a u b v c w : Int), vs = [.ref p1, .ref p2, .ref p3] ∧ H p1 = some (pairO (a, u)) ∧ H p2 = some (pairO (b, v)) ∧ H p3 = some (pairO (c, w)) ∧ PairP a u ∧ PairP b v ∧ PairP c w ∧
  ∀ x H', Same H H' → NumAt C H' x (threeL a u b v c w) → Q (.ref x) H'
abbrev nThreeN : List Str := ["one", "other", "third", "a", "u", "b", "v", "c", "w", "number"]
end
end TC
/-! isinstance of a kept exception and a tuple of classes; promises joined. -/
namespace TCX
open PySem PySem.Spec PyProof.Rows L2
section
variable {X : Cx}
def rIsVT (K : PySem.W.Frag) : List V → Hp → VK → Prop := fun xs H Q => ∃ (a D tp : Addr) (cs : List V) (us : List Value) (b : Bool), xs = [.ref a, .ref tp] ∧ H a = some (ExV (.ref D) none a) ∧ ExcC K D ∧ H tp = some (.tup cs) ∧ Paired ClsV cs us ∧ PySem.W.kitAny K (.ref D) us = some b ∧ Q (.bl b) H
theorem call_isVT : CallR X (.builtin "isinstance") (rIsVT X.K) := by
  intro pins s σ H xs us Q I r h
  obtain ⟨a, D, tp, cs, ws, b, rfl, hH, C, hT, k, e, q⟩ := h
  obtain ⟨u1, u2, rfl, r1, r2⟩ := vals2 r
  cases (show u2 = Value.ref tp from r2)
  cases (show u1 = Value.ref a from r1)
  obtain ⟨oe, J⟩ := inst_of I hH
  obtain ⟨_, its, rv, o, h1, h2, n, h3⟩ := (show ObjOk X.prog X.w H s.heap tp (.tup cs) from I.hok tp _ hT)
  have e3 := ClsV.all k rv
  subst e3
  obtain ⟨oc, od, dt, sl⟩ := o
  simp only at h2 h3
  subst h2 h3
  exact PySem.W.kia_tup (PySem.W.handS_kitx_exc C.hg C.hk C.hs C.hd C.ha C.hn C.ht C.hm) I.kIn J h1 e (fun z => nomatch z) fun tk => ⟨.bl b, H, I.tok tk, rfl, q⟩
end
section
variable {P : Program} {w : World} {K : PySem.W.Frag} {mg : Str → Option Value} {base : Heap} {k : Nat} {f : Addr} {fd : FuncData} {ps : List Str} {sp sq : Sp}
/-- a def that lets nothing out may be asked where something might -/
theorem lift0 (F : FnOk P w K mg base CX0 k f fd ps sp) : FnOk P w K mg base (L2.CX P w) k f fd ps sp := by
  refine ⟨F.len, fun A outer s H args us vs Q E hr he hb hv hs => codeAny_mono (F.run A outer s H args us vs Q E hr he hb hv hs) fun r s' hq => ?_⟩
  match r, hq with
  | .error u, hq => exact (show False from hq).elim
  | .ok (.ret u), hq => exact hq
  | .ok .next, hq => exact hq
  | .ok .brk, hq => exact hq
  | .ok .cont, hq => exact hq
/-- two promises of one def -/
theorem both {CX : CXT} (F : FnOk P w K mg base CX k f fd ps sp) (G : FnOk P w K mg base CX k f fd ps sq) : FnOk P w K mg base CX k f fd ps (fun vs H Q E => sp vs H Q E ∨ sq vs H Q E) := by
  refine ⟨fun vs H Q E h => h.elim (F.len vs H Q E) (G.len vs H Q E), fun A outer s H args us vs Q E hr he hb hv hs => ?_⟩
  rcases hs with h | h
  · exact F.run A outer s H args us vs Q E hr he hb hv h
  · exact G.run A outer s H args us vs Q E hr he hb hv h
end
end TCX
namespace TCX
open PySem PySem.Spec PyProof.Rows L2
section
variable {prog : Program} {w : World} {A : Around} {E : Value → Shared → Prop} {s : Shared} {t : Addr} {xs : Array (Int × Tok)}
/-- what a new tuple iterator leaves -/
theorem tup_kept {h' : Heap} (hk : ∀ b o, b ∉ [s.heap.objs.size] → (s.heap.push { cls := .type "tuple_iterator", data := .fields #[.ref t, .int 0 0] }).get? b = some o → h'.get? b = some o) :
    ∀ b o, s.heap.get? b = some o → h'.get? b = some o := fun b o e => by
  refine hk b o (fun hm => ?_) (Heap.get?_push_of_some _ e)
  have := Heap.lt_size e
  rw [List.mem_singleton.mp hm] at this
  exact Nat.lt_irrefl _ this
theorem tup_below (ht : s.heap.IsTuple t (intItems xs)) : t ≠ s.heap.objs.size ∧ ∀ b ∈ [s.heap.objs.size, t], b < (s.heap.push { cls := .type "tuple_iterator", data := .fields #[.ref t, .int 0 0] }).objs.size := by
  obtain ⟨_, e, _⟩ := ht
  have hlt := Heap.lt_size e
  refine ⟨Nat.ne_of_lt hlt, fun b hb => ?_⟩
  rw [Heap.size_push]
  rcases List.mem_cons.mp hb with z | z
  · omega
  · rw [List.mem_singleton.mp z]
    exact Nat.lt_succ_of_lt hlt
theorem sum_tup {Q : Value → Shared → Prop} (hh : A.handled = none) (ht : s.heap.IsTuple t (intItems xs))
    (h : ∀ h' tk t', (∀ b o, s.heap.get? b = some o → h'.get? b = some o) → Q (.int (preSum (numAt xs) xs.size) t') { s with heap := h', toks := tk }) :
    wpAny (model prog w) A (call (.builtin "sum") [.ref t]) Q E s := by
  obtain ⟨hne, hb⟩ := tup_below ht
  refine call_sum_walkG (wpAny_pyIter_tuple ht ?_)
  refine ⟨_, [_, t], [_], _, _, _, numAt xs, rfl, Walks.tuple (A := A.in1) hh _ t hne (intItems xs), ⟨⟨_, Heap.get?_push_size _ rfl, rfl, rfl⟩, ht.push _⟩, hb, (fun _ _ => intItems_at), fun h' tk t' hk => ?_⟩
  have := h h' tk t' (tup_kept hk)
  simpa [intItems] using this
theorem max_tup {Q : Value → Shared → Prop} (hh : A.handled = none) (ht : s.heap.IsTuple t (intItems xs)) (hp : 0 < xs.size)
    (h : ∀ v h' tk, (intItems xs)[argBest (fun i j => decide (numAt xs i > numAt xs j)) (xs.size - 1)]? = some v → (∀ b o, s.heap.get? b = some o → h'.get? b = some o) → Q v { s with heap := h', toks := tk }) :
    wpAny (model prog w) A (call (.builtin "max") [.ref t]) Q E s := by
  obtain ⟨hne, hb⟩ := tup_below ht
  refine call_max_walk (wpAny_pyIter_tuple ht ?_)
  refine ⟨_, [_, t], [_], _, _, _, _, rfl, Walks.tuple (A := A.in1) hh _ t hne (intItems xs), ⟨⟨_, Heap.get?_push_size _ rfl, rfl, rfl⟩, ht.push _⟩, hb, by simpa [intItems] using hp, CmpOf.ints_gt (numAt xs) (fun _ _ => intItems_at), fun v h' tk hP hk => ?_⟩
  exact h v h' tk (by simpa [intItems] using hP) (tup_kept hk)
end
section
variable {X : Cx}
/-- sum(t), max(t) of a tuple of whole numbers -/
def rSumT (K : PySem.W.Frag) : List V → Hp → VK → Prop := fun vs H Q => ∃ (a : Addr) (ns : List Int), vs = [V.ref a] ∧ SqT K H a (ns.map V.int) ∧ Q (.int ns.sum) H
def rMaxT (K : PySem.W.Frag) : List V → Hp → VK → Prop := fun vs H Q => ∃ (a : Addr) (ns : List Int), vs = [V.ref a] ∧ SqT K H a (ns.map V.int) ∧ 0 < ns.length ∧ ∀ m, m ∈ ns → (∀ y, y ∈ ns → y ≤ m) → Q (.int m) H
theorem cr_sumT (hc : X.calm = true) : CallR X (.builtin "sum") (rSumT X.K) := by
  intro pins s σ H vs us Q I r h
  obtain ⟨a, ns, rfl, hs, q⟩ := h
  obtain ⟨its, rv, ht, _⟩ := I.tuple hs
  rw [Vals.ref1 r]
  have hi := rv.ints
  obtain ⟨xs, e⟩ := hi.allInts.items
  have hn : numsOf (intItems xs).toList = ns := by rw [← e]; exact hi.numsOf
  rw [nums_intItems] at hn
  rw [e] at ht
  refine sum_tup (I.ok.hd hc) ht fun h' tk t' hk => ?_
  rw [preSum_eq, List.take_of_length_le (by simp), hn]
  exact ⟨.int _, H, I.kept hk, ⟨_, rfl⟩, q⟩
theorem cr_maxT (hc : X.calm = true) : CallR X (.builtin "max") (rMaxT X.K) := by
  intro pins s σ H vs us Q I r h
  obtain ⟨a, ns, rfl, hs, hne, q⟩ := h
  obtain ⟨its, rv, ht, _⟩ := I.tuple hs
  rw [Vals.ref1 r]
  have hi := rv.ints
  obtain ⟨xs, e⟩ := hi.allInts.items
  have hn : numsOf (intItems xs).toList = ns := by rw [← e]; exact hi.numsOf
  rw [nums_intItems] at hn
  subst hn
  rw [e] at ht
  have hsz : 0 < xs.size := by simpa using hne
  refine max_tup (I.ok.hd hc) ht hsz fun v h' tk hv hk => ?_
  obtain ⟨t, rfl⟩ := intItems_at hv
  obtain ⟨h1, h2⟩ := argBest_gt (numAt xs) (xs.size - 1)
  refine ⟨.int _, H, I.kept hk, ⟨_, rfl⟩, q _ ?_ fun y hy => ?_⟩
  · rw [numAt_eq]
    exact PySem.getD_mem (by rw [List.length_map, Array.length_toList]; omega)
  · obtain ⟨j, hj, rfl⟩ := mem_getD hy
    rw [List.length_map, Array.length_toList] at hj
    rw [← numAt_eq]
    exact h2 j (by omega)
end
end TCX
namespace TC
open PySem PySem.Spec PyProof.Rows L2 TCA TCX
def iv (ns : List Int) : HO := .tup (ns.map V.int)
/-- the four triangles of six sizes -/
def QuadT (H : Hp) (r : Addr) (a b c d e f : Int) : Prop := ∃ t1 t2 t3 t4, H r = some (.tup [.ref t1, .ref t2, .ref t3, .ref t4]) ∧ H t1 = some (iv [a, b, c]) ∧ H t2 = some (iv [a, e, f]) ∧ H t3 = some (iv [d, b, f]) ∧ H t4 = some (iv [d, e, c])
def Jn (a b c d e f : Int) : Bool := canB a b c && (canB a e f && (canB d b f && canB d e c))
def firstJ (a b c d e f : Int) : Option Nat := [canB a b c, canB a e f, canB d b f, canB d e c].findIdx? (!·)
theorem first_at : ∀ {L : List Bool} {i : Nat}, (L.take i).all id = true → L[i]? = some false → L.findIdx? (!·) = some i
  | [], i, _, e => by simp at e
  | b :: L, 0, _, e => by
    have : b = false := by simpa using e
    subst this
    rfl
  | b :: L, i + 1, h, e => by
    have hb : b = true ∧ (L.take i).all id = true := by simpa using h
    obtain ⟨rfl, h2⟩ := hb
    have z := first_at (L := L) (i := i) h2 (by simpa using e)
    rw [List.findIdx?_cons]
    simp [z]
theorem first_none {a b c d e f : Int} : firstJ a b c d e f = none ↔ Jn a b c d e f = true := by
  unfold firstJ Jn
  cases canB a b c <;> cases canB a e f <;> cases canB d b f <;> cases canB d e c <;> simp [List.findIdx?_cons]
section
variable {P : Program} {w : World} {K : PySem.W.Frag} {mg : Str → Option Value} {base : Heap} {f : Addr} {fd : FuncData}
/-! ### triangles_of -/
def spTri : Sp := fun vs H Q _ => ∃ (t : Addr) (a b c d e g : Int), vs = [.ref t] ∧ H t = some (iv [a, b, c, d, e, g]) ∧ ∀ r H', Same H H' → H r = none → QuadT H' r a b c d e g → Q (.ref r) H'
/-! ### first_not_joined -/
def spFirst : Sp := fun vs H Q _ => ∃ (r : Addr) (a b c d e g : Int), vs = [.ref r] ∧ QuadT H r a b c d e g ∧ (Jn a b c d e g = true → ∀ H', Same H H' → Q .non H') ∧ (∀ k : Nat, firstJ a b c d e g = some k → ∀ H', Same H H' → Q (.int (k : Int)) H')
end
end TC
namespace TC
open PySem PySem.Spec PyProof.Rows L2 TCA TCX
def quad (a b c d e f : Int) : List (List Int) := [[a, b, c], [a, e, f], [d, b, f], [d, e, c]]
def lows (a b c d e f : Int) : List Int := (quad a b c d e f).map fun l => l.sum / 2
def opps (a b c d e f : Int) : List Int := [(a + b + d + e) / 2, (b + c + e + f) / 2, (c + a + f + d) / 2]
def Srt (L M : List Int) : Prop := L.Perm M ∧ L.Pairwise (· ≤ ·)
theorem Srt.eq {L L' M : List Int} (h : Srt L M) (h' : Srt L' M) : L = L' := List.Perm.eq_of_pairwise (fun a b _ _ h1 h2 => Int.le_antisymm h1 h2) h.2 h'.2 (h.1.trans h'.1.symm)
/-- the pair of two rising tuples -/
def FormT (H : Hp) (r : Addr) (L1 L2 : List Int) : Prop := ∃ r1 r2, H r = some (.tup [.ref r1, .ref r2]) ∧ H r1 = some (iv L1) ∧ H r2 = some (iv L2)
theorem FormT.same {H H' : Hp} {r : Addr} {L1 L2 : List Int} (h : FormT H r L1 L2) (s : Same H H') : FormT H' r L1 L2 := by
  obtain ⟨r1, r2, a, b, c⟩ := h
  exact ⟨r1, r2, s _ _ a, s _ _ b, s _ _ c⟩
section
variable {P : Program} {w : World} {K : PySem.W.Frag} {mg : Str → Option Value} {base : Heap} {f : Addr} {fd : FuncData}
/-! ### form_of -/
def spForm : Sp := fun vs H Q _ => ∃ (t : Addr) (a b c d e g : Int), vs = [.ref t] ∧ H t = some (iv [a, b, c, d, e, g]) ∧ ∀ r L1 L2 H', Same H H' → H r = none → Srt L1 (lows a b c d e g) → Srt L2 (opps a b c d e g) → FormT H' r L1 L2 → Q (.ref r) H'
abbrev nForm : List Str := ["sizes", "a", "b", "c", "d", "e", "f", "triangles", "opposites", "triangle"]
end
end TC
namespace TCX
/-! the sum of joined numbers: one step up -/
/-- 1 / n!, 0 below 0 -/
def inv (n : Int) : Rat := if n < 0 then 0 else (((factN n.toNat : Nat) : Int) : Rat)⁻¹
theorem inv_step (n : Int) : inv (n - 1) = (n : Rat) * inv n := by
  unfold inv
  by_cases h : n < 0
  · rw [if_pos h, if_pos (by omega), Rat.mul_zero]
  · rw [if_neg h]
    by_cases h0 : n = 0
    · subst h0
      rw [if_pos (by decide)]
      grind
    · rw [if_neg (by omega)]
      obtain ⟨m, rfl⟩ : ∃ m : Nat, n = (m : Int) + 1 := ⟨(n - 1).toNat, by omega⟩
      rw [show ((m : Int) + 1 - 1).toNat = m by omega, show ((m : Int) + 1).toNat = m + 1 by omega]
      have e : factN (m + 1) = (m + 1) * factN m := rfl
      have p := fact_pos m
      have q : (((factN m : Nat) : Int) : Rat) ≠ 0 := by
        intro z
        have z2 : ((factN m : Nat) : Int) = 0 := by exact_mod_cast z
        omega
      have q2 : (((m : Int) + 1 : Int) : Rat) ≠ 0 := by
        intro z
        have z2 : (m : Int) + 1 = 0 := by exact_mod_cast z
        omega
      rw [e]
      have e2 : ((((m + 1) * factN m : Nat) : Int) : Rat) = (((m : Int) + 1 : Int) : Rat) * (((factN m : Nat) : Int) : Rat) := by
        push_cast
        rfl
      rw [e2]
      generalize (((m : Int) + 1 : Int) : Rat) = x at *
      generalize (((factN m : Nat) : Int) : Rat) = y at *
      rw [Rat.inv_mul_rev]
      grind
def sgR (k : Int) : Rat := if k % 2 = 1 then -1 else 1
theorem sgR_succ (k : Int) : sgR (k + 1) = - sgR k := by
  unfold sgR
  by_cases h : k % 2 = 1
  · rw [if_pos h, if_neg (by omega)]
    grind
  · rw [if_neg h, if_pos (by omega)]
/-- one term -/
def tau (A B C D E k : Int) : Rat := sgR k * inv k * inv (A - k) * inv (B - k) * inv (C - k) * inv (D + k) * inv (E + k)
def gee (A B C D E k : Int) : Rat := sgR k * inv (k - 1) * inv (A - k) * inv (B + 1 - k) * inv (C - k) * inv (D + k - 1) * inv (E + k)
theorem tau_step (A B C D E k : Int) : ((B + 1 : Int) : Rat) * tau A (B + 1) C (D - 1) E k + ((E + A + 1 : Int) : Rat) * tau A B (C - 1) D (E + 1) k - ((C + D : Int) : Rat) * tau A B C D E k = gee A B C D E k - gee A B C D E (k + 1) := by
  unfold tau gee
  rw [sgR_succ, show k + 1 - 1 = k by omega, inv_step k, show A - (k + 1) = (A - k) - 1 by omega, inv_step (A - k), show B + 1 - (k + 1) = (B + 1 - k) - 1 by omega, show B - k = (B + 1 - k) - 1 by omega, inv_step (B + 1 - k), show C - (k + 1) = (C - k) - 1 by omega, show C - 1 - k = (C - k) - 1 by omega, inv_step (C - k), show D - 1 + k = (D + k) - 1 by omega, show D + (k + 1) - 1 = D + k by omega, inv_step (D + k), show E + 1 + k = E + k + 1 by omega, show E + (k + 1) = E + k + 1 by omega, show inv (E + k) = ((E + k + 1 : Int) : Rat) * inv (E + k + 1) from by rw [← inv_step, show E + k + 1 - 1 = E + k by omega]]
  generalize inv k = i0
  generalize inv (A - k) = iA
  generalize inv (B + 1 - k) = b1
  generalize inv (C - k) = c0
  generalize inv (D + k) = d0
  generalize inv (E + k + 1) = e1
  generalize sgR k = s
  push_cast
  generalize (A : Rat) = a'
  generalize (B : Rat) = b'
  generalize (C : Rat) = c'
  generalize (D : Rat) = d'
  generalize (E : Rat) = e'
  generalize (k : Rat) = k'
  grind
def sumR (f : Nat → Rat) : Nat → Rat
  | 0 => 0
  | n + 1 => sumR f n + f n
theorem tau_sum (A B C D E : Int) : ∀ n : Nat, ((B + 1 : Int) : Rat) * sumR (fun k => tau A (B + 1) C (D - 1) E k) n + ((E + A + 1 : Int) : Rat) * sumR (fun k => tau A B (C - 1) D (E + 1) k) n - ((C + D : Int) : Rat) * sumR (fun k => tau A B C D E k) n = gee A B C D E 0 - gee A B C D E n
  | 0 => by
    show _ * (0 : Rat) + _ * (0 : Rat) - _ * (0 : Rat) = gee A B C D E 0 - gee A B C D E ((0 : Nat) : Int)
    rw [show ((0 : Nat) : Int) = 0 from rfl]
    grind
  | n + 1 => by
    have h := tau_sum A B C D E n
    have t := tau_step A B C D E (n : Int)
    show _ * (sumR _ n + tau A (B + 1) C (D - 1) E n) + _ * (sumR _ n + tau A B (C - 1) D (E + 1) n) - _ * (sumR _ n + tau A B C D E n) = gee A B C D E 0 - gee A B C D E ((n : Int) + 1)
    grind
/-- the step up of the sums -/
theorem tau_up (A : Nat) (B C D E : Int) : ((C + D : Int) : Rat) * sumR (fun k => tau A B C D E k) (A + 1) = ((B + 1 : Int) : Rat) * sumR (fun k => tau A (B + 1) C (D - 1) E k) (A + 1) + ((E + A + 1 : Int) : Rat) * sumR (fun k => tau A B (C - 1) D (E + 1) k) (A + 1) := by
  have h := tau_sum A B C D E (A + 1)
  have i1 : inv (-1) = 0 := rfl
  have g0 : gee A B C D E 0 = 0 := by
    unfold gee
    rw [show (0 : Int) - 1 = -1 by rfl, i1]
    grind
  have g1 : gee A B C D E ((A + 1 : Nat) : Int) = 0 := by
    unfold gee
    rw [show (A : Int) - ((A + 1 : Nat) : Int) = -1 by omega, i1]
    grind
  rw [g0, g1] at h
  grind
end TCX
namespace TCX
theorem inv_nat {n : Int} (h : 0 ≤ n) : inv n = (((factN n.toNat : Nat) : Int) : Rat)⁻¹ := if_neg (by omega)
theorem inv_neg {n : Int} (h : n < 0) : inv n = 0 := if_pos h
theorem divInt_inv (x : Int) (n : Nat) : Rat.divInt x (n : Int) = (x : Rat) * (((n : Int) : Rat))⁻¹ := by
  rw [Rat.divInt_eq_div, Rat.div_def]
theorem sgR_nat (k : Nat) : sgR (k : Int) = ((sgK k : Int) : Rat) := by
  unfold sgR sgK
  by_cases h : k % 2 = 1
  · rw [if_pos h, if_pos (by omega)]
    rfl
  · rw [if_neg h, if_neg (by omega)]
    rfl
theorem tau_tm (A B C : Nat) (D E : Int) (k : Nat) : tau A B C D E k = Rat.divInt (tmK A B C D E k) ((comK A B C D E : Nat) : Int) := by
  by_cases h : okK A B C D E k = true
  · rw [← frac_com h, divInt_inv]
    obtain ⟨h1, h2, h3, h4, h5⟩ := of_decide_eq_true h
    unfold tau
    rw [sgR_nat, inv_nat (n := (k : Int)) (by omega), inv_nat (n := (A : Int) - k) (by omega), inv_nat (n := (B : Int) - k) (by omega), inv_nat (n := (C : Int) - k) (by omega), inv_nat (n := D + k) h4, inv_nat (n := E + k) h5]
    rw [show ((k : Int)).toNat = k by omega, show ((A : Int) - k).toNat = A - k by omega, show ((B : Int) - k).toNat = B - k by omega, show ((C : Int) - k).toNat = C - k by omega]
    unfold botK
    simp only [Int.natCast_mul, Rat.intCast_mul, Rat.inv_mul_rev]
    grind
  · have e : tmK A B C D E k = 0 := if_neg h
    rw [e, Rat.zero_divInt]
    have h' : ¬ (k ≤ A ∧ k ≤ B ∧ k ≤ C ∧ 0 ≤ D + k ∧ 0 ≤ E + k) := fun z => h (decide_eq_true z)
    unfold tau
    by_cases h1 : k ≤ A
    rotate_left
    · rw [inv_neg (n := (A : Int) - k) (by omega)]
      grind
    by_cases h2 : k ≤ B
    rotate_left
    · rw [inv_neg (n := (B : Int) - k) (by omega)]
      grind
    by_cases h3 : k ≤ C
    rotate_left
    · rw [inv_neg (n := (C : Int) - k) (by omega)]
      grind
    by_cases h4 : 0 ≤ D + k
    rotate_left
    · rw [inv_neg (n := D + k) (by omega)]
      grind
    rw [inv_neg (n := E + k) (by omega)]
    grind
theorem tau_sums (A B C : Nat) (D E : Int) : ∀ n, sumR (fun k => tau A B C D E k) n = Rat.divInt (sumK (tmK A B C D E) n) ((comK A B C D E : Nat) : Int)
  | 0 => by
    rw [show sumK (tmK A B C D E) 0 = 0 from rfl, Rat.zero_divInt]
    rfl
  | n + 1 => by
    have c0 := comK_pos A B C D E
    rw [sumK_succ, ← divInt_sum _ _ (by omega), ← tau_sums A B C D E n, ← tau_tm]
    rfl
theorem tau_none (A B : Int) (D E : Int) : ∀ n : Nat, sumR (fun k => tau A B (-1) D E k) n = 0
  | 0 => rfl
  | n + 1 => by
    show sumR _ n + tau A B (-1) D E n = 0
    rw [tau_none A B D E n]
    unfold tau
    rw [inv_neg (n := -1 - (n : Int)) (by omega)]
    grind
/-- whole numbers: the sum of a step is that of both steps below -/
def smK (A B : Nat) (C : Int) (D E : Int) : Int := if C < 0 then 0 else sumK (tmK A B C.toNat D E) (A + 1)
theorem sum_up (A B C : Nat) (D E : Int) : ((C : Int) + D) * sumK (tmK A B C D E) (A + 1) = ((B : Int) + 1) * sumK (tmK A (B + 1) C (D - 1) E) (A + 1) + (E + A + 1) * smK A B ((C : Int) - 1) D (E + 1) := by
  have c0 := comK_pos A B C D E
  have e1 : comK A (B + 1) C (D - 1) E = comK A B C D E := by
    unfold comK
    rw [show (((B + 1 : Nat) : Int) + (D - 1)) = (B : Int) + D by omega]
  have h := tau_up A (B : Int) (C : Int) D E
  have h1 := tau_sums A B C D E (A + 1)
  have h2 := tau_sums A (B + 1) C (D - 1) E (A + 1)
  rw [e1] at h2
  have h2' : sumR (fun k => tau A ((B : Int) + 1) C (D - 1) E k) (A + 1) = Rat.divInt (sumK (tmK A (B + 1) C (D - 1) E) (A + 1)) ((comK A B C D E : Nat) : Int) := h2
  have h3 : sumR (fun k => tau A B ((C : Int) - 1) D (E + 1) k) (A + 1) = Rat.divInt (smK A B ((C : Int) - 1) D (E + 1)) ((comK A B C D E : Nat) : Int) := by
    unfold smK
    by_cases hc : C = 0
    · subst hc
      rw [if_pos (by decide), Rat.zero_divInt]
      exact tau_none A B D (E + 1) (A + 1)
    · obtain ⟨m, rfl⟩ : ∃ m, C = m + 1 := ⟨C - 1, by omega⟩
      have e2 : comK A B m D (E + 1) = comK A B (m + 1) D E := by
        unfold comK
        rw [show ((m : Int) + (E + 1)) = ((m + 1 : Nat) : Int) + E by omega]
      have h4 := tau_sums A B m D (E + 1) (A + 1)
      rw [e2] at h4
      rw [if_neg (by omega), show (((m + 1 : Nat) : Int) - 1) = (m : Int) by omega, Int.toNat_natCast]
      exact h4
  rw [h1, h2', h3, divInt_inv, divInt_inv, divInt_inv] at h
  have cr : (((comK A B C D E : Nat) : Int) : Rat) ≠ 0 := by
    intro z
    have z2 : ((comK A B C D E : Nat) : Int) = 0 := by exact_mod_cast z
    omega
  have key : (((C : Int) + D : Int) : Rat) * ((sumK (tmK A B C D E) (A + 1) : Int) : Rat) = (((B : Int) + 1 : Int) : Rat) * ((sumK (tmK A (B + 1) C (D - 1) E) (A + 1) : Int) : Rat) + ((E + A + 1 : Int) : Rat) * ((smK A B ((C : Int) - 1) D (E + 1) : Int) : Rat) := by
    generalize (((comK A B C D E : Nat) : Int) : Rat) = y at *
    generalize ((sumK (tmK A B C D E) (A + 1) : Int) : Rat) = x1 at *
    generalize ((sumK (tmK A (B + 1) C (D - 1) E) (A + 1) : Int) : Rat) = x2 at *
    generalize ((smK A B ((C : Int) - 1) D (E + 1) : Int) : Rat) = x3 at *
    generalize (((C : Int) + D : Int) : Rat) = n1 at *
    generalize (((B : Int) + 1 : Int) : Rat) = n2 at *
    generalize ((E + A + 1 : Int) : Rat) = n3 at *
    grind
  exact_mod_cast key
/-! the step down: the same with both sides exchanged -/
theorem okK_swap (A B C : Nat) (D E : Int) (k : Nat) : okK A B C D E k = okK A C B E D k := by
  unfold okK
  exact decide_eq_decide.mpr ⟨fun ⟨h1, h2, h3, h4, h5⟩ => ⟨h1, h3, h2, h5, h4⟩, fun ⟨h1, h2, h3, h4, h5⟩ => ⟨h1, h3, h2, h5, h4⟩⟩
theorem comK_swap (A B C : Nat) (D E : Int) : comK A B C D E = comK A C B E D := by
  unfold comK
  rw [Nat.mul_assoc, Nat.mul_comm (factN ((B : Int) + D).toNat), ← Nat.mul_assoc]
theorem botK_swap (A B C : Nat) (D E : Int) (k : Nat) : botK A B C D E k = botK A C B E D k := by
  unfold botK
  generalize factN k * factN (A - k) = x
  generalize factN (B - k) = y1
  generalize factN (C - k) = y2
  generalize factN (D + k).toNat = y3
  generalize factN (E + k).toNat = y4
  simp only [Nat.mul_assoc, Nat.mul_left_comm, Nat.mul_comm]
theorem tmK_swap (A B C : Nat) (D E : Int) : tmK A B C D E = tmK A C B E D := by
  funext k
  unfold tmK
  rw [okK_swap, comK_swap, botK_swap]
def smB (A : Nat) (B : Int) (C : Nat) (D E : Int) : Int := if B < 0 then 0 else sumK (tmK A B.toNat C D E) (A + 1)
theorem sum_down (A B C : Nat) (D E : Int) : ((B : Int) + E) * sumK (tmK A B C D E) (A + 1) = ((C : Int) + 1) * sumK (tmK A B (C + 1) D (E - 1)) (A + 1) + (D + A + 1) * smB A ((B : Int) - 1) C (D + 1) E := by
  have h := sum_up A C B E D
  rw [tmK_swap A C B E D, tmK_swap A (C + 1) B (E - 1) D] at h
  have e : smK A C ((B : Int) - 1) E (D + 1) = smB A ((B : Int) - 1) C (D + 1) E := by
    unfold smK smB
    rw [tmK_swap]
  rw [e] at h
  exact h
end TCX
namespace TCX
theorem SqF.cop {a b : Nat} (c : Nat.Coprime a b) (ha : SqF a) (hb : SqF b) : SqF (a * b) := fun d hd => by
  have d1 : d ∣ a * b := Nat.dvd_trans (Nat.dvd_mul_right d d) hd
  have e : d = Nat.gcd d a * Nat.gcd d b := by
    have z := Nat.Coprime.gcd_mul d c
    rw [Nat.gcd_eq_left d1] at z
    exact z
  have hx : Nat.gcd d a = 1 := by
    refine ha _ ?_
    have x1 : Nat.gcd d a * Nat.gcd d a ∣ a * b := Nat.dvd_trans (Nat.mul_dvd_mul (Nat.gcd_dvd_left d a) (Nat.gcd_dvd_left d a)) hd
    have c1 : Nat.Coprime (Nat.gcd d a) b := Nat.Coprime.coprime_dvd_left (Nat.gcd_dvd_right d a) c
    exact Nat.Coprime.dvd_of_dvd_mul_right (Nat.Coprime.mul_left c1 c1) x1
  have hy : Nat.gcd d b = 1 := by
    refine hb _ ?_
    have x1 : Nat.gcd d b * Nat.gcd d b ∣ a * b := Nat.dvd_trans (Nat.mul_dvd_mul (Nat.gcd_dvd_left d b) (Nat.gcd_dvd_left d b)) hd
    have c1 : Nat.Coprime (Nat.gcd d b) a := Nat.Coprime.coprime_dvd_left (Nat.gcd_dvd_right d b) c.symm
    exact Nat.Coprime.dvd_of_dvd_mul_left (Nat.Coprime.mul_left c1 c1) x1
  rw [hx, hy] at e
  exact e
theorem SqF.mulR {a b : Nat} (ha : SqF a) (hb : SqF b) : SqF (a / Nat.gcd a b * (b / Nat.gcd a b)) := by
  have a0 := ha.pos
  have g0 : 0 < Nat.gcd a b := Nat.gcd_pos_of_pos_left _ a0
  exact SqF.cop (Nat.coprime_div_gcd_div_gcd g0) (ha.dvd (Nat.div_dvd_of_dvd (Nat.gcd_dvd_left a b))) (hb.dvd (Nat.div_dvd_of_dvd (Nat.gcd_dvd_right a b)))
/-- a root times a joined number's root: one root for all that differ by squares -/
theorem root_times {ab ab0 be : List Nat} (h1 : ∀ n ∈ ab, n < 123) (h2 : ∀ n ∈ ab0, n < 123) (h3 : ∀ n ∈ be, n < 123) {N sq fr f : Nat} (hN : N * 1 = sq * sq * fr) (hf : SqF fr) (sq0 : 0 < sq) (hP : N * prodF ab = f * f * prodF ab0) (f0 : 0 < f) :
    fr / Nat.gcd fr (rootE ab be) * (rootE ab be / Nat.gcd fr (rootE ab be)) = rootE ab0 be ∧ sq * topE ab be * Nat.gcd fr (rootE ab be) * botE ab0 be = f * topE ab0 be * botE ab be := by
  have pb : 0 < prodF be := by
    rw [prodF_leg h3]
    exact powP_pos pr30_p
  have e1 := rootE_ok h1 h3
  have e2 := rootE_ok h2 h3
  have s1 := rootE_sqF ab be
  have s2 := rootE_sqF ab0 be
  have sm := SqF.mulR hf s1
  have g0 : 0 < Nat.gcd fr (rootE ab be) := Nat.gcd_pos_of_pos_left _ hf.pos
  have d1 := Nat.div_mul_cancel (Nat.gcd_dvd_left fr (rootE ab be))
  have d2 := Nat.div_mul_cancel (Nat.gcd_dvd_right fr (rootE ab be))
  have t0 := topE_pos ab be
  have b0 := botE_pos ab0 be
  revert d1 d2 g0 sm
  generalize Nat.gcd fr (rootE ab be) = g
  generalize fr / g = x
  generalize rootE ab be / g = y
  intro sm g0 d1 d2
  have key : (sq * topE ab be * g * botE ab0 be) * (sq * topE ab be * g * botE ab0 be) * (x * y) = (f * topE ab0 be * botE ab be) * (f * topE ab0 be * botE ab be) * rootE ab0 be := by
    refine Nat.eq_of_mul_eq_mul_right pb ?_
    calc (sq * topE ab be * g * botE ab0 be) * (sq * topE ab be * g * botE ab0 be) * (x * y) * prodF be
        = (botE ab0 be * botE ab0 be) * (sq * sq * (x * g)) * (topE ab be * topE ab be * (y * g) * prodF be) := by simp only [Nat.mul_assoc, Nat.mul_left_comm, Nat.mul_comm]
      _ = (botE ab0 be * botE ab0 be) * (N * 1) * (botE ab be * botE ab be * prodF ab) := by rw [d1, d2, ← hN, e1]
      _ = (botE ab0 be * botE ab0 be) * (botE ab be * botE ab be) * (N * prodF ab) := by simp only [Nat.mul_one, Nat.mul_assoc, Nat.mul_left_comm, Nat.mul_comm]
      _ = (botE ab0 be * botE ab0 be) * (botE ab be * botE ab be) * (f * f * prodF ab0) := by rw [hP]
      _ = (f * f) * (botE ab be * botE ab be) * (botE ab0 be * botE ab0 be * prodF ab0) := by simp only [Nat.mul_assoc, Nat.mul_left_comm, Nat.mul_comm]
      _ = (f * f) * (botE ab be * botE ab be) * (topE ab0 be * topE ab0 be * rootE ab0 be * prodF be) := by rw [e2]
      _ = _ := by simp only [Nat.mul_assoc, Nat.mul_left_comm, Nat.mul_comm]
  obtain ⟨z1, z2⟩ := sq_uniq (Nat.mul_pos (Nat.mul_pos (Nat.mul_pos sq0 t0) g0) b0) sm s2 key
  exact ⟨z2, z1⟩
end TCX
/-! roots of fractions: a number s times the root of N, as one root and one fraction -/
namespace TCX
theorem sq_part : ∀ n : Nat, 0 < n → ∃ s f : Nat, 0 < s ∧ SqF f ∧ n = s * s * f := by
  intro n
  induction n using Nat.strongRecOn with
  | _ n ih =>
    intro h
    by_cases hs : SqF n
    · exact ⟨1, n, by decide, hs, by omega⟩
    · have : ∃ d, d * d ∣ n ∧ d ≠ 1 := Classical.byContradiction fun z => hs fun d hd => Classical.byContradiction fun y => z ⟨d, hd, y⟩
      obtain ⟨d, ⟨k, hk⟩, d1⟩ := this
      have d0 : 0 < d := by
        rcases Nat.eq_zero_or_pos d with z | z
        · subst z
          simp at hk
          omega
        · exact z
      have k0 : 0 < k := by
        rcases Nat.eq_zero_or_pos k with z | z
        · rw [z, Nat.mul_zero] at hk
          omega
        · exact z
      have dd : 4 ≤ d * d := Nat.mul_le_mul (show 2 ≤ d by omega) (show 2 ≤ d by omega)
      have lt : k < n := by
        rw [hk]
        have := Nat.mul_le_mul dd (Nat.le_refl k)
        omega
      obtain ⟨s, f, s0, hf, e⟩ := ih k lt k0
      exact ⟨d * s, f, Nat.mul_pos d0 s0, hf, by rw [hk, e]; simp only [Nat.mul_assoc, Nat.mul_left_comm, Nat.mul_comm]⟩
/-- F and Q: the root of N is Q times the root of F -/
structure IsRt (F : Nat) (Q N : Rat) : Prop where
  sq : SqF F
  q0 : 0 < Q
  e : Q * Q * (F : Rat) = N
theorem pos_nat {n : Nat} (h : 0 < n) : (0 : Rat) < (n : Rat) := by
  have := (Rat.natCast_lt_natCast (a := 0) (b := n)).mpr h
  simpa using this
theorem ne_of_pos {q : Rat} (h : 0 < q) : q ≠ 0 := fun z => by
  rw [z] at h
  exact Rat.lt_irrefl h
theorem rat_frac (q : Rat) : q * (q.den : Rat) = (q.num : Rat) := by
  rw [Rat.eq_iff_mul_eq_mul, Rat.num_mul, Rat.den_mul]
  show (q.num * (q.den : Int) / ((Nat.gcd (q.num * (q.den : Int)).natAbs (q.den * 1) : Nat) : Int)) * 1 = q.num * (((q.den * 1 / Nat.gcd (q.num * (q.den : Int)).natAbs (q.den * 1) : Nat)) : Int)
  have g : Nat.gcd (q.num * (q.den : Int)).natAbs (q.den * 1) = q.den := by
    rw [Nat.mul_one, Int.natAbs_mul, Int.natAbs_natCast]
    exact Nat.gcd_eq_right (Nat.dvd_mul_left _ _)
  have d0 := q.den_pos
  rw [g, Nat.mul_one, Nat.div_self d0, Int.mul_ediv_cancel _ (by omega)]
  rfl
theorem num_nat {q : Rat} (h : 0 < q) : ∃ n : Nat, 0 < n ∧ q.num = (n : Int) := by
  have z : 0 < q.num := (by
    have z := (Rat.lt_iff 0 q).mp h
    simpa using z)
  exact ⟨q.num.toNat, by omega, by omega⟩
theorem IsRt.uniq {F F' : Nat} {Q Q' N : Rat} (h : IsRt F Q N) (h' : IsRt F' Q' N) : F = F' ∧ Q = Q' := by
  obtain ⟨a, a0, ea⟩ := num_nat h.q0
  obtain ⟨c, c0, ec⟩ := num_nat h'.q0
  have d0 := Q.den_pos
  have d0' := Q'.den_pos
  have e1 := rat_frac Q
  have e2 := rat_frac Q'
  rw [ea] at e1
  rw [ec] at e2
  have e3 : Q * Q * (F : Rat) = Q' * Q' * (F' : Rat) := by rw [h.e, h'.e]
  have key : ((a * Q'.den : Nat) : Rat) * ((a * Q'.den : Nat) : Rat) * (F : Rat) = ((c * Q.den : Nat) : Rat) * ((c * Q.den : Nat) : Rat) * (F' : Rat) := by
    have x1 : ((a * Q'.den : Nat) : Rat) = Q * (Q.den : Rat) * (Q'.den : Rat) := by rw [e1, Rat.natCast_mul]; rfl
    have x2 : ((c * Q.den : Nat) : Rat) = Q' * (Q'.den : Rat) * (Q.den : Rat) := by rw [e2, Rat.natCast_mul]; rfl
    rw [x1, x2]
    grind
  have keyN : (a * Q'.den) * (a * Q'.den) * F = (c * Q.den) * (c * Q.den) * F' := by
    have : (((a * Q'.den) * (a * Q'.den) * F : Nat) : Rat) = (((c * Q.den) * (c * Q.den) * F' : Nat) : Rat) := by
      rw [Rat.natCast_mul, Rat.natCast_mul, Rat.natCast_mul (c * Q.den * (c * Q.den)), Rat.natCast_mul (c * Q.den) (c * Q.den)]
      exact key
    exact Rat.natCast_inj.mp this
  obtain ⟨z1, z2⟩ := sq_uniq (Nat.mul_pos a0 d0') h.sq h'.sq keyN
  refine ⟨z2, ?_⟩
  have w : ((a * Q'.den : Nat) : Rat) = ((c * Q.den : Nat) : Rat) := by rw [z1]
  rw [Rat.natCast_mul, Rat.natCast_mul] at w
  have n1 := ne_of_pos (pos_nat d0)
  have n2 := ne_of_pos (pos_nat d0')
  have y : Q * ((Q.den : Rat) * (Q'.den : Rat)) = Q' * ((Q.den : Rat) * (Q'.den : Rat)) := by
    have x1 : Q * ((Q.den : Rat) * (Q'.den : Rat)) = (a : Rat) * (Q'.den : Rat) := by rw [← Rat.mul_assoc, e1]; rfl
    have x2 : Q' * ((Q.den : Rat) * (Q'.den : Rat)) = (c : Rat) * (Q.den : Rat) := by rw [Rat.mul_comm (Q.den : Rat), ← Rat.mul_assoc, e2]; rfl
    rw [x1, x2, w]
  have ne : (Q.den : Rat) * (Q'.den : Rat) ≠ 0 := by
    intro z
    rcases Rat.mul_eq_zero.mp z with t | t
    · exact n1 t
    · exact n2 t
  grind
theorem IsRt.ex {N : Rat} (h : 0 < N) : ∃ F Q, IsRt F Q N := by
  obtain ⟨n, n0, en⟩ := num_nat h
  have d0 := N.den_pos
  obtain ⟨s, f, s0, hf, e⟩ := sq_part (n * N.den) (Nat.mul_pos n0 d0)
  have dn := ne_of_pos (pos_nat d0)
  refine ⟨f, (s : Rat) / (N.den : Rat), hf, ?_, ?_⟩
  · rw [Rat.div_def]
    exact Rat.mul_pos (pos_nat s0) (Rat.inv_pos.mpr (pos_nat d0))
  · have e1 := rat_frac N
    rw [en] at e1
    have e2 : (s : Rat) * (s : Rat) * (f : Rat) = (n : Rat) * (N.den : Rat) := by
      rw [← Rat.natCast_mul, ← Rat.natCast_mul, ← Rat.natCast_mul, e]
    have e3 : ((n : Nat) : Rat) = N * (N.den : Rat) := by rw [e1]; rfl
    rw [e3] at e2
    grind
open Classical in
noncomputable def rF (N : Rat) : Nat := if h : 0 < N then Classical.choose (IsRt.ex h) else 1
open Classical in
noncomputable def rQ (N : Rat) : Rat := if h : 0 < N then Classical.choose (Classical.choose_spec (IsRt.ex h)) else 1
theorem rt_ok {N : Rat} (h : 0 < N) : IsRt (rF N) (rQ N) N := by
  unfold rF rQ
  rw [dif_pos h, dif_pos h]
  exact Classical.choose_spec (Classical.choose_spec (IsRt.ex h))
theorem IsRt.is {F : Nat} {Q N : Rat} (h : IsRt F Q N) (h0 : 0 < N) : rF N = F ∧ rQ N = Q := (rt_ok h0).uniq h
theorem IsRt.pos {F : Nat} {Q N : Rat} (h : IsRt F Q N) : 0 < N := by
  rw [← h.e]
  exact Rat.mul_pos (Rat.mul_pos h.q0 h.q0) (pos_nat h.sq.pos)
/-- s times the root of N -/
noncomputable def sv (s N : Rat) (r : Int) : Rat := if r = (rF N : Int) then s * rQ N else 0
theorem IsRt.sv {F : Nat} {Q N : Rat} (h : IsRt F Q N) (s : Rat) (r : Int) : TCX.sv s N r = if r = (F : Int) then s * Q else 0 := by
  obtain ⟨e1, e2⟩ := h.is h.pos
  unfold TCX.sv
  rw [e1, e2]
theorem sv_zero (N : Rat) (r : Int) : sv 0 N r = 0 := by
  unfold sv
  split
  · rw [Rat.zero_mul]
  · rfl
theorem sv_add (s t N : Rat) (r : Int) : sv s N r + sv t N r = sv (s + t) N r := by
  unfold sv
  split
  · rw [Rat.add_mul]
  · rw [Rat.add_zero]
theorem sv_mul (s t N : Rat) (r : Int) : t * sv s N r = sv (t * s) N r := by
  unfold sv
  split
  · rw [Rat.mul_assoc]
  · rw [Rat.mul_zero]
theorem IsRt.one : IsRt 1 1 1 := ⟨SqF.one, by decide, by decide +kernel⟩
theorem sv_one (s : Rat) (r : Int) : sv s 1 r = if r = 1 then s else 0 := by
  rw [IsRt.one.sv]
  rw [Rat.mul_one]
  rfl
theorem IsRt.scale {F : Nat} {Q N t : Rat} (h : IsRt F Q N) (ht : 0 < t) : IsRt F (Q * t) (N * (t * t)) := ⟨h.sq, Rat.mul_pos h.q0 ht, by rw [← h.e]; grind⟩
theorem sv_sq {N t : Rat} (s : Rat) (hN : 0 < N) (ht : 0 < t) (r : Int) : sv s (N * (t * t)) r = sv (s * t) N r := by
  have h := rt_ok hN
  rw [(h.scale ht).sv, h.sv]
  split
  · grind
  · rfl
theorem IsRt.mul {F F' : Nat} {Q Q' N N' : Rat} (h : IsRt F Q N) (h' : IsRt F' Q' N') : IsRt (F / Nat.gcd F F' * (F' / Nat.gcd F F')) (Q * Q' * ((Nat.gcd F F' : Nat) : Rat)) (N * N') := by
  have g0 : 0 < Nat.gcd F F' := Nat.gcd_pos_of_pos_left _ h.sq.pos
  refine ⟨SqF.mulR h.sq h'.sq, Rat.mul_pos (Rat.mul_pos h.q0 h'.q0) (pos_nat g0), ?_⟩
  have d1 := Nat.div_mul_cancel (Nat.gcd_dvd_left F F')
  have d2 := Nat.div_mul_cancel (Nat.gcd_dvd_right F F')
  rw [← h.e, ← h'.e]
  have e1 : (F : Rat) = ((F / Nat.gcd F F' : Nat) : Rat) * ((Nat.gcd F F' : Nat) : Rat) := by rw [← Rat.natCast_mul, d1]
  have e2 : (F' : Rat) = ((F' / Nat.gcd F F' : Nat) : Rat) * ((Nat.gcd F F' : Nat) : Rat) := by rw [← Rat.natCast_mul, d2]
  rw [Rat.natCast_mul]
  generalize Nat.gcd F F' = g at *
  generalize F / g = x at *
  generalize F' / g = y at *
  rw [e1, e2]
  grind
end TCX
/-! the sum of a six -/
namespace TCX
set_option exponentiation.threshold 20000
theorem prodF_dvd : ∀ l : List Nat, prodF l ∣ factN l.sum
  | [] => Nat.dvd_refl _
  | n :: l => by
    show factN n * prodF l ∣ factN (n + l.sum)
    exact Nat.dvd_trans (Nat.mul_dvd_mul (Nat.dvd_refl _) (prodF_dvd l)) (fact_dvd n l.sum)
theorem prodF_pos : ∀ l : List Nat, 0 < prodF l
  | [] => by decide
  | n :: l => Nat.mul_pos (fact_pos n) (prodF_pos l)
theorem prodF_append : ∀ l m : List Nat, prodF (l ++ m) = prodF l * prodF m
  | [], m => (Nat.one_mul _).symm
  | n :: l, m => by
    show factN n * prodF (l ++ m) = factN n * prodF l * prodF m
    rw [prodF_append l m, Nat.mul_assoc]
theorem prodF_perm {l m : List Nat} (h : l.Perm m) : prodF l = prodF m := by
  induction h with
  | nil => rfl
  | cons x _ ih => exact congrArg (fun z => factN x * z) ih
  | swap x y l => exact Nat.mul_left_comm ..
  | trans _ _ h1 h2 => exact h1.trans h2
/-- what stands below the term k: lows ts, highs os -/
def sixB (ts os : List Nat) (k : Nat) : Nat := prodF ((ts.map fun t => k - t) ++ os.map fun o => o - k)
theorem sixB_pos (ts os : List Nat) (k : Nat) : 0 < sixB ts os k := prodF_pos _
theorem sixB_perm {ts ts' os os' : List Nat} (h1 : ts.Perm ts') (h2 : os.Perm os') (k : Nat) : sixB ts os k = sixB ts' os' k := prodF_perm ((h1.map _).append (h2.map _))
def okS (ts os : List Nat) (k : Nat) : Bool := (ts.all fun t => decide (t ≤ k)) && os.all fun o => decide (k ≤ o)
theorem sum_sub1 : ∀ {ts : List Nat} {k : Nat}, (∀ t ∈ ts, t ≤ k) → (ts.map fun t => k - t).sum + ts.sum = ts.length * k
  | [], k, _ => by simp
  | t :: ts, k, h => by
    have h1 := sum_sub1 (ts := ts) (k := k) fun x hx => h x (List.mem_cons_of_mem _ hx)
    have h2 := h t (by simp)
    simp only [List.map_cons, List.sum_cons, List.length_cons, Nat.succ_mul, Nat.add_mul]
    omega
theorem sum_sub2 : ∀ {os : List Nat} {k : Nat}, (∀ o ∈ os, k ≤ o) → (os.map fun o => o - k).sum + os.length * k = os.sum
  | [], k, _ => by simp
  | o :: os, k, h => by
    have h1 := sum_sub2 (os := os) (k := k) fun x hx => h x (List.mem_cons_of_mem _ hx)
    have h2 := h o (by simp)
    simp only [List.map_cons, List.sum_cons, List.length_cons, Nat.succ_mul, Nat.add_mul]
    omega
theorem okS_iff {ts os : List Nat} {k : Nat} : okS ts os k = true ↔ (∀ t ∈ ts, t ≤ k) ∧ ∀ o ∈ os, k ≤ o := by
  unfold okS
  rw [Bool.and_eq_true, List.all_eq_true, List.all_eq_true]
  constructor
  · intro h
    exact ⟨fun t ht => of_decide_eq_true (h.1 t ht), fun o ho => of_decide_eq_true (h.2 o ho)⟩
  · intro h
    exact ⟨fun t ht => decide_eq_true (h.1 t ht), fun o ho => decide_eq_true (h.2 o ho)⟩
theorem sixB_dvd {ts os : List Nat} {k : Nat} (l1 : ts.length = 4) (l2 : os.length = 3) (e : ts.sum = os.sum) (h : okS ts os k = true) : sixB ts os k ∣ factN (k + 1) := by
  obtain ⟨h1, h2⟩ := okS_iff.mp h
  have s1 := sum_sub1 h1
  have s2 := sum_sub2 h2
  rw [l1] at s1
  rw [l2] at s2
  have z := prodF_dvd ((ts.map fun t => k - t) ++ os.map fun o => o - k)
  rw [List.sum_append, show (ts.map fun t => k - t).sum + (os.map fun o => o - k).sum = k by omega] at z
  exact Nat.dvd_trans z ⟨k + 1, Nat.mul_comm ..⟩
def sixT (ts os : List Nat) (k : Nat) : Int := if okS ts os k = true then sgK k * ((factN (k + 1) / sixB ts os k : Nat) : Int) else 0
theorem sixT_perm {ts ts' os os' : List Nat} (h1 : ts.Perm ts') (h2 : os.Perm os') (k : Nat) : sixT ts os k = sixT ts' os' k := by
  have e : okS ts os k = okS ts' os' k := by
    rw [Bool.eq_iff_iff, okS_iff, okS_iff]
    constructor
    · intro h
      exact ⟨fun t ht => h.1 t (h1.mem_iff.mpr ht), fun t ht => h.2 t (h2.mem_iff.mpr ht)⟩
    · intro h
      exact ⟨fun t ht => h.1 t (h1.mem_iff.mp ht), fun t ht => h.2 t (h2.mem_iff.mp ht)⟩
  unfold sixT
  rw [e, sixB_perm h1 h2]
/-- a term is whole -/
theorem sixT_rat {ts os : List Nat} {k : Nat} (l1 : ts.length = 4) (l2 : os.length = 3) (e : ts.sum = os.sum) (h : okS ts os k = true) : Rat.divInt (sgK k * ((factN (k + 1) : Nat) : Int)) ((sixB ts os k : Nat) : Int) = ((sixT ts os k : Int) : Rat) := by
  obtain ⟨m, hm⟩ := sixB_dvd l1 l2 e h
  have p := sixB_pos ts os k
  unfold sixT
  rw [if_pos h, hm, Nat.mul_div_cancel_left _ p]
  rw [Int.natCast_mul, ← Int.mul_assoc, Int.mul_comm (sgK k), Int.mul_assoc]
  have z : Rat.divInt (((sixB ts os k : Nat) : Int) * (sgK k * (m : Int))) (((sixB ts os k : Nat) : Int) * 1) = Rat.divInt (sgK k * (m : Int)) 1 := Rat.divInt_mul_left (by omega)
  rw [Int.mul_one] at z
  rw [z]
  exact (Rat.num_divInt_den ((sgK k * (m : Int) : Int) : Rat))
def lsFrom (lo n : Nat) (f : Nat → Int) : List Int := (List.range n).map fun i => f (lo + i)
theorem lsFrom_succ (lo n : Nat) (f : Nat → Int) : lsFrom lo (n + 1) f = lsFrom lo n f ++ [f (lo + n)] := by
  unfold lsFrom
  rw [List.range_succ, List.map_append]
  rfl
theorem fact81 : ∀ n, n ≤ 82 → factN n < 2 ^ 410 := by decide +kernel
theorem fact_mono : ∀ {m n : Nat}, m ≤ n → factN m ≤ factN n := by
  intro m n h
  obtain ⟨d, rfl⟩ := Nat.exists_eq_add_of_le h
  have := fact_dvd m d
  exact Nat.le_trans (Nat.le_mul_of_pos_right _ (fact_pos d)) (Nat.le_of_dvd (fact_pos _) this)
theorem sgK_abs (k : Nat) : (sgK k).natAbs = 1 := by
  unfold sgK
  split <;> rfl
theorem sixT_lt {ts os : List Nat} {k : Nat} (hk : k ≤ 81) : (sixT ts os k).natAbs < 2 ^ 410 := by
  unfold sixT
  split
  · rw [Int.natAbs_mul, sgK_abs, Nat.one_mul, Int.natAbs_natCast]
    exact Nat.lt_of_le_of_lt (Nat.div_le_self ..) (fact81 _ (by omega))
  · decide
theorem sum_lt : ∀ {l : List Int} {M : Nat}, (∀ x ∈ l, x.natAbs ≤ M) → l.sum.natAbs ≤ l.length * M
  | [], M, _ => by simp
  | x :: l, M, h => by
    have h1 := sum_lt (l := l) fun y hy => h y (List.mem_cons_of_mem _ hy)
    have h2 := h x (by simp)
    have h3 := Int.natAbs_add_le x l.sum
    rw [List.sum_cons, List.length_cons, Nat.succ_mul]
    omega
end TCX
namespace TCX
set_option exponentiation.threshold 20000
theorem filter_eq {p q : Nat → Bool} : ∀ {l : List Nat}, (∀ k ∈ l, p k = q k) → l.filter p = l.filter q
  | [], _ => rfl
  | k :: l, h => by
    have h1 := filter_eq (l := l) fun x hx => h x (List.mem_cons_of_mem _ hx)
    have h2 := h k (by simp)
    simp [List.filter_cons, h1, h2]
theorem range_le (lo n m : Nat) (h : lo + n ≤ m) : (List.range m).filter (fun k => decide (lo ≤ k) && decide (k < lo + n)) = (List.range n).map (lo + ·) := by
  obtain ⟨d, rfl⟩ := Nat.exists_eq_add_of_le h
  rw [List.range_add, List.range_add, List.filter_append, List.filter_append]
  have e1 : (List.range lo).filter (fun k => decide (lo ≤ k) && decide (k < lo + n)) = [] := by
    rw [List.filter_eq_nil_iff]
    intro k hk
    have := List.mem_range.mp hk
    simp
    try omega
  have e2 : ((List.range n).map (lo + ·)).filter (fun k => decide (lo ≤ k) && decide (k < lo + n)) = (List.range n).map (lo + ·) := by
    rw [List.filter_eq_self]
    intro k hk
    obtain ⟨i, hi, rfl⟩ := List.mem_map.mp hk
    have := List.mem_range.mp hi
    simp
    try omega
  have e3 : ((List.range d).map (lo + n + ·)).filter (fun k => decide (lo ≤ k) && decide (k < lo + n)) = [] := by
    rw [List.filter_eq_nil_iff]
    intro k hk
    obtain ⟨i, _, rfl⟩ := List.mem_map.mp hk
    simp
    try omega
  rw [e1, e2, e3]
  simp
/-- the terms of the sum of a six, k by k -/
def sixTL (ts os : List Nat) : List Int := ((List.range 82).filter (okS ts os)).map (sixT ts os)
theorem sixTL_is {ts os : List Nat} {lo n : Nat} (h : ∀ k, okS ts os k = true ↔ lo ≤ k ∧ k < lo + n) (hn : lo + n ≤ 82) : sixTL ts os = lsFrom lo n (sixT ts os) := by
  unfold sixTL lsFrom
  rw [filter_eq (q := fun k => decide (lo ≤ k) && decide (k < lo + n)) fun k _ => by
    rw [Bool.eq_iff_iff, h k]
    simp, range_le lo n 82 hn, List.map_map]
  rfl
theorem sixTL_perm {ts ts' os os' : List Nat} (h1 : ts.Perm ts') (h2 : os.Perm os') : sixTL ts os = sixTL ts' os' := by
  unfold sixTL
  have e : okS ts os = okS ts' os' := funext fun k => by
    rw [Bool.eq_iff_iff, okS_iff, okS_iff]
    constructor
    · intro h
      exact ⟨fun t ht => h.1 t (h1.mem_iff.mpr ht), fun t ht => h.2 t (h2.mem_iff.mpr ht)⟩
    · intro h
      exact ⟨fun t ht => h.1 t (h1.mem_iff.mp ht), fun t ht => h.2 t (h2.mem_iff.mp ht)⟩
  have e2 : sixT ts os = sixT ts' os' := funext fun k => sixT_perm h1 h2 k
  rw [e, e2]
def sixS (ts os : List Nat) : Int := (sixTL ts os).sum
end TCX
namespace TCX
set_option exponentiation.threshold 20000
theorem fact_lt2' : ∀ n, n < 42 → factN n < 2 ^ 166 := by decide +kernel
theorem prodF_lt2' : ∀ {l : List Nat}, (∀ n ∈ l, n < 42) → prodF l < 2 ^ (166 * l.length + 1)
  | [], _ => by decide
  | n :: l, h => by
    have h1 := prodF_lt2' (l := l) fun m hm => h m (List.mem_cons_of_mem _ hm)
    show factN n * prodF l < 2 ^ (166 * (l.length + 1) + 1)
    rw [show 166 * (l.length + 1) + 1 = 166 + (166 * l.length + 1) by omega, Nat.pow_add]
    exact Nat.mul_lt_mul'' (fact_lt2' n (h n (by simp))) h1
theorem sixTL_len (ts os : List Nat) : (sixTL ts os).length ≤ 82 := by
  unfold sixTL
  rw [List.length_map]
  exact Nat.le_trans (List.length_filter_le _ _) (by rw [List.length_range]; exact Nat.le_refl _)
theorem sixTL_lt {ts os : List Nat} : ∀ x ∈ sixTL ts os, x.natAbs < 2 ^ 410 := fun x hx => by
  obtain ⟨k, hk, rfl⟩ := List.mem_map.mp hx
  have := List.mem_range.mp (List.mem_filter.mp hk).1
  exact sixT_lt (by omega)
theorem sixS_lt {ts os : List Nat} : (sixS ts os).natAbs < 2 ^ 417 := by
  have z := sum_lt (l := sixTL ts os) (M := 2 ^ 410) fun x hx => Nat.le_of_lt (sixTL_lt x hx)
  have y := Nat.mul_le_mul (sixTL_len ts os) (Nat.le_refl (2 ^ 410))
  have x : 82 * 2 ^ 410 < 2 ^ 417 := by decide +kernel
  exact Nat.lt_of_le_of_lt z (Nat.lt_of_le_of_lt y x)
end TCX
namespace TCX
open PySem PySem.Spec PyProof.Rows L2
section
variable {prog : Program} {w : World} {A : Around} {E : Value → Shared → Prop} {s : Shared} {t : Addr} {xs : Array (Int × Tok)}
theorem min_tup {Q : Value → Shared → Prop} (hh : A.handled = none) (ht : s.heap.IsTuple t (intItems xs)) (hp : 0 < xs.size)
    (h : ∀ v h' tk, (intItems xs)[argBest (fun i j => decide (numAt xs i < numAt xs j)) (xs.size - 1)]? = some v → (∀ b o, s.heap.get? b = some o → h'.get? b = some o) → Q v { s with heap := h', toks := tk }) :
    wpAny (model prog w) A (call (.builtin "min") [.ref t]) Q E s := by
  obtain ⟨hne, hb⟩ := tup_below ht
  refine call_min_walk (wpAny_pyIter_tuple ht ?_)
  refine ⟨_, [_, t], [_], _, _, _, _, rfl, Walks.tuple (A := A.in1) hh _ t hne (intItems xs), ⟨⟨_, Heap.get?_push_size _ rfl, rfl, rfl⟩, ht.push _⟩, hb, by simpa [intItems] using hp, CmpOf.ints_lt (numAt xs) (fun _ _ => intItems_at), fun v h' tk hP hk => ?_⟩
  exact h v h' tk (by simpa [intItems] using hP) (tup_kept hk)
end
section
variable {X : Cx}
/-- min(t) of a tuple of whole numbers -/
def rMinT (K : PySem.W.Frag) : List V → Hp → VK → Prop := fun vs H Q => ∃ (a : Addr) (ns : List Int), vs = [V.ref a] ∧ SqT K H a (ns.map V.int) ∧ 0 < ns.length ∧ ∀ m, m ∈ ns → (∀ y, y ∈ ns → m ≤ y) → Q (.int m) H
theorem cr_minT (hc : X.calm = true) : CallR X (.builtin "min") (rMinT X.K) := by
  intro pins s σ H vs us Q I r h
  obtain ⟨a, ns, rfl, hs, hne, q⟩ := h
  obtain ⟨its, rv, ht, _⟩ := I.tuple hs
  rw [Vals.ref1 r]
  have hi := rv.ints
  obtain ⟨xs, e⟩ := hi.allInts.items
  have hn : numsOf (intItems xs).toList = ns := by rw [← e]; exact hi.numsOf
  rw [nums_intItems] at hn
  subst hn
  rw [e] at ht
  have hsz : 0 < xs.size := by simpa using hne
  refine min_tup (I.ok.hd hc) ht hsz fun v h' tk hv hk => ?_
  obtain ⟨t, rfl⟩ := intItems_at hv
  obtain ⟨h1, h2⟩ := argBest_lt (numAt xs) (xs.size - 1)
  refine ⟨.int _, H, I.kept hk, ⟨_, rfl⟩, q _ ?_ fun y hy => ?_⟩
  · rw [numAt_eq]
    exact PySem.getD_mem (by rw [List.length_map, Array.length_toList]; omega)
  · obtain ⟨j, hj, rfl⟩ := mem_getD hy
    rw [List.length_map, Array.length_toList] at hj
    rw [← numAt_eq]
    exact h2 j (by omega)
end
end TCX
namespace TC
set_option exponentiation.threshold 20000
open PySem PySem.Spec PyProof.Rows L2 TCA TCX
/-- six sizes whose triangles may all be joined -/
structure SixP (a b c d e f : Int) : Prop where
  i : ∀ x ∈ [a, b, c, d, e, f], 0 ≤ x ∧ x ≤ 40
  j : Jn a b c d e f = true
def natL (l : List Int) : List Nat := l.map Int.toNat
def sixTs (a b c d e f : Int) : List Nat := natL (lows a b c d e f)
def sixOs (a b c d e f : Int) : List Nat := natL (opps a b c d e f)
theorem jn_iff {a b c d e f : Int} : Jn a b c d e f = true ↔ canB a b c = true ∧ canB a e f = true ∧ canB d b f = true ∧ canB d e c = true := by
  unfold Jn
  simp only [Bool.and_eq_true]
structure SixF (a b c d e f : Int) : Prop where
  a0 : 0 ≤ a ∧ a ≤ 40
  b0 : 0 ≤ b ∧ b ≤ 40
  c0 : 0 ≤ c ∧ c ≤ 40
  d0 : 0 ≤ d ∧ d ≤ 40
  e0 : 0 ≤ e ∧ e ≤ 40
  f0 : 0 ≤ f ∧ f ≤ 40
  t1 : (a + b + c) % 2 = 0 ∧ a ≤ b + c ∧ b ≤ a + c ∧ c ≤ a + b
  t2 : (a + e + f) % 2 = 0 ∧ a ≤ e + f ∧ e ≤ a + f ∧ f ≤ a + e
  t3 : (d + b + f) % 2 = 0 ∧ d ≤ b + f ∧ b ≤ d + f ∧ f ≤ d + b
  t4 : (d + e + c) % 2 = 0 ∧ d ≤ e + c ∧ e ≤ d + c ∧ c ≤ d + e
theorem SixP.f {a b c d e f : Int} (h : SixP a b c d e f) : SixF a b c d e f := by
  obtain ⟨h1, h2, h3, h4⟩ := jn_iff.mp h.j
  exact ⟨h.i _ (by simp), h.i _ (by simp), h.i _ (by simp), h.i _ (by simp), h.i _ (by simp), h.i _ (by simp), canB_iff.mp h1, canB_iff.mp h2, canB_iff.mp h3, canB_iff.mp h4⟩
theorem lows_eq (a b c d e f : Int) : lows a b c d e f = [(a + b + c) / 2, (a + e + f) / 2, (d + b + f) / 2, (d + e + c) / 2] := by
  unfold lows quad
  simp only [List.map_cons, List.map_nil, List.sum_cons, List.sum_nil, Int.add_zero, Int.add_assoc]
theorem lows_b {a b c d e f : Int} (h : SixF a b c d e f) : ∀ x ∈ lows a b c d e f, 0 ≤ x ∧ x ≤ 60 := by
  obtain ⟨h1, h2, h3, h4, h5, h6, h7, h8, h9, h10⟩ := h
  intro x hx
  rw [lows_eq] at hx
  simp only [List.mem_cons, List.not_mem_nil, or_false] at hx
  omega
theorem opps_b {a b c d e f : Int} (h : SixF a b c d e f) : ∀ x ∈ opps a b c d e f, 0 ≤ x ∧ x ≤ 80 := by
  obtain ⟨h1, h2, h3, h4, h5, h6, h7, h8, h9, h10⟩ := h
  intro x hx
  unfold opps at hx
  simp only [List.mem_cons, List.not_mem_nil, or_false] at hx
  omega
theorem low_opp {a b c d e f : Int} (h : SixF a b c d e f) : ∀ x ∈ lows a b c d e f, ∀ y ∈ opps a b c d e f, x ≤ y := by
  obtain ⟨h1, h2, h3, h4, h5, h6, h7, h8, h9, h10⟩ := h
  intro x hx y hy
  rw [lows_eq] at hx
  unfold opps at hy
  simp only [List.mem_cons, List.not_mem_nil, or_false] at hx hy
  omega
theorem six_sum {a b c d e f : Int} (h : SixF a b c d e f) : (sixTs a b c d e f).sum = (sixOs a b c d e f).sum := by
  obtain ⟨h1, h2, h3, h4, h5, h6, h7, h8, h9, h10⟩ := h
  unfold sixTs sixOs natL
  rw [lows_eq]
  unfold opps
  simp only [List.map_cons, List.map_nil, List.sum_cons, List.sum_nil]
  omega
theorem six_len (a b c d e f : Int) : (sixTs a b c d e f).length = 4 ∧ (sixOs a b c d e f).length = 3 := ⟨rfl, rfl⟩
theorem nat_ints {l : List Int} (h : ∀ x ∈ l, 0 ≤ x) : l.map V.int = (natL l).map fun n : Nat => V.int (n : Int) := by
  unfold natL
  rw [List.map_map]
  refine List.map_congr_left fun x hx => ?_
  show V.int x = V.int ((x.toNat : Nat) : Int)
  rw [Int.toNat_of_nonneg (h x hx)]
theorem natL_mem {l : List Int} {n : Nat} (h : n ∈ natL l) : ∃ x ∈ l, n = x.toNat := by
  obtain ⟨x, hx, e⟩ := List.mem_map.mp h
  exact ⟨x, hx, e.symm⟩
theorem Srt.nat {L M : List Int} (h : Srt L M) : (natL L).Perm (natL M) := h.1.map _
def prodT (k : Nat) (l : List Nat) : Nat := prodF (l.map fun t => k - t)
def prodO (k : Nat) (l : List Nat) : Nat := prodF (l.map fun o => o - k)
theorem mem_le_sum : ∀ {l : List Nat} {x : Nat}, x ∈ l → x ≤ l.sum
  | y :: l, x, h => by
    rw [List.sum_cons]
    rcases List.mem_cons.mp h with z | z
    · omega
    · have := mem_le_sum z
      omega
theorem prodF_snoc (l : List Nat) (n : Nat) : prodF (l ++ [n]) = prodF l * factN n := by
  rw [prodF_append]
  show _ * (factN n * 1) = _
  rw [Nat.mul_one]
theorem prodF_lt4 {l : List Nat} (h : ∀ n ∈ l, n ≤ 82) : prodF l < 2 ^ (410 * l.length + 1) := by
  induction l with
  | nil => decide
  | cons n l ih =>
    show factN n * prodF l < 2 ^ (410 * (l.length + 1) + 1)
    rw [show 410 * (l.length + 1) + 1 = 410 + (410 * l.length + 1) by omega, Nat.pow_add]
    exact Nat.mul_lt_mul'' (fact81 n (h n (by simp))) (ih fun m hm => h m (List.mem_cons_of_mem _ hm))
section
variable {P : Program} {w : World} {K : PySem.W.Frag} {mg : Str → Option Value} {base : Heap} {f : Addr} {fd : FuncData} {C fI fQ : Addr}
/-! ### need_sizes of a tuple -/
def spNeedSizesT : Sp := fun vs H Q _ => ∃ (l : Addr) (ns : List Int), vs = [.ref l] ∧ H l = some (iv ns) ∧ (∀ n ∈ ns, 0 ≤ n ∧ n ≤ 40) ∧ Q .non H
abbrev nNeedSizesT : List Str := ["things", "thing"]
theorem scNeedSizesT : FnScope nNeedSizesT ["things"] (defScope sNeedSizes) := ⟨rfl, rfl, rfl, by decide +kernel, rfl, by decide +kernel, by decide +kernel⟩
theorem ok_needSizesT {fS : Addr} {fdS : FuncData} (F : FnP K "need_sizes" sNeedSizes f fd) (GS : FnOk P w K mg base CX0 2 fS fdS ["thing"] spIsSize) (bS : L2.Binds K fdS ["thing"] []) (kS : PySem.W.keepIn K (.ref fS) = true) (gS : mg "is_size" = some (.ref fS)) :
    FnOk P w K mg base CX0 3 f fd ["things"] spNeedSizesT := by
  refine F.ok scNeedSizesT (fun vs H Q E h => ?_) (fun cdv A outer s H vs Q E hr h => ?_)
  · obtain ⟨_, _, rfl, _⟩ := h
    rfl
  obtain ⟨l, ns, rfl, hl, hn, q⟩ := h
  have hr2 := hr.mono (j := 2) (by decide)
  refine ⟨_, PSs.nox (pss_one (ps_for PassesOwn.never rfl (pi_tup (pv 0)) (pg_name (i := 1) scNeedSizesT.nd rfl (.inl rfl))
        (pss_one (ps_if (pt_not (pt_val (pe_call GS hr2 (by rfl) gS kS bS .nil pass0 (pa_cons (pv 1) pa_nil)))) pss_never pss_nil)))), ?_⟩
  refine ⟨_, rfl, l, rfl, ⟨_, SqT.of hl⟩, for_tup (xs := ns.map V.int) (fun i σ H' => (∃ v, σ = [some (.ref l), v]) ∧ H' = H) ⟨⟨none, rfl⟩, rfl⟩ (fun i σ H' _ hP => by rw [hP.2]; exact SqT.of hl) (fun i x σ H' hx hP => ?_) (fun σ H' hP => by rw [hP.2]; exact q)⟩
  obtain ⟨⟨v, rfl⟩, rfl⟩ := hP
  obtain ⟨n, e, rfl⟩ := ints_at hx
  obtain ⟨n0, n1⟩ := hn n (List.mem_of_getElem? e)
  exact ⟨_, rfl, n, rfl, n0, n1, true, rfl, iteF ⟨⟨_, rfl⟩, rfl⟩⟩
/-! ### terms_of_six -/
def spTermsSix : Sp := fun vs H Q _ => ∃ (t : Addr) (a b c d e g : Int), vs = [.ref t] ∧ H t = some (iv [a, b, c, d, e, g]) ∧ SixP a b c d e g ∧
  ∀ (D : Addr) H', Same H H' → H D = none → H' D = some (.lst ((sixTL (sixTs a b c d e g) (sixOs a b c d e g)).map V.int)) → Q (.ref D) H'
abbrev nTermsSix : List Str := ["sizes", "triangles", "opposites", "known", "terms", "k", "bottom", "number", "term"]
end
end TC
namespace TC
set_option exponentiation.threshold 20000
open PySem PySem.Spec PyProof.Rows L2 TCA TCX
def ab3 (l : List Int) : List Nat := [((l.getD 0 0 + l.getD 1 0 - l.getD 2 0) / 2).toNat, ((l.getD 0 0 - l.getD 1 0 + l.getD 2 0) / 2).toNat, ((l.getD 1 0 + l.getD 2 0 - l.getD 0 0) / 2).toNat]
def be1 (l : List Int) : Nat := ((l.getD 0 0 + l.getD 1 0 + l.getD 2 0) / 2 + 1).toNat
def sAb (a b c d e f : Int) : List Nat := (quad a b c d e f).flatMap ab3
def sBe (a b c d e f : Int) : List Nat := (quad a b c d e f).map be1
/-- the six, as a root and a fraction -/
def sixL (a b c d e f : Int) : List Part := if Jn a b c d e f = true then oneQ ((rootE (sAb a b c d e f) (sBe a b c d e f) : Nat) : Int) (Rat.divInt (sixS (sixTs a b c d e f) (sixOs a b c d e f)) 1 * Rat.divInt ((topE (sAb a b c d e f) (sBe a b c d e f) : Nat) : Int) ((botE (sAb a b c d e f) (sBe a b c d e f) : Nat) : Int)) else []
theorem quad_b {a b c d e f : Int} (h : SixF a b c d e f) : ∀ l ∈ quad a b c d e f, ∃ x y z, l = [x, y, z] ∧ 0 ≤ x ∧ x ≤ 40 ∧ 0 ≤ y ∧ y ≤ 40 ∧ 0 ≤ z ∧ z ≤ 40 ∧ x ≤ y + z ∧ y ≤ x + z ∧ z ≤ x + y ∧ (x + y + z) % 2 = 0 := by
  obtain ⟨h1, h2, h3, h4, h5, h6, h7, h8, h9, h10⟩ := h
  intro l hl
  unfold quad at hl
  simp only [List.mem_cons, List.not_mem_nil, or_false] at hl
  rcases hl with rfl | rfl | rfl | rfl
  · exact ⟨_, _, _, rfl, by omega, by omega, by omega, by omega, by omega, by omega, by omega, by omega, by omega, by omega⟩
  · exact ⟨_, _, _, rfl, by omega, by omega, by omega, by omega, by omega, by omega, by omega, by omega, by omega, by omega⟩
  · exact ⟨_, _, _, rfl, by omega, by omega, by omega, by omega, by omega, by omega, by omega, by omega, by omega, by omega⟩
  · exact ⟨_, _, _, rfl, by omega, by omega, by omega, by omega, by omega, by omega, by omega, by omega, by omega, by omega⟩
theorem sAb_lt {a b c d e f : Int} (h : SixF a b c d e f) : ∀ n ∈ sAb a b c d e f, n < 42 := by
  intro n hn
  obtain ⟨l, hl, hn⟩ := List.mem_flatMap.mp hn
  obtain ⟨x, y, z, rfl, _⟩ := quad_b h l hl
  have e : ab3 [x, y, z] = [((x + y - z) / 2).toNat, ((x - y + z) / 2).toNat, ((y + z - x) / 2).toNat] := rfl
  rw [e] at hn
  simp only [List.mem_cons, List.not_mem_nil, or_false] at hn
  omega
theorem sBe_lt {a b c d e f : Int} (h : SixF a b c d e f) : ∀ n ∈ sBe a b c d e f, n < 62 := by
  intro n hn
  obtain ⟨l, hl, rfl⟩ := List.mem_map.mp hn
  obtain ⟨x, y, z, rfl, _⟩ := quad_b h l hl
  show ((x + y + z) / 2 + 1).toNat < 62
  omega
theorem sAb_len (a b c d e f : Int) : (sAb a b c d e f).length = 12 := rfl
theorem sBe_len (a b c d e f : Int) : (sBe a b c d e f).length = 4 := rfl
theorem fit_six {a b c d e f : Int} (h : SixF a b c d e f) : Fit (botE (sAb a b c d e f) (sBe a b c d e f)) 2000 200 (rootL (sAb a b c d e f) (sBe a b c d e f)) := by
  refine fit_abs (rootE_sqF _ _).pos (topE_pos _ _) (botE_pos _ _) (topE_cop _ _) ?_ (rootE_lt _ _)
  exact Nat.lt_of_le_of_lt (topE_le fun n hn => by have := sAb_lt h n hn; omega) (Nat.lt_of_lt_of_le (prodF_lt2' (sAb_lt h)) (Nat.pow_le_pow_right (by decide) (by rw [sAb_len]; decide)))
theorem botS_lt {a b c d e f : Int} (h : SixF a b c d e f) : botE (sAb a b c d e f) (sBe a b c d e f) < 2 ^ 1500 :=
  Nat.lt_of_le_of_lt (botE_le fun n hn => by have := sBe_lt h n hn; omega) (Nat.lt_of_lt_of_le (prodF_lt (sBe_lt h)) (Nat.pow_le_pow_right (by decide) (by rw [sBe_len]; decide)))
theorem get4 {H : Hp} {t1 t2 t3 t4 : Addr} {a b c d e g : Int} (q1 : H t1 = some (iv [a, b, c])) (q2 : H t2 = some (iv [a, e, g])) (q3 : H t3 = some (iv [d, b, g])) (q4 : H t4 = some (iv [d, e, c])) (i : Nat) (x : V) (hx : ([.ref t1, .ref t2, .ref t3, .ref t4] : List V)[i]? = some x) : ∃ u l, x = .ref u ∧ H u = some (iv l) ∧ (quad a b c d e g)[i]? = some l := by
  match i, hx with
  | 0, hx => exact ⟨t1, _, (Option.some.inj hx).symm, q1, rfl⟩
  | 1, hx => exact ⟨t2, _, (Option.some.inj hx).symm, q2, rfl⟩
  | 2, hx => exact ⟨t3, _, (Option.some.inj hx).symm, q3, rfl⟩
  | 3, hx => exact ⟨t4, _, (Option.some.inj hx).symm, q4, rfl⟩
  | n + 4, hx => cases hx
section
variable {P : Program} {w : World} {K : PySem.W.Frag} {mg : Str → Option Value} {base : Heap} {f : Addr} {fd : FuncData} {C fI fQ : Addr}
/-! ### six_number -/
def spSixN (C : Addr) : Sp := fun vs H Q _ => ∃ (t : Addr) (a b c d e g : Int), vs = [.ref t] ∧ H t = some (iv [a, b, c, d, e, g]) ∧ (∀ x ∈ [a, b, c, d, e, g], 0 ≤ x ∧ x ≤ 40) ∧
  ∀ (x : Addr) H', Same H H' → H x = none → NumAt C H' x (sixL a b c d e g) → Q (.ref x) H'
abbrev nSixN : List Str := ["sizes", "triangles", "above", "below", "x", "y", "z"]
end
end TC
namespace TC
set_option exponentiation.threshold 20000
open PySem PySem.Spec PyProof.Rows L2 TCA TCX
def pairsL (l : List Int) : List (Int × Int) := l.map fun x => (x, 1)
theorem six_len1 (a b c d e f : Int) : (sixL a b c d e f).length ≤ 1 := by
  unfold sixL oneQ
  split
  · split
    · decide
    · exact Nat.le_refl 1
  · decide
end TC
namespace TC
open PySem PySem.Spec PyProof.Rows L2 TCA TCX
/-! ### forms as data -/
def dT (L : List Int) : PyData := .tuple (dInts L)
def dForm (L1 L2 : List Int) : PyData := .tuple [dT L1, dT L2]
theorem FormT.dp {K : PySem.W.Frag} {H : Hp} {r : Addr} {L1 L2 : List Int} (h : FormT H r L1 L2) : Dp K H (.ref r) (dForm L1 L2) := by
  obtain ⟨r1, r2, a, b, c⟩ := h
  exact .tup (SqT.of a) (.cons (.tup (SqT.of b) (dpAll_ints L1)) (.cons (.tup (SqT.of c) (dpAll_ints L2)) .nil))
theorem ints_lay : ∀ L : List Int, PyData.canLayAll0 (dInts L) = true ∧ PyData.depthAll (dInts L) ≤ 0
  | [] => ⟨rfl, Nat.le_refl _⟩
  | x :: L => by
    obtain ⟨h1, h2⟩ := ints_lay L
    refine ⟨?_, ?_⟩
    · show (PyData.canLay0 (.int x) && PyData.canLayAll0 (dInts L)) = true
      rw [h1]
      rfl
    · show max (PyData.depth (.int x)) (PyData.depthAll (dInts L)) ≤ 0
      exact Nat.max_le.mpr ⟨Nat.le_refl 0, h2⟩
theorem form_shaped (L1 L2 : List Int) : SeqAt.shaped (dForm L1 L2) = true := by
  obtain ⟨a1, a2⟩ := ints_lay L1
  obtain ⟨b1, b2⟩ := ints_lay L2
  show ((PyData.canLayAll0 (dInts L1) && (PyData.canLayAll0 (dInts L2) && true)) && decide (max (PyData.depthAll (dInts L1) + 1) (max (PyData.depthAll (dInts L2) + 1) 0) + 1 ≤ 64)) = true
  rw [a1, b1, decide_eq_true (by omega)]
  rfl
theorem ints_eqv : ∀ L M : List Int, PyData.eqvAll (dInts L) (dInts M) = decide (L = M)
  | [], [] => rfl
  | [], _ :: _ => rfl
  | _ :: _, [] => rfl
  | x :: L, y :: M => by
    show (PyData.eqv (.int x) (.int y) && PyData.eqvAll (dInts L) (dInts M)) = _
    rw [ints_eqv L M]
    simp only [PyData.eqv]
    by_cases h1 : x = y <;> by_cases h2 : L = M <;> simp [h1, h2]
theorem form_eqv (L1 L2 M1 M2 : List Int) : PyData.eqv (dForm L1 L2) (dForm M1 M2) = (decide (L1 = M1) && decide (L2 = M2)) := by
  show (PyData.eqvAll (dInts L1) (dInts M1) && (PyData.eqvAll (dInts L2) (dInts M2) && true)) = _
  rw [ints_eqv, ints_eqv, Bool.and_true]
end TC
namespace TCX
open PySem PySem.Spec PyProof.Rows L2
/-- a promise kept as it is said: the unifier does not open it -/
structure Box (sp : Sp) (vs : List V) (H : Hp) (Q : VK) (E : XK) : Prop where
  out : sp vs H Q E
theorem boxed {P : Program} {w : World} {K : PySem.W.Frag} {mg : Str → Option Value} {base : Heap} {CX : CXT} {k : Nat} {f : Addr} {fd : FuncData} {ps : List Str} {sp : Sp} (F : FnOk P w K mg base CX k f fd ps sp) : FnOk P w K mg base CX k f fd ps (Box sp) :=
  ⟨fun vs H Q E h => F.len vs H Q E h.out, fun A outer s H args us vs Q E hr he hb hv hs => F.run A outer s H args us vs Q E hr he hb hv hs.out⟩
end TCX
namespace TC
open PySem PySem.Spec PyProof.Rows L2 TCA TCX
theorem fits_can (a b c : Int) : fitsB a b c = canB a b c := by
  rw [Bool.eq_iff_iff, fits_iff, canB_iff]
  omega
/-- the four triangles, a list -/
def QuadL (H : Hp) (r : Addr) (a b c d e f : Int) : Prop := ∃ t1 t2 t3 t4, H r = some (.lst [.ref t1, .ref t2, .ref t3, .ref t4]) ∧ H t1 = some (iv [a, b, c]) ∧ H t2 = some (iv [a, e, f]) ∧ H t3 = some (iv [d, b, f]) ∧ H t4 = some (iv [d, e, c])
section
variable {P : Program} {w : World} {K : PySem.W.Frag} {mg : Str → Option Value} {base : Heap} {f : Addr} {fd : FuncData} {CS CT : Addr}
/-! ### _law_triples -/
def spTriples : Sp := fun vs H Q _ => ∃ (t : Addr) (a b c d e g : Int), vs = [.ref t] ∧ H t = some (iv [a, b, c, d, e, g]) ∧ ∀ r H', Same H H' → H r = none → QuadL H' r a b c d e g → Q (.ref r) H'
abbrev nTriples : List Str := ["_law_sizes_here", "_law_a", "_law_b", "_law_c", "_law_d", "_law_e", "_law_f"]
end
end TC
namespace TC
open PySem PySem.Spec PyProof.Rows L2 TCA TCX
theorem quad_get {H : Hp} {t1 t2 t3 t4 : Addr} {a b c d e g : Int} (q1 : H t1 = some (iv [a, b, c])) (q2 : H t2 = some (iv [a, e, g])) (q3 : H t3 = some (iv [d, b, g])) (q4 : H t4 = some (iv [d, e, c])) (i : Nat) (x : V) (hx : ([.ref t1, .ref t2, .ref t3, .ref t4] : List V)[i]? = some x) : ∃ u l, x = .ref u ∧ H u = some (iv l) ∧ (quad a b c d e g)[i]? = some l ∧ u ∈ [t1, t2, t3, t4] := by
  match i, hx with
  | 0, hx => exact ⟨t1, _, (Option.some.inj hx).symm, q1, rfl, by simp⟩
  | 1, hx => exact ⟨t2, _, (Option.some.inj hx).symm, q2, rfl, by simp⟩
  | 2, hx => exact ⟨t3, _, (Option.some.inj hx).symm, q3, rfl, by simp⟩
  | 3, hx => exact ⟨t4, _, (Option.some.inj hx).symm, q4, rfl, by simp⟩
  | n + 4, hx => cases hx
theorem quad_three {a b c d e g : Int} {i : Nat} {l : List Int} (h : (quad a b c d e g)[i]? = some l) : ∃ x y z, l = [x, y, z] := by
  match i, h with
  | 0, h => exact ⟨_, _, _, (Option.some.inj h).symm⟩
  | 1, h => exact ⟨_, _, _, (Option.some.inj h).symm⟩
  | 2, h => exact ⟨_, _, _, (Option.some.inj h).symm⟩
  | 3, h => exact ⟨_, _, _, (Option.some.inj h).symm⟩
  | n + 4, h => cases h
def fit3 (l : List Int) : Bool := canB (l.getD 0 0) (l.getD 1 0) (l.getD 2 0)
theorem jn_all (a b c d e g : Int) : Jn a b c d e g = (quad a b c d e g).all fit3 := by
  simp [Jn, quad, fit3]
section
variable {P : Program} {w : World} {K : PySem.W.Frag} {mg : Str → Option Value} {base : Heap} {f : Addr} {fd : FuncData}
/-! ### _law_halved -/
def spHalved : Sp := fun vs H Q _ => ∃ (t : Addr) (a b c d e g : Int), vs = [.ref t] ∧ H t = some (iv [a, b, c, d, e, g]) ∧ ∀ r l1 l2 H', Same H H' → H' r = some (.tup [.ref l1, .ref l2]) → H' l1 = some (.lst ((lows a b c d e g).map V.int)) → H' l2 = some (.lst ((opps a b c d e g).map V.int)) → Q (.ref r) H'
abbrev nHalved : List Str := ["_law_sizes_here", "_law_a", "_law_b", "_law_c", "_law_d", "_law_e", "_law_f", "_law_opposite", "_law_some"]
end
end TC
namespace TC
open PySem PySem.Spec PyProof.Rows L2 TCA TCX
section
variable {P : Program} {w : World} {K : PySem.W.Frag} {mg : Str → Option Value} {base : Heap} {f : Addr} {fd : FuncData}
/-! ### _law_all_fit -/
/-- the tuples kept: addresses and what they hold -/
def KeptAt (H : Hp) : List Addr → List (List Int) → Prop
  | [], [] => True
  | u :: us, l :: ls => H u = some (iv l) ∧ KeptAt H us ls
  | _, _ => False
theorem KeptAt.same {H H' : Hp} (s : Same H H') : ∀ {us : List Addr} {ls : List (List Int)}, KeptAt H us ls → KeptAt H' us ls
  | [], [], _ => trivial
  | _ :: _, _ :: _, h => ⟨s _ _ h.1, KeptAt.same s h.2⟩
  | [], _ :: _, h => h
  | _ :: _, [], h => h
theorem KeptAt.len {H : Hp} : ∀ {us : List Addr} {ls : List (List Int)}, KeptAt H us ls → us.length = ls.length
  | [], [], _ => rfl
  | _ :: _, _ :: _, h => congrArg (· + 1) h.2.len
  | [], _ :: _, h => h.elim
  | _ :: _, [], h => h.elim
theorem KeptAt.snoc {H : Hp} {u : Addr} {l : List Int} (hu : H u = some (iv l)) : ∀ {us : List Addr} {ls : List (List Int)}, KeptAt H us ls → KeptAt H (us ++ [u]) (ls ++ [l])
  | [], [], _ => ⟨hu, trivial⟩
  | _ :: _, _ :: _, h => ⟨h.1, KeptAt.snoc hu h.2⟩
  | [], _ :: _, h => h.elim
  | _ :: _, [], h => h.elim
theorem KeptAt.dp {H : Hp} : ∀ {us : List Addr} {ls : List (List Int)}, KeptAt H us ls → DpAll K H (us.map V.ref) (ls.map dT)
  | [], [], _ => .nil
  | _ :: _, l :: _, h => .cons (.tup (SqT.of h.1) (dpAll_ints l)) (KeptAt.dp h.2)
  | [], _ :: _, h => h.elim
  | _ :: _, [], h => h.elim
theorem kept_lay : ∀ ls : List (List Int), PyData.canLayAll0 (ls.map dT) = true ∧ PyData.depthAll (ls.map dT) ≤ 1
  | [] => ⟨rfl, Nat.zero_le _⟩
  | x :: L => by
    obtain ⟨h1, h2⟩ := kept_lay L
    obtain ⟨a1, a2⟩ := ints_lay x
    refine ⟨?_, ?_⟩
    · show (PyData.canLayAll0 (dInts x) && PyData.canLayAll0 (L.map dT)) = true
      rw [h1, a1]
      rfl
    · show max (PyData.depthAll (dInts x) + 1) (PyData.depthAll (L.map dT)) ≤ 1
      exact Nat.max_le.mpr ⟨by omega, h2⟩
theorem kept_shaped (ls : List (List Int)) : SeqAt.shaped (.list (ls.map dT)) = true := by
  obtain ⟨h1, h2⟩ := kept_lay ls
  show (PyData.canLayAll0 (ls.map dT) && decide (PyData.depthAll (ls.map dT) + 1 ≤ 64)) = true
  rw [h1, decide_eq_true (by omega)]
  rfl
theorem kept_eqv (ls : List (List Int)) : PyData.eqv (.list (ls.map dT)) (.list []) = decide (ls = []) := by
  cases ls with
  | nil => rfl
  | cons x L => rfl
def spAllFit : Sp := fun vs H Q _ => ∃ (t : Addr) (a b c d e g : Int), vs = [.ref t] ∧ H t = some (iv [a, b, c, d, e, g]) ∧ ∀ H', Same H H' → Q (.bl (Jn a b c d e g)) H'
abbrev nAllFit : List Str := ["_law_sizes_here", "_law_some"]
end
end TC
namespace TC
open PySem PySem.Spec PyProof.Rows L2 TCA TCX
section
variable {P : Program} {w : World} {K : PySem.W.Frag} {mg : Str → Option Value} {base : Heap} {f fD fT : Addr} {fd fdD fdT : FuncData}
/-! ### _law_sizes -/
def spSizesL : Sp := fun vs H Q _ => ∃ (p c : Addr) (ms : List Int) (n h : Int), vs = [.ref p, .int h] ∧ PenAt H p c ms n ∧ 0 ≤ n ∧ n ≤ 800000 ∧ 0 ≤ h ∧ h ≤ 100 ∧
  ∀ (r : Addr) (a b d n' : Int) H', 0 ≤ a → a ≤ h → 0 ≤ b → b ≤ h → d ∈ thirdL a b h → n ≤ n' → n' ≤ n + 3 → PenAt H' p c ms n' → SameBut p H H' → H' r = some (iv [a, b, d]) → Q (.ref r) H'
abbrev nSizesL : List Str := ["_law_pen_here", "_law_high", "_law_a", "_law_b"]
end
end TC
namespace TC
open PySem PySem.Spec PyProof.Rows L2 TCA TCX
theorem third_ok {a b h d : Int} (a0 : 0 ≤ a) (a1 : a ≤ h) (b0 : 0 ≤ b) (b1 : b ≤ h) (hd : d ∈ thirdL a b h) : 0 ≤ d ∧ d ≤ h ∧ canB a b d = true := by
  unfold thirdL at hd
  rw [if_neg (by split <;> omega), List.append_nil, fitL_mem] at hd
  rw [← fits_can]
  exact ⟨hd.1, by omega, hd.2.2⟩
def dL (b f e c : Int) (k : Nat) : List Int := ((List.range k).map fun i => (0 : Int) + (i : Nat)).filter fun d => fitsB d b f && fitsB d e c
theorem dL_succ (b f e c : Int) (k : Nat) : dL b f e c (k + 1) = dL b f e c k ++ (if (fitsB (0 + (k : Nat)) b f && fitsB (0 + (k : Nat)) e c) = true then [0 + ((k : Nat) : Int)] else []) := by
  unfold dL
  rw [List.range_succ, List.map_append, List.filter_append]
  congr 1
  simp only [List.map_cons, List.map_nil, List.filter_cons, List.filter_nil]
theorem dL_len (b f e c : Int) (k : Nat) : (dL b f e c k).length ≤ k := by
  unfold dL
  refine Nat.le_trans (List.length_filter_le _ _) ?_
  rw [List.length_map, List.length_range]
  exact Nat.le_refl _
theorem dL_mem {b f e c x : Int} {k : Nat} (h : x ∈ dL b f e c k) : 0 ≤ x ∧ x < k := by
  unfold dL at h
  rw [List.mem_filter, List.mem_map] at h
  obtain ⟨⟨i, hi, rfl⟩, _⟩ := h
  have := List.mem_range.mp hi
  omega
theorem ints_eqv_nil (L : List Int) : PyData.eqv (.list (dInts L)) (.list []) = decide (L = []) := ints_eqv L []
theorem ints_shaped (L : List Int) : SeqAt.shaped (.list (dInts L)) = true := by
  obtain ⟨a1, a2⟩ := ints_lay L
  show (PyData.canLayAll0 (dInts L) && decide (PyData.depthAll (dInts L) + 1 ≤ 64)) = true
  rw [a1, decide_eq_true (by omega)]
  rfl
theorem pickI (vs : List Int) {d : Int} (h0 : 0 ≤ d) (h1 : d < vs.length) : ∃ v, v ∈ vs ∧ atI (vs.map V.int) d = some (.int v) := by
  have hk : d.toNat < vs.length := by omega
  refine ⟨vs[d.toNat], List.getElem_mem hk, ?_⟩
  have z := atI_nat (xs := vs.map V.int) (j := d.toNat) (v := .int vs[d.toNat]) (by rw [List.getElem?_map]; simp [hk])
  have e : ((d.toNat : Nat) : Int) = d := by omega
  rw [e] at z
  exact z
section
variable {P : Program} {w : World} {K : PySem.W.Frag} {mg : Str → Option Value} {base : Heap} {f fD fT fF fZ : Addr} {fd fdD fdT fdF fdZ : FuncData}
/-! ### _law_six_sizes -/
def In (h : Int) (l : List Int) : Prop := ∀ x ∈ l, 0 ≤ x ∧ x ≤ h
def spSix : Sp := fun vs H Q _ => ∃ (p c : Addr) (ms : List Int) (n h : Int), vs = [.ref p, .int h] ∧ PenAt H p c ms n ∧ 0 ≤ n ∧ n ≤ 700000 ∧ 0 ≤ h ∧ h ≤ 100 ∧
  ∀ (r : Addr) (a b c' d e g n' : Int) H', In h [a, b, c', d, e, g] → canB a b c' = true → n ≤ n' → n' ≤ n + 6 → PenAt H' p c ms n' → SameBut p H H' → H' r = some (iv [a, b, c', d, e, g]) → Q (.ref r) H'
abbrev nSix : List Str := ["_law_pen_here", "_law_high", "_law_a", "_law_b", "_law_c", "_law_f", "_law_e", "_law_some", "_law_d"]
end
end TC
namespace TC
open PySem PySem.Spec PyProof.Rows L2 TCA
theorem add_frac (p u : Rat) : Rat.divInt (p.num * (u.den : Int) + u.num * (p.den : Int)) ((p.den : Int) * (u.den : Int)) = p + u := by
  have h1 : (p.den : Int) ≠ 0 := by
    have := p.den_pos
    omega
  have h2 : (u.den : Int) ≠ 0 := by
    have := u.den_pos
    omega
  have z := Rat.divInt_add_divInt p.num u.num h1 h2
  rw [Rat.num_divInt_den, Rat.num_divInt_den] at z
  exact z.symm
theorem neg_frac (p : Rat) : Rat.divInt (p.num * -1) ((p.den : Int) * 1) = -p := by
  have z := Rat.num_divInt_den (-p)
  rw [Rat.neg_num, Rat.neg_den] at z
  rw [← z, Int.mul_one]
  congr 1
  omega
theorem natabs_mul_lt {i j : Int} {A B : Nat} (h1 : i.natAbs < 2 ^ A) (h2 : j.natAbs < 2 ^ B) : (i * j).natAbs < 2 ^ (A + B) := wide_lt h1 h2
theorem lowL_fra {t b : Int} {q : Rat} (hb : b ≠ 0) (e : Rat.divInt t b = q) : (HO.tup [.int (TCM.lowL t b).1, .int (TCM.lowL t b).2]) = fraV q := by
  rw [TCR.lowL_rat t b hb, e]
  rfl
set_option exponentiation.threshold 2000 in
theorem lt1000 {n : Int} {A : Nat} (h : n.natAbs < 2 ^ A) (hA : A ≤ 1000) : n.natAbs < 2 ^ 1000 := Nat.lt_of_lt_of_le h (Nat.pow_le_pow_right (by decide) hA)
section
variable {P : Program} {w : World} {K : PySem.W.Frag} {mg : Str → Option Value} {base : Heap} {f : Addr} {fd : FuncData} {C fI fQ : Addr}
/-! ### _law_sum -/
def spSum : Sp := fun vs H Q _ => ∃ (d1 d2 : Addr) (k1 k2 : List Int) (g1 g2 : Int → Rat) (A B : Nat), vs = [.ref d1, .ref d2] ∧ DictAt H d1 k1 g1 ∧ DictAt H d2 k2 g2 ∧ (∀ r, TCR.Sz A (g1 r)) ∧ (∀ r, TCR.Sz B (g2 r)) ∧ 0 < A ∧ 0 < B ∧ A + B ≤ 8000 ∧ k1.length + k2.length ≤ 900 ∧
  ∀ d' ks' H', Same H H' → H d' = none → DictAt H' d' ks' (fun r => g1 r + g2 r) → Clear ks' (fun r => g1 r + g2 r) → ks'.length ≤ k1.length + k2.length → (∀ r ∈ ks', r ∈ k1 ∨ r ∈ k2) → Q (.ref d') H'
end
end TC
namespace TC
open PySem PySem.Spec PyProof.Rows L2 TCA
theorem DictAt.lock {H : Hp} {d p : Addr} {o : HO} {kv : List (Key × V)} {ks : List Int} {g : Int → Rat} (e : H d = some (.dK kv)) (n : p ≠ d) (h : DictAt H p ks g) : DictAt (upd H d o) p ks g := by
  obtain ⟨kvs, h1, h2, h3, h4, h5⟩ := h
  refine ⟨kvs, by rw [upd_ne n]; exact h1, h2, fun r hr => ?_, h4, h5⟩
  obtain ⟨u, u1, u2⟩ := h3 r hr
  exact ⟨u, u1, by
    rw [upd_ne fun z => by
      rw [z, e] at u2
      cases u2]
    exact u2⟩
theorem DictAt.lockF {H : Hp} {d p : Addr} {o u0 : HO} {od : Obj} {ks : List Int} {g : Int → Rat} (e : H d = some (.frz od u0)) (n : p ≠ d) (h : DictAt H p ks g) : DictAt (upd H d o) p ks g := by
  obtain ⟨kvs, h1, h2, h3, h4, h5⟩ := h
  refine ⟨kvs, by rw [upd_ne n]; exact h1, h2, fun r hr => ?_, h4, h5⟩
  obtain ⟨u, u1, u2⟩ := h3 r hr
  exact ⟨u, u1, by
    rw [upd_ne fun z => by
      rw [z, e] at u2
      cases u2]
    exact u2⟩
section
variable {P : Program} {w : World} {K : PySem.W.Frag} {mg : Str → Option Value} {base : Heap} {f : Addr} {fd : FuncData} {C fI fQ : Addr}
/-! ### _law_common -/
def spCommon : Sp := fun vs H Q _ => ∃ r s : Int, vs = [.int r, .int s] ∧ 0 ≤ r ∧ 0 ≤ s ∧ Q (.int (gR r s)) H
/-! ### _law_product -/
def spProduct : Sp := fun vs H Q _ => ∃ (d1 d2 : Addr) (k1 k2 : List Int) (g1 g2 : Int → Rat) (D1 D2 A1 A2 B1 B2 R : Nat), vs = [.ref d1, .ref d2] ∧ d1 ≠ d2 ∧ DictAt H d1 k1 g1 ∧ DictAt H d2 k2 g2 ∧
  (∀ r, (g1 r).den ∣ D1) ∧ (∀ r, (g2 r).den ∣ D2) ∧ 0 < D1 ∧ 0 < D2 ∧ D1 < 2 ^ B1 ∧ D2 < 2 ^ B2 ∧ (∀ r, (g1 r).num.natAbs < 2 ^ A1) ∧ (∀ r, (g2 r).num.natAbs < 2 ^ A2) ∧ 0 < A1 ∧ 0 < A2 ∧ 0 < B1 ∧ 0 < B2 ∧ 0 < R ∧
  A1 + B1 + (A2 + B2) + R ≤ 3900 ∧ (∀ r ∈ k1, 0 < r ∧ r.natAbs < 2 ^ R) ∧ (∀ r ∈ k2, 0 < r ∧ r.natAbs < 2 ^ R) ∧ k1.length * k2.length ≤ 800 ∧
  ∀ d ks H', Same H H' → H d = none → DictAt H' d ks (prodG k1 k2 g1 g2) → Clear ks (prodG k1 k2 g1 g2) → ks.length ≤ k1.length * k2.length → (∀ u ∈ ks, ∃ r ∈ k1, ∃ s ∈ k2, u = mulR r s) → Q (.ref d) H'
end
end TC
namespace TCX
theorem nat_rat (n : Nat) : (((n : Nat) : Int) : Rat) = (n : Rat) := rfl
theorem divInt_nat (a b : Nat) : Rat.divInt (a : Int) (b : Int) = (a : Rat) / (b : Rat) := by
  rw [Rat.div_def, ← nat_rat a, ← nat_rat b]
  rw [Rat.divInt_eq_div, Rat.div_def]
theorem frac_pos {a b : Nat} (ha : 0 < a) (hb : 0 < b) : 0 < Rat.divInt (a : Int) (b : Int) := by
  rw [divInt_nat, Rat.div_def]
  exact Rat.mul_pos (pos_nat ha) (Rat.inv_pos.mpr (pos_nat hb))
/-- the fraction and the root that root_of_factorials tells -/
theorem rootE_rt {ab be : List Nat} (h1 : ∀ n ∈ ab, n < 123) (h2 : ∀ n ∈ be, n < 123) : IsRt (rootE ab be) (Rat.divInt ((topE ab be : Nat) : Int) ((botE ab be : Nat) : Int)) ((prodF ab : Rat) / (prodF be : Rat)) := by
  have e := rootE_ok h1 h2
  have t0 := topE_pos ab be
  have b0 := botE_pos ab be
  have p0 : 0 < prodF be := by
    rw [prodF_leg h2]
    exact powP_pos pr30_p
  refine ⟨rootE_sqF ab be, frac_pos t0 b0, ?_⟩
  rw [divInt_nat]
  have n1 := ne_of_pos (pos_nat b0)
  have n2 := ne_of_pos (pos_nat p0)
  have e' : ((botE ab be * botE ab be * prodF ab : Nat) : Rat) = ((topE ab be * topE ab be * rootE ab be * prodF be : Nat) : Rat) := by rw [e]
  simp only [Rat.natCast_mul] at e'
  generalize (botE ab be : Rat) = x at *
  generalize (topE ab be : Rat) = y at *
  generalize (rootE ab be : Rat) = z at *
  generalize (prodF ab : Rat) = u at *
  generalize (prodF be : Rat) = v at *
  grind
/-- .. and that the trial by squares tells -/
theorem sq_rt {up un sq fr : Nat} (e : up * un = sq * sq * fr) (hf : SqF fr) (hs : 0 < sq) (hu : 0 < un) : IsRt fr (Rat.divInt (sq : Int) (un : Int)) ((up : Rat) / (un : Rat)) := by
  refine ⟨hf, frac_pos hs hu, ?_⟩
  rw [divInt_nat]
  have n1 := ne_of_pos (pos_nat hu)
  have e' : ((up * un : Nat) : Rat) = ((sq * sq * fr : Nat) : Rat) := by rw [e]
  simp only [Rat.natCast_mul] at e'
  generalize (sq : Rat) = x at *
  generalize (un : Rat) = y at *
  generalize (up : Rat) = z at *
  generalize (fr : Rat) = u at *
  grind
end TCX
namespace TC
set_option exponentiation.threshold 20000
open PySem PySem.Spec PyProof.Rows L2 TCA TCX
def LLi (ts os : List Int) (k : Int) : List Int := (ts.map fun t => k - t) ++ os.map fun o => o - k
section
variable {P : Program} {w : World} {K : PySem.W.Frag} {mg : Str → Option Value} {base : Heap} {f : Addr} {fd : FuncData} {C fI fQ : Addr}
/-! ### _law_six_terms -/
def spSixTermsL : Sp := fun vs H Q _ => ∃ (t : Addr) (a b c d e g : Int), vs = [.ref t] ∧ H t = some (iv [a, b, c, d, e, g]) ∧ SixP a b c d e g ∧
  ∀ (D : Addr) (us : List Addr) H', Same H H' → H D = none → H' D = some (.lst (us.map V.ref)) → PrsAt H' us (pairsL (sixTL (sixTs a b c d e g) (sixOs a b c d e g))) → Q (.ref D) H'
abbrev nSixTermsL : List Str := ["_law_sizes_here", "_law_lows", "_law_highs", "_law_found", "_law_k", "_law_under", "_law_n", "_law_low_here", "_law_high"]
end
end TC
namespace TC
set_option exponentiation.threshold 20000
open PySem PySem.Spec PyProof.Rows L2 TCA TCX
theorem mulR_nat (x y : Nat) : mulR (x : Int) (y : Int) = ((x / Nat.gcd x y * (y / Nat.gcd x y) : Nat) : Int) := by
  unfold mulR gR
  rw [Int.gcd_natCast_natCast, Int.fdiv_eq_ediv_of_nonneg _ (by omega), Int.fdiv_eq_ediv_of_nonneg _ (by omega), Int.natCast_mul, Int.natCast_ediv, Int.natCast_ediv]
theorem gR_nat (x y : Nat) : gR (x : Int) (y : Int) = ((Nat.gcd x y : Nat) : Int) := by
  unfold gR
  rw [Int.gcd_natCast_natCast]
/-- a fraction times one root, as a function of roots -/
def rtF (F : Nat) (Q : Rat) (r : Int) : Rat := if r = (F : Int) then Q else 0
theorem prod_rt {F F' : Nat} {Q Q' N N' : Rat} (h : IsRt F Q N) (h' : IsRt F' Q' N') {G : Nat} {R : Rat} (hG : IsRt G R (N * N')) : prodG [(F : Int)] [(F' : Int)] (rtF F Q) (rtF F' Q') = rtF G R := by
  funext u
  obtain ⟨e1, e2⟩ := (h.mul h').uniq hG
  show (((if mulR (F : Int) (F' : Int) = u then rtF F Q F * rtF F' Q' F' * ((gR (F : Int) (F' : Int) : Int) : Rat) else 0) + 0) + 0) = rtF G R u
  rw [Rat.add_zero, Rat.add_zero, mulR_nat, gR_nat, e1]
  unfold rtF
  rw [if_pos rfl, if_pos rfl]
  by_cases z : u = (G : Int)
  · rw [if_pos z.symm, if_pos z, ← e2]
    rfl
  · rw [if_neg fun y => z y.symm, if_neg z]
theorem keys_one {H : Hp} {d : Addr} {ks : List Int} {F : Nat} {Q : Rat} (h : DictAt H d ks (rtF F Q)) (hq : Q ≠ 0) (hl : ks.length ≤ 1) : ks = [(F : Int)] := by
  obtain ⟨kvs, h1, h2, h3, h4, h5⟩ := h
  have m : (F : Int) ∈ ks := Classical.byContradiction fun z => hq (by
    have := h5 _ z
    unfold rtF at this
    rw [if_pos rfl] at this
    exact this)
  match ks, m, hl with
  | [x], m, _ => rw [List.mem_singleton.mp m]
theorem rt_num {ab be : List Nat} (h1 : ∀ n ∈ ab, n < 123) (h2 : ∀ n ∈ be, n < 123) : (Rat.divInt ((topE ab be : Nat) : Int) ((botE ab be : Nat) : Int)).num = (topE ab be : Int) ∧ (Rat.divInt ((topE ab be : Nat) : Int) ((botE ab be : Nat) : Int)).den = botE ab be := rat_cop (botE_pos _ _) (topE_cop _ _)
theorem flat3_lt {a b c d e f : Int} (h : SixF a b c d e f) (i : Nat) : ∀ n ∈ ((quad a b c d e f).take i).flatMap ab3, n < 42 := fun n hn => by
  obtain ⟨l, hl, hn⟩ := List.mem_flatMap.mp hn
  exact sAb_lt h n (List.mem_flatMap.mpr ⟨l, List.mem_of_mem_take hl, hn⟩)
theorem map1_lt {a b c d e f : Int} (h : SixF a b c d e f) (i : Nat) : ∀ n ∈ ((quad a b c d e f).take i).map be1, n < 62 := fun n hn => by
  obtain ⟨l, hl, rfl⟩ := List.mem_map.mp hn
  exact sBe_lt h _ (List.mem_map.mpr ⟨l, List.mem_of_mem_take hl, rfl⟩)
theorem flat3_len {l : List (List Int)} : (l.flatMap ab3).length = 3 * l.length := by
  induction l with
  | nil => rfl
  | cons x l ih =>
    rw [List.flatMap_cons, List.length_append, ih]
    show 3 + _ = 3 * (l.length + 1)
    omega
section
variable {P : Program} {w : World} {K : PySem.W.Frag} {mg : Str → Option Value} {base : Heap} {f : Addr} {fd : FuncData} {C fI fQ : Addr}
/-! ### _law_six -/
def spSixL : Sp := fun vs H Q _ => ∃ (t : Addr) (a b c d e g : Int), vs = [.ref t] ∧ H t = some (iv [a, b, c, d, e, g]) ∧ (∀ x ∈ [a, b, c, d, e, g], 0 ≤ x ∧ x ≤ 40) ∧
  ∀ (d' : Addr) (ks : List Int) H', Same H H' → H d' = none → DictAt H' d' ks (TCR.val (sixL a b c d e g)) → Clear ks (TCR.val (sixL a b c d e g)) → ks.length ≤ 1 → Q (.ref d') H'
abbrev nSixL : List Str := ["_law_sizes_here", "_law_total", "_law_found", "_law_p", "_law_q", "_law_a", "_law_b", "_law_c", "_law_up", "_law_under", "_law_n"]
end
end TC
namespace TC
set_option exponentiation.threshold 20000
open PySem PySem.Spec PyProof.Rows L2 TCA TCX
/-! ### numbers that are a fraction times one root -/
/-- the parts of s times the root of N -/
structure Su (L : List Part) (s N : Rat) : Prop where
  can : TCR.Canon L
  v : ∀ r, TCR.val L r = sv s N r
theorem Su.uniq {L M : List Part} {s N : Rat} (h : Su L s N) (h' : Su M s N) : L = M := TCR.canon_eq h.can h'.can fun r => (h.v r).trans (h'.v r).symm
theorem Su.nil (N : Rat) : Su [] 0 N := ⟨TCR.canon_nil, fun r => (sv_zero N r).symm⟩
theorem Su.zero {L : List Part} {N : Rat} (h : Su L 0 N) : L = [] := h.uniq (Su.nil N)
theorem Su.scale {L : List Part} {s N t : Rat} (hN : 0 < N) (ht : 0 < t) (h : Su L s (N * (t * t))) : Su L (s * t) N := ⟨h.can, fun r => (h.v r).trans (sv_sq s hN ht r)⟩
theorem Su.of {L : List Part} {s N s' N' : Rat} (h : Su L s N) (e : s = s') (e' : N = N') : Su L s' N' := by rw [← e, ← e']; exact h
theorem Su.shape {L : List Part} {s N : Rat} (h : Su L s N) : (L = [] ∧ ∀ F Q, IsRt F Q N → s * Q = 0) ∨ ∀ F Q, IsRt F Q N → L = [((F : Int), s * Q)] ∧ s * Q ≠ 0 := by
  match L, h with
  | [], h =>
    refine .inl ⟨rfl, fun F Q hR => ?_⟩
    have := h.v (F : Int)
    rw [hR.sv, if_pos rfl] at this
    exact this.symm
  | x :: M, h =>
    refine .inr fun F Q hR => ?_
    have hx := h.can.mem (x := x) (by simp)
    have nz := h.can.nz x (by simp)
    have e1 := h.v x.1
    rw [hx, hR.sv] at e1
    have ex : x.1 = (F : Int) := Classical.byContradiction fun z => nz (by rw [e1, if_neg z])
    rw [if_pos ex] at e1
    have em : M = [] := by
      cases M with
      | nil => rfl
      | cons y M =>
        exfalso
        have hy := h.can.mem (x := y) (by simp)
        have nzy := h.can.nz y (by simp)
        have e2 := h.v y.1
        rw [hy, hR.sv] at e2
        have ey : y.1 = (F : Int) := Classical.byContradiction fun z => nzy (by rw [e2, if_neg z])
        have lt := (List.pairwise_cons.mp h.can.srt).1 y (by simp)
        omega
    subst em
    obtain ⟨x1, x2⟩ := x
    dsimp only at ex e1 nz
    subst ex e1
    exact ⟨rfl, nz⟩
theorem Su.len {L : List Part} {s N : Rat} (h : Su L s N) (hN : 0 < N) : L.length ≤ 1 := by
  rcases h.shape with ⟨rfl, _⟩ | h
  · decide
  · rw [(h _ _ (rt_ok hN)).1]
    exact Nat.le_refl 1
/-- .. with bounds: s is a / b, N is p / q -/
def SuB (L : List Part) (s N : Rat) (A B : Nat) : Prop := Su L s N ∧ ∃ (a : Int) (b p q : Nat), s = Rat.divInt a (b : Int) ∧ N = (p : Rat) / (q : Rat) ∧ 0 < b ∧ 0 < p ∧ 0 < q ∧ a.natAbs < 2 ^ A ∧ b < 2 ^ A ∧ p < 2 ^ B ∧ q < 2 ^ B
theorem quot_pos {p q : Nat} (hp : 0 < p) (hq : 0 < q) : 0 < (p : Rat) / (q : Rat) := by
  rw [Rat.div_def]
  exact Rat.mul_pos (pos_nat hp) (Rat.inv_pos.mpr (pos_nat hq))
theorem SuB.pos {L : List Part} {s N : Rat} {A B : Nat} (h : SuB L s N A B) : 0 < N := by
  obtain ⟨_, a, b, p, q, _, e, _, p0, q0, _⟩ := h
  rw [e]
  exact quot_pos p0 q0
theorem SuB.len {L : List Part} {s N : Rat} {A B : Nat} (h : SuB L s N A B) : L.length ≤ 1 := h.1.len h.pos
theorem divInt_mul_nat {a c : Int} {b d : Nat} : Rat.divInt a (b : Int) * Rat.divInt c (d : Int) = Rat.divInt (a * c) ((b * d : Nat) : Int) := by
  rw [Rat.divInt_mul_divInt, Int.natCast_mul]
theorem SuB.fit {L : List Part} {s N : Rat} {A B : Nat} (h : SuB L s N A B) : ∃ D : Nat, 0 < D ∧ D < 2 ^ (A + B) ∧ Fit D (A + (B + B)) (B + B) L := by
  obtain ⟨hS, a, b, p, q, e1, e2, b0, p0, q0, al, bl, pl, ql⟩ := h
  refine ⟨b * q, Nat.mul_pos b0 q0, ?_, ?_⟩
  · rw [Nat.pow_add]
    exact Nat.mul_lt_mul'' bl ql
  obtain ⟨sq, f, s0, hf, e⟩ := sq_part (p * q) (Nat.mul_pos p0 q0)
  have R := sq_rt e hf s0 q0
  rw [← e2] at R
  have pq : p * q < 2 ^ (B + B) := by
    rw [Nat.pow_add]
    exact Nat.mul_lt_mul'' pl ql
  have fl : f < 2 ^ (B + B) := Nat.lt_of_le_of_lt (by rw [e]; exact Nat.le_mul_of_pos_left _ (Nat.mul_pos s0 s0)) pq
  have sl : sq < 2 ^ (B + B) := Nat.lt_of_le_of_lt (by rw [e]; exact Nat.le_trans (Nat.le_mul_of_pos_right _ s0) (Nat.le_mul_of_pos_right _ hf.pos)) pq
  rcases hS.shape with ⟨rfl, _⟩ | h
  · exact ⟨TCR.canon_nil, (fun x hx => by cases hx), (fun x hx => by cases hx), (fun x hx => by cases hx)⟩
  obtain ⟨eL, nz⟩ := h _ _ R
  have eq : s * Rat.divInt (sq : Int) (q : Int) = Rat.divInt (a * sq) ((b * q : Nat) : Int) := by rw [e1, divInt_mul_nat]
  have bq : 0 < b * q := Nat.mul_pos b0 q0
  refine ⟨hS.can, fun x hx => ?_, fun x hx => ?_, fun x hx => ?_⟩ <;> rw [eL] at hx <;> rw [List.mem_singleton.mp hx]
  · show (s * Rat.divInt (sq : Int) (q : Int)).den ∣ b * q
    rw [eq]
    exact den_divInt bq
  · show (s * Rat.divInt (sq : Int) (q : Int)).num.natAbs < 2 ^ (A + (B + B))
    rw [eq]
    have lo := (TCM.low_abs (a * (sq : Int)) ((b * q : Nat) : Int) (by omega)).1
    rw [TCR.low_rat _ _ (by omega)] at lo
    exact Nat.lt_of_le_of_lt lo (wide_lt al (nat_bits sl))
  · have := hf.pos
    exact ⟨by show (0 : Int) < (f : Int); omega, by show ((f : Nat) : Int).natAbs < _; rw [Int.natAbs_natCast]; exact fl⟩
theorem SuB.mk' {L : List Part} {s N : Rat} (h : Su L s N) {A B : Nat} {a : Int} {b p q : Nat} (e1 : s = Rat.divInt a (b : Int)) (e2 : N = (p : Rat) / (q : Rat)) (b0 : 0 < b) (p0 : 0 < p) (q0 : 0 < q) (al : a.natAbs < 2 ^ A) (bl : b < 2 ^ A) (pl : p < 2 ^ B) (ql : q < 2 ^ B) : SuB L s N A B :=
  ⟨h, a, b, p, q, e1, e2, b0, p0, q0, al, bl, pl, ql⟩
theorem SuB.mono {L : List Part} {s N : Rat} {A B A' B' : Nat} (h : SuB L s N A B) (hA : A ≤ A') (hB : B ≤ B') : SuB L s N A' B' := by
  obtain ⟨hS, a, b, p, q, e1, e2, b0, p0, q0, al, bl, pl, ql⟩ := h
  have x := Nat.pow_le_pow_right (show 0 < 2 by decide) hA
  have y := Nat.pow_le_pow_right (show 0 < 2 by decide) hB
  exact ⟨hS, a, b, p, q, e1, e2, b0, p0, q0, by omega, by omega, by omega, by omega⟩
theorem cov_can {L : List Part} (h : TCR.Canon L) : Cov (TCR.val L) (L.map (·.1)) := by
  refine ⟨?_, fun r hr => ?_⟩
  · refine List.pairwise_map.mpr (h.srt.imp fun {a b} z => ?_)
    omega
  · obtain ⟨q, hq⟩ := h.val_ne.mp hr
    exact List.mem_map.mpr ⟨_, hq, rfl⟩
/-- products -/
theorem Su.times {L M K : List Part} {s s' N N' : Rat} (h : Su L s N) (h' : Su M s' N') (hN : 0 < N) (hN' : 0 < N') (cK : TCR.Canon K) (hv : ∀ u, TCR.val K u = prodG (L.map (·.1)) (M.map (·.1)) (TCR.val L) (TCR.val M) u) : Su K (s * s') (N * N') := by
  refine ⟨cK, fun u => ?_⟩
  have R := rt_ok hN
  have R' := rt_ok hN'
  have R2 := R.mul R'
  have c1 : Cov (TCR.val L) [((rF N : Nat) : Int)] := ⟨by simp, fun r hr => by
    rw [h.v, R.sv] at hr
    exact List.mem_singleton.mpr (Classical.byContradiction fun z => hr (if_neg z))⟩
  have c2 : Cov (TCR.val M) [((rF N' : Nat) : Int)] := ⟨by simp, fun r hr => by
    rw [h'.v, R'.sv] at hr
    exact List.mem_singleton.mpr (Classical.byContradiction fun z => hr (if_neg z))⟩
  rw [hv u, prodG_supp (cov_can h.can) c1 (cov_can h'.can) c2 u, R2.sv]
  show (((if mulR ((rF N : Nat) : Int) ((rF N' : Nat) : Int) = u then TCR.val L ((rF N : Nat) : Int) * TCR.val M ((rF N' : Nat) : Int) * ((gR ((rF N : Nat) : Int) ((rF N' : Nat) : Int) : Int) : Rat) else 0) + 0) + 0) = _
  rw [Rat.add_zero, Rat.add_zero, mulR_nat, gR_nat, h.v, h'.v, R.sv, R'.sv, if_pos rfl, if_pos rfl]
  by_cases z : u = ((rF N / Nat.gcd (rF N) (rF N') * (rF N' / Nat.gcd (rF N) (rF N')) : Nat) : Int)
  · rw [if_pos z.symm, if_pos z]
    show s * rQ N * (s' * rQ N') * ((Nat.gcd (rF N) (rF N') : Nat) : Rat) = s * s' * (rQ N * rQ N' * ((Nat.gcd (rF N) (rF N') : Nat) : Rat))
    grind
  · rw [if_neg fun y => z y.symm, if_neg z]
theorem SuB.times {L M K : List Part} {s s' N N' : Rat} {A B A' B' : Nat} (h : SuB L s N A B) (h' : SuB M s' N' A' B') (cK : TCR.Canon K) (hv : ∀ u, TCR.val K u = prodG (L.map (·.1)) (M.map (·.1)) (TCR.val L) (TCR.val M) u) : SuB K (s * s') (N * N') (A + A') (B + B') := by
  have S := h.1.times h'.1 h.pos h'.pos cK hv
  obtain ⟨_, a, b, p, q, e1, e2, b0, p0, q0, al, bl, pl, ql⟩ := h
  obtain ⟨_, a', b', p', q', e1', e2', b0', p0', q0', al', bl', pl', ql'⟩ := h'
  refine ⟨S, a * a', b * b', p * p', q * q', ?_, ?_, Nat.mul_pos b0 b0', Nat.mul_pos p0 p0', Nat.mul_pos q0 q0', wide_lt al al', ?_, ?_, ?_⟩
  · rw [e1, e1', divInt_mul_nat]
  · rw [e2, e2', Rat.natCast_mul, Rat.natCast_mul]
    have n1 := ne_of_pos (pos_nat q0)
    have n2 := ne_of_pos (pos_nat q0')
    generalize (p : Rat) = x1
    generalize (q : Rat) = x2 at *
    generalize (p' : Rat) = x3
    generalize (q' : Rat) = x4 at *
    grind
  · rw [Nat.pow_add]; exact Nat.mul_lt_mul'' bl bl'
  · rw [Nat.pow_add]; exact Nat.mul_lt_mul'' pl pl'
  · rw [Nat.pow_add]; exact Nat.mul_lt_mul'' ql ql'
/-- sums over one root -/
theorem Su.plus {L M K : List Part} {s s' N : Rat} (h : Su L s N) (h' : Su M s' N) (cK : TCR.Canon K) (hv : ∀ r, TCR.val K r = TCR.val L r + TCR.val M r) : Su K (s + s') N :=
  ⟨cK, fun r => by rw [hv r, h.v, h'.v, sv_add]⟩
theorem SuB.plus {L M K : List Part} {s s' N : Rat} {A B A' B' : Nat} (h : SuB L s N A B) (h' : SuB M s' N A' B') (cK : TCR.Canon K) (hv : ∀ r, TCR.val K r = TCR.val L r + TCR.val M r) : SuB K (s + s') N (A + A' + 1) B := by
  have S := h.1.plus h'.1 cK hv
  obtain ⟨_, a, b, p, q, e1, e2, b0, p0, q0, al, bl, pl, ql⟩ := h
  obtain ⟨_, a', b', p', q', e1', e2', b0', p0', q0', al', bl', pl', ql'⟩ := h'
  have hb : ((b : Nat) : Int).natAbs < 2 ^ A := by rw [Int.natAbs_natCast]; exact bl
  have hb' : ((b' : Nat) : Int).natAbs < 2 ^ A' := by rw [Int.natAbs_natCast]; exact bl'
  have w1 := wide_lt al hb'
  have w2 := wide_lt hb al'
  refine ⟨S, a * b' + b * a', b * b', p, q, ?_, e2, Nat.mul_pos b0 b0', p0, q0, ?_, ?_, pl, ql⟩
  · rw [e1, e1', Rat.divInt_add_divInt _ _ (by omega) (by omega), Int.natCast_mul]
    congr 1
    grind
  · have := Int.natAbs_add_le (a * (b' : Int)) ((b : Int) * a')
    rw [Nat.pow_succ]
    omega
  · have := Nat.mul_lt_mul'' bl bl'
    rw [← Nat.pow_add] at this
    rw [Nat.pow_succ]
    omega
/-- what exact makes -/
theorem su_exact {t b r : Int} (hr : RootOk r) (r0 : 0 < r) (hb : b ≠ 0) (hi : SqF (TCM.sqOut r).2.1.toNat) (he : (TCM.sqOut r).1 * (TCM.sqOut r).1 * (TCM.sqOut r).2.1 = r) (i0 : 0 < (TCM.sqOut r).2.1) (o0 : 0 < (TCM.sqOut r).1) : Su (exL t b r) (Rat.divInt t b) (r : Rat) := by
  obtain ⟨o, ho⟩ : ∃ o : Nat, (TCM.sqOut r).1 = (o : Int) := ⟨(TCM.sqOut r).1.toNat, by omega⟩
  obtain ⟨i, hi'⟩ : ∃ i : Nat, (TCM.sqOut r).2.1 = (i : Int) := ⟨(TCM.sqOut r).2.1.toNat, by omega⟩
  rw [hi', Int.toNat_natCast] at hi
  rw [ho, hi'] at he
  have R : IsRt i (o : Rat) (r : Rat) := by
    refine ⟨hi, pos_nat (by omega), ?_⟩
    rw [← he]
    rw [Rat.intCast_mul, Rat.intCast_mul]
    rfl
  have ex : exL t b r = oneL (i : Int) (t * (o : Int)) b := by
    unfold exL
    rw [ho, hi']
  have eq : Rat.divInt (t * (o : Int)) b = Rat.divInt t b * (o : Rat) := by
    have z : ((o : Nat) : Rat) = Rat.divInt (o : Int) 1 := (Rat.num_divInt_den (((o : Nat) : Int) : Rat)).symm
    rw [z, Rat.divInt_mul_divInt, Int.mul_one]
  rw [ex]
  unfold oneL
  by_cases ht : t * (o : Int) = 0
  · rw [if_pos ht]
    have t0 : t = 0 := by
      rcases Int.mul_eq_zero.mp ht with z | z
      · exact z
      · omega
    rw [t0, Rat.zero_divInt]
    exact Su.nil _
  · rw [if_neg ht]
    refine ⟨TCR.canon_one (divInt_ne hb ht), fun u => ?_⟩
    rw [val_one, R.sv, eq]
theorem su_int {t b : Int} (hb : b ≠ 0) : Su (exL t b 1) (Rat.divInt t b) 1 := by
  have e : TCM.sqOut 1 = (1, 1, 1) := by decide +kernel
  have := su_exact (t := t) (b := b) (r := 1) root_ok1 (by decide) hb (by rw [e]; exact SqF.one) (by rw [e]; decide) (by rw [e]; decide) (by rw [e]; decide)
  exact this
theorem sub_int {t : Int} {b : Nat} {A : Nat} (hb : 0 < b) (ht : t.natAbs < 2 ^ A) (hb' : b < 2 ^ A) : SuB (exL t (b : Int) 1) (Rat.divInt t (b : Int)) 1 A 1 :=
  ⟨su_int (by omega), t, b, 1, 1, rfl, by decide +kernel, hb, by decide, by decide, ht, hb', by decide, by decide⟩
/-! ### the program's numbers so -/
theorem FnOk.imp {P : Program} {w : World} {K : PySem.W.Frag} {mg : Str → Option Value} {base : Heap} {CX : CXT} {k : Nat} {f : Addr} {fd : FuncData} {ps : List Str} {sp sp' : Sp} (F : FnOk P w K mg base CX k f fd ps sp) (h : ∀ vs H Q E, sp' vs H Q E → sp vs H Q E) : FnOk P w K mg base CX k f fd ps sp' :=
  ⟨fun vs H Q E x => F.len vs H Q E (h _ _ _ _ x), fun A outer s H args us vs Q E hr he hb hv hs => F.run A outer s H args us vs Q E hr he hb hv (h _ _ _ _ hs)⟩
def spTimesS (C : Addr) : Sp := fun vs H Q _ => ∃ (x y : Addr) (L M : List Part) (s s' N N' : Rat) (A B A' B' : Nat), vs = [.ref x, .ref y] ∧ NumAt C H x L ∧ NumAt C H y M ∧ SuB L s N A B ∧ SuB M s' N' A' B' ∧ A + B + A' + B' ≤ 2000 ∧
  ∀ z K H', Same H H' → H z = none → NumAt C H' z K → SuB K (s * s') (N * N') (A + A') (B + B') → Q (.ref z) H'
theorem timesS {C : Addr} : ∀ vs H Q E, spTimesS C vs H Q E → spTimes C vs H Q E := fun vs H Q E h => by
  obtain ⟨x, y, L, M, s, s', N, N', A, B, A', B', e, h1, h2, S1, S2, bd, q⟩ := h
  obtain ⟨D1, d1, dl1, F1⟩ := (S1.mono (Nat.le_succ A) (Nat.le_succ B)).fit
  obtain ⟨D2, d2, dl2, F2⟩ := (S2.mono (Nat.le_succ A') (Nat.le_succ B')).fit
  have l1 := S1.len
  have l2 := S2.len
  have up : ∀ {D a r R : Nat} {L : List Part}, Fit D a r L → r ≤ R → Fit D a R L := fun h hr => ⟨h.can, h.den, h.num, fun x hx => ⟨(h.pos x hx).1, Nat.lt_of_lt_of_le (h.pos x hx).2 (Nat.pow_le_pow_right (by decide) hr)⟩⟩
  refine ⟨x, y, L, M, D1, D2, _, _, _, _, (B + 1 + (B + 1)) + (B' + 1 + (B' + 1)), e, h1, h2, up F1 (by omega), up F2 (by omega), d1, d2, dl1, dl2, by omega, by omega, by omega, by omega, by omega, by omega, by omega, by omega, by omega, by omega, ?_, fun z K H' sm hz hK fK vK lK => q z K H' sm hz hK (S1.times S2 fK.can vK)⟩
  have := Nat.mul_le_mul l1 l2
  omega
def spPlusS (C : Addr) : Sp := fun vs H Q _ => ∃ (x y : Addr) (L M : List Part) (s s' N : Rat) (A B A' B' : Nat), vs = [.ref x, .ref y] ∧ NumAt C H x L ∧ NumAt C H y M ∧ SuB L s N A B ∧ SuB M s' N A' B' ∧ A + B + A' + B' ≤ 2000 ∧
  ∀ z K H', Same H H' → H z = none → NumAt C H' z K → SuB K (s + s') N (A + A' + 1) B → Q (.ref z) H'
theorem fit_good {D A R G : Nat} {L : List Part} (h : Fit D A R L) (hD : D < 2 ^ G) (hA : A ≤ G) (d0 : 0 < D) : Good G L := ⟨h.can, fun x hx => ⟨Nat.lt_of_lt_of_le (h.num x hx) (Nat.pow_le_pow_right (by decide) hA), Nat.lt_of_le_of_lt (Nat.le_of_dvd d0 (h.den x hx)) hD⟩⟩
theorem plusS {C : Addr} : ∀ vs H Q E, spPlusS C vs H Q E → spPlus C vs H Q E := fun vs H Q E h => by
  obtain ⟨x, y, L, M, s, s', N, A, B, A', B', e, h1, h2, S1, S2, bd, q⟩ := h
  obtain ⟨D1, d1, dl1, F1⟩ := (S1.mono (Nat.le_succ A) (Nat.le_succ B)).fit
  obtain ⟨D2, d2, dl2, F2⟩ := (S2.mono (Nat.le_succ A') (Nat.le_succ B')).fit
  have l1 := S1.len
  have l2 := S2.len
  refine ⟨x, y, L, M, A + 1 + (B + 1 + (B + 1)), A' + 1 + (B' + 1 + (B' + 1)), e, h1, h2, fit_good F1 (Nat.lt_of_lt_of_le dl1 (Nat.pow_le_pow_right (by decide) (by omega))) (Nat.le_refl _) d1, fit_good F2 (Nat.lt_of_lt_of_le dl2 (Nat.pow_le_pow_right (by decide) (by omega))) (Nat.le_refl _) d2, by omega, by omega, by omega, by omega, fun z K H' sm hz hK gK vK lK => q z K H' sm hz hK (S1.plus S2 gK.1 vK)⟩
/-- joined numbers -/
def jN (a u b v c w : Int) : Rat := (prodF (jAb a u b v c w) : Rat) / (prodF (jBe a b c) : Rat)
theorem su_joined {a u b v c w : Int} (h1 : PairP a u) (h2 : PairP b v) (h3 : PairP c w) (J : JoinP a b c u v w) : Su (joinL a u b v c w) ((jSum a u b v c : Int) : Rat) (jN a u b v c w) := by
  have la := jAb_lt h1 h2 h3
  have lb := jBe_lt h1 h2 h3
  have R := rootE_rt (ab := jAb a u b v c w) (be := jBe a b c) (fun n hn => by have := la n hn; omega) (fun n hn => by have := lb n hn; omega)
  refine ⟨canon_joinL _ _ _ _ _ _, fun r => ?_⟩
  unfold joinL jN
  rw [if_pos J, val_oneQ, R.sv, show Rat.divInt (jSum a u b v c) 1 = ((jSum a u b v c : Int) : Rat) from Rat.num_divInt_den ((jSum a u b v c : Int) : Rat)]
theorem su_joined0 {a u b v c w : Int} (J : ¬ JoinP a b c u v w) : joinL a u b v c w = [] := by
  unfold joinL
  rw [if_neg J]
/-- sixes -/
def sN (a b c d e f : Int) : Rat := (prodF (sAb a b c d e f) : Rat) / (prodF (sBe a b c d e f) : Rat)
theorem su_six {a b c d e f : Int} (h : SixP a b c d e f) : Su (sixL a b c d e f) ((sixS (sixTs a b c d e f) (sixOs a b c d e f) : Int) : Rat) (sN a b c d e f) := by
  have la := sAb_lt h.f
  have lb := sBe_lt h.f
  have R := rootE_rt (ab := sAb a b c d e f) (be := sBe a b c d e f) (fun n hn => by have := la n hn; omega) (fun n hn => by have := lb n hn; omega)
  refine ⟨?_, fun r => ?_⟩
  · unfold sixL
    rw [if_pos h.j]
    exact canon_oneQ _ _
  · unfold sixL sN
    rw [if_pos h.j, val_oneQ, R.sv, show Rat.divInt (sixS (sixTs a b c d e f) (sixOs a b c d e f)) 1 = ((sixS (sixTs a b c d e f) (sixOs a b c d e f) : Int) : Rat) from Rat.num_divInt_den ((sixS (sixTs a b c d e f) (sixOs a b c d e f) : Int) : Rat)]
theorem six_none {a b c d e f : Int} (h : ¬ Jn a b c d e f = true) : sixL a b c d e f = [] := by
  unfold sixL
  rw [if_neg h]
end TC
namespace TC
set_option exponentiation.threshold 20000
open PySem PySem.Spec PyProof.Rows L2 TCA TCX
/-! ### a three as a fraction times one root -/
def tI (a u b v c w : Int) : Int := if canB a b c = true then sgT a b w * jSum a u b v c else 0
def tN (a u b v c w : Int) : Rat := jN a u b v c (-w) * ((c + 1 : Int) : Rat)
theorem jN_pos (a u b v c w : Int) : 0 < jN a u b v c w := quot_pos (prodF_pos _) (prodF_pos _)
theorem pos_int {c : Int} (h : 0 < c) : (0 : Rat) < (c : Rat) := by
  have := (Rat.intCast_lt_intCast (a := 0) (b := c)).mpr h
  simpa using this
theorem tN_pos {a u b v c w : Int} (h : 0 ≤ c) : 0 < tN a u b v c w := Rat.mul_pos (jN_pos _ _ _ _ _ _) (pos_int (by omega))
theorem su_three {a u b v c w : Int} (h1 : PairP a u) (h2 : PairP b v) (h3 : PairP c w) (h0 : u + v + w = 0) : Su (threeL a u b v c w) (Rat.divInt (tI a u b v c w) (c + 1)) (tN a u b v c w) := by
  obtain ⟨cT, _, _, vT⟩ := three_facts h1 h2 h3
  have c0 := h3.t0
  have c1 := h3.t1
  have h3' : PairP c (-w) := ⟨h3.t0, h3.t1, by have := h3.hi; omega, by have := h3.lo; omega, by have := h3.ev; omega⟩
  have S1 : Su (joinL a u b v c (-w)) (((if canB a b c = true then jSum a u b v c else 0 : Int)) : Rat) (jN a u b v c (-w)) := by
    by_cases z : canB a b c = true
    · rw [if_pos z]
      exact su_joined h1 h2 h3' ⟨z, by omega⟩
    · rw [if_neg z, su_joined0 fun J => z J.1]
      exact Su.nil _
  obtain ⟨e0, e1, o0, o1, i0, i1, hb⟩ := sq42 (c + 1).toNat (by omega) (by omega)
  have ec : (((c + 1).toNat : Nat) : Int) = c + 1 := by omega
  rw [ec] at e0
  have ro := rootOk42 (n := (c + 1).toNat) (by omega) (by omega)
  rw [ec] at ro
  have S2 := su_exact (t := sgT a b w) (b := c + 1) ro (by omega) (by omega) (by rw [e0]; show SqF (((sqI (c + 1).toNat : Nat) : Int)).toNat; rw [Int.toNat_natCast]; exact sqf_of hb i0 (by omega)) (by
    rw [e0]
    show ((sqO (c + 1).toNat : Nat) : Int) * ((sqO (c + 1).toNat : Nat) : Int) * ((sqI (c + 1).toNat : Nat) : Int) = c + 1
    rw [← Int.natCast_mul, ← Int.natCast_mul, e1, ec]) (by rw [e0]; show 0 < ((sqI (c + 1).toNat : Nat) : Int); omega) (by rw [e0]; show 0 < ((sqO (c + 1).toNat : Nat) : Int); omega)
  have eM : exL (sgT a b w) (c + 1) (c + 1) = [(((sqI (c + 1).toNat : Nat) : Int), byT c * (sgT a b w : Int))] := by
    unfold exL oneL
    rw [e0, byT_sg a b w c0]
    dsimp only
    rw [if_neg (Int.mul_ne_zero (sgT_ne a b w) (by omega))]
  rw [eM] at S2
  refine (S1.times S2 (jN_pos _ _ _ _ _ _) (pos_int (by omega)) cT fun r => ?_).of ?_ rfl
  · rw [vT r]
    congr 1
    funext s
    exact (val_one _ _ _).symm
  · unfold tI
    rw [Rat.divInt_eq_div, Rat.divInt_eq_div]
    by_cases z : canB a b c = true
    · rw [if_pos z, if_pos z, Rat.intCast_mul, Rat.div_def, Rat.div_def, ← Rat.mul_assoc, Rat.mul_comm ((jSum a u b v c : Int) : Rat)]
    · rw [if_neg z, if_neg z, Rat.div_def]
      show (0 : Rat) * _ = 0 * _
      rw [Rat.zero_mul, Rat.zero_mul]
/-! ### bounds for sizes to 6 -/
theorem fact_lt10 : ∀ n, n < 11 → factN n < 2 ^ 22 := by decide +kernel
theorem fact_lt6 : ∀ n, n < 7 → factN n < 2 ^ 10 := by decide +kernel
theorem prodF_lt10 : ∀ {l : List Nat}, (∀ n ∈ l, n < 11) → prodF l < 2 ^ (22 * l.length + 1)
  | [], _ => by decide
  | n :: l, h => by
    have h1 := prodF_lt10 (l := l) fun m hm => h m (List.mem_cons_of_mem _ hm)
    show factN n * prodF l < 2 ^ (22 * (l.length + 1) + 1)
    rw [show 22 * (l.length + 1) + 1 = 22 + (22 * l.length + 1) by omega, Nat.pow_add]
    exact Nat.mul_lt_mul'' (fact_lt10 n (h n (by simp))) h1
theorem comK_lt6 {A B C : Nat} {D E : Int} (h1 : A < 7) (h2 : B + D < 7) (h3 : C + E < 7) : comK A B C D E < 2 ^ 30 := by
  unfold comK
  have a1 := fact_lt6 A h1
  have a2 := fact_lt6 (B + D).toNat (by omega)
  have a3 := fact_lt6 (C + E).toNat (by omega)
  have z := Nat.mul_lt_mul'' (Nat.mul_lt_mul'' a1 a2) a3
  rw [← Nat.pow_add, ← Nat.pow_add] at z
  exact z
theorem sgT_abs (a b w : Int) : (sgT a b w).natAbs = 1 := by
  unfold sgT
  split <;> rfl
theorem tI_lt {a u b v c w : Int} (h1 : PairP a u) (h2 : PairP b v) (h3 : PairP c w) (h0 : u + v + w = 0) (ha : a ≤ 6) (hb : b ≤ 6) (hc : c ≤ 6) : (tI a u b v c w).natAbs < 2 ^ 34 := by
  unfold tI
  by_cases z : canB a b c = true
  · rw [if_pos z, Int.natAbs_mul, sgT_abs, Nat.one_mul]
    have h3' : PairP c (-w) := ⟨h3.t0, h3.t1, by have := h3.hi; omega, by have := h3.lo; omega, by have := h3.ev; omega⟩
    have T := tmp_of h1 h2 h3' ⟨z, by omega⟩
    have cl : jCom a u b v c < 2 ^ 30 := by
      obtain ⟨a0, a1, a2, a3, a4⟩ := h1
      obtain ⟨b0, b1, b2, b3, b4⟩ := h2
      obtain ⟨c0, c1, c2, c3, c4⟩ := h3
      obtain ⟨k1, k2, k3, k4⟩ := canB_iff.mp z
      unfold jCom
      exact comK_lt6 (by unfold jA; omega) (by unfold jB jD; omega) (by unfold jC jE; omega)
    have A6 : jA a b c < 7 := by
      obtain ⟨a0, a1, a2, a3, a4⟩ := h1
      obtain ⟨b0, b1, b2, b3, b4⟩ := h2
      obtain ⟨k1, k2, k3, k4⟩ := canB_iff.mp z
      unfold jA
      omega
    have y := sumK_le (f := jT a u b v c) (tmK_le _ _ _ _ _) (jA a b c + 1)
    refine Nat.lt_of_le_of_lt y ?_
    have y : jA a b c + 1 < 2 ^ 4 := by omega
    have x := Nat.mul_lt_mul'' y cl
    rw [← Nat.pow_add] at x
    exact x
  · rw [if_neg z]
    decide
theorem sub_three {a u b v c w : Int} (h1 : PairP a u) (h2 : PairP b v) (h3 : PairP c w) (h0 : u + v + w = 0) (ha : a ≤ 6) (hb : b ≤ 6) (hc : c ≤ 6) : SuB (threeL a u b v c w) (Rat.divInt (tI a u b v c w) (c + 1)) (tN a u b v c w) 34 160 := by
  have S := su_three h1 h2 h3 h0
  have tl := tI_lt h1 h2 h3 h0 ha hb hc
  have la : prodF (jAb a u b v c (-w)) < 2 ^ 155 := by
    refine prodF_lt10 (l := jAb a u b v c (-w)) ?_
    obtain ⟨a0, a1, a2, a3, a4⟩ := h1
    obtain ⟨b0, b1, b2, b3, b4⟩ := h2
    obtain ⟨c0, c1, c2, c3, c4⟩ := h3
    intro n hn
    unfold jAb at hn
    simp only [List.mem_cons, List.not_mem_nil, or_false] at hn
    omega
  have lb : prodF (jBe a b c) < 2 ^ 155 := by
    refine Nat.lt_of_lt_of_le (prodF_lt10 (l := jBe a b c) ?_) (Nat.pow_le_pow_right (by decide) (by show 22 * 5 + 1 ≤ 155; decide))
    obtain ⟨a0, a1, a2, a3, a4⟩ := h1
    obtain ⟨b0, b1, b2, b3, b4⟩ := h2
    obtain ⟨c0, c1, c2, c3, c4⟩ := h3
    intro n hn
    unfold jBe at hn
    simp only [List.mem_cons, List.not_mem_nil, or_false] at hn
    omega
  have c0 := h3.t0
  obtain ⟨n, rfl⟩ : ∃ n : Nat, c = (n : Int) := ⟨c.toNat, by omega⟩
  have n8 : n + 1 < 2 ^ 4 := by omega
  have pa := prodF_pos (jAb a u b v (n : Int) (-w))
  have pb := prodF_pos (jBe a b (n : Int))
  refine SuB.mk' S (a := tI a u b v n w) (b := n + 1) (p := prodF (jAb a u b v (n : Int) (-w)) * (n + 1)) (q := prodF (jBe a b (n : Int))) (by rw [Int.natCast_add]; rfl) ?_ (by omega) (Nat.mul_pos pa (by omega)) pb tl (Nat.lt_trans n8 (by decide)) ?_ (Nat.lt_trans lb (by decide))
  · unfold tN jN
    rw [show (((n : Int) + 1 : Int) : Rat) = ((n + 1 : Nat) : Rat) from rfl, Rat.natCast_mul, Rat.div_def, Rat.div_def]
    grind
  · have := Nat.mul_lt_mul'' la n8
    rw [← Nat.pow_add] at this
    exact Nat.lt_of_lt_of_le this (by decide)
/-! ### products of threes -/
abbrev T6 := Int × Int × Int × Int × Int × Int
namespace T6
set_option exponentiation.threshold 20000
def S (t : T6) : Rat := Rat.divInt (tI t.1 t.2.1 t.2.2.1 t.2.2.2.1 t.2.2.2.2.1 t.2.2.2.2.2) (t.2.2.2.2.1 + 1)
def N (t : T6) : Rat := tN t.1 t.2.1 t.2.2.1 t.2.2.2.1 t.2.2.2.2.1 t.2.2.2.2.2
def L (t : T6) : List Part := threeL t.1 t.2.1 t.2.2.1 t.2.2.2.1 t.2.2.2.2.1 t.2.2.2.2.2
/-- sizes to 6, offsets of them that add up to 0 -/
structure Ok (t : T6) : Prop where
  p1 : PairP t.1 t.2.1
  p2 : PairP t.2.2.1 t.2.2.2.1
  p3 : PairP t.2.2.2.2.1 t.2.2.2.2.2
  z : t.2.1 + t.2.2.2.1 + t.2.2.2.2.2 = 0
  l1 : t.1 ≤ 6
  l2 : t.2.2.1 ≤ 6
  l3 : t.2.2.2.2.1 ≤ 6
theorem Ok.sub {t : T6} (h : t.Ok) : SuB t.L t.S t.N 34 160 := sub_three h.p1 h.p2 h.p3 h.z h.l1 h.l2 h.l3
end T6
def proS (l : List T6) : Rat := l.foldl (fun s t => s * t.S) 1
def proN (l : List T6) : Rat := l.foldl (fun s t => s * t.N) 1
theorem proS_snoc (l : List T6) (t : T6) : proS (l ++ [t]) = proS l * t.S := by
  unfold proS
  rw [List.foldl_append]
  rfl
theorem proN_snoc (l : List T6) (t : T6) : proN (l ++ [t]) = proN l * t.N := by
  unfold proN
  rw [List.foldl_append]
  rfl
/-! ### the four threes of a six -/
def facP (s o : Int) : Nat := factN ((s + o) / 2).toNat * factN ((s - o) / 2).toNat
theorem facP_neg (s o : Int) : facP s (-o) = facP s o := by
  unfold facP
  rw [show s + -o = s - o by omega, show s - -o = s + o by omega, Nat.mul_comm]
theorem facP_pos (s o : Int) : 0 < facP s o := Nat.mul_pos (fact_pos _) (fact_pos _)
def triP (a b c : Int) : Nat := prodF (ab3 [a, b, c])
def triS (a b c : Int) : Nat := factN (be1 [a, b, c])
theorem tN_eq {a u b v c w : Int} (hc : 0 ≤ c) : tN a u b v c w = (triP a b c : Rat) / (triS a b c : Rat) * ((facP a u * facP b v * facP c w : Nat) : Rat) * ((((c + 1 : Int) : Rat) / (triP a b c : Rat)) * (((c + 1 : Int) : Rat) / (triP a b c : Rat))) := by
  obtain ⟨n, rfl⟩ : ∃ n : Nat, c = (n : Int) := ⟨c.toNat, by omega⟩
  have e1 : prodF (jAb a u b v (n : Int) (-w)) = (n + 1) * factN n * (facP a u * facP b v * facP (n : Int) w) := by
    show factN ((n : Int) + 1).toNat * (factN ((a + u) / 2).toNat * (factN ((a - u) / 2).toNat * (factN ((b + v) / 2).toNat * (factN ((b - v) / 2).toNat * (factN (((n : Int) + -w) / 2).toNat * (factN (((n : Int) - -w) / 2).toNat * 1)))))) = _
    rw [show ((n : Int) + 1).toNat = n + 1 by omega, show (n : Int) + -w = n - w by omega, show (n : Int) - -w = n + w by omega]
    show (n + 1) * factN n * _ = _
    unfold facP
    rw [Nat.mul_one]
    ac_rfl
  have e2 : prodF (jBe a b (n : Int)) = factN n * (triS a b n * triP a b n) := by
    show factN (n : Int).toNat * (factN ((a + b + (n : Int)) / 2 + 1).toNat * (factN ((a + b - (n : Int)) / 2).toNat * (factN ((a - b + (n : Int)) / 2).toNat * (factN ((b - a + (n : Int)) / 2).toNat * 1)))) = _
    rw [Int.toNat_natCast, show b - a + (n : Int) = b + n - a by omega]
    rfl
  have f0 := ne_of_pos (pos_nat (fact_pos n))
  have s0 := ne_of_pos (pos_nat (show 0 < triS a b n from fact_pos _))
  have p0 := ne_of_pos (pos_nat (show 0 < triP a b n from prodF_pos _))
  unfold tN jN
  rw [e1, e2, show (((n : Int) + 1 : Int) : Rat) = ((n + 1 : Nat) : Rat) from rfl]
  generalize (facP a u * facP b v * facP (n : Int) w) = X
  simp only [Rat.natCast_mul]
  generalize ((n + 1 : Nat) : Rat) = x1
  generalize (factN n : Rat) = x2 at *
  generalize (X : Rat) = x3
  generalize (triS a b n : Rat) = x4 at *
  generalize (triP a b n : Rat) = x5 at *
  grind
/-- all four -/
def triU (a b c d e f u v x w y z : Int) : List T6 := [(a, -u, b, -v, c, -w), (a, u, e, -y, f, z), (d, x, b, v, f, -z), (d, -x, e, y, c, w)]
def triI (a b c d e f u v x w y z : Int) : Int := tI a (-u) b (-v) c (-w) * tI a u e (-y) f z * (tI d x b v f (-z) * tI d (-x) e y c w)
def triF (a b c d e f u v x w y z : Int) : Nat := facP a u * facP b v * facP c w * (facP d x * facP e y * facP f z)
theorem sAb_four (a b c d e f : Int) : prodF (sAb a b c d e f) = triP a b c * (triP a e f * (triP d b f * triP d e c)) := by
  show prodF (ab3 [a, b, c] ++ (ab3 [a, e, f] ++ (ab3 [d, b, f] ++ (ab3 [d, e, c] ++ [])))) = _
  rw [prodF_append, prodF_append, prodF_append, List.append_nil]
  rfl
theorem sBe_four (a b c d e f : Int) : prodF (sBe a b c d e f) = triS a b c * (triS a e f * (triS d b f * triS d e c)) := by
  show triS a b c * (triS a e f * (triS d b f * (triS d e c * 1))) = _
  rw [Nat.mul_one]
theorem sN_pos (a b c d e f : Int) : 0 < sN a b c d e f := quot_pos (prodF_pos _) (prodF_pos _)
theorem div4 {p1 p2 p3 p4 s1 s2 s3 s4 : Rat} (h1 : s1 ≠ 0) (h2 : s2 ≠ 0) (h3 : s3 ≠ 0) (h4 : s4 ≠ 0) : p1 * (p2 * (p3 * p4)) / (s1 * (s2 * (s3 * s4))) = p1 / s1 * (p2 / s2) * (p3 / s3 * (p4 / s4)) := by
  grind
theorem four_n {q1 q2 q3 q4 x1 x2 x3 x4 x5 x6 z1 z2 z3 z4 : Rat} : 1 * (q1 * (x1 * x2 * x3) * (z1 * z1)) * (q2 * (x1 * x5 * x6) * (z2 * z2)) * (q3 * (x4 * x2 * x6) * (z3 * z3)) * (q4 * (x4 * x5 * x3) * (z4 * z4)) * 1 = q1 * q2 * (q3 * q4) * ((x1 * x2 * x3 * (x4 * x5 * x6) * (z1 * z2 * (z3 * z4))) * (x1 * x2 * x3 * (x4 * x5 * x6) * (z1 * z2 * (z3 * z4)))) := by
  grind
theorem one_s {i y p : Rat} (h : y ≠ 0) : i / y * (y / p) = i / p := by
  grind
theorem four_s {i1 i2 i3 i4 y1 y2 p1 p2 p3 p4 g f : Rat} (h1 : y1 ≠ 0) (h2 : y2 ≠ 0) (m1 : p1 ≠ 0) (m2 : p2 ≠ 0) (m3 : p3 ≠ 0) (m4 : p4 ≠ 0) : 1 * (i1 / y1) * (i2 / y2) * (i3 / y2) * (i4 / y1) * g * (f * (y1 / p1 * (y2 / p2) * (y2 / p3 * (y1 / p4)))) = g * (i1 * i2 * (i3 * i4) * f) / (p1 * (p2 * (p3 * p4))) := by
  have e : 1 * (i1 / y1) * (i2 / y2) * (i3 / y2) * (i4 / y1) * g * (f * (y1 / p1 * (y2 / p2) * (y2 / p3 * (y1 / p4)))) = g * f * ((i1 / y1 * (y1 / p1)) * (i2 / y2 * (y2 / p2)) * ((i3 / y2 * (y2 / p3)) * (i4 / y1 * (y1 / p4)))) := by grind
  rw [e, one_s h1, one_s h2, one_s h2, one_s h1, ← div4 m1 m2 m3 m4, Rat.div_def, Rat.div_def]
  grind
theorem four_su {K : List Part} {a b c d e f u v x w y z sg : Int} (hc : 0 ≤ c) (hf : 0 ≤ f) (h : Su K (proS (triU a b c d e f u v x w y z) * Rat.divInt sg 1) (proN (triU a b c d e f u v x w y z) * 1)) :
    Su K (Rat.divInt (sg * (triI a b c d e f u v x w y z * (triF a b c d e f u v x w y z : Int))) (prodF (sAb a b c d e f) : Int)) (sN a b c d e f) := by
  have n1 := pos_nat (show 0 < triP a b c from prodF_pos _)
  have n2 := pos_nat (show 0 < triP a e f from prodF_pos _)
  have n3 := pos_nat (show 0 < triP d b f from prodF_pos _)
  have n4 := pos_nat (show 0 < triP d e c from prodF_pos _)
  have m1 := ne_of_pos (pos_nat (show 0 < triS a b c from fact_pos _))
  have m2 := ne_of_pos (pos_nat (show 0 < triS a e f from fact_pos _))
  have m3 := ne_of_pos (pos_nat (show 0 < triS d b f from fact_pos _))
  have m4 := ne_of_pos (pos_nat (show 0 < triS d e c from fact_pos _))
  have c1 := pos_int (show 0 < c + 1 by omega)
  have f1 := pos_int (show 0 < f + 1 by omega)
  have eF : (triF a b c d e f u v x w y z : Rat) = (facP a u : Rat) * (facP b v : Rat) * (facP c w : Rat) * ((facP d x : Rat) * (facP e y : Rat) * (facP f z : Rat)) := by
    unfold triF
    simp only [Rat.natCast_mul]
  have g0 := pos_nat (show 0 < triF a b c d e f u v x w y z from Nat.mul_pos (Nat.mul_pos (Nat.mul_pos (facP_pos _ _) (facP_pos _ _)) (facP_pos _ _)) (Nat.mul_pos (Nat.mul_pos (facP_pos _ _) (facP_pos _ _)) (facP_pos _ _)))
  have dp : ∀ {p q : Rat}, 0 < p → 0 < q → 0 < p / q := fun h1 h2 => by
    rw [Rat.div_def]
    exact Rat.mul_pos h1 (Rat.inv_pos.mpr h2)
  have key : proN (triU a b c d e f u v x w y z) * 1 = sN a b c d e f * (((triF a b c d e f u v x w y z : Rat) * (((c + 1 : Int) : Rat) / (triP a b c : Rat) * (((f + 1 : Int) : Rat) / (triP a e f : Rat)) * (((f + 1 : Int) : Rat) / (triP d b f : Rat) * (((c + 1 : Int) : Rat) / (triP d e c : Rat))))) * ((triF a b c d e f u v x w y z : Rat) * (((c + 1 : Int) : Rat) / (triP a b c : Rat) * (((f + 1 : Int) : Rat) / (triP a e f : Rat)) * (((f + 1 : Int) : Rat) / (triP d b f : Rat) * (((c + 1 : Int) : Rat) / (triP d e c : Rat)))))) := by
    have e0 : proN (triU a b c d e f u v x w y z) = 1 * tN a (-u) b (-v) c (-w) * tN a u e (-y) f z * tN d x b v f (-z) * tN d (-x) e y c w := rfl
    rw [e0, tN_eq hc, tN_eq hf, tN_eq hf, tN_eq hc, eF]
    simp only [facP_neg]
    unfold sN
    rw [sAb_four, sBe_four]
    simp only [Rat.natCast_mul]
    rw [div4 m1 m2 m3 m4]
    exact four_n
  rw [key] at h
  refine (h.scale (sN_pos _ _ _ _ _ _) (Rat.mul_pos g0 (Rat.mul_pos (Rat.mul_pos (dp c1 n1) (dp f1 n2)) (Rat.mul_pos (dp f1 n3) (dp c1 n4))))).of ?_ rfl
  have e0 : proS (triU a b c d e f u v x w y z) = 1 * Rat.divInt (tI a (-u) b (-v) c (-w)) (c + 1) * Rat.divInt (tI a u e (-y) f z) (f + 1) * Rat.divInt (tI d x b v f (-z)) (f + 1) * Rat.divInt (tI d (-x) e y c w) (c + 1) := rfl
  rw [e0]
  simp only [Rat.divInt_eq_div]
  rw [show ((1 : Int) : Rat) = 1 from rfl, show ∀ q : Rat, q / 1 = q from fun q => by grind, sAb_four, four_s (ne_of_pos c1) (ne_of_pos f1) (ne_of_pos n1) (ne_of_pos n2) (ne_of_pos n3) (ne_of_pos n4)]
  unfold triI
  simp only [Rat.intCast_mul, Int.natCast_mul]
  rfl
end TC
namespace TC
set_option exponentiation.threshold 20000
open PySem PySem.Spec PyProof.Rows L2 TCA TCX
def binL (n : Nat) : List V := (List.range (n + 1)).map fun m => V.int ((binN n m : Nat) : Int)
theorem fun_at {f : Nat → Int} {n : Nat} {i : Int} (h0 : 0 ≤ i) (h1 : i ≤ n) : atI ((List.range (n + 1)).map fun m => V.int (f m)) i = some (.int (f i.toNat)) := by
  refine at_of (j := i.toNat) (by omega) ?_
  rw [List.getElem?_map, List.getElem?_range (by omega)]
  rfl
section
variable {P : Program} {w : World} {K : PySem.W.Frag} {mg : Str → Option Value} {base : Heap} {f : Addr} {fd : FuncData} {C fI fQ : Addr}
/-! ### binomials -/
def spBinom : Sp := fun vs H Q _ => ∃ n : Nat, vs = [.int n] ∧ n ≤ 40 ∧ ∀ l, H l = none → Q (.ref l) (upd H l (.lst (binL n)))
abbrev nBinom : List Str := ["high", "found", "number"]
theorem scBinom : FnScope nBinom ["high"] (defScope sBinom) := ⟨rfl, rfl, rfl, by decide +kernel, rfl, by decide +kernel, by decide +kernel⟩
theorem ok_binom (F : FnP K "binomials" sBinom f fd) (grange : mg "range" = none) : FnOk P w K mg base CX0 1 f fd ["high"] spBinom := by
  refine F.ok scBinom (fun vs H Q E h => ?_) (fun cdv A outer s H vs Q E hr h => ?_)
  · obtain ⟨_, rfl, _⟩ := h
    rfl
  obtain ⟨n, rfl, n1, q⟩ := h
  refine ⟨_, PSs.nox (pss_cons (ps_set (i := 1) scBinom.nd rfl (.inl rfl) (pe_lst (pa_cons pe_int pa_nil)))
      (pss_cons (ps_for PassesOwn.never rfl (pi_range1 (by rfl) grange (pa_cons (pv 0) pa_nil)) (pg_name (i := 2) scBinom.nd rfl (.inl rfl))
        (pss_one (ps_expr (pe_bm PySem.F.plainAttrs_list PySem.F.slot_list_append PySem.F.type_list_append mt_append (pv 1) (pa_cons (pe_op op_fdiv (pe_op op_mul (pe_ix ix_list (pv 1) (pe_un un_neg pe_int) (fun _ _ => rfl)) (pe_op op_sub (pv 0) (pv 2))) (pe_op op_add (pv 2) pe_int)) pa_nil)))))
      (pss_one (ps_ret (pv 1))))), ?_⟩
  refine ⟨by show 1 ≤ sizeLine; decide, fun l hl => ?_⟩
  refine ⟨_, rfl, n, rfl, by omega, by omega, for_range (fun i σ H' => ∃ (v2 : Option V), σ = [some (.int n), some (.ref l), v2] ∧ H' = upd H l (.lst ((List.range (i + 1)).map fun m => V.int ((binN n m : Nat) : Int))) ∧ i ≤ n) ⟨none, rfl, ?_, by omega⟩ (fun i σ H' hi hP => ?_) (fun σ H' hP => ?_)⟩
  · show _ = upd H l (.lst [V.int ((binN n 0 : Nat) : Int)])
    rw [bin_zero]
    rfl
  · obtain ⟨v2, rfl, rfl, hm⟩ := hP
    have hi' : i < n := by omega
    have hat : atI ((List.range (i + 1)).map fun m => V.int ((binN n m : Nat) : Int)) (-1) = some (.int ((binN n i : Nat) : Int)) := by
      rw [List.range_succ, List.map_append]
      exact atI_last _ _
    refine ⟨_, rfl, .inl ⟨rfl, _, SqL.of upd_same⟩, _, rfl, 1, rfl, l, _, -1, _, rfl, rfl, SqL.of upd_same, hat, _, rfl, _, rfl, n, _, rfl, rfl, _, _, rfl, rfl, .inr ⟨by omega, by omega⟩, _, rfl, _, 1, rfl, rfl, _, _, rfl, rfl, ⟨by show (0 : Int) < 0 + (i : Int) + 1; omega, by show 0 + (i : Int) + 1 < _; omega⟩, l, _, _, rfl, rfl, upd_same, ?_, _, rfl, ?_, by omega⟩
    · rw [List.length_map, List.length_range, sizeLine_eq]
      omega
    · have e : ((binN n i : Nat) : Int) * ((n : Int) - (0 + (i : Int))) / (0 + (i : Int) + 1) = ((binN n (i + 1) : Nat) : Int) := by
        rw [Int.zero_add]
        exact bin_step hi'
      funext b
      by_cases hb : b = l
      · rw [hb, upd_same, upd_same, List.range_succ (n := i + 1), List.map_append]
        congr 3
        show [V.int _] = [V.int _]
        congr 2
      · rw [upd_ne hb, upd_ne hb, upd_ne hb]
  · obtain ⟨v2, rfl, rfl, hm⟩ := hP
    exact ⟨_, rfl, q l hl⟩
end
end TC
namespace TCX
open PySem PySem.Spec PyProof.Rows L2
/-! dicts whose keys are tuples of tuples -/
mutual
/-- the value v is the key k: a whole number, a text, or a tracked tuple of such -/
inductive NKey (H : Hp) : NestedKey → V → Prop
  | int (i : Int) : NKey H (.num i) (.int i)
  | str (x : Str) : NKey H (.text x) (.str x)
  | tup {b : Addr} {vs : List V} {ks : List NestedKey} : H b = some (.tup vs) → NKeys H ks vs → NKey H (.tup ks) (.ref b)
inductive NKeys (H : Hp) : List NestedKey → List V → Prop
  | nil : NKeys H [] []
  | cons {k : NestedKey} {v : V} {ks : List NestedKey} {vs : List V} : NKey H k v → NKeys H ks vs → NKeys H (k :: ks) (v :: vs)
end
mutual
theorem NKey.keeps {H H' : Hp} (ht : ∀ b xs, H b = some (.tup xs) → H' b = some (.tup xs)) : ∀ {k : NestedKey} {v : V}, NKey H k v → NKey H' k v
  | .num _, _, h => by cases h; exact .int _
  | .text _, _, h => by cases h; exact .str _
  | .none, _, h => by cases h
  | .tup ks, _, h => by
    cases h with
    | tup h1 h2 => exact .tup (ht _ _ h1) (NKeys.keeps ht h2)
theorem NKeys.keeps {H H' : Hp} (ht : ∀ b xs, H b = some (.tup xs) → H' b = some (.tup xs)) : ∀ {ks : List NestedKey} {vs : List V}, NKeys H ks vs → NKeys H' ks vs
  | [], _, h => by cases h; exact .nil
  | k :: ks, _, h => by
    cases h with
    | cons h1 h2 => exact .cons (NKey.keeps ht h1) (NKeys.keeps ht h2)
end
mutual
theorem NKey.is {P : Program} {w : World} {H : Hp} {h : Heap} (ok : HOk P w H h) : ∀ {k : NestedKey} {v : V} {u : Value}, NKey H k v → RelV v u → NestedIs h k u
  | .num i, _, u, hk, r => by
    cases hk
    obtain ⟨t, e⟩ := (show ∃ t, u = Value.int i t from r)
    subst e
    exact .int _ _
  | .text x, _, u, hk, r => by
    cases hk
    obtain ⟨t, e⟩ := (show ∃ t, u = Value.str x t from r)
    subst e
    exact .text _ _
  | .none, _, _, hk, _ => by cases hk
  | .tup ks, _, u, hk, r => by
    cases hk with
    | @tup b vs _ h1 h2 =>
      obtain rfl : u = Value.ref b := r
      obtain ⟨_, its, rr, o, g1, g2, n, g3⟩ := (show ObjOk P w H h b (.tup vs) from ok b _ h1)
      exact .tup g1 g2 g3 (by simpa using NKeys.is ok h2 rr)
theorem NKeys.is {P : Program} {w : World} {H : Hp} {h : Heap} (ok : HOk P w H h) : ∀ {ks : List NestedKey} {vs : List V} {us : List Value}, NKeys H ks vs → Vals vs us → NestedAll h ks us
  | [], _, _, hk, r => by
    cases hk
    cases r
    exact .nil
  | k :: ks, _, _, hk, r => by
    cases hk with
    | cons h1 h2 =>
      cases r with
      | cons r1 r2 => exact .cons (NKey.is ok h1 r1) (NKeys.is ok h2 r2)
end
section
variable (P : Program) (w : World)
/-- a dict object with these entries -/
def NdO (a : Addr) (xs : List (NestedKey × Addr × Value)) : HO := .ext fun h => ∃ o es ep, h.get? a = some o ∧ o.ExactDict ∧ o.data = .dict es ep ∧ es.toList = xs.map (entryOfKey (nestedKind P w)) ∧ (xs.map (·.1)).Nodup
abbrev KN (H : Hp) : List (NestedKey × V) → List (NestedKey × Addr × Value) → Prop := Paired fun p q => p.1 = q.1 ∧ (NKey H q.1 (.ref q.2.1) ∧ q.1.depth ≤ 8) ∧ RelV p.2 q.2.2
/-- at d stands a dict of these pairs -/
def NDictAt (H : Hp) (d : Addr) (kvs : List (NestedKey × V)) : Prop := ∃ xs, H d = some (NdO P w d xs) ∧ KN H kvs xs ∧ kvs.length ≤ sizeLine ∧ (d == sysModules) = false
end
section
variable {P : Program} {w : World}
theorem KN.val {H : Hp} {kvs : List (NestedKey × V)} {xs : List (NestedKey × Addr × Value)} (r : KN H kvs xs) (k : NestedKey) : RelO (valV kvs k) ((atKey xs k).map (·.2)) := by
  induction r with
  | nil => exact True.intro
  | @cons p q ps qs h t ih =>
    obtain ⟨h1, _, h2⟩ := h
    by_cases e : p.1 = k
    · have e' : q.1 = k := h1.symm.trans e
      have b : atKey (q :: qs) k = some q.2 := by simp [atKey, List.find?_cons, e']
      rw [valV_pos e, b]; exact h2
    · have e' : ¬ q.1 = k := fun z => e (h1.trans z)
      have b : atKey (q :: qs) k = atKey qs k := by simp [atKey, List.find?_cons, e']
      rw [valV_neg e, b]; exact ih
theorem KN.repl {H : Hp} {kvs : List (NestedKey × V)} {xs : List (NestedKey × Addr × Value)} (r : KN H kvs xs) (k : NestedKey) {y : V} {u : Value} (ry : RelV y u) :
    KN H (kvs.map fun kv => if kv.1 = k then (kv.1, y) else kv) (xs.map (putAt k u)) := by
  induction r with
  | nil => exact .nil
  | @cons p q ps qs h t ih =>
    rw [List.map_cons, List.map_cons]
    refine .cons ?_ ih
    obtain ⟨h1, h2, h3⟩ := h
    unfold putAt
    by_cases e : p.1 = k
    · rw [if_pos e, if_pos (h1.symm.trans e)]; exact ⟨h1, h2, ry⟩
    · rw [if_neg e, if_neg (fun z => e (h1.trans z))]; exact ⟨h1, h2, h3⟩
theorem KN.put {H : Hp} {kvs : List (NestedKey × V)} {xs : List (NestedKey × Addr × Value)} (r : KN H kvs xs) (k : NestedKey) {b : Addr} {y : V} {u : Value} (hb : NKey H k (.ref b)) (hd : k.depth ≤ 8) (ry : RelV y u) :
    KN H (putK kvs k y) (storedH xs k b u) := by
  have e : (kvs.any fun kv => decide (kv.1 = k)) = (atKey xs k).isSome := by
    rw [valV_any, (r.val k).isSome_eq, Option.isSome_map]
  unfold putK storedH
  rw [e]
  by_cases q : (atKey xs k).isSome = true
  · rw [if_pos q, if_pos q]; exact r.repl k ry
  · rw [if_neg q, if_neg q]; exact Paired.snoc r ⟨rfl, ⟨hb, hd⟩, ry⟩
theorem KN.keeps {H H' : Hp} {kvs : List (NestedKey × V)} {xs : List (NestedKey × Addr × Value)} (r : KN H kvs xs) (ht : ∀ b ys, H b = some (.tup ys) → H' b = some (.tup ys)) : KN H' kvs xs :=
  Paired.mapP r fun _ _ z => ⟨z.1, ⟨z.2.1.1.keeps ht, z.2.1.2⟩, z.2.2⟩
theorem NDictAt.keeps {H H' : Hp} {d : Addr} {kvs : List (NestedKey × V)} (h : NDictAt P w H d kvs) (hd : ∀ o, H d = some o → H' d = some o) (ht : ∀ b ys, H b = some (.tup ys) → H' b = some (.tup ys)) : NDictAt P w H' d kvs := by
  obtain ⟨xs, h1, h2, h3, h4⟩ := h
  exact ⟨xs, hd _ h1, KN.keeps h2 ht, h3, h4⟩
theorem nd_of {H : Hp} {h : Heap} {d : Addr} {kvs : List (NestedKey × V)} (ok : HOk P w H h) (e : NDictAt P w H d kvs) : ∃ xs, H d = some (NdO P w d xs) ∧ KN H kvs xs ∧ h.DictOfH (nestedKind P w) d xs ∧ kvs.length ≤ sizeLine ∧ (d == sysModules) = false := by
  obtain ⟨xs, h1, h2, h3, h4⟩ := e
  obtain ⟨⟨o, es, ep, g1, g2, g3, g4, g5⟩, _⟩ := (show ObjOk P w H h d (NdO P w d xs) from ok d _ h1)
  refine ⟨xs, h1, h2, ⟨o, es, ep, g1, g2, g3, g4, fun x hx => ?_, g5⟩, h3, h4⟩
  have all : ∀ {l : List (NestedKey × V)} {m : List (NestedKey × Addr × Value)}, KN H l m → ∀ x ∈ m, (nestedKind P w).is h x.1 x.2.1 := by
    intro l m q
    induction q with
    | nil => intro x hx; exact nomatch hx
    | @cons p q ps qs hq t ih =>
      intro x hx
      rcases List.mem_cons.mp hx with e | hx
      · subst e
        exact ⟨NKey.is ok hq.2.1.1 rfl, hq.2.1.2⟩
      · exact ih x hx
  exact all h2 x hx
/-- what the dict at a holds at the key y -/
def DGetN (P : Program) (w : World) (H : Hp) (a : Addr) (y : V) (r : Option V) : Prop := ∃ kvs k b, NDictAt P w H a kvs ∧ y = .ref b ∧ NKey H k (.ref b) ∧ k.depth ≤ 8 ∧ r = valV kvs k
end
section
variable {X : Cx} {pins : List (Addr × Obj)} {σ : L2.St} {H : Hp} {s : Shared} {a : Addr} {y v : V} {u r : Value} {o : Option V} {A : Around} {E : Value → Shared → Prop}
theorem nroom (hu : A.units + 64 < cLine) : (nestedKind X.prog X.w).room A.in1 := by
  show A.units + 1 + 8 < cLine
  omega
theorem n_getItem {Q : Value → Shared → Prop} (hu : A.units + 64 < cLine) (I : Inv X pins σ H s) (g : DGetN X.prog X.w H a y (some v)) (ry : RelV y u) (h : ∀ w' s', Inv X pins σ H s' → RelV v w' → Q w' s') :
    wpAny (model X.prog X.w) A (getItem (.ref a) u) Q E s := by
  obtain ⟨kvs, k, b, e, ey, hk, h8, l⟩ := g
  subst ey
  cases (show u = Value.ref b from ry)
  obtain ⟨xs, _, rel, dd, z, hd⟩ := nd_of I.hok e
  obtain ⟨w', hw, rw'⟩ := RelO.some_of (v := v) (o := (atKey xs k).map (·.2)) (by rw [l]; exact KN.val rel k)
  obtain ⟨p, hp, hp2⟩ := Option.map_eq_some_iff.mp hw
  refine wpAny_getItem_heap (knd := nestedKind X.prog X.w) (nroom hu) ⟨NKey.is I.hok hk rfl, h8⟩ dd hp ?_
  rw [hp2]
  exact h w' _ (I.tok _) rw'
theorem n_in {Q : Value → Shared → Prop} (hu : A.units + 64 < cLine) (I : Inv X pins σ H s) (g : DGetN X.prog X.w H a y o) (ry : RelV y u) (h : ∀ s', Inv X pins σ H s' → Q (.bool o.isSome) s') :
    wpAny (model X.prog X.w) A (compareOp .In u (.ref a)) Q E s := by
  obtain ⟨kvs, k, b, e, ey, hk, h8, l⟩ := g
  subst ey
  cases (show u = Value.ref b from ry)
  obtain ⟨xs, _, rel, dd, z, hd⟩ := nd_of I.hok e
  refine wpAny_in_heap (knd := nestedKind X.prog X.w) (nroom hu) ⟨NKey.is I.hok hk rfl, h8⟩ hd dd ?_
  have q := (KN.val rel k).isSome_eq
  rw [Option.isSome_map] at q
  rw [← q, ← l]
  exact h _ (I.tok _)
theorem n_notIn {Q : Value → Shared → Prop} (hu : A.units + 64 < cLine) (I : Inv X pins σ H s) (g : DGetN X.prog X.w H a y o) (ry : RelV y u) (h : ∀ s', Inv X pins σ H s' → Q (.bool (!o.isSome)) s') :
    wpAny (model X.prog X.w) A (compareOp .NotIn u (.ref a)) Q E s := by
  obtain ⟨kvs, k, b, e, ey, hk, h8, l⟩ := g
  subst ey
  cases (show u = Value.ref b from ry)
  obtain ⟨xs, _, rel, dd, z, hd⟩ := nd_of I.hok e
  refine wpAny_notIn_heap (knd := nestedKind X.prog X.w) (nroom hu) ⟨NKey.is I.hok hk rfl, h8⟩ hd dd ?_
  have q := (KN.val rel k).isSome_eq
  rw [Option.isSome_map] at q
  rw [← q, ← l]
  exact h _ (I.tok _)
/-- a[y] = v: the heap behind it -/
def DPutN (P : Program) (w : World) (H : Hp) (a : Addr) (y v : V) (Q : Hp → Prop) : Prop := ∃ kvs k b, NDictAt P w H a kvs ∧ y = .ref b ∧ NKey H k (.ref b) ∧ k.depth ≤ 8 ∧ kvs.length < sizeLine ∧
  ∀ H', (∀ c, c ≠ a → H' c = H c) → NDictAt P w H' a (putK kvs k v) → Q H'
theorem nd_ok {P : Program} {w : World} {H' : Hp} {h' : Heap} {xs : List (NestedKey × Addr × Value)} (dd : h'.DictOfH (nestedKind P w) a xs) : ObjOk P w H' h' a (NdO P w a xs) := by
  obtain ⟨q, es, ep, hq, h2, h3, h4, _, h5⟩ := dd
  refine ⟨⟨q, es, ep, hq, h2, h3, h4, h5⟩, ⟨q, hq⟩, fun h1 h2' p k => ?_⟩
  obtain ⟨q, es, ep, hq, h2, h3, h4, h5⟩ := p
  exact ⟨q, es, ep, k _ hq, h2, h3, h4, h5⟩
theorem n_setItem {R : Hp → Prop} {Q : Unit → Shared → Prop} (hu : A.units + 64 < cLine) (I : Inv X pins σ H s) (g : DPutN X.prog X.w H a y v R) (ry : RelV y u) (rv : RelV v r) (h : ∀ H' s', Inv X pins σ H' s' → R H' → Q () s') :
    wpAny (model X.prog X.w) A (setItem (.ref a) u r) Q E s := by
  obtain ⟨kvs, k, b, e, ey, hk, h8, l, q⟩ := g
  subst ey
  cases (show u = Value.ref b from ry)
  obtain ⟨xs, hx, rel, dd, z, hd⟩ := nd_of I.hok e
  have hz : xs.length ≤ sizeLine := by rw [← Paired.length rel]; exact z
  have hl : (putK kvs k v).length ≤ sizeLine := by have := length_putK kvs k v; omega
  refine wpAny_setItem_heap (knd := nestedKind X.prog X.w) (hsz := hz) (nroom hu) ⟨NKey.is I.hok hk rfl, h8⟩ dd fun h' dd' hs => ?_
  have he : ∃ q, h'.get? a = some q := let ⟨q, _, _, hq, _⟩ := dd'; ⟨q, hq⟩
  have nt : ∀ c ys, H c = some (.tup ys) → c ≠ a := fun c ys ec => ne_of ec hx (fun z => nomatch z)
  have I' := d_write (t' := s.toks) (ob := NdO X.prog X.w a (storedH xs k b r)) I (by rw [hx]; exact True.intro) hs he (nd_ok dd')
  refine h _ _ (I'.tok _) (q _ (fun c hc => upd_ne hc) ⟨storedH xs k b r, upd_same, (KN.put rel k hk h8 rv).keeps fun c ys ec => ?_, hl, hd⟩)
  rw [upd_ne (nt c ys ec)]
  exact ec
end
/-! ### rules -/
/-- {} of such keys -/
def tDNewN (P : Program) (w : World) : TE := fun _ H Q => ∀ p H', H p = none → (∀ c, c ≠ p → H' c = H c) → NDictAt P w H' p [] → Q (.ref p) H'
def tDGetN (P : Program) (w : World) (td ty : TE) : TE := fun σ H Q => td σ H fun x H1 => ty σ H1 fun y H2 => ∃ a v, x = .ref a ∧ DGetN P w H2 a y (some v) ∧ Q v H2
def tDInN (P : Program) (w : World) (ty td : TE) : TE := fun σ H Q => ty σ H fun y H1 => td σ H1 fun x H2 => ∃ a o, x = .ref a ∧ DGetN P w H2 a y o ∧ Q (.bl o.isSome) H2
def tDNotInN (P : Program) (w : World) (ty td : TE) : TE := fun σ H Q => ty σ H fun y H1 => td σ H1 fun x H2 => ∃ a o, x = .ref a ∧ DGetN P w H2 a y o ∧ Q (.bl (!o.isSome)) H2
def sDPutN (P : Program) (w : World) (td ty tv : TE) : TS := fun D σ H => tv σ H fun v H1 => td σ H1 fun x H2 => ty σ H2 fun y H3 => ∃ a, x = .ref a ∧ DPutN P w H3 a y v fun H4 => D.nx σ H4
section
variable {X : Cx} {o i e value : Expr} {pos pos' tpos : Pos} {td ty tv : TE}
theorem pe_dnewN : PE X (.Dict [] [] pos) (tDNewN X.prog X.w) := ⟨fun pins s σ H Q I h => by
  have hn := I.hok.fresh (Nat.le_refl s.heap.objs.size)
  have nd : (s.heap.objs.size == sysModules) = false := beq_eq_false_iff_ne.mpr (Ne.symm (Nat.ne_of_lt I.big))
  refine wpAny_Dict_empty ⟨.ref s.heap.objs.size, _, I.laid (a := s.heap.objs.size) (o := NdO X.prog X.w s.heap.objs.size []) (t' := s.toks) (fun _ _ q => Heap.get?_push_of_some _ q) (Nat.le_refl _) ?_, rfl, h _ _ hn (fun c hc => upd_ne hc) ⟨[], upd_same, .nil, Nat.zero_le _, nd⟩⟩
  exact ⟨⟨_, #[], 0, Heap.get?_push_size _ rfl, ⟨rfl, rfl, rfl⟩, rfl, rfl, List.nodup_nil⟩, ⟨_, Heap.get?_push_size _ rfl⟩, fun h1 h2' p k => by
    obtain ⟨q, es, ep, hq, h2, h3, h4, h5⟩ := p
    exact ⟨q, es, ep, k _ hq, h2, h3, h4, h5⟩⟩⟩
theorem ndict_typeIs {pins : List (Addr × Obj)} {σ : L2.St} {H : Hp} {s : Shared} {a : Addr} {y : V} {o : Option V} (I : Inv X pins σ H s) (g : DGetN X.prog X.w H a y o) : s.TypeIs (.ref a) "dict" := by
  obtain ⟨kvs, k, b, e, _⟩ := g
  obtain ⟨xs, _, _, dd, _⟩ := nd_of I.hok e
  exact dd.typeIs
theorem pe_dgetN (hu : X.A.units + 64 < cLine) (ho : PE X o td) (hi : PE X i ty) (hs : NoSl i) : PE X (.Subscript o i pos) (tDGetN X.prog X.w td ty) := by
  refine ⟨fun pins s σ H Q I h => ?_⟩
  refine subD_of PySem.F.slot_dict_getitem.lookup hs (thn (ho.run pins s σ H _ I h) fun u s1 ⟨x, H1, I1, rx, q1⟩ => thn (hi.run pins s1 σ H1 _ I1 q1) fun iv s2 ⟨y, H2, I2, ry, a, v, ex, g, q2⟩ => ?_)
  subst ex
  obtain rfl : u = Value.ref a := rx
  exact ⟨ndict_typeIs I2 g, n_getItem hu I2 g ry fun w' s3 I3 rw' => ⟨v, H2, I3, rw', q2⟩⟩
theorem pc_dinN (hu : X.A.units + 64 < cLine) (hi : PE X i ty) (ho : PE X o td) : PC X .In i o (tDInN X.prog X.w ty td) := by
  refine ⟨fun pins s σ H Q I h => ?_⟩
  refine thn (hi.run pins s σ H _ I h) fun iv s1 ⟨y, H1, I1, ry, q1⟩ => thn (ho.run pins s1 σ H1 _ I1 q1) fun u s2 ⟨x, H2, I2, rx, a, ov, ex, g, q2⟩ => ?_
  subst ex
  obtain rfl : u = Value.ref a := rx
  exact n_in hu I2 g ry fun s3 I3 => ⟨.bl ov.isSome, H2, I3, rfl, q2⟩
theorem pc_dnotinN (hu : X.A.units + 64 < cLine) (hi : PE X i ty) (ho : PE X o td) : PC X .NotIn i o (tDNotInN X.prog X.w ty td) := by
  refine ⟨fun pins s σ H Q I h => ?_⟩
  refine thn (hi.run pins s σ H _ I h) fun iv s1 ⟨y, H1, I1, ry, q1⟩ => thn (ho.run pins s1 σ H1 _ I1 q1) fun u s2 ⟨x, H2, I2, rx, a, ov, ex, g, q2⟩ => ?_
  subst ex
  obtain rfl : u = Value.ref a := rx
  exact n_notIn hu I2 g ry fun s3 I3 => ⟨.bl (!ov.isSome), H2, I3, rfl, q2⟩
theorem ps_dputN (hu : X.A.units + 64 < cLine) (ho : PE X o td) (hi : PE X i ty) (hv : PE X value tv) (hs : swapsWith value (some (.Subscript o i pos')) pos.line X.env = pure false) :
    PS X (.Assign [.Subscript o i pos'] value pos) (sDPutN X.prog X.w td ty tv) := by
  refine ⟨fun pins s σ H D I h => ?_⟩
  refine wpAny_Assign_Subscript (thn (hv.run pins s σ H _ I h) fun r s1 ⟨v, H1, I1, rv, q1⟩ => thn (ho.run pins s1 σ H1 _ I1 q1) fun u s2 ⟨x, H2, I2, rx, q2⟩ => thn (hi.run pins s2 σ H2 _ I2 q2) fun iv s3 ⟨y, H3, I3, ry, a, ex, g⟩ => ?_) hs
  subst ex
  obtain rfl : u = Value.ref a := rx
  exact n_setItem hu I3 g ry rv fun H4 s4 I4 q4 => ⟨σ, H4, I4, q4⟩
end
end TCX
/-! Dicts whose keys are tuples: their items walked, comprehensions that make such dicts. -/
namespace TCX
open PySem PySem.Spec PyProof.Rows L2
section
variable {X : Cx} {pins : List (Addr × Obj)} {σ : L2.St} {H : Hp} {s : Shared} {d : Addr} {o : Obj}
/-- the entries of a locked dict of tuple keys, with their values -/
theorem frzTV {kvs : List (List Key × V)} (I : Inv X pins σ H s) (h : H d = some (.frz o (.dT kvs))) :
    (d == sysModules) = false ∧ ∃ (es : Array DictEntry) (ep : Nat), o.data = .dict es ep ∧ s.heap.DictRaw d es ep ∧ es.size = kvs.length ∧
      ∀ (i : Nat) (k : List Key) (v : V), kvs[i]? = some (k, v) → ∃ (hi : i < es.size) (q : Addr), es[i].key = .ref q ∧ H q = some (.tup (k.map kV)) ∧ RelV v es[i].val := by
  have hok := I.hok d _ h
  obtain ⟨g0, z, hs, xs, pr, o', es, ep, ho, hx, hdt, he, _⟩ := hok
  rw [g0] at ho
  cases ho
  have sz : es.size = kvs.length := by
    have l1 : es.size = xs.length := size_of_entries he
    have l2 : kvs.length = xs.length := Paired.length pr
    omega
  refine ⟨hs, es, ep, hdt, ⟨o, g0, hx, hdt⟩, sz, fun i k v e => ?_⟩
  obtain ⟨b, hb, e1, e2, e3⟩ := paired_get pr e
  have q := entry_at he i
  rw [hb] at q
  obtain ⟨hi, q2⟩ := Array.getElem?_eq_some_iff.mp q
  exact ⟨hi, b.2.1, by rw [q2] <;> rfl, e2, by rw [q2]; exact e3⟩
end
/-- for (k, v) of a locked dict of tuple keys: each time a new pair of the key's own tuple and its value -/
def Itit (d : Addr) (o : Obj) (kvs : List (List Key × V)) : It where
  go := fun i H => H d = some (.frz o (.dT kvs)) ∧ i < kvs.length
  yld := fun i H x H' => ∃ (T : Addr) (k : List Key) (v : V) (q : Addr), kvs[i]? = some (k, v) ∧ x = .ref T ∧ H T = none ∧ H q = some (.tup (k.map kV)) ∧ H' = upd H T (.tup [.ref q, v])
  stop := fun i H => H d = some (.frz o (.dT kvs)) ∧ kvs.length ≤ i
theorem turn_itemsT {P : Program} {w : World} {K : PySem.W.Frag} {d : Addr} {o : Obj} {kvs : List (List Key × V)} {elts : List Expr} {kk : Nat} {tpos : Pos} {ep : Nat} {es : Array DictEntry} (J : Addr) (dat : o.data = .dict es ep) (sz : es.size = kvs.length) :
    Turn P w K (.Tuple elts kk tpos) (Itit d o kvs) [J] J (fun i h => ∃ u1 u2, IsItemIter h J d i es.size ep u1 u2) := by
  have same : ∀ {es' : Array DictEntry} {ep' : Nat}, o.data = .dict es' ep' → es' = es ∧ ep' = ep := fun z => by
    rw [dat] at z
    cases z
    exact ⟨rfl, rfl⟩
  refine ⟨by simp, fun i h st b hb => ?_, fun i h h' st k => ?_, ?_, ?_, fun A i s Q E st h => ?_⟩
  · obtain rfl : b = J := by simpa using hb
    obtain ⟨u1, u2, e⟩ := st
    exact ⟨_, e, fun v z => nomatch z⟩
  · obtain ⟨u1, u2, e⟩ := st
    exact ⟨u1, u2, k J (by simp) _ e⟩
  · intro X h1 h2 h3 calm i pins s σ H E I fp st go
    subst h1 h2 h3
    obtain ⟨hd, hi⟩ := go
    obtain ⟨ns, es2, ep2, dat2, raw, _, ent⟩ := frzTV I hd
    obtain ⟨rfl, rfl⟩ := same dat2
    obtain ⟨⟨k, v⟩, hkv⟩ : ∃ p, kvs[i]? = some p := ⟨kvs[i], List.getElem?_eq_getElem hi⟩
    obtain ⟨hi2, q, ek, eq, ev⟩ := ent i k v hkv
    obtain ⟨u1, u2, hit⟩ := st
    have lt : J < s.heap.objs.size := Heap.lt_size hit
    refine wpAny_pyNext_items_item_raw hit raw hi2 fun g1 out new1 _ kp => ⟨_, rfl, wpAny_letOwnedTupleGo_items (s := { s with heap := g1 }) out fun g2 hit2 sb => ?_⟩
    have new2 := (sb.2 _ (Nat.ne_of_gt lt)).trans new1
    have ok2 : ObjOk X.prog X.w (upd H s.heap.objs.size (.tup [.ref q, v])) g2 s.heap.objs.size (.tup [.ref q, v]) :=
      ⟨by show 2 ≤ sizeLine; decide, [es2[i].key, es2[i].val], .cons ek (.cons ev .nil), ⟨_, new2, rfl, _, rfl⟩⟩
    have I2 := I.turnedNew (t' := s.toks) (ch := [J]) (fun b ob hb e => (sb.2 b (by simpa using hb)).trans (kp b ob (by simpa using hb) e)) fp (Nat.le_refl _) ok2
    refine ⟨.ref s.heap.objs.size, _, I2, rfl, ⟨_, k, v, q, hkv, rfl, I.hok.fresh (Nat.le_refl _), eq, rfl⟩, ⟨_, _, hit2⟩, fun b hb => ?_⟩
    obtain rfl : b = J := by simpa using hb
    rw [upd_ne (Nat.ne_of_lt lt)]
    exact (fp b (by simp)).1
  · intro X h1 h2 h3 calm i pins s σ H E I fp st stop
    subst h1 h2 h3
    obtain ⟨hd, hi⟩ := stop
    obtain ⟨f0, f1, f2, f3, f4, f5⟩ := fp J (by simp)
    obtain ⟨ns, es2, ep2, dat2, raw, _, ent⟩ := frzTV I hd
    obtain ⟨rfl, rfl⟩ := same dat2
    obtain ⟨u1, u2, hit⟩ := st
    exact wpAny_pyNext_items_end_raw (I.ok.hd calm) hit raw (by omega) fun g eb => ⟨rfl, I.turned (t' := s.toks) (fun b ob hb e => eb b ob hb e) f0 f1 f3 f4 f5⟩
  · obtain ⟨_, _, e⟩ := st
    exact PySem.W.kcp_self e h
/-- d.items() of a locked dict of tuple keys -/
def iItemsT (td : TE) : TI := fun σ H R => td σ H fun x H1 => ∃ d o kvs, x = .ref d ∧ H1 d = some (.frz o (.dT kvs)) ∧ R (Itit d o kvs) H1
theorem pi_itemsT {X : Cx} {e : Expr} {td : TE} {apos cpos : Pos} {elts : List Expr} {kk : Nat} {tpos : Pos} (he : PE X e td) (hb : attributeBase e "items" X.env (eval e X.env) = eval e X.env := by rfl) (hl : (apos.endLine == cpos.line) = true := by rfl) :
    PI X (.Tuple elts kk tpos) (.Call (.Attribute e "items" apos) [] [] cpos) (iItemsT td) := by
  refine ⟨fun pins s σ H R I h => wpAny_Call_method (T := "dict") (id := "dict.items") hb rfl hl F.plainAttrs_dict F.slot_dict_items F.type_dict_items (thn (he.run pins s σ H _ I h) fun u s1 z => ?_)⟩
  obtain ⟨x, H1, I1, rx, d, o, kvs, ex, hd, q⟩ := z
  subst ex
  obtain rfl : u = Value.ref d := rx
  obtain ⟨ns, es, ep, dat, raw, sz, _⟩ := frzTV I1 hd
  obtain ⟨ob, ho, hx, hdat⟩ := id raw
  refine ⟨⟨ob, ho, hx.1⟩, fun ob' ho' => ?_, ?_⟩
  · cases ho'
    exact ⟨ob, ho, hx.2.1⟩
  have I2 : Inv X pins σ H1 { s1 with heap := s1.heap.push { cls := .type "dict_items", data := .fields #[.ref d] } } := I1.kept (t' := s1.toks) fun b ob q => Heap.get?_push_of_some _ q
  have raw2 : (s1.heap.push { cls := .type "dict_items", data := .fields #[.ref d] }).DictRaw d es ep := ⟨ob, Heap.get?_push_of_some _ ho, hx, hdat⟩
  have fin : wpAny (model X.prog X.w) X.A (pyIter (.ref s1.heap.objs.size)) (PIE X pins σ (.Tuple elts kk tpos) R) X.xe { s1 with heap := s1.heap.push { cls := .type "dict_items", data := .fields #[.ref d] } } :=
    wpAny_pyIter_items_raw (d := d) ⟨_, Heap.get?_push_size _ rfl, rfl, rfl⟩ raw2 (pi_one (tk := s1.toks) I2 _ (turn_itemsT _ dat sz) ⟨.none, .none, Heap.get?_push_size _ rfl⟩ q)
  exact method_meetsIn F.slot_dict_items F.entry_dict_items rfl (PySem.evalArgs_none ⟨rfl, ⟨ob, ho, hx.1⟩, F.args_dict_items_1 _, _, meets_dict_items_raw d ns, ⟨es, ep, raw⟩, fin⟩)
end TCX
/-! Dict comprehensions whose keys are tuples. -/
namespace TCX
open PySem PySem.Spec PyProof.Rows L2
/-- how a new dict starts, and what a store into it does -/
structure Puts (P : Program) (w : World) (A : Around) (o0 : HO) (put : Addr → V → V → Hp → (Hp → Prop) → Prop) : Prop where
  new : ∀ (h : Heap) (H : Hp), sysModules < h.objs.size → ObjOk P w H (h.push { cls := .type "dict", data := .dict #[] }) h.objs.size o0
  set : ∀ (Y : Cx), Y.prog = P → Y.w = w → ∀ {pins : List (Addr × Obj)} {σ : L2.St} {H : Hp} {s : Shared} {D : Addr} {y z : V} {u r : Value} {R : Hp → Prop} {Q : Unit → Shared → Prop} {E : Value → Shared → Prop}, Inv Y pins σ H s → RelV y u → RelV z r → put D y z H R →
    (∀ H' s', Inv Y pins σ H' s' → R H' → Q () s') → wpAny (model P w) A (dictSet D u r) Q E s
/-- {k: v for target in iter if ..}: D the new dict -/
def tDcG (o0 : HO) (put : Addr → V → V → Hp → (Hp → Prop) → Prop) (wi : TI) (g : TG) (tt : TT) (tk tv : TE) (vs : List Nat) : TE := fun σ H Q => wi σ H fun J H1 => ∀ D, H1 D = none → ∃ W : Nat → Nat → Hp → Prop, (∃ m, W 0 m (upd H1 D o0)) ∧ ∀ i m H, W i m H →
  (J.stop i H ∧ Q (.ref D) H) ∨ (J.go i H ∧ ∃ Nx : Hp → Prop, (∀ H', Nx H' → ∃ m', m' < m ∧ W (i + 1) m' H') ∧ ∀ x H', J.yld i H x H' →
    g x (wipe σ vs) H' fun σ2 H2 => wipe σ2 vs = wipe σ vs ∧ tt σ2 H2 fun b H3 => if b = true then tk σ2 H3 fun y H4 => tv σ2 H4 fun z H5 => put D y z H5 Nx else Nx H3)
section
variable {X : Cx} {o0 : HO} {put : Addr → V → V → Hp → (Hp → Prop) → Prop} {kx vx tg iter : Expr} {ifs : List Expr} {scope : Scope} {own : List (Str × Nat)} {wi : TI} {g : TG} {tt : TT} {tk tv : TE}
theorem pe_dcG {pos : Pos} (B : Puts X.prog X.w X.A o0 put) (calm : X.calm = true) (nd : X.N.Nodup) (hi : PI X tg iter wi) (ok : BlkOk X.N X.env.scope scope own)
    (hg : ∀ (z : Shared) (G : Hp) (C : Addr) (cl : List (Str × Addr)) (fp : List Addr), PG (X.blk z G scope (compEnvC scope cl C X.env) fp) tg g)
    (ht : ∀ (z : Shared) (G : Hp) (C : Addr) (cl : List (Str × Addr)) (fp : List Addr), PTs (X.blk z G scope (compEnvC scope cl C X.env) fp) ifs tt)
    (hk : ∀ (z : Shared) (G : Hp) (C : Addr) (cl : List (Str × Addr)) (fp : List Addr), PE (X.blk z G scope (compEnvC scope cl C X.env) fp) kx tk)
    (hv : ∀ (z : Shared) (G : Hp) (C : Addr) (cl : List (Str × Addr)) (fp : List Addr), PE (X.blk z G scope (compEnvC scope cl C X.env) fp) vx tv)
    (hs : ∀ x, foldedSetIterable iter X.env x = pure x := by intro _; rfl) :
    PE X (.DictComp kx vx [⟨tg, iter, ifs, 0⟩] scope pos) (tDcG o0 put wi g tt tk tv (own.map (·.2))) := by
  refine ⟨fun pins s σ H Q I h => ?_⟩
  rw [arm_eval_DictComp]
  have cells : ∀ y ∈ scope.names, y.2 = .free → ∃ c, X.env.cells.lookup y.1 = some c := fun y hy e => (ok.free y hy e).elim (fun k => I.ok.has _ (.inl k)) fun k => I.ok.has _ (.inr k)
  refine wpAny_comprehension_free rfl hs (closure_ok cells) ok.kind (fun y hy e => by rw [ok.uniq y hy, e]) (thn (hi.run pins s σ H _ I h) fun xv z1 hx => thn hx fun itv z2 h2 => ?_)
  obtain ⟨it, fp, tn, J, H2, e, I2, T, st2, f2, q⟩ := h2
  subst e
  refine wpAny_newObj_type (newEnv_comp ?_)
  have Dn : H2 z2.heap.objs.size = none := I2.hok.fresh (Nat.le_refl _)
  obtain ⟨W, ⟨m0, w0⟩, turn⟩ := q _ Dn
  have I3 : Inv X pins σ (upd H2 z2.heap.objs.size o0) { z2 with heap := z2.heap.push { cls := .type "dict", data := .dict #[] } } := I2.laid (t' := z2.toks) (fun b o e => Heap.get?_push_of_some _ e) (Nat.le_refl _) (B.new z2.heap _ I2.big)
  have small : ∀ b ∈ fp, b < z2.heap.objs.size := fun b hb => let ⟨o, e, _⟩ := T.obj _ _ st2 b hb; Heap.lt_size e
  generalize eD : z2.heap.objs.size = D at *
  generalize eG : upd H2 D o0 = G at *
  generalize e3 : ({ z2 with heap := z2.heap.push { cls := .type "dict", data := .dict #[] } } : Shared) = z3 at *
  have h3 : z3.heap = z2.heap.push { cls := .type "dict", data := .dict #[] } := by rw [← e3]
  have f3 : ∀ b ∈ fp, FpOk X pins G b ∧ b < z3.heap.objs.size := fun b hb => by
    refine ⟨⟨?_, (f2 b hb).2⟩, by rw [h3, Heap.size_push, eD]; exact Nat.lt_succ_of_lt (small b hb)⟩
    rw [← eG, upd_ne (Nat.ne_of_lt (small b hb))]
    exact (f2 b hb).1
  have st3 : tn 0 z3.heap := T.keep _ _ _ st2 fun b _ o e => by rw [h3]; exact Heap.get?_push_of_some _ e
  have I4 := block_start I3 ok nd f3
  have pg := hg z3 G z3.heap.objs.size (cellsFrom (z3.heap.objs.size + 1) scope.names (cloFrom X.env.cells scope.names [])) fp
  have pt := ht z3 G z3.heap.objs.size (cellsFrom (z3.heap.objs.size + 1) scope.names (cloFrom X.env.cells scope.names [])) fp
  have pk := hk z3 G z3.heap.objs.size (cellsFrom (z3.heap.objs.size + 1) scope.names (cloFrom X.env.cells scope.names [])) fp
  have pv := hv z3 G z3.heap.objs.size (cellsFrom (z3.heap.objs.size + 1) scope.names (cloFrom X.env.cells scope.names [])) fp
  show codeAny _ _ (.compStart (.DictComp kx vx [⟨tg, iter, ifs, 0⟩] scope pos) 0 (.ref it) (.ref D) (compEnvC scope (cellsFrom (z3.heap.objs.size + 1) scope.names (cloFrom X.env.cells scope.names [])) z3.heap.objs.size X.env)) (compPost (model X.prog X.w) X.A X.xe none (EP X pins σ Q) (.ref D) z3.heap.objs.size) { z3 with heap := pushCells (z3.heap.push { cls := .type "dict", data := .dict #[] }) scope.names }
  have clear : ∀ b ∈ fp, G b = none := fun b hb => (f3 b hb).1.1
  generalize eE : compEnvC scope (cellsFrom (z3.heap.objs.size + 1) scope.names (cloFrom X.env.cells scope.names [])) z3.heap.objs.size X.env = ce at I4 pg pt pk pv ⊢
  have locE : ce.locals = z3.heap.objs.size := by rw [← eE] <;> rfl
  generalize e4 : ({ z3 with heap := pushCells (z3.heap.push { cls := .type "dict", data := .dict #[] }) scope.names } : Shared) = z4 at I4 ⊢
  have st4 : tn 0 z4.heap := T.keep _ _ _ st3 fun b _ o e => by rw [← e4]; exact pushCells_keeps _ _ _ _ (Heap.get?_push_of_some _ e)
  have still : ∀ {ρ : L2.St} {M : Hp} {y : Shared}, Inv (X.blk z3 G scope ce fp) [] ρ M y → (∀ b ∈ fp, M b = none) → ∀ b ∈ fp, FpOk (X.blk z3 G scope ce fp) [] M b := fun I' hn b hb =>
    ⟨hn b hb, (I'.ok.exf b hb).1, I'.ok.exfs b hb, .inl hb, fun x c e => (I'.ok.exf b hb).2 x c e, fun p hp => absurd (show p ∈ ([] : List (Addr × Obj)) ++ [] from hp) (by simp)⟩
  have loop : codeAny (model X.prog X.w) X.A (.compLoop (.DictComp kx vx [⟨tg, iter, ifs, 0⟩] scope pos) 0 (.ref it) (.ref D) ce) (compPost (model X.prog X.w) X.A X.xe none (EP X pins σ Q) (.ref D) z3.heap.objs.size) z4 := by
    refine compLoop_anyD (fun n y => ∃ i M, Inv (X.blk z3 G scope ce fp) [] (wipe σ (own.map (·.2))) M y ∧ tn i y.heap ∧ (∀ b ∈ fp, M b = none) ∧ W i n M) (fun n y5 hy => ?_) m0 ⟨0, G, I4, st4, clear, w0⟩
    obtain ⟨i, M5, I5, st5, n5, w5⟩ := hy
    rcases turn i n M5 w5 with ⟨stop, qq⟩ | ⟨go, Nx, hNx, step⟩
    · refine thnF (T.done (X.blk z3 G scope ce fp) rfl rfl rfl calm i [] y5 _ M5 (fun _ _ => False) I5 (still I5 n5) st5 stop) fun r y6 ⟨er, I6⟩ => ?_
      subst er
      have I7 : Inv X pins σ M5 y6 := I3.call' (ch := fp) I6.os I6.base I6.hok I6.bare fun b hb => let F := (f3 b hb).1.2; ⟨F.2.2.1, F.1, F.2.2.2.1, F.2.2.2.2⟩
      have freeC : M5 z3.heap.objs.size = none := by
        have z : M5 ce.locals = none := I6.free
        rw [locE] at z
        exact z
      obtain ⟨m, hn, _⟩ := I6.loc
      have hn2 : y6.heap.Ns ce.locals m := hn
      rw [locE] at hn2
      refine ⟨m, hn2, fun g' sb => ?_⟩
      obtain ⟨f0, f1, f2', f3', f4, f5⟩ := I3.fpOk (Nat.le_refl _) freeC
      exact ⟨.ref D, M5, I7.turned (t' := y6.toks) (fun b o hb e => (sb.2 b hb).trans e) f0 f1 f3' f4 f5, rfl, qq⟩
    · refine thnF (T.item (X.blk z3 G scope ce fp) rfl rfl rfl calm i [] y5 _ M5 (fun _ _ => False) I5 (still I5 n5) st5 go) fun r y6 ⟨u, er, h6⟩ => ?_
      subst er
      refine thnF h6 fun _ y7 ⟨x, M7, I7, r7, yl, st7, n7⟩ => ?_
      refine thnF (pg.run _ y7 _ M7 x u _ (I7.pinned (still I7 n7) (T.obj _ _ st7)) r7 (step x M7 yl)) fun _ y8 ⟨ρ, M8, I8, hw, q8⟩ => ?_
      refine thnF (pt.run _ y8 ρ M8 _ I8 q8) fun b y9 ⟨M9, I9, q9⟩ => ?_
      have fin : ∀ {y : Shared} {M : Hp}, Inv (X.blk z3 G scope ce fp) ([] ++ pinsAt fp y7.heap) ρ M y → Nx M → ∃ m, m < n ∧ ∃ i M, Inv (X.blk z3 G scope ce fp) [] (wipe σ (own.map (·.2))) M y ∧ tn i y.heap ∧ (∀ b ∈ fp, M b = none) ∧ W i m M := fun {y M} I' nx => by
        obtain ⟨m', hm, w'⟩ := hNx M nx
        have keep : ∀ b ∈ fp, ∀ o, y7.heap.get? b = some o → y.heap.get? b = some o ∧ M b = none := fun b hb o e => by
          have z := I'.pin (b, o) (List.mem_append_right _ (List.mem_append_right _ (mem_pinsAt hb e)))
          exact ⟨z.1, z.2.1⟩
        have len : (wipe σ (own.map (·.2))).length = ρ.length := by rw [← hw, wipe_length]
        refine ⟨m', hm, i + 1, M, (I'.unpinned (pins := [])).weak len (fun j v e => ?_), T.keep _ _ _ st7 fun b hb o e => (keep b hb o e).1, fun b hb => ?_, w'⟩
        · rw [← hw] at e
          exact (wipe_some e).1
        · obtain ⟨o, e, _⟩ := T.obj _ _ st7 b hb
          exact (keep b hb o e).2
      cases b with
      | false =>
        simp only [Bool.false_eq_true, if_false] at q9 ⊢
        exact fin I9 q9
      | true =>
        simp only [if_true] at q9 ⊢
        exact thnF (pk.run _ y9 ρ M9 _ I9 q9) fun z y10 ⟨yk, M10, I10, r10, q10⟩ => thnF (pv.run _ y10 ρ M10 _ I10 q10) fun z2 y11 ⟨yv, M11, I11, r11, pz⟩ =>
          B.set (X.blk z3 G scope ce fp) rfl rfl I11 r10 r11 pz fun M12 y12 I12 nx => fin I12 nx
  exact codeAny_compStart_dict loop (T.self X.A 0 _ _ _ st4 loop)
end
/-! ### tuple keys -/
/-- a store into a dict whose keys are tuples of ints and texts -/
def putT (D : Addr) (y z : V) (H : Hp) (R : Hp → Prop) : Prop := ∃ (kvs : List (List Key × V)) (k : List Key) (b : Addr), y = .ref b ∧ H D = some (.dT kvs) ∧ H b = some (.tup (k.map kV)) ∧ kvs.length < sizeLine ∧ R (upd H D (.dT (putK kvs k z)))
theorem puts_T {P : Program} {w : World} {A : Around} (hu : A.units + 1 < cLine) : Puts P w A (.dT []) putT where
  new := fun h H hb => dt_empty h hb
  set := fun Y e1 e2 {pins σ H s D y z u r R Q E} I ry rz hp h => by
    subst e1 e2
    obtain ⟨kvs, k, b, ey, hD, hb, hl, q⟩ := hp
    subst ey
    cases (show u = Value.ref b from ry)
    obtain ⟨sz, ns, xs, rel, dd⟩ := dt_of I.hok hD
    have sx : xs.length ≤ sizeLine := by rw [← Paired.length rel]; exact sz
    have sp : (putK kvs k z).length ≤ sizeLine := by have := length_putK kvs k z; omega
    refine wpAny_dictSet_heap (hsz := sx) (show A.units < cLine by omega) (key_of I.hok hb) dd fun h' dd' hs => h _ _ ?_ q
    obtain ⟨o, es, ep, ho, d2, d3, d4, _, d5⟩ := dd'
    refine d_write I (by rw [hD]; exact True.intro) hs ⟨o, ho⟩ ⟨sp, ns, _, (rel.put k hb rz).keeps fun c ys ec => ?_, o, es, ep, ho, d2, d3, d4, d5⟩
    rw [upd_ne (ne_of ec hD (fun v => nomatch v))]
    exact ec
theorem walk_itemsT {d : Addr} {o : Obj} {kvs : List (List Key × V)} : Walk (Itit d o kvs) kvs.length (fun H => H d = some (.frz o (.dT kvs)))
    (fun i H x H' => ∃ (T : Addr) (k : List Key) (v : V) (q : Addr), kvs[i]? = some (k, v) ∧ x = .ref T ∧ H T = none ∧ H q = some (.tup (k.map kV)) ∧ H' = upd H T (.tup [.ref q, v])) :=
  ⟨fun _ _ hi q => ⟨q, hi⟩, fun _ q => ⟨q, Nat.le_refl _⟩, fun _ _ _ _ _ _ y => y⟩
section
variable {J : It} {n : Nat} {G : Hp → Prop} {Y : Nat → Hp → V → Hp → Prop} {o0 : HO} {put : Addr → V → V → Hp → (Hp → Prop) → Prop}
/-- the reading of such a comprehension over a walk -/
theorem dcg_it (w : Walk J n G Y) {g : TG} {tt : TT} {tk tv : TE} {vs : List Nat} {σ : L2.St} {H1 : Hp} {D : Addr} {Qd : Hp → Prop} (Pv : Nat → Hp → Prop) (h0 : Pv 0 (upd H1 D o0)) (hG : ∀ i H, i ≤ n → Pv i H → G H)
    (hs : ∀ i x H H', i < n → Pv i H → Y i H x H' → g x (wipe σ vs) H' fun σ2 H2 => wipe σ2 vs = wipe σ vs ∧ tt σ2 H2 fun b H3 =>
      if b = true then tk σ2 H3 fun y H4 => tv σ2 H4 fun z H5 => put D y z H5 (Pv (i + 1)) else Pv (i + 1) H3) (hd : ∀ H, Pv n H → Qd H) :
    ∃ W : Nat → Nat → Hp → Prop, (∃ m, W 0 m (upd H1 D o0)) ∧ ∀ i m H, W i m H →
      (J.stop i H ∧ Qd H) ∨ (J.go i H ∧ ∃ Nx : Hp → Prop, (∀ H', Nx H' → ∃ m', m' < m ∧ W (i + 1) m' H') ∧ ∀ x H', J.yld i H x H' → g x (wipe σ vs) H' fun σ2 H2 => wipe σ2 vs = wipe σ vs ∧ tt σ2 H2 fun b H3 =>
        if b = true then tk σ2 H3 fun y H4 => tv σ2 H4 fun z H5 => put D y z H5 Nx else Nx H3) := by
  refine ⟨fun i m H => i ≤ n ∧ m = n - i ∧ Pv i H, ⟨n, Nat.zero_le _, rfl, h0⟩, fun i m H h => ?_⟩
  obtain ⟨hi, rfl, p⟩ := h
  have q := hG i H hi p
  rcases Nat.lt_or_ge i n with hlt | hge
  · exact .inr ⟨w.goes i H hlt q, Pv (i + 1), fun H' p' => ⟨n - (i + 1), by omega, hlt, rfl, p'⟩, fun x H' y => hs i x H H' hlt p (w.yields i H x H' hlt q y)⟩
  · obtain rfl : i = n := by omega
    exact .inl ⟨w.stops H q, hd H p⟩
end
end TCX
/-! Dicts with keys of any kind that is told as tuples of ints: contents as a list of keys and a function. -/
namespace TCX
open PySem PySem.Spec PyProof.Rows L2
section
variable {κ : Type} [DecidableEq κ]
/-- the keys in their order, one more behind if it is new -/
def addK (ks : List κ) (r : κ) : List κ := if r ∈ ks then ks else ks ++ [r]
theorem addK_len (ks : List κ) (r : κ) : (addK ks r).length ≤ ks.length + 1 := by
  unfold addK
  split
  · exact Nat.le_succ _
  · rw [List.length_append, List.length_singleton]
    exact Nat.le_refl _
theorem mem_addK {ks : List κ} {r s : κ} : s ∈ addK ks r ↔ s ∈ ks ∨ s = r := by
  unfold addK
  split
  · rename_i h
    exact ⟨.inl, fun z => z.elim id fun e => e ▸ h⟩
  · simp
theorem nd_addK {ks : List κ} {r : κ} (h : ks.Nodup) : (addK ks r).Nodup := by
  unfold addK
  split
  · exact h
  · rename_i z
    rw [List.nodup_append]
    refine ⟨h, by simp, fun a ha b hb => ?_⟩
    rw [List.mem_singleton.mp hb]
    exact fun e => z (e ▸ ha)
def setVal (f : κ → V) (r : κ) (v : V) : κ → V := fun s => if s = r then v else f s
/-- the entries -/
def entT (kk : κ → List Key) (ks : List κ) (f : κ → V) : List (List Key × V) := ks.map fun k => (kk k, f k)
theorem entT_len (kk : κ → List Key) (ks : List κ) (f : κ → V) : (entT kk ks f).length = ks.length := List.length_map _
theorem entT_congr {kk : κ → List Key} {ks : List κ} {f g : κ → V} (h : ∀ k ∈ ks, f k = g k) : entT kk ks f = entT kk ks g := List.map_congr_left fun k hk => by rw [h k hk]
variable {kk : κ → List Key} (inj : ∀ a b, kk a = kk b → a = b)
include inj
theorem val_entT {f : κ → V} {r : κ} : ∀ {ks : List κ}, valV (entT kk ks f) (kk r) = if r ∈ ks then some (f r) else none
  | [] => rfl
  | a :: ks => by
    show valV ((kk a, f a) :: entT kk ks f) (kk r) = _
    by_cases e : a = r
    · rw [valV_pos (by rw [e]), e, if_pos (List.mem_cons_self)]
    · rw [valV_neg fun z => e (inj _ _ z), val_entT]
      have : (r ∈ a :: ks) ↔ r ∈ ks := ⟨fun z => (List.mem_cons.mp z).resolve_left fun y => e y.symm, List.mem_cons_of_mem _⟩
      by_cases h : r ∈ ks
      · rw [if_pos h, if_pos (this.mpr h)]
      · rw [if_neg h, if_neg (fun z => h (this.mp z))]
theorem put_entT {ks : List κ} {f : κ → V} {r : κ} {v : V} : putK (entT kk ks f) (kk r) v = entT kk (addK ks r) (setVal f r v) := by
  unfold putK addK
  have hany : ((entT kk ks f).any fun kv => decide (kv.1 = kk r)) = decide (r ∈ ks) := by
    rw [valV_any, val_entT inj]
    by_cases h : r ∈ ks
    · rw [if_pos h, decide_eq_true h]
      rfl
    · rw [if_neg h, decide_eq_false h]
      rfl
  rw [hany]
  by_cases h : r ∈ ks
  · rw [if_pos (decide_eq_true h), if_pos h]
    unfold entT
    rw [List.map_map]
    refine List.map_congr_left fun k _ => ?_
    show (if kk k = kk r then (kk k, v) else (kk k, f k)) = (kk k, setVal f r v k)
    unfold setVal
    by_cases e : k = r
    · rw [if_pos (by rw [e]), if_pos e]
    · rw [if_neg fun z => e (inj _ _ z), if_neg e]
  · rw [if_neg (by rw [decide_eq_false h]; exact Bool.false_ne_true), if_neg h]
    unfold entT
    rw [List.map_append]
    congr 1
    · refine List.map_congr_left fun k hk => ?_
      show (kk k, f k) = (kk k, if k = r then v else f k)
      rw [if_neg fun (e : k = r) => h (e ▸ hk)]
    · show [(kk r, v)] = [(kk r, if r = r then v else f r)]
      rw [if_pos rfl]
theorem nd_entT {ks : List κ} {f : κ → V} (h : ks.Nodup) : ((entT kk ks f).map (·.1)).Nodup := by
  unfold entT
  rw [List.map_map]
  exact List.pairwise_map.mpr (h.imp fun {a b} z e => z (inj _ _ e))
theorem dget_entT {H : Hp} {d b : Addr} {ks : List κ} {f : κ → V} {r : κ} (e : H d = some (.dT (entT kk ks f))) (eb : H b = some (.tup ((kk r).map kV))) : DGet H d (.ref b) (if r ∈ ks then some (f r) else none) := by
  have z := DGet.t (k := kk r) e eb
  rw [val_entT inj] at z
  exact z
theorem dget_entT_in {H : Hp} {d b : Addr} {ks : List κ} {f : κ → V} {r : κ} (e : H d = some (.dT (entT kk ks f))) (eb : H b = some (.tup ((kk r).map kV))) (h : r ∈ ks) : DGet H d (.ref b) (some (f r)) := by
  have z := dget_entT inj e eb
  rw [if_pos h] at z
  exact z
theorem dget_entT_out {H : Hp} {d b : Addr} {ks : List κ} {f : κ → V} {r : κ} (e : H d = some (.dT (entT kk ks f))) (eb : H b = some (.tup ((kk r).map kV))) (h : r ∉ ks) : DGet H d (.ref b) none := by
  have z := dget_entT inj e eb
  rw [if_neg h] at z
  exact z
theorem dput_entT {H : Hp} {d b : Addr} {ks : List κ} {f : κ → V} {r : κ} {v : V} (e : H d = some (.dT (entT kk ks f))) (eb : H b = some (.tup ((kk r).map kV))) (hl : ks.length < sizeLine) : DPut H d (.ref b) v (upd H d (.dT (entT kk (addK ks r) (setVal f r v)))) := by
  have z := DPut.t (k := kk r) (v := v) e eb (by rw [entT_len]; exact hl)
  rw [put_entT inj] at z
  exact z
omit inj
theorem entT_get {ks : List κ} {f : κ → V} {i : Nat} {k : List Key} {v : V} (h : (entT kk ks f)[i]? = some (k, v)) : ∃ r, ks[i]? = some r ∧ k = kk r ∧ v = f r := by
  unfold entT at h
  rw [List.getElem?_map] at h
  cases e : ks[i]? with
  | none =>
    rw [e] at h
    cases h
  | some r =>
    rw [e] at h
    have z := Option.some.inj h
    exact ⟨r, rfl, (congrArg Prod.fst z).symm, (congrArg Prod.snd z).symm⟩
end
/-! ### counts in such a dict -/
section
variable {κ : Type} [DecidableEq κ]
/-- the keys of terms in the order in which they first come -/
def keysL (L : List (κ × Int)) : List κ := L.foldl (fun ks x => addK ks x.1) []
/-- what the terms at a key come to -/
def sumAt (L : List (κ × Int)) (r : κ) : Int := (L.map fun x => if x.1 = r then x.2 else 0).sum
theorem keysL_snoc (L : List (κ × Int)) (x : κ × Int) : keysL (L ++ [x]) = addK (keysL L) x.1 := by
  unfold keysL
  rw [List.foldl_append]
  rfl
theorem sumAt_snoc (L : List (κ × Int)) (x : κ × Int) (r : κ) : sumAt (L ++ [x]) r = sumAt L r + if x.1 = r then x.2 else 0 := by
  unfold sumAt
  rw [List.map_append, List.sum_append]
  show _ + (_ + 0) = _
  rw [Int.add_zero]
theorem sumAt_append (L M : List (κ × Int)) (r : κ) : sumAt (L ++ M) r = sumAt L r + sumAt M r := by
  unfold sumAt
  rw [List.map_append, List.sum_append]
theorem nd_foldK : ∀ (L : List (κ × Int)) {ks : List κ}, ks.Nodup → (L.foldl (fun ks x => addK ks x.1) ks).Nodup
  | [], _, h => h
  | x :: L, _, h => nd_foldK L (nd_addK h)
theorem nd_keysL (L : List (κ × Int)) : (keysL L).Nodup := nd_foldK L List.nodup_nil
theorem mem_foldK : ∀ (L : List (κ × Int)) {ks : List κ} {r : κ}, r ∈ L.foldl (fun ks x => addK ks x.1) ks ↔ r ∈ ks ∨ ∃ x ∈ L, x.1 = r
  | [], _, _ => by simp
  | x :: L, ks, r => by
    show r ∈ L.foldl _ (addK ks x.1) ↔ _
    rw [mem_foldK L, mem_addK]
    constructor
    · rintro ((h | h) | ⟨y, h1, h2⟩)
      · exact .inl h
      · exact .inr ⟨x, List.mem_cons_self, h.symm⟩
      · exact .inr ⟨y, List.mem_cons_of_mem _ h1, h2⟩
    · rintro (h | ⟨y, h1, h2⟩)
      · exact .inl (.inl h)
      · rcases List.mem_cons.mp h1 with e | h1
        · exact .inl (.inr (by rw [← h2, e]))
        · exact .inr ⟨y, h1, h2⟩
theorem mem_keysL {L : List (κ × Int)} {r : κ} : r ∈ keysL L ↔ ∃ x ∈ L, x.1 = r := by
  unfold keysL
  rw [mem_foldK]
  simp
theorem sumAt_out : ∀ {L : List (κ × Int)} {r : κ}, (∀ x ∈ L, x.1 ≠ r) → sumAt L r = 0
  | [], _, _ => rfl
  | x :: L, r, h => by
    have z := sumAt_out (L := L) (r := r) fun y hy => h y (List.mem_cons_of_mem _ hy)
    show (if x.1 = r then x.2 else 0) + sumAt L r = 0
    rw [if_neg (h x List.mem_cons_self), z]
    rfl
theorem sumAt_not {L : List (κ × Int)} {r : κ} (h : r ∉ keysL L) : sumAt L r = 0 := sumAt_out fun x hx e => h (mem_keysL.mpr ⟨x, hx, e⟩)
theorem keysL_len : ∀ (L : List (κ × Int)), (keysL L).length ≤ L.length := fun L => by
  have key : ∀ (M : List (κ × Int)) (ks : List κ), (M.foldl (fun ks x => addK ks x.1) ks).length ≤ ks.length + M.length := by
    intro M
    induction M with
    | nil => intro ks; exact Nat.le_refl _
    | cons x M ih =>
      intro ks
      have a := ih (addK ks x.1)
      have b := addK_len ks x.1
      show (M.foldl _ (addK ks x.1)).length ≤ ks.length + (M.length + 1)
      omega
  have z := key L []
  simpa [keysL] using z
/-- the dict of the terms so far -/
def cntO (kk : κ → List Key) (L : List (κ × Int)) : HO := .dT (entT kk (keysL L) fun k => .int (sumAt L k))
theorem cnt_step {kk : κ → List Key} (L : List (κ × Int)) (x : κ × Int) : HO.dT (entT kk (addK (keysL L) x.1) (setVal (fun k => .int (sumAt L k)) x.1 (.int (sumAt L x.1 + x.2)))) = cntO kk (L ++ [x]) := by
  unfold cntO
  rw [keysL_snoc]
  congr 1
  refine entT_congr fun k _ => ?_
  show (if k = x.1 then V.int (sumAt L x.1 + x.2) else .int (sumAt L k)) = .int (sumAt (L ++ [x]) k)
  rw [sumAt_snoc]
  by_cases e : k = x.1
  · rw [if_pos e, e, if_pos rfl]
  · rw [if_neg e, if_neg fun z => e z.symm, Int.add_zero]
/-- what .get(k, 0) tells -/
theorem cnt_get {L : List (κ × Int)} {r : κ} {f : κ → V} (hf : f = fun k => .int (sumAt L k)) : (if r ∈ keysL L then some (f r) else none).getD (.int 0) = .int (sumAt L r) := by
  subst hf
  by_cases h : r ∈ keysL L
  · rw [if_pos h]
    rfl
  · rw [if_neg h, sumAt_not h]
    rfl
end
end TCX
/-! powers of three differences multiplied out: the terms at a key. -/
namespace TCX
open L2
/-- a signed binomial -/
def sbN (n i : Nat) : Int := sgK i * (binN n i : Nat)
def pKey (p q r i j k : Nat) : List Int := [(p : Int) - i + k, (i : Int) + r - k, (i : Int) + q - j, (p : Int) - i + j, (j : Int) + r - k, (q : Int) - j + k]
def pTerm (p q r i j k : Nat) : List Int × Int := (pKey p q r i j k, sbN p i * sbN q j * sbN r k)
def pRow (p q r i j : Nat) : List (List Int × Int) := (List.range (r + 1)).map (pTerm p q r i j)
def pPla (p q r i : Nat) : List (List Int × Int) := (List.range (q + 1)).flatMap (pRow p q r i)
def pAll (p q r : Nat) : List (List Int × Int) := (List.range (p + 1)).flatMap (pPla p q r)
theorem sumAt_flat {κ : Type} [DecidableEq κ] (f : Nat → List (κ × Int)) (x : κ) : ∀ n, sumAt ((List.range n).flatMap f) x = sumK (fun i => sumAt (f i) x) n
  | 0 => rfl
  | n + 1 => by
    rw [List.range_succ, List.flatMap_append, sumAt_append, sumAt_flat f x n, sumK_succ]
    show _ + sumAt (f n ++ []) x = _
    rw [List.append_nil]
theorem sumAt_map {κ : Type} [DecidableEq κ] (f : Nat → κ × Int) (x : κ) : ∀ n, sumAt ((List.range n).map f) x = sumK (fun i => if (f i).1 = x then (f i).2 else 0) n
  | 0 => rfl
  | n + 1 => by
    rw [List.range_succ, List.map_append, sumAt_append, sumAt_map f x n, sumK_succ]
    show _ + ((if (f n).1 = x then (f n).2 else 0) + 0) = _
    rw [Int.add_zero]
theorem sumK_congr {f g : Nat → Int} : ∀ {n : Nat}, (∀ i, i < n → f i = g i) → sumK f n = sumK g n
  | 0, _ => rfl
  | n + 1, h => by rw [sumK_succ, sumK_succ, sumK_congr fun i hi => h i (by omega), h n (by omega)]
/-- a sum with but one term -/
theorem sumK_one (f : Nat → Int) (K0 : Int) : ∀ n : Nat, sumK (fun k => if (k : Int) = K0 then f k else 0) n = if 0 ≤ K0 ∧ K0 < n then f K0.toNat else 0
  | 0 => by
    rw [if_neg (by omega)]
    rfl
  | n + 1 => by
    rw [sumK_succ, sumK_one f K0 n]
    by_cases h : (n : Int) = K0
    · rw [if_pos h, if_neg (by omega), if_pos (by omega), ← h]
      simp
    · rw [if_neg h, Int.add_zero]
      by_cases h2 : 0 ≤ K0 ∧ K0 < n
      · rw [if_pos h2, if_pos (by omega)]
      · rw [if_neg h2, if_neg (by omega)]
theorem sumK_mul (c : Int) (f : Nat → Int) : ∀ n, sumK (fun i => c * f i) n = c * sumK f n
  | 0 => by show (0 : Int) = c * 0; rw [Int.mul_zero]
  | n + 1 => by rw [sumK_succ, sumK_succ, sumK_mul c f n, Int.mul_add]
/-- what a key must be like to be met at all -/
structure KeyP (p q r : Nat) (k0 k1 k2 k3 k4 k5 : Int) : Prop where
  e1 : k1 = p + r - k0
  e2 : k2 = p + q - k3
  e4 : k4 = k3 - k0 + r
  e5 : k5 = q - k3 + k0
def pTm (p q r : Nat) (k0 k3 : Int) (i : Nat) : Int := if (0 ≤ k3 - p + i ∧ k3 - p + i ≤ q) ∧ 0 ≤ k0 - p + i ∧ k0 - p + i ≤ r then sbN p i * sbN q (k3 - p + i).toNat * sbN r (k0 - p + i).toNat else 0
theorem sum_all {p q r : Nat} {k0 k1 k2 k3 k4 k5 : Int} (h : KeyP p q r k0 k1 k2 k3 k4 k5) : sumAt (pAll p q r) [k0, k1, k2, k3, k4, k5] = sumK (pTm p q r k0 k3) (p + 1) := by
  obtain ⟨e1, e2, e4, e5⟩ := h
  unfold pAll
  rw [sumAt_flat]
  refine sumK_congr fun i hi => ?_
  unfold pPla
  rw [sumAt_flat]
  have inner : ∀ j : Nat, sumAt (pRow p q r i j) [k0, k1, k2, k3, k4, k5] = if (j : Int) = k3 - p + i then (if 0 ≤ k0 - p + i ∧ k0 - p + i < ((r + 1 : Nat) : Int) then sbN p i * sbN q j * sbN r (k0 - p + i).toNat else 0) else 0 := fun j => by
    unfold pRow
    rw [sumAt_map]
    by_cases hj : (j : Int) = k3 - p + i
    · rw [if_pos hj, ← sumK_one (fun k => sbN p i * sbN q j * sbN r k) (k0 - p + i) (r + 1)]
      refine sumK_congr fun k _ => ?_
      have : (pTerm p q r i j k).1 = [k0, k1, k2, k3, k4, k5] ↔ (k : Int) = k0 - p + i := by
        show [_, _, _, _, _, _] = [_, _, _, _, _, _] ↔ _
        simp only [List.cons.injEq, and_true]
        omega
      by_cases hk : (k : Int) = k0 - p + i
      · rw [if_pos (this.mpr hk), if_pos hk]
        rfl
      · rw [if_neg fun z => hk (this.mp z), if_neg hk]
    · rw [if_neg hj]
      refine sumK_zero fun k _ => if_neg fun z => hj ?_
      have z' : [_, _, _, _, _, _] = [k0, k1, k2, k3, k4, k5] := z
      simp only [List.cons.injEq, and_true] at z'
      omega
  rw [sumK_congr (g := fun j => if (j : Int) = k3 - p + i then (if 0 ≤ k0 - p + i ∧ k0 - p + i < ((r + 1 : Nat) : Int) then sbN p i * sbN q j * sbN r (k0 - p + i).toNat else 0) else 0) fun j _ => inner j]
  rw [sumK_one (fun j => if 0 ≤ k0 - p + i ∧ k0 - p + i < ((r + 1 : Nat) : Int) then sbN p i * sbN q j * sbN r (k0 - p + i).toNat else 0) (k3 - p + i) (q + 1)]
  unfold pTm
  by_cases h1 : 0 ≤ k3 - (p : Int) + i ∧ k3 - (p : Int) + i ≤ q
  · rw [if_pos (by omega)]
    by_cases h2 : 0 ≤ k0 - (p : Int) + i ∧ k0 - (p : Int) + i ≤ r
    · rw [if_pos (by omega), if_pos ⟨h1, h2⟩]
    · rw [if_neg (by omega), if_neg fun z => h2 z.2]
  · rw [if_neg (by omega), if_neg fun z => h1 z.1]
/-- a term as in the sum of joined numbers -/
def sgZ (z : Int) : Int := if z % 2 = 1 then -1 else 1
theorem sg_two {J K : Nat} {z : Int} (h : ((J : Int) + K - z) % 2 = 0) : sgK J * sgK K = sgZ z := by
  unfold sgK sgZ
  by_cases a : J % 2 = 1
  · by_cases b : K % 2 = 1
    · rw [if_pos a, if_pos b, if_neg (by omega)]
      rfl
    · rw [if_pos a, if_neg b, if_pos (by omega)]
      rfl
  · by_cases b : K % 2 = 1
    · rw [if_neg a, if_pos b, if_pos (by omega)]
      rfl
    · rw [if_neg a, if_neg b, if_neg (by omega)]
      rfl
theorem tm_one {p q r : Nat} {k0 k3 : Int} {i : Nat} (hi : i ≤ p) {B C : Nat} (hB : (B : Int) = p + r - k0) (hC : (C : Int) = p + q - k3) : pTm p q r k0 k3 i = sgZ (k0 + k3) * tmK p B C (k0 - p) (k3 - p) i := by
  unfold pTm tmK
  have hok : okK p B C (k0 - p) (k3 - p) i = true ↔ (0 ≤ k3 - (p : Int) + i ∧ k3 - (p : Int) + i ≤ q) ∧ 0 ≤ k0 - (p : Int) + i ∧ k0 - (p : Int) + i ≤ r := by
    unfold okK
    rw [decide_eq_true_iff]
    omega
  by_cases h : (0 ≤ k3 - (p : Int) + i ∧ k3 - (p : Int) + i ≤ q) ∧ 0 ≤ k0 - (p : Int) + i ∧ k0 - (p : Int) + i ≤ r
  · rw [if_pos h, if_pos (hok.mpr h)]
    obtain ⟨⟨h1, h2⟩, h3, h4⟩ := h
    obtain ⟨J, hJ⟩ : ∃ J : Nat, (J : Int) = k3 - p + i := ⟨(k3 - p + i).toNat, by omega⟩
    obtain ⟨M, hM⟩ : ∃ M : Nat, (M : Int) = k0 - p + i := ⟨(k0 - p + i).toNat, by omega⟩
    rw [← hJ, ← hM, Int.toNat_natCast, Int.toNat_natCast]
    have com : binN p i * binN q J * binN r M * botK p B C (k0 - p) (k3 - p) i = comK p B C (k0 - p) (k3 - p) := by
      unfold botK comK
      rw [show (k0 - (p : Int) + i).toNat = M by omega, show (k3 - (p : Int) + i).toNat = J by omega, show ((B : Int) + (k0 - p)).toNat = r by omega, show ((C : Int) + (k3 - p)).toNat = q by omega, show B - i = r - M by omega, show C - i = q - J by omega,
        ← bin_mul hi, ← bin_mul (n := q) (k := J) (by omega), ← bin_mul (n := r) (k := M) (by omega)]
      simp only [Nat.mul_assoc, Nat.mul_left_comm, Nat.mul_comm]
    have quo : comK p B C (k0 - p) (k3 - p) / botK p B C (k0 - p) (k3 - p) i = binN p i * binN q J * binN r M := by
      rw [← com]
      exact Nat.mul_div_cancel _ (botK_pos _ _ _ _ _ _)
    rw [quo]
    unfold sbN
    rw [← sg_two (J := J) (K := M) (z := k0 + k3) (by omega)]
    simp only [Int.natCast_mul, Int.mul_assoc, Int.mul_left_comm, Int.mul_comm]
  · rw [if_neg h, if_neg fun z => h (hok.mp z), Int.mul_zero]
theorem all_joined {p q r : Nat} {k0 k1 k2 k3 k4 k5 : Int} (h : KeyP p q r k0 k1 k2 k3 k4 k5) {B C : Nat} (hB : (B : Int) = k1) (hC : (C : Int) = k2) : sumAt (pAll p q r) [k0, k1, k2, k3, k4, k5] = sgZ (k0 + k3) * sumK (tmK p B C (k0 - p) (k3 - p)) (p + 1) := by
  rw [sum_all h, ← sumK_mul]
  exact sumK_congr fun i hi => tm_one (by omega) (by rw [hB, h.e1]) (by rw [hC, h.e2])
/-! ### bounds -/
theorem sbN_lt {n i : Nat} (h : n ≤ 12) (hi : i ≤ n) : (sbN n i).natAbs ≤ 924 := by
  have key : ∀ n, n < 13 → ∀ i, i < n + 1 → binN n i ≤ 924 := by decide +kernel
  have z := key n (by omega) i (by omega)
  unfold sbN
  rw [Int.natAbs_mul, Int.natAbs_natCast]
  have : (sgK i).natAbs = 1 := by
    unfold sgK
    split <;> rfl
  rw [this, Nat.one_mul]
  exact z
theorem pRow_len (p q r i j : Nat) : (pRow p q r i j).length = r + 1 := by
  unfold pRow
  rw [List.length_map, List.length_range]
theorem pPla_len (p q r i : Nat) : ∀ m, ((List.range m).flatMap (pRow p q r i)).length = m * (r + 1)
  | 0 => by simp
  | m + 1 => by
    rw [List.range_succ, List.flatMap_append, List.length_append, pPla_len p q r i m, Nat.add_mul m 1, Nat.one_mul]
    show _ + (pRow p q r i m ++ []).length = _
    rw [List.append_nil, pRow_len]
theorem pAll_len (p q r : Nat) : ∀ m, ((List.range m).flatMap (pPla p q r)).length = m * ((q + 1) * (r + 1))
  | 0 => by simp
  | m + 1 => by
    rw [List.range_succ, List.flatMap_append, List.length_append, pAll_len p q r m, Nat.add_mul m 1, Nat.one_mul]
    show _ + (pPla p q r m ++ []).length = _
    rw [List.append_nil]
    unfold pPla
    rw [pPla_len]
/-- keys as the dict has them -/
def kInt (l : List Int) : List Key := l.map Sum.inl
theorem kInt_inj : ∀ a b : List Int, kInt a = kInt b → a = b
  | [], [], _ => rfl
  | [], _ :: _, h => by cases h
  | _ :: _, [], h => by cases h
  | a :: l, b :: m, h => by
    have h' : (Sum.inl a : Key) :: kInt l = Sum.inl b :: kInt m := h
    injection h' with h1 h2
    injection h1 with h1
    rw [h1, kInt_inj l m h2]
theorem kInt_kV (l : List Int) : (kInt l).map kV = l.map V.int := by
  unfold kInt
  rw [List.map_map]
  rfl
end TCX
namespace TC
set_option exponentiation.threshold 20000
open PySem PySem.Spec PyProof.Rows L2 TCA TCX
section
variable {P : Program} {w : World} {K : PySem.W.Frag} {mg : Str → Option Value} {base : Heap} {f fP fT : Addr} {fd fdP fdT : FuncData} {C fI fQ : Addr}
/-! ### three -/
abbrev nThree : List Str := ["one", "other", "third"]
end
end TC
namespace TC
set_option exponentiation.threshold 20000
open PySem PySem.Spec PyProof.Rows L2 TCA TCX
def sbnL (n : Nat) : List V := (List.range (n + 1)).map fun m => V.int (sbN n m)
theorem sbnL_len (n : Nat) : (sbnL n).length = n + 1 := by
  unfold sbnL
  rw [List.length_map, List.length_range]
theorem sbnL_at {n i : Nat} {x : V} (h : (sbnL n)[i]? = some x) : i ≤ n ∧ x = .int (sbN n i) := by
  unfold sbnL at h
  rw [List.getElem?_map] at h
  rcases Nat.lt_or_ge i (n + 1) with hi | hi
  · rw [List.getElem?_range hi] at h
    exact ⟨by omega, (Option.some.inj h).symm⟩
  · rw [List.getElem?_eq_none (by rw [List.length_range]; exact hi)] at h
    cases h
theorem bin_at {n i : Nat} {x : V} (h : (binL n)[i]? = some x) : i ≤ n ∧ x = .int ((binN n i : Nat) : Int) := by
  unfold binL at h
  rw [List.getElem?_map] at h
  rcases Nat.lt_or_ge i (n + 1) with hi | hi
  · rw [List.getElem?_range hi] at h
    exact ⟨by omega, (Option.some.inj h).symm⟩
  · rw [List.getElem?_eq_none (by rw [List.length_range]; exact hi)] at h
    cases h
section
variable {P : Program} {w : World} {K : PySem.W.Frag} {mg : Str → Option Value} {base : Heap} {f : Addr} {fd : FuncData} {C fI fQ : Addr}
/-! ### signed_binomials -/
def spSigned : Sp := fun vs H Q _ => ∃ n : Nat, vs = [.int n] ∧ n ≤ 12 ∧ ∀ l H', Same H H' → H' l = some (.lst (sbnL n)) → Q (.ref l) H'
abbrev nSigned : List Str := ["power", "at", "number"]
theorem scSigned : FnScope nSigned ["power"] (defScope sSignedBinomials) := ⟨rfl, rfl, rfl, by decide +kernel, rfl, by decide +kernel, by decide +kernel⟩
theorem ok_signed {fB fO : Addr} {fdB fdO : FuncData} (F : FnP K "signed_binomials" sSignedBinomials f fd) (GB : FnOk P w K mg base CX0 1 fB fdB ["high"] spBinom) (bB : L2.Binds K fdB ["high"] []) (kB : PySem.W.keepIn K (.ref fB) = true) (gB : mg "binomials" = some (.ref fB))
    (GO : FnOk P w K mg base CX0 1 fO fdO ["number"] spOdd) (bO : L2.Binds K fdO ["number"] []) (kO : PySem.W.keepIn K (.ref fO) = true) (gO : mg "is_odd" = some (.ref fO)) (genumerate : mg "enumerate" = none) :
    FnOk P w K mg base CX0 2 f fd ["power"] spSigned := by
  refine F.ok scSigned (fun vs H Q E h => ?_) (fun cdv A outer s H vs Q E hr h => ?_)
  · obtain ⟨_, rfl, _⟩ := h
    rfl
  obtain ⟨n, rfl, n1, q⟩ := h
  have hr1 := hr.mono (j := 1) (by decide)
  refine ⟨_, PSs.nox (pss_one (ps_ret (pe_lc (own := [("at", 1), ("number", 2)]) (g := gTup K 2 (gCons (gName 1) (gCons (gName 2) gNil))) (tt := tYes) (te := tIf (tB (tCall spOdd [] E0 (tCons (tVar 1) tNil))) (tUn (rU fun i => .int (-i)) (tVar 2)) (tVar 2)) (by rfl) scSigned.nd (pi_enum (by rfl) genumerate (pa_cons (pe_call GB hr1 (by rfl) gB kB bB .nil pass0 (pa_cons (pv 0) pa_nil)) pa_nil))
          (blkOk_by (N := nSigned) (sc := defScope sSignedBinomials) (by decide +kernel)) (fun _ _ _ _ _ => pg_tup rfl (pgs_cons (pg_name (i := 1) scSigned.nd rfl (.inl rfl)) (pgs_cons (pg_name (i := 2) scSigned.nd rfl (.inl rfl)) pgs_nil))) (fun _ _ _ _ _ => pts_nil) (fun _ _ _ _ _ => (pe_ifExp (pt_val (pe_call GO hr1 (by rfl) gO kO bO .nil pass0 (pa_cons (pv 1) pa_nil))) (pe_un un_neg (pv 2)) (pv 2)))))), ?_⟩
  refine ⟨_, rfl, n, rfl, by omega, fun l hl => ⟨l, _, rfl, SqL.of upd_same, fun D hD => ?_⟩⟩
  have s1 := same_upd (o := .lst (binL n)) hl
  refine lc_it walk_enum (fun i G => Same H G ∧ G l = some (.lst (binL n)) ∧ G D = some (.lst ((List.range i).map fun m => V.int (sbN n m)))) ⟨s1.trans (same_upd hD), by rw [upd_ne (ne_of_none upd_same hD)]; exact upd_same, upd_same⟩ (fun i G _ hP => SqL.of hP.2.1) (fun i x G G' hi hP hx => ?_) (fun G hP => ?_)
  · obtain ⟨sm, hb, hl2⟩ := hP
    obtain ⟨T, y, z, rfl, hT, rfl, e1, e2⟩ := hx
    cases (Option.some.inj e1 : V.int (i : Nat) = y)
    obtain ⟨hi', rfl⟩ := bin_at e2
    have s2 := same_upd (o := .tup [.int (i : Nat), .int ((binN n i : Nat) : Int)]) hT
    have sz : ((List.range i).map fun m => V.int (sbN n m)).length < sizeLine := by rw [List.length_map, List.length_range, sizeLine_eq]; omega
    have hnew : ((List.range (i + 1)).map fun m => V.int (sbN n m)) = ((List.range i).map fun m => V.int (sbN n m)) ++ [V.int (sbN n i)] := by
      rw [List.range_succ, List.map_append]
      rfl
    have fin : ∀ v : V, v = .int (sbN n i) → ∃ acc, (upd G T (.tup [.int (i : Nat), .int ((binN n i : Nat) : Int)])) D = some (.lst acc) ∧ acc.length < sizeLine ∧ (Same H (upd (upd G T (.tup [.int (i : Nat), .int ((binN n i : Nat) : Int)])) D (.lst (acc ++ [v]))) ∧ (upd (upd G T (.tup [.int (i : Nat), .int ((binN n i : Nat) : Int)])) D (.lst (acc ++ [v]))) l = some (.lst (binL n)) ∧ (upd (upd G T (.tup [.int (i : Nat), .int ((binN n i : Nat) : Int)])) D (.lst (acc ++ [v]))) D = some (.lst ((List.range (i + 1)).map fun m => V.int (sbN n m)))) := fun v hv => by
      have nl : l ≠ D := ne_of_none upd_same hD
      refine ⟨_, s2 _ _ hl2, sz, fun b o eb => ?_, ?_, ?_⟩
      · rw [upd_ne (ne_of_none (s1 _ _ eb) hD)]
        exact s2 _ _ (sm _ _ eb)
      · rw [upd_ne nl]
        exact s2 _ _ hb
      · rw [upd_same, hnew, hv]
    refine ⟨T, _, rfl, SqT.of upd_same, rfl, _, _, rfl, _, _, rfl, rfl, rfl, ?_⟩
    refine ⟨_, rfl, i, rfl, _, rfl, ?_⟩
    by_cases ho : ((i : Nat) : Int) % 2 = 1
    · refine iteD1 ho ⟨_, rfl, _, rfl, fin _ ?_⟩
      show V.int (-_) = V.int (sbN n i)
      unfold sbN sgK
      rw [if_pos (by omega), Int.neg_mul, Int.one_mul]
    · refine iteD0 ho ⟨_, rfl, fin _ ?_⟩
      unfold sbN sgK
      rw [if_neg (by omega), Int.one_mul]
  · exact q D G hP.1 (by rw [hP.2.2]; unfold sbnL binL; rw [List.length_map, List.length_range])
end
end TC
namespace TC
set_option exponentiation.threshold 20000
open PySem PySem.Spec PyProof.Rows L2 TCA TCX
/-- the keys at which something stands -/
def powK (p q r : Nat) : List (List Int) := (keysL (pAll p q r)).filter fun k => decide (sumAt (pAll p q r) k ≠ 0)
def powO (p q r : Nat) : HO := .dT (entT kInt (powK p q r) fun k => .int (sumAt (pAll p q r) k))
theorem pAll_lt {p q r : Nat} (h1 : p ≤ 12) (h2 : q ≤ 12) (h3 : r ≤ 12) {m n : Nat} (hm : m ≤ p + 1) (hn : n ≤ q + 1) {o : Nat} (ho : o ≤ r + 1) (i j : Nat) : (keysL ((List.range m).flatMap (pPla p q r) ++ ((List.range n).flatMap (pRow p q r i) ++ (List.range o).map (pTerm p q r i j)))).length < sizeLine := by
  refine Nat.lt_of_le_of_lt (keysL_len _) ?_
  rw [List.length_append, List.length_append, pAll_len, pPla_len, List.length_map, List.length_range, sizeLine_eq]
  have a : m * ((q + 1) * (r + 1)) ≤ 13 * (13 * 13) := Nat.mul_le_mul (by omega) (Nat.mul_le_mul (by omega) (by omega))
  have b : n * (r + 1) ≤ 13 * 13 := Nat.mul_le_mul (by omega) (by omega)
  omega
section
variable {P : Program} {w : World} {K : PySem.W.Frag} {mg : Str → Option Value} {base : Heap} {f : Addr} {fd : FuncData} {C fI fQ : Addr}
/-! ### powers -/
def spPow : Sp := fun vs H Q _ => ∃ p q r : Nat, vs = [.int p, .int q, .int r] ∧ p ≤ 12 ∧ q ≤ 12 ∧ r ≤ 12 ∧ ∀ d H', Same H H' → H d = none → H' d = some (powO p q r) → Q (.ref d) H'
abbrev nPow : List Str := ["p", "q", "r", "power", "found", "i", "first", "j", "second", "k", "third", "place", "number"]
theorem scPow : FnScope nPow ["p", "q", "r"] (defScope sPowers) := ⟨rfl, rfl, rfl, by decide +kernel, rfl, by decide +kernel, by decide +kernel⟩
theorem sm_but {H G : Hp} {d : Addr} {o : HO} (s : Same H G) (hd : H d = none) : Same H (upd G d o) := fun b u e => by
  rw [upd_ne (ne_of_none e hd)]
  exact s _ _ e
theorem ok_pow {fS fW : Addr} {fdS fdW : FuncData} {tH : Tok} (F : FnP K "powers" sPowers f fd) (GS : FnOk P w K mg base CX0 2 fS fdS ["power"] spSigned) (bS : L2.Binds K fdS ["power"] []) (kS : PySem.W.keepIn K (.ref fS) = true) (gS : mg "signed_binomials" = some (.ref fS))
    (GW : FnOk P w K mg base CX0 1 fW fdW ["thing"] spWhole) (bW : L2.Binds K fdW ["thing"] []) (kW : PySem.W.keepIn K (.ref fW) = true) (gW : mg "is_whole" = some (.ref fW)) (gH : mg "HIGHEST_POWER" = some (.int 12 tH)) (genumerate : mg "enumerate" = none) :
    FnOk P w K mg base CX0 3 f fd ["p", "q", "r"] spPow := by
  refine F.ok scPow (fun vs H Q E h => ?_) (fun cdv A outer s H vs Q E hr h => ?_)
  · obtain ⟨_, _, _, rfl, _⟩ := h
    rfl
  obtain ⟨p, q, r, rfl, p1, q1, r1, qq⟩ := h
  have hr1 := hr.mono (j := 1) (by decide)
  have hu := hu_of hr
  have hu1 : (A.deeper (envOfC "powers" (defScope sPowers) s.heap.objs.size f cdv)).units + 1 < cLine := by omega
  refine ⟨_, PSs.nox (C8.pss_cut (ps_for PassesOwn.never rfl (pi_tup (pe_tup (pa_cons (pv 0) (pa_cons (pv 1) (pa_cons (pv 2) pa_nil))))) (pg_name (i := 3) scPow.nd rfl (.inl rfl))
        (pss_one (ps_if (PW.pt (pw_or (pt_not (pt_val (pe_call GW hr1 (by rfl) gW kW bW .nil pass0 (pa_cons (pv 3) pa_nil)))) (pw_or1 (pt_not (pt_chain op_le op_le pe_int (pv 3) (pe_glob (v := .int 12) (by rfl) gH ⟨_, rfl⟩)))))) pss_never pss_nil)))
      (pss_cons (ps_set (i := 4) scPow.nd rfl (.inl rfl) pe_dnewT)
      (C8.pss_cut (ps_for PassesOwn.never rfl (pi_enum (by rfl) genumerate (pa_cons (pe_call GS hr (by rfl) gS kS bS .nil pass0 (pa_cons (pv 0) pa_nil)) pa_nil)) (pg_tup rfl (pgs_cons (pg_name (i := 5) scPow.nd rfl (.inl rfl)) (pgs_cons (pg_name (i := 6) scPow.nd rfl (.inl rfl)) pgs_nil)))
        (pss_one (ps_for PassesOwn.never rfl (pi_enum (by rfl) genumerate (pa_cons (pe_call GS hr (by rfl) gS kS bS .nil pass0 (pa_cons (pv 1) pa_nil)) pa_nil)) (pg_tup rfl (pgs_cons (pg_name (i := 7) scPow.nd rfl (.inl rfl)) (pgs_cons (pg_name (i := 8) scPow.nd rfl (.inl rfl)) pgs_nil)))
        (pss_one (ps_for PassesOwn.never rfl (pi_enum (by rfl) genumerate (pa_cons (pe_call GS hr (by rfl) gS kS bS .nil pass0 (pa_cons (pv 2) pa_nil)) pa_nil)) (pg_tup rfl (pgs_cons (pg_name (i := 9) scPow.nd rfl (.inl rfl)) (pgs_cons (pg_name (i := 10) scPow.nd rfl (.inl rfl)) pgs_nil)))
        (pss_cons (ps_set (i := 11) scPow.nd rfl (.inl rfl) (pe_tup (pa_cons (pe_op op_add (pe_op op_sub (pv 0) (pv 5)) (pv 9)) (pa_cons (pe_op op_sub (pe_op op_add (pv 5) (pv 2)) (pv 9)) (pa_cons (pe_op op_sub (pe_op op_add (pv 5) (pv 1)) (pv 7)) (pa_cons (pe_op op_add (pe_op op_sub (pv 0) (pv 5)) (pv 7)) (pa_cons (pe_op op_sub (pe_op op_add (pv 7) (pv 2)) (pv 9)) (pa_cons (pe_op op_add (pe_op op_sub (pv 1) (pv 7)) (pv 9)) pa_nil))))))))
      (pss_one (ps_dput hu (pv 4) (pv 11) (pe_op op_add (pe_dget2 hu (pv 4) (pv 11) pe_int ⟨rfl, rfl, rfl, rfl⟩) (pe_op op_mul (pe_op op_mul (pv 6) (pv 8)) (pv 10))) rfl))))))))
      (pss_one (ps_ret (pe_lock (pe_dcG (own := [("place", 11), ("number", 12)]) (g := gTup K 2 (gCons (gName 11) (gCons (gName 12) gNil))) (tt := tTest (tOp rNe (tVar 12) (tC (.int 0)))) (tk := tVar 11) (tv := tVar 12) (puts_T hu1) rfl scPow.nd (pi_itemsT (pv 4))
          (blkOk_by (N := nPow) (sc := defScope sPowers) (by decide +kernel)) (fun _ _ _ _ _ => pg_tup rfl (pgs_cons (pg_name (i := 11) scPow.nd rfl (.inl rfl)) (pgs_cons (pg_name (i := 12) scPow.nd rfl (.inl rfl)) pgs_nil))) (fun _ _ _ _ _ => pts_one (pt_cmpR op_ne (pv 12) pe_int (nomark _))) (fun _ _ _ _ _ => pv 11) (fun _ _ _ _ _ => pv 12)))))))), ?_⟩
  -- what is handed in is right
  refine ⟨fun σ G => (∃ v3, σ = [some (.int p), some (.int q), some (.int r), v3, none, none, none, none, none, none, none, none, none]) ∧ Same H G, ?_, fun σ H1 hM => ?_⟩
  · refine ⟨_, rfl, _, rfl, _, rfl, by show 3 ≤ sizeLine; decide, fun t ht => ?_⟩
    have s1 := same_upd (o := .tup ([(p : Int), q, r].map V.int)) ht
    refine ⟨t, rfl, ⟨_, SqT.of upd_same⟩, for_tup (xs := [(p : Int), q, r].map V.int) (fun i σ G => (∃ v3, σ = [some (.int p), some (.int q), some (.int r), v3, none, none, none, none, none, none, none, none, none]) ∧ G = upd H t (.tup ([(p : Int), q, r].map V.int))) ⟨⟨none, rfl⟩, rfl⟩ (fun i σ G _ hP => by rw [hP.2]; exact SqT.of upd_same) (fun i x σ G hx hP => ?_) (fun σ G hP => by obtain ⟨h1, rfl⟩ := hP; exact ⟨h1, s1⟩)⟩
    obtain ⟨⟨v3, rfl⟩, rfl⟩ := hP
    obtain ⟨n, hn, rfl⟩ := ints_at hx
    have nb : 0 ≤ n ∧ n ≤ 12 := by
      have := List.mem_of_getElem? hn
      simp only [List.mem_cons, List.not_mem_nil, or_false] at this
      omega
    refine ⟨_, rfl, n, rfl, true, rfl, iteF ?_⟩
    refine ⟨_, rfl, 0, n, rfl, rfl, true, congrArg V.bl (decide_eq_true nb.1), iteT ⟨n, 12, rfl, rfl, true, congrArg V.bl (decide_eq_true nb.2), iteF ⟨⟨_, rfl⟩, rfl⟩⟩⟩
  obtain ⟨⟨v3, rfl⟩, s1⟩ := hM
  refine fun d hd => ?_
  have hd0 : H d = none := s1.free hd
  have s2 : Same H (upd H1 d (.dT [])) := s1.trans (same_upd hd)
  -- the loops
  refine ⟨fun σ G => (∃ v5 v6 v7 v8 v9 v10 v11 v12 : Option V, σ = [some (.int p), some (.int q), some (.int r), v3, some (.ref d), v5, v6, v7, v8, v9, v10, v11, v12]) ∧ Same H G ∧ G d = some (cntO kInt (pAll p q r)), ?_, fun σ G hM => ?_⟩
  · refine ⟨_, rfl, p, rfl, p1, fun la H2 t2 hla => ?_⟩
    refine ⟨la, _, rfl, SqL.of hla, for_it walk_enum (fun i σ G => (∃ v5 v6 v7 v8 v9 v10 v11 v12 : Option V, σ = [some (.int p), some (.int q), some (.int r), v3, some (.ref d), v5, v6, v7, v8, v9, v10, v11, v12]) ∧ Same H G ∧ G la = some (.lst (sbnL p)) ∧ G d = some (cntO kInt ((List.range i).flatMap (pPla p q r)))) ⟨⟨_, _, _, _, _, _, _, _, rfl⟩, s2.trans t2, hla, t2 _ _ upd_same⟩ (fun i σ G _ hP => SqL.of hP.2.2.1) (fun i x σ G G' hi hP hx => ?_) (fun σ G hP => ?_)⟩
    rotate_left
    · obtain ⟨a, b, _, c⟩ := hP
      rw [sbnL_len] at c
      exact ⟨a, b, c⟩
    obtain ⟨⟨v5, v6, v7, v8, v9, v10, v11, v12, rfl⟩, sm, hl1, hD⟩ := hP
    obtain ⟨T1, y1, z1, rfl, hT1, rfl, e1, e2⟩ := hx
    cases (Option.some.inj e1 : V.int (i : Nat) = y1)
    obtain ⟨hi', rfl⟩ := sbnL_at e2
    have u1 := same_upd (o := .tup [.int (i : Nat), .int (sbN p i)]) hT1
    refine ⟨T1, _, rfl, SqT.of upd_same, rfl, _, _, rfl, _, _, rfl, rfl, ?_⟩
    refine ⟨_, rfl, q, rfl, q1, fun lb H3 t3 hlb => ?_⟩
    have sm3 := (sm.trans u1).trans t3
    have hl13 := t3 _ _ (u1 _ _ hl1)
    have hD3 := t3 _ _ (u1 _ _ hD)
    refine ⟨lb, _, rfl, SqL.of hlb, for_it walk_enum (fun j σ G => (∃ v7 v8 v9 v10 v11 v12 : Option V, σ = [some (.int p), some (.int q), some (.int r), v3, some (.ref d), some (.int (i : Nat)), some (.int (sbN p i)), v7, v8, v9, v10, v11, v12]) ∧ Same H G ∧ G la = some (.lst (sbnL p)) ∧ G lb = some (.lst (sbnL q)) ∧ G d = some (cntO kInt ((List.range i).flatMap (pPla p q r) ++ (List.range j).flatMap (pRow p q r i)))) ⟨⟨_, _, _, _, _, _, rfl⟩, sm3, hl13, hlb, by rw [List.range_zero, List.flatMap_nil, List.append_nil]; exact hD3⟩ (fun j σ G _ hP => SqL.of hP.2.2.2.1) (fun j x σ G G' hj hP hx => ?_) (fun σ G hP => ?_)⟩
    rotate_left
    · obtain ⟨⟨v7, v8, v9, v10, v11, v12, rfl⟩, b, c, _, e⟩ := hP
      rw [sbnL_len] at e
      refine ⟨⟨_, _, _, _, _, _, _, _, rfl⟩, b, c, ?_⟩
      rw [List.range_succ, List.flatMap_append]
      show _ = some (cntO kInt (_ ++ (pPla p q r i ++ [])))
      rw [List.append_nil]
      exact e
    obtain ⟨⟨v7, v8, v9, v10, v11, v12, rfl⟩, sm4, hl14, hl24, hD4⟩ := hP
    obtain ⟨T2, y2, z2, rfl, hT2, rfl, e1, e2⟩ := hx
    cases (Option.some.inj e1 : V.int (j : Nat) = y2)
    obtain ⟨hj', rfl⟩ := sbnL_at e2
    have u2 := same_upd (o := .tup [.int (j : Nat), .int (sbN q j)]) hT2
    refine ⟨T2, _, rfl, SqT.of upd_same, rfl, _, _, rfl, _, _, rfl, rfl, ?_⟩
    refine ⟨_, rfl, r, rfl, r1, fun lc H5 t5 hlc => ?_⟩
    have sm5 := (sm4.trans u2).trans t5
    have hl15 := t5 _ _ (u2 _ _ hl14)
    have hl25 := t5 _ _ (u2 _ _ hl24)
    have hD5 := t5 _ _ (u2 _ _ hD4)
    refine ⟨lc, _, rfl, SqL.of hlc, for_it walk_enum (fun k σ G => (∃ v9 v10 v11 v12 : Option V, σ = [some (.int p), some (.int q), some (.int r), v3, some (.ref d), some (.int (i : Nat)), some (.int (sbN p i)), some (.int (j : Nat)), some (.int (sbN q j)), v9, v10, v11, v12]) ∧ Same H G ∧ G la = some (.lst (sbnL p)) ∧ G lb = some (.lst (sbnL q)) ∧ G lc = some (.lst (sbnL r)) ∧ G d = some (cntO kInt ((List.range i).flatMap (pPla p q r) ++ ((List.range j).flatMap (pRow p q r i) ++ (List.range k).map (pTerm p q r i j))))) ⟨⟨_, _, _, _, rfl⟩, sm5, hl15, hl25, hlc, by rw [List.range_zero, List.map_nil, List.append_nil]; exact hD5⟩ (fun k σ G _ hP => SqL.of hP.2.2.2.2.1) (fun k x σ G G' hk hP hx => ?_) (fun σ G hP => ?_)⟩
    rotate_left
    · obtain ⟨⟨v9, v10, v11, v12, rfl⟩, b, c, c2, _, e⟩ := hP
      rw [sbnL_len] at e
      refine ⟨⟨_, _, _, _, _, _, rfl⟩, b, c, c2, ?_⟩
      rw [List.range_succ (n := j), List.flatMap_append]
      show _ = some (cntO kInt (_ ++ (_ ++ (pRow p q r i j ++ []))))
      rw [List.append_nil]
      exact e
    obtain ⟨⟨v9, v10, v11, v12, rfl⟩, sm6, hl16, hl26, hl36, hD6⟩ := hP
    obtain ⟨T3, y3, z3, rfl, hT3, rfl, e1, e2⟩ := hx
    cases (Option.some.inj e1 : V.int (k : Nat) = y3)
    obtain ⟨hk', rfl⟩ := sbnL_at e2
    have u3 := same_upd (o := .tup [.int (k : Nat), .int (sbN r k)]) hT3
    generalize eL : (List.range i).flatMap (pPla p q r) ++ ((List.range j).flatMap (pRow p q r i) ++ (List.range k).map (pTerm p q r i j)) = L at hD6
    have hlen : (keysL L).length < sizeLine := by
      rw [← eL]
      exact pAll_lt p1 q1 r1 (by omega) (by omega) (by omega) i j
    have hnew : (List.range i).flatMap (pPla p q r) ++ ((List.range j).flatMap (pRow p q r i) ++ (List.range (k + 1)).map (pTerm p q r i j)) = L ++ [pTerm p q r i j k] := by
      rw [← eL, List.range_succ (n := k), List.map_append]
      simp only [List.append_assoc]
      rfl
    refine ⟨T3, _, rfl, SqT.of upd_same, rfl, _, _, rfl, _, _, rfl, rfl, ?_⟩
    refine ⟨_, rfl, _, rfl, p, i, rfl, rfl, _, rfl, _, k, rfl, rfl, _, rfl, _, rfl, i, r, rfl, rfl, _, rfl, _, k, rfl, rfl, _, rfl, _, rfl, i, q, rfl, rfl, _, rfl, _, j, rfl, rfl, _, rfl, _, rfl, p, i, rfl, rfl, _, rfl, _, j, rfl, rfl, _, rfl, _, rfl, j, r, rfl, rfl, _, rfl, _, k, rfl, rfl, _, rfl, _, rfl, q, j, rfl, rfl, _, rfl, _, k, rfl, rfl, by show 6 ≤ sizeLine; decide, fun tk htk => ?_⟩
    have u4 := same_upd (o := .tup ((pKey p q r i j k).map V.int)) htk
    have hk7 : (upd (upd G T3 (.tup [.int (k : Nat), .int (sbN r k)])) tk (.tup ((pKey p q r i j k).map V.int))) tk = some (.tup ((kInt (pKey p q r i j k)).map kV)) := by
      rw [upd_same, kInt_kV]
    have hD7 := u4 _ _ (u3 _ _ hD6)
    have sm7 := (sm6.trans u3).trans u4
    have hl17 := u4 _ _ (u3 _ _ hl16)
    have hl27 := u4 _ _ (u3 _ _ hl26)
    have hl37 := u4 _ _ (u3 _ _ hl36)
    generalize eG : upd (upd G T3 (.tup [.int (k : Nat), .int (sbN r k)])) tk (.tup ((pKey p q r i j k).map V.int)) = G7 at hk7 hD7 sm7 hl17 hl27 hl37
    have eG' : upd (upd G T3 (.tup [.int (k : Nat), .int (sbN r k)])) tk (.tup [V.int ((p : Int) - i + k), V.int ((i : Int) + r - k), V.int ((i : Int) + q - j), V.int ((p : Int) - i + j), V.int ((j : Int) + r - k), V.int ((q : Int) - j + k)]) = G7 := eG
    refine ⟨_, rfl, d, rfl, ?_⟩
    rw [eG']
    refine ⟨.inr ⟨_, .inl hD7⟩, _, rfl, _, dget_entT kInt_inj hD7 hk7, ?_⟩
    rw [cnt_get rfl]
    have b1 := sbN_lt p1 hi'
    have b2 := sbN_lt q1 hj'
    have b3 := sbN_lt r1 hk'
    have b12 : (sbN p i * sbN q j).natAbs ≤ 924 * 924 := by
      rw [Int.natAbs_mul]
      exact Nat.mul_le_mul b1 b2
    refine ⟨_, rfl, _, rfl, _, _, rfl, rfl, .inl ⟨by omega, by omega⟩, _, rfl, _, _, rfl, rfl, .inl ⟨by omega, by omega⟩, _, _, rfl, rfl, ?_⟩
    refine ⟨_, rfl, _, rfl, d, _, rfl, dput_entT kInt_inj hD7 hk7 hlen, ?_⟩
    have fin : upd G7 d (.dT (entT kInt (addK (keysL L) (pKey p q r i j k)) (setVal (fun k => .int (sumAt L k)) (pKey p q r i j k) (.int (sumAt L (pKey p q r i j k) + sbN p i * sbN q j * sbN r k))))) = upd G7 d (cntO kInt (L ++ [pTerm p q r i j k])) := by
      rw [← cnt_step L (pTerm p q r i j k)]
      rfl
    rw [fin, hnew]
    have nd1 : la ≠ d := ne_of hl17 hD7 (fun z => nomatch z)
    have nd2 : lb ≠ d := ne_of hl27 hD7 (fun z => nomatch z)
    have nd3 : lc ≠ d := ne_of hl37 hD7 (fun z => nomatch z)
    exact ⟨⟨_, _, _, _, rfl⟩, sm_but sm7 hd0, by rw [upd_ne nd1]; exact hl17, by rw [upd_ne nd2]; exact hl27, by rw [upd_ne nd3]; exact hl37, upd_same⟩
  -- without noughts
  obtain ⟨⟨v5, v6, v7, v8, v9, v10, v11, v12, rfl⟩, sm, hD⟩ := hM
  have nd : (keysL (pAll p q r)).Nodup := nd_keysL _
  have hlen : (keysL (pAll p q r)).length < sizeLine := by
    refine Nat.lt_of_le_of_lt (keysL_len _) ?_
    unfold pAll
    rw [pAll_len, sizeLine_eq]
    have a : (p + 1) * ((q + 1) * (r + 1)) ≤ 13 * (13 * 13) := Nat.mul_le_mul (by omega) (Nat.mul_le_mul (by omega) (by omega))
    omega
  generalize eM : pAll p q r = M at hD nd hlen
  have hD' : G d = some (.dT (entT kInt (keysL M) fun k => .int (sumAt M k))) := hD
  refine ⟨d, _, hD', trivial, fun od => ?_⟩
  refine ⟨_, rfl, d, od, _, rfl, upd_same, fun D hDn => dcg_it walk_itemsT (fun i H2 => (∀ b o, G b = some o → b ≠ d → H2 b = some o) ∧ H2 d = some (.frz od (.dT (entT kInt (keysL M) fun k => .int (sumAt M k)))) ∧ H2 D = some (.dT (entT kInt (((keysL M).take i).filter fun k => decide (sumAt M k ≠ 0)) fun k => .int (sumAt M k)))) ?_ (fun i H2 _ hP => hP.2.1) (fun i x H2 H3 hi hP hy => ?_) (fun H2 hP => ?_)⟩
  · have nDd : d ≠ D := ne_of_none (upd_same (H := G) (a := d)) hDn
    refine ⟨fun b o e hb => ?_, by rw [upd_ne nDd]; exact upd_same, upd_same⟩
    have e2 : (upd G d (.frz od (.dT (entT kInt (keysL M) fun k => .int (sumAt M k))))) b = some o := by rw [upd_ne hb]; exact e
    rw [upd_ne (ne_of_none e2 hDn)]
    exact e2
  · obtain ⟨T3, k, v, tq, hk, rfl, hT3, htq, rfl⟩ := hy
    obtain ⟨keep, hf, hD2⟩ := hP
    obtain ⟨rk, hrk, rfl, rfl⟩ := entT_get hk
    have hrk' : i < (keysL M).length := (List.getElem?_eq_some_iff.mp hrk).1
    have sm3 := same_upd (o := .tup [.ref tq, .int (sumAt M rk)]) hT3
    have nDd : d ≠ D := fun z => by
      rw [← z, hf] at hD2
      cases hD2
    have tk1 : (keysL M).take (i + 1) = (keysL M).take i ++ [rk] := by
      rw [List.take_add_one, hrk]
      rfl
    refine ⟨T3, _, rfl, SqT.of upd_same, rfl, _, _, rfl, _, _, rfl, rfl, rfl, ?_⟩
    refine ⟨_, rfl, rfl, _, rfl, ?_⟩
    by_cases hz : sumAt M rk = 0
    · refine iteNS (congrArg V.int hz) ⟨fun b o e hb => sm3 _ _ (keep _ _ e hb), sm3 _ _ hf, ?_⟩
      rw [tk1, List.filter_append, List.filter_cons_of_neg (by rw [hz]; decide), List.filter_nil, List.append_nil]
      exact sm3 _ _ hD2
    · refine iteNT (ine hz) ⟨_, rfl, _, rfl, _, kInt rk, tq, rfl, sm3 _ _ hD2, sm3 _ _ htq, ?_, fun b o e hb => ?_, ?_, ?_⟩
      · rw [entT_len]
        have a := List.length_filter_le (fun k => decide (sumAt M k ≠ 0)) ((keysL M).take i)
        have b := List.length_take_le i (keysL M)
        have c := List.length_take_le' i (keysL M)
        omega
      · have nb : b ≠ D := fun z => by
          rw [z] at e hb
          have e2 : (upd G d (.frz od (.dT (entT kInt (keysL M) fun k => .int (sumAt M k))))) D = some o := by rw [upd_ne hb]; exact e
          rw [hDn] at e2
          cases e2
        rw [upd_ne nb]
        exact sm3 _ _ (keep _ _ e hb)
      · rw [upd_ne nDd]
        exact sm3 _ _ hf
      · rw [upd_same, put_entT kInt_inj, tk1, List.filter_append, List.filter_cons_of_pos (p := fun k => decide (sumAt M k ≠ 0)) (decide_eq_true hz), List.filter_nil]
        unfold addK
        rw [if_neg]
        · congr 2
          refine entT_congr fun k _ => ?_
          show (if k = rk then V.int (sumAt M rk) else .int (sumAt M k)) = .int (sumAt M k)
          by_cases ek : k = rk
          · rw [if_pos ek, ek]
          · rw [if_neg ek]
        · intro hm
          have hm2 := (List.mem_filter.mp hm).1
          obtain ⟨j, hj, ej⟩ := List.mem_take_iff_getElem.mp hm2
          have z := List.getElem?_eq_some_iff.mp hrk
          obtain ⟨z1, z2⟩ := z
          have := (List.getElem_inj nd).mp (ej.trans z2.symm)
          omega
  · obtain ⟨keep, hf, hD2⟩ := hP
    have nDd : D ≠ d := fun z => by
      rw [z, hf] at hD2
      cases hD2
    refine ⟨hf, qq D _ (fun b o e => ?_) ?_ ?_⟩
    · rw [upd_ne (ne_of_none e hd0)]
      exact keep _ _ (sm _ _ e) (ne_of_none e hd0)
    · cases e : H D with
      | none => rfl
      | some u =>
        have e2 : (upd G d (.frz od (.dT (entT kInt (keysL M) fun k => .int (sumAt M k))))) D = some u := by
          rw [upd_ne nDd]
          exact sm _ _ e
        rw [hDn] at e2
        cases e2
    · rw [upd_ne nDd, hD2, entT_len, List.take_length]
      unfold powO powK
      rw [eM]
end
end TC
namespace TC
open PySem PySem.Spec PyProof.Rows L2 TCX
section
variable {P : Program} {w : World} {K : PySem.W.Frag} {mg : Str → Option Value} {base : Heap} {f : Addr} {fd : FuncData}
/-! ### primes_of_factorials -/
def spPrimesT (K : PySem.W.Frag) : Sp := fun vs H Q _ => ∃ (a b : Addr) (above below : List Nat), vs = [.ref a, .ref b] ∧ H a = some (.tup (natV above)) ∧ H b = some (.tup (natV below)) ∧ 0 < above.length ∧ above.length ≤ 50 ∧ below.length ≤ 50 ∧ (∀ n ∈ above, n < 123) ∧ (∀ n ∈ below, n < 123) ∧
  ∀ (l : Addr) (us : List Addr) (i : Nat) H', Same H H' → H' l = some (.lst (us.map V.ref)) → PwR H' (expE above below) us (pr30.take i) → i ≤ 30 → (∀ p ∈ pr30.drop i, expE above below p = 0) → Q (.ref l) H'
theorem ok_primesT {aP : Addr} (F : FnP K "primes_of_factorials" sPrimesF f fd) (gP : mg "PRIMES" = some (.ref aP)) (kP : ∀ H : Hp, SqT K H aP (primes.map V.int)) (gmax : mg "max" = none) (grange : mg "range" = none) (grev : mg "reversed" = none) (gsum : mg "sum" = none) :
    FnOk P w K mg base CX0 1 f fd ["above", "below"] (spPrimesT K) := by
  refine F.ok scPrimesF (fun vs H Q E h => ?_) (fun cdv A outer s H vs Q E hr h => ?_)
  · obtain ⟨_, _, _, _, rfl, _⟩ := h
    rfl
  obtain ⟨a, b, above, below, rfl, hA, hB, la0, la, lb, ha, hb, q⟩ := h
  refine ⟨_, PSs.nox (C8.pss_cut (ps_set (i := 2) scPrimesF.nd rfl (.inl rfl) (pe_callB (cr_max rfl) (by rfl) gmax (by decide +kernel) (pa_cons (pe_lst (StX.pa_star (pv 0) (StX.pa_star (pv 1) pa_nil))) pa_nil)))
    (C8.pss_cut (ps_set (i := 3) scPrimesF.nd rfl (.inl rfl) (pe_op op_rep (pe_lst (pa_cons pe_int pa_nil)) (pe_op op_add (pv 2) pe_int)))
    (C8.pss_cut (ps_for PassesOwn.never rfl (pi_tup (pv 0)) (pg_name (i := 4) scPrimesF.nd rfl (.inl rfl)) (pss_one (ps_augS (pv 3) (pv 4) get_list pe_int ip_add set_list)))
    (C8.pss_cut (ps_for PassesOwn.never rfl (pi_tup (pv 1)) (pg_name (i := 4) scPrimesF.nd rfl (.inl rfl)) (pss_one (ps_augS (pv 3) (pv 4) get_list pe_int ip_sub set_list)))
    (C8.pss_cut (ps_for PassesOwn.never rfl (pi_revR (by rfl) grev (prg_1 (by rfl) grange (pv 2))) (pg_name (i := 4) scPrimesF.nd rfl (.inl rfl)) (pss_one (ps_augS (pv 3) (pv 4) get_list (pe_ix ix_list (pv 3) (pe_op op_add (pv 4) pe_int) (fun _ _ => rfl)) ip_add set_list)))
    (pss_cons (ps_set (i := 5) scPrimesF.nd rfl (.inl rfl) (pe_lst pa_nil))
    (C8.pss_cut (ps_for PassesOwn.never rfl (pi_tup (pe_glob (v := .ref aP) (by rfl) gP rfl)) (pg_name (i := 6) scPrimesF.nd rfl (.inl rfl))
      (pss_cons (ps_if (pt_cmpR op_gt (pv 6) (pv 2) (nomark _)) (pss_one ps_break) pss_nil)
      (pss_cons (ps_par (i := 7) (j := 8) (by rfl) scPrimesF.nd rfl rfl (by decide) rfl rfl (pa_cons pe_int (pa_cons (pv 6) pa_nil)) (by rfl))
      (C8.pss_cut (ps_while PassesOwn.never (pt_cmpR op_le (pv 8) (pv 2) (nomark _))
        (pss_cons (ps_aug (i := 7) scPrimesF.nd rfl (.inl rfl) (pe_callB (cr_sum rfl) (by rfl) gsum (by decide +kernel) (pa_cons (pe_slice3 (pv 3) (po_some (pv 8)) po_none (po_some (pv 8))) pa_nil)) ip_add)
        (pss_one (ps_aug (i := 8) scPrimesF.nd rfl (.inl rfl) (pv 6) iop_mul))))
      (pss_one (ps_expr (pe_bm PySem.F.plainAttrs_list PySem.F.slot_list_append PySem.F.type_list_append mt_append (pv 5) (pa_cons (pe_tup (pa_cons (pv 6) (pa_cons (pv 7) pa_nil))) pa_nil))))))))
    (pss_one (ps_ret (pv 5)))))))))), ?_⟩
  -- high
  refine ⟨fun σ H' => ∃ h : Nat, σ = [some (.ref a), some (.ref b), some (.int (h : Int)), none, none, none, none, none, none] ∧ Same H H' ∧ h < 123 ∧ (∀ n ∈ above, n ≤ h) ∧ (∀ n ∈ below, n ≤ h), ?_, fun σ H1 hM => ?_⟩
  · refine ⟨_, rfl, a, _, rfl, .inl (SqT.of hA), _, rfl, b, _, rfl, .inl (SqT.of hB), ?_, fun l hl => ?_⟩
    · rw [List.append_nil, List.length_append, natV_len, natV_len, sizeLine_eq]
      omega
    · have eL : natV above ++ (natV below ++ []) = ((above ++ below).map (Nat.cast : Nat → Int)).map V.int := by
        rw [List.append_nil, List.map_append, List.map_append, List.map_map, List.map_map]
        rfl
      rw [eL]
      refine ⟨l, (above ++ below).map (Nat.cast : Nat → Int), rfl, SqL.of upd_same, ?_, fun m hm hmax => ?_⟩
      · rw [List.length_map, List.length_append]
        omega
      · obtain ⟨h, hh, rfl⟩ := List.mem_map.mp hm
        have hle : ∀ n, n ∈ above ++ below → n ≤ h := fun n hn => by
          have := hmax (n : Int) (List.mem_map.mpr ⟨n, hn, rfl⟩)
          omega
        refine ⟨h, rfl, same_upd hl, ?_, fun n hn => hle n (List.mem_append_left _ hn), fun n hn => hle n (List.mem_append_right _ hn)⟩
        rcases List.mem_append.mp hh with z | z
        · exact ha h z
        · exact hb h z
  obtain ⟨h, rfl, s1, h1, hav, hbv⟩ := hM
  have hA1 := s1 _ _ hA
  have hB1 := s1 _ _ hB
  -- counts
  refine ⟨fun σ H' => ∃ c : Addr, σ = [some (.ref a), some (.ref b), some (.int (h : Int)), some (.ref c), none, none, none, none, none] ∧ H1 c = none ∧ Same H1 H' ∧ H' c = some (.lst (lisF h fun _ => 0)), ?_, fun σ H2 hM => ?_⟩
  · refine ⟨by show 1 ≤ sizeLine; decide, fun l hl => ?_⟩
    have s2 := same_upd (o := .lst [V.int 0]) hl
    refine ⟨_, rfl, h, 1, rfl, rfl, l, _, _, rfl, rfl, upd_same, by omega, by omega, ?_, fun c hc => ?_⟩
    · show 1 * ((h : Int) + 1).toNat ≤ _
      rw [sizeLine_eq]
      omega
    · have e : ((h : Int) + 1).toNat = h + 1 := by omega
      rw [e, lisF_rep]
      exact ⟨c, rfl, s2.free hc, s2.trans (same_upd hc), upd_same⟩
  obtain ⟨c, rfl, hc1, s2, hc2⟩ := hM
  have keep : ∀ {G : Hp} {o : HO}, Same H1 G → Same H1 (upd G c o) := fun {G o} sg x y e => by
    rw [upd_ne (ne_of_none e hc1)]
    exact sg _ _ e
  have nA : ∀ {G : Hp}, Same H1 G → SqT K G a (natV above) := fun sg => SqT.of (sg _ _ hA1)
  have nB : ∀ {G : Hp}, Same H1 G → SqT K G b (natV below) := fun sg => SqT.of (sg _ _ hB1)
  -- one more for each above
  refine ⟨fun σ H' => ∃ v4 : Option V, σ = [some (.ref a), some (.ref b), some (.int (h : Int)), some (.ref c), v4, none, none, none, none] ∧ Same H1 H' ∧ H' c = some (.lst (lisF h (eqL above))), ?_, fun σ H3 hM => ?_⟩
  · refine ⟨_, rfl, a, rfl, ⟨_, nA s2⟩, for_tup (xs := natV above) (fun i σ H' => ∃ v4 : Option V, σ = [some (.ref a), some (.ref b), some (.int (h : Int)), some (.ref c), v4, none, none, none, none] ∧ Same H1 H' ∧ H' c = some (.lst (lisF h (eqL (above.take i))))) ⟨none, rfl, s2, hc2⟩ (fun i σ H' _ hP => ?_) (fun i x σ H' hx hP => ?_) (fun σ H' hP => ?_)⟩
    · obtain ⟨_, _, sg, _⟩ := hP
      exact nA sg
    · obtain ⟨v4, rfl, sg, hcc⟩ := hP
      obtain ⟨n, hn, rfl⟩ := nat_at hx
      have nh : n ≤ h := hav n (List.mem_of_getElem? hn)
      refine ⟨_, rfl, _, rfl, c, _, n, _, rfl, rfl, SqL.of hcc, lisF_get nh, _, 1, rfl, rfl, c, _, n, n, rfl, rfl, hcc, ?_, _, rfl, keep sg, ?_⟩
      · rw [lisF_len]
        exact ixN_nat (by omega)
      · rw [upd_same, lisF_set, take_at hn]
        refine congrArg (fun z => some (HO.lst z)) (lisF_congr fun m _ => ?_)
        rw [eqL_snoc]
        by_cases e : m = n
        · rw [if_pos e, if_pos e.symm, e]
        · rw [if_neg e, if_neg fun z => e z.symm]
          omega
    · obtain ⟨v4, rfl, sg, hcc⟩ := hP
      rw [natV_len, List.take_length] at hcc
      exact ⟨v4, rfl, sg, hcc⟩
  obtain ⟨v4, rfl, s3, hc3⟩ := hM
  -- one less for each below
  refine ⟨fun σ H' => ∃ v4 : Option V, σ = [some (.ref a), some (.ref b), some (.int (h : Int)), some (.ref c), v4, none, none, none, none] ∧ Same H1 H' ∧ H' c = some (.lst (lisF h fun m => eqL above m - eqL below m)), ?_, fun σ H4 hM => ?_⟩
  · refine ⟨_, rfl, b, rfl, ⟨_, nB s3⟩, for_tup (xs := natV below) (fun i σ H' => ∃ v4 : Option V, σ = [some (.ref a), some (.ref b), some (.int (h : Int)), some (.ref c), v4, none, none, none, none] ∧ Same H1 H' ∧ H' c = some (.lst (lisF h fun m => eqL above m - eqL (below.take i) m))) ⟨v4, rfl, s3, ?_⟩ (fun i σ H' _ hP => ?_) (fun i x σ H' hx hP => ?_) (fun σ H' hP => ?_)⟩
    · rw [hc3]
      refine congrArg (fun z => some (HO.lst z)) (lisF_congr fun m _ => ?_)
      show _ = eqL above m - 0
      omega
    · obtain ⟨_, _, sg, _⟩ := hP
      exact nB sg
    · obtain ⟨v4, rfl, sg, hcc⟩ := hP
      obtain ⟨n, hn, rfl⟩ := nat_at hx
      have nh : n ≤ h := hbv n (List.mem_of_getElem? hn)
      refine ⟨_, rfl, _, rfl, c, _, n, _, rfl, rfl, SqL.of hcc, lisF_get nh, _, 1, rfl, rfl, c, _, n, n, rfl, rfl, hcc, ?_, _, rfl, keep sg, ?_⟩
      · rw [lisF_len]
        exact ixN_nat (by omega)
      · rw [upd_same, lisF_set, take_at hn]
        refine congrArg (fun z => some (HO.lst z)) (lisF_congr fun m _ => ?_)
        rw [eqL_snoc]
        by_cases e : m = n
        · rw [if_pos e, if_pos e.symm, e]
          dsimp only
          omega
        · rw [if_neg e, if_neg fun z => e z.symm]
          omega
    · obtain ⟨v4, rfl, sg, hcc⟩ := hP
      rw [natV_len, List.take_length] at hcc
      exact ⟨v4, rfl, sg, hcc⟩
  clear v4
  obtain ⟨v4, rfl, s4, hc4⟩ := hM
  -- summed from the end
  refine ⟨fun σ H' => ∃ v4 : Option V, σ = [some (.ref a), some (.ref b), some (.int (h : Int)), some (.ref c), v4, none, none, none, none] ∧ Same H1 H' ∧ H' c = some (.lst (lisF h fun m => geL above m - geL below m)), ?_, fun σ H5 hM => ?_⟩
  · have top : ∀ l : List Nat, (∀ n ∈ l, n ≤ h) → geL l h = eqL l h := fun l hl => by
      rw [ge_step, ge_top hl (Nat.lt_succ_self h)]
      omega
    refine ⟨_, rfl, h, rfl, by omega, by omega, by omega, by omega, for_rangeC (fun i σ H' => ∃ v4 : Option V, σ = [some (.ref a), some (.ref b), some (.int (h : Int)), some (.ref c), v4, none, none, none, none] ∧ Same H1 H' ∧ H' c = some (.lst (lisF h fun m => if h - i ≤ m then geL above m - geL below m else eqL above m - eqL below m))) ⟨v4, rfl, s4, ?_⟩ (fun i σ H' hi hP => ?_) (fun σ H' hP => ?_)⟩
    · rw [hc4]
      refine congrArg (fun z => some (HO.lst z)) (lisF_congr fun m hm => ?_)
      by_cases e : h - 0 ≤ m
      · rw [if_pos e, show m = h by omega, top above hav, top below hbv]
      · rw [if_neg e]
    · obtain ⟨v4, rfl, sg, hcc⟩ := hP
      have hi' : i < h := by omega
      have ej : (0 : Int) + ((((h : Int) - 0).toNat : Nat) : Int) - 1 + (i : Nat) * (-1) = ((h - 1 - i : Nat) : Int) := by omega
      rw [ej]
      refine ⟨_, rfl, _, rfl, c, _, h - 1 - i, _, rfl, rfl, SqL.of hcc, lisF_get (by omega), _, rfl, _, rfl, _, 1, rfl, rfl, c, _, _, _, rfl, rfl, SqL.of hcc, at_of (j := h - i) (by omega) (lisF_get (by omega)), _, _, rfl, rfl, c, _, _, h - 1 - i, rfl, rfl, hcc, ?_, _, rfl, keep sg, ?_⟩
      · rw [lisF_len]
        exact ixN_nat (by omega)
      · rw [upd_same, lisF_set]
        refine congrArg (fun z => some (HO.lst z)) (lisF_congr fun m hm => ?_)
        by_cases e : m = h - 1 - i
        · rw [if_pos e, if_pos (show h - (i + 1) ≤ m by omega), if_neg (show ¬ h - i ≤ h - 1 - i by omega), if_pos (show h - i ≤ h - i by omega), ge_step above m, ge_step below m, e, show h - 1 - i + 1 = h - i by omega]
          dsimp only
          omega
        · rw [if_neg e]
          by_cases e2 : h - i ≤ m
          · rw [if_pos e2, if_pos (by omega)]
          · rw [if_neg e2, if_neg (by omega)]
    · obtain ⟨v4, rfl, sg, hcc⟩ := hP
      refine ⟨v4, rfl, sg, ?_⟩
      rw [hcc]
      refine congrArg (fun z => some (HO.lst z)) (lisF_congr fun m _ => ?_)
      rw [if_pos (by omega)]
  clear v4
  obtain ⟨v4, rfl, s5, hc5⟩ := hM
  refine ⟨by show 0 ≤ sizeLine; decide, fun l hl => ?_⟩
  have s6 := same_upd (o := .lst []) hl
  have cl : c ≠ l := ne_of_none hc5 hl
  have lH1 : H1 l = none := s5.free hl
  -- the primes
  refine ⟨fun σ H' => ∃ (v4 v6 v7 v8 : Option V) (us : List Addr) (i : Nat), σ = [some (.ref a), some (.ref b), some (.int (h : Int)), some (.ref c), v4, some (.ref l), v6, v7, v8] ∧ Same H1 H' ∧ H' l = some (.lst (us.map V.ref)) ∧ PwR H' (expE above below) us (pr30.take i) ∧ i ≤ 30 ∧ ∀ p ∈ pr30.drop i, expE above below p = 0, ?_, fun σ H7 hM => ?_⟩
  · refine ⟨aP, rfl, ⟨_, kP _⟩, for_tup (xs := primes.map V.int) (fun i σ H' => ∃ (v6 v7 v8 : Option V) (us : List Addr), σ = [some (.ref a), some (.ref b), some (.int (h : Int)), some (.ref c), v4, some (.ref l), v6, v7, v8] ∧ Same H1 H' ∧ H' l = some (.lst (us.map V.ref)) ∧ H' c = some (.lst (lisF h fun m => geL above m - geL below m)) ∧ PwR H' (expE above below) us (pr30.take i) ∧ i ≤ 30)
      ⟨none, none, none, [], rfl, s5.trans s6, upd_same, s6 _ _ hc5, trivial, by omega⟩ (fun i σ H' _ hP => kP _) (fun i x σ H' hx hP => ?_) (fun σ H' hP => ?_)⟩
    rotate_left
    · obtain ⟨_, _, _, _, _, _, _, _, _, z⟩ := hP
      rw [List.length_map, pr_len.2] at z
      omega
    obtain ⟨v6, v7, v8, us, rfl, sg, hll, hcc, hR, hi⟩ := hP
    rw [List.getElem?_map] at hx
    obtain ⟨x, hx', rfl⟩ : ∃ y, primes[i]? = some y ∧ x = V.int y := by
      cases e : primes[i]? with
      | none =>
        rw [e] at hx
        cases hx
      | some y =>
        rw [e] at hx
        exact ⟨y, rfl, (Option.some.inj hx).symm⟩
    refine ⟨_, rfl, _, rfl, x, h, rfl, rfl, _, rfl, ?_⟩
    by_cases hi3 : i = 30
    · have hf : 122 < x := pr_far x (by
        rw [List.mem_iff_getElem?]
        exact ⟨0, by rw [List.getElem?_drop, ← hx', hi3]⟩)
      refine iteD1 (show x > (h : Int) by omega) ?_
      exact ⟨v4, _, _, _, us, i, rfl, sg, hll, hR, hi, fun p hp => by
        rw [hi3, List.drop_eq_nil_of_le (by rw [pr_len.1]; omega)] at hp
        cases hp⟩
    have hi2 : i < 30 := by omega
    rw [pr_at i hi2] at hx'
    obtain ⟨p, hp, rfl⟩ : ∃ p, pr30[i]? = some p ∧ x = (p : Int) := by
      cases e : pr30[i]? with
      | none =>
        rw [e] at hx'
        cases hx'
      | some y =>
        rw [e] at hx'
        exact ⟨y, rfl, (Option.some.inj hx').symm⟩
    have pmem : p ∈ pr30 := List.mem_of_getElem? hp
    have p1 := (pr30_p p pmem).1
    have pd : pr30.getD i 0 = p := by
      rw [List.getD_eq_getElem?_getD, hp]
      rfl
    by_cases hph : (p : Int) > (h : Int)
    · refine iteD1 hph ?_
      refine ⟨v4, _, _, _, us, i, rfl, sg, hll, hR, hi, fun r hr' => ?_⟩
      have := pr_up i hi2 r hr'
      rw [pd] at this
      exact expE_zero (fun n hn => by have := hav n hn; omega) fun n hn => by have := hbv n hn; omega
    refine iteD0 hph ?_
    refine ⟨_, rfl, _, _, rfl, ?_⟩
    refine ⟨fun σ H'' => ∃ v8 : Option V, σ = [some (.ref a), some (.ref b), some (.int (h : Int)), some (.ref c), v4, some (.ref l), some (.int (p : Int)), some (.int (expE above below p)), v8] ∧ H'' l = some (.lst (us.map V.ref)) ∧ Same H' H'', ?_, fun σ H8 hM => ?_⟩
    · refine while_by (fun σ H'' => ∃ k : Nat, σ = [some (.ref a), some (.ref b), some (.int (h : Int)), some (.ref c), v4, some (.ref l), some (.int (p : Int)), some (.int (runE above below p k)), some (.int ((p ^ (k + 1) : Nat) : Int))] ∧ Same H' H'' ∧ p ^ k ≤ h) (fun σ _ => muP h σ) ⟨0, ?_, fun _ _ e => e, by show 1 ≤ h; omega⟩ (fun σ H'' hP => ?_) (fun σ H Q Q' m h => by
        obtain ⟨x, hx, y, hy, i, j, e1, e2, k, ek, hq⟩ := h
        exact ⟨x, hx, y, hy, i, j, e1, e2, k, ek, m _ _ hq⟩)
      · rw [Nat.zero_add, Nat.pow_one]
        rfl
      obtain ⟨k, rfl, sw, pk⟩ := hP
      refine ⟨_, rfl, _, rfl, _, _, rfl, rfl, _, rfl, iteB (fun y => ?_) fun y => ?_⟩
      rotate_left
      · have y' := of_decide_eq_false y
        have k6 : k ≤ 6 := Nat.le_of_not_lt fun z => by
          have z1 : 2 ^ 7 ≤ p ^ k := Nat.le_trans (Nat.pow_le_pow_left p1 7) (Nat.pow_le_pow_right (by omega) z)
          omega
        refine ⟨some (.int ((p ^ (k + 1) : Nat) : Int)), ?_, sw _ _ hll, sw⟩
        rw [runE_end p1 hav hbv (by omega) k6]
      · have y' := of_decide_eq_true y
        have ple : p ^ (k + 1) ≤ h := by omega
        have s0 : 0 < p ^ (k + 1) := Nat.pow_pos (by omega)
        obtain ⟨st, est⟩ : ∃ st, p ^ (k + 1) = st := ⟨_, rfl⟩
        rw [est] at ple s0
        have eV := step_up (fun m => geL above m - geL below m) h st s0 ple
        rw [est]
        refine ⟨_, rfl, _, rfl, _, rfl, st, rfl, _, rfl, st, rfl, c, _, rfl, SqL.of (sw _ _ hcc), ?_, ?_, fun v hv => ?_⟩
        · intro z
          have := Option.some.inj z
          omega
        · show (stepV ((List.range (h + 1)).map fun m => V.int (geL above m - geL below m)) (some (st : Int)) none (some (st : Int))).length ≤ _
          rw [eV, List.length_map, List.length_map, List.length_range, sizeLine_eq]
          have := Nat.div_le_self h st
          omega
        have eV' : stepV (lisF h fun m => geL above m - geL below m) (some (st : Int)) none (some (st : Int)) = _ := eV
        rw [eV']
        refine ⟨v, _, rfl, SqL.of upd_same, _, _, rfl, rfl, ?_⟩
        rw [at_sum s0 hav hbv]
        refine ⟨_, rfl, _, rfl, _, _, rfl, rfl, .inr ⟨by omega, by omega⟩, ⟨k + 1, ?_, sw.trans (same_upd hv), by rw [est]; exact ple⟩, ?_⟩
        · show [some (V.ref a), some (V.ref b), some (V.int (h : Int)), some (V.ref c), v4, some (V.ref l), some (V.int (p : Int)), some (V.int (runE above below p k + atS above below st)), some (V.int ((st : Int) * (p : Int)))] = _
          have e1 : runE above below p (k + 1) = runE above below p k + atS above below st := by
            rw [← est]
            rfl
          have e2 : ((p ^ (k + 1 + 1) : Nat) : Int) = (st : Int) * (p : Int) := by
            rw [Nat.pow_succ, est, Int.natCast_mul]
          rw [e1, e2]
        · show ((h : Int) + 1 - (st : Int) * (p : Int)).toNat < ((h : Int) + 1 - (st : Int)).toNat
          have : (st : Int) * 2 ≤ (st : Int) * (p : Int) := Int.mul_le_mul_of_nonneg_left (by omega) (by omega)
          omega
    obtain ⟨w8, rfl, hl8, s8⟩ := hM
    refine ⟨_, rfl, .inl ⟨rfl, _, SqL.of hl8⟩, _, rfl, _, rfl, by show 2 ≤ sizeLine; decide, fun u hu => ?_⟩
    have s9 := same_upd (o := .tup [.int (p : Int), .int (expE above below p)]) hu
    have hl9 := s9 _ _ hl8
    refine ⟨l, _, _, rfl, rfl, hl9, ?_, _, _, _, us ++ [u], rfl, ?_, ?_, ?_, ?_, by omega⟩
    · have := hR.len
      rw [List.length_take] at this
      rw [List.length_map, sizeLine_eq]
      omega
    · intro x y e
      rw [upd_ne (ne_of_none e lH1)]
      exact s9 _ _ (s8 _ _ (sg _ _ e))
    · rw [upd_same, List.map_append]
      rfl
    · rw [upd_ne cl]
      exact s9 _ _ (s8 _ _ hcc)
    · rw [take_at hp]
      exact PwR.upd (fun x e => by rw [hl9] at e; cases e) (PwR.snoc upd_same ((hR.same s8).same s9))
  obtain ⟨w4, v6, v7, v8, us, i, rfl, s7, hl7, hR, hi, hz⟩ := hM
  exact ⟨_, rfl, q l us i H7 (s1.trans s7) hl7 hR hi hz⟩
end
end TC
namespace TC
open PySem PySem.Spec PyProof.Rows L2 TCX
section
variable {P : Program} {w : World} {K : PySem.W.Frag} {mg : Str → Option Value} {base : Heap} {f : Addr} {fd : FuncData} {C fI fQ : Addr}
/-! ### root_of_factorials -/
def spRootT (C : Addr) : Sp := fun vs H Q _ => ∃ (a b : Addr) (above below : List Nat), vs = [.ref a, .ref b] ∧ H a = some (.tup (natV above)) ∧ H b = some (.tup (natV below)) ∧ 0 < above.length ∧ above.length ≤ 50 ∧ below.length ≤ 50 ∧ (∀ n ∈ above, n < 123) ∧ (∀ n ∈ below, n < 123) ∧
  ∀ x H', Same H H' → H x = none → NumAt C H' x (rootL above below) → Q (.ref x) H'
theorem ok_rootT {fP fO : Addr} {fdP fdO fdI : FuncData} (F : FnP K "root_of_factorials" sRootF f fd) (T : TxtN K mg C fI fQ) (GP : FnOk P w K mg base CX0 1 fP fdP ["above", "below"] (spPrimesT K)) (bP : L2.Binds K fdP ["above", "below"] []) (kP : PySem.W.keepIn K (.ref fP) = true) (gP : mg "primes_of_factorials" = some (.ref fP))
    (GO : FnOk P w K mg base CX0 1 fO fdO ["number"] spOdd) (bO : L2.Binds K fdO ["number"] []) (kO : PySem.W.keepIn K (.ref fO) = true) (gO : mg "is_odd" = some (.ref fO))
    (GI : FnOk P w K mg base CX0 1 fI fdI ["self", "parts"] (spInit C)) (bI : L2.Binds K fdI ["self", "parts"] []) (grange : mg "range" = none) : FnOk P w K mg base CX0 3 f fd ["above", "below"] (spRootT C) := by
  refine F.ok scRootF (fun vs H Q E h => ?_) (fun cdv A outer s H vs Q E hr h => ?_)
  · obtain ⟨_, _, _, _, rfl, _⟩ := h
    rfl
  obtain ⟨a, b, above, below, rfl, hA, hB, la0, la, lb, ha, hb, q⟩ := h
  have hr1 := hr.mono (j := 1) (by decide)
  refine ⟨_, PSs.nox (C8.pss_cut (ps_asg (pe_tup (pa_cons pe_int (pa_cons pe_int (pa_cons pe_int pa_nil)))) (pg_tup rfl (pgs_cons (pg_name (i := 2) scRootF.nd rfl (.inl rfl)) (pgs_cons (pg_name (i := 3) scRootF.nd rfl (.inl rfl)) (pgs_cons (pg_name (i := 4) scRootF.nd rfl (.inl rfl)) pgs_nil)))))
    (C8.pss_cut (ps_for PassesOwn.never rfl (pi_list (pe_call GP hr1 (by rfl) gP kP bP .nil pass0 (pa_cons (pv 0) (pa_cons (pv 1) pa_nil)))) (pg_tup rfl (pgs_cons (pg_name (i := 5) scRootF.nd rfl (.inl rfl)) (pgs_cons (pg_name (i := 6) scRootF.nd rfl (.inl rfl)) pgs_nil)))
      (pss_cons (ps_set (i := 7) scRootF.nd rfl (.inl rfl) (pe_op op_fdiv (pv 6) pe_int))
      (C8.pss_cut (ps_for PassesOwn.never rfl (pi_range1 (by rfl) grange (pa_cons (pv 7) pa_nil)) (pg_name (i := 8) scRootF.nd rfl (.inl rfl)) (pss_one (ps_aug (i := 3) scRootF.nd rfl (.inl rfl) (pv 5) iop_mul)))
      (C8.pss_cut (ps_for PassesOwn.never rfl (pi_range1 (by rfl) grange (pa_cons (pe_un un_neg (pv 7)) pa_nil)) (pg_name (i := 8) scRootF.nd rfl (.inl rfl)) (pss_one (ps_aug (i := 4) scRootF.nd rfl (.inl rfl) (pv 5) iop_mul)))
      (pss_one (ps_if (pt_val (pe_call GO hr1 (by rfl) gO kO bO .nil pass0 (pa_cons (pv 6) pa_nil))) (pss_one (ps_aug (i := 2) scRootF.nd rfl (.inl rfl) (pv 5) iop_mul)) pss_nil))))))
    (pss_one (ps_ret (pe_make T.mkr GI (hr.mono (by decide)) (by rfl) T.mgC bI .nil pass0 (pa_cons (pe_tup (pa_cons (pe_tup (pa_cons (pv 2) (pa_cons (pv 3) (pa_cons (pv 4) pa_nil)))) pa_nil)) pa_nil)))))), ?_⟩
  refine ⟨fun σ H' => σ = [some (.ref a), some (.ref b), some (.int 1), some (.int 1), some (.int 1), none, none, none, none] ∧ Same H H', ?_, fun σ H1 hM => ?_⟩
  · refine ⟨by show 3 ≤ sizeLine; decide, fun l hl => ?_⟩
    exact ⟨l, _, rfl, SqT.of upd_same, rfl, _, _, rfl, _, _, rfl, _, _, rfl, rfl, rfl, same_upd hl⟩
  obtain ⟨rfl, s1⟩ := hM
  obtain ⟨eT, heT⟩ : ∃ e : Nat → Nat, (fun p => (expE above below p / 2).toNat) = e := ⟨_, rfl⟩
  obtain ⟨eB, heB⟩ : ∃ e : Nat → Nat, (fun p => (-(expE above below p / 2)).toNat) = e := ⟨_, rfl⟩
  obtain ⟨eR, heR⟩ : ∃ e : Nat → Bool, (fun p => decide (expE above below p % 2 = 1)) = e := ⟨_, rfl⟩
  refine ⟨fun σ H' => ∃ v5 v6 v7 v8 : Option V, σ = [some (.ref a), some (.ref b), some (.int ((rootE above below : Nat) : Int)), some (.int ((topE above below : Nat) : Int)), some (.int ((botE above below : Nat) : Int)), v5, v6, v7, v8] ∧ Same H H', ?_, fun σ H2 hM => ?_⟩
  · refine ⟨_, rfl, _, rfl, a, b, above, below, rfl, s1 _ _ hA, s1 _ _ hB, la0, la, lb, ha, hb, fun l us i H2 s2 hl hR hi hz => ?_⟩
    refine ⟨l, rfl, ⟨_, SqL.of hl⟩, for_list (xs := us.map V.ref) (fun j σ H' => ∃ v5 v6 v7 v8 : Option V, σ = [some (.ref a), some (.ref b), some (.int ((pickP eR ((pr30.take i).take j) : Nat) : Int)), some (.int ((powP eT ((pr30.take i).take j) : Nat) : Int)), some (.int ((powP eB ((pr30.take i).take j) : Nat) : Int)), v5, v6, v7, v8] ∧ H' = H2)
      ⟨none, none, none, none, rfl, rfl⟩ (fun j σ H' _ hP => ?_) (fun j x σ H' hx hP => ?_) (fun σ H' hP => ?_)⟩
    · obtain ⟨_, _, _, _, _, rfl⟩ := hP
      exact SqL.of hl
    · obtain ⟨v5, v6, v7, v8, rfl, rfl⟩ := hP
      obtain ⟨u, p, rfl, hp, hu⟩ := hR.get hx
      rw [take_at hp]
      have pm : p ∈ pr30 := List.mem_of_mem_take (List.mem_of_getElem? hp)
      have pb : p < 123 := (show ∀ p ∈ pr30, p < 123 by decide +kernel) p pm
      have sa := sumL_le ha p
      have sb := sumL_le hb p
      have ex : expE above below p = (sumL above p : Int) - (sumL below p : Int) := rfl
      refine ⟨u, _, rfl, SqT.of hu, rfl, _, _, rfl, _, _, rfl, rfl, ?_⟩
      refine ⟨_, rfl, expE above below p, 2, rfl, rfl, ⟨by decide, by decide⟩, ?_⟩
      have hm1 : ∀ z : Int, CMul z (p : Int) := fun z => .inr ⟨by omega, by omega⟩
      refine ⟨fun σ G => ∃ v8 : Option V, σ = [some (.ref a), some (.ref b), some (.int ((pickP eR ((pr30.take i).take j) : Nat) : Int)), some (.int ((powP eT ((pr30.take i).take j ++ [p]) : Nat) : Int)), some (.int ((powP eB ((pr30.take i).take j) : Nat) : Int)), some (.int (p : Int)), some (.int (expE above below p)), some (.int (expE above below p / 2)), v8] ∧ G = H', ?_, fun σ H3' hM => ?_⟩
      · refine ⟨_, rfl, expE above below p / 2, rfl, by omega, by omega, for_range (fun k σ G => ∃ v8 : Option V, σ = [some (.ref a), some (.ref b), some (.int ((pickP eR ((pr30.take i).take j) : Nat) : Int)), some (.int ((powP eT ((pr30.take i).take j) * p ^ k : Nat) : Int)), some (.int ((powP eB ((pr30.take i).take j) : Nat) : Int)), some (.int (p : Int)), some (.int (expE above below p)), some (.int (expE above below p / 2)), v8] ∧ G = H') ⟨v8, ?_, rfl⟩ (fun k σ H' hk hP => ?_) (fun σ H' hP => ?_)⟩
        · rw [Nat.pow_zero, Nat.mul_one]
          rfl
        · obtain ⟨v8, rfl, rfl⟩ := hP
          refine ⟨_, rfl, _, rfl, _, _, rfl, rfl, hm1 _, some (.int (0 + (k : Int))), ?_, rfl⟩
          rw [Nat.pow_succ, ← Nat.mul_assoc, Int.natCast_mul _ p]
          rfl
        · obtain ⟨v8, rfl, rfl⟩ := hP
          refine ⟨v8, ?_, rfl⟩
          rw [powP_snoc, ← heT]
      obtain ⟨w8, rfl, e3⟩ := hM
      replace e3 := e3.symm
      subst e3
      refine ⟨fun σ G => ∃ v8 : Option V, σ = [some (.ref a), some (.ref b), some (.int ((pickP eR ((pr30.take i).take j) : Nat) : Int)), some (.int ((powP eT ((pr30.take i).take j ++ [p]) : Nat) : Int)), some (.int ((powP eB ((pr30.take i).take j ++ [p]) : Nat) : Int)), some (.int (p : Int)), some (.int (expE above below p)), some (.int (expE above below p / 2)), v8] ∧ G = H', ?_, fun σ H4 hM => ?_⟩
      · refine ⟨_, rfl, _, rfl, -(expE above below p / 2), rfl, by omega, by omega, for_range (fun k σ G => ∃ v8 : Option V, σ = [some (.ref a), some (.ref b), some (.int ((pickP eR ((pr30.take i).take j) : Nat) : Int)), some (.int ((powP eT ((pr30.take i).take j ++ [p]) : Nat) : Int)), some (.int ((powP eB ((pr30.take i).take j) * p ^ k : Nat) : Int)), some (.int (p : Int)), some (.int (expE above below p)), some (.int (expE above below p / 2)), v8] ∧ G = H') ⟨w8, ?_, rfl⟩ (fun k σ H' hk hP => ?_) (fun σ H' hP => ?_)⟩
        · rw [Nat.pow_zero, Nat.mul_one]
        · obtain ⟨v8, rfl, rfl⟩ := hP
          refine ⟨_, rfl, _, rfl, _, _, rfl, rfl, hm1 _, some (.int (0 + (k : Int))), ?_, rfl⟩
          rw [Nat.pow_succ, ← Nat.mul_assoc, Int.natCast_mul _ p]
          rfl
        · obtain ⟨v8, rfl, rfl⟩ := hP
          refine ⟨v8, ?_, rfl⟩
          rw [powP_snoc eB, ← heB]
      clear w8
      obtain ⟨w8, rfl, e4⟩ := hM
      replace e4 := e4.symm
      subst e4
      refine ⟨_, rfl, expE above below p, rfl, _, rfl, ?_⟩
      by_cases ho : expE above below p % 2 = 1
      · refine iteD1 ho ?_
        refine ⟨_, rfl, _, rfl, _, _, rfl, rfl, hm1 _, some (.int (p : Int)), some (.int (expE above below p)), some (.int (expE above below p / 2)), w8, ?_, rfl⟩
        rw [pick_snoc, ← heR, if_pos (decide_eq_true ho), Int.natCast_mul _ p]
        rfl
      · refine iteD0 ho ?_
        refine ⟨some (.int (p : Int)), some (.int (expE above below p)), some (.int (expE above below p / 2)), w8, ?_, rfl⟩
        rw [pick_snoc, ← heR, if_neg (by dsimp only; rw [decide_eq_false ho]; exact Bool.false_ne_true), Nat.mul_one]
    · obtain ⟨v5, v6, v7, v8, rfl, rfl⟩ := hP
      refine ⟨v5, v6, v7, v8, ?_, s1.trans s2⟩
      have lu := hR.len
      have et : (pr30.take i).take (us.map V.ref).length = pr30.take i := by
        rw [List.length_map, lu, List.take_length]
      rw [et]
      have e1 : rootE above below = pickP eR (pr30.take i) := by
        unfold rootE
        rw [heR]
        conv => lhs; rw [← List.take_append_drop i pr30]
        rw [pick_append, pick_none (l := pr30.drop i) fun p hp => by rw [← heR]; dsimp only; rw [hz p hp]; rfl, Nat.mul_one]
      have e2 : topE above below = powP eT (pr30.take i) := by
        unfold topE
        rw [heT]
        conv => lhs; rw [← List.take_append_drop i pr30]
        rw [powP_append, powP_none (l := pr30.drop i) fun p hp => by rw [← heT]; dsimp only; rw [hz p hp]; rfl, Nat.mul_one]
      have e3 : botE above below = powP eB (pr30.take i) := by
        unfold botE
        rw [heB]
        conv => lhs; rw [← List.take_append_drop i pr30]
        rw [powP_append, powP_none (l := pr30.drop i) fun p hp => by rw [← heB]; dsimp only; rw [hz p hp]; rfl, Nat.mul_one]
      rw [e1, e2, e3]
  obtain ⟨v5, v6, v7, v8, rfl, s2⟩ := hM
  refine ⟨_, rfl, _, rfl, _, rfl, by show 3 ≤ sizeLine; decide, fun u hu => ?_⟩
  refine ⟨by show 1 ≤ sizeLine; decide, fun p hp => ?_⟩
  have s3 := same_upd (o := .tup [.int ((rootE above below : Nat) : Int), .int ((topE above below : Nat) : Int), .int ((botE above below : Nat) : Int)]) hu
  have s4 := same_upd (o := .tup [.ref u]) hp
  obtain ⟨c1, c2⟩ := rat_cop (botE_pos above below) (topE_cop above below)
  have hpar : parV ((rootE above below : Nat), Rat.divInt ((topE above below : Nat) : Int) ((botE above below : Nat) : Int)) = .tup [.int ((rootE above below : Nat) : Int), .int ((topE above below : Nat) : Int), .int ((botE above below : Nat) : Int)] := by
    unfold parV
    dsimp only
    rw [c1, c2]
  refine made_num (C := C) (L := rootL above below) ⟨[u], upd_same, ?_, trivial⟩ fun x H5 s5 hx hN => q x H5 ((s2.trans (s3.trans s4)).trans s5) ((s2.trans (s3.trans s4)).free hx) hN
  rw [hpar]
  exact s4 _ _ upd_same
end
end TC
namespace TCX
open PySem PySem.Spec PyProof.Rows L2
section
variable {X : Cx}
/-- max(a, b, c) -/
def rMax3 : List V → Hp → VK → Prop := fun vs H Q => ∃ a b c : Int, vs = [.int a, .int b, .int c] ∧ ∀ m, m ∈ [a, b, c] → (∀ y, y ∈ [a, b, c] → y ≤ m) → Q (.int m) H
theorem cr_max3 (calm : X.calm = true) : CallR X (.builtin "max") rMax3 := by
  intro pins s σ H vs us Q I r h
  obtain ⟨a, b, c, rfl, q⟩ := h
  match us, r with
  | [u1, u2, u3], .cons ⟨t1, e1⟩ (.cons ⟨t2, e2⟩ (.cons ⟨t3, e3⟩ .nil)) =>
  subst e1 e2 e3
  have fin : ∀ (m : Int) (tm : Tok) (g : Heap) (tk : Nat), (∀ d o, s.heap.get? d = some o → g.get? d = some o) → m ∈ [a, b, c] → (a ≤ m ∧ b ≤ m ∧ c ≤ m) → ∃ v H', Inv X pins σ H' { s with heap := g, toks := tk } ∧ RelV v (.int m tm) ∧ Q v H' := fun m tm g tk hk hm hle =>
    ⟨.int m, H, I.kept hk, ⟨_, rfl⟩, q m hm fun y hy => by
      simp only [List.mem_cons, List.not_mem_nil, or_false] at hy
      rcases hy with rfl | rfl | rfl
      · exact hle.1
      · exact hle.2.1
      · exact hle.2.2⟩
  refine max_three_ints (I.ok.hd calm) fun g tk hk => ?_
  by_cases h1 : b > a
  · by_cases h2 : c > b
    · rw [if_pos h1, if_pos h2]
      exact fin c t3 g tk hk (by simp) (by omega)
    · rw [if_pos h1, if_neg h2]
      exact fin b t2 g tk hk (by simp) (by omega)
  · by_cases h2 : c > a
    · rw [if_neg h1, if_pos h2]
      exact fin c t3 g tk hk (by simp) (by omega)
    · rw [if_neg h1, if_neg h2]
      exact fin a t1 g tk hk (by simp) (by omega)
/-- min(a, b, c) -/
def rMin3 : List V → Hp → VK → Prop := fun vs H Q => ∃ a b c : Int, vs = [.int a, .int b, .int c] ∧ ∀ m, m ∈ [a, b, c] → (∀ y, y ∈ [a, b, c] → m ≤ y) → Q (.int m) H
theorem cr_min3 (calm : X.calm = true) : CallR X (.builtin "min") rMin3 := by
  intro pins s σ H vs us Q I r h
  obtain ⟨a, b, c, rfl, q⟩ := h
  match us, r with
  | [u1, u2, u3], .cons ⟨t1, e1⟩ (.cons ⟨t2, e2⟩ (.cons ⟨t3, e3⟩ .nil)) =>
  subst e1 e2 e3
  have fin : ∀ (m : Int) (tm : Tok) (g : Heap) (tk : Nat), (∀ d o, s.heap.get? d = some o → g.get? d = some o) → m ∈ [a, b, c] → (m ≤ a ∧ m ≤ b ∧ m ≤ c) → ∃ v H', Inv X pins σ H' { s with heap := g, toks := tk } ∧ RelV v (.int m tm) ∧ Q v H' := fun m tm g tk hk hm hle =>
    ⟨.int m, H, I.kept hk, ⟨_, rfl⟩, q m hm fun y hy => by
      simp only [List.mem_cons, List.not_mem_nil, or_false] at hy
      rcases hy with rfl | rfl | rfl
      · exact hle.1
      · exact hle.2.1
      · exact hle.2.2⟩
  refine min_three_ints (I.ok.hd calm) fun g tk hk => ?_
  by_cases h1 : b < a
  · by_cases h2 : c < b
    · rw [if_pos h1, if_pos h2]
      exact fin c t3 g tk hk (by simp) (by omega)
    · rw [if_pos h1, if_neg h2]
      exact fin b t2 g tk hk (by simp) (by omega)
  · by_cases h2 : c < a
    · rw [if_neg h1, if_pos h2]
      exact fin c t3 g tk hk (by simp) (by omega)
    · rw [if_neg h1, if_neg h2]
      exact fin a t1 g tk hk (by simp) (by omega)
end
end TCX
namespace TC
set_option exponentiation.threshold 20000
open PySem PySem.Spec PyProof.Rows L2 TCA TCX
def pwA (a b c : Int) : Nat := ((a + b - c) / 2).toNat
def pwB (a b c : Int) : Nat := ((b + c - a) / 2).toNat
def pwC (a b c : Int) : Nat := ((c + a - b) / 2).toNat
def pwKey (a u b v c w : Int) : List Int := [(a + u) / 2, (a - u) / 2, (b + v) / 2, (b - v) / 2, (c + w) / 2, (c - w) / 2]
def pwAb (a u b v c w : Int) : List Nat := [((a + u) / 2).toNat, ((a - u) / 2).toNat, ((b + v) / 2).toNat, ((b - v) / 2).toNat, ((c + w) / 2).toNat, ((c - w) / 2).toNat]
def pwBe (a b c : Int) : List Nat := [((a + b + c) / 2 + 1).toNat, pwA a b c, pwB a b c, pwC a b c]
def pwS (a u b v c w : Int) : Int := sumAt (pAll (pwA a b c) (pwB a b c) (pwC a b c)) (pwKey a u b v c w)
def PowP (a b c u v w : Int) : Prop := canB a b c = true ∧ u + v + w = 0
instance (a b c u v w : Int) : Decidable (PowP a b c u v w) := inferInstanceAs (Decidable (_ ∧ _))
def powL (a u b v c w : Int) : List Part := if PowP a b c u v w then oneQ ((rootE (pwAb a u b v c w) (pwBe a b c) : Nat) : Int) (Rat.divInt (pwS a u b v c w) 1 * Rat.divInt ((topE (pwAb a u b v c w) (pwBe a b c) : Nat) : Int) ((botE (pwAb a u b v c w) (pwBe a b c) : Nat) : Int)) else []
theorem keyP_of {a u b v c w : Int} (h1 : PairP a u) (h2 : PairP b v) (h3 : PairP c w) (j : PowP a b c u v w) : KeyP (pwA a b c) (pwB a b c) (pwC a b c) ((a + u) / 2) ((a - u) / 2) ((b + v) / 2) ((b - v) / 2) ((c + w) / 2) ((c - w) / 2) := by
  obtain ⟨a0, a1, a2, a3, a4⟩ := h1
  obtain ⟨b0, b1, b2, b3, b4⟩ := h2
  obtain ⟨c0, c1, c2, c3, c4⟩ := h3
  obtain ⟨k1, k2, k3, k4⟩ := canB_iff.mp j.1
  have k5 := j.2
  unfold pwA pwB pwC
  exact ⟨by omega, by omega, by omega, by omega⟩
/-- what stands at the powers is the sum of the three -/
theorem pwS_three {a u b v c w : Int} (h1 : PairP a u) (h2 : PairP b v) (h3 : PairP c w) (j : PowP a b c u v w) : pwS a u b v c w = tI a u b v c w := by
  have kp := keyP_of h1 h2 h3 j
  obtain ⟨a0, a1, a2, a3, a4⟩ := h1
  obtain ⟨b0, b1, b2, b3, b4⟩ := h2
  obtain ⟨c0, c1, c2, c3, c4⟩ := h3
  obtain ⟨k1, k2, k3, k4⟩ := canB_iff.mp j.1
  have k5 := j.2
  unfold pwS pwKey tI
  rw [all_joined kp (B := jB a u) (C := jC b v) (by unfold jB; omega) (by unfold jC; omega), if_pos j.1]
  congr 1
  · unfold sgZ sgT
    have e : ((a + u) / 2 + (b - v) / 2) % 2 = ((a - b - w) / 2) % 2 := by omega
    rw [e]
  · unfold jSum jT
    have eD : (a + u) / 2 - ((pwA a b c : Nat) : Int) = jD b u c := by unfold pwA jD; omega
    have eE : (b - v) / 2 - ((pwA a b c : Nat) : Int) = jE a v c := by unfold pwA jE; omega
    rw [eD, eE]
    rfl
theorem pwS_lt {a u b v c w : Int} (h1 : PairP a u) (h2 : PairP b v) (h3 : PairP c w) (j : PowP a b c u v w) : (pwS a u b v c w).natAbs < 2 ^ 900 := by
  rw [pwS_three h1 h2 h3 j]
  unfold tI
  rw [if_pos j.1, Int.natAbs_mul, sgT_abs, Nat.one_mul]
  have h3' : PairP c (-w) := ⟨h3.t0, h3.t1, by have := h3.hi; omega, by have := h3.lo; omega, by have := h3.ev; omega⟩
  exact jSum_lt h1 h2 h3' ⟨j.1, by have := j.2; omega⟩
theorem pwAb_lt {a u b v c w : Int} (h1 : PairP a u) (h2 : PairP b v) (h3 : PairP c w) : ∀ n ∈ pwAb a u b v c w, n < 62 := by
  obtain ⟨a0, a1, a2, a3, a4⟩ := h1
  obtain ⟨b0, b1, b2, b3, b4⟩ := h2
  obtain ⟨c0, c1, c2, c3, c4⟩ := h3
  intro n hn
  unfold pwAb at hn
  simp only [List.mem_cons, List.not_mem_nil, or_false] at hn
  omega
theorem pwBe_lt {a u b v c w : Int} (h1 : PairP a u) (h2 : PairP b v) (h3 : PairP c w) : ∀ n ∈ pwBe a b c, n < 62 := by
  obtain ⟨a0, a1, a2, a3, a4⟩ := h1
  obtain ⟨b0, b1, b2, b3, b4⟩ := h2
  obtain ⟨c0, c1, c2, c3, c4⟩ := h3
  intro n hn
  unfold pwBe pwA pwB pwC at hn
  simp only [List.mem_cons, List.not_mem_nil, or_false] at hn
  omega
theorem botW_lt {a u b v c w : Int} (h1 : PairP a u) (h2 : PairP b v) (h3 : PairP c w) : botE (pwAb a u b v c w) (pwBe a b c) < 2 ^ 1500 := by
  have lb := pwBe_lt h1 h2 h3
  exact Nat.lt_of_le_of_lt (botE_le fun n hn => by have := lb n hn; omega) (Nat.lt_of_lt_of_le (prodF_lt lb) (Nat.pow_le_pow_right (by decide) (by rw [show (pwBe a b c).length = 4 from rfl]; decide)))
theorem canon_powL (a u b v c w : Int) : TCR.Canon (powL a u b v c w) := by
  unfold powL
  split
  · exact canon_oneQ _ _
  · exact TCR.canon_nil
/-- the three by powers is the three -/
theorem pow_three {a u b v c w : Int} (h1 : PairP a u) (h2 : PairP b v) (h3 : PairP c w) : powL a u b v c w = threeL a u b v c w := by
  have h3' : PairP c (-w) := ⟨h3.t0, h3.t1, by have := h3.hi; omega, by have := h3.lo; omega, by have := h3.ev; omega⟩
  by_cases j : PowP a b c u v w
  · have T := su_three h1 h2 h3 j.2
    have la := pwAb_lt h1 h2 h3
    have lb := pwBe_lt h1 h2 h3
    have R := rootE_rt (ab := pwAb a u b v c w) (be := pwBe a b c) (fun n hn => by have := la n hn; omega) (fun n hn => by have := lb n hn; omega)
    have U : Su (powL a u b v c w) ((pwS a u b v c w : Int) : Rat) ((prodF (pwAb a u b v c w) : Rat) / (prodF (pwBe a b c) : Rat)) := by
      refine ⟨canon_powL _ _ _ _ _ _, fun r => ?_⟩
      unfold powL
      rw [if_pos j, val_oneQ, R.sv, show Rat.divInt (pwS a u b v c w) 1 = ((pwS a u b v c w : Int) : Rat) from Rat.num_divInt_den ((pwS a u b v c w : Int) : Rat)]
    have c0 := h3.t0
    have cp : (0 : Rat) < ((c + 1 : Int) : Rat) := pos_int (by omega)
    have pp : (0 : Rat) < (prodF (pwAb a u b v c w) : Rat) / (prodF (pwBe a b c) : Rat) := quot_pos (prodF_pos _) (prodF_pos _)
    have eN : tN a u b v c w = (prodF (pwAb a u b v c w) : Rat) / (prodF (pwBe a b c) : Rat) * (((c + 1 : Int) : Rat) * ((c + 1 : Int) : Rat)) := by
      have hA : prodF (jAb a u b v c (-w)) = (c + 1).toNat * factN c.toNat * prodF (pwAb a u b v c w) := by
        have e : factN (c + 1).toNat = (c + 1).toNat * factN c.toNat := by
          rw [show (c + 1).toNat = c.toNat + 1 by omega]
          rfl
        show factN (c + 1).toNat * (_ * (_ * (_ * (_ * (factN ((c + -w) / 2).toNat * (factN ((c - -w) / 2).toNat * 1)))))) = _ * (_ * (_ * (_ * (_ * (factN ((c + w) / 2).toNat * (factN ((c - w) / 2).toNat * 1))))))
        rw [e, show (c + -w) / 2 = (c - w) / 2 by omega, show (c - -w) / 2 = (c + w) / 2 by omega]
        simp only [Nat.mul_assoc, Nat.mul_left_comm, Nat.mul_comm]
      have hB : prodF (jBe a b c) = factN c.toNat * prodF (pwBe a b c) := by
        show factN c.toNat * (_ * (factN ((a + b - c) / 2).toNat * (factN ((a - b + c) / 2).toNat * (factN ((b - a + c) / 2).toNat * 1)))) = factN c.toNat * (_ * (factN ((a + b - c) / 2).toNat * (factN ((b + c - a) / 2).toNat * (factN ((c + a - b) / 2).toNat * 1))))
        rw [show (a - b + c) / 2 = (c + a - b) / 2 by omega, show (b - a + c) / 2 = (b + c - a) / 2 by omega]
        simp only [Nat.mul_assoc, Nat.mul_left_comm, Nat.mul_comm]
      have ey : ((c + 1 : Int) : Rat) = (((c + 1).toNat : Nat) : Rat) := by
        rw [show (c + 1 : Int) = (((c + 1).toNat : Nat) : Int) by omega]
        rfl
      unfold tN jN
      rw [hA, hB, Rat.natCast_mul, Rat.natCast_mul, Rat.natCast_mul, ← ey]
      have f0 : (factN c.toNat : Rat) ≠ 0 := ne_of_pos (pos_nat (fact_pos _))
      have b0 : (prodF (pwBe a b c) : Rat) ≠ 0 := ne_of_pos (pos_nat (prodF_pos _))
      generalize (factN c.toNat : Rat) = F at f0
      generalize (prodF (pwBe a b c) : Rat) = B at b0
      generalize (prodF (pwAb a u b v c w) : Rat) = A'
      generalize ((c + 1 : Int) : Rat) = y
      grind
    rw [eN] at T
    have T2 := T.scale pp cp
    refine U.uniq (T2.of ?_ rfl)
    rw [pwS_three h1 h2 h3 j, Rat.divInt_eq_div]
    have y0 := ne_of_pos cp
    generalize ((c + 1 : Int) : Rat) = y at y0
    grind
  · unfold powL
    rw [if_neg j]
    have : joinL a u b v c (-w) = [] := su_joined0 fun z => j ⟨z.1, by have := z.2; omega⟩
    unfold threeL
    rw [this]
    rfl
end TC
namespace TC
set_option exponentiation.threshold 20000
open PySem PySem.Spec PyProof.Rows L2 TCA TCX
section
variable {P : Program} {w : World} {K : PySem.W.Frag} {mg : Str → Option Value} {base : Heap} {f : Addr} {fd : FuncData} {C fI fQ : Addr}
/-! ### three_by_powers -/
def spTBP (C : Addr) : Sp := fun vs H Q _ => ∃ (p1 p2 p3 : Addr) (a u b v c w : Int), vs = [.ref p1, .ref p2, .ref p3] ∧ H p1 = some (pairO (a, u)) ∧ H p2 = some (pairO (b, v)) ∧ H p3 = some (pairO (c, w)) ∧ PairP a u ∧ PairP b v ∧ PairP c w ∧
  (PowP a b c u v w → pwA a b c ≤ 12 ∧ pwB a b c ≤ 12 ∧ pwC a b c ≤ 12) ∧ ∀ x H', Same H H' → NumAt C H' x (threeL a u b v c w) → Q (.ref x) H'
abbrev nTBP : List Str := ["one", "other", "third", "a", "u", "b", "v", "c", "w", "p", "q", "r", "place", "root"]
theorem scTBP : FnScope nTBP ["one", "other", "third"] (defScope sThreeByPowers) := ⟨rfl, rfl, rfl, by decide +kernel, rfl, by decide +kernel, by decide +kernel⟩
theorem ok_tbp {fP fC fE fR fM fW : Addr} {fdP fdC fdE fdR fdM fdW : FuncData} {tH : Tok} (F : FnP K "three_by_powers" sThreeByPowers f fd) (FE : FnE K fE fdE) (GE : FnOk P w K mg base CX0 4 fE fdE psE (spExact C)) (gE : mg "exact" = some (.ref fE))
    (GP : FnOk P w K mg base CX0 4 fP fdP ["things"] spNeedPairs) (bP : L2.Binds K fdP ["things"] []) (kP : PySem.W.keepIn K (.ref fP) = true) (gP : mg "need_pairs" = some (.ref fP))
    (GC : FnOk P w K mg base CX0 2 fC fdC ["one", "other", "third"] spCanJoin) (bC : L2.Binds K fdC ["one", "other", "third"] []) (kC : PySem.W.keepIn K (.ref fC) = true) (gC : mg "can_join" = some (.ref fC))
    (GR : FnOk P w K mg base CX0 3 fR fdR ["above", "below"] (spRootT C)) (bR : L2.Binds K fdR ["above", "below"] []) (kR : PySem.W.keepIn K (.ref fR) = true) (gR : mg "root_of_factorials" = some (.ref fR))
    (GM : FnOk P w K mg base CX0 4 fM fdM ["one", "other"] (spTimes C)) (bM : L2.Binds K fdM ["one", "other"] []) (kM : PySem.W.keepIn K (.ref fM) = true) (gM : mg "times" = some (.ref fM))
    (GW : FnOk P w K mg base CX0 3 fW fdW ["p", "q", "r"] spPow) (bW : L2.Binds K fdW ["p", "q", "r"] []) (kW : PySem.W.keepIn K (.ref fW) = true) (gW : mg "powers" = some (.ref fW)) (gmax : mg "max" = none) (gH : mg "HIGHEST_POWER" = some (.int 12 tH)) :
    FnOk P w K mg base CX0 5 f fd ["one", "other", "third"] (spTBP C) := by
  obtain ⟨dsE, vE, bE⟩ := bE0 FE
  refine F.ok scTBP (fun vs H Q E h => ?_) (fun cdv Ar outer s H vs Q E' hr h => ?_)
  · obtain ⟨_, _, _, _, _, _, _, _, _, rfl, _⟩ := h
    rfl
  obtain ⟨p1, p2, p3, a, u, b, v, c, w, rfl, hp1, hp2, hp3, P1, P2, P3, hpow, q⟩ := h
  have hr2 := hr.mono (j := 2) (by decide)
  have hr3 := hr.mono (j := 3) (by decide)
  have hu := hu_of hr
  refine ⟨_, PSs.nox (pss_cons (ps_expr (pe_call GP hr (by rfl) gP kP bP .nil pass0 (pa_cons (pe_lst (pa_cons (pv 0) (pa_cons (pv 1) (pa_cons (pv 2) pa_nil)))) pa_nil)))
      (C8.pss_cut (ps_asg (pe_tup (pa_cons (pv 0) (pa_cons (pv 1) (pa_cons (pv 2) pa_nil)))) (pg_tup rfl (pgs_cons (pg_tup rfl (pgs_cons (pg_name (i := 3) scTBP.nd rfl (.inl rfl)) (pgs_cons (pg_name (i := 4) scTBP.nd rfl (.inl rfl)) pgs_nil))) (pgs_cons (pg_tup rfl (pgs_cons (pg_name (i := 5) scTBP.nd rfl (.inl rfl)) (pgs_cons (pg_name (i := 6) scTBP.nd rfl (.inl rfl)) pgs_nil))) (pgs_cons (pg_tup rfl (pgs_cons (pg_name (i := 7) scTBP.nd rfl (.inl rfl)) (pgs_cons (pg_name (i := 8) scTBP.nd rfl (.inl rfl)) pgs_nil))) pgs_nil)))))
      (C8.pss_cut (ps_if (PW.pt (pw_or (pt_not (pt_val (pe_call GC hr2 (by rfl) gC kC bC .nil pass0 (pa_cons (pv 3) (pa_cons (pv 5) (pa_cons (pv 7) pa_nil)))))) (pw_or1 (pt_cmpR op_ne (pe_op op_add (pe_op op_add (pv 4) (pv 6)) (pv 8)) pe_int (nomark _))))) (pss_one (ps_ret (pe_call GE hr (by rfl) gE FE.kp bE vE pass0 (pa_cons pe_int pa_nil)))) pss_nil)
      (C8.pss_cut (ps_par3 (i := 9) (j := 10) (l := 11) rfl scTBP.nd rfl rfl rfl (by decide) (by decide) (by decide) rfl rfl rfl (pa_cons (pe_op op_fdiv (pe_op op_sub (pe_op op_add (pv 3) (pv 5)) (pv 7)) pe_int) (pa_cons (pe_op op_fdiv (pe_op op_sub (pe_op op_add (pv 5) (pv 7)) (pv 3)) pe_int) (pa_cons (pe_op op_fdiv (pe_op op_sub (pe_op op_add (pv 7) (pv 3)) (pv 5)) pe_int) pa_nil))) (by rfl))
      (pss_cons (ps_if (pt_cmpR op_gt (pe_callB (cr_max3 rfl) (by rfl) gmax (by decide +kernel) (pa_cons (pv 9) (pa_cons (pv 10) (pa_cons (pv 11) pa_nil)))) (pe_glob (v := .int 12) (by rfl) gH ⟨_, rfl⟩) (nomark _)) pss_never pss_nil)
      (C8.pss_cut (ps_set (i := 12) scTBP.nd rfl (.inl rfl) (pe_tup (pa_cons (pe_op op_fdiv (pe_op op_add (pv 3) (pv 4)) pe_int) (pa_cons (pe_op op_fdiv (pe_op op_sub (pv 3) (pv 4)) pe_int) (pa_cons (pe_op op_fdiv (pe_op op_add (pv 5) (pv 6)) pe_int) (pa_cons (pe_op op_fdiv (pe_op op_sub (pv 5) (pv 6)) pe_int) (pa_cons (pe_op op_fdiv (pe_op op_add (pv 7) (pv 8)) pe_int) (pa_cons (pe_op op_fdiv (pe_op op_sub (pv 7) (pv 8)) pe_int) pa_nil))))))))
      (C8.pss_cut (ps_set (i := 13) scTBP.nd rfl (.inl rfl) (pe_call GR hr3 (by rfl) gR kR bR .nil pass0 (pa_cons (pv 12) (pa_cons (pe_tup (pa_cons (pe_op op_add (pe_op op_fdiv (pe_op op_add (pe_op op_add (pv 3) (pv 5)) (pv 7)) pe_int) pe_int) (pa_cons (pv 9) (pa_cons (pv 10) (pa_cons (pv 11) pa_nil))))) pa_nil))))
      (pss_one (ps_ret (pe_call GM hr (by rfl) gM kM bM .nil pass0 (pa_cons (pv 13) (pa_cons (pe_call GE hr (by rfl) gE FE.kp bE vE pass0 (pa_cons (pe_dget2 hu (pe_call GW hr3 (by rfl) gW kW bW .nil pass0 (pa_cons (pv 9) (pa_cons (pv 10) (pa_cons (pv 11) pa_nil)))) (pv 12) pe_int ⟨rfl, rfl, rfl, rfl⟩) pa_nil)) pa_nil)))))))))))), ?_⟩
  have d2 : ∀ z : Int, CDiv z 2 := fun _ => ⟨by decide, by decide⟩
  -- the pairs are right
  refine ⟨_, rfl, _, rfl, _, rfl, by show 3 ≤ sizeLine; decide, fun l0 hl0 => ?_⟩
  have s0 := same_upd (o := .lst [.ref p1, .ref p2, .ref p3]) hl0
  refine ⟨l0, [p1, p2, p3], [(a, u), (b, v), (c, w)], rfl, upd_same, ⟨s0 _ _ hp1, s0 _ _ hp2, s0 _ _ hp3, trivial⟩, ?_, fun H0 s01 => ?_⟩
  · intro x hx
    simp only [List.mem_cons, List.not_mem_nil, or_false] at hx
    rcases hx with rfl | rfl | rfl
    · exact P1
    · exact P2
    · exact P3
  have t0 := s0.trans s01
  refine ⟨fun σ H' => σ = [some (.ref p1), some (.ref p2), some (.ref p3), some (.int a), some (.int u), some (.int b), some (.int v), some (.int c), some (.int w), none, none, none, none, none] ∧ Same H H', ?_, fun σ H1 hM => ?_⟩
  · refine ⟨_, rfl, _, rfl, _, rfl, by show 3 ≤ sizeLine; decide, fun l hl => ?_⟩
    have s2 := same_upd (o := .tup [.ref p1, .ref p2, .ref p3]) hl
    have sA := t0.trans s2
    exact ⟨l, _, rfl, SqT.of upd_same, rfl, _, _, rfl, p1, _, rfl, SqT.of (sA _ _ hp1), rfl, _, _, rfl, _, _, rfl, rfl, _, _, rfl, p2, _, rfl, SqT.of (sA _ _ hp2), rfl, _, _, rfl, _, _, rfl, rfl, _, _, rfl, p3, _, rfl, SqT.of (sA _ _ hp3), rfl, _, _, rfl, _, _, rfl, rfl, rfl, rfl, sA⟩
  obtain ⟨rfl, t1⟩ := hM
  -- where it is 0
  refine ⟨fun σ H' => σ = [some (.ref p1), some (.ref p2), some (.ref p3), some (.int a), some (.int u), some (.int b), some (.int v), some (.int c), some (.int w), none, none, none, none, none] ∧ Same H H' ∧ PowP a b c u v w, ?_, fun σ H2 hM => ?_⟩
  · have nought : ¬ PowP a b c u v w → tRet (tCall (spExact C) [.int 1, .int 1] E0 (tCons (tC (.int 0)) tNil)) { nx := fun σ H' => σ = [some (.ref p1), some (.ref p2), some (.ref p3), some (.int a), some (.int u), some (.int b), some (.int v), some (.int c), some (.int w), none, none, none, none, none] ∧ Same H H' ∧ PowP a b c u v w, rt := Q } [some (.ref p1), some (.ref p2), some (.ref p3), some (.int a), some (.int u), some (.int b), some (.int v), some (.int c), some (.int w), none, none, none, none, none] H1 := fun nj => by
      refine ⟨0, 1, 1, 40, rfl, by decide, by decide, by decide, by decide, root_ok1, fun x H2 s2 hx hN => ?_⟩
      rw [exL_one, show oneL 1 0 1 = [] from if_pos rfl] at hN
      refine q x H2 (t1.trans s2) ?_
      rw [← pow_three P1 P2 P3]
      unfold powL
      rw [if_neg nj]
      exact hN
    refine ⟨_, rfl, _, rfl, _, rfl, a, b, c, rfl, _, rfl, ?_⟩
    cases ec : canB a b c with
    | false => exact iteT (iteT (nought fun z => by rw [z.1] at ec; cases ec))
    | true =>
      refine iteF ⟨_, rfl, _, rfl, u, v, rfl, rfl, _, rfl, u + v, w, rfl, rfl, rfl, _, rfl, ?_⟩
      by_cases e2 : u + v + w = 0
      · exact iteNS (congrArg V.int e2) ⟨rfl, t1, ec, e2⟩
      · exact iteNT (ine e2) (nought fun z => e2 z.2)
  obtain ⟨rfl, t2, J⟩ := hM
  obtain ⟨m1, m2, m3⟩ := hpow J
  have kp := keyP_of P1 P2 P3 J
  have bnd : 0 ≤ a ∧ a ≤ 40 ∧ 0 ≤ b ∧ b ≤ 40 ∧ 0 ≤ c ∧ c ≤ 40 ∧ -a ≤ u ∧ u ≤ a ∧ -b ≤ v ∧ v ≤ b ∧ -c ≤ w ∧ w ≤ c := ⟨P1.t0, P1.t1, P2.t0, P2.t1, P3.t0, P3.t1, P1.lo, P1.hi, P2.lo, P2.hi, P3.lo, P3.hi⟩
  obtain ⟨b1, b2, b3, b4, b5, b6, b7, b8, b9, b10, b11, b12⟩ := bnd
  obtain ⟨k1, k2, k3, k4⟩ := canB_iff.mp J.1
  have eA : (a + b - c) / 2 = ((pwA a b c : Nat) : Int) := by unfold pwA; omega
  have eB : (b + c - a) / 2 = ((pwB a b c : Nat) : Int) := by unfold pwB; omega
  have eC : (c + a - b) / 2 = ((pwC a b c : Nat) : Int) := by unfold pwC; omega
  -- p, q, r
  refine ⟨fun σ H' => σ = [some (.ref p1), some (.ref p2), some (.ref p3), some (.int a), some (.int u), some (.int b), some (.int v), some (.int c), some (.int w), some (.int (pwA a b c : Nat)), some (.int (pwB a b c : Nat)), some (.int (pwC a b c : Nat)), none, none] ∧ H' = H2, ?_, fun σ H3 hM => ?_⟩
  · refine ⟨_, rfl, _, rfl, a, b, rfl, rfl, _, rfl, a + b, c, rfl, rfl, a + b - c, 2, rfl, rfl, d2 _, _, rfl, _, rfl, b, c, rfl, rfl, _, rfl, b + c, a, rfl, rfl, b + c - a, 2, rfl, rfl, d2 _, _, rfl, _, rfl, c, a, rfl, rfl, _, rfl, c + a, b, rfl, rfl, c + a - b, 2, rfl, rfl, d2 _, _, _, _, rfl, ?_, rfl⟩
    rw [← eA, ← eB, ← eC]
    rfl
  obtain ⟨rfl, rfl⟩ := hM
  refine ⟨_, rfl, _, rfl, _, rfl, _, _, _, rfl, fun m hm hmax => ⟨m, 12, rfl, rfl, _, rfl, iteD0 ?_ ?_⟩⟩
  · simp only [List.mem_cons, List.not_mem_nil, or_false] at hm
    show ¬ (12 : Int) < m
    omega
  -- place
  refine ⟨fun σ H' => ∃ t : Addr, σ = [some (.ref p1), some (.ref p2), some (.ref p3), some (.int a), some (.int u), some (.int b), some (.int v), some (.int c), some (.int w), some (.int (pwA a b c : Nat)), some (.int (pwB a b c : Nat)), some (.int (pwC a b c : Nat)), some (.ref t), none] ∧ Same H H' ∧ H' t = some (.tup ((pwKey a u b v c w).map V.int)), ?_, fun σ H4 hM => ?_⟩
  · refine ⟨_, rfl, _, rfl, a, u, rfl, rfl, a + u, 2, rfl, rfl, d2 _, _, rfl, _, rfl, a, u, rfl, rfl, a - u, 2, rfl, rfl, d2 _, _, rfl, _, rfl, b, v, rfl, rfl, b + v, 2, rfl, rfl, d2 _, _, rfl, _, rfl, b, v, rfl, rfl, b - v, 2, rfl, rfl, d2 _, _, rfl, _, rfl, c, w, rfl, rfl, c + w, 2, rfl, rfl, d2 _, _, rfl, _, rfl, c, w, rfl, rfl, c - w, 2, rfl, rfl, d2 _, by show 6 ≤ sizeLine; decide, fun t ht => ?_⟩
    exact ⟨t, rfl, t2.trans (same_upd ht), upd_same⟩
  obtain ⟨t, rfl, t4, ht4⟩ := hM
  have eK : (pwKey a u b v c w).map V.int = natV (pwAb a u b v c w) := by
    unfold natV pwAb pwKey
    simp only [List.map_cons, List.map_nil]
    rw [show ((((a + u) / 2).toNat : Nat) : Int) = (a + u) / 2 by omega, show ((((a - u) / 2).toNat : Nat) : Int) = (a - u) / 2 by omega, show ((((b + v) / 2).toNat : Nat) : Int) = (b + v) / 2 by omega, show ((((b - v) / 2).toNat : Nat) : Int) = (b - v) / 2 by omega, show ((((c + w) / 2).toNat : Nat) : Int) = (c + w) / 2 by omega, show ((((c - w) / 2).toNat : Nat) : Int) = (c - w) / 2 by omega]
  have la := pwAb_lt P1 P2 P3
  have lb := pwBe_lt P1 P2 P3
  -- root
  refine ⟨fun σ H' => ∃ x : Addr, σ = [some (.ref p1), some (.ref p2), some (.ref p3), some (.int a), some (.int u), some (.int b), some (.int v), some (.int c), some (.int w), some (.int (pwA a b c : Nat)), some (.int (pwB a b c : Nat)), some (.int (pwC a b c : Nat)), some (.ref t), some (.ref x)] ∧ Same H H' ∧ H' t = some (.tup ((pwKey a u b v c w).map V.int)) ∧ NumAt C H' x (rootL (pwAb a u b v c w) (pwBe a b c)), ?_, fun σ H5 hM => ?_⟩
  · refine ⟨_, rfl, _, rfl, _, rfl, a, b, rfl, rfl, _, rfl, a + b, c, rfl, rfl, a + b + c, 2, rfl, rfl, d2 _, _, 1, rfl, rfl, _, rfl, _, rfl, _, rfl, by show 4 ≤ sizeLine; decide, fun t' ht' => ?_⟩
    have eb : HO.tup [V.int ((a + b + c) / 2 + 1), V.int (pwA a b c : Nat), V.int (pwB a b c : Nat), V.int (pwC a b c : Nat)] = .tup (natV (pwBe a b c)) := by
      unfold natV pwBe
      simp only [List.map_cons, List.map_nil]
      rw [show ((((a + b + c) / 2 + 1).toNat : Nat) : Int) = (a + b + c) / 2 + 1 by omega]
    have s5 := same_upd (o := .tup (natV (pwBe a b c))) ht'
    have h5 : upd H4 t' (.tup [V.int ((a + b + c) / 2 + 1), V.int (pwA a b c : Nat), V.int (pwB a b c : Nat), V.int (pwC a b c : Nat)]) = upd H4 t' (.tup (natV (pwBe a b c))) := by rw [eb]
    rw [h5]
    refine ⟨t, t', pwAb a u b v c w, pwBe a b c, rfl, s5 _ _ (by rw [ht4, eK]), upd_same, by show 0 < 6; decide, by show 6 ≤ 50; decide, by show 4 ≤ 50; decide, fun n hn => by have := la n hn; omega, fun n hn => by have := lb n hn; omega, fun x H6 s6 hx hN => ?_⟩
    exact ⟨x, rfl, (t4.trans s5).trans s6, s6 _ _ (s5 _ _ ht4), hN⟩
  obtain ⟨x, rfl, t5, ht5, hN5⟩ := hM
  -- times
  refine ⟨_, rfl, _, rfl, _, rfl, _, rfl, _, _, _, rfl, m1, m2, m3, fun d H6 s6 hd hD => ?_⟩
  have htk : H6 t = some (.tup ((kInt (pwKey a u b v c w)).map kV)) := by rw [kInt_kV]; exact s6 _ _ ht5
  obtain ⟨o, hg, eg⟩ : ∃ o, DGet H6 d (.ref t) o ∧ o.getD (.int 0) = .int (pwS a u b v c w) := by
    by_cases hm : pwKey a u b v c w ∈ powK (pwA a b c) (pwB a b c) (pwC a b c)
    · exact ⟨_, dget_entT_in kInt_inj hD htk hm, rfl⟩
    · refine ⟨_, dget_entT_out kInt_inj hD htk hm, ?_⟩
      have : pwS a u b v c w = 0 := by
        refine Classical.byContradiction fun z => hm ?_
        unfold powK
        refine List.mem_filter.mpr ⟨Classical.byContradiction fun y => z (sumAt_not y), decide_eq_true z⟩
      rw [this]
      rfl
  refine ⟨d, rfl, .inr ⟨_, .inl hD⟩, _, rfl, _, hg, ?_⟩
  refine ⟨pwS a u b v c w, 1, 1, 40, congrArg (fun z => [z, V.int 1, V.int 1]) eg, by decide, by decide, by decide, by decide, root_ok1, fun y H8 s10 hy hM => ?_⟩
  have hN8 := (hN5.same s6).same s10
  refine ⟨x, y, rootL (pwAb a u b v c w) (pwBe a b c), exL (pwS a u b v c w) 1 1, botE (pwAb a u b v c w) (pwBe a b c), 1, 2000, 900, 1500, 1, 200, rfl, hN8, hM, fit_rootL la (by show 6 ≤ 7; decide), fit_one (pwS_lt P1 P2 P3 J) (by decide), botE_pos _ _, by decide, botW_lt P1 P2 P3, by decide, by decide, by decide, by decide, by decide, by decide, by decide, by decide, by decide, by show 1 ≤ 60; decide, by rw [exL_one]; have := len_oneL 1 (pwS a u b v c w) 1; omega, by rw [exL_one]; have := len_oneL 1 (pwS a u b v c w) 1; show 1 * _ ≤ 900; omega, fun z N H9 s11 hz hNz fN vN lN => ?_⟩
  have bp := botE_pos (pwAb a u b v c w) (pwBe a b c)
  have tp := topE_pos (pwAb a u b v c w) (pwBe a b c)
  have rp := (rootE_sqF (pwAb a u b v c w) (pwBe a b c)).pos
  have eN := times_one (r := ((rootE (pwAb a u b v c w) (pwBe a b c) : Nat) : Int)) (q := Rat.divInt ((topE (pwAb a u b v c w) (pwBe a b c) : Nat) : Int) ((botE (pwAb a u b v c w) (pwBe a b c) : Nat) : Int)) (by omega) (divInt_ne (by omega) (by omega)) fN.can vN
  refine q z H9 (((t5.trans s6).trans s10).trans s11) ?_
  rw [← pow_three P1 P2 P3]
  unfold powL
  rw [if_pos J, ← eN]
  exact hNz
end
end TC
namespace TB
open TC PySem PySem.Spec PyProof.Rows L2 TCX
theorem iteNT {c A B : Prop} [Decidable c] (hc : ¬ c) (h : A) : if (!decide c) = true then A else B := by
  rw [decide_eq_false hc]
  exact iteT h
theorem iteD1 {c A B : Prop} [Decidable c] (hc : c) (h : A) : if decide c = true then A else B := by
  rw [decide_eq_true hc]
  exact iteT h
theorem iteD0 {c A B : Prop} [Decidable c] (hc : ¬ c) (h : B) : if decide c = true then A else B := by
  rw [decide_eq_false hc]
  exact iteF h
theorem iteB {b : Bool} {A B : Prop} (h1 : b = true → A) (h2 : b = false → B) : if b = true then A else B := by
  cases b
  · exact iteF (h2 rfl)
  · exact iteT (h1 rfl)
theorem ine {a b : Int} (h : a ≠ b) : ¬ (V.int a = V.int b) := fun e => h (V.int.inj e)
theorem same_upd {H : Hp} {p : Addr} {o : HO} (h : H p = none) : Same H (upd H p o) := fun b x e => by
  rw [upd_ne (ne_of_none e h)]
  exact e
theorem TyX.same {K : PySem.W.Frag} {H H' : Hp} {v : V} {t : Value} (h : TyX K H v t) (s : Same H H') : TyX K H' v t := by
  cases h with
  | base b =>
    cases b with
    | non => exact .base .non
    | bl y => exact .base (.bl y)
    | int i => exact .base (.int i)
    | str y => exact .base (.str y)
    | flt y => exact .base (.flt y)
    | lst e => exact .base (.lst (s _ _ e))
    | frz e => exact .base (.frz (s _ _ e))
    | tup e => exact .base (.tup (s _ _ e))
    | dK e => exact .base (.dK (s _ _ e))
    | dT e => exact .base (.dT (s _ _ e))
    | ins e cl ha hn htk hm => exact .base (.ins (s _ _ e) cl ha hn htk hm)
  | byt y => exact .byt y
  | set e => exact .set (s _ _ e)
  | kList e c => exact .kList e c
  | kTuple e c => exact .kTuple e c
  | kDict e c => exact .kDict e c
  | fTuple e => exact .fTuple (s _ _ e)
  | fDict e => exact .fDict (s _ _ e)
/-- no whole number -/
def NotInt (K : PySem.W.Frag) (H : Hp) (v : V) : Prop := ∃ (t : Value) (bi bb : Bool), TyX K H v t ∧ PySem.W.kitOne K t (.type "int") = some bi ∧ PySem.W.kitOne K t (.type "bool") = some bb ∧ (bi && !bb) = false
/-- whether v is a size -/
def Siz (K : PySem.W.Frag) (H : Hp) (v : V) (b : Bool) : Prop := (∃ n : Int, v = .int n ∧ b = (decide (0 ≤ n) && decide (n ≤ 40))) ∨ (b = false ∧ NotInt K H v)
theorem NotInt.same {K : PySem.W.Frag} {H H' : Hp} {v : V} (h : NotInt K H v) (s : Same H H') : NotInt K H' v := by
  obtain ⟨t, bi, bb, h1, h2⟩ := h
  exact ⟨t, bi, bb, TyX.same h1 s, h2⟩
theorem Siz.same {K : PySem.W.Frag} {H H' : Hp} {v : V} {b : Bool} (h : Siz K H v b) (s : Same H H') : Siz K H' v b := by
  rcases h with h | ⟨e, h⟩
  · exact .inl h
  · exact .inr ⟨e, h.same s⟩
theorem Siz.int {K : PySem.W.Frag} {H : Hp} {n : Int} (h0 : 0 ≤ n) (h1 : n ≤ 40) : Siz K H (.int n) true := .inl ⟨n, rfl, by rw [decide_eq_true h0, decide_eq_true h1]; rfl⟩
section
variable {P : Program} {w : World} {K : PySem.W.Frag} {mg : Str → Option Value} {base : Heap} {f : Addr} {fd : FuncData}
/-! ### is_whole -/
def spWhole (K : PySem.W.Frag) : Sp := fun vs H Q _ => (∃ n : Int, vs = [.int n] ∧ Q (.bl true) H) ∨ ∃ v, vs = [v] ∧ NotInt K H v ∧ Q (.bl false) H
theorem scWhole : FnScope ["thing"] ["thing"] (defScope sWhole) := ⟨rfl, rfl, rfl, by decide +kernel, rfl, by decide +kernel, by decide +kernel⟩
theorem ok_whole (F : FnP K "is_whole" sWhole f fd) (gI : mg "isinstance" = none) (gi : mg "int" = none) (gb : mg "bool" = none) : FnOk P w K mg base CX0 1 f fd ["thing"] (spWhole K) := by
  refine F.ok scWhole (fun vs H Q E h => ?_) (fun cdv A outer s H vs Q E hr h => ?_)
  · rcases h with ⟨n, rfl, _⟩ | ⟨v, rfl, _⟩ <;> rfl
  · refine ⟨_, PSs.nox (pss_one (ps_ret (pe_and (pe_callB call_isi (by rfl) gI (by decide +kernel) (pa_cons (pv 0) (pa_cons (pe_bltn (v := .ty "int") (by rfl) gi (by decide +kernel) rfl) pa_nil)))
      (pe_one (pe_not (pe_callB call_isi (by rfl) gI (by decide +kernel) (pa_cons (pv 0) (pa_cons (pe_bltn (v := .ty "bool") (by rfl) gb (by decide +kernel) rfl) pa_nil)))))))), ?_⟩
    rcases h with ⟨n, rfl, q⟩ | ⟨v, rfl, ⟨t, bi, bb, ty, ki, kb, e⟩, q⟩
    · refine ⟨_, rfl, _, _, _, _, true, rfl, .ty "int", .base (.int n), kit_ty (by decide +kernel), true, rfl, iteT ?_⟩
      exact ⟨_, rfl, _, _, _, _, false, rfl, .ty "bool", .base (.int n), kit_ty (by decide +kernel), false, rfl, q⟩
    · refine ⟨_, rfl, _, _, _, _, bi, rfl, .ty "int", ty, ki, bi, rfl, iteB (fun z => ?_) fun z => ?_⟩
      · subst z
        refine ⟨_, rfl, _, _, _, _, bb, rfl, .ty "bool", ty, kb, bb, rfl, ?_⟩
        have e2 : (!bb) = false := e
        rw [e2]
        exact q
      · exact q
/-! ### is_odd -/
def spOdd : Sp := fun vs H Q _ => ∃ n : Int, vs = [.int n] ∧ Q (.bl (decide (n % 2 = 1))) H
theorem scOdd : FnScope ["number"] ["number"] (defScope sOdd) := ⟨rfl, rfl, rfl, by decide +kernel, rfl, by decide +kernel, by decide +kernel⟩
theorem dec_int {a b : Int} : decide (V.int a = V.int b) = decide (a = b) := by
  by_cases h : a = b
  · rw [decide_eq_true h, decide_eq_true (congrArg V.int h)]
  · rw [decide_eq_false h, decide_eq_false (ine h)]
theorem ok_odd (F : FnP K "is_odd" sOdd f fd) : FnOk P w K mg base CX0 1 f fd ["number"] spOdd := by
  refine F.ok scOdd (fun vs H Q E h => ?_) (fun cdv A outer s H vs Q E hr h => ?_)
  · obtain ⟨n, rfl, _⟩ := h
    rfl
  · obtain ⟨n, rfl, q⟩ := h
    refine ⟨_, PSs.nox (pss_one (ps_ret (pe_cmpR op_eq (pe_op op_mod (pv 0) pe_int) pe_int (nomark _)))), ?_⟩
    refine ⟨_, rfl, n, 2, rfl, rfl, (show (0 : Int) < 2 by decide), rfl, ?_⟩
    rw [dec_int]
    exact q
/-! ### is_size -/
def spIsSize (K : PySem.W.Frag) : Sp := fun vs H Q _ => ∃ v b, vs = [v] ∧ Siz K H v b ∧ Q (.bl b) H
theorem scIsSize : FnScope ["thing"] ["thing"] (defScope sIsSize) := ⟨rfl, rfl, rfl, by decide +kernel, rfl, by decide +kernel, by decide +kernel⟩
theorem ok_isSize {fW : Addr} {fdW : FuncData} {t40 : Tok} (F : FnP K "is_size" sIsSize f fd) (GW : FnOk P w K mg base CX0 1 fW fdW ["thing"] (spWhole K)) (bW : L2.Binds K fdW ["thing"] []) (kW : PySem.W.keepIn K (.ref fW) = true) (gW : mg "is_whole" = some (.ref fW)) (gH : mg "HIGHEST_SIZE" = some (.int 40 t40)) :
    FnOk P w K mg base CX0 2 f fd ["thing"] (spIsSize K) := by
  refine F.ok scIsSize (fun vs H Q E h => ?_) (fun cdv A outer s H vs Q E hr h => ?_)
  · obtain ⟨v, b, rfl, _⟩ := h
    rfl
  · refine ⟨_, PSs.nox (pss_one (ps_ret (pe_and (pe_call GW hr (by rfl) gW kW bW .nil pass0 (pa_cons (pv 0) pa_nil))
      (pe_one (pe_chain op_le op_le pe_int (pv 0) (pe_glob (v := .int 40) (by rfl) gH ⟨_, rfl⟩)))))), ?_⟩
    obtain ⟨v, b, rfl, ⟨n, rfl, e⟩ | ⟨e, z⟩, q⟩ := h
    · refine ⟨_, rfl, .inl ⟨n, rfl, true, rfl, iteT ?_⟩⟩
      subst e
      refine ⟨_, rfl, 0, n, rfl, rfl, _, rfl, iteB (fun h => ?_) fun h => ?_⟩
      · rw [h] at q
        exact ⟨n, 40, rfl, rfl, q⟩
      · rw [h] at q
        exact q
    · subst e
      exact ⟨_, rfl, .inr ⟨v, rfl, z, false, rfl, iteF q⟩⟩
/-! ### need_sizes -/
def spNeed (K : PySem.W.Frag) (CS : Addr) : Sp := fun vs H Q E => ∃ (a : Addr) (xs : List V) (bs : List Bool), vs = [.ref a] ∧ SqL K H a xs ∧ Paired (Siz K H) xs bs ∧ (bs.all id = true → Q .non H) ∧ (bs.all id = false → E (.ref CS) none H)
theorem scNeed : FnScope ["things", "thing"] ["things"] (defScope sNeedSizes) := ⟨rfl, rfl, rfl, by decide +kernel, rfl, by decide +kernel, by decide +kernel⟩
/-- what the program's text says of an exception class without fields -/
structure XTxt (K : PySem.W.Frag) (mg : Str → Option Value) (x : Str) (C : Addr) : Prop where
  g : mg x = some (.ref C)
  e : PySem.W.excIn K C He.veBase "ValueError.__new__" = true
  k : PySem.W.keepIn K (.ref C) = true
  b : PySem.W.subIn K (.ref C) (.type "BaseException") = some true
  t : PySem.W.typeIn K (.ref C) = some (.type "type")
theorem paired_at {α β : Type} {R : α → β → Prop} : ∀ {xs : List α} {ys : List β}, Paired R xs ys → ∀ (i : Nat) (x : α), xs[i]? = some x → ∃ y, ys[i]? = some y ∧ R x y
  | _, _, .nil, i, x, h => by cases h
  | _, _, .cons r t, 0, x, h => by
    cases h
    exact ⟨_, rfl, r⟩
  | _, _, .cons r t, i + 1, x, h => paired_at t i x h
theorem paired_len {α β : Type} {R : α → β → Prop} : ∀ {xs : List α} {ys : List β}, Paired R xs ys → xs.length = ys.length
  | _, _, .nil => rfl
  | _, _, .cons r t => congrArg (· + 1) (paired_len t)
theorem all_take {bs : List Bool} {i : Nat} {b : Bool} (h : (bs.take i).all id = true) (hb : bs[i]? = some b) (h2 : b = true) : (bs.take (i + 1)).all id = true := by
  rw [List.take_add_one, List.all_append, h, hb]
  subst h2
  rfl
theorem all_false {bs : List Bool} {i : Nat} (hb : bs[i]? = some false) : bs.all id = false := by
  refine List.all_eq_false.mpr ⟨false, List.mem_of_getElem? hb, fun z => Bool.noConfusion z⟩
theorem ok_need {fS CS : Addr} {fdS : FuncData} (F : FnP K "need_sizes" sNeedSizes f fd) (GS : FnOk P w K mg base CX0 2 fS fdS ["thing"] (spIsSize K)) (bS : L2.Binds K fdS ["thing"] []) (kS : PySem.W.keepIn K (.ref fS) = true) (gS : mg "is_size" = some (.ref fS)) (T : XTxt K mg "NoSize" CS) :
    FnOk P w K mg base (L2.CX P w) 3 f fd ["things"] (spNeed K CS) := by
  refine F.ok scNeed (fun vs H Q E h => ?_) (fun cdv A outer s H vs Q E hr h => ?_)
  · obtain ⟨a, xs, bs, rfl, _⟩ := h
    rfl
  · obtain ⟨a, xs, bs, rfl, hS, hp, hq, he⟩ := h
    refine ⟨_, pss_one (ps_for (passes_of rfl) rfl (pi_list (pv 0)) (pg_name (i := 1) scNeed.nd rfl (.inl rfl))
      (pss_one (ps_if (pt_not (pt_val (pe_call GS hr (by rfl) gS kS bS .nil pass0 (pa_cons (pv 1) pa_nil))))
        (pss_one (ps_raise rfl (takes_of rfl rfl rfl rfl) (pmk_own PySem.F.excBase_ValueError T.e T.g T.k (raises_own T.b T.t) rfl))) pss_nil))), ?_⟩
    refine ⟨_, rfl, a, rfl, ⟨_, hS⟩, for_list (K := K) (a := a) (xs := xs) (fun i σ H' => (∃ y, σ = [some (.ref a), y]) ∧ H' = H ∧ (bs.take i).all id = true) ⟨⟨none, rfl⟩, rfl, rfl⟩ (fun i σ H' _ z => by rw [z.2.1]; exact hS) (fun i x σ H' hx z => ?_) (fun σ H' z => ?_)⟩
    · obtain ⟨⟨y, rfl⟩, rfl, hb⟩ := z
      obtain ⟨b, hbi, hs⟩ := paired_at hp i x hx
      refine ⟨_, rfl, x, b, rfl, hs, b, rfl, ?_⟩
      cases b with
      | true => exact iteF ⟨⟨_, rfl⟩, rfl, all_take hb hbi rfl⟩
      | false => exact iteT (he (all_false hbi))
    · obtain ⟨⟨y, rfl⟩, rfl, hb⟩ := z
      rw [paired_len hp, List.take_length] at hb
      exact hq hb
end
end TB
namespace TB
open TC PySem PySem.Spec PyProof.Rows L2 TCA TCX
section
variable {P : Program} {w : World} {K : PySem.W.Frag} {mg : Str → Option Value} {base : Heap} {f : Addr} {fd : FuncData} {CS CT : Addr}
/-! ### need_sizes of a tuple -/
def spNeedT (K : PySem.W.Frag) (CS : Addr) : Sp := fun vs H Q E => ∃ (a : Addr) (xs : List V) (bs : List Bool), vs = [.ref a] ∧ H a = some (.tup xs) ∧ Paired (Siz K H) xs bs ∧ (bs.all id = true → Q .non H) ∧ (bs.all id = false → E (.ref CS) none H)
theorem ok_needT {fS CS : Addr} {fdS : FuncData} (F : FnP K "need_sizes" sNeedSizes f fd) (GS : FnOk P w K mg base CX0 2 fS fdS ["thing"] (spIsSize K)) (bS : L2.Binds K fdS ["thing"] []) (kS : PySem.W.keepIn K (.ref fS) = true) (gS : mg "is_size" = some (.ref fS)) (T : XTxt K mg "NoSize" CS) :
    FnOk P w K mg base (L2.CX P w) 3 f fd ["things"] (spNeedT K CS) := by
  refine F.ok scNeed (fun vs H Q E h => ?_) (fun cdv A outer s H vs Q E hr h => ?_)
  · obtain ⟨a, xs, bs, rfl, _⟩ := h
    rfl
  · obtain ⟨a, xs, bs, rfl, hS, hp, hq, he⟩ := h
    refine ⟨_, pss_one (ps_for (passes_of rfl) rfl (pi_tup (pv 0)) (pg_name (i := 1) scNeed.nd rfl (.inl rfl))
      (pss_one (ps_if (pt_not (pt_val (pe_call GS hr (by rfl) gS kS bS .nil pass0 (pa_cons (pv 1) pa_nil))))
        (pss_one (ps_raise rfl (takes_of rfl rfl rfl rfl) (pmk_own PySem.F.excBase_ValueError T.e T.g T.k (raises_own T.b T.t) rfl))) pss_nil))), ?_⟩
    refine ⟨_, rfl, a, rfl, ⟨_, SqT.of hS⟩, for_tup (K := K) (a := a) (xs := xs) (fun i σ H' => (∃ y, σ = [some (.ref a), y]) ∧ H' = H ∧ (bs.take i).all id = true) ⟨⟨none, rfl⟩, rfl, rfl⟩ (fun i σ H' _ z => by rw [z.2.1]; exact SqT.of hS) (fun i x σ H' hx z => ?_) (fun σ H' z => ?_)⟩
    · obtain ⟨⟨y, rfl⟩, rfl, hb⟩ := z
      obtain ⟨b, hbi, hs⟩ := paired_at hp i x hx
      refine ⟨_, rfl, x, b, rfl, hs, b, rfl, ?_⟩
      cases b with
      | true => exact iteF ⟨⟨_, rfl⟩, rfl, all_take hb hbi rfl⟩
      | false => exact iteT (he (all_false hbi))
    · obtain ⟨⟨y, rfl⟩, rfl, hb⟩ := z
      rw [paired_len hp, List.take_length] at hb
      exact hq hb
end
end TB
namespace TB
open TC PySem PySem.Spec PyProof.Rows L2 TCX
/-- what _law_word reads of the module -/
structure WTxt (K : PySem.W.Frag) (mg : Str → Option Value) : Prop where
  g : ∀ (i : Nat) {x : Str}, clsN[i]? = some x → mg x = some (.ref (He.ga K x))
  gT : mg "TurnError" = some (.ref (He.ga K "TurnError"))
  gV : mg "ValueError" = none
  gZ : mg "ZeroDivisionError" = none
  gK : mg "KeyError" = none
  gI : mg "IndexError" = none
  gL : mg "LookupError" = none
  is : mg "isinstance" = none
section
variable {P : Program} {w : World} {K : PySem.W.Frag} {mg : Str → Option Value} {base : Heap} {f : Addr} {fd : FuncData}
/-! ### _law_word -/
def spWord (K : PySem.W.Frag) : Sp := fun vs H Q _ => ∃ (a D : Addr) (n : Nat), vs = [.ref a] ∧ H a = some (ExV (.ref D) none a) ∧ KindF K D n ∧ n < 22 ∧ ∀ H', Same H H' → Q (.str (words.getD n "")) H'
theorem scWord : FnScope ["_law_e", "_law_words", "_law_some", "_law_at", "_law_under"] ["_law_e"] (defScope sWord) := ⟨rfl, rfl, rfl, by decide +kernel, rfl, by decide +kernel, by decide +kernel⟩
def bits (n : Nat) : List Bool := (List.range 22).map fun i => i == n
theorem bits_all : ∀ n, n < 22 → (((bits n).map V.bl).countP fun z => eqV z (.bl true)) = 1 ∧ (bits n)[n]? = some true ∧ (∀ m, m < n → (bits n)[m]? = some false) := by decide
theorem words_at : ∀ n, n < 22 → words[n]? = some (words.getD n "") := by decide
theorem ok_word (F : FnP K "_law_word" sWord f fd) (T : WTxt K mg) : FnOk P w K mg base CX0 1 f fd ["_law_e"] (spWord K) := by
  refine F.ok scWord (fun vs H Q E h => ?_) (fun cdv A outer s H vs Q E hr h => ?_)
  · obtain ⟨_, _, _, rfl, _⟩ := h
    rfl
  · obtain ⟨a, D, n, rfl, ha, kd, n22, q⟩ := h
    refine ⟨_, PSs.nox
    (pss_cons (ps_set (i := 1) scWord.nd rfl (.inl rfl) (pe_lst (pa_cons pe_str (pa_cons pe_str (pa_cons pe_str (pa_cons pe_str (pa_cons pe_str (pa_cons pe_str (pa_cons pe_str (pa_cons pe_str (pa_cons pe_str (pa_cons pe_str (pa_cons pe_str pa_nil)))))))))))))
    (C8.pss_cut (ps_set (i := 1) scWord.nd rfl (.inl rfl) (pe_op op_cat (pv 1) (pe_lst (pa_cons pe_str (pa_cons pe_str (pa_cons pe_str (pa_cons pe_str (pa_cons pe_str (pa_cons pe_str (pa_cons pe_str (pa_cons pe_str (pa_cons pe_str (pa_cons pe_str (pa_cons pe_str pa_nil))))))))))))))
    (C8.pss_cut (ps_set (i := 2) scWord.nd rfl (.inl rfl) (pe_lst (pa_cons (pe_callB call_isV (by rfl) T.is (by decide +kernel) (pa_cons (pv 0) (pa_cons (pe_glob (v := .ref (He.ga K "Empty")) (by rfl) (T.g 0 rfl) rfl) pa_nil))) (pa_cons (pe_callB call_isV (by rfl) T.is (by decide +kernel) (pa_cons (pv 0) (pa_cons (pe_glob (v := .ref (He.ga K "NoDeed")) (by rfl) (T.g 1 rfl) rfl) pa_nil))) (pa_cons (pe_callB call_isV (by rfl) T.is (by decide +kernel) (pa_cons (pv 0) (pa_cons (pe_glob (v := .ref (He.ga K "NoHalf")) (by rfl) (T.g 2 rfl) rfl) pa_nil))) (pa_cons (pe_callB call_isV (by rfl) T.is (by decide +kernel) (pa_cons (pv 0) (pa_cons (pe_glob (v := .ref (He.ga K "NoLinking")) (by rfl) (T.g 3 rfl) rfl) pa_nil))) pa_nil))))))
    (C8.pss_cut (ps_set (i := 2) scWord.nd rfl (.inl rfl) (pe_op op_cat (pv 2) (pe_lst (pa_cons (pe_callB call_isV (by rfl) T.is (by decide +kernel) (pa_cons (pv 0) (pa_cons (pe_glob (v := .ref (He.ga K "NoNet")) (by rfl) (T.g 4 rfl) rfl) pa_nil))) (pa_cons (pe_callB call_isV (by rfl) T.is (by decide +kernel) (pa_cons (pv 0) (pa_cons (pe_glob (v := .ref (He.ga K "NoNumber")) (by rfl) (T.g 5 rfl) rfl) pa_nil))) (pa_cons (pe_callB call_isV (by rfl) T.is (by decide +kernel) (pa_cons (pv 0) (pa_cons (pe_glob (v := .ref (He.ga K "NoOffset")) (by rfl) (T.g 6 rfl) rfl) pa_nil))) (pa_cons (pe_callB call_isV (by rfl) T.is (by decide +kernel) (pa_cons (pv 0) (pa_cons (pe_glob (v := .ref (He.ga K "NoQuestion")) (by rfl) (T.g 7 rfl) rfl) pa_nil))) pa_nil)))))))
    (C8.pss_cut (ps_set (i := 2) scWord.nd rfl (.inl rfl) (pe_op op_cat (pv 2) (pe_lst (pa_cons (pe_callB call_isV (by rfl) T.is (by decide +kernel) (pa_cons (pv 0) (pa_cons (pe_glob (v := .ref (He.ga K "NoRow")) (by rfl) (T.g 8 rfl) rfl) pa_nil))) (pa_cons (pe_callB call_isV (by rfl) T.is (by decide +kernel) (pa_cons (pv 0) (pa_cons (pe_glob (v := .ref (He.ga K "NoSize")) (by rfl) (T.g 9 rfl) rfl) pa_nil))) (pa_cons (pe_callB call_isV (by rfl) T.is (by decide +kernel) (pa_cons (pv 0) (pa_cons (pe_glob (v := .ref (He.ga K "NoStanding")) (by rfl) (T.g 10 rfl) rfl) pa_nil))) (pa_cons (pe_callB call_isV (by rfl) T.is (by decide +kernel) (pa_cons (pv 0) (pa_cons (pe_glob (v := .ref (He.ga K "NoTable")) (by rfl) (T.g 11 rfl) rfl) pa_nil))) pa_nil)))))))
    (C8.pss_cut (ps_set (i := 2) scWord.nd rfl (.inl rfl) (pe_op op_cat (pv 2) (pe_lst (pa_cons (pe_callB call_isV (by rfl) T.is (by decide +kernel) (pa_cons (pv 0) (pa_cons (pe_glob (v := .ref (He.ga K "NoText")) (by rfl) (T.g 12 rfl) rfl) pa_nil))) (pa_cons (pe_callB call_isV (by rfl) T.is (by decide +kernel) (pa_cons (pv 0) (pa_cons (pe_glob (v := .ref (He.ga K "NotParted")) (by rfl) (T.g 13 rfl) rfl) pa_nil))) (pa_cons (pe_callB call_isV (by rfl) T.is (by decide +kernel) (pa_cons (pv 0) (pa_cons (pe_glob (v := .ref (He.ga K "NoTree")) (by rfl) (T.g 14 rfl) rfl) pa_nil))) (pa_cons (pe_callB call_isV (by rfl) T.is (by decide +kernel) (pa_cons (pv 0) (pa_cons (pe_glob (v := .ref (He.ga K "NoTriple")) (by rfl) (T.g 15 rfl) rfl) pa_nil))) pa_nil)))))))
    (C8.pss_cut (ps_set (i := 2) scWord.nd rfl (.inl rfl) (pe_op op_cat (pv 2) (pe_lst (pa_cons (pe_callB call_isV (by rfl) T.is (by decide +kernel) (pa_cons (pv 0) (pa_cons (pe_glob (v := .ref (He.ga K "NoWay")) (by rfl) (T.g 16 rfl) rfl) pa_nil))) (pa_cons (pe_callB call_isV (by rfl) T.is (by decide +kernel) (pa_cons (pv 0) (pa_cons (pe_glob (v := .ref (He.ga K "TooWide")) (by rfl) (T.g 17 rfl) rfl) pa_nil))) (pa_cons (pe_callB call_isV (by rfl) T.is (by decide +kernel) (pa_cons (pv 0) (pa_cons (pe_glob (v := .ref (He.ga K "ByNought")) (by rfl) (T.g 18 rfl) rfl) pa_nil))) (pa_cons (pe_callB call_isV (by rfl) T.is (by decide +kernel) (pa_cons (pv 0) (pa_cons (pe_glob (v := .ref (He.ga K "NoName")) (by rfl) (T.g 19 rfl) rfl) pa_nil))) pa_nil)))))))
    (C8.pss_cut (ps_set (i := 2) scWord.nd rfl (.inl rfl) (pe_op op_cat (pv 2) (pe_lst (pa_cons (pe_callB call_isV (by rfl) T.is (by decide +kernel) (pa_cons (pv 0) (pa_cons (pe_glob (v := .ref (He.ga K "NoPlace")) (by rfl) (T.g 20 rfl) rfl) pa_nil))) (pa_cons (pe_callB call_isV (by rfl) T.is (by decide +kernel) (pa_cons (pv 0) (pa_cons (pe_glob (v := .ref (He.ga K "NothingDone")) (by rfl) (T.g 21 rfl) rfl) pa_nil))) pa_nil)))))
    (pss_cons (ps_if (pt_cmpR op_ne (pe_bm PySem.F.plainAttrs_list PySem.F.slot_list_count PySem.F.type_list_count mt_count (pv 2) (pa_cons pe_bl pa_nil)) pe_int (nomark _)) (pss_one (ps_ret pe_str)) pss_nil)
    (pss_cons (ps_set (i := 3) scWord.nd rfl (.inl rfl) (pe_bm PySem.F.plainAttrs_list PySem.F.slot_list_index PySem.F.type_list_index mt_index (pv 2) (pa_cons pe_bl pa_nil)))
    (pss_cons (ps_if (pt_cmpR op_lt (pv 3) pe_int (nomark _)) (pss_one (ps_ret (pe_ifExp (PW.pt (pw_and (pt_val (pe_callB call_isV (by rfl) T.is (by decide +kernel) (pa_cons (pv 0) (pa_cons (pe_glob (v := .ref (He.ga K "TurnError")) (by rfl) T.gT rfl) pa_nil)))) (pw_and1 (pt_val (pe_callB call_isV (by rfl) T.is (by decide +kernel) (pa_cons (pv 0) (pa_cons (pe_bltn (v := .ty "ValueError") (by rfl) T.gV (by decide +kernel) rfl) pa_nil))))))) (pe_ix ix_list (pv 1) (pv 3) (fun _ _ => rfl)) pe_str))) pss_nil)
    (C8.pss_cut (ps_set (i := 4) scWord.nd rfl (.inl rfl) (pe_lst (pa_cons (pe_callB call_isV (by rfl) T.is (by decide +kernel) (pa_cons (pv 0) (pa_cons (pe_bltn (v := .ty "ZeroDivisionError") (by rfl) T.gZ (by decide +kernel) rfl) pa_nil))) (pa_cons (pe_callB call_isV (by rfl) T.is (by decide +kernel) (pa_cons (pv 0) (pa_cons (pe_bltn (v := .ty "KeyError") (by rfl) T.gK (by decide +kernel) rfl) pa_nil))) (pa_cons (pe_callB call_isV (by rfl) T.is (by decide +kernel) (pa_cons (pv 0) (pa_cons (pe_bltn (v := .ty "IndexError") (by rfl) T.gI (by decide +kernel) rfl) pa_nil))) pa_nil)))))
    (C8.pss_cut (ps_expr (pe_bm PySem.F.plainAttrs_list PySem.F.slot_list_append PySem.F.type_list_append mt_append (pv 4) (pa_cons (pe_and (pe_callB call_isV (by rfl) T.is (by decide +kernel) (pa_cons (pv 0) (pa_cons (pe_bltn (v := .ty "LookupError") (by rfl) T.gL (by decide +kernel) rfl) pa_nil))) (pe_one (pe_not (pe_callB call_isVT (by rfl) T.is (by decide +kernel) (pa_cons (pv 0) (pa_cons (pe_tup (pa_cons (pe_bltn (v := .ty "KeyError") (by rfl) T.gK (by decide +kernel) rfl) (pa_cons (pe_bltn (v := .ty "IndexError") (by rfl) T.gI (by decide +kernel) rfl) pa_nil))) pa_nil)))))) pa_nil)))
      (pss_one (ps_ret (pe_ifExp (PW.pt (pw_and (pt_val (pe_ix ix_list (pv 4) (pe_op op_sub (pv 3) pe_int) (fun _ _ => rfl))) (pw_and1 (pt_not (pt_val (pe_callB call_isV (by rfl) T.is (by decide +kernel) (pa_cons (pv 0) (pa_cons (pe_glob (v := .ref (He.ga K "TurnError")) (by rfl) T.gT rfl) pa_nil)))))))) (pe_ix ix_list (pv 1) (pv 3) (fun _ _ => rfl)) pe_str)))))))))))))))), ?_⟩
    refine ⟨by show 11 ≤ sizeLine; decide, fun l0 hl0 => ?_⟩
    have s0 := same_upd (o := .lst ((words.take 11).map V.str)) hl0
    refine ⟨fun σ H1 => ∃ pw, σ = [some (.ref a), some (.ref pw), none, none, none] ∧ H1 pw = some (.lst (words.map V.str)) ∧ Same H H1, ?_, fun σ1 H1 h1 => ?_⟩
    · refine ⟨_, rfl, by show 11 ≤ sizeLine; decide, fun l1 hl1 => ?_⟩
      have s1 := same_upd (o := .lst ((words.drop 11).map V.str)) hl1
      refine ⟨_, _, _, _, rfl, rfl, s1 _ _ upd_same, upd_same, by show 22 ≤ sizeLine; decide, fun p hp => ?_⟩
      exact ⟨p, rfl, upd_same, (s0.trans s1).trans (same_upd hp)⟩
    obtain ⟨pw, rfl, hw, sm⟩ := h1
    have ha0 := sm _ _ ha
    refine ⟨fun σ H2 => ∃ ps, σ = [some (.ref a), some (.ref pw), some (.ref ps), none, none] ∧ H2 pw = some (.lst (words.map V.str)) ∧ H2 ps = some (.lst (((bits n).take 4).map V.bl)) ∧ Same H H2, ?_, fun σ2 H2 h2 => ?_⟩
    · refine ⟨_, rfl, a, D, _, _, _, rfl, ha0, kd.ec, fun _ r => r, kd.kits.at 0 rfl, _, rfl, a, D, _, _, _, rfl, ha0, kd.ec, fun _ r => r, kd.kits.at 1 rfl, _, rfl, a, D, _, _, _, rfl, ha0, kd.ec, fun _ r => r, kd.kits.at 2 rfl, _, rfl, a, D, _, _, _, rfl, ha0, kd.ec, fun _ r => r, kd.kits.at 3 rfl, by show 4 ≤ sizeLine; decide, fun l hl => ?_⟩
      exact ⟨l, rfl, (same_upd hl) _ _ hw, upd_same, sm.trans (same_upd hl)⟩
    obtain ⟨ps, rfl, hw, hs, sm⟩ := h2
    have ha1 := sm _ _ ha
    refine ⟨fun σ H3 => ∃ ps, σ = [some (.ref a), some (.ref pw), some (.ref ps), none, none] ∧ H3 pw = some (.lst (words.map V.str)) ∧ H3 ps = some (.lst (((bits n).take 8).map V.bl)) ∧ Same H H3, ?_, fun σ2 H3 h2 => ?_⟩
    · refine ⟨_, rfl, _, rfl, a, D, _, _, _, rfl, ha1, kd.ec, fun _ r => r, kd.kits.at 4 rfl, _, rfl, a, D, _, _, _, rfl, ha1, kd.ec, fun _ r => r, kd.kits.at 5 rfl, _, rfl, a, D, _, _, _, rfl, ha1, kd.ec, fun _ r => r, kd.kits.at 6 rfl, _, rfl, a, D, _, _, _, rfl, ha1, kd.ec, fun _ r => r, kd.kits.at 7 rfl, by show 4 ≤ sizeLine; decide, fun l hl => ?_⟩
      have s1 := same_upd (o := .lst (([4 == n, 5 == n, 6 == n, 7 == n] : List Bool).map V.bl)) hl
      refine ⟨_, _, _, _, rfl, rfl, s1 _ _ hs, upd_same, by show 8 ≤ sizeLine; decide, fun p hp => ?_⟩
      exact ⟨p, rfl, (same_upd hp) _ _ (s1 _ _ hw), upd_same, (sm.trans s1).trans (same_upd hp)⟩
    obtain ⟨ps, rfl, hw, hs, sm⟩ := h2
    have ha2 := sm _ _ ha
    refine ⟨fun σ H4 => ∃ ps, σ = [some (.ref a), some (.ref pw), some (.ref ps), none, none] ∧ H4 pw = some (.lst (words.map V.str)) ∧ H4 ps = some (.lst (((bits n).take 12).map V.bl)) ∧ Same H H4, ?_, fun σ2 H4 h2 => ?_⟩
    · refine ⟨_, rfl, _, rfl, a, D, _, _, _, rfl, ha2, kd.ec, fun _ r => r, kd.kits.at 8 rfl, _, rfl, a, D, _, _, _, rfl, ha2, kd.ec, fun _ r => r, kd.kits.at 9 rfl, _, rfl, a, D, _, _, _, rfl, ha2, kd.ec, fun _ r => r, kd.kits.at 10 rfl, _, rfl, a, D, _, _, _, rfl, ha2, kd.ec, fun _ r => r, kd.kits.at 11 rfl, by show 4 ≤ sizeLine; decide, fun l hl => ?_⟩
      have s1 := same_upd (o := .lst (([8 == n, 9 == n, 10 == n, 11 == n] : List Bool).map V.bl)) hl
      refine ⟨_, _, _, _, rfl, rfl, s1 _ _ hs, upd_same, by show 12 ≤ sizeLine; decide, fun p hp => ?_⟩
      exact ⟨p, rfl, (same_upd hp) _ _ (s1 _ _ hw), upd_same, (sm.trans s1).trans (same_upd hp)⟩
    obtain ⟨ps, rfl, hw, hs, sm⟩ := h2
    have ha3 := sm _ _ ha
    refine ⟨fun σ H5 => ∃ ps, σ = [some (.ref a), some (.ref pw), some (.ref ps), none, none] ∧ H5 pw = some (.lst (words.map V.str)) ∧ H5 ps = some (.lst (((bits n).take 16).map V.bl)) ∧ Same H H5, ?_, fun σ2 H5 h2 => ?_⟩
    · refine ⟨_, rfl, _, rfl, a, D, _, _, _, rfl, ha3, kd.ec, fun _ r => r, kd.kits.at 12 rfl, _, rfl, a, D, _, _, _, rfl, ha3, kd.ec, fun _ r => r, kd.kits.at 13 rfl, _, rfl, a, D, _, _, _, rfl, ha3, kd.ec, fun _ r => r, kd.kits.at 14 rfl, _, rfl, a, D, _, _, _, rfl, ha3, kd.ec, fun _ r => r, kd.kits.at 15 rfl, by show 4 ≤ sizeLine; decide, fun l hl => ?_⟩
      have s1 := same_upd (o := .lst (([12 == n, 13 == n, 14 == n, 15 == n] : List Bool).map V.bl)) hl
      refine ⟨_, _, _, _, rfl, rfl, s1 _ _ hs, upd_same, by show 16 ≤ sizeLine; decide, fun p hp => ?_⟩
      exact ⟨p, rfl, (same_upd hp) _ _ (s1 _ _ hw), upd_same, (sm.trans s1).trans (same_upd hp)⟩
    obtain ⟨ps, rfl, hw, hs, sm⟩ := h2
    have ha4 := sm _ _ ha
    refine ⟨fun σ H6 => ∃ ps, σ = [some (.ref a), some (.ref pw), some (.ref ps), none, none] ∧ H6 pw = some (.lst (words.map V.str)) ∧ H6 ps = some (.lst (((bits n).take 20).map V.bl)) ∧ Same H H6, ?_, fun σ2 H6 h2 => ?_⟩
    · refine ⟨_, rfl, _, rfl, a, D, _, _, _, rfl, ha4, kd.ec, fun _ r => r, kd.kits.at 16 rfl, _, rfl, a, D, _, _, _, rfl, ha4, kd.ec, fun _ r => r, kd.kits.at 17 rfl, _, rfl, a, D, _, _, _, rfl, ha4, kd.ec, fun _ r => r, kd.kits.at 18 rfl, _, rfl, a, D, _, _, _, rfl, ha4, kd.ec, fun _ r => r, kd.kits.at 19 rfl, by show 4 ≤ sizeLine; decide, fun l hl => ?_⟩
      have s1 := same_upd (o := .lst (([16 == n, 17 == n, 18 == n, 19 == n] : List Bool).map V.bl)) hl
      refine ⟨_, _, _, _, rfl, rfl, s1 _ _ hs, upd_same, by show 20 ≤ sizeLine; decide, fun p hp => ?_⟩
      exact ⟨p, rfl, (same_upd hp) _ _ (s1 _ _ hw), upd_same, (sm.trans s1).trans (same_upd hp)⟩
    obtain ⟨ps, rfl, hw, hs, sm⟩ := h2
    have ha5 := sm _ _ ha
    refine ⟨fun σ H7 => ∃ ps, σ = [some (.ref a), some (.ref pw), some (.ref ps), none, none] ∧ H7 pw = some (.lst (words.map V.str)) ∧ H7 ps = some (.lst (((bits n).take 22).map V.bl)) ∧ Same H H7, ?_, fun σ2 H7 h2 => ?_⟩
    · refine ⟨_, rfl, _, rfl, a, D, _, _, _, rfl, ha5, kd.ec, fun _ r => r, kd.kits.at 20 rfl, _, rfl, a, D, _, _, _, rfl, ha5, kd.ec, fun _ r => r, kd.kits.at 21 rfl, by show 2 ≤ sizeLine; decide, fun l hl => ?_⟩
      have s1 := same_upd (o := .lst (([20 == n, 21 == n] : List Bool).map V.bl)) hl
      refine ⟨_, _, _, _, rfl, rfl, s1 _ _ hs, upd_same, by show 22 ≤ sizeLine; decide, fun p hp => ?_⟩
      exact ⟨p, rfl, (same_upd hp) _ _ (s1 _ _ hw), upd_same, (sm.trans s1).trans (same_upd hp)⟩
    obtain ⟨ps, rfl, hw, hs, sm⟩ := h2
    have ha7 := sm _ _ ha
    obtain ⟨c1, c2, c3⟩ := bits_all n n22
    have hs2 : H7 ps = some (.lst ((bits n).map V.bl)) := hs
    have fl : ((bits n).map V.bl).all flatV = true := by
      rw [List.all_map]
      exact List.all_eq_true.mpr fun _ _ => rfl
    refine ⟨_, rfl, .inl ⟨rfl, _, SqL.of hs2⟩, ps, _, _, rfl, rfl, SqL.of hs2, rfl, fl, rfl, _, rfl, iteNS (congrArg V.int (by rw [c1]; rfl)) ?_⟩
    refine ⟨_, rfl, .inl ⟨rfl, _, SqL.of hs2⟩, ps, _, _, n, _, rfl, rfl, SqL.of hs2, rfl, fl, by rw [List.getElem?_map, c2]; rfl, rfl, fun m z hm hz => ?_, ?_⟩
    · rw [List.getElem?_map, c3 m hm] at hz
      cases hz
      rfl
    refine ⟨_, rfl, _, 18, rfl, rfl, _, rfl, ?_⟩
    by_cases n18 : n < 18
    · refine iteD1 (by omega) ?_
      refine ⟨_, rfl, a, D, _, _, _, rfl, ha7, kd.ec, fun _ r => r, kd.te, _, rfl, iteD1 n18 ?_⟩
      refine ⟨_, rfl, a, D, _, _, _, rfl, ha7, kd.ec, fun _ r => r, kd.ve, _, rfl, iteD1 n18 ?_⟩
      refine ⟨_, rfl, _, rfl, pw, _, _, _, rfl, rfl, SqL.of hw, atI_nat (by rw [List.getElem?_map, words_at n n22]; rfl), ?_⟩
      exact q _ sm
    refine iteD0 (by omega) ?_
    refine ⟨fun σ H8 => ∃ pu, σ = [some (.ref a), some (.ref pw), some (.ref ps), some (.int n), some (.ref pu)] ∧ H8 pw = some (.lst (words.map V.str)) ∧ H8 pu = some (.lst [.bl (n == 18), .bl (n == 19), .bl (n == 20)]) ∧ Same H H8 ∧ H pu = none, ?_, fun σ3 H8 h3 => ?_⟩
    · refine ⟨_, rfl, a, D, _, _, _, rfl, ha7, kd.ec, fun _ r => r, kd.kz, _, rfl, a, D, _, _, _, rfl, ha7, kd.ec, fun _ r => r, kd.ky, _, rfl, a, D, _, _, _, rfl, ha7, kd.ec, fun _ r => r, kd.ki, by show 3 ≤ sizeLine; decide, fun l hl => ?_⟩
      exact ⟨l, rfl, (same_upd hl) _ _ hw, upd_same, sm.trans (same_upd hl), sm.free hl⟩
    obtain ⟨pu, rfl, hw8, hu8, sm8, fu⟩ := h3
    have ha8 := sm8 _ _ ha
    have nu : pw ≠ pu := fun z => by
      rw [z, hu8] at hw8
      cases hw8
    have tail : ∀ (H9 : Hp) (b3 : Bool), H9 pw = some (.lst (words.map V.str)) → H9 pu = some (.lst [.bl (n == 18), .bl (n == 19), .bl (n == 20), .bl b3]) → Same H H9 → (n = 21 → b3 = true) → (∃ b3, H9 pu = some (.lst [.bl (n == 18), .bl (n == 19), .bl (n == 20), .bl b3]) ∧ (n = 21 → b3 = true)) := fun H9 b3 _ h _ z => ⟨b3, h, z⟩
    refine ⟨fun σ H9 => σ = [some (.ref a), some (.ref pw), some (.ref ps), some (.int n), some (.ref pu)] ∧ H9 pw = some (.lst (words.map V.str)) ∧ Same H H9 ∧ ∃ b3, H9 pu = some (.lst [.bl (n == 18), .bl (n == 19), .bl (n == 20), .bl b3]) ∧ (n = 21 → b3 = true), ?_, fun σ4 H9 h4 => ?_⟩
    · refine ⟨_, rfl, .inl ⟨rfl, _, SqL.of hu8⟩, _, rfl, a, D, _, _, _, rfl, ha8, kd.ec, fun _ r => r, kd.kl, _, rfl, ?_⟩
      refine ite2 (fun z => ?_) fun z => ?_
      · refine ⟨_, rfl, by show 2 ≤ sizeLine; decide, fun tp htp => ?_⟩
        have s9 := same_upd (o := .tup [.ty "KeyError", .ty "IndexError"]) htp
        refine ⟨a, D, tp, _, _, _, rfl, s9 _ _ ha8, kd.ec, upd_same, .cons (.ty _) (.cons (.ty _) .nil), kd.kt, _, rfl, ?_⟩
        refine ⟨pu, _, _, rfl, rfl, s9 _ _ hu8, by show 3 < sizeLine; decide, rfl, ?_, ?_, _, upd_same, fun e => ?_⟩
        · rw [upd_ne nu]
          exact s9 _ _ hw8
        · intro b o e
          rw [upd_ne (ne_of_none e fu)]
          exact s9 _ _ (sm8 _ _ e)
        · subst e
          rfl
      · refine ⟨pu, _, _, rfl, rfl, hu8, by show 3 < sizeLine; decide, rfl, ?_, ?_, _, upd_same, fun e => ?_⟩
        · rw [upd_ne nu]
          exact hw8
        · intro b o e
          rw [upd_ne (ne_of_none e fu)]
          exact sm8 _ _ e
        · exact absurd (decide_eq_true (show 19 ≤ n by omega)) z
    obtain ⟨rfl, hw9, sm9, b3, hu9, hb3⟩ := h4
    have ha9 := sm9 _ _ ha
    have ix : atI [V.bl (n == 18), V.bl (n == 19), V.bl (n == 20), V.bl b3] ((n : Int) - 18) = some (.bl true) := by
      have : n = 18 ∨ n = 19 ∨ n = 20 ∨ n = 21 := by omega
      rcases this with rfl | rfl | rfl | rfl
      · exact atI_nat (j := 0) rfl
      · exact atI_nat (j := 1) rfl
      · exact atI_nat (j := 2) rfl
      · rw [hb3 rfl]; exact atI_nat (j := 3) rfl
    refine ⟨_, rfl, _, rfl, _, 18, rfl, rfl, pu, _, _, _, rfl, rfl, SqL.of hu9, ix, true, rfl, iteT ?_⟩
    refine ⟨_, rfl, a, D, _, _, _, rfl, ha9, kd.ec, fun _ r => r, kd.te, _, rfl, ?_⟩
    rw [decide_eq_false n18]
    refine iteT ?_
    refine ⟨_, rfl, _, rfl, pw, _, _, _, rfl, rfl, SqL.of hw9, atI_nat (by rw [List.getElem?_map, words_at n n22]; rfl), ?_⟩
    exact q _ sm9
end
end TB
namespace TCX
open PySem PySem.Spec PyProof.Rows L2
/-- an own class over IndexError -/
def iBase : List Value := [.type "IndexError", .type "LookupError", .type "Exception", .type "BaseException", .type "object"]
def excI (K : PySem.W.Frag) (x : Str) : Bool := PySem.W.excIn K (He.ga K x) iBase "IndexError.__new__" && (PySem.W.keepIn K (.ref (He.ga K x)) && (decide (PySem.W.subIn K (.ref (He.ga K x)) (.type "BaseException") = some true) && decide (PySem.W.typeIn K (.ref (He.ga K x)) = some (.type "type"))))
theorem excI_ok {K : PySem.W.Frag} {x : Str} (h : excI K x = true) : PySem.W.excIn K (He.ga K x) iBase "IndexError.__new__" = true ∧ PySem.W.keepIn K (.ref (He.ga K x)) = true ∧ PySem.W.subIn K (.ref (He.ga K x)) (.type "BaseException") = some true ∧ PySem.W.typeIn K (.ref (He.ga K x)) = some (.type "type") := by
  obtain ⟨h1, h⟩ := He.ba h
  obtain ⟨h2, h⟩ := He.ba h
  obtain ⟨h3, h4⟩ := He.ba h
  exact ⟨h1, h2, of_decide_eq_true h3, of_decide_eq_true h4⟩
end TCX
namespace TB
set_option exponentiation.threshold 20000
open TC PySem PySem.Spec PyProof.Rows L2 TCA TCX
def offB (t n : Int) : Bool := decide (-t ≤ n) && (decide (n ≤ t) && !decide ((t - n) % 2 = 1))
/-- whether o is an offset of the size n -/
def OffV (K : PySem.W.Frag) (H : Hp) (n : Int) (o : V) (b : Bool) : Prop := (∃ m : Int, o = .int m ∧ b = offB n m) ∨ (b = false ∧ NotInt K H o)
/-- a thing in a pair's place: whether its size is one, whether its offset then is one -/
def PrV (K : PySem.W.Frag) (H : Hp) (v : V) (k : Bool × Bool) : Prop :=
  (∃ (p : Addr) (t o : V), v = .ref p ∧ H p = some (.tup [t, o]) ∧ Siz K H t k.1 ∧ (k.1 = true → ∃ n : Int, t = .int n ∧ OffV K H n o k.2)) ∨
  (k.1 = false ∧ ∃ ty, TyX K H v ty ∧ PySem.W.kitOne K ty (.type "tuple") = some false) ∨
  (k.1 = false ∧ ∃ (p : Addr) (xs : List V), v = .ref p ∧ H p = some (.tup xs) ∧ xs.length ≠ 2)
theorem OffV.same {K : PySem.W.Frag} {H H' : Hp} {n : Int} {o : V} {b : Bool} (h : OffV K H n o b) (s : Same H H') : OffV K H' n o b := by
  rcases h with h | ⟨e, h⟩
  · exact .inl h
  · exact .inr ⟨e, h.same s⟩
theorem PrV.same {K : PySem.W.Frag} {H H' : Hp} {v : V} {k : Bool × Bool} (h : PrV K H v k) (s : Same H H') : PrV K H' v k := by
  rcases h with ⟨p, t, o, e, hp, ht, ho⟩ | ⟨e, ty, h1, h2⟩ | ⟨e, p, xs, e2, hp, hl⟩
  · refine .inl ⟨p, t, o, e, s _ _ hp, ht.same s, fun z => ?_⟩
    obtain ⟨n, en, h⟩ := ho z
    exact ⟨n, en, h.same s⟩
  · exact .inr (.inl ⟨e, ty, TyX.same h1 s, h2⟩)
  · exact .inr (.inr ⟨e, p, xs, e2, s _ _ hp, hl⟩)
theorem prs_same {K : PySem.W.Frag} {H H' : Hp} (s : Same H H') {xs : List V} {ks : List (Bool × Bool)} (h : Paired (PrV K H) xs ks) : Paired (PrV K H') xs ks := by
  induction h with
  | nil => exact .nil
  | cons r _ ih => exact .cons (r.same s) ih
theorem all_take1 {α : Type} {f : α → Bool} {ks : List α} {i : Nat} {k : α} (h : (ks.take i).all f = true) (hb : ks[i]? = some k) (h2 : f k = true) : (ks.take (i + 1)).all f = true := by
  rw [List.take_add_one, List.all_append, h, hb]
  show (true && (f k && true)) = true
  rw [h2]
  rfl
theorem all_false1 {α : Type} {f : α → Bool} {ks : List α} {i : Nat} {k : α} (hb : ks[i]? = some k) (h2 : f k = false) : ks.all f = false :=
  List.all_eq_false.mpr ⟨k, List.mem_of_getElem? hb, fun z => by rw [h2] at z; cases z⟩
section
variable {P : Program} {w : World} {K : PySem.W.Frag} {mg : Str → Option Value} {base : Heap} {f : Addr} {fd : FuncData} {CS CO CW C : Addr}
/-! ### is_offset -/
def spIsOffV (K : PySem.W.Frag) : Sp := fun vs H Q _ => ∃ (n : Int) (o : V) (b : Bool), vs = [o, .int n] ∧ OffV K H n o b ∧ Q (.bl b) H
theorem ok_isOffV {fW fO : Addr} {fdW fdO : FuncData} (F : FnP K "is_offset" sIsOffset f fd) (GW : FnOk P w K mg base CX0 1 fW fdW ["thing"] (TB.spWhole K)) (bW : L2.Binds K fdW ["thing"] []) (kW : PySem.W.keepIn K (.ref fW) = true) (gW : mg "is_whole" = some (.ref fW))
    (GO : FnOk P w K mg base CX0 1 fO fdO ["number"] TC.spOdd) (bO : L2.Binds K fdO ["number"] []) (kO : PySem.W.keepIn K (.ref fO) = true) (gO : mg "is_odd" = some (.ref fO)) :
    FnOk P w K mg base CX0 2 f fd ["thing", "size"] (spIsOffV K) := by
  refine F.ok scIsOffset (fun vs H Q E h => ?_) (fun cdv A outer s H vs Q E hr h => ?_)
  · obtain ⟨_, _, _, rfl, _⟩ := h
    rfl
  obtain ⟨t, ov, b, rfl, ho, q⟩ := h
  have hr1 := hr.mono (j := 1) (by decide)
  refine ⟨_, PSs.nox (pss_one (ps_ret (pe_and (pe_call GW hr1 (by rfl) gW kW bW .nil pass0 (pa_cons (pv 0) pa_nil)) (pe_and (pe_chain op_le op_le (pe_un un_neg (pv 1)) (pv 0) (pv 1)) (pe_one (pe_not (pe_call GO hr1 (by rfl) gO kO bO .nil pass0 (pa_cons (pe_op op_sub (pv 1) (pv 0)) pa_nil)))))))), ?_⟩
  rcases ho with ⟨o, rfl, rfl⟩ | ⟨rfl, hn⟩
  · refine ⟨_, rfl, .inl ⟨o, rfl, true, rfl, iteT ?_⟩⟩
    unfold offB at q
    by_cases h1 : -t ≤ o
    · rw [decide_eq_true h1, Bool.true_and] at q
      by_cases h2 : o ≤ t
      · rw [decide_eq_true h2, Bool.true_and] at q
        refine ⟨_, rfl, t, rfl, _, rfl, -t, o, rfl, rfl, true, congrArg V.bl (decide_eq_true h1), iteT ?_⟩
        refine ⟨_, rfl, o, t, rfl, rfl, true, congrArg V.bl (decide_eq_true h2), iteT ?_⟩
        exact ⟨_, rfl, _, rfl, t, o, rfl, rfl, t - o, rfl, _, rfl, q⟩
      · rw [decide_eq_false h2, Bool.false_and] at q
        refine ⟨_, rfl, t, rfl, _, rfl, -t, o, rfl, rfl, true, congrArg V.bl (decide_eq_true h1), iteT ?_⟩
        exact ⟨_, rfl, o, t, rfl, rfl, false, congrArg V.bl (decide_eq_false h2), iteF q⟩
    · rw [decide_eq_false h1, Bool.false_and] at q
      refine ⟨_, rfl, t, rfl, _, rfl, -t, o, rfl, rfl, false, congrArg V.bl (decide_eq_false h1), iteF ?_⟩
      exact ⟨_, rfl, iteF q⟩
  · exact ⟨_, rfl, .inr ⟨ov, rfl, hn, false, rfl, iteF q⟩⟩
/-! ### need_pairs -/
def spNeedP (K : PySem.W.Frag) (CS CO : Addr) : Sp := fun vs H Q E => ∃ (l : Addr) (xs : List V) (ks : List (Bool × Bool)), vs = [.ref l] ∧ H l = some (.lst xs) ∧ Paired (PrV K H) xs ks ∧ (ks.all (·.1) = false → ∀ H', Same H H' → E (.ref CS) none H') ∧ (ks.all (·.1) = true → ks.all (·.2) = false → ∀ H', Same H H' → E (.ref CO) none H') ∧
  (ks.all (·.1) = true → ks.all (·.2) = true → ∀ H', Same H H' → Q .non H')
theorem ok_needP {fN fF : Addr} {fdN fdF : FuncData} (F : FnP K "need_pairs" sNeedPairs f fd) (GN : FnOk P w K mg base (L2.CX P w) 3 fN fdN ["things"] (spNeed K CS)) (bN : L2.Binds K fdN ["things"] []) (kN : PySem.W.keepIn K (.ref fN) = true) (gN : mg "need_sizes" = some (.ref fN))
    (GF : FnOk P w K mg base CX0 2 fF fdF ["thing", "size"] (spIsOffV K)) (bF : L2.Binds K fdF ["thing", "size"] []) (kF : PySem.W.keepIn K (.ref fF) = true) (gF : mg "is_offset" = some (.ref fF)) (gisinstance : mg "isinstance" = none) (gtuple : mg "tuple" = none) (glen : mg "len" = none)
    (XS : XTxt K mg "NoSize" CS) (XO : XTxt K mg "NoOffset" CO) :
    FnOk P w K mg base (L2.CX P w) 4 f fd ["things"] (spNeedP K CS CO) := by
  refine F.ok scNeedPairs (fun vs H Q E h => ?_) (fun cdv A outer s H vs Q E hr h => ?_)
  · obtain ⟨_, _, _, rfl, _⟩ := h
    rfl
  obtain ⟨l, xs, ks, rfl, hl, hp, q1, q2, q3⟩ := h
  have hr2 := hr.mono (j := 2) (by decide)
  have hr3 := hr.mono (j := 3) (by decide)
  refine ⟨_, pss_cons (ps_for (passes_of rfl) rfl (pi_list (pv 0)) (pg_name (i := 1) scNeedPairs.nd rfl (.inl rfl))
        (pss_cons (ps_if (PW.pt (pw_or (pt_not (pt_val (pe_callB call_isi (by rfl) gisinstance (by decide +kernel) (pa_cons (pv 1) (pa_cons (pe_bltn (v := .ty "tuple") (by rfl) gtuple (by decide +kernel) rfl) pa_nil))))) (pw_or1 (pt_cmpR op_ne (pe_callB call_len_seq (by rfl) glen PySem.boot_len (pa_cons (pv 1) pa_nil)) pe_int (nomark _)))))
          (pss_one (ps_raise rfl (takes_of rfl rfl rfl rfl) (pmk_own PySem.F.excBase_ValueError XS.e XS.g XS.k (raises_own XS.b XS.t) rfl))) pss_nil)
      (pss_one (ps_expr (pe_call GN hr3 (by rfl) gN kN bN .nil (passes_call (takes_of rfl rfl rfl rfl) fun _ _ _ _ z => z) (pa_cons (pe_lst (pa_cons (pe_ix ix_tup (pv 1) pe_int (fun _ _ => rfl)) pa_nil)) pa_nil))))))
      (pss_one (ps_for (passes_of rfl) rfl (pi_list (pv 0)) (pg_tup rfl (pgs_cons (pg_name (i := 2) scNeedPairs.nd rfl (.inl rfl)) (pgs_cons (pg_name (i := 3) scNeedPairs.nd rfl (.inl rfl)) pgs_nil)))
        (pss_one (ps_if (pt_not (pt_val (pe_call GF hr2 (by rfl) gF kF bF .nil pass0 (pa_cons (pv 3) (pa_cons (pv 2) pa_nil)))))
          (pss_one (ps_raise rfl (takes_of rfl rfl rfl rfl) (pmk_own PySem.F.excBase_ValueError XO.e XO.g XO.k (raises_own XO.b XO.t) rfl))) pss_nil)))), ?_⟩
  refine ⟨_, rfl, l, rfl, ⟨_, SqL.of hl⟩, for_list (xs := xs) (fun i σ H' => (∃ v, σ = [some (.ref l), v, none, none]) ∧ Same H H' ∧ (ks.take i).all (·.1) = true) ⟨⟨none, rfl⟩, fun _ _ e => e, rfl⟩ (fun i σ H' _ hP => SqL.of (hP.2.1 _ _ hl)) (fun i x σ H' hx hP => ?_) (fun σ H' hP => ?_)⟩
  · obtain ⟨⟨v, rfl⟩, sm, hb⟩ := hP
    obtain ⟨k, hk, hv⟩ := paired_at (prs_same sm hp) i x hx
    rcases hv with ⟨p, t, o, rfl, hp', ht, ho⟩ | ⟨e, ty, h1, h2⟩ | ⟨e, p, ys, rfl, hp', hl'⟩
    · refine ⟨_, rfl, _, _, _, _, true, rfl, .ty "tuple", .base (.tup hp'), kit_ty (by decide +kernel), true, rfl, iteF ?_⟩
      refine ⟨_, rfl, p, _, rfl, .inr (SqT.of hp'), rfl, _, rfl, iteF ?_⟩
      refine ⟨_, rfl, p, _, 0, _, rfl, rfl, SqT.of hp', atI_nat (j := 0) rfl, by show 1 ≤ sizeLine; decide, fun l2 hl2 => ?_⟩
      have u2 := same_upd (o := .lst [t]) hl2
      refine ⟨l2, [t], [k.1], rfl, SqL.of upd_same, .cons (ht.same u2) .nil, fun z => ?_, fun z => ?_⟩
      · have z' : k.1 = true := by
          have : (k.1 && true) = true := z
          rwa [Bool.and_true] at this
        exact ⟨⟨_, rfl⟩, sm.trans u2, all_take1 hb hk z'⟩
      · have z' : k.1 = false := by
          have : (k.1 && true) = false := z
          rwa [Bool.and_true] at this
        exact q1 (all_false1 hk z') _ (sm.trans u2)
    · exact ⟨_, rfl, _, _, _, _, false, rfl, .ty "tuple", h1, h2, false, rfl, iteT (iteT (q1 (all_false1 hk e) _ sm))⟩
    · refine ⟨_, rfl, _, _, _, _, true, rfl, .ty "tuple", .base (.tup hp'), kit_ty (by decide +kernel), true, rfl, iteF ?_⟩
      refine ⟨_, rfl, p, _, rfl, .inr (SqT.of hp'), rfl, _, rfl, iteNT (ine (fun z => hl' (by omega))) (q1 (all_false1 hk e) _ sm)⟩
  · obtain ⟨⟨v, rfl⟩, sm, hb⟩ := hP
    rw [paired_len hp, List.take_length] at hb
    refine ⟨_, rfl, l, rfl, ⟨_, SqL.of (sm _ _ hl)⟩, for_list (xs := xs) (fun i σ G => (∃ v2 v3, σ = [some (.ref l), v, v2, v3]) ∧ G = H' ∧ (ks.take i).all (·.2) = true) ⟨⟨none, none, rfl⟩, rfl, rfl⟩ (fun i σ G _ hP => by rw [hP.2.1]; exact SqL.of (sm _ _ hl)) (fun i x σ G hx hP => ?_) (fun σ G hP => ?_)⟩
    · obtain ⟨⟨v2, v3, rfl⟩, rfl, hb2⟩ := hP
      obtain ⟨k, hk, hv⟩ := paired_at (prs_same sm hp) i x hx
      have k1 : k.1 = true := List.all_eq_true.mp hb k (List.mem_of_getElem? hk)
      rcases hv with ⟨p, t, o, rfl, hp', ht, ho⟩ | ⟨e, _⟩ | ⟨e, _⟩
      · obtain ⟨n, rfl, ho'⟩ := ho k1
        refine ⟨p, _, rfl, SqT.of hp', rfl, _, _, rfl, _, _, rfl, rfl, _, rfl, _, rfl, n, o, k.2, rfl, ho', k.2, rfl, ?_⟩
        cases e2 : k.2 with
        | true => exact iteF ⟨⟨_, _, rfl⟩, rfl, all_take1 hb2 hk e2⟩
        | false => exact iteT (q2 hb (all_false1 hk e2) _ sm)
      · rw [k1] at e
        cases e
      · rw [k1] at e
        cases e
    · obtain ⟨_, rfl, hb2⟩ := hP
      rw [paired_len hp, List.take_length] at hb2
      exact q3 hb hb2 _ sm
/-! ### three_by_powers, refused -/
def spTBPX (K : PySem.W.Frag) (CS CO CW : Addr) : Sp := fun vs H _ E => ∃ (v1 v2 v3 : V) (ks : List (Bool × Bool)), vs = [v1, v2, v3] ∧ Paired (PrV K H) [v1, v2, v3] ks ∧
  ((ks.all (·.1) = false ∧ ∀ H', Same H H' → E (.ref CS) none H') ∨ (ks.all (·.1) = true ∧ ks.all (·.2) = false ∧ ∀ H', Same H H' → E (.ref CO) none H') ∨
   (ks.all (·.1) = true ∧ ks.all (·.2) = true ∧ ∃ (p1 p2 p3 : Addr) (a u b v c w : Int), v1 = .ref p1 ∧ v2 = .ref p2 ∧ v3 = .ref p3 ∧ H p1 = some (pairO (a, u)) ∧ H p2 = some (pairO (b, v)) ∧ H p3 = some (pairO (c, w)) ∧ PowP a b c u v w ∧ (12 < (a + b - c) / 2 ∨ 12 < (b + c - a) / 2 ∨ 12 < (c + a - b) / 2) ∧ ∀ H', Same H H' → E (.ref CW) none H'))
theorem ok_tbpX {fP fC : Addr} {fdP fdC : FuncData} {tH : Tok} (F : FnP K "three_by_powers" sThreeByPowers f fd)
    (GP : FnOk P w K mg base (L2.CX P w) 4 fP fdP ["things"] (spNeedP K CS CO)) (bP : L2.Binds K fdP ["things"] []) (kP : PySem.W.keepIn K (.ref fP) = true) (gP : mg "need_pairs" = some (.ref fP))
    (GC : FnOk P w K mg base CX0 2 fC fdC ["one", "other", "third"] spCanJoin) (bC : L2.Binds K fdC ["one", "other", "third"] []) (kC : PySem.W.keepIn K (.ref fC) = true) (gC : mg "can_join" = some (.ref fC))
    (gmax : mg "max" = none) (gH : mg "HIGHEST_POWER" = some (.int 12 tH)) (XW : XTxt K mg "TooWide" CW) :
    FnOk P w K mg base (L2.CX P w) 5 f fd ["one", "other", "third"] (spTBPX K CS CO CW) := by
  refine F.ok scTBP (fun vs H Q E h => ?_) (fun cdv Ar outer s H vs Q E' hr h => ?_)
  · obtain ⟨_, _, _, _, rfl, _⟩ := h
    rfl
  obtain ⟨v1, v2, v3, ks, rfl, hp, h⟩ := h
  have hr2 := hr.mono (j := 2) (by decide)
  refine ⟨_, pss_cons (ps_expr (pe_call GP hr (by rfl) gP kP bP .nil (passes_call (takes_of rfl rfl rfl rfl) fun _ _ _ _ z => z) (pa_cons (pe_lst (pa_cons (pv 0) (pa_cons (pv 1) (pa_cons (pv 2) pa_nil)))) pa_nil)))
      (pss_cons (ps_asg (pe_tup (pa_cons (pv 0) (pa_cons (pv 1) (pa_cons (pv 2) pa_nil)))) (pg_tup rfl (pgs_cons (pg_tup rfl (pgs_cons (pg_name (i := 3) scTBP.nd rfl (.inl rfl)) (pgs_cons (pg_name (i := 4) scTBP.nd rfl (.inl rfl)) pgs_nil))) (pgs_cons (pg_tup rfl (pgs_cons (pg_name (i := 5) scTBP.nd rfl (.inl rfl)) (pgs_cons (pg_name (i := 6) scTBP.nd rfl (.inl rfl)) pgs_nil))) (pgs_cons (pg_tup rfl (pgs_cons (pg_name (i := 7) scTBP.nd rfl (.inl rfl)) (pgs_cons (pg_name (i := 8) scTBP.nd rfl (.inl rfl)) pgs_nil))) pgs_nil)))))
      (pss_cons (ps_if (PW.pt (pw_or (pt_not (pt_val (pe_call GC hr2 (by rfl) gC kC bC .nil pass0 (pa_cons (pv 3) (pa_cons (pv 5) (pa_cons (pv 7) pa_nil)))))) (pw_or1 (pt_cmpR op_ne (pe_op op_add (pe_op op_add (pv 4) (pv 6)) (pv 8)) pe_int (nomark _))))) pss_never pss_nil)
      (pss_cons (ps_par3 (i := 9) (j := 10) (l := 11) rfl scTBP.nd rfl rfl rfl (by decide) (by decide) (by decide) rfl rfl rfl (pa_cons (pe_op op_fdiv (pe_op op_sub (pe_op op_add (pv 3) (pv 5)) (pv 7)) pe_int) (pa_cons (pe_op op_fdiv (pe_op op_sub (pe_op op_add (pv 5) (pv 7)) (pv 3)) pe_int) (pa_cons (pe_op op_fdiv (pe_op op_sub (pe_op op_add (pv 7) (pv 3)) (pv 5)) pe_int) pa_nil))) (by rfl))
      (pss_cons (ps_if (pt_cmpR op_gt (pe_callB (cr_max3 rfl) (by rfl) gmax (by decide +kernel) (pa_cons (pv 9) (pa_cons (pv 10) (pa_cons (pv 11) pa_nil)))) (pe_glob (v := .int 12) (by rfl) gH ⟨_, rfl⟩) (nomark _))
        (pss_one (ps_raise rfl (takes_of rfl rfl rfl rfl) (pmk_own PySem.F.excBase_ValueError XW.e XW.g XW.k (raises_own XW.b XW.t) rfl))) pss_nil) pss_never)))), ?_⟩
  have d2 : ∀ z : Int, CDiv z 2 := fun _ => ⟨by decide, by decide⟩
  refine ⟨_, rfl, _, rfl, _, rfl, by show 3 ≤ sizeLine; decide, fun l0 hl0 => ?_⟩
  have s0 := same_upd (o := .lst [v1, v2, v3]) hl0
  refine ⟨l0, [v1, v2, v3], ks, rfl, upd_same, prs_same s0 hp, fun z H' s' => ?_, fun z z2 H' s' => ?_, fun z z2 H' s' => ?_⟩
  · rcases h with ⟨_, q⟩ | ⟨e, _⟩ | ⟨e, _⟩
    · exact q _ (s0.trans s')
    · rw [z] at e
      cases e
    · rw [z] at e
      cases e
  · rcases h with ⟨e, _⟩ | ⟨_, _, q⟩ | ⟨_, e, _⟩
    · rw [z] at e
      cases e
    · exact q _ (s0.trans s')
    · rw [z2] at e
      cases e
  rcases h with ⟨e, _⟩ | ⟨_, e, _⟩ | ⟨_, _, p1, p2, p3, a, u, b, v, c, w, rfl, rfl, rfl, hp1, hp2, hp3, J, far, q⟩
  · rw [z] at e
    cases e
  · rw [z2] at e
    cases e
  have t0 := s0.trans s'
  refine ⟨_, rfl, _, rfl, _, rfl, by show 3 ≤ sizeLine; decide, fun l hl => ?_⟩
  have s2 := same_upd (o := .tup [.ref p1, .ref p2, .ref p3]) hl
  have sA := t0.trans s2
  refine ⟨l, _, rfl, SqT.of upd_same, rfl, _, _, rfl, p1, _, rfl, SqT.of (sA _ _ hp1), rfl, _, _, rfl, _, _, rfl, rfl, _, _, rfl, p2, _, rfl, SqT.of (sA _ _ hp2), rfl, _, _, rfl, _, _, rfl, rfl, _, _, rfl, p3, _, rfl, SqT.of (sA _ _ hp3), rfl, _, _, rfl, _, _, rfl, rfl, rfl, ?_⟩
  obtain ⟨J1, J2⟩ := J
  refine ⟨_, rfl, _, rfl, _, rfl, a, b, c, rfl, true, congrArg V.bl J1, iteF ⟨_, rfl, _, rfl, u, v, rfl, rfl, _, rfl, u + v, w, rfl, rfl, rfl, _, rfl, iteNS (congrArg V.int J2) ?_⟩⟩
  refine ⟨_, rfl, _, rfl, a, b, rfl, rfl, _, rfl, a + b, c, rfl, rfl, a + b - c, 2, rfl, rfl, d2 _, _, rfl, _, rfl, b, c, rfl, rfl, _, rfl, b + c, a, rfl, rfl, b + c - a, 2, rfl, rfl, d2 _, _, rfl, _, rfl, c, a, rfl, rfl, _, rfl, c + a, b, rfl, rfl, c + a - b, 2, rfl, rfl, d2 _, _, _, _, rfl, ?_⟩
  refine ⟨_, rfl, _, rfl, _, rfl, _, _, _, rfl, fun m hm hmax => ⟨m, 12, rfl, rfl, _, rfl, iteD1 ?_ (q _ sA)⟩⟩
  show (12 : Int) < m
  have x1 := hmax ((a + b - c) / 2) (by simp)
  have x2 := hmax ((b + c - a) / 2) (by simp)
  have x3 := hmax ((c + a - b) / 2) (by simp)
  omega
end
end TB
/-! repr of a list whose items are data or empty dicts. -/
namespace TCX
open PySem PySem.Spec PyProof.Rows L2
/-- data, or an empty dict -/
def DpZ (K : PySem.W.Frag) (H : Hp) (v : V) (d : PyData) : Prop := (Dp K H v d ∧ d.hasDict = false) ∨ ∃ a, v = .ref a ∧ H a = some (.dK []) ∧ d = .dict []
inductive RAll (h : Heap) : List Value → List PyData → Prop
  | nil : RAll h [] []
  | cons {v : Value} {vs : List Value} {d : PyData} {ds : List PyData} {as : List Addr} : Reads h v d as → (d.hasDict = true → sysModules ∉ as) → RAll h vs ds → RAll h (v :: vs) (d :: ds)
theorem RAll.reads {h : Heap} : ∀ {vs : List Value} {ds : List PyData}, RAll h vs ds → ∃ as, ReadsAll h vs ds as
  | _, _, .nil => ⟨_, .nil⟩
  | _, _, .cons r _ rs => by
    obtain ⟨bs, q⟩ := rs.reads
    exact ⟨_, .cons r q⟩
theorem RAll.repr {prog : Program} {w : World} {h₀ : Heap} : ∀ {vs : List Value} {ds : List PyData}, RAll h₀ vs ds → PyData.showableAll ds = true → (∀ t ∈ PyData.shownAll ds, t.length ≤ sizeLine) →
    ∃ bs, ReadAtMost h₀ (PyData.depthAll ds) bs ∧ ReprAllK prog w bs h₀ (PyData.depthAll ds) vs (PyData.shownAll ds)
  | _, _, .nil, _, _ => ⟨[], (fun _ h => nomatch h), by simp only [PyData.shownAll]; exact .nil⟩
  | _, _, .cons (d := d) (ds := ds) r hn rs, hs, hz => by
    have hs' : d.showable = true ∧ PyData.showableAll ds = true := by simpa [PyData.showableAll] using hs
    obtain ⟨b1, hb1, k1⟩ := ReprK.of_reads r hs'.1 hn (hz _ (by simp only [PyData.shownAll]; exact List.mem_cons_self ..))
    obtain ⟨b2, hb2, k2⟩ := rs.repr hs'.2 (fun t ht => hz t (by simp only [PyData.shownAll]; exact List.mem_cons_of_mem _ ht))
    refine ⟨b1 ++ b2, ?_, ?_⟩
    · simp only [PyData.depthAll]
      exact (hb1.mono (Nat.le_max_left _ _)).append (hb2.mono (Nat.le_max_right _ _))
    · simp only [PyData.depthAll, PyData.shownAll]
      exact .cons ((k1.more fun b hb => List.mem_append_left _ hb).level_le (Nat.le_max_left _ _)) (k2.more_le (fun b hb => List.mem_append_right _ hb) (Nat.le_max_right _ _))
section
variable {X : Cx}
theorem dz_reads {pins : List (Addr × Obj)} {σ : L2.St} {H : Hp} {s : Shared} (I : Inv X pins σ H s) {v : V} {u : Value} {d : PyData} (h : DpZ X.K H v d) (r : RelV v u) : ∃ as, Reads s.heap u d as ∧ (d.hasDict = true → sysModules ∉ as) := by
  rcases h with ⟨h, hn⟩ | ⟨a, rfl, ha, rfl⟩
  · obtain ⟨as, q⟩ := Dp.reads I d v u h r
    exact ⟨as, q, fun z => by rw [hn] at z; cases z⟩
  · cases (show u = Value.ref a from r)
    obtain ⟨_, hd, vs0, r0, dd⟩ := dk_of I.hok ha
    cases r0
    obtain ⟨o, es, ep, hq, hx, hdat, _, hpr, _⟩ := dd
    have es0 : es.toList = [] := by
      cases h : es.toList with
      | nil => rfl
      | cons x l =>
        rw [h] at hpr
        cases hpr
    refine ⟨_, Reads.dict (kvs := []) hq hx.1 hdat (by rw [es0]; exact .nil) (by rw [es0]; exact .nil), fun _ z => ?_⟩
    simp at z
    rw [z] at hd
    simp at hd
theorem dz_all {pins : List (Addr × Obj)} {σ : L2.St} {H : Hp} {s : Shared} (I : Inv X pins σ H s) : ∀ {vs : List V} {us : List Value} {ds : List PyData}, Paired (DpZ X.K H) vs ds → Vals vs us → RAll s.heap us ds
  | _, _, _, .nil, .nil => .nil
  | _, _, _, .cons h t, .cons r rs => by
    obtain ⟨as, q, n⟩ := dz_reads I h r
    exact .cons q n (dz_all I t rs)
/-- repr of such a list -/
theorem call_reprZ (hG : X.A.guards = some []) (hu : X.A.units + 64 < cLine) : CallR X (.builtin "repr") (fun xs H Q => ∃ (a : Addr) (vs : List V) (ds : List PyData), xs = [.ref a] ∧ H a = some (.lst vs) ∧ vs ≠ [] ∧ Paired (DpZ X.K H) vs ds ∧ (PyData.list ds).showable = true ∧ (PyData.list ds).depth ≤ 60 ∧ (PyData.list ds).shown.length ≤ sizeLine ∧ Q (.str (PyData.list ds).shown) H) := by
  intro pins s σ H xs us Q I r h
  obtain ⟨a, vs, ds, rfl, ha, hne, hp, hs, hdp, hz, q⟩ := h
  rw [Vals.ref1 r]
  obtain ⟨its, rv, ⟨o, n, ho, hc, _, hd⟩, _⟩ := I.list (SqL.of ha)
  have ra := dz_all I hp rv
  have hz' : (listText (PyData.shownAll ds)).length ≤ sizeLine := by simpa only [PyData.shown] using hz
  obtain ⟨bs, hb, hk⟩ := ra.repr (prog := X.prog) (w := X.w) (by simpa [PyData.showable] using hs) (fun t ht => Nat.le_trans (listText_mem_le ht) hz')
  obtain ⟨as, h4⟩ := ra.reads
  have hna : a ∉ bs := not_mem_of_deeper (Reads.list ho hc hd h4) (by simp only [PyData.depth]; omega) hb
  have hu2 : X.A.units + 1 + (PyData.depthAll ds + 1) < cLine := by
    have : PyData.depthAll ds + 1 ≤ 60 := by simpa only [PyData.depth] using hdp
    omega
  cases rv with
  | nil => exact absurd rfl hne
  | cons r1 r2 =>
    refine call_repr_slot (by omega) ⟨o, ho, hc⟩ PySem.F.slot_list_repr.toG (call_list_reprK ho hc hd hna (by simpa using hk.length_eq) (fun i y e => hk.item i y (by simpa using e)) (show X.A.in1.guards = some [] from hG) (fun b _ => Clear.nil b) hu2 (fun _ _ z => z) (fun h' u tk hkp => ⟨_, _, rfl, ?_⟩) hz')
    refine ⟨.str (listText (PyData.shownAll ds)), H, I.kept (t' := tk) hkp, ⟨u, rfl⟩, ?_⟩
    simpa only [PyData.shown] using q
end
end TCX
namespace TB
set_option exponentiation.threshold 20000
open TC PySem PySem.Spec PyProof.Rows L2 TCA TCX
def rEqN (C : Addr) : R2 := fun x y H Q => ∃ (a b : Addr) (L M : List Part), x = .ref a ∧ y = .ref b ∧ NumAt C H a L ∧ NumAt C H b M ∧ Q (.bl (decide (L = M))) H
theorem op_eqN {X : Cx} {C fI fQ : Addr} {fdQ : FuncData} (T : TxtN X.K X.mg C fI fQ) (GQ : FnOk X.prog X.w X.K X.mg X.base CX0 1 fQ fdQ ["self", "other"] (spEqN C)) (bQ : L2.Binds X.K fdQ ["self", "other"] []) (hr : Room 1 X.A) : OpR X (compareOp .Eq) (rEqN C) := by
  intro pins s σ H x y v u Q I rx ry h
  obtain ⟨a, b, L, M, rfl, rfl, ha, hb, q⟩ := h
  obtain ⟨dx, p, h1, _⟩ := id ha
  obtain ⟨dy, p', h2, _⟩ := id hb
  exact op_eqO (E := fun _ _ _ => False) GQ T.mq.at_ T.mq.fn bQ pass0 hr pins s σ H _ _ v u Q I rx ry ⟨a, dx, _, _, rfl, h1, T.ty h2, by unfold PySem.W.notFirst; simp, a, b, L, M, rfl, ha, hb, _, rfl, q⟩
/-- three right pairs -/
structure Prs (H : Hp) (v1 v2 v3 : V) (a u b v c w : Int) : Prop where
  e : ∃ p1 p2 p3 : Addr, v1 = .ref p1 ∧ v2 = .ref p2 ∧ v3 = .ref p3 ∧ H p1 = some (pairO (a, u)) ∧ H p2 = some (pairO (b, v)) ∧ H p3 = some (pairO (c, w))
  P1 : PairP a u
  P2 : PairP b v
  P3 : PairP c w
theorem Prs.same {H H' : Hp} {v1 v2 v3 : V} {a u b v c w : Int} (h : Prs H v1 v2 v3 a u b v c w) (s : Same H H') : Prs H' v1 v2 v3 a u b v c w := by
  obtain ⟨⟨p1, p2, p3, e1, e2, e3, h1, h2, h3⟩, P1, P2, P3⟩ := h
  exact ⟨⟨p1, p2, p3, e1, e2, e3, s _ _ h1, s _ _ h2, s _ _ h3⟩, P1, P2, P3⟩
def Far (a b c : Int) : Prop := 12 < (a + b - c) / 2 ∨ 12 < (b + c - a) / 2 ∨ 12 < (c + a - b) / 2
theorem pr_ok {K : PySem.W.Frag} {H : Hp} {p : Addr} {a u : Int} (h : H p = some (pairO (a, u))) (P : PairP a u) : PrV K H (.ref p) (true, true) := by
  refine .inl ⟨p, .int a, .int u, rfl, h, .inl ⟨a, rfl, by rw [decide_eq_true P.t0, decide_eq_true P.t1]; rfl⟩, fun _ => ⟨a, rfl, .inl ⟨u, rfl, ?_⟩⟩⟩
  show true = offB a u
  unfold offB
  have := P.ev
  rw [decide_eq_true P.lo, decide_eq_true P.hi, decide_eq_false (show ¬ (a - u) % 2 = 1 by omega)]
  rfl
section
variable {P : Program} {w : World} {K : PySem.W.Frag} {mg : Str → Option Value} {base : Heap} {f : Addr} {fd : FuncData} {CS CO CW C fI fQ : Addr}
/-! ### _law_told -/
structure STxt (K : PySem.W.Frag) (mg : Str → Option Value) : Prop where
  g1 : mg "TurnError" = some (.ref (He.ga K "TurnError"))
  g2 : mg "ByNought" = some (.ref (He.ga K "ByNought"))
  g3 : mg "NoName" = some (.ref (He.ga K "NoName"))
  g4 : mg "NoPlace" = some (.ref (He.ga K "NoPlace"))
  g5 : mg "NothingDone" = some (.ref (He.ga K "NothingDone"))
abbrev cl5 (K : PySem.W.Frag) : List Value := [.ref (He.ga K "TurnError"), .ref (He.ga K "ByNought"), .ref (He.ga K "NoName"), .ref (He.ga K "NoPlace"), .ref (He.ga K "NothingDone")]
/-- all that three_by_powers is asked for -/
def spTB (K : PySem.W.Frag) (C CS CO CW : Addr) : Sp := fun vs H Q E => spTBP C vs H Q E ∨ spTBPX K CS CO CW vs H Q E
def spTold (K : PySem.W.Frag) : Sp := fun vs H Q _ => ∃ (l : Addr) (v1 v2 v3 : V) (ks : List (Bool × Bool)), vs = [.ref l] ∧ H l = some (.lst [v1, v2, v3]) ∧ Paired (PrV K H) [v1, v2, v3] ks ∧
  ((ks.all (·.1) = false ∧ ∀ H', Same H H' → Q (.str "size") H') ∨ (ks.all (·.1) = true ∧ ks.all (·.2) = false ∧ ∀ H', Same H H' → Q (.str "offset") H') ∨
   (∃ a u b v c w : Int, Prs H v1 v2 v3 a u b v c w ∧ (¬ PowP a b c u v w → ∀ H', Same H H' → Q (.str "nought") H') ∧ (PowP a b c u v w → Far a b c → ∀ H', Same H H' → Q (.str "wide") H') ∧ (PowP a b c u v w → ¬ Far a b c → ∀ H' z, Same H H' → (z = ("told" : Str) ∨ z = "nought") → Q (.str z) H')))
abbrev nTold : List Str := ["_law_some", "_law_kept", "_law_found", "_law_e"]
theorem scTold : FnScope nTold ["_law_some"] (defScope sTold) := ⟨rfl, rfl, rfl, by decide +kernel, rfl, by decide +kernel, by decide +kernel⟩
theorem three_nought {a u b v c w : Int} (P1 : PairP a u) (P2 : PairP b v) (P3 : PairP c w) (h : ¬ PowP a b c u v w) : threeL a u b v c w = [] := by
  rw [← pow_three P1 P2 P3]
  unfold powL
  rw [if_neg h]
theorem exL00 : exL 0 1 1 = [] := by
  rw [exL_one]
  exact if_pos rfl
theorem ok_told {fA fW fE : Addr} {fdA fdW fdE fdQ : FuncData} (F : FnP K "_law_told" sTold f fd) (S : STxt K mg) (T : TxtN K mg C fI fQ) (GA : FnOk P w K mg base (L2.CX P w) 5 fA fdA ["one", "other", "third"] (spTB K C CS CO CW)) (bA : L2.Binds K fdA ["one", "other", "third"] []) (kA : PySem.W.keepIn K (.ref fA) = true) (gA : mg "three_by_powers" = some (.ref fA))
    (GW : FnOk P w K mg base CX0 1 fW fdW ["_law_e"] (TB.spWord K)) (bW : L2.Binds K fdW ["_law_e"] []) (kW : PySem.W.keepIn K (.ref fW) = true) (gW : mg "_law_word" = some (.ref fW))
    (GQ : FnOk P w K mg base CX0 1 fQ fdQ ["self", "other"] (spEqN C)) (bQ : L2.Binds K fdQ ["self", "other"] []) (FE : FnE K fE fdE) (GE : FnOk P w K mg base CX0 4 fE fdE psE (spExact C)) (gE : mg "exact" = some (.ref fE))
    (kS : KindF K CS 9) (kO : KindF K CO 6) (kD : KindF K CW 17) :
    FnOk P w K mg base CX0 6 f fd ["_law_some"] (spTold K) := by
  obtain ⟨dsE, vE, bE⟩ := bE0 FE
  refine F.ok scTold (fun vs H Q E h => ?_) (fun cdv A outer s H vs Q E hr h => ?_)
  · obtain ⟨_, _, _, _, _, rfl, _⟩ := h
    rfl
  obtain ⟨l, v1, v2, v3, ks, rfl, hl, hp, h⟩ := h
  have hr1 := hr.mono (j := 1) (by decide)
  have hr4 := hr.mono (j := 4) (by decide)
  obtain ⟨spT, espT⟩ : ∃ z, spTB K C CS CO CW = z := ⟨_, rfl⟩
  rw [espT] at GA
  refine ⟨_, PSs.nox (pss_cons (ps_asg (pe_tup (pa_cons pe_non (pa_cons pe_non pa_nil))) (pg_tup rfl (pgs_cons (pg_name (i := 1) scTold.nd rfl (.inl rfl)) (pgs_cons (pg_name (i := 2) scTold.nd rfl (.inl rfl)) pgs_nil))))
      (pss_cons (ps_try_keep (tb := fun W => tAsg (tCallS spT (WE W) (tCons (tOp (rIxL K) (tVar 0) (tC (.int 0))) (tCons (tOp (rIxL K) (tVar 0) (tC (.int 1))) (tCons (tOp (rIxL K) (tVar 0) (tC (.int 2))) tNil)))) (gName 2)) rfl rfl rfl scTold.nd (fun W pn xe tk _ => pss_one (ps_set (i := 2) scTold.nd rfl (.inl rfl) (pe_callS GA hr (by rfl) gA kA bA (fun σ => passAt tk σ) (pa_cons (pe_ix ix_list (pv 0) pe_int (fun _ _ => rfl)) (pa_cons (pe_ix ix_list (pv 0) pe_int (fun _ _ => rfl)) (pa_cons (pe_ix ix_list (pv 0) pe_int (fun _ _ => rfl)) pa_nil))))))
        (HdK.cons (i := 3) (cs := cl5 K) (fun cls b z => tst_tup5 ⟨rfl, by decide, .inl S.g1⟩ ⟨rfl, by decide, .inl S.g2⟩ ⟨rfl, by decide, .inl S.g3⟩ ⟨rfl, by decide, .inl S.g4⟩ ⟨rfl, by decide, .inl S.g5⟩ z) rfl rfl (fun a cls d pn => pss_one (ps_set (i := 1) scTold.nd rfl (.inl rfl) (pv 3))) HdK.nil))
      (pss_cons (ps_if (pt_cmpR op_notN (pv 1) pe_non (nomark _)) (pss_one (ps_ret (pe_call GW hr1 (by rfl) gW kW bW .nil pass0 (pa_cons (pv 1) pa_nil)))) pss_nil)
      (pss_one (ps_ret (pe_ifExp (pt_cmpR (op_eqN T GQ bQ hr1) (pv 2) (pe_call GE hr4 (by rfl) gE FE.kp bE vE pass0 (pa_cons pe_int pa_nil)) (nomark _)) pe_str pe_str)))))), ?_⟩
  subst espT
  refine ⟨by show 2 ≤ sizeLine; decide, fun t0 ht0 => ?_⟩
  have s0 := same_upd (o := .tup [.non, .non]) ht0
  refine ⟨t0, _, rfl, SqT.of upd_same, rfl, _, _, rfl, _, _, rfl, rfl, ?_⟩
  have hl := s0 _ _ hl
  refine ⟨_, rfl, l, _, 0, _, rfl, rfl, SqL.of hl, atI_nat (j := 0) rfl, _, rfl, l, _, 1, _, rfl, rfl, SqL.of hl, atI_nat (j := 1) rfl, _, rfl, l, _, 2, _, rfl, rfl, SqL.of hl, atI_nat (j := 2) rfl, ?_⟩
  rcases h with ⟨e, q⟩ | ⟨e1, e2, q⟩ | ⟨a, u, b, v, c, w, pr, q0, q1, q2⟩
  · refine .inr ⟨v1, v2, v3, ks, rfl, prs_same s0 hp, .inl ⟨e, fun H1 s1 => ?_⟩⟩
    intro _
    refine ⟨true, kS.x5, fun _ a ha => ?_, fun z => Bool.noConfusion z⟩
    have s2 := same_upd (o := ExV (.ref CS) none a) ha
    refine ⟨_, rfl, _, rfl, rfl, _, rfl, iteNT (fun z => by cases z) ?_⟩
    refine ⟨_, rfl, a, CS, 9, rfl, upd_same, kS, by decide, fun H2 s3 => q _ (((s0.trans s1).trans s2).trans s3)⟩
  · refine .inr ⟨v1, v2, v3, ks, rfl, prs_same s0 hp, .inr (.inl ⟨e1, e2, fun H1 s1 => ?_⟩)⟩
    intro _
    refine ⟨true, kO.x5, fun _ a ha => ?_, fun z => Bool.noConfusion z⟩
    have s2 := same_upd (o := ExV (.ref CO) none a) ha
    refine ⟨_, rfl, _, rfl, rfl, _, rfl, iteNT (fun z => by cases z) ?_⟩
    refine ⟨_, rfl, a, CO, 6, rfl, upd_same, kO, by decide, fun H2 s3 => q _ (((s0.trans s1).trans s2).trans s3)⟩
  obtain ⟨⟨p1, p2, p3, rfl, rfl, rfl, h1, h2, h3⟩, P1, P2, P3⟩ := pr.same s0
  by_cases J : PowP a b c u v w
  · by_cases far : Far a b c
    · refine .inr ⟨_, _, _, [(true, true), (true, true), (true, true)], rfl, .cons (pr_ok h1 P1) (.cons (pr_ok h2 P2) (.cons (pr_ok h3 P3) .nil)), .inr (.inr ⟨rfl, rfl, p1, p2, p3, a, u, b, v, c, w, rfl, rfl, rfl, h1, h2, h3, J, far, fun H1 s1 => ?_⟩)⟩
      intro _
      refine ⟨true, kD.x5, fun _ a ha => ?_, fun z => Bool.noConfusion z⟩
      have s2 := same_upd (o := ExV (.ref CW) none a) ha
      refine ⟨_, rfl, _, rfl, rfl, _, rfl, iteNT (fun z => by cases z) ?_⟩
      refine ⟨_, rfl, a, CW, 17, rfl, upd_same, kD, by decide, fun H2 s3 => q1 J far _ (((s0.trans s1).trans s2).trans s3)⟩
    · refine .inl ⟨p1, p2, p3, a, u, b, v, c, w, rfl, h1, h2, h3, P1, P2, P3, fun _ => ?_, fun x H1 s1 hx => ?_⟩
      · unfold Far at far
        unfold pwA pwB pwC
        omega
      refine ⟨_, rfl, rfl, _, rfl, iteNS rfl ?_⟩
      refine ⟨_, rfl, 0, 1, 1, 40, rfl, by decide, by decide, by decide, by decide, root_ok1, fun y H2 s2 hy hN => ?_⟩
      rw [exL00] at hN
      refine ⟨x, y, _, _, rfl, rfl, hx.same s2, hN, _, rfl, ?_⟩
      have fin := fun z hz => q2 J far H2 z ((s0.trans s1).trans s2) hz
      by_cases e : threeL a u b v c w = []
      · exact iteD1 e (fin _ (.inr rfl))
      · exact iteD0 e (fin _ (.inl rfl))
  · refine .inl ⟨p1, p2, p3, a, u, b, v, c, w, rfl, h1, h2, h3, P1, P2, P3, fun J' => absurd J' J, fun x H1 s1 hx => ?_⟩
    refine ⟨_, rfl, rfl, _, rfl, iteNS rfl ?_⟩
    refine ⟨_, rfl, 0, 1, 1, 40, rfl, by decide, by decide, by decide, by decide, root_ok1, fun y H2 s2 hy hN => ?_⟩
    rw [exL00] at hN
    refine ⟨x, y, _, _, rfl, rfl, hx.same s2, hN, _, rfl, ?_⟩
    exact iteD1 (three_nought P1 P2 P3 J) (q0 J _ ((s0.trans s1).trans s2))
/-! ### _law_pair -/
def spPair : Sp := fun vs H Q _ => ∃ (p c : Addr) (ms : List Int) (n : Int), vs = [.ref p] ∧ PenAt H p c ms n ∧ 0 ≤ n ∧ n ≤ 900000 ∧
  ∀ (t u n' : Int) (r : Addr) H', PairP t u → n ≤ n' → n' ≤ n + 2 → PenAt H' p c ms n' → TC.SameBut p H H' → H' r = some (pairO (t, u)) → H r = none → Q (.ref r) H'
abbrev nPair : List Str := ["_law_pen_here", "_law_size"]
theorem scPair : FnScope nPair ["_law_pen_here"] (defScope sLPair) := ⟨rfl, rfl, rfl, by decide +kernel, rfl, by decide +kernel, by decide +kernel⟩
theorem ok_pair {fD : Addr} {fdD : FuncData} (F : FnP K "_law_pair" sLPair f fd) (GD : FnOk P w K mg base CX0 1 fD fdD ["_law_pen_here", "_law_many"] TC.spDraw) (bD : L2.Binds K fdD ["_law_pen_here", "_law_many"] []) (kD : PySem.W.keepIn K (.ref fD) = true) (gD : mg "_law_draw" = some (.ref fD)) :
    FnOk P w K mg base CX0 2 f fd ["_law_pen_here"] spPair := by
  refine F.ok scPair (fun vs H Q E h => ?_) (fun cdv A outer s H vs Q E hr h => ?_)
  · obtain ⟨_, _, _, _, rfl, _⟩ := h
    rfl
  obtain ⟨p, c, ms, n, rfl, pen, n0, n1, q⟩ := h
  have hr1 := hr.mono (j := 1) (by decide)
  refine ⟨_, PSs.nox (pss_cons (ps_set (i := 1) scPair.nd rfl (.inl rfl) (pe_call GD hr1 (by rfl) gD kD bD .nil pass0 (pa_cons (pv 0) (pa_cons pe_int pa_nil))))
      (pss_one (ps_ret (pe_tup (pa_cons (pv 1) (pa_cons (pe_op op_add (pe_un un_neg (pv 1)) (pe_op op_mul pe_int (pe_call GD hr1 (by rfl) gD kD bD .nil pass0 (pa_cons (pv 0) (pa_cons (pe_op op_add (pv 1) pe_int) pa_nil))))) pa_nil)))))), ?_⟩
  refine ⟨_, rfl, p, c, ms, n, 41, rfl, pen, n0, by omega, by decide, by decide, fun t k1 H1 t0 t1 x0 x1 p1 s1 => ?_⟩
  refine ⟨_, rfl, _, rfl, t, rfl, ?_⟩
  have big : t + 1 < 2 ^ 1000 := Int.lt_of_le_of_lt (show t + 1 ≤ 41 by omega) (by decide +kernel)
  refine ⟨_, rfl, _, rfl, t, 1, rfl, rfl, p, c, ms, k1, t + 1, rfl, p1, by omega, by omega, by omega, big, fun y k2 H2 y0 y1 z0 z1 p2 s2 => ?_⟩
  refine ⟨2, y, rfl, rfl, .inl ⟨by decide, by decide⟩, -t, 2 * y, rfl, rfl, by show 2 ≤ sizeLine; decide, fun r hr0 => ?_⟩
  have u3 := same_upd (o := pairO (t, -t + 2 * y)) hr0
  have sb : TC.SameBut p H H2 := fun b o hb e => s2 _ _ hb (s1 _ _ hb e)
  have nr : H r = none := by
    cases e : H r with
    | none => rfl
    | some o =>
      have nrp : r ≠ p := (fun z => by
        obtain ⟨_, z1, _, _⟩ := p2
        rw [z, z1] at hr0
        cases hr0)
      rw [sb _ _ nrp e] at hr0
      cases hr0
  exact q t (-t + 2 * y) k2 r _ ⟨by omega, by omega, by omega, by omega, by omega⟩ (by omega) (by omega) (p2.same u3) (fun b o hb e => u3 _ _ (sb _ _ hb e)) upd_same nr
/-! ### _law_due -/
def lstS : List V → HO := .lst
def spDue : Sp := fun vs H Q _ => ∃ (l : Addr) (v1 v2 v3 : V) (a u b v c w : Int), vs = [.ref l] ∧ H l = some (.lst [v1, v2, v3]) ∧ Prs H v1 v2 v3 a u b v c w ∧
  (¬ PowP a b c u v w → ∀ H' r, Same H H' → H' r = some (.lst [.str "nought"]) → Q (.ref r) H') ∧ (PowP a b c u v w → Far a b c → ∀ H' r, Same H H' → H' r = some (.lst [.str "wide"]) → Q (.ref r) H') ∧ (PowP a b c u v w → ¬ Far a b c → ∀ H' r, Same H H' → H' r = some (.lst [.str "told", .str "nought"]) → Q (.ref r) H')
abbrev nDue : List Str := ["_law_some", "_law_a", "_law_u", "_law_b", "_law_v", "_law_c", "_law_w", "_law_far"]
theorem scDue : FnScope nDue ["_law_some"] (defScope sLDue) := ⟨rfl, rfl, rfl, by decide +kernel, rfl, by decide +kernel, by decide +kernel⟩
theorem ok_due (F : FnP K "_law_due" sLDue f fd) (gabs : mg "abs" = none) (gmax : mg "max" = none) : FnOk P w K mg base CX0 1 f fd ["_law_some"] spDue := by
  refine F.ok scDue (fun vs H Q E h => ?_) (fun cdv A outer s H vs Q E hr h => ?_)
  · obtain ⟨_, _, _, _, _, _, _, _, _, _, rfl, _⟩ := h
    rfl
  obtain ⟨l, v1, v2, v3, a, u, b, v, c, w, rfl, hl, ⟨⟨p1, p2, p3, rfl, rfl, rfl, h1, h2, h3⟩, P1, P2, P3⟩, q0, q1, q2⟩ := h
  refine ⟨_, PSs.nox (pss_cons (ps_asg (pv 0) (pg_lst rfl (pgs_cons (pg_tup rfl (pgs_cons (pg_name (i := 1) scDue.nd rfl (.inl rfl)) (pgs_cons (pg_name (i := 2) scDue.nd rfl (.inl rfl)) pgs_nil))) (pgs_cons (pg_tup rfl (pgs_cons (pg_name (i := 3) scDue.nd rfl (.inl rfl)) (pgs_cons (pg_name (i := 4) scDue.nd rfl (.inl rfl)) pgs_nil))) (pgs_cons (pg_tup rfl (pgs_cons (pg_name (i := 5) scDue.nd rfl (.inl rfl)) (pgs_cons (pg_name (i := 6) scDue.nd rfl (.inl rfl)) pgs_nil))) pgs_nil)))))
      (pss_cons (ps_if (PW.pt (pw_or (pt_cmpR op_eq (pe_op op_mod (pe_op op_add (pe_op op_add (pv 1) (pv 3)) (pv 5)) pe_int) pe_int (nomark _)) (pw_or (pt_cmpR op_gt (pv 5) (pe_op op_add (pv 1) (pv 3)) (nomark _)) (pw_or (pt_cmpR op_lt (pv 5) (pe_callB call_abs (by rfl) gabs (by decide +kernel) (pa_cons (pe_op op_sub (pv 1) (pv 3)) pa_nil)) (nomark _)) (pw_or1 (pt_cmpR op_ne (pe_op op_add (pe_op op_add (pv 2) (pv 4)) (pv 6)) pe_int (nomark _))))))) (pss_one (ps_ret (pe_lst (pa_cons pe_str pa_nil)))) pss_nil)
      (pss_cons (ps_set (i := 7) scDue.nd rfl (.inl rfl) (pe_callB (cr_max3 rfl) (by rfl) gmax (by decide +kernel) (pa_cons (pe_op op_sub (pe_op op_add (pv 1) (pv 3)) (pv 5)) (pa_cons (pe_op op_sub (pe_op op_add (pv 3) (pv 5)) (pv 1)) (pa_cons (pe_op op_sub (pe_op op_add (pv 5) (pv 1)) (pv 3)) pa_nil)))))
      (pss_one (ps_ret (pe_ifExp (pt_cmpR op_gt (pv 7) pe_int (nomark _)) (pe_lst (pa_cons pe_str pa_nil)) (pe_lst (pa_cons pe_str (pa_cons pe_str pa_nil))))))))), ?_⟩
  refine ⟨_, rfl, l, _, rfl, SqL.of hl, rfl, _, _, rfl, p1, _, rfl, SqT.of h1, rfl, _, _, rfl, _, _, rfl, rfl, _, _, rfl, p2, _, rfl, SqT.of h2, rfl, _, _, rfl, _, _, rfl, rfl, _, _, rfl, p3, _, rfl, SqT.of h3, rfl, _, _, rfl, _, _, rfl, rfl, rfl, ?_⟩
  have nt : ∀ {tn : L2.St → Hp → Prop}, ¬ PowP a b c u v w → tRet (tLst (tCons (tC (.str "nought")) tNil)) { nx := tn, rt := Q } [some (.ref l), some (.int a), some (.int u), some (.int b), some (.int v), some (.int c), some (.int w), none] H := fun {tn} z => by
    refine ⟨by show 1 ≤ sizeLine; decide, fun t ht => q0 z _ t (same_upd ht) upd_same⟩
  refine ⟨_, rfl, _, rfl, a, b, rfl, rfl, _, rfl, a + b, c, rfl, rfl, a + b + c, 2, rfl, rfl, by show (0 : Int) < 2; decide, rfl, _, rfl, ?_⟩
  by_cases z1 : (a + b + c) % 2 = 1
  · exact iteD1 (congrArg V.int z1) (nt fun J => by have := (canB_iff.mp J.1).1; omega)
  refine iteD0 (ine z1) ?_
  refine ⟨_, rfl, _, rfl, _, rfl, a, b, rfl, rfl, c, a + b, rfl, rfl, _, rfl, ?_⟩
  by_cases z2 : a + b < c
  · exact iteD1 z2 (nt fun J => by have := (canB_iff.mp J.1).2.2.2; omega)
  refine iteD0 z2 ?_
  refine ⟨_, rfl, _, rfl, _, rfl, a, b, rfl, rfl, a - b, rfl, c, _, rfl, rfl, _, rfl, ?_⟩
  by_cases z3 : c < (if a - b < 0 then -(a - b) else a - b)
  · exact iteD1 z3 (nt fun J => by have := (canB_iff.mp J.1).2.1; have := (canB_iff.mp J.1).2.2.1; split at z3 <;> omega)
  refine iteD0 z3 ?_
  refine ⟨_, rfl, _, rfl, u, v, rfl, rfl, _, rfl, u + v, w, rfl, rfl, rfl, _, rfl, ?_⟩
  by_cases z4 : u + v + w = 0
  rotate_left
  · exact iteNT (ine z4) (nt fun J => z4 J.2)
  refine iteNS (congrArg V.int z4) ?_
  have J : PowP a b c u v w := ⟨canB_iff.mpr ⟨by omega, by split at z3 <;> omega, by split at z3 <;> omega, by omega⟩, z4⟩
  refine ⟨_, rfl, _, rfl, a, b, rfl, rfl, _, rfl, a + b, c, rfl, rfl, _, rfl, _, rfl, b, c, rfl, rfl, _, rfl, b + c, a, rfl, rfl, _, rfl, _, rfl, c, a, rfl, rfl, _, rfl, c + a, b, rfl, rfl, _, _, _, rfl, fun m hm hmax => ?_⟩
  refine ⟨_, rfl, m, 24, rfl, rfl, _, rfl, ?_⟩
  have x1 := hmax (a + b - c) (by simp)
  have x2 := hmax (b + c - a) (by simp)
  have x3 := hmax (c + a - b) (by simp)
  simp only [List.mem_cons, List.not_mem_nil, or_false] at hm
  have ev := (canB_iff.mp J.1).1
  by_cases z5 : 24 < m
  · refine iteD1 z5 ⟨by show 1 ≤ sizeLine; decide, fun t ht => q1 J (by unfold Far; omega) _ t (same_upd ht) upd_same⟩
  · refine iteD0 z5 ⟨by show 2 ≤ sizeLine; decide, fun t ht => q2 J (by unfold Far; omega) _ t (same_upd ht) upd_same⟩
end
end TB
namespace TC
set_option exponentiation.threshold 20000
open PySem PySem.Spec PyProof.Rows L2 TCA TCX
abbrev nLaw : List Str := ["_law_script", "_law_pen_here", "_law_k", "_law_a", "_law_u", "_law_b", "_law_v", "_law_c", "_law_fitting", "_law_some", "_law_size", "_law_bad_sizes", "_law_places", "_law_t", "_law_bad_offsets", "_law_bent", "_law_kept"]
theorem scLaw : FnScope nLaw ["_law_script"] (defScope sLaw) := ⟨rfl, rfl, rfl, by decide +kernel, rfl, by decide +kernel, by decide +kernel⟩
def spLaw (K : PySem.W.Frag) : Sp := fun vs H Q _ => ∃ (a : Addr) (ns : List Int), vs = [.ref a] ∧ SqL K H a (ns.map V.int) ∧ ns.length ≤ 63 ∧ ∀ H', Q (.bl true) H'
/-- shown data -/
structure ShD (d : PyData) (n W : Nat) : Prop where
  s : d.showable = true
  dp : d.depth ≤ n
  lf : d.leavesShort 40 = true
  wt : d.weight ≤ W
structure ShA (ds : List PyData) (n W : Nat) : Prop where
  s : PyData.showableAll ds = true
  dp : PyData.depthAll ds ≤ n
  lf : PyData.leavesShortAll 40 ds = true
  wt : PyData.weightAll ds ≤ W
theorem ShD.mono {d : PyData} {n W n' W' : Nat} (h : ShD d n W) (h1 : n ≤ n') (h2 : W ≤ W') : ShD d n' W' := ⟨h.s, Nat.le_trans h.dp h1, h.lf, Nat.le_trans h.wt h2⟩
theorem ShA.nil (n : Nat) : ShA [] n 0 := ⟨rfl, Nat.zero_le _, rfl, Nat.le_refl _⟩
theorem ShA.cons {d : PyData} {ds : List PyData} {n W V : Nat} (h : ShD d n W) (t : ShA ds n V) : ShA (d :: ds) n (W + 1 + V) := by
  refine ⟨?_, ?_, ?_, ?_⟩
  · show (d.showable && PyData.showableAll ds) = true
    rw [h.s, t.s]
    rfl
  · exact Nat.max_le.mpr ⟨h.dp, t.dp⟩
  · show (d.leavesShort 40 && PyData.leavesShortAll 40 ds) = true
    rw [h.lf, t.lf]
    rfl
  · have := h.wt
    have := t.wt
    show d.weight + 1 + PyData.weightAll ds ≤ _
    omega
theorem ShA.tup {ds : List PyData} {n W : Nat} (h : ShA ds n W) : ShD (.tuple ds) (n + 1) W := ⟨h.s, Nat.succ_le_succ h.dp, h.lf, h.wt⟩
theorem ShA.lst {ds : List PyData} {n W : Nat} (h : ShA ds n W) : ShD (.list ds) (n + 1) W := ⟨h.s, Nat.succ_le_succ h.dp, h.lf, h.wt⟩
theorem sh_int {i : Int} (h : i.natAbs < 10 ^ 38) : ShD (.int i) 0 130 := by
  have hl : i.natAbs.log2 < 128 := Nat.lt_of_lt_of_le (PySem.Flt.log2_lt_of (show 0 < 128 by decide) (Nat.lt_of_lt_of_le h (by decide))) (by decide)
  refine ⟨?_, Nat.le_refl _, ?_, ?_⟩
  · simp only [PyData.showable, decide_eq_true_eq]
    omega
  · refine decide_eq_true ?_
    have e := int_text_length_le10 (k := 38) (by decide) h
    show (Str.ofString (toString i)).length ≤ 40
    rw [PySem.ofString_length]
    omega
  · show (if i == 0 then 0 else i.natAbs.log2 + 1) ≤ 130
    split <;> omega
theorem sh_non : ShD .none 0 0 := ⟨rfl, Nat.le_refl _, rfl, Nat.le_refl _⟩
theorem sh_bl (b : Bool) : ShD (.bool b) 0 0 := ⟨rfl, Nat.le_refl _, rfl, Nat.le_refl _⟩
theorem sh_dict : ShD (.dict []) 1 0 := ⟨by decide, by decide, by decide, by decide⟩
/-- all is as it was, but p and B -/
def Bt (p B : Addr) (H H' : Hp) : Prop := ∀ b o, b ≠ p → b ≠ B → H b = some o → H' b = some o
theorem Bt.refl {p B : Addr} {H : Hp} : Bt p B H H := fun _ _ _ _ e => e
theorem Bt.trans {p B : Addr} {H H1 H2 : Hp} (s : Bt p B H H1) (t : Bt p B H1 H2) : Bt p B H H2 := fun b o h1 h2 e => t b o h1 h2 (s b o h1 h2 e)
theorem Bt.same {p B : Addr} {H H' : Hp} (s : Same H H') : Bt p B H H' := fun b o _ _ e => s b o e
theorem Bt.but {p B : Addr} {H H' : Hp} (s : SameBut p H H') : Bt p B H H' := fun b o h1 _ e => s b o h1 e
theorem Bt.upd {p B : Addr} {H : Hp} {o : HO} : Bt p B H (upd H B o) := fun b u _ h2 e => by
  rw [upd_ne h2]
  exact e
theorem pen_nec {H : Hp} {p c q : Addr} {ms : List Int} {n : Int} (h : PenAt H p c ms n) (hq : H q = none) : q ≠ p ∧ q ≠ c := by
  obtain ⟨l, h1, h2, _⟩ := h
  refine ⟨fun z => ?_, fun z => ?_⟩
  · rw [z, h1] at hq
    cases hq
  · rw [z, h2] at hq
    cases hq
theorem pen_tp {H : Hp} {p c q : Addr} {ms : List Int} {n : Int} {xs : List V} (h : PenAt H p c ms n) (hq : H q = some (.tup xs)) : q ≠ p := fun z => by
  obtain ⟨l, h1, _⟩ := h
  rw [z, h1] at hq
  cases hq
theorem pen_off {H : Hp} {p c l : Addr} {ms : List Int} {n : Int} {o : HO} (h : PenAt H p c ms n) (h1 : l ≠ p) (h2 : l ≠ c) : PenAt (upd H l o) p c ms n := by
  obtain ⟨z, y1, y2, y3⟩ := h
  exact ⟨z, by rw [upd_ne (fun e => h1 e.symm)]; exact y1, by rw [upd_ne (fun e => h2 e.symm)]; exact y2, y3⟩
/-- three right pairs in a list -/
structure Lp (G : Hp) (S : Addr) (a u b v c w : Int) : Prop where
  e : ∃ p1 p2 p3 : Addr, G S = some (.lst [.ref p1, .ref p2, .ref p3]) ∧ G p1 = some (pairO (a, u)) ∧ G p2 = some (pairO (b, v)) ∧ G p3 = some (pairO (c, w))
  P1 : PairP a u
  P2 : PairP b v
  P3 : PairP c w
theorem Lp.same {G G' : Hp} {S : Addr} {a u b v c w : Int} (h : Lp G S a u b v c w) (s : Same G G') : Lp G' S a u b v c w := by
  obtain ⟨⟨p1, p2, p3, h0, h1, h2, h3⟩, P1, P2, P3⟩ := h
  exact ⟨⟨p1, p2, p3, s _ _ h0, s _ _ h1, s _ _ h2, s _ _ h3⟩, P1, P2, P3⟩
theorem Lp.but {G G' : Hp} {S p c' : Addr} {ms : List Int} {n : Int} {a u b v c w : Int} (h : Lp G S a u b v c w) (pn : PenAt G p c' ms n) (ns : S ≠ p) (s : SameBut p G G') : Lp G' S a u b v c w := by
  obtain ⟨⟨p1, p2, p3, h0, h1, h2, h3⟩, P1, P2, P3⟩ := h
  exact ⟨⟨p1, p2, p3, s _ _ ns h0, s _ _ (pen_tp pn h1) h1, s _ _ (pen_tp pn h2) h2, s _ _ (pen_tp pn h3) h3⟩, P1, P2, P3⟩
/-- a bad thing in a pair's place, as long as p and B are all that change -/
def BadZ (K : PySem.W.Frag) (p B : Addr) (G : Hp) (z : V) : Prop := ∃ e : PyData, ShD e 4 700 ∧ ∀ G', Bt p B G G' → TB.PrV K G' z (false, false) ∧ DpZ K G' z e
theorem pair3 {α β : Type} {R : α → β → Prop} {a b c : α} {x y z : β} (h : Paired R [a, b, c] [x, y, z]) : R a x ∧ R b y ∧ R c z := by
  cases h with
  | cons r t =>
    cases t with
    | cons r2 t2 =>
      cases t2 with
      | cons r3 _ => exact ⟨r, r2, r3⟩
structure LTxt (P : Program) (w : World) (K : PySem.W.Frag) (mg : Str → Option Value) (base : Heap) (fPn fD fPa fTo fU : Addr) (fdPn fdD fdPa fdTo fdU : FuncData) : Prop where
  GPn : FnOk P w K mg base CX0 1 fPn fdPn ["_law_script"] (spPen K)
  bPn : L2.Binds K fdPn ["_law_script"] []
  kPn : PySem.W.keepIn K (.ref fPn) = true
  gPn : mg "_law_pen" = some (.ref fPn)
  GD : FnOk P w K mg base CX0 1 fD fdD ["_law_pen_here", "_law_many"] spDraw
  bD : L2.Binds K fdD ["_law_pen_here", "_law_many"] []
  kD : PySem.W.keepIn K (.ref fD) = true
  gD : mg "_law_draw" = some (.ref fD)
  GPa : FnOk P w K mg base CX0 2 fPa fdPa ["_law_pen_here"] TB.spPair
  bPa : L2.Binds K fdPa ["_law_pen_here"] []
  kPa : PySem.W.keepIn K (.ref fPa) = true
  gPa : mg "_law_pair" = some (.ref fPa)
  GTo : FnOk P w K mg base CX0 6 fTo fdTo ["_law_some"] (TB.spTold K)
  bTo : L2.Binds K fdTo ["_law_some"] []
  kTo : PySem.W.keepIn K (.ref fTo) = true
  gTo : mg "_law_told" = some (.ref fTo)
  GU : FnOk P w K mg base CX0 1 fU fdU ["_law_some"] TB.spDue
  bU : L2.Binds K fdU ["_law_some"] []
  kU : PySem.W.keepIn K (.ref fU) = true
  gU : mg "_law_due" = some (.ref fU)
  grange : mg "range" = none
  gabs : mg "abs" = none
  gmin : mg "min" = none
  glist : mg "list" = none
  grepr : mg "repr" = none
section
variable {P : Program} {w : World} {K : PySem.W.Frag} {mg : Str → Option Value} {base : Heap} {f fPn fD fPa fTo fU : Addr} {fd fdPn fdD fdPa fdTo fdU : FuncData}
theorem ok_law (F : FnP K "law" sLaw f fd) (T : LTxt P w K mg base fPn fD fPa fTo fU fdPn fdD fdPa fdTo fdU) : FnG P w K mg base CX0 7 f fd ["_law_script"] (spLaw K) := by
  refine okG F scLaw (fun vs H Q E h => ?_) (fun cdv A outer s H vs Q E hG hr h => ?_)
  · obtain ⟨_, _, rfl, _⟩ := h
    rfl
  obtain ⟨a, ns, rfl, hS, hn, q⟩ := h
  have hr1 := hr.mono (show 1 ≤ 6 by decide)
  have hr2 := hr.mono (show 2 ≤ 6 by decide)
  refine ⟨_, PSs.nox (pss_cons (ps_set (i := 1) scLaw.nd rfl (.inl rfl) (pe_call T.GPn hr1 (by rfl) T.gPn T.kPn T.bPn .nil pass0 (pa_cons (pv 0) pa_nil)))
    (pss_cons (ps_for PassesOwn.never rfl (pi_range1 (by rfl) T.grange (pa_cons (pe_op op_add pe_int (pe_call T.GD hr1 (by rfl) T.gD T.kD T.bD .nil pass0 (pa_cons (pv 1) (pa_cons pe_int pa_nil)))) pa_nil)) (pg_name (i := 2) scLaw.nd rfl (.inl rfl))
      (C8.pss_cut (ps_asg (pe_tup (pa_cons (pe_call T.GPa hr2 (by rfl) T.gPa T.kPa T.bPa .nil pass0 (pa_cons (pv 1) pa_nil)) (pa_cons (pe_call T.GPa hr2 (by rfl) T.gPa T.kPa T.bPa .nil pass0 (pa_cons (pv 1) pa_nil)) pa_nil))) (pg_tup rfl (pgs_cons (pg_tup rfl (pgs_cons (pg_name (i := 3) scLaw.nd rfl (.inl rfl)) (pgs_cons (pg_name (i := 4) scLaw.nd rfl (.inl rfl)) pgs_nil))) (pgs_cons (pg_tup rfl (pgs_cons (pg_name (i := 5) scLaw.nd rfl (.inl rfl)) (pgs_cons (pg_name (i := 6) scLaw.nd rfl (.inl rfl)) pgs_nil))) pgs_nil))))
    (C8.pss_cut (ps_set (i := 7) scLaw.nd rfl (.inl rfl) (pe_op op_add (pe_callB call_abs (by rfl) T.gabs (by decide +kernel) (pa_cons (pe_op op_sub (pv 3) (pv 5)) pa_nil)) (pe_op op_mul pe_int (pe_call T.GD hr1 (by rfl) T.gD T.kD T.bD .nil pass0 (pa_cons (pv 1) (pa_cons (pe_op op_add (pe_callB (call_min2 rfl) (by rfl) T.gmin (by decide +kernel) (pa_cons (pv 3) (pa_cons (pv 5) pa_nil))) pe_int) pa_nil))))))
    (C8.pss_cut (ps_set (i := 8) scLaw.nd rfl (.inl rfl) (pe_lst (pa_cons (pe_tup (pa_cons (pv 3) (pa_cons (pv 4) pa_nil))) (pa_cons (pe_tup (pa_cons (pv 5) (pa_cons (pv 6) pa_nil))) (pa_cons (pe_tup (pa_cons (pe_callB (call_min2 rfl) (by rfl) T.gmin (by decide +kernel) (pa_cons (pv 7) (pa_cons (pe_op op_sub pe_int (pe_op op_mod (pe_op op_add (pv 3) (pv 5)) pe_int)) pa_nil))) (pa_cons (pe_op op_sub (pe_un un_neg (pv 4)) (pv 6)) pa_nil))) pa_nil)))))
    (C8.pss_cut (ps_set (i := 9) scLaw.nd rfl (.inl rfl) (pe_lst (pa_cons (pe_tup (pa_cons (pv 3) (pa_cons (pv 4) pa_nil))) (pa_cons (pe_tup (pa_cons (pv 5) (pa_cons (pv 6) pa_nil))) (pa_cons (pe_call T.GPa hr2 (by rfl) T.gPa T.kPa T.bPa .nil pass0 (pa_cons (pv 1) pa_nil)) pa_nil)))))
    (C8.pss_cut (ps_if (pt_cmpR op_le (pe_callB call_abs (by rfl) T.gabs (by decide +kernel) (pa_cons (pe_op op_add (pv 4) (pv 6)) pa_nil)) (pe_ix ix_tup (pe_ix ix_list (pv 8) pe_int (fun _ _ => rfl)) pe_int (fun _ _ => rfl)) (nomark _)) (pss_one (ps_set (i := 9) scLaw.nd rfl (.inl rfl) (pv 8))) pss_nil)
    (C8.pss_cut (ps_if (pt_cmpR op_notIn_seq (pe_call T.GTo hr (by rfl) T.gTo T.kTo T.bTo .nil pass0 (pa_cons (pv 9) pa_nil)) (pe_call T.GU hr1 (by rfl) T.gU T.kU T.bU .nil pass0 (pa_cons (pv 9) pa_nil)) (by rfl)) (pss_one (ps_ret pe_bl)) pss_nil)
    (C8.pss_cut (ps_set (i := 10) scLaw.nd rfl (.inl rfl) (pe_ix ix_list (pe_lst (pa_cons pe_int (pa_cons (pe_un un_neg pe_int) (pa_cons pe_non (pa_cons pe_bl (pa_cons pe_str (pa_cons (pe_tup (pa_cons pe_int pa_nil)) (pa_cons (pe_op op_pow pe_int pe_int) pa_nil)))))))) (pe_call T.GD hr1 (by rfl) T.gD T.kD T.bD .nil pass0 (pa_cons (pv 1) (pa_cons pe_int pa_nil))) (fun _ _ => rfl)))
    (C8.pss_cut (ps_set (i := 11) scLaw.nd rfl (.inl rfl) (pe_lst (pa_cons pe_non (pa_cons pe_int (pa_cons (pe_tup (pa_cons pe_int pa_nil)) (pa_cons (pe_lst (pa_cons pe_int (pa_cons pe_int pa_nil))) (pa_cons (pe_tup (pa_cons pe_int (pa_cons pe_int (pa_cons pe_int pa_nil)))) (pa_cons pe_str (pa_cons (pe_tup (pa_cons (pv 10) (pa_cons pe_int pa_nil))) (pa_cons pe_dnewK pa_nil))))))))))
    (C8.pss_cut (ps_set (i := 12) scLaw.nd rfl (.inl rfl) (pe_ix ix_list (pe_lst (pa_cons pe_int (pa_cons pe_int (pa_cons pe_int pa_nil)))) (pe_call T.GD hr1 (by rfl) T.gD T.kD T.bD .nil pass0 (pa_cons (pv 1) (pa_cons pe_int pa_nil))) (fun _ _ => rfl)))
    (C8.pss_cut (ps_set (i := 13) scLaw.nd rfl (.inl rfl) (pe_ix ix_tup (pe_ix ix_list (pv 9) (pv 12) (fun _ _ => rfl)) pe_int (fun _ _ => rfl)))
    (C8.pss_cut (ps_set (i := 14) scLaw.nd rfl (.inl rfl) (pe_lst (pa_cons (pe_op op_add (pv 13) pe_int) (pa_cons (pe_op op_sub (pe_un un_neg (pv 13)) pe_int) (pa_cons (pe_ifExp (pt_cmpR op_gt (pv 13) pe_int (nomark _)) (pe_op op_sub (pv 13) pe_int) pe_int) (pa_cons pe_non (pa_cons pe_str (pa_cons (pe_lst (pa_cons (pv 13) pa_nil)) (pa_cons (pe_op op_add (pv 13) (pe_op op_pow pe_int pe_int)) pa_nil)))))))))
    (C8.pss_cut (ps_set (i := 15) scLaw.nd rfl (.inl rfl) (pe_callTy call_list_of (by rfl) T.glist (by decide +kernel) (pa_cons (pv 9) pa_nil)))
    (C8.pss_cut (ps_asg (pe_tup (pa_cons (pv 13) (pa_cons (pe_ix ix_list (pv 14) (pe_call T.GD hr1 (by rfl) T.gD T.kD T.bD .nil pass0 (pa_cons (pv 1) (pa_cons pe_int pa_nil))) (fun _ _ => rfl)) pa_nil))) (pg_sub (pv 15) (pv 12) set_list))
    (C8.pss_cut (ps_if (pt_cmpR op_ne (pe_call T.GTo hr (by rfl) T.gTo T.kTo T.bTo .nil pass0 (pa_cons (pv 15) pa_nil)) pe_str (nomark _)) (pss_one (ps_ret pe_bl)) pss_nil)
    (C8.pss_cut (ps_asg (pe_ix ix_list (pv 11) (pe_call T.GD hr1 (by rfl) T.gD T.kD T.bD .nil pass0 (pa_cons (pv 1) (pa_cons pe_int pa_nil))) (fun _ _ => rfl)) (pg_sub (pv 15) (pe_call T.GD hr1 (by rfl) T.gD T.kD T.bD .nil pass0 (pa_cons (pv 1) (pa_cons pe_int pa_nil))) set_list))
    (C8.pss_cut (ps_set (i := 16) scLaw.nd rfl (.inl rfl) (pe_callB (call_reprZ hG hr.units) (by rfl) T.grepr (by decide +kernel) (pa_cons (pv 15) pa_nil)))
    (pss_one (ps_if (PW.pt (pw_or (pt_cmpR op_ne (pe_call T.GTo hr (by rfl) T.gTo T.kTo T.bTo .nil pass0 (pa_cons (pv 15) pa_nil)) pe_str (nomark _)) (pw_or1 (pt_cmpR op_ne (pe_callB (call_reprZ hG hr.units) (by rfl) T.grepr (by decide +kernel) (pa_cons (pv 15) pa_nil)) (pv 16) (nomark _))))) (pss_one (ps_ret pe_bl)) pss_nil)))))))))))))))))))
    (pss_one (ps_ret pe_bl)))), ?_⟩
  refine ⟨_, rfl, a, ns, rfl, hS, hn, fun p c ms H1 s1 hp0 hp hc hpc => ?_⟩
  have pen1 : PenAt H1 p c ms 0 := ⟨0, hp, hc, hpc⟩
  refine ⟨_, rfl, p, c, ms, 0, 30, rfl, pen1, by decide, by decide, by decide, by decide, fun m n1 H2 m0 m1 x0 x1 pen2 b2 => ?_⟩
  obtain ⟨m, rfl⟩ : ∃ z : Nat, m = z := ⟨m.toNat, by omega⟩
  refine ⟨1, m, rfl, rfl, ?_⟩
  refine ⟨1 + m, (by show [V.int (1 + (m : Int))] = [V.int ((1 + m : Nat) : Int)]; rw [Int.natCast_add]; rfl), by omega, by omega, for_range (n := 1 + m) (fun i σ G => ∃ (v2 v3 v4 v5 v6 v7 v8 v9 v10 v11 v12 v13 v14 v15 v16 : Option V) (n : Int), σ = [some (.ref a), some (.ref p), v2, v3, v4, v5, v6, v7, v8, v9, v10, v11, v12, v13, v14, v15, v16] ∧ 0 ≤ n ∧ n ≤ 40 * i + 10 ∧ PenAt G p c ms n) ⟨none, none, none, none, none, none, none, none, none, none, none, none, none, none, none, n1, rfl, by omega, by omega, pen2⟩ (fun i σ G hi hP => ?_) (fun σ G hP => ?_)⟩
  rotate_left
  · obtain ⟨v2, v3, v4, v5, v6, v7, v8, v9, v10, v11, v12, v13, v14, v15, v16, n, rfl, _⟩ := hP
    exact q G
  obtain ⟨v2, v3, v4, v5, v6, v7, v8, v9, v10, v11, v12, v13, v14, v15, v16, n, rfl, n0, nm, pen⟩ := hP
  have i6 : i ≤ 30 := by omega
  -- two pairs
  refine ⟨fun σ G => ∃ (v7 v8 v9 v10 v11 v12 v13 v14 v15 v16 : Option V) (A u B v k : Int), σ = [some (.ref a), some (.ref p), some (.int (0 + (i : Int))), some (.int A), some (.int u), some (.int B), some (.int v), v7, v8, v9, v10, v11, v12, v13, v14, v15, v16] ∧ PairP A u ∧ PairP B v ∧ 0 ≤ k ∧ k ≤ n + 4 ∧ PenAt G p c ms k, ?_, fun σ H3 hM => ?_⟩
  · refine ⟨_, rfl, p, c, ms, n, rfl, pen, n0, by omega, fun A u k1 r1 G1 P1 a0 a1 p1 b1 h1 hr1 => ?_⟩
    refine ⟨_, rfl, p, c, ms, k1, rfl, p1, by omega, by omega, fun B v k2 r2 G2 P2 a2 a3 p2 b2 h2 hr2 => ?_⟩
    refine ⟨by show 2 ≤ sizeLine; decide, fun t ht => ?_⟩
    have u1 := same_upd (o := .tup [.ref r1, .ref r2]) ht
    have e1 := u1 _ _ (b2 _ _ (pen_tp p1 h1) h1)
    have e2 := u1 _ _ h2
    exact ⟨t, _, rfl, SqT.of upd_same, rfl, _, _, rfl, r1, _, rfl, SqT.of e1, rfl, _, _, rfl, _, _, rfl, rfl, _, _, rfl, r2, _, rfl, SqT.of e2, rfl, _, _, rfl, _, _, rfl, rfl, rfl, v7, v8, v9, v10, v11, v12, v13, v14, v15, v16, A, u, B, v, k2, rfl, P1, P2, by omega, by omega, p2.same u1⟩
  obtain ⟨v7, v8, v9, v10, v11, v12, v13, v14, v15, v16, A, u, B, v, k3, rfl, P1, P2, k30, k31, pen3⟩ := hM
  have hA0 := P1.t0
  have hA1 := P1.t1
  have hB0 := P2.t0
  have hB1 := P2.t1
  -- a third size
  refine ⟨fun σ G => ∃ (v8 v9 v10 v11 v12 v13 v14 v15 v16 : Option V) (C k : Int), σ = [some (.ref a), some (.ref p), some (.int (0 + (i : Int))), some (.int A), some (.int u), some (.int B), some (.int v), some (.int C), v8, v9, v10, v11, v12, v13, v14, v15, v16] ∧ (A + B - C) % 2 = 0 ∧ 0 ≤ C ∧ C ≤ 80 ∧ 0 ≤ k ∧ k ≤ n + 5 ∧ PenAt G p c ms k, ?_, fun σ H4 hM => ?_⟩
  · refine ⟨_, rfl, _, rfl, A, B, rfl, rfl, A - B, rfl, ?_⟩
    obtain ⟨M, eM, hM0, hM1⟩ : ∃ M : Int, M = (if B < A then B else A) ∧ 0 ≤ M ∧ M ≤ 40 := ⟨_, rfl, by split <;> omega, by split <;> omega⟩
    refine ⟨_, rfl, _, rfl, _, rfl, A, B, rfl, _, 1, rfl, rfl, p, c, ms, k3, _, rfl, pen3, k30, by omega, by rw [← eM]; omega, by rw [← eM]; exact Int.lt_of_le_of_lt (show M + 1 ≤ 41 by omega) (by decide +kernel), fun d k G2 d0 d1 y0 y1 p4 s4 => ?_⟩
    rw [← eM] at d1
    refine ⟨2, d, rfl, rfl, .inl ⟨by decide, by decide⟩, _, 2 * d, rfl, rfl, ?_⟩
    refine ⟨v8, v9, v10, v11, v12, v13, v14, v15, v16, _, k, rfl, ?_, ?_, ?_, by omega, by omega, p4⟩
    · split <;> omega
    · split <;> omega
    · split <;> (split at eM <;> omega)
  obtain ⟨v8, v9, v10, v11, v12, v13, v14, v15, v16, C, k4, rfl, ev, hC0, hC1, k40, k41, pen4⟩ := hM
  -- those that fit
  refine ⟨fun σ G => ∃ (v9 v10 v11 v12 v13 v14 v15 v16 : Option V) (F f1 f2 f3 : Addr) (D : Int), σ = [some (.ref a), some (.ref p), some (.int (0 + (i : Int))), some (.int A), some (.int u), some (.int B), some (.int v), some (.int C), some (.ref F), v9, v10, v11, v12, v13, v14, v15, v16] ∧ G F = some (.lst [.ref f1, .ref f2, .ref f3]) ∧ G f1 = some (pairO (A, u)) ∧ G f2 = some (pairO (B, v)) ∧ G f3 = some (pairO (D, -u - v)) ∧ (A + B - D) % 2 = 0 ∧ 0 ≤ D ∧ D ≤ 40 ∧ F ≠ p ∧ PenAt G p c ms k4, ?_, fun σ H5 hM => ?_⟩
  · refine ⟨_, rfl, _, rfl, by show 2 ≤ sizeLine; decide, fun f1 hf1 => ?_⟩
    have u1 := same_upd (o := pairO (A, u)) hf1
    refine ⟨_, rfl, _, rfl, by show 2 ≤ sizeLine; decide, fun f2 hf2 => ?_⟩
    have u2 := same_upd (o := pairO (B, v)) hf2
    refine ⟨_, rfl, _, rfl, _, rfl, A, B, rfl, rfl, A + B, 2, rfl, rfl, by show (0 : Int) < 2; decide, 40, (A + B) % 2, rfl, rfl, C, 40 - (A + B) % 2, rfl, ?_⟩
    obtain ⟨D, eD, hD0, hD1, hD2⟩ : ∃ D : Int, D = (if 40 - (A + B) % 2 < C then 40 - (A + B) % 2 else C) ∧ (A + B - D) % 2 = 0 ∧ 0 ≤ D ∧ D ≤ 40 := ⟨_, rfl, by split <;> omega, by split <;> omega, by split <;> omega⟩
    rw [← eD]
    refine ⟨_, rfl, u, rfl, _, rfl, -u, v, rfl, rfl, by show 2 ≤ sizeLine; decide, fun f3 hf3 => ?_⟩
    have u3 := same_upd (o := pairO (D, -u - v)) hf3
    refine ⟨by show 3 ≤ sizeLine; decide, fun F hF => ?_⟩
    have u4 := same_upd (o := .lst [V.ref f1, V.ref f2, V.ref f3]) hF
    have pn := ((pen4.same u1).same u2).same u3
    exact ⟨v9, v10, v11, v12, v13, v14, v15, v16, F, f1, f2, f3, D, rfl, upd_same, u4 _ _ (u3 _ _ (u2 _ _ upd_same)), u4 _ _ (u3 _ _ upd_same), u4 _ _ upd_same, hD0, hD1, hD2, (pen_nec pn hF).1, pn.same u4⟩
  obtain ⟨v9, v10, v11, v12, v13, v14, v15, v16, F, f1, f2, f3, D, rfl, hF, hf1, hf2, hf3, evD, hD0, hD1, nFp, pen5⟩ := hM
  -- or any
  refine ⟨fun σ G => ∃ (v10 v11 v12 v13 v14 v15 v16 : Option V) (S : Addr) (E w k : Int), σ = [some (.ref a), some (.ref p), some (.int (0 + (i : Int))), some (.int A), some (.int u), some (.int B), some (.int v), some (.int C), some (.ref F), some (.ref S), v10, v11, v12, v13, v14, v15, v16] ∧ Lp G S A u B v E w ∧ S ≠ p ∧ G F = some (.lst [.ref f1, .ref f2, .ref f3]) ∧ G f1 = some (pairO (A, u)) ∧ G f2 = some (pairO (B, v)) ∧ G f3 = some (pairO (D, -u - v)) ∧ 0 ≤ k ∧ k ≤ n + 7 ∧ PenAt G p c ms k, ?_, fun σ H6 hM => ?_⟩
  · refine ⟨_, rfl, _, rfl, by show 2 ≤ sizeLine; decide, fun r1 hr1' => ?_⟩
    have u1 := same_upd (o := pairO (A, u)) hr1'
    refine ⟨_, rfl, _, rfl, by show 2 ≤ sizeLine; decide, fun r2 hr2' => ?_⟩
    have u2 := same_upd (o := pairO (B, v)) hr2'
    have pn := (pen5.same u1).same u2
    refine ⟨_, rfl, p, c, ms, k4, rfl, pn, k40, by omega, fun E w k r3 G P3 a0 a1 pE bE h3 hr3 => ?_⟩
    have g1 := bE _ _ (pen_nec pen5 hr1').1 (u2 _ _ (upd_same (H := H5) (a := r1) (o := pairO (A, u))))
    have g2 := bE r2 _ (pen_nec (pen5.same u1) hr2').1 upd_same
    refine ⟨by show 3 ≤ sizeLine; decide, fun S hS => ?_⟩
    have u4 := same_upd (o := .lst [V.ref r1, V.ref r2, V.ref r3]) hS
    have k12 := u1.trans u2
    exact ⟨v10, v11, v12, v13, v14, v15, v16, S, E, w, k, rfl, ⟨⟨r1, r2, r3, upd_same, u4 _ _ g1, u4 _ _ g2, u4 _ _ h3⟩, P1, P2, P3⟩, (pen_nec pE hS).1, u4 _ _ (bE _ _ nFp (k12 _ _ hF)), u4 _ _ (bE _ _ (pen_tp pen5 hf1) (k12 _ _ hf1)), u4 _ _ (bE _ _ (pen_tp pen5 hf2) (k12 _ _ hf2)), u4 _ _ (bE _ _ (pen_tp pen5 hf3) (k12 _ _ hf3)), by omega, by omega, pE.same u4⟩
  obtain ⟨v10, v11, v12, v13, v14, v15, v16, S, E, w, k6, rfl, lp, nSp, hF, hf1, hf2, hf3, k60, k61, pen6⟩ := hM
  refine ⟨fun σ G => ∃ (S : Addr) (E w : Int), σ = [some (.ref a), some (.ref p), some (.int (0 + (i : Int))), some (.int A), some (.int u), some (.int B), some (.int v), some (.int C), some (.ref F), some (.ref S), v10, v11, v12, v13, v14, v15, v16] ∧ Lp G S A u B v E w ∧ S ≠ p ∧ PenAt G p c ms k6, ?_, fun σ H7 hM => ?_⟩
  · refine ⟨_, rfl, _, rfl, u, v, rfl, rfl, u + v, rfl, _, rfl, F, _, 2, _, rfl, rfl, SqL.of hF, atI_nat (j := 2) rfl, f3, _, 0, _, rfl, rfl, SqT.of hf3, atI_nat (j := 0) rfl, ?_⟩
    refine ⟨_, D, rfl, rfl, _, rfl, ?_⟩
    by_cases z : (if u + v < 0 then -(u + v) else u + v) ≤ D
    · refine iteD1 z ⟨_, rfl, F, D, -u - v, rfl, ⟨⟨f1, f2, f3, hF, hf1, hf2, hf3⟩, P1, P2, ?_⟩, nFp, pen6⟩
      have e1 := P1.ev
      have e2 := P2.ev
      exact ⟨hD0, hD1, by split at z <;> omega, by split at z <;> omega, by omega⟩
    · exact iteD0 z ⟨S, E, w, rfl, lp, nSp, pen6⟩
  clear lp nSp
  obtain ⟨S, E, w, rfl, lp, nSp, pen7⟩ := hM
  obtain ⟨⟨p1, p2, p3, g0, g1, g2, g3⟩, _, _, P3⟩ := id lp
  -- what is told of them
  refine ⟨fun σ G => σ = [some (.ref a), some (.ref p), some (.int (0 + (i : Int))), some (.int A), some (.int u), some (.int B), some (.int v), some (.int C), some (.ref F), some (.ref S), v10, v11, v12, v13, v14, v15, v16] ∧ Same H7 G, ?_, fun σ H8 hM => ?_⟩
  · have pr : TB.Prs H7 (.ref p1) (.ref p2) (.ref p3) A u B v E w := ⟨⟨p1, p2, p3, rfl, rfl, rfl, g1, g2, g3⟩, P1, P2, P3⟩
    refine ⟨_, rfl, S, _, _, _, [(true, true), (true, true), (true, true)], rfl, g0, .cons (TB.pr_ok g1 P1) (.cons (TB.pr_ok g2 P2) (.cons (TB.pr_ok g3 P3) .nil)), .inr (.inr ⟨A, u, B, v, E, w, pr, fun nJ G s => ?_, fun J far G s => ?_, fun J far G z s hz => ?_⟩)⟩
    · refine ⟨_, rfl, S, _, _, _, A, u, B, v, E, w, rfl, s _ _ g0, pr.same s, fun _ G2 r s2 hr => ?_, fun J => absurd J nJ, fun J => absurd J nJ⟩
      exact ⟨r, _, rfl, .inl (SqL.of hr), rfl, rfl, false, by decide +kernel, iteF ⟨rfl, s.trans s2⟩⟩
    · refine ⟨_, rfl, S, _, _, _, A, u, B, v, E, w, rfl, s _ _ g0, pr.same s, fun nJ => absurd J nJ, fun _ _ G2 r s2 hr => ?_, fun _ nf => absurd far nf⟩
      exact ⟨r, _, rfl, .inl (SqL.of hr), rfl, rfl, false, by decide +kernel, iteF ⟨rfl, s.trans s2⟩⟩
    · refine ⟨_, rfl, S, _, _, _, A, u, B, v, E, w, rfl, s _ _ g0, pr.same s, fun nJ => absurd J nJ, fun _ f => absurd f far, fun _ _ G2 r s2 hr => ?_⟩
      rcases hz with rfl | rfl
      · exact ⟨r, _, rfl, .inl (SqL.of hr), rfl, rfl, false, by decide +kernel, iteF ⟨rfl, s.trans s2⟩⟩
      · exact ⟨r, _, rfl, .inl (SqL.of hr), rfl, rfl, false, by decide +kernel, iteF ⟨rfl, s.trans s2⟩⟩
  obtain ⟨rfl, s8⟩ := hM
  have pen8 := pen7.same s8
  have lp8 := lp.same s8
  -- no size
  refine ⟨fun σ G => ∃ (v11 v12 v13 v14 v15 v16 : Option V) (sz : V) (dz : PyData) (k : Int), σ = [some (.ref a), some (.ref p), some (.int (0 + (i : Int))), some (.int A), some (.int u), some (.int B), some (.int v), some (.int C), some (.ref F), some (.ref S), some sz, v11, v12, v13, v14, v15, v16] ∧ ShD dz 1 140 ∧ dz.hasDict = false ∧ (∀ G', SameBut p G G' → TB.Siz K G' sz false ∧ Dp K G' sz dz) ∧ Lp G S A u B v E w ∧ 0 ≤ k ∧ k ≤ n + 8 ∧ PenAt G p c ms k, ?_, fun σ H9 hM => ?_⟩
  · refine ⟨1, rfl, by show 1 ≤ sizeLine; decide, fun t1 ht1 => ?_⟩
    have u1 := same_upd (o := .tup [V.int 1]) ht1
    refine ⟨10, 30, rfl, rfl, ⟨by decide, by decide, by decide⟩, by show 7 ≤ sizeLine; decide, fun t2 ht2 => ?_⟩
    have u2 := same_upd (o := .lst [V.int 41, V.int (-1), V.non, V.bl true, V.str "2", V.ref t1, V.int ((10 : Int) ^ (30 : Int).toNat)]) ht2
    have pn := pen8.same (u1.trans u2)
    have n1 := (pen_nec pen8 ht1).1
    have n2 := (pen_nec (pen8.same u1) ht2).1
    refine ⟨_, rfl, p, c, ms, k6, 7, rfl, pn, k60, by omega, by decide, by decide, fun e k G2 e0 e1 y0 y1 p3' s3 => ?_⟩
    have w1 := s3 t1 _ n1 (u2 _ _ upd_same)
    have w2 := s3 t2 _ n2 upd_same
    have lp9 := (lp8.same (u1.trans u2)).but pn nSp s3
    obtain ⟨sz, dz, eA, hd, hn, hA⟩ : ∃ (sz : V) (dz : PyData), atI [V.int 41, V.int (-1), V.non, V.bl true, V.str "2", V.ref t1, V.int ((10 : Int) ^ (30 : Int).toNat)] e = some sz ∧ ShD dz 1 140 ∧ dz.hasDict = false ∧ ∀ G', SameBut p G2 G' → TB.Siz K G' sz false ∧ Dp K G' sz dz := by
      have : e = 0 ∨ e = 1 ∨ e = 2 ∨ e = 3 ∨ e = 4 ∨ e = 5 ∨ e = 6 := by omega
      rcases this with rfl | rfl | rfl | rfl | rfl | rfl | rfl
      · exact ⟨_, _, atI_nat (j := 0) rfl, (sh_int (i := 41) (by decide)).mono (by decide) (by decide), rfl, fun G' _ => ⟨.inl ⟨41, rfl, by decide⟩, .int _⟩⟩
      · exact ⟨_, _, atI_nat (j := 1) rfl, (sh_int (i := -1) (by decide)).mono (by decide) (by decide), rfl, fun G' _ => ⟨.inl ⟨-1, rfl, by decide⟩, .int _⟩⟩
      · exact ⟨_, _, atI_nat (j := 2) rfl, sh_non.mono (by decide) (by decide), rfl, fun G' _ => ⟨.inr ⟨rfl, _, false, false, .base .non, kit_ty (by decide +kernel), kit_ty (by decide +kernel), rfl⟩, .non⟩⟩
      · exact ⟨_, _, atI_nat (j := 3) rfl, (sh_bl true).mono (by decide) (by decide), rfl, fun G' _ => ⟨.inr ⟨rfl, _, true, true, .base (.bl _), kit_ty (by decide +kernel), kit_ty (by decide +kernel), rfl⟩, .bl _⟩⟩
      · exact ⟨_, .str "2", atI_nat (j := 4) rfl, ⟨rfl, by decide, by decide +kernel, by decide +kernel⟩, rfl, fun G' _ => ⟨.inr ⟨rfl, _, false, false, .base (.str _), kit_ty (by decide +kernel), kit_ty (by decide +kernel), rfl⟩, .str _⟩⟩
      · exact ⟨_, .tuple [.int 1], atI_nat (j := 5) rfl, ((ShA.cons (sh_int (i := 1) (by decide)) (ShA.nil 0)).tup).mono (by decide) (by decide), rfl, fun G' sG => ⟨.inr ⟨rfl, _, false, false, .base (.tup (sG _ _ n1 w1)), kit_ty (by decide +kernel), kit_ty (by decide +kernel), rfl⟩, .tup (SqT.of (sG _ _ n1 w1)) (.cons (.int _) .nil)⟩⟩
      · exact ⟨_, _, atI_nat (j := 6) rfl, (sh_int (i := (10 : Int) ^ (30 : Int).toNat) (by decide)).mono (by decide) (by decide), rfl, fun G' _ => ⟨.inl ⟨_, rfl, by decide⟩, .int _⟩⟩
    refine ⟨t2, _, e, _, rfl, rfl, SqL.of w2, eA, ?_⟩
    exact ⟨v11, v12, v13, v14, v15, v16, sz, dz, k, rfl, hd, hn, hA, lp9, by omega, by omega, p3'⟩
  obtain ⟨v11, v12, v13, v14, v15, v16, sz, dz, k9, rfl, hdz, hnz, hsz, lp9, k90, k91, pen9⟩ := hM
  -- what is no pair
  refine ⟨fun σ G => ∃ (v12 v13 v14 v15 v16 : Option V) (Z : Addr) (zs : List V), σ = [some (.ref a), some (.ref p), some (.int (0 + (i : Int))), some (.int A), some (.int u), some (.int B), some (.int v), some (.int C), some (.ref F), some (.ref S), some sz, some (.ref Z), v12, v13, v14, v15, v16] ∧ G Z = some (.lst zs) ∧ Z ≠ p ∧ zs.length = 8 ∧ (∀ z ∈ zs, ∃ e : PyData, ShD e 4 700 ∧ ∀ G', SameBut p G G' → TB.PrV K G' z (false, false) ∧ DpZ K G' z e) ∧ Lp G S A u B v E w ∧ PenAt G p c ms k9, ?_, fun σ H10 hM => ?_⟩
  · refine ⟨by show 1 ≤ sizeLine; decide, fun t1 ht1 => ?_⟩
    have u1 := same_upd (o := .tup [V.int 3]) ht1
    refine ⟨by show 2 ≤ sizeLine; decide, fun t2 ht2 => ?_⟩
    have u2 := same_upd (o := .lst [V.int 2, V.int 0]) ht2
    refine ⟨by show 3 ≤ sizeLine; decide, fun t3 ht3 => ?_⟩
    have u3 := same_upd (o := .tup [V.int 2, V.int 0, V.int 0]) ht3
    refine ⟨_, rfl, by show 2 ≤ sizeLine; decide, fun t4 ht4 => ?_⟩
    have u4 := same_upd (o := .tup [sz, V.int 0]) ht4
    intro t5 ht5
    have u5 := same_upd (o := .dK []) ht5
    refine ⟨by show 8 ≤ sizeLine; decide, fun Z hZ => ?_⟩
    have u6 := same_upd (o := .lst [V.non, V.int 5, V.ref t1, V.ref t2, V.ref t3, V.str "ab", V.ref t4, V.ref t5]) hZ
    have q1 := pen9.same u1
    have q2 := q1.same u2
    have q3 := q2.same u3
    have q4 := q3.same u4
    have q5 := q4.same u5
    have n1 := (pen_nec pen9 ht1).1
    have n2 := (pen_nec q1 ht2).1
    have n3 := (pen_nec q2 ht3).1
    have n4 := (pen_nec q3 ht4).1
    have n5 := (pen_nec q4 ht5).1
    have s56 := u5.trans u6
    have s46 := u4.trans s56
    have s36 := u3.trans s46
    have s26 := u2.trans s36
    have s16 := u1.trans s26
    refine ⟨v12, v13, v14, v15, v16, Z, _, rfl, upd_same, (pen_nec q5 hZ).1, rfl, fun z hz => ?_, lp9.same s16, q5.same u6⟩
    have h1 := s26 _ _ (upd_same (H := H9) (a := t1) (o := .tup [V.int 3]))
    have h2 := s36 t2 _ upd_same
    have h3 := s46 t3 _ upd_same
    have h4 := s56 t4 _ upd_same
    have h5 := u6 t5 _ upd_same
    simp only [List.mem_cons, List.not_mem_nil, or_false] at hz
    rcases hz with rfl | rfl | rfl | rfl | rfl | rfl | rfl | rfl
    · exact ⟨_, sh_non.mono (by decide) (by decide), fun G' _ => ⟨.inr (.inl ⟨rfl, _, .base .non, kit_ty (by decide +kernel)⟩), .inl ⟨.non, rfl⟩⟩⟩
    · exact ⟨_, (sh_int (i := 5) (by decide)).mono (by decide) (by decide), fun G' _ => ⟨.inr (.inl ⟨rfl, _, .base (.int _), kit_ty (by decide +kernel)⟩), .inl ⟨.int _, rfl⟩⟩⟩
    · exact ⟨.tuple [.int 3], ((ShA.cons (sh_int (i := 3) (by decide)) (ShA.nil 0)).tup).mono (by decide) (by decide), fun G' sG => ⟨.inr (.inr ⟨rfl, t1, _, rfl, sG _ _ n1 h1, by decide⟩), .inl ⟨.tup (SqT.of (sG _ _ n1 h1)) (.cons (.int _) .nil), rfl⟩⟩⟩
    · exact ⟨.list [.int 2, .int 0], ((ShA.cons (sh_int (i := 2) (by decide)) (ShA.cons (sh_int (i := 0) (by decide)) (ShA.nil 0))).lst).mono (by decide) (by decide), fun G' sG => ⟨.inr (.inl ⟨rfl, _, .base (.lst (sG _ _ n2 h2)), kit_ty (by decide +kernel)⟩), .inl ⟨.lst (SqL.of (sG _ _ n2 h2)) (.cons (.int _) (.cons (.int _) .nil)), rfl⟩⟩⟩
    · exact ⟨.tuple [.int 2, .int 0, .int 0], ((ShA.cons (sh_int (i := 2) (by decide)) (ShA.cons (sh_int (i := 0) (by decide)) (ShA.cons (sh_int (i := 0) (by decide)) (ShA.nil 0)))).tup).mono (by decide) (by decide), fun G' sG => ⟨.inr (.inr ⟨rfl, t3, _, rfl, sG _ _ n3 h3, by decide⟩), .inl ⟨.tup (SqT.of (sG _ _ n3 h3)) (.cons (.int _) (.cons (.int _) (.cons (.int _) .nil))), rfl⟩⟩⟩
    · exact ⟨.str "ab", ⟨rfl, by decide, by decide +kernel, by decide +kernel⟩, fun G' _ => ⟨.inr (.inl ⟨rfl, _, .base (.str _), kit_ty (by decide +kernel)⟩), .inl ⟨.str _, rfl⟩⟩⟩
    · refine ⟨.tuple [dz, .int 0], ((ShA.cons hdz (ShA.cons ((sh_int (i := 0) (by decide)).mono (by decide) (Nat.le_refl _)) (ShA.nil 1))).tup).mono (by decide) (by decide), fun G' sG => ?_⟩
      obtain ⟨y1, y2⟩ := hsz G' fun b o hb e => sG _ _ hb (s16 _ _ e)
      refine ⟨.inl ⟨t4, sz, .int 0, rfl, sG _ _ n4 h4, y1, fun z => by cases z⟩, .inl ⟨.tup (SqT.of (sG _ _ n4 h4)) (.cons y2 (.cons (.int _) .nil)), ?_⟩⟩
      show (dz.hasDict || (false || false)) = false
      rw [hnz]
      rfl
    · exact ⟨_, sh_dict.mono (by decide) (by decide), fun G' sG => ⟨.inr (.inl ⟨rfl, _, .base (.dK (sG _ _ n5 h5)), kit_ty (by decide +kernel)⟩), .inr ⟨t5, rfl, sG _ _ n5 h5, rfl⟩⟩⟩
  obtain ⟨v12, v13, v14, v15, v16, Z, zs, rfl, hZ, nZp, zl, hzs, lp10, pen10⟩ := hM
  -- a place
  refine ⟨fun σ G => ∃ (v13 v14 v15 v16 : Option V) (j : Nat) (k : Int), σ = [some (.ref a), some (.ref p), some (.int (0 + (i : Int))), some (.int A), some (.int u), some (.int B), some (.int v), some (.int C), some (.ref F), some (.ref S), some sz, some (.ref Z), some (.int (j : Int)), v13, v14, v15, v16] ∧ j < 3 ∧ 0 ≤ k ∧ k ≤ n + 9 ∧ SameBut p H10 G ∧ PenAt G p c ms k, ?_, fun σ H11 hM => ?_⟩
  · refine ⟨by show 3 ≤ sizeLine; decide, fun t1 ht1 => ?_⟩
    have u1 := same_upd (o := .lst [V.int 0, V.int 1, V.int 2]) ht1
    refine ⟨_, rfl, p, c, ms, k9, 3, rfl, pen10.same u1, k90, by omega, by decide, by decide, fun e k G2 e0 e1 y0 y1 p3' s3 => ?_⟩
    have w1 := s3 t1 _ (pen_nec pen10 ht1).1 upd_same
    obtain ⟨j, hj, eA⟩ : ∃ j : Nat, j < 3 ∧ atI [V.int 0, V.int 1, V.int 2] e = some (.int (j : Int)) := by
      have : e = 0 ∨ e = 1 ∨ e = 2 := by omega
      rcases this with rfl | rfl | rfl
      · exact ⟨0, by decide, atI_nat (j := 0) rfl⟩
      · exact ⟨1, by decide, atI_nat (j := 1) rfl⟩
      · exact ⟨2, by decide, atI_nat (j := 2) rfl⟩
    refine ⟨t1, _, e, _, rfl, rfl, SqL.of w1, eA, ?_⟩
    exact ⟨v13, v14, v15, v16, j, k, rfl, hj, by omega, by omega, fun b o hb eb => s3 _ _ hb (u1 _ _ eb), p3'⟩
  obtain ⟨v13, v14, v15, v16, j, k11, rfl, hj, k110, k111, b11, pen11⟩ := hM
  have lp11 := lp10.but pen10 nSp b11
  obtain ⟨⟨r1, r2, r3, g0, g1, g2, g3⟩, _, _, _⟩ := id lp11
  -- its size
  refine ⟨fun σ G => ∃ (v14 v15 v16 : Option V) (t : Int), σ = [some (.ref a), some (.ref p), some (.int (0 + (i : Int))), some (.int A), some (.int u), some (.int B), some (.int v), some (.int C), some (.ref F), some (.ref S), some sz, some (.ref Z), some (.int (j : Int)), some (.int t), v14, v15, v16] ∧ 0 ≤ t ∧ t ≤ 40 ∧ G = H11, ?_, fun σ H12 hM => ?_⟩
  · refine ⟨_, rfl, _, rfl, ?_⟩
    match j, hj with
    | 0, _ => exact ⟨S, _, 0, _, rfl, rfl, SqL.of g0, atI_nat (j := 0) rfl, r1, _, 0, _, rfl, rfl, SqT.of g1, atI_nat (j := 0) rfl, v14, v15, v16, A, rfl, P1.t0, P1.t1, rfl⟩
    | 1, _ => exact ⟨S, _, 1, _, rfl, rfl, SqL.of g0, atI_nat (j := 1) rfl, r2, _, 0, _, rfl, rfl, SqT.of g2, atI_nat (j := 0) rfl, v14, v15, v16, B, rfl, P2.t0, P2.t1, rfl⟩
    | 2, _ => exact ⟨S, _, 2, _, rfl, rfl, SqL.of g0, atI_nat (j := 2) rfl, r3, _, 0, _, rfl, rfl, SqT.of g3, atI_nat (j := 0) rfl, v14, v15, v16, E, rfl, P3.t0, P3.t1, rfl⟩
  obtain ⟨v14, v15, v16, t, rfl, ht0, ht1, rfl⟩ := hM
  -- no offsets
  refine ⟨fun σ G => ∃ (v15 v16 : Option V) (O : Addr) (os : List V), σ = [some (.ref a), some (.ref p), some (.int (0 + (i : Int))), some (.int A), some (.int u), some (.int B), some (.int v), some (.int C), some (.ref F), some (.ref S), some sz, some (.ref Z), some (.int (j : Int)), some (.int t), some (.ref O), v15, v16] ∧ G O = some (.lst os) ∧ O ≠ p ∧ os.length = 7 ∧ (∀ o ∈ os, ∃ e : PyData, ShD e 2 140 ∧ e.hasDict = false ∧ ∀ G', SameBut p G G' → TB.OffV K G' t o false ∧ Dp K G' o e) ∧ Same H12 G, ?_, fun σ H13 hM => ?_⟩
  · refine ⟨_, rfl, t, 2, rfl, rfl, _, rfl, t, rfl, -t, 2, rfl, rfl, _, rfl, t, 0, rfl, rfl, _, rfl, ?_⟩
    by_cases hp : 0 < t
    · refine iteD1 hp ⟨_, rfl, t, 1, rfl, rfl, ?_⟩
      refine ⟨_, rfl, by show 1 ≤ sizeLine; decide, fun t1 ht1' => ?_⟩
      have u1 := same_upd (o := .lst [V.int t]) ht1'
      refine ⟨_, rfl, 10, 20, rfl, rfl, ⟨by decide, by decide, by decide⟩, t, _, rfl, rfl, by show 7 ≤ sizeLine; decide, fun O hO => ?_⟩
      have u2 := same_upd (o := .lst [V.int (t + 2), V.int (-t - 2), V.int (t - 1), V.non, V.str "0", V.ref t1, V.int (t + (10 : Int) ^ (20 : Int).toNat)]) hO
      have n1 := (pen_nec pen11 ht1').1
      have h1 := u2 _ _ (upd_same (H := H12) (a := t1) (o := .lst [V.int t]))
      have e20 : (10 : Int) ^ (20 : Int).toNat = 100000000000000000000 := by decide
      refine ⟨v15, v16, O, _, rfl, upd_same, (pen_nec (pen11.same u1) hO).1, rfl, fun o ho => ?_, u1.trans u2⟩
      simp only [List.mem_cons, List.not_mem_nil, or_false] at ho
      rcases ho with rfl | rfl | rfl | rfl | rfl | rfl | rfl
      · exact ⟨_, (sh_int (by omega)).mono (by decide) (by decide), rfl, fun G' _ => ⟨.inl ⟨_, rfl, by unfold TB.offB; rw [decide_eq_false (show ¬ t + 2 ≤ t by omega)]; simp⟩, .int _⟩⟩
      · exact ⟨_, (sh_int (by omega)).mono (by decide) (by decide), rfl, fun G' _ => ⟨.inl ⟨_, rfl, by unfold TB.offB; rw [decide_eq_false (show ¬ -t ≤ -t - 2 by omega)]; simp⟩, .int _⟩⟩
      · exact ⟨_, (sh_int (by omega)).mono (by decide) (by decide), rfl, fun G' _ => ⟨.inl ⟨_, rfl, by unfold TB.offB; rw [decide_eq_true (show (t - (t - 1)) % 2 = 1 by omega)]; simp⟩, .int _⟩⟩
      · exact ⟨_, sh_non.mono (by decide) (by decide), rfl, fun G' _ => ⟨.inr ⟨rfl, _, false, false, .base .non, kit_ty (by decide +kernel), kit_ty (by decide +kernel), rfl⟩, .non⟩⟩
      · exact ⟨.str "0", ⟨rfl, by decide, by decide +kernel, by decide +kernel⟩, rfl, fun G' _ => ⟨.inr ⟨rfl, _, false, false, .base (.str _), kit_ty (by decide +kernel), kit_ty (by decide +kernel), rfl⟩, .str _⟩⟩
      · exact ⟨.list [.int t], ((ShA.cons (sh_int (by omega)) (ShA.nil 0)).lst).mono (by decide) (by decide), rfl, fun G' sG => ⟨.inr ⟨rfl, _, false, false, .base (.lst (sG _ _ n1 h1)), kit_ty (by decide +kernel), kit_ty (by decide +kernel), rfl⟩, .lst (SqL.of (sG _ _ n1 h1)) (.cons (.int _) .nil)⟩⟩
      · exact ⟨_, (sh_int (by rw [e20]; omega)).mono (by decide) (by decide), rfl, fun G' _ => ⟨.inl ⟨_, rfl, by rw [e20]; unfold TB.offB; rw [decide_eq_false (show ¬ t + 100000000000000000000 ≤ t by omega)]; simp⟩, .int _⟩⟩
    · refine iteD0 hp ?_
      refine ⟨_, rfl, by show 1 ≤ sizeLine; decide, fun t1 ht1' => ?_⟩
      have u1 := same_upd (o := .lst [V.int t]) ht1'
      refine ⟨_, rfl, 10, 20, rfl, rfl, ⟨by decide, by decide, by decide⟩, t, _, rfl, rfl, by show 7 ≤ sizeLine; decide, fun O hO => ?_⟩
      have u2 := same_upd (o := .lst [V.int (t + 2), V.int (-t - 2), V.int (1), V.non, V.str "0", V.ref t1, V.int (t + (10 : Int) ^ (20 : Int).toNat)]) hO
      have n1 := (pen_nec pen11 ht1').1
      have h1 := u2 _ _ (upd_same (H := H12) (a := t1) (o := .lst [V.int t]))
      have e20 : (10 : Int) ^ (20 : Int).toNat = 100000000000000000000 := by decide
      refine ⟨v15, v16, O, _, rfl, upd_same, (pen_nec (pen11.same u1) hO).1, rfl, fun o ho => ?_, u1.trans u2⟩
      simp only [List.mem_cons, List.not_mem_nil, or_false] at ho
      rcases ho with rfl | rfl | rfl | rfl | rfl | rfl | rfl
      · exact ⟨_, (sh_int (by omega)).mono (by decide) (by decide), rfl, fun G' _ => ⟨.inl ⟨_, rfl, by unfold TB.offB; rw [decide_eq_false (show ¬ t + 2 ≤ t by omega)]; simp⟩, .int _⟩⟩
      · exact ⟨_, (sh_int (by omega)).mono (by decide) (by decide), rfl, fun G' _ => ⟨.inl ⟨_, rfl, by unfold TB.offB; rw [decide_eq_false (show ¬ -t ≤ -t - 2 by omega)]; simp⟩, .int _⟩⟩
      · exact ⟨_, (sh_int (by omega)).mono (by decide) (by decide), rfl, fun G' _ => ⟨.inl ⟨_, rfl, by unfold TB.offB; rw [decide_eq_false (show ¬ (1 : Int) ≤ t by omega)]; simp⟩, .int _⟩⟩
      · exact ⟨_, sh_non.mono (by decide) (by decide), rfl, fun G' _ => ⟨.inr ⟨rfl, _, false, false, .base .non, kit_ty (by decide +kernel), kit_ty (by decide +kernel), rfl⟩, .non⟩⟩
      · exact ⟨.str "0", ⟨rfl, by decide, by decide +kernel, by decide +kernel⟩, rfl, fun G' _ => ⟨.inr ⟨rfl, _, false, false, .base (.str _), kit_ty (by decide +kernel), kit_ty (by decide +kernel), rfl⟩, .str _⟩⟩
      · exact ⟨.list [.int t], ((ShA.cons (sh_int (by omega)) (ShA.nil 0)).lst).mono (by decide) (by decide), rfl, fun G' sG => ⟨.inr ⟨rfl, _, false, false, .base (.lst (sG _ _ n1 h1)), kit_ty (by decide +kernel), kit_ty (by decide +kernel), rfl⟩, .lst (SqL.of (sG _ _ n1 h1)) (.cons (.int _) .nil)⟩⟩
      · exact ⟨_, (sh_int (by rw [e20]; omega)).mono (by decide) (by decide), rfl, fun G' _ => ⟨.inl ⟨_, rfl, by rw [e20]; unfold TB.offB; rw [decide_eq_false (show ¬ t + 100000000000000000000 ≤ t by omega)]; simp⟩, .int _⟩⟩
  obtain ⟨v15, v16, O, os, rfl, hO, nOp, ol, hos, s13⟩ := hM
  have pen13 := pen11.same s13
  have lp13 := lp11.same s13
  obtain ⟨⟨r1, r2, r3, g0, g1, g2, g3⟩, _, _, _⟩ := id lp13
  have nr1 := pen_tp pen13 g1
  have nr2 := pen_tp pen13 g2
  have nr3 := pen_tp pen13 g3
  have hZ13 := s13 _ _ (b11 _ _ nZp hZ)
  have b13 : SameBut p H10 H13 := fun b o hb e => s13 _ _ (b11 _ _ hb e)
  -- the pairs, to be bent
  refine ⟨fun σ G => ∃ (v16 : Option V) (L : Addr), σ = [some (.ref a), some (.ref p), some (.int (0 + (i : Int))), some (.int A), some (.int u), some (.int B), some (.int v), some (.int C), some (.ref F), some (.ref S), some sz, some (.ref Z), some (.int (j : Int)), some (.int t), some (.ref O), some (.ref L), v16] ∧ Same H13 G ∧ H13 L = none ∧ G L = some (.lst [.ref r1, .ref r2, .ref r3]), ?_, fun σ H14 hM => ?_⟩
  · refine ⟨_, rfl, S, _, rfl, .inl (SqL.of g0), fun L hL => ?_⟩
    exact ⟨v16, L, rfl, same_upd hL, hL, upd_same⟩
  obtain ⟨v16, L, rfl, s14, hLn, hL14⟩ := hM
  have pen14 := pen13.same s14
  obtain ⟨nLp, nLc⟩ := pen_nec pen13 hLn
  have offL : ∀ {b : Addr} {o : HO}, H13 b = some o → b ≠ L := fun {b o} e z => by
    rw [z, hLn] at e
    cases e
  -- one offset that is none
  refine ⟨fun σ G => ∃ (w1 w2 w3 : V) (y1 y2 y3 : Bool × Bool) (e1 e2 e3 : PyData) (k : Int), σ = [some (.ref a), some (.ref p), some (.int (0 + (i : Int))), some (.int A), some (.int u), some (.int B), some (.int v), some (.int C), some (.ref F), some (.ref S), some sz, some (.ref Z), some (.int (j : Int)), some (.int t), some (.ref O), some (.ref L), v16] ∧ G L = some (.lst [w1, w2, w3]) ∧ (∀ G', Bt p L G G' → Paired (TB.PrV K G') [w1, w2, w3] [y1, y2, y3] ∧ Paired (DpZ K G') [w1, w2, w3] [e1, e2, e3]) ∧ [y1, y2, y3].all (·.1) = true ∧ [y1, y2, y3].all (·.2) = false ∧ (ShD e1 4 700 ∧ ShD e2 4 700 ∧ ShD e3 4 700) ∧ SameBut p H13 G ∧ 0 ≤ k ∧ k ≤ n + 10 ∧ PenAt G p c ms k, ?_, fun σ H15 hM => ?_⟩
  · refine ⟨_, rfl, _, rfl, _, rfl, p, c, ms, k11, 7, rfl, pen14, k110, by omega, by decide, by decide, fun x k G2 x0 x1 z0 z1 p3' s3 => ?_⟩
    have hO2 := s3 _ _ nOp (s14 _ _ hO)
    obtain ⟨m, hm, rfl⟩ : ∃ m : Nat, m < 7 ∧ x = m := ⟨x.toNat, by omega, by omega⟩
    obtain ⟨ov, hov⟩ : ∃ ov, os[m]? = some ov := ⟨os[m]'(by omega), List.getElem?_eq_getElem (by omega)⟩
    obtain ⟨de, hde, hne, hfe⟩ := hos ov (List.mem_of_getElem? hov)
    refine ⟨O, os, _, ov, rfl, rfl, SqL.of hO2, atI_nat hov, by show 2 ≤ sizeLine; decide, fun qa hqa => ?_⟩
    have u1 := same_upd (o := .tup [V.int t, ov]) hqa
    have hL2 := u1 _ _ (s3 _ _ nLp hL14)
    have nqp := (pen_nec p3' hqa).1
    have nqL : qa ≠ L := fun z => by
      rw [z, s3 _ _ nLp hL14] at hqa
      cases hqa
    have hq2 := upd_same (H := G2) (a := qa) (o := .tup [V.int t, ov])
    have pn := p3'.same u1
    have b15 : SameBut p H13 (upd G2 qa (.tup [V.int t, ov])) := fun b o hb e => u1 _ _ (s3 _ _ hb (s14 _ _ e))
    generalize upd G2 qa (.tup [V.int t, ov]) = G3 at hL2 hq2 pn b15 ⊢
    refine ⟨_, rfl, _, rfl, L, _, _, j, rfl, rfl, hL2, ixN_nat hj, ?_⟩
    have pn2 := pen_off (o := .lst ([V.ref r1, V.ref r2, V.ref r3].set j (.ref qa))) pn nLp nLc
    have b16 : SameBut p H13 (upd G3 L (.lst ([V.ref r1, V.ref r2, V.ref r3].set j (.ref qa)))) := fun b o hb e => by
      rw [upd_ne (offL e)]
      exact b15 _ _ hb e
    have hq3 : (upd G3 L (.lst ([V.ref r1, V.ref r2, V.ref r3].set j (.ref qa)))) qa = some (.tup [V.int t, ov]) := by
      rw [upd_ne nqL]
      exact hq2
    have hL3 := upd_same (H := G3) (a := L) (o := .lst ([V.ref r1, V.ref r2, V.ref r3].set j (.ref qa)))
    generalize upd G3 L (.lst ([V.ref r1, V.ref r2, V.ref r3].set j (.ref qa))) = G4 at pn2 b16 hq3 hL3 ⊢
    have keep : ∀ G', Bt p L G4 G' → SameBut p H13 G' := fun G' bt b o hb e => bt _ _ hb (offL e) (b16 _ _ hb e)
    have okr : ∀ {r : Addr} {x y : Int}, H13 r = some (pairO (x, y)) → r ≠ p → PairP x y → ∀ G', Bt p L G4 G' → TB.PrV K G' (.ref r) (true, true) ∧ DpZ K G' (.ref r) (.tuple [.int x, .int y]) := fun {r x y} h hn P G' bt => by
      have z := keep G' bt _ _ hn h
      exact ⟨TB.pr_ok z P, .inl ⟨.tup (SqT.of z) (.cons (.int _) (.cons (.int _) .nil)), rfl⟩⟩
    have okq : ∀ G', Bt p L G4 G' → TB.PrV K G' (.ref qa) (true, false) ∧ DpZ K G' (.ref qa) (.tuple [.int t, de]) := fun G' bt => by
      have z := bt _ _ nqp nqL hq3
      obtain ⟨f1', f2'⟩ := hfe G' (keep G' bt)
      refine ⟨.inl ⟨qa, .int t, ov, rfl, z, .inl ⟨t, rfl, by rw [decide_eq_true ht0, decide_eq_true ht1]; rfl⟩, fun _ => ⟨t, rfl, f1'⟩⟩, .inl ⟨.tup (SqT.of z) (.cons (.int _) (.cons f2' .nil)), ?_⟩⟩
      show (false || (de.hasDict || false)) = false
      rw [hne]
      rfl
    have shp : ∀ {x y : Int}, PairP x y → ShD (.tuple [.int x, .int y]) 4 700 := fun {x y} P => by
      have a0 := P.t0
      have a1 := P.t1
      have a2 := P.lo
      have a3 := P.hi
      exact ((ShA.cons (sh_int (by omega)) (ShA.cons (sh_int (by omega)) (ShA.nil 0))).tup).mono (by decide) (by decide)
    have shq : ShD (.tuple [.int t, de]) 4 700 := ((ShA.cons ((sh_int (by omega)).mono (by decide) (Nat.le_refl _)) (ShA.cons hde (ShA.nil 2))).tup).mono (by decide) (by decide)
    obtain ⟨lpP1, lpP2, lpP3⟩ : PairP A u ∧ PairP B v ∧ PairP E w := ⟨P1, P2, P3⟩
    match j, hj, hL3 with
    | 0, _, hL3 => exact ⟨_, _, _, (true, false), (true, true), (true, true), _, _, _, k, rfl, hL3, fun G' bt => ⟨.cons (okq G' bt).1 (.cons (okr g2 nr2 lpP2 G' bt).1 (.cons (okr g3 nr3 lpP3 G' bt).1 .nil)), .cons (okq G' bt).2 (.cons (okr g2 nr2 lpP2 G' bt).2 (.cons (okr g3 nr3 lpP3 G' bt).2 .nil))⟩, rfl, rfl, ⟨shq, shp lpP2, shp lpP3⟩, b16, by omega, by omega, pn2⟩
    | 1, _, hL3 => exact ⟨_, _, _, (true, true), (true, false), (true, true), _, _, _, k, rfl, hL3, fun G' bt => ⟨.cons (okr g1 nr1 lpP1 G' bt).1 (.cons (okq G' bt).1 (.cons (okr g3 nr3 lpP3 G' bt).1 .nil)), .cons (okr g1 nr1 lpP1 G' bt).2 (.cons (okq G' bt).2 (.cons (okr g3 nr3 lpP3 G' bt).2 .nil))⟩, rfl, rfl, ⟨shp lpP1, shq, shp lpP3⟩, b16, by omega, by omega, pn2⟩
    | 2, _, hL3 => exact ⟨_, _, _, (true, true), (true, true), (true, false), _, _, _, k, rfl, hL3, fun G' bt => ⟨.cons (okr g1 nr1 lpP1 G' bt).1 (.cons (okr g2 nr2 lpP2 G' bt).1 (.cons (okq G' bt).1 .nil)), .cons (okr g1 nr1 lpP1 G' bt).2 (.cons (okr g2 nr2 lpP2 G' bt).2 (.cons (okq G' bt).2 .nil))⟩, rfl, rfl, ⟨shp lpP1, shp lpP2, shq⟩, b16, by omega, by omega, pn2⟩
  obtain ⟨w1, w2, w3, y1, y2, y3, e1, e2, e3, k15, rfl, hL15, hbt, hy1, hy2, ⟨se1, se2, se3⟩, b15, k150, k151, pen15⟩ := hM
  -- refused
  refine ⟨fun σ G => σ = [some (.ref a), some (.ref p), some (.int (0 + (i : Int))), some (.int A), some (.int u), some (.int B), some (.int v), some (.int C), some (.ref F), some (.ref S), some sz, some (.ref Z), some (.int (j : Int)), some (.int t), some (.ref O), some (.ref L), v16] ∧ Same H15 G, ?_, fun σ H16 hM => ?_⟩
  · refine ⟨_, rfl, L, w1, w2, w3, [y1, y2, y3], rfl, hL15, (hbt _ Bt.refl).1, .inr (.inl ⟨hy1, hy2, fun G s => ?_⟩)⟩
    exact ⟨rfl, _, rfl, iteNS rfl ⟨rfl, s⟩⟩
  obtain ⟨rfl, s16⟩ := hM
  have pen16 := pen15.same s16
  have hL16 := s16 _ _ hL15
  have b16 : SameBut p H13 H16 := fun b o hb e => s16 _ _ (b15 _ _ hb e)
  have hZ16 := b16 _ _ nZp hZ13
  -- one thing that is no pair
  refine ⟨fun σ G => ∃ (x1 x2 x3 : V) (y1 y2 y3 : Bool × Bool) (e1 e2 e3 : PyData) (k : Int), σ = [some (.ref a), some (.ref p), some (.int (0 + (i : Int))), some (.int A), some (.int u), some (.int B), some (.int v), some (.int C), some (.ref F), some (.ref S), some sz, some (.ref Z), some (.int (j : Int)), some (.int t), some (.ref O), some (.ref L), v16] ∧ G L = some (.lst [x1, x2, x3]) ∧ (∀ G', Bt p L G G' → Paired (TB.PrV K G') [x1, x2, x3] [y1, y2, y3] ∧ Paired (DpZ K G') [x1, x2, x3] [e1, e2, e3]) ∧ [y1, y2, y3].all (·.1) = false ∧ (ShD e1 4 700 ∧ ShD e2 4 700 ∧ ShD e3 4 700) ∧ 0 ≤ k ∧ k ≤ n + 12 ∧ PenAt G p c ms k, ?_, fun σ H17 hM => ?_⟩
  · refine ⟨_, rfl, _, rfl, p, c, ms, k15, 8, rfl, pen16, k150, by omega, by decide, by decide, fun x k G2 x0 x1 z0 z1 p3' s3 => ?_⟩
    obtain ⟨m, hm, rfl⟩ : ∃ m : Nat, m < 8 ∧ x = m := ⟨x.toNat, by omega, by omega⟩
    obtain ⟨zv, hzv⟩ : ∃ zv, zs[m]? = some zv := ⟨zs[m]'(by omega), List.getElem?_eq_getElem (by omega)⟩
    obtain ⟨de, hde, hfe⟩ := hzs zv (List.mem_of_getElem? hzv)
    refine ⟨Z, zs, _, zv, rfl, rfl, SqL.of (s3 _ _ nZp hZ16), atI_nat hzv, ?_⟩
    refine ⟨_, rfl, _, rfl, p, c, ms, k, 3, rfl, p3', by omega, by omega, by decide, by decide, fun x' k' G3 x0' x1' z0' z1' p4' s4 => ?_⟩
    obtain ⟨i', hi', rfl⟩ : ∃ i' : Nat, i' < 3 ∧ x' = i' := ⟨x'.toNat, by omega, by omega⟩
    have hL3 := s4 _ _ nLp (s3 _ _ nLp hL16)
    refine ⟨L, _, _, i', rfl, rfl, hL3, ixN_nat hi', ?_⟩
    have pn2 := pen_off (o := .lst ([w1, w2, w3].set i' zv)) p4' nLp nLc
    have hL4 := upd_same (H := G3) (a := L) (o := .lst ([w1, w2, w3].set i' zv))
    have bt4 : Bt p L H15 (upd G3 L (.lst ([w1, w2, w3].set i' zv))) := fun b o h1 h2 e => by
      rw [upd_ne h2]
      exact s4 _ _ h1 (s3 _ _ h1 (s16 _ _ e))
    generalize upd G3 L (.lst ([w1, w2, w3].set i' zv)) = G4 at pn2 hL4 bt4 ⊢
    have okz : ∀ G', Bt p L G4 G' → TB.PrV K G' zv (false, false) ∧ DpZ K G' zv de := fun G' bt => hfe G' fun b o hb e => bt _ _ hb (offL (b13 _ _ hb e)) (bt4 _ _ hb (offL (b13 _ _ hb e)) (b15 _ _ hb (b13 _ _ hb e)))
    have old : ∀ G', Bt p L G4 G' → Paired (TB.PrV K G') [w1, w2, w3] [y1, y2, y3] ∧ Paired (DpZ K G') [w1, w2, w3] [e1, e2, e3] := fun G' bt => hbt G' (bt4.trans bt)
    match i', hi', hL4 with
    | 0, _, hL4 =>
      refine ⟨_, _, _, (false, false), y2, y3, de, e2, e3, k', rfl, hL4, fun G' bt => ?_, rfl, ⟨hde, se2, se3⟩, by omega, by omega, pn2⟩
      obtain ⟨z1, z2⟩ := okz G' bt
      obtain ⟨a1, a2, a3⟩ := pair3 (old G' bt).1
      obtain ⟨c1, c2, c3⟩ := pair3 (old G' bt).2
      exact ⟨.cons z1 (.cons a2 (.cons a3 .nil)), .cons z2 (.cons c2 (.cons c3 .nil))⟩
    | 1, _, hL4 =>
      refine ⟨_, _, _, y1, (false, false), y3, e1, de, e3, k', rfl, hL4, fun G' bt => ?_, ?_, ⟨se1, hde, se3⟩, by omega, by omega, pn2⟩
      · obtain ⟨z1, z2⟩ := okz G' bt
        obtain ⟨a1, a2, a3⟩ := pair3 (old G' bt).1
        obtain ⟨c1, c2, c3⟩ := pair3 (old G' bt).2
        exact ⟨.cons a1 (.cons z1 (.cons a3 .nil)), .cons c1 (.cons z2 (.cons c3 .nil))⟩
      · show (y1.1 && (false && _)) = false
        rw [Bool.false_and, Bool.and_false]
    | 2, _, hL4 =>
      refine ⟨_, _, _, y1, y2, (false, false), e1, e2, de, k', rfl, hL4, fun G' bt => ?_, ?_, ⟨se1, se2, hde⟩, by omega, by omega, pn2⟩
      · obtain ⟨z1, z2⟩ := okz G' bt
        obtain ⟨a1, a2, a3⟩ := pair3 (old G' bt).1
        obtain ⟨c1, c2, c3⟩ := pair3 (old G' bt).2
        exact ⟨.cons a1 (.cons a2 (.cons z1 .nil)), .cons c1 (.cons c2 (.cons z2 .nil))⟩
      · show (y1.1 && (y2.1 && (false && _))) = false
        rw [Bool.false_and, Bool.and_false, Bool.and_false]
  clear hbt hy1 hy2 se1 se2 se3 hL15 hL16
  obtain ⟨x1', x2', x3', y1', y2', y3', d1, d2, d3, k17, rfl, hL17, hbt, hy1, ⟨se1, se2, se3⟩, k170, k171, pen17⟩ := hM
  have shl := (ShA.cons se1 (ShA.cons se2 (ShA.cons se3 (ShA.nil 4)))).lst
  have len := PyData.shown_le 40 (by decide) _ shl.lf
  have fits : (PyData.list [d1, d2, d3]).shown.length ≤ sizeLine := by
    have := shl.wt
    rw [sizeLine_eq]
    omega
  have deep : (PyData.list [d1, d2, d3]).depth ≤ 60 := Nat.le_trans shl.dp (by decide)
  -- shown
  refine ⟨fun σ G => ∃ kept : Str, σ = [some (.ref a), some (.ref p), some (.int (0 + (i : Int))), some (.int A), some (.int u), some (.int B), some (.int v), some (.int C), some (.ref F), some (.ref S), some sz, some (.ref Z), some (.int (j : Int)), some (.int t), some (.ref O), some (.ref L), some (.str kept)] ∧ kept = (PyData.list [d1, d2, d3]).shown ∧ G = H17, ?_, fun σ H18 hM => ?_⟩
  · refine ⟨_, rfl, L, _, _, rfl, hL17, (fun z => by cases z), (hbt _ Bt.refl).2, shl.s, deep, fits, ?_⟩
    exact ⟨_, rfl, rfl, rfl⟩
  obtain ⟨kept, rfl, ek, rfl⟩ := hM
  refine ⟨_, rfl, L, _, _, _, [y1', y2', y3'], rfl, hL17, (hbt _ Bt.refl).1, .inl ⟨hy1, fun G s => ?_⟩⟩
  refine ⟨rfl, _, rfl, iteNS rfl ?_⟩
  refine ⟨_, rfl, L, _, _, rfl, s _ _ hL17, (fun z => by cases z), (hbt _ (Bt.same s)).2, shl.s, deep, fits, ?_⟩
  refine ⟨_, rfl, rfl, _, rfl, iteNS (congrArg V.str ek.symm) ?_⟩
  exact ⟨_, _, _, _, _, _, _, _, _, _, _, _, _, _, _, k17, rfl, by omega, by omega, pen17.same s⟩
end
end TC
namespace TC
open PySem PySem.Spec PyProof.Rows L2 TCA TCX 
theorem facts {P : Program} {w : World} {K : PySem.W.Frag} {h : Heap} {mg : Str → Option Value} {f : Addr} (X : K.In h) (G : h.Ns mainGlobals mg) (hfa : mg ("law" : Str) = some (.ref f)) (sx : He.SaysX fa fn [] tf exB w h K) :
    ∃ fd : FuncData, (∀ (s : Shared) (v : Value), BindsTo s fd ⟨[v], []⟩ [("_law_script", v)]) ∧ ∀ base : Heap, K.In base → base.Ns mainGlobals mg → FnG P w K mg base CX0 7 f fd ["_law_script"] (spLaw K) := by
  have c := sx.t.d
  obtain ⟨fdI, FI⟩ := c.def_ 0 (d := dm "__init__" "Exact.__init__" sInit) rfl
  obtain ⟨fdEq, FEq⟩ := c.def_ 1 (d := dm "__eq__" "Exact.__eq__" sEq) rfl
  obtain ⟨fdE, FE⟩ := c.def_ 2 (d := dExact) rfl
  obtain ⟨fd3, F3⟩ := c.def_ 3 (d := dd "is_whole" sWhole) rfl
  obtain ⟨fd4, F4⟩ := c.def_ 4 (d := dd "shared" sShared) rfl
  obtain ⟨fd5, F5⟩ := c.def_ 5 (d := dd "in_lowest" sLowest) rfl
  obtain ⟨fd6, F6⟩ := c.def_ 6 (d := dd "squares_out" sSquares) rfl
  obtain ⟨fd7, F7⟩ := c.def_ 7 (d := dd "is_odd" sOdd) rfl
  obtain ⟨fd8, F8⟩ := c.def_ 8 (d := dd "binomials" sBinom) rfl
  obtain ⟨fd9, F9⟩ := c.def_ 9 (d := dd "primes_of_factorials" sPrimesF) rfl
  obtain ⟨fd10, F10⟩ := c.def_ 10 (d := dd "times" sTimes) rfl
  obtain ⟨fd11, F11⟩ := c.def_ 11 (d := dd "root_of_factorials" sRootF) rfl
  obtain ⟨fd12, F12⟩ := c.def_ 12 (d := dd "need_exact" sNeed) rfl
  obtain ⟨fd13, F13⟩ := c.def_ 13 (d := dd "on_one_bottom" sOneBottom) rfl
  obtain ⟨fd14, F14⟩ := c.def_ 14 (d := dd "lowered" sLowered) rfl
  obtain ⟨fd15, F15⟩ := c.def_ 15 (d := dd "products" sProducts) rfl
  obtain ⟨fd16, F16⟩ := c.def_ 16 (d := dd "is_size" sIsSize) rfl
  obtain ⟨fd17, F17⟩ := c.def_ 17 (d := dd "is_offset" sIsOffset) rfl
  obtain ⟨fd18, F18⟩ := c.def_ 18 (d := dd "need_sizes" sNeedSizes) rfl
  obtain ⟨fd19, F19⟩ := c.def_ 19 (d := dd "need_pairs" sNeedPairs) rfl
  obtain ⟨fd20, F20⟩ := c.def_ 20 (d := dd "can_join" sCanJoin) rfl
  obtain ⟨fd21, F21⟩ := c.def_ 21 (d := dd "powers" sPowers) rfl
  obtain ⟨fd22, F22⟩ := c.def_ 22 (d := dd "three_by_powers" sThreeByPowers) rfl
  obtain ⟨fd23, F23⟩ := c.def_ 23 (d := dd "signed_binomials" sSignedBinomials) rfl
  obtain ⟨fd24, F24⟩ := c.def_ 24 (d := dd "_law_pen" sPen) rfl
  obtain ⟨fd25, F25⟩ := c.def_ 25 (d := dd "_law_draw" sDraw) rfl
  obtain ⟨fd26, F26⟩ := c.def_ 26 (d := dd "_law_word" sWord) rfl
  obtain ⟨fd27, F27⟩ := c.def_ 27 (d := dd "_law_told" sTold) rfl
  obtain ⟨fd28, F28⟩ := c.def_ 28 (d := dd "_law_pair" sLPair) rfl
  obtain ⟨fd29, F29⟩ := c.def_ 29 (d := dd "_law_due" sLDue) rfl
  obtain ⟨fd30, F30⟩ := c.def_ 30 (d := dd "law" sLaw) rfl
  have glo : ∀ (i : Nat) (x : Str), TC.fa[i]? = some (.glo x) → mg x = some (.ref (He.ga K x)) := fun i x e => He.glo_ok X G (c.fact i (f := .glo x) e)
  have free : ∀ (i : Nat) (x : Str), TC.fa[i]? = some (.free x) → mg x = none := fun i x e => He.free_ok X G (c.fact i (f := .free x) e)
  obtain ⟨ti_HIGHEST_ROOT, gi_HIGHEST_ROOT⟩ := He.int_ok X G (c.fact 3 (f := .int "HIGHEST_ROOT" 1000000) rfl)
  obtain ⟨ti_HIGHEST_SIZE, gi_HIGHEST_SIZE⟩ := He.int_ok X G (c.fact 4 (f := .int "HIGHEST_SIZE" 40) rfl)
  obtain ⟨ti_HIGHEST_POWER, gi_HIGHEST_POWER⟩ := He.int_ok X G (c.fact 5 (f := .int "HIGHEST_POWER" 12) rfl)
  obtain ⟨xn, xe⟩ := He.ba sx.more
  obtain ⟨xP, ex⟩ := He.ba xn
  obtain ⟨xN, ex⟩ := He.ba ex
  obtain ⟨xC, ex⟩ := He.ba ex
  obtain ⟨xG, ex⟩ := He.ba ex
  obtain ⟨xT, ex⟩ := He.ba ex
  obtain ⟨xM, xO⟩ := He.ba ex
  have T : TxtN K mg (He.ga K "Exact") (He.ma K (He.ga K "Exact") "__init__") (He.ma K (He.ga K "Exact") "__eq__") := {
    cl := He.cls_ok (c.fact 6 (f := .cls "Exact") rfl)
    nP := He.noat_ok (c.fact 7 (f := .noat "Exact" "parts") rfl)
    mkr := He.mkr_ok (c.fact 8 (f := .mkr "Exact") rfl)
    mq := He.meth_ok (c.fact 9 (f := .meth "Exact" "__eq__") rfl)
    mgC := glo 0 "Exact" rfl
    ne := He.eqO_ok xN
    ca := He.eqO_ok xC
    cn := He.eqO_ok xG
    ct := of_decide_eq_true xT
    cm := of_decide_eq_true xM }
  have hT : ∀ H, SqT K H (He.ga K "PRIMES") (primes.map V.int) := fun H => by
    have z := He.tupB_ok xP H
    rw [List.map_map] at z
    exact z
  have hT2 : ∀ H, SqT K H (He.ga K "PRIMES") (TCM.primes.map V.int) := hT
  obtain ⟨m1, x2⟩ := He.ba xe
  obtain ⟨m2, x3⟩ := He.ba x2
  obtain ⟨m3, m4⟩ := He.ba x3
  have kdS := excAllF_ok m1
  have kdO := excAllF_ok m2
  have kdW := excAllF_ok m3
  obtain ⟨xE_NoSize, xK_NoSize, xB_NoSize, xT_NoSize⟩ := He.exc_ok (c.fact 62 (f := .exc "NoSize") rfl)
  have XT_NoSize : TB.XTxt K mg "NoSize" (He.ga K "NoSize") := ⟨(glo 40 "NoSize" rfl), xE_NoSize, xK_NoSize, xB_NoSize, xT_NoSize⟩
  obtain ⟨xE_NoOffset, xK_NoOffset, xB_NoOffset, xT_NoOffset⟩ := He.exc_ok (c.fact 63 (f := .exc "NoOffset") rfl)
  have XT_NoOffset : TB.XTxt K mg "NoOffset" (He.ga K "NoOffset") := ⟨(glo 41 "NoOffset" rfl), xE_NoOffset, xK_NoOffset, xB_NoOffset, xT_NoOffset⟩
  obtain ⟨xE_TooWide, xK_TooWide, xB_TooWide, xT_TooWide⟩ := He.exc_ok (c.fact 64 (f := .exc "TooWide") rfl)
  have XT_TooWide : TB.XTxt K mg "TooWide" (He.ga K "TooWide") := ⟨(glo 44 "TooWide" rfl), xE_TooWide, xK_TooWide, xB_TooWide, xT_TooWide⟩
  have ST : TB.STxt K mg := ⟨(glo 38 "TurnError" rfl), (glo 59 "ByNought" rfl), (glo 57 "NoName" rfl), (glo 58 "NoPlace" rfl), (glo 60 "NothingDone" rfl)⟩
  have WT : TB.WTxt K mg := ⟨fun i x e => ?_, (glo 38 "TurnError" rfl), (free 82 "ValueError" rfl), (free 83 "ZeroDivisionError" rfl), (free 84 "KeyError" rfl), (free 85 "IndexError" rfl), (free 86 "LookupError" rfl), (free 65 "isinstance" rfl)⟩
  rotate_left
  · match i, e with
    | 0, e => cases e; exact glo 54 "Empty" rfl
    | 1, e => cases e; exact glo 52 "NoDeed" rfl
    | 2, e => cases e; exact glo 50 "NoHalf" rfl
    | 3, e => cases e; exact glo 51 "NoLinking" rfl
    | 4, e => cases e; exact glo 45 "NoNet" rfl
    | 5, e => cases e; exact glo 39 "NoNumber" rfl
    | 6, e => cases e; exact glo 41 "NoOffset" rfl
    | 7, e => cases e; exact glo 53 "NoQuestion" rfl
    | 8, e => cases e; exact glo 46 "NoRow" rfl
    | 9, e => cases e; exact glo 40 "NoSize" rfl
    | 10, e => cases e; exact glo 47 "NoStanding" rfl
    | 11, e => cases e; exact glo 43 "NoTable" rfl
    | 12, e => cases e; exact glo 56 "NoText" rfl
    | 13, e => cases e; exact glo 55 "NotParted" rfl
    | 14, e => cases e; exact glo 48 "NoTree" rfl
    | 15, e => cases e; exact glo 42 "NoTriple" rfl
    | 16, e => cases e; exact glo 49 "NoWay" rfl
    | 17, e => cases e; exact glo 44 "TooWide" rfl
    | 18, e => cases e; exact glo 59 "ByNought" rfl
    | 19, e => cases e; exact glo 57 "NoName" rfl
    | 20, e => cases e; exact glo 58 "NoPlace" rfl
    | 21, e => cases e; exact glo 60 "NothingDone" rfl
    | n + 22, e =>
      have z : ([] : List Str)[n]? = some x := e
      cases z
  have e := hfa.symm.trans (glo 37 "law" rfl)
  cases e
  have bI := FunD.bindsN (ps := ["self", "parts"]) FI fun _ _ _ _ _ _ us hl => match us, hl with | [_, _], _ => rfl
  have bEq := FunD.bindsN (ps := ["self", "other"]) FEq fun _ _ _ _ _ _ us hl => match us, hl with | [_, _], _ => rfl
  have b3 := FunD.bindsN (ps := ["thing"]) F3 fun _ _ _ _ _ _ us hl => match us, hl with | [_], _ => rfl
  have b4 := FunD.bindsN (ps := ["one", "other"]) F4 fun _ _ _ _ _ _ us hl => match us, hl with | [_, _], _ => rfl
  have b5 := FunD.bindsN (ps := ["top", "bottom"]) F5 fun _ _ _ _ _ _ us hl => match us, hl with | [_, _], _ => rfl
  have b6 := FunD.bindsN (ps := ["number"]) F6 fun _ _ _ _ _ _ us hl => match us, hl with | [_], _ => rfl
  have b7 := FunD.bindsN (ps := ["number"]) F7 fun _ _ _ _ _ _ us hl => match us, hl with | [_], _ => rfl
  have b8 := FunD.bindsN (ps := ["high"]) F8 fun _ _ _ _ _ _ us hl => match us, hl with | [_], _ => rfl
  have b9 := FunD.bindsN (ps := ["above", "below"]) F9 fun _ _ _ _ _ _ us hl => match us, hl with | [_, _], _ => rfl
  have b10 := FunD.bindsN (ps := ["one", "other"]) F10 fun _ _ _ _ _ _ us hl => match us, hl with | [_, _], _ => rfl
  have b11 := FunD.bindsN (ps := ["above", "below"]) F11 fun _ _ _ _ _ _ us hl => match us, hl with | [_, _], _ => rfl
  have b12 := FunD.bindsN (ps := ["thing"]) F12 fun _ _ _ _ _ _ us hl => match us, hl with | [_], _ => rfl
  have b13 := FunD.bindsN (ps := ["parts"]) F13 fun _ _ _ _ _ _ us hl => match us, hl with | [_], _ => rfl
  have b14 := FunD.bindsN (ps := ["tops", "bottom"]) F14 fun _ _ _ _ _ _ us hl => match us, hl with | [_, _], _ => rfl
  have b15 := FunD.bindsN (ps := ["tops", "others"]) F15 fun _ _ _ _ _ _ us hl => match us, hl with | [_, _], _ => rfl
  have b16 := FunD.bindsN (ps := ["thing"]) F16 fun _ _ _ _ _ _ us hl => match us, hl with | [_], _ => rfl
  have b17 := FunD.bindsN (ps := ["thing", "size"]) F17 fun _ _ _ _ _ _ us hl => match us, hl with | [_, _], _ => rfl
  have b18 := FunD.bindsN (ps := ["things"]) F18 fun _ _ _ _ _ _ us hl => match us, hl with | [_], _ => rfl
  have b19 := FunD.bindsN (ps := ["things"]) F19 fun _ _ _ _ _ _ us hl => match us, hl with | [_], _ => rfl
  have b20 := FunD.bindsN (ps := ["one", "other", "third"]) F20 fun _ _ _ _ _ _ us hl => match us, hl with | [_, _, _], _ => rfl
  have b21 := FunD.bindsN (ps := ["p", "q", "r"]) F21 fun _ _ _ _ _ _ us hl => match us, hl with | [_, _, _], _ => rfl
  have b22 := FunD.bindsN (ps := ["one", "other", "third"]) F22 fun _ _ _ _ _ _ us hl => match us, hl with | [_, _, _], _ => rfl
  have b23 := FunD.bindsN (ps := ["power"]) F23 fun _ _ _ _ _ _ us hl => match us, hl with | [_], _ => rfl
  have b24 := FunD.bindsN (ps := ["_law_script"]) F24 fun _ _ _ _ _ _ us hl => match us, hl with | [_], _ => rfl
  have b25 := FunD.bindsN (ps := ["_law_pen_here", "_law_many"]) F25 fun _ _ _ _ _ _ us hl => match us, hl with | [_, _], _ => rfl
  have b26 := FunD.bindsN (ps := ["_law_e"]) F26 fun _ _ _ _ _ _ us hl => match us, hl with | [_], _ => rfl
  have b27 := FunD.bindsN (ps := ["_law_some"]) F27 fun _ _ _ _ _ _ us hl => match us, hl with | [_], _ => rfl
  have b28 := FunD.bindsN (ps := ["_law_pen_here"]) F28 fun _ _ _ _ _ _ us hl => match us, hl with | [_], _ => rfl
  have b29 := FunD.bindsN (ps := ["_law_some"]) F29 fun _ _ _ _ _ _ us hl => match us, hl with | [_], _ => rfl
  have b := FunD.bindsA (ps := ["_law_script"]) F30 fun _ _ _ _ _ _ us hl => match us, hl with | [_], _ => rfl
  refine ⟨fd30, fun s v => b s [v] rfl, fun base _ _ => ?_⟩
  have G_law_pen := ok_pen (P := P) (w := w) (mg := mg) (base := base) F24 (free 70 "list" rfl)
  have G_law_draw := ok_draw (P := P) (w := w) (mg := mg) (base := base) F25 (free 72 "len" rfl)
  have G_is_whole := ok_whole (P := P) (w := w) (mg := mg) (base := base) F3 (free 65 "isinstance" rfl) (free 66 "int" rfl) (free 67 "bool" rfl)
  have G_squares_out := ok_squares (P := P) (w := w) (mg := mg) (base := base) F6 (glo 2 "PRIMES" rfl) hT2
  have G_shared := ok_shared (P := P) (w := w) (mg := mg) (base := base) F4 (free 68 "abs" rfl)
  have G_in_lowest := ok_lowest (P := P) (w := w) (mg := mg) (base := base) F5 G_shared b4 F4.kp (glo 11 "shared" rfl)
  have G_init := ok_init (P := P) (w := w) (mg := mg) (base := base) FI T
  have G_lowered := ok_lowered (P := P) (w := w) (mg := mg) (base := base) F14 T G_in_lowest b5 F5.kp (glo 12 "in_lowest" rfl) G_init bI (free 69 "sorted" rfl) (free 70 "list" rfl) (free 71 "tuple" rfl)
  have G_exact := ok_exact (P := P) (w := w) (mg := mg) (base := base) FE G_is_whole b3 F3.kp (glo 10 "is_whole" rfl) G_squares_out b6 F6.kp (glo 13 "squares_out" rfl) G_lowered b14 F14.kp (glo 21 "lowered" rfl) gi_HIGHEST_ROOT
  have G_is_size := ok_isSize (P := P) (w := w) (mg := mg) (base := base) F16 G_is_whole b3 F3.kp (glo 10 "is_whole" rfl) gi_HIGHEST_SIZE
  have G_need_sizes_spNeedSizes := ok_needSizes (P := P) (w := w) (mg := mg) (base := base) F18 G_is_size b16 F16.kp (glo 23 "is_size" rfl)
  have G_is_odd := ok_odd (P := P) (w := w) (mg := mg) (base := base) F7
  have G_is_offset := ok_isOffset (P := P) (w := w) (mg := mg) (base := base) F17 G_is_whole b3 F3.kp (glo 10 "is_whole" rfl) G_is_odd b7 F7.kp (glo 14 "is_odd" rfl)
  have G_need_pairs := ok_needPairs (P := P) (w := w) (mg := mg) (base := base) F19 G_need_sizes_spNeedSizes b18 F18.kp (glo 25 "need_sizes" rfl) G_is_offset b17 F17.kp (glo 24 "is_offset" rfl) (free 65 "isinstance" rfl) (free 71 "tuple" rfl) (free 72 "len" rfl)
  have G_can_join := ok_canJoin (P := P) (w := w) (mg := mg) (base := base) F20 G_is_odd b7 F7.kp (glo 14 "is_odd" rfl)
  have G_primes_of_factorials_spPrimesT := ok_primesT (P := P) (w := w) (mg := mg) (base := base) F9 (glo 2 "PRIMES" rfl) hT (free 75 "max" rfl) (free 73 "range" rfl) (free 74 "reversed" rfl) (free 77 "sum" rfl)
  have G_root_of_factorials_spRootT := ok_rootT (P := P) (w := w) (mg := mg) (base := base) F11 T G_primes_of_factorials_spPrimesT b9 F9.kp (glo 16 "primes_of_factorials" rfl) G_is_odd b7 F7.kp (glo 14 "is_odd" rfl) G_init bI (free 73 "range" rfl)
  have G_need_exact := ok_need (P := P) (w := w) (mg := mg) (base := base) F12 T (free 65 "isinstance" rfl)
  have G_on_one_bottom := ok_oneB (P := P) (w := w) (mg := mg) (base := base) F13 G_shared b4 F4.kp (glo 11 "shared" rfl)
  have G_products := ok_products (P := P) (w := w) (mg := mg) (base := base) F15 G_shared b4 F4.kp (glo 11 "shared" rfl)
  have G_times := ok_times (P := P) (w := w) (mg := mg) (base := base) F10 T G_need_exact b12 F12.kp (glo 19 "need_exact" rfl) G_on_one_bottom b13 F13.kp (glo 20 "on_one_bottom" rfl) G_products b15 F15.kp (glo 22 "products" rfl) G_lowered b14 F14.kp (glo 21 "lowered" rfl)
  have G_binomials := ok_binom (P := P) (w := w) (mg := mg) (base := base) F8 (free 73 "range" rfl)
  have G_signed_binomials := ok_signed (P := P) (w := w) (mg := mg) (base := base) F23 G_binomials b8 F8.kp (glo 15 "binomials" rfl) G_is_odd b7 F7.kp (glo 14 "is_odd" rfl) (free 79 "enumerate" rfl)
  have G_powers := ok_pow (P := P) (w := w) (mg := mg) (base := base) F21 G_signed_binomials b23 F23.kp (glo 30 "signed_binomials" rfl) G_is_whole b3 F3.kp (glo 10 "is_whole" rfl) gi_HIGHEST_POWER (free 79 "enumerate" rfl)
  have G_three_by_powers := ok_tbp (P := P) (w := w) (mg := mg) (base := base) F22 FE G_exact (glo 1 "exact" rfl) G_need_pairs b19 F19.kp (glo 26 "need_pairs" rfl) G_can_join b20 F20.kp (glo 27 "can_join" rfl) G_root_of_factorials_spRootT b11 F11.kp (glo 18 "root_of_factorials" rfl) G_times b10 F10.kp (glo 17 "times" rfl) G_powers b21 F21.kp (glo 28 "powers" rfl) (free 75 "max" rfl) gi_HIGHEST_POWER
  have G_eq := ok_eq (P := P) (w := w) (mg := mg) (base := base) FEq T (free 65 "isinstance" rfl)
  have X_whole := TB.ok_whole (P := P) (w := w) (mg := mg) (base := base) F3 (free 65 "isinstance" rfl) (free 66 "int" rfl) (free 67 "bool" rfl)
  have X_size := TB.ok_isSize (P := P) (w := w) (mg := mg) (base := base) F16 X_whole b3 F3.kp (glo 10 "is_whole" rfl) gi_HIGHEST_SIZE
  have X_need := TB.ok_need (P := P) (w := w) (mg := mg) (base := base) F18 X_size b16 F16.kp (glo 23 "is_size" rfl) XT_NoSize
  have X_off := TB.ok_isOffV (P := P) (w := w) (mg := mg) (base := base) F17 X_whole b3 F3.kp (glo 10 "is_whole" rfl) G_is_odd b7 F7.kp (glo 14 "is_odd" rfl)
  have X_pairs := TB.ok_needP (P := P) (w := w) (mg := mg) (base := base) F19 X_need b18 F18.kp (glo 25 "need_sizes" rfl) X_off b17 F17.kp (glo 24 "is_offset" rfl) (free 65 "isinstance" rfl) (free 71 "tuple" rfl) (free 72 "len" rfl) XT_NoSize XT_NoOffset
  have X_tbp := TB.ok_tbpX (P := P) (w := w) (mg := mg) (base := base) F22 X_pairs b19 F19.kp (glo 26 "need_pairs" rfl) G_can_join b20 F20.kp (glo 27 "can_join" rfl) (free 75 "max" rfl) gi_HIGHEST_POWER XT_TooWide
  have U_tbp : FnOk P w K mg base (L2.CX P w) 5 _ _ ["one", "other", "third"] (TB.spTB K (He.ga K "Exact") (He.ga K "NoSize") (He.ga K "NoOffset") (He.ga K "TooWide")) := both (lift0 G_three_by_powers) X_tbp
  have X_word := TB.ok_word (P := P) (w := w) (mg := mg) (base := base) F26 WT
  have X_told := TB.ok_told (P := P) (w := w) (mg := mg) (base := base) F27 ST T U_tbp b22 F22.kp (glo 29 "three_by_powers" rfl) X_word b26 F26.kp (glo 33 "_law_word" rfl) G_eq bEq FE G_exact (glo 1 "exact" rfl) kdS kdO kdW
  have X_pair := TB.ok_pair (P := P) (w := w) (mg := mg) (base := base) F28 G_law_draw b25 F25.kp (glo 32 "_law_draw" rfl)
  have X_due := TB.ok_due (P := P) (w := w) (mg := mg) (base := base) F29 (free 68 "abs" rfl) (free 75 "max" rfl)
  exact ok_law F30 ⟨G_law_pen, b24, F24.kp, (glo 31 "_law_pen" rfl), G_law_draw, b25, F25.kp, (glo 32 "_law_draw" rfl), X_pair, b28, F28.kp, (glo 35 "_law_pair" rfl), X_told, b27, F27.kp, (glo 34 "_law_told" rfl), X_due, b29, F29.kp, (glo 36 "_law_due" rfl), (free 73 "range" rfl), (free 68 "abs" rfl), (free 76 "min" rfl), (free 70 "list" rfl), (free 80 "repr" rfl)⟩
end TC
open PySem PySem.W PySem.Calls PyProof.Rows
set_option maxHeartbeats 0 in
theorem PySem.Challenge.cw_turncouple_k30_threes_by_powers_refused_holds : PySem.Challenge.rw_turncouple_k30_threes_by_powers_refused.Holds := by
  w_on; o_law
  refine HandSHeadRun.head_any (r := OpenLaw.row PySem.Challenge.rw_turncouple_k30_threes_by_powers_refused) (q := view (OpenLaw.row PySem.Challenge.rw_turncouple_k30_threes_by_powers_refused).prog [67]) (H := TC.hk) (ob := TC.ob) (M := 30000) (loose := TC.loose) (d := HandSHeadRun.topDef (OpenLaw.row PySem.Challenge.rw_turncouple_k30_threes_by_powers_refused).prog 67) (kwd := []) TC.ob_eq
    (by kernel_rfl) (fun s => by kernel_rfl) TC.run (by kernel_rfl) (by kernel_rfl) (by kernel_rfl) (by rfl) (by first | assumption | decide +kernel) (by decide +kernel) ⟨rfl, rfl, rfl, rfl, rfl, by decide +kernel⟩ ?hw ?hc
  case hw => w_witness2
  case hc =>
    refine TCX.walk_ofG (l := PySem.Challenge.rw_turncouple_k30_threes_by_powers_refused) (n := 63) (k := 7) (x := "_law_script") (CX := fun _ => L2.CX0) rfl (by decide) (by kernel_rfl) ⟨rfl, by decide, by decide⟩ ?F (fun _ _ _ _ _ z => z)
    intro w mg fa h Y G hmg0
    obtain ⟨K, KX, sx⟩ := Y
    have hmg : mg ("law" : PySem.Str) = some (.ref fa) := by
      have e : (HandSHeadRun.topDef (OpenLaw.row PySem.Challenge.rw_turncouple_k30_threes_by_powers_refused).prog 67).name = ("law" : PySem.Str) := by kernel_rfl
      rw [← e]
      exact hmg0
    obtain ⟨fd, hb, hF⟩ := TC.facts (P := (PySem.Challenge.rw_turncouple_k30_threes_by_powers_refused).prog) (w := w) KX G hmg sx
    refine ⟨K, KX, fd, [], TC.spLaw K, fun p hp => (List.not_mem_nil hp).elim, fun p hp => (List.not_mem_nil hp).elim, fun p hp => (List.not_mem_nil hp).elim, hb, fun H a ns hl hT hS => ⟨a, ns, rfl, hS, hl, fun _ => rfl⟩, fun base h1 h2 h3 => hF base h1 h2⟩
