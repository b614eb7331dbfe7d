import PyProof.Rows.All
import Wide.All
import OpenK.AllK
import Wide.FinOn
import KE.KIsAll
import KE.KTryMore
import HandS.ForMost
import HandS.ForExc
import HandS.Defaults
import HandS.ExcIs
import HandS.Lambda
import HandS.Codes
import HandS.Conv
import HandS.More
import HandS.Walk
import HandS.EndTab
import HandS.HeadWalk
import PyProof.ReprRoads
import PyProof.ListRange
import HandS.HeadHook1
import HandS.HeadHook2
import HandS.HeadHook3
import HandS.HeadHook4
import KE.KStateDown
import Lean
import HandS.IsInst
import HandS.Head0
import HandS.Head1
import HandS.Head2
import HandS.HeadEnd
import HandS.Wide
import KE.GoesMore
import KE.GoesEnum
import KE.KFmtOwn
import PyProof.InstEq
import HandS.OwnEq
import HandS.WideMore
import PyProof.ReprLen
import HandS.DictComp
import HandS.Dict
import KE.KeyNested
import HandS.Iter
import KE.KDictWalk
import PyProof.DictItems
import PyProof.DictFindH
import HandS.Zip
import HandS.SortKw
import KE.GoesEnumKw
import KE.GoesZip
import PyProof.Rows.CallKwBuiltin
import HandS.List
import KE.KDictCopyH
import PyProof.SumWalkG
import HandS.Finally
import HandS.DictTup
import PyProof.DictMoreH
import KE.KDictDisplayH
import HandS.TupAny
import HandS.TryOnly
import PySem.Challenge.RW_turncouple_k28_powers_multiplied_out
set_option Elab.async false
set_option linter.all false
set_option maxRecDepth 100000
set_option maxHeartbeats 4000000
/-! roots of factorials: a square times a number free of squares, in one way only. -/
namespace TCX
/-- free of squares -/
def SqF (r : Nat) : Prop := ∀ d : Nat, d * d ∣ r → d = 1
theorem SqF.dvd {r s : Nat} (h : SqF r) (e : s ∣ r) : SqF s := fun d hd => h d (Nat.dvd_trans hd e)
theorem SqF.pos {r : Nat} (h : SqF r) : 0 < r := by
  refine Nat.pos_of_ne_zero fun e => ?_
  have := h 0 (by rw [e]; exact Nat.dvd_refl 0)
  cases this
/-- for coprime x, y: x x r = y y f with both free of squares makes x = y = 1 -/
theorem sq_cop {x y r f : Nat} (c : Nat.Coprime x y) (hr : SqF r) (hf : SqF f) (e : x * x * r = y * y * f) : x = 1 ∧ y = 1 := by
  have c2 : Nat.Coprime (x * x) (y * y) := Nat.Coprime.mul_left (Nat.Coprime.mul_right c c) (Nat.Coprime.mul_right c c)
  refine ⟨hf x ?_, hr y ?_⟩
  · exact Nat.Coprime.dvd_of_dvd_mul_left c2 (by rw [← e]; exact Nat.dvd_mul_right _ _)
  · exact Nat.Coprime.dvd_of_dvd_mul_left c2.symm (by rw [e]; exact Nat.dvd_mul_right _ _)
theorem sq_uniq {x y r f : Nat} (hx : 0 < x) (hr : SqF r) (hf : SqF f) (e : x * x * r = y * y * f) : x = y ∧ r = f := by
  have g0 : 0 < Nat.gcd x y := Nat.gcd_pos_of_pos_left _ hx
  obtain ⟨a, ha⟩ := Nat.gcd_dvd_left x y
  obtain ⟨b, hb⟩ := Nat.gcd_dvd_right x y
  have cop : Nat.Coprime a b := by
    have z := Nat.gcd_mul_left (Nat.gcd x y) a b
    rw [← ha, ← hb] at z
    have z2 : Nat.gcd x y * 1 = Nat.gcd x y * Nat.gcd a b := by rw [Nat.mul_one]; exact z
    exact (Nat.eq_of_mul_eq_mul_left g0 z2).symm
  have e2 : a * a * r = b * b * f := by
    have h1 : x * x * r = (Nat.gcd x y * Nat.gcd x y) * (a * a * r) := by
      conv => lhs; rw [ha]
      simp only [Nat.mul_assoc, Nat.mul_left_comm, Nat.mul_comm]
    have h2 : y * y * f = (Nat.gcd x y * Nat.gcd x y) * (b * b * f) := by
      conv => lhs; rw [hb]
      simp only [Nat.mul_assoc, Nat.mul_left_comm, Nat.mul_comm]
    rw [h1, h2] at e
    exact Nat.eq_of_mul_eq_mul_left (Nat.mul_pos g0 g0) e
  obtain ⟨ea, eb⟩ := sq_cop cop hr hf e2
  subst ea eb
  refine ⟨?_, by simpa using e2⟩
  rw [ha]
  conv => rhs; rw [hb]
/-! ### primes -/
def IsP (p : Nat) : Prop := 1 < p ∧ ∀ d, d ∣ p → d = 1 ∨ d = p
def pr30 : List Nat := [2, 3, 5, 7, 11, 13, 17, 19, 23, 29, 31, 37, 41, 43, 47, 53, 59, 61, 67, 71, 73, 79, 83, 89, 97, 101, 103, 107, 109, 113]
theorem pr30_b : ∀ p ∈ pr30, 1 < p ∧ ∀ d, d < p + 1 → d ∣ p → d = 1 ∨ d = p := by decide +kernel
theorem pr30_p : ∀ p ∈ pr30, IsP p := fun p hp => by
  obtain ⟨h1, h2⟩ := pr30_b p hp
  exact ⟨h1, fun d hd => h2 d (Nat.lt_succ_of_le (Nat.le_of_dvd (by omega) hd)) hd⟩
theorem pr30_nd : pr30.Nodup := by decide +kernel
theorem IsP.cop {p d : Nat} (h : IsP p) (hd : ¬ p ∣ d) : Nat.Coprime p d := by
  rcases h.2 _ (Nat.gcd_dvd_left p d) with e | e
  · exact e
  · exact absurd (e ▸ Nat.gcd_dvd_right p d) hd
theorem SqF.one : SqF 1 := fun d hd => by
  have := Nat.eq_one_of_dvd_one hd
  exact Nat.eq_one_of_mul_eq_one_left this
theorem SqF.mul {p m : Nat} (hp : IsP p) (hm : SqF m) (hn : ¬ p ∣ m) : SqF (p * m) := fun d hd => by
  by_cases h : p ∣ d
  · obtain ⟨k, rfl⟩ := h
    refine absurd ?_ hn
    have z : p * (p * (k * k)) ∣ p * m := by
      have e : p * k * (p * k) = p * (p * (k * k)) := by
        simp only [Nat.mul_assoc, Nat.mul_left_comm, Nat.mul_comm]
      rw [e] at hd
      exact hd
    have z2 := Nat.dvd_of_mul_dvd_mul_left (by have := hp.1; omega) z
    exact Nat.dvd_trans (Nat.dvd_mul_right _ _) z2
  · have c := hp.cop h
    have c2 : Nat.Coprime (d * d) p := (Nat.Coprime.mul_right c c).symm
    exact hm d (Nat.Coprime.dvd_of_dvd_mul_left c2 hd)
theorem IsP.dvd_mul {p a b : Nat} (h : IsP p) (hd : p ∣ a * b) : p ∣ a ∨ p ∣ b := by
  by_cases z : p ∣ a
  · exact .inl z
  · exact .inr (Nat.Coprime.dvd_of_dvd_mul_left (h.cop z) hd)
/-- the product of those of a list that are asked for -/
def pickP (f : Nat → Bool) (l : List Nat) : Nat := l.foldr (fun p m => if f p then p * m else m) 1
theorem pick_not {f : Nat → Bool} {q : Nat} (hq : IsP q) : ∀ {l : List Nat}, (∀ p ∈ l, IsP p) → q ∉ l → ¬ q ∣ pickP f l
  | [], _, _ => fun h => by
    have := Nat.eq_one_of_dvd_one h
    have := hq.1
    omega
  | p :: l, hp, hn => fun h => by
    have ih := pick_not (f := f) hq (fun r hr => hp r (List.mem_cons_of_mem _ hr)) (fun z => hn (List.mem_cons_of_mem _ z))
    have e : pickP f (p :: l) = if f p then p * pickP f l else pickP f l := rfl
    rw [e] at h
    split at h
    · rcases hq.dvd_mul h with h | h
      · rcases (hp p (by simp)).2 q h with e | e
        · have := hq.1
          omega
        · exact hn (by rw [e]; simp)
      · exact ih h
    · exact ih h
theorem pick_sqF {f : Nat → Bool} : ∀ {l : List Nat}, (∀ p ∈ l, IsP p) → l.Nodup → SqF (pickP f l)
  | [], _, _ => SqF.one
  | p :: l, hp, nd => by
    have n := List.nodup_cons.mp nd
    have hl : ∀ r ∈ l, IsP r := fun r hr => hp r (List.mem_cons_of_mem _ hr)
    have ih := pick_sqF (f := f) hl n.2
    have e : pickP f (p :: l) = if f p then p * pickP f l else pickP f l := rfl
    rw [e]
    split
    · exact SqF.mul (hp p (by simp)) ih (pick_not (hp p (by simp)) hl n.1)
    · exact ih
/-! ### factorials -/
def factN : Nat → Nat
  | 0 => 1
  | n + 1 => (n + 1) * factN n
/-- how often p is in n!, by the powers of p to 122 -/
def legN (n p : Nat) : Nat := n / p + n / (p * p) + n / (p * p * p) + n / (p * p * p * p) + n / (p * p * p * p * p) + n / (p * p * p * p * p * p)
def powP (e : Nat → Nat) (l : List Nat) : Nat := l.foldr (fun p m => p ^ e p * m) 1
theorem fact_leg : ∀ n, n < 123 → factN n = powP (legN n) pr30 := by decide +kernel
theorem powP_mul (e f : Nat → Nat) : ∀ l : List Nat, powP e l * powP f l = powP (fun p => e p + f p) l
  | [] => rfl
  | p :: l => by
    show p ^ e p * powP e l * (p ^ f p * powP f l) = p ^ (e p + f p) * powP (fun p => e p + f p) l
    rw [← powP_mul e f l, Nat.pow_add]
    simp only [Nat.mul_assoc, Nat.mul_left_comm, Nat.mul_comm]
theorem powP_congr {e f : Nat → Nat} : ∀ {l : List Nat}, (∀ p ∈ l, e p = f p) → powP e l = powP f l
  | [], _ => rfl
  | p :: l, h => by
    show p ^ e p * powP e l = p ^ f p * powP f l
    rw [h p (by simp), powP_congr fun r hr => h r (List.mem_cons_of_mem _ hr)]
theorem powP_pos {e : Nat → Nat} : ∀ {l : List Nat}, (∀ p ∈ l, IsP p) → 0 < powP e l
  | [], _ => Nat.one_pos
  | p :: l, h => by
    have h1 := (h p (by simp)).1
    exact Nat.mul_pos (Nat.pow_pos (by omega)) (powP_pos fun r hr => h r (List.mem_cons_of_mem _ hr))
theorem pick_pow (f : Nat → Bool) : ∀ l : List Nat, pickP f l = powP (fun p => if f p then 1 else 0) l
  | [] => rfl
  | p :: l => by
    have e : pickP f (p :: l) = if f p then p * pickP f l else pickP f l := rfl
    rw [e, pick_pow f l]
    show _ = p ^ (if f p then 1 else 0) * powP (fun p => if f p then 1 else 0) l
    split
    · rw [Nat.pow_one]
    · rw [Nat.pow_zero, Nat.one_mul]
/-- the factorials of a list, multiplied -/
def prodF (l : List Nat) : Nat := l.foldr (fun n m => factN n * m) 1
def sumL (l : List Nat) (p : Nat) : Nat := l.foldr (fun n m => legN n p + m) 0
theorem powP_zero : ∀ l : List Nat, powP (fun _ => 0) l = 1
  | [] => rfl
  | p :: l => by
    show p ^ 0 * powP (fun _ => 0) l = 1
    rw [powP_zero l]
    rfl
theorem prodF_leg : ∀ {l : List Nat}, (∀ n ∈ l, n < 123) → prodF l = powP (sumL l) pr30
  | [], _ => (powP_zero pr30).symm
  | n :: l, h => by
    show factN n * prodF l = _
    rw [fact_leg n (h n (by simp)), prodF_leg fun m hm => h m (List.mem_cons_of_mem _ hm), powP_mul]
    rfl
/-- the power of p in the quotient of two products of factorials -/
def expE (above below : List Nat) (p : Nat) : Int := (sumL above p : Int) - (sumL below p : Int)
def topE (above below : List Nat) : Nat := powP (fun p => (expE above below p / 2).toNat) pr30
def botE (above below : List Nat) : Nat := powP (fun p => (-(expE above below p / 2)).toNat) pr30
def rootE (above below : List Nat) : Nat := pickP (fun p => decide (expE above below p % 2 = 1)) pr30
theorem rootE_sqF (above below : List Nat) : SqF (rootE above below) := pick_sqF pr30_p pr30_nd
theorem topE_pos (above below : List Nat) : 0 < topE above below := powP_pos pr30_p
theorem botE_pos (above below : List Nat) : 0 < botE above below := powP_pos pr30_p
/-- (top / bottom) squared times the root is the quotient -/
theorem rootE_ok {above below : List Nat} (ha : ∀ n ∈ above, n < 123) (hb : ∀ n ∈ below, n < 123) :
    topE above below * topE above below * rootE above below * prodF below = botE above below * botE above below * prodF above := by
  unfold topE botE rootE
  rw [pick_pow, prodF_leg ha, prodF_leg hb]
  simp only [powP_mul]
  refine powP_congr fun p _ => ?_
  have e : expE above below p = (sumL above p : Int) - (sumL below p : Int) := rfl
  generalize sumL above p = A at e ⊢
  generalize sumL below p = B at e ⊢
  generalize expE above below p = x at e ⊢
  by_cases h : x % 2 = 1
  · rw [decide_eq_true h]
    simp only [if_true]
    omega
  · rw [decide_eq_false h]
    show _ + _ + 0 + _ = _
    omega
/-- powers of different primes have no divisor in common -/
theorem cop_pow {q : Nat} (hq : IsP q) {e : Nat → Nat} : ∀ {l : List Nat}, (∀ p ∈ l, IsP p) → q ∉ l → Nat.Coprime q (powP e l)
  | [], _, _ => Nat.coprime_one_right q
  | p :: l, hp, hn => by
    have ih := cop_pow hq (e := e) (fun r hr => hp r (List.mem_cons_of_mem _ hr)) (fun z => hn (List.mem_cons_of_mem _ z))
    have c : Nat.Coprime q p := hq.cop fun z => by
      rcases (hp p (by simp)).2 q z with e | e
      · have := hq.1
        omega
      · exact hn (by rw [e]; simp)
    exact Nat.Coprime.mul_right (Nat.Coprime.pow_right _ c) ih
theorem powP_cop {e f : Nat → Nat} : ∀ {l : List Nat}, (∀ p ∈ l, IsP p) → l.Nodup → (∀ p ∈ l, e p = 0 ∨ f p = 0) → Nat.Coprime (powP e l) (powP f l)
  | [], _, _, _ => Nat.coprime_one_right 1
  | p :: l, hp, nd, h => by
    have n := List.nodup_cons.mp nd
    have hl : ∀ r ∈ l, IsP r := fun r hr => hp r (List.mem_cons_of_mem _ hr)
    have ih := powP_cop hl n.2 fun r hr => h r (List.mem_cons_of_mem _ hr)
    have hpp := hp p (by simp)
    show Nat.Coprime (p ^ e p * powP e l) (p ^ f p * powP f l)
    rcases h p (by simp) with z | z
    · rw [z, Nat.pow_zero, Nat.one_mul]
      exact Nat.Coprime.mul_right (Nat.Coprime.pow_right _ (cop_pow hpp hl n.1).symm) ih
    · rw [z, Nat.pow_zero, Nat.one_mul]
      exact Nat.Coprime.mul_left (Nat.Coprime.pow_left _ (cop_pow hpp hl n.1)) ih
theorem topE_cop (above below : List Nat) : Nat.Coprime (topE above below) (botE above below) := powP_cop pr30_p pr30_nd fun p _ => by omega
end TCX
/-! the powers of primes by counts. -/
namespace TCX
/-- how many of l are at least m -/
def geL (l : List Nat) (m : Nat) : Int := l.foldr (fun n k => (if m ≤ n then 1 else 0) + k) 0
/-- how many of l are m -/
def eqL (l : List Nat) (m : Nat) : Int := l.foldr (fun n k => (if n = m then 1 else 0) + k) 0
theorem ge_step (l : List Nat) (m : Nat) : geL l m = eqL l m + geL l (m + 1) := by
  induction l with
  | nil => rfl
  | cons n l ih =>
    show (if m ≤ n then 1 else 0) + geL l m = (if n = m then 1 else 0) + eqL l m + ((if m + 1 ≤ n then 1 else 0) + geL l (m + 1))
    rw [ih]
    split <;> split <;> split <;> omega
theorem ge_top {l : List Nat} {h m : Nat} (hl : ∀ n ∈ l, n ≤ h) (hm : h < m) : geL l m = 0 := by
  induction l with
  | nil => rfl
  | cons n l ih =>
    show (if m ≤ n then 1 else 0) + geL l m = 0
    rw [ih fun r hr => hl r (List.mem_cons_of_mem _ hr), if_neg (by have := hl n (by simp); omega)]
    rfl
/-- the quotients by s, summed -/
def divS (l : List Nat) (s : Nat) : Int := l.foldr (fun n k => ((n / s : Nat) : Int) + k) 0
theorem one_mult (n s : Nat) (s0 : 0 < s) : ∀ J : Nat, ((List.range J).map fun j => if (j + 1) * s ≤ n then (1 : Int) else 0).sum = ((min J (n / s) : Nat) : Int)
  | 0 => by simp
  | J + 1 => by
    rw [List.range_succ, List.map_append, List.sum_append, one_mult n s s0 J]
    show _ + ((if (J + 1) * s ≤ n then (1 : Int) else 0) + 0) = _
    have e : (J + 1) * s ≤ n ↔ J + 1 ≤ n / s := (Nat.le_div_iff_mul_le s0).symm
    by_cases h : (J + 1) * s ≤ n
    · have h2 := e.mp h
      rw [if_pos h]
      omega
    · have h2 : ¬ J + 1 ≤ n / s := fun z => h (e.mpr z)
      rw [if_neg h]
      omega
theorem sum_add (f g : Nat → Int) : ∀ l : List Nat, (l.map fun j => f j + g j).sum = (l.map f).sum + (l.map g).sum
  | [] => rfl
  | x :: l => by
    rw [List.map_cons, List.sum_cons, List.map_cons, List.sum_cons, List.map_cons, List.sum_cons, sum_add f g l]
    omega
theorem mult_sum {h s : Nat} (s0 : 0 < s) : ∀ {l : List Nat}, (∀ n ∈ l, n ≤ h) → ((List.range (h / s)).map fun j => geL l ((j + 1) * s)).sum = divS l s
  | [], _ => by
    have : ∀ J : Nat, ((List.range J).map fun j => geL [] ((j + 1) * s)).sum = 0 := fun J => by
      induction J with
      | zero => rfl
      | succ J ih =>
        rw [List.range_succ, List.map_append, List.sum_append, ih]
        rfl
    exact this _
  | n :: l, hl => by
    show ((List.range (h / s)).map fun j => (if (j + 1) * s ≤ n then (1 : Int) else 0) + geL l ((j + 1) * s)).sum = ((n / s : Nat) : Int) + divS l s
    rw [sum_add, mult_sum s0 fun r hr => hl r (List.mem_cons_of_mem _ hr), one_mult n s s0]
    have := Nat.div_le_div_right (c := s) (hl n (by simp))
    rw [Nat.min_eq_right this]
theorem divS_zero {h s : Nat} {l : List Nat} (hl : ∀ n ∈ l, n ≤ h) (hs : h < s) : divS l s = 0 := by
  induction l with
  | nil => rfl
  | cons n l ih =>
    show ((n / s : Nat) : Int) + divS l s = 0
    rw [ih fun r hr => hl r (List.mem_cons_of_mem _ hr), Nat.div_eq_of_lt (by have := hl n (by simp); omega)]
    rfl
theorem sumL_div (l : List Nat) (p : Nat) : (sumL l p : Int) = divS l p + divS l (p * p) + divS l (p * p * p) + divS l (p * p * p * p) + divS l (p * p * p * p * p) + divS l (p * p * p * p * p * p) := by
  induction l with
  | nil => rfl
  | cons n l ih =>
    show ((legN n p + sumL l p : Nat) : Int) = _
    unfold legN
    show _ = (((n / p : Nat) : Int) + divS l p) + (((n / (p * p) : Nat) : Int) + divS l (p * p)) + (((n / (p * p * p) : Nat) : Int) + divS l (p * p * p)) + (((n / (p * p * p * p) : Nat) : Int) + divS l (p * p * p * p)) + (((n / (p * p * p * p * p) : Nat) : Int) + divS l (p * p * p * p * p)) + (((n / (p * p * p * p * p * p) : Nat) : Int) + divS l (p * p * p * p * p * p))
    omega
/-- what is counted at s -/
def atS (above below : List Nat) (s : Nat) : Int := divS above s - divS below s
def runE (above below : List Nat) (p : Nat) : Nat → Int
  | 0 => 0
  | k + 1 => runE above below p k + atS above below (p ^ (k + 1))
theorem runE_all (above below : List Nat) (p : Nat) : runE above below p 6 = expE above below p := by
  unfold expE
  rw [sumL_div, sumL_div]
  show 0 + atS above below (p ^ 1) + atS above below (p ^ 2) + atS above below (p ^ 3) + atS above below (p ^ 4) + atS above below (p ^ 5) + atS above below (p ^ 6) = _
  have e1 : p ^ 1 = p := Nat.pow_one p
  have e2 : p ^ 2 = p * p := by rw [Nat.pow_succ, e1]
  have e3 : p ^ 3 = p * p * p := by rw [Nat.pow_succ, e2]
  have e4 : p ^ 4 = p * p * p * p := by rw [Nat.pow_succ, e3]
  have e5 : p ^ 5 = p * p * p * p * p := by rw [Nat.pow_succ, e4]
  have e6 : p ^ 6 = p * p * p * p * p * p := by rw [Nat.pow_succ, e5]
  rw [e1, e2, e3, e4, e5, e6]
  unfold atS
  omega
/-- nothing more is counted beyond the highest -/
theorem runE_end {above below : List Nat} {h p k : Nat} (p1 : 1 < p) (ha : ∀ n ∈ above, n ≤ h) (hb : ∀ n ∈ below, n ≤ h) (hk : h < p ^ (k + 1)) (k6 : k ≤ 6) : runE above below p k = expE above below p := by
  rw [← runE_all]
  have key : ∀ d, runE above below p (k + d) = runE above below p k := fun d => by
    induction d with
    | zero => rfl
    | succ d ih =>
      show runE above below p (k + d) + atS above below (p ^ (k + d + 1)) = _
      have : p ^ (k + 1) ≤ p ^ (k + d + 1) := Nat.pow_le_pow_right (by omega) (by omega)
      unfold atS
      rw [ih, divS_zero ha (by omega), divS_zero hb (by omega)]
      omega
  have e := key (6 - k)
  rw [show k + (6 - k) = 6 by omega] at e
  exact e.symm
end TCX
/-! a number parted into a square and what is free of squares, by trying. -/
namespace TCX
structure RootI (N left free square p : Nat) : Prop where
  eq : left * free * (square * square) = N
  l0 : 0 < left
  s0 : 0 < square
  p1 : 1 < p
  sf : SqF free
  i1 : ∀ d, 1 < d → d < p → ¬ d ∣ left
  i2 : p ∣ free → ¬ p ∣ left
  i3 : ∀ d, 1 < d → d ∣ free → ∃ q, 1 < q ∧ q ≤ p ∧ q ∣ d
theorem RootI.start {N : Nat} (h : 0 < N) : RootI N N 1 1 2 :=
  ⟨by simp, h, by decide, by decide, SqF.one, fun d h1 h2 => by omega, fun z => by have := Nat.eq_one_of_dvd_one z; omega, fun d h1 h2 => by have := Nat.eq_one_of_dvd_one h2; omega⟩
/-- where p divides what is left, it is a prime -/
theorem RootI.prime {N left free square p : Nat} (h : RootI N left free square p) (hd : p ∣ left) : IsP p := by
  refine ⟨h.p1, fun d dp => ?_⟩
  by_cases h1 : d = 1
  · exact .inl h1
  · by_cases h2 : d = p
    · exact .inr h2
    · have h3 := Nat.le_of_dvd (by have := h.p1; omega) dp
      have h4 : 0 < d := Nat.pos_of_dvd_of_pos dp (by have := h.p1; omega)
      exact absurd (Nat.dvd_trans dp hd) (h.i1 d (by omega) (by omega))
theorem RootI.le {N left free square p : Nat} (h : RootI N left free square p) (hl : 1 < left) : p ≤ left := by
  refine Nat.le_of_not_lt fun z => ?_
  exact h.i1 left hl z (Nat.dvd_refl _)
theorem RootI.sq {N left free square p : Nat} (h : RootI N left free square p) (hd : p * p ∣ left) : RootI N (left / (p * p)) free (square * p) p := by
  have pp : 0 < p * p := Nat.mul_pos (by have := h.p1; omega) (by have := h.p1; omega)
  obtain ⟨k, rfl⟩ := hd
  rw [Nat.mul_div_cancel_left k pp]
  have kd : ∀ d, d ∣ k → d ∣ p * p * k := fun d z => Nat.dvd_trans z (Nat.dvd_mul_left _ _)
  have k0 : 0 < k := Nat.pos_of_ne_zero fun e => by
    have := h.l0
    rw [e, Nat.mul_zero] at this
    omega
  refine ⟨?_, k0, Nat.mul_pos h.s0 (by have := h.p1; omega), h.p1, h.sf, fun d h1 h2 z => h.i1 d h1 h2 (kd d z), fun z y => h.i2 z (kd p y), h.i3⟩
  rw [← h.eq]
  simp only [Nat.mul_assoc, Nat.mul_left_comm, Nat.mul_comm]
theorem RootI.once {N left free square p : Nat} (h : RootI N left free square p) (hn : ¬ p * p ∣ left) (hd : p ∣ left) : RootI N (left / p) (free * p) square p := by
  have hp := h.prime hd
  have p0 : 0 < p := by have := h.p1; omega
  have nf : ¬ p ∣ free := fun z => h.i2 z hd
  obtain ⟨k, rfl⟩ := hd
  rw [Nat.mul_div_cancel_left k p0]
  have kd : ∀ d, d ∣ k → d ∣ p * k := fun d z => Nat.dvd_trans z (Nat.dvd_mul_left _ _)
  have k0 : 0 < k := Nat.pos_of_ne_zero fun e => by
    have := h.l0
    rw [e, Nat.mul_zero] at this
    omega
  refine ⟨?_, k0, h.s0, h.p1, ?_, fun d h1 h2 z => h.i1 d h1 h2 (kd d z), fun _ y => hn (Nat.mul_dvd_mul_left p y), fun d h1 h2 => ?_⟩
  · rw [← h.eq]
    simp only [Nat.mul_assoc, Nat.mul_left_comm, Nat.mul_comm]
  · rw [Nat.mul_comm]
    exact SqF.mul hp h.sf nf
  · by_cases z : p ∣ d
    · exact ⟨p, h.p1, Nat.le_refl _, z⟩
    · have c := (hp.cop z).symm
      rw [Nat.mul_comm] at h2
      exact h.i3 d h1 (Nat.Coprime.dvd_of_dvd_mul_left c h2)
theorem RootI.up {N left free square p : Nat} (h : RootI N left free square p) (hd : ¬ p ∣ left) : RootI N left free square (p + 1) := by
  have i1 : ∀ d, 1 < d → d < p + 1 → ¬ d ∣ left := fun d h1 h2 => by
    by_cases e : d = p
    · rw [e]
      exact hd
    · exact h.i1 d h1 (by omega)
  refine ⟨h.eq, h.l0, h.s0, by have := h.p1; omega, h.sf, i1, fun z y => ?_, fun d h1 h2 => ?_⟩
  · obtain ⟨q, q1, q2, q3⟩ := h.i3 (p + 1) (by have := h.p1; omega) z
    exact i1 q q1 (by omega) (Nat.dvd_trans q3 y)
  · obtain ⟨q, q1, q2, q3⟩ := h.i3 d h1 h2
    exact ⟨q, q1, by omega, q3⟩
theorem RootI.done {N left free square p : Nat} (h : RootI N left free square p) (hl : ¬ 1 < left) : N = square * square * free ∧ SqF free ∧ 0 < square := by
  have e : left = 1 := by have := h.l0; omega
  refine ⟨?_, h.sf, h.s0⟩
  rw [← h.eq, e, Nat.one_mul, Nat.mul_comm]
/-- the root by the primes and the root by trying are one: root and fraction -/
theorem root_one {above below : List Nat} (ha : ∀ n ∈ above, n < 123) (hb : ∀ n ∈ below, n < 123) {up under free square : Nat} (hu : 0 < under) (hq : up * prodF below = under * prodF above) (hN : up * under = square * square * free) (hs : 0 < square) (hf : SqF free) :
    rootE above below = free ∧ topE above below * under = square * botE above below := by
  have pb : 0 < prodF below := by
    rw [prodF_leg hb]
    exact powP_pos pr30_p
  have pa : 0 < prodF above := by
    rw [prodF_leg ha]
    exact powP_pos pr30_p
  have e := rootE_ok ha hb
  -- (top * under)^2 root = (square * bot)^2 free
  have key : (topE above below * under) * (topE above below * under) * rootE above below = (square * botE above below) * (square * botE above below) * free := by
    have z : (topE above below * under) * (topE above below * under) * rootE above below * prodF below = (square * botE above below) * (square * botE above below) * free * prodF below := by
      calc (topE above below * under) * (topE above below * under) * rootE above below * prodF below
          = under * under * (topE above below * topE above below * rootE above below * prodF below) := by simp only [Nat.mul_assoc, Nat.mul_left_comm, Nat.mul_comm]
        _ = under * under * (botE above below * botE above below * prodF above) := by rw [e]
        _ = (botE above below * botE above below * under) * (under * prodF above) := by simp only [Nat.mul_assoc, Nat.mul_left_comm, Nat.mul_comm]
        _ = (botE above below * botE above below * under) * (up * prodF below) := by rw [hq]
        _ = (botE above below * botE above below) * (up * under) * prodF below := by simp only [Nat.mul_assoc, Nat.mul_left_comm, Nat.mul_comm]
        _ = (botE above below * botE above below) * (square * square * free) * prodF below := by rw [hN]
        _ = _ := by simp only [Nat.mul_assoc, Nat.mul_left_comm, Nat.mul_comm]
    exact Nat.eq_of_mul_eq_mul_right pb z
  obtain ⟨h1, h2⟩ := sq_uniq (Nat.mul_pos (topE_pos _ _) hu) (rootE_sqF _ _) hf key
  exact ⟨h2, h1⟩
end TCX
/-! the sum of two joined: by whole terms over one bottom. -/
namespace TCX
theorem fact_pos : ∀ n, 0 < factN n
  | 0 => Nat.one_pos
  | n + 1 => Nat.mul_pos (Nat.succ_pos n) (fact_pos n)
theorem fact_dvdS : ∀ s m n, m + n = s → factN m * factN n ∣ factN (m + n) := by
  intro s
  induction s with
  | zero =>
    intro m n h
    obtain ⟨rfl, rfl⟩ : m = 0 ∧ n = 0 := by omega
    exact Nat.dvd_refl _
  | succ s ih =>
    intro m n h
    match m, n with
    | 0, n =>
      rw [show factN 0 = 1 from rfl, Nat.one_mul, Nat.zero_add]
      exact Nat.dvd_refl _
    | m + 1, 0 =>
      rw [show factN 0 = 1 from rfl, Nat.mul_one, Nat.add_zero]
      exact Nat.dvd_refl _
    | m + 1, n + 1 =>
      have h1 := ih m (n + 1) (by omega)
      have h2 := ih (m + 1) n (by omega)
      have e : factN (m + 1 + (n + 1)) = (m + 1) * factN (m + (n + 1)) + (n + 1) * factN (m + 1 + n) := by
        rw [show m + 1 + (n + 1) = (m + n + 1) + 1 by omega]
        show (m + n + 1 + 1) * factN (m + n + 1) = _
        rw [show m + (n + 1) = m + n + 1 by omega, show m + 1 + n = m + n + 1 by omega, ← Nat.add_mul]
        congr 1
        omega
      rw [e]
      refine Nat.dvd_add ?_ ?_
      · show (m + 1) * factN m * factN (n + 1) ∣ _
        rw [Nat.mul_assoc]
        exact Nat.mul_dvd_mul_left _ h1
      · have z : factN (m + 1) * factN (n + 1) = (n + 1) * (factN (m + 1) * factN n) := by
          show factN (m + 1) * ((n + 1) * factN n) = _
          simp only [Nat.mul_assoc, Nat.mul_left_comm, Nat.mul_comm]
        rw [z]
        exact Nat.mul_dvd_mul_left _ h2
theorem fact_dvd (m n : Nat) : factN m * factN n ∣ factN (m + n) := fact_dvdS _ m n rfl
def okK (A B C : Nat) (D E : Int) (k : Nat) : Bool := decide (k ≤ A ∧ k ≤ B ∧ k ≤ C ∧ 0 ≤ D + k ∧ 0 ≤ E + k)
def botK (A B C : Nat) (D E : Int) (k : Nat) : Nat := factN k * factN (A - k) * factN (B - k) * factN (C - k) * factN (D + k).toNat * factN (E + k).toNat
def comK (A B C : Nat) (D E : Int) : Nat := factN A * factN (B + D).toNat * factN (C + E).toNat
theorem botK_pos (A B C : Nat) (D E : Int) (k : Nat) : 0 < botK A B C D E k := by
  unfold botK
  exact Nat.mul_pos (Nat.mul_pos (Nat.mul_pos (Nat.mul_pos (Nat.mul_pos (fact_pos _) (fact_pos _)) (fact_pos _)) (fact_pos _)) (fact_pos _)) (fact_pos _)
theorem comK_pos (A B C : Nat) (D E : Int) : 0 < comK A B C D E := Nat.mul_pos (Nat.mul_pos (fact_pos _) (fact_pos _)) (fact_pos _)
theorem botK_dvd {A B C : Nat} {D E : Int} {k : Nat} (h : okK A B C D E k = true) : botK A B C D E k ∣ comK A B C D E := by
  obtain ⟨h1, h2, h3, h4, h5⟩ := of_decide_eq_true h
  have e : botK A B C D E k = (factN k * factN (A - k)) * (factN (B - k) * factN (D + k).toNat) * (factN (C - k) * factN (E + k).toNat) := by
    unfold botK
    simp only [Nat.mul_assoc, Nat.mul_left_comm, Nat.mul_comm]
  rw [e]
  unfold comK
  have a1 := fact_dvd k (A - k)
  have a2 := fact_dvd (B - k) (D + k).toNat
  have a3 := fact_dvd (C - k) (E + k).toNat
  rw [show k + (A - k) = A by omega] at a1
  rw [show B - k + (D + k).toNat = (B + D).toNat by omega] at a2
  rw [show C - k + (E + k).toNat = (C + E).toNat by omega] at a3
  exact Nat.mul_dvd_mul (Nat.mul_dvd_mul a1 a2) a3
def sgK (k : Nat) : Int := if k % 2 = 1 then -1 else 1
def tmK (A B C : Nat) (D E : Int) (k : Nat) : Int := if okK A B C D E k = true then sgK k * ((comK A B C D E / botK A B C D E k : Nat) : Int) else 0
def sumK (f : Nat → Int) (n : Nat) : Int := ((List.range n).map f).sum
theorem sumK_succ (f : Nat → Int) (n : Nat) : sumK f (n + 1) = sumK f n + f n := by
  unfold sumK
  rw [List.range_succ, List.map_append, List.sum_append]
  show _ + (f n + 0) = _
  omega
theorem sumK_add (f : Nat → Int) (a : Nat) : ∀ b, sumK f (a + b) = sumK f a + sumK (fun i => f (a + i)) b
  | 0 => by
    show sumK f a = sumK f a + 0
    omega
  | b + 1 => by
    rw [← Nat.add_assoc, sumK_succ, sumK_succ, sumK_add f a b]
    omega
theorem sumK_zero {f : Nat → Int} : ∀ {n : Nat}, (∀ i, i < n → f i = 0) → sumK f n = 0
  | 0, _ => rfl
  | n + 1, h => by
    rw [sumK_succ, sumK_zero fun i hi => h i (by omega), h n (by omega)]
    rfl
/-- the sum is that of those k that are let -/
theorem sumK_let {A B C : Nat} {D E lo hi : Int} (l0 : 0 ≤ lo) (h1 : ∀ k : Nat, okK A B C D E k = true ↔ lo ≤ k ∧ (k : Int) ≤ hi) (hA : hi ≤ A) :
    sumK (tmK A B C D E) (A + 1) = sumK (fun i => tmK A B C D E (lo.toNat + i)) (hi + 1 - lo).toNat := by
  have out : ∀ k : Nat, ¬ (lo ≤ k ∧ (k : Int) ≤ hi) → tmK A B C D E k = 0 := fun k hk => if_neg fun z => hk ((h1 k).mp z)
  by_cases h : lo ≤ hi
  · have e : A + 1 = lo.toNat + ((hi + 1 - lo).toNat + (A - hi.toNat)) := by omega
    rw [e, sumK_add, sumK_add, sumK_zero fun i hi' => out i (by omega), sumK_zero (n := A - hi.toNat) fun i hi' => out _ (by omega)]
    omega
  · rw [show (hi + 1 - lo).toNat = 0 by omega, sumK_zero fun i _ => out i (by omega)]
    rfl
/-- one term more, as fractions in lowest terms -/
theorem frac_step (q : Rat) (low sg : Int) (h : low ≠ 0) : Rat.divInt (q.num * low + (q.den : Int) * sg) ((q.den : Int) * low) = q + Rat.divInt sg low := by
  have d0 : (q.den : Int) ≠ 0 := by have := q.den_pos; omega
  have e := Rat.divInt_add_divInt q.num sg d0 h
  rw [Rat.num_divInt_den] at e
  rw [e, Int.mul_comm sg]
theorem frac_com {A B C : Nat} {D E : Int} {k : Nat} (h : okK A B C D E k = true) : Rat.divInt (sgK k) ((botK A B C D E k : Nat) : Int) = Rat.divInt (tmK A B C D E k) ((comK A B C D E : Nat) : Int) := by
  have b0 := botK_pos A B C D E k
  have c0 := comK_pos A B C D E
  rw [Rat.divInt_eq_divInt_iff (by omega) (by omega)]
  unfold tmK
  rw [if_pos h, Int.mul_assoc, ← Int.natCast_mul, Nat.div_mul_cancel (botK_dvd h)]
theorem divInt_sum (x y : Int) {c : Int} (h : c ≠ 0) : Rat.divInt x c + Rat.divInt y c = Rat.divInt (x + y) c := by
  rw [Rat.divInt_add_divInt _ _ h h, ← Int.add_mul, Rat.divInt_mul_right h]
/-- the law's sum, step by step -/
theorem total_step {A B C : Nat} {D E : Int} {k : Nat} (h : okK A B C D E k = true) {q : Rat} (hq : q = Rat.divInt (sumK (tmK A B C D E) k) ((comK A B C D E : Nat) : Int)) :
    Rat.divInt (q.num * ((botK A B C D E k : Nat) : Int) + (q.den : Int) * sgK k) ((q.den : Int) * ((botK A B C D E k : Nat) : Int)) = Rat.divInt (sumK (tmK A B C D E) (k + 1)) ((comK A B C D E : Nat) : Int) := by
  have b0 := botK_pos A B C D E k
  have c0 := comK_pos A B C D E
  rw [frac_step q _ _ (by omega), frac_com h]
  conv => lhs; rw [hq]
  rw [divInt_sum _ _ (by omega), sumK_succ]
theorem total_skip {A B C : Nat} {D E : Int} {k : Nat} (h : ¬ okK A B C D E k = true) : sumK (tmK A B C D E) (k + 1) = sumK (tmK A B C D E) k := by
  rw [sumK_succ]
  have : tmK A B C D E k = 0 := if_neg h
  omega
/-- the root by the primes and the root by trying, a square of a common one beside -/
theorem root_two {above below : List Nat} (ha : ∀ n ∈ above, n < 123) (hb : ∀ n ∈ below, n < 123) {up under free square com : Nat} (hu : 0 < under) (hc : 0 < com) (hq : up * prodF below = under * prodF above * (com * com)) (hN : up * under = square * square * free) (hf : SqF free) :
    rootE above below = free ∧ topE above below * under * com = square * botE above below := by
  have pb : 0 < prodF below := by
    rw [prodF_leg hb]
    exact powP_pos pr30_p
  have e := rootE_ok ha hb
  have key : (topE above below * under * com) * (topE above below * under * com) * rootE above below = (square * botE above below) * (square * botE above below) * free := by
    have z : (topE above below * under * com) * (topE above below * under * com) * rootE above below * prodF below = (square * botE above below) * (square * botE above below) * free * prodF below := by
      calc (topE above below * under * com) * (topE above below * under * com) * rootE above below * prodF below
          = under * under * (com * com) * (topE above below * topE above below * rootE above below * prodF below) := by simp only [Nat.mul_assoc, Nat.mul_left_comm, Nat.mul_comm]
        _ = under * under * (com * com) * (botE above below * botE above below * prodF above) := by rw [e]
        _ = (botE above below * botE above below * under) * (under * prodF above * (com * com)) := by simp only [Nat.mul_assoc, Nat.mul_left_comm, Nat.mul_comm]
        _ = (botE above below * botE above below * under) * (up * prodF below) := by rw [hq]
        _ = (botE above below * botE above below) * (up * under) * prodF below := by simp only [Nat.mul_assoc, Nat.mul_left_comm, Nat.mul_comm]
        _ = (botE above below * botE above below) * (square * square * free) * prodF below := by rw [hN]
        _ = _ := by simp only [Nat.mul_assoc, Nat.mul_left_comm, Nat.mul_comm]
    exact Nat.eq_of_mul_eq_mul_right pb z
  obtain ⟨h1, h2⟩ := sq_uniq (Nat.mul_pos (Nat.mul_pos (topE_pos _ _) hu) hc) (rootE_sqF _ _) hf key
  exact ⟨h2, h1⟩
/-- both answers are one: top / bot times the whole sum, square / under times the sum's fraction -/
theorem both_one {top bot under square com : Nat} {W : Int} (hb : 0 < bot) (hu : 0 < under) (hc : 0 < com) (h : top * under * com = square * bot) :
    Rat.divInt W 1 * Rat.divInt (top : Int) (bot : Int) = Rat.divInt (square : Int) (under : Int) * Rat.divInt W (com : Int) := by
  rw [Rat.divInt_mul_divInt, Rat.divInt_mul_divInt, Rat.divInt_eq_divInt_iff (by omega) (by
    intro z
    rcases Int.mul_eq_zero.mp z with z | z <;> omega)]
  have h' : (top : Int) * under * com = square * bot := by
    have := congrArg (Nat.cast : Nat → Int) h
    push_cast at this
    exact this
  grind
end TCX
namespace TCX
set_option exponentiation.threshold 20000
/-! ### binomials -/
def binN (n k : Nat) : Nat := factN n / (factN k * factN (n - k))
theorem bin_mul {n k : Nat} (h : k ≤ n) : binN n k * (factN k * factN (n - k)) = factN n := by
  have d := fact_dvd k (n - k)
  rw [show k + (n - k) = n by omega] at d
  exact Nat.div_mul_cancel d
theorem bin_succ {n k : Nat} (h : k < n) : binN n (k + 1) * (k + 1) = binN n k * (n - k) := by
  have e1 := bin_mul (n := n) (k := k + 1) h
  have e2 := bin_mul (n := n) (k := k) (by omega)
  have p1 := fact_pos k
  have p2 := fact_pos (n - (k + 1))
  have e3 : factN (n - k) = (n - k) * factN (n - (k + 1)) := by
    rw [show n - k = (n - (k + 1)) + 1 by omega]
    rfl
  have e4 : factN (k + 1) = (k + 1) * factN k := rfl
  rw [e4] at e1
  rw [e3] at e2
  refine Nat.eq_of_mul_eq_mul_right (Nat.mul_pos p1 p2) ?_
  calc binN n (k + 1) * (k + 1) * (factN k * factN (n - (k + 1))) = binN n (k + 1) * ((k + 1) * factN k * factN (n - (k + 1))) := by simp only [Nat.mul_assoc]
    _ = factN n := e1
    _ = binN n k * (factN k * ((n - k) * factN (n - (k + 1)))) := e2.symm
    _ = _ := by simp only [Nat.mul_assoc, Nat.mul_left_comm, Nat.mul_comm]
theorem bin_zero (n : Nat) : binN n 0 = 1 := by
  unfold binN
  rw [show factN 0 = 1 from rfl, Nat.one_mul, Nat.sub_zero]
  exact Nat.div_self (fact_pos n)
theorem bin_step {n k : Nat} (h : k < n) : ((binN n k : Nat) : Int) * ((n : Int) - (k : Int)) / ((k : Int) + 1) = ((binN n (k + 1) : Nat) : Int) := by
  have e : ((binN n k : Nat) : Int) * ((n : Int) - (k : Int)) = ((binN n (k + 1) : Nat) : Int) * ((k : Int) + 1) := by
    have z := congrArg (Nat.cast : Nat → Int) (bin_succ h)
    rw [Int.natCast_mul, Int.natCast_mul, Int.natCast_sub (by omega)] at z
    rw [← z]
    congr 1
  rw [e]
  exact Int.mul_ediv_cancel _ (by omega)
theorem fact_lt2P : ∀ n, n < 42 → factN n < 2 ^ 166 := by decide +kernel
theorem bin_lt {n k : Nat} (h : n < 42) : binN n k < 2 ^ 166 := Nat.lt_of_le_of_lt (Nat.div_le_self _ _) (fact_lt2P n h)
end TCX
/-! Exceptions that are caught, kept in a name and asked of later. -/
namespace TCX
open PySem PySem.Spec PyProof.Rows L2
/-! ### a clause that names five classes -/
section
open PySem.W
variable {M : Model} {K : Frag}
theorem exm_tup5 {c1 c2 c3 c4 c5 cls : Value} {tp e : Addr} {b : Bool} {h : Heap} (X : K.In h) (LT : Looks M h (typeOf (.ref e)) cls) (hp : h.get? tp = some { cls := .type "tuple", data := .seq [c1, c2, c3, c4, c5].toArray }) (hx : exmAny K cls [c1, c2, c3, c4, c5] = some b) :
    Looks M h (excMatches (.ref e) (.ref tp)) b := by
  intro A Q E s k₀ q
  obtain ⟨hh, g, d, tk, os⟩ := s
  have k : ∀ b o, h.get? b = some o → hh.get? b = some o := k₀
  have T0 : Looks M h (isInstance (.ref tp) (.type "tuple")) true := ((Looks.ld hp).andThen .now).andThen (Looks.of_pure isSubtype_tuple_tuple)
  have T1 := T0.keeps k
  have TY := LT.keeps k
  have hp' := k _ _ hp
  obtain ⟨b1, d1, x1, y1, z1⟩ := exmAny_cons hx
  obtain ⟨b2, d2, x2, y2, z2⟩ := exmAny_cons y1
  obtain ⟨b3, d3, x3, y3, z3⟩ := exmAny_cons y2
  obtain ⟨b4, d4, x4, y4, z4⟩ := exmAny_cons y3
  obtain ⟨b5, d5, x5, y5, z5⟩ := exmAny_cons y4
  have u1 := (exm_cls (M := M) X x1).1.keeps k
  have v1 := (exm_cls (M := M) X x1).2.keeps k
  have u2 := (exm_cls (M := M) X x2).1.keeps k
  have v2 := (exm_cls (M := M) X x2).2.keeps k
  have u3 := (exm_cls (M := M) X x3).1.keeps k
  have v3 := (exm_cls (M := M) X x3).2.keeps k
  have u4 := (exm_cls (M := M) X x4).1.keeps k
  have v4 := (exm_cls (M := M) X x4).2.keeps k
  have u5 := (exm_cls (M := M) X x5).1.keeps k
  have v5 := (exm_cls (M := M) X x5).2.keeps k
  have w5 : some false = some d5 := y5
  cases w5
  subst z1 z2 z3 z4 z5
  unfold excMatches
  refine wpAny_bind (T1.at ?_)
  dsimp only
  rw [if_pos rfl]
  first
    | refine wpAny_bind (wpAny_seqItems hp' rfl ?_)
    | refine wpAny_bind (wpAny_bind (wpAny_seqItems hp' rfl (wpAny_pure ?_)))
  dsimp only [Option.getD_some, Option.getD]
  cases b1 <;> cases b2 <;> cases b3 <;> cases b4 <;> cases b5 <;> ((repeat (first | simp only [List.forIn_cons, List.forIn_nil, Bool.not_true, Bool.false_eq_true, if_false, if_true] | lk)); exact q)
end
/-- the test t of a clause, asked while an exception of the class cls is handled: it says b -/
def Tst (X : Cx) (t : Expr) (cls : Value) (b : Bool) : Prop :=
  ∀ (a : Addr) (oe : Obj) (pn : List (Addr × Obj)) (σ : L2.St) (H : Hp) (s : Shared) (Q : Bool → Shared → Prop) (E : Value → Shared → Prop),
    Inv (X.suite a ((a, oe) :: pn)) [] σ H s → oe.cls = cls → (∀ h', (∀ q o, s.heap.get? q = some o → h'.get? q = some o) → Q b { s with heap := h' }) →
    wpAny (model X.prog X.w) (X.A.mark (some (.ref a))) (eval t X.env) (fun c s₁ => wpAny (model X.prog X.w) (X.A.mark (some (.ref a))) (excMatches (.ref a) c) Q E s₁) E s
section
variable {X : Cx}
theorem suite_ty {a : Addr} {oe : Obj} {pn : List (Addr × Obj)} {σ : L2.St} {H : Hp} {s : Shared} (I : Inv (X.suite a ((a, oe) :: pn)) [] σ H s) : PySem.W.Looks (model X.prog X.w) s.heap (typeOf (.ref a)) oe.cls := by
  obtain ⟨hget, _⟩ := I.pin (a, oe) (List.mem_append.mpr (.inl List.mem_cons_self))
  exact fun A Q E s k q => wpAny_typeOf_ref (k _ _ hget) q
theorem ld_names {a : Addr} {oe : Obj} {pn : List (Addr × Obj)} {σ : L2.St} {H : Hp} {s : Shared} {x : Str} {c : Value} {np : Pos} {Q : Value → Shared → Prop} {E : Value → Shared → Prop} (hc : Names X x c) (I : Inv (X.suite a ((a, oe) :: pn)) [] σ H s) (q : Q c s) :
    wpAny (model X.prog X.w) (X.A.mark (some (.ref a))) (eval (.Name x np) X.env) Q E s := by
  obtain ⟨hg, hdbg, hm | ⟨hm, hv, hnn⟩⟩ := hc
  · exact ld_glob (X := X.suite a ((a, oe) :: pn)) I hg hm q hdbg
  · exact ld_blt (X := X.suite a ((a, oe) :: pn)) I hg hm hv q hnn hdbg
theorem tst_name {x : Str} {c cls : Value} {np : Pos} {b : Bool} (hc : Names X x c) (he : PySem.W.exmOne X.K cls c = some b) : Tst X (.Name x np) cls b := by
  intro a oe pn σ H s Q E I e q
  subst e
  exact ld_names hc I ((PySem.W.exm_one I.kIn (suite_ty I) he).here (q s.heap fun _ _ z => z))
theorem tst_tup4 {x1 x2 x3 x4 : Str} {c1 c2 c3 c4 cls : Value} {p1 p2 p3 p4 tpos : Pos} {kk : Nat} {b : Bool} (n1 : Names X x1 c1) (n2 : Names X x2 c2) (n3 : Names X x3 c3) (n4 : Names X x4 c4) (he : PySem.W.exmAny X.K cls [c1, c2, c3, c4] = some b) :
    Tst X (.Tuple [.Name x1 p1, .Name x2 p2, .Name x3 p3, .Name x4 p4] kk tpos) cls b := by
  intro a oe pn σ H s Q E I e q
  subst e
  refine wpAny_Tuple ?_
  refine wpAny_items_cons (ld_names n1 I ?_)
  refine wpAny_items_cons (ld_names n2 I ?_)
  refine wpAny_items_cons (ld_names n3 I ?_)
  refine wpAny_items_cons (ld_names n4 I ?_)
  refine wpAny_items_nil ⟨by size_fits, ?_⟩
  have kp : ∀ q o, s.heap.get? q = some o → (s.heap.push { cls := .type "tuple", data := .seq [c1, c2, c3, c4].toArray }).get? q = some o := fun _ _ z => Heap.get?_push_of_some _ z
  exact (PySem.W.exm_tup4 (I.kIn.keeps kp) ((suite_ty I).keeps kp) (Heap.get?_push_size s.heap rfl) he).here (q _ kp)
theorem tst_tup5 {x1 x2 x3 x4 x5 : Str} {c1 c2 c3 c4 c5 cls : Value} {p1 p2 p3 p4 p5 tpos : Pos} {kk : Nat} {b : Bool} (n1 : Names X x1 c1) (n2 : Names X x2 c2) (n3 : Names X x3 c3) (n4 : Names X x4 c4) (n5 : Names X x5 c5) (he : PySem.W.exmAny X.K cls [c1, c2, c3, c4, c5] = some b) :
    Tst X (.Tuple [.Name x1 p1, .Name x2 p2, .Name x3 p3, .Name x4 p4, .Name x5 p5] kk tpos) cls b := by
  intro a oe pn σ H s Q E I e q
  subst e
  refine wpAny_Tuple ?_
  refine wpAny_items_cons (ld_names n1 I ?_)
  refine wpAny_items_cons (ld_names n2 I ?_)
  refine wpAny_items_cons (ld_names n3 I ?_)
  refine wpAny_items_cons (ld_names n4 I ?_)
  refine wpAny_items_cons (ld_names n5 I ?_)
  refine wpAny_items_nil ⟨by size_fits, ?_⟩
  have kp : ∀ q o, s.heap.get? q = some o → (s.heap.push { cls := .type "tuple", data := .seq [c1, c2, c3, c4, c5].toArray }).get? q = some o := fun _ _ z => Heap.get?_push_of_some _ z
  exact (exm_tup5 (I.kIn.keeps kp) ((suite_ty I).keeps kp) (Heap.get?_push_size s.heap rfl) he).here (q _ kp)
end
/-! ### a caught exception that is tracked from now on -/
/-- at a stands an exception of the class cls, its own dict d -/
def ExV (cls : Value) (d : Option Addr) (a : Addr) : HO := .ext fun h => ∃ (oe : Obj) (vs : Array Value), h.get? a = some oe ∧ Zc cls d oe ∧ oe.data = .fields vs
theorem exV_ok {P : Program} {w : World} {H : Hp} {h : Heap} {a : Addr} {cls : Value} {d : Option Addr} {oe : Obj} {vs : Array Value} (e : h.get? a = some oe) (z : Zc cls d oe) (hd : oe.data = .fields vs) : ObjOk P w H h a (ExV cls d a) :=
  ⟨⟨oe, vs, e, z, hd⟩, ⟨oe, e⟩, fun _ _ ⟨o, v, q, r⟩ k => ⟨o, v, k o q, r⟩⟩
theorem flyZ_keeps {B h h' : Heap} {l : List Env} {e : Addr} {Z : Obj → Prop} (R : HandSPX.FlyingZ B l e Z h) (k : ∀ b o, h.get? b = some o → h'.get? b = some o) : HandSPX.FlyingZ B l e Z h' := by
  obtain ⟨f1, f2, f3, oe, ws, T, oT, ts, he, hz, hd, h1, hn, hne, hT, hdT, h3⟩ := R
  exact ⟨fun b o q => k b o (f1 b o q), f2, f3.of_keeps fun b o q _ => ⟨o, k b o q, rfl⟩, oe, ws, T, oT, ts, k _ _ he, hz, hd, h1, hn, hne, k _ _ hT, hdT, h3⟩
section
variable {X : Cx} {pins : List (Addr × Obj)} {σ : L2.St} {H : Hp} {s : Shared}
theorem Inv_track {a : Addr} {cls : Value} {d : Option Addr} {oe : Obj} {vs : Array Value} (I : Inv X pins σ H s) (h0 : X.s_0.heap.get? a = none) (na : H a = none) (he : s.heap.get? a = some oe) (hz : Zc cls d oe) (hd : oe.data = .fields vs) (nL : a ≠ X.env.locals) (nP : ∀ p ∈ X.pn ++ pins, p.1 ≠ a) :
    Inv X pins σ (upd H a (ExV cls d a)) s := by
  have nS : ∀ b u, H b = some u → b ≠ a := fun b u e => ne_of_none e na
  refine ⟨I.ok, I.os, I.bare, ⟨I.base.keep, I.base.slot, fun b o e n hx => ?_, I.base.there, fun b xs e => ?_, fun b o u e => ?_, fun b ps e => ?_⟩, I.loc, I.cell, ?_, fun x c e => ?_, fun p hp => ?_, fun b u e => ?_, I.len⟩
  · rw [upd_ne (fun z => by rw [z, h0] at e; cases e)]
    exact I.base.free b o e n hx
  · have q := I.base.tups b xs e
    rw [upd_ne (nS _ _ q)]
    exact q
  · have q := I.base.frzs b o u e
    rw [upd_ne (nS _ _ q)]
    exact q
  · obtain ⟨m, q⟩ := I.base.tbls b ps e
    exact ⟨m, by rw [upd_ne (nS _ _ q)]; exact q⟩
  · rw [upd_ne (Ne.symm nL)]
    exact I.free
  · obtain ⟨v, o, ho, hdc⟩ := I.cell x c e
    rw [upd_ne (fun z => by
      rw [z, he] at ho
      cases ho
      rw [hd] at hdc
      cases hdc)]
    exact I.freeC x c e
  · obtain ⟨e, n, ne, nf, dd⟩ := I.pin p hp
    exact ⟨e, by rw [upd_ne (nP p hp)]; exact n, ne, nf, dd⟩
  · by_cases hb : b = a
    · subst hb
      rw [upd_same] at e
      cases e
      exact exV_ok he hz hd
    · rw [upd_ne hb] at e
      exact (I.hok b u e).stay (fun c v _ q => q) (fun c q => by rw [upd_ne (nS _ _ q)]; exact q) fun c xs q => by rw [upd_ne (nS _ _ q)]; exact q
theorem Inv_suite0 {a : Addr} (I : Inv X pins σ H s) : Inv (X.suite a (X.pn ++ pins)) [] σ H s :=
  ⟨I.ok.suite _ _, I.os, I.bare, I.base, I.loc, I.cell, I.free, I.freeC, fun p hp => I.pin p (by rw [List.append_nil] at hp; exact hp), I.hok, I.len⟩
theorem Inv_unsuite0 {a : Addr} {pn' : List (Addr × Obj)} (I : Inv (X.suite a (X.pn ++ pins)) pn' σ H s) (ok : X.Ok) : Inv X pins σ H s :=
  ⟨ok, I.os, I.bare, I.base, I.loc, I.cell, I.free, I.freeC, fun p hp => I.pin p (List.mem_append_left _ hp), I.hok, I.len⟩
end
/-- the ends of a suite whose name's slot i is emptied behind it -/
def endsAs (i : Nat) (D : Ends) : Ends := { nx := fun σ' H' => D.nx (σ'.set i none) H', rt := D.rt, bk := fun σ' H' => D.bk (σ'.set i none) H', ct := fun σ' H' => D.ct (σ'.set i none) H' }
/-- what the clauses wish: each has its classes, its name's slot, its suite -/
def wKeep (K : PySem.W.Frag) (D : Ends) : List (List Value × Nat × (Addr → Value → Option Addr → TS)) → WX
  | [] => fun _ _ _ _ => False
  | (cs, i, ts) :: r => fun cls d σ H => ∃ b, PySem.W.exmAny K cls cs = some b ∧ (b = true → ∀ a, H a = none → ts a cls d (endsAs i D) (σ.set i (some (.ref a))) (upd H a (ExV cls d a))) ∧ (b = false → wKeep K D r cls d σ H)
inductive HdK (X : Cx) : List ExceptHandler → List (List Value × Nat × (Addr → Value → Option Addr → TS)) → Prop
  | nil : HdK X [] []
  | cons {t : Expr} {n : Str} {i : Nat} {cs : List Value} {ts : Addr → Value → Option Addr → TS} {b₀ : Stmt} {suite : List Stmt} {pos' : Pos} {hds : List ExceptHandler} {l : List (List Value × Nat × (Addr → Value → Option Addr → TS))}
      (ht : ∀ cls b, PySem.W.exmAny X.K cls cs = some b → Tst X t cls b) (hi : X.N[i]? = some n) (hln : X.env.kindOf n = some .local)
      (hsu : ∀ (a : Addr) (cls : Value) (d : Option Addr) (pn : List (Addr × Obj)), PSs (X.suite a pn) (b₀ :: suite) (ts a cls d)) (r : HdK X hds l) :
      HdK X (.ExceptHandler (some t) (some n) (b₀ :: suite) pos' :: hds) ((cs, i, ts) :: l)
section
variable {X : Cx} {body : List Stmt} {h₀ : ExceptHandler} {hds : List ExceptHandler} {l : List (List Value × Nat × (Addr → Value → Option Addr → TS))} {pos : Pos} {tb : WX → TS}
theorem ps_try_keep (hs : X.stack = X.env :: X.outer) (hf : X.env.frame = some X.env.locals) (hex : X.ex = []) (hN : X.N.Nodup)
    (hb : ∀ (W : WX) (pn : List (Addr × Obj)) (xe : Value → Shared → Prop), Takes (X.tr pn xe) W → PassesOwn (model X.prog X.w) X.A X.env xe → PSs (X.tr pn xe) body (tb W))
    (hh : HdK X (h₀ :: hds) l) : PS X (.Try body (h₀ :: hds) [] [] pos) (fun D σ H => tb (fun cls d σ' H' => σ'.length = X.N.length → wKeep X.K D l cls d σ' H') D σ H) := by
  refine ⟨fun pins s σ H D I h => ?_⟩
  have ok := I.ok
  have hfr : X.A.frames = some (X.env :: X.outer) := by rw [ok.frames, hs]
  refine wpAny_Try_except ?_
  refine wpAny_mono ((hb (fun cls d σ' H' => σ'.length = X.N.length → wKeep X.K D l cls d σ' H') (X.pn ++ pins) (fun e s₁ => wpAny (model X.prog X.w) X.A (noteFrame e X.env) (fun _ s₂ => wpAny (model X.prog X.w) X.A (setFlight e none) (fun _ s₃ =>
    wpAny (model X.prog X.w) X.A (handleBy e X.env (h₀ :: hds)) (SP X pins D) X.xe s₃) X.xe s₂) X.xe s₁) (fun u s' xx => ?_) PassesOwn.looking).run [] s σ H D (I.toTry _) h) (fun f s1 hsp => ?_) (fun e s1 he => he)
  · obtain ⟨a, B, sI, pins', σ', H', cls, d, rfl, J', nb, up, sky, na, os, ag, w⟩ := xx
    have J : Inv X pins σ' H' sI := J'.ofTry ok
    have sky' : Sky B (X.env :: X.outer) a (Zc cls d) X.env.locals s'.heap := by rw [← hs]; exact sky
    show wpAny (model X.prog X.w) X.A (noteFrame (.ref a) X.env) _ _ _
    refine Sky.land Zc.steady hfr hf sky' fun h3 fl3 up3 => ?_
    have notFr : ∀ {h : Heap} {o : Obj} {vs : Array Value}, h.FunFrames B (X.env :: X.outer) → h.get? a = some o → o.data = .fields vs → a ∉ frs (X.env :: X.outer) := fun {h o vs} ff e dd hm => by
      obtain ⟨_, o', e', hnf⟩ := ff.mem hm
      rw [e] at e'; cases e'
      exact hnf _ dd
    have nfr : a ∉ frs (X.env :: X.outer) := by
      obtain ⟨oe3, vs3, he3, hz3, hd3⟩ := fl3.there
      exact notFr fl3.2.2.1 he3 hd3
    have nL : a ≠ X.env.locals := fun z => nfr (List.mem_filterMap.mpr ⟨X.env, List.mem_cons_self, by rw [hf, z]⟩)
    have nF : a ∉ X.fs := fun hm => by
      obtain ⟨e, he, q⟩ := List.mem_filterMap.mp hm
      exact nfr (List.mem_filterMap.mpr ⟨e, List.mem_cons_of_mem _ he, q⟩)
    have nI : sI.heap.get? a = none := by
      cases e : sI.heap.get? a with
      | none => rfl
      | some o =>
        have z := nb a o e (by rw [hs]; exact nfr)
        rw [fl3.2.1] at z
        cases z
    have n0 : X.s_0.heap.get? a = none := by
      cases e : X.s_0.heap.get? a with
      | none => rfl
      | some o =>
        obtain ⟨o', z⟩ := J.base.there a o e (by rw [hex]; exact fun z => nomatch z)
        rw [nI] at z
        cases z
    have nP : ∀ p ∈ X.pn ++ pins, p.1 ≠ a := fun p hp z => by
      obtain ⟨e, _⟩ := J.pin p hp
      rw [z, nI] at e
      cases e
    have go : ∀ {hds' : List ExceptHandler} {l' : List (List Value × Nat × (Addr → Value → Option Addr → TS))}, HdK X hds' l' → wKeep X.K D l' cls d σ' H' → ∀ h3 : Heap, HandSPX.FlyingZ B (X.env :: X.outer) a (Zc cls d) h3 → sI.heap.UpToSlots h3 →
        wpAny (model X.prog X.w) X.A (handleBy (.ref a) X.env hds') (SP X pins D) X.xe { s' with heap := h3 } := by
      intro hds' l' hk
      induction hk with
      | nil =>
        intro w
        exact w.elim
      | @cons t n i cs ts b₀ suite pos' hds2 l2 ht hi hln hsu r ih =>
        intro w h3 fl3 up3
        obtain ⟨b, hb1, hyes, hno⟩ := w
        have J3 : Inv X pins σ' H' { s' with heap := h3 } := J.landed nb fl3.1 up3 os ag
        obtain ⟨oe3, vs3, he3, hz3, hd3⟩ := fl3.there
        have S3 := J3.suite he3 hd3 na nL nF
        refine wpAny_handleBy_cons (codeAny_handlers_test (ht cls b hb1 a oe3 _ _ _ _ _ _ S3 hz3.1 fun h4 kp => ?_)) (by intro q; cases q)
        have fl4 := flyZ_keeps fl3 kp
        have up4 : sI.heap.UpToSlots h4 := up3.trans (Heap.UpToSlots.of_keeps kp)
        cases b with
        | true =>
          refine codeAny_handlers_suite_as ?_
          refine HandSPX.lands_againZ (s := { s' with heap := h4 }) fl4 fun h5 fl5 up5 => ?_
          have J5 : Inv X pins σ' H' { s' with heap := h5 } := J.landed nb fl5.1 (up4.trans up5) os ag
          obtain ⟨oe5, vs5, he5, hz5, hd5⟩ := fl5.there
          have K5 : Inv X pins σ' (upd H' a (ExV cls d a)) { s' with heap := h5 } := Inv_track J5 n0 na he5 hz5 hd5 nL nP
          have S5 : Inv (X.suite a (X.pn ++ pins)) [] σ' (upd H' a (ExV cls d a)) { s' with heap := h5 } := Inv_suite0 K5
          refine store_ok (X := X.suite a (X.pn ++ pins)) (v := .ref a) S5 hN hi (.inl hln) rfl (fun s6 S6 => ?_) (.inr hln)
          refine wpAny_mono ((hsu a cls d (X.pn ++ pins)).run [] s6 _ _ _ S6 (hyes rfl a na)) (fun f s7 hsp => ?_) (fun _ _ z => False.elim z)
          have end_ : ∀ {σ6 : L2.St} {H6 : Hp} {Q : Shared → Prop}, Inv (X.suite a (X.pn ++ pins)) [] σ6 H6 s7 → (∀ s8, Inv X pins (σ6.set i none) H6 s8 → Q s8) →
              wpAny (model X.prog X.w) X.A (do bindName X.env n .none; unbindBehindTheSuite X.env n pos') (fun _ s8 => Q s8) X.xe s7 := fun {σ6 H6 Q} S6 hq => gone_ok (Inv_unsuite0 S6 ok) hN hi hln hq
          cases f with
          | next =>
            obtain ⟨σ6, H6, S6, q6⟩ := hsp
            exact end_ S6 fun s7 J7 => ⟨_, _, J7, q6⟩
          | brk =>
            obtain ⟨σ6, H6, S6, q6⟩ := hsp
            exact end_ S6 fun s7 J7 => ⟨_, _, J7, q6⟩
          | cont =>
            obtain ⟨σ6, H6, S6, q6⟩ := hsp
            exact end_ S6 fun s7 J7 => ⟨_, _, J7, q6⟩
          | ret u =>
            obtain ⟨v6, σ6, H6, S6, r6, q6⟩ := hsp
            exact end_ S6 fun s7 J7 => ⟨_, _, _, J7, r6, q6⟩
        | false =>
          show wpAny _ X.A (handleBy (.ref a) X.env hds2) _ _ _
          exact ih (hno rfl) h4 fl4 up4
    exact go hh (w J.len) h3 fl3 (up.trans up3)
  · cases f with
    | next =>
      obtain ⟨σ', H', J', q⟩ := hsp
      exact wpAny_execs_nil ⟨σ', H', J'.ofTry ok, q⟩
    | brk =>
      obtain ⟨σ', H', J', q⟩ := hsp
      exact ⟨σ', H', J'.ofTry ok, q⟩
    | cont =>
      obtain ⟨σ', H', J', q⟩ := hsp
      exact ⟨σ', H', J'.ofTry ok, q⟩
    | ret u =>
      obtain ⟨v, σ', H', J', r, q⟩ := hsp
      exact ⟨v, σ', H', J'.ofTry ok, r, q⟩
end
/-! ### isinstance of it -/
section
variable {X : Cx}
/-- isinstance(e, c), e a kept exception of an own class without fields -/
def rIsV (K : PySem.W.Frag) : List V → Hp → VK → Prop := fun xs H Q => ∃ (a D : Addr) (c : V) (cv : Value) (b : Bool), xs = [.ref a, c] ∧ H a = some (ExV (.ref D) none a) ∧ ExcC K D ∧ (∀ u, RelV c u → u = cv) ∧ PySem.W.kitOne K (.ref D) cv = some b ∧ Q (.bl b) H
theorem inst_of {pins : List (Addr × Obj)} {σ : L2.St} {H : Hp} {s : Shared} {a D : Addr} (I : Inv X pins σ H s) (h : H a = some (ExV (.ref D) none a)) : ∃ oe, PySem.W.InstAt s.heap a oe D none := by
  obtain ⟨⟨oe, vs, hget, hz, hv⟩, _, _⟩ := I.hok a _ h
  refine ⟨oe, ?_⟩
  obtain ⟨oc, od, oda, osl⟩ := oe
  obtain ⟨h1, h2⟩ := hz
  dsimp only at h1 h2 hv
  subst h1 h2 hv
  exact ⟨hget, rfl, rfl, trivial⟩
theorem call_isV : CallR X (.builtin "isinstance") (rIsV X.K) := by
  intro pins s σ H xs us Q I r h
  obtain ⟨a, D, c, cv, b, rfl, hH, C, hcv, e, q⟩ := h
  cases r with
  | cons rx rr =>
    cases rr with
    | cons rt rr =>
      cases rr
      cases rx
      have ec := hcv _ rt
      subst ec
      obtain ⟨oe, J⟩ := inst_of I hH
      exact PySem.W.kia_one (PySem.W.handS_kitx_exc C.hg C.hk C.hs C.hd C.ha C.hn C.ht C.hm) I.kIn J e (fun z => nomatch z) fun tk => ⟨.bl b, H, I.kept (t' := tk) fun _ _ z => z, rfl, q⟩
/-- xs.count(y), flat items -/
def rCount (K : PySem.W.Frag) : V → List V → Hp → VK → Prop := fun x xs H Q => ∃ (a : Addr) (ys : List V) (y : V), x = V.ref a ∧ xs = [y] ∧ SqL K H a ys ∧ flatV y = true ∧ ys.all flatV = true ∧ Q (.int ((ys.countP fun z => eqV z y : Nat) : Int)) H
theorem count_eqU {y : V} : ∀ {xs : List V} {us : List Value}, Vals xs us → xs.all flatV = true → us.countP (eqU y) = xs.countP fun z => eqV z y
  | _, _, .nil, _ => rfl
  | x :: xs, u :: us, .cons r t, f => by
    rw [List.all_cons, Bool.and_eq_true] at f
    rw [List.countP_cons, List.countP_cons, eqU_of r f.1, count_eqU t f.2]
theorem mt_count : MtR X "list.count" (rCount X.K) := by
  intro pins s σ H x xs v us Q I rx rxs h
  obtain ⟨a, ys, y, rfl, rfl, hs, fy, fys, q⟩ := h
  cases rx
  cases rxs with
  | cons ry rt =>
    rename_i uy ut
    cases rt
    obtain ⟨its, rv, ⟨⟨cls, dd, data, sl⟩, n, ho, hc, hdn, hd⟩, hlen⟩ := I.list hs
    simp only at hc hd
    subst hc hd
    refine call_meets PySem.F.slot_list_count ⟨_, ho, rfl⟩ PySem.F.entry_list_count (PySem.F.args_list_count_2 _ _)
      (SeqAt.list_countAt a its.toArray n dd sl uy (eqU y)) ⟨ho, fun u' hu' => mem_eqAt ry fy rv fys u' (by simpa using hu'), ?_⟩
    have ec : its.toArray.toList.countP (eqU y) = ys.countP fun z => eqV z y := count_eqU rv fys
    refine ⟨.int ((ys.countP fun z => eqV z y : Nat) : Int), H, I.tok _, ⟨s.toks, ?_⟩, q⟩
    rw [ec]
end
end TCX
/-! Defs that ask repr of lists and tuples: the guards of the calls around are told. -/
namespace TCX
open PySem PySem.Spec PyProof.Rows L2
/-- FnOk where no repr is under way -/
structure FnG (P : Program) (w : World) (K : PySem.W.Frag) (mg : Str → Option Value) (base : Heap) (CX : CXT) (k : Nat) (f : Addr) (fd : FuncData) (ps : List Str) (sp : Sp) : Prop where
  glen : ∀ vs H Q E, sp vs H Q E → vs.length = ps.length
  grun : ∀ (A : Around) (outer : List Env) (s : Shared) (H : Hp) (args : Args) (us : List Value) (vs : List V) (Q : VK) (E : XK), A.guards = some [] → Room k A → Env0 P w K mg base A outer s H → BindsTo s fd args (ps.zip us) → Vals vs us → sp vs H Q E →
    codeAny (model P w) A (.call (.ref f) args) (CR CX outer P w H s Q E) s
section
variable {P : Program} {w : World} {K : PySem.W.Frag} {mg : Str → Option Value} {base : Heap} {x qual : Str} {params : Arguments} {body : List Stmt} {scope : Scope} {dvs : List V} {kws : List (Str × V)} {f : Addr} {fd : FuncData} {CX : CXT} {N ps : List Str} {k : Nat} {sp : Sp}
theorem okG (F : FunD K x qual params body scope dvs kws f fd) (S : FnScope N ps scope) (len : ∀ vs H Q E, sp vs H Q E → vs.length = ps.length)
    (hbody : ∀ (cdv : Value) (A : Around) (outer : List Env) (s : Shared) (H : Hp) (vs : List V) (Q : VK) (E : XK), A.guards = some [] → Room k (A.deeper (envOfC qual scope s.heap.objs.size f cdv)) → sp vs H Q E →
      ∃ t, PSs (cxOf CX P w K mg base N qual scope f cdv A outer s H E) body t ∧ t { nx := fun _ H' => Q .non H', rt := Q } (L2.start N vs) H) : FnG P w K mg base CX (k + 1) f fd ps sp := by
  obtain ⟨oc, od, dV, kV, doc, pm, an, cdv, ct, osl, rfl, lk, hcd, _, _⟩ := F.ex
  exact ⟨len, fun A outer s H args us vs Q E hg hr e0 hb r hsp => LamX.run_ofS lk hcd S hr e0 hb r (len _ _ _ _ hsp) fun hr' => hbody cdv A outer s H vs Q E hg hr' hsp⟩
end
section
variable {X : Cx} {CX : CXT} {k : Nat} {f : Addr} {fd : FuncData} {ps : List Str} {sp : Sp} {E : XK} {x : Str} {p pos : Pos} {e : Expr} {es : List Expr} {t : TA} {dvs : List V} {ds : List Value}
/-- f(e, ..) of such a def -/
theorem pe_callG (F : FnG X.prog X.w X.K X.mg X.base CX k f fd ps sp) (hG : X.A.guards = some []) (hr : Room k X.A) (hg : Gl X x) (hm : X.mg x = some (.ref f)) (hk : PySem.W.keepIn X.K (.ref f) = true) (hb : L2.Binds X.K fd ps ds) (hd : Vals dvs ds) (hx : Passes CX X E)
    (ha : PA X (e :: es) t) (hdb : (x == ("__debug__" : Str)) = false := by decide) (he : starEach (e :: es) X.env = (false, eval e X.env) :: starEach es X.env := by rfl) (hpl : (backTo pos (starEach es X.env)).any (·.1) = false := by rfl) :
    PE X (.Call (.Name x p) (e :: es) [] pos) (tCall sp dvs E t) := by
  refine ⟨fun pins s σ H Q I h => wpAny_Call_Name_kw (ld_glob I hg hm ?_ hdb)⟩
  refine PySem.W.callWith_K (h₀ := X.base) I.ok.mod.kin hk (thn (ha.run pos pins s σ H _ I h) fun us s1 z => ?_) he hpl
  obtain ⟨vs, H1, I1, r, q⟩ := z
  refine ⟨I1.kIn, wpAny_call (codeAny_mono (F.grun X.A X.stack s1 H1 ⟨us, []⟩ (us ++ ds) (vs ++ dvs) Q E hG hr I1.env0 (hb s1 us I1.kIn ?_) (r.append hd) q) fun y s' hq => ?_)⟩
  · rw [← (r.append hd).length]
    exact F.glen _ _ _ _ q
  · match y, hq with
    | .error u, hq => exact hx pins σ H1 s1 u s' I1 hq
    | .ok (.ret u), hq => exact I1.after hq
    | .ok .next, hq => exact False.elim hq
    | .ok .brk, hq => exact False.elim hq
    | .ok .cont, hq => exact False.elim hq
/-- repr(x) of lists and tuples of data -/
theorem call_reprD (hG : X.A.guards = some []) (hu : X.A.units + 64 < cLine) : CallR X (.builtin "repr") (fun xs H Q => ∃ (a : Addr) (d : PyData), xs = [.ref a] ∧ Dp X.K H (.ref a) d ∧ d.showable = true ∧ d.hasDict = false ∧ d.depth ≤ 60 ∧ d.shown.length ≤ sizeLine ∧ Q (.str d.shown) H) := by
  intro pins s σ H xs us Q I r h
  obtain ⟨a, d, rfl, hd, hs, hn, hdp, hz, q⟩ := h
  rw [Vals.ref1 r]
  obtain ⟨as, hr⟩ := Dp.reads I d (.ref a) (.ref a) hd rfl
  exact repr_of_reads' hr hs (fun z => by rw [hn] at z; cases z) hG (by omega) (fun _ _ z => z) (fun h' u tk hk => ⟨.str d.shown, H, I.kept (t' := tk) hk, ⟨u, rfl⟩, q⟩) hz
theorem call_reprB : CallR X (.builtin "repr") (fun xs H Q => ∃ b : Bool, xs = [.bl b] ∧ Q (.str (if b then "True" else "False")) H) := by
  intro pins s σ H xs us Q I r h
  obtain ⟨b, rfl, q⟩ := h
  obtain ⟨u, rfl, rfl⟩ := vals1 r
  exact P.repr_of_bool ⟨.str (if b then "True" else "False"), H, I.tok _, ⟨_, rfl⟩, q⟩
end
/-! ### list(range(a, b, 2)) -/
theorem size2 {a b : Int} {n : Nat} (h : a < b) (hn : (b - a - 1) / 2 + 1 = n) : Builtin.Range.rangeSize a b 2 = n := by
  unfold Builtin.Range.rangeSize
  rw [if_pos (by decide), if_pos h, hn]
theorem size2_0 {a b : Int} (h : ¬ a < b) : Builtin.Range.rangeSize a b 2 = (0 : Nat) := by
  unfold Builtin.Range.rangeSize
  rw [if_pos (by decide), if_neg h]
  rfl
theorem small2 {a b : Int} (ha : -100000 ≤ a) (ha' : a < 100000) (hb : -100000 ≤ b) (hb' : b < 100000) : Builtin.Range.small a b 2 = true := by
  unfold Builtin.Range.small
  by_cases h : a < b
  · rw [size2 (n := ((b - a - 1) / 2 + 1).toNat) h (by omega)]
    simp only [Builtin.Range.rangeFitsLong, Bool.and_eq_true, Bool.or_eq_true, decide_eq_true_eq, beq_iff_eq, show (2 : Int) > 0 by decide, if_true]
    omega
  · rw [size2_0 h]
    simp only [Builtin.Range.rangeFitsLong, Bool.and_eq_true, Bool.or_eq_true, decide_eq_true_eq, beq_iff_eq, show (2 : Int) > 0 by decide, if_true]
    omega
/-- a, a + 2, .. : n of them -/
def upV (a : Int) (n : Nat) : List V := (List.range n).map fun i => V.int (a + (i : Nat) * 2)
theorem upV_length (a : Int) (n : Nat) : (upV a n).length = n := by rw [upV, List.length_map, List.length_range]
section
variable {X : Cx} {a b : Expr} {ta : TA}
def tLst2 (ta : TA) : TE := fun σ H Q => ta σ H fun vs H1 => ∃ (i j : Int) (n : Nat), vs = [.int i, .int j, .int 2] ∧ -100000 ≤ i ∧ i < 100000 ∧ -100000 ≤ j ∧ j < 100000 ∧ Builtin.Range.rangeSize i j 2 = n ∧ ∀ q, H1 q = none → Q (.ref q) (upd H1 q (.lst (upV i n)))
theorem pe_list2 {c : Expr} {p pos p2 pos2 : Pos} (hc : X.calm = true) (hgl : Gl X "list") (hml : X.mg "list" = none) (hgr : Gl X "range") (hmr : X.mg "range" = none) (ha : PA X [a, b, c] ta)
    (hs : starEach [a, b, c] X.env = (false, eval a X.env) :: starEach [b, c] X.env := by rfl) (hpl : (backTo pos2 (starEach [b, c] X.env)).any (·.1) = false := by rfl)
    (hs2 : starEach [Expr.Call (.Name "range" p2) [a, b, c] [] pos2] X.env = (false, eval (.Call (.Name "range" p2) [a, b, c] [] pos2) X.env) :: starEach [] X.env := by rfl) :
    PE X (.Call (.Name "list" p) [.Call (.Name "range" p2) [a, b, c] [] pos2] [] pos) (tLst2 ta) := by
  refine ⟨fun pins s σ H Q I h => ?_⟩
  refine Call_ (ld_blt I hgl hml boot_list (PyProof.Rows.callWith_type1 (args_cons ?_ hs2) hs2))
  refine Call_ (ld_blt I hgr hmr boot_range (PyProof.Rows.callWith_type1 (thn (ha.run pos2 pins s σ H _ I h) fun us s1 z => ?_) hs hpl))
  obtain ⟨vs, H1, I1, r1, i, j, n, rfl, i1, i2, j1, j2, hn, q⟩ := z
  match us, r1 with
  | [_, _, _], .cons ⟨t, rfl⟩ (.cons ⟨t', rfl⟩ (.cons ⟨t'', rfl⟩ .nil)) =>
    refine call_range_3 (by decide) (args_nil ?_) (Or.inl (PyProof.noPylong_of_log2 (by decide +kernel)))
    have I2 : Inv X pins σ H1 { s1 with heap := s1.heap.push { cls := .type "range", data := .fields #[.int i t, .int j t', .int 2 t''] } } := I1.kept (t' := s1.toks) fun b u e => Heap.get?_push_of_some _ e
    have nle : n ≤ 2 ^ 24 := by
      unfold Builtin.Range.rangeSize at hn
      rw [if_pos (by decide)] at hn
      by_cases z : i < j
      · rw [if_pos z] at hn
        omega
      · rw [if_neg z] at hn
        omega
    refine call_list_range (n := n) (I2.ok.hd hc) (IsRange.new _ _ _ _ _ _ _) (small2 i1 i2 j1 j2) hn nle fun h' tk acc c' hk e' hi => ?_
    have hv : Vals (upV i n) acc.toList := by
      have e : acc.toList.length = n := by rw [Array.length_toList]; exact hi.1
      rw [upV, ← e]
      refine vals_of_get acc.toList _ fun k u hj => ?_
      obtain ⟨y, rfl⟩ := hi.2 k u (by rw [← hj, Array.getElem?_toList])
      exact ⟨y, rfl⟩
    refine ⟨.ref _, upd H1 _ (.lst (upV i n)), I2.laid hk (Nat.le_refl _) (show ObjOk X.prog X.w _ _ _ (.lst (upV i n)) from ⟨?_, acc.toList, c', hv, ?_⟩), rfl, q _ (I2.hok.fresh (Nat.le_refl _))⟩
    · rw [upV_length, sizeLine_eq]
      omega
    · rw [Array.toArray_toList]
      exact e'
end
end TCX
/-! What the head tells of the program's exception classes. -/
namespace TCX
open PySem PySem.Spec PyProof.Rows L2
/-- what isinstance asks of the class at D -/
def excB (K : PySem.W.Frag) (D : Addr) : Bool :=
  He.eqO (PySem.W.findIn K (.ref D) "__getattribute__") (some (some (.builtin "BaseException.__getattribute__"))) && (He.eqO (PySem.W.findIn K (.ref D) "__getattr__") (some none) && (decide (PySem.W.subIn K (.ref D) (.type "BaseException") = some true) &&
    (PySem.W.hasDictIn K D && (He.eqO (PySem.W.findIn K (.ref D) "__class__") (some (some (.builtin "object.__class__"))) && (He.eqO (PySem.W.specialIn K (.builtin "object.__class__") "__get__") (some (some (.builtin "getset_descriptor.__get__"))) &&
      (decide (PySem.W.takesIn K (.builtin "object.__class__") = some true) && decide (PySem.W.mroIn K D (.type "object") = some true)))))))
theorem excB_ok {K : PySem.W.Frag} {D : Addr} (h : excB K D = true) : ExcC K D := by
  obtain ⟨h1, h⟩ := He.ba h
  obtain ⟨h2, h⟩ := He.ba h
  obtain ⟨h3, h⟩ := He.ba h
  obtain ⟨h4, h⟩ := He.ba h
  obtain ⟨h5, h⟩ := He.ba h
  obtain ⟨h6, h⟩ := He.ba h
  obtain ⟨h7, h8⟩ := He.ba h
  exact ⟨He.eqO_ok h1, He.eqO_ok h2, of_decide_eq_true h3, h4, He.eqO_ok h5, He.eqO_ok h6, of_decide_eq_true h7, of_decide_eq_true h8⟩
/-- the classes in the order in which _law_word asks for them -/
def clsN : List Str := (["Empty", "NoDeed", "NoHalf", "NoLinking", "NoNet", "NoNumber", "NoOffset", "NoQuestion", "NoRow", "NoSize", "NoStanding"] : List Str) ++ (["NoTable", "NoText", "NotParted", "NoTree", "NoTriple", "NoWay", "TooWide", "ByNought", "NoName", "NoPlace", "NothingDone"] : List Str)
def words : List Str := (["empty", "deed", "half", "linking", "net", "number", "offset", "question", "row", "size", "standing"] : List Str) ++ (["table", "text", "parted", "tree", "triple", "way", "wide", "nought", "name", "place", "done"] : List Str)
/-- of the 22 classes the at-th one alone is D's -/
def Kits (K : PySem.W.Frag) (D : Addr) (at_ : Nat) : Prop := clsN.map (fun x => PySem.W.kitOne K (.ref D) (.ref (He.ga K x))) = (List.range 22).map fun i => some (i == at_)
instance {K : PySem.W.Frag} {D : Addr} {n : Nat} : Decidable (Kits K D n) := inferInstanceAs (Decidable (_ = _))
theorem Kits.at {K : PySem.W.Frag} {D : Addr} {n : Nat} (h : Kits K D n) (i : Nat) {x : Str} (hx : clsN[i]? = some x) : PySem.W.kitOne K (.ref D) (.ref (He.ga K x)) = some (i == n) := by
  have e := congrArg (fun l : List (Option Bool) => l[i]?) h
  have hi : i < 22 := by
    obtain ⟨z, _⟩ := List.getElem?_eq_some_iff.mp hx
    exact Nat.lt_of_lt_of_eq z rfl
  simp only [List.getElem?_map, hx, Option.map_some] at e
  rw [List.getElem?_range hi] at e
  exact Option.some.inj e
structure Kind (K : PySem.W.Frag) (D : Addr) (n : Nat) : Prop where
  ec : ExcC K D
  kits : Kits K D n
  te : PySem.W.kitOne K (.ref D) (.ref (He.ga K "TurnError")) = some (decide (n < 18))
  ve : PySem.W.kitOne K (.ref D) (.type "ValueError") = some (decide (n < 18))
def excAll (K : PySem.W.Frag) (x : Str) (n : Nat) : Bool := excB K (He.ga K x) && (decide (Kits K (He.ga K x) n) && (decide (PySem.W.kitOne K (.ref (He.ga K x)) (.ref (He.ga K "TurnError")) = some (decide (n < 18))) && (decide (PySem.W.kitOne K (.ref (He.ga K x)) (.type "ValueError") = some (decide (n < 18))) &&
  decide (PySem.W.exmAny K (.ref (He.ga K x)) [.ref (He.ga K "TurnError")] = some (decide (n < 18))))))
theorem excAll_ok {K : PySem.W.Frag} {x : Str} {n : Nat} (h : excAll K x n = true) : Kind K (He.ga K x) n ∧ PySem.W.exmAny K (.ref (He.ga K x)) [.ref (He.ga K "TurnError")] = some (decide (n < 18)) := by
  obtain ⟨h1, h⟩ := He.ba h
  obtain ⟨h2, h⟩ := He.ba h
  obtain ⟨h3, h⟩ := He.ba h
  obtain ⟨h4, h5⟩ := He.ba h
  exact ⟨⟨excB_ok h1, of_decide_eq_true h2, of_decide_eq_true h3, of_decide_eq_true h4⟩, of_decide_eq_true h5⟩
/-- as Kind, of all the classes -/
structure KindF (K : PySem.W.Frag) (D : Addr) (n : Nat) : Prop where
  ec : ExcC K D
  kits : Kits K D n
  te : PySem.W.kitOne K (.ref D) (.ref (He.ga K "TurnError")) = some (decide (n < 18))
  ve : PySem.W.kitOne K (.ref D) (.type "ValueError") = some (decide (n < 18))
  kz : PySem.W.kitOne K (.ref D) (.type "ZeroDivisionError") = some (n == 18)
  ky : PySem.W.kitOne K (.ref D) (.type "KeyError") = some (n == 19)
  ki : PySem.W.kitOne K (.ref D) (.type "IndexError") = some (n == 20)
  kl : PySem.W.kitOne K (.ref D) (.type "LookupError") = some (decide (19 ≤ n))
  kt : PySem.W.kitAny K (.ref D) [.type "KeyError", .type "IndexError"] = some (n == 19 || n == 20)
  x5 : PySem.W.exmAny K (.ref D) [.ref (He.ga K "TurnError"), .ref (He.ga K "ByNought"), .ref (He.ga K "NoName"), .ref (He.ga K "NoPlace"), .ref (He.ga K "NothingDone")] = some true
def excAllF (K : PySem.W.Frag) (x : Str) (n : Nat) : Bool := excB K (He.ga K x) && (decide (Kits K (He.ga K x) n) && (decide (PySem.W.kitOne K (.ref (He.ga K x)) (.ref (He.ga K "TurnError")) = some (decide (n < 18))) && (decide (PySem.W.kitOne K (.ref (He.ga K x)) (.type "ValueError") = some (decide (n < 18))) &&
  (decide (PySem.W.kitOne K (.ref (He.ga K x)) (.type "ZeroDivisionError") = some (n == 18)) && (decide (PySem.W.kitOne K (.ref (He.ga K x)) (.type "KeyError") = some (n == 19)) && (decide (PySem.W.kitOne K (.ref (He.ga K x)) (.type "IndexError") = some (n == 20)) && (decide (PySem.W.kitOne K (.ref (He.ga K x)) (.type "LookupError") = some (decide (19 ≤ n))) &&
  (decide (PySem.W.kitAny K (.ref (He.ga K x)) [.type "KeyError", .type "IndexError"] = some (n == 19 || n == 20)) && decide (PySem.W.exmAny K (.ref (He.ga K x)) [.ref (He.ga K "TurnError"), .ref (He.ga K "ByNought"), .ref (He.ga K "NoName"), .ref (He.ga K "NoPlace"), .ref (He.ga K "NothingDone")] = some true)))))))))
theorem excAllF_ok {K : PySem.W.Frag} {x : Str} {n : Nat} (h : excAllF K x n = true) : KindF K (He.ga K x) n := by
  obtain ⟨h1, h⟩ := He.ba h
  obtain ⟨h2, h⟩ := He.ba h
  obtain ⟨h3, h⟩ := He.ba h
  obtain ⟨h4, h⟩ := He.ba h
  obtain ⟨h5, h⟩ := He.ba h
  obtain ⟨h6, h⟩ := He.ba h
  obtain ⟨h7, h⟩ := He.ba h
  obtain ⟨h8, h⟩ := He.ba h
  obtain ⟨h9, ha⟩ := He.ba h
  exact ⟨excB_ok h1, of_decide_eq_true h2, of_decide_eq_true h3, of_decide_eq_true h4, of_decide_eq_true h5, of_decide_eq_true h6, of_decide_eq_true h7, of_decide_eq_true h8, of_decide_eq_true h9, of_decide_eq_true ha⟩
/-- an own class over ZeroDivisionError -/
def zBase : List Value := [.type "ZeroDivisionError", .type "ArithmeticError", .type "Exception", .type "BaseException", .type "object"]
def excZ (K : PySem.W.Frag) (x : Str) : Bool := PySem.W.excIn K (He.ga K x) zBase "ZeroDivisionError.__new__" && (PySem.W.keepIn K (.ref (He.ga K x)) && (decide (PySem.W.subIn K (.ref (He.ga K x)) (.type "BaseException") = some true) && decide (PySem.W.typeIn K (.ref (He.ga K x)) = some (.type "type"))))
theorem excZ_ok {K : PySem.W.Frag} {x : Str} (h : excZ K x = true) : PySem.W.excIn K (He.ga K x) zBase "ZeroDivisionError.__new__" = true ∧ PySem.W.keepIn K (.ref (He.ga K x)) = true ∧ PySem.W.subIn K (.ref (He.ga K x)) (.type "BaseException") = some true ∧ PySem.W.typeIn K (.ref (He.ga K x)) = some (.type "type") := by
  obtain ⟨h1, h⟩ := He.ba h
  obtain ⟨h2, h⟩ := He.ba h
  obtain ⟨h3, h4⟩ := He.ba h
  exact ⟨h1, h2, of_decide_eq_true h3, of_decide_eq_true h4⟩
end TCX
namespace TCX
open PySem PySem.Spec PyProof.Rows L2
/-- an own class over IndexError -/
def iBase : List Value := [.type "IndexError", .type "LookupError", .type "Exception", .type "BaseException", .type "object"]
def excI (K : PySem.W.Frag) (x : Str) : Bool := PySem.W.excIn K (He.ga K x) iBase "IndexError.__new__" && (PySem.W.keepIn K (.ref (He.ga K x)) && (decide (PySem.W.subIn K (.ref (He.ga K x)) (.type "BaseException") = some true) && decide (PySem.W.typeIn K (.ref (He.ga K x)) = some (.type "type"))))
theorem excI_ok {K : PySem.W.Frag} {x : Str} (h : excI K x = true) : PySem.W.excIn K (He.ga K x) iBase "IndexError.__new__" = true ∧ PySem.W.keepIn K (.ref (He.ga K x)) = true ∧ PySem.W.subIn K (.ref (He.ga K x)) (.type "BaseException") = some true ∧ PySem.W.typeIn K (.ref (He.ga K x)) = some (.type "type") := by
  obtain ⟨h1, h⟩ := He.ba h
  obtain ⟨h2, h⟩ := He.ba h
  obtain ⟨h3, h4⟩ := He.ba h
  exact ⟨h1, h2, of_decide_eq_true h3, of_decide_eq_true h4⟩
end TCX
namespace TC
open PySem PySem.Spec PyProof.Rows L2 TCX
/-! the text by places -/
def top (i : Nat) : Stmt := PySem.Challenge.pw_turncouple_k28_powers_multiplied_out.main.body.getD i (.Pass ⟨0, 0, 0, 0⟩)
abbrev sWhole : Stmt := top 25
abbrev sOdd : Stmt := top 26
abbrev sBinom : Stmt := top 27
abbrev sPowers : Stmt := top 30
abbrev sSignedBinomials : Stmt := top 31
abbrev sPen : Stmt := top 33
abbrev sDraw : Stmt := top 34
abbrev sWord : Stmt := top 35
abbrev sDiff : Stmt := top 36
abbrev sDue : Stmt := top 37
abbrev sTold : Stmt := top 38
abbrev sLaw : Stmt := top 39
abbrev FnP (K : PySem.W.Frag) (x : Str) (st : Stmt) (f : Addr) (fd : FuncData) : Prop := FunD K x x (defArgs st) (defBody st) (defScope st) [] [] f fd
def dd (x : Str) (st : Stmt) : He.DefD := ⟨(x, none), x, x, defArgs st, defBody st, defScope st, [], []⟩
def fn : List He.DefD := ([dd "is_whole" sWhole, dd "is_odd" sOdd, dd "binomials" sBinom, dd "powers" sPowers, dd "signed_binomials" sSignedBinomials, dd "_law_pen" sPen, dd "_law_draw" sDraw, dd "_law_word" sWord, dd "_law_times_difference" sDiff, dd "_law_due" sDue, dd "_law_told" sTold, dd "law" sLaw] : List He.DefD)
def fa : List He.Fa := ([.glo "TurnError", .glo "NoNumber", .glo "NoSize", .glo "NoOffset", .glo "NoTriple", .glo "NoTable", .glo "TooWide", .glo "NoNet", .glo "NoRow", .glo "NoStanding", .glo "NoTree", .glo "NoWay", .glo "NoHalf", .glo "NoLinking", .glo "NoDeed", .glo "NoQuestion"] : List He.Fa) ++ ([.glo "Empty", .glo "NotParted", .glo "NoText", .glo "NoName", .glo "NoPlace", .glo "ByNought", .glo "NothingDone", .glo "is_whole", .glo "is_odd", .glo "binomials", .glo "powers", .glo "signed_binomials", .glo "_law_pen", .glo "_law_draw", .glo "_law_word", .glo "_law_times_difference"] : List He.Fa) ++ ([.glo "_law_due", .glo "_law_told", .glo "law", .int "HIGHEST_POWER" 12, .free "isinstance", .free "int", .free "bool", .free "len", .free "range", .free "list", .free "tuple", .free "sum", .free "enumerate", .free "ValueError", .free "ZeroDivisionError", .free "KeyError"] : List He.Fa) ++ ([.free "IndexError", .free "LookupError"] : List He.Fa)
def exB (K : PySem.W.Frag) : Bool := excAllF K "NoPlace" 20 && (excI K "NoPlace" && decide (PySem.W.exmAny K (.ref (He.ga K "NoPlace")) [.ref (He.ga K "TurnError"), .ref (He.ga K "ByNought"), .ref (He.ga K "NoName"), .ref (He.ga K "NoPlace"), .ref (He.ga K "NothingDone")] = some true))
def tf : List He.Defn := []
def hk : PySem.W.Hook := He.hookX 5 fa fn [] tf exB
abbrev R : PySem.W.OpenRow := PySem.W.OpenLaw.row PySem.Challenge.rw_turncouple_k28_powers_multiplied_out
def ob (s : PySem.W.SharedT) : He.AlX := He.obsX 5 fa fn [] tf exB (HandSHeadRun.getT s)
theorem ob_eq (s : PySem.W.SharedT) : ob s = hk.obs s.abs := He.obsX_eq (s := s.abs) (HandSHeadRun.getT_eq s)
def loose : List PySem.Str := (["TurnError", "NoNumber", "NoSize", "NoOffset", "NoTriple", "NoTable", "TooWide", "NoNet", "NoRow", "NoStanding", "NoTree", "NoWay", "NoHalf", "NoLinking", "NoDeed", "NoQuestion"] : List PySem.Str) ++ (["Empty", "NotParted", "NoText", "NoName", "NoPlace", "ByNought", "NothingDone", "is_whole", "is_odd", "binomials", "HIGHEST_POWER", "powers", "signed_binomials", "_law_pen", "_law_draw", "_law_word"] : List PySem.Str) ++ (["_law_times_difference", "_law_due", "_law_told"] : List PySem.Str)
end TC
namespace TC
open PySem PySem.Spec PyProof.Rows L2
theorem run (w : World) : HandSHeadRun.RunEq R (PySem.W.view R.prog [39]) hk ob 30000 loose w := by
  intro os
  kernel_rfl
end TC
/-! The mathematics, in plain Lean. -/
namespace TCM
/-! ### the greatest common divisor, by steps with Python's remainder -/
theorem gcd_fmod (a b : Int) : Int.gcd b (a.fmod b) = Int.gcd a b := by
  have e : a.fmod b = a - b * a.fdiv b := by
    have := Int.fmod_add_mul_fdiv a b
    omega
  rw [e, Int.gcd_comm a b]
  apply Nat.dvd_antisymm
  · refine Int.dvd_gcd (Int.gcd_dvd_left ..) ?_
    have h1 : ((Int.gcd b (a - b * a.fdiv b) : Nat) : Int) ∣ b := Int.gcd_dvd_left ..
    have h2 : ((Int.gcd b (a - b * a.fdiv b) : Nat) : Int) ∣ a - b * a.fdiv b := Int.gcd_dvd_right ..
    have h3 := Int.dvd_add h2 (Int.dvd_mul_of_dvd_left (c := a.fdiv b) h1)
    have e2 : a - b * a.fdiv b + b * a.fdiv b = a := by omega
    rw [e2] at h3
    exact h3
  · refine Int.dvd_gcd (Int.gcd_dvd_left ..) ?_
    have h1 : ((Int.gcd b a : Nat) : Int) ∣ b := Int.gcd_dvd_left ..
    have h2 : ((Int.gcd b a : Nat) : Int) ∣ a := Int.gcd_dvd_right ..
    exact Int.dvd_sub h2 (Int.dvd_mul_of_dvd_left (c := a.fdiv b) h1)
theorem fmod_lt (a b : Int) (h : b ≠ 0) : (a.fmod b).natAbs < b.natAbs := by
  rcases Int.lt_or_gt_of_ne h with hb | hb
  · have h1 : a.fmod b = a % b + if 0 ≤ b ∨ b ∣ a then 0 else b := Int.fmod_eq_emod
    have := Int.emod_nonneg a h
    have := Int.emod_lt_of_pos a (b := -b) (by omega)
    rw [Int.emod_neg] at this
    rw [h1]
    split
    · omega
    · rename_i z
      have : a % b ≠ 0 := fun e => z (.inr (Int.dvd_of_emod_eq_zero e))
      omega
  · have h1 := Int.fmod_nonneg_of_pos a hb
    have h2 := Int.fmod_lt_of_pos a hb
    omega
theorem abs_eq (i : Int) : (if i < 0 then -i else i) = ((i.natAbs : Nat) : Int) := by
  split <;> omega
/-! ### a fraction in lowest terms -/
def sgn (t b : Int) : Int := if b < 0 then -((Int.gcd t b : Nat) : Int) else ((Int.gcd t b : Nat) : Int)
def low (t b : Int) : Int × Int := (t.fdiv (sgn t b), b.fdiv (sgn t b))
/-- as the law says it -/
def lowL (t b : Int) : Int × Int := if 0 < b then (t.fdiv ((Int.gcd t b : Nat) : Int), b.fdiv ((Int.gcd t b : Nat) : Int)) else ((-t).fdiv ((Int.gcd t b : Nat) : Int), (-b).fdiv ((Int.gcd t b : Nat) : Int))
theorem low_eq (t b : Int) (h : b ≠ 0) : low t b = lowL t b := by
  unfold low lowL sgn
  by_cases hb : b < 0
  · rw [if_pos hb, if_neg (by omega)]
    have e1 := Int.neg_fdiv_neg (-t) ((Int.gcd t b : Nat) : Int)
    have e2 := Int.neg_fdiv_neg (-b) ((Int.gcd t b : Nat) : Int)
    rw [Int.neg_neg] at e1 e2
    rw [e1, e2]
  · rw [if_neg hb, if_pos (by omega)]
theorem gcd_pos (t b : Int) (h : b ≠ 0) : 0 < Int.gcd t b := by
  have : Int.gcd t b ≠ 0 := fun e => h (Int.gcd_eq_zero_iff.mp e).2
  omega
theorem gcd_le (t b : Int) (h : b ≠ 0) : Int.gcd t b ≤ b.natAbs := by
  show Nat.gcd t.natAbs b.natAbs ≤ b.natAbs
  exact Nat.gcd_le_right _ (by omega)
theorem sgn_ne (t b : Int) (h : b ≠ 0) : sgn t b ≠ 0 := by
  have := gcd_pos t b h
  unfold sgn
  split <;> omega
theorem sgn_abs (t b : Int) : (sgn t b).natAbs = Int.gcd t b := by
  unfold sgn
  split <;> omega
/-- the quotients are no larger -/
theorem fdiv_abs (t d : Int) (h : d ≠ 0) (hd : d ∣ t) : (t.fdiv d).natAbs ≤ t.natAbs := by
  obtain ⟨k, rfl⟩ := hd
  rw [Int.mul_fdiv_cancel_left k h, Int.natAbs_mul]
  exact Nat.le_mul_of_pos_left _ (by omega)
theorem sgn_dvd (t b : Int) : sgn t b ∣ t ∧ sgn t b ∣ b := by
  have h1 : ((Int.gcd t b : Nat) : Int) ∣ t := Int.gcd_dvd_left ..
  have h2 : ((Int.gcd t b : Nat) : Int) ∣ b := Int.gcd_dvd_right ..
  unfold sgn
  split
  · exact ⟨Int.neg_dvd.mpr h1, Int.neg_dvd.mpr h2⟩
  · exact ⟨h1, h2⟩
theorem low_abs (t b : Int) (h : b ≠ 0) : (low t b).1.natAbs ≤ t.natAbs ∧ (low t b).2.natAbs ≤ b.natAbs :=
  ⟨fdiv_abs t _ (sgn_ne t b h) (sgn_dvd t b).1, fdiv_abs b _ (sgn_ne t b h) (sgn_dvd t b).2⟩
theorem low_pos (t b : Int) (h : b ≠ 0) : 0 < (low t b).2 := by
  obtain ⟨k, hk⟩ := (sgn_dvd t b).2
  have hs := sgn_ne t b h
  have e : (low t b).2 = k := by
    show b.fdiv (sgn t b) = k
    rw [hk, ← hk]
    have e2 : b.fdiv (sgn t b) = (sgn t b * k).fdiv (sgn t b) := by rw [← hk]
    rw [e2]
    exact Int.mul_fdiv_cancel_left k hs
  rw [e]
  have g0 := gcd_pos t b h
  unfold sgn at hk
  by_cases hb : b < 0
  · rw [if_pos hb] at hk
    rcases Int.lt_trichotomy k 0 with z | z | z
    · exfalso
      have := Int.mul_nonneg_of_nonpos_of_nonpos (a := -((Int.gcd t b : Nat) : Int)) (b := k) (by omega) (by omega)
      omega
    · rw [z] at hk
      omega
    · exact z
  · rw [if_neg hb] at hk
    rcases Int.lt_trichotomy k 0 with z | z | z
    · exfalso
      have := Int.mul_nonneg (a := ((Int.gcd t b : Nat) : Int)) (b := -k) (by omega) (by omega)
      rw [Int.mul_neg] at this
      omega
    · rw [z] at hk
      omega
    · exact z
theorem low_one (t : Int) : low t 1 = (t, 1) := by
  unfold low sgn
  rw [if_neg (by decide), Int.gcd_one]
  show (t.fdiv 1, (1 : Int).fdiv 1) = (t, 1)
  rw [Int.fdiv_one]
  rfl
/-! ### squares taken out -/
/-- while n % (p * p) == 0: n //= p * p; o *= p -/
def whl : Nat → Int → Int → Int → Int × Int
  | 0, _, n, o => (n, o)
  | k + 1, p, n, o => if n % (p * p) = 0 then whl k p (n / (p * p)) (o * p) else (n, o)
/-- as squares_out goes on: over the primes, until 1 is left: (outside, inside, rest) -/
def sqL : List Int → Int → Int → Int → Int × Int × Int
  | [], n, o, i => (o, i, n)
  | p :: ps, n, o, i => if n = 1 then (o, i, n) else
    if (whl 10 p n o).1 % p = 0 then sqL ps ((whl 10 p n o).1 / p) (whl 10 p n o).2 (i * p) else sqL ps (whl 10 p n o).1 (whl 10 p n o).2 i
/-- as the law goes on: over all numbers -/
def fr : Nat → Int → Int → Int → Int × Int
  | 0, _, n, s => (s, n)
  | k + 1, p, n, s => if p * p ≤ n then fr k (p + 1) (whl 10 p n s).1 (whl 10 p n s).2 else (s, n)
theorem sq_div {n q : Int} (h0 : 0 < n) (hq : 4 ≤ q) (h : n % q = 0) : 0 < n / q ∧ n / q * 4 ≤ n ∧ n / q < n := by
  have e := Int.mul_ediv_add_emod n q
  rw [h, Int.add_zero] at e
  have h1 : 0 < n / q := by
    rcases Int.lt_or_le 0 (n / q) with z | z
    · exact z
    · have := Int.mul_le_mul_of_nonneg_left z (show 0 ≤ q by omega)
      rw [Int.mul_zero] at this
      omega
  have h2 : n / q * 4 ≤ n / q * q := Int.mul_le_mul_of_nonneg_left hq (by omega)
  rw [Int.mul_comm q] at e
  exact ⟨h1, by omega, by omega⟩
theorem pp4 {p : Int} (h : 2 ≤ p) : 4 ≤ p * p := by
  have := Int.mul_le_mul h h (by omega) (by omega)
  omega
theorem whl_ok : ∀ (k : Nat) (p n o : Int), 2 ≤ p → 0 < n → 0 < (whl k p n o).1 ∧ (whl k p n o).1 ≤ n
  | 0, p, n, o, _, h => ⟨h, Int.le_refl _⟩
  | k + 1, p, n, o, hp, h => by
    unfold whl
    split
    · rename_i z
      obtain ⟨a, b, c⟩ := sq_div h (pp4 hp) z
      obtain ⟨d, e⟩ := whl_ok k p (n / (p * p)) (o * p) hp a
      exact ⟨d, by omega⟩
    · exact ⟨h, Int.le_refl _⟩
/-- the loop's measure: whl with more fuel is the same -/
theorem whl_fuel : ∀ (k j : Nat) (p n o : Int), 2 ≤ p → 0 < n → n < 4 ^ k → whl (k + j) p n o = whl k p n o
  | 0, j, p, n, o, _, h, h2 => by
    have : n < 1 := h2
    omega
  | k + 1, j, p, n, o, hp, h, h2 => by
    rw [Nat.add_right_comm]
    show (if n % (p * p) = 0 then whl (k + j) p (n / (p * p)) (o * p) else (n, o)) = (if n % (p * p) = 0 then whl k p (n / (p * p)) (o * p) else (n, o))
    split
    · rename_i z
      obtain ⟨a, b, c⟩ := sq_div h (pp4 hp) z
      exact whl_fuel k j p _ _ hp a (by
        have e : (4 : Int) ^ (k + 1) = 4 ^ k * 4 := Int.pow_succ ..
        omega)
    · rfl
def primes : List Int := [2, 3, 5, 7, 11, 13, 17, 19, 23, 29, 31, 37, 41, 43, 47, 53, 59, 61, 67, 71, 73, 79, 83, 89, 97, 101, 103, 107, 109, 113, 127, 131, 137, 139, 149, 151, 157, 163, 167, 173, 179, 181, 191, 193, 197, 199, 211, 223, 227, 229, 233, 239, 241, 251, 257, 263, 269, 271, 277, 281, 283, 293, 307, 311, 313, 317, 331, 337, 347, 349, 353, 359, 367, 373, 379, 383, 389, 397, 401, 409, 419, 421, 431, 433, 439, 443, 449, 457, 461, 463, 467, 479, 487, 491, 499, 503, 509, 521, 523, 541, 547, 557, 563, 569, 571, 577, 587, 593, 599, 601, 607, 613, 617, 619, 631, 641, 643, 647, 653, 659, 661, 673, 677, 683, 691, 701, 709, 719, 727, 733, 739, 743, 751, 757, 761, 769, 773, 787, 797, 809, 811, 821, 823, 827, 829, 839, 853, 857, 859, 863, 877, 881, 883, 887, 907, 911, 919, 929, 937, 941, 947, 953, 967, 971, 977, 983, 991, 997]
def sqOut (n : Int) : Int × Int × Int := if n = 0 then (0, 1, 1) else sqL primes n 1 1
def free (n : Int) : Int × Int := fr 1000 2 n 1
/-- the roots that the law takes -/
def chk (r : Int) : Bool := match sqOut r, free r with
  | (o, i, m), (s, f) => decide (m = 1) && (decide (0 ≤ o) && (decide (o ≤ 1000) && (decide (1 ≤ i) && (decide (i ≤ 1000000) && (decide (r = 0) || (decide (0 < o) && (decide (s = o) && decide (f = i))))))))
def some11 : List Int := [0, 1, 4, 12, 997, 997 * 997, 2 ^ 19, 510510, 720720, 1000000, 30 * 30 * 7]
theorem chk_11 : some11.all chk = true := by decide +kernel
theorem chk_900 : (List.range 900).all (fun k => chk (1 + (k : Int))) = true := by decide +kernel
def Ok (r : Int) : Prop := 0 ≤ r ∧ r ≤ 1000000 ∧ chk r = true
theorem ok_11 {r : Int} (h : r ∈ some11) : Ok r := by
  refine ⟨?_, ?_, List.all_eq_true.mp chk_11 r h⟩
  · revert r; decide
  · revert r; decide
theorem ok_900 {d : Int} (h0 : 0 ≤ d) (h1 : d < 900) : Ok (1 + d) := by
  refine ⟨by omega, by omega, ?_⟩
  have := List.all_eq_true.mp chk_900 d.toNat (List.mem_range.mpr (by omega))
  rw [Int.toNat_of_nonneg h0] at this
  exact this
theorem Ok.all {r : Int} (h : Ok r) : (sqOut r).2.2 = 1 ∧ 0 ≤ (sqOut r).1 ∧ (sqOut r).1 ≤ 1000 ∧ 1 ≤ (sqOut r).2.1 ∧ (sqOut r).2.1 ≤ 1000000 ∧ (r ≠ 0 → 0 < (sqOut r).1 ∧ free r = ((sqOut r).1, (sqOut r).2.1)) := by
  obtain ⟨_, _, h⟩ := h
  unfold chk at h
  generalize sqOut r = a at h ⊢
  generalize free r = b at h ⊢
  obtain ⟨o, i, m⟩ := a
  obtain ⟨s, f⟩ := b
  simp only [Bool.and_eq_true, Bool.or_eq_true, decide_eq_true_eq] at h
  obtain ⟨h1, h2, h3, h4, h5, h6⟩ := h
  refine ⟨h1, h2, h3, h4, h5, fun hr => ?_⟩
  rcases h6 with h6 | ⟨h6, h7, h8⟩
  · exact absurd h6 hr
  · exact ⟨h6, by rw [h7, h8]⟩
/-- what exact comes to: no part, or one -/
def ex (top bottom root : Int) : Option (Int × Int × Int) :=
  if top * (sqOut root).1 = 0 then none else some ((sqOut root).2.1, (low (top * (sqOut root).1) bottom).1, (low (top * (sqOut root).1) bottom).2)
/-- what is due, as the law says it -/
def due (up under r : Int) : Option (Int × Int × Int) :=
  if up = 0 ∨ r = 0 then none else some ((free r).2, (lowL (up * (free r).1) under).1, (lowL (up * (free r).1) under).2)
theorem ex_due {t b r : Int} (hb : b ≠ 0) (h : Ok r) : ex t b r = due t b r := by
  obtain ⟨h1, h2, h3, h4, h5, h6⟩ := h.all
  unfold ex due
  by_cases hr : r = 0
  · subst hr
    rw [if_pos (show t * (sqOut 0).1 = 0 from Int.mul_zero _), if_pos (Or.inr rfl)]
  · obtain ⟨h7, h8⟩ := h6 hr
    rw [h8, ← low_eq _ _ hb]
    by_cases ht : t = 0
    · subst ht
      rw [if_pos (Int.zero_mul _), if_pos (Or.inl rfl)]
    · rw [if_neg (show ¬ t * (sqOut r).1 = 0 from fun e => by
        rcases Int.mul_eq_zero.mp e with e | e <;> omega), if_neg (show ¬ (t = 0 ∨ r = 0) by omega)]
theorem ok_one : Ok 1 := ok_11 (by decide)
theorem sq_one : sqOut 1 = (1, 1, 1) := by decide +kernel
theorem ex_one (t : Int) : ex t 1 1 = if t = 0 then none else some (1, t, 1) := by
  unfold ex
  rw [sq_one]
  show (if t * 1 = 0 then none else some ((1 : Int), (low (t * 1) 1).1, (low (t * 1) 1).2)) = _
  rw [Int.mul_one, low_one]
theorem ex_succ (t : Int) : ex t 1 1 ≠ ex (t + 1) 1 1 := by
  rw [ex_one, ex_one]
  split <;> split
  · omega
  · simp
  · simp
  · simp only [ne_eq, Option.some.injEq, Prod.mk.injEq, not_and]
    omega
end TCM
namespace TC
open PySem PySem.Spec PyProof.Rows L2 TCX
theorem iteNT {c A B : Prop} [Decidable c] (hc : ¬ c) (h : A) : if (!decide c) = true then A else B := by
  rw [decide_eq_false hc]
  exact iteT h
theorem iteD1 {c A B : Prop} [Decidable c] (hc : c) (h : A) : if decide c = true then A else B := by
  rw [decide_eq_true hc]
  exact iteT h
theorem iteD0 {c A B : Prop} [Decidable c] (hc : ¬ c) (h : B) : if decide c = true then A else B := by
  rw [decide_eq_false hc]
  exact iteF h
theorem iteB {b : Bool} {A B : Prop} (h1 : b = true → A) (h2 : b = false → B) : if b = true then A else B := by
  cases b
  · exact iteF (h2 rfl)
  · exact iteT (h1 rfl)
theorem ine {a b : Int} (h : a ≠ b) : ¬ (V.int a = V.int b) := fun e => h (V.int.inj e)
theorem same_upd {H : Hp} {p : Addr} {o : HO} (h : H p = none) : Same H (upd H p o) := fun b x e => by
  rw [upd_ne (ne_of_none e h)]
  exact e
theorem TyX.same {K : PySem.W.Frag} {H H' : Hp} {v : V} {t : Value} (h : TyX K H v t) (s : Same H H') : TyX K H' v t := by
  cases h with
  | base b =>
    cases b with
    | non => exact .base .non
    | bl y => exact .base (.bl y)
    | int i => exact .base (.int i)
    | str y => exact .base (.str y)
    | flt y => exact .base (.flt y)
    | lst e => exact .base (.lst (s _ _ e))
    | frz e => exact .base (.frz (s _ _ e))
    | tup e => exact .base (.tup (s _ _ e))
    | dK e => exact .base (.dK (s _ _ e))
    | dT e => exact .base (.dT (s _ _ e))
    | ins e cl ha hn htk hm => exact .base (.ins (s _ _ e) cl ha hn htk hm)
  | byt y => exact .byt y
  | set e => exact .set (s _ _ e)
  | kList e c => exact .kList e c
  | kTuple e c => exact .kTuple e c
  | kDict e c => exact .kDict e c
  | fTuple e => exact .fTuple (s _ _ e)
  | fDict e => exact .fDict (s _ _ e)
/-- no whole number -/
def NotInt (K : PySem.W.Frag) (H : Hp) (v : V) : Prop := ∃ (t : Value) (bi bb : Bool), TyX K H v t ∧ PySem.W.kitOne K t (.type "int") = some bi ∧ PySem.W.kitOne K t (.type "bool") = some bb ∧ (bi && !bb) = false
/-- whether v is a size -/
def Siz (K : PySem.W.Frag) (H : Hp) (v : V) (b : Bool) : Prop := (∃ n : Int, v = .int n ∧ b = (decide (0 ≤ n) && decide (n ≤ 40))) ∨ (b = false ∧ NotInt K H v)
theorem NotInt.same {K : PySem.W.Frag} {H H' : Hp} {v : V} (h : NotInt K H v) (s : Same H H') : NotInt K H' v := by
  obtain ⟨t, bi, bb, h1, h2⟩ := h
  exact ⟨t, bi, bb, TyX.same h1 s, h2⟩
theorem Siz.same {K : PySem.W.Frag} {H H' : Hp} {v : V} {b : Bool} (h : Siz K H v b) (s : Same H H') : Siz K H' v b := by
  rcases h with h | ⟨e, h⟩
  · exact .inl h
  · exact .inr ⟨e, h.same s⟩
theorem Siz.int {K : PySem.W.Frag} {H : Hp} {n : Int} (h0 : 0 ≤ n) (h1 : n ≤ 40) : Siz K H (.int n) true := .inl ⟨n, rfl, by rw [decide_eq_true h0, decide_eq_true h1]; rfl⟩
section
variable {P : Program} {w : World} {K : PySem.W.Frag} {mg : Str → Option Value} {base : Heap} {f : Addr} {fd : FuncData}
/-! ### is_whole -/
def spWhole (K : PySem.W.Frag) : Sp := fun vs H Q _ => (∃ n : Int, vs = [.int n] ∧ Q (.bl true) H) ∨ ∃ v, vs = [v] ∧ NotInt K H v ∧ Q (.bl false) H
theorem scWhole : FnScope ["thing"] ["thing"] (defScope sWhole) := ⟨rfl, rfl, rfl, by decide +kernel, rfl, by decide +kernel, by decide +kernel⟩
theorem ok_whole (F : FnP K "is_whole" sWhole f fd) (gI : mg "isinstance" = none) (gi : mg "int" = none) (gb : mg "bool" = none) : FnOk P w K mg base CX0 1 f fd ["thing"] (spWhole K) := by
  refine F.ok scWhole (fun vs H Q E h => ?_) (fun cdv A outer s H vs Q E hr h => ?_)
  · rcases h with ⟨n, rfl, _⟩ | ⟨v, rfl, _⟩ <;> rfl
  · refine ⟨_, PSs.nox (pss_one (ps_ret (pe_and (pe_callB call_isi (by rfl) gI (by decide +kernel) (pa_cons (pv 0) (pa_cons (pe_bltn (v := .ty "int") (by rfl) gi (by decide +kernel) rfl) pa_nil)))
      (pe_one (pe_not (pe_callB call_isi (by rfl) gI (by decide +kernel) (pa_cons (pv 0) (pa_cons (pe_bltn (v := .ty "bool") (by rfl) gb (by decide +kernel) rfl) pa_nil)))))))), ?_⟩
    rcases h with ⟨n, rfl, q⟩ | ⟨v, rfl, ⟨t, bi, bb, ty, ki, kb, e⟩, q⟩
    · refine ⟨_, rfl, _, _, _, _, true, rfl, .ty "int", .base (.int n), kit_ty (by decide +kernel), true, rfl, iteT ?_⟩
      exact ⟨_, rfl, _, _, _, _, false, rfl, .ty "bool", .base (.int n), kit_ty (by decide +kernel), false, rfl, q⟩
    · refine ⟨_, rfl, _, _, _, _, bi, rfl, .ty "int", ty, ki, bi, rfl, iteB (fun z => ?_) fun z => ?_⟩
      · subst z
        refine ⟨_, rfl, _, _, _, _, bb, rfl, .ty "bool", ty, kb, bb, rfl, ?_⟩
        have e2 : (!bb) = false := e
        rw [e2]
        exact q
      · exact q
theorem dec_int {a b : Int} : decide (V.int a = V.int b) = decide (a = b) := by
  by_cases h : a = b
  · rw [decide_eq_true h, decide_eq_true (congrArg V.int h)]
  · rw [decide_eq_false h, decide_eq_false (ine h)]
/-- what the program's text says of an exception class without fields -/
structure XTxt (K : PySem.W.Frag) (mg : Str → Option Value) (x : Str) (C : Addr) : Prop where
  g : mg x = some (.ref C)
  e : PySem.W.excIn K C He.veBase "ValueError.__new__" = true
  k : PySem.W.keepIn K (.ref C) = true
  b : PySem.W.subIn K (.ref C) (.type "BaseException") = some true
  t : PySem.W.typeIn K (.ref C) = some (.type "type")
theorem paired_at {α β : Type} {R : α → β → Prop} : ∀ {xs : List α} {ys : List β}, Paired R xs ys → ∀ (i : Nat) (x : α), xs[i]? = some x → ∃ y, ys[i]? = some y ∧ R x y
  | _, _, .nil, i, x, h => by cases h
  | _, _, .cons r t, 0, x, h => by
    cases h
    exact ⟨_, rfl, r⟩
  | _, _, .cons r t, i + 1, x, h => paired_at t i x h
theorem paired_len {α β : Type} {R : α → β → Prop} : ∀ {xs : List α} {ys : List β}, Paired R xs ys → xs.length = ys.length
  | _, _, .nil => rfl
  | _, _, .cons r t => congrArg (· + 1) (paired_len t)
theorem all_take {bs : List Bool} {i : Nat} {b : Bool} (h : (bs.take i).all id = true) (hb : bs[i]? = some b) (h2 : b = true) : (bs.take (i + 1)).all id = true := by
  rw [List.take_add_one, List.all_append, h, hb]
  subst h2
  rfl
theorem all_false {bs : List Bool} {i : Nat} (hb : bs[i]? = some false) : bs.all id = false := by
  refine List.all_eq_false.mpr ⟨false, List.mem_of_getElem? hb, fun z => Bool.noConfusion z⟩
/-! ### is_odd -/
def spOdd : Sp := fun vs H Q _ => ∃ n : Int, vs = [.int n] ∧ Q (.bl (decide (n % 2 = 1))) H
theorem scOdd : FnScope ["number"] ["number"] (defScope sOdd) := ⟨rfl, rfl, rfl, by decide +kernel, rfl, by decide +kernel, by decide +kernel⟩
theorem ok_odd (F : FnP K "is_odd" sOdd f fd) : FnOk P w K mg base CX0 1 f fd ["number"] spOdd := by
  refine F.ok scOdd (fun vs H Q E h => ?_) (fun cdv A outer s H vs Q E hr h => ?_)
  · obtain ⟨n, rfl, _⟩ := h
    rfl
  · obtain ⟨n, rfl, q⟩ := h
    refine ⟨_, PSs.nox (pss_one (ps_ret (pe_cmpR op_eq (pe_op op_mod (pv 0) pe_int) pe_int (nomark _)))), ?_⟩
    refine ⟨_, rfl, n, 2, rfl, rfl, (show (0 : Int) < 2 by decide), rfl, ?_⟩
    rw [dec_int]
    exact q
structure ITxt (K : PySem.W.Frag) (mg : Str → Option Value) (x : Str) (C : Addr) : Prop where
  g : mg x = some (.ref C)
  e : PySem.W.excIn K C iBase "IndexError.__new__" = true
  k : PySem.W.keepIn K (.ref C) = true
  b : PySem.W.subIn K (.ref C) (.type "BaseException") = some true
  t : PySem.W.typeIn K (.ref C) = some (.type "type")
end
end TC
/-! Rules of my own: == and != by an own __eq__ with either answer, str of an instance, enumerate of a tuple. -/
namespace TCA
open PySem PySem.Spec PyProof.Rows L2
/-! ### enumerate(tuple) -/
theorem meets_enum1 {v : Value} {o : Obj} {H : Heap → Prop} (B : Begins v o H) :
    Meets (Builtin.«enumerate.__new__» ⟨[.type "enumerate", v], []⟩) (fun _ R s => H s.heap ∧
      R (.ok (.ret (.ref (s.heap.push o).objs.size))) { s with heap := (s.heap.push o).push { cls := .type "enumerate", data := .fields #[.none, .bool false, .ref s.heap.objs.size, rawInt 0, .none, .none] } }) :=
  .of_wp fun prog w A R s h => by
    obtain ⟨hp, g, d, tk, os⟩ := s; obtain ⟨h1, h⟩ := h
    have hsub := sub_enumerate
    have q1 : ∀ {A' : Around} {E : Value → Shared → Prop} {Q : Value → Shared → Prop}, Q (.ref hp.objs.size) ⟨hp.push o, g, d, tk, os⟩ → wpAny (model prog w) A' (pyIter v) Q E ⟨hp, g, d, tk, os⟩ :=
      fun q => B.iter prog w _ _ ⟨hp, g, d, tk, os⟩ _ h1 q
    wp_walk using q1
    refine wpAny_stack_any fun st => wpAny_pure ?_
    split
    · rename_i c _ _ _ _ _
      cases (c == Value.type "enumerate")
      · wp_walk using q1
        exact ⟨_, rfl, h⟩
      · wp_walk using q1
        exact ⟨_, rfl, h⟩
    · wp_walk using q1
      exact ⟨_, rfl, h⟩
theorem enum_begins1 {prog : Program} {w : World} {A : Around} {E : Value → Shared → Prop} {s : Shared} {v : Value} {o : Obj} {H : Heap → Prop} {Q : Value → Shared → Prop} (B : Begins v o H) (h1 : H s.heap)
    (h : ∀ h', IsEnum h' (s.heap.objs.size + 1) s.heap.objs.size 0 .none → h'.get? s.heap.objs.size = some o → h'.objs.size = s.heap.objs.size + 2 →
      (∀ b o, s.heap.get? b = some o → h'.get? b = some o) → Q (.ref (s.heap.objs.size + 1)) { s with heap := h' }) :
    wpAny (model prog w) A (call (.type "enumerate") [v]) Q E s := by
  refine callType_new F.called_enumerate (by decide) (F.typeCall_enumerate_1 _) (F.newCall_enumerate_1 _) (fun obj => F.args_object_init_2 obj _) F.entry_enumerate_new
    (meets_enum1 B) ⟨h1, ?_⟩
  have hz : (s.heap.push o).objs.size = s.heap.objs.size + 1 := Heap.size_push ..
  show _ ∧ _
  rw [hz]
  have he : IsEnum ((s.heap.push o).push { cls := .type "enumerate", data := .fields #[.none, .bool false, .ref s.heap.objs.size, rawInt 0, .none, .none] }) (s.heap.objs.size + 1) s.heap.objs.size 0 .none := by
    have := Heap.get?_push_size (s.heap.push o) (o := { cls := .type "enumerate", data := .fields #[.none, .bool false, .ref s.heap.objs.size, rawInt 0, .none, .none] }) rfl
    rw [hz] at this; exact this
  refine ⟨⟨_, he, rfl⟩, h _ he (Heap.get?_push_of_some _ (Heap.get?_push_size _ B.free)) (by rw [Heap.size_push, hz]) fun b o x => Heap.get?_push_of_some _ (Heap.get?_push_of_some _ x)⟩
/-- the tuple at a of xs, each item in a new pair -/
def Iet (K : PySem.W.Frag) (a : Addr) (xs : List V) : It :=
  ⟨fun i H => i < xs.length ∧ SqT K H a xs, fun i H v H' => ∃ T x, v = .ref T ∧ H T = none ∧ H' = upd H T (.tup [.int (i : Nat), x]) ∧ xs[i]? = some x, fun i H => xs.length ≤ i ∧ SqT K H a xs⟩
theorem turn_enumT {P : Program} {w : World} {K : PySem.W.Frag} {elts : List Expr} {kk : Nat} {tpos : Pos} (a e it : Addr) (xs : List V) :
    Turn P w K (.Tuple elts kk tpos) (Iet K a xs) [e, it] e (fun i h => (∃ old, IsEnum h e it ((i : Nat) : Int) old) ∧ h.IsTupleIter it a i ∧ e ≠ it ∧ a ≠ it ∧ e ≠ a ∧ i ≤ xs.length) where
  mem := by simp
  obj := fun i h st b hb => by
    obtain ⟨⟨old, he⟩, ⟨o, ho, hc, hd⟩, _⟩ := st
    have e' : b = e ∨ b = it := by simpa using hb
    rcases e' with z | z
    · rw [z]; exact ⟨_, he, fun v q => nomatch q⟩
    · rw [z]; exact ⟨o, ho, fun v q => by rw [hd] at q; cases q⟩
  keep := fun i h h' st k => let ⟨⟨old, he⟩, hi, hne⟩ := st; ⟨⟨old, k e (by simp) _ he⟩, hi.at fun o q => k it (by simp) o q, hne⟩
  item := by
    intro X hP hw hK hc i pins s σ H E I hf st hg
    subst hP hw hK
    obtain ⟨⟨old, he⟩, hit, hne, hai, hea, hle⟩ := st
    obtain ⟨hlt, hq⟩ := hg
    obtain ⟨its, rv, p, hz⟩ := I.tuple hq
    have hl := rv.length
    have hel : e < s.heap.objs.size := Heap.lt_size he
    have hil : it < s.heap.objs.size := by obtain ⟨_, q, _⟩ := hit; exact Heap.lt_size q
    have hh : X.A.in1.handled = none := I.ok.hd hc
    have D := Draws.tuple (prog := X.prog) (w := X.w) hh it a hai its.toArray
    refine wpAny_pyNext_enum_itemD D he ⟨hit, p⟩ (by simp; omega) hne (by simp; exact ⟨hne, hea⟩) fun u h' tk hu ho hst hT hsz hk => ?_
    obtain ⟨hit', _⟩ := hst
    have hu2 : its[i]? = some u := by simpa using hu
    have hx : xs[i]? = some xs[i] := List.getElem?_eq_getElem hlt
    obtain ⟨u2, hu3, ru⟩ := rv.get hx
    have eu : u2 = u := Option.some.inj (hu3.symm.trans hu2)
    subst eu
    refine ⟨_, rfl, wpAny_letOwnedTupleGo_enum (s := { s with heap := h', toks := tk + 1 }) ho fun h'' he' sb => ?_⟩
    have hT2 : h''.get? s.heap.objs.size = some { cls := .type "tuple", data := .seq #[.int i tk, u2] } := (sb.2 _ (Nat.ne_of_gt hel)).trans hT
    have new : ObjOk X.prog X.w (upd H s.heap.objs.size (.tup [.int (i : Nat), xs[i]])) h'' s.heap.objs.size (.tup [.int (i : Nat), xs[i]]) :=
      ⟨by show 2 ≤ sizeLine; decide, [.int i tk, u2], .cons ⟨_, rfl⟩ (.cons ru .nil), ⟨_, hT2, rfl, _, rfl⟩⟩
    have I1 : Inv X pins σ (upd H s.heap.objs.size (.tup [.int (i : Nat), xs[i]])) { s with heap := h'', toks := tk + 1 } :=
      I.turnedNew (ch := [e, it]) (fun b ob hb q => (sb.2 b (fun z => hb (by simp [z]))).trans (hk b ob (fun z => hb (by simp [z])) (fun z => hb (by simp [z])) q)) hf (Nat.le_refl _) new
    refine ⟨.ref s.heap.objs.size, _, I1, rfl, ⟨_, xs[i], rfl, I.hok.fresh (Nat.le_refl _), rfl, hx⟩, ⟨⟨u2, ?_⟩, hit'.at fun o q => (sb.2 it (Ne.symm hne)).trans q, hne, hai, hea, hlt⟩, fun b hb => ?_⟩
    · have e1 : ((i + 1 : Nat) : Int) = (i : Int) + 1 := by omega
      rw [e1]; exact he'
    · have hb' : b < s.heap.objs.size := by
        have e' : b = e ∨ b = it := by simpa using hb
        rcases e' with z | z
        · rw [z]; exact hel
        · rw [z]; exact hil
      rw [upd_ne (Nat.ne_of_lt hb')]
      exact (hf b hb).1
  done := by
    intro X hP hw hK hc i pins s σ H E I hf st hg
    subst hP hw hK
    obtain ⟨⟨old, he⟩, hit, hne, hai, hea, hle⟩ := st
    obtain ⟨hge, hq⟩ := hg
    obtain ⟨its, rv, p, hz⟩ := I.tuple hq
    obtain ⟨f0, f1, f2, f3, f4, f5⟩ := hf it (by simp)
    have hl := rv.length
    have hh : X.A.in1.handled = none := I.ok.hd hc
    have D := Draws.tuple (prog := X.prog) (w := X.w) hh it a hai its.toArray
    have ei : i = its.toArray.size := by simp; omega
    subst ei
    exact wpAny_pyNext_enum_endD D he ⟨hit, p⟩ fun h' eb => ⟨rfl, I.turned (t' := s.toks) (fun b o hb q => eb b o hb q) f0 f1 f3 f4 f5⟩
  self := fun A i s Q E st h => let ⟨⟨_, he⟩, _⟩ := st; wpAny_pyIter_enum he h
def iEnumT (K : PySem.W.Frag) (ta : TA) : TI := fun σ H R => ta σ H fun vs H1 => ∃ a xs, vs = [.ref a] ∧ SqT K H1 a xs ∧ R (Iet K a xs) H1
theorem pi_enumT {X : Cx} {e : Expr} {ta : TA} {p pos tpos : Pos} {elts : List Expr} {kk : Nat} (hg : Gl X "enumerate") (hm : X.mg "enumerate" = none) (ha : PA X [e] ta) (hs : starEach [e] X.env = [(false, eval e X.env)] := by rfl) :
    PI X (.Tuple elts kk tpos) (.Call (.Name "enumerate" p) [e] [] pos) (iEnumT X.K ta) := by
  refine ⟨fun pins s σ H R I h => ?_⟩
  refine Call_ (ld_blt I hg hm boot_enumerate (PyProof.Rows.callWith_type1 (thn (ha.run pos pins s σ H _ I h) fun us s1 ⟨vs, H1, I1, r1, q1⟩ => ?_) hs rfl))
  obtain ⟨a, xs, ex, hq, q⟩ := q1
  subst ex
  cases r1 with
  | cons r rr =>
    cases rr
    cases r
    obtain ⟨its, rv, p', hz⟩ := I1.tuple hq
    have hal : a < s1.heap.objs.size := by obtain ⟨o, h1, _⟩ := p'; exact Heap.lt_size h1
    refine enum_begins1 (begins_tuple a its.toArray) p' fun h' he hit hsz hk => wpAny_pyIter_enum he ?_
    have I2 : Inv X pins σ H1 { s1 with heap := h' } := I1.kept (t' := s1.toks) hk
    refine ⟨s1.heap.objs.size + 1, [s1.heap.objs.size + 1, s1.heap.objs.size], _, _, H1, rfl, I2, turn_enumT a (s1.heap.objs.size + 1) s1.heap.objs.size xs, ⟨⟨.none, he⟩, ⟨_, hit, rfl, rfl⟩, Nat.succ_ne_self _, Nat.ne_of_lt hal, Nat.ne_of_gt (Nat.lt_succ_of_lt hal), Nat.zero_le _⟩, fun b hb => ?_, q⟩
    have e' : b = s1.heap.objs.size + 1 ∨ b = s1.heap.objs.size := by simpa using hb
    have hle : s1.heap.objs.size ≤ b := by
      rcases e' with z | z
      · rw [z]; exact Nat.le_add_right _ _
      · rw [z]; exact Nat.le_refl _
    exact I1.fpOk hle (I1.hok.fresh hle)
/-! ### == and != by an own __eq__ -/
section
variable {X : Cx} {CX : CXT} {n : Nat} {C f : Addr} {fd : FuncData} {ps : List Str} {sp : Sp} {E : XK}
/-- the own method runs somewhere below -/
theorem run_sub {A : Around} {pins : List (Addr × Obj)} {σ : L2.St} {H : Hp} {s : Shared} {Q : VK} {us : List Value} {vs : List V} (F : FnOk X.prog X.w X.K X.mg X.base CX n f fd ps sp) (hb : Binds X.K fd ps []) (hx : Passes CX X E)
    (sb : Sub X n A) (I : Inv X pins σ H s) (r : Vals vs us) (h : sp vs H Q E) : wpAny (model X.prog X.w) A (call (.ref f) us) (EP X pins σ Q) X.xe s := by
  have e0 : Env0 X.prog X.w X.K X.mg X.base A X.stack s H := by
    have e := I.env0
    exact ⟨by rw [sb.fr]; exact e.frames, e.mod, e.bs, e.bsz, e.funs, e.frf, e.hok, e.bare⟩
  have hl : us.length = ps.length := by rw [← r.length]; exact F.len _ _ _ _ h
  refine wpAny_call (codeAny_mono (F.run A X.stack s H ⟨us, []⟩ us vs Q E sb.room e0 (by
    have := hb s us I.kIn (by simpa using hl)
    simpa using this) r h) fun r s' hq => ?_)
  cases r with
  | error e => exact hx pins σ H s e s' I hq
  | ok fl =>
    cases fl with
    | ret w => exact I.after hq
    | next => exact False.elim hq
    | brk => exact False.elim hq
    | cont => exact False.elim hq
/-- x == y, x an instance of the class at C with an own __eq__ that hands back a truth -/
def rEqO (K : PySem.W.Frag) (C : Addr) (sp : Sp) (E : XK) : R2 := fun x y H Q => ∃ a dx fs t, x = .ref a ∧ H a = some (.ins C dx fs) ∧ TyX K H y t ∧ PySem.W.notFirst K C t = true ∧
  sp [x, y] H (fun v H' => ∃ b, v = .bl b ∧ Q (.bl b) H') E
theorem op_eqO (F : FnOk X.prog X.w X.K X.mg X.base CX n f fd ps sp) (hs : PySem.W.findIn X.K (.ref C) "__eq__" = some (some (.ref f))) (hf : PySem.W.isFn X.K (.ref f) = true) (hb : Binds X.K fd ps []) (hx : Passes CX X E)
    (hr : Room n X.A) : OpR X (compareOp .Eq) (rEqO X.K C sp E) := by
  intro pins s σ H x y v u Q I rx ry hq
  obtain ⟨a, dx, fs, t, rfl, ha, ty, nf, q⟩ := hq
  cases (show v = Value.ref a from rx)
  obtain ⟨mA, J, _⟩ := ins_get I.hok ha
  obtain ⟨od, J, _⟩ := J.look
  obtain ⟨m, hF⟩ := I.fr
  obtain ⟨Pz, Z, pz, _⟩ := kit_of I ry ty
  have hu : X.A.units < cLine := Nat.lt_of_succ_lt (hu_of hr)
  refine PySem.W.cmp_K (op := .Eq) (tb := t) hu hF I.ok.mod.kin J (Z.ty _ _ I.kIn pz) nf hs hf ?_
  refine wpAny_mono (run_sub F hb hx ⟨hr, rfl⟩ I (.cons rx (.cons ry .nil)) q) (fun r s' hz => ?_) fun _ _ z => z
  obtain ⟨z, H', I', rz, b, rfl, qb⟩ := hz
  cases (show r = Value.bool b from rz)
  exact ⟨.bl b, H', I', rfl, qb⟩
/-- x != y: the default __ne__ asks the own __eq__ -/
def rNeO (K : PySem.W.Frag) (C : Addr) (sp : Sp) (E : XK) : R2 := fun x y H Q => ∃ a dx fs t, x = .ref a ∧ H a = some (.ins C dx fs) ∧ TyX K H y t ∧ PySem.W.notFirst K C t = true ∧
  sp [x, y] H (fun v H' => ∃ b, v = .bl b ∧ Q (.bl (!b)) H') E
theorem ifBound_B {M : Model} {A : Around} {E : Value → Shared → Prop} {s : Shared} {K : PySem.W.Frag} {x C : Addr} {ox : Obj} {od : Option Obj} {name : Str} {id : String} {args : List Value} {Q : Option Value → Shared → Prop} (X : K.In s.heap) (I : PySem.W.InstAt s.heap x ox C od)
    (hs : PySem.W.findIn K (.ref C) name = some (some (.builtin id))) (hb : ∀ self, bindSpecial (.builtin id) self = pure (.builtin id, [self]))
    (h : wpAny M A (call (.builtin id) (.ref x :: args)) (fun v => Q (some v)) E s) : wpAny M A (callSpecialIfBound? (.ref x) name args) Q E s := by
  simp only [callSpecialIfBound?, bindSpecialIfBound?]
  refine wpAny_holding (wpAny_bind (wpAny_bind (wpAny_bind (I.type.here ((PySem.W.looks_findIn X hs).here ?_)))))
  refine wpAny_bind (wpAny_askSetting (wpAny_ite ?_))
  have fin : wpAny M A (call (.builtin id) ([.ref x] ++ args) >>= fun v => pure (some v)) Q E s := wpAny_bind (wpAny_mono h (fun v s' h' => wpAny_pure h') fun _ _ h' => h')
  have L := (PySem.W.Looks.of_pure (M := M) (h := s.heap) (hb (.ref x)))
  split
  · exact wpAny_bind (L.here (wpAny_pure (by exact fin)))
  · exact wpAny_tryCatch (wpAny_bind (L.here (wpAny_pure (by exact fin))))
theorem op_neO (F : FnOk X.prog X.w X.K X.mg X.base CX n f fd ps sp) (hs : PySem.W.findIn X.K (.ref C) "__eq__" = some (some (.ref f))) (hf : PySem.W.isFn X.K (.ref f) = true) (hb : Binds X.K fd ps []) (hx : Passes CX X E)
    (hn : PySem.W.findIn X.K (.ref C) "__ne__" = some (some (.builtin "object.__ne__"))) (hm : PySem.W.mroIn X.K C (.type "object") = some true)
    (hr : Room (n + 1) X.A) : OpR X (compareOp .NotEq) (rNeO X.K C sp E) := by
  intro pins s σ H x y v u Q I rx ry hq
  obtain ⟨a, dx, fs, t, rfl, ha, ty, nf, q⟩ := hq
  cases (show v = Value.ref a from rx)
  obtain ⟨mA, J, _⟩ := ins_get I.hok ha
  obtain ⟨od, J, _⟩ := J.look
  obtain ⟨Pz, Z, pz, _⟩ := kit_of I ry ty
  have hu : X.A.units < cLine := Nat.lt_of_succ_lt (hu_of hr)
  have hu1 : X.A.in1.units < cLine := hu_of hr
  have K0 := I.kIn
  have run := run_sub F hb hx (A := X.A.in1) ⟨hr.in1, rfl⟩ I (.cons rx (.cons ry .nil)) q
  have one : wpAny (model X.prog X.w) X.A (tryCompare (.ref a) "__ne__" u) (fun r s' => ∃ v, r = some v ∧ EP X pins σ Q v s') X.xe s := by
    unfold tryCompare
    refine wpAny_bind (ifBound_B K0 J hn PySem.F.cmp_object.ne.bind ?_)
    refine wpAny_call (codeAny_call_builtin PySem.F.cmp_object.ne.plain PySem.F.cmpEntry_ne (PySem.W.check_slot (i := "object.__ne__") (owner := "object") (n := "__ne__") PySem.F.cmpKind_ne PySem.F.cmpSplit_ne (J.type.andThen (PySem.W.looks_mroIn K0 hm)) (PySem.F.cmpArgs_ne _ _) ?_))
    unfold Builtin.«object.__ne__»
    refine wpAny_bind (m := slotArgs "__ne__" 1 _) (wpAny_pure ?_)
    refine wpAny_bind (m := cRoomFor _ _) (wpAny_cRoomFor hu1 ?_)
    refine wpAny_bind (m := callSpecialIfBound? (.ref a) (Str.ofString "__eq__") _) (PySem.W.ifBound_K K0 J hs hf (wpAny_mono run (fun r s' hz => ?_) fun _ _ z => z))
    obtain ⟨z, H', I', rz, b, rfl, qb⟩ := hz
    cases (show r = Value.bool b from rz)
    refine wpAny_bind (wpAny_truthy_bool ?_)
    exact wpAny_pure (wpAny_pure ⟨_, rfl, .bl (!b), H', I', rfl, qb⟩)
  show wpAny (model X.prog X.w) X.A (richCompare .NotEq (.ref a) u) (EP X pins σ Q) X.xe s
  unfold richCompare
  simp only [oneThing_ref]
  refine wpAny_holding (wpAny_bind (wpAny_cRoomFor hu ?_))
  refine wpAny_bind (J.type.here (wpAny_bind ((Z.ty _ _ I.kIn pz).here ?_)))
  split
  · rename_i q2
    have e : PySem.W.subIn X.K t (.ref C) = some false := by
      rcases Bool.or_eq_true_iff.mp nf with e | e
      · rw [beq_iff_eq.mp e] at q2; simp at q2
      · exact beq_iff_eq.mp e
    refine wpAny_bind ((PySem.W.looks_subIn K0 e).here ?_)
    simp only [Bool.false_eq_true, if_false]
    refine wpAny_bind (wpAny_mono one (fun r s' z => ?_) fun _ _ e => e)
    obtain ⟨v, rfl, hq⟩ := z
    exact wpAny_pure hq
  · refine wpAny_bind (wpAny_pure ?_)
    simp only [Bool.false_eq_true, if_false]
    refine wpAny_bind (wpAny_mono one (fun r s' z => ?_) fun _ _ e => e)
    obtain ⟨v, rfl, hq⟩ := z
    exact wpAny_pure hq
/-! ### str(x) by an own __str__ -/
def rStrO (C : Addr) (sp : Sp) (E : XK) : List V → Hp → VK → Prop := fun xs H Q => ∃ a dx fs, xs = [.ref a] ∧ H a = some (.ins C dx fs) ∧ sp [.ref a] H (fun v H' => ∃ z, v = .str z ∧ Q (.str z) H') E
theorem call_strO (F : FnOk X.prog X.w X.K X.mg X.base CX n f fd ps sp) (hs : PySem.W.findIn X.K (.ref C) "__str__" = some (some (.ref f))) (hf : PySem.W.isFn X.K (.ref f) = true) (hb : Binds X.K fd ps []) (hx : Passes CX X E)
    (hr : Room (n + 2) X.A) : CallR X (.type "str") (rStrO C sp E) := by
  intro pins s σ H xs us Q I r hq
  obtain ⟨a, dx, fs, rfl, ha, q⟩ := hq
  obtain ⟨u, rfl, rx⟩ : ∃ u, us = [u] ∧ RelV (.ref a) u := by
    cases r with
    | cons r rr => cases rr; exact ⟨_, rfl, r⟩
  cases (show u = Value.ref a from rx)
  obtain ⟨mA, J, _⟩ := ins_get I.hok ha
  obtain ⟨od, J, _⟩ := J.look
  have hr2 : Room n X.A.in1.in1 := hr.in1.in1
  have hu : X.A.in1.in1.units < cLine := Nat.lt_of_succ_lt (hu_of hr2)
  refine PySem.W.kso_call hu I.kIn J hs hf ?_
  refine wpAny_mono (run_sub F hb hx (A := X.A.in1.in1) ⟨hr2, rfl⟩ I (.cons rx .nil) q) (fun r s' hz => ?_) fun _ _ z => z
  obtain ⟨z, H', I', rz, x, rfl, qb⟩ := hz
  obtain ⟨t, e⟩ := (show ∃ t, r = Value.str x t from rz)
  cases e
  exact ⟨.str x, H', I', ⟨t, rfl⟩, qb⟩
/-! ### // by a number of either sign -/
def CDivNW (_ j : Int) : Prop := j ≠ 0 ∧ j.natAbs.log2 < 9000
theorem op_fdivNW : OpR X (binaryOp .FloorDiv) (rI CDivNW fun i j => .int (i.fdiv j)) := opI fun _ _ _ _ _ _ _ hc q => floordiv_int hc.1 q (.inl (PyProof.noPylong_of_log2 hc.2))
end
end TCA
namespace TC
open PySem PySem.Spec PyProof.Rows L2 TCA TCX
section
variable {P : Program} {w : World} {K : PySem.W.Frag} {mg : Str → Option Value} {base : Heap} {f : Addr} {fd : FuncData}
/-! ### _law_pen -/
def spPen (K : PySem.W.Frag) : Sp := fun vs H Q _ => ∃ (a : Addr) (ns : List Int), vs = [.ref a] ∧ SqL K H a (ns.map V.int) ∧ ns.length ≤ 63 ∧
  ∀ (p c : Addr) (ms : List Int) H', Same H H' → H p = none → H' p = some (.lst [.ref c, .int 0, .int 0]) → H' c = some (.lst (ms.map V.int)) → p ≠ c → Q (.ref p) H'
theorem scPen : FnScope ["_law_script"] ["_law_script"] (defScope sPen) := ⟨rfl, rfl, rfl, by decide +kernel, rfl, by decide +kernel, by decide +kernel⟩
theorem ok_pen (F : FnP K "_law_pen" sPen f fd) (gl : mg "list" = none) : FnOk P w K mg base CX0 1 f fd ["_law_script"] (spPen K) := by
  refine F.ok scPen (fun vs H Q E h => ?_) (fun cdv A outer s H vs Q E hr h => ?_)
  · obtain ⟨a, ns, rfl, _⟩ := h
    rfl
  · obtain ⟨a, ns, rfl, hS, hn, q⟩ := h
    refine ⟨_, PSs.nox (pss_one (ps_ret (pe_lst (pa_cons (pe_callTy call_list_of (by rfl) gl (by decide +kernel) (pa_cons (pe_slice sl_list (pv 0) po_none (po_some pe_int)) pa_nil)) (pa_cons pe_int (pa_cons pe_int pa_nil)))))), ?_⟩
    refine ⟨_, rfl, _, rfl, a, _, rfl, hS, fun c1 hc1 => ?_⟩
    have sm1 := same_upd (o := .lst (cutV (ns.map V.int) none (some 63))) hc1
    refine ⟨c1, _, rfl, .inl (SqL.of upd_same), fun c hc => ?_⟩
    have sm2 := same_upd (o := .lst (cutV (ns.map V.int) none (some 63))) hc
    refine ⟨by show 3 ≤ sizeLine; decide, fun p hp => ?_⟩
    have sm3 := same_upd (o := .lst [.ref c, .int 0, .int 0]) hp
    have ec : cutV (ns.map V.int) none (some 63) = ((ns.drop (HT.sIx (ns.map V.int).length 0 none)).take (HT.sIx (ns.map V.int).length (ns.map V.int).length (some 63) - HT.sIx (ns.map V.int).length 0 none)).map V.int := by
      rw [List.map_take, List.map_drop]
      rfl
    refine q p c ((ns.drop (HT.sIx (ns.map V.int).length 0 none)).take (HT.sIx (ns.map V.int).length (ns.map V.int).length (some 63) - HT.sIx (ns.map V.int).length 0 none)) _ ((sm1.trans sm2).trans sm3) ((sm1.trans sm2).free hp) upd_same ?_ ?_
    · rw [← ec]
      exact sm3 _ _ upd_same
    · exact fun e => by
        rw [e, upd_same] at hp
        cases hp
/-! ### _law_draw -/
/-- the pen: its cells at c, where it stands, what is left of a great cell -/
def PenAt (H : Hp) (p c : Addr) (ms : List Int) (n : Int) : Prop := ∃ left : Int, H p = some (.lst [.ref c, .int n, .int left]) ∧ H c = some (.lst (ms.map V.int)) ∧ p ≠ c
/-- all but the pen is as it was -/
def SameBut (p : Addr) (H H' : Hp) : Prop := ∀ b o, b ≠ p → H b = some o → H' b = some o
def spDraw : Sp := fun vs H Q _ => ∃ (p c : Addr) (ms : List Int) (n m : Int), vs = [.ref p, .int m] ∧ PenAt H p c ms n ∧ 0 ≤ n ∧ n ≤ 1000000 ∧ 0 < m ∧ m < 2 ^ 1000 ∧
  ∀ (d n' : Int) H', 0 ≤ d → d < m → n ≤ n' → n' ≤ n + 1 → PenAt H' p c ms n' → SameBut p H H' → Q (.int d) H'
theorem scDraw : FnScope ["_law_pen_here", "_law_many", "_law_found", "_law_at", "_law_cell", "_law_number"] ["_law_pen_here", "_law_many"] (defScope sDraw) := ⟨rfl, rfl, rfl, by decide +kernel, rfl, by decide +kernel, by decide +kernel⟩
theorem but_upd {p : Addr} {H H1 : Hp} {o : HO} (s : SameBut p H H1) : SameBut p H (upd H1 p o) := fun b x hb e => by
  rw [upd_ne hb]
  exact s b x hb e
set_option exponentiation.threshold 2000 in
theorem wdiv {i m : Int} (h : 0 < m) (h2 : m < 2 ^ 1000) : CDivW i m := ⟨h, Nat.lt_of_lt_of_le (PySem.Flt.log2_lt_of (show 0 < 1000 by decide) (show m.natAbs < 2 ^ 1000 by omega)) (by decide)⟩
theorem ok_draw (F : FnP K "_law_draw" sDraw f fd) (gl : mg "len" = none) : FnOk P w K mg base CX0 1 f fd ["_law_pen_here", "_law_many"] spDraw := by
  refine F.ok scDraw (fun vs H Q E h => ?_) (fun cdv A outer s H vs Q E hr h => ?_)
  · obtain ⟨p, c, ms, n, m, rfl, _⟩ := h
    rfl
  · obtain ⟨p, c, ms, n, m, rfl, ⟨left, hp, hc, hpc⟩, n0, n1, m0, m1, q⟩ := h
    refine ⟨_, PSs.nox (pss_cons (ps_if (pt_cmpR op_gt (pe_ix ix_list (pv 0) pe_int (fun _ _ => rfl)) pe_int (nomark _))
        (pss_cons (ps_set (i := 2) scDraw.nd rfl (.inl rfl) (pe_op op_mod (pe_ix ix_list (pv 0) pe_int (fun _ _ => rfl)) (pv 1)))
        (pss_cons (ps_asg (pe_op op_fdivW (pe_ix ix_list (pv 0) pe_int (fun _ _ => rfl)) (pv 1)) (pg_sub (pv 0) pe_int set_list))
        (pss_one (ps_ret (pv 2))))) pss_nil)
      (pss_cons (ps_set (i := 3) scDraw.nd rfl (.inl rfl) (pe_ix ix_list (pv 0) pe_int (fun _ _ => rfl)))
      (pss_cons (ps_asg (pe_op op_add (pv 3) pe_int) (pg_sub (pv 0) pe_int set_list))
      (pss_cons (ps_set (i := 4) scDraw.nd rfl (.inl rfl) pe_int)
      (C8.pss_cut (ps_if (pt_cmpR op_gt (pe_callB call_len_seq (by rfl) gl PySem.boot_len (pa_cons (pe_ix ix_list (pv 0) pe_int (fun _ _ => rfl)) pa_nil)) pe_int (nomark _))
        (pss_one (ps_set (i := 4) scDraw.nd rfl (.inl rfl) (pe_ix ix_list (pe_ix ix_list (pv 0) pe_int (fun _ _ => rfl)) (pe_op op_mod (pv 3) (pe_callB call_len_seq (by rfl) gl PySem.boot_len (pa_cons (pe_ix ix_list (pv 0) pe_int (fun _ _ => rfl)) pa_nil))) (fun _ _ => rfl)))) pss_nil)
      (C8.pss_cut (ps_if (PW.pt (pw_and (pt_cmpR op_lt (pv 3) (pe_callB call_len_seq (by rfl) gl PySem.boot_len (pa_cons (pe_ix ix_list (pv 0) pe_int (fun _ _ => rfl)) pa_nil)) (nomark _)) (pw_and1 (pt_cmpR op_ge (pv 4) (pe_op op_pow pe_int pe_int) (nomark _)))))
        (pss_cons (ps_asg (pe_op op_fdivW (pv 4) (pv 1)) (pg_sub (pv 0) pe_int set_list)) (pss_one (ps_ret (pe_op op_mod (pv 4) (pv 1))))) pss_nil)
      (pss_cons (ps_set (i := 5) scDraw.nd rfl (.inl rfl) (pe_op op_mod (pe_op op_mul (pe_op op_add (pe_op op_mod (pv 4) pe_int) pe_int) (pe_op op_add (pe_op op_add (pe_op op_mul (pv 3) (pv 3)) (pe_op op_mul pe_int (pv 3))) pe_int)) pe_int))
      (pss_cons (ps_set (i := 5) scDraw.nd rfl (.inl rfl) (pe_op op_mod (pe_op op_mul (pe_op op_mod (pe_op op_add (pe_op op_pow (pv 5) pe_int) (pe_op op_mul pe_int (pv 3))) pe_int) pe_int) pe_int))
      (C8.pss_cut (ps_if (pt_cmpR op_gt (pv 1) (pe_op op_pow pe_int pe_int) (nomark _))
        (pss_one (ps_set (i := 5) scDraw.nd rfl (.inl rfl) (pe_op op_add (pe_op op_mul (pv 5) pe_int) (pe_op op_mod (pe_op op_mul (pe_op op_mod (pv 5) pe_int) pe_int) pe_int)))) pss_nil)
      (pss_one (ps_ret (pe_op op_mod (pe_op op_fdiv (pv 5) pe_int) (pv 1))))))))))))), ?_⟩
    have i2 : atI ([.ref c, .int n, .int left] : List V) 2 = some (.int left) := atI_nat (j := 2) rfl
    have i1 : atI ([.ref c, .int n, .int left] : List V) 1 = some (.int n) := atI_nat (j := 1) rfl
    refine ⟨_, rfl, p, _, 2, _, rfl, rfl, SqL.of hp, i2, left, 0, rfl, rfl, _, rfl, ?_⟩
    by_cases hl : 0 < left
    · refine iteD1 hl ?_
      refine ⟨_, rfl, p, _, 2, _, rfl, rfl, SqL.of hp, i2, _, rfl, left, m, rfl, rfl, m0, ?_⟩
      refine ⟨_, rfl, p, _, 2, _, rfl, rfl, SqL.of hp, i2, _, rfl, left, m, rfl, rfl, wdiv m0 m1, ?_⟩
      refine ⟨_, rfl, p, _, 2, 2, rfl, rfl, hp, rfl, ?_⟩
      refine ⟨_, rfl, ?_⟩
      exact q _ n _ (Int.emod_nonneg _ (by omega)) (Int.emod_lt_of_pos _ m0) (by omega) (by omega) ⟨left / m, upd_same, by rw [upd_ne hpc.symm]; exact hc, hpc⟩ (but_upd fun _ _ _ e => e)
    · refine iteD0 hl ?_
      refine ⟨_, rfl, p, _, 1, _, rfl, rfl, SqL.of hp, i1, ?_⟩
      refine ⟨_, rfl, n, 1, rfl, rfl, _, rfl, p, _, 1, 1, rfl, rfl, hp, rfl, ?_⟩
      have hp2u : (upd H p (.lst [.ref c, .int (n + 1), .int left])) p = some (.lst [.ref c, .int (n + 1), .int left]) := upd_same
      have hc2u : (upd H p (.lst [.ref c, .int (n + 1), .int left])) c = some (.lst (ms.map V.int)) := by
        rw [upd_ne hpc.symm]
        exact hc
      obtain ⟨H2, eH2⟩ : ∃ H2 : Hp, upd H p (.lst [.ref c, .int (n + 1), .int left]) = H2 := ⟨_, rfl⟩
      have hp2 : H2 p = some (.lst [.ref c, .int (n + 1), .int left]) := by
        rw [← eH2]
        exact hp2u
      have hc2 : H2 c = some (.lst (ms.map V.int)) := by
        rw [← eH2]
        exact hc2u
      have sb : SameBut p H H2 := by
        rw [← eH2]
        exact but_upd fun _ _ _ e => e
      have j0 : atI ([.ref c, .int (n + 1), .int left] : List V) 0 = some (.ref c) := atI_nat (j := 0) rfl
      refine ⟨fun σ H' => ∃ cell : Int, σ = [some (.ref p), some (.int m), none, some (.int n), some (.int cell), none] ∧ H' = H2, ?_, fun σ' H' hM => ?_⟩
      · refine ⟨_, rfl, p, _, 0, _, rfl, rfl, SqL.of hp2u, j0, c, _, rfl, .inl (SqL.of hc2u), _, 0, rfl, rfl, _, rfl, ite2 (fun e => ?_) (fun e => ?_)⟩
        · have e2 : 0 < ((ms.map V.int).length : Int) := of_decide_eq_true e
          rw [List.length_map] at e2
          have hk0 := Int.emod_nonneg n (show (ms.length : Int) ≠ 0 by omega)
          have hk1 := Int.emod_lt_of_pos n e2
          have hk : (n % (ms.length : Int)).toNat < ms.length := by omega
          refine ⟨_, rfl, p, _, 0, _, rfl, rfl, SqL.of hp2u, j0, _, rfl, _, rfl, p, _, 0, _, rfl, rfl, SqL.of hp2u, j0, c, _, rfl, .inl (SqL.of hc2u), n, _, rfl, rfl, by
            show 0 < ((ms.map V.int).length : Int)
            rw [List.length_map]
            exact e2, c, _, _, .int (ms[(n % (ms.length : Int)).toNat]), rfl, rfl, SqL.of hc2u, ?_, ?_⟩
          · rw [List.length_map]
            exact at_of (j := (n % (ms.length : Int)).toNat) (by omega) (by rw [List.getElem?_map, List.getElem?_eq_getElem hk]; rfl)
          · exact ⟨_, rfl, eH2⟩
        · exact ⟨7, rfl, eH2⟩
      · obtain ⟨cell, rfl, eM⟩ := hM
        replace eM := eM.symm
        subst eM
        refine ⟨fun σ H' => σ = [some (.ref p), some (.int m), none, some (.int n), some (.int cell), none] ∧ H' = H2, ?_, fun σ' H' hM => ?_⟩
        · refine ⟨_, rfl, _, rfl, p, _, 0, _, rfl, rfl, SqL.of hp2, j0, c, _, rfl, .inl (SqL.of hc2), n, _, rfl, rfl, _, rfl, ite2 (fun _ => ?_) (fun _ => iteF ⟨rfl, rfl⟩)⟩
          refine ⟨_, rfl, 10, 18, rfl, rfl, ⟨by decide, by decide, by decide⟩, cell, _, rfl, rfl, _, rfl, ite2 (fun _ => ?_) (fun _ => ⟨rfl, rfl⟩)⟩
          refine ⟨_, rfl, _, rfl, cell, m, rfl, rfl, wdiv m0 m1, _, rfl, p, _, 2, 2, rfl, rfl, hp2, rfl, ?_⟩
          refine ⟨_, rfl, _, rfl, cell, m, rfl, rfl, m0, ?_⟩
          exact q _ (n + 1) _ (Int.emod_nonneg _ (by omega)) (Int.emod_lt_of_pos _ m0) (by omega) (by omega) ⟨cell / m, upd_same, by rw [upd_ne hpc.symm]; exact hc2, hpc⟩ (but_upd sb)
        · obtain ⟨rfl, eM⟩ := hM
          replace eM := eM.symm
          subst eM
          have c0 := Int.emod_nonneg cell (show (2147483629 : Int) ≠ 0 by decide)
          have c1 := Int.emod_lt_of_pos cell (show (0 : Int) < 2147483629 by decide)
          refine ⟨_, rfl, cell, 2147483629, rfl, rfl, (show (0 : Int) < 2147483629 by decide), _, 11, rfl, rfl, _, rfl, _, rfl, n, n, rfl, rfl, .inl ⟨by omega, by omega⟩, _, rfl, 5, n, rfl, rfl, .inl ⟨by decide, by decide⟩, _, _, rfl, rfl, _, 3, rfl, rfl, _, _, rfl, rfl, .inl ⟨by omega, by omega⟩, _, 2147483647, rfl, rfl, (show (0 : Int) < 2147483647 by decide), ?_⟩
          have hz2 : ∀ z : Int, (z % 2147483647).natAbs < 2 ^ 64 := fun z => by
            have d0 := Int.emod_nonneg z (show (2147483647 : Int) ≠ 0 by decide)
            have d1 := Int.emod_lt_of_pos z (show (0 : Int) < 2147483647 by decide)
            omega
          refine ⟨_, rfl, _, 3, rfl, rfl, ⟨by decide, by decide, hz2 _⟩, _, rfl, 69621, n, rfl, rfl, .inl ⟨by decide, by decide⟩, _, _, rfl, rfl, _, 2147483587, rfl, rfl, (show (0 : Int) < 2147483587 by decide), _, 40692, rfl, rfl, .inr ⟨by decide, by decide⟩, _, 2147483399, rfl, rfl, (show (0 : Int) < 2147483399 by decide), ?_⟩
          refine ⟨fun σ H' => ∃ z : Int, σ = [some (.ref p), some (.int m), none, some (.int n), some (.int cell), some (.int z)] ∧ H' = H2, ?_, fun σ' H' hM => ?_⟩
          · refine ⟨_, rfl, 10, 6, rfl, rfl, ⟨by decide, by decide, by decide⟩, m, _, rfl, rfl, _, rfl, ite2 (fun _ => ?_) (fun _ => ⟨_, rfl, rfl⟩)⟩
            exact ⟨_, rfl, _, 2147483629, rfl, rfl, .inr ⟨by decide, by decide⟩, _, rfl, _, 1000003, rfl, rfl, (show (0 : Int) < 1000003 by decide), _, 48271, rfl, rfl, .inr ⟨by decide, by decide⟩, _, 2147483587, rfl, rfl, (show (0 : Int) < 2147483587 by decide), _, _, rfl, rfl, _, rfl, rfl⟩
          · obtain ⟨z, rfl, eM⟩ := hM
            replace eM := eM.symm
            subst eM
            refine ⟨_, rfl, z, 64, rfl, rfl, ⟨by decide, by decide⟩, _, rfl, _, m, rfl, rfl, m0, ?_⟩
            exact q _ (n + 1) _ (Int.emod_nonneg _ (by omega)) (Int.emod_lt_of_pos _ m0) (by omega) (by omega) ⟨left, hp2, hc2, hpc⟩ sb
end
theorem Same.but {H H' : Hp} {p : Addr} (s : Same H H') : SameBut p H H' := fun b o _ e => s b o e
theorem SameBut.trans {H H1 H2 : Hp} {p : Addr} (s : SameBut p H H1) (t : SameBut p H1 H2) : SameBut p H H2 := fun b o n e => t b o n (s b o n e)
theorem SameBut.refl {H : Hp} {p : Addr} : SameBut p H H := fun _ _ _ e => e
theorem SameBut.new {H H1 : Hp} {p q : Addr} {o : HO} (s : SameBut p H H1) (n : H1 q = none) : SameBut p H (upd H1 q o) := s.trans (Same.but (same_upd n))
theorem PenAt.same {H H' : Hp} {p c : Addr} {ms : List Int} {n : Int} (h : PenAt H p c ms n) (s : Same H H') : PenAt H' p c ms n := by
  obtain ⟨l, h1, h2, h3⟩ := h
  exact ⟨l, s _ _ h1, s _ _ h2, h3⟩
theorem PenAt.new {H : Hp} {p c q : Addr} {ms : List Int} {n : Int} {o : HO} (h : PenAt H p c ms n) (hq : H q = none) : PenAt (upd H q o) p c ms n := h.same (same_upd hq)
theorem PenAt.ne {H : Hp} {p c q : Addr} {ms : List Int} {n : Int} (h : PenAt H p c ms n) (hq : H q = none) : q ≠ p := by
  obtain ⟨l, h1, h2, h3⟩ := h
  exact fun e => by rw [e, h1] at hq; cases hq
end TC
/-! repr of lists of ints; the end of a law whose own def asks repr. -/
namespace TCX
open PySem PySem.Spec PyProof.Rows L2
/-! ### data of lists of ints -/
def dInts (ns : List Int) : List PyData := ns.map PyData.int
theorem dpAll_ints {K : PySem.W.Frag} {H : Hp} : ∀ ns : List Int, DpAll K H (ns.map V.int) (dInts ns)
  | [] => .nil
  | n :: r => .cons (.int n) (dpAll_ints r)
theorem dp_ints {K : PySem.W.Frag} {H : Hp} {a : Addr} {ns : List Int} (h : H a = some (.lst (ns.map V.int))) : Dp K H (.ref a) (.list (dInts ns)) := .lst (SqL.of h) (dpAll_ints ns)
theorem log_small {i : Int} (h : i.natAbs < 10 ^ 9) : i.natAbs.log2 < 30 := Nat.lt_of_lt_of_le (PySem.Flt.log2_lt_of (show 0 < 30 by decide) (Nat.lt_trans h (by decide))) (by decide)
theorem ints_show : ∀ ns : List Int, (∀ n ∈ ns, n.natAbs < 10 ^ 9) → PyData.showableAll (dInts ns) = true ∧ PyData.hasDictAll (dInts ns) = false ∧ PyData.depthAll (dInts ns) = 0 ∧ PyData.leavesShortAll 13 (dInts ns) = true ∧ PyData.weightAll (dInts ns) ≤ 40 * ns.length
  | [], _ => ⟨rfl, rfl, rfl, rfl, Nat.le_refl _⟩
  | n :: r, h => by
    obtain ⟨h1, h2, h3, h4, h5⟩ := ints_show r fun m hm => h m (List.mem_cons_of_mem _ hm)
    have hn := h n List.mem_cons_self
    have hl := log_small hn
    refine ⟨?_, ?_, ?_, ?_, ?_⟩
    · show (PyData.showable (.int n) && PyData.showableAll (dInts r)) = true
      rw [h1, Bool.and_true]
      simp only [PyData.showable, decide_eq_true_eq]
      omega
    · show (PyData.hasDict (.int n) || PyData.hasDictAll (dInts r)) = false
      rw [h2]
      rfl
    · show max (PyData.depth (.int n)) (PyData.depthAll (dInts r)) = 0
      rw [h3]
      rfl
    · show (PyData.leavesShort 13 (.int n) && PyData.leavesShortAll 13 (dInts r)) = true
      rw [h4, Bool.and_true]
      exact decide_eq_true (PyData.shown_int_le (Nat.lt_trans hn (by decide)))
    · show PyData.weight (.int n) + 1 + PyData.weightAll (dInts r) ≤ 40 * (r.length + 1)
      have : PyData.weight (.int n) ≤ 31 := by
        show (if n == 0 then 0 else n.natAbs.log2 + 1) ≤ 31
        split <;> omega
      omega
structure Shows (d : PyData) : Prop where
  s : d.showable = true
  h : d.hasDict = false
  dp : d.depth ≤ 60
  z : d.shown.length ≤ sizeLine
theorem shows_ints {ns : List Int} (h : ∀ n ∈ ns, n.natAbs < 10 ^ 9) (hl : ns.length ≤ 10000) : Shows (.list (dInts ns)) := by
  obtain ⟨h1, h2, h3, h4, h5⟩ := ints_show ns h
  refine ⟨h1, h2, ?_, PyData.shown_fits (B := 13) (by decide) (by decide) (d := .list (dInts ns)) h4 ?_⟩
  · show PyData.depthAll (dInts ns) + 1 ≤ 60
    omega
  · show PyData.weightAll (dInts ns) ≤ 2 ^ 20
    omega
/-! ### the end of a law, by FnG -/
section
variable {P : Program} {w : World} {K : PySem.W.Frag} {mg mb : Str → Option Value} {CX : CXT} {k : Nat} {fa a : Addr} {cs : List (Addr × Addr)} {fd : FuncData} {x : Str} {sp : Sp} {s₁ : Shared} {vs : List Value} {ns : List Int}
/-- the script (where K doesn't hold it) and the tables are tracked at the law's call -/
def hLaw (K : PySem.W.Frag) (T : List Addr) (a : Addr) (ob : Obj) (xs : List V) : Hp := fun b =>
  if b ∈ T then some (.tbl #[]) else if b = a ∧ K.lookup a = none then some (.frz ob (.lst xs)) else none
theorem hLaw_tab {T : List Addr} {ob : Obj} {xs : List V} {b : Addr} (h : b ∈ T) : hLaw K T a ob xs b = some (.tbl #[]) := if_pos h
theorem hLaw_inv {T : List Addr} {ob : Obj} {xs : List V} {b : Addr} {u : HO} (h : hLaw K T a ob xs b = some u) : (b ∈ T ∧ u = .tbl #[]) ∨ (b = a ∧ K.lookup a = none ∧ u = .frz ob (.lst xs)) := by
  unfold hLaw at h
  by_cases hT : b ∈ T
  · rw [if_pos hT] at h
    exact .inl ⟨hT, (Option.some.inj h).symm⟩
  · rw [if_neg hT] at h
    by_cases ha : b = a ∧ K.lookup a = none
    · rw [if_pos ha] at h
      exact .inr ⟨ha.1, ha.2, (Option.some.inj h).symm⟩
    · rw [if_neg ha] at h
      cases h
theorem law_callG (KX : K.In s₁.heap) (hns : s₁.heap.Ns mainGlobals mg) (hb : s₁.heap.Ns builtinsNs mb) (hbb : ∀ x : Str, x ≠ "__name__" → mb x = bootBuiltins x) (hlim : s₁.heap.NoLimit) (hg : s₁.gens = #[])
    (hT : ∀ p ∈ cs, s₁.heap.get? p.2 = some { cls := .none, data := .fields #[] }) (nT : ∀ p ∈ cs, K.lookup p.2 = none) (C : ∀ p ∈ cs, PySem.W.CodeHd s₁.heap p.1 p.2)
    (hbm : ∃ (bm : Addr) (ob : Obj), mg "__builtins__" = some (.ref bm) ∧ bm ≠ builtinsNs ∧ s₁.heap.get? bm = some ob ∧ ob.cls = .type "module" ∧ ob.dict = some builtinsNs ∧ ob.data = .plain)
    (ha : s₁.heap.get? a = some { cls := .type "list", data := .seq vs.toArray }) (hi : IntsAre vs ns) (hl : ns.length ≤ sizeLine) (hr : Room k callerA)
    (F : ∀ base : Heap, K.In base → base.Ns mainGlobals mg → (∀ p ∈ cs, LamX.TabB base mg p.1 p.2) → FnG P w K mg base CX k fa fd [x] sp) (hbind : ∀ (s : Shared) (u : Value), BindsTo s fd ⟨[u], []⟩ [(x, u)])
    (hsp : ∀ H : Hp, (∀ p ∈ cs, H p.2 = some (.tbl #[])) → SqL K H a (ns.map V.int) → sp [.ref a] H (fun v _ => v = .bl true) fun _ _ _ => False)
    (hCX : ∀ H e s', CX [] H s₁ (fun _ _ _ => False) e s' → False) :
    codeAny (model P w) callerA (.call (.ref fa) ⟨[.ref a], []⟩) (fun r s' => r = .ok (.ret (.bool true)) ∧ OldK s₁.heap s'.heap ∧ s'.os = s₁.os ∧ AllBare s'.gens) s₁ := by
  have rv := vals_ints hi
  have lenV := hi.length
  obtain ⟨T, eT⟩ : ∃ T : List Addr, cs.map (·.2) = T := ⟨_, rfl⟩
  have tIn : ∀ p ∈ cs, p.2 ∈ T := fun p hp => by
    rw [← eT]
    exact List.mem_map.mpr ⟨p, hp, rfl⟩
  have tOut : ∀ b, b ∈ T → ∃ p ∈ cs, p.2 = b := fun b h => by
    rw [← eT] at h
    exact List.mem_map.mp h
  have tGet : ∀ b, b ∈ T → s₁.heap.get? b = some { cls := .none, data := .fields #[] } := fun b h => by
    obtain ⟨p, hp, rfl⟩ := tOut b h
    exact hT p hp
  have aOut : a ∉ T := fun z => by
    have q := ha.symm.trans (tGet a z)
    cases q
  obtain ⟨H, eH⟩ : ∃ H : Hp, hLaw K T a { cls := .type "list", data := .seq vs.toArray } (ns.map V.int) = H := ⟨_, rfl⟩
  have inv : ∀ {b : Addr} {u : HO}, H b = some u → (b ∈ T ∧ u = .tbl #[]) ∨ (b = a ∧ K.lookup a = none ∧ u = .frz { cls := .type "list", data := .seq vs.toArray } (.lst (ns.map V.int))) := fun h => by
    rw [← eH] at h
    exact hLaw_inv h
  have hH : ∀ p ∈ cs, H p.2 = some (.tbl #[]) := fun p hp => by
    rw [← eH]
    exact hLaw_tab (tIn p hp)
  have hS : SqL K H a (ns.map V.int) := by
    cases hk : K.lookup a with
    | none => exact .inl (.inr ⟨_, by rw [← eH]; exact (if_neg aOut).trans (if_pos ⟨rfl, hk⟩)⟩)
    | some o =>
      have e := (KX a o hk).symm.trans ha
      cases e
      exact .inr ⟨_, vs.toArray, _, hk, rfl, rfl, rfl, by rw [List.size_toArray, lenV]; exact hl, by simpa using rv⟩
  have hok : HOk P w H s₁.heap := fun b u e => by
    rcases inv e with ⟨h1, rfl⟩ | ⟨rfl, _, rfl⟩
    · exact tGet b h1
    · exact ⟨ha, by rw [List.length_map]; exact hl, vs, _, rv, ha⟩
  -- what is neither the script nor a table isn't tracked
  have off : ∀ {b : Addr} {o : Obj}, s₁.heap.get? b = some o → (∀ us n, o.data ≠ .seq us n) → o.data ≠ .fields #[] → H b = none := fun {b o} e h1 h2 => by
    cases q : H b with
    | none => rfl
    | some u =>
      rcases inv q with ⟨g1, _⟩ | ⟨rfl, _, _⟩
      · rw [tGet b g1] at e
        cases e
        exact absurd rfl h2
      · rw [ha] at e
        cases e
        exact absurd rfl (h1 _ _)
  have nsK : ∀ {b : Addr} {m : Str → Option Value}, s₁.heap.Ns b m → (hidT s₁.heap H).Ns b m := fun {b m} z => by
    obtain ⟨o, es, ep, e, d, r⟩ := z
    exact ⟨o, es, ep, hidT_get e (off e (fun us n y => by rw [d] at y; cases y) fun y => by rw [d] at y; cases y), d, r⟩
  have hKb : K.In (hidT s₁.heap H) := fun b o e => hidT_get (KX b o e) (by
    cases q : H b with
    | none => rfl
    | some u =>
      rcases inv q with ⟨g1, _⟩ | ⟨rfl, g2, _⟩
      · obtain ⟨p, hp, rfl⟩ := tOut b g1
        rw [nT p hp] at e
        cases e
      · rw [g2] at e
        cases e)
  have hM : L2.Mod K mg (hidT s₁.heap H) := ⟨hKb, nsK hns, ⟨mb, nsK hb, hbb⟩, let ⟨mc, h1, h2⟩ := hlim; ⟨mc, nsK h1, h2⟩⟩
  have TB : ∀ p ∈ cs, LamX.TabB (hidT s₁.heap H) mg p.1 p.2 := fun p hp => by
    have hTp := hT p hp
    refine ⟨?_, ?_, fun z => ?_⟩
    · obtain ⟨o, us, file, tf, flags, tg, inF, text, tt, e1, r1, r2, r3, r4⟩ := C p hp
      exact ⟨o, us, file, tf, flags, tg, inF, text, tt, hidT_get e1 (off e1 (fun _ _ z => by rw [r2] at z; cases z) fun z => by
        rw [r2] at z
        cases z
        simp at r3), r1, r2, r3, r4⟩
    · obtain ⟨bm, ob, b1, b2, b3, b4, b5, b6⟩ := hbm
      refine ⟨bm, ob, b1, b2, fun y => ?_, fun y => ?_, hidT_get b3 (off b3 (fun _ _ z => by rw [b6] at z; cases z) fun z => by rw [b6] at z; cases z), b4, b5, b6⟩
      · obtain ⟨o, es, ep, e, hd, _⟩ := hns
        rw [y, e] at b3
        cases b3
        rw [hd] at b6
        cases b6
      · rw [y, hTp] at b3
        cases b3
        cases b6
    · obtain ⟨o, es, ep, e, hd, _⟩ := hns
      rw [z, hTp] at e
      cases e
      cases hd
  have e0 : Env0 P w K mg (hidT s₁.heap H) callerA [] s₁ H := ⟨rfl, hM, fun b o e => of_hidT e, Nat.le_of_eq (hidT_size _ _), trivial, fun b hb => absurd (show b ∈ ([] : List Addr) from hb) (by simp), hok, .of_eq hg⟩
  refine codeAny_mono ((F _ hKb (nsK hns) TB).grun callerA [] s₁ H ⟨[.ref a], []⟩ [.ref a] [.ref a] _ _ rfl hr e0 (hbind s₁ (.ref a)) (.cons rfl .nil) (hsp H hH hS)) fun r s' h => ?_
  match r, h with
  | .error e, h => exact (hCX H e s' h).elim
  | .ok .next, h => exact False.elim h
  | .ok .brk, h => exact False.elim h
  | .ok .cont, h => exact False.elim h
  | .ok (.ret u), h =>
    obtain ⟨v, H', os, bare, un, hok', r', q'⟩ := h
    cases (show v = .bl true from q')
    cases (show u = Value.bool true from r')
    have noF : ∀ b : Addr, b ∉ frs ([] : List Env) := fun b z => nomatch (show b ∈ ([] : List Addr) from z)
    have key : ∀ b o, b ∉ T → s₁.heap.get? b = some o → s'.heap.get? b = some o := fun b o nb e => by
      cases q : H b with
      | none => exact un.keep b o e q (noF b) (fun z => nomatch z)
      | some u =>
        rcases inv q with ⟨g1, _⟩ | ⟨rfl, _, rfl⟩
        · exact absurd g1 nb
        · obtain ⟨e2, _⟩ := hok' b _ (un.frzs b _ _ q)
          rw [ha] at e
          cases e
          exact e2
    have grown : ∀ p ∈ cs, ∃ more : Array Value, s'.heap.get? p.2 = some { cls := .none, data := .fields more } := fun p hp => by
      obtain ⟨more, z⟩ := un.tbls p.2 #[] (hH p hp)
      exact ⟨_, hok' p.2 _ z⟩
    refine ⟨rfl, ⟨fun b o e => ?_, fun b o e => ?_⟩, os, bare⟩
    · by_cases hb : b ∈ T
      · obtain ⟨p, hp, rfl⟩ := tOut b hb
        obtain ⟨more, hm⟩ := grown p hp
        rw [hT p hp] at e
        cases e
        exact .inr (.inl ⟨((C p hp).tab (hT p hp)).isCodeTable, rfl, #[], more, rfl, by rw [Array.empty_append]; exact hm⟩)
      · exact .inl (key b o hb e)
    · by_cases hb : b ∈ T
      · obtain ⟨p, hp, rfl⟩ := tOut b hb
        obtain ⟨more, hm⟩ := grown p hp
        exact ⟨_, hm⟩
      · exact ⟨o, key b o hb e⟩
end
/-- what is known of the law's promise at the head's heap -/
def LawAtG (l : PySem.W.OpenLaw) (w : World) (K : PySem.W.Frag) (CX : CXT) (k n : Nat) (x : Str) (mg : Str → Option Value) (fa : Addr) (h : Heap) : Prop :=
  ∃ (fd : FuncData) (cs : List (Addr × Addr)) (sp : Sp), (∀ p ∈ cs, h.get? p.2 = some { cls := .none, data := .fields #[] }) ∧ (∀ p ∈ cs, K.lookup p.2 = none) ∧ (∀ p ∈ cs, PySem.W.CodeHd h p.1 p.2) ∧ (∀ (s : Shared) (u : Value), BindsTo s fd ⟨[u], []⟩ [(x, u)]) ∧
    (∀ (H : Hp) (a : Addr) (ns : List Int), ns.length ≤ n → (∀ p ∈ cs, H p.2 = some (.tbl #[])) → SqL K H a (ns.map V.int) → sp [.ref a] H (fun v _ => v = .bl true) fun _ _ _ => False) ∧
    ∀ base : Heap, K.In base → base.Ns mainGlobals mg → (∀ p ∈ cs, LamX.TabB base mg p.1 p.2) → FnG l.prog w K mg base CX k fa fd [x] sp
theorem walk_ofG {l : PySem.W.OpenLaw} {n k : Nat} {q : Program} {loose : List Str} {XP : (Str → Option Value) → Heap → Prop} {YP : World → Heap → Prop} {d : DefRec} {CX : World → CXT} {x : Str}
    (hn : l.most = some n) (hn2 : n ≤ sizeLine) (hdf : d.params.defaults = []) (hr : Room k callerA)
    (F : ∀ (w : World) (mg : Str → Option Value) (fa : Addr) (h : Heap), YP w h → h.Ns mainGlobals mg → mg d.name = some (.ref fa) → ∃ K : PySem.W.Frag, K.In h ∧ LawAtG l w K (CX w) k n x mg fa h)
    (hCX : ∀ (w : World) (H : Hp) (s : Shared) (e : Value) (s' : Shared), CX w [] H s (fun _ _ _ => False) e s' → False) :
    PySem.W.WalkO q loose XP YP l.row.toRowW d [] (fun f vs => PySem.call f vs) := by
  refine Att.attach_callB hn hdf fun w s₀ s₁ mg mb fa o pm cd doc a vs ns G Y ho hd hcd hmg hobj hints hlen hbits hg => ?_
  obtain ⟨K, KX, fd, cs, sp, hT, nT, C, hb, hsp, hF⟩ := F w mg fa _ Y G.T.g hmg
  exact law_callG KX G.T.g G.T.b G.T.builtins G.T.nolimit hg hT nT C G.T.bmain hobj hints (Nat.le_trans hlen hn2) hr hF hb (fun H hH hS => hsp H a ns hlen hH hS) fun H e s' => hCX w H s₁ e s'
end TCX
/-! isinstance of a kept exception and a tuple of classes; promises joined. -/
namespace TCX
open PySem PySem.Spec PyProof.Rows L2
section
variable {X : Cx}
def rIsVT (K : PySem.W.Frag) : List V → Hp → VK → Prop := fun xs H Q => ∃ (a D tp : Addr) (cs : List V) (us : List Value) (b : Bool), xs = [.ref a, .ref tp] ∧ H a = some (ExV (.ref D) none a) ∧ ExcC K D ∧ H tp = some (.tup cs) ∧ Paired ClsV cs us ∧ PySem.W.kitAny K (.ref D) us = some b ∧ Q (.bl b) H
theorem call_isVT : CallR X (.builtin "isinstance") (rIsVT X.K) := by
  intro pins s σ H xs us Q I r h
  obtain ⟨a, D, tp, cs, ws, b, rfl, hH, C, hT, k, e, q⟩ := h
  obtain ⟨u1, u2, rfl, r1, r2⟩ := vals2 r
  cases (show u2 = Value.ref tp from r2)
  cases (show u1 = Value.ref a from r1)
  obtain ⟨oe, J⟩ := inst_of I hH
  obtain ⟨_, its, rv, o, h1, h2, n, h3⟩ := (show ObjOk X.prog X.w H s.heap tp (.tup cs) from I.hok tp _ hT)
  have e3 := ClsV.all k rv
  subst e3
  obtain ⟨oc, od, dt, sl⟩ := o
  simp only at h2 h3
  subst h2 h3
  exact PySem.W.kia_tup (PySem.W.handS_kitx_exc C.hg C.hk C.hs C.hd C.ha C.hn C.ht C.hm) I.kIn J h1 e (fun z => nomatch z) fun tk => ⟨.bl b, H, I.tok tk, rfl, q⟩
end
section
variable {P : Program} {w : World} {K : PySem.W.Frag} {mg : Str → Option Value} {base : Heap} {k : Nat} {f : Addr} {fd : FuncData} {ps : List Str} {sp sq : Sp}
/-- a def that lets nothing out may be asked where something might -/
theorem lift0 (F : FnOk P w K mg base CX0 k f fd ps sp) : FnOk P w K mg base (L2.CX P w) k f fd ps sp := by
  refine ⟨F.len, fun A outer s H args us vs Q E hr he hb hv hs => codeAny_mono (F.run A outer s H args us vs Q E hr he hb hv hs) fun r s' hq => ?_⟩
  match r, hq with
  | .error u, hq => exact (show False from hq).elim
  | .ok (.ret u), hq => exact hq
  | .ok .next, hq => exact hq
  | .ok .brk, hq => exact hq
  | .ok .cont, hq => exact hq
/-- two promises of one def -/
theorem both {CX : CXT} (F : FnOk P w K mg base CX k f fd ps sp) (G : FnOk P w K mg base CX k f fd ps sq) : FnOk P w K mg base CX k f fd ps (fun vs H Q E => sp vs H Q E ∨ sq vs H Q E) := by
  refine ⟨fun vs H Q E h => h.elim (F.len vs H Q E) (G.len vs H Q E), fun A outer s H args us vs Q E hr he hb hv hs => ?_⟩
  rcases hs with h | h
  · exact F.run A outer s H args us vs Q E hr he hb hv h
  · exact G.run A outer s H args us vs Q E hr he hb hv h
end
end TCX
namespace TC
open PySem PySem.Spec PyProof.Rows L2 TCX
/-- what _law_word reads of the module -/
structure WTxt (K : PySem.W.Frag) (mg : Str → Option Value) : Prop where
  g : ∀ (i : Nat) {x : Str}, clsN[i]? = some x → mg x = some (.ref (He.ga K x))
  gT : mg "TurnError" = some (.ref (He.ga K "TurnError"))
  gV : mg "ValueError" = none
  gZ : mg "ZeroDivisionError" = none
  gK : mg "KeyError" = none
  gI : mg "IndexError" = none
  gL : mg "LookupError" = none
  is : mg "isinstance" = none
section
variable {P : Program} {w : World} {K : PySem.W.Frag} {mg : Str → Option Value} {base : Heap} {f : Addr} {fd : FuncData}
/-! ### _law_word -/
def spWord (K : PySem.W.Frag) : Sp := fun vs H Q _ => ∃ (a D : Addr) (n : Nat), vs = [.ref a] ∧ H a = some (ExV (.ref D) none a) ∧ KindF K D n ∧ n < 22 ∧ ∀ H', Same H H' → Q (.str (words.getD n "")) H'
theorem scWord : FnScope ["_law_e", "_law_words", "_law_some", "_law_at", "_law_under"] ["_law_e"] (defScope sWord) := ⟨rfl, rfl, rfl, by decide +kernel, rfl, by decide +kernel, by decide +kernel⟩
def bits (n : Nat) : List Bool := (List.range 22).map fun i => i == n
theorem bits_all : ∀ n, n < 22 → (((bits n).map V.bl).countP fun z => eqV z (.bl true)) = 1 ∧ (bits n)[n]? = some true ∧ (∀ m, m < n → (bits n)[m]? = some false) := by decide
theorem words_at : ∀ n, n < 22 → words[n]? = some (words.getD n "") := by decide
theorem ok_word (F : FnP K "_law_word" sWord f fd) (T : WTxt K mg) : FnOk P w K mg base CX0 1 f fd ["_law_e"] (spWord K) := by
  refine F.ok scWord (fun vs H Q E h => ?_) (fun cdv A outer s H vs Q E hr h => ?_)
  · obtain ⟨_, _, _, rfl, _⟩ := h
    rfl
  · obtain ⟨a, D, n, rfl, ha, kd, n22, q⟩ := h
    refine ⟨_, PSs.nox
    (pss_cons (ps_set (i := 1) scWord.nd rfl (.inl rfl) (pe_lst (pa_cons pe_str (pa_cons pe_str (pa_cons pe_str (pa_cons pe_str (pa_cons pe_str (pa_cons pe_str (pa_cons pe_str (pa_cons pe_str (pa_cons pe_str (pa_cons pe_str (pa_cons pe_str pa_nil)))))))))))))
    (C8.pss_cut (ps_set (i := 1) scWord.nd rfl (.inl rfl) (pe_op op_cat (pv 1) (pe_lst (pa_cons pe_str (pa_cons pe_str (pa_cons pe_str (pa_cons pe_str (pa_cons pe_str (pa_cons pe_str (pa_cons pe_str (pa_cons pe_str (pa_cons pe_str (pa_cons pe_str (pa_cons pe_str pa_nil))))))))))))))
    (C8.pss_cut (ps_set (i := 2) scWord.nd rfl (.inl rfl) (pe_lst (pa_cons (pe_callB call_isV (by rfl) T.is (by decide +kernel) (pa_cons (pv 0) (pa_cons (pe_glob (v := .ref (He.ga K "Empty")) (by rfl) (T.g 0 rfl) rfl) pa_nil))) (pa_cons (pe_callB call_isV (by rfl) T.is (by decide +kernel) (pa_cons (pv 0) (pa_cons (pe_glob (v := .ref (He.ga K "NoDeed")) (by rfl) (T.g 1 rfl) rfl) pa_nil))) (pa_cons (pe_callB call_isV (by rfl) T.is (by decide +kernel) (pa_cons (pv 0) (pa_cons (pe_glob (v := .ref (He.ga K "NoHalf")) (by rfl) (T.g 2 rfl) rfl) pa_nil))) (pa_cons (pe_callB call_isV (by rfl) T.is (by decide +kernel) (pa_cons (pv 0) (pa_cons (pe_glob (v := .ref (He.ga K "NoLinking")) (by rfl) (T.g 3 rfl) rfl) pa_nil))) pa_nil))))))
    (C8.pss_cut (ps_set (i := 2) scWord.nd rfl (.inl rfl) (pe_op op_cat (pv 2) (pe_lst (pa_cons (pe_callB call_isV (by rfl) T.is (by decide +kernel) (pa_cons (pv 0) (pa_cons (pe_glob (v := .ref (He.ga K "NoNet")) (by rfl) (T.g 4 rfl) rfl) pa_nil))) (pa_cons (pe_callB call_isV (by rfl) T.is (by decide +kernel) (pa_cons (pv 0) (pa_cons (pe_glob (v := .ref (He.ga K "NoNumber")) (by rfl) (T.g 5 rfl) rfl) pa_nil))) (pa_cons (pe_callB call_isV (by rfl) T.is (by decide +kernel) (pa_cons (pv 0) (pa_cons (pe_glob (v := .ref (He.ga K "NoOffset")) (by rfl) (T.g 6 rfl) rfl) pa_nil))) (pa_cons (pe_callB call_isV (by rfl) T.is (by decide +kernel) (pa_cons (pv 0) (pa_cons (pe_glob (v := .ref (He.ga K "NoQuestion")) (by rfl) (T.g 7 rfl) rfl) pa_nil))) pa_nil)))))))
    (C8.pss_cut (ps_set (i := 2) scWord.nd rfl (.inl rfl) (pe_op op_cat (pv 2) (pe_lst (pa_cons (pe_callB call_isV (by rfl) T.is (by decide +kernel) (pa_cons (pv 0) (pa_cons (pe_glob (v := .ref (He.ga K "NoRow")) (by rfl) (T.g 8 rfl) rfl) pa_nil))) (pa_cons (pe_callB call_isV (by rfl) T.is (by decide +kernel) (pa_cons (pv 0) (pa_cons (pe_glob (v := .ref (He.ga K "NoSize")) (by rfl) (T.g 9 rfl) rfl) pa_nil))) (pa_cons (pe_callB call_isV (by rfl) T.is (by decide +kernel) (pa_cons (pv 0) (pa_cons (pe_glob (v := .ref (He.ga K "NoStanding")) (by rfl) (T.g 10 rfl) rfl) pa_nil))) (pa_cons (pe_callB call_isV (by rfl) T.is (by decide +kernel) (pa_cons (pv 0) (pa_cons (pe_glob (v := .ref (He.ga K "NoTable")) (by rfl) (T.g 11 rfl) rfl) pa_nil))) pa_nil)))))))
    (C8.pss_cut (ps_set (i := 2) scWord.nd rfl (.inl rfl) (pe_op op_cat (pv 2) (pe_lst (pa_cons (pe_callB call_isV (by rfl) T.is (by decide +kernel) (pa_cons (pv 0) (pa_cons (pe_glob (v := .ref (He.ga K "NoText")) (by rfl) (T.g 12 rfl) rfl) pa_nil))) (pa_cons (pe_callB call_isV (by rfl) T.is (by decide +kernel) (pa_cons (pv 0) (pa_cons (pe_glob (v := .ref (He.ga K "NotParted")) (by rfl) (T.g 13 rfl) rfl) pa_nil))) (pa_cons (pe_callB call_isV (by rfl) T.is (by decide +kernel) (pa_cons (pv 0) (pa_cons (pe_glob (v := .ref (He.ga K "NoTree")) (by rfl) (T.g 14 rfl) rfl) pa_nil))) (pa_cons (pe_callB call_isV (by rfl) T.is (by decide +kernel) (pa_cons (pv 0) (pa_cons (pe_glob (v := .ref (He.ga K "NoTriple")) (by rfl) (T.g 15 rfl) rfl) pa_nil))) pa_nil)))))))
    (C8.pss_cut (ps_set (i := 2) scWord.nd rfl (.inl rfl) (pe_op op_cat (pv 2) (pe_lst (pa_cons (pe_callB call_isV (by rfl) T.is (by decide +kernel) (pa_cons (pv 0) (pa_cons (pe_glob (v := .ref (He.ga K "NoWay")) (by rfl) (T.g 16 rfl) rfl) pa_nil))) (pa_cons (pe_callB call_isV (by rfl) T.is (by decide +kernel) (pa_cons (pv 0) (pa_cons (pe_glob (v := .ref (He.ga K "TooWide")) (by rfl) (T.g 17 rfl) rfl) pa_nil))) (pa_cons (pe_callB call_isV (by rfl) T.is (by decide +kernel) (pa_cons (pv 0) (pa_cons (pe_glob (v := .ref (He.ga K "ByNought")) (by rfl) (T.g 18 rfl) rfl) pa_nil))) (pa_cons (pe_callB call_isV (by rfl) T.is (by decide +kernel) (pa_cons (pv 0) (pa_cons (pe_glob (v := .ref (He.ga K "NoName")) (by rfl) (T.g 19 rfl) rfl) pa_nil))) pa_nil)))))))
    (C8.pss_cut (ps_set (i := 2) scWord.nd rfl (.inl rfl) (pe_op op_cat (pv 2) (pe_lst (pa_cons (pe_callB call_isV (by rfl) T.is (by decide +kernel) (pa_cons (pv 0) (pa_cons (pe_glob (v := .ref (He.ga K "NoPlace")) (by rfl) (T.g 20 rfl) rfl) pa_nil))) (pa_cons (pe_callB call_isV (by rfl) T.is (by decide +kernel) (pa_cons (pv 0) (pa_cons (pe_glob (v := .ref (He.ga K "NothingDone")) (by rfl) (T.g 21 rfl) rfl) pa_nil))) pa_nil)))))
    (pss_cons (ps_if (pt_cmpR op_ne (pe_bm PySem.F.plainAttrs_list PySem.F.slot_list_count PySem.F.type_list_count mt_count (pv 2) (pa_cons pe_bl pa_nil)) pe_int (nomark _)) (pss_one (ps_ret pe_str)) pss_nil)
    (pss_cons (ps_set (i := 3) scWord.nd rfl (.inl rfl) (pe_bm PySem.F.plainAttrs_list PySem.F.slot_list_index PySem.F.type_list_index mt_index (pv 2) (pa_cons pe_bl pa_nil)))
    (pss_cons (ps_if (pt_cmpR op_lt (pv 3) pe_int (nomark _)) (pss_one (ps_ret (pe_ifExp (PW.pt (pw_and (pt_val (pe_callB call_isV (by rfl) T.is (by decide +kernel) (pa_cons (pv 0) (pa_cons (pe_glob (v := .ref (He.ga K "TurnError")) (by rfl) T.gT rfl) pa_nil)))) (pw_and1 (pt_val (pe_callB call_isV (by rfl) T.is (by decide +kernel) (pa_cons (pv 0) (pa_cons (pe_bltn (v := .ty "ValueError") (by rfl) T.gV (by decide +kernel) rfl) pa_nil))))))) (pe_ix ix_list (pv 1) (pv 3) (fun _ _ => rfl)) pe_str))) pss_nil)
    (C8.pss_cut (ps_set (i := 4) scWord.nd rfl (.inl rfl) (pe_lst (pa_cons (pe_callB call_isV (by rfl) T.is (by decide +kernel) (pa_cons (pv 0) (pa_cons (pe_bltn (v := .ty "ZeroDivisionError") (by rfl) T.gZ (by decide +kernel) rfl) pa_nil))) (pa_cons (pe_callB call_isV (by rfl) T.is (by decide +kernel) (pa_cons (pv 0) (pa_cons (pe_bltn (v := .ty "KeyError") (by rfl) T.gK (by decide +kernel) rfl) pa_nil))) (pa_cons (pe_callB call_isV (by rfl) T.is (by decide +kernel) (pa_cons (pv 0) (pa_cons (pe_bltn (v := .ty "IndexError") (by rfl) T.gI (by decide +kernel) rfl) pa_nil))) pa_nil)))))
    (C8.pss_cut (ps_expr (pe_bm PySem.F.plainAttrs_list PySem.F.slot_list_append PySem.F.type_list_append mt_append (pv 4) (pa_cons (pe_and (pe_callB call_isV (by rfl) T.is (by decide +kernel) (pa_cons (pv 0) (pa_cons (pe_bltn (v := .ty "LookupError") (by rfl) T.gL (by decide +kernel) rfl) pa_nil))) (pe_one (pe_not (pe_callB call_isVT (by rfl) T.is (by decide +kernel) (pa_cons (pv 0) (pa_cons (pe_tup (pa_cons (pe_bltn (v := .ty "KeyError") (by rfl) T.gK (by decide +kernel) rfl) (pa_cons (pe_bltn (v := .ty "IndexError") (by rfl) T.gI (by decide +kernel) rfl) pa_nil))) pa_nil)))))) pa_nil)))
      (pss_one (ps_ret (pe_ifExp (PW.pt (pw_and (pt_val (pe_ix ix_list (pv 4) (pe_op op_sub (pv 3) pe_int) (fun _ _ => rfl))) (pw_and1 (pt_not (pt_val (pe_callB call_isV (by rfl) T.is (by decide +kernel) (pa_cons (pv 0) (pa_cons (pe_glob (v := .ref (He.ga K "TurnError")) (by rfl) T.gT rfl) pa_nil)))))))) (pe_ix ix_list (pv 1) (pv 3) (fun _ _ => rfl)) pe_str)))))))))))))))), ?_⟩
    refine ⟨by show 11 ≤ sizeLine; decide, fun l0 hl0 => ?_⟩
    have s0 := same_upd (o := .lst ((words.take 11).map V.str)) hl0
    refine ⟨fun σ H1 => ∃ pw, σ = [some (.ref a), some (.ref pw), none, none, none] ∧ H1 pw = some (.lst (words.map V.str)) ∧ Same H H1, ?_, fun σ1 H1 h1 => ?_⟩
    · refine ⟨_, rfl, by show 11 ≤ sizeLine; decide, fun l1 hl1 => ?_⟩
      have s1 := same_upd (o := .lst ((words.drop 11).map V.str)) hl1
      refine ⟨_, _, _, _, rfl, rfl, s1 _ _ upd_same, upd_same, by show 22 ≤ sizeLine; decide, fun p hp => ?_⟩
      exact ⟨p, rfl, upd_same, (s0.trans s1).trans (same_upd hp)⟩
    obtain ⟨pw, rfl, hw, sm⟩ := h1
    have ha0 := sm _ _ ha
    refine ⟨fun σ H2 => ∃ ps, σ = [some (.ref a), some (.ref pw), some (.ref ps), none, none] ∧ H2 pw = some (.lst (words.map V.str)) ∧ H2 ps = some (.lst (((bits n).take 4).map V.bl)) ∧ Same H H2, ?_, fun σ2 H2 h2 => ?_⟩
    · refine ⟨_, rfl, a, D, _, _, _, rfl, ha0, kd.ec, fun _ r => r, kd.kits.at 0 rfl, _, rfl, a, D, _, _, _, rfl, ha0, kd.ec, fun _ r => r, kd.kits.at 1 rfl, _, rfl, a, D, _, _, _, rfl, ha0, kd.ec, fun _ r => r, kd.kits.at 2 rfl, _, rfl, a, D, _, _, _, rfl, ha0, kd.ec, fun _ r => r, kd.kits.at 3 rfl, by show 4 ≤ sizeLine; decide, fun l hl => ?_⟩
      exact ⟨l, rfl, (same_upd hl) _ _ hw, upd_same, sm.trans (same_upd hl)⟩
    obtain ⟨ps, rfl, hw, hs, sm⟩ := h2
    have ha1 := sm _ _ ha
    refine ⟨fun σ H3 => ∃ ps, σ = [some (.ref a), some (.ref pw), some (.ref ps), none, none] ∧ H3 pw = some (.lst (words.map V.str)) ∧ H3 ps = some (.lst (((bits n).take 8).map V.bl)) ∧ Same H H3, ?_, fun σ2 H3 h2 => ?_⟩
    · refine ⟨_, rfl, _, rfl, a, D, _, _, _, rfl, ha1, kd.ec, fun _ r => r, kd.kits.at 4 rfl, _, rfl, a, D, _, _, _, rfl, ha1, kd.ec, fun _ r => r, kd.kits.at 5 rfl, _, rfl, a, D, _, _, _, rfl, ha1, kd.ec, fun _ r => r, kd.kits.at 6 rfl, _, rfl, a, D, _, _, _, rfl, ha1, kd.ec, fun _ r => r, kd.kits.at 7 rfl, by show 4 ≤ sizeLine; decide, fun l hl => ?_⟩
      have s1 := same_upd (o := .lst (([4 == n, 5 == n, 6 == n, 7 == n] : List Bool).map V.bl)) hl
      refine ⟨_, _, _, _, rfl, rfl, s1 _ _ hs, upd_same, by show 8 ≤ sizeLine; decide, fun p hp => ?_⟩
      exact ⟨p, rfl, (same_upd hp) _ _ (s1 _ _ hw), upd_same, (sm.trans s1).trans (same_upd hp)⟩
    obtain ⟨ps, rfl, hw, hs, sm⟩ := h2
    have ha2 := sm _ _ ha
    refine ⟨fun σ H4 => ∃ ps, σ = [some (.ref a), some (.ref pw), some (.ref ps), none, none] ∧ H4 pw = some (.lst (words.map V.str)) ∧ H4 ps = some (.lst (((bits n).take 12).map V.bl)) ∧ Same H H4, ?_, fun σ2 H4 h2 => ?_⟩
    · refine ⟨_, rfl, _, rfl, a, D, _, _, _, rfl, ha2, kd.ec, fun _ r => r, kd.kits.at 8 rfl, _, rfl, a, D, _, _, _, rfl, ha2, kd.ec, fun _ r => r, kd.kits.at 9 rfl, _, rfl, a, D, _, _, _, rfl, ha2, kd.ec, fun _ r => r, kd.kits.at 10 rfl, _, rfl, a, D, _, _, _, rfl, ha2, kd.ec, fun _ r => r, kd.kits.at 11 rfl, by show 4 ≤ sizeLine; decide, fun l hl => ?_⟩
      have s1 := same_upd (o := .lst (([8 == n, 9 == n, 10 == n, 11 == n] : List Bool).map V.bl)) hl
      refine ⟨_, _, _, _, rfl, rfl, s1 _ _ hs, upd_same, by show 12 ≤ sizeLine; decide, fun p hp => ?_⟩
      exact ⟨p, rfl, (same_upd hp) _ _ (s1 _ _ hw), upd_same, (sm.trans s1).trans (same_upd hp)⟩
    obtain ⟨ps, rfl, hw, hs, sm⟩ := h2
    have ha3 := sm _ _ ha
    refine ⟨fun σ H5 => ∃ ps, σ = [some (.ref a), some (.ref pw), some (.ref ps), none, none] ∧ H5 pw = some (.lst (words.map V.str)) ∧ H5 ps = some (.lst (((bits n).take 16).map V.bl)) ∧ Same H H5, ?_, fun σ2 H5 h2 => ?_⟩
    · refine ⟨_, rfl, _, rfl, a, D, _, _, _, rfl, ha3, kd.ec, fun _ r => r, kd.kits.at 12 rfl, _, rfl, a, D, _, _, _, rfl, ha3, kd.ec, fun _ r => r, kd.kits.at 13 rfl, _, rfl, a, D, _, _, _, rfl, ha3, kd.ec, fun _ r => r, kd.kits.at 14 rfl, _, rfl, a, D, _, _, _, rfl, ha3, kd.ec, fun _ r => r, kd.kits.at 15 rfl, by show 4 ≤ sizeLine; decide, fun l hl => ?_⟩
      have s1 := same_upd (o := .lst (([12 == n, 13 == n, 14 == n, 15 == n] : List Bool).map V.bl)) hl
      refine ⟨_, _, _, _, rfl, rfl, s1 _ _ hs, upd_same, by show 16 ≤ sizeLine; decide, fun p hp => ?_⟩
      exact ⟨p, rfl, (same_upd hp) _ _ (s1 _ _ hw), upd_same, (sm.trans s1).trans (same_upd hp)⟩
    obtain ⟨ps, rfl, hw, hs, sm⟩ := h2
    have ha4 := sm _ _ ha
    refine ⟨fun σ H6 => ∃ ps, σ = [some (.ref a), some (.ref pw), some (.ref ps), none, none] ∧ H6 pw = some (.lst (words.map V.str)) ∧ H6 ps = some (.lst (((bits n).take 20).map V.bl)) ∧ Same H H6, ?_, fun σ2 H6 h2 => ?_⟩
    · refine ⟨_, rfl, _, rfl, a, D, _, _, _, rfl, ha4, kd.ec, fun _ r => r, kd.kits.at 16 rfl, _, rfl, a, D, _, _, _, rfl, ha4, kd.ec, fun _ r => r, kd.kits.at 17 rfl, _, rfl, a, D, _, _, _, rfl, ha4, kd.ec, fun _ r => r, kd.kits.at 18 rfl, _, rfl, a, D, _, _, _, rfl, ha4, kd.ec, fun _ r => r, kd.kits.at 19 rfl, by show 4 ≤ sizeLine; decide, fun l hl => ?_⟩
      have s1 := same_upd (o := .lst (([16 == n, 17 == n, 18 == n, 19 == n] : List Bool).map V.bl)) hl
      refine ⟨_, _, _, _, rfl, rfl, s1 _ _ hs, upd_same, by show 20 ≤ sizeLine; decide, fun p hp => ?_⟩
      exact ⟨p, rfl, (same_upd hp) _ _ (s1 _ _ hw), upd_same, (sm.trans s1).trans (same_upd hp)⟩
    obtain ⟨ps, rfl, hw, hs, sm⟩ := h2
    have ha5 := sm _ _ ha
    refine ⟨fun σ H7 => ∃ ps, σ = [some (.ref a), some (.ref pw), some (.ref ps), none, none] ∧ H7 pw = some (.lst (words.map V.str)) ∧ H7 ps = some (.lst (((bits n).take 22).map V.bl)) ∧ Same H H7, ?_, fun σ2 H7 h2 => ?_⟩
    · refine ⟨_, rfl, _, rfl, a, D, _, _, _, rfl, ha5, kd.ec, fun _ r => r, kd.kits.at 20 rfl, _, rfl, a, D, _, _, _, rfl, ha5, kd.ec, fun _ r => r, kd.kits.at 21 rfl, by show 2 ≤ sizeLine; decide, fun l hl => ?_⟩
      have s1 := same_upd (o := .lst (([20 == n, 21 == n] : List Bool).map V.bl)) hl
      refine ⟨_, _, _, _, rfl, rfl, s1 _ _ hs, upd_same, by show 22 ≤ sizeLine; decide, fun p hp => ?_⟩
      exact ⟨p, rfl, (same_upd hp) _ _ (s1 _ _ hw), upd_same, (sm.trans s1).trans (same_upd hp)⟩
    obtain ⟨ps, rfl, hw, hs, sm⟩ := h2
    have ha7 := sm _ _ ha
    obtain ⟨c1, c2, c3⟩ := bits_all n n22
    have hs2 : H7 ps = some (.lst ((bits n).map V.bl)) := hs
    have fl : ((bits n).map V.bl).all flatV = true := by
      rw [List.all_map]
      exact List.all_eq_true.mpr fun _ _ => rfl
    refine ⟨_, rfl, .inl ⟨rfl, _, SqL.of hs2⟩, ps, _, _, rfl, rfl, SqL.of hs2, rfl, fl, rfl, _, rfl, iteNS (congrArg V.int (by rw [c1]; rfl)) ?_⟩
    refine ⟨_, rfl, .inl ⟨rfl, _, SqL.of hs2⟩, ps, _, _, n, _, rfl, rfl, SqL.of hs2, rfl, fl, by rw [List.getElem?_map, c2]; rfl, rfl, fun m z hm hz => ?_, ?_⟩
    · rw [List.getElem?_map, c3 m hm] at hz
      cases hz
      rfl
    refine ⟨_, rfl, _, 18, rfl, rfl, _, rfl, ?_⟩
    by_cases n18 : n < 18
    · refine iteD1 (by omega) ?_
      refine ⟨_, rfl, a, D, _, _, _, rfl, ha7, kd.ec, fun _ r => r, kd.te, _, rfl, iteD1 n18 ?_⟩
      refine ⟨_, rfl, a, D, _, _, _, rfl, ha7, kd.ec, fun _ r => r, kd.ve, _, rfl, iteD1 n18 ?_⟩
      refine ⟨_, rfl, _, rfl, pw, _, _, _, rfl, rfl, SqL.of hw, atI_nat (by rw [List.getElem?_map, words_at n n22]; rfl), ?_⟩
      exact q _ sm
    refine iteD0 (by omega) ?_
    refine ⟨fun σ H8 => ∃ pu, σ = [some (.ref a), some (.ref pw), some (.ref ps), some (.int n), some (.ref pu)] ∧ H8 pw = some (.lst (words.map V.str)) ∧ H8 pu = some (.lst [.bl (n == 18), .bl (n == 19), .bl (n == 20)]) ∧ Same H H8 ∧ H pu = none, ?_, fun σ3 H8 h3 => ?_⟩
    · refine ⟨_, rfl, a, D, _, _, _, rfl, ha7, kd.ec, fun _ r => r, kd.kz, _, rfl, a, D, _, _, _, rfl, ha7, kd.ec, fun _ r => r, kd.ky, _, rfl, a, D, _, _, _, rfl, ha7, kd.ec, fun _ r => r, kd.ki, by show 3 ≤ sizeLine; decide, fun l hl => ?_⟩
      exact ⟨l, rfl, (same_upd hl) _ _ hw, upd_same, sm.trans (same_upd hl), sm.free hl⟩
    obtain ⟨pu, rfl, hw8, hu8, sm8, fu⟩ := h3
    have ha8 := sm8 _ _ ha
    have nu : pw ≠ pu := fun z => by
      rw [z, hu8] at hw8
      cases hw8
    have tail : ∀ (H9 : Hp) (b3 : Bool), H9 pw = some (.lst (words.map V.str)) → H9 pu = some (.lst [.bl (n == 18), .bl (n == 19), .bl (n == 20), .bl b3]) → Same H H9 → (n = 21 → b3 = true) → (∃ b3, H9 pu = some (.lst [.bl (n == 18), .bl (n == 19), .bl (n == 20), .bl b3]) ∧ (n = 21 → b3 = true)) := fun H9 b3 _ h _ z => ⟨b3, h, z⟩
    refine ⟨fun σ H9 => σ = [some (.ref a), some (.ref pw), some (.ref ps), some (.int n), some (.ref pu)] ∧ H9 pw = some (.lst (words.map V.str)) ∧ Same H H9 ∧ ∃ b3, H9 pu = some (.lst [.bl (n == 18), .bl (n == 19), .bl (n == 20), .bl b3]) ∧ (n = 21 → b3 = true), ?_, fun σ4 H9 h4 => ?_⟩
    · refine ⟨_, rfl, .inl ⟨rfl, _, SqL.of hu8⟩, _, rfl, a, D, _, _, _, rfl, ha8, kd.ec, fun _ r => r, kd.kl, _, rfl, ?_⟩
      refine ite2 (fun z => ?_) fun z => ?_
      · refine ⟨_, rfl, by show 2 ≤ sizeLine; decide, fun tp htp => ?_⟩
        have s9 := same_upd (o := .tup [.ty "KeyError", .ty "IndexError"]) htp
        refine ⟨a, D, tp, _, _, _, rfl, s9 _ _ ha8, kd.ec, upd_same, .cons (.ty _) (.cons (.ty _) .nil), kd.kt, _, rfl, ?_⟩
        refine ⟨pu, _, _, rfl, rfl, s9 _ _ hu8, by show 3 < sizeLine; decide, rfl, ?_, ?_, _, upd_same, fun e => ?_⟩
        · rw [upd_ne nu]
          exact s9 _ _ hw8
        · intro b o e
          rw [upd_ne (ne_of_none e fu)]
          exact s9 _ _ (sm8 _ _ e)
        · subst e
          rfl
      · refine ⟨pu, _, _, rfl, rfl, hu8, by show 3 < sizeLine; decide, rfl, ?_, ?_, _, upd_same, fun e => ?_⟩
        · rw [upd_ne nu]
          exact hw8
        · intro b o e
          rw [upd_ne (ne_of_none e fu)]
          exact sm8 _ _ e
        · exact absurd (decide_eq_true (show 19 ≤ n by omega)) z
    obtain ⟨rfl, hw9, sm9, b3, hu9, hb3⟩ := h4
    have ha9 := sm9 _ _ ha
    have ix : atI [V.bl (n == 18), V.bl (n == 19), V.bl (n == 20), V.bl b3] ((n : Int) - 18) = some (.bl true) := by
      have : n = 18 ∨ n = 19 ∨ n = 20 ∨ n = 21 := by omega
      rcases this with rfl | rfl | rfl | rfl
      · exact atI_nat (j := 0) rfl
      · exact atI_nat (j := 1) rfl
      · exact atI_nat (j := 2) rfl
      · rw [hb3 rfl]; exact atI_nat (j := 3) rfl
    refine ⟨_, rfl, _, rfl, _, 18, rfl, rfl, pu, _, _, _, rfl, rfl, SqL.of hu9, ix, true, rfl, iteT ?_⟩
    refine ⟨_, rfl, a, D, _, _, _, rfl, ha9, kd.ec, fun _ r => r, kd.te, _, rfl, ?_⟩
    rw [decide_eq_false n18]
    refine iteT ?_
    refine ⟨_, rfl, _, rfl, pw, _, _, _, rfl, rfl, SqL.of hw9, atI_nat (by rw [List.getElem?_map, words_at n n22]; rfl), ?_⟩
    exact q _ sm9
end
end TC
/-! name = {k: v for ..}, the name a local: the dict is stored while the comprehension's block still stands. -/
namespace TCA
open PySem PySem.Spec PyProof.Rows L2
section
variable {X : Cx}
theorem sw_dict {kx vx : Expr} {gs : List Comprehension} {scope : Scope} {pos py : Pos} {y : Str} {l : Nat} {env : Env} (hk : env.scope.kind = .function) (hy : env.scope.names.lookup y = some .local) (hl : (py.line == pos.line) = true)
    (ha : (scope.names.any fun (n, k) => n == y && (k == .local || k == .cell)) = false) : swapsWith (.DictComp kx vx gs scope pos) (some (.Name y py)) l env = pure true := by
  have e1 : env.kindOf y = some .local := hy
  have e2 : env.blockKind = .function := by
    unfold Env.blockKind
    rw [hk]
    rfl
  unfold swapsWith
  simp only [e2, e1, ha, Expr.pos, hl]
  rfl
theorem ps_setDc {i : Nat} {y : Str} {py : Pos} {kx vx tg iter : Expr} {ifs : List Expr} {scope : Scope} {own : List (Str × Nat)} {pos spos : Pos} {wi : TI} {g : TG} {tt : TT} {tk tv : TE} (hc : X.calm = true) (hN : X.N.Nodup) (hy : X.N[i]? = some y) (hyl : X.env.scope.names.lookup y = some .local)
    (hsw : swapsWith (.DictComp kx vx [⟨tg, iter, ifs, 0⟩] scope pos) (some (.Name y py)) spos.line X.env = pure true) (hi : PI X tg iter wi) (ok : BlkOk X.N X.env.scope scope own)
    (hg : ∀ (s : Shared) (H : Hp) (C : Addr) (cl : List (Str × Addr)) (fp : List Addr), PG (X.blk s H scope (compEnvC scope cl C X.env) fp) tg g)
    (ht : ∀ (s : Shared) (H : Hp) (C : Addr) (cl : List (Str × Addr)) (fp : List Addr), PTs (X.blk s H scope (compEnvC scope cl C X.env) fp) ifs tt)
    (hk : ∀ (s : Shared) (H : Hp) (C : Addr) (cl : List (Str × Addr)) (fp : List Addr), PE (X.blk s H scope (compEnvC scope cl C X.env) fp) kx tk)
    (hv : ∀ (s : Shared) (H : Hp) (C : Addr) (cl : List (Str × Addr)) (fp : List Addr), PE (X.blk s H scope (compEnvC scope cl C X.env) fp) vx tv)
    (hs : ∀ x, foldedSetIterable iter X.env x = pure x := by intro _; rfl) :
    PS X (.Assign [.Name y py] (.DictComp kx vx [⟨tg, iter, ifs, 0⟩] scope pos) spos) (tAsg (tDc wi g tt tk tv (own.map (·.2))) (gName i)) := by
  refine ⟨fun pins s σ H D I h => ?_⟩
  rw [exec_Assign_Name_used _ _ _ _ hsw]
  refine wpAny_bind (wpAny_standAt (wpAny_bind ?_))
  show wpAny _ X.A (do let _ ← comprehension (.DictComp kx vx [⟨tg, iter, ifs, 0⟩] scope pos) scope X.env (firstIterPos [⟨tg, iter, ifs, 0⟩] pos) newDict false (eval iter X.env) (some (assign (.Name y py) X.env))) _ _ s
  have h' : tDc wi g tt tk tv (own.map (·.2)) σ H (fun x H1 => gName i x σ H1 D.nx) := h
  have core := dc_core (Qf := fun _ s' => SP X pins D .next s') (pos := pos) (pos' := firstIterPos [⟨tg, iter, ifs, 0⟩] pos) (use := some (assign (.Name y py) X.env)) hc hN I hi ok hg ht hk hv hs h' fun d C s' m H' I' q hn fp => by
    show wpAny _ _ (assign (.Name y py) X.env (.ref d)) _ _ _
    refine wpAny_assign_Name (store_ok2 (v := V.ref d) I' hN hy (.inl hyl) rfl (fun s2 I2 ⟨a, sb, ha⟩ => ?_) (.inr hyl))
    obtain ⟨f0, f1, f2, f3, f4, f5⟩ := fp
    have hCa : C ≠ a := by
      rcases ha with z | z
      · rw [z]
        exact f1
      · exact fun e => f4 y a z e.symm
    exact ⟨m, hn.sameBut sb hCa, fun h3 sb3 => ⟨_, H', I2.turned (t' := s2.toks) (fun b o hb e => (sb3.2 b hb).trans e) f0 f1 f3 f4 f5, q⟩⟩
  exact wpAny_bind (thn core fun _ s' hq => wpAny_pure (wpAny_pure hq))
/-! a for over a list or a tuple, whichever it is -/
theorem seqL_at {K : PySem.W.Frag} {H H' : Hp} {a : Addr} {xs : List V} (e : ∀ u, H a = some u → H' a = some u) (h : SqL K H a xs) : SqL K H' a xs := by
  rcases h with (h | ⟨o, h⟩) | h
  · exact .inl (.inl (e _ h))
  · exact .inl (.inr ⟨o, e _ h⟩)
  · exact .inr h
theorem seqT_at {K : PySem.W.Frag} {H H' : Hp} {a : Addr} {xs : List V} (e : ∀ u, H a = some u → H' a = some u) (h : SqT K H a xs) : SqT K H' a xs := by
  rcases h with (h | ⟨o, h⟩) | h
  · exact .inl (.inl (e _ h))
  · exact .inl (.inr ⟨o, e _ h⟩)
  · exact .inr h
def iSeq (K : PySem.W.Frag) (tl : TE) : TI := fun σ H R => tl σ H fun x H1 => ∃ a xs, x = .ref a ∧ (SqL K H1 a xs ∨ SqT K H1 a xs) ∧ ∀ (J : It) (G : Hp → Prop), (∀ H', (∀ u, H1 a = some u → H' a = some u) → G H') → Walk J xs.length G (YAt xs) → R J H1
theorem pi_seq {tg l : Expr} {tl : TE} (hl : PE X l tl) : PI X tg l (iSeq X.K tl) := by
  refine ⟨fun pins s σ H R I h => thn (hl.run pins s σ H _ I h) fun v s1 ⟨x, H1, I1, r1, q1⟩ => ?_⟩
  obtain ⟨a, xs, ex, hq, q⟩ := q1
  subst ex
  cases r1
  have own : ∀ b ∈ [s1.heap.objs.size], FpOk X pins H1 b := fun b hb => by
    rw [List.mem_singleton.mp hb]
    exact I1.fpOk (Nat.le_refl _) (I1.hok.fresh (Nat.le_refl _))
  rcases hq with hq | hq
  · obtain ⟨its, _, pl, _⟩ := I1.list hq
    exact wpAny_pyIter_list pl.isList ⟨s1.heap.objs.size, [s1.heap.objs.size], _, _, H1, rfl, I1.kept (t' := s1.toks) fun b o e => Heap.get?_push_of_some _ e, turn_list a _, ⟨_, Heap.get?_push_size _ rfl, rfl, rfl⟩, own, q _ _ (fun H' e => seqL_at e hq) walk_list⟩
  · obtain ⟨its, _, pl, _⟩ := I1.tuple hq
    exact wpAny_pyIter_tuple (show s1.heap.IsTuple a its.toArray from pl) ⟨s1.heap.objs.size, [s1.heap.objs.size], _, _, H1, rfl, I1.kept (t' := s1.toks) fun b o e => Heap.get?_push_of_some _ e, turn_tuple a _, ⟨_, Heap.get?_push_size _ rfl, rfl, rfl⟩, own, q _ _ (fun H' e => seqT_at e hq) walk_tup⟩
end
end TCA
namespace TC
set_option exponentiation.threshold 20000
open PySem PySem.Spec PyProof.Rows L2 TCA TCX
def binL (n : Nat) : List V := (List.range (n + 1)).map fun m => V.int ((binN n m : Nat) : Int)
theorem fun_at {f : Nat → Int} {n : Nat} {i : Int} (h0 : 0 ≤ i) (h1 : i ≤ n) : atI ((List.range (n + 1)).map fun m => V.int (f m)) i = some (.int (f i.toNat)) := by
  refine at_of (j := i.toNat) (by omega) ?_
  rw [List.getElem?_map, List.getElem?_range (by omega)]
  rfl
theorem ints_at {l : List Int} {i : Nat} {x : V} (h : (l.map V.int)[i]? = some x) : ∃ n : Int, l[i]? = some n ∧ x = .int n := by
  rw [List.getElem?_map] at h
  cases e : l[i]? with
  | none =>
    rw [e] at h
    cases h
  | some n =>
    rw [e] at h
    exact ⟨n, rfl, (Option.some.inj h).symm⟩
section
variable {P : Program} {w : World} {K : PySem.W.Frag} {mg : Str → Option Value} {base : Heap} {f : Addr} {fd : FuncData} {C fI fQ : Addr}
/-! ### binomials -/
def spBinom : Sp := fun vs H Q _ => ∃ n : Nat, vs = [.int n] ∧ n ≤ 40 ∧ ∀ l, H l = none → Q (.ref l) (upd H l (.lst (binL n)))
abbrev nBinom : List Str := ["high", "found", "number"]
theorem scBinom : FnScope nBinom ["high"] (defScope sBinom) := ⟨rfl, rfl, rfl, by decide +kernel, rfl, by decide +kernel, by decide +kernel⟩
theorem ok_binom (F : FnP K "binomials" sBinom f fd) (grange : mg "range" = none) : FnOk P w K mg base CX0 1 f fd ["high"] spBinom := by
  refine F.ok scBinom (fun vs H Q E h => ?_) (fun cdv A outer s H vs Q E hr h => ?_)
  · obtain ⟨_, rfl, _⟩ := h
    rfl
  obtain ⟨n, rfl, n1, q⟩ := h
  refine ⟨_, PSs.nox (pss_cons (ps_set (i := 1) scBinom.nd rfl (.inl rfl) (pe_lst (pa_cons pe_int pa_nil)))
      (pss_cons (ps_for PassesOwn.never rfl (pi_range1 (by rfl) grange (pa_cons (pv 0) pa_nil)) (pg_name (i := 2) scBinom.nd rfl (.inl rfl))
        (pss_one (ps_expr (pe_bm PySem.F.plainAttrs_list PySem.F.slot_list_append PySem.F.type_list_append mt_append (pv 1) (pa_cons (pe_op op_fdiv (pe_op op_mul (pe_ix ix_list (pv 1) (pe_un un_neg pe_int) (fun _ _ => rfl)) (pe_op op_sub (pv 0) (pv 2))) (pe_op op_add (pv 2) pe_int)) pa_nil)))))
      (pss_one (ps_ret (pv 1))))), ?_⟩
  refine ⟨by show 1 ≤ sizeLine; decide, fun l hl => ?_⟩
  refine ⟨_, rfl, n, rfl, by omega, by omega, for_range (fun i σ H' => ∃ (v2 : Option V), σ = [some (.int n), some (.ref l), v2] ∧ H' = upd H l (.lst ((List.range (i + 1)).map fun m => V.int ((binN n m : Nat) : Int))) ∧ i ≤ n) ⟨none, rfl, ?_, by omega⟩ (fun i σ H' hi hP => ?_) (fun σ H' hP => ?_)⟩
  · show _ = upd H l (.lst [V.int ((binN n 0 : Nat) : Int)])
    rw [bin_zero]
    rfl
  · obtain ⟨v2, rfl, rfl, hm⟩ := hP
    have hi' : i < n := by omega
    have hat : atI ((List.range (i + 1)).map fun m => V.int ((binN n m : Nat) : Int)) (-1) = some (.int ((binN n i : Nat) : Int)) := by
      rw [List.range_succ, List.map_append]
      exact atI_last _ _
    refine ⟨_, rfl, .inl ⟨rfl, _, SqL.of upd_same⟩, _, rfl, 1, rfl, l, _, -1, _, rfl, rfl, SqL.of upd_same, hat, _, rfl, _, rfl, n, _, rfl, rfl, _, _, rfl, rfl, .inr ⟨by omega, by omega⟩, _, rfl, _, 1, rfl, rfl, _, _, rfl, rfl, ⟨by show (0 : Int) < 0 + (i : Int) + 1; omega, by show 0 + (i : Int) + 1 < _; omega⟩, l, _, _, rfl, rfl, upd_same, ?_, _, rfl, ?_, by omega⟩
    · rw [List.length_map, List.length_range, sizeLine_eq]
      omega
    · have e : ((binN n i : Nat) : Int) * ((n : Int) - (0 + (i : Int))) / (0 + (i : Int) + 1) = ((binN n (i + 1) : Nat) : Int) := by
        rw [Int.zero_add]
        exact bin_step hi'
      funext b
      by_cases hb : b = l
      · rw [hb, upd_same, upd_same, List.range_succ (n := i + 1), List.map_append]
        congr 3
        show [V.int _] = [V.int _]
        congr 2
      · rw [upd_ne hb, upd_ne hb, upd_ne hb]
  · obtain ⟨v2, rfl, rfl, hm⟩ := hP
    exact ⟨_, rfl, q l hl⟩
end
end TC
namespace TCX
open PySem PySem.Spec PyProof.Rows L2
/-! dicts whose keys are tuples of tuples -/
mutual
/-- the value v is the key k: a whole number, a text, or a tracked tuple of such -/
inductive NKey (H : Hp) : NestedKey → V → Prop
  | int (i : Int) : NKey H (.num i) (.int i)
  | str (x : Str) : NKey H (.text x) (.str x)
  | tup {b : Addr} {vs : List V} {ks : List NestedKey} : H b = some (.tup vs) → NKeys H ks vs → NKey H (.tup ks) (.ref b)
inductive NKeys (H : Hp) : List NestedKey → List V → Prop
  | nil : NKeys H [] []
  | cons {k : NestedKey} {v : V} {ks : List NestedKey} {vs : List V} : NKey H k v → NKeys H ks vs → NKeys H (k :: ks) (v :: vs)
end
mutual
theorem NKey.keeps {H H' : Hp} (ht : ∀ b xs, H b = some (.tup xs) → H' b = some (.tup xs)) : ∀ {k : NestedKey} {v : V}, NKey H k v → NKey H' k v
  | .num _, _, h => by cases h; exact .int _
  | .text _, _, h => by cases h; exact .str _
  | .none, _, h => by cases h
  | .tup ks, _, h => by
    cases h with
    | tup h1 h2 => exact .tup (ht _ _ h1) (NKeys.keeps ht h2)
theorem NKeys.keeps {H H' : Hp} (ht : ∀ b xs, H b = some (.tup xs) → H' b = some (.tup xs)) : ∀ {ks : List NestedKey} {vs : List V}, NKeys H ks vs → NKeys H' ks vs
  | [], _, h => by cases h; exact .nil
  | k :: ks, _, h => by
    cases h with
    | cons h1 h2 => exact .cons (NKey.keeps ht h1) (NKeys.keeps ht h2)
end
mutual
theorem NKey.is {P : Program} {w : World} {H : Hp} {h : Heap} (ok : HOk P w H h) : ∀ {k : NestedKey} {v : V} {u : Value}, NKey H k v → RelV v u → NestedIs h k u
  | .num i, _, u, hk, r => by
    cases hk
    obtain ⟨t, e⟩ := (show ∃ t, u = Value.int i t from r)
    subst e
    exact .int _ _
  | .text x, _, u, hk, r => by
    cases hk
    obtain ⟨t, e⟩ := (show ∃ t, u = Value.str x t from r)
    subst e
    exact .text _ _
  | .none, _, _, hk, _ => by cases hk
  | .tup ks, _, u, hk, r => by
    cases hk with
    | @tup b vs _ h1 h2 =>
      obtain rfl : u = Value.ref b := r
      obtain ⟨_, its, rr, o, g1, g2, n, g3⟩ := (show ObjOk P w H h b (.tup vs) from ok b _ h1)
      exact .tup g1 g2 g3 (by simpa using NKeys.is ok h2 rr)
theorem NKeys.is {P : Program} {w : World} {H : Hp} {h : Heap} (ok : HOk P w H h) : ∀ {ks : List NestedKey} {vs : List V} {us : List Value}, NKeys H ks vs → Vals vs us → NestedAll h ks us
  | [], _, _, hk, r => by
    cases hk
    cases r
    exact .nil
  | k :: ks, _, _, hk, r => by
    cases hk with
    | cons h1 h2 =>
      cases r with
      | cons r1 r2 => exact .cons (NKey.is ok h1 r1) (NKeys.is ok h2 r2)
end
section
variable (P : Program) (w : World)
/-- a dict object with these entries -/
def NdO (a : Addr) (xs : List (NestedKey × Addr × Value)) : HO := .ext fun h => ∃ o es ep, h.get? a = some o ∧ o.ExactDict ∧ o.data = .dict es ep ∧ es.toList = xs.map (entryOfKey (nestedKind P w)) ∧ (xs.map (·.1)).Nodup
abbrev KN (H : Hp) : List (NestedKey × V) → List (NestedKey × Addr × Value) → Prop := Paired fun p q => p.1 = q.1 ∧ (NKey H q.1 (.ref q.2.1) ∧ q.1.depth ≤ 8) ∧ RelV p.2 q.2.2
/-- at d stands a dict of these pairs -/
def NDictAt (H : Hp) (d : Addr) (kvs : List (NestedKey × V)) : Prop := ∃ xs, H d = some (NdO P w d xs) ∧ KN H kvs xs ∧ kvs.length ≤ sizeLine ∧ (d == sysModules) = false
end
section
variable {P : Program} {w : World}
theorem KN.val {H : Hp} {kvs : List (NestedKey × V)} {xs : List (NestedKey × Addr × Value)} (r : KN H kvs xs) (k : NestedKey) : RelO (valV kvs k) ((atKey xs k).map (·.2)) := by
  induction r with
  | nil => exact True.intro
  | @cons p q ps qs h t ih =>
    obtain ⟨h1, _, h2⟩ := h
    by_cases e : p.1 = k
    · have e' : q.1 = k := h1.symm.trans e
      have b : atKey (q :: qs) k = some q.2 := by simp [atKey, List.find?_cons, e']
      rw [valV_pos e, b]; exact h2
    · have e' : ¬ q.1 = k := fun z => e (h1.trans z)
      have b : atKey (q :: qs) k = atKey qs k := by simp [atKey, List.find?_cons, e']
      rw [valV_neg e, b]; exact ih
theorem KN.repl {H : Hp} {kvs : List (NestedKey × V)} {xs : List (NestedKey × Addr × Value)} (r : KN H kvs xs) (k : NestedKey) {y : V} {u : Value} (ry : RelV y u) :
    KN H (kvs.map fun kv => if kv.1 = k then (kv.1, y) else kv) (xs.map (putAt k u)) := by
  induction r with
  | nil => exact .nil
  | @cons p q ps qs h t ih =>
    rw [List.map_cons, List.map_cons]
    refine .cons ?_ ih
    obtain ⟨h1, h2, h3⟩ := h
    unfold putAt
    by_cases e : p.1 = k
    · rw [if_pos e, if_pos (h1.symm.trans e)]; exact ⟨h1, h2, ry⟩
    · rw [if_neg e, if_neg (fun z => e (h1.trans z))]; exact ⟨h1, h2, h3⟩
theorem KN.put {H : Hp} {kvs : List (NestedKey × V)} {xs : List (NestedKey × Addr × Value)} (r : KN H kvs xs) (k : NestedKey) {b : Addr} {y : V} {u : Value} (hb : NKey H k (.ref b)) (hd : k.depth ≤ 8) (ry : RelV y u) :
    KN H (putK kvs k y) (storedH xs k b u) := by
  have e : (kvs.any fun kv => decide (kv.1 = k)) = (atKey xs k).isSome := by
    rw [valV_any, (r.val k).isSome_eq, Option.isSome_map]
  unfold putK storedH
  rw [e]
  by_cases q : (atKey xs k).isSome = true
  · rw [if_pos q, if_pos q]; exact r.repl k ry
  · rw [if_neg q, if_neg q]; exact Paired.snoc r ⟨rfl, ⟨hb, hd⟩, ry⟩
theorem KN.keeps {H H' : Hp} {kvs : List (NestedKey × V)} {xs : List (NestedKey × Addr × Value)} (r : KN H kvs xs) (ht : ∀ b ys, H b = some (.tup ys) → H' b = some (.tup ys)) : KN H' kvs xs :=
  Paired.mapP r fun _ _ z => ⟨z.1, ⟨z.2.1.1.keeps ht, z.2.1.2⟩, z.2.2⟩
theorem NDictAt.keeps {H H' : Hp} {d : Addr} {kvs : List (NestedKey × V)} (h : NDictAt P w H d kvs) (hd : ∀ o, H d = some o → H' d = some o) (ht : ∀ b ys, H b = some (.tup ys) → H' b = some (.tup ys)) : NDictAt P w H' d kvs := by
  obtain ⟨xs, h1, h2, h3, h4⟩ := h
  exact ⟨xs, hd _ h1, KN.keeps h2 ht, h3, h4⟩
theorem nd_of {H : Hp} {h : Heap} {d : Addr} {kvs : List (NestedKey × V)} (ok : HOk P w H h) (e : NDictAt P w H d kvs) : ∃ xs, H d = some (NdO P w d xs) ∧ KN H kvs xs ∧ h.DictOfH (nestedKind P w) d xs ∧ kvs.length ≤ sizeLine ∧ (d == sysModules) = false := by
  obtain ⟨xs, h1, h2, h3, h4⟩ := e
  obtain ⟨⟨o, es, ep, g1, g2, g3, g4, g5⟩, _⟩ := (show ObjOk P w H h d (NdO P w d xs) from ok d _ h1)
  refine ⟨xs, h1, h2, ⟨o, es, ep, g1, g2, g3, g4, fun x hx => ?_, g5⟩, h3, h4⟩
  have all : ∀ {l : List (NestedKey × V)} {m : List (NestedKey × Addr × Value)}, KN H l m → ∀ x ∈ m, (nestedKind P w).is h x.1 x.2.1 := by
    intro l m q
    induction q with
    | nil => intro x hx; exact nomatch hx
    | @cons p q ps qs hq t ih =>
      intro x hx
      rcases List.mem_cons.mp hx with e | hx
      · subst e
        exact ⟨NKey.is ok hq.2.1.1 rfl, hq.2.1.2⟩
      · exact ih x hx
  exact all h2 x hx
/-- what the dict at a holds at the key y -/
def DGetN (P : Program) (w : World) (H : Hp) (a : Addr) (y : V) (r : Option V) : Prop := ∃ kvs k b, NDictAt P w H a kvs ∧ y = .ref b ∧ NKey H k (.ref b) ∧ k.depth ≤ 8 ∧ r = valV kvs k
end
section
variable {X : Cx} {pins : List (Addr × Obj)} {σ : L2.St} {H : Hp} {s : Shared} {a : Addr} {y v : V} {u r : Value} {o : Option V} {A : Around} {E : Value → Shared → Prop}
theorem nroom (hu : A.units + 64 < cLine) : (nestedKind X.prog X.w).room A.in1 := by
  show A.units + 1 + 8 < cLine
  omega
theorem n_getItem {Q : Value → Shared → Prop} (hu : A.units + 64 < cLine) (I : Inv X pins σ H s) (g : DGetN X.prog X.w H a y (some v)) (ry : RelV y u) (h : ∀ w' s', Inv X pins σ H s' → RelV v w' → Q w' s') :
    wpAny (model X.prog X.w) A (getItem (.ref a) u) Q E s := by
  obtain ⟨kvs, k, b, e, ey, hk, h8, l⟩ := g
  subst ey
  cases (show u = Value.ref b from ry)
  obtain ⟨xs, _, rel, dd, z, hd⟩ := nd_of I.hok e
  obtain ⟨w', hw, rw'⟩ := RelO.some_of (v := v) (o := (atKey xs k).map (·.2)) (by rw [l]; exact KN.val rel k)
  obtain ⟨p, hp, hp2⟩ := Option.map_eq_some_iff.mp hw
  refine wpAny_getItem_heap (knd := nestedKind X.prog X.w) (nroom hu) ⟨NKey.is I.hok hk rfl, h8⟩ dd hp ?_
  rw [hp2]
  exact h w' _ (I.tok _) rw'
theorem n_in {Q : Value → Shared → Prop} (hu : A.units + 64 < cLine) (I : Inv X pins σ H s) (g : DGetN X.prog X.w H a y o) (ry : RelV y u) (h : ∀ s', Inv X pins σ H s' → Q (.bool o.isSome) s') :
    wpAny (model X.prog X.w) A (compareOp .In u (.ref a)) Q E s := by
  obtain ⟨kvs, k, b, e, ey, hk, h8, l⟩ := g
  subst ey
  cases (show u = Value.ref b from ry)
  obtain ⟨xs, _, rel, dd, z, hd⟩ := nd_of I.hok e
  refine wpAny_in_heap (knd := nestedKind X.prog X.w) (nroom hu) ⟨NKey.is I.hok hk rfl, h8⟩ hd dd ?_
  have q := (KN.val rel k).isSome_eq
  rw [Option.isSome_map] at q
  rw [← q, ← l]
  exact h _ (I.tok _)
theorem n_notIn {Q : Value → Shared → Prop} (hu : A.units + 64 < cLine) (I : Inv X pins σ H s) (g : DGetN X.prog X.w H a y o) (ry : RelV y u) (h : ∀ s', Inv X pins σ H s' → Q (.bool (!o.isSome)) s') :
    wpAny (model X.prog X.w) A (compareOp .NotIn u (.ref a)) Q E s := by
  obtain ⟨kvs, k, b, e, ey, hk, h8, l⟩ := g
  subst ey
  cases (show u = Value.ref b from ry)
  obtain ⟨xs, _, rel, dd, z, hd⟩ := nd_of I.hok e
  refine wpAny_notIn_heap (knd := nestedKind X.prog X.w) (nroom hu) ⟨NKey.is I.hok hk rfl, h8⟩ hd dd ?_
  have q := (KN.val rel k).isSome_eq
  rw [Option.isSome_map] at q
  rw [← q, ← l]
  exact h _ (I.tok _)
/-- a[y] = v: the heap behind it -/
def DPutN (P : Program) (w : World) (H : Hp) (a : Addr) (y v : V) (Q : Hp → Prop) : Prop := ∃ kvs k b, NDictAt P w H a kvs ∧ y = .ref b ∧ NKey H k (.ref b) ∧ k.depth ≤ 8 ∧ kvs.length < sizeLine ∧
  ∀ H', (∀ c, c ≠ a → H' c = H c) → NDictAt P w H' a (putK kvs k v) → Q H'
theorem nd_ok {P : Program} {w : World} {H' : Hp} {h' : Heap} {xs : List (NestedKey × Addr × Value)} (dd : h'.DictOfH (nestedKind P w) a xs) : ObjOk P w H' h' a (NdO P w a xs) := by
  obtain ⟨q, es, ep, hq, h2, h3, h4, _, h5⟩ := dd
  refine ⟨⟨q, es, ep, hq, h2, h3, h4, h5⟩, ⟨q, hq⟩, fun h1 h2' p k => ?_⟩
  obtain ⟨q, es, ep, hq, h2, h3, h4, h5⟩ := p
  exact ⟨q, es, ep, k _ hq, h2, h3, h4, h5⟩
theorem n_setItem {R : Hp → Prop} {Q : Unit → Shared → Prop} (hu : A.units + 64 < cLine) (I : Inv X pins σ H s) (g : DPutN X.prog X.w H a y v R) (ry : RelV y u) (rv : RelV v r) (h : ∀ H' s', Inv X pins σ H' s' → R H' → Q () s') :
    wpAny (model X.prog X.w) A (setItem (.ref a) u r) Q E s := by
  obtain ⟨kvs, k, b, e, ey, hk, h8, l, q⟩ := g
  subst ey
  cases (show u = Value.ref b from ry)
  obtain ⟨xs, hx, rel, dd, z, hd⟩ := nd_of I.hok e
  have hz : xs.length ≤ sizeLine := by rw [← Paired.length rel]; exact z
  have hl : (putK kvs k v).length ≤ sizeLine := by have := length_putK kvs k v; omega
  refine wpAny_setItem_heap (knd := nestedKind X.prog X.w) (hsz := hz) (nroom hu) ⟨NKey.is I.hok hk rfl, h8⟩ dd fun h' dd' hs => ?_
  have he : ∃ q, h'.get? a = some q := let ⟨q, _, _, hq, _⟩ := dd'; ⟨q, hq⟩
  have nt : ∀ c ys, H c = some (.tup ys) → c ≠ a := fun c ys ec => ne_of ec hx (fun z => nomatch z)
  have I' := d_write (t' := s.toks) (ob := NdO X.prog X.w a (storedH xs k b r)) I (by rw [hx]; exact True.intro) hs he (nd_ok dd')
  refine h _ _ (I'.tok _) (q _ (fun c hc => upd_ne hc) ⟨storedH xs k b r, upd_same, (KN.put rel k hk h8 rv).keeps fun c ys ec => ?_, hl, hd⟩)
  rw [upd_ne (nt c ys ec)]
  exact ec
end
/-! ### rules -/
/-- {} of such keys -/
def tDNewN (P : Program) (w : World) : TE := fun _ H Q => ∀ p H', H p = none → (∀ c, c ≠ p → H' c = H c) → NDictAt P w H' p [] → Q (.ref p) H'
def tDGetN (P : Program) (w : World) (td ty : TE) : TE := fun σ H Q => td σ H fun x H1 => ty σ H1 fun y H2 => ∃ a v, x = .ref a ∧ DGetN P w H2 a y (some v) ∧ Q v H2
def tDInN (P : Program) (w : World) (ty td : TE) : TE := fun σ H Q => ty σ H fun y H1 => td σ H1 fun x H2 => ∃ a o, x = .ref a ∧ DGetN P w H2 a y o ∧ Q (.bl o.isSome) H2
def tDNotInN (P : Program) (w : World) (ty td : TE) : TE := fun σ H Q => ty σ H fun y H1 => td σ H1 fun x H2 => ∃ a o, x = .ref a ∧ DGetN P w H2 a y o ∧ Q (.bl (!o.isSome)) H2
def sDPutN (P : Program) (w : World) (td ty tv : TE) : TS := fun D σ H => tv σ H fun v H1 => td σ H1 fun x H2 => ty σ H2 fun y H3 => ∃ a, x = .ref a ∧ DPutN P w H3 a y v fun H4 => D.nx σ H4
section
variable {X : Cx} {o i e value : Expr} {pos pos' tpos : Pos} {td ty tv : TE}
theorem pe_dnewN : PE X (.Dict [] [] pos) (tDNewN X.prog X.w) := ⟨fun pins s σ H Q I h => by
  have hn := I.hok.fresh (Nat.le_refl s.heap.objs.size)
  have nd : (s.heap.objs.size == sysModules) = false := beq_eq_false_iff_ne.mpr (Ne.symm (Nat.ne_of_lt I.big))
  refine wpAny_Dict_empty ⟨.ref s.heap.objs.size, _, I.laid (a := s.heap.objs.size) (o := NdO X.prog X.w s.heap.objs.size []) (t' := s.toks) (fun _ _ q => Heap.get?_push_of_some _ q) (Nat.le_refl _) ?_, rfl, h _ _ hn (fun c hc => upd_ne hc) ⟨[], upd_same, .nil, Nat.zero_le _, nd⟩⟩
  exact ⟨⟨_, #[], 0, Heap.get?_push_size _ rfl, ⟨rfl, rfl, rfl⟩, rfl, rfl, List.nodup_nil⟩, ⟨_, Heap.get?_push_size _ rfl⟩, fun h1 h2' p k => by
    obtain ⟨q, es, ep, hq, h2, h3, h4, h5⟩ := p
    exact ⟨q, es, ep, k _ hq, h2, h3, h4, h5⟩⟩⟩
theorem ndict_typeIs {pins : List (Addr × Obj)} {σ : L2.St} {H : Hp} {s : Shared} {a : Addr} {y : V} {o : Option V} (I : Inv X pins σ H s) (g : DGetN X.prog X.w H a y o) : s.TypeIs (.ref a) "dict" := by
  obtain ⟨kvs, k, b, e, _⟩ := g
  obtain ⟨xs, _, _, dd, _⟩ := nd_of I.hok e
  exact dd.typeIs
theorem pe_dgetN (hu : X.A.units + 64 < cLine) (ho : PE X o td) (hi : PE X i ty) (hs : NoSl i) : PE X (.Subscript o i pos) (tDGetN X.prog X.w td ty) := by
  refine ⟨fun pins s σ H Q I h => ?_⟩
  refine subD_of PySem.F.slot_dict_getitem.lookup hs (thn (ho.run pins s σ H _ I h) fun u s1 ⟨x, H1, I1, rx, q1⟩ => thn (hi.run pins s1 σ H1 _ I1 q1) fun iv s2 ⟨y, H2, I2, ry, a, v, ex, g, q2⟩ => ?_)
  subst ex
  obtain rfl : u = Value.ref a := rx
  exact ⟨ndict_typeIs I2 g, n_getItem hu I2 g ry fun w' s3 I3 rw' => ⟨v, H2, I3, rw', q2⟩⟩
theorem pc_dinN (hu : X.A.units + 64 < cLine) (hi : PE X i ty) (ho : PE X o td) : PC X .In i o (tDInN X.prog X.w ty td) := by
  refine ⟨fun pins s σ H Q I h => ?_⟩
  refine thn (hi.run pins s σ H _ I h) fun iv s1 ⟨y, H1, I1, ry, q1⟩ => thn (ho.run pins s1 σ H1 _ I1 q1) fun u s2 ⟨x, H2, I2, rx, a, ov, ex, g, q2⟩ => ?_
  subst ex
  obtain rfl : u = Value.ref a := rx
  exact n_in hu I2 g ry fun s3 I3 => ⟨.bl ov.isSome, H2, I3, rfl, q2⟩
theorem pc_dnotinN (hu : X.A.units + 64 < cLine) (hi : PE X i ty) (ho : PE X o td) : PC X .NotIn i o (tDNotInN X.prog X.w ty td) := by
  refine ⟨fun pins s σ H Q I h => ?_⟩
  refine thn (hi.run pins s σ H _ I h) fun iv s1 ⟨y, H1, I1, ry, q1⟩ => thn (ho.run pins s1 σ H1 _ I1 q1) fun u s2 ⟨x, H2, I2, rx, a, ov, ex, g, q2⟩ => ?_
  subst ex
  obtain rfl : u = Value.ref a := rx
  exact n_notIn hu I2 g ry fun s3 I3 => ⟨.bl (!ov.isSome), H2, I3, rfl, q2⟩
theorem ps_dputN (hu : X.A.units + 64 < cLine) (ho : PE X o td) (hi : PE X i ty) (hv : PE X value tv) (hs : swapsWith value (some (.Subscript o i pos')) pos.line X.env = pure false) :
    PS X (.Assign [.Subscript o i pos'] value pos) (sDPutN X.prog X.w td ty tv) := by
  refine ⟨fun pins s σ H D I h => ?_⟩
  refine wpAny_Assign_Subscript (thn (hv.run pins s σ H _ I h) fun r s1 ⟨v, H1, I1, rv, q1⟩ => thn (ho.run pins s1 σ H1 _ I1 q1) fun u s2 ⟨x, H2, I2, rx, q2⟩ => thn (hi.run pins s2 σ H2 _ I2 q2) fun iv s3 ⟨y, H3, I3, ry, a, ex, g⟩ => ?_) hs
  subst ex
  obtain rfl : u = Value.ref a := rx
  exact n_setItem hu I3 g ry rv fun H4 s4 I4 q4 => ⟨σ, H4, I4, q4⟩
end
end TCX
/-! Dicts whose keys are tuples: their items walked, comprehensions that make such dicts. -/
namespace TCX
open PySem PySem.Spec PyProof.Rows L2
section
variable {X : Cx} {pins : List (Addr × Obj)} {σ : L2.St} {H : Hp} {s : Shared} {d : Addr} {o : Obj}
/-- the entries of a locked dict of tuple keys, with their values -/
theorem frzTV {kvs : List (List Key × V)} (I : Inv X pins σ H s) (h : H d = some (.frz o (.dT kvs))) :
    (d == sysModules) = false ∧ ∃ (es : Array DictEntry) (ep : Nat), o.data = .dict es ep ∧ s.heap.DictRaw d es ep ∧ es.size = kvs.length ∧
      ∀ (i : Nat) (k : List Key) (v : V), kvs[i]? = some (k, v) → ∃ (hi : i < es.size) (q : Addr), es[i].key = .ref q ∧ H q = some (.tup (k.map kV)) ∧ RelV v es[i].val := by
  have hok := I.hok d _ h
  obtain ⟨g0, z, hs, xs, pr, o', es, ep, ho, hx, hdt, he, _⟩ := hok
  rw [g0] at ho
  cases ho
  have sz : es.size = kvs.length := by
    have l1 : es.size = xs.length := size_of_entries he
    have l2 : kvs.length = xs.length := Paired.length pr
    omega
  refine ⟨hs, es, ep, hdt, ⟨o, g0, hx, hdt⟩, sz, fun i k v e => ?_⟩
  obtain ⟨b, hb, e1, e2, e3⟩ := paired_get pr e
  have q := entry_at he i
  rw [hb] at q
  obtain ⟨hi, q2⟩ := Array.getElem?_eq_some_iff.mp q
  exact ⟨hi, b.2.1, by rw [q2] <;> rfl, e2, by rw [q2]; exact e3⟩
end
/-- for (k, v) of a locked dict of tuple keys: each time a new pair of the key's own tuple and its value -/
def Itit (d : Addr) (o : Obj) (kvs : List (List Key × V)) : It where
  go := fun i H => H d = some (.frz o (.dT kvs)) ∧ i < kvs.length
  yld := fun i H x H' => ∃ (T : Addr) (k : List Key) (v : V) (q : Addr), kvs[i]? = some (k, v) ∧ x = .ref T ∧ H T = none ∧ H q = some (.tup (k.map kV)) ∧ H' = upd H T (.tup [.ref q, v])
  stop := fun i H => H d = some (.frz o (.dT kvs)) ∧ kvs.length ≤ i
theorem turn_itemsT {P : Program} {w : World} {K : PySem.W.Frag} {d : Addr} {o : Obj} {kvs : List (List Key × V)} {elts : List Expr} {kk : Nat} {tpos : Pos} {ep : Nat} {es : Array DictEntry} (J : Addr) (dat : o.data = .dict es ep) (sz : es.size = kvs.length) :
    Turn P w K (.Tuple elts kk tpos) (Itit d o kvs) [J] J (fun i h => ∃ u1 u2, IsItemIter h J d i es.size ep u1 u2) := by
  have same : ∀ {es' : Array DictEntry} {ep' : Nat}, o.data = .dict es' ep' → es' = es ∧ ep' = ep := fun z => by
    rw [dat] at z
    cases z
    exact ⟨rfl, rfl⟩
  refine ⟨by simp, fun i h st b hb => ?_, fun i h h' st k => ?_, ?_, ?_, fun A i s Q E st h => ?_⟩
  · obtain rfl : b = J := by simpa using hb
    obtain ⟨u1, u2, e⟩ := st
    exact ⟨_, e, fun v z => nomatch z⟩
  · obtain ⟨u1, u2, e⟩ := st
    exact ⟨u1, u2, k J (by simp) _ e⟩
  · intro X h1 h2 h3 calm i pins s σ H E I fp st go
    subst h1 h2 h3
    obtain ⟨hd, hi⟩ := go
    obtain ⟨ns, es2, ep2, dat2, raw, _, ent⟩ := frzTV I hd
    obtain ⟨rfl, rfl⟩ := same dat2
    obtain ⟨⟨k, v⟩, hkv⟩ : ∃ p, kvs[i]? = some p := ⟨kvs[i], List.getElem?_eq_getElem hi⟩
    obtain ⟨hi2, q, ek, eq, ev⟩ := ent i k v hkv
    obtain ⟨u1, u2, hit⟩ := st
    have lt : J < s.heap.objs.size := Heap.lt_size hit
    refine wpAny_pyNext_items_item_raw hit raw hi2 fun g1 out new1 _ kp => ⟨_, rfl, wpAny_letOwnedTupleGo_items (s := { s with heap := g1 }) out fun g2 hit2 sb => ?_⟩
    have new2 := (sb.2 _ (Nat.ne_of_gt lt)).trans new1
    have ok2 : ObjOk X.prog X.w (upd H s.heap.objs.size (.tup [.ref q, v])) g2 s.heap.objs.size (.tup [.ref q, v]) :=
      ⟨by show 2 ≤ sizeLine; decide, [es2[i].key, es2[i].val], .cons ek (.cons ev .nil), ⟨_, new2, rfl, _, rfl⟩⟩
    have I2 := I.turnedNew (t' := s.toks) (ch := [J]) (fun b ob hb e => (sb.2 b (by simpa using hb)).trans (kp b ob (by simpa using hb) e)) fp (Nat.le_refl _) ok2
    refine ⟨.ref s.heap.objs.size, _, I2, rfl, ⟨_, k, v, q, hkv, rfl, I.hok.fresh (Nat.le_refl _), eq, rfl⟩, ⟨_, _, hit2⟩, fun b hb => ?_⟩
    obtain rfl : b = J := by simpa using hb
    rw [upd_ne (Nat.ne_of_lt lt)]
    exact (fp b (by simp)).1
  · intro X h1 h2 h3 calm i pins s σ H E I fp st stop
    subst h1 h2 h3
    obtain ⟨hd, hi⟩ := stop
    obtain ⟨f0, f1, f2, f3, f4, f5⟩ := fp J (by simp)
    obtain ⟨ns, es2, ep2, dat2, raw, _, ent⟩ := frzTV I hd
    obtain ⟨rfl, rfl⟩ := same dat2
    obtain ⟨u1, u2, hit⟩ := st
    exact wpAny_pyNext_items_end_raw (I.ok.hd calm) hit raw (by omega) fun g eb => ⟨rfl, I.turned (t' := s.toks) (fun b ob hb e => eb b ob hb e) f0 f1 f3 f4 f5⟩
  · obtain ⟨_, _, e⟩ := st
    exact PySem.W.kcp_self e h
/-- d.items() of a locked dict of tuple keys -/
def iItemsT (td : TE) : TI := fun σ H R => td σ H fun x H1 => ∃ d o kvs, x = .ref d ∧ H1 d = some (.frz o (.dT kvs)) ∧ R (Itit d o kvs) H1
theorem pi_itemsT {X : Cx} {e : Expr} {td : TE} {apos cpos : Pos} {elts : List Expr} {kk : Nat} {tpos : Pos} (he : PE X e td) (hb : attributeBase e "items" X.env (eval e X.env) = eval e X.env := by rfl) (hl : (apos.endLine == cpos.line) = true := by rfl) :
    PI X (.Tuple elts kk tpos) (.Call (.Attribute e "items" apos) [] [] cpos) (iItemsT td) := by
  refine ⟨fun pins s σ H R I h => wpAny_Call_method (T := "dict") (id := "dict.items") hb rfl hl F.plainAttrs_dict F.slot_dict_items F.type_dict_items (thn (he.run pins s σ H _ I h) fun u s1 z => ?_)⟩
  obtain ⟨x, H1, I1, rx, d, o, kvs, ex, hd, q⟩ := z
  subst ex
  obtain rfl : u = Value.ref d := rx
  obtain ⟨ns, es, ep, dat, raw, sz, _⟩ := frzTV I1 hd
  obtain ⟨ob, ho, hx, hdat⟩ := id raw
  refine ⟨⟨ob, ho, hx.1⟩, fun ob' ho' => ?_, ?_⟩
  · cases ho'
    exact ⟨ob, ho, hx.2.1⟩
  have I2 : Inv X pins σ H1 { s1 with heap := s1.heap.push { cls := .type "dict_items", data := .fields #[.ref d] } } := I1.kept (t' := s1.toks) fun b ob q => Heap.get?_push_of_some _ q
  have raw2 : (s1.heap.push { cls := .type "dict_items", data := .fields #[.ref d] }).DictRaw d es ep := ⟨ob, Heap.get?_push_of_some _ ho, hx, hdat⟩
  have fin : wpAny (model X.prog X.w) X.A (pyIter (.ref s1.heap.objs.size)) (PIE X pins σ (.Tuple elts kk tpos) R) X.xe { s1 with heap := s1.heap.push { cls := .type "dict_items", data := .fields #[.ref d] } } :=
    wpAny_pyIter_items_raw (d := d) ⟨_, Heap.get?_push_size _ rfl, rfl, rfl⟩ raw2 (pi_one (tk := s1.toks) I2 _ (turn_itemsT _ dat sz) ⟨.none, .none, Heap.get?_push_size _ rfl⟩ q)
  exact method_meetsIn F.slot_dict_items F.entry_dict_items rfl (PySem.evalArgs_none ⟨rfl, ⟨ob, ho, hx.1⟩, F.args_dict_items_1 _, _, meets_dict_items_raw d ns, ⟨es, ep, raw⟩, fin⟩)
end TCX
/-! Dict comprehensions whose keys are tuples. -/
namespace TCX
open PySem PySem.Spec PyProof.Rows L2
/-- how a new dict starts, and what a store into it does -/
structure Puts (P : Program) (w : World) (A : Around) (o0 : HO) (put : Addr → V → V → Hp → (Hp → Prop) → Prop) : Prop where
  new : ∀ (h : Heap) (H : Hp), sysModules < h.objs.size → ObjOk P w H (h.push { cls := .type "dict", data := .dict #[] }) h.objs.size o0
  set : ∀ (Y : Cx), Y.prog = P → Y.w = w → ∀ {pins : List (Addr × Obj)} {σ : L2.St} {H : Hp} {s : Shared} {D : Addr} {y z : V} {u r : Value} {R : Hp → Prop} {Q : Unit → Shared → Prop} {E : Value → Shared → Prop}, Inv Y pins σ H s → RelV y u → RelV z r → put D y z H R →
    (∀ H' s', Inv Y pins σ H' s' → R H' → Q () s') → wpAny (model P w) A (dictSet D u r) Q E s
/-- {k: v for target in iter if ..}: D the new dict -/
def tDcG (o0 : HO) (put : Addr → V → V → Hp → (Hp → Prop) → Prop) (wi : TI) (g : TG) (tt : TT) (tk tv : TE) (vs : List Nat) : TE := fun σ H Q => wi σ H fun J H1 => ∀ D, H1 D = none → ∃ W : Nat → Nat → Hp → Prop, (∃ m, W 0 m (upd H1 D o0)) ∧ ∀ i m H, W i m H →
  (J.stop i H ∧ Q (.ref D) H) ∨ (J.go i H ∧ ∃ Nx : Hp → Prop, (∀ H', Nx H' → ∃ m', m' < m ∧ W (i + 1) m' H') ∧ ∀ x H', J.yld i H x H' →
    g x (wipe σ vs) H' fun σ2 H2 => wipe σ2 vs = wipe σ vs ∧ tt σ2 H2 fun b H3 => if b = true then tk σ2 H3 fun y H4 => tv σ2 H4 fun z H5 => put D y z H5 Nx else Nx H3)
section
variable {X : Cx} {o0 : HO} {put : Addr → V → V → Hp → (Hp → Prop) → Prop} {kx vx tg iter : Expr} {ifs : List Expr} {scope : Scope} {own : List (Str × Nat)} {wi : TI} {g : TG} {tt : TT} {tk tv : TE}
theorem pe_dcG {pos : Pos} (B : Puts X.prog X.w X.A o0 put) (calm : X.calm = true) (nd : X.N.Nodup) (hi : PI X tg iter wi) (ok : BlkOk X.N X.env.scope scope own)
    (hg : ∀ (z : Shared) (G : Hp) (C : Addr) (cl : List (Str × Addr)) (fp : List Addr), PG (X.blk z G scope (compEnvC scope cl C X.env) fp) tg g)
    (ht : ∀ (z : Shared) (G : Hp) (C : Addr) (cl : List (Str × Addr)) (fp : List Addr), PTs (X.blk z G scope (compEnvC scope cl C X.env) fp) ifs tt)
    (hk : ∀ (z : Shared) (G : Hp) (C : Addr) (cl : List (Str × Addr)) (fp : List Addr), PE (X.blk z G scope (compEnvC scope cl C X.env) fp) kx tk)
    (hv : ∀ (z : Shared) (G : Hp) (C : Addr) (cl : List (Str × Addr)) (fp : List Addr), PE (X.blk z G scope (compEnvC scope cl C X.env) fp) vx tv)
    (hs : ∀ x, foldedSetIterable iter X.env x = pure x := by intro _; rfl) :
    PE X (.DictComp kx vx [⟨tg, iter, ifs, 0⟩] scope pos) (tDcG o0 put wi g tt tk tv (own.map (·.2))) := by
  refine ⟨fun pins s σ H Q I h => ?_⟩
  rw [arm_eval_DictComp]
  have cells : ∀ y ∈ scope.names, y.2 = .free → ∃ c, X.env.cells.lookup y.1 = some c := fun y hy e => (ok.free y hy e).elim (fun k => I.ok.has _ (.inl k)) fun k => I.ok.has _ (.inr k)
  refine wpAny_comprehension_free rfl hs (closure_ok cells) ok.kind (fun y hy e => by rw [ok.uniq y hy, e]) (thn (hi.run pins s σ H _ I h) fun xv z1 hx => thn hx fun itv z2 h2 => ?_)
  obtain ⟨it, fp, tn, J, H2, e, I2, T, st2, f2, q⟩ := h2
  subst e
  refine wpAny_newObj_type (newEnv_comp ?_)
  have Dn : H2 z2.heap.objs.size = none := I2.hok.fresh (Nat.le_refl _)
  obtain ⟨W, ⟨m0, w0⟩, turn⟩ := q _ Dn
  have I3 : Inv X pins σ (upd H2 z2.heap.objs.size o0) { z2 with heap := z2.heap.push { cls := .type "dict", data := .dict #[] } } := I2.laid (t' := z2.toks) (fun b o e => Heap.get?_push_of_some _ e) (Nat.le_refl _) (B.new z2.heap _ I2.big)
  have small : ∀ b ∈ fp, b < z2.heap.objs.size := fun b hb => let ⟨o, e, _⟩ := T.obj _ _ st2 b hb; Heap.lt_size e
  generalize eD : z2.heap.objs.size = D at *
  generalize eG : upd H2 D o0 = G at *
  generalize e3 : ({ z2 with heap := z2.heap.push { cls := .type "dict", data := .dict #[] } } : Shared) = z3 at *
  have h3 : z3.heap = z2.heap.push { cls := .type "dict", data := .dict #[] } := by rw [← e3]
  have f3 : ∀ b ∈ fp, FpOk X pins G b ∧ b < z3.heap.objs.size := fun b hb => by
    refine ⟨⟨?_, (f2 b hb).2⟩, by rw [h3, Heap.size_push, eD]; exact Nat.lt_succ_of_lt (small b hb)⟩
    rw [← eG, upd_ne (Nat.ne_of_lt (small b hb))]
    exact (f2 b hb).1
  have st3 : tn 0 z3.heap := T.keep _ _ _ st2 fun b _ o e => by rw [h3]; exact Heap.get?_push_of_some _ e
  have I4 := block_start I3 ok nd f3
  have pg := hg z3 G z3.heap.objs.size (cellsFrom (z3.heap.objs.size + 1) scope.names (cloFrom X.env.cells scope.names [])) fp
  have pt := ht z3 G z3.heap.objs.size (cellsFrom (z3.heap.objs.size + 1) scope.names (cloFrom X.env.cells scope.names [])) fp
  have pk := hk z3 G z3.heap.objs.size (cellsFrom (z3.heap.objs.size + 1) scope.names (cloFrom X.env.cells scope.names [])) fp
  have pv := hv z3 G z3.heap.objs.size (cellsFrom (z3.heap.objs.size + 1) scope.names (cloFrom X.env.cells scope.names [])) fp
  show codeAny _ _ (.compStart (.DictComp kx vx [⟨tg, iter, ifs, 0⟩] scope pos) 0 (.ref it) (.ref D) (compEnvC scope (cellsFrom (z3.heap.objs.size + 1) scope.names (cloFrom X.env.cells scope.names [])) z3.heap.objs.size X.env)) (compPost (model X.prog X.w) X.A X.xe none (EP X pins σ Q) (.ref D) z3.heap.objs.size) { z3 with heap := pushCells (z3.heap.push { cls := .type "dict", data := .dict #[] }) scope.names }
  have clear : ∀ b ∈ fp, G b = none := fun b hb => (f3 b hb).1.1
  generalize eE : compEnvC scope (cellsFrom (z3.heap.objs.size + 1) scope.names (cloFrom X.env.cells scope.names [])) z3.heap.objs.size X.env = ce at I4 pg pt pk pv ⊢
  have locE : ce.locals = z3.heap.objs.size := by rw [← eE] <;> rfl
  generalize e4 : ({ z3 with heap := pushCells (z3.heap.push { cls := .type "dict", data := .dict #[] }) scope.names } : Shared) = z4 at I4 ⊢
  have st4 : tn 0 z4.heap := T.keep _ _ _ st3 fun b _ o e => by rw [← e4]; exact pushCells_keeps _ _ _ _ (Heap.get?_push_of_some _ e)
  have still : ∀ {ρ : L2.St} {M : Hp} {y : Shared}, Inv (X.blk z3 G scope ce fp) [] ρ M y → (∀ b ∈ fp, M b = none) → ∀ b ∈ fp, FpOk (X.blk z3 G scope ce fp) [] M b := fun I' hn b hb =>
    ⟨hn b hb, (I'.ok.exf b hb).1, I'.ok.exfs b hb, .inl hb, fun x c e => (I'.ok.exf b hb).2 x c e, fun p hp => absurd (show p ∈ ([] : List (Addr × Obj)) ++ [] from hp) (by simp)⟩
  have loop : codeAny (model X.prog X.w) X.A (.compLoop (.DictComp kx vx [⟨tg, iter, ifs, 0⟩] scope pos) 0 (.ref it) (.ref D) ce) (compPost (model X.prog X.w) X.A X.xe none (EP X pins σ Q) (.ref D) z3.heap.objs.size) z4 := by
    refine compLoop_anyD (fun n y => ∃ i M, Inv (X.blk z3 G scope ce fp) [] (wipe σ (own.map (·.2))) M y ∧ tn i y.heap ∧ (∀ b ∈ fp, M b = none) ∧ W i n M) (fun n y5 hy => ?_) m0 ⟨0, G, I4, st4, clear, w0⟩
    obtain ⟨i, M5, I5, st5, n5, w5⟩ := hy
    rcases turn i n M5 w5 with ⟨stop, qq⟩ | ⟨go, Nx, hNx, step⟩
    · refine thnF (T.done (X.blk z3 G scope ce fp) rfl rfl rfl calm i [] y5 _ M5 (fun _ _ => False) I5 (still I5 n5) st5 stop) fun r y6 ⟨er, I6⟩ => ?_
      subst er
      have I7 : Inv X pins σ M5 y6 := I3.call' (ch := fp) I6.os I6.base I6.hok I6.bare fun b hb => let F := (f3 b hb).1.2; ⟨F.2.2.1, F.1, F.2.2.2.1, F.2.2.2.2⟩
      have freeC : M5 z3.heap.objs.size = none := by
        have z : M5 ce.locals = none := I6.free
        rw [locE] at z
        exact z
      obtain ⟨m, hn, _⟩ := I6.loc
      have hn2 : y6.heap.Ns ce.locals m := hn
      rw [locE] at hn2
      refine ⟨m, hn2, fun g' sb => ?_⟩
      obtain ⟨f0, f1, f2', f3', f4, f5⟩ := I3.fpOk (Nat.le_refl _) freeC
      exact ⟨.ref D, M5, I7.turned (t' := y6.toks) (fun b o hb e => (sb.2 b hb).trans e) f0 f1 f3' f4 f5, rfl, qq⟩
    · refine thnF (T.item (X.blk z3 G scope ce fp) rfl rfl rfl calm i [] y5 _ M5 (fun _ _ => False) I5 (still I5 n5) st5 go) fun r y6 ⟨u, er, h6⟩ => ?_
      subst er
      refine thnF h6 fun _ y7 ⟨x, M7, I7, r7, yl, st7, n7⟩ => ?_
      refine thnF (pg.run _ y7 _ M7 x u _ (I7.pinned (still I7 n7) (T.obj _ _ st7)) r7 (step x M7 yl)) fun _ y8 ⟨ρ, M8, I8, hw, q8⟩ => ?_
      refine thnF (pt.run _ y8 ρ M8 _ I8 q8) fun b y9 ⟨M9, I9, q9⟩ => ?_
      have fin : ∀ {y : Shared} {M : Hp}, Inv (X.blk z3 G scope ce fp) ([] ++ pinsAt fp y7.heap) ρ M y → Nx M → ∃ m, m < n ∧ ∃ i M, Inv (X.blk z3 G scope ce fp) [] (wipe σ (own.map (·.2))) M y ∧ tn i y.heap ∧ (∀ b ∈ fp, M b = none) ∧ W i m M := fun {y M} I' nx => by
        obtain ⟨m', hm, w'⟩ := hNx M nx
        have keep : ∀ b ∈ fp, ∀ o, y7.heap.get? b = some o → y.heap.get? b = some o ∧ M b = none := fun b hb o e => by
          have z := I'.pin (b, o) (List.mem_append_right _ (List.mem_append_right _ (mem_pinsAt hb e)))
          exact ⟨z.1, z.2.1⟩
        have len : (wipe σ (own.map (·.2))).length = ρ.length := by rw [← hw, wipe_length]
        refine ⟨m', hm, i + 1, M, (I'.unpinned (pins := [])).weak len (fun j v e => ?_), T.keep _ _ _ st7 fun b hb o e => (keep b hb o e).1, fun b hb => ?_, w'⟩
        · rw [← hw] at e
          exact (wipe_some e).1
        · obtain ⟨o, e, _⟩ := T.obj _ _ st7 b hb
          exact (keep b hb o e).2
      cases b with
      | false =>
        simp only [Bool.false_eq_true, if_false] at q9 ⊢
        exact fin I9 q9
      | true =>
        simp only [if_true] at q9 ⊢
        exact thnF (pk.run _ y9 ρ M9 _ I9 q9) fun z y10 ⟨yk, M10, I10, r10, q10⟩ => thnF (pv.run _ y10 ρ M10 _ I10 q10) fun z2 y11 ⟨yv, M11, I11, r11, pz⟩ =>
          B.set (X.blk z3 G scope ce fp) rfl rfl I11 r10 r11 pz fun M12 y12 I12 nx => fin I12 nx
  exact codeAny_compStart_dict loop (T.self X.A 0 _ _ _ st4 loop)
end
/-! ### tuple keys -/
/-- a store into a dict whose keys are tuples of ints and texts -/
def putT (D : Addr) (y z : V) (H : Hp) (R : Hp → Prop) : Prop := ∃ (kvs : List (List Key × V)) (k : List Key) (b : Addr), y = .ref b ∧ H D = some (.dT kvs) ∧ H b = some (.tup (k.map kV)) ∧ kvs.length < sizeLine ∧ R (upd H D (.dT (putK kvs k z)))
theorem puts_T {P : Program} {w : World} {A : Around} (hu : A.units + 1 < cLine) : Puts P w A (.dT []) putT where
  new := fun h H hb => dt_empty h hb
  set := fun Y e1 e2 {pins σ H s D y z u r R Q E} I ry rz hp h => by
    subst e1 e2
    obtain ⟨kvs, k, b, ey, hD, hb, hl, q⟩ := hp
    subst ey
    cases (show u = Value.ref b from ry)
    obtain ⟨sz, ns, xs, rel, dd⟩ := dt_of I.hok hD
    have sx : xs.length ≤ sizeLine := by rw [← Paired.length rel]; exact sz
    have sp : (putK kvs k z).length ≤ sizeLine := by have := length_putK kvs k z; omega
    refine wpAny_dictSet_heap (hsz := sx) (show A.units < cLine by omega) (key_of I.hok hb) dd fun h' dd' hs => h _ _ ?_ q
    obtain ⟨o, es, ep, ho, d2, d3, d4, _, d5⟩ := dd'
    refine d_write I (by rw [hD]; exact True.intro) hs ⟨o, ho⟩ ⟨sp, ns, _, (rel.put k hb rz).keeps fun c ys ec => ?_, o, es, ep, ho, d2, d3, d4, d5⟩
    rw [upd_ne (ne_of ec hD (fun v => nomatch v))]
    exact ec
theorem walk_itemsT {d : Addr} {o : Obj} {kvs : List (List Key × V)} : Walk (Itit d o kvs) kvs.length (fun H => H d = some (.frz o (.dT kvs)))
    (fun i H x H' => ∃ (T : Addr) (k : List Key) (v : V) (q : Addr), kvs[i]? = some (k, v) ∧ x = .ref T ∧ H T = none ∧ H q = some (.tup (k.map kV)) ∧ H' = upd H T (.tup [.ref q, v])) :=
  ⟨fun _ _ hi q => ⟨q, hi⟩, fun _ q => ⟨q, Nat.le_refl _⟩, fun _ _ _ _ _ _ y => y⟩
section
variable {J : It} {n : Nat} {G : Hp → Prop} {Y : Nat → Hp → V → Hp → Prop} {o0 : HO} {put : Addr → V → V → Hp → (Hp → Prop) → Prop}
/-- the reading of such a comprehension over a walk -/
theorem dcg_it (w : Walk J n G Y) {g : TG} {tt : TT} {tk tv : TE} {vs : List Nat} {σ : L2.St} {H1 : Hp} {D : Addr} {Qd : Hp → Prop} (Pv : Nat → Hp → Prop) (h0 : Pv 0 (upd H1 D o0)) (hG : ∀ i H, i ≤ n → Pv i H → G H)
    (hs : ∀ i x H H', i < n → Pv i H → Y i H x H' → g x (wipe σ vs) H' fun σ2 H2 => wipe σ2 vs = wipe σ vs ∧ tt σ2 H2 fun b H3 =>
      if b = true then tk σ2 H3 fun y H4 => tv σ2 H4 fun z H5 => put D y z H5 (Pv (i + 1)) else Pv (i + 1) H3) (hd : ∀ H, Pv n H → Qd H) :
    ∃ W : Nat → Nat → Hp → Prop, (∃ m, W 0 m (upd H1 D o0)) ∧ ∀ i m H, W i m H →
      (J.stop i H ∧ Qd H) ∨ (J.go i H ∧ ∃ Nx : Hp → Prop, (∀ H', Nx H' → ∃ m', m' < m ∧ W (i + 1) m' H') ∧ ∀ x H', J.yld i H x H' → g x (wipe σ vs) H' fun σ2 H2 => wipe σ2 vs = wipe σ vs ∧ tt σ2 H2 fun b H3 =>
        if b = true then tk σ2 H3 fun y H4 => tv σ2 H4 fun z H5 => put D y z H5 Nx else Nx H3) := by
  refine ⟨fun i m H => i ≤ n ∧ m = n - i ∧ Pv i H, ⟨n, Nat.zero_le _, rfl, h0⟩, fun i m H h => ?_⟩
  obtain ⟨hi, rfl, p⟩ := h
  have q := hG i H hi p
  rcases Nat.lt_or_ge i n with hlt | hge
  · exact .inr ⟨w.goes i H hlt q, Pv (i + 1), fun H' p' => ⟨n - (i + 1), by omega, hlt, rfl, p'⟩, fun x H' y => hs i x H H' hlt p (w.yields i H x H' hlt q y)⟩
  · obtain rfl : i = n := by omega
    exact .inl ⟨w.stops H q, hd H p⟩
end
end TCX
/-! Dicts with keys of any kind that is told as tuples of ints: contents as a list of keys and a function. -/
namespace TCX
open PySem PySem.Spec PyProof.Rows L2
section
variable {κ : Type} [DecidableEq κ]
/-- the keys in their order, one more behind if it is new -/
def addK (ks : List κ) (r : κ) : List κ := if r ∈ ks then ks else ks ++ [r]
theorem addK_len (ks : List κ) (r : κ) : (addK ks r).length ≤ ks.length + 1 := by
  unfold addK
  split
  · exact Nat.le_succ _
  · rw [List.length_append, List.length_singleton]
    exact Nat.le_refl _
theorem mem_addK {ks : List κ} {r s : κ} : s ∈ addK ks r ↔ s ∈ ks ∨ s = r := by
  unfold addK
  split
  · rename_i h
    exact ⟨.inl, fun z => z.elim id fun e => e ▸ h⟩
  · simp
theorem nd_addK {ks : List κ} {r : κ} (h : ks.Nodup) : (addK ks r).Nodup := by
  unfold addK
  split
  · exact h
  · rename_i z
    rw [List.nodup_append]
    refine ⟨h, by simp, fun a ha b hb => ?_⟩
    rw [List.mem_singleton.mp hb]
    exact fun e => z (e ▸ ha)
def setVal (f : κ → V) (r : κ) (v : V) : κ → V := fun s => if s = r then v else f s
/-- the entries -/
def entT (kk : κ → List Key) (ks : List κ) (f : κ → V) : List (List Key × V) := ks.map fun k => (kk k, f k)
theorem entT_len (kk : κ → List Key) (ks : List κ) (f : κ → V) : (entT kk ks f).length = ks.length := List.length_map _
theorem entT_congr {kk : κ → List Key} {ks : List κ} {f g : κ → V} (h : ∀ k ∈ ks, f k = g k) : entT kk ks f = entT kk ks g := List.map_congr_left fun k hk => by rw [h k hk]
variable {kk : κ → List Key} (inj : ∀ a b, kk a = kk b → a = b)
include inj
theorem val_entT {f : κ → V} {r : κ} : ∀ {ks : List κ}, valV (entT kk ks f) (kk r) = if r ∈ ks then some (f r) else none
  | [] => rfl
  | a :: ks => by
    show valV ((kk a, f a) :: entT kk ks f) (kk r) = _
    by_cases e : a = r
    · rw [valV_pos (by rw [e]), e, if_pos (List.mem_cons_self)]
    · rw [valV_neg fun z => e (inj _ _ z), val_entT]
      have : (r ∈ a :: ks) ↔ r ∈ ks := ⟨fun z => (List.mem_cons.mp z).resolve_left fun y => e y.symm, List.mem_cons_of_mem _⟩
      by_cases h : r ∈ ks
      · rw [if_pos h, if_pos (this.mpr h)]
      · rw [if_neg h, if_neg (fun z => h (this.mp z))]
theorem put_entT {ks : List κ} {f : κ → V} {r : κ} {v : V} : putK (entT kk ks f) (kk r) v = entT kk (addK ks r) (setVal f r v) := by
  unfold putK addK
  have hany : ((entT kk ks f).any fun kv => decide (kv.1 = kk r)) = decide (r ∈ ks) := by
    rw [valV_any, val_entT inj]
    by_cases h : r ∈ ks
    · rw [if_pos h, decide_eq_true h]
      rfl
    · rw [if_neg h, decide_eq_false h]
      rfl
  rw [hany]
  by_cases h : r ∈ ks
  · rw [if_pos (decide_eq_true h), if_pos h]
    unfold entT
    rw [List.map_map]
    refine List.map_congr_left fun k _ => ?_
    show (if kk k = kk r then (kk k, v) else (kk k, f k)) = (kk k, setVal f r v k)
    unfold setVal
    by_cases e : k = r
    · rw [if_pos (by rw [e]), if_pos e]
    · rw [if_neg fun z => e (inj _ _ z), if_neg e]
  · rw [if_neg (by rw [decide_eq_false h]; exact Bool.false_ne_true), if_neg h]
    unfold entT
    rw [List.map_append]
    congr 1
    · refine List.map_congr_left fun k hk => ?_
      show (kk k, f k) = (kk k, if k = r then v else f k)
      rw [if_neg fun (e : k = r) => h (e ▸ hk)]
    · show [(kk r, v)] = [(kk r, if r = r then v else f r)]
      rw [if_pos rfl]
theorem nd_entT {ks : List κ} {f : κ → V} (h : ks.Nodup) : ((entT kk ks f).map (·.1)).Nodup := by
  unfold entT
  rw [List.map_map]
  exact List.pairwise_map.mpr (h.imp fun {a b} z e => z (inj _ _ e))
theorem dget_entT {H : Hp} {d b : Addr} {ks : List κ} {f : κ → V} {r : κ} (e : H d = some (.dT (entT kk ks f))) (eb : H b = some (.tup ((kk r).map kV))) : DGet H d (.ref b) (if r ∈ ks then some (f r) else none) := by
  have z := DGet.t (k := kk r) e eb
  rw [val_entT inj] at z
  exact z
theorem dget_entT_in {H : Hp} {d b : Addr} {ks : List κ} {f : κ → V} {r : κ} (e : H d = some (.dT (entT kk ks f))) (eb : H b = some (.tup ((kk r).map kV))) (h : r ∈ ks) : DGet H d (.ref b) (some (f r)) := by
  have z := dget_entT inj e eb
  rw [if_pos h] at z
  exact z
theorem dget_entT_out {H : Hp} {d b : Addr} {ks : List κ} {f : κ → V} {r : κ} (e : H d = some (.dT (entT kk ks f))) (eb : H b = some (.tup ((kk r).map kV))) (h : r ∉ ks) : DGet H d (.ref b) none := by
  have z := dget_entT inj e eb
  rw [if_neg h] at z
  exact z
theorem dput_entT {H : Hp} {d b : Addr} {ks : List κ} {f : κ → V} {r : κ} {v : V} (e : H d = some (.dT (entT kk ks f))) (eb : H b = some (.tup ((kk r).map kV))) (hl : ks.length < sizeLine) : DPut H d (.ref b) v (upd H d (.dT (entT kk (addK ks r) (setVal f r v)))) := by
  have z := DPut.t (k := kk r) (v := v) e eb (by rw [entT_len]; exact hl)
  rw [put_entT inj] at z
  exact z
omit inj
theorem entT_get {ks : List κ} {f : κ → V} {i : Nat} {k : List Key} {v : V} (h : (entT kk ks f)[i]? = some (k, v)) : ∃ r, ks[i]? = some r ∧ k = kk r ∧ v = f r := by
  unfold entT at h
  rw [List.getElem?_map] at h
  cases e : ks[i]? with
  | none =>
    rw [e] at h
    cases h
  | some r =>
    rw [e] at h
    have z := Option.some.inj h
    exact ⟨r, rfl, (congrArg Prod.fst z).symm, (congrArg Prod.snd z).symm⟩
end
/-! ### counts in such a dict -/
section
variable {κ : Type} [DecidableEq κ]
/-- the keys of terms in the order in which they first come -/
def keysL (L : List (κ × Int)) : List κ := L.foldl (fun ks x => addK ks x.1) []
/-- what the terms at a key come to -/
def sumAt (L : List (κ × Int)) (r : κ) : Int := (L.map fun x => if x.1 = r then x.2 else 0).sum
theorem keysL_snoc (L : List (κ × Int)) (x : κ × Int) : keysL (L ++ [x]) = addK (keysL L) x.1 := by
  unfold keysL
  rw [List.foldl_append]
  rfl
theorem sumAt_snoc (L : List (κ × Int)) (x : κ × Int) (r : κ) : sumAt (L ++ [x]) r = sumAt L r + if x.1 = r then x.2 else 0 := by
  unfold sumAt
  rw [List.map_append, List.sum_append]
  show _ + (_ + 0) = _
  rw [Int.add_zero]
theorem sumAt_append (L M : List (κ × Int)) (r : κ) : sumAt (L ++ M) r = sumAt L r + sumAt M r := by
  unfold sumAt
  rw [List.map_append, List.sum_append]
theorem nd_foldK : ∀ (L : List (κ × Int)) {ks : List κ}, ks.Nodup → (L.foldl (fun ks x => addK ks x.1) ks).Nodup
  | [], _, h => h
  | x :: L, _, h => nd_foldK L (nd_addK h)
theorem nd_keysL (L : List (κ × Int)) : (keysL L).Nodup := nd_foldK L List.nodup_nil
theorem mem_foldK : ∀ (L : List (κ × Int)) {ks : List κ} {r : κ}, r ∈ L.foldl (fun ks x => addK ks x.1) ks ↔ r ∈ ks ∨ ∃ x ∈ L, x.1 = r
  | [], _, _ => by simp
  | x :: L, ks, r => by
    show r ∈ L.foldl _ (addK ks x.1) ↔ _
    rw [mem_foldK L, mem_addK]
    constructor
    · rintro ((h | h) | ⟨y, h1, h2⟩)
      · exact .inl h
      · exact .inr ⟨x, List.mem_cons_self, h.symm⟩
      · exact .inr ⟨y, List.mem_cons_of_mem _ h1, h2⟩
    · rintro (h | ⟨y, h1, h2⟩)
      · exact .inl (.inl h)
      · rcases List.mem_cons.mp h1 with e | h1
        · exact .inl (.inr (by rw [← h2, e]))
        · exact .inr ⟨y, h1, h2⟩
theorem mem_keysL {L : List (κ × Int)} {r : κ} : r ∈ keysL L ↔ ∃ x ∈ L, x.1 = r := by
  unfold keysL
  rw [mem_foldK]
  simp
theorem sumAt_out : ∀ {L : List (κ × Int)} {r : κ}, (∀ x ∈ L, x.1 ≠ r) → sumAt L r = 0
  | [], _, _ => rfl
  | x :: L, r, h => by
    have z := sumAt_out (L := L) (r := r) fun y hy => h y (List.mem_cons_of_mem _ hy)
    show (if x.1 = r then x.2 else 0) + sumAt L r = 0
    rw [if_neg (h x List.mem_cons_self), z]
    rfl
theorem sumAt_not {L : List (κ × Int)} {r : κ} (h : r ∉ keysL L) : sumAt L r = 0 := sumAt_out fun x hx e => h (mem_keysL.mpr ⟨x, hx, e⟩)
theorem keysL_len : ∀ (L : List (κ × Int)), (keysL L).length ≤ L.length := fun L => by
  have key : ∀ (M : List (κ × Int)) (ks : List κ), (M.foldl (fun ks x => addK ks x.1) ks).length ≤ ks.length + M.length := by
    intro M
    induction M with
    | nil => intro ks; exact Nat.le_refl _
    | cons x M ih =>
      intro ks
      have a := ih (addK ks x.1)
      have b := addK_len ks x.1
      show (M.foldl _ (addK ks x.1)).length ≤ ks.length + (M.length + 1)
      omega
  have z := key L []
  simpa [keysL] using z
/-- the dict of the terms so far -/
def cntO (kk : κ → List Key) (L : List (κ × Int)) : HO := .dT (entT kk (keysL L) fun k => .int (sumAt L k))
theorem cnt_step {kk : κ → List Key} (L : List (κ × Int)) (x : κ × Int) : HO.dT (entT kk (addK (keysL L) x.1) (setVal (fun k => .int (sumAt L k)) x.1 (.int (sumAt L x.1 + x.2)))) = cntO kk (L ++ [x]) := by
  unfold cntO
  rw [keysL_snoc]
  congr 1
  refine entT_congr fun k _ => ?_
  show (if k = x.1 then V.int (sumAt L x.1 + x.2) else .int (sumAt L k)) = .int (sumAt (L ++ [x]) k)
  rw [sumAt_snoc]
  by_cases e : k = x.1
  · rw [if_pos e, e, if_pos rfl]
  · rw [if_neg e, if_neg fun z => e z.symm, Int.add_zero]
/-- what .get(k, 0) tells -/
theorem cnt_get {L : List (κ × Int)} {r : κ} {f : κ → V} (hf : f = fun k => .int (sumAt L k)) : (if r ∈ keysL L then some (f r) else none).getD (.int 0) = .int (sumAt L r) := by
  subst hf
  by_cases h : r ∈ keysL L
  · rw [if_pos h]
    rfl
  · rw [if_neg h, sumAt_not h]
    rfl
end
end TCX
/-! powers of three differences multiplied out: the terms at a key. -/
namespace TCX
open L2
/-- a signed binomial -/
def sbN (n i : Nat) : Int := sgK i * (binN n i : Nat)
def pKey (p q r i j k : Nat) : List Int := [(p : Int) - i + k, (i : Int) + r - k, (i : Int) + q - j, (p : Int) - i + j, (j : Int) + r - k, (q : Int) - j + k]
def pTerm (p q r i j k : Nat) : List Int × Int := (pKey p q r i j k, sbN p i * sbN q j * sbN r k)
def pRow (p q r i j : Nat) : List (List Int × Int) := (List.range (r + 1)).map (pTerm p q r i j)
def pPla (p q r i : Nat) : List (List Int × Int) := (List.range (q + 1)).flatMap (pRow p q r i)
def pAll (p q r : Nat) : List (List Int × Int) := (List.range (p + 1)).flatMap (pPla p q r)
theorem sumAt_flat {κ : Type} [DecidableEq κ] (f : Nat → List (κ × Int)) (x : κ) : ∀ n, sumAt ((List.range n).flatMap f) x = sumK (fun i => sumAt (f i) x) n
  | 0 => rfl
  | n + 1 => by
    rw [List.range_succ, List.flatMap_append, sumAt_append, sumAt_flat f x n, sumK_succ]
    show _ + sumAt (f n ++ []) x = _
    rw [List.append_nil]
theorem sumAt_map {κ : Type} [DecidableEq κ] (f : Nat → κ × Int) (x : κ) : ∀ n, sumAt ((List.range n).map f) x = sumK (fun i => if (f i).1 = x then (f i).2 else 0) n
  | 0 => rfl
  | n + 1 => by
    rw [List.range_succ, List.map_append, sumAt_append, sumAt_map f x n, sumK_succ]
    show _ + ((if (f n).1 = x then (f n).2 else 0) + 0) = _
    rw [Int.add_zero]
theorem sumK_congr {f g : Nat → Int} : ∀ {n : Nat}, (∀ i, i < n → f i = g i) → sumK f n = sumK g n
  | 0, _ => rfl
  | n + 1, h => by rw [sumK_succ, sumK_succ, sumK_congr fun i hi => h i (by omega), h n (by omega)]
/-- a sum with but one term -/
theorem sumK_one (f : Nat → Int) (K0 : Int) : ∀ n : Nat, sumK (fun k => if (k : Int) = K0 then f k else 0) n = if 0 ≤ K0 ∧ K0 < n then f K0.toNat else 0
  | 0 => by
    rw [if_neg (by omega)]
    rfl
  | n + 1 => by
    rw [sumK_succ, sumK_one f K0 n]
    by_cases h : (n : Int) = K0
    · rw [if_pos h, if_neg (by omega), if_pos (by omega), ← h]
      simp
    · rw [if_neg h, Int.add_zero]
      by_cases h2 : 0 ≤ K0 ∧ K0 < n
      · rw [if_pos h2, if_pos (by omega)]
      · rw [if_neg h2, if_neg (by omega)]
theorem sumK_mul (c : Int) (f : Nat → Int) : ∀ n, sumK (fun i => c * f i) n = c * sumK f n
  | 0 => by show (0 : Int) = c * 0; rw [Int.mul_zero]
  | n + 1 => by rw [sumK_succ, sumK_succ, sumK_mul c f n, Int.mul_add]
/-- what a key must be like to be met at all -/
structure KeyP (p q r : Nat) (k0 k1 k2 k3 k4 k5 : Int) : Prop where
  e1 : k1 = p + r - k0
  e2 : k2 = p + q - k3
  e4 : k4 = k3 - k0 + r
  e5 : k5 = q - k3 + k0
def pTm (p q r : Nat) (k0 k3 : Int) (i : Nat) : Int := if (0 ≤ k3 - p + i ∧ k3 - p + i ≤ q) ∧ 0 ≤ k0 - p + i ∧ k0 - p + i ≤ r then sbN p i * sbN q (k3 - p + i).toNat * sbN r (k0 - p + i).toNat else 0
theorem sum_all {p q r : Nat} {k0 k1 k2 k3 k4 k5 : Int} (h : KeyP p q r k0 k1 k2 k3 k4 k5) : sumAt (pAll p q r) [k0, k1, k2, k3, k4, k5] = sumK (pTm p q r k0 k3) (p + 1) := by
  obtain ⟨e1, e2, e4, e5⟩ := h
  unfold pAll
  rw [sumAt_flat]
  refine sumK_congr fun i hi => ?_
  unfold pPla
  rw [sumAt_flat]
  have inner : ∀ j : Nat, sumAt (pRow p q r i j) [k0, k1, k2, k3, k4, k5] = if (j : Int) = k3 - p + i then (if 0 ≤ k0 - p + i ∧ k0 - p + i < ((r + 1 : Nat) : Int) then sbN p i * sbN q j * sbN r (k0 - p + i).toNat else 0) else 0 := fun j => by
    unfold pRow
    rw [sumAt_map]
    by_cases hj : (j : Int) = k3 - p + i
    · rw [if_pos hj, ← sumK_one (fun k => sbN p i * sbN q j * sbN r k) (k0 - p + i) (r + 1)]
      refine sumK_congr fun k _ => ?_
      have : (pTerm p q r i j k).1 = [k0, k1, k2, k3, k4, k5] ↔ (k : Int) = k0 - p + i := by
        show [_, _, _, _, _, _] = [_, _, _, _, _, _] ↔ _
        simp only [List.cons.injEq, and_true]
        omega
      by_cases hk : (k : Int) = k0 - p + i
      · rw [if_pos (this.mpr hk), if_pos hk]
        rfl
      · rw [if_neg fun z => hk (this.mp z), if_neg hk]
    · rw [if_neg hj]
      refine sumK_zero fun k _ => if_neg fun z => hj ?_
      have z' : [_, _, _, _, _, _] = [k0, k1, k2, k3, k4, k5] := z
      simp only [List.cons.injEq, and_true] at z'
      omega
  rw [sumK_congr (g := fun j => if (j : Int) = k3 - p + i then (if 0 ≤ k0 - p + i ∧ k0 - p + i < ((r + 1 : Nat) : Int) then sbN p i * sbN q j * sbN r (k0 - p + i).toNat else 0) else 0) fun j _ => inner j]
  rw [sumK_one (fun j => if 0 ≤ k0 - p + i ∧ k0 - p + i < ((r + 1 : Nat) : Int) then sbN p i * sbN q j * sbN r (k0 - p + i).toNat else 0) (k3 - p + i) (q + 1)]
  unfold pTm
  by_cases h1 : 0 ≤ k3 - (p : Int) + i ∧ k3 - (p : Int) + i ≤ q
  · rw [if_pos (by omega)]
    by_cases h2 : 0 ≤ k0 - (p : Int) + i ∧ k0 - (p : Int) + i ≤ r
    · rw [if_pos (by omega), if_pos ⟨h1, h2⟩]
    · rw [if_neg (by omega), if_neg fun z => h2 z.2]
  · rw [if_neg (by omega), if_neg fun z => h1 z.1]
/-- a term as in the sum of joined numbers -/
def sgZ (z : Int) : Int := if z % 2 = 1 then -1 else 1
theorem sg_two {J K : Nat} {z : Int} (h : ((J : Int) + K - z) % 2 = 0) : sgK J * sgK K = sgZ z := by
  unfold sgK sgZ
  by_cases a : J % 2 = 1
  · by_cases b : K % 2 = 1
    · rw [if_pos a, if_pos b, if_neg (by omega)]
      rfl
    · rw [if_pos a, if_neg b, if_pos (by omega)]
      rfl
  · by_cases b : K % 2 = 1
    · rw [if_neg a, if_pos b, if_pos (by omega)]
      rfl
    · rw [if_neg a, if_neg b, if_neg (by omega)]
      rfl
theorem tm_one {p q r : Nat} {k0 k3 : Int} {i : Nat} (hi : i ≤ p) {B C : Nat} (hB : (B : Int) = p + r - k0) (hC : (C : Int) = p + q - k3) : pTm p q r k0 k3 i = sgZ (k0 + k3) * tmK p B C (k0 - p) (k3 - p) i := by
  unfold pTm tmK
  have hok : okK p B C (k0 - p) (k3 - p) i = true ↔ (0 ≤ k3 - (p : Int) + i ∧ k3 - (p : Int) + i ≤ q) ∧ 0 ≤ k0 - (p : Int) + i ∧ k0 - (p : Int) + i ≤ r := by
    unfold okK
    rw [decide_eq_true_iff]
    omega
  by_cases h : (0 ≤ k3 - (p : Int) + i ∧ k3 - (p : Int) + i ≤ q) ∧ 0 ≤ k0 - (p : Int) + i ∧ k0 - (p : Int) + i ≤ r
  · rw [if_pos h, if_pos (hok.mpr h)]
    obtain ⟨⟨h1, h2⟩, h3, h4⟩ := h
    obtain ⟨J, hJ⟩ : ∃ J : Nat, (J : Int) = k3 - p + i := ⟨(k3 - p + i).toNat, by omega⟩
    obtain ⟨M, hM⟩ : ∃ M : Nat, (M : Int) = k0 - p + i := ⟨(k0 - p + i).toNat, by omega⟩
    rw [← hJ, ← hM, Int.toNat_natCast, Int.toNat_natCast]
    have com : binN p i * binN q J * binN r M * botK p B C (k0 - p) (k3 - p) i = comK p B C (k0 - p) (k3 - p) := by
      unfold botK comK
      rw [show (k0 - (p : Int) + i).toNat = M by omega, show (k3 - (p : Int) + i).toNat = J by omega, show ((B : Int) + (k0 - p)).toNat = r by omega, show ((C : Int) + (k3 - p)).toNat = q by omega, show B - i = r - M by omega, show C - i = q - J by omega,
        ← bin_mul hi, ← bin_mul (n := q) (k := J) (by omega), ← bin_mul (n := r) (k := M) (by omega)]
      simp only [Nat.mul_assoc, Nat.mul_left_comm, Nat.mul_comm]
    have quo : comK p B C (k0 - p) (k3 - p) / botK p B C (k0 - p) (k3 - p) i = binN p i * binN q J * binN r M := by
      rw [← com]
      exact Nat.mul_div_cancel _ (botK_pos _ _ _ _ _ _)
    rw [quo]
    unfold sbN
    rw [← sg_two (J := J) (K := M) (z := k0 + k3) (by omega)]
    simp only [Int.natCast_mul, Int.mul_assoc, Int.mul_left_comm, Int.mul_comm]
  · rw [if_neg h, if_neg fun z => h (hok.mp z), Int.mul_zero]
theorem all_joined {p q r : Nat} {k0 k1 k2 k3 k4 k5 : Int} (h : KeyP p q r k0 k1 k2 k3 k4 k5) {B C : Nat} (hB : (B : Int) = k1) (hC : (C : Int) = k2) : sumAt (pAll p q r) [k0, k1, k2, k3, k4, k5] = sgZ (k0 + k3) * sumK (tmK p B C (k0 - p) (k3 - p)) (p + 1) := by
  rw [sum_all h, ← sumK_mul]
  exact sumK_congr fun i hi => tm_one (by omega) (by rw [hB, h.e1]) (by rw [hC, h.e2])
/-! ### bounds -/
theorem sbN_lt {n i : Nat} (h : n ≤ 12) (hi : i ≤ n) : (sbN n i).natAbs ≤ 924 := by
  have key : ∀ n, n < 13 → ∀ i, i < n + 1 → binN n i ≤ 924 := by decide +kernel
  have z := key n (by omega) i (by omega)
  unfold sbN
  rw [Int.natAbs_mul, Int.natAbs_natCast]
  have : (sgK i).natAbs = 1 := by
    unfold sgK
    split <;> rfl
  rw [this, Nat.one_mul]
  exact z
theorem pRow_len (p q r i j : Nat) : (pRow p q r i j).length = r + 1 := by
  unfold pRow
  rw [List.length_map, List.length_range]
theorem pPla_len (p q r i : Nat) : ∀ m, ((List.range m).flatMap (pRow p q r i)).length = m * (r + 1)
  | 0 => by simp
  | m + 1 => by
    rw [List.range_succ, List.flatMap_append, List.length_append, pPla_len p q r i m, Nat.add_mul m 1, Nat.one_mul]
    show _ + (pRow p q r i m ++ []).length = _
    rw [List.append_nil, pRow_len]
theorem pAll_len (p q r : Nat) : ∀ m, ((List.range m).flatMap (pPla p q r)).length = m * ((q + 1) * (r + 1))
  | 0 => by simp
  | m + 1 => by
    rw [List.range_succ, List.flatMap_append, List.length_append, pAll_len p q r m, Nat.add_mul m 1, Nat.one_mul]
    show _ + (pPla p q r m ++ []).length = _
    rw [List.append_nil]
    unfold pPla
    rw [pPla_len]
/-- keys as the dict has them -/
def kInt (l : List Int) : List Key := l.map Sum.inl
theorem kInt_inj : ∀ a b : List Int, kInt a = kInt b → a = b
  | [], [], _ => rfl
  | [], _ :: _, h => by cases h
  | _ :: _, [], h => by cases h
  | a :: l, b :: m, h => by
    have h' : (Sum.inl a : Key) :: kInt l = Sum.inl b :: kInt m := h
    injection h' with h1 h2
    injection h1 with h1
    rw [h1, kInt_inj l m h2]
theorem kInt_kV (l : List Int) : (kInt l).map kV = l.map V.int := by
  unfold kInt
  rw [List.map_map]
  rfl
end TCX
/-! enumerate(list, start=k); zip(list, tuple). -/
namespace TCX
open PySem PySem.Spec PyProof.Rows L2
section
variable {M : Model} {A : Around} {E : Value → Shared → Prop} {s : Shared} {env : Env}
/-- a built-in class called with keywords -/
theorem callWith_typeK {pos : Pos} {T : String} {e : Expr} {rest : List Expr} {kws : List Keyword} {Q : Value → Shared → Prop}
    (h : wpAny M A (spliced (backTo pos (starEach (e :: rest) env))) (fun vs s1 => wpAny M A (evalAll ((backToKw pos (keywordEach kws env)).map (·.2)))
      (fun kvs s2 => wpAny M A (call (.type T) vs (((backToKw pos (keywordEach kws env)).filterMap (·.1)).zip kvs)) Q E s2) E s1) E s)
    (he : backTo pos (starEach (e :: rest) env) = (false, eval e env) :: backTo pos (starEach rest env))
    (hplain : (backTo pos (starEach (e :: rest) env)).any (·.1) = false)
    (hall : (backToKw pos (keywordEach kws env)).all (·.1.isSome) = true)
    (hkw : (backToKw pos (keywordEach kws env)).any (·.1.isNone) = false) :
    wpAny M A (callWith pos (.type T) [] (backTo pos (starEach (e :: rest) env)) (backToKw pos (keywordEach kws env))) Q E s := by
  unfold callWith
  rw [he] at h
  have h2 := h
  refine wpAny_bind (wpAny_holding (wpAny_mono (Q := fun a s1 => wpAny M A (call (.type T) a.pos a.kw) Q E s1) ?_ (fun a s1 h1 => wpAny_bind (wpAny_standAt ?_)) fun _ _ x => x))
  · rw [he]
    exact evalArgs_kwB hall h
  · simp only [hplain, hkw, Bool.or_false]
    refine wpAny_bind (wpAny_pure ?_)
    exact wpAny_bind (wpAny_mono h1 (fun r s2 hr => wpAny_bind (wpAny_holding (wpAny_point (wpAny_pure hr)))) fun _ _ x => x)
end
/-- the list at a of xs, each item in a new pair behind a number from k on -/
def Iek (K : PySem.W.Frag) (a : Addr) (xs : List V) (k : Int) : It :=
  ⟨fun i H => i < xs.length ∧ SqL K H a xs, fun i H v H' => ∃ T x, v = .ref T ∧ H T = none ∧ H' = upd H T (.tup [.int (k + (i : Nat)), x]) ∧ xs[i]? = some x, fun i H => xs.length ≤ i ∧ SqL K H a xs⟩
theorem turn_enumK {P : Program} {w : World} {K : PySem.W.Frag} {elts : List Expr} {kk : Nat} {tpos : Pos} (a e it : Addr) (xs : List V) (k : Int) :
    Turn P w K (.Tuple elts kk tpos) (Iek K a xs k) [e, it] e (fun i h => (∃ old, IsEnum h e it (k + ((i : Nat) : Int)) old) ∧ h.IsListIter it a i ∧ e ≠ it ∧ a ≠ it ∧ e ≠ a ∧ i ≤ xs.length) where
  mem := by simp
  obj := fun i h st b hb => by
    obtain ⟨⟨old, he⟩, ⟨o, ho, hc, hd⟩, _⟩ := st
    have e' : b = e ∨ b = it := by simpa using hb
    rcases e' with z | z
    · rw [z]; exact ⟨_, he, fun v q => nomatch q⟩
    · rw [z]; exact ⟨o, ho, fun v q => by rw [hd] at q; cases q⟩
  keep := fun i h h' st k => let ⟨⟨old, he⟩, hi, hne⟩ := st; ⟨⟨old, k e (by simp) _ he⟩, hi.at fun o q => k it (by simp) o q, hne⟩
  item := by
    intro X hP hw hK hc i pins s σ H E I hf st hg
    subst hP hw hK
    obtain ⟨⟨old, he⟩, hit, hne, hai, hea, hle⟩ := st
    obtain ⟨hlt, hq⟩ := hg
    obtain ⟨its, rv, p, hz⟩ := I.list hq
    have hl := rv.length
    have hel : e < s.heap.objs.size := Heap.lt_size he
    have hil : it < s.heap.objs.size := by obtain ⟨_, q, _⟩ := hit; exact Heap.lt_size q
    have hh : X.A.in1.handled = none := I.ok.hd hc
    have D := Draws.list (prog := X.prog) (w := X.w) hh it a hai its.toArray
    refine wpAny_pyNext_enum_itemC D he ⟨hit, p.isList⟩ (by simp; omega) hne (by simp; exact ⟨hne, hea⟩) fun u h' tk hu ho hst hT hsz hk => ?_
    obtain ⟨hit', _⟩ := hst
    have hu2 : its[i]? = some u := by simpa using hu
    have hx : xs[i]? = some xs[i] := List.getElem?_eq_getElem hlt
    obtain ⟨u2, hu3, ru⟩ := rv.get hx
    have eu : u2 = u := Option.some.inj (hu3.symm.trans hu2)
    subst eu
    refine ⟨_, rfl, wpAny_letOwnedTupleGo_enum (s := { s with heap := h', toks := tk + 1 }) ho fun h'' he' sb => ?_⟩
    have hT2 : h''.get? s.heap.objs.size = some { cls := .type "tuple", data := .seq #[.int (k + (i : Int)) tk, u2] } := (sb.2 _ (Nat.ne_of_gt hel)).trans hT
    have new : ObjOk X.prog X.w (upd H s.heap.objs.size (.tup [.int (k + (i : Nat)), xs[i]])) h'' s.heap.objs.size (.tup [.int (k + (i : Nat)), xs[i]]) :=
      ⟨by show 2 ≤ sizeLine; decide, [.int (k + (i : Int)) tk, u2], .cons ⟨_, rfl⟩ (.cons ru .nil), ⟨_, hT2, rfl, _, rfl⟩⟩
    have I1 : Inv X pins σ (upd H s.heap.objs.size (.tup [.int (k + (i : Nat)), xs[i]])) { s with heap := h'', toks := tk + 1 } :=
      I.turnedNew (ch := [e, it]) (fun b ob hb q => (sb.2 b (fun z => hb (by simp [z]))).trans (hk b ob (fun z => hb (by simp [z])) (fun z => hb (by simp [z])) q)) hf (Nat.le_refl _) new
    refine ⟨.ref s.heap.objs.size, _, I1, rfl, ⟨_, xs[i], rfl, I.hok.fresh (Nat.le_refl _), rfl, hx⟩, ⟨⟨u2, ?_⟩, hit'.at fun o q => (sb.2 it (Ne.symm hne)).trans q, hne, hai, hea, hlt⟩, fun b hb => ?_⟩
    · have e1 : k + ((i + 1 : Nat) : Int) = k + (i : Int) + 1 := by omega
      rw [e1]; exact he'
    · have hb' : b < s.heap.objs.size := by
        have e' : b = e ∨ b = it := by simpa using hb
        rcases e' with z | z
        · rw [z]; exact hel
        · rw [z]; exact hil
      rw [upd_ne (Nat.ne_of_lt hb')]
      exact (hf b hb).1
  done := by
    intro X hP hw hK hc i pins s σ H E I hf st hg
    subst hP hw hK
    obtain ⟨⟨old, he⟩, hit, hne, hai, hea, hle⟩ := st
    obtain ⟨hge, hq⟩ := hg
    obtain ⟨its, rv, p, hz⟩ := I.list hq
    obtain ⟨f0, f1, f2, f3, f4, f5⟩ := hf it (by simp)
    have hl := rv.length
    have hh : X.A.in1.handled = none := I.ok.hd hc
    have D := Draws.list (prog := X.prog) (w := X.w) hh it a hai its.toArray
    have ei : i = its.toArray.size := by simp; omega
    subst ei
    exact wpAny_pyNext_enum_endD D he ⟨hit, p.isList⟩ fun h' eb => ⟨rfl, I.turned (t' := s.toks) (fun b o hb q => eb b o hb q) f0 f1 f3 f4 f5⟩
  self := fun A i s Q E st h => let ⟨⟨_, he⟩, _⟩ := st; wpAny_pyIter_enum he h
def iEnumK (K : PySem.W.Frag) (ta tk : TA) : TI := fun σ H R => ta σ H fun vs H1 => tk σ H1 fun zs H2 => ∃ a xs k, vs = [.ref a] ∧ zs = [.int k] ∧ 0 ≤ k ∧ k ≤ 1000 ∧ SqL K H2 a xs ∧ R (Iek K a xs k) H2
theorem pi_enumK {X : Cx} {e ke : Expr} {ta tk : TA} {p pos tpos kp : Pos} {elts : List Expr} {kk : Nat} (hg : Gl X "enumerate") (hm : X.mg "enumerate" = none) (ha : PA X [e] ta) (hk : PK X [⟨some "start", ke, kp⟩] tk)
    (he : backTo pos (starEach [e] X.env) = (false, eval e X.env) :: backTo pos (starEach [] X.env) := by rfl) (hpl : (backTo pos (starEach [e] X.env)).any (·.1) = false := by rfl) :
    PI X (.Tuple elts kk tpos) (.Call (.Name "enumerate" p) [e] [⟨some "start", ke, kp⟩] pos) (iEnumK X.K ta tk) := by
  refine ⟨fun pins s σ H R I h => ?_⟩
  refine wpAny_Call_Name_kw (ld_blt I hg hm boot_enumerate ?_)
  refine callWith_typeK (thn (ha.run pos pins s σ H _ I h) fun us s1 ⟨vs, H1, I1, r1, q1⟩ => thn (hk.run pos pins s1 σ H1 _ I1 q1) fun ws s2 ⟨zs, H2, I2, r2, q2⟩ => ?_) he hpl rfl rfl
  obtain ⟨a, xs, k, ex, ez, k0, k1, hq, q⟩ := q2
  subst ex
  subst ez
  cases r1 with
  | cons r rr =>
    cases rr
    cases r
    cases r2 with
    | cons r rr =>
      cases rr
      obtain ⟨t, rfl⟩ := r
      obtain ⟨its, rv, p', hz⟩ := I2.list hq
      have hal : a < s2.heap.objs.size := p'.lt
      refine enum_begins_start (begins_list a its.toArray) p'.isList (by omega) (by omega) fun h' he hit hsz hkk => wpAny_pyIter_enum he ?_
      have I3 : Inv X pins σ H2 { s2 with heap := h' } := I2.kept (t' := s2.toks) hkk
      refine ⟨s2.heap.objs.size + 1, [s2.heap.objs.size + 1, s2.heap.objs.size], _, _, H2, rfl, I3, turn_enumK a (s2.heap.objs.size + 1) s2.heap.objs.size xs k, ⟨⟨.none, by simpa using he⟩, ⟨_, hit, rfl, rfl⟩, Nat.succ_ne_self _, Nat.ne_of_lt hal, Nat.ne_of_gt (Nat.lt_succ_of_lt hal), Nat.zero_le _⟩, fun b hb => ?_, q⟩
      have e' : b = s2.heap.objs.size + 1 ∨ b = s2.heap.objs.size := by simpa using hb
      have hle : s2.heap.objs.size ≤ b := by
        rcases e' with z | z
        · rw [z]; exact Nat.le_add_right _ _
        · rw [z]; exact Nat.le_refl _
      exact I2.fpOk hle (I2.hok.fresh hle)
/-! ### zip of a list and a tuple -/
def Izm (K : PySem.W.Frag) (a b : Addr) (xs ys : List V) : It :=
  ⟨fun i H => i < xs.length ∧ i < ys.length ∧ SqL K H a xs ∧ SqT K H b ys, fun i H v H' => ∃ T x y, v = .ref T ∧ H T = none ∧ H' = upd H T (.tup [x, y]) ∧ xs[i]? = some x ∧ ys[i]? = some y,
    fun i H => (i = xs.length ∨ i = ys.length) ∧ SqL K H a xs ∧ SqT K H b ys⟩
theorem turn_zipM {P : Program} {w : World} {K : PySem.W.Frag} {elts : List Expr} {kk : Nat} {tpos : Pos} {a b z TI TO i1 i2 : Addr} (D : ZipApart z TI TO i1 i2 a b) (xs ys : List V) :
    Turn P w K (.Tuple elts kk tpos) (Izm K a b xs ys) [z, TI, TO, i1, i2] z (fun i h => IsZip h z TI TO .none ∧ IsPair h TI (.ref i1) (.ref i2) ∧ (∃ x y, IsPair h TO x y) ∧ h.IsListIter i1 a i ∧ h.IsTupleIter i2 b i ∧ i ≤ xs.length ∧ i ≤ ys.length ∧ a ≠ i1 ∧ b ≠ i2) where
  mem := by simp
  obj := fun i h st c hc => by
    obtain ⟨hz, hTI, ⟨x, y, hTO⟩, ⟨o1, e1, _, d1⟩, ⟨o2, e2, _, d2⟩, _⟩ := st
    have e' : c = z ∨ c = TI ∨ c = TO ∨ c = i1 ∨ c = i2 := by simpa using hc
    rcases e' with q | q | q | q | q
    · rw [q]; exact ⟨_, hz, fun v q => nomatch q⟩
    · rw [q]; exact ⟨_, hTI, fun v q => nomatch q⟩
    · rw [q]; exact ⟨_, hTO, fun v q => nomatch q⟩
    · rw [q]; exact ⟨o1, e1, fun v q => by rw [d1] at q; cases q⟩
    · rw [q]; exact ⟨o2, e2, fun v q => by rw [d2] at q; cases q⟩
  keep := fun i h h' st k => by
    obtain ⟨hz, hTI, ⟨x, y, hTO⟩, h1, h2, hr⟩ := st
    exact ⟨k z (by simp) _ hz, k TI (by simp) _ hTI, ⟨x, y, k TO (by simp) _ hTO⟩, h1.at fun o q => k i1 (by simp) o q, h2.at fun o q => k i2 (by simp) o q, hr⟩
  item := by
    intro X hP hw hK hc i pins s σ H E I hf st hg
    subst hP hw hK
    obtain ⟨hz, hTI, ⟨x0, y0, hTO⟩, h1, h2, l1, l2, n1, n2⟩ := st
    obtain ⟨hlx, hly, hqx, hqy⟩ := hg
    obtain ⟨its, rv, p, _⟩ := I.list hqx
    obtain ⟨its2, rv2, p2, _⟩ := I.tuple hqy
    have e1 := rv.length
    have e2 := rv2.length
    have hx : xs[i]? = some xs[i] := List.getElem?_eq_getElem hlx
    have hy : ys[i]? = some ys[i] := List.getElem?_eq_getElem hly
    obtain ⟨u, hu, ru⟩ := rv.get hx
    obtain ⟨u2, hu2, ru2⟩ := rv2.get hy
    have hzl : z < s.heap.objs.size := Heap.lt_size hz
    have hh : X.A.in1.handled = none := I.ok.hd hc
    have D1 := Draws.list (prog := X.prog) (w := X.w) hh i1 a n1 its.toArray
    have D2 := Draws.tuple (prog := X.prog) (w := X.w) hh i2 b n2 its2.toArray
    have S : ZipSep2 z TI TO i1 i2 [i1, a] [i2, b] := ⟨D.TIz, D.TOz, D.TITO, D.TIi1, by simp, by simp; exact ⟨D.i1z.symm, D.l1z.symm⟩, by simp; exact ⟨D.TOi1, D.l1TO.symm⟩, D.TIi2, by simp, by simp; exact ⟨D.i2z.symm, D.l2z.symm⟩, by simp; exact ⟨D.TOi2, D.l2TO.symm⟩, by simp; exact ⟨D.i12, D.l2i1.symm⟩, by simp; exact ⟨D.i12.symm, D.l1i2.symm⟩⟩
    refine wpAny_pyNext_zipD2_item S D1 D2 hz hTI hTO ⟨h1, p.isList⟩ ⟨h2, p2⟩ (by simp; omega) (by simp; omega) fun x1 x2 h' tk y1 y2 z' TO' st1 st2 hT hsz hk => ?_
    obtain ⟨h1', _⟩ := st1
    obtain ⟨h2', _⟩ := st2
    have hu' : its[i]? = some x1 := by simpa using y1
    have hu2' : its2[i]? = some x2 := by simpa using y2
    have eu : u = x1 := Option.some.inj (hu.symm.trans hu')
    have eu2 : u2 = x2 := Option.some.inj (hu2.symm.trans hu2')
    subst eu
    subst eu2
    refine ⟨_, rfl, wpAny_letOwnedTupleGo_zip (s := { s with heap := h', toks := tk }) z' fun h'' z'' sb => ?_⟩
    have hT2 : h''.get? s.heap.objs.size = some { cls := .type "tuple", data := .seq #[u, u2] } := (sb.2 _ (Nat.ne_of_gt hzl)).trans hT
    have new : ObjOk X.prog X.w (upd H s.heap.objs.size (.tup [xs[i], ys[i]])) h'' s.heap.objs.size (.tup [xs[i], ys[i]]) :=
      ⟨by show 2 ≤ sizeLine; decide, [u, u2], .cons ru (.cons ru2 .nil), ⟨_, hT2, rfl, _, rfl⟩⟩
    have I1 : Inv X pins σ (upd H s.heap.objs.size (.tup [xs[i], ys[i]])) { s with heap := h'', toks := tk } :=
      I.turnedNew (t' := tk) (ch := [z, TI, TO, i1, i2]) (fun c o hb q => (sb.2 c (fun q' => hb (by simp [q']))).trans (hk c o (fun q' => hb (by simp [q'])) (fun q' => hb (by simp [q'])) (fun q' => hb (by simp [q'])) (fun q' => hb (by simp [q'])) q)) hf (Nat.le_refl _) new
    refine ⟨.ref s.heap.objs.size, _, I1, rfl, ⟨_, xs[i], ys[i], rfl, I.hok.fresh (Nat.le_refl _), rfl, hx, hy⟩, ⟨z'', ?_, ⟨u, u2, ?_⟩, ?_, ?_, hlx, hly, n1, n2⟩, fun c hcm => ?_⟩
    · exact (sb.2 _ D.TIz).trans (hk _ _ D.TIz D.TITO D.TIi1 D.TIi2 hTI)
    · exact (sb.2 _ D.TOz).trans TO'
    · exact h1'.at fun o q => (sb.2 _ D.i1z).trans q
    · exact h2'.at fun o q => (sb.2 _ D.i2z).trans q
    · have hlt : c < s.heap.objs.size := by
        have e' : c = z ∨ c = TI ∨ c = TO ∨ c = i1 ∨ c = i2 := by simpa using hcm
        rcases e' with q | q | q | q | q
        · rw [q]; exact hzl
        · rw [q]; exact Heap.lt_size hTI
        · rw [q]; exact Heap.lt_size hTO
        · rw [q]; obtain ⟨_, e1, _⟩ := h1; exact Heap.lt_size e1
        · rw [q]; obtain ⟨_, e2, _⟩ := h2; exact Heap.lt_size e2
      rw [upd_ne (Nat.ne_of_lt hlt)]
      exact (hf c hcm).1
  done := by
    intro X hP hw hK hc i pins s σ H E I hf st hg
    subst hP hw hK
    obtain ⟨hz, hTI, ⟨x0, y0, hTO⟩, h1, h2, l1, l2, n1, n2⟩ := st
    obtain ⟨hend, hqx, hqy⟩ := hg
    obtain ⟨its, rv, p, _⟩ := I.list hqx
    obtain ⟨its2, rv2, p2, _⟩ := I.tuple hqy
    have e1 := rv.length
    have e2 := rv2.length
    have hh : X.A.in1.handled = none := I.ok.hd hc
    have D1 := Draws.list (prog := X.prog) (w := X.w) hh i1 a n1 its.toArray
    have D2 := Draws.tuple (prog := X.prog) (w := X.w) hh i2 b n2 its2.toArray
    have S : ZipSep2 z TI TO i1 i2 [i1, a] [i2, b] := ⟨D.TIz, D.TOz, D.TITO, D.TIi1, by simp, by simp; exact ⟨D.i1z.symm, D.l1z.symm⟩, by simp; exact ⟨D.TOi1, D.l1TO.symm⟩, D.TIi2, by simp, by simp; exact ⟨D.i2z.symm, D.l2z.symm⟩, by simp; exact ⟨D.TOi2, D.l2TO.symm⟩, by simp; exact ⟨D.i12, D.l2i1.symm⟩, by simp; exact ⟨D.i12.symm, D.l1i2.symm⟩⟩
    exact wpAny_pyNext_zipD2_end S D1 D2 hz hTI hTO ⟨h1, p.isList⟩ ⟨h2, p2⟩ (by simp; omega) (by simp; omega) (by simp; omega) fun h' tk hk => ⟨rfl, I.turnedL (t' := tk) (ch := [z, TI, TO, i1, i2]) (fun c o hb q =>
      hk c o (fun q' => hb (by simp [q'])) (fun q' => hb (by simp [q'])) (fun q' => hb (by simp [q'])) (fun q' => hb (by simp [q'])) q) hf⟩
  self := fun A i s Q E st h => wpAny_pyIter_zip st.1 h
def iZipM (K : PySem.W.Frag) (ta : TA) : TI := fun σ H R => ta σ H fun vs H1 => ∃ a b xs ys, vs = [.ref a, .ref b] ∧ SqL K H1 a xs ∧ SqT K H1 b ys ∧ R (Izm K a b xs ys) H1
theorem pi_zipM {X : Cx} {e e2 : Expr} {ta : TA} {p pos tpos : Pos} {elts : List Expr} {kk : Nat} (hg : Gl X "zip") (hm : X.mg "zip" = none) (ha : PA X [e, e2] ta)
    (hs : starEach [e, e2] X.env = (false, eval e X.env) :: starEach [e2] X.env := by rfl) (hpl : (backTo pos (starEach [e2] X.env)).any (·.1) = false := by rfl) :
    PI X (.Tuple elts kk tpos) (.Call (.Name "zip" p) [e, e2] [] pos) (iZipM X.K ta) := by
  refine ⟨fun pins s σ H R I h => ?_⟩
  refine Call_ (ld_blt I hg hm PyProof.Rows.boot_zip (PyProof.Rows.callWith_type1 (thn (ha.run pos pins s σ H _ I h) fun us s1 ⟨vs, H1, I1, r1, q1⟩ => ?_) hs hpl))
  obtain ⟨a, b, xs, ys, ex, hqx, hqy, q⟩ := q1
  subst ex
  cases r1 with
  | cons r rr =>
    cases rr with
    | cons r' rr =>
      cases rr
      cases r
      cases r'
      have fresh5 : ∀ c, c ∈ [s1.heap.objs.size + 4, s1.heap.objs.size + 2, s1.heap.objs.size + 3, s1.heap.objs.size, s1.heap.objs.size + 1] → FpOk X pins H1 c := fun c hcm => by
        have e' : c = s1.heap.objs.size + 4 ∨ c = s1.heap.objs.size + 2 ∨ c = s1.heap.objs.size + 3 ∨ c = s1.heap.objs.size ∨ c = s1.heap.objs.size + 1 := by simpa using hcm
        have hle : s1.heap.objs.size ≤ c := by
          rcases e' with z | z | z | z | z
          · rw [z]; exact Nat.le_add_right _ _
          · rw [z]; exact Nat.le_add_right _ _
          · rw [z]; exact Nat.le_add_right _ _
          · rw [z]; exact Nat.le_refl _
          · rw [z]; exact Nat.le_add_right _ _
        exact I1.fpOk hle (I1.hok.fresh hle)
      obtain ⟨its, rv, p1, _⟩ := I1.list hqx
      obtain ⟨its2, rv2, p2, _⟩ := I1.tuple hqy
      obtain ⟨o2, ho2, _⟩ := id p2
      have al := p1.lt
      have bl := Heap.lt_size ho2
      refine zip_begins2 (begins_list a its.toArray) (begins_tuple b its2.toArray) p1.isList p2 fun h' hz hTI hTO h1 h2 hsz hk => wpAny_pyIter_zip hz ?_
      have I2 : Inv X pins σ H1 { s1 with heap := h' } := I1.kept (t' := s1.toks) hk
      exact ⟨s1.heap.objs.size + 4, [s1.heap.objs.size + 4, s1.heap.objs.size + 2, s1.heap.objs.size + 3, s1.heap.objs.size, s1.heap.objs.size + 1], _, _, H1, rfl, I2, turn_zipM (PySem.W.ktu_apart s1.heap.objs.size a b al bl) xs ys, ⟨hz, hTI, ⟨_, _, hTO⟩, ⟨_, h1, rfl, rfl⟩, ⟨_, h2, rfl, rfl⟩, Nat.zero_le _, Nat.zero_le _, Nat.ne_of_lt al, Nat.ne_of_lt (Nat.lt_succ_of_lt bl)⟩, fresh5, q⟩
end TCX
namespace TC
set_option exponentiation.threshold 20000
open PySem PySem.Spec PyProof.Rows L2 TCA TCX
def sbnL (n : Nat) : List V := (List.range (n + 1)).map fun m => V.int (sbN n m)
theorem sbnL_len (n : Nat) : (sbnL n).length = n + 1 := by
  unfold sbnL
  rw [List.length_map, List.length_range]
theorem sbnL_at {n i : Nat} {x : V} (h : (sbnL n)[i]? = some x) : i ≤ n ∧ x = .int (sbN n i) := by
  unfold sbnL at h
  rw [List.getElem?_map] at h
  rcases Nat.lt_or_ge i (n + 1) with hi | hi
  · rw [List.getElem?_range hi] at h
    exact ⟨by omega, (Option.some.inj h).symm⟩
  · rw [List.getElem?_eq_none (by rw [List.length_range]; exact hi)] at h
    cases h
theorem bin_at {n i : Nat} {x : V} (h : (binL n)[i]? = some x) : i ≤ n ∧ x = .int ((binN n i : Nat) : Int) := by
  unfold binL at h
  rw [List.getElem?_map] at h
  rcases Nat.lt_or_ge i (n + 1) with hi | hi
  · rw [List.getElem?_range hi] at h
    exact ⟨by omega, (Option.some.inj h).symm⟩
  · rw [List.getElem?_eq_none (by rw [List.length_range]; exact hi)] at h
    cases h
section
variable {P : Program} {w : World} {K : PySem.W.Frag} {mg : Str → Option Value} {base : Heap} {f : Addr} {fd : FuncData} {C fI fQ : Addr}
/-! ### signed_binomials -/
def spSigned : Sp := fun vs H Q _ => ∃ n : Nat, vs = [.int n] ∧ n ≤ 12 ∧ ∀ l H', Same H H' → H' l = some (.lst (sbnL n)) → Q (.ref l) H'
abbrev nSigned : List Str := ["power", "at", "number"]
theorem scSigned : FnScope nSigned ["power"] (defScope sSignedBinomials) := ⟨rfl, rfl, rfl, by decide +kernel, rfl, by decide +kernel, by decide +kernel⟩
theorem ok_signed {fB fO : Addr} {fdB fdO : FuncData} (F : FnP K "signed_binomials" sSignedBinomials f fd) (GB : FnOk P w K mg base CX0 1 fB fdB ["high"] spBinom) (bB : L2.Binds K fdB ["high"] []) (kB : PySem.W.keepIn K (.ref fB) = true) (gB : mg "binomials" = some (.ref fB))
    (GO : FnOk P w K mg base CX0 1 fO fdO ["number"] spOdd) (bO : L2.Binds K fdO ["number"] []) (kO : PySem.W.keepIn K (.ref fO) = true) (gO : mg "is_odd" = some (.ref fO)) (genumerate : mg "enumerate" = none) :
    FnOk P w K mg base CX0 2 f fd ["power"] spSigned := by
  refine F.ok scSigned (fun vs H Q E h => ?_) (fun cdv A outer s H vs Q E hr h => ?_)
  · obtain ⟨_, rfl, _⟩ := h
    rfl
  obtain ⟨n, rfl, n1, q⟩ := h
  have hr1 := hr.mono (j := 1) (by decide)
  refine ⟨_, PSs.nox (pss_one (ps_ret (pe_lc (own := [("at", 1), ("number", 2)]) (g := gTup K 2 (gCons (gName 1) (gCons (gName 2) gNil))) (tt := tYes) (te := tIf (tB (tCall spOdd [] E0 (tCons (tVar 1) tNil))) (tUn (rU fun i => .int (-i)) (tVar 2)) (tVar 2)) (by rfl) scSigned.nd (pi_enum (by rfl) genumerate (pa_cons (pe_call GB hr1 (by rfl) gB kB bB .nil pass0 (pa_cons (pv 0) pa_nil)) pa_nil))
          (blkOk_by (N := nSigned) (sc := defScope sSignedBinomials) (by decide +kernel)) (fun _ _ _ _ _ => pg_tup rfl (pgs_cons (pg_name (i := 1) scSigned.nd rfl (.inl rfl)) (pgs_cons (pg_name (i := 2) scSigned.nd rfl (.inl rfl)) pgs_nil))) (fun _ _ _ _ _ => pts_nil) (fun _ _ _ _ _ => (pe_ifExp (pt_val (pe_call GO hr1 (by rfl) gO kO bO .nil pass0 (pa_cons (pv 1) pa_nil))) (pe_un un_neg (pv 2)) (pv 2)))))), ?_⟩
  refine ⟨_, rfl, n, rfl, by omega, fun l hl => ⟨l, _, rfl, SqL.of upd_same, fun D hD => ?_⟩⟩
  have s1 := same_upd (o := .lst (binL n)) hl
  refine lc_it walk_enum (fun i G => Same H G ∧ G l = some (.lst (binL n)) ∧ G D = some (.lst ((List.range i).map fun m => V.int (sbN n m)))) ⟨s1.trans (same_upd hD), by rw [upd_ne (ne_of_none upd_same hD)]; exact upd_same, upd_same⟩ (fun i G _ hP => SqL.of hP.2.1) (fun i x G G' hi hP hx => ?_) (fun G hP => ?_)
  · obtain ⟨sm, hb, hl2⟩ := hP
    obtain ⟨T, y, z, rfl, hT, rfl, e1, e2⟩ := hx
    cases (Option.some.inj e1 : V.int (i : Nat) = y)
    obtain ⟨hi', rfl⟩ := bin_at e2
    have s2 := same_upd (o := .tup [.int (i : Nat), .int ((binN n i : Nat) : Int)]) hT
    have sz : ((List.range i).map fun m => V.int (sbN n m)).length < sizeLine := by rw [List.length_map, List.length_range, sizeLine_eq]; omega
    have hnew : ((List.range (i + 1)).map fun m => V.int (sbN n m)) = ((List.range i).map fun m => V.int (sbN n m)) ++ [V.int (sbN n i)] := by
      rw [List.range_succ, List.map_append]
      rfl
    have fin : ∀ v : V, v = .int (sbN n i) → ∃ acc, (upd G T (.tup [.int (i : Nat), .int ((binN n i : Nat) : Int)])) D = some (.lst acc) ∧ acc.length < sizeLine ∧ (Same H (upd (upd G T (.tup [.int (i : Nat), .int ((binN n i : Nat) : Int)])) D (.lst (acc ++ [v]))) ∧ (upd (upd G T (.tup [.int (i : Nat), .int ((binN n i : Nat) : Int)])) D (.lst (acc ++ [v]))) l = some (.lst (binL n)) ∧ (upd (upd G T (.tup [.int (i : Nat), .int ((binN n i : Nat) : Int)])) D (.lst (acc ++ [v]))) D = some (.lst ((List.range (i + 1)).map fun m => V.int (sbN n m)))) := fun v hv => by
      have nl : l ≠ D := ne_of_none upd_same hD
      refine ⟨_, s2 _ _ hl2, sz, fun b o eb => ?_, ?_, ?_⟩
      · rw [upd_ne (ne_of_none (s1 _ _ eb) hD)]
        exact s2 _ _ (sm _ _ eb)
      · rw [upd_ne nl]
        exact s2 _ _ hb
      · rw [upd_same, hnew, hv]
    refine ⟨T, _, rfl, SqT.of upd_same, rfl, _, _, rfl, _, _, rfl, rfl, rfl, ?_⟩
    refine ⟨_, rfl, i, rfl, _, rfl, ?_⟩
    by_cases ho : ((i : Nat) : Int) % 2 = 1
    · refine iteD1 ho ⟨_, rfl, _, rfl, fin _ ?_⟩
      show V.int (-_) = V.int (sbN n i)
      unfold sbN sgK
      rw [if_pos (by omega), Int.neg_mul, Int.one_mul]
    · refine iteD0 ho ⟨_, rfl, fin _ ?_⟩
      unfold sbN sgK
      rw [if_neg (by omega), Int.one_mul]
  · exact q D G hP.1 (by rw [hP.2.2]; unfold sbnL binL; rw [List.length_map, List.length_range])
end
end TC
namespace TC
set_option exponentiation.threshold 20000
open PySem PySem.Spec PyProof.Rows L2 TCA TCX
/-- the keys at which something stands -/
def powK (p q r : Nat) : List (List Int) := (keysL (pAll p q r)).filter fun k => decide (sumAt (pAll p q r) k ≠ 0)
def powO (p q r : Nat) : HO := .dT (entT kInt (powK p q r) fun k => .int (sumAt (pAll p q r) k))
theorem pAll_lt {p q r : Nat} (h1 : p ≤ 12) (h2 : q ≤ 12) (h3 : r ≤ 12) {m n : Nat} (hm : m ≤ p + 1) (hn : n ≤ q + 1) {o : Nat} (ho : o ≤ r + 1) (i j : Nat) : (keysL ((List.range m).flatMap (pPla p q r) ++ ((List.range n).flatMap (pRow p q r i) ++ (List.range o).map (pTerm p q r i j)))).length < sizeLine := by
  refine Nat.lt_of_le_of_lt (keysL_len _) ?_
  rw [List.length_append, List.length_append, pAll_len, pPla_len, List.length_map, List.length_range, sizeLine_eq]
  have a : m * ((q + 1) * (r + 1)) ≤ 13 * (13 * 13) := Nat.mul_le_mul (by omega) (Nat.mul_le_mul (by omega) (by omega))
  have b : n * (r + 1) ≤ 13 * 13 := Nat.mul_le_mul (by omega) (by omega)
  omega
section
variable {P : Program} {w : World} {K : PySem.W.Frag} {mg : Str → Option Value} {base : Heap} {f : Addr} {fd : FuncData} {C fI fQ : Addr}
/-! ### powers -/
def spPow : Sp := fun vs H Q _ => ∃ p q r : Nat, vs = [.int p, .int q, .int r] ∧ p ≤ 12 ∧ q ≤ 12 ∧ r ≤ 12 ∧ ∀ d H', Same H H' → H d = none → H' d = some (powO p q r) → Q (.ref d) H'
abbrev nPow : List Str := ["p", "q", "r", "power", "found", "i", "first", "j", "second", "k", "third", "place", "number"]
theorem scPow : FnScope nPow ["p", "q", "r"] (defScope sPowers) := ⟨rfl, rfl, rfl, by decide +kernel, rfl, by decide +kernel, by decide +kernel⟩
theorem sm_but {H G : Hp} {d : Addr} {o : HO} (s : Same H G) (hd : H d = none) : Same H (upd G d o) := fun b u e => by
  rw [upd_ne (ne_of_none e hd)]
  exact s _ _ e
theorem ok_pow {fS fW : Addr} {fdS fdW : FuncData} {tH : Tok} (F : FnP K "powers" sPowers f fd) (GS : FnOk P w K mg base CX0 2 fS fdS ["power"] spSigned) (bS : L2.Binds K fdS ["power"] []) (kS : PySem.W.keepIn K (.ref fS) = true) (gS : mg "signed_binomials" = some (.ref fS))
    (GW : FnOk P w K mg base CX0 1 fW fdW ["thing"] (spWhole K)) (bW : L2.Binds K fdW ["thing"] []) (kW : PySem.W.keepIn K (.ref fW) = true) (gW : mg "is_whole" = some (.ref fW)) (gH : mg "HIGHEST_POWER" = some (.int 12 tH)) (genumerate : mg "enumerate" = none) :
    FnOk P w K mg base CX0 3 f fd ["p", "q", "r"] spPow := by
  refine F.ok scPow (fun vs H Q E h => ?_) (fun cdv A outer s H vs Q E hr h => ?_)
  · obtain ⟨_, _, _, rfl, _⟩ := h
    rfl
  obtain ⟨p, q, r, rfl, p1, q1, r1, qq⟩ := h
  have hr1 := hr.mono (j := 1) (by decide)
  have hu := hu_of hr
  have hu1 : (A.deeper (envOfC "powers" (defScope sPowers) s.heap.objs.size f cdv)).units + 1 < cLine := by omega
  refine ⟨_, PSs.nox (C8.pss_cut (ps_for PassesOwn.never rfl (pi_tup (pe_tup (pa_cons (pv 0) (pa_cons (pv 1) (pa_cons (pv 2) pa_nil))))) (pg_name (i := 3) scPow.nd rfl (.inl rfl))
        (pss_one (ps_if (PW.pt (pw_or (pt_not (pt_val (pe_call GW hr1 (by rfl) gW kW bW .nil pass0 (pa_cons (pv 3) pa_nil)))) (pw_or1 (pt_not (pt_chain op_le op_le pe_int (pv 3) (pe_glob (v := .int 12) (by rfl) gH ⟨_, rfl⟩)))))) pss_never pss_nil)))
      (pss_cons (ps_set (i := 4) scPow.nd rfl (.inl rfl) pe_dnewT)
      (C8.pss_cut (ps_for PassesOwn.never rfl (pi_enum (by rfl) genumerate (pa_cons (pe_call GS hr (by rfl) gS kS bS .nil pass0 (pa_cons (pv 0) pa_nil)) pa_nil)) (pg_tup rfl (pgs_cons (pg_name (i := 5) scPow.nd rfl (.inl rfl)) (pgs_cons (pg_name (i := 6) scPow.nd rfl (.inl rfl)) pgs_nil)))
        (pss_one (ps_for PassesOwn.never rfl (pi_enum (by rfl) genumerate (pa_cons (pe_call GS hr (by rfl) gS kS bS .nil pass0 (pa_cons (pv 1) pa_nil)) pa_nil)) (pg_tup rfl (pgs_cons (pg_name (i := 7) scPow.nd rfl (.inl rfl)) (pgs_cons (pg_name (i := 8) scPow.nd rfl (.inl rfl)) pgs_nil)))
        (pss_one (ps_for PassesOwn.never rfl (pi_enum (by rfl) genumerate (pa_cons (pe_call GS hr (by rfl) gS kS bS .nil pass0 (pa_cons (pv 2) pa_nil)) pa_nil)) (pg_tup rfl (pgs_cons (pg_name (i := 9) scPow.nd rfl (.inl rfl)) (pgs_cons (pg_name (i := 10) scPow.nd rfl (.inl rfl)) pgs_nil)))
        (pss_cons (ps_set (i := 11) scPow.nd rfl (.inl rfl) (pe_tup (pa_cons (pe_op op_add (pe_op op_sub (pv 0) (pv 5)) (pv 9)) (pa_cons (pe_op op_sub (pe_op op_add (pv 5) (pv 2)) (pv 9)) (pa_cons (pe_op op_sub (pe_op op_add (pv 5) (pv 1)) (pv 7)) (pa_cons (pe_op op_add (pe_op op_sub (pv 0) (pv 5)) (pv 7)) (pa_cons (pe_op op_sub (pe_op op_add (pv 7) (pv 2)) (pv 9)) (pa_cons (pe_op op_add (pe_op op_sub (pv 1) (pv 7)) (pv 9)) pa_nil))))))))
      (pss_one (ps_dput hu (pv 4) (pv 11) (pe_op op_add (pe_dget2 hu (pv 4) (pv 11) pe_int ⟨rfl, rfl, rfl, rfl⟩) (pe_op op_mul (pe_op op_mul (pv 6) (pv 8)) (pv 10))) rfl))))))))
      (pss_one (ps_ret (pe_lock (pe_dcG (own := [("place", 11), ("number", 12)]) (g := gTup K 2 (gCons (gName 11) (gCons (gName 12) gNil))) (tt := tTest (tOp rNe (tVar 12) (tC (.int 0)))) (tk := tVar 11) (tv := tVar 12) (puts_T hu1) rfl scPow.nd (pi_itemsT (pv 4))
          (blkOk_by (N := nPow) (sc := defScope sPowers) (by decide +kernel)) (fun _ _ _ _ _ => pg_tup rfl (pgs_cons (pg_name (i := 11) scPow.nd rfl (.inl rfl)) (pgs_cons (pg_name (i := 12) scPow.nd rfl (.inl rfl)) pgs_nil))) (fun _ _ _ _ _ => pts_one (pt_cmpR op_ne (pv 12) pe_int (nomark _))) (fun _ _ _ _ _ => pv 11) (fun _ _ _ _ _ => pv 12)))))))), ?_⟩
  -- what is handed in is right
  refine ⟨fun σ G => (∃ v3, σ = [some (.int p), some (.int q), some (.int r), v3, none, none, none, none, none, none, none, none, none]) ∧ Same H G, ?_, fun σ H1 hM => ?_⟩
  · refine ⟨_, rfl, _, rfl, _, rfl, by show 3 ≤ sizeLine; decide, fun t ht => ?_⟩
    have s1 := same_upd (o := .tup ([(p : Int), q, r].map V.int)) ht
    refine ⟨t, rfl, ⟨_, SqT.of upd_same⟩, for_tup (xs := [(p : Int), q, r].map V.int) (fun i σ G => (∃ v3, σ = [some (.int p), some (.int q), some (.int r), v3, none, none, none, none, none, none, none, none, none]) ∧ G = upd H t (.tup ([(p : Int), q, r].map V.int))) ⟨⟨none, rfl⟩, rfl⟩ (fun i σ G _ hP => by rw [hP.2]; exact SqT.of upd_same) (fun i x σ G hx hP => ?_) (fun σ G hP => by obtain ⟨h1, rfl⟩ := hP; exact ⟨h1, s1⟩)⟩
    obtain ⟨⟨v3, rfl⟩, rfl⟩ := hP
    obtain ⟨n, hn, rfl⟩ := ints_at hx
    have nb : 0 ≤ n ∧ n ≤ 12 := by
      have := List.mem_of_getElem? hn
      simp only [List.mem_cons, List.not_mem_nil, or_false] at this
      omega
    refine ⟨_, rfl, .inl ⟨n, rfl, true, rfl, iteF ?_⟩⟩
    refine ⟨_, rfl, 0, n, rfl, rfl, true, congrArg V.bl (decide_eq_true nb.1), iteT ⟨n, 12, rfl, rfl, true, congrArg V.bl (decide_eq_true nb.2), iteF ⟨⟨_, rfl⟩, rfl⟩⟩⟩
  obtain ⟨⟨v3, rfl⟩, s1⟩ := hM
  refine fun d hd => ?_
  have hd0 : H d = none := s1.free hd
  have s2 : Same H (upd H1 d (.dT [])) := s1.trans (same_upd hd)
  -- the loops
  refine ⟨fun σ G => (∃ v5 v6 v7 v8 v9 v10 v11 v12 : Option V, σ = [some (.int p), some (.int q), some (.int r), v3, some (.ref d), v5, v6, v7, v8, v9, v10, v11, v12]) ∧ Same H G ∧ G d = some (cntO kInt (pAll p q r)), ?_, fun σ G hM => ?_⟩
  · refine ⟨_, rfl, p, rfl, p1, fun la H2 t2 hla => ?_⟩
    refine ⟨la, _, rfl, SqL.of hla, for_it walk_enum (fun i σ G => (∃ v5 v6 v7 v8 v9 v10 v11 v12 : Option V, σ = [some (.int p), some (.int q), some (.int r), v3, some (.ref d), v5, v6, v7, v8, v9, v10, v11, v12]) ∧ Same H G ∧ G la = some (.lst (sbnL p)) ∧ G d = some (cntO kInt ((List.range i).flatMap (pPla p q r)))) ⟨⟨_, _, _, _, _, _, _, _, rfl⟩, s2.trans t2, hla, t2 _ _ upd_same⟩ (fun i σ G _ hP => SqL.of hP.2.2.1) (fun i x σ G G' hi hP hx => ?_) (fun σ G hP => ?_)⟩
    rotate_left
    · obtain ⟨a, b, _, c⟩ := hP
      rw [sbnL_len] at c
      exact ⟨a, b, c⟩
    obtain ⟨⟨v5, v6, v7, v8, v9, v10, v11, v12, rfl⟩, sm, hl1, hD⟩ := hP
    obtain ⟨T1, y1, z1, rfl, hT1, rfl, e1, e2⟩ := hx
    cases (Option.some.inj e1 : V.int (i : Nat) = y1)
    obtain ⟨hi', rfl⟩ := sbnL_at e2
    have u1 := same_upd (o := .tup [.int (i : Nat), .int (sbN p i)]) hT1
    refine ⟨T1, _, rfl, SqT.of upd_same, rfl, _, _, rfl, _, _, rfl, rfl, ?_⟩
    refine ⟨_, rfl, q, rfl, q1, fun lb H3 t3 hlb => ?_⟩
    have sm3 := (sm.trans u1).trans t3
    have hl13 := t3 _ _ (u1 _ _ hl1)
    have hD3 := t3 _ _ (u1 _ _ hD)
    refine ⟨lb, _, rfl, SqL.of hlb, for_it walk_enum (fun j σ G => (∃ v7 v8 v9 v10 v11 v12 : Option V, σ = [some (.int p), some (.int q), some (.int r), v3, some (.ref d), some (.int (i : Nat)), some (.int (sbN p i)), v7, v8, v9, v10, v11, v12]) ∧ Same H G ∧ G la = some (.lst (sbnL p)) ∧ G lb = some (.lst (sbnL q)) ∧ G d = some (cntO kInt ((List.range i).flatMap (pPla p q r) ++ (List.range j).flatMap (pRow p q r i)))) ⟨⟨_, _, _, _, _, _, rfl⟩, sm3, hl13, hlb, by rw [List.range_zero, List.flatMap_nil, List.append_nil]; exact hD3⟩ (fun j σ G _ hP => SqL.of hP.2.2.2.1) (fun j x σ G G' hj hP hx => ?_) (fun σ G hP => ?_)⟩
    rotate_left
    · obtain ⟨⟨v7, v8, v9, v10, v11, v12, rfl⟩, b, c, _, e⟩ := hP
      rw [sbnL_len] at e
      refine ⟨⟨_, _, _, _, _, _, _, _, rfl⟩, b, c, ?_⟩
      rw [List.range_succ, List.flatMap_append]
      show _ = some (cntO kInt (_ ++ (pPla p q r i ++ [])))
      rw [List.append_nil]
      exact e
    obtain ⟨⟨v7, v8, v9, v10, v11, v12, rfl⟩, sm4, hl14, hl24, hD4⟩ := hP
    obtain ⟨T2, y2, z2, rfl, hT2, rfl, e1, e2⟩ := hx
    cases (Option.some.inj e1 : V.int (j : Nat) = y2)
    obtain ⟨hj', rfl⟩ := sbnL_at e2
    have u2 := same_upd (o := .tup [.int (j : Nat), .int (sbN q j)]) hT2
    refine ⟨T2, _, rfl, SqT.of upd_same, rfl, _, _, rfl, _, _, rfl, rfl, ?_⟩
    refine ⟨_, rfl, r, rfl, r1, fun lc H5 t5 hlc => ?_⟩
    have sm5 := (sm4.trans u2).trans t5
    have hl15 := t5 _ _ (u2 _ _ hl14)
    have hl25 := t5 _ _ (u2 _ _ hl24)
    have hD5 := t5 _ _ (u2 _ _ hD4)
    refine ⟨lc, _, rfl, SqL.of hlc, for_it walk_enum (fun k σ G => (∃ v9 v10 v11 v12 : Option V, σ = [some (.int p), some (.int q), some (.int r), v3, some (.ref d), some (.int (i : Nat)), some (.int (sbN p i)), some (.int (j : Nat)), some (.int (sbN q j)), v9, v10, v11, v12]) ∧ Same H G ∧ G la = some (.lst (sbnL p)) ∧ G lb = some (.lst (sbnL q)) ∧ G lc = some (.lst (sbnL r)) ∧ G d = some (cntO kInt ((List.range i).flatMap (pPla p q r) ++ ((List.range j).flatMap (pRow p q r i) ++ (List.range k).map (pTerm p q r i j))))) ⟨⟨_, _, _, _, rfl⟩, sm5, hl15, hl25, hlc, by rw [List.range_zero, List.map_nil, List.append_nil]; exact hD5⟩ (fun k σ G _ hP => SqL.of hP.2.2.2.2.1) (fun k x σ G G' hk hP hx => ?_) (fun σ G hP => ?_)⟩
    rotate_left
    · obtain ⟨⟨v9, v10, v11, v12, rfl⟩, b, c, c2, _, e⟩ := hP
      rw [sbnL_len] at e
      refine ⟨⟨_, _, _, _, _, _, rfl⟩, b, c, c2, ?_⟩
      rw [List.range_succ (n := j), List.flatMap_append]
      show _ = some (cntO kInt (_ ++ (_ ++ (pRow p q r i j ++ []))))
      rw [List.append_nil]
      exact e
    obtain ⟨⟨v9, v10, v11, v12, rfl⟩, sm6, hl16, hl26, hl36, hD6⟩ := hP
    obtain ⟨T3, y3, z3, rfl, hT3, rfl, e1, e2⟩ := hx
    cases (Option.some.inj e1 : V.int (k : Nat) = y3)
    obtain ⟨hk', rfl⟩ := sbnL_at e2
    have u3 := same_upd (o := .tup [.int (k : Nat), .int (sbN r k)]) hT3
    generalize eL : (List.range i).flatMap (pPla p q r) ++ ((List.range j).flatMap (pRow p q r i) ++ (List.range k).map (pTerm p q r i j)) = L at hD6
    have hlen : (keysL L).length < sizeLine := by
      rw [← eL]
      exact pAll_lt p1 q1 r1 (by omega) (by omega) (by omega) i j
    have hnew : (List.range i).flatMap (pPla p q r) ++ ((List.range j).flatMap (pRow p q r i) ++ (List.range (k + 1)).map (pTerm p q r i j)) = L ++ [pTerm p q r i j k] := by
      rw [← eL, List.range_succ (n := k), List.map_append]
      simp only [List.append_assoc]
      rfl
    refine ⟨T3, _, rfl, SqT.of upd_same, rfl, _, _, rfl, _, _, rfl, rfl, ?_⟩
    refine ⟨_, rfl, _, rfl, p, i, rfl, rfl, _, rfl, _, k, rfl, rfl, _, rfl, _, rfl, i, r, rfl, rfl, _, rfl, _, k, rfl, rfl, _, rfl, _, rfl, i, q, rfl, rfl, _, rfl, _, j, rfl, rfl, _, rfl, _, rfl, p, i, rfl, rfl, _, rfl, _, j, rfl, rfl, _, rfl, _, rfl, j, r, rfl, rfl, _, rfl, _, k, rfl, rfl, _, rfl, _, rfl, q, j, rfl, rfl, _, rfl, _, k, rfl, rfl, by show 6 ≤ sizeLine; decide, fun tk htk => ?_⟩
    have u4 := same_upd (o := .tup ((pKey p q r i j k).map V.int)) htk
    have hk7 : (upd (upd G T3 (.tup [.int (k : Nat), .int (sbN r k)])) tk (.tup ((pKey p q r i j k).map V.int))) tk = some (.tup ((kInt (pKey p q r i j k)).map kV)) := by
      rw [upd_same, kInt_kV]
    have hD7 := u4 _ _ (u3 _ _ hD6)
    have sm7 := (sm6.trans u3).trans u4
    have hl17 := u4 _ _ (u3 _ _ hl16)
    have hl27 := u4 _ _ (u3 _ _ hl26)
    have hl37 := u4 _ _ (u3 _ _ hl36)
    generalize eG : upd (upd G T3 (.tup [.int (k : Nat), .int (sbN r k)])) tk (.tup ((pKey p q r i j k).map V.int)) = G7 at hk7 hD7 sm7 hl17 hl27 hl37
    have eG' : upd (upd G T3 (.tup [.int (k : Nat), .int (sbN r k)])) tk (.tup [V.int ((p : Int) - i + k), V.int ((i : Int) + r - k), V.int ((i : Int) + q - j), V.int ((p : Int) - i + j), V.int ((j : Int) + r - k), V.int ((q : Int) - j + k)]) = G7 := eG
    refine ⟨_, rfl, d, rfl, ?_⟩
    rw [eG']
    refine ⟨.inr ⟨_, .inl hD7⟩, _, rfl, _, dget_entT kInt_inj hD7 hk7, ?_⟩
    rw [cnt_get rfl]
    have b1 := sbN_lt p1 hi'
    have b2 := sbN_lt q1 hj'
    have b3 := sbN_lt r1 hk'
    have b12 : (sbN p i * sbN q j).natAbs ≤ 924 * 924 := by
      rw [Int.natAbs_mul]
      exact Nat.mul_le_mul b1 b2
    refine ⟨_, rfl, _, rfl, _, _, rfl, rfl, .inl ⟨by omega, by omega⟩, _, rfl, _, _, rfl, rfl, .inl ⟨by omega, by omega⟩, _, _, rfl, rfl, ?_⟩
    refine ⟨_, rfl, _, rfl, d, _, rfl, dput_entT kInt_inj hD7 hk7 hlen, ?_⟩
    have fin : upd G7 d (.dT (entT kInt (addK (keysL L) (pKey p q r i j k)) (setVal (fun k => .int (sumAt L k)) (pKey p q r i j k) (.int (sumAt L (pKey p q r i j k) + sbN p i * sbN q j * sbN r k))))) = upd G7 d (cntO kInt (L ++ [pTerm p q r i j k])) := by
      rw [← cnt_step L (pTerm p q r i j k)]
      rfl
    rw [fin, hnew]
    have nd1 : la ≠ d := ne_of hl17 hD7 (fun z => nomatch z)
    have nd2 : lb ≠ d := ne_of hl27 hD7 (fun z => nomatch z)
    have nd3 : lc ≠ d := ne_of hl37 hD7 (fun z => nomatch z)
    exact ⟨⟨_, _, _, _, rfl⟩, sm_but sm7 hd0, by rw [upd_ne nd1]; exact hl17, by rw [upd_ne nd2]; exact hl27, by rw [upd_ne nd3]; exact hl37, upd_same⟩
  -- without noughts
  obtain ⟨⟨v5, v6, v7, v8, v9, v10, v11, v12, rfl⟩, sm, hD⟩ := hM
  have nd : (keysL (pAll p q r)).Nodup := nd_keysL _
  have hlen : (keysL (pAll p q r)).length < sizeLine := by
    refine Nat.lt_of_le_of_lt (keysL_len _) ?_
    unfold pAll
    rw [pAll_len, sizeLine_eq]
    have a : (p + 1) * ((q + 1) * (r + 1)) ≤ 13 * (13 * 13) := Nat.mul_le_mul (by omega) (Nat.mul_le_mul (by omega) (by omega))
    omega
  generalize eM : pAll p q r = M at hD nd hlen
  have hD' : G d = some (.dT (entT kInt (keysL M) fun k => .int (sumAt M k))) := hD
  refine ⟨d, _, hD', trivial, fun od => ?_⟩
  refine ⟨_, rfl, d, od, _, rfl, upd_same, fun D hDn => dcg_it walk_itemsT (fun i H2 => (∀ b o, G b = some o → b ≠ d → H2 b = some o) ∧ H2 d = some (.frz od (.dT (entT kInt (keysL M) fun k => .int (sumAt M k)))) ∧ H2 D = some (.dT (entT kInt (((keysL M).take i).filter fun k => decide (sumAt M k ≠ 0)) fun k => .int (sumAt M k)))) ?_ (fun i H2 _ hP => hP.2.1) (fun i x H2 H3 hi hP hy => ?_) (fun H2 hP => ?_)⟩
  · have nDd : d ≠ D := ne_of_none (upd_same (H := G) (a := d)) hDn
    refine ⟨fun b o e hb => ?_, by rw [upd_ne nDd]; exact upd_same, upd_same⟩
    have e2 : (upd G d (.frz od (.dT (entT kInt (keysL M) fun k => .int (sumAt M k))))) b = some o := by rw [upd_ne hb]; exact e
    rw [upd_ne (ne_of_none e2 hDn)]
    exact e2
  · obtain ⟨T3, k, v, tq, hk, rfl, hT3, htq, rfl⟩ := hy
    obtain ⟨keep, hf, hD2⟩ := hP
    obtain ⟨rk, hrk, rfl, rfl⟩ := entT_get hk
    have hrk' : i < (keysL M).length := (List.getElem?_eq_some_iff.mp hrk).1
    have sm3 := same_upd (o := .tup [.ref tq, .int (sumAt M rk)]) hT3
    have nDd : d ≠ D := fun z => by
      rw [← z, hf] at hD2
      cases hD2
    have tk1 : (keysL M).take (i + 1) = (keysL M).take i ++ [rk] := by
      rw [List.take_add_one, hrk]
      rfl
    refine ⟨T3, _, rfl, SqT.of upd_same, rfl, _, _, rfl, _, _, rfl, rfl, rfl, ?_⟩
    refine ⟨_, rfl, rfl, _, rfl, ?_⟩
    by_cases hz : sumAt M rk = 0
    · refine iteNS (congrArg V.int hz) ⟨fun b o e hb => sm3 _ _ (keep _ _ e hb), sm3 _ _ hf, ?_⟩
      rw [tk1, List.filter_append, List.filter_cons_of_neg (by rw [hz]; decide), List.filter_nil, List.append_nil]
      exact sm3 _ _ hD2
    · refine iteNT (ine hz) ⟨_, rfl, _, rfl, _, kInt rk, tq, rfl, sm3 _ _ hD2, sm3 _ _ htq, ?_, fun b o e hb => ?_, ?_, ?_⟩
      · rw [entT_len]
        have a := List.length_filter_le (fun k => decide (sumAt M k ≠ 0)) ((keysL M).take i)
        have b := List.length_take_le i (keysL M)
        have c := List.length_take_le' i (keysL M)
        omega
      · have nb : b ≠ D := fun z => by
          rw [z] at e hb
          have e2 : (upd G d (.frz od (.dT (entT kInt (keysL M) fun k => .int (sumAt M k))))) D = some o := by rw [upd_ne hb]; exact e
          rw [hDn] at e2
          cases e2
        rw [upd_ne nb]
        exact sm3 _ _ (keep _ _ e hb)
      · rw [upd_ne nDd]
        exact sm3 _ _ hf
      · rw [upd_same, put_entT kInt_inj, tk1, List.filter_append, List.filter_cons_of_pos (p := fun k => decide (sumAt M k ≠ 0)) (decide_eq_true hz), List.filter_nil]
        unfold addK
        rw [if_neg]
        · congr 2
          refine entT_congr fun k _ => ?_
          show (if k = rk then V.int (sumAt M rk) else .int (sumAt M k)) = .int (sumAt M k)
          by_cases ek : k = rk
          · rw [if_pos ek, ek]
          · rw [if_neg ek]
        · intro hm
          have hm2 := (List.mem_filter.mp hm).1
          obtain ⟨j, hj, ej⟩ := List.mem_take_iff_getElem.mp hm2
          have z := List.getElem?_eq_some_iff.mp hrk
          obtain ⟨z1, z2⟩ := z
          have := (List.getElem_inj nd).mp (ej.trans z2.symm)
          omega
  · obtain ⟨keep, hf, hD2⟩ := hP
    have nDd : D ≠ d := fun z => by
      rw [z, hf] at hD2
      cases hD2
    refine ⟨hf, qq D _ (fun b o e => ?_) ?_ ?_⟩
    · rw [upd_ne (ne_of_none e hd0)]
      exact keep _ _ (sm _ _ e) (ne_of_none e hd0)
    · cases e : H D with
      | none => rfl
      | some u =>
        have e2 : (upd G d (.frz od (.dT (entT kInt (keysL M) fun k => .int (sumAt M k))))) D = some u := by
          rw [upd_ne nDd]
          exact sm _ _ e
        rw [hDn] at e2
        cases e2
    · rw [upd_ne nDd, hD2, entT_len, List.take_length]
      unfold powO powK
      rw [eM]
end
end TC
namespace TC
set_option exponentiation.threshold 20000
open PySem PySem.Spec PyProof.Rows L2 TCA TCX
/-- whether v is a power -/
def PwV (K : PySem.W.Frag) (H : Hp) (v : V) (b : Bool) : Prop := (∃ n : Int, v = .int n ∧ b = (decide (0 ≤ n) && decide (n ≤ 12))) ∨ (b = false ∧ NotInt K H v)
theorem no_non {K : PySem.W.Frag} {H : Hp} : NotInt K H .non := ⟨_, false, false, .base .non, kit_ty (by decide +kernel), kit_ty (by decide +kernel), rfl⟩
theorem no_bl {K : PySem.W.Frag} {H : Hp} (b : Bool) : NotInt K H (.bl b) := ⟨_, true, true, .base (.bl b), kit_ty (by decide +kernel), kit_ty (by decide +kernel), rfl⟩
theorem no_str {K : PySem.W.Frag} {H : Hp} (z : Str) : NotInt K H (.str z) := ⟨_, false, false, .base (.str z), kit_ty (by decide +kernel), kit_ty (by decide +kernel), rfl⟩
theorem no_tup {K : PySem.W.Frag} {H : Hp} {a : Addr} {xs : List V} (h : H a = some (.tup xs)) : NotInt K H (.ref a) := ⟨_, false, false, .base (.tup h), kit_ty (by decide +kernel), kit_ty (by decide +kernel), rfl⟩
theorem PwV.same {K : PySem.W.Frag} {H H' : Hp} {v : V} {b : Bool} (h : PwV K H v b) (s : Same H H') : PwV K H' v b := by
  rcases h with h | ⟨e, h⟩
  · exact .inl h
  · exact .inr ⟨e, h.same s⟩
theorem ppw_same {K : PySem.W.Frag} {H H' : Hp} (s : Same H H') {xs : List V} {bs : List Bool} (h : Paired (PwV K H) xs bs) : Paired (PwV K H') xs bs := by
  induction h with
  | nil => exact .nil
  | cons r _ ih => exact .cons (r.same s) ih
section
variable {P : Program} {w : World} {K : PySem.W.Frag} {mg : Str → Option Value} {base : Heap} {f : Addr} {fd : FuncData} {CP : Addr}
/-! ### powers, refused -/
def spPowX (K : PySem.W.Frag) (CP : Addr) : Sp := fun vs H Q E => ∃ (v1 v2 v3 : V) (bs : List Bool), vs = [v1, v2, v3] ∧ Paired (PwV K H) [v1, v2, v3] bs ∧ bs.all id = false ∧ ∀ H', Same H H' → E (.ref CP) none H'
theorem ok_powX {fW : Addr} {fdW : FuncData} {tH : Tok} (F : FnP K "powers" sPowers f fd)
    (GW : FnOk P w K mg base CX0 1 fW fdW ["thing"] (spWhole K)) (bW : L2.Binds K fdW ["thing"] []) (kW : PySem.W.keepIn K (.ref fW) = true) (gW : mg "is_whole" = some (.ref fW)) (gH : mg "HIGHEST_POWER" = some (.int 12 tH)) (XP : ITxt K mg "NoPlace" CP) :
    FnOk P w K mg base (L2.CX P w) 2 f fd ["p", "q", "r"] (spPowX K CP) := by
  refine F.ok scPow (fun vs H Q E h => ?_) (fun cdv A outer s H vs Q E hr h => ?_)
  · obtain ⟨_, _, _, _, rfl, _⟩ := h
    rfl
  obtain ⟨v1, v2, v3, bs, rfl, hp, hb, q⟩ := h
  have hr1 := hr.mono (j := 1) (by decide)
  refine ⟨_, pss_cons (ps_for (passes_of rfl) rfl (pi_tup (pe_tup (pa_cons (pv 0) (pa_cons (pv 1) (pa_cons (pv 2) pa_nil))))) (pg_name (i := 3) scPow.nd rfl (.inl rfl))
        (pss_one (ps_if (PW.pt (pw_or (pt_not (pt_val (pe_call GW hr1 (by rfl) gW kW bW .nil pass0 (pa_cons (pv 3) pa_nil)))) (pw_or1 (pt_not (pt_chain op_le op_le pe_int (pv 3) (pe_glob (v := .int 12) (by rfl) gH ⟨_, rfl⟩))))))
          (pss_one (ps_raise rfl (takes_of rfl rfl rfl rfl) (pmk_own PySem.F.excBase_IndexError XP.e XP.g XP.k (raises_own XP.b XP.t) rfl))) pss_nil))) pss_never, ?_⟩
  refine ⟨_, rfl, _, rfl, _, rfl, by show 3 ≤ sizeLine; decide, fun t ht => ?_⟩
  have s1 := same_upd (o := .tup [v1, v2, v3]) ht
  have hp1 := ppw_same s1 hp
  refine ⟨t, rfl, ⟨_, SqT.of upd_same⟩, for_tup (xs := [v1, v2, v3]) (fun i σ G => (∃ y, σ = [some v1, some v2, some v3, y, none, none, none, none, none, none, none, none, none]) ∧ G = upd H t (.tup [v1, v2, v3]) ∧ (bs.take i).all id = true) ⟨⟨none, rfl⟩, rfl, rfl⟩ (fun i σ G _ hP => by rw [hP.2.1]; exact SqT.of upd_same) (fun i x σ G hx hP => ?_) (fun σ G hP => ?_)⟩
  · obtain ⟨⟨y, rfl⟩, rfl, hbt⟩ := hP
    obtain ⟨b, hbi, hs⟩ := paired_at hp1 i x hx
    rcases hs with ⟨n, rfl, e⟩ | ⟨e, hn⟩
    · refine ⟨_, rfl, .inl ⟨n, rfl, true, rfl, iteF ?_⟩⟩
      refine ⟨_, rfl, 0, n, rfl, rfl, _, rfl, iteB (fun y1 => ?_) fun y1 => ?_⟩
      · refine ⟨n, 12, rfl, rfl, _, rfl, ?_⟩
        rw [y1, Bool.true_and] at e
        cases b with
        | true =>
          rw [← e]
          exact iteF ⟨⟨_, rfl⟩, rfl, all_take hbt hbi rfl⟩
        | false =>
          rw [← e]
          exact iteT (q _ s1)
      · exact ⟨_, rfl, iteT (q _ s1)⟩
    · exact ⟨_, rfl, .inr ⟨x, rfl, hn, false, rfl, iteT (iteT (q _ s1))⟩⟩
  · obtain ⟨⟨y, rfl⟩, rfl, hbt⟩ := hP
    have : bs.all id = true := by
      have z := paired_len hp
      rw [show ([v1, v2, v3] : List V).length = bs.length from z, List.take_length] at hbt
      exact hbt
    rw [hb] at this
    cases this
/-! ### _law_told -/
structure STxt (K : PySem.W.Frag) (mg : Str → Option Value) : Prop where
  g1 : mg "TurnError" = some (.ref (He.ga K "TurnError"))
  g2 : mg "ByNought" = some (.ref (He.ga K "ByNought"))
  g3 : mg "NoName" = some (.ref (He.ga K "NoName"))
  g4 : mg "NoPlace" = some (.ref (He.ga K "NoPlace"))
  g5 : mg "NothingDone" = some (.ref (He.ga K "NothingDone"))
def spTold (K : PySem.W.Frag) : Sp := fun vs H Q _ => ∃ (v1 v2 v3 : V) (bs : List Bool), vs = [v1, v2, v3] ∧ Paired (PwV K H) [v1, v2, v3] bs ∧ bs.all id = false ∧ ∀ H', Same H H' → Q (.str "place") H'
abbrev nTold : List Str := ["_law_p", "_law_q", "_law_r", "_law_kept", "_law_e"]
theorem scTold : FnScope nTold ["_law_p", "_law_q", "_law_r"] (defScope sTold) := ⟨rfl, rfl, rfl, by decide +kernel, rfl, by decide +kernel, by decide +kernel⟩
abbrev cl5 (K : PySem.W.Frag) : List Value := [.ref (He.ga K "TurnError"), .ref (He.ga K "ByNought"), .ref (He.ga K "NoName"), .ref (He.ga K "NoPlace"), .ref (He.ga K "NothingDone")]
theorem ok_told {fA fW : Addr} {fdA fdW : FuncData} (F : FnP K "_law_told" sTold f fd) (S : STxt K mg) (GA : FnOk P w K mg base (L2.CX P w) 2 fA fdA ["p", "q", "r"] (spPowX K CP)) (bA : L2.Binds K fdA ["p", "q", "r"] []) (kA : PySem.W.keepIn K (.ref fA) = true) (gA : mg "powers" = some (.ref fA))
    (GW : FnOk P w K mg base CX0 1 fW fdW ["_law_e"] (spWord K)) (bW : L2.Binds K fdW ["_law_e"] []) (kW : PySem.W.keepIn K (.ref fW) = true) (gW : mg "_law_word" = some (.ref fW)) (kN : KindF K CP 20) :
    FnOk P w K mg base CX0 3 f fd ["_law_p", "_law_q", "_law_r"] (spTold K) := by
  refine F.ok scTold (fun vs H Q E h => ?_) (fun cdv A outer s H vs Q E hr h => ?_)
  · obtain ⟨_, _, _, _, rfl, _⟩ := h
    rfl
  obtain ⟨v1, v2, v3, bs, rfl, hp, hb, q⟩ := h
  have hr1 := hr.mono (j := 1) (by decide)
  refine ⟨_, PSs.nox (pss_cons (ps_set (i := 3) scTold.nd rfl (.inl rfl) pe_non)
      (pss_cons (ps_try_keep (tb := fun W => tDrop (tCallS (spPowX K CP) (WE W) (tCons (tVar 0) (tCons (tVar 1) (tCons (tVar 2) tNil))))) rfl rfl rfl scTold.nd (fun W pn xe tk _ => pss_one (ps_expr (pe_callS GA hr (by rfl) gA kA bA (fun σ => passAt tk σ) (pa_cons (pv 0) (pa_cons (pv 1) (pa_cons (pv 2) pa_nil))))))
        (HdK.cons (i := 4) (cs := cl5 K) (fun cls b z => tst_tup5 ⟨rfl, by decide, .inl S.g1⟩ ⟨rfl, by decide, .inl S.g2⟩ ⟨rfl, by decide, .inl S.g3⟩ ⟨rfl, by decide, .inl S.g4⟩ ⟨rfl, by decide, .inl S.g5⟩ z) rfl rfl (fun a cls d pn => pss_one (ps_set (i := 3) scTold.nd rfl (.inl rfl) (pv 4))) HdK.nil))
      (pss_one (ps_ret (pe_ifExp (pt_cmpR op_isN (pv 3) pe_non (nomark _)) pe_str (pe_call GW hr1 (by rfl) gW kW bW .nil (E := E0) pass0 (pa_cons (pv 3) pa_nil))))))), ?_⟩
  refine ⟨_, rfl, _, rfl, _, rfl, v1, v2, v3, bs, rfl, hp, hb, fun H1 s1 => ?_⟩
  intro _
  refine ⟨true, kN.x5, fun _ a ha => ?_, fun z => Bool.noConfusion z⟩
  have s2 := same_upd (o := ExV (.ref CP) none a) ha
  refine ⟨_, rfl, _, rfl, rfl, _, rfl, iteD0 (fun z => by cases z) ?_⟩
  refine ⟨_, rfl, a, CP, 20, rfl, upd_same, kN, by decide, fun H2 s3 => q _ ((s1.trans s2).trans s3)⟩
end
end TC
/-! powers of three differences: one difference more. -/
namespace TCX
open L2
theorem bin_pascal {n k : Nat} (h : k + 1 ≤ n) : binN (n + 1) (k + 1) = binN n (k + 1) + binN n k := by
  have e1 := bin_mul (n := n + 1) (k := k + 1) (by omega)
  have e2 := bin_mul (n := n) (k := k + 1) h
  have e3 := bin_mul (n := n) (k := k) (by omega)
  have f1 : factN (n + 1) = (n + 1) * factN n := rfl
  have f2 : factN (k + 1) = (k + 1) * factN k := rfl
  have f3 : factN (n - k) = (n - k) * factN (n - (k + 1)) := by
    rw [show n - k = (n - (k + 1)) + 1 by omega]
    rfl
  rw [show n + 1 - (k + 1) = n - k by omega] at e1
  have p1 := fact_pos k
  have p2 := fact_pos (n - (k + 1))
  refine Nat.eq_of_mul_eq_mul_right (Nat.mul_pos (fact_pos (k + 1)) (fact_pos (n - k))) ?_
  rw [e1, f1, Nat.add_mul (binN n (k + 1))]
  have a : binN n (k + 1) * (factN (k + 1) * factN (n - k)) = (n - k) * factN n := by
    rw [f3, ← e2]
    simp only [Nat.mul_assoc, Nat.mul_left_comm, Nat.mul_comm]
  have b : binN n k * (factN (k + 1) * factN (n - k)) = (k + 1) * factN n := by
    rw [f2, ← e3]
    simp only [Nat.mul_assoc, Nat.mul_left_comm, Nat.mul_comm]
  rw [a, b, ← Nat.add_mul]
  congr 1
  omega
theorem bin_self (n : Nat) : binN n n = 1 := by
  have e := bin_mul (n := n) (k := n) (Nat.le_refl _)
  rw [Nat.sub_self, show factN 0 = 1 from rfl, Nat.mul_one] at e
  exact Nat.eq_of_mul_eq_mul_right (fact_pos n) (by rw [e, Nat.one_mul])
theorem sg_succ (k : Nat) : sgK (k + 1) = - sgK k := by
  unfold sgK
  by_cases h : k % 2 = 1
  · rw [if_pos h, if_neg (by omega)]
    rfl
  · rw [if_neg h, if_pos (by omega)]
theorem sb_zero (n : Nat) : sbN n 0 = 1 := by
  unfold sbN
  rw [bin_zero]
  rfl
theorem sb_pascal {n k : Nat} (h : k + 1 ≤ n) : sbN (n + 1) (k + 1) = sbN n (k + 1) - sbN n k := by
  unfold sbN
  rw [bin_pascal h, sg_succ]
  rw [Int.natCast_add, Int.mul_add, Int.neg_mul, Int.neg_mul]
  omega
theorem sb_top (n : Nat) : sbN (n + 1) (n + 1) = - sbN n n := by
  unfold sbN
  rw [bin_self, bin_self, sg_succ, Int.neg_mul]
theorem sumK_sub (f g : Nat → Int) : ∀ n, sumK (fun i => f i - g i) n = sumK f n - sumK g n
  | 0 => rfl
  | n + 1 => by rw [sumK_succ, sumK_succ, sumK_succ, sumK_sub f g n]; omega
theorem pas_part (f : Nat → Int) (n : Nat) : ∀ m, m ≤ n → sumK (fun i => sbN (n + 1) i * f i) (m + 1) = sumK (fun i => sbN n i * f i) (m + 1) - sumK (fun i => sbN n i * f (i + 1)) m
  | 0, _ => by
    rw [sumK_succ, sumK_succ, sb_zero, sb_zero]
    show (0 : Int) + 1 * f 0 = 0 + 1 * f 0 - 0
    omega
  | m + 1, h => by
    rw [sumK_succ, pas_part f n m (by omega), sumK_succ (fun i => sbN n i * f i) (m + 1), sumK_succ (fun i => sbN n i * f (i + 1)) m, sb_pascal h, Int.sub_mul]
    omega
/-- one difference more -/
theorem pas (f : Nat → Int) (n : Nat) : sumK (fun i => sbN (n + 1) i * f i) (n + 1 + 1) = sumK (fun i => sbN n i * (f i - f (i + 1))) (n + 1) := by
  rw [sumK_succ, pas_part f n n (Nat.le_refl _), sb_top, sumK_congr (g := fun i => sbN n i * f i - sbN n i * f (i + 1)) fun i _ => Int.mul_sub .., sumK_sub, sumK_succ (fun i => sbN n i * f (i + 1)) n, Int.neg_mul]
  omega
def ind (p q r i j l : Nat) (k : List Int) : Int := if pKey p q r i j l = k then 1 else 0
theorem all_eq (p q r : Nat) (k : List Int) : sumAt (pAll p q r) k = sumK (fun i => sbN p i * sumK (fun j => sbN q j * sumK (fun l => sbN r l * ind p q r i j l k) (r + 1)) (q + 1)) (p + 1) := by
  unfold pAll
  rw [sumAt_flat]
  refine sumK_congr fun i _ => ?_
  unfold pPla
  rw [sumAt_flat, ← sumK_mul]
  refine sumK_congr fun j _ => ?_
  unfold pRow
  rw [sumAt_map, ← sumK_mul, ← sumK_mul]
  refine sumK_congr fun l _ => ?_
  unfold ind pTerm
  by_cases e : pKey p q r i j l = k
  · rw [if_pos e, if_pos e]
    simp only [Int.mul_assoc, Int.mul_one]
  · rw [if_neg e, if_neg e]
    simp
/-- keys moved -/
def addV (a b : List Int) : List Int := List.zipWith (· + ·) a b
theorem addV_inj {u : List Int} : ∀ {a b : List Int}, a.length = u.length → b.length = u.length → addV a u = addV b u → a = b := by
  induction u with
  | nil =>
    intro a b ha hb _
    rw [List.length_eq_zero_iff.mp ha, List.length_eq_zero_iff.mp hb]
  | cons x u ih =>
    intro a b ha hb e
    match a, b, ha, hb with
    | y :: a, z :: b, ha, hb =>
      have e' : (y + x) :: addV a u = (z + x) :: addV b u := e
      injection e' with e1 e2
      rw [ih (Nat.succ.inj ha) (Nat.succ.inj hb) e2, show y = z by omega]
def key6 (a b c d e f : Int) : List Int := [a, b, c, d, e, f]
def uP : List Int := [1, 0, 0, 1, 0, 0]
def dP : List Int := [0, 1, 1, 0, 0, 0]
def uQ : List Int := [0, 0, 1, 0, 0, 1]
def dQ : List Int := [0, 0, 0, 1, 1, 0]
def uR : List Int := [0, 1, 0, 0, 1, 0]
def dR : List Int := [1, 0, 0, 0, 0, 1]
theorem ind_eq {p q r i j l p' q' r' i' j' l' : Nat} {k k' : List Int} (h : pKey p q r i j l = k ↔ pKey p' q' r' i' j' l' = k') : ind p q r i j l k = ind p' q' r' i' j' l' k' := by
  unfold ind
  by_cases e : pKey p q r i j l = k
  · rw [if_pos e, if_pos (h.mp e)]
  · rw [if_neg e, if_neg fun z => e (h.mpr z)]
/-- what is told for k moved by u and by d, one difference more -/
theorem step_p {p q r : Nat} {k ku kd : List Int} (hu : ku.length = 6) (hd : kd.length = 6) (eu : addV ku uP = k) (ed : addV kd dP = k) : sumAt (pAll (p + 1) q r) k = sumAt (pAll p q r) ku - sumAt (pAll p q r) kd := by
  rw [all_eq, all_eq, all_eq, pas, ← sumK_sub]
  match ku, kd, hu, hd with
  | [a1, a2, a3, a4, a5, a6], [b1, b2, b3, b4, b5, b6], _, _ =>
    refine sumK_congr fun i _ => ?_
    rw [Int.mul_sub]
    have e1 : ∀ j l, ind (p + 1) q r i j l k = ind p q r i j l [a1, a2, a3, a4, a5, a6] := fun j l => ind_eq (by
      rw [← eu]
      simp only [pKey, addV, uP, List.zipWith, List.cons.injEq, and_true]
      omega)
    have e2 : ∀ j l, ind (p + 1) q r (i + 1) j l k = ind p q r i j l [b1, b2, b3, b4, b5, b6] := fun j l => ind_eq (by
      rw [← ed]
      simp only [pKey, addV, dP, List.zipWith, List.cons.injEq, and_true]
      omega)
    simp only [e1, e2]
theorem step_q {p q r : Nat} {k ku kd : List Int} (hu : ku.length = 6) (hd : kd.length = 6) (eu : addV ku uQ = k) (ed : addV kd dQ = k) : sumAt (pAll p (q + 1) r) k = sumAt (pAll p q r) ku - sumAt (pAll p q r) kd := by
  rw [all_eq, all_eq, all_eq, ← sumK_sub]
  match ku, kd, hu, hd with
  | [a1, a2, a3, a4, a5, a6], [b1, b2, b3, b4, b5, b6], _, _ =>
    refine sumK_congr fun i _ => ?_
    rw [← Int.mul_sub, pas, ← sumK_sub]
    congr 1
    refine sumK_congr fun j _ => ?_
    rw [← Int.mul_sub]
    have e1 : ∀ l, ind p (q + 1) r i j l k = ind p q r i j l [a1, a2, a3, a4, a5, a6] := fun l => ind_eq (by
      rw [← eu]
      simp only [pKey, addV, uQ, List.zipWith, List.cons.injEq, and_true]
      omega)
    have e2 : ∀ l, ind p (q + 1) r i (j + 1) l k = ind p q r i j l [b1, b2, b3, b4, b5, b6] := fun l => ind_eq (by
      rw [← ed]
      simp only [pKey, addV, dQ, List.zipWith, List.cons.injEq, and_true]
      omega)
    simp only [e1, e2]
theorem step_r {p q r : Nat} {k ku kd : List Int} (hu : ku.length = 6) (hd : kd.length = 6) (eu : addV ku uR = k) (ed : addV kd dR = k) : sumAt (pAll p q (r + 1)) k = sumAt (pAll p q r) ku - sumAt (pAll p q r) kd := by
  rw [all_eq, all_eq, all_eq, ← sumK_sub]
  match ku, kd, hu, hd with
  | [a1, a2, a3, a4, a5, a6], [b1, b2, b3, b4, b5, b6], _, _ =>
    refine sumK_congr fun i _ => ?_
    rw [← Int.mul_sub, ← sumK_sub]
    congr 1
    refine sumK_congr fun j _ => ?_
    rw [← Int.mul_sub, pas, ← sumK_sub]
    congr 1
    refine sumK_congr fun l _ => ?_
    rw [← Int.mul_sub]
    have e1 : ind p q (r + 1) i j l k = ind p q r i j l [a1, a2, a3, a4, a5, a6] := ind_eq (by
      rw [← eu]
      simp only [pKey, addV, uR, List.zipWith, List.cons.injEq, and_true]
      omega)
    have e2 : ind p q (r + 1) i j (l + 1) k = ind p q r i j l [b1, b2, b3, b4, b5, b6] := ind_eq (by
      rw [← ed]
      simp only [pKey, addV, dR, List.zipWith, List.cons.injEq, and_true]
      omega)
    rw [e1, e2]
end TCX
/-! the law's dict, one small difference after the other. -/
namespace TCX
open PySem PySem.Spec PyProof.Rows L2
/-- the keys are those at which something stands -/
structure DctP (ks : List (List Int)) (f : List Int → Int) : Prop where
  nd : ks.Nodup
  mem : ∀ k, k ∈ ks ↔ f k ≠ 0
def stepL (up dn : List Int) (ks : List (List Int)) (f : List Int → Int) : List (List Int × Int) := ks.flatMap fun a => [(addV a up, f a), (addV a dn, - f a)]
theorem sumAt_cons {κ : Type} [DecidableEq κ] (x : κ × Int) (L : List (κ × Int)) (k : κ) : sumAt (x :: L) k = (if x.1 = k then x.2 else 0) + sumAt L k := rfl
theorem moved_sum {up : List Int} (lu : up.length = 6) {f : List Int → Int} {k ku : List Int} (hu : ku.length = 6) (eu : addV ku up = k) : ∀ {ks : List (List Int)}, ks.Nodup → (∀ a ∈ ks, a.length = 6) → sumAt (ks.map fun a => (addV a up, f a)) k = if ku ∈ ks then f ku else 0
  | [], _, _ => rfl
  | a :: ks, nd, len => by
    obtain ⟨n1, n2⟩ := List.nodup_cons.mp nd
    rw [List.map_cons, sumAt_cons, moved_sum lu hu eu n2 fun b hb => len b (List.mem_cons_of_mem _ hb)]
    by_cases e : a = ku
    · rw [if_pos (show addV a up = k by rw [e]; exact eu), if_pos (show ku ∈ a :: ks by rw [e]; exact List.mem_cons_self), if_neg (show ku ∉ ks by rw [← e]; exact n1), e, Int.add_zero]
    · have ne : ¬ addV a up = k := fun z => e (addV_inj (u := up) ((len a List.mem_cons_self).trans lu.symm) (hu.trans lu.symm) (z.trans eu.symm))
      rw [if_neg ne, Int.zero_add]
      have : (ku ∈ a :: ks) ↔ ku ∈ ks := ⟨fun z => (List.mem_cons.mp z).resolve_left fun y => e y.symm, List.mem_cons_of_mem _⟩
      by_cases h : ku ∈ ks
      · rw [if_pos h, if_pos (this.mpr h)]
      · rw [if_neg h, if_neg fun z => h (this.mp z)]
theorem step_split (up dn : List Int) (f : List Int → Int) (k : List Int) : ∀ ks : List (List Int), sumAt (stepL up dn ks f) k = sumAt (ks.map fun a => (addV a up, f a)) k - sumAt (ks.map fun a => (addV a dn, f a)) k
  | [] => rfl
  | a :: ks => by
    have e : stepL up dn (a :: ks) f = (addV a up, f a) :: (addV a dn, - f a) :: stepL up dn ks f := rfl
    rw [e, sumAt_cons, sumAt_cons, step_split up dn f k ks, List.map_cons, List.map_cons, sumAt_cons, sumAt_cons]
    show (if addV a up = k then f a else 0) + ((if addV a dn = k then - f a else 0) + _) = ((if addV a up = k then f a else 0) + _) - ((if addV a dn = k then f a else 0) + _)
    split <;> split <;> omega
theorem step_sum {up dn : List Int} (lu : up.length = 6) (ld : dn.length = 6) {ks : List (List Int)} {f : List Int → Int} (h : DctP ks f) (len : ∀ a ∈ ks, a.length = 6) {k ku kd : List Int} (hu : ku.length = 6) (hd : kd.length = 6) (eu : addV ku up = k) (ed : addV kd dn = k) :
    sumAt (stepL up dn ks f) k = f ku - f kd := by
  have z : ∀ x, (if x ∈ ks then f x else 0) = f x := fun x => by
    by_cases hx : x ∈ ks
    · rw [if_pos hx]
    · rw [if_neg hx]
      exact (Classical.byContradiction fun y => hx ((h.mem x).mpr fun e => y e.symm))
  rw [step_split, moved_sum lu hu eu h.nd len, moved_sum ld hd ed h.nd len, z, z]
theorem addV_len {a u : List Int} (ha : a.length = 6) (hu : u.length = 6) : (addV a u).length = 6 := by
  unfold addV
  rw [List.length_zipWith, ha, hu]
  rfl
theorem back_add {k u : List Int} (hk : k.length = 6) (hu : u.length = 6) : ∃ x : List Int, x.length = 6 ∧ addV x u = k := by
  match k, u, hk, hu with
  | [a1, a2, a3, a4, a5, a6], [b1, b2, b3, b4, b5, b6], _, _ =>
    refine ⟨[a1 - b1, a2 - b2, a3 - b3, a4 - b4, a5 - b5, a6 - b6], rfl, ?_⟩
    simp only [addV, List.zipWith, List.cons.injEq, and_true]
    omega
theorem all_len {p q r : Nat} {k : List Int} (h : sumAt (pAll p q r) k ≠ 0) : k.length = 6 := by
  refine Classical.byContradiction fun z => h (sumAt_out fun x hx e => z ?_)
  rw [← e]
  unfold pAll pPla pRow at hx
  obtain ⟨i, _, h1⟩ := List.mem_flatMap.mp hx
  obtain ⟨j, _, h2⟩ := List.mem_flatMap.mp h1
  obtain ⟨l, _, rfl⟩ := List.mem_map.mp h2
  rfl
theorem step_all {up dn : List Int} (lu : up.length = 6) (ld : dn.length = 6) {ks : List (List Int)} {f : List Int → Int} (h : DctP ks f) (len : ∀ a ∈ ks, a.length = 6) {p q r : Nat}
    (hs : ∀ k ku kd : List Int, ku.length = 6 → kd.length = 6 → addV ku up = k → addV kd dn = k → sumAt (pAll p q r) k = f ku - f kd) : (fun k => sumAt (stepL up dn ks f) k) = fun k => sumAt (pAll p q r) k := by
  funext k
  by_cases hk : k.length = 6
  · obtain ⟨ku, hu, eu⟩ := back_add hk lu
    obtain ⟨kd, hd, ed⟩ := back_add hk ld
    rw [step_sum lu ld h len hu hd eu ed, hs k ku kd hu hd eu ed]
  · have a : sumAt (pAll p q r) k = 0 := Classical.byContradiction fun z => hk (all_len z)
    rw [a]
    refine sumAt_out fun x hx e => hk ?_
    rw [← e]
    unfold stepL at hx
    obtain ⟨b, hb, h1⟩ := List.mem_flatMap.mp hx
    rcases List.mem_cons.mp h1 with rfl | h1
    · exact addV_len (len b hb) lu
    · rw [List.mem_singleton.mp h1]
      exact addV_len (len b hb) ld
theorem all_p {ks : List (List Int)} {p q r : Nat} (h : DctP ks (sumAt (pAll p q r))) : (fun k => sumAt (stepL uP dP ks (sumAt (pAll p q r))) k) = fun k => sumAt (pAll (p + 1) q r) k := step_all rfl rfl h (fun a ha => all_len ((h.mem a).mp ha)) fun k ku kd hu hd eu ed => step_p hu hd eu ed
theorem all_q {ks : List (List Int)} {p q r : Nat} (h : DctP ks (sumAt (pAll p q r))) : (fun k => sumAt (stepL uQ dQ ks (sumAt (pAll p q r))) k) = fun k => sumAt (pAll p (q + 1) r) k := step_all rfl rfl h (fun a ha => all_len ((h.mem a).mp ha)) fun k ku kd hu hd eu ed => step_q hu hd eu ed
theorem all_r {ks : List (List Int)} {p q r : Nat} (h : DctP ks (sumAt (pAll p q r))) : (fun k => sumAt (stepL uR dR ks (sumAt (pAll p q r))) k) = fun k => sumAt (pAll p q (r + 1)) k := step_all rfl rfl h (fun a ha => all_len ((h.mem a).mp ha)) fun k ku kd hu hd eu ed => step_r hu hd eu ed
/-! ### a term more -/
theorem DctP.get {ks : List (List Int)} {f : List Int → Int} (h : DctP ks f) (k : List Int) : (if k ∈ ks then some (V.int (f k)) else none).getD (.int 0) = .int (f k) := by
  by_cases e : k ∈ ks
  · rw [if_pos e]
    rfl
  · rw [if_neg e]
    have : f k = 0 := Classical.byContradiction fun z => e ((h.mem k).mpr z)
    rw [this]
    rfl
theorem DctP.put {ks : List (List Int)} {L : List (List Int × Int)} {x : List Int × Int} (h : DctP ks (sumAt L)) (hz : sumAt (L ++ [x]) x.1 ≠ 0) : DctP (addK ks x.1) (sumAt (L ++ [x])) := by
  refine ⟨nd_addK h.nd, fun k => ?_⟩
  rw [mem_addK]
  by_cases e : k = x.1
  · rw [e]
    exact ⟨fun _ => hz, fun _ => .inr rfl⟩
  · rw [sumAt_snoc, if_neg fun z => e z.symm, Int.add_zero]
    exact ⟨fun z => (h.mem k).mp (z.resolve_right e), fun z => .inl ((h.mem k).mpr z)⟩
def offK (ks : List (List Int)) (r : List Int) : List (List Int) := ks.filter fun k => decide (k ≠ r)
theorem DctP.off {ks : List (List Int)} {L : List (List Int × Int)} {x : List Int × Int} (h : DctP ks (sumAt L)) (hz : sumAt (L ++ [x]) x.1 = 0) : DctP (offK (addK ks x.1) x.1) (sumAt (L ++ [x])) := by
  refine ⟨(nd_addK h.nd).filter _, fun k => ?_⟩
  unfold offK
  rw [List.mem_filter, mem_addK, decide_eq_true_iff]
  by_cases e : k = x.1
  · rw [e]
    exact ⟨fun z => absurd rfl z.2, fun z => absurd hz z⟩
  · rw [sumAt_snoc, if_neg fun z => e z.symm, Int.add_zero]
    exact ⟨fun z => (h.mem k).mp (z.1.resolve_right e), fun z => ⟨.inl ((h.mem k).mpr z), e⟩⟩
theorem drop_entT {ks : List (List Int)} {f : List Int → V} {r : List Int} : dropK (entT kInt ks f) (kInt r) = entT kInt (offK ks r) f := by
  unfold dropK entT offK
  rw [List.filter_map]
  congr 1
  refine List.filter_congr fun k _ => ?_
  show decide (kInt k ≠ kInt r) = decide (k ≠ r)
  by_cases e : k = r
  · rw [e]
    simp
  · rw [decide_eq_true (show k ≠ r from e)]
    exact decide_eq_true (show kInt k ≠ kInt r from fun z => e (kInt_inj _ _ z))
theorem put_sum {ks : List (List Int)} {L : List (List Int × Int)} (x : List Int × Int) {v : Int} (hv : v = sumAt L x.1 + x.2) : entT kInt (addK ks x.1) (setVal (fun k => .int (sumAt L k)) x.1 (.int v)) = entT kInt (addK ks x.1) fun k => .int (sumAt (L ++ [x]) k) := by
  refine entT_congr fun k _ => ?_
  show (if k = x.1 then V.int v else .int (sumAt L k)) = .int (sumAt (L ++ [x]) k)
  rw [sumAt_snoc]
  by_cases e : k = x.1
  · rw [if_pos e, e, if_pos rfl, hv]
  · rw [if_neg e, if_neg fun z => e z.symm, Int.add_zero]
/-! ### how many, how great -/
theorem nd_len {α : Type} [DecidableEq α] : ∀ {l m : List α}, l.Nodup → (∀ x ∈ l, x ∈ m) → l.length ≤ m.length
  | [], _, _, _ => Nat.zero_le _
  | a :: l, m, h, hm => by
    obtain ⟨h1, h2⟩ := List.nodup_cons.mp h
    have ha := hm a List.mem_cons_self
    have z := nd_len (l := l) (m := m.erase a) h2 fun x hx => (List.mem_erase_of_ne fun (e : x = a) => h1 (by rw [← e]; exact hx)).mpr (hm x (List.mem_cons_of_mem _ hx))
    rw [List.length_erase_of_mem ha] at z
    have p := List.length_pos_of_mem ha
    show l.length + 1 ≤ _
    omega
theorem DctP.len {ks : List (List Int)} {L : List (List Int × Int)} (h : DctP ks (sumAt L)) : ks.length ≤ L.length :=
  Nat.le_trans (nd_len h.nd fun x hx => Classical.byContradiction fun z => (h.mem x).mp hx (sumAt_not z)) (keysL_len L)
theorem sum_big {B : Nat} : ∀ {L : List (List Int × Int)}, (∀ x ∈ L, x.2.natAbs ≤ B) → ∀ k, (sumAt L k).natAbs ≤ L.length * B
  | [], _, _ => Nat.zero_le _
  | x :: L, h, k => by
    have z := sum_big (L := L) (fun y hy => h y (List.mem_cons_of_mem _ hy)) k
    have hx := h x List.mem_cons_self
    rw [sumAt_cons, List.length_cons, Nat.add_mul]
    split <;> omega
theorem all_many {p q r : Nat} (hp : p ≤ 12) (hq : q ≤ 12) (hr : r ≤ 12) : (pAll p q r).length ≤ 2197 := by
  unfold pAll
  rw [pAll_len]
  have a : (p + 1) * ((q + 1) * (r + 1)) ≤ 13 * (13 * 13) := Nat.mul_le_mul (by omega) (Nat.mul_le_mul (by omega) (by omega))
  omega
theorem all_big {p q r : Nat} (hp : p ≤ 12) (hq : q ≤ 12) (hr : r ≤ 12) (k : List Int) : (sumAt (pAll p q r) k).natAbs ≤ 2197 * (924 * 924 * 924) := by
  refine Nat.le_trans (sum_big (B := 924 * 924 * 924) (fun x hx => ?_) k) (Nat.mul_le_mul_right _ (all_many hp hq hr))
  unfold pAll pPla pRow at hx
  obtain ⟨i, hi, h1⟩ := List.mem_flatMap.mp hx
  obtain ⟨j, hj, h2⟩ := List.mem_flatMap.mp h1
  obtain ⟨l, hl, rfl⟩ := List.mem_map.mp h2
  rw [List.mem_range] at hi hj hl
  show (sbN p i * sbN q j * sbN r l).natAbs ≤ _
  rw [Int.natAbs_mul, Int.natAbs_mul]
  exact Nat.mul_le_mul (Nat.mul_le_mul (sbN_lt hp (by omega)) (sbN_lt hq (by omega))) (sbN_lt hr (by omega))
/-! ### the sum of all -/
def sndI (x : List Int × Int) : Int := x.2
theorem one_key {c : Int} {x : List Int} : ∀ {ks : List (List Int)}, ks.Nodup → (ks.map fun k => if x = k then c else 0).sum = if x ∈ ks then c else 0
  | [], _ => rfl
  | a :: ks, nd => by
    obtain ⟨n1, n2⟩ := List.nodup_cons.mp nd
    rw [List.map_cons, List.sum_cons, one_key n2]
    by_cases e : x = a
    · rw [if_pos e, if_neg (show x ∉ ks by rw [e]; exact n1), if_pos (show x ∈ a :: ks by rw [e]; exact List.mem_cons_self), Int.add_zero]
    · rw [if_neg e, Int.zero_add]
      have : (x ∈ a :: ks) ↔ x ∈ ks := ⟨fun z => (List.mem_cons.mp z).resolve_left e, List.mem_cons_of_mem _⟩
      by_cases h : x ∈ ks
      · rw [if_pos h, if_pos (this.mpr h)]
      · rw [if_neg h, if_neg fun z => h (this.mp z)]
theorem lsum_add (f g : List Int → Int) : ∀ ks : List (List Int), (ks.map fun k => f k + g k).sum = (ks.map f).sum + (ks.map g).sum
  | [] => rfl
  | a :: ks => by
    rw [List.map_cons, List.sum_cons, lsum_add f g ks, List.map_cons, List.sum_cons, List.map_cons, List.sum_cons]
    omega
theorem lsum_zero : ∀ ks : List (List Int), (ks.map fun _ => (0 : Int)).sum = 0
  | [] => rfl
  | a :: ks => by rw [List.map_cons, List.sum_cons, lsum_zero ks]; rfl
theorem tot_keys {ks : List (List Int)} (nd : ks.Nodup) : ∀ L : List (List Int × Int), (∀ x ∈ L, x.1 ∈ ks) → (ks.map fun k => sumAt L k).sum = (L.map sndI).sum
  | [], _ => by
    exact lsum_zero ks
  | x :: L, h => by
    have e : (fun k => sumAt (x :: L) k) = fun k => (if x.1 = k then x.2 else 0) + sumAt L k := rfl
    rw [e, lsum_add, one_key nd, if_pos (h x List.mem_cons_self), tot_keys nd L fun y hy => h y (List.mem_cons_of_mem _ hy), List.map_cons, List.sum_cons]
    rfl
theorem sum_not0 (f : List Int → Int) : ∀ ks : List (List Int), ((ks.filter fun k => decide (f k ≠ 0)).map f).sum = (ks.map f).sum
  | [] => rfl
  | a :: ks => by
    by_cases e : f a = 0
    · rw [List.filter_cons_of_neg (by rw [e]; decide), sum_not0 f ks, List.map_cons, List.sum_cons, e, Int.zero_add]
    · rw [List.filter_cons_of_pos (p := fun k => decide (f k ≠ 0)) (decide_eq_true e), List.map_cons, List.sum_cons, sum_not0 f ks, List.map_cons, List.sum_cons]
theorem sum_flat (f : Nat → List (List Int × Int)) : ∀ n, (((List.range n).flatMap f).map sndI).sum = sumK (fun i => ((f i).map sndI).sum) n
  | 0 => rfl
  | n + 1 => by
    rw [List.range_succ, List.flatMap_append, List.map_append, List.sum_append, sum_flat f n, sumK_succ]
    show _ + ((f n ++ []).map sndI).sum = _
    rw [List.append_nil]
theorem sb_sum (n : Nat) : sumK (fun i => sbN n i) (n + 1) = if n = 0 then 1 else 0 := by
  match n with
  | 0 =>
    rw [sumK_succ, sb_zero]
    rfl
  | n + 1 =>
    have z := pas (fun _ => 1) n
    simp only [Int.mul_one, Int.sub_self, Int.mul_zero] at z
    rw [z, if_neg (by omega)]
    exact sumK_zero fun _ _ => rfl
theorem tot_all (p q r : Nat) : ((pAll p q r).map sndI).sum = if p = 0 ∧ q = 0 ∧ r = 0 then 1 else 0 := by
  have row : ∀ i j, ((pRow p q r i j).map sndI).sum = sbN p i * sbN q j * (if r = 0 then 1 else 0) := fun i j => by
    rw [← sb_sum r, ← sumK_mul]
    unfold pRow
    rw [List.map_map]
    rfl
  have pla : ∀ i, ((pPla p q r i).map sndI).sum = sbN p i * ((if q = 0 then 1 else 0) * (if r = 0 then 1 else 0)) := fun i => by
    unfold pPla
    rw [sum_flat, sumK_congr (g := fun j => (sbN p i * (if r = 0 then 1 else 0)) * sbN q j) fun j _ => by rw [row, Int.mul_assoc, Int.mul_assoc, Int.mul_comm (sbN q j)], sumK_mul, sb_sum]
    rw [Int.mul_assoc, Int.mul_comm (if r = 0 then (1 : Int) else 0)]
  unfold pAll
  rw [sum_flat, sumK_congr (g := fun i => ((if q = 0 then 1 else 0) * (if r = 0 then 1 else 0)) * sbN p i) fun i _ => by rw [pla, Int.mul_comm], sumK_mul, sb_sum]
  by_cases h1 : p = 0 <;> by_cases h2 : q = 0 <;> by_cases h3 : r = 0 <;> simp [h1, h2, h3]
theorem tot_pow (p q r : Nat) : ((((keysL (pAll p q r)).filter fun k => decide (sumAt (pAll p q r) k ≠ 0))).map fun k => sumAt (pAll p q r) k).sum = if p = 0 ∧ q = 0 ∧ r = 0 then 1 else 0 := by
  rw [sum_not0, tot_keys (nd_keysL _) _ fun x hx => mem_keysL.mpr ⟨x, hx, rfl⟩, tot_all]
theorem pow_dct (p q r : Nat) : DctP ((keysL (pAll p q r)).filter fun k => decide (sumAt (pAll p q r) k ≠ 0)) (sumAt (pAll p q r)) := by
  refine ⟨(nd_keysL _).filter _, fun k => ?_⟩
  rw [List.mem_filter, decide_eq_true_iff]
  exact ⟨fun z => z.2, fun z => ⟨Classical.byContradiction fun y => z (sumAt_not y), z⟩⟩
theorem dct_same {ks ls : List (List Int)} {f : List Int → Int} (h : DctP ks f) (h' : DctP ls f) : ks.length = ls.length :=
  Nat.le_antisymm (nd_len h.nd fun x hx => (h'.mem x).mpr ((h.mem x).mp hx)) (nd_len h'.nd fun x hx => (h.mem x).mpr ((h'.mem x).mp hx))
theorem dct_start : DctP [[0, 0, 0, 0, 0, 0]] (sumAt (pAll 0 0 0)) := by
  have e : pAll 0 0 0 = [([0, 0, 0, 0, 0, 0], 1)] := by decide +kernel
  rw [e]
  refine ⟨by simp, fun k => ?_⟩
  rw [List.mem_singleton, sumAt_cons]
  show k = _ ↔ (if [0, 0, 0, 0, 0, 0] = k then (1 : Int) else 0) + 0 ≠ 0
  by_cases z : [0, 0, 0, 0, 0, 0] = k
  · rw [if_pos z]
    exact ⟨fun _ => by decide, fun _ => z.symm⟩
  · rw [if_neg z]
    exact ⟨fun y => absurd y.symm z, fun y => absurd rfl y⟩
theorem start_at : sumAt (pAll 0 0 0) [0, 0, 0, 0, 0, 0] = 1 := by decide +kernel
end TCX
namespace TCX
open PySem PySem.Spec PyProof.Rows L2
section
variable {X : Cx} {pins : List (Addr × Obj)} {σ : L2.St} {H : Hp} {s : Shared}
/-- two dicts with the same keys, their values alike to the deep -/
theorem hits_deep {κ : Type} [DecidableEq κ] (I : Inv X pins σ H s) (hu : X.A.in1.units + 60 < cLine) {kvs : List (κ × V)} {vb : List (κ × Value)} (rb : KV kvs vb) {ks : List (κ × V)} {va : List (κ × Value)} (ra : KV ks va) :
    (∀ p ∈ ks, ∃ y d e, valV kvs p.1 = some y ∧ Dp X.K H p.2 d ∧ Dp X.K H y e ∧ d.canLay0 = true ∧ e.canLay0 = true ∧ d.depth ≤ 60 ∧ PyData.eqv d e = true) → PySem.W.KeqHits X.A.in1 s vb va true := by
  unfold KV at ra
  induction ra with
  | nil => intro _; exact .nil
  | @cons p q ps qs h t ih =>
    intro hp
    obtain ⟨h1, h2⟩ := h
    obtain ⟨y, d, e, ey, hd, he, cd, ce, dp, eq⟩ := hp p List.mem_cons_self
    have rr : RelO (some y) (valueAt vb p.1) := by rw [← ey]; exact rb.val p.1
    obtain ⟨u, hy, ry⟩ := rr.some_of
    obtain ⟨k, v⟩ := q
    have h1' : p.1 = k := h1
    rw [h1'] at hy
    obtain ⟨as, r1⟩ := Dp.reads I d p.2 v hd h2
    obtain ⟨bs, r2⟩ := Dp.reads I e y u he ry
    have z := SeqAt.eqAt_reads d e X.A.in1 s v u as bs r1 r2 cd ce (by
      have : min d.depth e.depth ≤ d.depth := Nat.min_le_left _ _
      omega)
    rw [eq] at z
    show PySem.W.KeqHits X.A.in1 s vb ((k, v) :: qs) (true && true)
    exact .hit hy z (ih fun p' hm => hp p' (List.mem_cons_of_mem _ hm))
def rEqDD (K : PySem.W.Frag) : R2 := fun x y H Q => ∃ a b ks ls, x = .ref a ∧ y = .ref b ∧ H a = some (.dK ks) ∧ H b = some (.dK ls) ∧ ks.length = ls.length ∧ (∀ p ∈ ks, ∃ y d e, valV ls p.1 = some y ∧ Dp K H p.2 d ∧ Dp K H y e ∧ d.canLay0 = true ∧ e.canLay0 = true ∧ d.depth ≤ 60 ∧ PyData.eqv d e = true) ∧ Q (.bl true) H
theorem op_eqDD (hu : X.A.units + 64 < cLine) : OpR X (compareOp .Eq) (rEqDD X.K) := by
  intro pins s σ H x y v u Q I rx ry h
  obtain ⟨a, b, ks, ls, rfl, rfl, ea, eb, hlen, hp, q⟩ := h
  obtain rfl : v = Value.ref a := rx
  obtain rfl : u = Value.ref b := ry
  obtain ⟨_, ya, va, ra, da⟩ := (show ObjOk X.prog X.w H s.heap a (.dK ks) from I.hok a _ ea)
  obtain ⟨_, yb, vb, rb, db⟩ := (show ObjOk X.prog X.w H s.heap b (.dK ls) from I.hok b _ eb)
  have hl : va.length = vb.length := by rw [← ra.length, ← rb.length]; exact hlen
  have hu1 : X.A.in1.units + 60 < cLine := by
    show X.A.units + 1 + 60 < cLine
    omega
  exact PySem.W.keq_eq (knd := mixKind X.prog X.w) (r := true) ya yb da db (by omega) (fun _ => hits_deep I hu1 rb ra hp) (fin_bl I q (by simp [hl]))
end
end TCX
/-! Dicts whose keys are tuples: == and != of two that hold the same, values() walked and summed, clear(). -/
namespace TCX
open PySem PySem.Spec PyProof.Rows L2 PySem.W
section
variable {prog : Program} {w : World} {K : Type} [DecidableEq K] {knd : HeapKind prog w K} {A : Around} {E : Value → Shared → Prop} {s : Shared}
theorem samePairsH {nm : String} {a b : Addr} {ka kb : List (K × Addr × Value)} {Q : Bool → Shared → Prop} (hu : knd.room A) (ha : (a == sysModules) = false) (hb : (b == sysModules) = false)
    (da : s.heap.DictOfH knd a ka) (db : s.heap.DictOfH knd b kb) (hl : ka.length = kb.length) (hits : ∀ x ∈ ka, ∃ p, atKey kb x.1 = some p ∧ SeqAt.EqAt A s x.2.2 p.2 true) (h : Q true s) :
    wpAny (model prog w) A (Builtin.Dict.samePairs nm a b) Q E s := by
  obtain ⟨oa, es, ep, hoa, _, hda, hea, hia, hna⟩ := da
  obtain ⟨ob, es', ep', hob, _, hdb, heb, hib, hnb⟩ := db
  have hla := size_of_entries hea
  have hlb := size_of_entries heb
  have hsz : es.size = es'.size := by omega
  unfold Builtin.Dict.samePairs Builtin.Dict.showsAll
  rw [if_neg (show ¬ (a == sysModules) = true by rw [ha]; exact Bool.false_ne_true), if_neg (show ¬ (b == sysModules) = true by rw [hb]; exact Bool.false_ne_true)]
  refine wpAny_bind (wpAny_pure (wpAny_bind (wpAny_pure ?_)))
  refine wpAny_bind (wpAny_dictEntries hoa hda ?_)
  dsimp only
  refine wpAny_bind (wpAny_dictEntries hob hdb ?_)
  rw [if_neg (by rw [hsz]; simp)]
  refine wpAny_bind (wpAny_dictEpoch hoa hda ?_)
  refine wpAny_bind ?_
  rw [Std.Legacy.Range.forIn_eq_forIn_range']
  simp only [Std.Legacy.Range.size, Nat.sub_zero, Nat.add_sub_cancel, Nat.div_one]
  refine wpAny_forIn_list _
    (fun rest q s' => s' = s ∧ q = (none, ()) ∧ ∃ i, rest = List.range' i (es.size - i) ∧ i ≤ es.size)
    _ ?_ ?_ _ _ ⟨rfl, rfl, 0, by simp, Nat.zero_le _⟩
  · rintro x rest q s' ⟨rfl, rfl, i, hr, hi⟩
    have hlt : i < es.size := by
      rcases Nat.lt_or_ge i es.size with h | h
      · exact h
      · rw [Nat.sub_eq_zero_of_le h] at hr; simp at hr
    obtain ⟨rfl, hrest⟩ : x = i ∧ rest = List.range' (i + 1) (es.size - (i + 1)) := by
      have e : es.size - i = (es.size - (i + 1)) + 1 := by omega
      rw [e, List.range'_succ] at hr
      injection hr with h1 h2
      exact ⟨h1, h2⟩
    refine wpAny_bind (wpAny_dictEntries hoa hda ?_)
    rw [Array.getElem?_eq_getElem hlt]
    have hlt' : x < ka.length := by rw [← hla]; exact hlt
    have ez : es[x] = entryOfKey knd ka[x] := by
      have q := entry_at hea x
      rw [Array.getElem?_eq_getElem hlt, List.getElem?_eq_getElem hlt'] at q
      exact Option.some.inj q
    have hm := List.getElem_mem hlt'
    obtain ⟨p, hp, heq⟩ := hits _ hm
    show wpAny _ _ (holding [es[x].key, es[x].val] _ >>= _) _ _ _
    rw [ez]
    generalize ka[x] = z at hm hp heq
    obtain ⟨k, az, v⟩ := z
    refine wpAny_bind (wpAny_holding (wpAny_bind (wpAny_dictFind_heap (knd := knd) (k := k) (a := az) hu (hia _ hm) hob hdb heb hib hnb ?_ ?_)))
    · intro hno
      rw [atKey_none_of_get hno] at hp
      cases hp
    · intro j p' hj
      rw [atKey_of_get hnb hj] at hp
      obtain rfl := Option.some.inj hp
      have ej := entry_at heb j
      rw [hj] at ej
      have hjlt : j < es'.size := (Array.getElem?_eq_some_iff.mp ej).1
      refine wpAny_bind (wpAny_dictEntries hob hdb ?_)
      rw [ej]
      refine wpAny_holding (heq prog w _ _ ?_)
      show wpAny _ _ (if (!true) = true then _ else _) _ _ _
      rw [if_neg (by decide)]
      refine wpAny_bind (wpAny_dictEpoch hoa hda ?_)
      rw [if_neg (by simp)]
      exact wpAny_pure ⟨rfl, rfl, x + 1, hrest, hlt⟩
  · rintro q s' ⟨rfl, rfl, i, hr, hi⟩
    exact wpAny_pure h
theorem neH {a b : Addr} {ka kb : List (K × Addr × Value)} {Q : Value → Shared → Prop} (hu : knd.room A.in1) (hu0 : A.units < cLine) (ha : (a == sysModules) = false) (hb : (b == sysModules) = false)
    (da : s.heap.DictOfH knd a ka) (db : s.heap.DictOfH knd b kb) (hl : ka.length = kb.length) (hits : ∀ x ∈ ka, ∃ p, atKey kb x.1 = some p ∧ SeqAt.EqAt A.in1 s x.2.2 p.2 true) (h : Q (.bool false) s) :
    wpAny (model prog w) A (compareOp .NotEq (.ref a) (.ref b)) Q E s := by
  refine wpAny_richCompare_same_room (op := .NotEq) da.typeIs db.typeIs PySem.F.slot_dict_ne (wpAny_call_entry PySem.F.slot_dict_ne da.typeIs PySem.F.entry_dict_ne ?_ (PySem.F.args_dict_ne_2 _ _)) hu0
  show wpAny _ _ (Builtin.Dict.dictSlotArgs "__ne__" ⟨[.ref a, .ref b], []⟩ >>= _) _ _ s
  refine wpAny_bind ?_
  unfold Builtin.Dict.dictSlotArgs
  refine wpAny_bind (wpAny_notOrdered_dict da.typeIs ?_)
  show wpAny _ _ (pure (Value.ref a, Value.ref b)) _ _ s
  refine wpAny_pure ?_
  refine wpAny_bind (wpAny_isInstance (T := "dict") db.typeIs PySem.F.sub_dict_dict ?_)
  simp only [Bool.not_true, Bool.false_eq_true, if_false]
  refine wpAny_bind (wpAny_pure (wpAny_bind (wpAny_pure ?_)))
  refine wpAny_bind (samePairsH hu ha hb da db hl hits ?_)
  refine wpAny_pure ⟨_, rfl, ?_, ?_⟩
  · exact fun x => nomatch x
  · simpa using h
end
section
variable {X : Cx}
/-- != of two dicts of tuple keys with flat values that hold the same -/
def rNeTT : R2 := fun x y H Q => ∃ a b ks ls, x = .ref a ∧ y = .ref b ∧ H a = some (.dT ks) ∧ H b = some (.dT ls) ∧ ks.length = ls.length ∧ (∀ p ∈ ks, valV ls p.1 = some p.2 ∧ flatB p.2 = true) ∧ Q (.bl false) H
theorem op_neTT (hu : X.A.units + 64 < cLine) : OpR X (compareOp .NotEq) rNeTT := by
  intro pins s σ H x y v u Q I rx ry h
  obtain ⟨a, b, ks, ls, rfl, rfl, ea, eb, hlen, hp, q⟩ := h
  obtain rfl : v = Value.ref a := rx
  obtain rfl : u = Value.ref b := ry
  obtain ⟨_, ya, va, ra, da⟩ := dt_of I.hok ea
  obtain ⟨_, yb, vb, rb, db⟩ := dt_of I.hok eb
  have l1 : ks.length = va.length := Paired.length ra
  have l2 : ls.length = vb.length := Paired.length rb
  refine neH (knd := tupleKind (mixKind X.prog X.w)) ?_ (by omega) ya yb da db (by omega) (fun z hz => ?_) (fin_bl I q rfl)
  · exact tupleKind_room_in1 (by omega)
  · obtain ⟨i, hi⟩ := List.getElem?_of_mem hz
    have lt : i < ks.length := by
      have := (List.getElem?_eq_some_iff.mp hi).1
      omega
    obtain ⟨z', hz', e1, e2, e3⟩ := paired_get ra (List.getElem?_eq_getElem lt)
    rw [hi] at hz'
    obtain rfl := Option.some.inj hz'
    obtain ⟨h1, h2⟩ := hp _ (List.getElem_mem lt)
    have rr := KT.val rb z.1
    rw [← e1, h1] at rr
    obtain ⟨y, hy, ry⟩ := rr.some_of
    rw [Option.map_eq_some_iff] at hy
    obtain ⟨p, hp1, hp2⟩ := hy
    refine ⟨p, by rw [← e1]; exact hp1, ?_⟩
    rw [hp2]
    exact eqAt_same e3 ry h2
end
/-! ### values() -/
/-- the values of a locked dict of tuple keys -/
def Itdt (d : Addr) (o : Obj) (kvs : List (List Key × V)) : It :=
  ⟨fun i H => H d = some (.frz o (.dT kvs)) ∧ i < kvs.length, fun i H x H' => H' = H ∧ ∃ k, kvs[i]? = some (k, x), fun i H => H d = some (.frz o (.dT kvs)) ∧ kvs.length ≤ i⟩
theorem turn_valsT {P : Program} {w : World} {K : PySem.W.Frag} {tg : Expr} {d : Addr} {o : Obj} {kvs : List (List Key × V)} {ep : Nat} {es : Array DictEntry} (J : Addr) (dat : o.data = .dict es ep) (sz : es.size = kvs.length) :
    Turn P w K tg (Itdt d o kvs) [J] J (fun i h => h.IsValIter J d i es.size ep) where
  mem := by simp
  obj := fun i h st b hb => by
    have e : b = J := by simpa using hb
    subst e
    obtain ⟨oi, e, c, dd⟩ := st
    exact ⟨oi, e, fun v z => by rw [dd] at z; cases z⟩
  keep := fun i h h' st k => st.at fun oi e => k J (by simp) oi e
  item := by
    intro X hP hw hK hc i pins s σ H E I hf st hg
    subst hP hw hK
    obtain ⟨hd, hi⟩ := hg
    obtain ⟨f0, f1, f2, f3, f4, f5⟩ := hf J (by simp)
    obtain ⟨ns, es2, ep2, dat2, raw, _, ent⟩ := frzTV I hd
    obtain ⟨rfl, rfl⟩ := dict_ep dat dat2
    obtain ⟨⟨k, v⟩, hkv⟩ : ∃ p, kvs[i]? = some p := ⟨kvs[i], List.getElem?_eq_getElem hi⟩
    obtain ⟨hi2, q, ek, eq, ev⟩ := ent i k v hkv
    refine wpAny_pyNext_values_item_raw st raw hi2 fun h' st' sb => ?_
    have I1 : Inv X pins σ H { s with heap := h' } := I.turned (t' := s.toks) (fun b ob hb e => (sb.2 b hb).trans e) f0 f1 f3 f4 f5
    obtain ⟨oi, e, c, dd⟩ := id st'
    exact ⟨_, rfl, go_of (s := { s with heap := h' }) e c dd (by decide) ⟨v, H, I1, ev, ⟨rfl, k, hkv⟩, st', fun b hb => (hf b hb).1⟩⟩
  done := by
    intro X hP hw hK hc i pins s σ H E I hf st hg
    subst hP hw hK
    obtain ⟨hd, hi⟩ := hg
    obtain ⟨f0, f1, f2, f3, f4, f5⟩ := hf J (by simp)
    obtain ⟨ns, es2, ep2, dat2, raw, _, ent⟩ := frzTV I hd
    obtain ⟨rfl, rfl⟩ := dict_ep dat dat2
    exact wpAny_pyNext_values_end_raw (I.ok.hd hc) st raw (by omega) fun g eb => ⟨rfl, I.turned (t' := s.toks) (fun b ob hb e => eb b ob hb e) f0 f1 f3 f4 f5⟩
  self := fun A i s Q E st h => wpAny_pyIter_valiter st h
def iValsT (td : TE) : TI := fun σ H R => td σ H fun x H1 => ∃ d o kvs, x = .ref d ∧ H1 d = some (.frz o (.dT kvs)) ∧ R (Itdt d o kvs) H1
section
variable {X : Cx} {tg e : Expr} {td : TE} {apos cpos : Pos}
theorem pi_valuesT (he : PE X e td) (hbase : attributeBase e "values" X.env (eval e X.env) = eval e X.env := by rfl) (hline : (apos.endLine == cpos.line) = true := by rfl) : PI X tg (.Call (.Attribute e "values" apos) [] [] cpos) (iValsT td) := by
  refine ⟨fun pins s σ H R I h => wpAny_Call_method (T := "dict") (id := "dict.values") hbase rfl hline F.plainAttrs_dict F.slot_dict_values F.type_dict_values (thn (he.run pins s σ H _ I h) fun u s1 z => ?_)⟩
  obtain ⟨x, H1, I1, rx, d, o, kvs, ex, hd, q⟩ := z
  subst ex
  obtain rfl : u = Value.ref d := rx
  obtain ⟨ns, es, ep, dat, raw, sz, _⟩ := frzTV I1 hd
  obtain ⟨ob, ho, hx, hdat⟩ := id raw
  refine ⟨⟨ob, ho, hx.1⟩, fun ob' ho' => ?_, ?_⟩
  · cases ho'
    exact ⟨ob, ho, hx.2.1⟩
  have I2 : Inv X pins σ H1 { s1 with heap := s1.heap.push { cls := .type "dict_values", data := .fields #[.ref d] } } := I1.kept (t' := s1.toks) fun b ob q => Heap.get?_push_of_some _ q
  have raw2 : (s1.heap.push { cls := .type "dict_values", data := .fields #[.ref d] }).DictRaw d es ep := ⟨ob, Heap.get?_push_of_some _ ho, hx, hdat⟩
  have fin : wpAny (model X.prog X.w) X.A (pyIter (.ref s1.heap.objs.size)) (PIE X pins σ tg R) X.xe { s1 with heap := s1.heap.push { cls := .type "dict_values", data := .fields #[.ref d] } } :=
    wpAny_pyIter_values_raw (d := d) ⟨_, Heap.get?_push_size _ rfl, rfl, rfl⟩ raw2 (pi_one (tk := s1.toks) I2 _ (turn_valsT _ dat sz) ⟨_, Heap.get?_push_size _ rfl, rfl, rfl⟩ q)
  exact method_meetsIn F.slot_dict_values F.entry_dict_values rfl (PySem.evalArgs_none ⟨rfl, ⟨ob, ho, hx.1⟩, F.args_dict_values_1 _, _, meets_dict_values_raw d ns, ⟨es, ep, raw⟩, fin⟩)
end
theorem walk_valuesT {d : Addr} {o : Obj} {kvs : List (List Key × V)} : Walk (Itdt d o kvs) kvs.length (fun H => H d = some (.frz o (.dT kvs))) (fun i H x H' => H' = H ∧ ∃ k, kvs[i]? = some (k, x)) :=
  ⟨fun _ _ hi q => ⟨q, hi⟩, fun _ q => ⟨q, Nat.le_refl _⟩, fun _ _ _ _ _ _ y => y⟩
/-! ### clear() -/
def rTClear : V → List V → Hp → VK → Prop := fun x vs H Q => ∃ (a : Addr) (kvs : List (List Key × V)), x = .ref a ∧ vs = [] ∧ H a = some (.dT kvs) ∧ Q .non (upd H a (.dT []))
theorem mtt_clear {X : Cx} : MtR X "dict.clear" rTClear := by
  intro pins s σ H x vs v us Q I rx rv h
  obtain ⟨a, kvs, ex, ev, e, q⟩ := h
  subst ex
  subst ev
  obtain rfl : v = Value.ref a := rx
  have hus := rv.zero
  subst hus
  obtain ⟨z, hd, xs, rel, dd⟩ := dt_of I.hok e
  obtain ⟨es, ep, raw, sz, _⟩ := Heap.DictOfH.raw dd
  have l1 : kvs.length = xs.length := Paired.length rel
  refine call_meetsIn PySem.F.slot_dict_clear dd.typeIs PySem.F.entry_dict_clear (PySem.F.args_dict_clear_1 _) (meets_dict_clear_raw a) ⟨es, ep, raw, by omega, fun h' dd' hs => ?_⟩
  obtain ⟨q', hq', hx', hdat'⟩ := dd'
  refine ⟨.non, _, d_write (t' := s.toks) (ob := .dT []) I (by rw [e]; exact True.intro) hs ⟨q', hq'⟩ ?_, rfl, q⟩
  exact ⟨Nat.zero_le _, hd, [], .nil, q', #[], ep + 1, hq', hx', hdat', rfl, List.nodup_nil⟩
section
variable {X : Cx} {o : Expr} {to : TE} {apos cpos : Pos}
theorem pe_tclear (ho : PE X o to) (hbase : attributeBase o "clear" X.env (eval o X.env) = eval o X.env := by rfl) (hline : (apos.endLine == cpos.line) = true := by rfl) : PE X (.Call (.Attribute o "clear" apos) [] [] cpos) (tBM0 X.K "dict" rTClear to) :=
  pe_bm0 PySem.F.plainAttrs_dict PySem.F.slot_dict_clear PySem.F.type_dict_clear mtt_clear ho hbase hline
end
/-! ### sum(d.values()) -/
theorem preSum_take (f : Nat → Int) (ns : List Int) (h : ∀ i, i < ns.length → f i = ns.getD i 0) : ∀ n, n ≤ ns.length → preSum f n = (ns.take n).sum
  | 0, _ => by simp [preSum]
  | n + 1, hn => by
    rw [preSum, preSum_take f ns h n (by omega), h n (by omega), List.take_add_one, List.sum_append, List.getElem?_eq_getElem (by omega), List.getD_eq_getElem?_getD, List.getElem?_eq_getElem (by omega)]
    simp
def viewT (p d : Addr) : HO := .ext fun h => h.get? p = some { cls := .type "dict_values", data := .fields #[.ref d] }
def tValsT (td : TE) : TE := fun σ H Q => td σ H fun x H1 => ∃ a kvs, x = .ref a ∧ H1 a = some (.dT kvs) ∧ ∀ p, H1 p = none → Q (.ref p) (upd H1 p (viewT p a))
theorem pe_valsT {X : Cx} {e : Expr} {td : TE} {apos cpos : Pos} (he : PE X e td) (hbase : attributeBase e "values" X.env (eval e X.env) = eval e X.env := by rfl) (hline : (apos.endLine == cpos.line) = true := by rfl) : PE X (.Call (.Attribute e "values" apos) [] [] cpos) (tValsT td) := by
  refine ⟨fun pins s σ H Q I h => wpAny_Call_method (T := "dict") (id := "dict.values") hbase rfl hline F.plainAttrs_dict F.slot_dict_values F.type_dict_values (thn (he.run pins s σ H _ I h) fun u s1 z => ?_)⟩
  obtain ⟨x, H1, I1, rx, d, kvs, ex, hd, q⟩ := z
  subst ex
  obtain rfl : u = Value.ref d := rx
  obtain ⟨_, ns, xs, rel, dd⟩ := dt_of I1.hok hd
  obtain ⟨es, ep, raw, _, _⟩ := Heap.DictOfH.raw dd
  obtain ⟨ob, ho, hx, hdat⟩ := id raw
  refine ⟨⟨ob, ho, hx.1⟩, fun ob' ho' => ?_, ?_⟩
  · cases ho'
    exact ⟨ob, ho, hx.2.1⟩
  have fin : EP X pins σ Q (.ref s1.heap.objs.size) { s1 with heap := s1.heap.push { cls := .type "dict_values", data := .fields #[.ref d] } } :=
    ⟨.ref s1.heap.objs.size, _, I1.laid (t' := s1.toks) (fun b o q => Heap.get?_push_of_some _ q) (Nat.le_refl _) (show ObjOk X.prog X.w _ _ _ (viewT s1.heap.objs.size d) from ⟨Heap.get?_push_size _ rfl, ⟨_, Heap.get?_push_size _ rfl⟩, fun h1 h2 q k => k _ q⟩), rfl, q _ (I1.hok.fresh (Nat.le_refl _))⟩
  exact method_meetsIn F.slot_dict_values F.entry_dict_values rfl (PySem.evalArgs_none ⟨rfl, ⟨ob, ho, hx.1⟩, F.args_dict_values_1 _, _, meets_dict_values_raw d ns, ⟨es, ep, raw⟩, fin⟩)
def rSumVT : List V → Hp → VK → Prop := fun xs H Q => ∃ (p a : Addr) (kvs : List (List Key × V)) (ns : List Int), xs = [.ref p] ∧ H p = some (viewT p a) ∧ H a = some (.dT kvs) ∧ kvs.map Prod.snd = ns.map V.int ∧ Q (.int ns.sum) H
theorem cr_sumVT {X : Cx} (hc : X.calm = true) : CallR X (.builtin "sum") rSumVT := by
  intro pins s σ H xs us Q I rx h
  obtain ⟨p, a, kvs, ns, rfl, hp, hd, hns, q⟩ := h
  rw [Vals.ref1 rx]
  have hv : s.heap.get? p = some { cls := .type "dict_values", data := .fields #[.ref a] } := (show ObjOk X.prog X.w H s.heap p (viewT p a) from I.hok p _ hp).1
  obtain ⟨_, sm, xs, rel, dd⟩ := dt_of I.hok hd
  obtain ⟨es, ep, raw, sz, ent⟩ := Heap.DictOfH.raw dd
  have l1 : kvs.length = xs.length := Paired.length rel
  have l2 : kvs.length = ns.length := by
    have e := congrArg List.length hns
    rw [List.length_map, List.length_map] at e
    exact e
  have lt := raw.lt_size
  refine call_sum_walkG (wpAny_pyIter_values_raw (d := a) ⟨_, hv, rfl, rfl⟩ raw ?_)
  refine ⟨s.heap.objs.size, _, _, _, _, _, fun i => ns.getD i 0, rfl, Walks.rawValues (A := X.A.in1) (show X.A.in1.handled = none from I.ok.hd hc) _ a (Nat.ne_of_lt lt) es ep, ⟨⟨_, Heap.get?_push_size _ rfl, rfl, rfl⟩, raw.push _⟩, fun b hb => ?_, fun i v hP => ?_, fun h' tk t' hk => ?_⟩
  · simp only [List.mem_cons, List.not_mem_nil, or_false] at hb
    rcases hb with rfl | rfl
    · show _ < (s.heap.push _).objs.size
      rw [size_push']
      exact Nat.lt_succ_self _
    · show _ < (s.heap.push _).objs.size
      rw [size_push']
      exact Nat.lt_succ_of_lt lt
  · obtain ⟨hi, rfl⟩ := hP
    have hi2 : i < kvs.length := by omega
    obtain ⟨y, hy, _, ev, _⟩ := ent i hi
    obtain ⟨y', hy', _, _, e3⟩ := paired_get rel (List.getElem?_eq_getElem hi2)
    rw [hy] at hy'
    obtain rfl := Option.some.inj hy'
    have e2 : kvs[i].2 = V.int (ns.getD i 0) := by
      have z : (kvs.map Prod.snd)[i]? = (ns.map V.int)[i]? := by rw [hns]
      rw [List.getElem?_map, List.getElem?_map, List.getElem?_eq_getElem hi2, List.getElem?_eq_getElem (by omega)] at z
      rw [List.getD_eq_getElem?_getD, List.getElem?_eq_getElem (by omega)]
      exact Option.some.inj z
    rw [e2] at e3
    obtain ⟨t, e4⟩ := (show ∃ t, y.2.2 = Value.int (ns.getD i 0) t from e3)
    exact ⟨t, ev.trans e4⟩
  · have e : preSum (fun i => ns.getD i 0) es.size = ns.sum := by
      rw [preSum_take _ ns (fun _ _ => rfl) _ (by omega), List.take_of_length_le (by omega)]
    rw [e]
    refine ⟨.int _, H, I.kept (t' := tk) fun b o hb => hk b o (fun hm => ?_) (Heap.get?_push_of_some _ hb), ⟨_, rfl⟩, q⟩
    simp only [List.mem_cons, List.not_mem_nil, or_false] at hm
    exact absurd (Heap.lt_size hb) (by rw [hm]; exact Nat.lt_irrefl _)
end TCX
/-! d.pop(k) of a dict with tuple keys. -/
namespace TCX
open PySem PySem.W PySem.Spec PyProof.Rows L2
section
variable {X : Cx}
def rPopT1 : V → List V → Hp → VK → Prop := fun x xs H Q => ∃ (a : Addr) (kvs : List (List L2.Key × V)) (k : List L2.Key) (b : Addr) (v : V), x = .ref a ∧ xs = [.ref b] ∧ H a = some (.dT kvs) ∧ H b = some (.tup (k.map kV)) ∧ valV kvs k = some v ∧ Q v (upd H a (.dT (dropK kvs k)))
theorem mt_popT1 (hu : X.A.units + 1 < cLine) : MtR X "dict.pop" rPopT1 := by
  intro pins s σ H x xs v us Q I rx rxs h
  obtain ⟨a, kvs, k, b, v0, rfl, rfl, ha, hb, ev, q1⟩ := h
  cases rx
  rw [Vals.ref1 rxs]
  obtain ⟨z, hd, xs', rel, dd⟩ := dt_of I.hok ha
  have hz : xs'.length ≤ sizeLine := by rw [← Paired.length rel]; exact z
  have r := rel.val k
  rw [ev] at r
  obtain ⟨y, hy, rv⟩ := r.some_of
  rw [Option.map_eq_some_iff] at hy
  obtain ⟨p, hp1, rfl⟩ := hy
  refine call_pop_heap (knd := tupleKind (mixKind X.prog X.w)) (k := k) (xs := xs') (p := p) (.inl rfl) (PySem.F.args_dict_pop_2 _ _) (tupleKind_room_in1 hu) (key_of I.hok hb) hd dd hp1 (fun h' dd' hs => ?_) hz
  obtain ⟨o, es, ep, hq, h2, h3, h4, _, h5⟩ := dd'
  have I2 := d_write (t' := s.toks + (tupleKind (mixKind X.prog X.w)).draws k) (ob := .dT (dropK kvs k)) I (by rw [ha]; exact True.intro) hs ⟨o, hq⟩ ⟨Nat.le_trans (dropK_le kvs k) z, hd, _, (L2.DX.KT_drop k rel).keeps (fun c ys ec => (by rw [upd_ne (ne_of ec ha (fun z => nomatch z))]; exact ec)), o, es, ep, hq, h2, h3, h4, h5⟩
  exact ⟨v0, _, I2, rv, q1⟩
end
end TCX
/-! {k: v}, one pair with a tuple as key. -/
namespace TCX
open PySem PySem.W PySem.Spec PyProof.Rows L2
section
variable {X : Cx}
def tDispT1 (tk tv : TE) : TE := fun σ H Q => ∀ p, H p = none → tk σ (upd H p (.dT [])) fun x H1 => tv σ H1 fun y H2 => ∃ b k, x = .ref b ∧ H2 b = some (.tup (k.map kV)) ∧ H2 p = some (.dT []) ∧ Q (.ref p) (upd H2 p (.dT [(k, y)]))
theorem pe_dispT1 {k v : Expr} {pos : Pos} {tk tv : TE} (hu : X.A.units + 1 < cLine) (hk : PE X k tk) (hv : PE X v tv) : PE X (.Dict [some k] [v] pos) (tDispT1 tk tv) := by
  refine ⟨fun pins s σ H Q I q => ?_⟩
  have hn := I.hok.fresh (Nat.le_refl s.heap.objs.size)
  have I1 := I.laid (a := s.heap.objs.size) (o := .dT []) (h' := s.heap.push { cls := .type "dict", data := .dict #[] }) (t' := s.toks) (fun _ _ q => Heap.get?_push_of_some _ q) (Nat.le_refl _) (dt_empty s.heap I.big)
  have room : (tupleKind (mixKind X.prog X.w)).room X.A := by
    show X.A.units < cLine
    omega
  rw [arm_eval_Dict, zip_pairTrees [some k] [v] X.env pos rfl rfl, dictDisplay_pairs _ (fun z => by cases z) (by show 1 < 17; decide)]
  refine wpAny_bind (wpAny_standAt (wpAny_bind (wpAny_subDictH (knd := tupleKind (mixKind X.prog X.w)) (Q := fun d s' => wpAny (model X.prog X.w) X.A (pure (Value.ref d)) (EP X pins σ Q) X.xe s') room (by show 1 ≤ 15; decide) ?_)))
  refine pairTrees_cons_walk (thn (hk.run pins _ σ _ _ I1 (q _ hn)) fun u s1 ⟨x, H1, I2, rx, q1⟩ => thn (hv.run pins s1 σ H1 _ I2 q1) fun w2 s2 ⟨y, H2, I3, ry, b, kk, ex, hb, hp, q2⟩ => pairTrees_nil_walk ?_)
  subst ex
  obtain rfl : u = Value.ref b := rx
  obtain ⟨z, hd, xs0, r0, dd⟩ := dt_of I3.hok hp
  cases r0
  refine ⟨[(kk, b, w2)], ⟨rfl, rfl, key_of I3.hok hb, trivial⟩, dd, fun h' tk dd' hs => wpAny_pure ?_⟩
  obtain ⟨o, es, ep, hq, h2, h3, h4, _, h5⟩ := dd'
  have I4 : Inv X pins σ (upd H2 s.heap.objs.size (.dT [(kk, y)])) { s2 with heap := h', toks := tk } :=
    d_write I3 (by rw [hp]; exact True.intro) hs ⟨o, hq⟩ ⟨by show 1 ≤ sizeLine; decide, hd, _, .cons (b := (kk, b, w2)) ⟨rfl, by rw [upd_ne (ne_of hb hp (fun z => nomatch z))]; exact hb, ry⟩ .nil, o, es, ep, hq, h2, h3, h4, h5⟩
  exact ⟨.ref s.heap.objs.size, _, I4, rfl, q2⟩
end
end TCX
namespace TCX
open PySem PySem.Spec PyProof.Rows L2 HT
theorem same_new {H : Hp} {p : Addr} {o : HO} (h : H p = none) : Same H (upd H p o) := fun b x e => by
  rw [upd_ne (ne_of_none e h)]
  exact e
section
variable {X : Cx}
/-- t + u, whatever they hold: some tuple of both -/
def rCatS : R2 := fun x y H Q => ∃ a b xs ys, x = .ref a ∧ y = .ref b ∧ H a = some (.tup xs) ∧ H b = some (.tup ys) ∧ xs.length + ys.length ≤ sizeLine ∧ ∀ p H', Same H H' → H' p = some (.tup (xs ++ ys)) → Q (.ref p) H'
theorem op_catS : OpR X (binaryOp .Add) (rCatS) := by
  intro pins s σ H x y v u Q I rx ry h
  obtain ⟨a, b, xs, ys, rfl, rfl, ha, hb, hz, q⟩ := h
  refine op_catA pins s σ H _ _ v u Q I rx ry ⟨a, b, xs, ys, rfl, rfl, SqT.of ha, SqT.of hb, hz, fun e => ?_, fun _ e => ?_, fun _ _ p hp => ?_⟩
  · subst e
    exact q b H (fun _ _ z => z) hb
  · subst e
    exact q a H (fun _ _ z => z) (by rw [List.append_nil]; exact ha)
  · exact q p _ (same_new hp) upd_same
/-- t[lo:hi], whatever it is: some tuple of the part -/
def rSlS : V → Option Int → Option Int → Hp → VK → Prop := fun x lo hi H Q => ∃ a xs, x = .ref a ∧ H a = some (.tup xs) ∧ ∀ p H', Same H H' → H' p = some (.tup (cutV xs lo hi)) → Q (.ref p) H'
theorem sl_tupS : SlR X (rSlS) := by
  intro pins s σ H x v vl vu lo hi sl Q I rx hs pl pu h
  obtain ⟨a, xs, rfl, hx, q⟩ := h
  refine sl_tupA pins s σ H _ v vl vu lo hi sl Q I rx hs pl pu ⟨a, xs, rfl, SqT.of hx, fun e => ?_, fun _ p hp => ?_⟩
  · refine q a H (fun _ _ z => z) ?_
    unfold cutV
    rw [e.1, e.2]
    simpa using hx
  · exact q p _ (same_new hp) upd_same
end
theorem cut_take {xs : List V} {k : Nat} : cutV xs none (some (k : Int)) = xs.take k := by
  unfold cutV
  rw [sIx_nat, sIx_none]
  show xs.take (min k xs.length) = xs.take k
  by_cases h : k ≤ xs.length
  · rw [Nat.min_eq_left h]
  · rw [Nat.min_eq_right (by omega), List.take_length, List.take_of_length_le (by omega)]
theorem cut_drop {xs : List V} {k : Nat} : cutV xs (some (k : Int)) none = xs.drop k := by
  unfold cutV
  rw [sIx_nat, sIx_none]
  by_cases h : k ≤ xs.length
  · rw [Nat.min_eq_left h, List.take_of_length_le (by rw [List.length_drop]; omega)]
  · rw [Nat.min_eq_right (by omega), List.drop_length, List.drop_of_length_le (by omega)]
    exact List.take_nil
end TCX
/-! slices of a list with a step. -/
namespace TCX
open PySem PySem.Spec PyProof.Rows L2
theorem vals_at {xs : List V} {us : List Value} (h : Vals xs us) : ∀ i : Nat, (xs[i]? = none ∧ us[i]? = none) ∨ ∃ x u, xs[i]? = some x ∧ us[i]? = some u ∧ RelV x u := by
  induction h with
  | nil => exact fun i => .inl ⟨rfl, rfl⟩
  | cons r t ih =>
    intro i
    cases i with
    | zero => exact .inr ⟨_, _, rfl, rfl, r⟩
    | succ i => exact ih i
theorem vals_pick {xs : List V} {us : List Value} (h : Vals xs us) : ∀ is : List Nat, Vals (is.filterMap (xs[·]?)) (is.filterMap (us[·]?))
  | [] => .nil
  | i :: is => by
    rcases vals_at h i with ⟨e1, e2⟩ | ⟨x, u, e1, e2, r⟩
    · rw [List.filterMap_cons, List.filterMap_cons, e1, e2]
      exact vals_pick h is
    · rw [List.filterMap_cons, List.filterMap_cons, e1, e2]
      exact .cons r (vals_pick h is)
/-- the items of xs[lo:hi:st] -/
def stepV (xs : List V) (lo hi st : Option Int) : List V := (sliceRange (sliceBounds lo hi st xs.length).1 (sliceBounds lo hi st xs.length).2.1 (sliceBounds lo hi st xs.length).2.2).filterMap (xs[·]?)
section
variable {X : Cx} {e : Expr} {te : TE} {lo hi : Option Expr} {se : Expr} {tl th ts : TO} {pos p2 : Pos}
def tSl3 (K : PySem.W.Frag) (te : TE) (tl th ts : TO) : TE := fun σ H Q => te σ H fun x H1 => tl σ H1 fun l H2 => th σ H2 fun u H3 => ts σ H3 fun c H4 => ∃ a xs, x = .ref a ∧ SqL K H4 a xs ∧ c ≠ some 0 ∧ (stepV xs l u c).length ≤ sizeLine ∧ ∀ p, H4 p = none → Q (.ref p) (upd H4 p (.lst (stepV xs l u c)))
theorem pe_slice3 (he : PE X e te) (hl : PO X lo tl) (hu : PO X hi th) (hs : PO X (some se) ts) : PE X (.Subscript e (.Slice lo hi (some se) p2) pos) (tSl3 X.K te tl th ts) := by
  refine ⟨fun pins s σ H Q I h => ?_⟩
  refine Subscript_ (thn (he.run pins s σ H _ I h) fun v s1 ⟨x, H1, I1, r1, q1⟩ => ?_)
  refine wpAny_Slice (thn (hl.run pins s1 σ H1 _ I1 q1) fun vl s2 ⟨l, H2, I2, pl, q2⟩ => thn (hu.run pins s2 σ H2 _ I2 q2) fun vu s3 ⟨u, H3, I3, pu, q3⟩ => thn (hs.run pins s3 σ H3 _ I3 q3) fun vs s4 ⟨c, H4, I4, ps, q4⟩ => ?_)
  obtain ⟨a, xs, rfl, hx, hc, hz, q⟩ := q4
  have I5 : Inv X pins σ H4 { s4 with heap := s4.heap.push { cls := .type "slice", data := .fields #[vl, vu, vs] } } := I4.kept (t' := s4.toks) fun b ob q => Heap.get?_push_of_some _ q
  cases r1
  obtain ⟨its, r, ht, hz'⟩ := I5.list hx
  have hlen := r.length
  refine tail_any (ops := [.ref a, .ref s4.heap.objs.size]) (T := "list") ht.isList.typeIs slot_list_getitem.lookup ?_ (by with_unfolding_all rfl)
  refine wpAny_getItem_list_slice ht.isList (Heap.IsSliceOf.new ..) pl pu ps hc ?_ (by rw [List.size_toArray] <;> omega)
  have e : slicePick its.toArray l u c = ((sliceRange (sliceBounds l u c its.length).1 (sliceBounds l u c its.length).2.1 (sliceBounds l u c its.length).2.2).filterMap (its[·]?)).toArray := by
    unfold slicePick
    rw [List.size_toArray]
    simp only [List.getElem?_toArray]
  rw [e, ← hlen]
  refine ⟨.ref _, _, I5.laid (t' := s4.toks) (o := .lst (stepV xs l u c)) (fun b ob q => Heap.get?_push_of_some _ q) (Nat.le_refl _) ?_, rfl, q _ (I5.hok.fresh (Nat.le_refl _))⟩
  exact ⟨hz, _, 0, vals_pick r _, Heap.get?_push_size _ rfl⟩
end
end TCX
namespace TCX
open PySem PySem.Spec PyProof.Rows L2
theorem range_down (n : Nat) (hi : Nat) (h : hi ≤ n) : sliceRange ((n : Int) - 1) ((hi : Int) - 1) (-1) = (List.range (n - hi)).map fun k => n - 1 - k := by
  unfold sliceRange
  by_cases hn : hi < n
  · have e : ((n : Int) - 1 - ((hi : Int) - 1) - -1 - 1) / (- -1) = ((n - hi : Nat) : Int) := by
      rw [show (- -1 : Int) = 1 from rfl, Int.ediv_one]
      omega
    simp only [show ¬ ((-1 : Int) > 0) by decide, if_false, show ((n : Int) - 1 > (hi : Int) - 1) by omega, if_true, e, Int.toNat_natCast]
    refine List.map_congr_left fun k hk => ?_
    have := List.mem_range.mp hk
    omega
  · have e : n - hi = 0 := by omega
    simp only [show ¬ ((-1 : Int) > 0) by decide, if_false, show ¬ ((n : Int) - 1 > (hi : Int) - 1) by omega, e]
    rfl
theorem pick_down {α : Type} (xs : List α) : ∀ k : Nat, k ≤ xs.length → ((List.range k).map fun i => xs.length - 1 - i).filterMap (xs[·]?) = (xs.drop (xs.length - k)).reverse
  | 0, _ => by simp
  | k + 1, h => by
    rw [List.range_succ, List.map_append, List.filterMap_append, pick_down xs k (by omega)]
    have h1 : xs.length - 1 - k < xs.length := by omega
    have e : xs.length - (k + 1) = xs.length - 1 - k := by omega
    rw [e, List.drop_eq_getElem_cons h1, List.reverse_cons]
    have e2 : xs.length - 1 - k + 1 = xs.length - k := by omega
    rw [e2]
    congr 1
    simp [List.getElem?_eq_getElem h1]
/-- xs[::-1] -/
theorem step_rev (xs : List V) : stepV xs none none (some (-1)) = xs.reverse := by
  unfold stepV
  have e : sliceBounds none none (some (-1)) xs.length = ((xs.length : Int) - 1, ((0 : Nat) : Int) - 1, -1) := by
    unfold sliceBounds
    simp
  rw [e, range_down xs.length 0 (Nat.zero_le _), Nat.sub_zero, pick_down xs xs.length (Nat.le_refl _), Nat.sub_self]
  rfl
/-- xs[:0:-1] -/
theorem step_tail (xs : List V) : stepV xs none (some 0) (some (-1)) = (xs.drop 1).reverse := by
  unfold stepV
  cases xs with
  | nil => rfl
  | cons x xs =>
    have e : sliceBounds none (some 0) (some (-1)) (x :: xs).length = (((x :: xs).length : Int) - 1, ((1 : Nat) : Int) - 1, -1) := by
      unfold sliceBounds
      simp
      omega
    rw [e, range_down (x :: xs).length 1 (by simp), pick_down (x :: xs) _ (by omega)]
    have e2 : (x :: xs).length - ((x :: xs).length - 1) = 1 := by simp
    rw [e2]
end TCX
/-! t[::-1] of a tuple: a new tuple of its own items. -/
namespace TCX
open PySem PySem.Spec PyProof.Rows L2 HT
def downN (n : Nat) : List Nat := (List.range n).map fun (k : Nat) => ((n : Int) - 1 + (k : Int) * (-1)).toNat
section
variable {prog : Program} {w : World} {A : Around} {E : Value → Shared → Prop} {s : Shared}
theorem sliceDown {sl : Addr} {t : Tok} {n : Nat} {Q : Int × Int × Nat → Shared → Prop} (hs : s.heap.IsSliceOf sl .none .none (.int (-1) t)) (h : Q ((n : Int) - 1, -1, n) s) :
    wpAny (model prog w) A (Builtin.Slice.sliceApplied (.ref sl) (pure (n : Int))) Q E s := by
  obtain ⟨os, hos, hcs, hds⟩ := id hs
  unfold Builtin.Slice.sliceApplied Builtin.Slice.sliceFields
  refine wpAny_bind (wpAny_bind (wpAny_field hos hds (x := .none) rfl (wpAny_bind (wpAny_field hos hds (x := .none) rfl (wpAny_bind (wpAny_field hos hds (x := .int (-1) t) rfl (wpAny_pure ?_)))))))
  refine wpAny_bind (slicePart_int ?_)
  show wpAny _ _ (if ((-1 : Int) == 0) = true then _ else _) _ _ s
  rw [if_neg (by decide)]
  refine wpAny_bind (slicePart_none (wpAny_bind (slicePart_none (wpAny_bind (wpAny_pure ?_)))))
  show wpAny _ _ (pure ((n : Int) - 1, (-1 : Int), Builtin.Slice.slicePlaces ((n : Int) - 1) (-1) (-1))) _ _ s
  have e : Builtin.Slice.slicePlaces ((n : Int) - 1) (-1) (-1) = n := by
    unfold Builtin.Slice.slicePlaces
    rw [if_neg (by decide)]
    split
    · rw [show (-(-1 : Int)) = 1 from rfl, Int.ediv_one]
      omega
    · omega
  rw [e]
  exact wpAny_pure h
theorem getItem_tuple_down {tp sl : Addr} {t : Tok} {items : Array Value} {Q : Value → Shared → Prop} (ht : IsTup s.heap tp items) (hs : s.heap.IsSliceOf sl .none .none (.int (-1) t))
    (h : Q (.ref s.heap.objs.size) { s with heap := s.heap.push { cls := .type "tuple", data := .seq ((downN items.size).filterMap (items.toList[·]?)).toArray } })
    (hsz : items.size ≤ sizeLine) : wpAny (model prog w) A (getItem (.ref tp) (.ref sl)) Q E s := by
  have el : (downN items.size).length = items.size := by
    unfold downN
    rw [List.length_map, List.length_range]
  have htake : sizeOk (.seq ((downN items.size).filterMap (items.toList[·]?)).toArray) := by
    show ((downN items.size).filterMap (items.toList[·]?)).toArray.size ≤ sizeLine
    rw [List.size_toArray]
    have := List.length_filterMap_le (items.toList[·]?) (downN items.size)
    omega
  have ep : ((List.range items.size).filterMap fun (k : Nat) => items[((items.size : Int) - 1 + (k : Int) * (-1)).toNat]?) = (downN items.size).filterMap (items.toList[·]?) := by
    unfold downN
    rw [List.filterMap_map]
    congr 1
    funext k
    simp
  obtain ⟨os, hos, hcs, hds⟩ := id hs
  have hTs : s.TypeIs (.ref sl) "slice" := ⟨os, hos, hcs⟩
  unfold getItem
  try with_reducible refine wpAny_holding ?_
  first | refine wpAny_bind (wpAny_pure ?_) | skip
  refine wpAny_bind (wpAny_sequenceKey ht.typeIs (by decide) ?_)
  refine wpAny_bind (wpAny_callSpecial?_slot (name := Str.ofString "__getitem__") ht.typeIs PyProof.Rows.slot_tuple_getitem
    (wpAny_call_entry PyProof.Rows.slot_tuple_getitem ht.typeIs entry_tuple_getitem ?_ (args_tuple_getitem _ _)))
  show wpAny _ _ (Builtin.Tuple.tupleItemsOf (.ref tp) >>= _) _ _ s
  refine wpAny_bind (tupleItemsOf_ ht ?_)
  refine wpAny_bind (wpAny_typeOf hTs ?_)
  rw [if_pos (by decide)]
  refine wpAny_bind (sliceDown hs ?_)
  show wpAny _ _ (if (((items.size : Int) - 1) == 0 && (-1 : Int) == 1 && items.size == items.size) = true then _ else _) _ _ s
  have hno : ¬ ((((items.size : Int) - 1) == 0 && (-1 : Int) == 1 && items.size == items.size) = true) := by
    simp
  rw [if_neg hno, ep]
  first
    | exact wpAny_bind (m := Builtin.Tuple.tupleExact _) (wpAny_newObj_type (wpAny_pure ⟨_, rfl, wpAny_pure h⟩) htake)
    | exact wpAny_bind (m := Builtin.Tuple.tupleExact _) (wpAny_newObj_type (wpAny_bind (wpAny_pure (wpAny_pure ⟨_, rfl, wpAny_pure h⟩))) htake)
    | exact wpAny_bind (wpAny_bind (m := Builtin.Tuple.tupleExact _) (wpAny_newObj_type (wpAny_pure (wpAny_pure ⟨_, rfl, wpAny_pure h⟩)) htake))
    | exact wpAny_bind (wpAny_bind (m := Builtin.Tuple.tupleExact _) (wpAny_newObj_type (wpAny_pure ⟨_, rfl, wpAny_pure h⟩) htake))
end
section
variable {X : Cx} {e : Expr} {te : TE} {se : Expr} {ts : TO} {pos p2 : Pos}
def tDownT (K : PySem.W.Frag) (te : TE) (tl th ts : TO) : TE := fun σ H Q => te σ H fun x H1 => tl σ H1 fun l H2 => th σ H2 fun u H3 => ts σ H3 fun c H4 => ∃ a xs, x = .ref a ∧ SqT K H4 a xs ∧ l = none ∧ u = none ∧ c = some (-1) ∧ ∀ p ys, H4 p = none → (∀ y ∈ ys, y ∈ xs) → ys.length ≤ xs.length → Q (.ref p) (upd H4 p (.tup ys))
theorem pe_downT {lo hi : Option Expr} {tl th : TO} (he : PE X e te) (hl : PO X lo tl) (hu : PO X hi th) (hs : PO X (some se) ts) : PE X (.Subscript e (.Slice lo hi (some se) p2) pos) (tDownT X.K te tl th ts) := by
  refine ⟨fun pins s σ H Q I h => ?_⟩
  refine Subscript_ (thn (he.run pins s σ H _ I h) fun v s1 ⟨x, H1, I1, r1, q1⟩ => ?_)
  refine wpAny_Slice (thn (hl.run pins s1 σ H1 _ I1 q1) fun vl s2 ⟨l, H2, I2, pl, q2⟩ => thn (hu.run pins s2 σ H2 _ I2 q2) fun vu s3 ⟨u, H3, I3, pu, q3⟩ => thn (hs.run pins s3 σ H3 _ I3 q3) fun vs s4 ⟨c, H4, I4, ps, q4⟩ => ?_)
  obtain ⟨a, xs, rfl, hx, rfl, rfl, rfl, q⟩ := q4
  have I5 : Inv X pins σ H4 { s4 with heap := s4.heap.push { cls := .type "slice", data := .fields #[vl, vu, vs] } } := I4.kept (t' := s4.toks) fun b ob q => Heap.get?_push_of_some _ q
  cases r1
  cases pl
  cases pu
  cases ps
  obtain ⟨its, r, ht, hz⟩ := I5.tuple hx
  have hlen := r.length
  refine tail_any (ops := [.ref a, .ref s4.heap.objs.size]) (T := "tuple") ht.typeIs PyProof.Rows.slot_tuple_getitem.lookup ?_ (by with_unfolding_all rfl)
  refine getItem_tuple_down ht (Heap.IsSliceOf.new ..) ?_ (by rw [List.size_toArray]; omega)
  have e0 : its.toArray.size = xs.length := by rw [List.size_toArray]; omega
  rw [e0]
  have hl2 : ((downN xs.length).filterMap (xs[·]?)).length ≤ xs.length := by
    have z := List.length_filterMap_le (xs[·]?) (downN xs.length)
    have : (downN xs.length).length = xs.length := by
      unfold downN
      rw [List.length_map, List.length_range]
    omega
  refine ⟨.ref _, _, I5.laid (t' := s4.toks) (o := .tup ((downN xs.length).filterMap (xs[·]?))) (fun b ob q => Heap.get?_push_of_some _ q) (Nat.le_refl _) ?_, rfl, q _ _ (I5.hok.fresh (Nat.le_refl _)) (fun y hy => ?_) hl2⟩
  · exact ⟨Nat.le_trans hl2 (by omega), _, vals_pick r _, IsTup.new _ _⟩
  · obtain ⟨i, _, e⟩ := List.mem_filterMap.mp hy
    exact List.mem_of_getElem? e
end
end TCX
/-! t[::-1] of a tuple: its own items the other way about. -/
namespace TCX
open PySem PySem.Spec PyProof.Rows L2 HT
section
variable {X : Cx} {e : Expr} {te : TE} {se : Expr} {ts : TO} {pos p2 : Pos}
def turnV (xs : List V) : List V := (downN xs.length).filterMap (xs[·]?)
def tTurnT (K : PySem.W.Frag) (te : TE) (tl th ts : TO) : TE := fun σ H Q => te σ H fun x H1 => tl σ H1 fun l H2 => th σ H2 fun u H3 => ts σ H3 fun c H4 => ∃ a xs, x = .ref a ∧ SqT K H4 a xs ∧ l = none ∧ u = none ∧ c = some (-1) ∧ ∀ p, H4 p = none → Q (.ref p) (upd H4 p (.tup (turnV xs)))
theorem pe_turnT {lo hi : Option Expr} {tl th : TO} (he : PE X e te) (hl : PO X lo tl) (hu : PO X hi th) (hs : PO X (some se) ts) : PE X (.Subscript e (.Slice lo hi (some se) p2) pos) (tTurnT X.K te tl th ts) := by
  refine ⟨fun pins s σ H Q I h => ?_⟩
  refine Subscript_ (thn (he.run pins s σ H _ I h) fun v s1 ⟨x, H1, I1, r1, q1⟩ => ?_)
  refine wpAny_Slice (thn (hl.run pins s1 σ H1 _ I1 q1) fun vl s2 ⟨l, H2, I2, pl, q2⟩ => thn (hu.run pins s2 σ H2 _ I2 q2) fun vu s3 ⟨u, H3, I3, pu, q3⟩ => thn (hs.run pins s3 σ H3 _ I3 q3) fun vs s4 ⟨c, H4, I4, ps, q4⟩ => ?_)
  obtain ⟨a, xs, rfl, hx, rfl, rfl, rfl, q⟩ := q4
  have I5 : Inv X pins σ H4 { s4 with heap := s4.heap.push { cls := .type "slice", data := .fields #[vl, vu, vs] } } := I4.kept (t' := s4.toks) fun b ob q => Heap.get?_push_of_some _ q
  cases r1
  cases pl
  cases pu
  cases ps
  obtain ⟨its, r, ht, hz⟩ := I5.tuple hx
  have hlen := r.length
  refine tail_any (ops := [.ref a, .ref s4.heap.objs.size]) (T := "tuple") ht.typeIs PyProof.Rows.slot_tuple_getitem.lookup ?_ (by with_unfolding_all rfl)
  refine getItem_tuple_down ht (Heap.IsSliceOf.new ..) ?_ (by rw [List.size_toArray]; omega)
  have e0 : its.toArray.size = xs.length := by rw [List.size_toArray]; omega
  rw [e0]
  have hl2 : ((downN xs.length).filterMap (xs[·]?)).length ≤ xs.length := by
    have z := List.length_filterMap_le (xs[·]?) (downN xs.length)
    have : (downN xs.length).length = xs.length := by
      unfold downN
      rw [List.length_map, List.length_range]
    omega
  refine ⟨.ref _, _, I5.laid (t' := s4.toks) (o := .tup ((downN xs.length).filterMap (xs[·]?))) (fun b ob q => Heap.get?_push_of_some _ q) (Nat.le_refl _) ?_, rfl, q _ (I5.hok.fresh (Nat.le_refl _))⟩
  exact ⟨Nat.le_trans hl2 (by omega), _, vals_pick r _, IsTup.new _ _⟩
end
end TCX
namespace TC
set_option exponentiation.threshold 20000
open PySem PySem.Spec PyProof.Rows L2 TCA TCX
/-- what two places are raised by -/
def vecP (x y : Int) : List Int := (List.range 6).map fun (k : Nat) => if (decide ((k : Int) = x) || decide ((k : Int) = y)) = true then 1 else 0
theorem inV_two (k : Nat) (x y : Int) : inV (.int (k : Int)) [V.int x, V.int y] = (decide ((k : Int) = x) || decide ((k : Int) = y)) := by
  have e : ∀ x : Int, (x == (k : Int)) = decide ((k : Int) = x) := fun x => by
    by_cases h : (k : Int) = x
    · rw [decide_eq_true h, h]
      exact beq_self_eq_true _
    · rw [decide_eq_false h]
      exact beq_eq_false_iff_ne.mpr fun z => h z.symm
  show ((x == (k : Int)) || ((y == (k : Int)) || false)) = _
  rw [Bool.or_false, e, e]
theorem getG {κ : Type} [DecidableEq κ] {ks : List κ} {f : κ → Int} {r : κ} (h0 : r ∉ ks → f r = 0) {f' : κ → V} (hf : f' = fun k => .int (f k)) : (if r ∈ ks then some (f' r) else none).getD (.int 0) = .int (f r) := by
  subst hf
  by_cases e : r ∈ ks
  · rw [if_pos e]
    rfl
  · rw [if_neg e, h0 e]
    rfl
theorem atI_nat' {xs : List V} {m : Nat} {x : V} (h : xs[m]? = some x) : atI xs (0 + (m : Int)) = some x := by
  rw [Int.zero_add]
  exact atI_nat h
section
variable {P : Program} {w : World} {K : PySem.W.Frag} {mg : Str → Option Value} {base : Heap} {f : Addr} {fd : FuncData} {CP : Addr}
/-! ### _law_times_difference -/
def spDiff : Sp := fun vs H Q _ => ∃ (d u v : Addr) (up dn : List Int) (u0 u1 v0 v1 : Int) (ks : List (List Int)) (g : List Int → Int), vs = [.ref d, .ref u, .ref v] ∧ H d = some (.dT (entT kInt ks fun k => .int (g k))) ∧ DctP ks g ∧ (∀ a ∈ ks, a.length = 6) ∧ ks.length ≤ 3000 ∧ (∀ k, (g k).natAbs < 2 ^ 60) ∧
  H u = some (.tup [.int u0, .int u1]) ∧ H v = some (.tup [.int v0, .int v1]) ∧ up = vecP u0 u1 ∧ dn = vecP v0 v1 ∧
  ∀ r ks' H', Same H H' → H r = none → DctP ks' (sumAt (stepL up dn ks g)) → H' r = some (.dT (entT kInt ks' fun k => .int (sumAt (stepL up dn ks g) k))) → Q (.ref r) H'
abbrev nDiff : List Str := ["_law_some", "_law_up", "_law_down", "_law_found", "_law_key", "_law_places", "_law_side", "_law_fresh", "_law_k"]
theorem scDiff : FnScope nDiff ["_law_some", "_law_up", "_law_down"] (defScope sDiff) := ⟨rfl, rfl, rfl, by decide +kernel, rfl, by decide +kernel, by decide +kernel⟩
theorem ok_diff (F : FnP K "_law_times_difference" sDiff f fd) (gtuple : mg "tuple" = none) (grange : mg "range" = none) (gint : mg "int" = none) :
    FnOk P w K mg base CX0 1 f fd ["_law_some", "_law_up", "_law_down"] spDiff := by
  refine F.ok scDiff (fun vs H Q E h => ?_) (fun cdv A outer s H vs Q E hr h => ?_)
  · obtain ⟨_, _, _, _, _, _, _, _, _, _, _, rfl, _⟩ := h
    rfl
  obtain ⟨d, u, v, up, dn, u0, u1, v0, v1, ks, g, rfl, hd, dp, len, kl, gb, hu0, hv0, eup, edn, q⟩ := h
  have hu := hu_of hr
  refine ⟨_, PSs.nox (pss_cons (ps_set (i := 3) scDiff.nd rfl (.inl rfl) pe_dnewT)
      (C8.pss_cut (ps_lock (ps_for PassesOwn.never rfl (pi_keys (pv 0)) (pg_name (i := 4) scDiff.nd rfl (.inr rfl))
        (pss_one (ps_for PassesOwn.never rfl (pi_tup (pe_tup (pa_cons (pe_tup (pa_cons (pv 1) (pa_cons pe_int pa_nil))) (pa_cons (pe_tup (pa_cons (pv 2) (pa_cons (pe_un un_neg pe_int) pa_nil))) pa_nil)))) (pg_tup rfl (pgs_cons (pg_name (i := 5) scDiff.nd rfl (.inr rfl)) (pgs_cons (pg_name (i := 6) scDiff.nd rfl (.inl rfl)) pgs_nil)))
        (C8.pss_cut (ps_set (i := 7) scDiff.nd rfl (.inl rfl) (pe_callTy call_tuple_of (by rfl) gtuple (by decide +kernel) (pa_cons (pe_lc (own := [("_law_k", 8)]) (g := gName 8) (tt := tYes) (te := (tOp (rI0 fun i j => .int (i + j)) (tOp (rIxT K) (tVar 4) (tVar 8)) (tCB (fun xs H Q => (∃ i, xs = [.int i] ∧ Q (.int i) H) ∨ ∃ k, xs = [.bl k] ∧ Q (.int (if k then 1 else 0)) H) (tCons (tOp (rIn K false) (tVar 8) (tVar 5)) tNil)))) (by rfl) scDiff.nd (pi_range1 (by rfl) grange (pa_cons pe_int pa_nil))
          (blkOk_by (N := nDiff) (sc := defScope sDiff) (by decide +kernel)) (fun _ _ _ _ _ => pg_name (i := 8) scDiff.nd rfl (.inl rfl)) (fun _ _ _ _ _ => pts_nil) (fun _ _ _ _ _ => (pe_op op_add (pe_ix ix_tup (pv 4) (pv 8) (fun _ _ => rfl)) (pe_callTy call_int1 (by rfl) gint (by decide +kernel) (pa_cons (pe_cmpR op_in_seq (pv 8) (pv 5) (by rfl)) pa_nil))))) pa_nil)))
      (pss_cons (ps_dput hu (pv 3) (pv 7) (pe_op op_add (pe_dget2 hu (pv 3) (pv 7) pe_int ⟨rfl, rfl, rfl, rfl⟩) (pe_op op_mul (pv 6) (pe_dget hu (pv 0) (pv 4) (fun _ _ => rfl)))) rfl)
      (pss_one (ps_if (pt_cmpR op_eq (pe_dget hu (pv 3) (pv 7) (fun _ _ => rfl)) pe_int (nomark _)) (pss_one (ps_expr (pe_bm PySem.F.plainAttrs_dict PySem.F.slot_dict_pop PySem.F.type_dict_pop (mt_popT1 hu) (pv 3) (pa_cons (pv 7) pa_nil)))) pss_nil))))))))
      (pss_one (ps_ret (pv 3))))), ?_⟩
  intro D hD
  have ndd : d ≠ D := ne_of_none hd hD
  have lu : up.length = 6 := by rw [eup]; rfl
  have ldn : dn.length = 6 := by rw [edn]; rfl
  refine ⟨fun σ G => ∃ (v4 v5 v6 v7 v8 : Option V) (ks' : List (List Int)), σ = [some (.ref d), some (.ref u), some (.ref v), some (.ref D), v4, v5, v6, v7, v8] ∧ Same H G ∧ DctP ks' (sumAt (stepL up dn ks g)) ∧ G D = some (.dT (entT kInt ks' fun k => .int (sumAt (stepL up dn ks g) k))), ?_, fun σ G hM => ?_⟩
  rotate_left
  · obtain ⟨v4, v5, v6, v7, v8, ks', rfl, sm, dp', hG⟩ := hM
    exact ⟨_, rfl, q D ks' G sm hD dp' hG⟩
  refine ⟨d, .dT (entT kInt ks fun k => .int (g k)), (by rw [upd_ne ndd]; exact hd), trivial, fun od => ?_⟩
  refine ⟨_, rfl, d, od, rfl, .inr ⟨_, upd_same, ?_⟩⟩
  have hF : (upd (upd H D (.dT [])) d (.frz od (.dT (entT kInt ks fun k => .int (g k))))) d = some (.frz od (.dT (entT kInt ks fun k => .int (g k)))) := upd_same
  have hFD : (upd (upd H D (.dT [])) d (.frz od (.dT (entT kInt ks fun k => .int (g k))))) D = some (.dT []) := by
    rw [upd_ne (fun z => ndd z.symm), upd_same]
  have hFH : ∀ b o, b ≠ d → H b = some o → (upd (upd H D (.dT [])) d (.frz od (.dT (entT kInt ks fun k => .int (g k))))) b = some o := fun b o hb e => by
    rw [upd_ne hb, upd_ne (ne_of_none e hD)]
    exact e
  have back : ∀ G, SameBut D (upd (upd H D (.dT [])) d (.frz od (.dT (entT kInt ks fun k => .int (g k))))) G → Same H (upd G d (.dT (entT kInt ks fun k => .int (g k)))) := fun G sG b o eb => by
    by_cases e : b = d
    · rw [e, upd_same]
      rw [e, hd] at eb
      exact eb
    · rw [upd_ne e]
      exact sG _ _ (ne_of_none eb hD) (hFH _ _ e eb)
  generalize upd (upd H D (.dT [])) d (.frz od (.dT (entT kInt ks fun k => .int (g k)))) = HF at hF hFD hFH back ⊢
  have nud : u ≠ d := fun z => by
    rw [z, hd] at hu0
    cases hu0
  have nvd : v ≠ d := fun z => by
    rw [z, hd] at hv0
    cases hv0
  refine for_it walk_keysT (fun i σ G => ∃ (v4 v5 v6 v7 v8 : Option V) (ks' : List (List Int)), σ = [some (.ref d), some (.ref u), some (.ref v), some (.ref D), v4, v5, v6, v7, v8] ∧ SameBut D HF G ∧ DctP ks' (sumAt (stepL up dn (ks.take i) g)) ∧ G D = some (.dT (entT kInt ks' fun k => .int (sumAt (stepL up dn (ks.take i) g) k)))) ⟨none, none, none, none, none, [], rfl, fun _ _ _ e => e, ⟨List.nodup_nil, fun k => ⟨fun z => (by cases z), fun z => absurd rfl z⟩⟩, hFD⟩ (fun i σ G _ hP => ?_) (fun i xk σ G G' hi hP hy => ?_) (fun σ G hP => ?_)
  · obtain ⟨_, _, _, _, _, _, _, sG, _⟩ := hP
    exact sG _ _ ndd hF
  rotate_left
  · obtain ⟨v4, v5, v6, v7, v8, ks', rfl, sG, dp', hG⟩ := hP
    rw [entT_len, List.take_length] at dp' hG
    exact ⟨sG _ _ ndd hF, v4, v5, v6, v7, v8, ks', rfl, back G sG, dp', by rw [upd_ne (fun z => ndd z.symm)]; exact hG⟩
  obtain ⟨v4, v5, v6, v7, v8, ks', rfl, sG, dp', hG⟩ := hP
  obtain ⟨rfl, k, v0', qa, hkv, rfl, hq⟩ := hy
  obtain ⟨a, ha, rfl, rfl⟩ := entT_get hkv
  rw [kInt_kV] at hq
  have ak : a ∈ ks := List.mem_of_getElem? ha
  have a6 := len a ak
  have uG : G' u = some (.tup [.int u0, .int u1]) := sG _ _ (ne_of_none hu0 hD) (hFH _ _ nud hu0)
  have vG : G' v = some (.tup [.int v0, .int v1]) := sG _ _ (ne_of_none hv0 hD) (hFH _ _ nvd hv0)
  have dG := sG _ _ ndd hF
  refine ⟨_, rfl, by show 2 ≤ sizeLine; decide, fun t1 ht1 => ?_⟩
  have z1 := same_upd (o := .tup [.ref u, .int 1]) ht1
  refine ⟨_, rfl, 1, rfl, by show 2 ≤ sizeLine; decide, fun t2 ht2 => ?_⟩
  have z2 := same_upd (o := .tup [.ref v, .int (-1)]) ht2
  refine ⟨by show 2 ≤ sizeLine; decide, fun t3 ht3 => ?_⟩
  have z3 := same_upd (o := .tup [.ref t1, .ref t2]) ht3
  have z123 := (z1.trans z2).trans z3
  have h1 := z3 _ _ (z2 _ _ (upd_same (H := G') (a := t1) (o := .tup [.ref u, .int 1])))
  have h2 := z3 _ _ (upd_same (H := upd G' t1 (.tup [.ref u, .int 1])) (a := t2) (o := .tup [.ref v, .int (-1)]))
  have h3 : (upd (upd (upd G' t1 (.tup [.ref u, .int 1])) t2 (.tup [.ref v, .int (-1)])) t3 (.tup [.ref t1, .ref t2])) t3 = some (.tup [.ref t1, .ref t2]) := upd_same
  have hq3 := z123 _ _ hq
  have u3 := z123 _ _ uG
  have v3 := z123 _ _ vG
  have d3 := z123 _ _ dG
  have hG3 := z123 _ _ hG
  have sG3 : SameBut D HF (upd (upd (upd G' t1 (.tup [.ref u, .int 1])) t2 (.tup [.ref v, .int (-1)])) t3 (.tup [.ref t1, .ref t2])) := fun b o hb e => z123 _ _ (sG _ _ hb e)
  generalize upd (upd (upd G' t1 (.tup [.ref u, .int 1])) t2 (.tup [.ref v, .int (-1)])) t3 (.tup [.ref t1, .ref t2]) = G3 at h1 h2 h3 hq3 u3 v3 d3 hG3 sG3 ⊢
  have nD : ∀ {b : Addr} {xs : List V}, G3 b = some (.tup xs) → b ≠ D := fun {b xs} e z => by
    rw [z, hG3] at e
    cases e
  have eL : stepL up dn (ks.take (i + 1)) g = stepL up dn (ks.take i) g ++ [(addV a up, 1 * g a), (addV a dn, (-1) * g a)] := by
    have tk1 : ks.take (i + 1) = ks.take i ++ [a] := by
      rw [List.take_add_one, ha]
      rfl
    rw [tk1]
    unfold stepL
    rw [List.flatMap_append]
    congr 1
    show [(addV a up, g a), (addV a dn, - g a)] = _
    rw [Int.one_mul, Int.neg_mul, Int.one_mul]
  have lenL : (stepL up dn (ks.take i) g).length ≤ 6000 := by
    have : ∀ l : List (List Int), (stepL up dn l g).length = 2 * l.length := fun l => by
      unfold stepL
      induction l with
      | nil => rfl
      | cons b l ih =>
        rw [List.flatMap_cons, List.length_append, ih]
        show 2 + _ = 2 * (l.length + 1)
        omega
    rw [this]
    have := List.length_take_le i ks
    have := List.length_take_le' i ks
    omega
  generalize stepL up dn (ks.take i) g = L0 at dp' hG3 eL lenL
  refine ⟨t3, rfl, ⟨_, SqT.of h3⟩, for_tup (xs := [.ref t1, .ref t2]) (fun j σ G => ∃ (v5 v6 v7 v8 : Option V) (ks' : List (List Int)), σ = [some (.ref d), some (.ref u), some (.ref v), some (.ref D), some (.ref qa), v5, v6, v7, v8] ∧ SameBut D G3 G ∧ DctP ks' (sumAt (L0 ++ [(addV a up, 1 * g a), (addV a dn, (-1) * g a)].take j)) ∧ G D = some (.dT (entT kInt ks' fun k => .int (sumAt (L0 ++ [(addV a up, 1 * g a), (addV a dn, (-1) * g a)].take j) k)))) ⟨v5, v6, v7, v8, ks', rfl, fun _ _ _ e => e, by rw [List.take_zero, List.append_nil]; exact dp', by rw [List.take_zero, List.append_nil]; exact hG3⟩ (fun j σ G _ hP => ?_) (fun j x σ G hx hP => ?_) (fun σ G hP => ?_)⟩
  · obtain ⟨_, _, _, _, _, _, s3, _⟩ := hP
    exact SqT.of (s3 _ _ (nD h3) h3)
  rotate_left
  · obtain ⟨v5, v6, v7, v8, ks2, rfl, s3, dp2, hG2⟩ := hP
    rw [eL]
    exact ⟨_, v5, v6, v7, v8, ks2, rfl, fun b o hb e => s3 _ _ hb (sG3 _ _ hb e), dp2, hG2⟩
  obtain ⟨v5', v6', v7', v8', ks2, rfl, s3, dp2, hG2⟩ := hP
  obtain ⟨t, w, w0, w1, sg, vx, rfl, ht, hw, evx, lvx, eT, hsg⟩ : ∃ (t w : Addr) (w0 w1 sg : Int) (vx : List Int), x = .ref t ∧ G3 t = some (.tup [.ref w, .int sg]) ∧ G3 w = some (.tup [.int w0, .int w1]) ∧ vx = vecP w0 w1 ∧ vx.length = 6 ∧ [(addV a up, 1 * g a), (addV a dn, (-1) * g a)].take (j + 1) = [(addV a up, 1 * g a), (addV a dn, (-1) * g a)].take j ++ [(addV a vx, sg * g a)] ∧ (sg = 1 ∨ sg = -1) := by
    match j, hx with
    | 0, hx => exact ⟨t1, u, u0, u1, 1, up, (Option.some.inj hx).symm, h1, u3, eup, lu, rfl, .inl rfl⟩
    | 1, hx => exact ⟨t2, v, v0, v1, -1, dn, (Option.some.inj hx).symm, h2, v3, edn, ldn, rfl, .inr rfl⟩
    | j + 2, hx => cases hx
  rw [eT, ← List.append_assoc]
  have lenj : (L0 ++ [(addV a up, 1 * g a), (addV a dn, (-1) * g a)].take j).length ≤ 6002 := by
    rw [List.length_append]
    have := List.length_take_le j [(addV a up, 1 * g a), (addV a dn, (-1) * g a)]
    have := List.length_take_le' j [(addV a up, 1 * g a), (addV a dn, (-1) * g a)]
    have : [(addV a up, 1 * g a), (addV a dn, (-1) * g a)].length = 2 := rfl
    omega
  generalize L0 ++ [(addV a up, 1 * g a), (addV a dn, (-1) * g a)].take j = L at dp2 hG2 lenj ⊢
  have klen := dp2.len
  refine ⟨t, _, rfl, SqT.of (s3 _ _ (nD ht) ht), rfl, _, _, rfl, _, _, rfl, rfl, ?_⟩
  refine ⟨fun σ G4 => ∃ (tk : Addr) (v8 : Option V), σ = [some (.ref d), some (.ref u), some (.ref v), some (.ref D), some (.ref qa), some (.ref w), some (.int sg), some (.ref tk), v8] ∧ SameBut D G3 G4 ∧ G4 D = some (.dT (entT kInt ks2 fun k => .int (sumAt L k))) ∧ G4 tk = some (.tup ((kInt (addV a vx)).map kV)), ?_, fun σ G4 hM => ?_⟩
  · refine ⟨6, rfl, by decide, by decide, fun D2 hD2 => lc_range (n := 6) (fun m G5 => (∀ b o, G b = some o → G5 b = some o) ∧ G5 D2 = some (.lst (((addV a vx).take m).map V.int))) ⟨same_upd hD2, upd_same⟩ (fun m G5 hm hP => ?_) (fun G5 hP => ?_)⟩
    · obtain ⟨s5, h5⟩ := hP
      obtain ⟨am, eam⟩ : ∃ am, a[m]? = some am := ⟨a[m]'(by omega), List.getElem?_eq_getElem (by omega)⟩
      have evm : (addV a vx)[m]? = some (am + if (decide ((m : Int) = w0) || decide ((m : Int) = w1)) = true then 1 else 0) := by
        unfold addV
        rw [List.getElem?_zipWith, eam, evx]
        unfold vecP
        rw [List.getElem?_map, List.getElem?_range hm]
        rfl
      refine ⟨rfl, ?_⟩
      refine ⟨_, rfl, _, rfl, qa, a.map V.int, _, .int am, rfl, rfl, SqT.of (s5 _ _ (s3 _ _ (nD hq3) hq3)), atI_nat' (by rw [List.getElem?_map, eam]; rfl), ?_⟩
      refine ⟨_, rfl, _, rfl, w, _, rfl, .inr (SqT.of (s5 _ _ (s3 _ _ (nD hw) hw))), rfl, rfl, ?_⟩
      rw [show (0 : Int) + (m : Nat) = ((m : Nat) : Int) by omega, inV_two]
      refine .inr ⟨_, rfl, ?_⟩
      refine ⟨_, _, rfl, rfl, ?_⟩
      refine ⟨_, h5, by rw [List.length_map, List.length_take, sizeLine_eq]; omega, fun b o e => ?_, ?_⟩
      · rw [upd_ne (ne_of_none e hD2)]
        exact s5 _ _ e
      · rw [upd_same, List.take_add_one, evm, List.map_append]
        rfl
    · obtain ⟨s5, h5⟩ := hP
      have l6 : (addV a vx).length = 6 := addV_len a6 lvx
      rw [List.take_of_length_le (by omega)] at h5
      refine ⟨D2, _, rfl, .inl ⟨SqL.of h5, fun tk htk => ?_⟩⟩
      have u5 := same_upd (o := .tup ((addV a vx).map V.int)) htk
      exact ⟨tk, _, rfl, fun b o hb e => u5 _ _ (s5 _ _ (s3 _ _ hb e)), u5 _ _ (s5 _ _ hG2), by rw [upd_same, kInt_kV]⟩
  obtain ⟨tk, v8, rfl, s4, hG4, htk⟩ := hM
  have ntk : tk ≠ D := fun z => by
    rw [z, hG4] at htk
    cases htk
  have kL : ks2.length < sizeLine := by rw [sizeLine_eq]; omega
  have gg := gb a
  refine ⟨_, rfl, _, rfl, .inr ⟨_, .inl hG4⟩, _, rfl, _, dget_entT kInt_inj hG4 htk, ?_⟩
  rw [getG (f := sumAt L) (r := addV a vx) (fun e => Classical.byContradiction fun z => e ((dp2.mem _).mpr z)) rfl]
  refine ⟨_, rfl, _, rfl, _, rfl, d, _, rfl, .inr ⟨_, kInt a, qa, .inr ⟨od, s4 _ _ ndd d3⟩, rfl, by rw [kInt_kV]; exact s4 _ _ (nD hq3) hq3, by rw [val_entT kInt_inj, if_pos ak]⟩, ?_⟩
  refine ⟨_, _, rfl, rfl, ?_, _, _, rfl, rfl, ?_⟩
  · exact .inl ⟨by omega, by omega⟩
  refine ⟨_, rfl, _, rfl, D, _, rfl, dput_entT kInt_inj hG4 htk kL, ?_⟩
  rw [put_sum (addV a vx, sg * g a) rfl]
  have hG5 := upd_same (H := G4) (a := D) (o := .dT (entT kInt (addK ks2 (addV a vx)) fun k => .int (sumAt (L ++ [(addV a vx, sg * g a)]) k)))
  have s5 : SameBut D G3 (upd G4 D (.dT (entT kInt (addK ks2 (addV a vx)) fun k => .int (sumAt (L ++ [(addV a vx, sg * g a)]) k)))) := but_upd s4
  have htk5 : (upd G4 D (.dT (entT kInt (addK ks2 (addV a vx)) fun k => .int (sumAt (L ++ [(addV a vx, sg * g a)]) k)))) tk = some (.tup ((kInt (addV a vx)).map kV)) := by
    rw [upd_ne ntk]
    exact htk
  generalize upd G4 D (.dT (entT kInt (addK ks2 (addV a vx)) fun k => .int (sumAt (L ++ [(addV a vx, sg * g a)]) k))) = G5 at hG5 s5 htk5 ⊢
  have mk : addV a vx ∈ addK ks2 (addV a vx) := mem_addK.mpr (.inr rfl)
  refine ⟨_, rfl, _, rfl, D, _, rfl, dget_entT_in kInt_inj hG5 htk5 mk, rfl, _, rfl, ?_⟩
  by_cases hz : sumAt (L ++ [(addV a vx, sg * g a)]) (addV a vx) = 0
  · refine iteD1 (congrArg V.int hz) ?_
    refine ⟨_, rfl, .inr (.inr (.inl ⟨rfl, .inr ⟨_, hG5⟩⟩)), _, rfl, D, _, kInt (addV a vx), tk, _, rfl, rfl, hG5, htk5, by rw [val_entT kInt_inj, if_pos mk], ?_⟩
    rw [drop_entT]
    exact ⟨_, _, _, _, _, rfl, but_upd s5, dp2.off hz, upd_same⟩
  · refine iteD0 (ine hz) ?_
    exact ⟨_, _, _, _, _, rfl, s5, dp2.put hz, hG5⟩
/-! ### _law_due -/
def spDue : Sp := fun vs H Q _ => ∃ p q r : Nat, vs = [.int p, .int q, .int r] ∧ p ≤ 12 ∧ q ≤ 12 ∧ r ≤ 12 ∧ ∀ d ks H', Same H H' → H d = none → DctP ks (sumAt (pAll p q r)) → H' d = some (.dT (entT kInt ks fun k => .int (sumAt (pAll p q r) k))) → Q (.ref d) H'
abbrev nDue : List Str := ["_law_p", "_law_q", "_law_r", "_law_found", "_law_k"]
theorem scDue : FnScope nDue ["_law_p", "_law_q", "_law_r"] (defScope sDue) := ⟨rfl, rfl, rfl, by decide +kernel, rfl, by decide +kernel, by decide +kernel⟩
/-- a law's dict -/
def DueAt (H H' : Hp) (d : Addr) (p q r : Nat) : Prop := Same H H' ∧ H d = none ∧ ∃ ks, DctP ks (sumAt (pAll p q r)) ∧ H' d = some (.dT (entT kInt ks fun k => .int (sumAt (pAll p q r) k)))
theorem vec_up : vecP 0 3 = uP ∧ vecP 2 1 = dP ∧ vecP 2 5 = uQ ∧ vecP 4 3 = dQ ∧ vecP 4 1 = uR ∧ vecP 0 5 = dR := by decide +kernel
theorem ok_due {fX : Addr} {fdX : FuncData} (F : FnP K "_law_due" sDue f fd) (GX : FnOk P w K mg base CX0 1 fX fdX ["_law_some", "_law_up", "_law_down"] spDiff) (bX : L2.Binds K fdX ["_law_some", "_law_up", "_law_down"] []) (kX : PySem.W.keepIn K (.ref fX) = true) (gX : mg "_law_times_difference" = some (.ref fX)) (grange : mg "range" = none) :
    FnOk P w K mg base CX0 2 f fd ["_law_p", "_law_q", "_law_r"] spDue := by
  refine F.ok scDue (fun vs H Q E h => ?_) (fun cdv A outer s H vs Q E hr h => ?_)
  · obtain ⟨_, _, _, rfl, _⟩ := h
    rfl
  obtain ⟨p, q, r, rfl, p1, q1, r1, qq⟩ := h
  have hu := hu_of hr
  have hr1 := hr.mono (j := 1) (by decide)
  refine ⟨_, PSs.nox (C8.pss_cut (ps_set (i := 3) scDue.nd rfl (.inl rfl) (pe_dispT1 hu (pe_tup (pa_cons pe_int (pa_cons pe_int (pa_cons pe_int (pa_cons pe_int (pa_cons pe_int (pa_cons pe_int pa_nil))))))) pe_int))
      (C8.pss_cut (ps_for PassesOwn.never rfl (pi_range1 (by rfl) grange (pa_cons (pv 0) pa_nil)) (pg_name (i := 4) scDue.nd rfl (.inl rfl))
        (pss_one (ps_set (i := 3) scDue.nd rfl (.inl rfl) (pe_call GX hr1 (by rfl) gX kX bX .nil pass0 (pa_cons (pv 3) (pa_cons (pe_tup (pa_cons pe_int (pa_cons pe_int pa_nil))) (pa_cons (pe_tup (pa_cons pe_int (pa_cons pe_int pa_nil))) pa_nil)))))))
      (C8.pss_cut (ps_for PassesOwn.never rfl (pi_range1 (by rfl) grange (pa_cons (pv 1) pa_nil)) (pg_name (i := 4) scDue.nd rfl (.inl rfl))
        (pss_one (ps_set (i := 3) scDue.nd rfl (.inl rfl) (pe_call GX hr1 (by rfl) gX kX bX .nil pass0 (pa_cons (pv 3) (pa_cons (pe_tup (pa_cons pe_int (pa_cons pe_int pa_nil))) (pa_cons (pe_tup (pa_cons pe_int (pa_cons pe_int pa_nil))) pa_nil)))))))
      (C8.pss_cut (ps_for PassesOwn.never rfl (pi_range1 (by rfl) grange (pa_cons (pv 2) pa_nil)) (pg_name (i := 4) scDue.nd rfl (.inl rfl))
        (pss_one (ps_set (i := 3) scDue.nd rfl (.inl rfl) (pe_call GX hr1 (by rfl) gX kX bX .nil pass0 (pa_cons (pv 3) (pa_cons (pe_tup (pa_cons pe_int (pa_cons pe_int pa_nil))) (pa_cons (pe_tup (pa_cons pe_int (pa_cons pe_int pa_nil))) pa_nil)))))))
      (pss_one (ps_ret (pv 3))))))), ?_⟩
  -- one
  refine ⟨fun σ G => ∃ d : Addr, σ = [some (.int p), some (.int q), some (.int r), some (.ref d), none] ∧ DueAt H G d 0 0 0, ?_, fun σ H1 hM => ?_⟩
  · intro d hd
    refine ⟨by show 6 ≤ sizeLine; decide, fun t ht => ?_⟩
    have z0 := same_upd (o := .dT []) hd
    have z1 := same_upd (o := .tup [V.int 0, V.int 0, V.int 0, V.int 0, V.int 0, V.int 0]) ht
    refine ⟨t, kInt [0, 0, 0, 0, 0, 0], rfl, upd_same, z1 _ _ upd_same, ⟨d, rfl, sm_but (z0.trans z1) hd, hd, [[0, 0, 0, 0, 0, 0]], dct_start, ?_⟩⟩
    rw [upd_same]
    show some (HO.dT [(kInt [0, 0, 0, 0, 0, 0], V.int 1)]) = some (HO.dT [(kInt [0, 0, 0, 0, 0, 0], V.int (sumAt (pAll 0 0 0) [0, 0, 0, 0, 0, 0]))])
    rw [start_at]
  obtain ⟨d, rfl, D1⟩ := hM
  refine ⟨fun σ G => ∃ (d : Addr) (v4 : Option V), σ = [some (.int p), some (.int q), some (.int r), some (.ref d), v4] ∧ DueAt H G d p 0 0, ?_, fun σ H2 hM => ?_⟩
  · refine ⟨_, rfl, p, rfl, by omega, by omega, for_range (fun i σ G => ∃ (d : Addr) (v4 : Option V), σ = [some (.int p), some (.int q), some (.int r), some (.ref d), v4] ∧ DueAt H G d i 0 0) ⟨d, _, rfl, D1⟩ (fun i σ G hi hP => ?_) (fun σ G hP => hP)⟩
    obtain ⟨d, v4, rfl, s1, hd, ks, dp, hG⟩ := hP
    refine ⟨_, rfl, by show 2 ≤ sizeLine; decide, fun t1 ht1 => ?_⟩
    have z1 := same_upd (o := .tup [V.int 0, V.int 3]) ht1
    refine ⟨by show 2 ≤ sizeLine; decide, fun t2 ht2 => ?_⟩
    have z2 := same_upd (o := .tup [V.int 2, V.int 1]) ht2
    refine ⟨d, t1, t2, _, _, 0, 3, 2, 1, ks, _, rfl, z2 _ _ (z1 _ _ hG), dp, fun a ha => all_len ((dp.mem a).mp ha), Nat.le_trans dp.len (Nat.le_trans (all_many (by omega) (by omega) (by omega)) (by decide)), fun k => Nat.lt_of_le_of_lt (all_big (by omega) (by omega) (by omega) k) (by decide), z2 _ _ upd_same, upd_same, vec_up.1.symm, vec_up.2.1.symm, fun r' ks' G2 s2 hr' dp' hG2 => ?_⟩
    have e := all_p dp
    have e' : sumAt (stepL uP dP ks (sumAt (pAll i 0 0))) = sumAt (pAll (i + 1) 0 0) := e
    rw [e'] at dp'
    have s3 := s1.trans ((z1.trans z2).trans s2)
    refine ⟨r', _, rfl, s3, (s1.trans (z1.trans z2)).free hr', ks', dp', ?_⟩
    rw [hG2]
    have e2 : ∀ k, sumAt (stepL uP dP ks (sumAt (pAll i 0 0))) k = sumAt (pAll (i + 1) 0 0) k := fun k => congrFun e k
    simp only [e2]
  obtain ⟨d, v4, rfl, D1⟩ := hM
  refine ⟨fun σ G => ∃ (d : Addr) (v4 : Option V), σ = [some (.int p), some (.int q), some (.int r), some (.ref d), v4] ∧ DueAt H G d p q 0, ?_, fun σ H2 hM => ?_⟩
  · refine ⟨_, rfl, q, rfl, by omega, by omega, for_range (fun i σ G => ∃ (d : Addr) (v4 : Option V), σ = [some (.int p), some (.int q), some (.int r), some (.ref d), v4] ∧ DueAt H G d p i 0) ⟨d, _, rfl, D1⟩ (fun i σ G hi hP => ?_) (fun σ G hP => hP)⟩
    obtain ⟨d, v4, rfl, s1, hd, ks, dp, hG⟩ := hP
    refine ⟨_, rfl, by show 2 ≤ sizeLine; decide, fun t1 ht1 => ?_⟩
    have z1 := same_upd (o := .tup [V.int 2, V.int 5]) ht1
    refine ⟨by show 2 ≤ sizeLine; decide, fun t2 ht2 => ?_⟩
    have z2 := same_upd (o := .tup [V.int 4, V.int 3]) ht2
    refine ⟨d, t1, t2, _, _, 2, 5, 4, 3, ks, _, rfl, z2 _ _ (z1 _ _ hG), dp, fun a ha => all_len ((dp.mem a).mp ha), Nat.le_trans dp.len (Nat.le_trans (all_many (by omega) (by omega) (by omega)) (by decide)), fun k => Nat.lt_of_le_of_lt (all_big (by omega) (by omega) (by omega) k) (by decide), z2 _ _ upd_same, upd_same, vec_up.2.2.1.symm, vec_up.2.2.2.1.symm, fun r' ks' G2 s2 hr' dp' hG2 => ?_⟩
    have e := all_q dp
    have e' : sumAt (stepL uQ dQ ks (sumAt (pAll p i 0))) = sumAt (pAll p (i + 1) 0) := e
    rw [e'] at dp'
    have s3 := s1.trans ((z1.trans z2).trans s2)
    refine ⟨r', _, rfl, s3, (s1.trans (z1.trans z2)).free hr', ks', dp', ?_⟩
    rw [hG2]
    have e2 : ∀ k, sumAt (stepL uQ dQ ks (sumAt (pAll p i 0))) k = sumAt (pAll p (i + 1) 0) k := fun k => congrFun e k
    simp only [e2]
  obtain ⟨d, v4, rfl, D1⟩ := hM
  refine ⟨fun σ G => ∃ (d : Addr) (v4 : Option V), σ = [some (.int p), some (.int q), some (.int r), some (.ref d), v4] ∧ DueAt H G d p q r, ?_, fun σ H2 hM => ?_⟩
  · refine ⟨_, rfl, r, rfl, by omega, by omega, for_range (fun i σ G => ∃ (d : Addr) (v4 : Option V), σ = [some (.int p), some (.int q), some (.int r), some (.ref d), v4] ∧ DueAt H G d p q i) ⟨d, _, rfl, D1⟩ (fun i σ G hi hP => ?_) (fun σ G hP => hP)⟩
    obtain ⟨d, v4, rfl, s1, hd, ks, dp, hG⟩ := hP
    refine ⟨_, rfl, by show 2 ≤ sizeLine; decide, fun t1 ht1 => ?_⟩
    have z1 := same_upd (o := .tup [V.int 4, V.int 1]) ht1
    refine ⟨by show 2 ≤ sizeLine; decide, fun t2 ht2 => ?_⟩
    have z2 := same_upd (o := .tup [V.int 0, V.int 5]) ht2
    refine ⟨d, t1, t2, _, _, 4, 1, 0, 5, ks, _, rfl, z2 _ _ (z1 _ _ hG), dp, fun a ha => all_len ((dp.mem a).mp ha), Nat.le_trans dp.len (Nat.le_trans (all_many (by omega) (by omega) (by omega)) (by decide)), fun k => Nat.lt_of_le_of_lt (all_big (by omega) (by omega) (by omega) k) (by decide), z2 _ _ upd_same, upd_same, vec_up.2.2.2.2.1.symm, vec_up.2.2.2.2.2.symm, fun r' ks' G2 s2 hr' dp' hG2 => ?_⟩
    have e := all_r dp
    have e' : sumAt (stepL uR dR ks (sumAt (pAll p q i))) = sumAt (pAll p q (i + 1)) := e
    rw [e'] at dp'
    have s3 := s1.trans ((z1.trans z2).trans s2)
    refine ⟨r', _, rfl, s3, (s1.trans (z1.trans z2)).free hr', ks', dp', ?_⟩
    rw [hG2]
    have e2 : ∀ k, sumAt (stepL uR dR ks (sumAt (pAll p q i))) k = sumAt (pAll p q (i + 1)) k := fun k => congrFun e k
    simp only [e2]
  obtain ⟨d, v4, rfl, D1⟩ := hM
  obtain ⟨s1, hd, ks, dp, hG⟩ := D1
  exact ⟨_, rfl, qq d ks H2 s1 hd dp hG⟩

end
end TC
namespace TC
set_option exponentiation.threshold 20000
open PySem PySem.Spec PyProof.Rows L2 TCA TCX
abbrev nLaw : List Str := ["_law_script", "_law_pen_here", "_law_k", "_law_far", "_law_some", "_law_j", "_law_p", "_law_q", "_law_r", "_law_due_here", "_law_found", "_law_number", "_law_odd", "_law_at", "_law_bad"]
theorem scLaw : FnScope nLaw ["_law_script"] (defScope sLaw) := ⟨rfl, rfl, rfl, by decide +kernel, rfl, by decide +kernel, by decide +kernel⟩
def spLaw (K : PySem.W.Frag) : Sp := fun vs H Q _ => ∃ (a : Addr) (ns : List Int), vs = [.ref a] ∧ SqL K H a (ns.map V.int) ∧ ns.length ≤ 63 ∧ ∀ H', Q (.bl true) H'
theorem pen_nec {H : Hp} {p c q : Addr} {ms : List Int} {n : Int} (h : PenAt H p c ms n) (hq : H q = none) : q ≠ p ∧ q ≠ c := by
  obtain ⟨l, h1, h2, _⟩ := h
  refine ⟨fun z => ?_, fun z => ?_⟩
  · rw [z, h1] at hq
    cases hq
  · rw [z, h2] at hq
    cases hq
theorem pen_off {H : Hp} {p c l : Addr} {ms : List Int} {n : Int} {o : HO} (h : PenAt H p c ms n) (h1 : l ≠ p) (h2 : l ≠ c) : PenAt (upd H l o) p c ms n := by
  obtain ⟨z, y1, y2, y3⟩ := h
  exact ⟨z, by rw [upd_ne (fun e => h1 e.symm)]; exact y1, by rw [upd_ne (fun e => h2 e.symm)]; exact y2, y3⟩
theorem pen_same {H H' : Hp} {p c : Addr} {ms : List Int} {n : Int} (h : PenAt H p c ms n) (s : Same H H') : PenAt H' p c ms n := by
  obtain ⟨z, y1, y2, y3⟩ := h
  exact ⟨z, s _ _ y1, s _ _ y2, y3⟩
theorem pen_dT {H : Hp} {p c q : Addr} {ms : List Int} {n : Int} {kvs : List (List Key × V)} (h : PenAt H p c ms n) (hq : H q = some (.dT kvs)) : q ≠ p ∧ q ≠ c := by
  obtain ⟨l, h1, h2, _⟩ := h
  refine ⟨fun z => ?_, fun z => ?_⟩
  · rw [z, h1] at hq
    cases hq
  · rw [z, h2] at hq
    cases hq
theorem ixN_nat {n j : Nat} (h : j < n) : ixN n (j : Int) = some j := by
  unfold ixN
  simp
  omega
theorem ints_lay : ∀ L : List Int, PyData.canLayAll0 (dInts L) = true ∧ PyData.depthAll (dInts L) ≤ 0
  | [] => ⟨rfl, Nat.le_refl _⟩
  | x :: L => by
    obtain ⟨h1, h2⟩ := ints_lay L
    refine ⟨?_, ?_⟩
    · show (PyData.canLay0 (.int x) && PyData.canLayAll0 (dInts L)) = true
      rw [h1]
      rfl
    · show max (PyData.depth (.int x)) (PyData.depthAll (dInts L)) ≤ 0
      exact Nat.max_le.mpr ⟨Nat.le_refl 0, h2⟩
theorem ints_eqv : ∀ L M : List Int, PyData.eqvAll (dInts L) (dInts M) = decide (L = M)
  | [], [] => rfl
  | [], _ :: _ => rfl
  | _ :: _, [] => rfl
  | x :: L, y :: M => by
    show (PyData.eqv (.int x) (.int y) && PyData.eqvAll (dInts L) (dInts M)) = _
    rw [ints_eqv L M]
    simp only [PyData.eqv]
    by_cases h1 : x = y <;> by_cases h2 : L = M <;> simp [h1, h2]
theorem ints_same (L : List Int) : PyData.eqv (.list (dInts L)) (.list (dInts L)) = true := by
  show PyData.eqvAll (dInts L) (dInts L) = true
  rw [ints_eqv]
  exact decide_eq_true rfl
theorem ints_shaped (L : List Int) : SeqAt.shaped (.list (dInts L)) = true := by
  obtain ⟨a1, a2⟩ := ints_lay L
  show (PyData.canLayAll0 (dInts L) && decide (PyData.depthAll (dInts L) + 1 ≤ 64)) = true
  rw [a1, decide_eq_true (by omega)]
  rfl
structure LTxt (P : Program) (w : World) (K : PySem.W.Frag) (mg : Str → Option Value) (base : Heap) (fPn fD fU fP fTo : Addr) (fdPn fdD fdU fdP fdTo : FuncData) : Prop where
  GPn : FnOk P w K mg base CX0 1 fPn fdPn ["_law_script"] (spPen K)
  bPn : L2.Binds K fdPn ["_law_script"] []
  kPn : PySem.W.keepIn K (.ref fPn) = true
  gPn : mg "_law_pen" = some (.ref fPn)
  GD : FnOk P w K mg base CX0 1 fD fdD ["_law_pen_here", "_law_many"] spDraw
  bD : L2.Binds K fdD ["_law_pen_here", "_law_many"] []
  kD : PySem.W.keepIn K (.ref fD) = true
  gD : mg "_law_draw" = some (.ref fD)
  GU : FnOk P w K mg base CX0 2 fU fdU ["_law_p", "_law_q", "_law_r"] spDue
  bU : L2.Binds K fdU ["_law_p", "_law_q", "_law_r"] []
  kU : PySem.W.keepIn K (.ref fU) = true
  gU : mg "_law_due" = some (.ref fU)
  GP : FnOk P w K mg base CX0 3 fP fdP ["p", "q", "r"] spPow
  bP : L2.Binds K fdP ["p", "q", "r"] []
  kP : PySem.W.keepIn K (.ref fP) = true
  gP : mg "powers" = some (.ref fP)
  GTo : FnOk P w K mg base CX0 3 fTo fdTo ["_law_p", "_law_q", "_law_r"] (spTold K)
  bTo : L2.Binds K fdTo ["_law_p", "_law_q", "_law_r"] []
  kTo : PySem.W.keepIn K (.ref fTo) = true
  gTo : mg "_law_told" = some (.ref fTo)
  grange : mg "range" = none
  gint : mg "int" = none
  gisinstance : mg "isinstance" = none
  gbool : mg "bool" = none
  glist : mg "list" = none
  gsum : mg "sum" = none
section
variable {P : Program} {w : World} {K : PySem.W.Frag} {mg : Str → Option Value} {base : Heap} {f fPn fD fU fP fTo : Addr} {fd fdPn fdD fdU fdP fdTo : FuncData}
theorem ok_law (F : FnP K "law" sLaw f fd) (T : LTxt P w K mg base fPn fD fU fP fTo fdPn fdD fdU fdP fdTo) : FnOk P w K mg base CX0 4 f fd ["_law_script"] (spLaw K) := by
  refine F.ok scLaw (fun vs H Q E h => ?_) (fun cdv A outer s H vs Q E hr h => ?_)
  · obtain ⟨_, _, rfl, _⟩ := h
    rfl
  obtain ⟨a, ns, rfl, hS, hn, q⟩ := h
  have hr1 := hr.mono (show 1 ≤ 3 by decide)
  have hr2 := hr.mono (show 2 ≤ 3 by decide)
  refine ⟨_, PSs.nox (pss_cons (ps_set (i := 1) scLaw.nd rfl (.inr rfl) (pe_call T.GPn hr1 (by rfl) T.gPn T.kPn T.bPn .nil pass0 (pa_cons (pv 0) pa_nil)))
    (pss_cons (ps_for PassesOwn.never rfl (pi_range1 (by rfl) T.grange (pa_cons (pe_op op_add pe_int (pe_call T.GD hr1 (by rfl) T.gD T.kD T.bD .nil pass0 (pa_cons (pv 1) (pa_cons pe_int pa_nil)))) pa_nil)) (pg_name (i := 2) scLaw.nd rfl (.inl rfl))
      (C8.pss_cut (ps_set (i := 3) scLaw.nd rfl (.inr rfl) (pe_ix ix_list (pe_lst (pa_cons pe_int (pa_cons pe_int (pa_cons (pe_ix ix_list (pe_lst (pa_cons pe_int (pa_cons pe_int pa_nil))) (pe_callTy call_int1 (by rfl) T.gint (by decide +kernel) (pa_cons (pe_cmpR op_gt (pv 2) pe_int (nomark _)) pa_nil)) (fun _ _ => rfl)) pa_nil)))) (pe_call T.GD hr1 (by rfl) T.gD T.kD T.bD .nil pass0 (pa_cons (pv 1) (pa_cons pe_int pa_nil))) (fun _ _ => rfl)))
    (C8.pss_cut (ps_setLc (i := 4) (own := [("_law_j", 5)]) (g := gName 5) (tt := tYes) (te := (tCall spDraw [] E0 (tCons (tVar 1) (tCons (tVar 3) tNil)))) (by rfl) scLaw.nd rfl rfl (sw_true rfl rfl rfl (by decide +kernel)) (pi_range1 (by rfl) T.grange (pa_cons pe_int pa_nil))
        (blkOk_by (N := nLaw) (sc := defScope sLaw) (by decide +kernel)) (fun _ _ _ _ _ => pg_name (i := 5) scLaw.nd rfl (.inl rfl)) (fun _ _ _ _ _ => pts_nil) (fun _ _ _ _ _ => (pe_call T.GD hr1 (by rfl) T.gD T.kD T.bD .nil pass0 (pa_cons (pv 1) (pa_cons (pv 3) pa_nil)))))
    (C8.pss_cut (ps_if (pt_cmpR op_eq (pe_call T.GD hr1 (by rfl) T.gD T.kD T.bD .nil pass0 (pa_cons (pv 1) (pa_cons pe_int pa_nil))) pe_int (nomark _)) (pss_one (ps_asg pe_int (pg_sub (pv 4) (pe_call T.GD hr1 (by rfl) T.gD T.kD T.bD .nil pass0 (pa_cons (pv 1) (pa_cons pe_int pa_nil))) set_list))) pss_nil)
    (C8.pss_cut (ps_asg (pv 4) (pg_lst rfl (pgs_cons (pg_name (i := 6) scLaw.nd rfl (.inl rfl)) (pgs_cons (pg_name (i := 7) scLaw.nd rfl (.inl rfl)) (pgs_cons (pg_name (i := 8) scLaw.nd rfl (.inl rfl)) pgs_nil)))))
    (C8.pss_cut (ps_par (i := 9) (j := 10) (by rfl) scLaw.nd rfl rfl (by decide) rfl rfl (pa_cons (pe_call T.GU hr2 (by rfl) T.gU T.kU T.bU .nil pass0 (pa_cons (pv 6) (pa_cons (pv 7) (pa_cons (pv 8) pa_nil)))) (pa_cons (pe_call T.GP hr (by rfl) T.gP T.kP T.bP .nil pass0 (pa_cons (pv 6) (pa_cons (pv 7) (pa_cons (pv 8) pa_nil)))) pa_nil)) (by rfl))
    (C8.pss_cut (ps_if (PW.pt (pw_or (pt_cmpR (op_neTT hr.units) (pv 10) (pv 9) (nomark _)) (pw_or1 (pt_cmpR (op_neD hr.units) (pe_lock (pe_lc (own := [("_law_number", 11)]) (g := gName 11) (tt := tB (tCB (rIsi K) (tCons (tVar 11) (tCons (tC (.ty "bool")) tNil)))) (te := (tVar 11)) (by rfl) scLaw.nd (pi_valuesT (pv 10))
        (blkOk_by (N := nLaw) (sc := defScope sLaw) (by decide +kernel)) (fun _ _ _ _ _ => pg_name (i := 11) scLaw.nd rfl (.inl rfl)) (fun _ _ _ _ _ => pts_one (pt_val (pe_callB call_isi (by rfl) T.gisinstance (by decide +kernel) (pa_cons (pv 11) (pa_cons (pe_bltn (v := .ty "bool") (by rfl) T.gbool (by decide +kernel) rfl) pa_nil))))) (fun _ _ _ _ _ => (pv 11)))) (pe_lst pa_nil) (nomark _))))) (pss_one (ps_ret pe_bl)) pss_nil)
    (C8.pss_cut (ps_if (pt_cmpR op_ne (pe_callB (cr_sumVT rfl) (by rfl) T.gsum (by decide +kernel) (pa_cons (pe_valsT (pv 10)) pa_nil)) (pe_callTy call_int1 (by rfl) T.gint (by decide +kernel) (pa_cons (pe_cmpR (op_eqD hr.units) (pv 4) (pe_lst (pa_cons pe_int (pa_cons pe_int (pa_cons pe_int pa_nil)))) (nomark _)) pa_nil)) (nomark _)) (pss_one (ps_ret pe_bl)) pss_nil)
    (C8.pss_cut (ps_expr (pe_tclear (pv 10)))
    (C8.pss_cut (ps_if (pt_cmpR (op_neTT hr.units) (pe_call T.GP hr (by rfl) T.gP T.kP T.bP .nil pass0 (pa_cons (pv 6) (pa_cons (pv 7) (pa_cons (pv 8) pa_nil)))) (pv 9) (nomark _)) (pss_one (ps_ret pe_bl)) pss_nil)
    (C8.pss_cut (ps_set (i := 12) scLaw.nd rfl (.inl rfl) (pe_ix ix_list (pe_lst (pa_cons pe_int (pa_cons (pe_un un_neg pe_int) (pa_cons pe_bl (pa_cons pe_non (pa_cons pe_str (pa_cons (pe_tup (pa_cons pe_int pa_nil)) (pa_cons (pe_op op_pow pe_int pe_int) pa_nil)))))))) (pe_call T.GD hr1 (by rfl) T.gD T.kD T.bD .nil pass0 (pa_cons (pv 1) (pa_cons pe_int pa_nil))) (fun _ _ => rfl)))
    (pss_one (ps_for PassesOwn.never rfl (pi_range1 (by rfl) T.grange (pa_cons pe_int pa_nil)) (pg_name (i := 13) scLaw.nd rfl (.inl rfl))
      (C8.pss_cut (ps_set (i := 14) scLaw.nd rfl (.inl rfl) (pe_callTy call_list_of (by rfl) T.glist (by decide +kernel) (pa_cons (pv 4) pa_nil)))
    (pss_cons (ps_asg (pv 12) (pg_sub (pv 14) (pv 13) set_list))
    (pss_one (ps_if (pt_cmpR op_ne (pe_call T.GTo hr (by rfl) T.gTo T.kTo T.bTo .nil pass0 (pa_cons (pe_ix ix_list (pv 14) pe_int (fun _ _ => rfl)) (pa_cons (pe_ix ix_list (pv 14) pe_int (fun _ _ => rfl)) (pa_cons (pe_ix ix_list (pv 14) pe_int (fun _ _ => rfl)) pa_nil)))) pe_str (nomark _)) (pss_one (ps_ret pe_bl)) pss_nil)))))))))))))))))
    (pss_one (ps_ret pe_bl)))), ?_⟩
  refine ⟨_, rfl, a, ns, rfl, hS, hn, fun p c ms H1 s1 hp0 hp hc hpc => ?_⟩
  have pen1 : PenAt H1 p c ms 0 := ⟨0, hp, hc, hpc⟩
  refine ⟨_, rfl, p, c, ms, 0, 6, rfl, pen1, by decide, by decide, by decide, by decide, fun m n1 H2 m0 m1 x0 x1 pen2 b2 => ?_⟩
  obtain ⟨m, rfl⟩ : ∃ z : Nat, m = z := ⟨m.toNat, by omega⟩
  refine ⟨1, m, rfl, rfl, ?_⟩
  refine ⟨1 + m, (by show [V.int (1 + (m : Int))] = [V.int ((1 + m : Nat) : Int)]; rw [Int.natCast_add]; rfl), by omega, by omega, for_range (n := 1 + m) (fun i σ G => ∃ (v2 v3 v4 v5 v6 v7 v8 v9 v10 v11 v12 v13 v14 : Option V) (n : Int), σ = [some (.ref a), some (.ref p), v2, v3, v4, v5, v6, v7, v8, v9, v10, v11, v12, v13, v14] ∧ 0 ≤ n ∧ n ≤ 40 * i + 10 ∧ PenAt G p c ms n) ⟨none, none, none, none, none, none, none, none, none, none, none, none, none, n1, rfl, by omega, by omega, pen2⟩ (fun i σ G hi hP => ?_) (fun σ G hP => ?_)⟩
  rotate_left
  · obtain ⟨v2, v3, v4, v5, v6, v7, v8, v9, v10, v11, v12, v13, v14, n, rfl, _⟩ := hP
    exact q G
  obtain ⟨v2, v3, v4, v5, v6, v7, v8, v9, v10, v11, v12, v13, v14, n, rfl, n0, nm, pen⟩ := hP
  have i6 : i ≤ 6 := by omega
  -- how far
  refine ⟨fun σ G => ∃ (v4 v5 v6 v7 v8 v9 v10 v11 v12 v13 v14 : Option V) (fr : Nat) (k : Int), σ = [some (.ref a), some (.ref p), some (.int (0 + (i : Int))), some (.int (fr : Int)), v4, v5, v6, v7, v8, v9, v10, v11, v12, v13, v14] ∧ 1 ≤ fr ∧ fr ≤ 13 ∧ 0 ≤ k ∧ k ≤ n + 1 ∧ PenAt G p c ms k, ?_, fun σ H3 hM => ?_⟩
  · refine ⟨by show 2 ≤ sizeLine; decide, fun t1 ht1 => ?_⟩
    have u1 := same_upd (o := .lst [V.int 13, V.int 8]) ht1
    refine ⟨_, rfl, 0 + (i : Int), 1, rfl, rfl, .inr ⟨_, rfl, ?_⟩⟩
    obtain ⟨z, ez, hz⟩ : ∃ z : Nat, atI [V.int 13, V.int 8] (if decide ((1 : Int) < 0 + (i : Int)) = true then 1 else 0) = some (.int (z : Int)) ∧ (z = 13 ∨ z = 8) := by
      by_cases h : (1 : Int) < 0 + (i : Int)
      · rw [decide_eq_true h]
        exact ⟨8, atI_nat (j := 1) rfl, .inr rfl⟩
      · rw [decide_eq_false h]
        exact ⟨13, atI_nat (j := 0) rfl, .inl rfl⟩
    refine ⟨t1, _, _, _, rfl, rfl, SqL.of upd_same, ez, by show 3 ≤ sizeLine; decide, fun t2 ht2 => ?_⟩
    have u2 := same_upd (o := .lst [V.int 3, V.int 7, V.int (z : Int)]) ht2
    have p2 := pen_same pen (u1.trans u2)
    have nt := (pen_nec (pen_same pen u1) ht2).1
    refine ⟨_, rfl, p, c, ms, n, 3, rfl, p2, n0, by omega, by decide, by decide, fun e k G2 e0 e1 y0 y1 p3 s3 => ?_⟩
    obtain ⟨fr, eA, hA⟩ : ∃ fr : Nat, atI [V.int 3, V.int 7, V.int (z : Int)] e = some (.int (fr : Int)) ∧ (fr = 3 ∨ fr = 7 ∨ fr = z) := by
      have : e = 0 ∨ e = 1 ∨ e = 2 := by omega
      rcases this with rfl | rfl | rfl
      · exact ⟨3, atI_nat (j := 0) rfl, .inl rfl⟩
      · exact ⟨7, atI_nat (j := 1) rfl, .inr (.inl rfl)⟩
      · exact ⟨z, atI_nat (j := 2) rfl, .inr (.inr rfl)⟩
    refine ⟨t2, _, e, _, rfl, rfl, SqL.of (s3 _ _ nt upd_same), eA, ?_⟩
    exact ⟨v4, v5, v6, v7, v8, v9, v10, v11, v12, v13, v14, fr, k, rfl, by omega, by omega, by omega, by omega, p3⟩
  obtain ⟨v4, v5, v6, v7, v8, v9, v10, v11, v12, v13, v14, fr, k1, rfl, f1, f2, k10, k11, pen3⟩ := hM
  -- three powers
  refine ⟨fun σ G => ∃ (v5 v6 v7 v8 v9 v10 v11 v12 v13 v14 : Option V) (D : Addr) (x y z k : Int), σ = [some (.ref a), some (.ref p), some (.int (0 + (i : Int))), some (.int (fr : Int)), some (.ref D), v5, v6, v7, v8, v9, v10, v11, v12, v13, v14] ∧ (0 ≤ x ∧ x ≤ 12) ∧ (0 ≤ y ∧ y ≤ 12) ∧ (0 ≤ z ∧ z ≤ 12) ∧ D ≠ p ∧ D ≠ c ∧ G D = some (.lst ([x, y, z].map V.int)) ∧ 0 ≤ k ∧ k ≤ n + 4 ∧ PenAt G p c ms k, ?_, fun σ H4 hM => ?_⟩
  · refine ⟨3, rfl, by decide, by decide, fun D hD => ?_⟩
    obtain ⟨nDp, nDc⟩ := pen_nec pen3 hD
    refine lc_range (n := 3) (fun j G => ∃ (ys : List Int) (k : Int), ys.length = j ∧ (∀ y ∈ ys, 0 ≤ y ∧ y ≤ 12) ∧ 0 ≤ k ∧ k ≤ n + 1 + j ∧ PenAt G p c ms k ∧ G D = some (.lst (ys.map V.int))) ⟨[], k1, rfl, fun _ z => (by cases z), k10, by omega, pen_same pen3 (same_upd hD), upd_same⟩ (fun j G hj hP => ?_) (fun G hP => ?_)
    · obtain ⟨ys, k, yl, yb, k0, kb, penG, hGD⟩ := hP
      refine ⟨rfl, ?_⟩
      refine ⟨_, rfl, _, rfl, p, c, ms, k, fr, rfl, penG, k0, by omega, by omega, Int.lt_of_le_of_lt (show (fr : Int) ≤ 13 by omega) (by decide +kernel), fun y k2 G2 y0 y1 z0 z1 p2 s2 => ?_⟩
      refine ⟨_, s2 _ _ nDp hGD, by rw [List.length_map, yl, sizeLine_eq]; omega, ys ++ [y], k2, by rw [List.length_append, yl]; rfl, fun w hw => ?_, by omega, by omega, pen_off p2 nDp nDc, by rw [upd_same, List.map_append]; rfl⟩
      rcases List.mem_append.mp hw with h | h
      · exact yb w h
      · rw [List.mem_singleton.mp h]
        omega
    · obtain ⟨ys, k, yl, yb, k0, kb, penG, hGD⟩ := hP
      match ys, yl with
      | [x, y, z], _ => exact ⟨v5, v6, v7, v8, v9, v10, v11, v12, v13, v14, D, x, y, z, k, rfl, yb x (by simp), yb y (by simp), yb z (by simp), nDp, nDc, hGD, k0, by omega, penG⟩
  obtain ⟨v5, v6, v7, v8, v9, v10, v11, v12, v13, v14, D, x, y, z, k2, rfl, hx, hy, hz, nDp, nDc, hD4, k20, k21, pen4⟩ := hM
  -- one of them nought
  refine ⟨fun σ G => ∃ (x y z : Nat) (k : Int), σ = [some (.ref a), some (.ref p), some (.int (0 + (i : Int))), some (.int (fr : Int)), some (.ref D), v5, v6, v7, v8, v9, v10, v11, v12, v13, v14] ∧ x ≤ 12 ∧ y ≤ 12 ∧ z ≤ 12 ∧ G D = some (.lst ([(x : Int), y, z].map V.int)) ∧ 0 ≤ k ∧ k ≤ n + 6 ∧ PenAt G p c ms k, ?_, fun σ H5 hM => ?_⟩
  · refine ⟨_, rfl, p, c, ms, k2, 3, rfl, pen4, k20, by omega, by decide, by decide, fun e k3 G2 e0 e1 y0 y1 p3 s3 => ?_⟩
    have hD5 := s3 _ _ nDp hD4
    have fin : ∀ (x y z k : Int) (G : Hp), (0 ≤ x ∧ x ≤ 12) → (0 ≤ y ∧ y ≤ 12) → (0 ≤ z ∧ z ≤ 12) → G D = some (.lst ([x, y, z].map V.int)) → 0 ≤ k → k ≤ n + 6 → PenAt G p c ms k → ∃ (x y z : Nat) (k' : Int), ([some (.ref a), some (.ref p), some (.int (0 + (i : Int))), some (.int (fr : Int)), some (.ref D), v5, v6, v7, v8, v9, v10, v11, v12, v13, v14] : L2.St) = [some (.ref a), some (.ref p), some (.int (0 + (i : Int))), some (.int (fr : Int)), some (.ref D), v5, v6, v7, v8, v9, v10, v11, v12, v13, v14] ∧ x ≤ 12 ∧ y ≤ 12 ∧ z ≤ 12 ∧ G D = some (.lst ([(x : Int), y, z].map V.int)) ∧ 0 ≤ k' ∧ k' ≤ n + 6 ∧ PenAt G p c ms k' := fun x y z k G hx hy hz hG k0 k1 pn =>
      ⟨x.toNat, y.toNat, z.toNat, k, rfl, by omega, by omega, by omega, by rw [Int.toNat_of_nonneg hx.1, Int.toNat_of_nonneg hy.1, Int.toNat_of_nonneg hz.1]; exact hG, k0, k1, pn⟩
    refine ⟨rfl, _, rfl, ite2 (fun _ => ?_) fun _ => fin x y z k3 _ hx hy hz hD5 (by omega) (by omega) p3⟩
    refine ⟨_, rfl, _, rfl, p, c, ms, k3, 3, rfl, p3, by omega, by omega, by decide, by decide, fun e' k4 G3 e0' e1' y0' y1' p4 s4 => ?_⟩
    have hD6 := s4 _ _ nDp hD5
    obtain ⟨j, hj, rfl⟩ : ∃ j : Nat, j < 3 ∧ e' = j := ⟨e'.toNat, by omega, by omega⟩
    refine ⟨D, _, _, j, rfl, rfl, hD6, ixN_nat hj, ?_⟩
    have pn := pen_off (o := .lst (([x, y, z].map V.int).set j (V.int 0))) p4 nDp nDc
    match j, hj, pn with
    | 0, _, pn => exact fin 0 y z k4 _ (by omega) hy hz upd_same (by omega) (by omega) pn
    | 1, _, pn => exact fin x 0 z k4 _ hx (by omega) hz upd_same (by omega) (by omega) pn
    | 2, _, pn => exact fin x y 0 k4 _ hx hy (by omega) upd_same (by omega) (by omega) pn
  clear hD4 hx hy hz
  obtain ⟨x, y, z, k3, rfl, hx, hy, hz, hD5, k30, k31, pen5⟩ := hM
  -- parted
  refine ⟨fun σ G => σ = [some (.ref a), some (.ref p), some (.int (0 + (i : Int))), some (.int (fr : Int)), some (.ref D), v5, some (.int (x : Int)), some (.int (y : Int)), some (.int (z : Int)), v9, v10, v11, v12, v13, v14] ∧ H5 = G, ?_, fun σ G hM => ?_⟩
  · refine ⟨_, rfl, D, _, rfl, SqL.of hD5, rfl, _, _, rfl, _, _, rfl, _, _, rfl, rfl, rfl, rfl⟩
  obtain ⟨rfl, rfl⟩ := hM
  -- both dicts
  refine ⟨fun σ G => ∃ (U Fd : Addr) (ks : List (List Int)), σ = [some (.ref a), some (.ref p), some (.int (0 + (i : Int))), some (.int (fr : Int)), some (.ref D), v5, some (.int (x : Int)), some (.int (y : Int)), some (.int (z : Int)), some (.ref U), some (.ref Fd), v11, v12, v13, v14] ∧ DctP ks (sumAt (pAll x y z)) ∧ G U = some (.dT (entT kInt ks fun k => .int (sumAt (pAll x y z) k))) ∧ G Fd = some (powO x y z) ∧ U ≠ Fd ∧ Same H5 G, ?_, fun σ H6 hM => ?_⟩
  · refine ⟨_, rfl, _, rfl, _, rfl, x, y, z, rfl, hx, hy, hz, fun U ks G2 s2 hU dp hGU => ?_⟩
    refine ⟨_, rfl, _, rfl, _, rfl, x, y, z, rfl, hx, hy, hz, fun Fd G3 s3 hF hGF => ?_⟩
    exact ⟨_, _, rfl, U, Fd, ks, rfl, dp, s3 _ _ hGU, hGF, ne_of_none hGU hF, s2.trans s3⟩
  obtain ⟨U, Fd, ks, rfl, dp, hU6, hF6, nUF, s6⟩ := hM
  have pen6 := pen_same pen5 s6
  have hD6 := s6 _ _ hD5
  have alike : ∀ q ∈ (entT kInt (powK x y z) fun k => V.int (sumAt (pAll x y z) k)), valV (entT kInt ks fun k => V.int (sumAt (pAll x y z) k)) q.1 = some q.2 ∧ flatB q.2 = true := fun q hq => by
    obtain ⟨k, hk, rfl⟩ := List.mem_map.mp hq
    have m : k ∈ ks := (dp.mem k).mpr (((pow_dct x y z).mem k).mp hk)
    exact ⟨by rw [val_entT kInt_inj, if_pos m], rfl⟩
  have long : (entT kInt (powK x y z) fun k => V.int (sumAt (pAll x y z) k)).length = (entT kInt ks fun k => V.int (sumAt (pAll x y z) k)).length := by
    rw [entT_len, entT_len]
    exact dct_same (pow_dct x y z) dp
  -- the same dict, no truths
  refine ⟨fun σ G => (∃ v11 : Option V, σ = [some (.ref a), some (.ref p), some (.int (0 + (i : Int))), some (.int (fr : Int)), some (.ref D), v5, some (.int (x : Int)), some (.int (y : Int)), some (.int (z : Int)), some (.ref U), some (.ref Fd), v11, v12, v13, v14]) ∧ Same H6 G, ?_, fun σ H7 hM => ?_⟩
  · refine ⟨_, rfl, _, rfl, Fd, U, _, _, rfl, rfl, hF6, hU6, long, alike, ?_⟩
    refine ⟨false, rfl, iteF ?_⟩
    refine ⟨Fd, .dT (entT kInt (powK x y z) fun k => .int (sumAt (pAll x y z) k)), hF6, trivial, fun od => ?_⟩
    refine ⟨_, rfl, Fd, od, _, rfl, upd_same, fun D2 hD2 => ?_⟩
    have hFF := upd_same (H := H6) (a := Fd) (o := .frz od (.dT (entT kInt (powK x y z) fun k => .int (sumAt (pAll x y z) k))))
    have nD2 : Fd ≠ D2 := ne_of_none hFF hD2
    refine lc_it walk_valuesT (fun j G => Same (upd H6 Fd (.frz od (.dT (entT kInt (powK x y z) fun k => .int (sumAt (pAll x y z) k))))) G ∧ G D2 = some (.lst [])) ⟨same_upd hD2, upd_same⟩ (fun j G _ hP => hP.1 _ _ hFF) (fun j w G G' hj hP hy => ?_) (fun G hP => ?_)
    · obtain ⟨rfl, k, hk⟩ := hy
      obtain ⟨r, _, _, rfl⟩ := entT_get hk
      refine ⟨rfl, ?_⟩
      refine ⟨_, rfl, _, _, _, _, false, rfl, .ty "bool", .base (.int _), kit_ty (by decide +kernel), ?_⟩
      exact ⟨false, rfl, iteF hP⟩
    · obtain ⟨sG, hG2⟩ := hP
      refine ⟨sG _ _ hFF, ?_⟩
      have sB : Same H6 (upd G Fd (.dT (entT kInt (powK x y z) fun k => .int (sumAt (pAll x y z) k)))) := fun b o e => by
        by_cases eb : b = Fd
        · rw [eb, upd_same]
          rw [eb, hF6] at e
          exact e
        · rw [upd_ne eb]
          exact sG _ _ (by rw [upd_ne eb]; exact e)
      have hG3 : (upd G Fd (.dT (entT kInt (powK x y z) fun k => .int (sumAt (pAll x y z) k)))) D2 = some (.lst []) := by
        rw [upd_ne (fun e => nD2 e.symm)]
        exact hG2
      refine ⟨by show 0 ≤ sizeLine; decide, fun t ht => ?_⟩
      have u1 := same_upd (o := .lst []) ht
      refine ⟨.list [], .list [], .lst (SqL.of (u1 _ _ hG3)) .nil, .lst (SqL.of upd_same) .nil, rfl, rfl, ?_⟩
      exact ⟨false, rfl, iteF ⟨⟨_, rfl⟩, sB.trans u1⟩⟩
  obtain ⟨⟨v11, rfl⟩, s7⟩ := hM
  have pen7 := pen_same pen6 s7
  have hD7 := s7 _ _ hD6
  have hU7 := s7 _ _ hU6
  have hF7 := s7 _ _ hF6
  -- the sum
  refine ⟨fun σ G => σ = [some (.ref a), some (.ref p), some (.int (0 + (i : Int))), some (.int (fr : Int)), some (.ref D), v5, some (.int (x : Int)), some (.int (y : Int)), some (.int (z : Int)), some (.ref U), some (.ref Fd), v11, v12, v13, v14] ∧ Same H7 G, ?_, fun σ H8 hM => ?_⟩
  · refine ⟨_, rfl, Fd, _, rfl, hF7, fun v hv => ?_⟩
    have u1 := same_upd (o := viewT v Fd) hv
    refine ⟨v, Fd, _, (powK x y z).map fun k => sumAt (pAll x y z) k, rfl, upd_same, u1 _ _ hF7, by unfold entT; rw [List.map_map, List.map_map]; rfl, ?_⟩
    refine ⟨_, rfl, by show 3 ≤ sizeLine; decide, fun t ht => ?_⟩
    have u2 := same_upd (o := .lst [V.int 0, V.int 0, V.int 0]) ht
    refine ⟨.list (dInts [(x : Int), y, z]), .list (dInts [0, 0, 0]), dp_ints (u2 _ _ (u1 _ _ hD7)), dp_ints (ns := [0, 0, 0]) upd_same, ints_shaped _, ints_shaped _, .inr ⟨_, rfl, ?_⟩⟩
    have e1 : PyData.eqv (.list (dInts [(x : Int), y, z])) (.list (dInts [0, 0, 0])) = decide (x = 0 ∧ y = 0 ∧ z = 0) := by
      show PyData.eqvAll (dInts [(x : Int), y, z]) (dInts [0, 0, 0]) = _
      rw [ints_eqv]
      refine decide_eq_decide.mpr ?_
      simp
    have e2 : ((powK x y z).map fun k => sumAt (pAll x y z) k).sum = if decide (x = 0 ∧ y = 0 ∧ z = 0) = true then 1 else 0 := by
      have z := tot_pow x y z
      unfold powK
      rw [z]
      simp only [decide_eq_true_iff]
    rw [e1, e2]
    exact ⟨rfl, _, rfl, iteNS rfl ⟨rfl, u1.trans u2⟩⟩
  obtain ⟨rfl, s8⟩ := hM
  have pen8 := pen_same pen7 s8
  have hD8 := s8 _ _ hD7
  have hU8 := s8 _ _ hU7
  have hF8 := s8 _ _ hF7
  obtain ⟨nFp, nFc⟩ := pen_dT pen8 hF8
  have nDF : D ≠ Fd := fun e => by
    rw [e, hF8] at hD8
    cases hD8
  -- clear
  refine ⟨fun σ G => σ = [some (.ref a), some (.ref p), some (.int (0 + (i : Int))), some (.int (fr : Int)), some (.ref D), v5, some (.int (x : Int)), some (.int (y : Int)), some (.int (z : Int)), some (.ref U), some (.ref Fd), v11, v12, v13, v14] ∧ G = upd H8 Fd (.dT []), ?_, fun σ G hM => ?_⟩
  · exact ⟨_, rfl, .inr (.inr (.inl ⟨rfl, .inr ⟨_, hF8⟩⟩)), Fd, _, rfl, rfl, hF8, rfl, rfl⟩
  obtain ⟨rfl, rfl⟩ := hM
  have pen9 := pen_off (o := .dT []) pen8 nFp nFc
  have hD9 : (upd H8 Fd (.dT [])) D = some (.lst ([(x : Int), y, z].map V.int)) := by rw [upd_ne nDF]; exact hD8
  have hU9 : (upd H8 Fd (.dT [])) U = some (.dT (entT kInt ks fun k => .int (sumAt (pAll x y z) k))) := by rw [upd_ne nUF]; exact hU8
  generalize upd H8 Fd (.dT []) = H9 at pen9 hD9 hU9 ⊢
  -- told anew
  refine ⟨fun σ G => σ = [some (.ref a), some (.ref p), some (.int (0 + (i : Int))), some (.int (fr : Int)), some (.ref D), v5, some (.int (x : Int)), some (.int (y : Int)), some (.int (z : Int)), some (.ref U), some (.ref Fd), v11, v12, v13, v14] ∧ Same H9 G, ?_, fun σ H10 hM => ?_⟩
  · refine ⟨_, rfl, _, rfl, _, rfl, x, y, z, rfl, hx, hy, hz, fun F2 G3 s3 hF hGF => ?_⟩
    refine ⟨_, rfl, F2, U, _, _, rfl, rfl, hGF, s3 _ _ hU9, long, alike, ?_⟩
    exact ⟨false, rfl, iteF ⟨rfl, s3⟩⟩
  obtain ⟨rfl, s10⟩ := hM
  have pen10 := pen_same pen9 s10
  have hD10 := s10 _ _ hD9
  -- what is no power
  refine ⟨fun σ G => ∃ (od : V) (k : Int), σ = [some (.ref a), some (.ref p), some (.int (0 + (i : Int))), some (.int (fr : Int)), some (.ref D), v5, some (.int (x : Int)), some (.int (y : Int)), some (.int (z : Int)), some (.ref U), some (.ref Fd), v11, some od, v13, v14] ∧ PwV K G od false ∧ G D = some (.lst ([(x : Int), y, z].map V.int)) ∧ 0 ≤ k ∧ k ≤ n + 7 ∧ PenAt G p c ms k, ?_, fun σ H11 hM => ?_⟩
  · refine ⟨1, rfl, by show 1 ≤ sizeLine; decide, fun t1 ht1 => ?_⟩
    have u1 := same_upd (o := .tup [V.int 1]) ht1
    refine ⟨10, 20, rfl, rfl, ⟨by decide, by decide, by decide⟩, by show 7 ≤ sizeLine; decide, fun t2 ht2 => ?_⟩
    have u2 := same_upd (o := .lst [V.int 13, V.int (-1), V.bl true, V.non, V.str "2", V.ref t1, V.int ((10 : Int) ^ (20 : Int).toNat)]) ht2
    have pn := pen_same pen10 (u1.trans u2)
    have n1 := (pen_nec pen10 ht1).1
    have n2 := (pen_nec (pen_same pen10 u1) ht2).1
    refine ⟨_, rfl, p, c, ms, k3, 7, rfl, pn, k30, by omega, by decide, by decide, fun e k G2 e0 e1 y0 y1 p3 s3 => ?_⟩
    have w1 := s3 t1 _ n1 (u2 _ _ upd_same)
    have w2 := s3 t2 _ n2 upd_same
    have wD := s3 D _ nDp (u2 _ _ (u1 _ _ hD10))
    obtain ⟨od, eA, hA⟩ : ∃ od : V, atI [V.int 13, V.int (-1), V.bl true, V.non, V.str "2", V.ref t1, V.int ((10 : Int) ^ (20 : Int).toNat)] e = some od ∧ PwV K G2 od false := by
      have : e = 0 ∨ e = 1 ∨ e = 2 ∨ e = 3 ∨ e = 4 ∨ e = 5 ∨ e = 6 := by omega
      rcases this with rfl | rfl | rfl | rfl | rfl | rfl | rfl
      · exact ⟨_, atI_nat (j := 0) rfl, .inl ⟨13, rfl, by decide⟩⟩
      · exact ⟨_, atI_nat (j := 1) rfl, .inl ⟨-1, rfl, by decide⟩⟩
      · exact ⟨_, atI_nat (j := 2) rfl, .inr ⟨rfl, no_bl _⟩⟩
      · exact ⟨_, atI_nat (j := 3) rfl, .inr ⟨rfl, no_non⟩⟩
      · exact ⟨_, atI_nat (j := 4) rfl, .inr ⟨rfl, no_str _⟩⟩
      · exact ⟨_, atI_nat (j := 5) rfl, .inr ⟨rfl, no_tup w1⟩⟩
      · exact ⟨_, atI_nat (j := 6) rfl, .inl ⟨_, rfl, by decide⟩⟩
    refine ⟨t2, _, e, _, rfl, rfl, SqL.of w2, eA, ?_⟩
    exact ⟨od, k, rfl, hA, wD, by omega, by omega, p3⟩
  obtain ⟨od, k4, rfl, hod, hD11, k40, k41, pen11⟩ := hM
  -- in each place
  refine ⟨3, rfl, by decide, by decide, for_range (n := 3) (fun j σ G => ∃ (v13 v14 : Option V), σ = [some (.ref a), some (.ref p), some (.int (0 + (i : Int))), some (.int (fr : Int)), some (.ref D), v5, some (.int (x : Int)), some (.int (y : Int)), some (.int (z : Int)), some (.ref U), some (.ref Fd), v11, some od, v13, v14] ∧ Same H11 G) ⟨v13, v14, rfl, fun _ _ e => e⟩ (fun j σ G hj hP => ?_) (fun σ G hP => ?_)⟩
  rotate_left
  · obtain ⟨v13, v14, rfl, sG⟩ := hP
    exact ⟨_, _, _, _, _, _, _, _, _, _, _, _, _, k4, rfl, k40, by omega, pen_same pen11 sG⟩
  obtain ⟨v13, v14, rfl, sG⟩ := hP
  refine ⟨fun σ G2 => ∃ B : Addr, σ = [some (.ref a), some (.ref p), some (.int (0 + (i : Int))), some (.int (fr : Int)), some (.ref D), v5, some (.int (x : Int)), some (.int (y : Int)), some (.int (z : Int)), some (.ref U), some (.ref Fd), v11, some od, some (.int (0 + (j : Int))), some (.ref B)] ∧ Same H11 G2 ∧ H11 B = none ∧ G2 B = some (.lst ([(x : Int), y, z].map V.int)), ?_, fun σ G2 hM => ?_⟩
  · refine ⟨_, rfl, D, _, rfl, .inl (SqL.of (sG _ _ hD11)), fun B hB => ?_⟩
    exact ⟨B, rfl, sG.trans (same_upd hB), sG.free hB, upd_same⟩
  obtain ⟨B, rfl, sG2, hB, hGB⟩ := hM
  refine ⟨_, rfl, _, rfl, _, rfl, B, _, _, j, rfl, rfl, hGB, by rw [show (0 : Int) + (j : Int) = ((j : Nat) : Int) by omega]; exact ixN_nat hj, ?_⟩
  have s12 := sm_but (o := .lst (([(x : Int), y, z].map V.int).set j od)) sG2 hB
  have hB12 := upd_same (H := G2) (a := B) (o := .lst (([(x : Int), y, z].map V.int).set j od))
  generalize upd G2 B (.lst (([(x : Int), y, z].map V.int).set j od)) = G3 at s12 hB12 ⊢
  have ho := hod.same s12
  have nat : ∀ m : Nat, m ≤ 12 → PwV K G3 (.int (m : Int)) true := fun m hm => .inl ⟨m, rfl, by rw [decide_eq_true (show (0 : Int) ≤ m by omega), decide_eq_true (show (m : Int) ≤ 12 by omega)]; rfl⟩
  obtain ⟨w1, w2, w3, bs, ew, hw, hb⟩ : ∃ (w1 w2 w3 : V) (bs : List Bool), ([(x : Int), y, z].map V.int).set j od = [w1, w2, w3] ∧ Paired (PwV K G3) [w1, w2, w3] bs ∧ bs.all id = false := by
    match j, hj with
    | 0, _ => exact ⟨od, _, _, [false, true, true], rfl, .cons ho (.cons (nat y hy) (.cons (nat z hz) .nil)), rfl⟩
    | 1, _ => exact ⟨_, od, _, [true, false, true], rfl, .cons (nat x hx) (.cons ho (.cons (nat z hz) .nil)), rfl⟩
    | 2, _ => exact ⟨_, _, od, [true, true, false], rfl, .cons (nat x hx) (.cons (nat y hy) (.cons ho .nil)), rfl⟩
  rw [ew] at hB12
  refine ⟨_, rfl, B, _, 0, _, rfl, rfl, SqL.of hB12, atI_nat (j := 0) rfl, _, rfl, B, _, 1, _, rfl, rfl, SqL.of hB12, atI_nat (j := 1) rfl, _, rfl, B, _, 2, _, rfl, rfl, SqL.of hB12, atI_nat (j := 2) rfl, ?_⟩
  refine ⟨w1, w2, w3, bs, rfl, hw, hb, fun G4 s4 => ?_⟩
  exact ⟨rfl, _, rfl, iteNS rfl ⟨_, _, rfl, s12.trans s4⟩⟩
end
end TC
namespace TC
open PySem PySem.Spec PyProof.Rows L2 TCA TCX 
theorem facts {P : Program} {w : World} {K : PySem.W.Frag} {h : Heap} {mg : Str → Option Value} {f : Addr} (X : K.In h) (G : h.Ns mainGlobals mg) (hfa : mg ("law" : Str) = some (.ref f)) (sx : He.SaysX fa fn [] tf exB w h K) :
    ∃ fd : FuncData, (∀ (s : Shared) (v : Value), BindsTo s fd ⟨[v], []⟩ [("_law_script", v)]) ∧ ∀ base : Heap, K.In base → base.Ns mainGlobals mg → FnOk P w K mg base CX0 4 f fd ["_law_script"] (spLaw K) := by
  have c := sx.t.d
  obtain ⟨fd0, F0⟩ := c.def_ 0 (d := dd "is_whole" sWhole) rfl
  obtain ⟨fd1, F1⟩ := c.def_ 1 (d := dd "is_odd" sOdd) rfl
  obtain ⟨fd2, F2⟩ := c.def_ 2 (d := dd "binomials" sBinom) rfl
  obtain ⟨fd3, F3⟩ := c.def_ 3 (d := dd "powers" sPowers) rfl
  obtain ⟨fd4, F4⟩ := c.def_ 4 (d := dd "signed_binomials" sSignedBinomials) rfl
  obtain ⟨fd5, F5⟩ := c.def_ 5 (d := dd "_law_pen" sPen) rfl
  obtain ⟨fd6, F6⟩ := c.def_ 6 (d := dd "_law_draw" sDraw) rfl
  obtain ⟨fd7, F7⟩ := c.def_ 7 (d := dd "_law_word" sWord) rfl
  obtain ⟨fd8, F8⟩ := c.def_ 8 (d := dd "_law_times_difference" sDiff) rfl
  obtain ⟨fd9, F9⟩ := c.def_ 9 (d := dd "_law_due" sDue) rfl
  obtain ⟨fd10, F10⟩ := c.def_ 10 (d := dd "_law_told" sTold) rfl
  obtain ⟨fd11, F11⟩ := c.def_ 11 (d := dd "law" sLaw) rfl
  have glo : ∀ (i : Nat) (x : Str), TC.fa[i]? = some (.glo x) → mg x = some (.ref (He.ga K x)) := fun i x e => He.glo_ok X G (c.fact i (f := .glo x) e)
  have free : ∀ (i : Nat) (x : Str), TC.fa[i]? = some (.free x) → mg x = none := fun i x e => He.free_ok X G (c.fact i (f := .free x) e)
  obtain ⟨ti_HIGHEST_POWER, gi_HIGHEST_POWER⟩ := He.int_ok X G (c.fact 35 (f := .int "HIGHEST_POWER" 12) rfl)
  obtain ⟨m1, mm⟩ := He.ba sx.more
  obtain ⟨m2, _⟩ := He.ba mm
  have kdP := excAllF_ok m1
  obtain ⟨iE, iK, iB, iT⟩ := excI_ok m2
  have XP : ITxt K mg "NoPlace" (He.ga K "NoPlace") := ⟨(glo 20 "NoPlace" rfl), iE, iK, iB, iT⟩
  have ST : STxt K mg := ⟨(glo 0 "TurnError" rfl), (glo 21 "ByNought" rfl), (glo 19 "NoName" rfl), (glo 20 "NoPlace" rfl), (glo 22 "NothingDone" rfl)⟩
  have WT : WTxt K mg := ⟨fun i x e => ?_, (glo 0 "TurnError" rfl), (free 45 "ValueError" rfl), (free 46 "ZeroDivisionError" rfl), (free 47 "KeyError" rfl), (free 48 "IndexError" rfl), (free 49 "LookupError" rfl), (free 36 "isinstance" rfl)⟩
  rotate_left
  · match i, e with
    | 0, e => cases e; exact glo 16 "Empty" rfl
    | 1, e => cases e; exact glo 14 "NoDeed" rfl
    | 2, e => cases e; exact glo 12 "NoHalf" rfl
    | 3, e => cases e; exact glo 13 "NoLinking" rfl
    | 4, e => cases e; exact glo 7 "NoNet" rfl
    | 5, e => cases e; exact glo 1 "NoNumber" rfl
    | 6, e => cases e; exact glo 3 "NoOffset" rfl
    | 7, e => cases e; exact glo 15 "NoQuestion" rfl
    | 8, e => cases e; exact glo 8 "NoRow" rfl
    | 9, e => cases e; exact glo 2 "NoSize" rfl
    | 10, e => cases e; exact glo 9 "NoStanding" rfl
    | 11, e => cases e; exact glo 5 "NoTable" rfl
    | 12, e => cases e; exact glo 18 "NoText" rfl
    | 13, e => cases e; exact glo 17 "NotParted" rfl
    | 14, e => cases e; exact glo 10 "NoTree" rfl
    | 15, e => cases e; exact glo 4 "NoTriple" rfl
    | 16, e => cases e; exact glo 11 "NoWay" rfl
    | 17, e => cases e; exact glo 6 "TooWide" rfl
    | 18, e => cases e; exact glo 21 "ByNought" rfl
    | 19, e => cases e; exact glo 19 "NoName" rfl
    | 20, e => cases e; exact glo 20 "NoPlace" rfl
    | 21, e => cases e; exact glo 22 "NothingDone" rfl
    | n + 22, e =>
      have z : ([] : List Str)[n]? = some x := e
      cases z
  have e := hfa.symm.trans (glo 34 "law" rfl)
  cases e
  have b0 := FunD.bindsN (ps := ["thing"]) F0 fun _ _ _ _ _ _ us hl => match us, hl with | [_], _ => rfl
  have b1 := FunD.bindsN (ps := ["number"]) F1 fun _ _ _ _ _ _ us hl => match us, hl with | [_], _ => rfl
  have b2 := FunD.bindsN (ps := ["high"]) F2 fun _ _ _ _ _ _ us hl => match us, hl with | [_], _ => rfl
  have b3 := FunD.bindsN (ps := ["p", "q", "r"]) F3 fun _ _ _ _ _ _ us hl => match us, hl with | [_, _, _], _ => rfl
  have b4 := FunD.bindsN (ps := ["power"]) F4 fun _ _ _ _ _ _ us hl => match us, hl with | [_], _ => rfl
  have b5 := FunD.bindsN (ps := ["_law_script"]) F5 fun _ _ _ _ _ _ us hl => match us, hl with | [_], _ => rfl
  have b6 := FunD.bindsN (ps := ["_law_pen_here", "_law_many"]) F6 fun _ _ _ _ _ _ us hl => match us, hl with | [_, _], _ => rfl
  have b7 := FunD.bindsN (ps := ["_law_e"]) F7 fun _ _ _ _ _ _ us hl => match us, hl with | [_], _ => rfl
  have b8 := FunD.bindsN (ps := ["_law_some", "_law_up", "_law_down"]) F8 fun _ _ _ _ _ _ us hl => match us, hl with | [_, _, _], _ => rfl
  have b9 := FunD.bindsN (ps := ["_law_p", "_law_q", "_law_r"]) F9 fun _ _ _ _ _ _ us hl => match us, hl with | [_, _, _], _ => rfl
  have b10 := FunD.bindsN (ps := ["_law_p", "_law_q", "_law_r"]) F10 fun _ _ _ _ _ _ us hl => match us, hl with | [_, _, _], _ => rfl
  have b := FunD.bindsA (ps := ["_law_script"]) F11 fun _ _ _ _ _ _ us hl => match us, hl with | [_], _ => rfl
  refine ⟨fd11, fun s v => b s [v] rfl, fun base _ _ => ?_⟩
  have G_law_pen := ok_pen (P := P) (w := w) (mg := mg) (base := base) F5 (free 41 "list" rfl)
  have G_law_draw := ok_draw (P := P) (w := w) (mg := mg) (base := base) F6 (free 39 "len" rfl)
  have G_law_times_difference := ok_diff (P := P) (w := w) (mg := mg) (base := base) F8 (free 42 "tuple" rfl) (free 40 "range" rfl) (free 37 "int" rfl)
  have G_law_due := ok_due (P := P) (w := w) (mg := mg) (base := base) F9 G_law_times_difference b8 F8.kp (glo 31 "_law_times_difference" rfl) (free 40 "range" rfl)
  have G_binomials := ok_binom (P := P) (w := w) (mg := mg) (base := base) F2 (free 40 "range" rfl)
  have G_is_odd := ok_odd (P := P) (w := w) (mg := mg) (base := base) F1
  have G_signed_binomials := ok_signed (P := P) (w := w) (mg := mg) (base := base) F4 G_binomials b2 F2.kp (glo 25 "binomials" rfl) G_is_odd b1 F1.kp (glo 24 "is_odd" rfl) (free 44 "enumerate" rfl)
  have G_is_whole := ok_whole (P := P) (w := w) (mg := mg) (base := base) F0 (free 36 "isinstance" rfl) (free 37 "int" rfl) (free 38 "bool" rfl)
  have G_powers_spPow := ok_pow (P := P) (w := w) (mg := mg) (base := base) F3 G_signed_binomials b4 F4.kp (glo 27 "signed_binomials" rfl) G_is_whole b0 F0.kp (glo 23 "is_whole" rfl) gi_HIGHEST_POWER (free 44 "enumerate" rfl)
  have G_powers_spPowX := ok_powX (P := P) (w := w) (mg := mg) (base := base) F3 G_is_whole b0 F0.kp (glo 23 "is_whole" rfl) gi_HIGHEST_POWER XP
  have G_law_word := ok_word (P := P) (w := w) (mg := mg) (base := base) F7 WT
  have G_law_told := ok_told (P := P) (w := w) (mg := mg) (base := base) F10 ST G_powers_spPowX b3 F3.kp (glo 26 "powers" rfl) G_law_word b7 F7.kp (glo 30 "_law_word" rfl) kdP
  exact ok_law F11 ⟨G_law_pen, b5, F5.kp, (glo 28 "_law_pen" rfl), G_law_draw, b6, F6.kp, (glo 29 "_law_draw" rfl), G_law_due, b9, F9.kp, (glo 32 "_law_due" rfl), G_powers_spPow, b3, F3.kp, (glo 26 "powers" rfl), G_law_told, b10, F10.kp, (glo 33 "_law_told" rfl), (free 40 "range" rfl), (free 37 "int" rfl), (free 36 "isinstance" rfl), (free 38 "bool" rfl), (free 41 "list" rfl), (free 43 "sum" rfl)⟩
end TC
open PySem PySem.W PySem.Calls PyProof.Rows
set_option maxHeartbeats 0 in
theorem PySem.Challenge.cw_turncouple_k28_powers_multiplied_out_holds : PySem.Challenge.rw_turncouple_k28_powers_multiplied_out.Holds := by
  w_on; o_law
  refine HandSHeadRun.head_any (r := OpenLaw.row PySem.Challenge.rw_turncouple_k28_powers_multiplied_out) (q := view (OpenLaw.row PySem.Challenge.rw_turncouple_k28_powers_multiplied_out).prog [39]) (H := TC.hk) (ob := TC.ob) (M := 30000) (loose := TC.loose) (d := HandSHeadRun.topDef (OpenLaw.row PySem.Challenge.rw_turncouple_k28_powers_multiplied_out).prog 39) (kwd := []) TC.ob_eq
    (by kernel_rfl) (fun s => by kernel_rfl) TC.run (by kernel_rfl) (by kernel_rfl) (by kernel_rfl) (by rfl) (by first | assumption | decide +kernel) (by decide +kernel) ⟨rfl, rfl, rfl, rfl, rfl, by decide +kernel⟩ ?hw ?hc
  case hw => w_witness2
  case hc =>
    refine L2.walk_ofE (l := PySem.Challenge.rw_turncouple_k28_powers_multiplied_out) (n := 63) (k := 4) (x := "_law_script") (CX := L2.CX0) rfl (by decide) (by kernel_rfl) ⟨rfl, by decide, by decide⟩ ?F (fun _ _ _ _ z => z)
    intro w mg fa h Y G hmg0
    obtain ⟨K, KX, sx⟩ := Y
    have hmg : mg ("law" : PySem.Str) = some (.ref fa) := by
      have e : (HandSHeadRun.topDef (OpenLaw.row PySem.Challenge.rw_turncouple_k28_powers_multiplied_out).prog 39).name = ("law" : PySem.Str) := by kernel_rfl
      rw [← e]
      exact hmg0
    obtain ⟨fd, hb, hF⟩ := TC.facts (P := (PySem.Challenge.rw_turncouple_k28_powers_multiplied_out).prog) (w := w) KX G hmg sx
    exact ⟨K, fd, TC.spLaw K, KX, hb, fun H a ns hl _ hS => ⟨a, ns, rfl, hS, hl, fun _ => rfl⟩, hF⟩
